/- Joined texts: Ost Frame Tok TokJoin TokAt Ops Gram Rune Utf Sign NumB Span Sgn Read Row Words Word Maps Key Meth Beg Ex Eqv SameR ShF Txt ShR ShW Fit Wt ShX Tot Det Q Tx Rr ExP: lemmas for the law; each says its own conditions. -/
import Derived.Test.YtbmmjomcjlpnlaaRows
import Derived.WalkKit
import Derived.ProofKit
import Derived.OpenShut
import Derived.Deep.Strs
import Derived.SizedLaws
import Derived.Test.YtbmmjomcjlpnlaaProg
import Derived.WalkSmall
import Derived.Maps.AppendAt
import Derived.Maps.Range
import Derived.Lib.Hide
import Derived.Laws.Strings
import Derived.WalkLawsBesides
import Derived.WalkSpells
import Derived.Laws.RangeAny
import Derived.Sort.Grow
import Derived.Lib.ItoaNum
import Derived.Lib.ItoaMem
import Derived.Lib.ParseIntBTie
import Derived.LoopTactic
import Derived.Lib.IndexAny
import Derived.Lib.OthersKept
import Derived.OwnWalk
import Derived.Deep.AppendLies
import Derived.Test.YtbmmjomcjlpnlaaShelf
import Derived.Deep.DeepMust
import Derived.Deep.QuietTactic
import Derived.BigQuiet
import Derived.RegionTactic
import Derived.BigRegion
import Derived.ChangeAlike
import Derived.Maps.OwnSet
import Derived.StringKeys
import Derived.Laws.StructEq
import Derived.MapKept
import Derived.Deep.RegionWith
import Derived.Deep.Cut
import Derived.Lib.FrozenHead
import Derived.Lib.FrozenHead2
import Derived.Lib.Builder
import Derived.Laws.Externs
import Derived.StillTailTactics
set_option linter.unusedSimpArgs false
set_option linter.unusedVariables false
set_option maxRecDepth 100000
set_option maxHeartbeats 8000000
open Go.Lib (hid)
namespace Go.Proofs.Ytbmmjomcjlpnlaa
open Go Go.ChangeShapes Go.WideShapes Go.ChangeAt Go.RowKit Go.Deep
theorem weights_all {H : Type} {P : Program} {e : TypeId} : ∀ {l : List (DataW H)} {d : DataW H},d ∈ l → ∀ n ∈ d.weights P e,n ∈ DataW.weightsAll P e l
 | x :: r,d,hd,n,hn => by
  simp only [DataW.weightsAll,List.mem_append]
  rcases List.mem_cons.1 hd with rfl | h
  · exact .inl hn
  · exact .inr (weights_all h n hn)
theorem weights_slice {H : Type} {P : Program} {t e : TypeId} (hu : P.underlying t = some (.slice e)) {l s : List (DataW H)} {d : DataW H} (hd : d ∈ l) {n : Nat} (hn : n ∈ d.weights P e) : n ∈ (DataW.slice l s).weights P t:=by
 simp only [DataW.weights,hu,List.mem_cons,List.mem_append]
 exact .inr (.inl (weights_all hd n hn))
theorem reach_lt {n : Nat} (h : n ≤ reachBytes) : n ≤ 140737488355328:=Nat.le_trans h (by decide)
theorem len_list (s : ByteArray) : s.data.toList.length = s.size:=by (rw [Array.length_toList];rfl)
def StepsAt (w : World) (p : Option Addr) (n : Nat) : Prop:=∀ i,i < n → ∃ b o k nm tr sc,p = some ⟨b,o,none⟩ ∧ b < w.heap.size ∧ nm.size ≤ 140737488355328 ∧ w.cell? ⟨b,o + i * 4,none⟩ = some (.int .i64 k) ∧ w.cell? ⟨b,o + i * 4 + 1,none⟩ = some (.string nm) ∧ w.cell? ⟨b,o + i * 4 + 2,none⟩ = some (.bool tr) ∧ w.cell? ⟨b,o + i * 4 + 3,none⟩ = some (.bool sc)
def StrsAt (w : World) (p : Option Addr) (n : Nat) : Prop:=∀ i,i < n → ∃ b o nm,p = some ⟨b,o,none⟩ ∧ b < w.heap.size ∧ nm.size ≤ 140737488355328 ∧ w.cell? ⟨b,o + i,none⟩ = some (.string nm)
theorem cell_in {w : World} {a : Addr} {v : Value} (h : w.cell? a = some v) : a.block < w.heap.size:=by
 unfold World.cell? at h
 split at h
 · rename_i e
   exact (Array.getElem?_eq_some_iff.1 e).1
 · cases h
theorem four {α : Type} {l : List α} (h : l.length = 4) : ∃ a b c d,l = [a,b,c,d]:=by
 match l,h with
 | [a,b,c,d],_ => exact ⟨a,b,c,d,rfl⟩
theorem strs_at {H : Type} {enc : TypeId × Value → H} {W : World} {a0 : Option Addr} {n c : Nat} {d : DataW H} {ps : List MemPlace} (h : DataW.Trod enc Try.prog W 0 (fun _ => true) true 50 (.slice a0 n c) d ps)
 (hw : ∀ m ∈ d.weights Try.prog 50,m ≤ reachBytes) : StrsAt W a0 n:=by
 obtain ⟨fuel,hf⟩:=h
 intro i hi
 rcases open_strs Try.underlying50 Try.underlying9 (by kernel_rfl) hf with ⟨hcs,_⟩ | ⟨a,len,cap,m,Sx,hcs,_,hl,_,hm,hx,hcell⟩
 · simp [Value.cells] at hcs
   omega
 · simp [Value.cells] at hcs
   obtain ⟨rfl,rfl,rfl⟩:=hcs
   simp only [if_true] at hm
   obtain ⟨b,off,spot⟩:=a
   have hc:=(hcell i (by omega)).1
   have hspot : spot = none:=by simpa [Addr.add] using World.cell?_spot (hcell 0 (by omega)).1
   subst hspot
   rw [add_plain] at hc
   refine ⟨b,off,Sx i,rfl,cell_in hc,?_,hc⟩
   have he : d = _:=congrArg Prod.fst hx
   subst he
   have:=hw (Sx i).data.toList.length (weights_slice Try.underlying50 (d:=.lit (.string (Sx i).data.toList)) (List.mem_map.2 ⟨i,List.mem_range.2 hi,rfl⟩) (by simp [DataW.weights]))
   rw [len_list] at this
   exact reach_lt this
theorem steps_at {H : Type} {enc : TypeId × Value → H} {W : World} {a0 : Option Addr} {n c : Nat} {d : DataW H} {ps : List MemPlace} (h : DataW.Trod enc Try.prog W 0 (fun _ => true) true 22 (.slice a0 n c) d ps)
 (hw : ∀ m ∈ d.weights Try.prog 22,m ≤ reachBytes) : StepsAt W a0 n:=by
 obtain ⟨fuel,hf⟩:=h
 intro i hi
 rcases open_slice Try.underlying22 hf with ⟨hcs,_⟩ | ⟨a,len,cap,m,k,D,Pl,hcs,_,hl,_,hm,hx,hcell⟩
 · simp [Value.cells] at hcs
   omega
 · simp [Value.cells] at hcs
   obtain ⟨rfl,rfl,rfl⟩:=hcs
   simp only [if_true] at hm
   have h4 : Try.prog.cellsOf 44 = 4:=by kernel_rfl
   have h2 : Try.prog.cellsOf 42 = 2:=by kernel_rfl
   have h1i : Try.prog.cellsOf 3 = 1:=by kernel_rfl
   have h1s : Try.prog.cellsOf 9 = 1:=by kernel_rfl
   have h1b : Try.prog.cellsOf 4 = 1:=by kernel_rfl
   obtain ⟨b,off,spot⟩:=a
   obtain ⟨cs',hc,ht⟩:=hcell i (by omega)
   rw [h4] at hc
   obtain ⟨_,hlen,hcc⟩:=World.cells?_some hc
   obtain ⟨y0,y1,y2,k1,hD,_,g0,g1,g2⟩:=trod_struct3 Try.underlying44 ht
   obtain ⟨c0,c1,c2,c3,rfl⟩:=four hlen
   have e0:=hcc 0 (by omega)
   have e1:=hcc 1 (by omega)
   have e2:=hcc 2 (by omega)
   have e3:=hcc 3 (by omega)
   rw [Deep.add_add] at e0 e1 e2 e3
   simp only [List.getElem?_cons_zero,List.getElem?_cons_succ] at e0 e1 e2 e3
   have hspot : spot = none:=by
    obtain ⟨cs0,hc0,_⟩:=hcell 0 (by omega)
    rw [h4] at hc0
    obtain ⟨_,hl0,hcc0⟩:=World.cells?_some hc0
    obtain ⟨d0,d1,d2,d3,rfl⟩:=four hl0
    have:=hcc0 0 (by omega)
    simp only [List.getElem?_cons_zero] at this
    simpa [Addr.add] using World.cell?_spot this
   subst hspot
   rw [add_plain] at e0 e1 e2 e3
   obtain ⟨kk,hk,_⟩:=DataW.trod_int Try.underlying3 (by simpa [h1i] using g0)
   obtain ⟨nm,hn,hy1,_⟩:=DataW.trod_string Try.underlying9 (by simpa [h1s] using g1)
   obtain ⟨z0,z1,k2,_,_,g3,g4⟩:=trod_struct2 Try.underlying42 (by simpa [h2] using g2)
   obtain ⟨tr,h3,_⟩:=DataW.trod_bool Try.underlying4 (by simpa [h1b] using g3)
   obtain ⟨sc,h5,_⟩:=DataW.trod_bool Try.underlying4 (by simpa [h1b] using g4)
   simp at hk hn h3 h5
   subst hk hn h3 h5
   refine ⟨b,off,kk,nm,tr,sc,rfl,cell_in e0,?_,e0,e1,e2,e3⟩
   have he : d = _:=congrArg Prod.fst hx
   subst he
   have hDe : D i = _:=congrArg Prod.fst hD
   have:=hw nm.data.toList.length (weights_slice Try.underlying22 (d:=D i) (List.mem_map.2 ⟨i,List.mem_range.2 hi,rfl⟩) (by
    rw [hDe]
    simp [DataW.weights,Try.underlying44,DataW.weightsEach,hy1]))
   rw [len_list] at this
   exact reach_lt this
end Go.Proofs.Ytbmmjomcjlpnlaa
namespace Go.Proofs.Ytbmmjomcjlpnlaa
open Go Go.RowKit
def Fr (row : Option Nat) (W W' : World) : Prop:=W.grownBy W' row
section
variable {row : Option Nat} {W X Y : World}
theorem Fr.refl (row : Option Nat) (W : World) : Fr row W W:=World.grownBy.refl W row
theorem Fr.size (h : Fr row W X) : W.heap.size ≤ X.heap.size:=World.grownBy.size h
theorem Fr.block (h : Fr row W X) {k : Nat} (hk : k < W.heap.size) (hne : some k ≠ row) : X.heap[k]? = W.heap[k]?:=World.grownBy.block h k hk hne
theorem Fr.trans (h : Fr row W X) (k : Fr row X Y) : Fr row W Y:=World.grownBy.trans h k
theorem Fr.alloc (h : Fr row W X) (o : Obj) : Fr row W (X.alloc o):=h.trans (World.grownBy_alloc X o row)
theorem Fr.drewN (h : Fr row W X) (n : Nat) : Fr row W (X.drewN n):=h.trans ⟨rfl,rfl,rfl,Nat.le_refl _,fun _ _ _ => rfl⟩
theorem Fr.drew (h : Fr row W X) : Fr row W X.drew:=h.trans ⟨rfl,rfl,rfl,Nat.le_refl _,fun _ _ _ => rfl⟩
theorem Fr.set (h : Fr row W X) {b : Nat} (hb : some b = row ∨ W.heap.size ≤ b) (o : Nat) (v : Value) : Fr row W (X.setCell ⟨b,o,none⟩ v):=by
 have h' : W.grownBy X row:=h
 suffices hs : W.grownBy (X.setCell ⟨b,o,none⟩ v) row from hs
 refine ⟨h'.os,h'.tape,h'.output,?_,fun k hk hne => ?_⟩
 · have:=h.size
   simp [World.setCell]
   exact this
 · rw [heap_setCell_other X ⟨b,o,none⟩ k v (by
    rintro rfl
    rcases hb with hb | hb
    · exact hne hb
    · exact absurd hk (by simpa using hb))]
   exact h.block hk hne
theorem Fr.step (h : Fr row W X) (k : Fr row X Y) : Fr row W Y:=h.trans k
theorem Fr.stepOwn {v : Value} (h : Fr row W X) (k : X.grownBy Y v.ownBlock) (hj : ∀ j,v.ownBlock = some j → W.heap.size ≤ j) : Fr row W Y :=
 World.grownBy.andThen h k (fun i e => .inl (hj i e))
theorem Fr.of (h : Below W.heap.size W X) : Fr row W X:=⟨h.os,h.tape,h.output,h.size,fun k hk _ => h.block k hk⟩
theorem Fr.stepB (h : Fr row W X) (k : Below X.heap.size X Y) : Fr row W Y:=h.trans (.of k)
theorem Fr.below (h : Fr none W X) : Below W.heap.size W X:=⟨World.grownBy.os h,World.grownBy.tape h,World.grownBy.output h,h.size,fun k hk => h.block hk (by simp)⟩
end
theorem name_world {P : Program} {C : Code} {Q : Exit → Act → World → Prop} {a : Act} {w : World} (h : ∀ Z,Z = w → C.wp P Q a Z) : C.wp P Q a w:=h w rfl
def Blk (X : World) (n : Nat) (v0 v1 v2 v3 v4 v5 : Value) : Prop:=X.heap[n]? = some (.cells #[v0,v1,v2,v3,v4,v5] 63 (0,0))
section
variable {X Y : World} {n : Nat} {v0 v1 v2 v3 v4 v5 : Value}
theorem Blk.facts (h : Blk X n v0 v1 v2 v3 v4 v5) : n < X.heap.size ∧ X.cell? ⟨n,0,none⟩ = some v0 ∧ X.cell? ⟨n,1,none⟩ = some v1 ∧ X.cell? ⟨n,2,none⟩ = some v2 ∧ X.cell? ⟨n,3,none⟩ = some v3 ∧ X.cell? ⟨n,4,none⟩ = some v4 ∧ X.cell? ⟨n,5,none⟩ = some v5 ∧
 X.frozen? ⟨n,0,none⟩ = false ∧ X.frozen? ⟨n,1,none⟩ = false ∧ X.frozen? ⟨n,2,none⟩ = false ∧ X.frozen? ⟨n,3,none⟩ = false ∧ X.frozen? ⟨n,4,none⟩ = false ∧ X.frozen? ⟨n,5,none⟩ = false:=by
 refine ⟨(Array.getElem?_eq_some_iff.1 h).1,?_,?_,?_,?_,?_,?_,frozen_of_row X n _ _ _ h,frozen_of_row X n _ _ _ h,frozen_of_row X n _ _ _ h,frozen_of_row X n _ _ _ h,frozen_of_row X n _ _ _ h,frozen_of_row X n _ _ _ h⟩ <;> rw [cell_of_row _ _ _ _ _ _ h] <;> rfl
theorem Blk.alloc (h : Blk X n v0 v1 v2 v3 v4 v5) (o : Obj) : Blk (X.alloc o) n v0 v1 v2 v3 v4 v5:=(Below.heap_alloc X o n (Array.getElem?_eq_some_iff.1 h).1).trans h
theorem Blk.drew (h : Blk X n v0 v1 v2 v3 v4 v5) : Blk X.drew n v0 v1 v2 v3 v4 v5:=h
theorem Blk.drewN (h : Blk X n v0 v1 v2 v3 v4 v5) (m : Nat) : Blk (X.drewN m) n v0 v1 v2 v3 v4 v5:=h
theorem Blk.setO (h : Blk X n v0 v1 v2 v3 v4 v5) {b : Nat} (hne : n ≠ b) (o : Nat) (v : Value) : Blk (X.setCell ⟨b,o,none⟩ v) n v0 v1 v2 v3 v4 v5:=(heap_setCell_other X ⟨b,o,none⟩ n v hne).trans h
theorem Blk.set0 (h : Blk X n v0 v1 v2 v3 v4 v5) (v : Value) : Blk (X.setCell ⟨n,0,none⟩ v) n v v1 v2 v3 v4 v5:=heap_setCell_same X n 0 _ _ v h
theorem Blk.set1 (h : Blk X n v0 v1 v2 v3 v4 v5) (v : Value) : Blk (X.setCell ⟨n,1,none⟩ v) n v0 v v2 v3 v4 v5:=heap_setCell_same X n 1 _ _ v h
theorem Blk.set2 (h : Blk X n v0 v1 v2 v3 v4 v5) (v : Value) : Blk (X.setCell ⟨n,2,none⟩ v) n v0 v1 v v3 v4 v5:=heap_setCell_same X n 2 _ _ v h
theorem Blk.set3 (h : Blk X n v0 v1 v2 v3 v4 v5) (v : Value) : Blk (X.setCell ⟨n,3,none⟩ v) n v0 v1 v2 v v4 v5:=heap_setCell_same X n 3 _ _ v h
theorem Blk.set4 (h : Blk X n v0 v1 v2 v3 v4 v5) (v : Value) : Blk (X.setCell ⟨n,4,none⟩ v) n v0 v1 v2 v3 v v5:=heap_setCell_same X n 4 _ _ v h
theorem Blk.set5 (h : Blk X n v0 v1 v2 v3 v4 v5) (v : Value) : Blk (X.setCell ⟨n,5,none⟩ v) n v0 v1 v2 v3 v4 v:=heap_setCell_same X n 5 _ _ v h
theorem Blk.all (h : Blk X n v0 v1 v2 v3 v4 v5) (u0 u1 u2 u3 u4 u5 : Value) : Blk ((((((X.setCell ⟨n,0,none⟩ u0).setCell ⟨n,1,none⟩ u1).setCell ⟨n,2,none⟩ u2).setCell ⟨n,3,none⟩ u3).setCell ⟨n,4,none⟩ u4).setCell ⟨n,5,none⟩ u5) n u0 u1 u2 u3 u4 u5 :=
 (((((h.set0 u0).set1 u1).set2 u2).set3 u3).set4 u4).set5 u5
theorem Blk.fr {rb : Nat} (h : Blk X n v0 v1 v2 v3 v4 v5) (hf : Fr (some rb) X Y) (hne : n ≠ rb) : Blk Y n v0 v1 v2 v3 v4 v5:=(hf.block (Array.getElem?_eq_some_iff.1 h).1 (by simp;exact hne)).trans h
theorem Blk.stay (h : Blk X n v0 v1 v2 v3 v4 v5) (hf : Below X.heap.size X Y) : Blk Y n v0 v1 v2 v3 v4 v5:=(hf.block n (Array.getElem?_eq_some_iff.1 h).1).trans h
theorem Blk.new (hn : n = X.heap.size) (v0 v1 v2 v3 v4 v5 : Value) : Blk (X.alloc (.cells #[v0,v1,v2,v3,v4,v5] 63)) n v0 v1 v2 v3 v4 v5:=hn ▸ heap_alloc_new X _
end
end Go.Proofs.Ytbmmjomcjlpnlaa
namespace Go.Proofs.Ytbmmjomcjlpnlaa
def isBlank (c : UInt8) : Bool:=c == 32 || c == 9 || c == 10 || c == 13
def isLetter (c : UInt8) : Bool:=(decide (65 ≤ c.toNat) && decide (c.toNat ≤ 90)) || (decide (97 ≤ c.toNat) && decide (c.toNat ≤ 122)) || decide (c.toNat = 95)
def isDigit (c : UInt8) : Bool:=decide (48 ≤ c.toNat) && decide (c.toNat ≤ 57)
def isPart (c : UInt8) : Bool:=isLetter c || isDigit c
def pairL : List (List UInt8):=[[38,38],[124,124],[61,61],[33,61],[60,61],[62,61],[60,60],[62,62]]
def oneL : List UInt8:=[43,45,42,47,37,38,124,94,60,62,33,61,40,41,91,93,123,125,59,44]
def spanL (l : List UInt8) : Nat:=(l.takeWhile isPart).length
def noteL (l : List UInt8) : Nat:=(l.takeWhile (· != 10)).length
def sgnLen : List UInt8 → Nat
 | [] => 0
 | [a] => if oneL.contains a then 1 else 0
 | a :: b :: _ => if pairL.contains [a,b] then 2 else if oneL.contains a then 1 else 0
inductive Tok where
 | gap (n : Nat)
 | word (k : Int) (n : Nat) (v : Int)
 | bad (e : Int)
def tok (num : List UInt8 → Option Int) : List UInt8 → Tok
 | [] => .gap 0
 | c :: r =>
  if isBlank c = true then .gap 1
  else if c = 47 ∧ r.head? = some 47 then .gap (noteL (c :: r))
  else if isLetter c = true then (if 24 < spanL (c :: r) then .bad 2 else .word 0 (spanL (c :: r)) 0)
  else if isDigit c = true then (match num ((c :: r).take (spanL (c :: r))) with | some v => .word 1 (spanL (c :: r)) v | none => .bad 10)
  else if sgnLen (c :: r) = 0 then .bad 10
  else .word 2 (sgnLen (c :: r)) 0
structure Wd where
 k : Int
 t : List UInt8
 n : Int
 a : Nat
inductive Sc (num : List UInt8 → Option Int) : List UInt8 → Nat → List Wd → Option (Int × Nat) → Prop
 | done (a : Nat) : Sc num [] a [⟨3,[],0,a⟩] none
 | bad (l : List UInt8) (a : Nat) (e : Int) : l ≠ [] → tok num l = .bad e → Sc num l a [] (some (e,a))
 | gap (l : List UInt8) (a n : Nat) (ws : List Wd) (r : Option (Int × Nat)) : l ≠ [] → tok num l = .gap n → Sc num (l.drop n) (a + n) ws r → Sc num l a ws r
 | word (l : List UInt8) (a n : Nat) (k v : Int) (ws : List Wd) (r : Option (Int × Nat)) : l ≠ [] → tok num l = .word k n v → Sc num (l.drop n) (a + n) ws r → Sc num l a (⟨k,l.take n,v,a⟩ :: ws) r
theorem span_le (l : List UInt8) : spanL l ≤ l.length:=by
 unfold spanL
 exact List.Sublist.length_le (List.takeWhile_sublist _)
theorem note_le (l : List UInt8) : noteL l ≤ l.length:=by
 unfold noteL
 exact List.Sublist.length_le (List.takeWhile_sublist _)
theorem span_pos {c : UInt8} {r : List UInt8} (h : isPart c = true) : 1 ≤ spanL (c :: r):=by
 unfold spanL
 rw [List.takeWhile_cons,if_pos h]
 simp
theorem sgn_le (l : List UInt8) : sgnLen l ≤ l.length:=by
 match l with
 | [] => simp [sgnLen]
 | [a] => simp only [sgnLen];split <;> simp
 | a :: b :: r => simp only [sgnLen];split <;> (try split) <;> simp <;> omega
section
variable {num : List UInt8 → Option Int} {l : List UInt8}
theorem tok_gap {n : Nat} (hl : l ≠ []) (h : tok num l = .gap n) : 1 ≤ n ∧ n ≤ l.length:=by
 obtain ⟨c,r,rfl⟩:=List.exists_cons_of_ne_nil hl
 simp only [tok] at h
 split at h
 · injection h with h;subst h;simp
 · split at h
   · rename_i h2
     injection h with h
     subst h
     refine ⟨?_,note_le _⟩
     unfold noteL
     rw [List.takeWhile_cons,if_pos (by rw [h2.1];decide)]
     simp
   · split at h
     · split at h <;> cases h
     · split at h
       · split at h <;> cases h
       · split at h <;> cases h
theorem tok_word {n : Nat} {k v : Int} (hl : l ≠ []) (h : tok num l = .word k n v) : 1 ≤ n ∧ n ≤ l.length:=by
 obtain ⟨c,r,rfl⟩:=List.exists_cons_of_ne_nil hl
 simp only [tok] at h
 split at h
 · cases h
 · split at h
   · cases h
   · split at h
     · rename_i h3
       split at h
       · cases h
       · injection h with h1 h2 h3'
         subst h2
         exact ⟨span_pos (by simp [isPart,h3]),span_le _⟩
     · split at h
       · rename_i h4
         split at h
         · injection h with h1 h2 h3'
           subst h2
           exact ⟨span_pos (by simp [isPart,h4]),span_le _⟩
         · cases h
       · split at h
         · cases h
         · rename_i h5
           injection h with h1 h2 h3'
           subst h2
           exact ⟨by omega,sgn_le _⟩
theorem Sc.total (num : List UInt8 → Option Int) : ∀ (m : Nat) (l : List UInt8) (a : Nat),l.length ≤ m → ∃ ws r,Sc num l a ws r:=by
 intro m
 induction m with
 | zero =>
  intro l a h
  have : l = []:=List.eq_nil_of_length_eq_zero (by omega)
  subst this
  exact ⟨_,_,.done a⟩
 | succ m ih =>
  intro l a h
  by_cases hl : l = []
  · subst hl
    exact ⟨_,_,.done a⟩
  · cases ht : tok num l with
    | gap n =>
     obtain ⟨h1,h2⟩:=tok_gap hl ht
     obtain ⟨ws,r,hs⟩:=ih (l.drop n) (a + n) (by rw [List.length_drop];omega)
     exact ⟨ws,r,.gap l a n ws r hl ht hs⟩
    | word k n v =>
     obtain ⟨h1,h2⟩:=tok_word hl ht
     obtain ⟨ws,r,hs⟩:=ih (l.drop n) (a + n) (by rw [List.length_drop];omega)
     exact ⟨_,r,.word l a n k v ws r hl ht hs⟩
    | bad e => exact ⟨_,_,.bad l a e hl ht⟩
theorem Sc.nil_inv {a : Nat} {ws : List Wd} {r : Option (Int × Nat)} (h : Sc num [] a ws r) : ws = [⟨3,[],0,a⟩] ∧ r = none:=by
 cases h with
 | done => exact ⟨rfl,rfl⟩
 | bad _ _ _ h => exact absurd rfl h
 | gap _ _ _ _ _ h => exact absurd rfl h
 | word _ _ _ _ _ _ _ h => exact absurd rfl h
theorem Sc.gap_inv {a n : Nat} {ws : List Wd} {r : Option (Int × Nat)} (h : Sc num l a ws r) (hl : l ≠ []) (ht : tok num l = .gap n) : Sc num (l.drop n) (a + n) ws r:=by
 cases h with
 | done => exact absurd rfl hl
 | bad _ _ _ _ h2 => rw [ht] at h2;cases h2
 | gap _ _ _ _ _ _ h2 h3 => rw [ht] at h2;cases h2;exact h3
 | word _ _ _ _ _ _ _ _ h2 => rw [ht] at h2;cases h2
theorem Sc.word_inv {a n : Nat} {k v : Int} {ws : List Wd} {r : Option (Int × Nat)} (h : Sc num l a ws r) (hl : l ≠ []) (ht : tok num l = .word k n v) : ∃ ws',ws = ⟨k,l.take n,v,a⟩ :: ws' ∧ Sc num (l.drop n) (a + n) ws' r:=by
 cases h with
 | done => exact absurd rfl hl
 | bad _ _ _ _ h2 => rw [ht] at h2;cases h2
 | gap _ _ _ _ _ _ h2 h3 => rw [ht] at h2;cases h2
 | word _ _ _ _ _ _ _ _ h2 h3 => rw [ht] at h2;cases h2;exact ⟨_,rfl,h3⟩
theorem Sc.bad_inv {a : Nat} {e : Int} {ws : List Wd} {r : Option (Int × Nat)} (h : Sc num l a ws r) (hl : l ≠ []) (ht : tok num l = .bad e) : ws = [] ∧ r = some (e,a):=by
 cases h with
 | done => exact absurd rfl hl
 | bad _ _ _ _ h2 => rw [ht] at h2;cases h2;exact ⟨rfl,rfl⟩
 | gap _ _ _ _ _ _ h2 h3 => rw [ht] at h2;cases h2
 | word _ _ _ _ _ _ _ _ h2 => rw [ht] at h2;cases h2
end
end Go.Proofs.Ytbmmjomcjlpnlaa
namespace Go.Proofs.Ytbmmjomcjlpnlaa
theorem takeWhile_stop {α : Type} (p : α → Bool) (x : α) (hx : p x = false) (tl : List α) : ∀ l : List α,(l ++ x :: tl).takeWhile p = l.takeWhile p
 | [] => by simp [List.takeWhile_cons,hx]
 | c :: r => by
  rw [List.cons_append,List.takeWhile_cons,List.takeWhile_cons,takeWhile_stop p x hx tl r]
theorem take_takeWhile {α : Type} (p : α → Bool) : ∀ l : List α,l.take (l.takeWhile p).length = l.takeWhile p
 | [] => rfl
 | c :: r => by
  rw [List.takeWhile_cons]
  split
  · simp [take_takeWhile p r]
  · simp
theorem takeWhile_all {α : Type} (p : α → Bool) : ∀ l : List α,(∀ c ∈ l,p c = true) → l.takeWhile p = l
 | [],_ => rfl
 | c :: r,h => by
  rw [List.takeWhile_cons,if_pos (h c (by simp)),takeWhile_all p r (fun d hd => h d (by simp [hd]))]
def Sep (x : UInt8) : Prop:=x = 32 ∨ x = 10
theorem Sep.part {x : UInt8} (h : Sep x) : isPart x = false:=by rcases h with rfl | rfl <;> decide
theorem Sep.blank {x : UInt8} (h : Sep x) : isBlank x = true:=by rcases h with rfl | rfl <;> decide
section
variable {num : List UInt8 → Option Int} {l : List UInt8}
theorem tok_nl (num : List UInt8 → Option Int) (tl : List UInt8) : tok num (10 :: tl) = .gap 1:=by simp [tok,isBlank]
theorem tok_note (num : List UInt8 → Option Int) (nt tl : List UInt8) (h : ∀ c ∈ nt,c ≠ 10) : tok num (47 :: 47 :: (nt ++ 10 :: tl)) = .gap (2 + nt.length):=by
 have e : noteL (47 :: 47 :: (nt ++ 10 :: tl)) = 2 + nt.length:=by
  have e0 : nt.takeWhile (fun c : UInt8 => c != 10) = nt:=takeWhile_all _ _ (fun c hc => by simpa using h c hc)
  unfold noteL
  rw [List.takeWhile_cons,if_pos (by decide),List.takeWhile_cons,if_pos (by decide),takeWhile_stop _ 10 (by decide),e0]
  simp
  omega
 simp only [tok]
 rw [if_neg (by decide),if_pos (by simp),e]
theorem Sc.note {b : Nat} {ws : List Wd} {r : Option (Int × Nat)} {t nt : List UInt8} (hn : ∀ c ∈ nt,c ≠ 10) (h : Sc num t (b + (nt.length + 4)) ws r) : Sc num (10 :: 47 :: 47 :: (nt ++ 10 :: t)) b ws r:=by
 refine .gap _ b 1 _ _ (by simp) (tok_nl num _) ?_
 show Sc num (47 :: 47 :: (nt ++ 10 :: t)) (b + 1) ws r
 refine .gap _ (b + 1) (2 + nt.length) _ _ (by simp) (tok_note num nt t hn) ?_
 have e : (47 :: 47 :: (nt ++ 10 :: t)).drop (2 + nt.length) = 10 :: t:=by
  rw [Nat.add_comm,List.drop_succ_cons,List.drop_succ_cons,List.drop_left]
 rw [e]
 refine .gap _ _ 1 _ _ (by simp) (tok_nl num _) ?_
 rw [show b + 1 + (2 + nt.length) + 1 = b + (nt.length + 4) by omega]
 exact h
def Wd.key (w : Wd) : Int × List UInt8 × Int:=(w.k,w.t,w.n)
def joinT (x : UInt8) : List Wd → List UInt8
 | [] => []
 | w :: r => w.t ++ x :: joinT x r
def Placed (S : List UInt8) : Nat → List Wd → Prop
 | _,[] => False
 | lo,[w] => w.k = 3 ∧ w.t = [] ∧ lo ≤ w.a ∧ w.a ≤ S.length
 | lo,w :: r => w.k ≠ 3 ∧ lo ≤ w.a ∧ w.a + w.t.length ≤ S.length ∧ (S.drop w.a).take w.t.length = w.t ∧ 1 ≤ w.t.length ∧ Placed S (w.a + w.t.length) r
theorem Placed.lower {S : List UInt8} {lo lo' : Nat} {ws : List Wd} (h : Placed S lo ws) (hl : lo' ≤ lo) : Placed S lo' ws:=by
 match ws,h with
 | [w],h => exact ⟨h.1,h.2.1,by have:=h.2.2.1;omega,h.2.2.2⟩
 | w :: v :: r,h => exact ⟨h.1,by have:=h.2.1;omega,h.2.2⟩
theorem tok_kind {n : Nat} {k v : Int} (h : tok num l = .word k n v) : k ≠ 3:=by
 cases l with
 | nil => simp [tok] at h
 | cons c r =>
  simp only [tok] at h
  repeat' split at h
  all_goals first
   | cases h;done
   | (injection h with h1;omega)
theorem Placed.long {S : List UInt8} {x : UInt8} : ∀ (ws : List Wd) (lo : Nat),Placed S lo ws → (joinT x ws).length ≤ 2 * (S.length - lo) + 1
 | [],_,h => absurd h (by simp [Placed])
 | [w],lo,h => by simp [joinT,h.2.1]
 | w :: v :: r,lo,h => by
  obtain ⟨_,h2,h3,_,h5,h6⟩:=h
  have:=Placed.long (x:=x) (v :: r) _ h6
  rw [joinT,List.length_append,List.length_cons]
  omega
end
end Go.Proofs.Ytbmmjomcjlpnlaa
namespace Go.Proofs.Ytbmmjomcjlpnlaa
theorem Placed.get {S : List UInt8} : ∀ (W : List Wd) (lo k : Nat) (x : Wd),Placed S lo W → W[k]? = some x →
 lo ≤ x.a ∧ x.a + x.t.length ≤ S.length ∧ (S.drop x.a).take x.t.length = x.t ∧ (x.k = 3 ↔ k + 1 = W.length)
 | [],_,_,_,h,_ => absurd h (by simp [Placed])
 | [w],lo,0,x,h,hx => by
  simp at hx
  subst hx
  obtain ⟨h1,h2,h3,h4⟩:=h
  rw [h2]
  exact ⟨h3,by simpa using h4,rfl,by simp [h1]⟩
 | [w],lo,k + 1,x,_,hx => by simp at hx
 | w :: v :: r,lo,0,x,h,hx => by
  simp at hx
  subst hx
  obtain ⟨h1,h2,h3,h4,h5,h6⟩:=h
  exact ⟨h2,h3,h4,by simp [h1]⟩
 | w :: v :: r,lo,k + 1,x,h,hx => by
  obtain ⟨h1,h2,h3,h4,h5,h6⟩:=h
  obtain ⟨e1,e2,e3,e4⟩:=Placed.get (v :: r) _ k x h6 (by simpa using hx)
  refine ⟨by omega,e2,e3,?_⟩
  rw [e4]
  simp
theorem Placed.next {S : List UInt8} : ∀ (W : List Wd) (lo k : Nat) (y x : Wd),Placed S lo W → W[k]? = some y → W[k + 1]? = some x → y.a + y.t.length ≤ x.a
 | [],_,_,_,_,h,_,_ => absurd h (by simp [Placed])
 | [w],_,k,_,x,_,_,hx => by simp at hx
 | w :: v :: r,lo,0,y,x,h,hy,hx => by
  simp at hy
  subst hy
  obtain ⟨h1,h2,h3,h4,h5,h6⟩:=h
  exact (Placed.get (v :: r) _ 0 x h6 (by simpa using hx)).1
 | w :: v :: r,lo,k + 1,y,x,h,hy,hx => by
  obtain ⟨h1,h2,h3,h4,h5,h6⟩:=h
  exact Placed.next (v :: r) _ k y x h6 (by simpa using hy) (by simpa using hx)
theorem Sc.bad_code {num : List UInt8 → Option Int} {l : List UInt8} {a : Nat} {W : List Wd} {r : Option (Int × Nat)} (h : Sc num l a W r) : ∀ e p,r = some (e,p) → e = 2 ∨ e = 10:=by
 induction h with
 | done a => intro e p h;cases h
 | bad l a e hl ht =>
  intro e p h
  cases h
  cases l with
  | nil => simp [tok] at ht
  | cons c r =>
   simp only [tok] at ht
   repeat' split at ht
   all_goals first
    | cases ht;done
    | (injection ht with h1;omega)
 | gap l a n ws r hl ht hs ih => exact ih
 | word l a n k v ws r hl ht hs ih => exact ih
theorem Sc.few {num : List UInt8 → Option Int} {l : List UInt8} {a : Nat} {X : List Wd} {r : Option (Int × Nat)} (h : Sc num l a X r) (hr : r = none) : X.length ≤ l.length + 1:=by
 induction h with
 | done a => exact Nat.le_refl _
 | bad l a e hl ht => cases hr
 | gap l a n ws r hl ht hs ih =>
  have:=ih hr
  rw [List.length_drop] at this
  omega
 | word l a n k v ws r hl ht hs ih =>
  have h1:=tok_word hl ht
  have:=ih hr
  rw [List.length_drop] at this
  rw [List.length_cons]
  omega
theorem Sc.some_words {num : List UInt8 → Option Int} {l : List UInt8} {a : Nat} {W : List Wd} {r : Option (Int × Nat)} (h : Sc num l a W r) (hr : r = none) : 0 < W.length:=by
 induction h with
 | done a => exact Nat.one_pos
 | bad l a e hl ht => cases hr
 | gap l a n ws r hl ht hs ih => exact ih hr
 | word l a n k v ws r hl ht hs ih => exact Nat.succ_pos _
open Go
def sgnL : List ByteArray:=[⟨#[43]⟩,⟨#[45]⟩,⟨#[42]⟩,⟨#[47]⟩,⟨#[37]⟩,⟨#[38]⟩,⟨#[124]⟩,⟨#[94]⟩,⟨#[60,60]⟩,⟨#[62,62]⟩,⟨#[61,61]⟩,⟨#[33,61]⟩,⟨#[60]⟩,⟨#[60,61]⟩,⟨#[62]⟩,⟨#[62,61]⟩,⟨#[]⟩,⟨#[38,38]⟩,⟨#[124,124]⟩]
def sgn (n : Nat) : ByteArray:=sgnL.getD n ByteArray.empty
def rnkL : List Int:=[9,9,10,10,10,5,3,4,8,8,6,6,7,7,7,7,0,2,1]
def rnk (n : Nat) : Int:=rnkL.getD n 0
def sgnZ (o : Int) : ByteArray:=if 0 ≤ o ∧ o ≤ 18 then sgn o.toNat else ⟨#[]⟩
def rnkZ (o : Int) : Int:=if 0 ≤ o ∧ o ≤ 18 then rnk o.toNat else 0
def opGo (s : ByteArray) : Nat → Nat → Int
 | 0,_ => -1
 | f + 1,k => if (sgn k).toList == s.toList then k else opGo s f (k + 1)
def opM (s : ByteArray) : Int:=if s.toList.isEmpty then -1 else opGo s 19 0
def keyL : List (List UInt8):=[[112,117,98,108,105,99],[115,101,99,114,101,116],[105,110,116],[98,111,111,108],[98,121],[108,111,99,107],[102,117,110,99],[114,101,116,117,114,110],[116,104,114,101,97,100],[118,97,114],[105,102],[101,108,115,101],[119,104,105,108,101],[111,117,116],[116,114,117,101],[102,97,108,115,101]]
def keyB (l : List UInt8) : Bool:=keyL.any fun k => k == l
def sgB (k : Nat) : List UInt8:=(sgn k).data.toList
def opB (t : List UInt8) : Int:=opM ⟨t.toArray⟩
theorem opGo_lt (s : ByteArray) : ∀ f k,opGo s f k = -1 ∨ ∃ j,k ≤ j ∧ j < k + f ∧ opGo s f k = (j : Int) ∧ (sgn j).toList = s.toList
 | 0,k => .inl rfl
 | f + 1,k => by
  by_cases h : ((sgn k).toList == s.toList) = true
  · refine .inr ⟨k,Nat.le_refl _,by omega,?_,by simpa using h⟩
    rw [opGo,if_pos h]
  · rw [opGo,if_neg h]
    rcases opGo_lt s f (k + 1) with h1 | ⟨j,h1,h2,h3,h4⟩
    · exact .inl h1
    · exact .inr ⟨j,by omega,by omega,h3,h4⟩
theorem opB_some {t : List UInt8} (h : 0 ≤ opB t) : ∃ j : Nat,j < 19 ∧ opB t = (j : Int) ∧ sgB j = t:=by
 unfold opB opM at h ⊢
 split at h
 · omega
 · rename_i hn
   rw [if_neg hn]
   rcases opGo_lt ⟨t.toArray⟩ 19 0 with h1 | ⟨j,h1,h2,h3,h4⟩
   · omega
   · refine ⟨j,by omega,h3,?_⟩
     rw [ByteArray.toList_eq,ByteArray.toList_eq] at h4
     unfold sgB
     rw [h4]
theorem rnkZ_in {o : Int} (h : 1 ≤ rnkZ o) : 0 ≤ o ∧ o ≤ 18 ∧ o ≠ 16:=by
 unfold rnkZ at h
 split at h
 · rename_i hh
   refine ⟨hh.1,hh.2,fun e => ?_⟩
   subst e
   exact absurd h (by decide)
 · omega
theorem rnkZ_le (o : Int) : 0 ≤ rnkZ o ∧ rnkZ o ≤ 10:=by
 unfold rnkZ
 split
 · rename_i hh
   obtain ⟨n,rfl⟩:=Int.eq_ofNat_of_zero_le hh.1
   have hn : n ≤ 18:=by omega
   show 0 ≤ rnk n ∧ rnk n ≤ 10
   have : ∀ n : Nat,n ≤ 18 → 0 ≤ rnk n ∧ rnk n ≤ 10:=by decide
   exact this n hn
 · omega
theorem op_rank {t : List UInt8} (h : 1 ≤ rnkZ (opB t)) : ∃ j : Nat,j < 19 ∧ j ≠ 16 ∧ opB t = (j : Int) ∧ sgB j = t:=by
 have h1:=rnkZ_in h
 obtain ⟨j,h2,h3,h4⟩:=opB_some h1.1
 exact ⟨j,h2,by have:=h1.2.2;omega,h3,h4⟩
inductive Ex where
 | mk (k op n : Int) (nm : List UInt8) (ks : List Ex) (a : Nat)
def Ex.k : Ex → Int | .mk k _ _ _ _ _ => k
def Ex.op : Ex → Int | .mk _ o _ _ _ _ => o
def Ex.n : Ex → Int | .mk _ _ n _ _ _ => n
def Ex.nm : Ex → List UInt8 | .mk _ _ _ t _ _ => t
def Ex.ks : Ex → List Ex | .mk _ _ _ _ l _ => l
def Ex.a : Ex → Nat | .mk _ _ _ _ _ a => a
def Sg (w : Wd) (t : List UInt8) : Prop:=w.k = 2 ∧ w.t = t
def rkW (w : Wd) : Int:=if w.k = 2 then rnkZ (opB w.t) else 0
def truB : List UInt8:=[116,114,117,101]
def flsB : List UInt8:=[102,97,108,115,101]
def Stray (w : Wd) : Prop:=w.k ≠ 1 ∧ (w.k = 0 → keyB w.t = true ∧ w.t ≠ truB ∧ w.t ≠ flsB) ∧ (w.k = 2 → w.t ≠ [45] ∧ w.t ≠ [33] ∧ w.t ≠ [40])
inductive Job where
 | thing
 | beh (k : Int)
 | wth (c : List UInt8)
 | nam
 | giv
 | expr (r : Int)
 | loop (r : Int) (l : Ex)
 | list (acc : List Ex)
inductive Res where
 | ok (e : Ex) (ts : List Wd)
 | okL (es : List Ex) (ts : List Wd)
 | bad (e : Int) (a : Nat)
inductive P : Nat → Job → List Wd → Res → Prop
 | num {o : Nat} {w : Wd} {ts : List Wd} : w.k = 1 → P o .thing (w :: ts) (.ok (.mk 0 0 w.n [] [] w.a) ts)
 | tru {o : Nat} {w : Wd} {ts : List Wd} : w.k = 0 → w.t = truB → P o .thing (w :: ts) (.ok (.mk 1 0 1 [] [] w.a) ts)
 | fls {o : Nat} {w : Wd} {ts : List Wd} : w.k = 0 → w.t = flsB → P o .thing (w :: ts) (.ok (.mk 1 0 0 [] [] w.a) ts)
 | neg {o : Nat} {w : Wd} {ts : List Wd} {r : Res} : Sg w [45] → P o (.beh 4) (w :: ts) r → P o .thing (w :: ts) r
 | not {o : Nat} {w : Wd} {ts : List Wd} {r : Res} : Sg w [33] → P o (.beh 5) (w :: ts) r → P o .thing (w :: ts) r
 | par {o : Nat} {w : Wd} {ts : List Wd} {r : Res} : Sg w [40] → P o (.wth [41]) (w :: ts) r → P o .thing (w :: ts) r
 | name {o : Nat} {w : Wd} {ts : List Wd} {r : Res} : w.k = 0 → keyB w.t = false → P o .nam (w :: ts) r → P o .thing (w :: ts) r
 | stray {o : Nat} {w : Wd} {ts : List Wd} : Stray w → P o .thing (w :: ts) (.bad 11 w.a)
 | behLim {o : Nat} {k : Int} {w : Wd} {ts : List Wd} : o = 32 → P o (.beh k) (w :: ts) (.bad 2 w.a)
 | behOk {o : Nat} {k : Int} {w : Wd} {ts ts' : List Wd} {e : Ex} : o < 32 → P (o + 1) .thing ts (.ok e ts') → P o (.beh k) (w :: ts) (.ok (.mk k 0 0 [] [e] w.a) ts')
 | behBad {o : Nat} {k : Int} {w : Wd} {ts : List Wd} {e : Int} {a : Nat} : o < 32 → P (o + 1) .thing ts (.bad e a) → P o (.beh k) (w :: ts) (.bad e a)
 | wthLim {o : Nat} {c : List UInt8} {w : Wd} {ts : List Wd} : o = 32 → P o (.wth c) (w :: ts) (.bad 2 w.a)
 | wthOk {o : Nat} {c : List UInt8} {w d : Wd} {ts ts' : List Wd} {e : Ex} : o < 32 → P (o + 1) (.expr 1) ts (.ok e (d :: ts')) → Sg d c → P o (.wth c) (w :: ts) (.ok e ts')
 | wthNo {o : Nat} {c : List UInt8} {w d : Wd} {ts ts' : List Wd} {e : Ex} : o < 32 → P (o + 1) (.expr 1) ts (.ok e (d :: ts')) → ¬ Sg d c → P o (.wth c) (w :: ts) (.bad 11 d.a)
 | wthBad {o : Nat} {c : List UInt8} {w : Wd} {ts : List Wd} {e : Int} {a : Nat} : o < 32 → P (o + 1) (.expr 1) ts (.bad e a) → P o (.wth c) (w :: ts) (.bad e a)
 | namVar {o : Nat} {w c : Wd} {ts : List Wd} : ¬ Sg c [91] → ¬ Sg c [40] → P o .nam (w :: c :: ts) (.ok (.mk 2 0 0 w.t [] w.a) (c :: ts))
 | namElem {o : Nat} {w c : Wd} {ts ts' : List Wd} {e : Ex} : Sg c [91] → P o (.wth [93]) (c :: ts) (.ok e ts') → P o .nam (w :: c :: ts) (.ok (.mk 3 0 0 w.t [e] w.a) ts')
 | namElemBad {o : Nat} {w c : Wd} {ts : List Wd} {e : Int} {a : Nat} : Sg c [91] → P o (.wth [93]) (c :: ts) (.bad e a) → P o .nam (w :: c :: ts) (.bad e a)
 | namCall {o : Nat} {w c : Wd} {ts ts' : List Wd} {es : List Ex} : Sg c [40] → P o .giv (c :: ts) (.okL es ts') → P o .nam (w :: c :: ts) (.ok (.mk 7 0 0 w.t es w.a) ts')
 | namCallBad {o : Nat} {w c : Wd} {ts : List Wd} {e : Int} {a : Nat} : Sg c [40] → P o .giv (c :: ts) (.bad e a) → P o .nam (w :: c :: ts) (.bad e a)
 | givLim {o : Nat} {w : Wd} {ts : List Wd} : o = 32 → P o .giv (w :: ts) (.bad 2 w.a)
 | givNone {o : Nat} {w d : Wd} {ts : List Wd} : o < 32 → Sg d [41] → P o .giv (w :: d :: ts) (.okL [] ts)
 | givSome {o : Nat} {w d f : Wd} {ts ts' : List Wd} {es : List Ex} : o < 32 → ¬ Sg d [41] → P (o + 1) (.list []) (d :: ts) (.okL es (f :: ts')) → Sg f [41] → P o .giv (w :: d :: ts) (.okL es ts')
 | givNo {o : Nat} {w d f : Wd} {ts ts' : List Wd} {es : List Ex} : o < 32 → ¬ Sg d [41] → P (o + 1) (.list []) (d :: ts) (.okL es (f :: ts')) → ¬ Sg f [41] → P o .giv (w :: d :: ts) (.bad 11 f.a)
 | givBad {o : Nat} {w d : Wd} {ts : List Wd} {e : Int} {a : Nat} : o < 32 → ¬ Sg d [41] → P (o + 1) (.list []) (d :: ts) (.bad e a) → P o .giv (w :: d :: ts) (.bad e a)
 | lstMore {o : Nat} {d : Wd} {ts ts' : List Wd} {acc : List Ex} {e : Ex} {r : Res} : P o (.expr 1) ts (.ok e (d :: ts')) → Sg d [44] → P o (.list (acc ++ [e])) ts' r → P o (.list acc) ts r
 | lstEnd {o : Nat} {d : Wd} {ts ts' : List Wd} {acc : List Ex} {e : Ex} : P o (.expr 1) ts (.ok e (d :: ts')) → ¬ Sg d [44] → P o (.list acc) ts (.okL (acc ++ [e]) (d :: ts'))
 | lstBad {o : Nat} {ts : List Wd} {acc : List Ex} {e : Int} {a : Nat} : P o (.expr 1) ts (.bad e a) → P o (.list acc) ts (.bad e a)
 | expr {o : Nat} {r : Int} {ts ts' : List Wd} {l : Ex} {res : Res} : P o .thing ts (.ok l ts') → P o (.loop r l) ts' res → P o (.expr r) ts res
 | exprBad {o : Nat} {r : Int} {ts : List Wd} {e : Int} {a : Nat} : P o .thing ts (.bad e a) → P o (.expr r) ts (.bad e a)
 | loopEnd {o : Nat} {r : Int} {l : Ex} {c : Wd} {ts : List Wd} : rkW c < r → P o (.loop r l) (c :: ts) (.ok l (c :: ts))
 | loopMore {o : Nat} {r : Int} {l e : Ex} {c : Wd} {ts ts' : List Wd} {res : Res} : r ≤ rkW c → P o (.expr (rkW c + 1)) ts (.ok e ts') → P o (.loop r (.mk 6 (opB c.t) 0 [] [l,e] l.a)) ts' res → P o (.loop r l) (c :: ts) res
 | loopBad {o : Nat} {r : Int} {l : Ex} {c : Wd} {ts : List Wd} {e : Int} {a : Nat} : r ≤ rkW c → P o (.expr (rkW c + 1)) ts (.bad e a) → P o (.loop r l) (c :: ts) (.bad e a)
def Fin (ts : List Wd) : Prop:=∃ pre e,ts = pre ++ [e] ∧ e.k = 3
theorem Fin.cons {w : Wd} {ts : List Wd} (h : Fin (w :: ts)) (hw : w.k ≠ 3) : Fin ts:=by
 obtain ⟨pre,e,h1,h2⟩:=h
 cases pre with
 | nil =>
  simp at h1
  exact absurd (h1.1 ▸ h2) hw
 | cons x pre =>
  simp at h1
  exact ⟨pre,e,h1.2,h2⟩
theorem Fin.ne {ts : List Wd} (h : Fin ts) : ∃ w r,ts = w :: r:=by
 obtain ⟨pre,e,h1,_⟩:=h
 cases pre with
 | nil => exact ⟨e,[],by simpa using h1⟩
 | cons x pre => exact ⟨x,pre ++ [e],by simpa using h1⟩
theorem Sg.ne {w : Wd} {t : List UInt8} (h : Sg w t) : w.k ≠ 3:=by rw [h.1];decide
theorem rkW_ne {w : Wd} (h : 1 ≤ rkW w) : w.k = 2 ∧ 1 ≤ rnkZ (opB w.t):=by
 unfold rkW at h
 split at h
 · exact ⟨by assumption,h⟩
 · omega
theorem rkW_bd (w : Wd) : 0 ≤ rkW w ∧ rkW w ≤ 10:=by
 unfold rkW
 split
 · exact rnkZ_le _
 · omega
def Job.lst : Job → Bool | .giv => true | .list _ => true | _ => false
def Job.min : Job → Nat | .loop _ _ => 0 | _ => 1
def Job.low : Job → Prop | .expr r => 1 ≤ r | .loop r _ => 1 ≤ r | _ => True
def Post (j : Job) (ts : List Wd) : Res → Prop
 | .ok _ ts' => j.lst = false ∧ Fin ts' ∧ ts'.length + j.min ≤ ts.length
 | .okL _ ts' => j.lst = true ∧ Fin ts' ∧ ts'.length + j.min ≤ ts.length
 | .bad _ _ => True
theorem P.post {o : Nat} {j : Job} {ts : List Wd} {r : Res} (h : P o j ts r) : j.low → Fin ts → (j = .nam → ∀ w t,ts = w :: t → w.k = 0) → (∀ k,j = .beh k → ∀ w t,ts = w :: t → w.k = 2) → (∀ c,j = .wth c → ∀ w t,ts = w :: t → w.k = 2) → (j = .giv → ∀ w t,ts = w :: t → w.k = 2) → Post j ts r:=by
 induction h with
 | num h => intro _ hf _ _ _ _;exact ⟨rfl,hf.cons (by rw [h];decide),by simp [Job.min]⟩
 | tru h _ => intro _ hf _ _ _ _;exact ⟨rfl,hf.cons (by rw [h];decide),by simp [Job.min]⟩
 | fls h _ => intro _ hf _ _ _ _;exact ⟨rfl,hf.cons (by rw [h];decide),by simp [Job.min]⟩
 | @neg o w ts r hs h ih =>
  intro _ hf _ _ _ _
  have:=ih trivial hf (by simp) (by rintro k - w' t' e;simp at e;rw [← e.1];exact hs.1) (by simp) (by simp)
  cases r <;> simp_all [Post,Job.lst,Job.min]
 | @not o w ts r hs h ih =>
  intro _ hf _ _ _ _
  have:=ih trivial hf (by simp) (by rintro k - w' t' e;simp at e;rw [← e.1];exact hs.1) (by simp) (by simp)
  cases r <;> simp_all [Post,Job.lst,Job.min]
 | @par o w ts r hs h ih =>
  intro _ hf _ _ _ _
  have:=ih trivial hf (by simp) (by simp) (by rintro k - w' t' e;simp at e;rw [← e.1];exact hs.1) (by simp)
  cases r <;> simp_all [Post,Job.lst,Job.min]
 | @name o w ts r hs hk h ih =>
  intro _ hf _ _ _ _
  have:=ih trivial hf (by rintro - w' t' e;simp at e;rw [← e.1];exact hs) (by simp) (by simp) (by simp)
  cases r <;> simp_all [Post,Job.lst,Job.min]
 | stray => intros;trivial
 | behLim => intros;trivial
 | @behOk o k w ts ts' e ho h ih =>
  intro _ hf _ hb _ _
  have:=ih trivial (hf.cons (by rw [hb k rfl w ts rfl];decide)) (by simp) (by simp) (by simp) (by simp)
  simp [Post,Job.lst,Job.min] at this ⊢
  exact ⟨this.1,by omega⟩
 | behBad => intros;trivial
 | wthLim => intros;trivial
 | @wthOk o c w d ts ts' e ho h hd ih =>
  intro _ hf _ _ hb _
  have:=ih (by simp [Job.low]) (hf.cons (by rw [hb c rfl w ts rfl];decide)) (by simp) (by simp) (by simp) (by simp)
  simp [Post,Job.lst,Job.min] at this ⊢
  exact ⟨this.1.cons hd.ne,by omega⟩
 | wthNo => intros;trivial
 | wthBad => intros;trivial
 | namVar h1 h2 => intro _ hf hn _ _ _;exact ⟨rfl,hf.cons (by rw [hn rfl _ _ rfl];decide),by simp [Job.min]⟩
 | @namElem o w c ts ts' e hs h ih =>
  intro _ hf hn _ _ _
  have:=ih trivial (hf.cons (by rw [hn rfl _ _ rfl];decide)) (by simp) (by simp) (by rintro k - w' t' e;simp at e;rw [← e.1];exact hs.1) (by simp)
  simp [Post,Job.lst,Job.min] at this ⊢
  exact ⟨this.1,by omega⟩
 | namElemBad => intros;trivial
 | @namCall o w c ts ts' es hs h ih =>
  intro _ hf hn _ _ _
  have:=ih trivial (hf.cons (by rw [hn rfl _ _ rfl];decide)) (by simp) (by simp) (by simp) (by rintro - w' t' e;simp at e;rw [← e.1];exact hs.1)
  simp [Post,Job.lst,Job.min] at this ⊢
  exact ⟨this.1,by omega⟩
 | namCallBad => intros;trivial
 | givLim => intros;trivial
 | @givNone o w d ts ho hd =>
  intro _ hf _ _ _ hg
  exact ⟨rfl,(hf.cons (by rw [hg rfl _ _ rfl];decide)).cons hd.ne,by simp [Job.min]⟩
 | @givSome o w d f ts ts' es ho hd h hf' ih =>
  intro _ hf _ _ _ hg
  have:=ih trivial (hf.cons (by rw [hg rfl _ _ rfl];decide)) (by simp) (by simp) (by simp) (by simp)
  simp [Post,Job.lst,Job.min] at this ⊢
  exact ⟨this.1.cons hf'.ne,by omega⟩
 | givNo => intros;trivial
 | givBad => intros;trivial
 | @lstMore o d ts ts' acc e r h hd h2 ih ih2 =>
  intro _ hf _ _ _ _
  have h1:=ih (by simp [Job.low]) hf (by simp) (by simp) (by simp) (by simp)
  simp [Post,Job.lst,Job.min] at h1
  have h3:=ih2 trivial (h1.1.cons hd.ne) (by simp) (by simp) (by simp) (by simp)
  cases r <;> simp [Post,Job.lst,Job.min] at h3 ⊢
  exact ⟨h3.1,by omega⟩
 | @lstEnd o d ts ts' acc e h hd ih =>
  intro _ hf _ _ _ _
  have h1:=ih (by simp [Job.low]) hf (by simp) (by simp) (by simp) (by simp)
  simpa [Post,Job.lst,Job.min] using h1
 | lstBad => intros;trivial
 | @expr o r ts ts' l res h h2 ih ih2 =>
  intro hl hf _ _ _ _
  have h1:=ih trivial hf (by simp) (by simp) (by simp) (by simp)
  simp [Post,Job.lst,Job.min] at h1
  have h3:=ih2 hl h1.1 (by simp) (by simp) (by simp) (by simp)
  cases res <;> simp [Post,Job.lst,Job.min] at h3 ⊢
  exact ⟨h3.1,by omega⟩
 | exprBad => intros;trivial
 | loopEnd => intro _ hf _ _ _ _;exact ⟨rfl,hf,by simp [Job.min]⟩
 | @loopMore o r l e c ts ts' res hr h h2 ih ih2 =>
  intro hl hf _ _ _ _
  have hc : 1 ≤ rkW c:=Int.le_trans hl hr
  have h1:=ih (by simp [Job.low];omega) (hf.cons (by rw [(rkW_ne hc).1];decide)) (by simp) (by simp) (by simp) (by simp)
  simp [Post,Job.lst,Job.min] at h1
  have h3:=ih2 hl h1.1 (by simp) (by simp) (by simp) (by simp)
  cases res <;> simp [Post,Job.lst,Job.min] at h3 ⊢
  exact ⟨h3.1,by omega⟩
 | loopBad => intros;trivial
def Suf (ts : List Wd) : Res → Prop
 | .ok _ ts' => ts' <:+ ts
 | .okL _ ts' => ts' <:+ ts
 | .bad _ _ => True
theorem suf_cons {w : Wd} {a b : List Wd} (h : a <:+ b) : a <:+ w :: b:=h.trans (List.suffix_cons _ _)
theorem P.suf0 {o : Nat} {j : Job} {ts : List Wd} {r : Res} (h : P o j ts r) : Suf ts r:=by
 induction h with
 | num => exact List.suffix_cons _ _
 | tru => exact List.suffix_cons _ _
 | fls => exact List.suffix_cons _ _
 | neg _ _ ih => exact ih
 | not _ _ ih => exact ih
 | par _ _ ih => exact ih
 | name _ _ _ ih => exact ih
 | stray => trivial
 | behLim => trivial
 | behOk _ _ ih => exact suf_cons ih
 | behBad => trivial
 | wthLim => trivial
 | wthOk _ _ _ ih => exact suf_cons ((List.suffix_cons _ _).trans ih)
 | wthNo => trivial
 | wthBad => trivial
 | namVar => exact List.suffix_cons _ _
 | namElem _ _ ih => exact suf_cons ih
 | namElemBad => trivial
 | namCall _ _ ih => exact suf_cons ih
 | namCallBad => trivial
 | givLim => trivial
 | givNone => exact suf_cons (List.suffix_cons _ _)
 | givSome _ _ _ _ ih => exact suf_cons ((List.suffix_cons _ _).trans ih)
 | givNo => trivial
 | givBad => trivial
 | @lstMore _ _ _ _ _ _ r _ _ _ ih ih2 =>
  cases r with
  | ok => exact List.IsSuffix.trans ih2 ((List.suffix_cons _ _).trans ih)
  | okL => exact List.IsSuffix.trans ih2 ((List.suffix_cons _ _).trans ih)
  | bad => trivial
 | lstEnd _ _ ih => exact ih
 | lstBad => trivial
 | @expr _ _ _ _ _ r _ _ ih ih2 =>
  cases r with
  | ok => exact List.IsSuffix.trans ih2 ih
  | okL => exact List.IsSuffix.trans ih2 ih
  | bad => trivial
 | exprBad => trivial
 | loopEnd => exact List.suffix_refl _
 | @loopMore _ _ _ _ _ _ _ r _ _ _ ih ih2 =>
  cases r with
  | ok => exact suf_cons (List.IsSuffix.trans ih2 ih)
  | okL => exact suf_cons (List.IsSuffix.trans ih2 ih)
  | bad => trivial
 | loopBad => trivial
theorem P.suf {o : Nat} {j : Job} {ts ts' : List Wd} {x : Ex} (h : P o j ts (.ok x ts')) : ts' <:+ ts:=h.suf0
open Go Go.RowKit
def blankR (r : Int) : Bool:=decide (r = 32 ∨ r = 9 ∨ r = 10 ∨ r = 13)
def letterR (r : Int) : Bool:=decide ((65 ≤ r ∧ r ≤ 90) ∨ (97 ≤ r ∧ r ≤ 122) ∨ r = 95)
def digitR (r : Int) : Bool:=decide (48 ≤ r ∧ r ≤ 57)
theorem ret_bool {a b : Bool} (h : a = b) : Ending.returned (.bool a) = .returned (.bool b):=by rw [h]
theorem rletter_any (r : Int) (w : World) : Calls Try.prog 41 #[.int .u8 r] w fun e w' => e = .returned (.bool (letterR r)) ∧ w = w':=by
 go_enter Try.func41,Try.ntmps41
 go_wp2
 all_goals
  go_ret
  exact ⟨ret_bool (by rw [Bool.eq_iff_iff];simp [letterR] <;> omega),rfl⟩
theorem rdigit_any (r : Int) (w : World) : Calls Try.prog 42 #[.int .u8 r] w fun e w' => e = .returned (.bool (digitR r)) ∧ w = w':=by
 go_enter Try.func42,Try.ntmps42
 go_wp2
 all_goals
  go_ret
  exact ⟨ret_bool (by rw [Bool.eq_iff_iff];simp [digitR] <;> omega),rfl⟩
def Rn (r : Int) (c : UInt8) : Prop:=(c.toNat < 128 ∧ r = c.toNat) ∨ (128 ≤ c.toNat ∧ 128 ≤ r)
theorem Rn.blank {r : Int} {c : UInt8} (h : Rn r c) : blankR r = isBlank c:=by
 have e : isBlank c = decide (c.toNat = 32 ∨ c.toNat = 9 ∨ c.toNat = 10 ∨ c.toNat = 13):=by
  rw [Bool.eq_iff_iff]
  simp [isBlank,← UInt8.toNat_inj]
  omega
 rw [e,Bool.eq_iff_iff]
 simp only [blankR,decide_eq_true_eq]
 rcases h with ⟨h1,rfl⟩ | ⟨h1,h2⟩ <;> omega
theorem Rn.letter {r : Int} {c : UInt8} (h : Rn r c) : letterR r = isLetter c:=by
 rw [Bool.eq_iff_iff]
 simp only [letterR,isLetter,decide_eq_true_eq,Bool.or_eq_true,Bool.and_eq_true]
 rcases h with ⟨h1,rfl⟩ | ⟨h1,h2⟩ <;> omega
theorem letterR_byte (c : UInt8) : letterR c.toNat = isLetter c:=by
 rw [Bool.eq_iff_iff]
 simp only [letterR,isLetter,decide_eq_true_eq,Bool.or_eq_true,Bool.and_eq_true]
 omega
theorem digitR_byte (c : UInt8) : digitR c.toNat = isDigit c:=by
 rw [Bool.eq_iff_iff]
 simp only [digitR,isDigit,decide_eq_true_eq,Bool.and_eq_true]
 omega
theorem Rn.nl {r : Int} {c : UInt8} (h : Rn r c) : (r == 10) = (c == 10):=by
 rw [Bool.eq_iff_iff]
 simp only [beq_iff_eq,← UInt8.toNat_inj]
 rcases h with ⟨h1,rfl⟩ | ⟨h1,h2⟩
 · show (c.toNat : Int) = 10 ↔ c.toNat = 10
   omega
 · show r = 10 ↔ c.toNat = 10
   omega
inductive Comes (s : ByteArray) : Nat → Nat → Prop
 | here (q : Nat) : Comes s q q
 | on (p q : Nat) : p < q → Comes s (p + (Utf8.decode s p).2) q → Comes s p q
theorem Comes.step {s : ByteArray} {p q : Nat} (h : Comes s p q) (hpq : p < q) : Comes s (p + (Utf8.decode s p).2) q:=by
 cases h with
 | here => exact absurd hpq (by omega)
 | on _ _ _ h => exact h
theorem ret_str {a b : ByteArray} (h : a = b) : Ending.returned (.string a) = .returned (.string b):=by rw [h]
theorem ret_i {a b : Int} (h : a = b) : Ending.returned (.int .i64 a) = .returned (.int .i64 b):=by rw [h]
theorem opGo_hit (s : ByteArray) (k : Nat) (hk : k < 19) (h : ((sgn k).toList == s.toList) = true) : opGo s (19 - k) k = k:=by
 have e : 19 - k = (19 - (k + 1)) + 1:=by omega
 rw [e,opGo,if_pos h]
theorem opGo_miss (s : ByteArray) (k : Nat) (hk : k < 19) (h : ((sgn k).toList == s.toList) = false) : opGo s (19 - k) k = opGo s (19 - (k + 1)) (k + 1):=by
 have e : 19 - k = (19 - (k + 1)) + 1:=by omega
 rw [e,opGo,if_neg (by simp [h])]
theorem opGo_end (s : ByteArray) (k : Nat) (hk : ¬ k < 19) : opGo s (19 - k) k = -1:=by
 have e : 19 - k = 0:=by omega
 rw [e,opGo]
open Go Go.RowKit Go.Sort
def dig (n : Int) : ByteArray:=⟨(Lib.itoa n).toArray⟩
def numM (s : ByteArray) : Int × Bool :=
 if 19 < s.size then (0,false)
 else match Lib.parseIntB 64 s.data.toList with
  | .ok v => if v < 0 then (0,false) else if (dig v).toList == s.toList then (v,true) else (0,false)
  | _ => (0,false)
theorem at_list (s : ByteArray) (i : Nat) (h : i < s.size) : s.data.toList[i]? = some (s[i]'h):=by
 rw [List.getElem?_eq_getElem (by simpa using h)]
 rfl
def NoNl (s : ByteArray) (k : Nat) : Prop:=∀ i (h : i < s.size),i < k → (s[i]'h) ≠ 10
def AllPart (s : ByteArray) (k : Nat) : Prop:=∀ i (h : i < s.size),i < k → isPart (s[i]'h) = true
theorem AllPart.step {s : ByteArray} {k : Nat} (h : AllPart s k) (hk : k < s.size) (hp : isPart (s[k]'hk) = true) : AllPart s (k + 1):=by
 intro i hi h2
 by_cases e : i = k
 · subst e
   exact hp
 · exact h i hi (by omega)
theorem two_of (s : ByteArray) (h2 : 1 < s.size) : ∃ a b r,s.data.toList = a :: b :: r ∧ (s.extract 0 2).toList = [a,b] ∧ s[0]'(by omega) = a:=by
 have h : s.data.toList.length = s.size:=rfl
 match hl : s.data.toList,h with
 | [],h => simp at h;omega
 | [a],h => simp at h;omega
 | a :: b :: r,h =>
  refine ⟨a,b,r,rfl,?_,?_⟩
  · rw [Lib.extract_toList,hl];rfl
  · have:=at_list s 0 (by omega)
    rw [hl] at this
    simpa using this.symm
theorem one_of (s : ByteArray) (h2 : s.size = 1) : ∃ a,s.data.toList = [a] ∧ s[0]'(by omega) = a:=by
 have h : s.data.toList.length = s.size:=rfl
 match hl : s.data.toList,h with
 | [],h => simp at h;omega
 | [a],h =>
  refine ⟨a,rfl,?_⟩
  have:=at_list s 0 (by omega)
  rw [hl] at this
  simpa using this.symm
 | a :: b :: r,h => simp at h;omega
theorem sgn_pair (s : ByteArray) (h2 : 1 < s.size) (p : List UInt8) (hp : pairL.contains p = true) (h : ((s.extract 0 2).toList == p) = true) : sgnLen s.data.toList = 2:=by
 obtain ⟨a,b,r,e1,e2,_⟩:=two_of s h2
 rw [e2,beq_iff_eq] at h
 subst h
 rw [e1]
 simp only [sgnLen,hp,if_true]
theorem sgn_single (s : ByteArray) (h2 : 1 < s.size) (g0 : ((s.extract 0 2).toList == [38,38]) = false) (g1 : ((s.extract 0 2).toList == [124,124]) = false) (g2 : ((s.extract 0 2).toList == [61,61]) = false) (g3 : ((s.extract 0 2).toList == [33,61]) = false) (g4 : ((s.extract 0 2).toList == [60,61]) = false) (g5 : ((s.extract 0 2).toList == [62,61]) = false) (g6 : ((s.extract 0 2).toList == [60,60]) = false) (g7 : ((s.extract 0 2).toList == [62,62]) = false) : sgnLen s.data.toList = if oneL.contains (s[0]'(by omega)) = true then 1 else 0:=by
 obtain ⟨a,b,r,e1,e2,e3⟩:=two_of s h2
 rw [e2] at g0 g1 g2 g3 g4 g5 g6 g7
 have hp : pairL.contains [a,b] = false:=by
  simp only [pairL,List.contains_cons,List.contains_nil,g0,g1,g2,g3,g4,g5,g6,g7]
  rfl
 rw [e1,e3]
 simp only [sgnLen,hp,if_false,Bool.false_eq_true]
theorem sgn_one (s : ByteArray) (h2 : s.size = 1) : sgnLen s.data.toList = if oneL.contains (s[0]'(by omega)) = true then 1 else 0:=by
 obtain ⟨a,e1,e3⟩:=one_of s h2
 rw [e1,e3]
 rfl
abbrev wordV (k : Int) (t : ByteArray) (n a : Int) : Value:=.agg #[.int .i64 k,.string t,.int .i64 n,.int .i64 a]
theorem bcell {W w1 : World} (hb : Below W.heap.size W w1) : (∀ b o,b < W.heap.size → w1.cell? ⟨b,o,none⟩ = W.cell? ⟨b,o,none⟩) ∧ (∀ b o,b < W.heap.size → w1.frozen? ⟨b,o,none⟩ = W.frozen? ⟨b,o,none⟩) :=
 ⟨fun b o h => hb.cell (p:=⟨b,o,none⟩) h,fun b o h => hb.frozen (p:=⟨b,o,none⟩) h⟩
theorem below_after {w w1 : World} {o : Obj} (h : Below (w.alloc o).heap.size (w.alloc o) w1) : Below w.heap.size w w1:=((Below.refl _ _).alloc (Nat.le_refl _) _).trans (h.mono (by simp))
def numO (l : List UInt8) : Option Int:=match numM ⟨l.toArray⟩ with | (v,true) => some v | (_,false) => none
theorem numO_some {l : List UInt8} {v : Int} (h : numO l = some v) : numM ⟨l.toArray⟩ = (v,true):=by
 unfold numO at h
 split at h
 · rename_i e
   cases h
   exact e
 · cases h
theorem numO_none {l : List UInt8} (h : numO l = none) : ∃ v,numM ⟨l.toArray⟩ = (v,false):=by
 unfold numO at h
 split at h
 · cases h
 · rename_i e
   exact ⟨_,e⟩
theorem take_ext (s : ByteArray) (n : Nat) : s.extract 0 n = ⟨(s.data.toList.take n).toArray⟩:=by rw [Lib.extract_eq];rfl
def gapN (l : List UInt8) : Nat:=if isBlank (l.headD 0) = true then 1 else if l.head? = some 47 ∧ l.tail.head? = some 47 then noteL l else 0
def wcells (x : Wd) : List Value:=[.int .i64 x.k,.string ⟨x.t.toArray⟩,.int .i64 x.n,.int .i64 x.a]
def cellsW (l : List Wd) : List Value:=l.flatMap wcells
theorem cellsW_snoc (l : List Wd) (x : Wd) : cellsW (l ++ [x]) = cellsW l ++ wcells x:=by simp [cellsW]
theorem cellsW_at : ∀ (l : List Wd) (i : Nat) (x : Wd) (j : Nat) (u : Value),l[i]? = some x → (wcells x)[j]? = some u → (cellsW l)[i * 4 + j]? = some u
 | [],i,x,j,u,h,_ => by simp at h
 | y :: r,0,x,j,u,h,hu => by
  simp at h
  subst h
  have hj : j < 4:=(List.getElem?_eq_some_iff.1 hu).1
  show (wcells y ++ cellsW r)[0 * 4 + j]? = _
  rw [List.getElem?_append_left (by show 0 * 4 + j < 4;omega),Nat.zero_mul,Nat.zero_add]
  exact hu
 | y :: r,i + 1,x,j,u,h,hu => by
  show (wcells y ++ cellsW r)[(i + 1) * 4 + j]? = _
  rw [List.getElem?_append_right (by show 4 ≤ _;omega)]
  have e : (i + 1) * 4 + j - (wcells y).length = i * 4 + j:=by show (i + 1) * 4 + j - 4 = _;omega
  rw [e]
  exact cellsW_at r i x j u (by simpa using h) hu
theorem own_below {W W' : World} {B e size n : Nat} {v : Value} {xs : List Value} (h : W.ownsRow B e size v n xs) (hb : Below W.heap.size W W') : W'.ownsRow B e size v n xs:=by
 refine ⟨h.1,?_⟩
 rcases h.2 with h0 | ⟨g,cap,cur,hv,hB,hg,rest⟩
 · exact .inl h0
 · exact .inr ⟨g,cap,cur,hv,hB,(hb.block g (Array.getElem?_eq_some_iff.1 hg).1).trans hg,rest⟩
theorem add_off (g j : Nat) : (⟨g,0,none⟩ : Addr).add j = ⟨g,j,none⟩:=by
 unfold Addr.add
 split <;> simp_all
theorem cell_four_new (w : World) (T : TypeId) (a b c d : Value) (j : Nat) (u : Value) (h : [a,b,c,d][j]? = some u) : (w.alloc (.cells #[a,b,c,d] T)).cell? ((⟨w.heap.size,0,none⟩ : Addr).add j) = some u:=by
 rw [add_off,cell_of_row _ _ j #[a,b,c,d] T (0,0) (heap_alloc_new w _)]
 simpa using h
theorem cell_four_at (w : World) (T : TypeId) (a b c d : Value) (g : Nat) (hg : g = w.heap.size) (j : Nat) (u : Value) (h : [a,b,c,d][j]? = some u) : (w.alloc (.cells #[a,b,c,d] T)).cell? ((⟨g,0,none⟩ : Addr).add j) = some u:=by
 subst hg
 exact cell_four_new w T a b c d j u h
theorem four_one (a : Int) (t : ByteArray) (c d : Int) : ∀ u ∈ [Value.int .i64 a,Value.string t,Value.int .i64 c,Value.int .i64 d],u.oneCell' = true:=by
 intro u hu
 simp at hu
 rcases hu with rfl | rfl | rfl | rfl <;> rfl
theorem row_at {w : World} {B e n : Nat} {g cap : Nat} {W : List Wd} (h : w.ownsRow B e 4 (.slice (some ⟨g,0,none⟩) n cap) W.length (cellsW W)) {i : Nat} {x : Wd} (hx : W[i]? = some x) :
 w.cell? ⟨g,i * 4,none⟩ = some (.int .i64 x.k) ∧ w.cell? ⟨g,i * 4 + 1,none⟩ = some (.string ⟨x.t.toArray⟩) ∧ w.cell? ⟨g,i * 4 + 2,none⟩ = some (.int .i64 x.n) ∧ w.cell? ⟨g,i * 4 + 3,none⟩ = some (.int .i64 x.a):=by
 have key : ∀ j u,(wcells x)[j]? = some u → w.cell? ⟨g,i * 4 + j,none⟩ = some u:=by
  intro j u hu
  have:=h.cells (g:=g) rfl (i * 4 + j) u (cellsW_at W i x j u hx hu)
  rwa [add_off] at this
 exact ⟨key 0 _ rfl,key 1 _ rfl,key 2 _ rfl,key 3 _ rfl⟩
theorem clone_any (s : ByteArray) (w : World) (h : s.size ≤ 281474976710656) : Calls Try.prog 33 #[.string s] w fun e w' => e = .returned (.string s) ∧ Below w.heap.size w w':=by
 go_enter Try.func33,Try.ntmps33
 go_wp2_with (go_at_call 59;refine (Try.stringslite_Clone _ _ h).mono ?_;rintro e' w1 ⟨rfl,hb1⟩)
 go_ret
 exact ⟨rfl,hb1⟩
theorem rest_size (s : ByteArray) (p : Nat) : (s.extract p s.size).size = s.size - p:=by rw [ByteArray.size_extract];omega
theorem rest_list (s : ByteArray) (p : Nat) : (s.extract p s.size).data.toList = s.data.toList.drop p:=Lib.extract_to_end s p
theorem drop_ne (s : ByteArray) (p : Nat) (hp : p < s.size) : s.data.toList.drop p ≠ []:=by
 intro h
 have:=congrArg List.length h
 rw [List.length_drop] at this
 simp at this
 have e : s.data.size = s.size:=rfl
 omega
theorem drop_len (s : ByteArray) (p : Nat) : (s.data.toList.drop p).length = s.size - p:=by rw [List.length_drop];rfl
theorem list_at (s : ByteArray) (p i : Nat) (h : p + i < s.size) : (s.data.toList.drop p)[i]? = some (s[p + i]'h):=by rw [List.getElem?_drop,at_list s (p + i) h]
theorem take_all {α : Type} (p : α → Bool) : ∀ (l : List α) (i : Nat) (x : α),i < (l.takeWhile p).length → l[i]? = some x → p x = true
 | [],i,x,h,_ => by simp at h
 | c :: r,i,x,h,hx => by
  rw [List.takeWhile_cons] at h
  split at h
  · rename_i hc
    cases i with
    | zero =>
     simp at hx
     rw [← hx]
     exact hc
    | succ i => exact take_all p r i x (by simpa using h) (by simpa using hx)
  · simp at h
theorem note_end {l : List UInt8} {x : UInt8} (hx : l[noteL l]? = some x) : x = 10:=by
 unfold noteL at hx
 induction l with
 | nil => simp at hx
 | cons c r ih =>
  rw [List.takeWhile_cons] at hx
  split at hx
  · exact ih (by simpa using hx)
  · rename_i hc
    simp at hx hc
    rw [← hx]
    exact hc
def bstr (t : List UInt8) : ByteArray:=⟨t.toArray⟩
theorem bstr_eq {a b : List UInt8} : ((bstr a).toList == (bstr b).toList) = decide (a = b):=by
 rw [ByteArray.toList_eq,ByteArray.toList_eq]
 show (a == b) = _
 by_cases h : a = b <;> simp [h]
def rdCells (sl mp : Value) (nx op bad at' : Int) : Array Value:=#[sl,.int .i64 nx,.int .i64 op,mp,.int .i64 bad,.int .i64 at']
abbrev wdV (x : Wd) : Value:=wordV x.k (bstr x.t) x.n x.a
structure WCells (W : World) (g : Nat) (ws : List Wd) : Prop where
 lt : g < W.heap.size
 at_ : ∀ i x,ws[i]? = some x → W.cell? ⟨g,i * 4,none⟩ = some (.int .i64 x.k) ∧ W.cell? ⟨g,i * 4 + 1,none⟩ = some (.string (bstr x.t)) ∧ W.cell? ⟨g,i * 4 + 2,none⟩ = some (.int .i64 x.n) ∧ W.cell? ⟨g,i * 4 + 3,none⟩ = some (.int .i64 x.a)
theorem WCells.kept {W X : World} {g : Nat} {ws : List Wd} (h : WCells W g ws) (hb : ∀ k,k = g → X.heap[k]? = W.heap[k]?) (hs : W.heap.size ≤ X.heap.size) : WCells X g ws where
 lt:=Nat.lt_of_lt_of_le h.lt hs
 at_ i x hx:=by
  have hk : ∀ o,X.cell? ⟨g,o,none⟩ = W.cell? ⟨g,o,none⟩:=fun o => World.cell?_of_block (a:=⟨g,o,none⟩) (hb g rfl)
  rw [hk,hk,hk,hk]
  exact h.at_ i x hx
open Go Go.ChangeMaps Go.MapKept Go.WideElems Go.Maps
def fnElem : Value → Option (DataW Unit × List MemPlace)
 | .func (.func n) fs cs => if fs.size = 0 ∧ cs.size = 0 then some (.lit (.int .i64 n),[]) else none
 | .nilFunc => some (.nil,[])
 | _ => none
open Go Go.RowKit Go.Maps Go.WideMaps
def keyD : DataW Unit:=setOf (.agg []) (keyL.map Lit.string)
def keyP (k : Nat) : ByteArray:=⟨(keyL.getD k []).toArray⟩
def keysC : Array Value:=#[.string ⟨#[112,117,98,108,105,99]⟩,.string ⟨#[115,101,99,114,101,116]⟩,.string ⟨#[105,110,116]⟩,.string ⟨#[98,111,111,108]⟩,.string ⟨#[98,121]⟩,.string ⟨#[108,111,99,107]⟩,.string ⟨#[102,117,110,99]⟩,.string ⟨#[114,101,116,117,114,110]⟩,.string ⟨#[116,104,114,101,97,100]⟩,.string ⟨#[118,97,114]⟩,.string ⟨#[105,102]⟩,.string ⟨#[101,108,115,101]⟩,.string ⟨#[119,104,105,108,101]⟩,.string ⟨#[111,117,116]⟩,.string ⟨#[116,114,117,101]⟩,.string ⟨#[102,97,108,115,101]⟩]
theorem keys_at (k : Nat) (h : k < 16) : keysC[k]? = some (.string (keyP k)):=by
 match k,h with
 | 0,_ => rfl
 | 1,_ => rfl
 | 2,_ => rfl
 | 3,_ => rfl
 | 4,_ => rfl
 | 5,_ => rfl
 | 6,_ => rfl
 | 7,_ => rfl
 | 8,_ => rfl
 | 9,_ => rfl
 | 10,_ => rfl
 | 11,_ => rfl
 | 12,_ => rfl
 | 13,_ => rfl
 | 14,_ => rfl
 | 15,_ => rfl
 | k + 16,h => exact absurd h (by omega)
def NoKey (s : ByteArray) (k : Nat) : Prop:=∀ j,j < k → ((keyP j).toList == s.toList) = false
theorem NoKey.step {s : ByteArray} {k : Nat} (h : NoKey s k) (h2 : ((keyP k).toList == s.toList) = false) : NoKey s (k + 1):=by
 intro j hj
 by_cases e : j = k
 · subst e
   exact h2
 · exact h j (by omega)
theorem key_yes {s : ByteArray} {k : Nat} (hk : k < 16) (h : ((keyP k).toList == s.toList) = true) : keyB s.data.toList = true:=by
 unfold keyB
 rw [List.any_eq_true]
 have hk2 : k < keyL.length:=hk
 refine ⟨keyL[k],List.getElem_mem hk2,?_⟩
 rw [ByteArray.toList_eq,ByteArray.toList_eq] at h
 have e : (keyP k).data.toList = keyL[k]:=by
  show keyL.getD k [] = _
  rw [List.getD_eq_getElem?_getD,List.getElem?_eq_getElem hk2]
  rfl
 rw [e] at h
 exact h
theorem key_no {s : ByteArray} (h : NoKey s 16) : keyB s.data.toList = false:=by
 unfold keyB
 rw [List.any_eq_false]
 intro x hx
 obtain ⟨k,hk,rfl⟩:=List.getElem_of_mem hx
 have h1:=h k hk
 rw [ByteArray.toList_eq,ByteArray.toList_eq] at h1
 have e : (keyP k).data.toList = keyL[k]:=by
  show keyL.getD k [] = _
  rw [List.getD_eq_getElem?_getD,List.getElem?_eq_getElem hk]
  rfl
 rw [e] at h1
 simpa using h1
theorem rkey_any (s : ByteArray) (w : World) : Calls Try.prog 63 #[.string s] w fun e w' => e = .returned (.bool (keyB s.data.toList)) ∧ Below w.heap.size w w':=by
 go_enter Try.func63,Try.ntmps63
 go_wp2
 go_loopw [4] (fun i wr => ∃ k : Nat,i = .int .i64 k ∧ k ≤ 16 ∧ wr = (w.alloc (.cells keysC 9)) ∧ Hid (NoKey s k)) (fun i _ => 16 - (intOf i).toNat)
 case atStart => exact ⟨0,rfl,by omega,rfl,hid (fun j h => absurd h (by omega))⟩
 case round =>
  obtain ⟨k,rfl,hk,rfl,HU⟩:=hrel
  by_cases hlt : k < 16
  · obtain ⟨P,hP⟩ : ∃ P,P = keyP k:=⟨_,rfl⟩
    have hcell : (w.alloc (.cells keysC 9)).cell? ⟨w.heap.size,k,none⟩ = some (.string P):=by
     rw [hP,← keys_at k hlt]
     exact cell_of_row _ _ k keysC 9 (0,0) (heap_alloc_new w _)
    have HP:=hid hP
    clear hP
    have hk2 : (k : Int) < 16:=by omega
    have hk0 : (0 : Int) ≤ k:=by omega
    cases he : (P.toList == s.toList)
    · go_wp2
      go_roundw
      case rel => exact ⟨k + 1,by go_num,by omega,(by first | rfl | trivial),hid (HU.out.step (by rw [← HP.out];exact he))⟩
      case measure => simp [intOf];omega
    · have HR:=hid (key_yes hlt (by rw [← HP.out];exact he))
      go_wp2
      go_ret
      exact ⟨ret_bool (by rw [HR.out]),(Below.refl _ _).alloc (Nat.le_refl _) _⟩
  · obtain rfl : k = 16:=by omega
    have HR:=hid (key_no HU.out)
    go_wp2
    go_ret
    exact ⟨ret_bool (by rw [HR.out]),(Below.refl _ _).alloc (Nat.le_refl _) _⟩
abbrev opnV (k : Int) (t : ByteArray) : Value:=.agg #[.int .i64 k,.string t]
abbrev exV (k op n : Int) (nm : ByteArray) (ks : Value) (a : Int) : Value:=.agg #[.int .i64 k,.int .i64 op,.int .i64 n,.string nm,ks,.int .i64 a]
def bkey : Nat → Value
 | 0 => opnV 2 ⟨#[45]⟩
 | 1 => opnV 2 ⟨#[33]⟩
 | 2 => opnV 2 ⟨#[40]⟩
 | 3 => opnV 1 ⟨#[]⟩
 | 4 => opnV 0 ⟨#[116,114,117,101]⟩
 | 5 => opnV 0 ⟨#[102,97,108,115,101]⟩
 | _ => opnV 0 ⟨#[]⟩
def exCells (e : Ex) (v : Value) : List Value:=[.int .i64 e.k,.int .i64 e.op,.int .i64 e.n,.string (bstr e.nm),v,.int .i64 e.a]
abbrev exVal (e : Ex) (v : Value) : Value:=.agg #[.int .i64 e.k,.int .i64 e.op,.int .i64 e.n,.string (bstr e.nm),v,.int .i64 e.a]
inductive IsEx (lo : Nat) (W : World) : Ex → Value → Prop
 | leaf {k o n : Int} {nm : List UInt8} {a : Nat} : IsEx lo W (.mk k o n nm [] a) (.slice none 0 0)
 | node {k o n : Int} {nm : List UInt8} {ks : List Ex} {a : Nat} (g cap : Nat) (cs : Array Value) (fr : Nat × Nat) (vs : Nat → Value) : lo ≤ g → W.heap[g]? = some (.cells cs 63 fr) → ks ≠ [] →
  (∀ i e,ks[i]? = some e → ∀ j u,(exCells e (vs i))[j]? = some u → cs[i * 6 + j]? = some u) → (∀ i e,ks[i]? = some e → IsEx lo W e (vs i)) → IsEx lo W (.mk k o n nm ks a) (.slice (some ⟨g,0,none⟩) ks.length cap)
theorem IsEx.kept {lo : Nat} {W X : World} {e : Ex} {v : Value} (h : IsEx lo W e v) (hk : ∀ g,lo ≤ g → g < W.heap.size → X.heap[g]? = W.heap[g]?) : IsEx lo X e v:=by
 induction h with
 | leaf => exact .leaf
 | node g cap cs fr vs hg hb hne hc _ ih => exact .node g cap cs fr vs hg ((hk g hg (Array.getElem?_eq_some_iff.1 hb).1).trans hb) hne hc ih
theorem IsEx.low {lo lo' : Nat} {W : World} {e : Ex} {v : Value} (h : IsEx lo W e v) (hl : lo' ≤ lo) : IsEx lo' W e v:=by
 induction h with
 | leaf => exact .leaf
 | node g cap cs fr vs hg hb hne hc _ ih => exact .node g cap cs fr vs (by omega) hb hne hc ih
theorem IsEx.fr {lo rb : Nat} {W X : World} {e : Ex} {v : Value} (h : IsEx lo W e v) (hf : Fr (some rb) W X) (hr : rb < lo) : IsEx lo X e v :=
 h.kept fun g hg hl => hf.block hl (by simp;omega)
theorem IsEx.stay {lo : Nat} {W X : World} {e : Ex} {v : Value} (h : IsEx lo W e v) (hf : Below W.heap.size W X) : IsEx lo X e v:=h.kept fun g _ hl => hf.block g hl
theorem IsEx.alloc {lo : Nat} {W : World} {e : Ex} {v : Value} (h : IsEx lo W e v) (o : Obj) : IsEx lo (W.alloc o) e v:=h.stay ((Below.refl _ _).alloc (Nat.le_refl _) _)
theorem IsEx.drewN {lo : Nat} {W : World} {e : Ex} {v : Value} (h : IsEx lo W e v) (n : Nat) : IsEx lo (W.drewN n) e v:=h.kept fun _ _ _ => rfl
theorem IsEx.drew {lo : Nat} {W : World} {e : Ex} {v : Value} (h : IsEx lo W e v) : IsEx lo W.drew e v:=h.kept fun _ _ _ => rfl
theorem IsEx.set {lo : Nat} {W : World} {e : Ex} {v : Value} (h : IsEx lo W e v) {b : Nat} (hb : b < lo) (o : Nat) (x : Value) : IsEx lo (W.setCell ⟨b,o,none⟩ x) e v :=
 h.kept fun g hg _ => heap_setCell_other W ⟨b,o,none⟩ g x (by simp;omega)
theorem IsEx.recast {lo : Nat} {W : World} {k o n k' o' n' : Int} {nm nm' : List UInt8} {ks : List Ex} {a a' : Nat} {v : Value} (h : IsEx lo W (.mk k o n nm ks a) v) : IsEx lo W (.mk k' o' n' nm' ks a') v:=by
 cases h with
 | leaf => exact .leaf
 | node g cap cs fr vs hg hb hne hc hi => exact .node g cap cs fr vs hg hb hne hc hi
theorem IsEx.form {lo : Nat} {W : World} {e : Ex} {v : Value} (h : IsEx lo W e v) : ∃ p c,v = .slice p e.ks.length c:=by
 cases h with
 | leaf => exact ⟨_,_,rfl⟩
 | node g cap => exact ⟨_,_,rfl⟩
theorem IsEx.kid {lo : Nat} {W : World} {e : Ex} {v : Value} (h : IsEx lo W e v) {i : Nat} {x : Ex} (hx : e.ks[i]? = some x) :
 ∃ g cap u,v = .slice (some ⟨g,0,none⟩) e.ks.length cap ∧ lo ≤ g ∧ g < W.heap.size ∧ IsEx lo W x u ∧
  W.cell? ⟨g,i * 6,none⟩ = some (.int .i64 x.k) ∧ W.cell? ⟨g,i * 6 + 1,none⟩ = some (.int .i64 x.op) ∧ W.cell? ⟨g,i * 6 + 2,none⟩ = some (.int .i64 x.n) ∧ W.cell? ⟨g,i * 6 + 3,none⟩ = some (.string (bstr x.nm)) ∧ W.cell? ⟨g,i * 6 + 4,none⟩ = some u ∧ W.cell? ⟨g,i * 6 + 5,none⟩ = some (.int .i64 x.a):=by
 cases h with
 | leaf => simp [Ex.ks] at hx
 | node g cap cs fr vs hg hb hne hc hi =>
  have key : ∀ j u,(exCells x (vs i))[j]? = some u → W.cell? ⟨g,i * 6 + j,none⟩ = some u:=fun j u hu => by
   rw [cell_of_row _ _ _ _ _ _ hb]
   exact hc i x hx j u hu
  exact ⟨g,cap,vs i,rfl,hg,(Array.getElem?_eq_some_iff.1 hb).1,hi i x hx,key 0 _ rfl,key 1 _ rfl,key 2 _ rfl,key 3 _ rfl,key 4 _ rfl,key 5 _ rfl⟩
theorem heap_new (W : World) (o : Obj) : (W.alloc o).heap[W.heap.size]? = some o:=by
 show (W.heap.push o)[W.heap.size]? = some o
 simp
theorem IsEx.one {lo : Nat} {W : World} {x : Ex} {u : Value} (h : IsEx lo W x u) (hl : lo ≤ W.heap.size) (k o n : Int) (nm : List UInt8) (a : Nat) :
 IsEx lo (W.alloc (.cells #[.int .i64 x.k,.int .i64 x.op,.int .i64 x.n,.string (bstr x.nm),u,.int .i64 x.a] 63)) (.mk k o n nm [x] a) (.slice (some ⟨W.heap.size,0,none⟩) 1 1):=by
 refine .node W.heap.size 1 _ (0,0) (fun _ => u) hl (heap_new _ _) (by simp) ?_ ?_
 · intro i e he j v hv
   cases i with
   | zero =>
    simp at he
    subst he
    simpa [exCells] using hv
   | succ i => simp at he
 · intro i e he
   cases i with
   | zero =>
    simp at he
    subst he
    exact h.stay ((Below.refl _ _).alloc (Nat.le_refl _) _)
   | succ i => simp at he
theorem IsEx.two {lo : Nat} {W : World} {x y : Ex} {u v : Value} (h : IsEx lo W x u) (h2 : IsEx lo W y v) (hl : lo ≤ W.heap.size) (k o n : Int) (nm : List UInt8) (a : Nat) :
 IsEx lo (W.alloc (.cells #[.int .i64 x.k,.int .i64 x.op,.int .i64 x.n,.string (bstr x.nm),u,.int .i64 x.a,.int .i64 y.k,.int .i64 y.op,.int .i64 y.n,.string (bstr y.nm),v,.int .i64 y.a] 63)) (.mk k o n nm [x,y] a) (.slice (some ⟨W.heap.size,0,none⟩) 2 2):=by
 refine .node W.heap.size 2 _ (0,0) (fun i => if i = 0 then u else v) hl (heap_new _ _) (by simp) ?_ ?_
 · intro i e he j w hw
   match i,he with
   | 0,he =>
    simp at he
    subst he
    simp only [exCells,if_true] at hw
    match j,hw with
    | 0,hw | 1,hw | 2,hw | 3,hw | 4,hw | 5,hw => simpa using hw
    | j + 6,hw => simp at hw
   | 1,he =>
    simp at he
    subst he
    simp only [exCells,if_neg (show ¬ (1 = 0) by decide)] at hw
    match j,hw with
    | 0,hw | 1,hw | 2,hw | 3,hw | 4,hw | 5,hw => simpa using hw
    | j + 6,hw => simp at hw
   | i + 2,he => simp at he
 · intro i e he
   have hb : Below W.heap.size W (W.alloc (.cells #[.int .i64 x.k,.int .i64 x.op,.int .i64 x.n,.string (bstr x.nm),u,.int .i64 x.a,.int .i64 y.k,.int .i64 y.op,.int .i64 y.n,.string (bstr y.nm),v,.int .i64 y.a] 63)):=(Below.refl _ _).alloc (Nat.le_refl _) _
   match i,he with
   | 0,he =>
    simp at he
    subst he
    exact h.stay hb
   | 1,he =>
    simp at he
    subst he
    exact h2.stay hb
   | i + 2,he => simp at he
theorem IsEx.twoAt {lo n : Nat} {W : World} {x y : Ex} {u v : Value} (h : IsEx lo W x u) (h2 : IsEx lo W y v) (hl : lo ≤ W.heap.size) (hn : n = W.heap.size) (k o m : Int) (nm : List UInt8) (a : Nat) :
 IsEx lo (W.alloc (.cells #[.int .i64 x.k,.int .i64 x.op,.int .i64 x.n,.string (bstr x.nm),u,.int .i64 x.a,.int .i64 y.k,.int .i64 y.op,.int .i64 y.n,.string (bstr y.nm),v,.int .i64 y.a] 63)) (.mk k o m nm [x,y] a) (.slice (some ⟨n,0,none⟩) 2 2):=hn ▸ h.two h2 hl k o m nm a
theorem suf_at {ws ts : List Wd} {w : Wd} (h : (w :: ts) <:+ ws) : ws[ws.length - (w :: ts).length]? = some w ∧ ws.length - (w :: ts).length + 1 = ws.length - ts.length ∧ ts <:+ ws:=by
 obtain ⟨pre,rfl⟩:=h
 refine ⟨?_,?_,?_⟩
 · simp
 · simp
   omega
 · exact ⟨pre ++ [w],by simp⟩
def Junk (v : Value) : Prop:=∃ (k o n : Int) (nm : ByteArray) (p : Option Addr) (l c : Nat) (a : Int),v = exV k o n nm (.slice p l c) a
def JunkL (v : Value) : Prop:=∃ (p : Option Addr) (l c : Nat),v = .slice p l c
theorem Junk.zero : Junk (exV 0 0 0 ⟨#[]⟩ (.slice none 0 0) 0):=⟨_,_,_,_,_,_,_,_,rfl⟩
theorem Junk.of (k o n : Int) (nm : ByteArray) (p : Option Addr) (l c : Nat) (a : Int) : Junk (exV k o n nm (.slice p l c) a):=⟨_,_,_,_,_,_,_,_,rfl⟩
def Job.wt : Job → Nat | .thing => 1 | .expr _ => 2 | .list _ => 3 | _ => 0
def Job.may : Job → List Wd → Prop
 | .beh _,ts => ∀ w t,ts = w :: t → w.k = 2
 | .wth _,ts => ∀ w t,ts = w :: t → w.k = 2
 | .giv,ts => ∀ w t,ts = w :: t → w.k = 2
 | .nam,ts => ∀ w t,ts = w :: t → w.k = 0
 | .expr r,_ => 1 ≤ r ∧ r ≤ 11
 | .loop r _,_ => 1 ≤ r ∧ r ≤ 11
 | _,_ => True
theorem P.post' {o : Nat} {j : Job} {ts : List Wd} {r : Res} (h : P o j ts r) (hm : j.may ts) (hf : Fin ts) : Post j ts r:=by
 refine h.post ?_ hf ?_ ?_ ?_ ?_
 · cases j <;> first | exact hm.1 | trivial
 · rintro rfl;exact hm
 · rintro k rfl;exact hm
 · rintro c rfl;exact hm
 · rintro rfl;exact hm
mutual
def Ex.eqv : Ex → Ex → Bool
 | .mk k o n t ks _,.mk k' o' n' t' ks' _ => (k == k') && (o == o') && (n == n') && (t == t') && Ex.eqvL ks ks'
def Ex.eqvL : List Ex → List Ex → Bool
 | [],[] => true
 | x :: r,y :: q => Ex.eqv x y && Ex.eqvL r q
 | _,_ => false
end
theorem eqv_parts (x y : Ex) : x.eqv y = ((x.k == y.k) && (x.op == y.op) && (x.n == y.n) && (x.nm == y.nm) && Ex.eqvL x.ks y.ks):=by
 cases x;cases y;simp only [Ex.eqv,Ex.k,Ex.op,Ex.n,Ex.nm,Ex.ks]
mutual
def Ex.cnt : Ex → Nat
 | .mk _ _ _ _ ks _ => 1 + Ex.cntL ks
def Ex.cntL : List Ex → Nat
 | [] => 0
 | x :: r => Ex.cnt x + Ex.cntL r
end
theorem cnt_pos (x : Ex) : 1 ≤ x.cnt:=by cases x;simp only [Ex.cnt];omega
theorem cntL_len : ∀ l : List Ex,l.length ≤ Ex.cntL l
 | [] => Nat.le_refl _
 | x :: r => by
  have:=cntL_len r
  have:=cnt_pos x
  simp only [Ex.cntL,List.length_cons]
  omega
def SameGoal (f : Nat) (N : Nat) : Prop:=∀ (x y : Ex) (u v : Value) (w : World),x.cnt < N ∧ x.cnt < 1000000000 → IsEx 0 w x u → IsEx 0 w y v →
 Calls Try.prog f #[.agg #[.int .i64 x.k,.int .i64 x.op,.int .i64 x.n,.string (bstr x.nm),u,.int .i64 x.a],.agg #[.int .i64 y.k,.int .i64 y.op,.int .i64 y.n,.string (bstr y.nm),v,.int .i64 y.a]] w fun e w' => e = .returned (.bool (x.eqv y)) ∧ Below w.heap.size w w'
def KeptE (w w' : World) : Prop:=w.heap.size ≤ w'.heap.size ∧ ∀ (k : Nat) (cs : Array Value) (fr : Nat × Nat),w.heap[k]? = some (.cells cs 63 fr) → w'.heap[k]? = some (.cells cs 63 fr)
theorem KeptE.refl (w : World) : KeptE w w:=⟨Nat.le_refl _,fun _ _ _ h => h⟩
theorem KeptE.step {a b c : World} (h : KeptE a b) (k : KeptE b c) : KeptE a c:=⟨Nat.le_trans h.1 k.1,fun i cs fr hi => k.2 i cs fr (h.2 i cs fr hi)⟩
theorem KeptE.below {a b c : World} (h : KeptE a b) (k : Below b.heap.size b c) : KeptE a c:=h.step ⟨k.size,fun i _ _ hi => (k.block i (Array.getElem?_eq_some_iff.1 hi).1).trans hi⟩
theorem KeptE.alloc {a b : World} (h : KeptE a b) (o : Obj) : KeptE a (b.alloc o):=h.below ((Below.refl _ _).alloc (Nat.le_refl _) _)
theorem KeptE.drew {a b : World} (h : KeptE a b) : KeptE a b.drew:=h
theorem KeptE.drewN {a b : World} (h : KeptE a b) (n : Nat) : KeptE a (b.drewN n):=h
theorem KeptE.set {a b : World} (h : KeptE a b) {c : Nat} (hc : a.heap.size ≤ c) (o : Nat) (v : Value) : KeptE a (b.setCell ⟨c,o,none⟩ v) :=
 ⟨by simpa using h.1,fun i cs fr hi => (heap_setCell_other b ⟨c,o,none⟩ i v (by have:=(Array.getElem?_eq_some_iff.1 hi).1;simp;omega)).trans (h.2 i cs fr hi)⟩
theorem KeptE.size {a b : World} (h : KeptE a b) : a.heap.size ≤ b.heap.size:=h.1
theorem IsEx.ke {lo : Nat} {W X : World} {e : Ex} {v : Value} (h : IsEx lo W e v) (hk : KeptE W X) : IsEx lo X e v:=by
 induction h with
 | leaf => exact .leaf
 | node g cap cs fr vs hg hb hne hc _ ih => exact .node g cap cs fr vs hg (hk.2 _ _ _ hb) hne hc ih
theorem Blk.ke {X Y : World} {n : Nat} {v0 v1 v2 v3 v4 v5 : Value} (h : Blk X n v0 v1 v2 v3 v4 v5) (hk : KeptE X Y) : Blk Y n v0 v1 v2 v3 v4 v5:=hk.2 _ _ _ h
def partT (k : Bool) (t : List UInt8) : List UInt8:=if k then 40 :: t ++ [41] else t
def opT (o : Int) : List UInt8:=32 :: ((sgnZ o).data.toList ++ [32])
abbrev Kd:=Int × Int × List UInt8
def rowK : List Kd → List UInt8
 | [] => []
 | x :: r => x.2.2 ++ r.flatMap fun y => 44 :: 32 :: y.2.2
def oneK (l : List Kd) : List UInt8:=l.flatMap fun y => partT (y.1 == 6) y.2.2
def twoK (o : Int) : List Kd → List UInt8
 | [] => []
 | x :: r => partT ((x.1 == 6) && decide (rnkZ x.2.1 < rnkZ o)) x.2.2 ++ r.flatMap fun y => opT o ++ partT ((y.1 == 6) && decide (rnkZ y.2.1 ≤ rnkZ o)) y.2.2
def txtOf (k o n : Int) (nm : List UInt8) (l : List Kd) : List UInt8 :=
 if k = 0 then Lib.itoa n
 else if k = 1 then (if n = 0 then flsB else truB)
 else if k = 2 then nm
 else if k = 3 then nm ++ 91 :: (rowK l ++ [93])
 else if k = 7 then nm ++ 40 :: (rowK l ++ [41])
 else if k = 4 then 45 :: oneK l
 else if k = 5 then 33 :: oneK l
 else if k = 6 then twoK o l
 else []
mutual
def Ex.txt : Ex → List UInt8
 | .mk k o n nm ks _ => txtOf k o n nm (Ex.kds ks)
def Ex.kds : List Ex → List Kd
 | [] => []
 | x :: r => (x.k,x.op,Ex.txt x) :: Ex.kds r
end
theorem kds_map : ∀ l : List Ex,Ex.kds l = l.map fun y => (y.k,y.op,y.txt)
 | [] => by simp only [Ex.kds,List.map_nil]
 | x :: r => by simp only [Ex.kds,List.map_cons,kds_map r]
theorem txt_parts (x : Ex) : x.txt = txtOf x.k x.op x.n x.nm (x.ks.map fun y => (y.k,y.op,y.txt)):=by
 cases x
 simp only [Ex.txt,Ex.k,Ex.op,Ex.n,Ex.nm,Ex.ks,kds_map]
theorem eqv_head {x y : Ex} (h : x.eqv y = true) : x.k = y.k ∧ x.op = y.op ∧ x.n = y.n ∧ x.nm = y.nm ∧ Ex.eqvL x.ks y.ks = true:=by
 rw [eqv_parts] at h
 simpa only [Bool.and_eq_true,beq_iff_eq,and_assoc] using h
mutual
theorem eqv_txt : ∀ x y : Ex,x.eqv y = true → x.txt = y.txt
 | .mk k o n t ks _,.mk k' o' n' t' ks' _,h => by
  simp only [Ex.eqv,Bool.and_eq_true,beq_iff_eq] at h
  obtain ⟨⟨⟨⟨rfl,rfl⟩,rfl⟩,rfl⟩,h⟩:=h
  simp only [Ex.txt,eqvL_kds ks ks' h]
theorem eqvL_kds : ∀ l m : List Ex,Ex.eqvL l m = true → Ex.kds l = Ex.kds m
 | [],[],_ => rfl
 | x :: r,y :: q,h => by
  simp only [Ex.eqvL,Bool.and_eq_true] at h
  have h1:=eqv_head h.1
  simp only [Ex.kds,eqv_txt x y h.1,eqvL_kds r q h.2,h1.1,h1.2.1]
 | [],_ :: _,h => by simp [Ex.eqvL] at h
 | _ :: _,[],h => by simp [Ex.eqvL] at h
end
mutual
theorem eqv_refl : ∀ x : Ex,x.eqv x = true
 | .mk k o n t ks _ => by simp only [Ex.eqv,beq_self_eq_true,Bool.and_self,eqvL_refl ks]
theorem eqvL_refl : ∀ l : List Ex,Ex.eqvL l l = true
 | [] => by simp only [Ex.eqvL]
 | x :: r => by simp only [Ex.eqvL,eqv_refl x,eqvL_refl r,Bool.and_self]
end
mutual
theorem eqv_symm : ∀ x y : Ex,x.eqv y = true → y.eqv x = true
 | .mk k o n t ks _,.mk k' o' n' t' ks' _,h => by
  simp only [Ex.eqv,Bool.and_eq_true,beq_iff_eq] at h ⊢
  exact ⟨⟨⟨⟨h.1.1.1.1.symm,h.1.1.1.2.symm⟩,h.1.1.2.symm⟩,h.1.2.symm⟩,eqvL_symm ks ks' h.2⟩
theorem eqvL_symm : ∀ l m : List Ex,Ex.eqvL l m = true → Ex.eqvL m l = true
 | [],[],h => h
 | x :: r,y :: q,h => by
  simp only [Ex.eqvL,Bool.and_eq_true] at h ⊢
  exact ⟨eqv_symm x y h.1,eqvL_symm r q h.2⟩
 | [],_ :: _,h => by simp [Ex.eqvL] at h
 | _ :: _,[],h => by simp [Ex.eqvL] at h
end
def Ex.txtAt (r : Int) (x : Ex) : List UInt8:=partT ((x.k == 6) && decide (rnkZ x.op < r)) x.txt
theorem txtAt_top {x : Ex} : partT (x.k == 6) x.txt = x.txtAt 11:=by
 have : decide (rnkZ x.op < 11) = true:=by
  have:=(rnkZ_le x.op).2
  simp
  omega
 simp only [Ex.txtAt,this,Bool.and_true]
theorem txt_num (o n : Int) (nm : List UInt8) (ks : List Ex) (a : Nat) : (Ex.mk 0 o n nm ks a).txt = Lib.itoa n:=by simp only [Ex.txt,txtOf];rfl
theorem txt_truth (o n : Int) (nm : List UInt8) (ks : List Ex) (a : Nat) : (Ex.mk 1 o n nm ks a).txt = if n = 0 then flsB else truB:=by simp only [Ex.txt,txtOf];rfl
theorem txt_var (o n : Int) (nm : List UInt8) (ks : List Ex) (a : Nat) : (Ex.mk 2 o n nm ks a).txt = nm:=by simp only [Ex.txt,txtOf];rfl
theorem txt_elem (o n : Int) (nm : List UInt8) (e : Ex) (a : Nat) : (Ex.mk 3 o n nm [e] a).txt = nm ++ 91 :: (e.txt ++ [93]):=by
 simp only [Ex.txt,txtOf,Ex.kds,rowK,List.flatMap_nil,List.append_nil]
 rfl
theorem txt_call (o n : Int) (nm : List UInt8) (ks : List Ex) (a : Nat) : (Ex.mk 7 o n nm ks a).txt = nm ++ 40 :: (rowK (Ex.kds ks) ++ [41]):=by simp only [Ex.txt,txtOf];rfl
theorem txt_neg (o n : Int) (nm : List UInt8) (e : Ex) (a : Nat) : (Ex.mk 4 o n nm [e] a).txt = 45 :: e.txtAt 11:=by
 rw [← txtAt_top]
 simp only [Ex.txt,txtOf,Ex.kds,oneK,List.flatMap_cons,List.flatMap_nil,List.append_nil]
 rfl
theorem txt_not (o n : Int) (nm : List UInt8) (e : Ex) (a : Nat) : (Ex.mk 5 o n nm [e] a).txt = 33 :: e.txtAt 11:=by
 rw [← txtAt_top]
 simp only [Ex.txt,txtOf,Ex.kds,oneK,List.flatMap_cons,List.flatMap_nil,List.append_nil]
 rfl
theorem txt_two (o n : Int) (nm : List UInt8) (l r : Ex) (a : Nat) : (Ex.mk 6 o n nm [l,r] a).txt = l.txtAt (rnkZ o) ++ (opT o ++ r.txtAt (rnkZ o + 1)):=by
 have e : decide (rnkZ r.op ≤ rnkZ o) = decide (rnkZ r.op < rnkZ o + 1):=by
  rw [decide_eq_decide]
  omega
 simp only [Ex.txt,txtOf,Ex.kds,twoK,List.flatMap_cons,List.flatMap_nil,List.append_nil,Ex.txtAt,e]
 rfl
def rowT (f : Ex → List UInt8) : List Ex → List UInt8
 | [] => []
 | x :: r => f x ++ r.flatMap fun y => 44 :: 32 :: f y
def twoT (F0 F1 : Ex → List UInt8) : List Ex → List UInt8
 | [] => []
 | x :: r => F0 x ++ r.flatMap F1
def NameB (t : List UInt8) : Prop:=∃ c r,t = c :: r ∧ isLetter c = true ∧ (∀ d ∈ r,isPart d = true) ∧ t.length ≤ 24 ∧ keyB t = false
def WdOk (w : Wd) : Prop:=(w.k = 0 → keyB w.t = false → NameB w.t) ∧ (w.k = 1 → 0 ≤ w.n ∧ w.n ≤ 9223372036854775807 ∧ w.t = Lib.itoa w.n) ∧ (w.k ≠ 3 → 1 ≤ w.t.length)
theorem rank_pos : ∀ j : Nat,j < 19 → j ≠ 16 → 1 ≤ rnkZ (j : Int):=by decide
inductive Fit : Nat → Int → Ex → Prop
 | num {o : Nat} {r n : Int} {a : Nat} : 0 ≤ n → n ≤ 9223372036854775807 → Fit o r (.mk 0 0 n [] [] a)
 | tru {o : Nat} {r : Int} {a : Nat} : Fit o r (.mk 1 0 1 [] [] a)
 | fls {o : Nat} {r : Int} {a : Nat} : Fit o r (.mk 1 0 0 [] [] a)
 | var {o : Nat} {r : Int} {nm : List UInt8} {a : Nat} : NameB nm → Fit o r (.mk 2 0 0 nm [] a)
 | elem {o : Nat} {r : Int} {nm : List UInt8} {e : Ex} {a : Nat} : NameB nm → o < 32 → Fit (o + 1) 1 e → Fit o r (.mk 3 0 0 nm [e] a)
 | neg {o : Nat} {r : Int} {e : Ex} {a : Nat} : o < 32 → Fit (o + 1) 11 e → Fit o r (.mk 4 0 0 [] [e] a)
 | not {o : Nat} {r : Int} {e : Ex} {a : Nat} : o < 32 → Fit (o + 1) 11 e → Fit o r (.mk 5 0 0 [] [e] a)
 | two {o j : Nat} {r : Int} {l e : Ex} {a : Nat} : j < 19 → j ≠ 16 → r ≤ rnkZ j → Fit o (rnkZ j) l → Fit o (rnkZ j + 1) e → Fit o r (.mk 6 j 0 [] [l,e] a)
 | brk {o j : Nat} {r : Int} {l e : Ex} {a : Nat} : 1 ≤ rnkZ j → rnkZ j < r → o < 32 → Fit (o + 1) 1 (.mk 6 j 0 [] [l,e] a) → Fit o r (.mk 6 j 0 [] [l,e] a)
 | call {o : Nat} {r : Int} {nm : List UInt8} {es : List Ex} {a : Nat} : NameB nm → o < 32 → (∀ e,e ∈ es → Fit (o + 1) 1 e) → Fit o r (.mk 7 0 0 nm es a)
theorem Fit.mono {o : Nat} {r : Int} {x : Ex} (h : Fit o r x) : ∀ {o' : Nat} {r' : Int},o' ≤ o → r' ≤ r → Fit o' r' x:=by
 induction h with
 | num h1 h2 => intros;exact .num h1 h2
 | tru => intros;exact .tru
 | fls => intros;exact .fls
 | var h => intros;exact .var h
 | elem h1 h2 _ ih => intro o' r' ho _;exact .elem h1 (by omega) (ih (by omega) (Int.le_refl _))
 | neg h2 _ ih => intro o' r' ho _;exact .neg (by omega) (ih (by omega) (Int.le_refl _))
 | not h2 _ ih => intro o' r' ho _;exact .not (by omega) (ih (by omega) (Int.le_refl _))
 | two h1 h2 h3 _ _ ih1 ih2 => intro o' r' ho hr;exact .two h1 h2 (by omega) (ih1 ho (Int.le_refl _)) (ih2 ho (Int.le_refl _))
 | @brk o j r l e a h1 h2 h3 _ ih =>
  intro o' r' ho hr
  by_cases hj : r' ≤ rnkZ j
  · cases ih (o':=o') (r':=1) (by omega) (Int.le_refl _) with
    | two k1 k2 k3 k4 k5 => exact .two k1 k2 hj k4 k5
    | brk k1 k2 => omega
  · exact .brk h1 (by omega) (by omega) (ih (by omega) (Int.le_refl _))
 | call h1 h2 _ ih => intro o' r' ho _;exact .call h1 (by omega) fun e he => ih e he (by omega) (Int.le_refl _)
theorem Fit.up {o : Nat} {x : Ex} (h : Fit (o + 1) 1 x) (ho : o < 32) : Fit o 11 x:=by
 cases h with
 | num h1 h2 => exact .num h1 h2
 | tru => exact .tru
 | fls => exact .fls
 | var h => exact .var h
 | elem h1 h2 h3 => exact .elem h1 ho (h3.mono (by omega) (Int.le_refl _))
 | neg h2 h3 => exact .neg ho (h3.mono (by omega) (Int.le_refl _))
 | not h2 h3 => exact .not ho (h3.mono (by omega) (Int.le_refl _))
 | @two _ j _ l e a h1 h2 h3 h4 h5 =>
  have:=(rnkZ_le j).2
  exact .brk (rank_pos j h1 h2) (by omega) ho (.two h1 h2 h3 h4 h5)
 | brk h1 h2 => omega
 | call h1 h2 h3 => exact .call h1 ho fun e he => (h3 e he).mono (by omega) (Int.le_refl _)
def FitPost (o : Nat) : Job → List Wd → Res → Prop
 | .thing,_,.ok e _ => Fit o 11 e
 | .beh k,_,.ok e _ => k = 4 ∨ k = 5 → Fit o 11 e
 | .wth _,_,.ok e _ => o < 32 ∧ Fit (o + 1) 1 e
 | .nam,ts,.ok e _ => (∀ w t,ts = w :: t → NameB w.t) → Fit o 11 e
 | .giv,_,.okL es _ => o < 32 ∧ ∀ e,e ∈ es → Fit (o + 1) 1 e
 | .expr r,_,.ok e ts' => 1 ≤ r → r ≤ 11 → Fit o r e ∧ ∀ c t,ts' = c :: t → rkW c < r
 | .loop r l,ts,.ok e ts' => 1 ≤ r → r ≤ 11 → (∀ c t,ts = c :: t → ∃ q,r ≤ q ∧ rkW c ≤ q ∧ Fit o q l) → Fit o r e ∧ ∀ c t,ts' = c :: t → rkW c < r
 | .list acc,_,.okL es _ => (∀ e,e ∈ acc → Fit o 1 e) → ∀ e,e ∈ es → Fit o 1 e
 | _,_,_ => True
theorem suf_all {p : Wd → Prop} {a b : List Wd} (h : a <:+ b) (hb : ∀ w ∈ b,p w) : ∀ w ∈ a,p w:=fun w hw => hb w (h.subset hw)
theorem P.fit {o : Nat} {j : Job} {ts : List Wd} {r : Res} (h : P o j ts r) : (∀ w ∈ ts,WdOk w) → FitPost o j ts r:=by
 induction h with
 | @num o w ts hk =>
  intro hw
  have:=(hw w (by simp)).2.1 hk
  exact .num this.1 this.2.1
 | tru => intro _;exact .tru
 | fls => intro _;exact .fls
 | @neg o w ts r hs h ih =>
  intro hw
  have:=ih hw
  cases r with
  | ok e t => exact this (.inl rfl)
  | okL | bad => trivial
 | @not o w ts r hs h ih =>
  intro hw
  have:=ih hw
  cases r with
  | ok e t => exact this (.inr rfl)
  | okL | bad => trivial
 | @par o w ts r hs h ih =>
  intro hw
  have:=ih hw
  cases r with
  | ok e t => exact this.2.up this.1
  | okL | bad => trivial
 | @name o w ts r hs hk h ih =>
  intro hw
  have:=ih hw
  cases r with
  | ok e t => exact this (by rintro w' t' e;cases e;exact (hw w (by simp)).1 hs hk)
  | okL | bad => trivial
 | stray | behLim | behBad | wthLim | wthNo | wthBad | namElemBad | namCallBad | givLim | givNo | givBad | lstBad | exprBad | loopBad => intro _;trivial
 | behOk ho h ih =>
  intro hw
  have:=ih fun w h => hw w (List.mem_cons_of_mem _ h)
  rintro (rfl | rfl)
  · exact .neg ho this
  · exact .not ho this
 | wthOk ho h hd ih =>
  intro hw
  exact ⟨ho,(ih (fun w h => hw w (List.mem_cons_of_mem _ h)) (Int.le_refl _) (by decide)).1⟩
 | namVar h1 h2 => intro _ hn;exact .var (hn _ _ rfl)
 | namElem hs h ih =>
  intro hw hn
  have:=ih fun w h => hw w (List.mem_cons_of_mem _ h)
  exact .elem (hn _ _ rfl) this.1 this.2
 | namCall hs h ih =>
  intro hw hn
  have:=ih fun w h => hw w (List.mem_cons_of_mem _ h)
  exact .call (hn _ _ rfl) this.1 this.2
 | givNone ho hd => intro _;exact ⟨ho,by simp⟩
 | givSome ho hd h hf ih =>
  intro hw
  exact ⟨ho,ih (fun w h => hw w (List.mem_cons_of_mem _ h)) (by simp)⟩
 | @lstMore o d ts ts' acc e r h hd h2 ih ih2 =>
  intro hw
  have h1:=(ih hw (Int.le_refl _) (by decide)).1
  have h3:=ih2 (suf_all ((List.suffix_cons _ _).trans h.suf) hw)
  cases r with
  | ok | bad => trivial
  | okL es t =>
   intro ha
   exact h3 fun x hx => by
    rcases List.mem_append.1 hx with hx | hx
    · exact ha x hx
    · simp at hx;subst hx;exact h1
 | lstEnd h hd ih =>
  intro hw ha x hx
  rcases List.mem_append.1 hx with hx | hx
  · exact ha x hx
  · simp at hx;subst hx;exact (ih hw (Int.le_refl _) (by decide)).1
 | @expr o r ts ts' l res h h2 ih ih2 =>
  intro hw
  have h1:=ih hw
  have h3:=ih2 (suf_all h.suf hw)
  cases res with
  | ok e t => exact fun k1 k2 => h3 k1 k2 fun c t _ => ⟨11,k2,by have:=(rkW_bd c).2;omega,h1⟩
  | okL | bad => trivial
 | @loopEnd o r l c ts hr =>
  intro _ k1 k2 hl
  obtain ⟨q,q1,q2,q3⟩:=hl c ts rfl
  exact ⟨q3.mono (Nat.le_refl _) q1,by rintro c' t' e;cases e;exact hr⟩
 | @loopMore o r l e c ts ts' res hr h h2 ih ih2 =>
  intro hw
  have h1:=ih fun w h => hw w (List.mem_cons_of_mem _ h)
  have h3:=ih2 (suf_all h.suf fun w h => hw w (List.mem_cons_of_mem _ h))
  cases res with
  | okL | bad => trivial
  | ok x t =>
   intro k1 k2 hl
   obtain ⟨q,q1,q2,q3⟩:=hl c ts rfl
   have hb:=rkW_bd c
   have hc:=rkW_ne (w:=c) (by omega)
   obtain ⟨j,j1,j2,j3,-⟩:=op_rank hc.2
   have hj : rkW c = rnkZ j:=by rw [← j3];unfold rkW;rw [if_pos hc.1]
   obtain ⟨g1,g2⟩:=h1 (by omega) (by omega)
   refine h3 k1 k2 fun c2 t2 e2 => ⟨rkW c,hr,by have:=g2 c2 t2 e2;omega,?_⟩
   rw [j3,hj]
   rw [hj] at g1 q2
   exact .two j1 j2 (Int.le_refl _) (q3.mono (Nat.le_refl _) q2) g1
def lens : List Wd → Nat
 | [] => 0
 | w :: r => w.t.length + lens r
def Ex.wt (x : Ex) : Nat:=x.txt.length + if x.k = 6 then 2 else 0
def wtL : List Ex → Nat
 | [] => 0
 | x :: r => x.wt + 2 + wtL r
theorem wtL_append : ∀ l m : List Ex,wtL (l ++ m) = wtL l + wtL m
 | [],m => by simp [wtL]
 | x :: r,m => by simp only [List.cons_append,wtL,wtL_append r m];omega
theorem cntL_append : ∀ l m : List Ex,Ex.cntL (l ++ m) = Ex.cntL l + Ex.cntL m
 | [],m => by simp [Ex.cntL]
 | x :: r,m => by simp only [List.cons_append,Ex.cntL,cntL_append r m];omega
theorem txtAt_le (x : Ex) (r : Int) : (x.txtAt r).length ≤ x.wt:=by
 unfold Ex.wt Ex.txtAt partT
 by_cases h : x.k = 6
 · rw [if_pos h]
   split
   · simp
   · omega
 · have : (x.k == 6) = false:=by simpa using h
   rw [this,if_neg h]
   simp
theorem wt_not {x : Ex} (h : x.k ≠ 6) : x.wt = x.txt.length:=by unfold Ex.wt;rw [if_neg h];rfl
theorem rest_le : ∀ ks : List Ex,((Ex.kds ks).flatMap fun y => 44 :: 32 :: y.2.2).length ≤ wtL ks
 | [] => by simp [Ex.kds,wtL]
 | x :: r => by
  have:=rest_le r
  have h2 : x.txt.length ≤ x.wt:=by unfold Ex.wt;omega
  simp only [Ex.kds,List.flatMap_cons,List.length_append,List.length_cons,wtL]
  omega
theorem row_le (ks : List Ex) : (rowK (Ex.kds ks)).length ≤ wtL ks:=by
 cases ks with
 | nil => simp [Ex.kds,rowK,wtL]
 | cons x r =>
  have:=rest_le r
  have h2 : x.txt.length ≤ x.wt:=by unfold Ex.wt;omega
  simp only [Ex.kds,rowK,List.length_append,wtL]
  omega
def WtPost : Job → List Wd → Res → Prop
 | .thing,ts,.ok e ts' => e.wt + 5 * lens ts' ≤ 5 * lens ts ∧ e.cnt + ts'.length ≤ ts.length
 | .wth _,ts,.ok e ts' => e.wt + 5 * lens ts' ≤ 5 * lens ts ∧ e.cnt + ts'.length ≤ ts.length
 | .beh k,ts,.ok e ts' => k = 4 ∨ k = 5 → (∀ w t,ts = w :: t → 1 ≤ w.t.length) → e.wt + 5 * lens ts' ≤ 5 * lens ts ∧ e.cnt + ts'.length ≤ ts.length
 | .nam,ts,.ok e ts' => (∀ w t,ts = w :: t → 1 ≤ w.t.length) → e.wt + 5 * lens ts' ≤ 5 * lens ts ∧ e.cnt + ts'.length ≤ ts.length
 | .expr r,ts,.ok e ts' => 1 ≤ r → e.wt + 5 * lens ts' ≤ 5 * lens ts ∧ e.cnt + ts'.length ≤ ts.length
 | .loop r l,ts,.ok e ts' => 1 ≤ r → e.wt + 5 * lens ts' ≤ 5 * lens ts + l.wt ∧ e.cnt + ts'.length ≤ ts.length + l.cnt
 | .giv,ts,.okL es ts' => wtL es + 5 * lens ts' ≤ 5 * lens ts + 2 ∧ Ex.cntL es + ts'.length + 1 ≤ ts.length
 | .list acc,ts,.okL es ts' => wtL es + 5 * lens ts' ≤ 5 * lens ts + wtL acc + 2 ∧ Ex.cntL es + ts'.length ≤ ts.length + Ex.cntL acc
 | _,_,_ => True
theorem sgnZ_nat {j : Nat} (h : j < 19) : (sgnZ (j : Int)).data.toList = sgB j:=by
 unfold sgnZ sgB
 rw [if_pos (by omega)]
 simp
theorem lens_suf : ∀ {a b : List Wd},a <:+ b → lens a ≤ lens b:=by
 rintro a b ⟨p,rfl⟩
 induction p with
 | nil => exact Nat.le_refl _
 | cons x p ih => simp only [List.cons_append,lens];omega
theorem P.wt {o : Nat} {j : Job} {ts : List Wd} {r : Res} (h : P o j ts r) : (∀ w ∈ ts,WdOk w) → WtPost j ts r:=by
 induction h with
 | @num o w ts hk =>
  intro hw
  have:=(hw w (by simp)).2.1 hk
  refine ⟨?_,by simp [Ex.cnt,Ex.cntL];omega⟩
  rw [wt_not (by simp [Ex.k]),txt_num,← this.2.2]
  simp only [lens]
  omega
 | @tru o w ts hk ht =>
  intro _
  refine ⟨?_,by simp [Ex.cnt,Ex.cntL];omega⟩
  rw [wt_not (by simp [Ex.k]),txt_truth]
  simp only [lens,ht]
  simp [truB]
  omega
 | @fls o w ts hk ht =>
  intro _
  refine ⟨?_,by simp [Ex.cnt,Ex.cntL];omega⟩
  rw [wt_not (by simp [Ex.k]),txt_truth]
  simp only [lens,ht]
  simp [flsB]
  omega
 | @neg o w ts r hs h ih =>
  intro hw
  have:=ih hw
  cases r with
  | ok e t => exact this (.inl rfl) (by rintro w' t' e;cases e;rw [hs.2];decide)
  | okL | bad => trivial
 | @not o w ts r hs h ih =>
  intro hw
  have:=ih hw
  cases r with
  | ok e t => exact this (.inr rfl) (by rintro w' t' e;cases e;rw [hs.2];decide)
  | okL | bad => trivial
 | @par o w ts r hs h ih =>
  intro hw
  have:=ih hw
  cases r with
  | ok e t => exact this
  | okL | bad => trivial
 | @name o w ts r hs hk h ih =>
  intro hw
  have:=ih hw
  cases r with
  | ok e t => exact this (by rintro w' t' e;cases e;exact (hw w (by simp)).2.2 (by rw [hs];decide))
  | okL | bad => trivial
 | stray | behLim | behBad | wthLim | wthNo | wthBad | namElemBad | namCallBad | givLim | givNo | givBad | lstBad | exprBad | loopBad => intro _;trivial
 | @behOk o k w ts ts' e ho h ih =>
  intro hw hk hl
  have h1:=ih fun w h => hw w (List.mem_cons_of_mem _ h)
  have h2:=hl _ _ rfl
  have h3:=txtAt_le e 11
  refine ⟨?_,?_⟩
  · have : (Ex.mk k 0 0 [] [e] w.a).wt = 1 + (e.txtAt 11).length:=by
     rcases hk with rfl | rfl
     · rw [wt_not (by simp [Ex.k]),txt_neg,List.length_cons];omega
     · rw [wt_not (by simp [Ex.k]),txt_not,List.length_cons];omega
    rw [this]
    have:=h1.1
    simp only [lens]
    omega
  · have:=h1.2
    simp only [Ex.cnt,Ex.cntL,List.length_cons]
    omega
 | @wthOk o c w d ts ts' e ho h hd ih =>
  intro hw
  have h1:=ih (fun w h => hw w (List.mem_cons_of_mem _ h)) (Int.le_refl _)
  simp only [WtPost,lens,List.length_cons] at h1 ⊢
  omega
 | @namVar o w c ts h1 h2 =>
  intro _ hn
  have:=hn _ _ rfl
  refine ⟨?_,by simp [Ex.cnt,Ex.cntL];omega⟩
  rw [wt_not (by simp [Ex.k]),txt_var]
  simp only [lens]
  omega
 | @namElem o w c ts ts' e hs h ih =>
  intro hw hn
  have h1:=ih fun w h => hw w (List.mem_cons_of_mem _ h)
  have h2:=hn _ _ rfl
  refine ⟨?_,?_⟩
  · have h3 : e.txt.length ≤ e.wt:=by unfold Ex.wt;omega
    have:=h1.1
    rw [wt_not (by simp [Ex.k]),txt_elem]
    simp only [lens,List.length_append,List.length_cons,List.length_nil] at this ⊢
    omega
  · have:=h1.2
    simp only [Ex.cnt,Ex.cntL,List.length_cons] at this ⊢
    omega
 | @namCall o w c ts ts' es hs h ih =>
  intro hw hn
  have h1:=ih fun w h => hw w (List.mem_cons_of_mem _ h)
  have h2:=hn _ _ rfl
  refine ⟨?_,?_⟩
  · have h3:=row_le es
    have:=h1.1
    rw [wt_not (by simp [Ex.k]),txt_call]
    simp only [lens,List.length_append,List.length_cons,List.length_nil] at this ⊢
    omega
  · have:=h1.2
    simp only [Ex.cnt,List.length_cons] at this ⊢
    omega
 | @givNone o w d ts ho hd =>
  intro _
  simp only [WtPost,wtL,Ex.cntL,lens,List.length_cons]
  omega
 | @givSome o w d f ts ts' es ho hd h hf ih =>
  intro hw
  have h1:=ih fun w h => hw w (List.mem_cons_of_mem _ h)
  simp only [WtPost,wtL,Ex.cntL,lens,List.length_cons] at h1 ⊢
  omega
 | @lstMore o d ts ts' acc e r h hd h2 ih ih2 =>
  intro hw
  have h1:=ih hw (Int.le_refl _)
  have h3:=ih2 (suf_all ((List.suffix_cons _ _).trans h.suf) hw)
  cases r with
  | ok | bad => trivial
  | okL es t =>
   have hl : d.t.length = 1:=by rw [hd.2];rfl
   simp only [WtPost,wtL,wtL_append,cntL_append,Ex.cntL,lens,List.length_cons] at h1 h3 ⊢
   omega
 | @lstEnd o d ts ts' acc e h hd ih =>
  intro hw
  have h1:=ih hw (Int.le_refl _)
  simp only [WtPost,wtL,wtL_append,cntL_append,Ex.cntL,lens,List.length_cons] at h1 ⊢
  omega
 | @expr o r ts ts' l res h h2 ih ih2 =>
  intro hw
  have h1:=ih hw
  have h3:=ih2 (suf_all h.suf hw)
  cases res with
  | ok e t =>
   intro hr
   have h4:=h3 hr
   simp only [WtPost] at h1
   omega
  | okL | bad => trivial
 | @loopEnd o r l c ts hr =>
  intro _ _
  omega
 | @loopMore o r l e c ts ts' res hr h h2 ih ih2 =>
  intro hw
  have h1:=ih fun w h => hw w (List.mem_cons_of_mem _ h)
  have h3:=ih2 (suf_all h.suf fun w h => hw w (List.mem_cons_of_mem _ h))
  cases res with
  | okL | bad => trivial
  | ok x t =>
   intro h1r
   have h4:=h3 h1r
   have h1:=h1 (by omega)
   have hc : 1 ≤ rkW c:=by omega
   obtain ⟨j,j1,-,j3,j4⟩:=op_rank (rkW_ne hc).2
   have hlc:=(hw c (by simp)).2.2 (by rw [(rkW_ne hc).1];decide)
   have hop : (Ex.mk 6 (opB c.t) 0 [] [l,e] l.a).wt ≤ l.wt + e.wt + 5 * c.t.length:=by
    have e1:=txtAt_le l (rnkZ (opB c.t))
    have e2:=txtAt_le e (rnkZ (opB c.t) + 1)
    have e3 : (opT (opB c.t)).length = c.t.length + 2:=by
     unfold opT
     rw [j3,sgnZ_nat j1,j4]
     simp
    unfold Ex.wt at e1 e2 ⊢
    rw [txt_two,if_pos (show (Ex.mk 6 (opB c.t) 0 [] [l,e] l.a).k = 6 from rfl)]
    simp only [List.length_append,e3]
    omega
   have h5 : (Ex.mk 6 (opB c.t) 0 [] [l,e] l.a).cnt = 1 + l.cnt + e.cnt:=by simp only [Ex.cnt,Ex.cntL];omega
   simp only [lens,List.length_cons] at h1 h4 ⊢
   omega
def nmW (ts : List Wd) : List (List UInt8):=(ts.filter fun w => (w.k == 0) && !keyB w.t).map (·.t)
mutual
def Ex.nms : Ex → List (List UInt8)
 | .mk k _ _ nm ks _ => (if k = 2 ∨ k = 3 ∨ k = 7 then [nm] else []) ++ Ex.nmsL ks
def Ex.nmsL : List Ex → List (List UInt8)
 | [] => []
 | x :: r => Ex.nms x ++ Ex.nmsL r
end
theorem nmsL_append : ∀ l m : List Ex,Ex.nmsL (l ++ m) = Ex.nmsL l ++ Ex.nmsL m
 | [],m => by simp [Ex.nmsL]
 | x :: r,m => by simp only [List.cons_append,Ex.nmsL,nmsL_append r m,List.append_assoc]
theorem nmW_not {w : Wd} (h : w.k ≠ 0) (ts : List Wd) : nmW (w :: ts) = nmW ts:=by
 have : (w.k == 0) = false:=by simpa using h
 simp [nmW,this]
theorem nmW_key {w : Wd} (h : keyB w.t = true) (ts : List Wd) : nmW (w :: ts) = nmW ts:=by simp [nmW,h]
theorem nmW_name {w : Wd} (h : w.k = 0) (h2 : keyB w.t = false) (ts : List Wd) : nmW (w :: ts) = w.t :: nmW ts:=by simp [nmW,h,h2]
theorem Sg.ne0 {w : Wd} {t : List UInt8} (h : Sg w t) : w.k ≠ 0:=by rw [h.1];decide
def NmPost : Job → List Wd → Res → Prop
 | .thing,ts,.ok e ts' => nmW ts = e.nms ++ nmW ts'
 | .wth _,ts,.ok e ts' => (∀ w t,ts = w :: t → w.k ≠ 0) → nmW ts = e.nms ++ nmW ts'
 | .beh k,ts,.ok e ts' => k = 4 ∨ k = 5 → (∀ w t,ts = w :: t → w.k ≠ 0) → nmW ts = e.nms ++ nmW ts'
 | .nam,ts,.ok e ts' => (∀ w t,ts = w :: t → w.k = 0 ∧ keyB w.t = false) → nmW ts = e.nms ++ nmW ts'
 | .expr r,ts,.ok e ts' => 1 ≤ r → nmW ts = e.nms ++ nmW ts'
 | .loop r l,ts,.ok e ts' => 1 ≤ r → l.nms ++ nmW ts = e.nms ++ nmW ts'
 | .giv,ts,.okL es ts' => (∀ w t,ts = w :: t → w.k ≠ 0) → nmW ts = Ex.nmsL es ++ nmW ts'
 | .list acc,ts,.okL es ts' => Ex.nmsL acc ++ nmW ts = Ex.nmsL es ++ nmW ts'
 | _,_,_ => True
theorem P.nm {o : Nat} {j : Job} {ts : List Wd} {r : Res} (h : P o j ts r) : NmPost j ts r:=by
 induction h with
 | @num o w ts hk => exact (nmW_not (by rw [hk];decide) ts).trans rfl
 | @tru o w ts hk ht => exact (nmW_key (by rw [ht];decide) ts).trans rfl
 | @fls o w ts hk ht => exact (nmW_key (by rw [ht];decide) ts).trans rfl
 | @neg o w ts r hs h ih =>
  cases r with
  | ok e t => exact ih (.inl rfl) (by rintro w' t' e;cases e;exact hs.ne0)
  | okL | bad => trivial
 | @not o w ts r hs h ih =>
  cases r with
  | ok e t => exact ih (.inr rfl) (by rintro w' t' e;cases e;exact hs.ne0)
  | okL | bad => trivial
 | @par o w ts r hs h ih =>
  cases r with
  | ok e t => exact ih (by rintro w' t' e;cases e;exact hs.ne0)
  | okL | bad => trivial
 | @name o w ts r hs hk h ih =>
  cases r with
  | ok e t => exact ih (by rintro w' t' e;cases e;exact ⟨hs,hk⟩)
  | okL | bad => trivial
 | stray | behLim | behBad | wthLim | wthNo | wthBad | namElemBad | namCallBad | givLim | givNo | givBad | lstBad | exprBad | loopBad => trivial
 | @behOk o k w ts ts' e ho h ih =>
  intro hk hn
  rw [nmW_not (hn _ _ rfl)]
  have : (Ex.mk k 0 0 [] [e] w.a).nms = e.nms:=by
   simp only [Ex.nms,Ex.nmsL]
   rw [if_neg (by omega)]
   simp
  rw [this]
  exact ih
 | @wthOk o c w d ts ts' e ho h hd ih =>
  intro hn
  rw [nmW_not (hn _ _ rfl),ih (Int.le_refl _),nmW_not hd.ne0]
 | @namVar o w c ts h1 h2 =>
  intro hn
  rw [nmW_name (hn _ _ rfl).1 (hn _ _ rfl).2]
  rfl
 | @namElem o w c ts ts' e hs h ih =>
  intro hn
  rw [nmW_name (hn _ _ rfl).1 (hn _ _ rfl).2,ih (by rintro w' t' e;cases e;exact hs.ne0)]
  simp [Ex.nms,Ex.nmsL]
 | @namCall o w c ts ts' es hs h ih =>
  intro hn
  rw [nmW_name (hn _ _ rfl).1 (hn _ _ rfl).2,ih (by rintro w' t' e;cases e;exact hs.ne0)]
  simp [Ex.nms]
 | @givNone o w d ts ho hd =>
  intro hn
  rw [nmW_not (hn _ _ rfl),nmW_not hd.ne0]
  rfl
 | @givSome o w d f ts ts' es ho hd h hf ih =>
  intro hn
  simp only [NmPost,Ex.nmsL,List.nil_append] at ih
  rw [nmW_not (hn _ _ rfl),ih,nmW_not hf.ne0]
 | @lstMore o d ts ts' acc e r h hd h2 ih ih2 =>
  cases r with
  | ok | bad => trivial
  | okL es t =>
   simp only [NmPost,nmsL_append,Ex.nmsL,List.append_nil] at ih2 ⊢
   rw [ih (Int.le_refl _),nmW_not hd.ne0,← ih2,List.append_assoc]
 | @lstEnd o d ts ts' acc e h hd ih =>
  simp only [NmPost,nmsL_append,Ex.nmsL,List.append_nil]
  rw [ih (Int.le_refl _),List.append_assoc]
 | @expr o r ts ts' l res h h2 ih ih2 =>
  cases res with
  | ok e t =>
   intro hr
   rw [← ih2 hr,ih]
  | okL | bad => trivial
 | loopEnd hr => intro _;rfl
 | @loopMore o r l e c ts ts' res hr h h2 ih ih2 =>
  cases res with
  | okL | bad => trivial
  | ok x t =>
   intro h1
   have hc:=rkW_ne (w:=c) (by omega)
   rw [← ih2 h1,nmW_not (by rw [hc.1];decide),ih (by omega)]
   simp [Ex.nms,Ex.nmsL]
inductive Nums : Ex → Prop
 | mk {k o n : Int} {nm : List UInt8} {ks : List Ex} {a : Nat} : -9223372036854775808 ≤ n → n ≤ 9223372036854775807 → (∀ y,y ∈ ks → Nums y) → Nums (.mk k o n nm ks a)
theorem Nums.n {x : Ex} (h : Nums x) : -9223372036854775808 ≤ x.n ∧ x.n ≤ 9223372036854775807:=by
 cases h with
 | mk h1 h2 _ => exact ⟨h1,h2⟩
theorem Nums.kid {x y : Ex} (h : Nums x) (hy : y ∈ x.ks) : Nums y:=by
 cases h with
 | mk _ _ h3 => exact h3 y hy
theorem Fit.nums {o : Nat} {r : Int} {x : Ex} (h : Fit o r x) : Nums x:=by
 induction h with
 | num h1 h2 => exact .mk (by omega) h2 (by simp)
 | tru | fls => exact .mk (by decide) (by decide) (by simp)
 | var => exact .mk (by decide) (by decide) (by simp)
 | elem _ _ _ ih | neg _ _ ih | not _ _ ih => exact .mk (by decide) (by decide) (by simpa using ih)
 | two _ _ _ _ _ ih ih2 => exact .mk (by decide) (by decide) (by simp;exact ⟨ih,ih2⟩)
 | brk _ _ _ _ ih => exact ih
 | call _ _ _ ih => exact .mk (by decide) (by decide) ih
theorem txt0 {x : Ex} (h : x.k = 0) : x.txt = Lib.itoa x.n:=by rw [txt_parts,h];rfl
theorem P.form {o : Nat} {j : Job} {ts : List Wd} {r : Res} (h : P o j ts r) (hm : j.may ts) (hF : Fin ts) (hl : j.lst = false) :
 (∃ x d ts',r = .ok x (d :: ts') ∧ Fin (d :: ts') ∧ (d :: ts').length + j.min ≤ ts.length) ∨ ∃ c a,r = .bad c a:=by
 have hp:=h.post' hm hF
 cases r with
 | ok x ts' =>
  obtain ⟨d,t2,rfl⟩:=hp.2.1.ne
  exact .inl ⟨x,d,t2,rfl,hp.2.1,hp.2.2⟩
 | okL x ts' => exact absurd hp.1 (by rw [hl];decide)
 | bad c a => exact .inr ⟨c,a,rfl⟩
theorem P.formL {o : Nat} {j : Job} {ts : List Wd} {r : Res} (h : P o j ts r) (hm : j.may ts) (hF : Fin ts) (hl : j.lst = true) :
 (∃ xs d ts',r = .okL xs (d :: ts') ∧ Fin (d :: ts') ∧ (d :: ts').length + j.min ≤ ts.length) ∨ ∃ c a,r = .bad c a:=by
 have hp:=h.post' hm hF
 cases r with
 | okL x ts' =>
  obtain ⟨d,t2,rfl⟩:=hp.2.1.ne
  exact .inl ⟨x,d,t2,rfl,hp.2.1,hp.2.2⟩
 | ok x ts' => exact absurd hp.1 (by rw [hl];decide)
 | bad c a => exact .inr ⟨c,a,rfl⟩
theorem P.total : ∀ (N o : Nat) (j : Job) (ts : List Wd),4 * ts.length + j.wt < N → j.may ts → Fin ts → o ≤ 32 → ∃ r,P o j ts r:=by
 intro N
 induction N with
 | zero => intro o j ts h;exact absurd h (by omega)
 | succ N ih =>
  intro o j ts hN hm hF ho
  obtain ⟨w,t,rfl⟩:=hF.ne
  simp only [List.length_cons] at hN
  cases j with
  | thing =>
   by_cases h1 : w.k = 1
   · exact ⟨_,.num h1⟩
   by_cases h0 : w.k = 0
   · by_cases hk : keyB w.t = true
     · by_cases ht : w.t = truB
       · exact ⟨_,.tru h0 ht⟩
       by_cases hf : w.t = flsB
       · exact ⟨_,.fls h0 hf⟩
       exact ⟨_,.stray ⟨h1,fun _ => ⟨hk,ht,hf⟩,fun h => by rw [h0] at h;cases h⟩⟩
     · obtain ⟨r,hr⟩:=ih o .nam (w :: t) (by simp [Job.wt] at hN ⊢;omega) (by rintro w' t' e;cases e;exact h0) hF ho
       exact ⟨r,.name h0 (by simpa using hk) hr⟩
   by_cases h2 : w.k = 2
   · have hm2 : ∀ w' t',w :: t = w' :: t' → w'.k = 2:=by rintro w' t' e;cases e;exact h2
     by_cases ha : w.t = [45]
     · obtain ⟨r,hr⟩:=ih o (.beh 4) (w :: t) (by simp [Job.wt] at hN ⊢;omega) hm2 hF ho
       exact ⟨r,.neg ⟨h2,ha⟩ hr⟩
     by_cases hb : w.t = [33]
     · obtain ⟨r,hr⟩:=ih o (.beh 5) (w :: t) (by simp [Job.wt] at hN ⊢;omega) hm2 hF ho
       exact ⟨r,.not ⟨h2,hb⟩ hr⟩
     by_cases hc : w.t = [40]
     · obtain ⟨r,hr⟩:=ih o (.wth [41]) (w :: t) (by simp [Job.wt] at hN ⊢;omega) hm2 hF ho
       exact ⟨r,.par ⟨h2,hc⟩ hr⟩
     exact ⟨_,.stray ⟨h1,fun h => absurd h h0,fun _ => ⟨ha,hb,hc⟩⟩⟩
   exact ⟨_,.stray ⟨h1,fun h => absurd h h0,fun h => absurd h h2⟩⟩
  | beh k =>
   have hF' : Fin t:=hF.cons (by rw [hm w t rfl];decide)
   by_cases hl : o = 32
   · exact ⟨_,.behLim hl⟩
   obtain ⟨r,hr⟩:=ih (o + 1) .thing t (by simp [Job.wt] at hN ⊢;omega) trivial hF' (by omega)
   rcases hr.form trivial hF' rfl with ⟨x,d,ts',rfl,-,-⟩ | ⟨c,a,rfl⟩
   · exact ⟨_,.behOk (by omega) hr⟩
   · exact ⟨_,.behBad (by omega) hr⟩
  | wth c =>
   have hF' : Fin t:=hF.cons (by rw [hm w t rfl];decide)
   by_cases hl : o = 32
   · exact ⟨_,.wthLim hl⟩
   obtain ⟨r,hr⟩:=ih (o + 1) (.expr 1) t (by simp [Job.wt] at hN ⊢;omega) (by simp [Job.may]) hF' (by omega)
   rcases hr.form (by simp [Job.may]) hF' rfl with ⟨x,d,ts',rfl,-,-⟩ | ⟨c,a,rfl⟩
   · by_cases hs : Sg d c
     · exact ⟨_,.wthOk (by omega) hr hs⟩
     · exact ⟨_,.wthNo (by omega) hr hs⟩
   · exact ⟨_,.wthBad (by omega) hr⟩
  | nam =>
   have hF' : Fin t:=hF.cons (by rw [hm w t rfl];decide)
   obtain ⟨c,ts,rfl⟩:=hF'.ne
   simp only [List.length_cons] at hN
   by_cases h1 : Sg c [91]
   · have hm2 : (Job.wth [93]).may (c :: ts):=by rintro w' t' e;cases e;exact h1.1
     obtain ⟨r,hr⟩:=ih o (.wth [93]) (c :: ts) (by simp [Job.wt] at hN ⊢;omega) hm2 hF' ho
     rcases hr.form hm2 hF' rfl with ⟨x,d,ts',rfl,-,-⟩ | ⟨c,a,rfl⟩
     · exact ⟨_,.namElem h1 hr⟩
     · exact ⟨_,.namElemBad h1 hr⟩
   by_cases h2 : Sg c [40]
   · have hm2 : Job.giv.may (c :: ts):=by rintro w' t' e;cases e;exact h2.1
     obtain ⟨r,hr⟩:=ih o .giv (c :: ts) (by simp [Job.wt] at hN ⊢;omega) hm2 hF' ho
     rcases hr.formL hm2 hF' rfl with ⟨x,d,ts',rfl,-,-⟩ | ⟨c,a,rfl⟩
     · exact ⟨_,.namCall h2 hr⟩
     · exact ⟨_,.namCallBad h2 hr⟩
   exact ⟨_,.namVar h1 h2⟩
  | giv =>
   have hF' : Fin t:=hF.cons (by rw [hm w t rfl];decide)
   obtain ⟨d,ts,rfl⟩:=hF'.ne
   simp only [List.length_cons] at hN
   by_cases hl : o = 32
   · exact ⟨_,.givLim hl⟩
   by_cases h1 : Sg d [41]
   · exact ⟨_,.givNone (by omega) h1⟩
   obtain ⟨r,hr⟩:=ih (o + 1) (.list []) (d :: ts) (by simp [Job.wt] at hN ⊢;omega) trivial hF' (by omega)
   rcases hr.formL trivial hF' rfl with ⟨x,f,ts',rfl,-,-⟩ | ⟨c,a,rfl⟩
   · by_cases hs : Sg f [41]
     · exact ⟨_,.givSome (by omega) h1 hr hs⟩
     · exact ⟨_,.givNo (by omega) h1 hr hs⟩
   · exact ⟨_,.givBad (by omega) h1 hr⟩
  | expr r =>
   obtain ⟨r1,hr⟩:=ih o .thing (w :: t) (by simp [Job.wt] at hN ⊢;omega) trivial hF ho
   rcases hr.form trivial hF rfl with ⟨x,d,ts',rfl,hF2,hL⟩ | ⟨c,a,rfl⟩
   · simp [Job.min] at hL
     obtain ⟨r2,hr2⟩:=ih o (.loop r x) (d :: ts') (by simp [Job.wt] at hN ⊢;omega) hm hF2 ho
     exact ⟨_,.expr hr hr2⟩
   · exact ⟨_,.exprBad hr⟩
  | loop r l =>
   by_cases hc : rkW w < r
   · exact ⟨_,.loopEnd hc⟩
   have hb:=rkW_bd w
   have h1 : 1 ≤ r:=hm.1
   have hF' : Fin t:=hF.cons (by rw [(rkW_ne (w:=w) (by omega)).1];decide)
   have hm2 : (Job.expr (rkW w + 1)).may t:=⟨by omega,by omega⟩
   obtain ⟨r1,hr⟩:=ih o (.expr (rkW w + 1)) t (by simp [Job.wt] at hN ⊢;omega) hm2 hF' ho
   rcases hr.form hm2 hF' rfl with ⟨x,d,ts',rfl,hF2,hL⟩ | ⟨c,a,rfl⟩
   · simp [Job.min] at hL
     obtain ⟨r2,hr2⟩:=ih o (.loop r (.mk 6 (opB w.t) 0 [] [l,x] l.a)) (d :: ts') (by simp [Job.wt] at hN ⊢;omega) hm hF2 ho
     exact ⟨_,.loopMore (by omega) hr hr2⟩
   · exact ⟨_,.loopBad (by omega) hr⟩
  | list acc =>
   have hm2 : (Job.expr 1).may (w :: t):=by simp [Job.may]
   obtain ⟨r1,hr⟩:=ih o (.expr 1) (w :: t) (by simp [Job.wt] at hN ⊢;omega) hm2 hF ho
   rcases hr.form hm2 hF rfl with ⟨x,d,ts',rfl,hF2,hL⟩ | ⟨c,a,rfl⟩
   · by_cases hs : Sg d [44]
     · simp [Job.min] at hL
       have hF3:=hF2.cons hs.ne
       obtain ⟨r2,hr2⟩:=ih o (.list (acc ++ [x])) ts' (by simp [Job.wt] at hN ⊢;omega) trivial hF3 ho
       exact ⟨_,.lstMore hr hs hr2⟩
     · exact ⟨_,.lstEnd hr hs⟩
   · exact ⟨_,.lstBad hr⟩
theorem Sc.fin {num : List UInt8 → Option Int} {l : List UInt8} {a : Nat} {ws : List Wd} {r : Option (Int × Nat)} (h : Sc num l a ws r) (hr : r = none) : Fin ws:=by
 induction h with
 | done a => exact ⟨[],_,rfl,rfl⟩
 | bad => cases hr
 | gap _ _ _ _ _ _ _ _ ih => exact ih hr
 | word l a n k v ws r _ _ _ ih =>
  obtain ⟨pre,e,h1,h2⟩:=ih hr
  exact ⟨_ :: pre,e,by rw [h1];rfl,h2⟩
theorem Sc.short {num : List UInt8 → Option Int} {l : List UInt8} {a : Nat} {ws : List Wd} {r : Option (Int × Nat)} (h : Sc num l a ws r) : ∀ x ∈ ws,x.t.length ≤ l.length:=by
 induction h with
 | done a => intro x hx;simp at hx;subst hx;simp
 | bad => intro x hx;simp at hx
 | gap l a n ws r _ _ _ ih =>
  intro x hx
  have:=ih x hx
  simp at this
  omega
 | word l a n k v ws r _ _ _ ih =>
  intro x hx
  rcases List.mem_cons.1 hx with rfl | hx
  · show (l.take n).length ≤ _
    simp
    omega
  · have:=ih x hx
    simp at this
    omega
inductive Out where
 | ok (e : Ex)
 | bad (c : Int) (a : Nat)
inductive OfR (l : List UInt8) : Out → Prop
 | lex {ws : List Wd} {c : Int} {a : Nat} : Sc numO l 0 ws (some (c,a)) → OfR l (.bad c a)
 | bad {ws : List Wd} {c : Int} {a : Nat} : Sc numO l 0 ws none → P 0 (.expr 1) ws (.bad c a) → OfR l (.bad c a)
 | stray {ws ts : List Wd} {d : Wd} {e : Ex} : Sc numO l 0 ws none → P 0 (.expr 1) ws (.ok e (d :: ts)) → d.k ≠ 3 → OfR l (.bad 11 d.a)
 | ok {ws ts : List Wd} {d : Wd} {e : Ex} : Sc numO l 0 ws none → P 0 (.expr 1) ws (.ok e (d :: ts)) → d.k = 3 → OfR l (.ok e)
theorem OfR.total (l : List UInt8) : ∃ r,OfR l r:=by
 obtain ⟨ws,r,h⟩:=Sc.total numO l.length l 0 (Nat.le_refl _)
 cases r with
 | some q => exact ⟨_,.lex (c:=q.1) (a:=q.2) h⟩
 | none =>
  have hF:=h.fin rfl
  obtain ⟨r,hr⟩:=P.total (4 * ws.length + 3) 0 (.expr 1) ws (by simp [Job.wt]) (by simp [Job.may]) hF (by omega)
  rcases hr.form (by simp [Job.may]) hF rfl with ⟨x,d,ts',rfl,-,-⟩ | ⟨c,a,rfl⟩
  · by_cases hd : d.k = 3
    · exact ⟨_,.ok h hr hd⟩
    · exact ⟨_,.stray h hr hd⟩
  · exact ⟨_,.bad h hr⟩
theorem key_tru : keyB [116,114,117,101] = true:=by decide
theorem key_fls : keyB [102,97,108,115,101] = true:=by decide
theorem P.det {o : Nat} {j : Job} {ts : List Wd} {r : Res} (h : P o j ts r) : ∀ r',P o j ts r' → r = r':=by
 induction h with
 | num h1 => intro r' h;cases h <;> simp_all [Sg,Stray]
 | tru h1 h2 => intro r' h;cases h <;> simp_all [Sg,Stray,key_tru,key_fls,truB,flsB]
 | fls h1 h2 => intro r' h;cases h <;> simp_all [Sg,Stray,key_tru,key_fls,truB,flsB]
 | neg h1 _ ih => intro r' h;cases h <;> first | (exact ih _ (by assumption)) | (simp_all [Sg,Stray];done)
 | not h1 _ ih => intro r' h;cases h <;> first | (exact ih _ (by assumption)) | (simp_all [Sg,Stray];done)
 | par h1 _ ih => intro r' h;cases h <;> first | (exact ih _ (by assumption)) | (simp_all [Sg,Stray];done)
 | name h1 h2 _ ih => intro r' h;cases h <;> first | (exact ih _ (by assumption)) | (simp_all [Sg,Stray,key_tru,key_fls,truB,flsB];done)
 | stray h1 => intro r' h;cases h <;> first | rfl | (simp_all [Sg,Stray,truB,flsB];done)
 | behLim h1 => intro r' h;cases h <;> first | rfl | omega
 | behOk h1 _ ih =>
  intro r' h
  cases h with
  | behLim => omega
  | behOk _ h2 => have:=ih _ h2;simp_all
  | behBad _ h2 => have:=ih _ h2;simp_all
 | behBad h1 _ ih =>
  intro r' h
  cases h with
  | behLim => omega
  | behOk _ h2 => have:=ih _ h2;simp_all
  | behBad _ h2 => have:=ih _ h2;simp_all
 | wthLim h1 => intro r' h;cases h <;> first | rfl | omega
 | wthOk h1 _ h3 ih =>
  intro r' h
  cases h with
  | wthLim => omega
  | wthOk _ h2 _ => have:=ih _ h2;simp_all
  | wthNo _ h2 _ => have:=ih _ h2;simp_all
  | wthBad _ h2 => have:=ih _ h2;simp_all
 | wthNo h1 _ h3 ih =>
  intro r' h
  cases h with
  | wthLim => omega
  | wthOk _ h2 _ => have:=ih _ h2;simp_all
  | wthNo _ h2 _ => have:=ih _ h2;simp_all
  | wthBad _ h2 => have:=ih _ h2;simp_all
 | wthBad h1 _ ih =>
  intro r' h
  cases h with
  | wthLim => omega
  | wthOk _ h2 _ => have:=ih _ h2;simp_all
  | wthNo _ h2 _ => have:=ih _ h2;simp_all
  | wthBad _ h2 => have:=ih _ h2;simp_all
 | namVar h1 h2 => intro r' h;cases h <;> first | rfl | contradiction
 | namElem h1 _ ih =>
  intro r' h
  cases h with
  | namVar => contradiction
  | namElem _ h2 => have:=ih _ h2;simp_all
  | namElemBad _ h2 => have:=ih _ h2;simp_all
  | namCall h2 _ => simp_all [Sg]
  | namCallBad h2 _ => simp_all [Sg]
 | namElemBad h1 _ ih =>
  intro r' h
  cases h with
  | namVar => contradiction
  | namElem _ h2 => have:=ih _ h2;simp_all
  | namElemBad _ h2 => have:=ih _ h2;simp_all
  | namCall h2 _ => simp_all [Sg]
  | namCallBad h2 _ => simp_all [Sg]
 | namCall h1 _ ih =>
  intro r' h
  cases h with
  | namVar => contradiction
  | namElem h2 _ => simp_all [Sg]
  | namElemBad h2 _ => simp_all [Sg]
  | namCall _ h2 => have:=ih _ h2;simp_all
  | namCallBad _ h2 => have:=ih _ h2;simp_all
 | namCallBad h1 _ ih =>
  intro r' h
  cases h with
  | namVar => contradiction
  | namElem h2 _ => simp_all [Sg]
  | namElemBad h2 _ => simp_all [Sg]
  | namCall _ h2 => have:=ih _ h2;simp_all
  | namCallBad _ h2 => have:=ih _ h2;simp_all
 | givLim h1 => intro r' h;cases h <;> first | rfl | omega
 | givNone h1 h2 => intro r' h;cases h <;> first | rfl | omega | contradiction
 | givSome h1 h2 _ h4 ih =>
  intro r' h
  cases h with
  | givLim => omega
  | givNone => contradiction
  | givSome _ _ h3 _ => have:=ih _ h3;simp_all
  | givNo _ _ h3 _ => have:=ih _ h3;simp_all
  | givBad _ _ h3 => have:=ih _ h3;simp_all
 | givNo h1 h2 _ h4 ih =>
  intro r' h
  cases h with
  | givLim => omega
  | givNone => contradiction
  | givSome _ _ h3 _ => have:=ih _ h3;simp_all
  | givNo _ _ h3 _ => have:=ih _ h3;simp_all
  | givBad _ _ h3 => have:=ih _ h3;simp_all
 | givBad h1 h2 _ ih =>
  intro r' h
  cases h with
  | givLim => omega
  | givNone => contradiction
  | givSome _ _ h3 _ => have:=ih _ h3;simp_all
  | givNo _ _ h3 _ => have:=ih _ h3;simp_all
  | givBad _ _ h3 => have:=ih _ h3;simp_all
 | lstMore _ h2 _ ih ih2 =>
  intro r' h
  cases h with
  | lstMore h3 h4 h5 =>
   have h6:=ih _ h3
   simp at h6
   obtain ⟨rfl,rfl,rfl⟩:=h6
   exact ih2 _ h5
  | lstEnd h3 h4 => have:=ih _ h3;simp_all
  | lstBad h3 => have:=ih _ h3;simp_all
 | lstEnd _ h2 ih =>
  intro r' h
  cases h with
  | lstMore h3 h4 h5 => have:=ih _ h3;simp_all
  | lstEnd h3 h4 => have:=ih _ h3;simp_all
  | lstBad h3 => have:=ih _ h3;simp_all
 | lstBad _ ih =>
  intro r' h
  cases h with
  | lstMore h3 h4 h5 => have:=ih _ h3;simp_all
  | lstEnd h3 h4 => have:=ih _ h3;simp_all
  | lstBad h3 => have:=ih _ h3;simp_all
 | expr _ _ ih ih2 =>
  intro r' h
  cases h with
  | expr h3 h4 =>
   have h6:=ih _ h3
   simp at h6
   obtain ⟨rfl,rfl⟩:=h6
   exact ih2 _ h4
  | exprBad h3 => have:=ih _ h3;simp_all
 | exprBad _ ih =>
  intro r' h
  cases h with
  | expr h3 h4 => have:=ih _ h3;simp_all
  | exprBad h3 => have:=ih _ h3;simp_all
 | loopEnd h1 => intro r' h;cases h <;> first | rfl | omega
 | loopMore h1 _ _ ih ih2 =>
  intro r' h
  cases h with
  | loopEnd => omega
  | loopMore _ h3 h4 =>
   have h6:=ih _ h3
   simp at h6
   obtain ⟨rfl,rfl⟩:=h6
   exact ih2 _ h4
  | loopBad _ h3 => have:=ih _ h3;simp_all
 | loopBad h1 _ ih =>
  intro r' h
  cases h with
  | loopEnd => omega
  | loopMore _ h3 h4 => have:=ih _ h3;simp_all
  | loopBad _ h3 => have:=ih _ h3;simp_all
def kVar : List UInt8:=[118,97,114]
def kIf : List UInt8:=[105,102]
def kWhile : List UInt8:=[119,104,105,108,101]
def kLock : List UInt8:=[108,111,99,107]
def kOut : List UInt8:=[111,117,116]
def kPublic : List UInt8:=[112,117,98,108,105,99]
def kSecret : List UInt8:=[115,101,99,114,101,116]
def kInt : List UInt8:=[105,110,116]
def kBool : List UInt8:=[98,111,111,108]
def kElse : List UInt8:=[101,108,115,101]
def kBy : List UInt8:=[98,121]
def kFunc : List UInt8:=[102,117,110,99]
def kThread : List UInt8:=[116,104,114,101,97,100]
def kReturn : List UInt8:=[114,101,116,117,114,110]
inductive Stm where
 | mk (k a : Int) (tr sc : Bool) (nm : List UInt8) (ix es : List Ex) (bd el : List Stm)
def Stm.k : Stm → Int | .mk k _ _ _ _ _ _ _ _ => k
def Stm.a : Stm → Int | .mk _ a _ _ _ _ _ _ _ => a
def Stm.tr : Stm → Bool | .mk _ _ t _ _ _ _ _ _ => t
def Stm.sc : Stm → Bool | .mk _ _ _ t _ _ _ _ _ => t
def Stm.nm : Stm → List UInt8 | .mk _ _ _ _ n _ _ _ _ => n
def Stm.ix : Stm → List Ex | .mk _ _ _ _ _ l _ _ _ => l
def Stm.es : Stm → List Ex | .mk _ _ _ _ _ _ l _ _ => l
def Stm.bd : Stm → List Stm | .mk _ _ _ _ _ _ _ l _ => l
def Stm.el : Stm → List Stm | .mk _ _ _ _ _ _ _ _ l => l
structure Gl where
 (a : Int) (nm : List UInt8) (tr sc : Bool) (len : Int) (by_ : List UInt8)
structure Pm where
 (nm : List UInt8) (tr sc : Bool)
structure Fn where
 (a : Int) (nm : List UInt8) (ps : List Pm) (tr sc : Bool) (bd : List Stm) (ret : Ex)
structure Lk where
 (a : Int) (nm : List UInt8)
structure Pg where
 (gs : List Gl) (ls : List Lk) (fs : List Fn) (ths : List (List Stm))
def ex0 : Ex:=.mk 0 0 0 [] [] 0
def stm0 : Stm:=.mk 0 0 false false [] [] [] [] []
inductive RS where
 | ok (ts : List Wd)
 | bad (c : Int) (a : Nat)
def RS.good : RS → Bool | .ok _ => true | .bad _ _ => false
def RS.hd : RS → Wd | .ok (w :: _) => w | _ => ⟨3,[],0,0⟩
def RS.adv : RS → RS | .ok (_ :: ts) => .ok ts | s => s
def RS.fail (e : Int) : RS → RS | .ok (w :: _) => .bad e w.a | s => s
def RS.len : RS → Nat | .ok ts => ts.length | .bad _ _ => 0
def RS.is (t : List UInt8) : RS → Bool | .ok (w :: _) => (decide (w.k = 2) || decide (w.k = 0)) && decide (w.t = t) | _ => false
def RS.need (t : List UInt8) (s : RS) : RS:=if s.is t then s.adv else s.fail 11
def eithF (x y : List UInt8) (s : RS) : Bool × RS:=if s.is y then (true,s.adv) else (false,s.need x)
def kindF (s : RS) : (Bool × Bool) × RS :=
 let p:=eithF kPublic kSecret s
 let q:=eithF kInt kBool p.2
 ((q.1,p.1),q.2)
def nameF : RS → (List UInt8 × Nat) × RS
 | .ok (w :: ts) => if w.k ≠ 0 ∨ keyB w.t = true then (([],0),.bad 11 w.a) else ((w.t,w.a),.ok ts)
 | s => (([],0),s)
open Classical in
noncomputable def exF : RS → Ex × RS
 | .ok ts => if h : ∃ r,P 0 (.expr 1) ts r then (match Classical.choose h with | .ok x ts' => (x,.ok ts') | .bad c a => (ex0,.bad c a) | .okL _ _ => (ex0,.ok ts)) else (ex0,.ok ts)
 | .bad c a => (ex0,.bad c a)
theorem exF_ok {ts ts' : List Wd} {x : Ex} (h : P 0 (.expr 1) ts (.ok x ts')) : exF (.ok ts) = (x,.ok ts'):=by
 have hx : ∃ r,P 0 (.expr 1) ts r:=⟨_,h⟩
 have e:=(Classical.choose_spec hx).det _ h
 simp only [exF,dif_pos hx,e]
theorem exF_bad {ts : List Wd} {c : Int} {a : Nat} (h : P 0 (.expr 1) ts (.bad c a)) : exF (.ok ts) = (ex0,.bad c a):=by
 have hx : ∃ r,P 0 (.expr 1) ts r:=⟨_,h⟩
 have e:=(Classical.choose_spec hx).det _ h
 simp only [exF,dif_pos hx,e]
noncomputable def boundF (s : RS) : Ex × RS :=
 let p:=exF (s.need [40])
 (p.1,p.2.need [41])
mutual
noncomputable def stmtF : Nat → Nat → RS → Stm × RS
 | 0,_,s => (stm0,s)
 | n + 1,d,s =>
  if s.is kVar then
   let t:=kindF s.adv
   let m:=nameF t.2
   let e:=exF (m.2.need [61])
   (.mk 0 s.hd.a t.1.1 t.1.2 m.1.1 [] [e.1] [] [],e.2.need [59])
  else if s.is kIf then
   let e:=boundF s.adv
   let l:=blockF n d e.2
   if l.2.is kElse then
    let f:=blockF n d l.2.adv
    (.mk 2 s.hd.a false false [] [] [e.1] l.1 f.1,f.2)
   else (.mk 2 s.hd.a false false [] [] [e.1] l.1 [],l.2)
  else if s.is kWhile then
   let e:=boundF s.adv
   let l:=blockF n d e.2
   (.mk 3 s.hd.a false false [] [] [e.1] l.1 [],l.2)
  else if s.is kLock then
   let m:=nameF s.adv
   let l:=blockF n d m.2
   (.mk 4 s.hd.a false false m.1.1 [] [] l.1 [],l.2)
  else if s.is kOut then
   let e:=exF s.adv
   (.mk 5 s.hd.a false false [] [] [e.1] [] [],e.2.need [59])
  else
   let m:=nameF s
   if m.2.is [91] then
    let i:=exF m.2.adv
    let e:=exF ((i.2.need [93]).need [61])
    (.mk 1 s.hd.a false false m.1.1 [i.1] [e.1] [] [],e.2.need [59])
   else
    let e:=exF (m.2.need [61])
    (.mk 1 s.hd.a false false m.1.1 [] [e.1] [] [],e.2.need [59])
noncomputable def blockF : Nat → Nat → RS → List Stm × RS
 | 0,_,s => ([],s)
 | n + 1,d,s =>
  let s1:=if s.is [123] && decide (d = 32) then s.fail 2 else s
  let l:=stmtsF n (d + 1) [125] (s1.need [123])
  (l.1,l.2.need [125])
noncomputable def stmtsF : Nat → Nat → List UInt8 → RS → List Stm × RS
 | 0,_,_,s => ([],s)
 | n + 1,d,t,s =>
  if s.good && !s.is t then
   let x:=stmtF n d s
   let l:=stmtsF n d t x.2
   (x.1 :: l.1,l.2)
  else ([],s)
end
def limF (n most : Nat) (s : RS) : RS:=if most ≤ n then s.fail 2 else s
def lenF : RS → Int × RS
 | .ok (w :: ts) => if w.k ≠ 1 then (0,.bad 11 w.a) else if w.n < 1 ∨ 64 < w.n then (0,.bad 2 w.a) else (w.n,.ok ts)
 | s => (0,s)
def globF (n : Nat) (s : RS) : Gl × RS :=
 let t:=kindF (limF n 32 s)
 let m:=nameF t.2
 let l:=if m.2.is [91] then (let q:=lenF m.2.adv;(q.1,q.2.need [93])) else (0,m.2)
 let y:=if l.2.is kBy then (let q:=nameF l.2.adv;(q.1.1,q.2)) else ([],l.2)
 (⟨m.1.2,m.1.1,t.1.1,t.1.2,l.1,y.1⟩,y.2.need [59])
def parsF : Nat → Nat → RS → List Pm × RS
 | 0,_,s => ([],s)
 | n + 1,k,s =>
  if s.good then
   let t:=kindF (limF k 6 s)
   let m:=nameF t.2
   if m.2.is [44] then
    let l:=parsF n (k + 1) m.2.adv
    (⟨m.1.1,t.1.1,t.1.2⟩ :: l.1,l.2)
   else ([⟨m.1.1,t.1.1,t.1.2⟩],m.2)
  else ([],s)
def paramsF (s : RS) : List Pm × RS :=
 let s1:=s.need [40]
 if s1.is [41] then ([],s1.adv)
 else
  let l:=parsF 8 0 s1
  (l.1,l.2.need [41])
noncomputable def funcF (n : Nat) (s : RS) : Fn × RS :=
 let m:=nameF s.adv
 let l:=paramsF m.2
 let t:=kindF l.2
 let b:=stmtsF n 1 kReturn (t.2.need [123])
 let e:=exF (b.2.need kReturn)
 (⟨m.1.2,m.1.1,l.1,t.1.1,t.1.2,b.1,e.1⟩,(e.2.need [59]).need [125])
noncomputable def thingF (n : Nat) (p : Pg) (s : RS) : Pg × RS :=
 if s.is kLock then
  let s1:=limF p.ls.length 8 s
  if s1.good then
   let m:=nameF s1.adv
   ({ p with ls:=p.ls ++ [⟨m.1.2,m.1.1⟩] },m.2.need [59])
  else (p,s1)
 else if s.is kFunc then
  let s1:=limF p.fs.length 16 s
  if s1.good then
   let f:=funcF n s1
   ({ p with fs:=p.fs ++ [f.1] },f.2)
  else (p,s1)
 else if s.is kThread then
  let s1:=limF p.ths.length 4 s
  if s1.good then
   let l:=blockF n 0 s1.adv
   ({ p with ths:=p.ths ++ [l.1] },l.2)
  else (p,s1)
 else if s.is kPublic || s.is kSecret then
  let g:=globF p.gs.length s
  ({ p with gs:=p.gs ++ [g.1] },g.2)
 else (p,s.fail 11)
noncomputable def wholeF (n : Nat) : Nat → Pg → RS → Pg × RS
 | 0,p,s => (p,s)
 | m + 1,p,s => if s.good && decide (s.hd.k ≠ 3) then (let q:=thingF n p s;wholeF n m q.1 q.2) else (p,s)
def lineT (n : Nat) (ps : List (List UInt8)) : List UInt8:=List.replicate n 9 ++ (ps.flatten ++ [10])
def typeT (tr sc : Bool) : List UInt8:=(if sc then [115,101,99,114,101,116,32] else [112,117,98,108,105,99,32]) ++ (if tr then kBool else kInt)
def onlyT : List Ex → List UInt8
 | [] => []
 | x :: _ => x.txt
def indexT : List Ex → List UInt8
 | [] => []
 | x :: _ => 91 :: (x.txt ++ [93])
def tVar : List UInt8:=[118,97,114,32]
def tEq : List UInt8:=[32,61,32]
def tIf : List UInt8:=[105,102,32,40]
def tBr : List UInt8:=[41,32,123]
def tElse : List UInt8:=[125,32,101,108,115,101,32,123]
def tWhile : List UInt8:=[119,104,105,108,101,32,40]
def tLock : List UInt8:=[108,111,99,107,32]
def tOpen : List UInt8:=[32,123]
def tOut : List UInt8:=[111,117,116,32]
def tThr : List UInt8:=[116,104,114,101,97,100,32,123]
mutual
def stT : Stm → Nat → List UInt8
 | .mk k _ tr sc nm ix es bd el,n =>
  if k = 0 then lineT n [tVar,typeT tr sc,[32],nm,tEq,onlyT es,[59]]
  else if k = 1 then lineT n [nm,indexT ix,tEq,onlyT es,[59]]
  else if k = 2 then lineT n [tIf,onlyT es,tBr] ++ (stsT bd (n + 1) ++ ((if el.isEmpty then [] else lineT n [tElse] ++ stsT el (n + 1)) ++ lineT n [[125]]))
  else if k = 3 then lineT n [tWhile,onlyT es,tBr] ++ (stsT bd (n + 1) ++ lineT n [[125]])
  else if k = 4 then lineT n [tLock,nm,tOpen] ++ (stsT bd (n + 1) ++ lineT n [[125]])
  else if k = 5 then lineT n [tOut,onlyT es,[59]]
  else []
def stsT : List Stm → Nat → List UInt8
 | [],_ => []
 | s :: r,n => stT s n ++ stsT r n
end
mutual
def Stm.cnt : Stm → Nat
 | .mk _ _ _ _ _ _ _ bd el => 1 + cntS bd + cntS el
def cntS : List Stm → Nat
 | [] => 0
 | s :: r => s.cnt + cntS r
end
def GoodE (x : Ex) : Prop:=x.cnt < 1000000 ∧ Nums x ∧ x.txt.length ≤ 1000000 ∧ Fit 0 1 x
def NmOk (t : List UInt8) : Prop:=t = [] ∨ NameB t
theorem NmOk.len {t : List UInt8} (h : NmOk t) : t.length ≤ 100000:=by
 rcases h with rfl | ⟨_,_,_,_,_,h24,_⟩
 · simp
 · omega
inductive GoodS : Stm → Prop
 | mk {k a : Int} {tr sc : Bool} {nm : List UInt8} {ix es : List Ex} {bd el : List Stm} : 0 ≤ k → k ≤ 5 → (∀ x ∈ ix,GoodE x) → (∀ x ∈ es,GoodE x) → NmOk nm → (∀ s ∈ bd,GoodS s) → (∀ s ∈ el,GoodS s) → GoodS (.mk k a tr sc nm ix es bd el)
theorem cnt_mem {s : Stm} : ∀ {l : List Stm},s ∈ l → s.cnt ≤ cntS l
 | x :: r,h => by
  simp only [cntS]
  rcases List.mem_cons.1 h with rfl | h
  · omega
  · have:=cnt_mem h
    omega
end Go.Proofs.Ytbmmjomcjlpnlaa
namespace Go.Proofs.Ytbmmjomcjlpnlaa
open Go Go.RowKit
def rrCells (sl : Value) (nx op c a : Int) : Array Value:=#[sl,.int .i64 nx,.int .i64 op,.int .i64 c,.int .i64 a]
def RrAt (W : World) (rb : Nat) (sl : Value) (nx op c a : Int) : Prop:=W.heap[rb]? = some (.cells (rrCells sl nx op c a) 78 (0,0))
section
variable {W X : World} {rb : Nat} {sl : Value} {nx op c a : Int}
theorem RrAt.cells (h : RrAt W rb sl nx op c a) :
 W.cell? ⟨rb,0,none⟩ = some sl ∧ W.cell? ⟨rb,1,none⟩ = some (.int .i64 nx) ∧ W.cell? ⟨rb,2,none⟩ = some (.int .i64 op) ∧ W.cell? ⟨rb,3,none⟩ = some (.int .i64 c) ∧ W.cell? ⟨rb,4,none⟩ = some (.int .i64 a):=by
 refine ⟨?_,?_,?_,?_,?_⟩ <;> rw [cell_of_row _ _ _ _ _ _ h] <;> rfl
theorem RrAt.lt (h : RrAt W rb sl nx op c a) : rb < W.heap.size:=(Array.getElem?_eq_some_iff.1 h).1
theorem RrAt.frozen (h : RrAt W rb sl nx op c a) (o : Nat) : W.frozen? ⟨rb,o,none⟩ = false:=frozen_of_row W rb o _ _ h
theorem RrAt.kept (h : RrAt W rb sl nx op c a) (hb : Below W.heap.size W X) : RrAt X rb sl nx op c a:=(hb.block rb h.lt).trans h
theorem RrAt.set1 (h : RrAt W rb sl nx op c a) (v : Int) : RrAt (W.setCell ⟨rb,1,none⟩ (.int .i64 v)) rb sl v op c a:=heap_setCell_same W rb 1 _ _ _ h
theorem RrAt.set2 (h : RrAt W rb sl nx op c a) (v : Int) : RrAt (W.setCell ⟨rb,2,none⟩ (.int .i64 v)) rb sl nx v c a:=heap_setCell_same W rb 2 _ _ _ h
theorem RrAt.set3 (h : RrAt W rb sl nx op c a) (v : Int) : RrAt (W.setCell ⟨rb,3,none⟩ (.int .i64 v)) rb sl nx op v a:=heap_setCell_same W rb 3 _ _ _ h
theorem RrAt.set4 (h : RrAt W rb sl nx op c a) (v : Int) : RrAt (W.setCell ⟨rb,4,none⟩ (.int .i64 v)) rb sl nx op c v:=heap_setCell_same W rb 4 _ _ _ h
theorem RrAt.setO (h : RrAt W rb sl nx op c a) {b : Nat} (hne : rb ≠ b) (o : Nat) (v : Value) : RrAt (W.setCell ⟨b,o,none⟩ v) rb sl nx op c a:=(heap_setCell_other W ⟨b,o,none⟩ rb v hne).trans h
theorem RrAt.alloc (h : RrAt W rb sl nx op c a) (o : Obj) : RrAt (W.alloc o) rb sl nx op c a:=(Below.heap_alloc W o rb h.lt).trans h
theorem RrAt.drewN (h : RrAt W rb sl nx op c a) (n : Nat) : RrAt (W.drewN n) rb sl nx op c a:=h
theorem RrAt.drew (h : RrAt W rb sl nx op c a) : RrAt W.drew rb sl nx op c a:=h
end
structure Rr (W : World) (rb g cap : Nat) (ws : List Wd) (i : Nat) (x : Wd) (op c a : Int) : Prop where
 rd : RrAt W rb (.slice (some ⟨g,0,none⟩) ws.length cap) i op c a
 wc : WCells W g ws
 ne : g ≠ rb
 at_ : ws[i]? = some x
theorem Rr.kept {W X : World} {rb g cap : Nat} {ws : List Wd} {i : Nat} {x : Wd} {op c a : Int} (R : Rr W rb g cap ws i x op c a) (hb : Below W.heap.size W X) : Rr X rb g cap ws i x op c a :=
 ⟨R.rd.kept hb,R.wc.kept (fun k e => hb.block k (by rw [e];exact R.wc.lt)) hb.size,R.ne,R.at_⟩
theorem Rr.alloc {W : World} {rb g cap : Nat} {ws : List Wd} {i : Nat} {x : Wd} {op c a : Int} (R : Rr W rb g cap ws i x op c a) (o : Obj) : Rr (W.alloc o) rb g cap ws i x op c a :=
 R.kept ((Below.refl _ _).alloc (Nat.le_refl _) _)
theorem Rr.facts {W : World} {rb g cap : Nat} {ws : List Wd} {i : Nat} {x : Wd} {op c a : Int} (R : Rr W rb g cap ws i x op c a) :
 (W.cell? ⟨rb,0,none⟩ = some (.slice (some ⟨g,0,none⟩) ws.length cap) ∧ W.cell? ⟨rb,1,none⟩ = some (.int .i64 i) ∧ W.cell? ⟨rb,2,none⟩ = some (.int .i64 op) ∧ W.cell? ⟨rb,3,none⟩ = some (.int .i64 c) ∧ W.cell? ⟨rb,4,none⟩ = some (.int .i64 a)) ∧
 (W.cell? ⟨g,i * 4,none⟩ = some (.int .i64 x.k) ∧ W.cell? ⟨g,i * 4 + 1,none⟩ = some (.string (bstr x.t)) ∧ W.cell? ⟨g,i * 4 + 2,none⟩ = some (.int .i64 x.n) ∧ W.cell? ⟨g,i * 4 + 3,none⟩ = some (.int .i64 x.a)) ∧
 rb < W.heap.size ∧ g < W.heap.size ∧ (i : Int) < ws.length ∧ (0 : Int) ≤ i ∧ (∀ o,W.frozen? ⟨rb,o,none⟩ = false) :=
 ⟨R.rd.cells,R.wc.at_ i x R.at_,R.rd.lt,R.wc.lt,by have:=(List.getElem?_eq_some_iff.1 R.at_).1;omega,Int.natCast_nonneg _,R.rd.frozen⟩
def isB (x : Wd) (c : Int) (t : List UInt8) : Bool:=decide (c = 0) && ((decide (x.k = 2) || decide (x.k = 0)) && decide (x.t = t))
theorem rr_is (rb g cap : Nat) (ws : List Wd) (i : Nat) (x : Wd) (op c a : Int) (s : ByteArray) (w : World) (R0 : Rr w rb g cap ws i x op c a) (b : Bool) (hb : isB x c s.data.toList = b) :
 Calls Try.prog 62 #[.pointer (some ⟨rb,0,none⟩),.string s] w fun e w' => e = .returned (.bool b) ∧ Below w.heap.size w w':=by
 have R:=hid R0
 obtain ⟨⟨r0,r1,_,r3,_⟩,⟨c0,c1,c2,c3⟩,hrl,hgl,hi1,hi2,_⟩:=R0.facts
 have hn1 : rb ≠ w.heap.size:=by omega
 have hn2 : g ≠ w.heap.size:=by omega
 have hn3 : w.heap.size ≠ rb:=by omega
 have hn4 : w.heap.size ≠ g:=by omega
 clear R0
 have hs : ((bstr x.t).toList == s.toList) = decide (x.t = s.data.toList):=by
  have:=bstr_eq (a:=x.t) (b:=s.data.toList)
  rwa [show bstr s.data.toList = s from by (obtain ⟨d⟩:=s;simp [bstr])] at this
 by_cases hc : c = 0
 · subst hc
   by_cases hk2 : x.k = 2
   · have k2 : (x.k == 2) = true:=by simp [hk2]
     have hR : b = ((bstr x.t).toList == s.toList):=by (rw [hs,← hb];simp [isB,hk2])
     have HR:=hid hR
     clear hk2 hs hb hR
     go_enter Try.func62,Try.ntmps62
     go_wp2
     go_region
     go_wp2
     go_ret
     exact ⟨by rw [HR.out];rfl,by (refine Fr.below ?_;(with_reducible repeat first | exact Fr.refl _ _ | refine Fr.alloc ?_ _ | refine Fr.drewN ?_ _ | refine Fr.drew ?_ | (refine Fr.set ?_ ?_ _ _;rotate_left;first | exact .inl rfl | (right;simp;done) | (right;simp;omega) | (right;omega)) | refine Fr.step ?_ (by assumption) | refine Fr.stepB ?_ (by assumption)))⟩
   · have k2 : (x.k == 2) = false:=by simp [hk2]
     by_cases hk0 : x.k = 0
     · have k0 : (x.k == 0) = true:=by simp [hk0]
       have hR : b = ((bstr x.t).toList == s.toList):=by (rw [hs,← hb];simp [isB,hk0])
       have HR:=hid hR
       clear hk2 hk0 hs hb hR
       go_enter Try.func62,Try.ntmps62
       go_wp2
       go_region
       go_wp2
       go_ret
       exact ⟨by rw [HR.out];rfl,by (refine Fr.below ?_;(with_reducible repeat first | exact Fr.refl _ _ | refine Fr.alloc ?_ _ | refine Fr.drewN ?_ _ | refine Fr.drew ?_ | (refine Fr.set ?_ ?_ _ _;rotate_left;first | exact .inl rfl | (right;simp;done) | (right;simp;omega) | (right;omega)) | refine Fr.step ?_ (by assumption) | refine Fr.stepB ?_ (by assumption)))⟩
     · have k0 : (x.k == 0) = false:=by simp [hk0]
       have hR : b = false:=by (rw [← hb];simp [isB,hk0,hk2])
       subst hR
       clear hk2 hk0 hs hb
       go_enter Try.func62,Try.ntmps62
       go_wp2
       go_region
       go_wp2
       go_ret
       exact ⟨rfl,by (refine Fr.below ?_;(with_reducible repeat first | exact Fr.refl _ _ | refine Fr.alloc ?_ _ | refine Fr.drewN ?_ _ | refine Fr.drew ?_ | (refine Fr.set ?_ ?_ _ _;rotate_left;first | exact .inl rfl | (right;simp;done) | (right;simp;omega) | (right;omega)) | refine Fr.step ?_ (by assumption) | refine Fr.stepB ?_ (by assumption)))⟩
 · have hd : (c == 0) = false:=by simp [hc]
   have hR : b = false:=by (rw [← hb];simp [isB,hc])
   subst hR
   clear hc hs hb
   go_enter Try.func62,Try.ntmps62
   go_wp2
   go_region
   go_wp2
   go_ret
   exact ⟨rfl,by (refine Fr.below ?_;(with_reducible repeat first | exact Fr.refl _ _ | refine Fr.alloc ?_ _ | refine Fr.drewN ?_ _ | refine Fr.drew ?_ | (refine Fr.set ?_ ?_ _ _;rotate_left;first | exact .inl rfl | (right;simp;done) | (right;simp;omega) | (right;omega)) | refine Fr.step ?_ (by assumption) | refine Fr.stepB ?_ (by assumption)))⟩
theorem rr_fail0 (rb g cap : Nat) (ws : List Wd) (i : Nat) (x : Wd) (op a e0 : Int) (w : World) (R0 : Rr w rb g cap ws i x op 0 a) :
 Calls Try.prog 70 #[.pointer (some ⟨rb,0,none⟩),.int .i64 e0] w fun e w' => e = .returned (.tuple #[]) ∧ RrAt w' rb (.slice (some ⟨g,0,none⟩) ws.length cap) i op e0 x.a ∧ Fr (some rb) w w':=by
 obtain ⟨⟨r0,r1,_,r3,_⟩,⟨c0,c1,c2,c3⟩,hrl,hgl,hi1,hi2,hf⟩:=R0.facts
 have hn1 : g ≠ rb:=R0.ne
 have hn2 : rb ≠ g:=Ne.symm hn1
 have hf3:=hf 3
 have hf4:=hf 4
 have hr:=R0.rd
 clear R0 hf
 go_enter Try.func70,Try.ntmps70
 go_wp2
 go_region
 all_goals go_wp2
 all_goals go_end0
 all_goals exact ⟨rfl,(hr.set3 _).set4 _,by (with_reducible repeat first | exact Fr.refl _ _ | refine Fr.alloc ?_ _ | refine Fr.drewN ?_ _ | refine Fr.drew ?_ | (refine Fr.set ?_ ?_ _ _;rotate_left;first | exact .inl rfl | (right;simp;done) | (right;simp;omega) | (right;omega)) | refine Fr.step ?_ (by assumption) | refine Fr.stepB ?_ (by assumption))⟩
theorem rr_failN (rb g cap : Nat) (ws : List Wd) (i : Nat) (x : Wd) (op c a e0 : Int) (w : World) (R0 : Rr w rb g cap ws i x op c a) (hc : c ≠ 0) :
 Calls Try.prog 70 #[.pointer (some ⟨rb,0,none⟩),.int .i64 e0] w fun e w' => e = .returned (.tuple #[]) ∧ w' = w:=by
 obtain ⟨⟨r0,r1,_,r3,_⟩,⟨c0,c1,c2,c3⟩,hrl,hgl,hi1,hi2,hf⟩:=R0.facts
 have hd : (c == 0) = false:=by simp [hc]
 clear R0 hf hc
 go_enter Try.func70,Try.ntmps70
 go_wp2
 go_end0
 exact ⟨rfl,rfl⟩
end Go.Proofs.Ytbmmjomcjlpnlaa
namespace Go.Proofs.Ytbmmjomcjlpnlaa
open Go Go.RowKit
inductive IsExP (ok : Nat → Prop) (W : World) : Ex → Value → Prop
 | leaf {k o n : Int} {nm : List UInt8} {a : Nat} : IsExP ok W (.mk k o n nm [] a) (.slice none 0 0)
 | node {k o n : Int} {nm : List UInt8} {ks : List Ex} {a : Nat} (g cap : Nat) (cs : Array Value) (fr : Nat × Nat) (vs : Nat → Value) : ok g → W.heap[g]? = some (.cells cs 63 fr) → ks ≠ [] →
  (∀ i e,ks[i]? = some e → ∀ j u,(exCells e (vs i))[j]? = some u → cs[i * 6 + j]? = some u) → (∀ i e,ks[i]? = some e → IsExP ok W e (vs i)) → IsExP ok W (.mk k o n nm ks a) (.slice (some ⟨g,0,none⟩) ks.length cap)
theorem IsExP.kept {ok ok' : Nat → Prop} {W X : World} {e : Ex} {v : Value} (h : IsExP ok W e v) (hk : ∀ g,ok g → g < W.heap.size → X.heap[g]? = W.heap[g]? ∧ ok' g) : IsExP ok' X e v:=by
 induction h with
 | leaf => exact .leaf
 | node g cap cs fr vs hg hb hne hc _ ih =>
  have:=hk g hg (Array.getElem?_eq_some_iff.1 hb).1
  exact .node g cap cs fr vs this.2 (this.1.trans hb) hne hc ih
theorem IsEx.toP {lo : Nat} {W X : World} {ok : Nat → Prop} {e : Ex} {v : Value} (h : IsEx lo W e v) (hk : ∀ g,lo ≤ g → g < W.heap.size → X.heap[g]? = W.heap[g]? ∧ ok g) : IsExP ok X e v:=by
 induction h with
 | leaf => exact .leaf
 | node g cap cs fr vs hg hb hne hc _ ih =>
  have:=hk g hg (Array.getElem?_eq_some_iff.1 hb).1
  exact .node g cap cs fr vs this.2 (this.1.trans hb) hne hc ih
theorem IsExP.toEx {lo : Nat} {W : World} {ok : Nat → Prop} {e : Ex} {v : Value} (h : IsExP ok W e v) (hk : ∀ g,ok g → lo ≤ g) : IsEx lo W e v:=by
 induction h with
 | leaf => exact .leaf
 | node g cap cs fr vs hg hb hne hc _ ih => exact .node g cap cs fr vs (hk g hg) hb hne hc ih
def exRow : List (Ex × Value) → List Value
 | [] => []
 | (x,u) :: r => exCells x u ++ exRow r
theorem exRow_snoc (l : List (Ex × Value)) (x : Ex) (u : Value) : exRow (l ++ [(x,u)]) = exRow l ++ exCells x u:=by
 induction l with
 | nil => simp [exRow]
 | cons y r ih => simp [exRow,ih]
theorem exRow_at : ∀ (l : List (Ex × Value)) (i : Nat) (x : Ex) (u : Value) (j : Nat) (v : Value),l[i]? = some (x,u) → (exCells x u)[j]? = some v → (exRow l)[i * 6 + j]? = some v
 | [],i,x,u,j,v,h,_ => by simp at h
 | y :: r,0,x,u,j,v,h,hv => by
  simp at h
  subst h
  have hj : j < 6:=(List.getElem?_eq_some_iff.1 hv).1
  show (exCells x u ++ exRow r)[0 * 6 + j]? = _
  rw [List.getElem?_append_left (by show 0 * 6 + j < 6;omega),Nat.zero_mul,Nat.zero_add]
  exact hv
 | y :: r,i + 1,x,u,j,v,h,hv => by
  show (exCells y.1 y.2 ++ exRow r)[(i + 1) * 6 + j]? = _
  rw [List.getElem?_append_right (by show 6 ≤ _;omega)]
  have e : (i + 1) * 6 + j - (exCells y.1 y.2).length = i * 6 + j:=by show (i + 1) * 6 + j - 6 = _;omega
  rw [e]
  exact exRow_at r i x u j v (by simpa using h) hv
def GrowsL (B : Nat) (W : World) (es : List Ex) (v : Value) (l : List (Ex × Value)) : Prop :=
 l.map (·.1) = es ∧ W.ownsRow B 63 6 v es.length (exRow l) ∧ (∀ p ∈ l,IsExP (fun g => B ≤ g ∧ v.ownBlock ≠ some g) W p.1 p.2) ∧ (es = [] → v = .slice none 0 0)
def Grows (B : Nat) (W : World) (es : List Ex) (v : Value) : Prop:=∃ l,GrowsL B W es v l
theorem Grows.nil (B : Nat) (W : World) : Grows B W [] (.slice none 0 0):=⟨[],rfl,World.ownsRow_nil W B _ 6,by simp,fun _ => rfl⟩
theorem GrowsL.fr {B rb : Nat} {W X : World} {es : List Ex} {v : Value} {l : List (Ex × Value)} (h : GrowsL B W es v l) (hf : Fr (some rb) W X) (hr : rb < B) : GrowsL B X es v l:=by
 obtain ⟨h1,h2,h3,h4⟩:=h
 have hg : W.grownBy X (some rb):=hf
 refine ⟨h1,h2.kept hg ?_,fun p hp => (h3 p hp).kept fun g hg hl => ⟨hf.block hl (by simp;omega),hg⟩,h4⟩
 right
 intro e
 have:=h2.lt _ e
 omega
theorem Grows.ex {B : Nat} {W : World} {es : List Ex} {v : Value} (h : Grows B W es v) (k o n : Int) (nm : List UInt8) (a : Nat) : IsEx B W (.mk k o n nm es a) v:=by
 obtain ⟨l,rfl,h2,h3,h4⟩:=h
 rcases h2.2 with ⟨rfl,hn⟩ | ⟨g,cap,cur,rfl,hB,hg,hnc,_,hcs,hx⟩
 · have : l.map (·.1) = []:=List.eq_nil_of_length_eq_zero hn
   rw [this]
   exact .leaf
 · by_cases hl : l.map (·.1) = []
   · have:=h4 hl
     cases this
   · refine .node g cap cur (0,0) (fun i => ((l[i]?).map (·.2)).getD undef) hB hg hl ?_ ?_
     · intro i e he j u hu
       rw [List.getElem?_map] at he
       obtain ⟨p,hp,rfl⟩:=Option.map_eq_some_iff.1 he
       rw [hp] at hu
       have hcell:=exRow_at l i p.1 p.2 j u hp hu
       rw [← hx] at hcell
       rw [List.getElem?_take] at hcell
       split at hcell
       · simpa using hcell
       · cases hcell
     · intro i e he
       rw [List.getElem?_map] at he
       obtain ⟨p,hp,rfl⟩:=Option.map_eq_some_iff.1 he
       simp only [hp,Option.map_some,Option.getD_some]
       exact (h3 p (List.mem_of_getElem? hp)).toEx fun g hg => hg.1
theorem GrowsL.more {B : Nat} {W X : World} {es : List Ex} {v : Value} {x : Ex} {u : Value} {g cap H : Nat} {l : List (Ex × Value)} (h : GrowsL B W es v l) (hx : IsEx B W x u) (hxn : ∀ j,v.ownBlock = some j → IsExP (fun b => B ≤ b ∧ b ≠ j) W x u)
 (hg : W.grownBy X v.ownBlock) (hH : W.heap.size = H) (hv : v.ownBlock = some g ∨ g = H) (ho : X.ownsRow B 63 6 (.slice (some ⟨g,0,none⟩) (es.length + 1) cap) (es.length + 1) (exRow l ++ exCells x u)) :
 GrowsL B X (es ++ [x]) (.slice (some ⟨g,0,none⟩) (es.length + 1) cap) (l ++ [(x,u)]):=by
 obtain ⟨h1,h2,h3,h4⟩:=h
 have hne : ∀ b,b < W.heap.size → v.ownBlock ≠ some b → b ≠ g:=by
  intro b hb hn e
  subst e
  rcases hv with hv | hv
  · exact hn hv
  · omega
 refine ⟨by simp [h1],?_,?_,by simp⟩
 · rw [exRow_snoc,List.length_append]
   exact ho
 · intro p hp
   rcases List.mem_append.1 hp with hp | hp
   · refine (h3 p hp).kept fun b hb hl => ⟨hg.block b hl (fun e => hb.2 e.symm),hb.1,?_⟩
     have:=hne b hl hb.2
     simpa [Value.ownBlock] using fun e => this e.symm
   · simp at hp
     subst hp
     cases hvb : v.ownBlock with
     | none => exact hx.toP fun b hb hl => ⟨hg.block b hl (by rw [hvb];simp),hb,by
      have:=hne b hl (by rw [hvb];simp)
      simpa [Value.ownBlock] using fun e => this e.symm⟩
     | some j => exact (hxn j hvb).kept fun b hb hl => ⟨hg.block b hl (by rw [hvb];simpa using hb.2),hb.1,by
      have:=hne b hl (by rw [hvb];simpa using fun e => hb.2 e.symm)
      simpa [Value.ownBlock] using fun e => this e.symm⟩
theorem infoEx : (Try.prog.info? 63).map (fun i => (i.zero,i.size,i.bytes)) = some (some (.agg #[.int .i64 0,.int .i64 0,.int .i64 0,.string ⟨#[]⟩,.slice none 0 0,.int .i64 0]),6,72):=by kernel_rfl
def nxOf (W : World) (rb : Nat) : Nat:=match W.cell? ⟨rb,1,none⟩ with | some (.int _ n) => n.toNat | _ => 0
theorem IsEx.off {lo B j : Nat} {W X : World} {x : Ex} {u : Value} (h : IsEx lo W x u) (hk : Fr none W X) (hB : B ≤ lo) (hj : j < lo) : IsExP (fun b => B ≤ b ∧ b ≠ j) X x u :=
 h.toP fun b hb hl => ⟨hk.block hl (by simp),by omega,by omega⟩
section
variable {ok : Nat → Prop} {W X : World} {e : Ex} {v : Value}
theorem IsExP.alloc (h : IsExP ok W e v) (o : Obj) : IsExP ok (W.alloc o) e v:=h.kept fun g hg hl => ⟨Below.heap_alloc W o g hl,hg⟩
theorem IsExP.drew (h : IsExP ok W e v) : IsExP ok W.drew e v:=h.kept fun g hg hl => ⟨rfl,hg⟩
theorem IsExP.set (h : IsExP ok W e v) {b : Nat} (hb : ∀ g,ok g → g ≠ b) (o : Nat) (x : Value) : IsExP ok (W.setCell ⟨b,o,none⟩ x) e v:=h.kept fun g hg _ => ⟨heap_setCell_other W ⟨b,o,none⟩ g x (hb g hg),hg⟩
theorem IsExP.fr {rb : Nat} (h : IsExP ok W e v) (hf : Fr (some rb) W X) (hr : ∀ g,ok g → g ≠ rb) : IsExP ok X e v:=h.kept fun g hg hl => ⟨hf.block hl (by simp;exact hr g hg),hg⟩
theorem IsExP.stay (h : IsExP ok W e v) (hf : Below W.heap.size W X) : IsExP ok X e v:=h.kept fun g hg hl => ⟨hf.block g hl,hg⟩
theorem IsExP.weak {ok' : Nat → Prop} (h : IsExP ok W e v) (hk : ∀ g,ok g → ok' g) : IsExP ok' W e v:=h.kept fun g hg _ => ⟨rfl,hk g hg⟩
theorem IsExP.twoAt {n : Nat} {x y : Ex} {u u' : Value} (h : IsExP ok W x u) (h2 : IsExP ok W y u') (hn : n = W.heap.size) (ho : ok W.heap.size) (k o m : Int) (nm : List UInt8) (a : Nat) :
 IsExP ok (W.alloc (.cells #[.int .i64 x.k,.int .i64 x.op,.int .i64 x.n,.string (bstr x.nm),u,.int .i64 x.a,.int .i64 y.k,.int .i64 y.op,.int .i64 y.n,.string (bstr y.nm),u',.int .i64 y.a] 63)) (.mk k o m nm [x,y] a) (.slice (some ⟨n,0,none⟩) 2 2):=by
 subst hn
 refine .node W.heap.size 2 _ (0,0) (fun i => if i = 0 then u else u') ho (heap_new _ _) (by simp) ?_ ?_
 · intro i e he j w hw
   match i,he with
   | 0,he =>
    simp at he
    subst he
    simp only [exCells,if_true] at hw
    match j,hw with
    | 0,hw | 1,hw | 2,hw | 3,hw | 4,hw | 5,hw => simpa using hw
    | j + 6,hw => simp at hw
   | 1,he =>
    simp at he
    subst he
    simp only [exCells,if_neg (show ¬ (1 = 0) by decide)] at hw
    match j,hw with
    | 0,hw | 1,hw | 2,hw | 3,hw | 4,hw | 5,hw => simpa using hw
    | j + 6,hw => simp at hw
   | i + 2,he => simp at he
 · intro i e he
   match i,he with
   | 0,he =>
    simp at he
    subst he
    exact h.alloc _
   | 1,he =>
    simp at he
    subst he
    exact h2.alloc _
   | i + 2,he => simp at he
end
end Go.Proofs.Ytbmmjomcjlpnlaa
