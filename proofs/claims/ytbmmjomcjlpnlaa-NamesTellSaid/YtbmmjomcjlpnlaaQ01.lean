/- Joined texts: Ost Frame Tok TokJoin TokAt Ops Gram Rune Utf Sign NumB Span Sgn Read Row Words Word Maps Key Meth Beg Ex Rr Tot Det Q ExP Rs Re Rnam: lemmas for the law; each says its own conditions. -/
import Derived.Test.YtbmmjomcjlpnlaaRows
import Derived.WalkKit
import Derived.ProofKit
import Derived.OpenShut
import Derived.Deep.Strs
import Derived.SizedLaws
import Derived.Test.YtbmmjomcjlpnlaaProg
import Derived.WalkSmall
import Derived.Maps.AppendAt
import Derived.Maps.Range
import Derived.Lib.Hide
import Derived.Laws.Strings
import Derived.WalkLawsBesides
import Derived.WalkSpells
import Derived.Laws.RangeAny
import Derived.Sort.Grow
import Derived.Lib.ItoaNum
import Derived.Lib.ItoaMem
import Derived.Lib.ParseIntBTie
import Derived.LoopTactic
import Derived.Lib.IndexAny
import Derived.Lib.OthersKept
import Derived.OwnWalk
import Derived.Deep.AppendLies
import Derived.Test.YtbmmjomcjlpnlaaShelf
import Derived.Deep.DeepMust
import Derived.Deep.QuietTactic
import Derived.BigQuiet
import Derived.RegionTactic
import Derived.BigRegion
import Derived.ChangeAlike
import Derived.Maps.OwnSet
import Derived.StringKeys
import Derived.Laws.StructEq
import Derived.MapKept
import Derived.StillTailTactics
import Derived.Deep.Cut
set_option linter.unusedSimpArgs false
set_option linter.unusedVariables false
set_option maxRecDepth 100000
set_option maxHeartbeats 8000000
open Go.Lib (hid)
namespace Go.Proofs.Ytbmmjomcjlpnlaa
open Go Go.ChangeShapes Go.WideShapes Go.ChangeAt Go.RowKit Go.Deep
theorem weights_all {H : Type} {P : Program} {e : TypeId} : ∀ {l : List (DataW H)} {d : DataW H},d ∈ l → ∀ n ∈ d.weights P e,n ∈ DataW.weightsAll P e l
 | x :: r,d,hd,n,hn => by
  simp only [DataW.weightsAll,List.mem_append]
  rcases List.mem_cons.1 hd with rfl | h
  · exact .inl hn
  · exact .inr (weights_all h n hn)
theorem weights_slice {H : Type} {P : Program} {t e : TypeId} (hu : P.underlying t = some (.slice e)) {l s : List (DataW H)} {d : DataW H} (hd : d ∈ l) {n : Nat} (hn : n ∈ d.weights P e) : n ∈ (DataW.slice l s).weights P t:=by
 simp only [DataW.weights,hu,List.mem_cons,List.mem_append]
 exact .inr (.inl (weights_all hd n hn))
theorem reach_lt {n : Nat} (h : n ≤ reachBytes) : n ≤ 140737488355328:=Nat.le_trans h (by decide)
theorem len_list (s : ByteArray) : s.data.toList.length = s.size:=by (rw [Array.length_toList];rfl)
def StepsAt (w : World) (p : Option Addr) (n : Nat) : Prop:=∀ i,i < n → ∃ b o k nm tr sc,p = some ⟨b,o,none⟩ ∧ b < w.heap.size ∧ nm.size ≤ 140737488355328 ∧ w.cell? ⟨b,o + i * 4,none⟩ = some (.int .i64 k) ∧ w.cell? ⟨b,o + i * 4 + 1,none⟩ = some (.string nm) ∧ w.cell? ⟨b,o + i * 4 + 2,none⟩ = some (.bool tr) ∧ w.cell? ⟨b,o + i * 4 + 3,none⟩ = some (.bool sc)
def StrsAt (w : World) (p : Option Addr) (n : Nat) : Prop:=∀ i,i < n → ∃ b o nm,p = some ⟨b,o,none⟩ ∧ b < w.heap.size ∧ nm.size ≤ 140737488355328 ∧ w.cell? ⟨b,o + i,none⟩ = some (.string nm)
theorem cell_in {w : World} {a : Addr} {v : Value} (h : w.cell? a = some v) : a.block < w.heap.size:=by
 unfold World.cell? at h
 split at h
 · rename_i e
   exact (Array.getElem?_eq_some_iff.1 e).1
 · cases h
theorem four {α : Type} {l : List α} (h : l.length = 4) : ∃ a b c d,l = [a,b,c,d]:=by
 match l,h with
 | [a,b,c,d],_ => exact ⟨a,b,c,d,rfl⟩
theorem steps_at {H : Type} {enc : TypeId × Value → H} {W : World} {a0 : Option Addr} {n c : Nat} {d : DataW H} {ps : List MemPlace} (h : DataW.Trod enc Try.prog W 0 (fun _ => true) true 22 (.slice a0 n c) d ps)
 (hw : ∀ m ∈ d.weights Try.prog 22,m ≤ reachBytes) : StepsAt W a0 n:=by
 obtain ⟨fuel,hf⟩:=h
 intro i hi
 rcases open_slice Try.underlying22 hf with ⟨hcs,_⟩ | ⟨a,len,cap,m,k,D,Pl,hcs,_,hl,_,hm,hx,hcell⟩
 · simp [Value.cells] at hcs
   omega
 · simp [Value.cells] at hcs
   obtain ⟨rfl,rfl,rfl⟩:=hcs
   simp only [if_true] at hm
   have h4 : Try.prog.cellsOf 44 = 4:=by kernel_rfl
   have h2 : Try.prog.cellsOf 42 = 2:=by kernel_rfl
   have h1i : Try.prog.cellsOf 3 = 1:=by kernel_rfl
   have h1s : Try.prog.cellsOf 9 = 1:=by kernel_rfl
   have h1b : Try.prog.cellsOf 4 = 1:=by kernel_rfl
   obtain ⟨b,off,spot⟩:=a
   obtain ⟨cs',hc,ht⟩:=hcell i (by omega)
   rw [h4] at hc
   obtain ⟨_,hlen,hcc⟩:=World.cells?_some hc
   obtain ⟨y0,y1,y2,k1,hD,_,g0,g1,g2⟩:=trod_struct3 Try.underlying44 ht
   obtain ⟨c0,c1,c2,c3,rfl⟩:=four hlen
   have e0:=hcc 0 (by omega)
   have e1:=hcc 1 (by omega)
   have e2:=hcc 2 (by omega)
   have e3:=hcc 3 (by omega)
   rw [Deep.add_add] at e0 e1 e2 e3
   simp only [List.getElem?_cons_zero,List.getElem?_cons_succ] at e0 e1 e2 e3
   have hspot : spot = none:=by
    obtain ⟨cs0,hc0,_⟩:=hcell 0 (by omega)
    rw [h4] at hc0
    obtain ⟨_,hl0,hcc0⟩:=World.cells?_some hc0
    obtain ⟨d0,d1,d2,d3,rfl⟩:=four hl0
    have:=hcc0 0 (by omega)
    simp only [List.getElem?_cons_zero] at this
    simpa [Addr.add] using World.cell?_spot this
   subst hspot
   rw [add_plain] at e0 e1 e2 e3
   obtain ⟨kk,hk,_⟩:=DataW.trod_int Try.underlying3 (by simpa [h1i] using g0)
   obtain ⟨nm,hn,hy1,_⟩:=DataW.trod_string Try.underlying9 (by simpa [h1s] using g1)
   obtain ⟨z0,z1,k2,_,_,g3,g4⟩:=trod_struct2 Try.underlying42 (by simpa [h2] using g2)
   obtain ⟨tr,h3,_⟩:=DataW.trod_bool Try.underlying4 (by simpa [h1b] using g3)
   obtain ⟨sc,h5,_⟩:=DataW.trod_bool Try.underlying4 (by simpa [h1b] using g4)
   simp at hk hn h3 h5
   subst hk hn h3 h5
   refine ⟨b,off,kk,nm,tr,sc,rfl,cell_in e0,?_,e0,e1,e2,e3⟩
   have he : d = _:=congrArg Prod.fst hx
   subst he
   have hDe : D i = _:=congrArg Prod.fst hD
   have:=hw nm.data.toList.length (weights_slice Try.underlying22 (d:=D i) (List.mem_map.2 ⟨i,List.mem_range.2 hi,rfl⟩) (by
    rw [hDe]
    simp [DataW.weights,Try.underlying44,DataW.weightsEach,hy1]))
   rw [len_list] at this
   exact reach_lt this
end Go.Proofs.Ytbmmjomcjlpnlaa
namespace Go.Proofs.Ytbmmjomcjlpnlaa
open Go Go.RowKit
def Fr (row : Option Nat) (W W' : World) : Prop:=W.grownBy W' row
section
variable {row : Option Nat} {W X Y : World}
theorem Fr.refl (row : Option Nat) (W : World) : Fr row W W:=World.grownBy.refl W row
theorem Fr.size (h : Fr row W X) : W.heap.size ≤ X.heap.size:=World.grownBy.size h
theorem Fr.block (h : Fr row W X) {k : Nat} (hk : k < W.heap.size) (hne : some k ≠ row) : X.heap[k]? = W.heap[k]?:=World.grownBy.block h k hk hne
theorem Fr.trans (h : Fr row W X) (k : Fr row X Y) : Fr row W Y:=World.grownBy.trans h k
theorem Fr.alloc (h : Fr row W X) (o : Obj) : Fr row W (X.alloc o):=h.trans (World.grownBy_alloc X o row)
theorem Fr.drewN (h : Fr row W X) (n : Nat) : Fr row W (X.drewN n):=h.trans ⟨rfl,rfl,rfl,Nat.le_refl _,fun _ _ _ => rfl⟩
theorem Fr.drew (h : Fr row W X) : Fr row W X.drew:=h.trans ⟨rfl,rfl,rfl,Nat.le_refl _,fun _ _ _ => rfl⟩
theorem Fr.set (h : Fr row W X) {b : Nat} (hb : some b = row ∨ W.heap.size ≤ b) (o : Nat) (v : Value) : Fr row W (X.setCell ⟨b,o,none⟩ v):=by
 have h' : W.grownBy X row:=h
 suffices hs : W.grownBy (X.setCell ⟨b,o,none⟩ v) row from hs
 refine ⟨h'.os,h'.tape,h'.output,?_,fun k hk hne => ?_⟩
 · have:=h.size
   simp [World.setCell]
   exact this
 · rw [heap_setCell_other X ⟨b,o,none⟩ k v (by
    rintro rfl
    rcases hb with hb | hb
    · exact hne hb
    · exact absurd hk (by simpa using hb))]
   exact h.block hk hne
theorem Fr.step (h : Fr row W X) (k : Fr row X Y) : Fr row W Y:=h.trans k
theorem Fr.stepOwn {v : Value} (h : Fr row W X) (k : X.grownBy Y v.ownBlock) (hj : ∀ j,v.ownBlock = some j → W.heap.size ≤ j) : Fr row W Y :=
 World.grownBy.andThen h k (fun i e => .inl (hj i e))
theorem Fr.of (h : Below W.heap.size W X) : Fr row W X:=⟨h.os,h.tape,h.output,h.size,fun k hk _ => h.block k hk⟩
theorem Fr.stepB (h : Fr row W X) (k : Below X.heap.size X Y) : Fr row W Y:=h.trans (.of k)
theorem Fr.below (h : Fr none W X) : Below W.heap.size W X:=⟨World.grownBy.os h,World.grownBy.tape h,World.grownBy.output h,h.size,fun k hk => h.block hk (by simp)⟩
end
theorem name_world {P : Program} {C : Code} {Q : Exit → Act → World → Prop} {a : Act} {w : World} (h : ∀ Z,Z = w → C.wp P Q a Z) : C.wp P Q a w:=h w rfl
def Blk (X : World) (n : Nat) (v0 v1 v2 v3 v4 v5 : Value) : Prop:=X.heap[n]? = some (.cells #[v0,v1,v2,v3,v4,v5] 63 (0,0))
section
variable {X Y : World} {n : Nat} {v0 v1 v2 v3 v4 v5 : Value}
theorem Blk.facts (h : Blk X n v0 v1 v2 v3 v4 v5) : n < X.heap.size ∧ X.cell? ⟨n,0,none⟩ = some v0 ∧ X.cell? ⟨n,1,none⟩ = some v1 ∧ X.cell? ⟨n,2,none⟩ = some v2 ∧ X.cell? ⟨n,3,none⟩ = some v3 ∧ X.cell? ⟨n,4,none⟩ = some v4 ∧ X.cell? ⟨n,5,none⟩ = some v5 ∧
 X.frozen? ⟨n,0,none⟩ = false ∧ X.frozen? ⟨n,1,none⟩ = false ∧ X.frozen? ⟨n,2,none⟩ = false ∧ X.frozen? ⟨n,3,none⟩ = false ∧ X.frozen? ⟨n,4,none⟩ = false ∧ X.frozen? ⟨n,5,none⟩ = false:=by
 refine ⟨(Array.getElem?_eq_some_iff.1 h).1,?_,?_,?_,?_,?_,?_,frozen_of_row X n _ _ _ h,frozen_of_row X n _ _ _ h,frozen_of_row X n _ _ _ h,frozen_of_row X n _ _ _ h,frozen_of_row X n _ _ _ h,frozen_of_row X n _ _ _ h⟩ <;> rw [cell_of_row _ _ _ _ _ _ h] <;> rfl
theorem Blk.alloc (h : Blk X n v0 v1 v2 v3 v4 v5) (o : Obj) : Blk (X.alloc o) n v0 v1 v2 v3 v4 v5:=(Below.heap_alloc X o n (Array.getElem?_eq_some_iff.1 h).1).trans h
theorem Blk.drew (h : Blk X n v0 v1 v2 v3 v4 v5) : Blk X.drew n v0 v1 v2 v3 v4 v5:=h
theorem Blk.drewN (h : Blk X n v0 v1 v2 v3 v4 v5) (m : Nat) : Blk (X.drewN m) n v0 v1 v2 v3 v4 v5:=h
theorem Blk.setO (h : Blk X n v0 v1 v2 v3 v4 v5) {b : Nat} (hne : n ≠ b) (o : Nat) (v : Value) : Blk (X.setCell ⟨b,o,none⟩ v) n v0 v1 v2 v3 v4 v5:=(heap_setCell_other X ⟨b,o,none⟩ n v hne).trans h
theorem Blk.set0 (h : Blk X n v0 v1 v2 v3 v4 v5) (v : Value) : Blk (X.setCell ⟨n,0,none⟩ v) n v v1 v2 v3 v4 v5:=heap_setCell_same X n 0 _ _ v h
theorem Blk.set1 (h : Blk X n v0 v1 v2 v3 v4 v5) (v : Value) : Blk (X.setCell ⟨n,1,none⟩ v) n v0 v v2 v3 v4 v5:=heap_setCell_same X n 1 _ _ v h
theorem Blk.set2 (h : Blk X n v0 v1 v2 v3 v4 v5) (v : Value) : Blk (X.setCell ⟨n,2,none⟩ v) n v0 v1 v v3 v4 v5:=heap_setCell_same X n 2 _ _ v h
theorem Blk.set3 (h : Blk X n v0 v1 v2 v3 v4 v5) (v : Value) : Blk (X.setCell ⟨n,3,none⟩ v) n v0 v1 v2 v v4 v5:=heap_setCell_same X n 3 _ _ v h
theorem Blk.set4 (h : Blk X n v0 v1 v2 v3 v4 v5) (v : Value) : Blk (X.setCell ⟨n,4,none⟩ v) n v0 v1 v2 v3 v v5:=heap_setCell_same X n 4 _ _ v h
theorem Blk.set5 (h : Blk X n v0 v1 v2 v3 v4 v5) (v : Value) : Blk (X.setCell ⟨n,5,none⟩ v) n v0 v1 v2 v3 v4 v:=heap_setCell_same X n 5 _ _ v h
theorem Blk.all (h : Blk X n v0 v1 v2 v3 v4 v5) (u0 u1 u2 u3 u4 u5 : Value) : Blk ((((((X.setCell ⟨n,0,none⟩ u0).setCell ⟨n,1,none⟩ u1).setCell ⟨n,2,none⟩ u2).setCell ⟨n,3,none⟩ u3).setCell ⟨n,4,none⟩ u4).setCell ⟨n,5,none⟩ u5) n u0 u1 u2 u3 u4 u5 :=
 (((((h.set0 u0).set1 u1).set2 u2).set3 u3).set4 u4).set5 u5
theorem Blk.fr {rb : Nat} (h : Blk X n v0 v1 v2 v3 v4 v5) (hf : Fr (some rb) X Y) (hne : n ≠ rb) : Blk Y n v0 v1 v2 v3 v4 v5:=(hf.block (Array.getElem?_eq_some_iff.1 h).1 (by simp;exact hne)).trans h
theorem Blk.stay (h : Blk X n v0 v1 v2 v3 v4 v5) (hf : Below X.heap.size X Y) : Blk Y n v0 v1 v2 v3 v4 v5:=(hf.block n (Array.getElem?_eq_some_iff.1 h).1).trans h
theorem Blk.new (hn : n = X.heap.size) (v0 v1 v2 v3 v4 v5 : Value) : Blk (X.alloc (.cells #[v0,v1,v2,v3,v4,v5] 63)) n v0 v1 v2 v3 v4 v5:=hn ▸ heap_alloc_new X _
end
end Go.Proofs.Ytbmmjomcjlpnlaa
namespace Go.Proofs.Ytbmmjomcjlpnlaa
def isBlank (c : UInt8) : Bool:=c == 32 || c == 9 || c == 10 || c == 13
def isLetter (c : UInt8) : Bool:=(decide (65 ≤ c.toNat) && decide (c.toNat ≤ 90)) || (decide (97 ≤ c.toNat) && decide (c.toNat ≤ 122)) || decide (c.toNat = 95)
def isDigit (c : UInt8) : Bool:=decide (48 ≤ c.toNat) && decide (c.toNat ≤ 57)
def isPart (c : UInt8) : Bool:=isLetter c || isDigit c
def pairL : List (List UInt8):=[[38,38],[124,124],[61,61],[33,61],[60,61],[62,61],[60,60],[62,62]]
def oneL : List UInt8:=[43,45,42,47,37,38,124,94,60,62,33,61,40,41,91,93,123,125,59,44]
def spanL (l : List UInt8) : Nat:=(l.takeWhile isPart).length
def noteL (l : List UInt8) : Nat:=(l.takeWhile (· != 10)).length
def sgnLen : List UInt8 → Nat
 | [] => 0
 | [a] => if oneL.contains a then 1 else 0
 | a :: b :: _ => if pairL.contains [a,b] then 2 else if oneL.contains a then 1 else 0
inductive Tok where
 | gap (n : Nat)
 | word (k : Int) (n : Nat) (v : Int)
 | bad (e : Int)
def tok (num : List UInt8 → Option Int) : List UInt8 → Tok
 | [] => .gap 0
 | c :: r =>
  if isBlank c = true then .gap 1
  else if c = 47 ∧ r.head? = some 47 then .gap (noteL (c :: r))
  else if isLetter c = true then (if 24 < spanL (c :: r) then .bad 2 else .word 0 (spanL (c :: r)) 0)
  else if isDigit c = true then (match num ((c :: r).take (spanL (c :: r))) with | some v => .word 1 (spanL (c :: r)) v | none => .bad 10)
  else if sgnLen (c :: r) = 0 then .bad 10
  else .word 2 (sgnLen (c :: r)) 0
structure Wd where
 k : Int
 t : List UInt8
 n : Int
 a : Nat
inductive Sc (num : List UInt8 → Option Int) : List UInt8 → Nat → List Wd → Option (Int × Nat) → Prop
 | done (a : Nat) : Sc num [] a [⟨3,[],0,a⟩] none
 | bad (l : List UInt8) (a : Nat) (e : Int) : l ≠ [] → tok num l = .bad e → Sc num l a [] (some (e,a))
 | gap (l : List UInt8) (a n : Nat) (ws : List Wd) (r : Option (Int × Nat)) : l ≠ [] → tok num l = .gap n → Sc num (l.drop n) (a + n) ws r → Sc num l a ws r
 | word (l : List UInt8) (a n : Nat) (k v : Int) (ws : List Wd) (r : Option (Int × Nat)) : l ≠ [] → tok num l = .word k n v → Sc num (l.drop n) (a + n) ws r → Sc num l a (⟨k,l.take n,v,a⟩ :: ws) r
theorem span_le (l : List UInt8) : spanL l ≤ l.length:=by
 unfold spanL
 exact List.Sublist.length_le (List.takeWhile_sublist _)
theorem note_le (l : List UInt8) : noteL l ≤ l.length:=by
 unfold noteL
 exact List.Sublist.length_le (List.takeWhile_sublist _)
theorem span_pos {c : UInt8} {r : List UInt8} (h : isPart c = true) : 1 ≤ spanL (c :: r):=by
 unfold spanL
 rw [List.takeWhile_cons,if_pos h]
 simp
theorem sgn_le (l : List UInt8) : sgnLen l ≤ l.length:=by
 match l with
 | [] => simp [sgnLen]
 | [a] => simp only [sgnLen];split <;> simp
 | a :: b :: r => simp only [sgnLen];split <;> (try split) <;> simp <;> omega
section
variable {num : List UInt8 → Option Int} {l : List UInt8}
theorem tok_gap {n : Nat} (hl : l ≠ []) (h : tok num l = .gap n) : 1 ≤ n ∧ n ≤ l.length:=by
 obtain ⟨c,r,rfl⟩:=List.exists_cons_of_ne_nil hl
 simp only [tok] at h
 split at h
 · injection h with h;subst h;simp
 · split at h
   · rename_i h2
     injection h with h
     subst h
     refine ⟨?_,note_le _⟩
     unfold noteL
     rw [List.takeWhile_cons,if_pos (by rw [h2.1];decide)]
     simp
   · split at h
     · split at h <;> cases h
     · split at h
       · split at h <;> cases h
       · split at h <;> cases h
theorem tok_word {n : Nat} {k v : Int} (hl : l ≠ []) (h : tok num l = .word k n v) : 1 ≤ n ∧ n ≤ l.length:=by
 obtain ⟨c,r,rfl⟩:=List.exists_cons_of_ne_nil hl
 simp only [tok] at h
 split at h
 · cases h
 · split at h
   · cases h
   · split at h
     · rename_i h3
       split at h
       · cases h
       · injection h with h1 h2 h3'
         subst h2
         exact ⟨span_pos (by simp [isPart,h3]),span_le _⟩
     · split at h
       · rename_i h4
         split at h
         · injection h with h1 h2 h3'
           subst h2
           exact ⟨span_pos (by simp [isPart,h4]),span_le _⟩
         · cases h
       · split at h
         · cases h
         · rename_i h5
           injection h with h1 h2 h3'
           subst h2
           exact ⟨by omega,sgn_le _⟩
theorem Sc.total (num : List UInt8 → Option Int) : ∀ (m : Nat) (l : List UInt8) (a : Nat),l.length ≤ m → ∃ ws r,Sc num l a ws r:=by
 intro m
 induction m with
 | zero =>
  intro l a h
  have : l = []:=List.eq_nil_of_length_eq_zero (by omega)
  subst this
  exact ⟨_,_,.done a⟩
 | succ m ih =>
  intro l a h
  by_cases hl : l = []
  · subst hl
    exact ⟨_,_,.done a⟩
  · cases ht : tok num l with
    | gap n =>
     obtain ⟨h1,h2⟩:=tok_gap hl ht
     obtain ⟨ws,r,hs⟩:=ih (l.drop n) (a + n) (by rw [List.length_drop];omega)
     exact ⟨ws,r,.gap l a n ws r hl ht hs⟩
    | word k n v =>
     obtain ⟨h1,h2⟩:=tok_word hl ht
     obtain ⟨ws,r,hs⟩:=ih (l.drop n) (a + n) (by rw [List.length_drop];omega)
     exact ⟨_,r,.word l a n k v ws r hl ht hs⟩
    | bad e => exact ⟨_,_,.bad l a e hl ht⟩
theorem Sc.nil_inv {a : Nat} {ws : List Wd} {r : Option (Int × Nat)} (h : Sc num [] a ws r) : ws = [⟨3,[],0,a⟩] ∧ r = none:=by
 cases h with
 | done => exact ⟨rfl,rfl⟩
 | bad _ _ _ h => exact absurd rfl h
 | gap _ _ _ _ _ h => exact absurd rfl h
 | word _ _ _ _ _ _ _ h => exact absurd rfl h
theorem Sc.gap_inv {a n : Nat} {ws : List Wd} {r : Option (Int × Nat)} (h : Sc num l a ws r) (hl : l ≠ []) (ht : tok num l = .gap n) : Sc num (l.drop n) (a + n) ws r:=by
 cases h with
 | done => exact absurd rfl hl
 | bad _ _ _ _ h2 => rw [ht] at h2;cases h2
 | gap _ _ _ _ _ _ h2 h3 => rw [ht] at h2;cases h2;exact h3
 | word _ _ _ _ _ _ _ _ h2 => rw [ht] at h2;cases h2
theorem Sc.word_inv {a n : Nat} {k v : Int} {ws : List Wd} {r : Option (Int × Nat)} (h : Sc num l a ws r) (hl : l ≠ []) (ht : tok num l = .word k n v) : ∃ ws',ws = ⟨k,l.take n,v,a⟩ :: ws' ∧ Sc num (l.drop n) (a + n) ws' r:=by
 cases h with
 | done => exact absurd rfl hl
 | bad _ _ _ _ h2 => rw [ht] at h2;cases h2
 | gap _ _ _ _ _ _ h2 h3 => rw [ht] at h2;cases h2
 | word _ _ _ _ _ _ _ _ h2 h3 => rw [ht] at h2;cases h2;exact ⟨_,rfl,h3⟩
theorem Sc.bad_inv {a : Nat} {e : Int} {ws : List Wd} {r : Option (Int × Nat)} (h : Sc num l a ws r) (hl : l ≠ []) (ht : tok num l = .bad e) : ws = [] ∧ r = some (e,a):=by
 cases h with
 | done => exact absurd rfl hl
 | bad _ _ _ _ h2 => rw [ht] at h2;cases h2;exact ⟨rfl,rfl⟩
 | gap _ _ _ _ _ _ h2 h3 => rw [ht] at h2;cases h2
 | word _ _ _ _ _ _ _ _ h2 => rw [ht] at h2;cases h2
end
end Go.Proofs.Ytbmmjomcjlpnlaa
namespace Go.Proofs.Ytbmmjomcjlpnlaa
theorem takeWhile_stop {α : Type} (p : α → Bool) (x : α) (hx : p x = false) (tl : List α) : ∀ l : List α,(l ++ x :: tl).takeWhile p = l.takeWhile p
 | [] => by simp [List.takeWhile_cons,hx]
 | c :: r => by
  rw [List.cons_append,List.takeWhile_cons,List.takeWhile_cons,takeWhile_stop p x hx tl r]
theorem takeWhile_twice {α : Type} (p : α → Bool) : ∀ l : List α,(l.takeWhile p).takeWhile p = l.takeWhile p
 | [] => rfl
 | c :: r => by
  rw [List.takeWhile_cons]
  split
  · rename_i h
    rw [List.takeWhile_cons,if_pos h,takeWhile_twice p r]
  · rfl
theorem take_takeWhile {α : Type} (p : α → Bool) : ∀ l : List α,l.take (l.takeWhile p).length = l.takeWhile p
 | [] => rfl
 | c :: r => by
  rw [List.takeWhile_cons]
  split
  · simp [take_takeWhile p r]
  · simp
theorem takeWhile_all {α : Type} (p : α → Bool) : ∀ l : List α,(∀ c ∈ l,p c = true) → l.takeWhile p = l
 | [],_ => rfl
 | c :: r,h => by
  rw [List.takeWhile_cons,if_pos (h c (by simp)),takeWhile_all p r (fun d hd => h d (by simp [hd]))]
def Sep (x : UInt8) : Prop:=x = 32 ∨ x = 10
theorem Sep.part {x : UInt8} (h : Sep x) : isPart x = false:=by rcases h with rfl | rfl <;> decide
theorem Sep.blank {x : UInt8} (h : Sep x) : isBlank x = true:=by rcases h with rfl | rfl <;> decide
theorem Sep.slash {x : UInt8} (h : Sep x) : x ≠ 47:=by rcases h with rfl | rfl <;> decide
theorem Sep.pair {x : UInt8} (h : Sep x) (a : UInt8) : pairL.contains [a,x] = false:=by rcases h with rfl | rfl <;> simp [pairL]
section
variable {num : List UInt8 → Option Int} {l : List UInt8}
theorem tok_nl (num : List UInt8 → Option Int) (tl : List UInt8) : tok num (10 :: tl) = .gap 1:=by simp [tok,isBlank]
theorem tok_sep {x : UInt8} (h : Sep x) (num : List UInt8 → Option Int) (tl : List UInt8) : tok num (x :: tl) = .gap 1:=by simp [tok,h.blank]
theorem tok_note (num : List UInt8 → Option Int) (nt tl : List UInt8) (h : ∀ c ∈ nt,c ≠ 10) : tok num (47 :: 47 :: (nt ++ 10 :: tl)) = .gap (2 + nt.length):=by
 have e : noteL (47 :: 47 :: (nt ++ 10 :: tl)) = 2 + nt.length:=by
  have e0 : nt.takeWhile (fun c : UInt8 => c != 10) = nt:=takeWhile_all _ _ (fun c hc => by simpa using h c hc)
  unfold noteL
  rw [List.takeWhile_cons,if_pos (by decide),List.takeWhile_cons,if_pos (by decide),takeWhile_stop _ 10 (by decide),e0]
  simp
  omega
 simp only [tok]
 rw [if_neg (by decide),if_pos (by simp),e]
theorem Sc.note {b : Nat} {ws : List Wd} {r : Option (Int × Nat)} {t nt : List UInt8} (hn : ∀ c ∈ nt,c ≠ 10) (h : Sc num t (b + (nt.length + 4)) ws r) : Sc num (10 :: 47 :: 47 :: (nt ++ 10 :: t)) b ws r:=by
 refine .gap _ b 1 _ _ (by simp) (tok_nl num _) ?_
 show Sc num (47 :: 47 :: (nt ++ 10 :: t)) (b + 1) ws r
 refine .gap _ (b + 1) (2 + nt.length) _ _ (by simp) (tok_note num nt t hn) ?_
 have e : (47 :: 47 :: (nt ++ 10 :: t)).drop (2 + nt.length) = 10 :: t:=by
  rw [Nat.add_comm,List.drop_succ_cons,List.drop_succ_cons,List.drop_left]
 rw [e]
 refine .gap _ _ 1 _ _ (by simp) (tok_nl num _) ?_
 rw [show b + 1 + (2 + nt.length) + 1 = b + (nt.length + 4) by omega]
 exact h
theorem tok_again {n : Nat} {k v : Int} {x : UInt8} (hx : Sep x) (hl : l ≠ []) (h : tok num l = .word k n v) (tl : List UInt8) : tok num (l.take n ++ x :: tl) = .word k n v:=by
 obtain ⟨c,r,rfl⟩:=List.exists_cons_of_ne_nil hl
 obtain ⟨h1,h2⟩:=tok_word hl h
 obtain ⟨m,rfl⟩ : ∃ m,n = m + 1:=⟨n - 1,by omega⟩
 have hspan : spanL (c :: r) = m + 1 → spanL ((c :: r).take (m + 1) ++ x :: tl) = m + 1:=by
  intro hs
  unfold spanL at hs ⊢
  rw [takeWhile_stop isPart x hx.part,← hs,take_takeWhile,takeWhile_twice]
 have htk : spanL (c :: r) = m + 1 → ((c :: r).take (m + 1) ++ x :: tl).take (m + 1) = (c :: r).take (m + 1):=by
  intro hs
  have : ((c :: r).take (m + 1)).length = m + 1:=by rw [List.length_take];omega
  rw [List.take_append_of_le_length (by omega),List.take_of_length_le (by omega)]
 rw [List.take_succ_cons,List.cons_append] at hspan htk ⊢
 simp only [tok] at h ⊢
 split at h
 · cases h
 rename_i hb
 rw [if_neg hb]
 split at h
 · cases h
 rename_i hnote
 split at h
 · rename_i hlet
   have hc : c ≠ 47:=by
    rintro rfl
    exact absurd hlet (by decide)
   rw [if_neg (fun hh => hc hh.1),if_pos hlet]
   split at h
   · cases h
   · rename_i hlen
     injection h with e1 e2 e3
     rw [hspan e2,if_neg (by omega)]
     subst e1
     subst e3
     rfl
 · rename_i hlet
   split at h
   · rename_i hdig
     have hc : c ≠ 47:=by
      rintro rfl
      exact absurd hdig (by decide)
     rw [if_neg (fun hh => hc hh.1),if_neg hlet,if_pos hdig]
     split at h
     · rename_i v' hv
       injection h with e1 e2 e3
       rw [e2,List.take_succ_cons] at hv
       rw [hspan e2,htk e2,hv]
       simp [e1,e3]
     · cases h
   · rename_i hdig
     split at h
     · cases h
     · rename_i hz
       injection h with e1 e2 e3
       have key : sgnLen (c :: (r.take m ++ x :: tl)) = m + 1 ∧ (c = 47 → (r.take m ++ x :: tl).head? ≠ some 47):=by
        match r,e2 with
        | [],e2 =>
         simp only [sgnLen] at e2
         split at e2
         · rename_i hc
           obtain rfl : m = 0:=by omega
           refine ⟨?_,fun _ => ?_⟩
           · simp only [List.take_zero,List.nil_append,sgnLen,hx.pair,hc]
             rfl
           · simpa using hx.slash
         · omega
        | b :: r,e2 =>
         simp only [sgnLen] at e2
         split at e2
         · rename_i hp
           obtain rfl : m = 1:=by omega
           refine ⟨?_,fun hc => ?_⟩
           · simp only [List.take_succ_cons,List.take_zero,List.cons_append,List.nil_append,sgnLen,hp]
             rfl
           · subst hc
             simp [pairL] at hp
         · split at e2
           · rename_i hc
             obtain rfl : m = 0:=by omega
             refine ⟨?_,fun _ => ?_⟩
             · simp only [List.take_zero,List.nil_append,sgnLen,hx.pair,hc]
               rfl
             · simpa using hx.slash
           · omega
       rw [if_neg (fun hh => key.2 hh.1 hh.2),if_neg hlet,if_neg hdig,key.1,if_neg (by omega),e1,e3]
def Wd.key (w : Wd) : Int × List UInt8 × Int:=(w.k,w.t,w.n)
def joinT (x : UInt8) : List Wd → List UInt8
 | [] => []
 | w :: r => w.t ++ x :: joinT x r
theorem Sc.again {a : Nat} {ws : List Wd} {r : Option (Int × Nat)} (h : Sc num l a ws r) (hr : r = none) {x : UInt8} (hx : Sep x) : ∀ b,∃ ws',Sc num (joinT x ws) b ws' none ∧ ws'.map Wd.key = ws.map Wd.key:=by
 induction h with
 | done a =>
  intro b
  exact ⟨[⟨3,[],0,b + 1⟩],.gap _ b 1 _ _ (by simp [joinT]) (tok_sep hx num _) (.done _),rfl⟩
 | bad l a e hl ht => cases hr
 | gap l a n ws r hl ht hs ih => exact ih hr
 | word l a n k v ws r hl ht hs ih =>
  intro b
  obtain ⟨h1,h2⟩:=tok_word hl ht
  obtain ⟨ws',h3,h4⟩:=ih hr (b + n + 1)
  have hlen : (l.take n).length = n:=by rw [List.length_take];omega
  refine ⟨⟨k,l.take n,v,b⟩ :: ws',?_,by rw [List.map_cons,List.map_cons,h4];rfl⟩
  have hw:=Sc.word (num:=num) (l.take n ++ x :: joinT x ws) b n k v ws' none (by simp) (tok_again hx hl ht _) (by
   rw [List.drop_left' hlen]
   exact .gap _ _ 1 _ _ (by simp) (tok_sep hx num _) h3)
  rw [List.take_left' hlen] at hw
  exact hw
def Placed (S : List UInt8) : Nat → List Wd → Prop
 | _,[] => False
 | lo,[w] => w.k = 3 ∧ w.t = [] ∧ lo ≤ w.a ∧ w.a ≤ S.length
 | lo,w :: r => w.k ≠ 3 ∧ lo ≤ w.a ∧ w.a + w.t.length ≤ S.length ∧ (S.drop w.a).take w.t.length = w.t ∧ 1 ≤ w.t.length ∧ Placed S (w.a + w.t.length) r
theorem Placed.lower {S : List UInt8} {lo lo' : Nat} {ws : List Wd} (h : Placed S lo ws) (hl : lo' ≤ lo) : Placed S lo' ws:=by
 match ws,h with
 | [w],h => exact ⟨h.1,h.2.1,by have:=h.2.2.1;omega,h.2.2.2⟩
 | w :: v :: r,h => exact ⟨h.1,by have:=h.2.1;omega,h.2.2⟩
theorem tok_kind {n : Nat} {k v : Int} (h : tok num l = .word k n v) : k ≠ 3:=by
 cases l with
 | nil => simp [tok] at h
 | cons c r =>
  simp only [tok] at h
  repeat' split at h
  all_goals first
   | cases h;done
   | (injection h with h1;omega)
theorem Placed.long {S : List UInt8} {x : UInt8} : ∀ (ws : List Wd) (lo : Nat),Placed S lo ws → (joinT x ws).length ≤ 2 * (S.length - lo) + 1
 | [],_,h => absurd h (by simp [Placed])
 | [w],lo,h => by simp [joinT,h.2.1]
 | w :: v :: r,lo,h => by
  obtain ⟨_,h2,h3,_,h5,h6⟩:=h
  have:=Placed.long (x:=x) (v :: r) _ h6
  rw [joinT,List.length_append,List.length_cons]
  omega
end
end Go.Proofs.Ytbmmjomcjlpnlaa
namespace Go.Proofs.Ytbmmjomcjlpnlaa
theorem Placed.get {S : List UInt8} : ∀ (W : List Wd) (lo k : Nat) (x : Wd),Placed S lo W → W[k]? = some x →
 lo ≤ x.a ∧ x.a + x.t.length ≤ S.length ∧ (S.drop x.a).take x.t.length = x.t ∧ (x.k = 3 ↔ k + 1 = W.length)
 | [],_,_,_,h,_ => absurd h (by simp [Placed])
 | [w],lo,0,x,h,hx => by
  simp at hx
  subst hx
  obtain ⟨h1,h2,h3,h4⟩:=h
  rw [h2]
  exact ⟨h3,by simpa using h4,rfl,by simp [h1]⟩
 | [w],lo,k + 1,x,_,hx => by simp at hx
 | w :: v :: r,lo,0,x,h,hx => by
  simp at hx
  subst hx
  obtain ⟨h1,h2,h3,h4,h5,h6⟩:=h
  exact ⟨h2,h3,h4,by simp [h1]⟩
 | w :: v :: r,lo,k + 1,x,h,hx => by
  obtain ⟨h1,h2,h3,h4,h5,h6⟩:=h
  obtain ⟨e1,e2,e3,e4⟩:=Placed.get (v :: r) _ k x h6 (by simpa using hx)
  refine ⟨by omega,e2,e3,?_⟩
  rw [e4]
  simp
theorem Placed.next {S : List UInt8} : ∀ (W : List Wd) (lo k : Nat) (y x : Wd),Placed S lo W → W[k]? = some y → W[k + 1]? = some x → y.a + y.t.length ≤ x.a
 | [],_,_,_,_,h,_,_ => absurd h (by simp [Placed])
 | [w],_,k,_,x,_,_,hx => by simp at hx
 | w :: v :: r,lo,0,y,x,h,hy,hx => by
  simp at hy
  subst hy
  obtain ⟨h1,h2,h3,h4,h5,h6⟩:=h
  exact (Placed.get (v :: r) _ 0 x h6 (by simpa using hx)).1
 | w :: v :: r,lo,k + 1,y,x,h,hy,hx => by
  obtain ⟨h1,h2,h3,h4,h5,h6⟩:=h
  exact Placed.next (v :: r) _ k y x h6 (by simpa using hy) (by simpa using hx)
theorem Sc.bad_code {num : List UInt8 → Option Int} {l : List UInt8} {a : Nat} {W : List Wd} {r : Option (Int × Nat)} (h : Sc num l a W r) : ∀ e p,r = some (e,p) → e = 2 ∨ e = 10:=by
 induction h with
 | done a => intro e p h;cases h
 | bad l a e hl ht =>
  intro e p h
  cases h
  cases l with
  | nil => simp [tok] at ht
  | cons c r =>
   simp only [tok] at ht
   repeat' split at ht
   all_goals first
    | cases ht;done
    | (injection ht with h1;omega)
 | gap l a n ws r hl ht hs ih => exact ih
 | word l a n k v ws r hl ht hs ih => exact ih
theorem Sc.few {num : List UInt8 → Option Int} {l : List UInt8} {a : Nat} {X : List Wd} {r : Option (Int × Nat)} (h : Sc num l a X r) (hr : r = none) : X.length ≤ l.length + 1:=by
 induction h with
 | done a => exact Nat.le_refl _
 | bad l a e hl ht => cases hr
 | gap l a n ws r hl ht hs ih =>
  have:=ih hr
  rw [List.length_drop] at this
  omega
 | word l a n k v ws r hl ht hs ih =>
  have h1:=tok_word hl ht
  have:=ih hr
  rw [List.length_drop] at this
  rw [List.length_cons]
  omega
theorem Sc.some_words {num : List UInt8 → Option Int} {l : List UInt8} {a : Nat} {W : List Wd} {r : Option (Int × Nat)} (h : Sc num l a W r) (hr : r = none) : 0 < W.length:=by
 induction h with
 | done a => exact Nat.one_pos
 | bad l a e hl ht => cases hr
 | gap l a n ws r hl ht hs ih => exact ih hr
 | word l a n k v ws r hl ht hs ih => exact Nat.succ_pos _
open Go
def sgnL : List ByteArray:=[⟨#[43]⟩,⟨#[45]⟩,⟨#[42]⟩,⟨#[47]⟩,⟨#[37]⟩,⟨#[38]⟩,⟨#[124]⟩,⟨#[94]⟩,⟨#[60,60]⟩,⟨#[62,62]⟩,⟨#[61,61]⟩,⟨#[33,61]⟩,⟨#[60]⟩,⟨#[60,61]⟩,⟨#[62]⟩,⟨#[62,61]⟩,⟨#[]⟩,⟨#[38,38]⟩,⟨#[124,124]⟩]
def sgn (n : Nat) : ByteArray:=sgnL.getD n ByteArray.empty
def rnkL : List Int:=[9,9,10,10,10,5,3,4,8,8,6,6,7,7,7,7,0,2,1]
def rnk (n : Nat) : Int:=rnkL.getD n 0
def sgnZ (o : Int) : ByteArray:=if 0 ≤ o ∧ o ≤ 18 then sgn o.toNat else ⟨#[]⟩
def rnkZ (o : Int) : Int:=if 0 ≤ o ∧ o ≤ 18 then rnk o.toNat else 0
def opGo (s : ByteArray) : Nat → Nat → Int
 | 0,_ => -1
 | f + 1,k => if (sgn k).toList == s.toList then k else opGo s f (k + 1)
def opM (s : ByteArray) : Int:=if s.toList.isEmpty then -1 else opGo s 19 0
def keyL : List (List UInt8):=[[112,117,98,108,105,99],[115,101,99,114,101,116],[105,110,116],[98,111,111,108],[98,121],[108,111,99,107],[102,117,110,99],[114,101,116,117,114,110],[116,104,114,101,97,100],[118,97,114],[105,102],[101,108,115,101],[119,104,105,108,101],[111,117,116],[116,114,117,101],[102,97,108,115,101]]
def keyB (l : List UInt8) : Bool:=keyL.any fun k => k == l
def sgB (k : Nat) : List UInt8:=(sgn k).data.toList
def opB (t : List UInt8) : Int:=opM ⟨t.toArray⟩
theorem opGo_lt (s : ByteArray) : ∀ f k,opGo s f k = -1 ∨ ∃ j,k ≤ j ∧ j < k + f ∧ opGo s f k = (j : Int) ∧ (sgn j).toList = s.toList
 | 0,k => .inl rfl
 | f + 1,k => by
  by_cases h : ((sgn k).toList == s.toList) = true
  · refine .inr ⟨k,Nat.le_refl _,by omega,?_,by simpa using h⟩
    rw [opGo,if_pos h]
  · rw [opGo,if_neg h]
    rcases opGo_lt s f (k + 1) with h1 | ⟨j,h1,h2,h3,h4⟩
    · exact .inl h1
    · exact .inr ⟨j,by omega,by omega,h3,h4⟩
theorem opB_some {t : List UInt8} (h : 0 ≤ opB t) : ∃ j : Nat,j < 19 ∧ opB t = (j : Int) ∧ sgB j = t:=by
 unfold opB opM at h ⊢
 split at h
 · omega
 · rename_i hn
   rw [if_neg hn]
   rcases opGo_lt ⟨t.toArray⟩ 19 0 with h1 | ⟨j,h1,h2,h3,h4⟩
   · omega
   · refine ⟨j,by omega,h3,?_⟩
     rw [ByteArray.toList_eq,ByteArray.toList_eq] at h4
     unfold sgB
     rw [h4]
theorem rnkZ_in {o : Int} (h : 1 ≤ rnkZ o) : 0 ≤ o ∧ o ≤ 18 ∧ o ≠ 16:=by
 unfold rnkZ at h
 split at h
 · rename_i hh
   refine ⟨hh.1,hh.2,fun e => ?_⟩
   subst e
   exact absurd h (by decide)
 · omega
theorem rnkZ_le (o : Int) : 0 ≤ rnkZ o ∧ rnkZ o ≤ 10:=by
 unfold rnkZ
 split
 · rename_i hh
   obtain ⟨n,rfl⟩:=Int.eq_ofNat_of_zero_le hh.1
   have hn : n ≤ 18:=by omega
   show 0 ≤ rnk n ∧ rnk n ≤ 10
   have : ∀ n : Nat,n ≤ 18 → 0 ≤ rnk n ∧ rnk n ≤ 10:=by decide
   exact this n hn
 · omega
theorem op_rank {t : List UInt8} (h : 1 ≤ rnkZ (opB t)) : ∃ j : Nat,j < 19 ∧ j ≠ 16 ∧ opB t = (j : Int) ∧ sgB j = t:=by
 have h1:=rnkZ_in h
 obtain ⟨j,h2,h3,h4⟩:=opB_some h1.1
 exact ⟨j,h2,by have:=h1.2.2;omega,h3,h4⟩
inductive Ex where
 | mk (k op n : Int) (nm : List UInt8) (ks : List Ex) (a : Nat)
def Ex.k : Ex → Int | .mk k _ _ _ _ _ => k
def Ex.op : Ex → Int | .mk _ o _ _ _ _ => o
def Ex.n : Ex → Int | .mk _ _ n _ _ _ => n
def Ex.nm : Ex → List UInt8 | .mk _ _ _ t _ _ => t
def Ex.ks : Ex → List Ex | .mk _ _ _ _ l _ => l
def Ex.a : Ex → Nat | .mk _ _ _ _ _ a => a
def Sg (w : Wd) (t : List UInt8) : Prop:=w.k = 2 ∧ w.t = t
def rkW (w : Wd) : Int:=if w.k = 2 then rnkZ (opB w.t) else 0
def truB : List UInt8:=[116,114,117,101]
def flsB : List UInt8:=[102,97,108,115,101]
def Stray (w : Wd) : Prop:=w.k ≠ 1 ∧ (w.k = 0 → keyB w.t = true ∧ w.t ≠ truB ∧ w.t ≠ flsB) ∧ (w.k = 2 → w.t ≠ [45] ∧ w.t ≠ [33] ∧ w.t ≠ [40])
inductive Job where
 | thing
 | beh (k : Int)
 | wth (c : List UInt8)
 | nam
 | giv
 | expr (r : Int)
 | loop (r : Int) (l : Ex)
 | list (acc : List Ex)
inductive Res where
 | ok (e : Ex) (ts : List Wd)
 | okL (es : List Ex) (ts : List Wd)
 | bad (e : Int) (a : Nat)
inductive P : Nat → Job → List Wd → Res → Prop
 | num {o : Nat} {w : Wd} {ts : List Wd} : w.k = 1 → P o .thing (w :: ts) (.ok (.mk 0 0 w.n [] [] w.a) ts)
 | tru {o : Nat} {w : Wd} {ts : List Wd} : w.k = 0 → w.t = truB → P o .thing (w :: ts) (.ok (.mk 1 0 1 [] [] w.a) ts)
 | fls {o : Nat} {w : Wd} {ts : List Wd} : w.k = 0 → w.t = flsB → P o .thing (w :: ts) (.ok (.mk 1 0 0 [] [] w.a) ts)
 | neg {o : Nat} {w : Wd} {ts : List Wd} {r : Res} : Sg w [45] → P o (.beh 4) (w :: ts) r → P o .thing (w :: ts) r
 | not {o : Nat} {w : Wd} {ts : List Wd} {r : Res} : Sg w [33] → P o (.beh 5) (w :: ts) r → P o .thing (w :: ts) r
 | par {o : Nat} {w : Wd} {ts : List Wd} {r : Res} : Sg w [40] → P o (.wth [41]) (w :: ts) r → P o .thing (w :: ts) r
 | name {o : Nat} {w : Wd} {ts : List Wd} {r : Res} : w.k = 0 → keyB w.t = false → P o .nam (w :: ts) r → P o .thing (w :: ts) r
 | stray {o : Nat} {w : Wd} {ts : List Wd} : Stray w → P o .thing (w :: ts) (.bad 11 w.a)
 | behLim {o : Nat} {k : Int} {w : Wd} {ts : List Wd} : o = 32 → P o (.beh k) (w :: ts) (.bad 2 w.a)
 | behOk {o : Nat} {k : Int} {w : Wd} {ts ts' : List Wd} {e : Ex} : o < 32 → P (o + 1) .thing ts (.ok e ts') → P o (.beh k) (w :: ts) (.ok (.mk k 0 0 [] [e] w.a) ts')
 | behBad {o : Nat} {k : Int} {w : Wd} {ts : List Wd} {e : Int} {a : Nat} : o < 32 → P (o + 1) .thing ts (.bad e a) → P o (.beh k) (w :: ts) (.bad e a)
 | wthLim {o : Nat} {c : List UInt8} {w : Wd} {ts : List Wd} : o = 32 → P o (.wth c) (w :: ts) (.bad 2 w.a)
 | wthOk {o : Nat} {c : List UInt8} {w d : Wd} {ts ts' : List Wd} {e : Ex} : o < 32 → P (o + 1) (.expr 1) ts (.ok e (d :: ts')) → Sg d c → P o (.wth c) (w :: ts) (.ok e ts')
 | wthNo {o : Nat} {c : List UInt8} {w d : Wd} {ts ts' : List Wd} {e : Ex} : o < 32 → P (o + 1) (.expr 1) ts (.ok e (d :: ts')) → ¬ Sg d c → P o (.wth c) (w :: ts) (.bad 11 d.a)
 | wthBad {o : Nat} {c : List UInt8} {w : Wd} {ts : List Wd} {e : Int} {a : Nat} : o < 32 → P (o + 1) (.expr 1) ts (.bad e a) → P o (.wth c) (w :: ts) (.bad e a)
 | namVar {o : Nat} {w c : Wd} {ts : List Wd} : ¬ Sg c [91] → ¬ Sg c [40] → P o .nam (w :: c :: ts) (.ok (.mk 2 0 0 w.t [] w.a) (c :: ts))
 | namElem {o : Nat} {w c : Wd} {ts ts' : List Wd} {e : Ex} : Sg c [91] → P o (.wth [93]) (c :: ts) (.ok e ts') → P o .nam (w :: c :: ts) (.ok (.mk 3 0 0 w.t [e] w.a) ts')
 | namElemBad {o : Nat} {w c : Wd} {ts : List Wd} {e : Int} {a : Nat} : Sg c [91] → P o (.wth [93]) (c :: ts) (.bad e a) → P o .nam (w :: c :: ts) (.bad e a)
 | namCall {o : Nat} {w c : Wd} {ts ts' : List Wd} {es : List Ex} : Sg c [40] → P o .giv (c :: ts) (.okL es ts') → P o .nam (w :: c :: ts) (.ok (.mk 7 0 0 w.t es w.a) ts')
 | namCallBad {o : Nat} {w c : Wd} {ts : List Wd} {e : Int} {a : Nat} : Sg c [40] → P o .giv (c :: ts) (.bad e a) → P o .nam (w :: c :: ts) (.bad e a)
 | givLim {o : Nat} {w : Wd} {ts : List Wd} : o = 32 → P o .giv (w :: ts) (.bad 2 w.a)
 | givNone {o : Nat} {w d : Wd} {ts : List Wd} : o < 32 → Sg d [41] → P o .giv (w :: d :: ts) (.okL [] ts)
 | givSome {o : Nat} {w d f : Wd} {ts ts' : List Wd} {es : List Ex} : o < 32 → ¬ Sg d [41] → P (o + 1) (.list []) (d :: ts) (.okL es (f :: ts')) → Sg f [41] → P o .giv (w :: d :: ts) (.okL es ts')
 | givNo {o : Nat} {w d f : Wd} {ts ts' : List Wd} {es : List Ex} : o < 32 → ¬ Sg d [41] → P (o + 1) (.list []) (d :: ts) (.okL es (f :: ts')) → ¬ Sg f [41] → P o .giv (w :: d :: ts) (.bad 11 f.a)
 | givBad {o : Nat} {w d : Wd} {ts : List Wd} {e : Int} {a : Nat} : o < 32 → ¬ Sg d [41] → P (o + 1) (.list []) (d :: ts) (.bad e a) → P o .giv (w :: d :: ts) (.bad e a)
 | lstMore {o : Nat} {d : Wd} {ts ts' : List Wd} {acc : List Ex} {e : Ex} {r : Res} : P o (.expr 1) ts (.ok e (d :: ts')) → Sg d [44] → P o (.list (acc ++ [e])) ts' r → P o (.list acc) ts r
 | lstEnd {o : Nat} {d : Wd} {ts ts' : List Wd} {acc : List Ex} {e : Ex} : P o (.expr 1) ts (.ok e (d :: ts')) → ¬ Sg d [44] → P o (.list acc) ts (.okL (acc ++ [e]) (d :: ts'))
 | lstBad {o : Nat} {ts : List Wd} {acc : List Ex} {e : Int} {a : Nat} : P o (.expr 1) ts (.bad e a) → P o (.list acc) ts (.bad e a)
 | expr {o : Nat} {r : Int} {ts ts' : List Wd} {l : Ex} {res : Res} : P o .thing ts (.ok l ts') → P o (.loop r l) ts' res → P o (.expr r) ts res
 | exprBad {o : Nat} {r : Int} {ts : List Wd} {e : Int} {a : Nat} : P o .thing ts (.bad e a) → P o (.expr r) ts (.bad e a)
 | loopEnd {o : Nat} {r : Int} {l : Ex} {c : Wd} {ts : List Wd} : rkW c < r → P o (.loop r l) (c :: ts) (.ok l (c :: ts))
 | loopMore {o : Nat} {r : Int} {l e : Ex} {c : Wd} {ts ts' : List Wd} {res : Res} : r ≤ rkW c → P o (.expr (rkW c + 1)) ts (.ok e ts') → P o (.loop r (.mk 6 (opB c.t) 0 [] [l,e] l.a)) ts' res → P o (.loop r l) (c :: ts) res
 | loopBad {o : Nat} {r : Int} {l : Ex} {c : Wd} {ts : List Wd} {e : Int} {a : Nat} : r ≤ rkW c → P o (.expr (rkW c + 1)) ts (.bad e a) → P o (.loop r l) (c :: ts) (.bad e a)
def Fin (ts : List Wd) : Prop:=∃ pre e,ts = pre ++ [e] ∧ e.k = 3
theorem Fin.cons {w : Wd} {ts : List Wd} (h : Fin (w :: ts)) (hw : w.k ≠ 3) : Fin ts:=by
 obtain ⟨pre,e,h1,h2⟩:=h
 cases pre with
 | nil =>
  simp at h1
  exact absurd (h1.1 ▸ h2) hw
 | cons x pre =>
  simp at h1
  exact ⟨pre,e,h1.2,h2⟩
theorem Fin.ne {ts : List Wd} (h : Fin ts) : ∃ w r,ts = w :: r:=by
 obtain ⟨pre,e,h1,_⟩:=h
 cases pre with
 | nil => exact ⟨e,[],by simpa using h1⟩
 | cons x pre => exact ⟨x,pre ++ [e],by simpa using h1⟩
theorem Sg.ne {w : Wd} {t : List UInt8} (h : Sg w t) : w.k ≠ 3:=by rw [h.1];decide
theorem rkW_ne {w : Wd} (h : 1 ≤ rkW w) : w.k = 2 ∧ 1 ≤ rnkZ (opB w.t):=by
 unfold rkW at h
 split at h
 · exact ⟨by assumption,h⟩
 · omega
theorem rkW_bd (w : Wd) : 0 ≤ rkW w ∧ rkW w ≤ 10:=by
 unfold rkW
 split
 · exact rnkZ_le _
 · omega
def Job.lst : Job → Bool | .giv => true | .list _ => true | _ => false
def Job.min : Job → Nat | .loop _ _ => 0 | _ => 1
def Job.low : Job → Prop | .expr r => 1 ≤ r | .loop r _ => 1 ≤ r | _ => True
def Post (j : Job) (ts : List Wd) : Res → Prop
 | .ok _ ts' => j.lst = false ∧ Fin ts' ∧ ts'.length + j.min ≤ ts.length
 | .okL _ ts' => j.lst = true ∧ Fin ts' ∧ ts'.length + j.min ≤ ts.length
 | .bad _ _ => True
theorem P.post {o : Nat} {j : Job} {ts : List Wd} {r : Res} (h : P o j ts r) : j.low → Fin ts → (j = .nam → ∀ w t,ts = w :: t → w.k = 0) → (∀ k,j = .beh k → ∀ w t,ts = w :: t → w.k = 2) → (∀ c,j = .wth c → ∀ w t,ts = w :: t → w.k = 2) → (j = .giv → ∀ w t,ts = w :: t → w.k = 2) → Post j ts r:=by
 induction h with
 | num h => intro _ hf _ _ _ _;exact ⟨rfl,hf.cons (by rw [h];decide),by simp [Job.min]⟩
 | tru h _ => intro _ hf _ _ _ _;exact ⟨rfl,hf.cons (by rw [h];decide),by simp [Job.min]⟩
 | fls h _ => intro _ hf _ _ _ _;exact ⟨rfl,hf.cons (by rw [h];decide),by simp [Job.min]⟩
 | @neg o w ts r hs h ih =>
  intro _ hf _ _ _ _
  have:=ih trivial hf (by simp) (by rintro k - w' t' e;simp at e;rw [← e.1];exact hs.1) (by simp) (by simp)
  cases r <;> simp_all [Post,Job.lst,Job.min]
 | @not o w ts r hs h ih =>
  intro _ hf _ _ _ _
  have:=ih trivial hf (by simp) (by rintro k - w' t' e;simp at e;rw [← e.1];exact hs.1) (by simp) (by simp)
  cases r <;> simp_all [Post,Job.lst,Job.min]
 | @par o w ts r hs h ih =>
  intro _ hf _ _ _ _
  have:=ih trivial hf (by simp) (by simp) (by rintro k - w' t' e;simp at e;rw [← e.1];exact hs.1) (by simp)
  cases r <;> simp_all [Post,Job.lst,Job.min]
 | @name o w ts r hs hk h ih =>
  intro _ hf _ _ _ _
  have:=ih trivial hf (by rintro - w' t' e;simp at e;rw [← e.1];exact hs) (by simp) (by simp) (by simp)
  cases r <;> simp_all [Post,Job.lst,Job.min]
 | stray => intros;trivial
 | behLim => intros;trivial
 | @behOk o k w ts ts' e ho h ih =>
  intro _ hf _ hb _ _
  have:=ih trivial (hf.cons (by rw [hb k rfl w ts rfl];decide)) (by simp) (by simp) (by simp) (by simp)
  simp [Post,Job.lst,Job.min] at this ⊢
  exact ⟨this.1,by omega⟩
 | behBad => intros;trivial
 | wthLim => intros;trivial
 | @wthOk o c w d ts ts' e ho h hd ih =>
  intro _ hf _ _ hb _
  have:=ih (by simp [Job.low]) (hf.cons (by rw [hb c rfl w ts rfl];decide)) (by simp) (by simp) (by simp) (by simp)
  simp [Post,Job.lst,Job.min] at this ⊢
  exact ⟨this.1.cons hd.ne,by omega⟩
 | wthNo => intros;trivial
 | wthBad => intros;trivial
 | namVar h1 h2 => intro _ hf hn _ _ _;exact ⟨rfl,hf.cons (by rw [hn rfl _ _ rfl];decide),by simp [Job.min]⟩
 | @namElem o w c ts ts' e hs h ih =>
  intro _ hf hn _ _ _
  have:=ih trivial (hf.cons (by rw [hn rfl _ _ rfl];decide)) (by simp) (by simp) (by rintro k - w' t' e;simp at e;rw [← e.1];exact hs.1) (by simp)
  simp [Post,Job.lst,Job.min] at this ⊢
  exact ⟨this.1,by omega⟩
 | namElemBad => intros;trivial
 | @namCall o w c ts ts' es hs h ih =>
  intro _ hf hn _ _ _
  have:=ih trivial (hf.cons (by rw [hn rfl _ _ rfl];decide)) (by simp) (by simp) (by simp) (by rintro - w' t' e;simp at e;rw [← e.1];exact hs.1)
  simp [Post,Job.lst,Job.min] at this ⊢
  exact ⟨this.1,by omega⟩
 | namCallBad => intros;trivial
 | givLim => intros;trivial
 | @givNone o w d ts ho hd =>
  intro _ hf _ _ _ hg
  exact ⟨rfl,(hf.cons (by rw [hg rfl _ _ rfl];decide)).cons hd.ne,by simp [Job.min]⟩
 | @givSome o w d f ts ts' es ho hd h hf' ih =>
  intro _ hf _ _ _ hg
  have:=ih trivial (hf.cons (by rw [hg rfl _ _ rfl];decide)) (by simp) (by simp) (by simp) (by simp)
  simp [Post,Job.lst,Job.min] at this ⊢
  exact ⟨this.1.cons hf'.ne,by omega⟩
 | givNo => intros;trivial
 | givBad => intros;trivial
 | @lstMore o d ts ts' acc e r h hd h2 ih ih2 =>
  intro _ hf _ _ _ _
  have h1:=ih (by simp [Job.low]) hf (by simp) (by simp) (by simp) (by simp)
  simp [Post,Job.lst,Job.min] at h1
  have h3:=ih2 trivial (h1.1.cons hd.ne) (by simp) (by simp) (by simp) (by simp)
  cases r <;> simp [Post,Job.lst,Job.min] at h3 ⊢
  exact ⟨h3.1,by omega⟩
 | @lstEnd o d ts ts' acc e h hd ih =>
  intro _ hf _ _ _ _
  have h1:=ih (by simp [Job.low]) hf (by simp) (by simp) (by simp) (by simp)
  simpa [Post,Job.lst,Job.min] using h1
 | lstBad => intros;trivial
 | @expr o r ts ts' l res h h2 ih ih2 =>
  intro hl hf _ _ _ _
  have h1:=ih trivial hf (by simp) (by simp) (by simp) (by simp)
  simp [Post,Job.lst,Job.min] at h1
  have h3:=ih2 hl h1.1 (by simp) (by simp) (by simp) (by simp)
  cases res <;> simp [Post,Job.lst,Job.min] at h3 ⊢
  exact ⟨h3.1,by omega⟩
 | exprBad => intros;trivial
 | loopEnd => intro _ hf _ _ _ _;exact ⟨rfl,hf,by simp [Job.min]⟩
 | @loopMore o r l e c ts ts' res hr h h2 ih ih2 =>
  intro hl hf _ _ _ _
  have hc : 1 ≤ rkW c:=Int.le_trans hl hr
  have h1:=ih (by simp [Job.low];omega) (hf.cons (by rw [(rkW_ne hc).1];decide)) (by simp) (by simp) (by simp) (by simp)
  simp [Post,Job.lst,Job.min] at h1
  have h3:=ih2 hl h1.1 (by simp) (by simp) (by simp) (by simp)
  cases res <;> simp [Post,Job.lst,Job.min] at h3 ⊢
  exact ⟨h3.1,by omega⟩
 | loopBad => intros;trivial
def Suf (ts : List Wd) : Res → Prop
 | .ok _ ts' => ts' <:+ ts
 | .okL _ ts' => ts' <:+ ts
 | .bad _ _ => True
theorem suf_cons {w : Wd} {a b : List Wd} (h : a <:+ b) : a <:+ w :: b:=h.trans (List.suffix_cons _ _)
theorem P.suf0 {o : Nat} {j : Job} {ts : List Wd} {r : Res} (h : P o j ts r) : Suf ts r:=by
 induction h with
 | num => exact List.suffix_cons _ _
 | tru => exact List.suffix_cons _ _
 | fls => exact List.suffix_cons _ _
 | neg _ _ ih => exact ih
 | not _ _ ih => exact ih
 | par _ _ ih => exact ih
 | name _ _ _ ih => exact ih
 | stray => trivial
 | behLim => trivial
 | behOk _ _ ih => exact suf_cons ih
 | behBad => trivial
 | wthLim => trivial
 | wthOk _ _ _ ih => exact suf_cons ((List.suffix_cons _ _).trans ih)
 | wthNo => trivial
 | wthBad => trivial
 | namVar => exact List.suffix_cons _ _
 | namElem _ _ ih => exact suf_cons ih
 | namElemBad => trivial
 | namCall _ _ ih => exact suf_cons ih
 | namCallBad => trivial
 | givLim => trivial
 | givNone => exact suf_cons (List.suffix_cons _ _)
 | givSome _ _ _ _ ih => exact suf_cons ((List.suffix_cons _ _).trans ih)
 | givNo => trivial
 | givBad => trivial
 | @lstMore _ _ _ _ _ _ r _ _ _ ih ih2 =>
  cases r with
  | ok => exact List.IsSuffix.trans ih2 ((List.suffix_cons _ _).trans ih)
  | okL => exact List.IsSuffix.trans ih2 ((List.suffix_cons _ _).trans ih)
  | bad => trivial
 | lstEnd _ _ ih => exact ih
 | lstBad => trivial
 | @expr _ _ _ _ _ r _ _ ih ih2 =>
  cases r with
  | ok => exact List.IsSuffix.trans ih2 ih
  | okL => exact List.IsSuffix.trans ih2 ih
  | bad => trivial
 | exprBad => trivial
 | loopEnd => exact List.suffix_refl _
 | @loopMore _ _ _ _ _ _ _ r _ _ _ ih ih2 =>
  cases r with
  | ok => exact suf_cons (List.IsSuffix.trans ih2 ih)
  | okL => exact suf_cons (List.IsSuffix.trans ih2 ih)
  | bad => trivial
 | loopBad => trivial
theorem P.suf {o : Nat} {j : Job} {ts ts' : List Wd} {x : Ex} (h : P o j ts (.ok x ts')) : ts' <:+ ts:=h.suf0
open Go Go.RowKit
def blankR (r : Int) : Bool:=decide (r = 32 ∨ r = 9 ∨ r = 10 ∨ r = 13)
def letterR (r : Int) : Bool:=decide ((65 ≤ r ∧ r ≤ 90) ∨ (97 ≤ r ∧ r ≤ 122) ∨ r = 95)
def digitR (r : Int) : Bool:=decide (48 ≤ r ∧ r ≤ 57)
theorem ret_bool {a b : Bool} (h : a = b) : Ending.returned (.bool a) = .returned (.bool b):=by rw [h]
theorem rletter_any (r : Int) (w : World) : Calls Try.prog 41 #[.int .u8 r] w fun e w' => e = .returned (.bool (letterR r)) ∧ w = w':=by
 go_enter Try.func41,Try.ntmps41
 go_wp2
 all_goals
  go_ret
  exact ⟨ret_bool (by rw [Bool.eq_iff_iff];simp [letterR] <;> omega),rfl⟩
theorem rdigit_any (r : Int) (w : World) : Calls Try.prog 42 #[.int .u8 r] w fun e w' => e = .returned (.bool (digitR r)) ∧ w = w':=by
 go_enter Try.func42,Try.ntmps42
 go_wp2
 all_goals
  go_ret
  exact ⟨ret_bool (by rw [Bool.eq_iff_iff];simp [digitR] <;> omega),rfl⟩
def Rn (r : Int) (c : UInt8) : Prop:=(c.toNat < 128 ∧ r = c.toNat) ∨ (128 ≤ c.toNat ∧ 128 ≤ r)
theorem Rn.blank {r : Int} {c : UInt8} (h : Rn r c) : blankR r = isBlank c:=by
 have e : isBlank c = decide (c.toNat = 32 ∨ c.toNat = 9 ∨ c.toNat = 10 ∨ c.toNat = 13):=by
  rw [Bool.eq_iff_iff]
  simp [isBlank,← UInt8.toNat_inj]
  omega
 rw [e,Bool.eq_iff_iff]
 simp only [blankR,decide_eq_true_eq]
 rcases h with ⟨h1,rfl⟩ | ⟨h1,h2⟩ <;> omega
theorem Rn.letter {r : Int} {c : UInt8} (h : Rn r c) : letterR r = isLetter c:=by
 rw [Bool.eq_iff_iff]
 simp only [letterR,isLetter,decide_eq_true_eq,Bool.or_eq_true,Bool.and_eq_true]
 rcases h with ⟨h1,rfl⟩ | ⟨h1,h2⟩ <;> omega
theorem letterR_byte (c : UInt8) : letterR c.toNat = isLetter c:=by
 rw [Bool.eq_iff_iff]
 simp only [letterR,isLetter,decide_eq_true_eq,Bool.or_eq_true,Bool.and_eq_true]
 omega
theorem digitR_byte (c : UInt8) : digitR c.toNat = isDigit c:=by
 rw [Bool.eq_iff_iff]
 simp only [digitR,isDigit,decide_eq_true_eq,Bool.and_eq_true]
 omega
theorem Rn.nl {r : Int} {c : UInt8} (h : Rn r c) : (r == 10) = (c == 10):=by
 rw [Bool.eq_iff_iff]
 simp only [beq_iff_eq,← UInt8.toNat_inj]
 rcases h with ⟨h1,rfl⟩ | ⟨h1,h2⟩
 · show (c.toNat : Int) = 10 ↔ c.toNat = 10
   omega
 · show r = 10 ↔ c.toNat = 10
   omega
inductive Comes (s : ByteArray) : Nat → Nat → Prop
 | here (q : Nat) : Comes s q q
 | on (p q : Nat) : p < q → Comes s (p + (Utf8.decode s p).2) q → Comes s p q
theorem Comes.step {s : ByteArray} {p q : Nat} (h : Comes s p q) (hpq : p < q) : Comes s (p + (Utf8.decode s p).2) q:=by
 cases h with
 | here => exact absurd hpq (by omega)
 | on _ _ _ h => exact h
theorem ret_str {a b : ByteArray} (h : a = b) : Ending.returned (.string a) = .returned (.string b):=by rw [h]
theorem ret_i {a b : Int} (h : a = b) : Ending.returned (.int .i64 a) = .returned (.int .i64 b):=by rw [h]
theorem opGo_hit (s : ByteArray) (k : Nat) (hk : k < 19) (h : ((sgn k).toList == s.toList) = true) : opGo s (19 - k) k = k:=by
 have e : 19 - k = (19 - (k + 1)) + 1:=by omega
 rw [e,opGo,if_pos h]
theorem opGo_miss (s : ByteArray) (k : Nat) (hk : k < 19) (h : ((sgn k).toList == s.toList) = false) : opGo s (19 - k) k = opGo s (19 - (k + 1)) (k + 1):=by
 have e : 19 - k = (19 - (k + 1)) + 1:=by omega
 rw [e,opGo,if_neg (by simp [h])]
theorem opGo_end (s : ByteArray) (k : Nat) (hk : ¬ k < 19) : opGo s (19 - k) k = -1:=by
 have e : 19 - k = 0:=by omega
 rw [e,opGo]
open Go Go.RowKit Go.Sort
def dig (n : Int) : ByteArray:=⟨(Lib.itoa n).toArray⟩
def numM (s : ByteArray) : Int × Bool :=
 if 19 < s.size then (0,false)
 else match Lib.parseIntB 64 s.data.toList with
  | .ok v => if v < 0 then (0,false) else if (dig v).toList == s.toList then (v,true) else (0,false)
  | _ => (0,false)
theorem at_list (s : ByteArray) (i : Nat) (h : i < s.size) : s.data.toList[i]? = some (s[i]'h):=by
 rw [List.getElem?_eq_getElem (by simpa using h)]
 rfl
def NoNl (s : ByteArray) (k : Nat) : Prop:=∀ i (h : i < s.size),i < k → (s[i]'h) ≠ 10
def AllPart (s : ByteArray) (k : Nat) : Prop:=∀ i (h : i < s.size),i < k → isPart (s[i]'h) = true
theorem AllPart.step {s : ByteArray} {k : Nat} (h : AllPart s k) (hk : k < s.size) (hp : isPart (s[k]'hk) = true) : AllPart s (k + 1):=by
 intro i hi h2
 by_cases e : i = k
 · subst e
   exact hp
 · exact h i hi (by omega)
theorem two_of (s : ByteArray) (h2 : 1 < s.size) : ∃ a b r,s.data.toList = a :: b :: r ∧ (s.extract 0 2).toList = [a,b] ∧ s[0]'(by omega) = a:=by
 have h : s.data.toList.length = s.size:=rfl
 match hl : s.data.toList,h with
 | [],h => simp at h;omega
 | [a],h => simp at h;omega
 | a :: b :: r,h =>
  refine ⟨a,b,r,rfl,?_,?_⟩
  · rw [Lib.extract_toList,hl];rfl
  · have:=at_list s 0 (by omega)
    rw [hl] at this
    simpa using this.symm
theorem one_of (s : ByteArray) (h2 : s.size = 1) : ∃ a,s.data.toList = [a] ∧ s[0]'(by omega) = a:=by
 have h : s.data.toList.length = s.size:=rfl
 match hl : s.data.toList,h with
 | [],h => simp at h;omega
 | [a],h =>
  refine ⟨a,rfl,?_⟩
  have:=at_list s 0 (by omega)
  rw [hl] at this
  simpa using this.symm
 | a :: b :: r,h => simp at h;omega
theorem sgn_pair (s : ByteArray) (h2 : 1 < s.size) (p : List UInt8) (hp : pairL.contains p = true) (h : ((s.extract 0 2).toList == p) = true) : sgnLen s.data.toList = 2:=by
 obtain ⟨a,b,r,e1,e2,_⟩:=two_of s h2
 rw [e2,beq_iff_eq] at h
 subst h
 rw [e1]
 simp only [sgnLen,hp,if_true]
theorem sgn_single (s : ByteArray) (h2 : 1 < s.size) (g0 : ((s.extract 0 2).toList == [38,38]) = false) (g1 : ((s.extract 0 2).toList == [124,124]) = false) (g2 : ((s.extract 0 2).toList == [61,61]) = false) (g3 : ((s.extract 0 2).toList == [33,61]) = false) (g4 : ((s.extract 0 2).toList == [60,61]) = false) (g5 : ((s.extract 0 2).toList == [62,61]) = false) (g6 : ((s.extract 0 2).toList == [60,60]) = false) (g7 : ((s.extract 0 2).toList == [62,62]) = false) : sgnLen s.data.toList = if oneL.contains (s[0]'(by omega)) = true then 1 else 0:=by
 obtain ⟨a,b,r,e1,e2,e3⟩:=two_of s h2
 rw [e2] at g0 g1 g2 g3 g4 g5 g6 g7
 have hp : pairL.contains [a,b] = false:=by
  simp only [pairL,List.contains_cons,List.contains_nil,g0,g1,g2,g3,g4,g5,g6,g7]
  rfl
 rw [e1,e3]
 simp only [sgnLen,hp,if_false,Bool.false_eq_true]
theorem sgn_one (s : ByteArray) (h2 : s.size = 1) : sgnLen s.data.toList = if oneL.contains (s[0]'(by omega)) = true then 1 else 0:=by
 obtain ⟨a,e1,e3⟩:=one_of s h2
 rw [e1,e3]
 rfl
abbrev wordV (k : Int) (t : ByteArray) (n a : Int) : Value:=.agg #[.int .i64 k,.string t,.int .i64 n,.int .i64 a]
theorem bcell {W w1 : World} (hb : Below W.heap.size W w1) : (∀ b o,b < W.heap.size → w1.cell? ⟨b,o,none⟩ = W.cell? ⟨b,o,none⟩) ∧ (∀ b o,b < W.heap.size → w1.frozen? ⟨b,o,none⟩ = W.frozen? ⟨b,o,none⟩) :=
 ⟨fun b o h => hb.cell (p:=⟨b,o,none⟩) h,fun b o h => hb.frozen (p:=⟨b,o,none⟩) h⟩
theorem below_after {w w1 : World} {o : Obj} (h : Below (w.alloc o).heap.size (w.alloc o) w1) : Below w.heap.size w w1:=((Below.refl _ _).alloc (Nat.le_refl _) _).trans (h.mono (by simp))
def numO (l : List UInt8) : Option Int:=match numM ⟨l.toArray⟩ with | (v,true) => some v | (_,false) => none
theorem numO_some {l : List UInt8} {v : Int} (h : numO l = some v) : numM ⟨l.toArray⟩ = (v,true):=by
 unfold numO at h
 split at h
 · rename_i e
   cases h
   exact e
 · cases h
theorem numO_none {l : List UInt8} (h : numO l = none) : ∃ v,numM ⟨l.toArray⟩ = (v,false):=by
 unfold numO at h
 split at h
 · cases h
 · rename_i e
   exact ⟨_,e⟩
theorem take_ext (s : ByteArray) (n : Nat) : s.extract 0 n = ⟨(s.data.toList.take n).toArray⟩:=by rw [Lib.extract_eq];rfl
def gapN (l : List UInt8) : Nat:=if isBlank (l.headD 0) = true then 1 else if l.head? = some 47 ∧ l.tail.head? = some 47 then noteL l else 0
def wcells (x : Wd) : List Value:=[.int .i64 x.k,.string ⟨x.t.toArray⟩,.int .i64 x.n,.int .i64 x.a]
def cellsW (l : List Wd) : List Value:=l.flatMap wcells
theorem cellsW_snoc (l : List Wd) (x : Wd) : cellsW (l ++ [x]) = cellsW l ++ wcells x:=by simp [cellsW]
theorem cellsW_at : ∀ (l : List Wd) (i : Nat) (x : Wd) (j : Nat) (u : Value),l[i]? = some x → (wcells x)[j]? = some u → (cellsW l)[i * 4 + j]? = some u
 | [],i,x,j,u,h,_ => by simp at h
 | y :: r,0,x,j,u,h,hu => by
  simp at h
  subst h
  have hj : j < 4:=(List.getElem?_eq_some_iff.1 hu).1
  show (wcells y ++ cellsW r)[0 * 4 + j]? = _
  rw [List.getElem?_append_left (by show 0 * 4 + j < 4;omega),Nat.zero_mul,Nat.zero_add]
  exact hu
 | y :: r,i + 1,x,j,u,h,hu => by
  show (wcells y ++ cellsW r)[(i + 1) * 4 + j]? = _
  rw [List.getElem?_append_right (by show 4 ≤ _;omega)]
  have e : (i + 1) * 4 + j - (wcells y).length = i * 4 + j:=by show (i + 1) * 4 + j - 4 = _;omega
  rw [e]
  exact cellsW_at r i x j u (by simpa using h) hu
theorem own_below {W W' : World} {B e size n : Nat} {v : Value} {xs : List Value} (h : W.ownsRow B e size v n xs) (hb : Below W.heap.size W W') : W'.ownsRow B e size v n xs:=by
 refine ⟨h.1,?_⟩
 rcases h.2 with h0 | ⟨g,cap,cur,hv,hB,hg,rest⟩
 · exact .inl h0
 · exact .inr ⟨g,cap,cur,hv,hB,(hb.block g (Array.getElem?_eq_some_iff.1 hg).1).trans hg,rest⟩
theorem add_off (g j : Nat) : (⟨g,0,none⟩ : Addr).add j = ⟨g,j,none⟩:=by
 unfold Addr.add
 split <;> simp_all
theorem cell_four_new (w : World) (T : TypeId) (a b c d : Value) (j : Nat) (u : Value) (h : [a,b,c,d][j]? = some u) : (w.alloc (.cells #[a,b,c,d] T)).cell? ((⟨w.heap.size,0,none⟩ : Addr).add j) = some u:=by
 rw [add_off,cell_of_row _ _ j #[a,b,c,d] T (0,0) (heap_alloc_new w _)]
 simpa using h
theorem cell_four_at (w : World) (T : TypeId) (a b c d : Value) (g : Nat) (hg : g = w.heap.size) (j : Nat) (u : Value) (h : [a,b,c,d][j]? = some u) : (w.alloc (.cells #[a,b,c,d] T)).cell? ((⟨g,0,none⟩ : Addr).add j) = some u:=by
 subst hg
 exact cell_four_new w T a b c d j u h
theorem four_one (a : Int) (t : ByteArray) (c d : Int) : ∀ u ∈ [Value.int .i64 a,Value.string t,Value.int .i64 c,Value.int .i64 d],u.oneCell' = true:=by
 intro u hu
 simp at hu
 rcases hu with rfl | rfl | rfl | rfl <;> rfl
theorem row_at {w : World} {B e n : Nat} {g cap : Nat} {W : List Wd} (h : w.ownsRow B e 4 (.slice (some ⟨g,0,none⟩) n cap) W.length (cellsW W)) {i : Nat} {x : Wd} (hx : W[i]? = some x) :
 w.cell? ⟨g,i * 4,none⟩ = some (.int .i64 x.k) ∧ w.cell? ⟨g,i * 4 + 1,none⟩ = some (.string ⟨x.t.toArray⟩) ∧ w.cell? ⟨g,i * 4 + 2,none⟩ = some (.int .i64 x.n) ∧ w.cell? ⟨g,i * 4 + 3,none⟩ = some (.int .i64 x.a):=by
 have key : ∀ j u,(wcells x)[j]? = some u → w.cell? ⟨g,i * 4 + j,none⟩ = some u:=by
  intro j u hu
  have:=h.cells (g:=g) rfl (i * 4 + j) u (cellsW_at W i x j u hx hu)
  rwa [add_off] at this
 exact ⟨key 0 _ rfl,key 1 _ rfl,key 2 _ rfl,key 3 _ rfl⟩
theorem clone_any (s : ByteArray) (w : World) (h : s.size ≤ 281474976710656) : Calls Try.prog 33 #[.string s] w fun e w' => e = .returned (.string s) ∧ Below w.heap.size w w':=by
 go_enter Try.func33,Try.ntmps33
 go_wp2_with (go_at_call 59;refine (Try.stringslite_Clone _ _ h).mono ?_;rintro e' w1 ⟨rfl,hb1⟩)
 go_ret
 exact ⟨rfl,hb1⟩
theorem rest_size (s : ByteArray) (p : Nat) : (s.extract p s.size).size = s.size - p:=by rw [ByteArray.size_extract];omega
theorem rest_list (s : ByteArray) (p : Nat) : (s.extract p s.size).data.toList = s.data.toList.drop p:=Lib.extract_to_end s p
theorem drop_ne (s : ByteArray) (p : Nat) (hp : p < s.size) : s.data.toList.drop p ≠ []:=by
 intro h
 have:=congrArg List.length h
 rw [List.length_drop] at this
 simp at this
 have e : s.data.size = s.size:=rfl
 omega
theorem drop_len (s : ByteArray) (p : Nat) : (s.data.toList.drop p).length = s.size - p:=by rw [List.length_drop];rfl
theorem list_at (s : ByteArray) (p i : Nat) (h : p + i < s.size) : (s.data.toList.drop p)[i]? = some (s[p + i]'h):=by rw [List.getElem?_drop,at_list s (p + i) h]
theorem take_all {α : Type} (p : α → Bool) : ∀ (l : List α) (i : Nat) (x : α),i < (l.takeWhile p).length → l[i]? = some x → p x = true
 | [],i,x,h,_ => by simp at h
 | c :: r,i,x,h,hx => by
  rw [List.takeWhile_cons] at h
  split at h
  · rename_i hc
    cases i with
    | zero =>
     simp at hx
     rw [← hx]
     exact hc
    | succ i => exact take_all p r i x (by simpa using h) (by simpa using hx)
  · simp at h
theorem note_end {l : List UInt8} {x : UInt8} (hx : l[noteL l]? = some x) : x = 10:=by
 unfold noteL at hx
 induction l with
 | nil => simp at hx
 | cons c r ih =>
  rw [List.takeWhile_cons] at hx
  split at hx
  · exact ih (by simpa using hx)
  · rename_i hc
    simp at hx hc
    rw [← hx]
    exact hc
def bstr (t : List UInt8) : ByteArray:=⟨t.toArray⟩
theorem bstr_eq {a b : List UInt8} : ((bstr a).toList == (bstr b).toList) = decide (a = b):=by
 rw [ByteArray.toList_eq,ByteArray.toList_eq]
 show (a == b) = _
 by_cases h : a = b <;> simp [h]
def rdCells (sl mp : Value) (nx op bad at' : Int) : Array Value:=#[sl,.int .i64 nx,.int .i64 op,mp,.int .i64 bad,.int .i64 at']
abbrev wdV (x : Wd) : Value:=wordV x.k (bstr x.t) x.n x.a
structure WCells (W : World) (g : Nat) (ws : List Wd) : Prop where
 lt : g < W.heap.size
 at_ : ∀ i x,ws[i]? = some x → W.cell? ⟨g,i * 4,none⟩ = some (.int .i64 x.k) ∧ W.cell? ⟨g,i * 4 + 1,none⟩ = some (.string (bstr x.t)) ∧ W.cell? ⟨g,i * 4 + 2,none⟩ = some (.int .i64 x.n) ∧ W.cell? ⟨g,i * 4 + 3,none⟩ = some (.int .i64 x.a)
theorem WCells.kept {W X : World} {g : Nat} {ws : List Wd} (h : WCells W g ws) (hb : ∀ k,k = g → X.heap[k]? = W.heap[k]?) (hs : W.heap.size ≤ X.heap.size) : WCells X g ws where
 lt:=Nat.lt_of_lt_of_le h.lt hs
 at_ i x hx:=by
  have hk : ∀ o,X.cell? ⟨g,o,none⟩ = W.cell? ⟨g,o,none⟩:=fun o => World.cell?_of_block (a:=⟨g,o,none⟩) (hb g rfl)
  rw [hk,hk,hk,hk]
  exact h.at_ i x hx
open Go Go.ChangeMaps Go.MapKept Go.WideElems Go.Maps
def fnElem : Value → Option (DataW Unit × List MemPlace)
 | .func (.func n) fs cs => if fs.size = 0 ∧ cs.size = 0 then some (.lit (.int .i64 n),[]) else none
 | .nilFunc => some (.nil,[])
 | _ => none
open Go Go.RowKit Go.Maps Go.WideMaps
def keyD : DataW Unit:=setOf (.agg []) (keyL.map Lit.string)
def keyP (k : Nat) : ByteArray:=⟨(keyL.getD k []).toArray⟩
def keysC : Array Value:=#[.string ⟨#[112,117,98,108,105,99]⟩,.string ⟨#[115,101,99,114,101,116]⟩,.string ⟨#[105,110,116]⟩,.string ⟨#[98,111,111,108]⟩,.string ⟨#[98,121]⟩,.string ⟨#[108,111,99,107]⟩,.string ⟨#[102,117,110,99]⟩,.string ⟨#[114,101,116,117,114,110]⟩,.string ⟨#[116,104,114,101,97,100]⟩,.string ⟨#[118,97,114]⟩,.string ⟨#[105,102]⟩,.string ⟨#[101,108,115,101]⟩,.string ⟨#[119,104,105,108,101]⟩,.string ⟨#[111,117,116]⟩,.string ⟨#[116,114,117,101]⟩,.string ⟨#[102,97,108,115,101]⟩]
theorem keys_at (k : Nat) (h : k < 16) : keysC[k]? = some (.string (keyP k)):=by
 match k,h with
 | 0,_ => rfl
 | 1,_ => rfl
 | 2,_ => rfl
 | 3,_ => rfl
 | 4,_ => rfl
 | 5,_ => rfl
 | 6,_ => rfl
 | 7,_ => rfl
 | 8,_ => rfl
 | 9,_ => rfl
 | 10,_ => rfl
 | 11,_ => rfl
 | 12,_ => rfl
 | 13,_ => rfl
 | 14,_ => rfl
 | 15,_ => rfl
 | k + 16,h => exact absurd h (by omega)
def NoKey (s : ByteArray) (k : Nat) : Prop:=∀ j,j < k → ((keyP j).toList == s.toList) = false
theorem NoKey.step {s : ByteArray} {k : Nat} (h : NoKey s k) (h2 : ((keyP k).toList == s.toList) = false) : NoKey s (k + 1):=by
 intro j hj
 by_cases e : j = k
 · subst e
   exact h2
 · exact h j (by omega)
theorem key_yes {s : ByteArray} {k : Nat} (hk : k < 16) (h : ((keyP k).toList == s.toList) = true) : keyB s.data.toList = true:=by
 unfold keyB
 rw [List.any_eq_true]
 have hk2 : k < keyL.length:=hk
 refine ⟨keyL[k],List.getElem_mem hk2,?_⟩
 rw [ByteArray.toList_eq,ByteArray.toList_eq] at h
 have e : (keyP k).data.toList = keyL[k]:=by
  show keyL.getD k [] = _
  rw [List.getD_eq_getElem?_getD,List.getElem?_eq_getElem hk2]
  rfl
 rw [e] at h
 exact h
theorem key_no {s : ByteArray} (h : NoKey s 16) : keyB s.data.toList = false:=by
 unfold keyB
 rw [List.any_eq_false]
 intro x hx
 obtain ⟨k,hk,rfl⟩:=List.getElem_of_mem hx
 have h1:=h k hk
 rw [ByteArray.toList_eq,ByteArray.toList_eq] at h1
 have e : (keyP k).data.toList = keyL[k]:=by
  show keyL.getD k [] = _
  rw [List.getD_eq_getElem?_getD,List.getElem?_eq_getElem hk]
  rfl
 rw [e] at h1
 simpa using h1
theorem rkey_any (s : ByteArray) (w : World) : Calls Try.prog 63 #[.string s] w fun e w' => e = .returned (.bool (keyB s.data.toList)) ∧ Below w.heap.size w w':=by
 go_enter Try.func63,Try.ntmps63
 go_wp2
 go_loopw [4] (fun i wr => ∃ k : Nat,i = .int .i64 k ∧ k ≤ 16 ∧ wr = (w.alloc (.cells keysC 9)) ∧ Hid (NoKey s k)) (fun i _ => 16 - (intOf i).toNat)
 case atStart => exact ⟨0,rfl,by omega,rfl,hid (fun j h => absurd h (by omega))⟩
 case round =>
  obtain ⟨k,rfl,hk,rfl,HU⟩:=hrel
  by_cases hlt : k < 16
  · obtain ⟨P,hP⟩ : ∃ P,P = keyP k:=⟨_,rfl⟩
    have hcell : (w.alloc (.cells keysC 9)).cell? ⟨w.heap.size,k,none⟩ = some (.string P):=by
     rw [hP,← keys_at k hlt]
     exact cell_of_row _ _ k keysC 9 (0,0) (heap_alloc_new w _)
    have HP:=hid hP
    clear hP
    have hk2 : (k : Int) < 16:=by omega
    have hk0 : (0 : Int) ≤ k:=by omega
    cases he : (P.toList == s.toList)
    · go_wp2
      go_roundw
      case rel => exact ⟨k + 1,by go_num,by omega,(by first | rfl | trivial),hid (HU.out.step (by rw [← HP.out];exact he))⟩
      case measure => simp [intOf];omega
    · have HR:=hid (key_yes hlt (by rw [← HP.out];exact he))
      go_wp2
      go_ret
      exact ⟨ret_bool (by rw [HR.out]),(Below.refl _ _).alloc (Nat.le_refl _) _⟩
  · obtain rfl : k = 16:=by omega
    have HR:=hid (key_no HU.out)
    go_wp2
    go_ret
    exact ⟨ret_bool (by rw [HR.out]),(Below.refl _ _).alloc (Nat.le_refl _) _⟩
abbrev opnV (k : Int) (t : ByteArray) : Value:=.agg #[.int .i64 k,.string t]
abbrev exV (k op n : Int) (nm : ByteArray) (ks : Value) (a : Int) : Value:=.agg #[.int .i64 k,.int .i64 op,.int .i64 n,.string nm,ks,.int .i64 a]
def bkey : Nat → Value
 | 0 => opnV 2 ⟨#[45]⟩
 | 1 => opnV 2 ⟨#[33]⟩
 | 2 => opnV 2 ⟨#[40]⟩
 | 3 => opnV 1 ⟨#[]⟩
 | 4 => opnV 0 ⟨#[116,114,117,101]⟩
 | 5 => opnV 0 ⟨#[102,97,108,115,101]⟩
 | _ => opnV 0 ⟨#[]⟩
def exCells (e : Ex) (v : Value) : List Value:=[.int .i64 e.k,.int .i64 e.op,.int .i64 e.n,.string (bstr e.nm),v,.int .i64 e.a]
abbrev exVal (e : Ex) (v : Value) : Value:=.agg #[.int .i64 e.k,.int .i64 e.op,.int .i64 e.n,.string (bstr e.nm),v,.int .i64 e.a]
inductive IsEx (lo : Nat) (W : World) : Ex → Value → Prop
 | leaf {k o n : Int} {nm : List UInt8} {a : Nat} : IsEx lo W (.mk k o n nm [] a) (.slice none 0 0)
 | node {k o n : Int} {nm : List UInt8} {ks : List Ex} {a : Nat} (g cap : Nat) (cs : Array Value) (fr : Nat × Nat) (vs : Nat → Value) : lo ≤ g → W.heap[g]? = some (.cells cs 63 fr) → ks ≠ [] →
  (∀ i e,ks[i]? = some e → ∀ j u,(exCells e (vs i))[j]? = some u → cs[i * 6 + j]? = some u) → (∀ i e,ks[i]? = some e → IsEx lo W e (vs i)) → IsEx lo W (.mk k o n nm ks a) (.slice (some ⟨g,0,none⟩) ks.length cap)
theorem IsEx.kept {lo : Nat} {W X : World} {e : Ex} {v : Value} (h : IsEx lo W e v) (hk : ∀ g,lo ≤ g → g < W.heap.size → X.heap[g]? = W.heap[g]?) : IsEx lo X e v:=by
 induction h with
 | leaf => exact .leaf
 | node g cap cs fr vs hg hb hne hc _ ih => exact .node g cap cs fr vs hg ((hk g hg (Array.getElem?_eq_some_iff.1 hb).1).trans hb) hne hc ih
theorem IsEx.low {lo lo' : Nat} {W : World} {e : Ex} {v : Value} (h : IsEx lo W e v) (hl : lo' ≤ lo) : IsEx lo' W e v:=by
 induction h with
 | leaf => exact .leaf
 | node g cap cs fr vs hg hb hne hc _ ih => exact .node g cap cs fr vs (by omega) hb hne hc ih
theorem IsEx.fr {lo rb : Nat} {W X : World} {e : Ex} {v : Value} (h : IsEx lo W e v) (hf : Fr (some rb) W X) (hr : rb < lo) : IsEx lo X e v :=
 h.kept fun g hg hl => hf.block hl (by simp;omega)
theorem IsEx.stay {lo : Nat} {W X : World} {e : Ex} {v : Value} (h : IsEx lo W e v) (hf : Below W.heap.size W X) : IsEx lo X e v:=h.kept fun g _ hl => hf.block g hl
theorem IsEx.alloc {lo : Nat} {W : World} {e : Ex} {v : Value} (h : IsEx lo W e v) (o : Obj) : IsEx lo (W.alloc o) e v:=h.stay ((Below.refl _ _).alloc (Nat.le_refl _) _)
theorem IsEx.drewN {lo : Nat} {W : World} {e : Ex} {v : Value} (h : IsEx lo W e v) (n : Nat) : IsEx lo (W.drewN n) e v:=h.kept fun _ _ _ => rfl
theorem IsEx.drew {lo : Nat} {W : World} {e : Ex} {v : Value} (h : IsEx lo W e v) : IsEx lo W.drew e v:=h.kept fun _ _ _ => rfl
theorem IsEx.set {lo : Nat} {W : World} {e : Ex} {v : Value} (h : IsEx lo W e v) {b : Nat} (hb : b < lo) (o : Nat) (x : Value) : IsEx lo (W.setCell ⟨b,o,none⟩ x) e v :=
 h.kept fun g hg _ => heap_setCell_other W ⟨b,o,none⟩ g x (by simp;omega)
theorem IsEx.recast {lo : Nat} {W : World} {k o n k' o' n' : Int} {nm nm' : List UInt8} {ks : List Ex} {a a' : Nat} {v : Value} (h : IsEx lo W (.mk k o n nm ks a) v) : IsEx lo W (.mk k' o' n' nm' ks a') v:=by
 cases h with
 | leaf => exact .leaf
 | node g cap cs fr vs hg hb hne hc hi => exact .node g cap cs fr vs hg hb hne hc hi
theorem IsEx.form {lo : Nat} {W : World} {e : Ex} {v : Value} (h : IsEx lo W e v) : ∃ p c,v = .slice p e.ks.length c:=by
 cases h with
 | leaf => exact ⟨_,_,rfl⟩
 | node g cap => exact ⟨_,_,rfl⟩
theorem IsEx.kid {lo : Nat} {W : World} {e : Ex} {v : Value} (h : IsEx lo W e v) {i : Nat} {x : Ex} (hx : e.ks[i]? = some x) :
 ∃ g cap u,v = .slice (some ⟨g,0,none⟩) e.ks.length cap ∧ lo ≤ g ∧ g < W.heap.size ∧ IsEx lo W x u ∧
  W.cell? ⟨g,i * 6,none⟩ = some (.int .i64 x.k) ∧ W.cell? ⟨g,i * 6 + 1,none⟩ = some (.int .i64 x.op) ∧ W.cell? ⟨g,i * 6 + 2,none⟩ = some (.int .i64 x.n) ∧ W.cell? ⟨g,i * 6 + 3,none⟩ = some (.string (bstr x.nm)) ∧ W.cell? ⟨g,i * 6 + 4,none⟩ = some u ∧ W.cell? ⟨g,i * 6 + 5,none⟩ = some (.int .i64 x.a):=by
 cases h with
 | leaf => simp [Ex.ks] at hx
 | node g cap cs fr vs hg hb hne hc hi =>
  have key : ∀ j u,(exCells x (vs i))[j]? = some u → W.cell? ⟨g,i * 6 + j,none⟩ = some u:=fun j u hu => by
   rw [cell_of_row _ _ _ _ _ _ hb]
   exact hc i x hx j u hu
  exact ⟨g,cap,vs i,rfl,hg,(Array.getElem?_eq_some_iff.1 hb).1,hi i x hx,key 0 _ rfl,key 1 _ rfl,key 2 _ rfl,key 3 _ rfl,key 4 _ rfl,key 5 _ rfl⟩
theorem heap_new (W : World) (o : Obj) : (W.alloc o).heap[W.heap.size]? = some o:=by
 show (W.heap.push o)[W.heap.size]? = some o
 simp
theorem IsEx.one {lo : Nat} {W : World} {x : Ex} {u : Value} (h : IsEx lo W x u) (hl : lo ≤ W.heap.size) (k o n : Int) (nm : List UInt8) (a : Nat) :
 IsEx lo (W.alloc (.cells #[.int .i64 x.k,.int .i64 x.op,.int .i64 x.n,.string (bstr x.nm),u,.int .i64 x.a] 63)) (.mk k o n nm [x] a) (.slice (some ⟨W.heap.size,0,none⟩) 1 1):=by
 refine .node W.heap.size 1 _ (0,0) (fun _ => u) hl (heap_new _ _) (by simp) ?_ ?_
 · intro i e he j v hv
   cases i with
   | zero =>
    simp at he
    subst he
    simpa [exCells] using hv
   | succ i => simp at he
 · intro i e he
   cases i with
   | zero =>
    simp at he
    subst he
    exact h.stay ((Below.refl _ _).alloc (Nat.le_refl _) _)
   | succ i => simp at he
theorem IsEx.two {lo : Nat} {W : World} {x y : Ex} {u v : Value} (h : IsEx lo W x u) (h2 : IsEx lo W y v) (hl : lo ≤ W.heap.size) (k o n : Int) (nm : List UInt8) (a : Nat) :
 IsEx lo (W.alloc (.cells #[.int .i64 x.k,.int .i64 x.op,.int .i64 x.n,.string (bstr x.nm),u,.int .i64 x.a,.int .i64 y.k,.int .i64 y.op,.int .i64 y.n,.string (bstr y.nm),v,.int .i64 y.a] 63)) (.mk k o n nm [x,y] a) (.slice (some ⟨W.heap.size,0,none⟩) 2 2):=by
 refine .node W.heap.size 2 _ (0,0) (fun i => if i = 0 then u else v) hl (heap_new _ _) (by simp) ?_ ?_
 · intro i e he j w hw
   match i,he with
   | 0,he =>
    simp at he
    subst he
    simp only [exCells,if_true] at hw
    match j,hw with
    | 0,hw | 1,hw | 2,hw | 3,hw | 4,hw | 5,hw => simpa using hw
    | j + 6,hw => simp at hw
   | 1,he =>
    simp at he
    subst he
    simp only [exCells,if_neg (show ¬ (1 = 0) by decide)] at hw
    match j,hw with
    | 0,hw | 1,hw | 2,hw | 3,hw | 4,hw | 5,hw => simpa using hw
    | j + 6,hw => simp at hw
   | i + 2,he => simp at he
 · intro i e he
   have hb : Below W.heap.size W (W.alloc (.cells #[.int .i64 x.k,.int .i64 x.op,.int .i64 x.n,.string (bstr x.nm),u,.int .i64 x.a,.int .i64 y.k,.int .i64 y.op,.int .i64 y.n,.string (bstr y.nm),v,.int .i64 y.a] 63)):=(Below.refl _ _).alloc (Nat.le_refl _) _
   match i,he with
   | 0,he =>
    simp at he
    subst he
    exact h.stay hb
   | 1,he =>
    simp at he
    subst he
    exact h2.stay hb
   | i + 2,he => simp at he
theorem IsEx.twoAt {lo n : Nat} {W : World} {x y : Ex} {u v : Value} (h : IsEx lo W x u) (h2 : IsEx lo W y v) (hl : lo ≤ W.heap.size) (hn : n = W.heap.size) (k o m : Int) (nm : List UInt8) (a : Nat) :
 IsEx lo (W.alloc (.cells #[.int .i64 x.k,.int .i64 x.op,.int .i64 x.n,.string (bstr x.nm),u,.int .i64 x.a,.int .i64 y.k,.int .i64 y.op,.int .i64 y.n,.string (bstr y.nm),v,.int .i64 y.a] 63)) (.mk k o m nm [x,y] a) (.slice (some ⟨n,0,none⟩) 2 2):=hn ▸ h.two h2 hl k o m nm a
theorem suf_at {ws ts : List Wd} {w : Wd} (h : (w :: ts) <:+ ws) : ws[ws.length - (w :: ts).length]? = some w ∧ ws.length - (w :: ts).length + 1 = ws.length - ts.length ∧ ts <:+ ws:=by
 obtain ⟨pre,rfl⟩:=h
 refine ⟨?_,?_,?_⟩
 · simp
 · simp
   omega
 · exact ⟨pre ++ [w],by simp⟩
def Junk (v : Value) : Prop:=∃ (k o n : Int) (nm : ByteArray) (p : Option Addr) (l c : Nat) (a : Int),v = exV k o n nm (.slice p l c) a
def JunkL (v : Value) : Prop:=∃ (p : Option Addr) (l c : Nat),v = .slice p l c
theorem Junk.zero : Junk (exV 0 0 0 ⟨#[]⟩ (.slice none 0 0) 0):=⟨_,_,_,_,_,_,_,_,rfl⟩
theorem Junk.of (k o n : Int) (nm : ByteArray) (p : Option Addr) (l c : Nat) (a : Int) : Junk (exV k o n nm (.slice p l c) a):=⟨_,_,_,_,_,_,_,_,rfl⟩
def Job.wt : Job → Nat | .thing => 1 | .expr _ => 2 | .list _ => 3 | _ => 0
def Job.may : Job → List Wd → Prop
 | .beh _,ts => ∀ w t,ts = w :: t → w.k = 2
 | .wth _,ts => ∀ w t,ts = w :: t → w.k = 2
 | .giv,ts => ∀ w t,ts = w :: t → w.k = 2
 | .nam,ts => ∀ w t,ts = w :: t → w.k = 0
 | .expr r,_ => 1 ≤ r ∧ r ≤ 11
 | .loop r _,_ => 1 ≤ r ∧ r ≤ 11
 | _,_ => True
theorem P.post' {o : Nat} {j : Job} {ts : List Wd} {r : Res} (h : P o j ts r) (hm : j.may ts) (hf : Fin ts) : Post j ts r:=by
 refine h.post ?_ hf ?_ ?_ ?_ ?_
 · cases j <;> first | exact hm.1 | trivial
 · rintro rfl;exact hm
 · rintro k rfl;exact hm
 · rintro c rfl;exact hm
 · rintro rfl;exact hm
end Go.Proofs.Ytbmmjomcjlpnlaa
namespace Go.Proofs.Ytbmmjomcjlpnlaa
open Go Go.RowKit
def rrCells (sl : Value) (nx op c a : Int) : Array Value:=#[sl,.int .i64 nx,.int .i64 op,.int .i64 c,.int .i64 a]
def RrAt (W : World) (rb : Nat) (sl : Value) (nx op c a : Int) : Prop:=W.heap[rb]? = some (.cells (rrCells sl nx op c a) 78 (0,0))
section
variable {W X : World} {rb : Nat} {sl : Value} {nx op c a : Int}
theorem RrAt.cells (h : RrAt W rb sl nx op c a) :
 W.cell? ⟨rb,0,none⟩ = some sl ∧ W.cell? ⟨rb,1,none⟩ = some (.int .i64 nx) ∧ W.cell? ⟨rb,2,none⟩ = some (.int .i64 op) ∧ W.cell? ⟨rb,3,none⟩ = some (.int .i64 c) ∧ W.cell? ⟨rb,4,none⟩ = some (.int .i64 a):=by
 refine ⟨?_,?_,?_,?_,?_⟩ <;> rw [cell_of_row _ _ _ _ _ _ h] <;> rfl
theorem RrAt.lt (h : RrAt W rb sl nx op c a) : rb < W.heap.size:=(Array.getElem?_eq_some_iff.1 h).1
theorem RrAt.frozen (h : RrAt W rb sl nx op c a) (o : Nat) : W.frozen? ⟨rb,o,none⟩ = false:=frozen_of_row W rb o _ _ h
theorem RrAt.kept (h : RrAt W rb sl nx op c a) (hb : Below W.heap.size W X) : RrAt X rb sl nx op c a:=(hb.block rb h.lt).trans h
theorem RrAt.set1 (h : RrAt W rb sl nx op c a) (v : Int) : RrAt (W.setCell ⟨rb,1,none⟩ (.int .i64 v)) rb sl v op c a:=heap_setCell_same W rb 1 _ _ _ h
theorem RrAt.set2 (h : RrAt W rb sl nx op c a) (v : Int) : RrAt (W.setCell ⟨rb,2,none⟩ (.int .i64 v)) rb sl nx v c a:=heap_setCell_same W rb 2 _ _ _ h
theorem RrAt.set3 (h : RrAt W rb sl nx op c a) (v : Int) : RrAt (W.setCell ⟨rb,3,none⟩ (.int .i64 v)) rb sl nx op v a:=heap_setCell_same W rb 3 _ _ _ h
theorem RrAt.set4 (h : RrAt W rb sl nx op c a) (v : Int) : RrAt (W.setCell ⟨rb,4,none⟩ (.int .i64 v)) rb sl nx op c v:=heap_setCell_same W rb 4 _ _ _ h
theorem RrAt.setO (h : RrAt W rb sl nx op c a) {b : Nat} (hne : rb ≠ b) (o : Nat) (v : Value) : RrAt (W.setCell ⟨b,o,none⟩ v) rb sl nx op c a:=(heap_setCell_other W ⟨b,o,none⟩ rb v hne).trans h
theorem RrAt.alloc (h : RrAt W rb sl nx op c a) (o : Obj) : RrAt (W.alloc o) rb sl nx op c a:=(Below.heap_alloc W o rb h.lt).trans h
theorem RrAt.drewN (h : RrAt W rb sl nx op c a) (n : Nat) : RrAt (W.drewN n) rb sl nx op c a:=h
theorem RrAt.drew (h : RrAt W rb sl nx op c a) : RrAt W.drew rb sl nx op c a:=h
end
structure Rr (W : World) (rb g cap : Nat) (ws : List Wd) (i : Nat) (x : Wd) (op c a : Int) : Prop where
 rd : RrAt W rb (.slice (some ⟨g,0,none⟩) ws.length cap) i op c a
 wc : WCells W g ws
 ne : g ≠ rb
 at_ : ws[i]? = some x
theorem Rr.kept {W X : World} {rb g cap : Nat} {ws : List Wd} {i : Nat} {x : Wd} {op c a : Int} (R : Rr W rb g cap ws i x op c a) (hb : Below W.heap.size W X) : Rr X rb g cap ws i x op c a :=
 ⟨R.rd.kept hb,R.wc.kept (fun k e => hb.block k (by rw [e];exact R.wc.lt)) hb.size,R.ne,R.at_⟩
theorem Rr.alloc {W : World} {rb g cap : Nat} {ws : List Wd} {i : Nat} {x : Wd} {op c a : Int} (R : Rr W rb g cap ws i x op c a) (o : Obj) : Rr (W.alloc o) rb g cap ws i x op c a :=
 R.kept ((Below.refl _ _).alloc (Nat.le_refl _) _)
theorem Rr.facts {W : World} {rb g cap : Nat} {ws : List Wd} {i : Nat} {x : Wd} {op c a : Int} (R : Rr W rb g cap ws i x op c a) :
 (W.cell? ⟨rb,0,none⟩ = some (.slice (some ⟨g,0,none⟩) ws.length cap) ∧ W.cell? ⟨rb,1,none⟩ = some (.int .i64 i) ∧ W.cell? ⟨rb,2,none⟩ = some (.int .i64 op) ∧ W.cell? ⟨rb,3,none⟩ = some (.int .i64 c) ∧ W.cell? ⟨rb,4,none⟩ = some (.int .i64 a)) ∧
 (W.cell? ⟨g,i * 4,none⟩ = some (.int .i64 x.k) ∧ W.cell? ⟨g,i * 4 + 1,none⟩ = some (.string (bstr x.t)) ∧ W.cell? ⟨g,i * 4 + 2,none⟩ = some (.int .i64 x.n) ∧ W.cell? ⟨g,i * 4 + 3,none⟩ = some (.int .i64 x.a)) ∧
 rb < W.heap.size ∧ g < W.heap.size ∧ (i : Int) < ws.length ∧ (0 : Int) ≤ i ∧ (∀ o,W.frozen? ⟨rb,o,none⟩ = false) :=
 ⟨R.rd.cells,R.wc.at_ i x R.at_,R.rd.lt,R.wc.lt,by have:=(List.getElem?_eq_some_iff.1 R.at_).1;omega,Int.natCast_nonneg _,R.rd.frozen⟩
def isB (x : Wd) (c : Int) (t : List UInt8) : Bool:=decide (c = 0) && ((decide (x.k = 2) || decide (x.k = 0)) && decide (x.t = t))
theorem rr_is (rb g cap : Nat) (ws : List Wd) (i : Nat) (x : Wd) (op c a : Int) (s : ByteArray) (w : World) (R0 : Rr w rb g cap ws i x op c a) (b : Bool) (hb : isB x c s.data.toList = b) :
 Calls Try.prog 62 #[.pointer (some ⟨rb,0,none⟩),.string s] w fun e w' => e = .returned (.bool b) ∧ Below w.heap.size w w':=by
 have R:=hid R0
 obtain ⟨⟨r0,r1,_,r3,_⟩,⟨c0,c1,c2,c3⟩,hrl,hgl,hi1,hi2,_⟩:=R0.facts
 have hn1 : rb ≠ w.heap.size:=by omega
 have hn2 : g ≠ w.heap.size:=by omega
 have hn3 : w.heap.size ≠ rb:=by omega
 have hn4 : w.heap.size ≠ g:=by omega
 clear R0
 have hs : ((bstr x.t).toList == s.toList) = decide (x.t = s.data.toList):=by
  have:=bstr_eq (a:=x.t) (b:=s.data.toList)
  rwa [show bstr s.data.toList = s from by (obtain ⟨d⟩:=s;simp [bstr])] at this
 by_cases hc : c = 0
 · subst hc
   by_cases hk2 : x.k = 2
   · have k2 : (x.k == 2) = true:=by simp [hk2]
     have hR : b = ((bstr x.t).toList == s.toList):=by (rw [hs,← hb];simp [isB,hk2])
     have HR:=hid hR
     clear hk2 hs hb hR
     go_enter Try.func62,Try.ntmps62
     go_wp2
     go_region
     go_wp2
     go_ret
     exact ⟨by rw [HR.out];rfl,by (refine Fr.below ?_;(with_reducible repeat first | exact Fr.refl _ _ | refine Fr.alloc ?_ _ | refine Fr.drewN ?_ _ | refine Fr.drew ?_ | (refine Fr.set ?_ ?_ _ _;rotate_left;first | exact .inl rfl | (right;simp;done) | (right;simp;omega) | (right;omega)) | refine Fr.step ?_ (by assumption) | refine Fr.stepB ?_ (by assumption)))⟩
   · have k2 : (x.k == 2) = false:=by simp [hk2]
     by_cases hk0 : x.k = 0
     · have k0 : (x.k == 0) = true:=by simp [hk0]
       have hR : b = ((bstr x.t).toList == s.toList):=by (rw [hs,← hb];simp [isB,hk0])
       have HR:=hid hR
       clear hk2 hk0 hs hb hR
       go_enter Try.func62,Try.ntmps62
       go_wp2
       go_region
       go_wp2
       go_ret
       exact ⟨by rw [HR.out];rfl,by (refine Fr.below ?_;(with_reducible repeat first | exact Fr.refl _ _ | refine Fr.alloc ?_ _ | refine Fr.drewN ?_ _ | refine Fr.drew ?_ | (refine Fr.set ?_ ?_ _ _;rotate_left;first | exact .inl rfl | (right;simp;done) | (right;simp;omega) | (right;omega)) | refine Fr.step ?_ (by assumption) | refine Fr.stepB ?_ (by assumption)))⟩
     · have k0 : (x.k == 0) = false:=by simp [hk0]
       have hR : b = false:=by (rw [← hb];simp [isB,hk0,hk2])
       subst hR
       clear hk2 hk0 hs hb
       go_enter Try.func62,Try.ntmps62
       go_wp2
       go_region
       go_wp2
       go_ret
       exact ⟨rfl,by (refine Fr.below ?_;(with_reducible repeat first | exact Fr.refl _ _ | refine Fr.alloc ?_ _ | refine Fr.drewN ?_ _ | refine Fr.drew ?_ | (refine Fr.set ?_ ?_ _ _;rotate_left;first | exact .inl rfl | (right;simp;done) | (right;simp;omega) | (right;omega)) | refine Fr.step ?_ (by assumption) | refine Fr.stepB ?_ (by assumption)))⟩
 · have hd : (c == 0) = false:=by simp [hc]
   have hR : b = false:=by (rw [← hb];simp [isB,hc])
   subst hR
   clear hc hs hb
   go_enter Try.func62,Try.ntmps62
   go_wp2
   go_region
   go_wp2
   go_ret
   exact ⟨rfl,by (refine Fr.below ?_;(with_reducible repeat first | exact Fr.refl _ _ | refine Fr.alloc ?_ _ | refine Fr.drewN ?_ _ | refine Fr.drew ?_ | (refine Fr.set ?_ ?_ _ _;rotate_left;first | exact .inl rfl | (right;simp;done) | (right;simp;omega) | (right;omega)) | refine Fr.step ?_ (by assumption) | refine Fr.stepB ?_ (by assumption)))⟩
theorem rr_fail0 (rb g cap : Nat) (ws : List Wd) (i : Nat) (x : Wd) (op a e0 : Int) (w : World) (R0 : Rr w rb g cap ws i x op 0 a) :
 Calls Try.prog 70 #[.pointer (some ⟨rb,0,none⟩),.int .i64 e0] w fun e w' => e = .returned (.tuple #[]) ∧ RrAt w' rb (.slice (some ⟨g,0,none⟩) ws.length cap) i op e0 x.a ∧ Fr (some rb) w w':=by
 obtain ⟨⟨r0,r1,_,r3,_⟩,⟨c0,c1,c2,c3⟩,hrl,hgl,hi1,hi2,hf⟩:=R0.facts
 have hn1 : g ≠ rb:=R0.ne
 have hn2 : rb ≠ g:=Ne.symm hn1
 have hf3:=hf 3
 have hf4:=hf 4
 have hr:=R0.rd
 clear R0 hf
 go_enter Try.func70,Try.ntmps70
 go_wp2
 go_region
 all_goals go_wp2
 all_goals go_end0
 all_goals exact ⟨rfl,(hr.set3 _).set4 _,by (with_reducible repeat first | exact Fr.refl _ _ | refine Fr.alloc ?_ _ | refine Fr.drewN ?_ _ | refine Fr.drew ?_ | (refine Fr.set ?_ ?_ _ _;rotate_left;first | exact .inl rfl | (right;simp;done) | (right;simp;omega) | (right;omega)) | refine Fr.step ?_ (by assumption) | refine Fr.stepB ?_ (by assumption))⟩
theorem rr_failN (rb g cap : Nat) (ws : List Wd) (i : Nat) (x : Wd) (op c a e0 : Int) (w : World) (R0 : Rr w rb g cap ws i x op c a) (hc : c ≠ 0) :
 Calls Try.prog 70 #[.pointer (some ⟨rb,0,none⟩),.int .i64 e0] w fun e w' => e = .returned (.tuple #[]) ∧ w' = w:=by
 obtain ⟨⟨r0,r1,_,r3,_⟩,⟨c0,c1,c2,c3⟩,hrl,hgl,hi1,hi2,hf⟩:=R0.facts
 have hd : (c == 0) = false:=by simp [hc]
 clear R0 hf hc
 go_enter Try.func70,Try.ntmps70
 go_wp2
 go_end0
 exact ⟨rfl,rfl⟩
end Go.Proofs.Ytbmmjomcjlpnlaa
namespace Go.Proofs.Ytbmmjomcjlpnlaa
theorem P.form {o : Nat} {j : Job} {ts : List Wd} {r : Res} (h : P o j ts r) (hm : j.may ts) (hF : Fin ts) (hl : j.lst = false) :
 (∃ x d ts',r = .ok x (d :: ts') ∧ Fin (d :: ts') ∧ (d :: ts').length + j.min ≤ ts.length) ∨ ∃ c a,r = .bad c a:=by
 have hp:=h.post' hm hF
 cases r with
 | ok x ts' =>
  obtain ⟨d,t2,rfl⟩:=hp.2.1.ne
  exact .inl ⟨x,d,t2,rfl,hp.2.1,hp.2.2⟩
 | okL x ts' => exact absurd hp.1 (by rw [hl];decide)
 | bad c a => exact .inr ⟨c,a,rfl⟩
theorem P.formL {o : Nat} {j : Job} {ts : List Wd} {r : Res} (h : P o j ts r) (hm : j.may ts) (hF : Fin ts) (hl : j.lst = true) :
 (∃ xs d ts',r = .okL xs (d :: ts') ∧ Fin (d :: ts') ∧ (d :: ts').length + j.min ≤ ts.length) ∨ ∃ c a,r = .bad c a:=by
 have hp:=h.post' hm hF
 cases r with
 | okL x ts' =>
  obtain ⟨d,t2,rfl⟩:=hp.2.1.ne
  exact .inl ⟨x,d,t2,rfl,hp.2.1,hp.2.2⟩
 | ok x ts' => exact absurd hp.1 (by rw [hl];decide)
 | bad c a => exact .inr ⟨c,a,rfl⟩
theorem P.total : ∀ (N o : Nat) (j : Job) (ts : List Wd),4 * ts.length + j.wt < N → j.may ts → Fin ts → o ≤ 32 → ∃ r,P o j ts r:=by
 intro N
 induction N with
 | zero => intro o j ts h;exact absurd h (by omega)
 | succ N ih =>
  intro o j ts hN hm hF ho
  obtain ⟨w,t,rfl⟩:=hF.ne
  simp only [List.length_cons] at hN
  cases j with
  | thing =>
   by_cases h1 : w.k = 1
   · exact ⟨_,.num h1⟩
   by_cases h0 : w.k = 0
   · by_cases hk : keyB w.t = true
     · by_cases ht : w.t = truB
       · exact ⟨_,.tru h0 ht⟩
       by_cases hf : w.t = flsB
       · exact ⟨_,.fls h0 hf⟩
       exact ⟨_,.stray ⟨h1,fun _ => ⟨hk,ht,hf⟩,fun h => by rw [h0] at h;cases h⟩⟩
     · obtain ⟨r,hr⟩:=ih o .nam (w :: t) (by simp [Job.wt] at hN ⊢;omega) (by rintro w' t' e;cases e;exact h0) hF ho
       exact ⟨r,.name h0 (by simpa using hk) hr⟩
   by_cases h2 : w.k = 2
   · have hm2 : ∀ w' t',w :: t = w' :: t' → w'.k = 2:=by rintro w' t' e;cases e;exact h2
     by_cases ha : w.t = [45]
     · obtain ⟨r,hr⟩:=ih o (.beh 4) (w :: t) (by simp [Job.wt] at hN ⊢;omega) hm2 hF ho
       exact ⟨r,.neg ⟨h2,ha⟩ hr⟩
     by_cases hb : w.t = [33]
     · obtain ⟨r,hr⟩:=ih o (.beh 5) (w :: t) (by simp [Job.wt] at hN ⊢;omega) hm2 hF ho
       exact ⟨r,.not ⟨h2,hb⟩ hr⟩
     by_cases hc : w.t = [40]
     · obtain ⟨r,hr⟩:=ih o (.wth [41]) (w :: t) (by simp [Job.wt] at hN ⊢;omega) hm2 hF ho
       exact ⟨r,.par ⟨h2,hc⟩ hr⟩
     exact ⟨_,.stray ⟨h1,fun h => absurd h h0,fun _ => ⟨ha,hb,hc⟩⟩⟩
   exact ⟨_,.stray ⟨h1,fun h => absurd h h0,fun h => absurd h h2⟩⟩
  | beh k =>
   have hF' : Fin t:=hF.cons (by rw [hm w t rfl];decide)
   by_cases hl : o = 32
   · exact ⟨_,.behLim hl⟩
   obtain ⟨r,hr⟩:=ih (o + 1) .thing t (by simp [Job.wt] at hN ⊢;omega) trivial hF' (by omega)
   rcases hr.form trivial hF' rfl with ⟨x,d,ts',rfl,-,-⟩ | ⟨c,a,rfl⟩
   · exact ⟨_,.behOk (by omega) hr⟩
   · exact ⟨_,.behBad (by omega) hr⟩
  | wth c =>
   have hF' : Fin t:=hF.cons (by rw [hm w t rfl];decide)
   by_cases hl : o = 32
   · exact ⟨_,.wthLim hl⟩
   obtain ⟨r,hr⟩:=ih (o + 1) (.expr 1) t (by simp [Job.wt] at hN ⊢;omega) (by simp [Job.may]) hF' (by omega)
   rcases hr.form (by simp [Job.may]) hF' rfl with ⟨x,d,ts',rfl,-,-⟩ | ⟨c,a,rfl⟩
   · by_cases hs : Sg d c
     · exact ⟨_,.wthOk (by omega) hr hs⟩
     · exact ⟨_,.wthNo (by omega) hr hs⟩
   · exact ⟨_,.wthBad (by omega) hr⟩
  | nam =>
   have hF' : Fin t:=hF.cons (by rw [hm w t rfl];decide)
   obtain ⟨c,ts,rfl⟩:=hF'.ne
   simp only [List.length_cons] at hN
   by_cases h1 : Sg c [91]
   · have hm2 : (Job.wth [93]).may (c :: ts):=by rintro w' t' e;cases e;exact h1.1
     obtain ⟨r,hr⟩:=ih o (.wth [93]) (c :: ts) (by simp [Job.wt] at hN ⊢;omega) hm2 hF' ho
     rcases hr.form hm2 hF' rfl with ⟨x,d,ts',rfl,-,-⟩ | ⟨c,a,rfl⟩
     · exact ⟨_,.namElem h1 hr⟩
     · exact ⟨_,.namElemBad h1 hr⟩
   by_cases h2 : Sg c [40]
   · have hm2 : Job.giv.may (c :: ts):=by rintro w' t' e;cases e;exact h2.1
     obtain ⟨r,hr⟩:=ih o .giv (c :: ts) (by simp [Job.wt] at hN ⊢;omega) hm2 hF' ho
     rcases hr.formL hm2 hF' rfl with ⟨x,d,ts',rfl,-,-⟩ | ⟨c,a,rfl⟩
     · exact ⟨_,.namCall h2 hr⟩
     · exact ⟨_,.namCallBad h2 hr⟩
   exact ⟨_,.namVar h1 h2⟩
  | giv =>
   have hF' : Fin t:=hF.cons (by rw [hm w t rfl];decide)
   obtain ⟨d,ts,rfl⟩:=hF'.ne
   simp only [List.length_cons] at hN
   by_cases hl : o = 32
   · exact ⟨_,.givLim hl⟩
   by_cases h1 : Sg d [41]
   · exact ⟨_,.givNone (by omega) h1⟩
   obtain ⟨r,hr⟩:=ih (o + 1) (.list []) (d :: ts) (by simp [Job.wt] at hN ⊢;omega) trivial hF' (by omega)
   rcases hr.formL trivial hF' rfl with ⟨x,f,ts',rfl,-,-⟩ | ⟨c,a,rfl⟩
   · by_cases hs : Sg f [41]
     · exact ⟨_,.givSome (by omega) h1 hr hs⟩
     · exact ⟨_,.givNo (by omega) h1 hr hs⟩
   · exact ⟨_,.givBad (by omega) h1 hr⟩
  | expr r =>
   obtain ⟨r1,hr⟩:=ih o .thing (w :: t) (by simp [Job.wt] at hN ⊢;omega) trivial hF ho
   rcases hr.form trivial hF rfl with ⟨x,d,ts',rfl,hF2,hL⟩ | ⟨c,a,rfl⟩
   · simp [Job.min] at hL
     obtain ⟨r2,hr2⟩:=ih o (.loop r x) (d :: ts') (by simp [Job.wt] at hN ⊢;omega) hm hF2 ho
     exact ⟨_,.expr hr hr2⟩
   · exact ⟨_,.exprBad hr⟩
  | loop r l =>
   by_cases hc : rkW w < r
   · exact ⟨_,.loopEnd hc⟩
   have hb:=rkW_bd w
   have h1 : 1 ≤ r:=hm.1
   have hF' : Fin t:=hF.cons (by rw [(rkW_ne (w:=w) (by omega)).1];decide)
   have hm2 : (Job.expr (rkW w + 1)).may t:=⟨by omega,by omega⟩
   obtain ⟨r1,hr⟩:=ih o (.expr (rkW w + 1)) t (by simp [Job.wt] at hN ⊢;omega) hm2 hF' ho
   rcases hr.form hm2 hF' rfl with ⟨x,d,ts',rfl,hF2,hL⟩ | ⟨c,a,rfl⟩
   · simp [Job.min] at hL
     obtain ⟨r2,hr2⟩:=ih o (.loop r (.mk 6 (opB w.t) 0 [] [l,x] l.a)) (d :: ts') (by simp [Job.wt] at hN ⊢;omega) hm hF2 ho
     exact ⟨_,.loopMore (by omega) hr hr2⟩
   · exact ⟨_,.loopBad (by omega) hr⟩
  | list acc =>
   have hm2 : (Job.expr 1).may (w :: t):=by simp [Job.may]
   obtain ⟨r1,hr⟩:=ih o (.expr 1) (w :: t) (by simp [Job.wt] at hN ⊢;omega) hm2 hF ho
   rcases hr.form hm2 hF rfl with ⟨x,d,ts',rfl,hF2,hL⟩ | ⟨c,a,rfl⟩
   · by_cases hs : Sg d [44]
     · simp [Job.min] at hL
       have hF3:=hF2.cons hs.ne
       obtain ⟨r2,hr2⟩:=ih o (.list (acc ++ [x])) ts' (by simp [Job.wt] at hN ⊢;omega) trivial hF3 ho
       exact ⟨_,.lstMore hr hs hr2⟩
     · exact ⟨_,.lstEnd hr hs⟩
   · exact ⟨_,.lstBad hr⟩
theorem Sc.fin {num : List UInt8 → Option Int} {l : List UInt8} {a : Nat} {ws : List Wd} {r : Option (Int × Nat)} (h : Sc num l a ws r) (hr : r = none) : Fin ws:=by
 induction h with
 | done a => exact ⟨[],_,rfl,rfl⟩
 | bad => cases hr
 | gap _ _ _ _ _ _ _ _ ih => exact ih hr
 | word l a n k v ws r _ _ _ ih =>
  obtain ⟨pre,e,h1,h2⟩:=ih hr
  exact ⟨_ :: pre,e,by rw [h1];rfl,h2⟩
theorem Sc.short {num : List UInt8 → Option Int} {l : List UInt8} {a : Nat} {ws : List Wd} {r : Option (Int × Nat)} (h : Sc num l a ws r) : ∀ x ∈ ws,x.t.length ≤ l.length:=by
 induction h with
 | done a => intro x hx;simp at hx;subst hx;simp
 | bad => intro x hx;simp at hx
 | gap l a n ws r _ _ _ ih =>
  intro x hx
  have:=ih x hx
  simp at this
  omega
 | word l a n k v ws r _ _ _ ih =>
  intro x hx
  rcases List.mem_cons.1 hx with rfl | hx
  · show (l.take n).length ≤ _
    simp
    omega
  · have:=ih x hx
    simp at this
    omega
inductive Out where
 | ok (e : Ex)
 | bad (c : Int) (a : Nat)
inductive OfR (l : List UInt8) : Out → Prop
 | lex {ws : List Wd} {c : Int} {a : Nat} : Sc numO l 0 ws (some (c,a)) → OfR l (.bad c a)
 | bad {ws : List Wd} {c : Int} {a : Nat} : Sc numO l 0 ws none → P 0 (.expr 1) ws (.bad c a) → OfR l (.bad c a)
 | stray {ws ts : List Wd} {d : Wd} {e : Ex} : Sc numO l 0 ws none → P 0 (.expr 1) ws (.ok e (d :: ts)) → d.k ≠ 3 → OfR l (.bad 11 d.a)
 | ok {ws ts : List Wd} {d : Wd} {e : Ex} : Sc numO l 0 ws none → P 0 (.expr 1) ws (.ok e (d :: ts)) → d.k = 3 → OfR l (.ok e)
theorem OfR.total (l : List UInt8) : ∃ r,OfR l r:=by
 obtain ⟨ws,r,h⟩:=Sc.total numO l.length l 0 (Nat.le_refl _)
 cases r with
 | some q => exact ⟨_,.lex (c:=q.1) (a:=q.2) h⟩
 | none =>
  have hF:=h.fin rfl
  obtain ⟨r,hr⟩:=P.total (4 * ws.length + 3) 0 (.expr 1) ws (by simp [Job.wt]) (by simp [Job.may]) hF (by omega)
  rcases hr.form (by simp [Job.may]) hF rfl with ⟨x,d,ts',rfl,-,-⟩ | ⟨c,a,rfl⟩
  · by_cases hd : d.k = 3
    · exact ⟨_,.ok h hr hd⟩
    · exact ⟨_,.stray h hr hd⟩
  · exact ⟨_,.bad h hr⟩
open Go
theorem key_tru : keyB [116,114,117,101] = true:=by decide
theorem key_fls : keyB [102,97,108,115,101] = true:=by decide
theorem P.det {o : Nat} {j : Job} {ts : List Wd} {r : Res} (h : P o j ts r) : ∀ r',P o j ts r' → r = r':=by
 induction h with
 | num h1 => intro r' h;cases h <;> simp_all [Sg,Stray]
 | tru h1 h2 => intro r' h;cases h <;> simp_all [Sg,Stray,key_tru,key_fls,truB,flsB]
 | fls h1 h2 => intro r' h;cases h <;> simp_all [Sg,Stray,key_tru,key_fls,truB,flsB]
 | neg h1 _ ih => intro r' h;cases h <;> first | (exact ih _ (by assumption)) | (simp_all [Sg,Stray];done)
 | not h1 _ ih => intro r' h;cases h <;> first | (exact ih _ (by assumption)) | (simp_all [Sg,Stray];done)
 | par h1 _ ih => intro r' h;cases h <;> first | (exact ih _ (by assumption)) | (simp_all [Sg,Stray];done)
 | name h1 h2 _ ih => intro r' h;cases h <;> first | (exact ih _ (by assumption)) | (simp_all [Sg,Stray,key_tru,key_fls,truB,flsB];done)
 | stray h1 => intro r' h;cases h <;> first | rfl | (simp_all [Sg,Stray,truB,flsB];done)
 | behLim h1 => intro r' h;cases h <;> first | rfl | omega
 | behOk h1 _ ih =>
  intro r' h
  cases h with
  | behLim => omega
  | behOk _ h2 => have:=ih _ h2;simp_all
  | behBad _ h2 => have:=ih _ h2;simp_all
 | behBad h1 _ ih =>
  intro r' h
  cases h with
  | behLim => omega
  | behOk _ h2 => have:=ih _ h2;simp_all
  | behBad _ h2 => have:=ih _ h2;simp_all
 | wthLim h1 => intro r' h;cases h <;> first | rfl | omega
 | wthOk h1 _ h3 ih =>
  intro r' h
  cases h with
  | wthLim => omega
  | wthOk _ h2 _ => have:=ih _ h2;simp_all
  | wthNo _ h2 _ => have:=ih _ h2;simp_all
  | wthBad _ h2 => have:=ih _ h2;simp_all
 | wthNo h1 _ h3 ih =>
  intro r' h
  cases h with
  | wthLim => omega
  | wthOk _ h2 _ => have:=ih _ h2;simp_all
  | wthNo _ h2 _ => have:=ih _ h2;simp_all
  | wthBad _ h2 => have:=ih _ h2;simp_all
 | wthBad h1 _ ih =>
  intro r' h
  cases h with
  | wthLim => omega
  | wthOk _ h2 _ => have:=ih _ h2;simp_all
  | wthNo _ h2 _ => have:=ih _ h2;simp_all
  | wthBad _ h2 => have:=ih _ h2;simp_all
 | namVar h1 h2 => intro r' h;cases h <;> first | rfl | contradiction
 | namElem h1 _ ih =>
  intro r' h
  cases h with
  | namVar => contradiction
  | namElem _ h2 => have:=ih _ h2;simp_all
  | namElemBad _ h2 => have:=ih _ h2;simp_all
  | namCall h2 _ => simp_all [Sg]
  | namCallBad h2 _ => simp_all [Sg]
 | namElemBad h1 _ ih =>
  intro r' h
  cases h with
  | namVar => contradiction
  | namElem _ h2 => have:=ih _ h2;simp_all
  | namElemBad _ h2 => have:=ih _ h2;simp_all
  | namCall h2 _ => simp_all [Sg]
  | namCallBad h2 _ => simp_all [Sg]
 | namCall h1 _ ih =>
  intro r' h
  cases h with
  | namVar => contradiction
  | namElem h2 _ => simp_all [Sg]
  | namElemBad h2 _ => simp_all [Sg]
  | namCall _ h2 => have:=ih _ h2;simp_all
  | namCallBad _ h2 => have:=ih _ h2;simp_all
 | namCallBad h1 _ ih =>
  intro r' h
  cases h with
  | namVar => contradiction
  | namElem h2 _ => simp_all [Sg]
  | namElemBad h2 _ => simp_all [Sg]
  | namCall _ h2 => have:=ih _ h2;simp_all
  | namCallBad _ h2 => have:=ih _ h2;simp_all
 | givLim h1 => intro r' h;cases h <;> first | rfl | omega
 | givNone h1 h2 => intro r' h;cases h <;> first | rfl | omega | contradiction
 | givSome h1 h2 _ h4 ih =>
  intro r' h
  cases h with
  | givLim => omega
  | givNone => contradiction
  | givSome _ _ h3 _ => have:=ih _ h3;simp_all
  | givNo _ _ h3 _ => have:=ih _ h3;simp_all
  | givBad _ _ h3 => have:=ih _ h3;simp_all
 | givNo h1 h2 _ h4 ih =>
  intro r' h
  cases h with
  | givLim => omega
  | givNone => contradiction
  | givSome _ _ h3 _ => have:=ih _ h3;simp_all
  | givNo _ _ h3 _ => have:=ih _ h3;simp_all
  | givBad _ _ h3 => have:=ih _ h3;simp_all
 | givBad h1 h2 _ ih =>
  intro r' h
  cases h with
  | givLim => omega
  | givNone => contradiction
  | givSome _ _ h3 _ => have:=ih _ h3;simp_all
  | givNo _ _ h3 _ => have:=ih _ h3;simp_all
  | givBad _ _ h3 => have:=ih _ h3;simp_all
 | lstMore _ h2 _ ih ih2 =>
  intro r' h
  cases h with
  | lstMore h3 h4 h5 =>
   have h6:=ih _ h3
   simp at h6
   obtain ⟨rfl,rfl,rfl⟩:=h6
   exact ih2 _ h5
  | lstEnd h3 h4 => have:=ih _ h3;simp_all
  | lstBad h3 => have:=ih _ h3;simp_all
 | lstEnd _ h2 ih =>
  intro r' h
  cases h with
  | lstMore h3 h4 h5 => have:=ih _ h3;simp_all
  | lstEnd h3 h4 => have:=ih _ h3;simp_all
  | lstBad h3 => have:=ih _ h3;simp_all
 | lstBad _ ih =>
  intro r' h
  cases h with
  | lstMore h3 h4 h5 => have:=ih _ h3;simp_all
  | lstEnd h3 h4 => have:=ih _ h3;simp_all
  | lstBad h3 => have:=ih _ h3;simp_all
 | expr _ _ ih ih2 =>
  intro r' h
  cases h with
  | expr h3 h4 =>
   have h6:=ih _ h3
   simp at h6
   obtain ⟨rfl,rfl⟩:=h6
   exact ih2 _ h4
  | exprBad h3 => have:=ih _ h3;simp_all
 | exprBad _ ih =>
  intro r' h
  cases h with
  | expr h3 h4 => have:=ih _ h3;simp_all
  | exprBad h3 => have:=ih _ h3;simp_all
 | loopEnd h1 => intro r' h;cases h <;> first | rfl | omega
 | loopMore h1 _ _ ih ih2 =>
  intro r' h
  cases h with
  | loopEnd => omega
  | loopMore _ h3 h4 =>
   have h6:=ih _ h3
   simp at h6
   obtain ⟨rfl,rfl⟩:=h6
   exact ih2 _ h4
  | loopBad _ h3 => have:=ih _ h3;simp_all
 | loopBad h1 _ ih =>
  intro r' h
  cases h with
  | loopEnd => omega
  | loopMore _ h3 h4 => have:=ih _ h3;simp_all
  | loopBad _ h3 => have:=ih _ h3;simp_all
def kVar : List UInt8:=[118,97,114]
def kIf : List UInt8:=[105,102]
def kWhile : List UInt8:=[119,104,105,108,101]
def kLock : List UInt8:=[108,111,99,107]
def kOut : List UInt8:=[111,117,116]
def kPublic : List UInt8:=[112,117,98,108,105,99]
def kSecret : List UInt8:=[115,101,99,114,101,116]
def kInt : List UInt8:=[105,110,116]
def kBool : List UInt8:=[98,111,111,108]
def kElse : List UInt8:=[101,108,115,101]
def kBy : List UInt8:=[98,121]
def kFunc : List UInt8:=[102,117,110,99]
def kThread : List UInt8:=[116,104,114,101,97,100]
def kReturn : List UInt8:=[114,101,116,117,114,110]
inductive Stm where
 | mk (k a : Int) (tr sc : Bool) (nm : List UInt8) (ix es : List Ex) (bd el : List Stm)
def Stm.k : Stm → Int | .mk k _ _ _ _ _ _ _ _ => k
def Stm.a : Stm → Int | .mk _ a _ _ _ _ _ _ _ => a
def Stm.tr : Stm → Bool | .mk _ _ t _ _ _ _ _ _ => t
def Stm.sc : Stm → Bool | .mk _ _ _ t _ _ _ _ _ => t
def Stm.nm : Stm → List UInt8 | .mk _ _ _ _ n _ _ _ _ => n
def Stm.ix : Stm → List Ex | .mk _ _ _ _ _ l _ _ _ => l
def Stm.es : Stm → List Ex | .mk _ _ _ _ _ _ l _ _ => l
def Stm.bd : Stm → List Stm | .mk _ _ _ _ _ _ _ l _ => l
def Stm.el : Stm → List Stm | .mk _ _ _ _ _ _ _ _ l => l
structure Gl where
 (a : Int) (nm : List UInt8) (tr sc : Bool) (len : Int) (by_ : List UInt8)
structure Pm where
 (nm : List UInt8) (tr sc : Bool)
structure Fn where
 (a : Int) (nm : List UInt8) (ps : List Pm) (tr sc : Bool) (bd : List Stm) (ret : Ex)
structure Lk where
 (a : Int) (nm : List UInt8)
structure Pg where
 (gs : List Gl) (ls : List Lk) (fs : List Fn) (ths : List (List Stm))
def ex0 : Ex:=.mk 0 0 0 [] [] 0
def stm0 : Stm:=.mk 0 0 false false [] [] [] [] []
inductive RS where
 | ok (ts : List Wd)
 | bad (c : Int) (a : Nat)
def RS.good : RS → Bool | .ok _ => true | .bad _ _ => false
def RS.hd : RS → Wd | .ok (w :: _) => w | _ => ⟨3,[],0,0⟩
def RS.adv : RS → RS | .ok (_ :: ts) => .ok ts | s => s
def RS.fail (e : Int) : RS → RS | .ok (w :: _) => .bad e w.a | s => s
def RS.len : RS → Nat | .ok ts => ts.length | .bad _ _ => 0
def RS.is (t : List UInt8) : RS → Bool | .ok (w :: _) => (decide (w.k = 2) || decide (w.k = 0)) && decide (w.t = t) | _ => false
def RS.need (t : List UInt8) (s : RS) : RS:=if s.is t then s.adv else s.fail 11
def eithF (x y : List UInt8) (s : RS) : Bool × RS:=if s.is y then (true,s.adv) else (false,s.need x)
def kindF (s : RS) : (Bool × Bool) × RS :=
 let p:=eithF kPublic kSecret s
 let q:=eithF kInt kBool p.2
 ((q.1,p.1),q.2)
def nameF : RS → (List UInt8 × Nat) × RS
 | .ok (w :: ts) => if w.k ≠ 0 ∨ keyB w.t = true then (([],0),.bad 11 w.a) else ((w.t,w.a),.ok ts)
 | s => (([],0),s)
open Classical in
noncomputable def exF : RS → Ex × RS
 | .ok ts => if h : ∃ r,P 0 (.expr 1) ts r then (match Classical.choose h with | .ok x ts' => (x,.ok ts') | .bad c a => (ex0,.bad c a) | .okL _ _ => (ex0,.ok ts)) else (ex0,.ok ts)
 | .bad c a => (ex0,.bad c a)
theorem exF_ok {ts ts' : List Wd} {x : Ex} (h : P 0 (.expr 1) ts (.ok x ts')) : exF (.ok ts) = (x,.ok ts'):=by
 have hx : ∃ r,P 0 (.expr 1) ts r:=⟨_,h⟩
 have e:=(Classical.choose_spec hx).det _ h
 simp only [exF,dif_pos hx,e]
theorem exF_bad {ts : List Wd} {c : Int} {a : Nat} (h : P 0 (.expr 1) ts (.bad c a)) : exF (.ok ts) = (ex0,.bad c a):=by
 have hx : ∃ r,P 0 (.expr 1) ts r:=⟨_,h⟩
 have e:=(Classical.choose_spec hx).det _ h
 simp only [exF,dif_pos hx,e]
noncomputable def boundF (s : RS) : Ex × RS :=
 let p:=exF (s.need [40])
 (p.1,p.2.need [41])
mutual
noncomputable def stmtF : Nat → Nat → RS → Stm × RS
 | 0,_,s => (stm0,s)
 | n + 1,d,s =>
  if s.is kVar then
   let t:=kindF s.adv
   let m:=nameF t.2
   let e:=exF (m.2.need [61])
   (.mk 0 s.hd.a t.1.1 t.1.2 m.1.1 [] [e.1] [] [],e.2.need [59])
  else if s.is kIf then
   let e:=boundF s.adv
   let l:=blockF n d e.2
   if l.2.is kElse then
    let f:=blockF n d l.2.adv
    (.mk 2 s.hd.a false false [] [] [e.1] l.1 f.1,f.2)
   else (.mk 2 s.hd.a false false [] [] [e.1] l.1 [],l.2)
  else if s.is kWhile then
   let e:=boundF s.adv
   let l:=blockF n d e.2
   (.mk 3 s.hd.a false false [] [] [e.1] l.1 [],l.2)
  else if s.is kLock then
   let m:=nameF s.adv
   let l:=blockF n d m.2
   (.mk 4 s.hd.a false false m.1.1 [] [] l.1 [],l.2)
  else if s.is kOut then
   let e:=exF s.adv
   (.mk 5 s.hd.a false false [] [] [e.1] [] [],e.2.need [59])
  else
   let m:=nameF s
   if m.2.is [91] then
    let i:=exF m.2.adv
    let e:=exF ((i.2.need [93]).need [61])
    (.mk 1 s.hd.a false false m.1.1 [i.1] [e.1] [] [],e.2.need [59])
   else
    let e:=exF (m.2.need [61])
    (.mk 1 s.hd.a false false m.1.1 [] [e.1] [] [],e.2.need [59])
noncomputable def blockF : Nat → Nat → RS → List Stm × RS
 | 0,_,s => ([],s)
 | n + 1,d,s =>
  let s1:=if s.is [123] && decide (d = 32) then s.fail 2 else s
  let l:=stmtsF n (d + 1) [125] (s1.need [123])
  (l.1,l.2.need [125])
noncomputable def stmtsF : Nat → Nat → List UInt8 → RS → List Stm × RS
 | 0,_,_,s => ([],s)
 | n + 1,d,t,s =>
  if s.good && !s.is t then
   let x:=stmtF n d s
   let l:=stmtsF n d t x.2
   (x.1 :: l.1,l.2)
  else ([],s)
end
def limF (n most : Nat) (s : RS) : RS:=if most ≤ n then s.fail 2 else s
def lenF : RS → Int × RS
 | .ok (w :: ts) => if w.k ≠ 1 then (0,.bad 11 w.a) else if w.n < 1 ∨ 64 < w.n then (0,.bad 2 w.a) else (w.n,.ok ts)
 | s => (0,s)
def globF (n : Nat) (s : RS) : Gl × RS :=
 let t:=kindF (limF n 32 s)
 let m:=nameF t.2
 let l:=if m.2.is [91] then (let q:=lenF m.2.adv;(q.1,q.2.need [93])) else (0,m.2)
 let y:=if l.2.is kBy then (let q:=nameF l.2.adv;(q.1.1,q.2)) else ([],l.2)
 (⟨m.1.2,m.1.1,t.1.1,t.1.2,l.1,y.1⟩,y.2.need [59])
def parsF : Nat → Nat → RS → List Pm × RS
 | 0,_,s => ([],s)
 | n + 1,k,s =>
  if s.good then
   let t:=kindF (limF k 6 s)
   let m:=nameF t.2
   if m.2.is [44] then
    let l:=parsF n (k + 1) m.2.adv
    (⟨m.1.1,t.1.1,t.1.2⟩ :: l.1,l.2)
   else ([⟨m.1.1,t.1.1,t.1.2⟩],m.2)
  else ([],s)
def paramsF (s : RS) : List Pm × RS :=
 let s1:=s.need [40]
 if s1.is [41] then ([],s1.adv)
 else
  let l:=parsF 8 0 s1
  (l.1,l.2.need [41])
noncomputable def funcF (n : Nat) (s : RS) : Fn × RS :=
 let m:=nameF s.adv
 let l:=paramsF m.2
 let t:=kindF l.2
 let b:=stmtsF n 1 kReturn (t.2.need [123])
 let e:=exF (b.2.need kReturn)
 (⟨m.1.2,m.1.1,l.1,t.1.1,t.1.2,b.1,e.1⟩,(e.2.need [59]).need [125])
noncomputable def thingF (n : Nat) (p : Pg) (s : RS) : Pg × RS :=
 if s.is kLock then
  let s1:=limF p.ls.length 8 s
  if s1.good then
   let m:=nameF s1.adv
   ({ p with ls:=p.ls ++ [⟨m.1.2,m.1.1⟩] },m.2.need [59])
  else (p,s1)
 else if s.is kFunc then
  let s1:=limF p.fs.length 16 s
  if s1.good then
   let f:=funcF n s1
   ({ p with fs:=p.fs ++ [f.1] },f.2)
  else (p,s1)
 else if s.is kThread then
  let s1:=limF p.ths.length 4 s
  if s1.good then
   let l:=blockF n 0 s1.adv
   ({ p with ths:=p.ths ++ [l.1] },l.2)
  else (p,s1)
 else if s.is kPublic || s.is kSecret then
  let g:=globF p.gs.length s
  ({ p with gs:=p.gs ++ [g.1] },g.2)
 else (p,s.fail 11)
noncomputable def wholeF (n : Nat) : Nat → Pg → RS → Pg × RS
 | 0,p,s => (p,s)
 | m + 1,p,s => if s.good && decide (s.hd.k ≠ 3) then (let q:=thingF n p s;wholeF n m q.1 q.2) else (p,s)
end Go.Proofs.Ytbmmjomcjlpnlaa
namespace Go.Proofs.Ytbmmjomcjlpnlaa
open Go Go.RowKit
inductive IsExP (ok : Nat → Prop) (W : World) : Ex → Value → Prop
 | leaf {k o n : Int} {nm : List UInt8} {a : Nat} : IsExP ok W (.mk k o n nm [] a) (.slice none 0 0)
 | node {k o n : Int} {nm : List UInt8} {ks : List Ex} {a : Nat} (g cap : Nat) (cs : Array Value) (fr : Nat × Nat) (vs : Nat → Value) : ok g → W.heap[g]? = some (.cells cs 63 fr) → ks ≠ [] →
  (∀ i e,ks[i]? = some e → ∀ j u,(exCells e (vs i))[j]? = some u → cs[i * 6 + j]? = some u) → (∀ i e,ks[i]? = some e → IsExP ok W e (vs i)) → IsExP ok W (.mk k o n nm ks a) (.slice (some ⟨g,0,none⟩) ks.length cap)
theorem IsExP.kept {ok ok' : Nat → Prop} {W X : World} {e : Ex} {v : Value} (h : IsExP ok W e v) (hk : ∀ g,ok g → g < W.heap.size → X.heap[g]? = W.heap[g]? ∧ ok' g) : IsExP ok' X e v:=by
 induction h with
 | leaf => exact .leaf
 | node g cap cs fr vs hg hb hne hc _ ih =>
  have:=hk g hg (Array.getElem?_eq_some_iff.1 hb).1
  exact .node g cap cs fr vs this.2 (this.1.trans hb) hne hc ih
theorem IsEx.toP {lo : Nat} {W X : World} {ok : Nat → Prop} {e : Ex} {v : Value} (h : IsEx lo W e v) (hk : ∀ g,lo ≤ g → g < W.heap.size → X.heap[g]? = W.heap[g]? ∧ ok g) : IsExP ok X e v:=by
 induction h with
 | leaf => exact .leaf
 | node g cap cs fr vs hg hb hne hc _ ih =>
  have:=hk g hg (Array.getElem?_eq_some_iff.1 hb).1
  exact .node g cap cs fr vs this.2 (this.1.trans hb) hne hc ih
theorem IsExP.toEx {lo : Nat} {W : World} {ok : Nat → Prop} {e : Ex} {v : Value} (h : IsExP ok W e v) (hk : ∀ g,ok g → lo ≤ g) : IsEx lo W e v:=by
 induction h with
 | leaf => exact .leaf
 | node g cap cs fr vs hg hb hne hc _ ih => exact .node g cap cs fr vs (hk g hg) hb hne hc ih
def exRow : List (Ex × Value) → List Value
 | [] => []
 | (x,u) :: r => exCells x u ++ exRow r
theorem exRow_snoc (l : List (Ex × Value)) (x : Ex) (u : Value) : exRow (l ++ [(x,u)]) = exRow l ++ exCells x u:=by
 induction l with
 | nil => simp [exRow]
 | cons y r ih => simp [exRow,ih]
theorem exRow_at : ∀ (l : List (Ex × Value)) (i : Nat) (x : Ex) (u : Value) (j : Nat) (v : Value),l[i]? = some (x,u) → (exCells x u)[j]? = some v → (exRow l)[i * 6 + j]? = some v
 | [],i,x,u,j,v,h,_ => by simp at h
 | y :: r,0,x,u,j,v,h,hv => by
  simp at h
  subst h
  have hj : j < 6:=(List.getElem?_eq_some_iff.1 hv).1
  show (exCells x u ++ exRow r)[0 * 6 + j]? = _
  rw [List.getElem?_append_left (by show 0 * 6 + j < 6;omega),Nat.zero_mul,Nat.zero_add]
  exact hv
 | y :: r,i + 1,x,u,j,v,h,hv => by
  show (exCells y.1 y.2 ++ exRow r)[(i + 1) * 6 + j]? = _
  rw [List.getElem?_append_right (by show 6 ≤ _;omega)]
  have e : (i + 1) * 6 + j - (exCells y.1 y.2).length = i * 6 + j:=by show (i + 1) * 6 + j - 6 = _;omega
  rw [e]
  exact exRow_at r i x u j v (by simpa using h) hv
def GrowsL (B : Nat) (W : World) (es : List Ex) (v : Value) (l : List (Ex × Value)) : Prop :=
 l.map (·.1) = es ∧ W.ownsRow B 63 6 v es.length (exRow l) ∧ (∀ p ∈ l,IsExP (fun g => B ≤ g ∧ v.ownBlock ≠ some g) W p.1 p.2) ∧ (es = [] → v = .slice none 0 0)
def Grows (B : Nat) (W : World) (es : List Ex) (v : Value) : Prop:=∃ l,GrowsL B W es v l
theorem Grows.nil (B : Nat) (W : World) : Grows B W [] (.slice none 0 0):=⟨[],rfl,World.ownsRow_nil W B _ 6,by simp,fun _ => rfl⟩
theorem GrowsL.fr {B rb : Nat} {W X : World} {es : List Ex} {v : Value} {l : List (Ex × Value)} (h : GrowsL B W es v l) (hf : Fr (some rb) W X) (hr : rb < B) : GrowsL B X es v l:=by
 obtain ⟨h1,h2,h3,h4⟩:=h
 have hg : W.grownBy X (some rb):=hf
 refine ⟨h1,h2.kept hg ?_,fun p hp => (h3 p hp).kept fun g hg hl => ⟨hf.block hl (by simp;omega),hg⟩,h4⟩
 right
 intro e
 have:=h2.lt _ e
 omega
theorem Grows.ex {B : Nat} {W : World} {es : List Ex} {v : Value} (h : Grows B W es v) (k o n : Int) (nm : List UInt8) (a : Nat) : IsEx B W (.mk k o n nm es a) v:=by
 obtain ⟨l,rfl,h2,h3,h4⟩:=h
 rcases h2.2 with ⟨rfl,hn⟩ | ⟨g,cap,cur,rfl,hB,hg,hnc,_,hcs,hx⟩
 · have : l.map (·.1) = []:=List.eq_nil_of_length_eq_zero hn
   rw [this]
   exact .leaf
 · by_cases hl : l.map (·.1) = []
   · have:=h4 hl
     cases this
   · refine .node g cap cur (0,0) (fun i => ((l[i]?).map (·.2)).getD undef) hB hg hl ?_ ?_
     · intro i e he j u hu
       rw [List.getElem?_map] at he
       obtain ⟨p,hp,rfl⟩:=Option.map_eq_some_iff.1 he
       rw [hp] at hu
       have hcell:=exRow_at l i p.1 p.2 j u hp hu
       rw [← hx] at hcell
       rw [List.getElem?_take] at hcell
       split at hcell
       · simpa using hcell
       · cases hcell
     · intro i e he
       rw [List.getElem?_map] at he
       obtain ⟨p,hp,rfl⟩:=Option.map_eq_some_iff.1 he
       simp only [hp,Option.map_some,Option.getD_some]
       exact (h3 p (List.mem_of_getElem? hp)).toEx fun g hg => hg.1
theorem GrowsL.more {B : Nat} {W X : World} {es : List Ex} {v : Value} {x : Ex} {u : Value} {g cap H : Nat} {l : List (Ex × Value)} (h : GrowsL B W es v l) (hx : IsEx B W x u) (hxn : ∀ j,v.ownBlock = some j → IsExP (fun b => B ≤ b ∧ b ≠ j) W x u)
 (hg : W.grownBy X v.ownBlock) (hH : W.heap.size = H) (hv : v.ownBlock = some g ∨ g = H) (ho : X.ownsRow B 63 6 (.slice (some ⟨g,0,none⟩) (es.length + 1) cap) (es.length + 1) (exRow l ++ exCells x u)) :
 GrowsL B X (es ++ [x]) (.slice (some ⟨g,0,none⟩) (es.length + 1) cap) (l ++ [(x,u)]):=by
 obtain ⟨h1,h2,h3,h4⟩:=h
 have hne : ∀ b,b < W.heap.size → v.ownBlock ≠ some b → b ≠ g:=by
  intro b hb hn e
  subst e
  rcases hv with hv | hv
  · exact hn hv
  · omega
 refine ⟨by simp [h1],?_,?_,by simp⟩
 · rw [exRow_snoc,List.length_append]
   exact ho
 · intro p hp
   rcases List.mem_append.1 hp with hp | hp
   · refine (h3 p hp).kept fun b hb hl => ⟨hg.block b hl (fun e => hb.2 e.symm),hb.1,?_⟩
     have:=hne b hl hb.2
     simpa [Value.ownBlock] using fun e => this e.symm
   · simp at hp
     subst hp
     cases hvb : v.ownBlock with
     | none => exact hx.toP fun b hb hl => ⟨hg.block b hl (by rw [hvb];simp),hb,by
      have:=hne b hl (by rw [hvb];simp)
      simpa [Value.ownBlock] using fun e => this e.symm⟩
     | some j => exact (hxn j hvb).kept fun b hb hl => ⟨hg.block b hl (by rw [hvb];simpa using hb.2),hb.1,by
      have:=hne b hl (by rw [hvb];simpa using fun e => hb.2 e.symm)
      simpa [Value.ownBlock] using fun e => this e.symm⟩
theorem infoEx : (Try.prog.info? 63).map (fun i => (i.zero,i.size,i.bytes)) = some (some (.agg #[.int .i64 0,.int .i64 0,.int .i64 0,.string ⟨#[]⟩,.slice none 0 0,.int .i64 0]),6,72):=by kernel_rfl
def nxOf (W : World) (rb : Nat) : Nat:=match W.cell? ⟨rb,1,none⟩ with | some (.int _ n) => n.toNat | _ => 0
theorem IsEx.off {lo B j : Nat} {W X : World} {x : Ex} {u : Value} (h : IsEx lo W x u) (hk : Fr none W X) (hB : B ≤ lo) (hj : j < lo) : IsExP (fun b => B ≤ b ∧ b ≠ j) X x u :=
 h.toP fun b hb hl => ⟨hk.block hl (by simp),by omega,by omega⟩
section
variable {ok : Nat → Prop} {W X : World} {e : Ex} {v : Value}
theorem IsExP.alloc (h : IsExP ok W e v) (o : Obj) : IsExP ok (W.alloc o) e v:=h.kept fun g hg hl => ⟨Below.heap_alloc W o g hl,hg⟩
theorem IsExP.drew (h : IsExP ok W e v) : IsExP ok W.drew e v:=h.kept fun g hg hl => ⟨rfl,hg⟩
theorem IsExP.set (h : IsExP ok W e v) {b : Nat} (hb : ∀ g,ok g → g ≠ b) (o : Nat) (x : Value) : IsExP ok (W.setCell ⟨b,o,none⟩ x) e v:=h.kept fun g hg _ => ⟨heap_setCell_other W ⟨b,o,none⟩ g x (hb g hg),hg⟩
theorem IsExP.fr {rb : Nat} (h : IsExP ok W e v) (hf : Fr (some rb) W X) (hr : ∀ g,ok g → g ≠ rb) : IsExP ok X e v:=h.kept fun g hg hl => ⟨hf.block hl (by simp;exact hr g hg),hg⟩
theorem IsExP.stay (h : IsExP ok W e v) (hf : Below W.heap.size W X) : IsExP ok X e v:=h.kept fun g hg hl => ⟨hf.block g hl,hg⟩
theorem IsExP.weak {ok' : Nat → Prop} (h : IsExP ok W e v) (hk : ∀ g,ok g → ok' g) : IsExP ok' W e v:=h.kept fun g hg _ => ⟨rfl,hk g hg⟩
theorem IsExP.twoAt {n : Nat} {x y : Ex} {u u' : Value} (h : IsExP ok W x u) (h2 : IsExP ok W y u') (hn : n = W.heap.size) (ho : ok W.heap.size) (k o m : Int) (nm : List UInt8) (a : Nat) :
 IsExP ok (W.alloc (.cells #[.int .i64 x.k,.int .i64 x.op,.int .i64 x.n,.string (bstr x.nm),u,.int .i64 x.a,.int .i64 y.k,.int .i64 y.op,.int .i64 y.n,.string (bstr y.nm),u',.int .i64 y.a] 63)) (.mk k o m nm [x,y] a) (.slice (some ⟨n,0,none⟩) 2 2):=by
 subst hn
 refine .node W.heap.size 2 _ (0,0) (fun i => if i = 0 then u else u') ho (heap_new _ _) (by simp) ?_ ?_
 · intro i e he j w hw
   match i,he with
   | 0,he =>
    simp at he
    subst he
    simp only [exCells,if_true] at hw
    match j,hw with
    | 0,hw | 1,hw | 2,hw | 3,hw | 4,hw | 5,hw => simpa using hw
    | j + 6,hw => simp at hw
   | 1,he =>
    simp at he
    subst he
    simp only [exCells,if_neg (show ¬ (1 = 0) by decide)] at hw
    match j,hw with
    | 0,hw | 1,hw | 2,hw | 3,hw | 4,hw | 5,hw => simpa using hw
    | j + 6,hw => simp at hw
   | i + 2,he => simp at he
 · intro i e he
   match i,he with
   | 0,he =>
    simp at he
    subst he
    exact h.alloc _
   | 1,he =>
    simp at he
    subst he
    exact h2.alloc _
   | i + 2,he => simp at he
end
end Go.Proofs.Ytbmmjomcjlpnlaa
namespace Go.Proofs.Ytbmmjomcjlpnlaa
open Go Go.RowKit
def KOk (x : Wd) : Prop:=(x.k = 0 → ∃ c r,x.t = c :: r ∧ isLetter c = true) ∧ (x.k = 2 → ∃ c r,x.t = c :: r ∧ isLetter c = false)
theorem KOk.sgn {x : Wd} (h : KOk x) {c : UInt8} {r : List UInt8} (hc : isLetter c = false) : ((x.k = 2 ∨ x.k = 0) ∧ x.t = c :: r) ↔ Sg x (c :: r):=by
 constructor
 · rintro ⟨h1 | h1,h2⟩
   · exact ⟨h1,h2⟩
   · obtain ⟨c',r',h3,h4⟩:=h.1 h1
     rw [h2] at h3
     cases h3
     rw [hc] at h4
     cases h4
 · rintro ⟨h1,h2⟩
   exact ⟨.inl h1,h2⟩
theorem KOk.nam {x : Wd} (h : KOk x) {c : UInt8} {r : List UInt8} (hc : isLetter c = true) : ((x.k = 2 ∨ x.k = 0) ∧ x.t = c :: r) ↔ (x.k = 0 ∧ x.t = c :: r):=by
 constructor
 · rintro ⟨h1 | h1,h2⟩
   · obtain ⟨c',r',h3,h4⟩:=h.2 h1
     rw [h2] at h3
     cases h3
     rw [hc] at h4
     cases h4
   · exact ⟨h1,h2⟩
 · rintro ⟨h1,h2⟩
   exact ⟨.inr h1,h2⟩
structure EnvR (rb g : Nat) (ws : List Wd) (W : World) : Prop where
 wc : WCells W g ws
 ne : g ≠ rb
 few : ws.length < 1000000
 long : ∀ x ∈ ws,x.t.length ≤ 100000
 kok : ∀ x ∈ ws,KOk x
theorem EnvR.kept {rb g : Nat} {ws : List Wd} {W X : World} (E : EnvR rb g ws W) (hf : Fr (some rb) W X) : EnvR rb g ws X :=
 ⟨E.wc.kept (fun k e => hf.block (by rw [e];exact E.wc.lt) (by simp;rw [e];exact E.ne)) hf.size,E.ne,E.few,E.long,E.kok⟩
theorem EnvR.stay {rb g : Nat} {ws : List Wd} {W X : World} (E : EnvR rb g ws W) (hf : Below W.heap.size W X) : EnvR rb g ws X:=E.kept (.of hf)
theorem EnvR.setO {rb g : Nat} {ws : List Wd} {W : World} (E : EnvR rb g ws W) {b : Nat} (hne : g ≠ b) (k : Nat) (v : Value) : EnvR rb g ws (W.setCell ⟨b,k,none⟩ v) :=
 ⟨E.wc.kept (fun j e => heap_setCell_other W ⟨b,k,none⟩ j v (by rw [e];exact hne)) (by simp),E.ne,E.few,E.long,E.kok⟩
def StR (W : World) (rb g cap : Nat) (ws : List Wd) (o : Int) : RS → Prop
 | .ok ts => ts <:+ ws ∧ Fin ts ∧ ∃ a,RrAt W rb (.slice (some ⟨g,0,none⟩) ws.length cap) ((ws.length - ts.length : Nat) : Int) o 0 a
 | .bad c b => c ≠ 0 ∧ ∃ i : Nat,i < ws.length ∧ RrAt W rb (.slice (some ⟨g,0,none⟩) ws.length cap) i o c b
section
variable {W X : World} {rb g cap : Nat} {ws : List Wd} {o : Int} {σ : RS}
theorem StR.stay (S : StR W rb g cap ws o σ) (hf : Below W.heap.size W X) : StR X rb g cap ws o σ:=by
 cases σ with
 | ok ts =>
  obtain ⟨h1,h2,a,h3⟩:=S
  exact ⟨h1,h2,a,h3.kept hf⟩
 | bad c b =>
  obtain ⟨h1,i,h2,h3⟩:=S
  exact ⟨h1,i,h2,h3.kept hf⟩
theorem StR.alloc (S : StR W rb g cap ws o σ) (ob : Obj) : StR (W.alloc ob) rb g cap ws o σ:=S.stay ((Below.refl _ _).alloc (Nat.le_refl _) _)
theorem StR.drewN (S : StR W rb g cap ws o σ) (n : Nat) : StR (W.drewN n) rb g cap ws o σ:=S.stay (below_drewN (Below.refl _ _) n)
theorem StR.drew (S : StR W rb g cap ws o σ) : StR W.drew rb g cap ws o σ:=S.stay (Below.refl _ _).drew
theorem StR.rd (S : StR W rb g cap ws o σ) : ∃ (i : Nat) (c a : Int),RrAt W rb (.slice (some ⟨g,0,none⟩) ws.length cap) i o c a ∧ (c = 0 ↔ σ.good = true) ∧ ∀ X o',RrAt X rb (.slice (some ⟨g,0,none⟩) ws.length cap) i o' c a → StR X rb g cap ws o' σ:=by
 cases σ with
 | ok ts =>
  obtain ⟨h1,h2,a,h3⟩:=S
  exact ⟨_,0,a,h3,by simp [RS.good],fun X o' h => ⟨h1,h2,a,h⟩⟩
 | bad c b =>
  obtain ⟨h1,i,h2,h3⟩:=S
  exact ⟨i,c,b,h3,by simp [RS.good,h1],fun X o' h => ⟨h1,i,h2,h⟩⟩
theorem StR.setO (S : StR W rb g cap ws o σ) {b : Nat} (hne : rb ≠ b) (k : Nat) (v : Value) : StR (W.setCell ⟨b,k,none⟩ v) rb g cap ws o σ:=by
 obtain ⟨i,c,a,h1,_,h2⟩:=S.rd
 exact h2 _ _ (h1.setO hne k v)
theorem StR.set2 (S : StR W rb g cap ws o σ) (v : Int) : StR (W.setCell ⟨rb,2,none⟩ (.int .i64 v)) rb g cap ws v σ:=by
 obtain ⟨i,c,a,h1,_,h2⟩:=S.rd
 exact h2 _ _ (h1.set2 v)
theorem StR.at_ (S : StR W rb g cap ws o σ) (E : EnvR rb g ws W) : ∃ (i : Nat) (x : Wd) (c a : Int),Rr W rb g cap ws i x o c a ∧ (∀ t,isB x c t = σ.is t) ∧ (c = 0 → ∃ tt,σ = .ok (x :: tt) ∧ i + 1 = ws.length - tt.length ∧ tt <:+ ws ∧ i < 1000000) ∧ (c ≠ 0 → ∃ b : Nat,a = b ∧ σ = .bad c b):=by
 cases σ with
 | ok ts =>
  obtain ⟨h1,h2,a,h3⟩:=S
  obtain ⟨x,tt,rfl⟩:=h2.ne
  obtain ⟨h4,h5,h6⟩:=suf_at h1
  refine ⟨_,x,0,a,⟨h3,E.wc,E.ne,h4⟩,fun t => by simp [isB,RS.is],fun _ => ⟨tt,rfl,h5,h6,?_⟩,fun h => absurd rfl h⟩
  have:=E.few
  omega
 | bad c b =>
  obtain ⟨h1,i,h2,h3⟩:=S
  exact ⟨i,ws[i],c,b,⟨h3,E.wc,E.ne,List.getElem?_eq_getElem h2⟩,fun t => by simp [isB,RS.is,h1],fun h => absurd h h1,fun _ => ⟨b,rfl,rfl⟩⟩
theorem st_adv {x : Wd} {tt : List Wd} {i : Nat} {a : Int} (S : StR W rb g cap ws o (.ok (x :: tt))) (R : Rr W rb g cap ws i x o 0 a) (hx : x.k ≠ 3) (h5 : i + 1 = ws.length - tt.length) : StR (W.setCell ⟨rb,1,none⟩ (.int .i64 ((i : Int) + 1))) rb g cap ws o (.ok tt) :=
 ⟨(suf_at S.1).2.2,S.2.1.cons hx,a,h5 ▸ R.rd.set1 _⟩
theorem st_dec {n : Nat} (S : StR W rb g cap ws ((n + 1 : Nat) : Int) σ) (hn : n ≤ 32) : StR (W.setCell ⟨rb,2,none⟩ (.int .i64 (wrap64 (((n + 1 : Nat) : Int) - 1)))) rb g cap ws n σ:=by
 have hw : wrap64 (((n + 1 : Nat) : Int) - 1) = (n : Int):=by unfold wrap64;omega
 rw [hw]
 exact S.set2 _
theorem StR.ok_cells {x : Wd} {tt : List Wd} (S : StR W rb g cap ws o (.ok (x :: tt))) (E : EnvR rb g ws W) : ∃ (i : Nat) (a : Int),Rr W rb g cap ws i x o 0 a ∧ i + 1 = ws.length - tt.length ∧ tt <:+ ws ∧ i < 1000000 ∧ x ∈ ws:=by
 obtain ⟨h1,h2,a,h3⟩:=S
 obtain ⟨h4,h5,h6⟩:=suf_at h1
 exact ⟨_,a,⟨h3,E.wc,E.ne,h4⟩,h5,h6,by have:=E.few;omega,h1.subset (by simp)⟩
theorem StR.mk_ok {tt : List Wd} {i : Nat} {a : Int} (h : RrAt W rb (.slice (some ⟨g,0,none⟩) ws.length cap) i o 0 a) (hi : i = ws.length - tt.length) (hs : tt <:+ ws) (hF : Fin tt) : StR W rb g cap ws o (.ok tt):=⟨hs,hF,a,hi ▸ h⟩
theorem StR.mk_bad {c : Int} {b i : Nat} (h : RrAt W rb (.slice (some ⟨g,0,none⟩) ws.length cap) i o c b) (hi : i < ws.length) (hc : c ≠ 0) : StR W rb g cap ws o (.bad c b):=⟨hc,i,hi,h⟩
theorem StR.fin {tt : List Wd} (S : StR W rb g cap ws o (.ok tt)) : Fin tt:=S.2.1
theorem StR.lt (S : StR W rb g cap ws o σ) : rb < W.heap.size:=by
 obtain ⟨i,c,a,h1,_⟩:=S.rd
 exact h1.lt
end
theorem RrAt.nx {W : World} {rb : Nat} {sl : Value} {op c a : Int} {k : Nat} (h : RrAt W rb sl k op c a) : nxOf W rb = k:=by
 unfold nxOf
 rw [h.cells.2.1]
 simp
def msR (W : World) (rb n : Nat) : Nat:=match W.cell? ⟨rb,3,none⟩ with | some (.int _ c) => if c = 0 then n + 1 - nxOf W rb else 0 | _ => 0
def RS.ms : RS → Nat | .ok tt => tt.length + 1 | .bad _ _ => 0
theorem StR.ms {W : World} {rb g cap : Nat} {ws : List Wd} {o : Int} {σ : RS} (S : StR W rb g cap ws o σ) : msR W rb ws.length = σ.ms:=by
 cases σ with
 | ok ts =>
  obtain ⟨h1,h2,a,h3⟩:=S
  have:=h1.length_le
  unfold msR
  rw [h3.cells.2.2.2.1,h3.nx]
  show (if (0 : Int) = 0 then ws.length + 1 - (ws.length - ts.length) else 0) = ts.length + 1
  rw [if_pos rfl]
  omega
 | bad c b =>
  obtain ⟨h1,i,h2,h3⟩:=S
  unfold msR
  rw [h3.cells.2.2.2.1]
  show (if c = 0 then ws.length + 1 - nxOf W rb else 0) = 0
  rw [if_neg h1]
theorem RS.is_ne3 {x : Wd} {tt : List Wd} {t : List UInt8} (h : (RS.ok (x :: tt)).is t = true) : x.k ≠ 3:=by
 simp [RS.is] at h
 omega
theorem Rr.lt {W : World} {rb g cap : Nat} {ws : List Wd} {i : Nat} {x : Wd} {op c a : Int} (R : Rr W rb g cap ws i x op c a) : i < ws.length:=(List.getElem?_eq_some_iff.1 R.at_).1
theorem st_is {rb g cap : Nat} {ws : List Wd} {o : Int} {σ : RS} {W : World} (S : StR W rb g cap ws o σ) (E : EnvR rb g ws W) (s : ByteArray) (b : Bool) (hb : σ.is s.data.toList = b) :
 Calls Try.prog 62 #[.pointer (some ⟨rb,0,none⟩),.string s] W fun e w' => e = .returned (.bool b) ∧ Below W.heap.size W w':=by
 obtain ⟨i,x,c,a,R,hi,_,_⟩:=S.at_ E
 exact rr_is rb g cap ws i x o c a s W R b ((hi _).trans hb)
theorem st_fail {rb g cap : Nat} {ws : List Wd} {o : Int} {σ : RS} {W : World} (S : StR W rb g cap ws o σ) (E : EnvR rb g ws W) (e0 : Int) (he : e0 ≠ 0) :
 Calls Try.prog 70 #[.pointer (some ⟨rb,0,none⟩),.int .i64 e0] W fun e w' => e = .returned (.tuple #[]) ∧ StR w' rb g cap ws o (σ.fail e0) ∧ Fr (some rb) W w':=by
 obtain ⟨i,x,c,a,R,_,h0,h1⟩:=S.at_ E
 by_cases hc : c = 0
 · subst hc
   obtain ⟨tt,rfl,_⟩:=h0 rfl
   exact (rr_fail0 rb g cap ws i x o a e0 W R).mono fun e w' ⟨h2,h3,h4⟩ => ⟨h2,.mk_bad h3 R.lt he,h4⟩
 · obtain ⟨b,rfl,rfl⟩:=h1 hc
   exact (rr_failN rb g cap ws i x o c b e0 W R hc).mono fun e w' ⟨h2,h3⟩ => ⟨h2,h3 ▸ S,h3 ▸ Fr.refl _ _⟩
theorem need_yes (rb g cap : Nat) (ws : List Wd) (i : Nat) (x : Wd) (op c a : Int) (s : ByteArray) (w : World) (R : Hid (Rr w rb g cap ws i x op c a)) (hb : Hid (isB x c s.data.toList = true)) (hi : i < 1000000) :
 Calls Try.prog 64 #[.pointer (some ⟨rb,0,none⟩),.string s] w fun e w' => e = .returned (.tuple #[]) ∧ RrAt w' rb (.slice (some ⟨g,0,none⟩) ws.length cap) ((i + 1 : Nat) : Int) op c a ∧ Fr (some rb) w w':=by
 have hw : wrap64 ((i : Int) + 1) = ((i + 1 : Nat) : Int):=by unfold wrap64;omega
 have HW:=hid hw
 clear hw hi
 go_enter Try.func64,Try.ntmps64
 go_wp2_with (go_at_call 62;(with_reducible refine (rr_is rb g cap ws i x op c a s _ R.out true hb.out).mono ?_);rintro e' w1 ⟨rfl,hb1⟩;have hR1:=hid (R.out.rd.kept hb1);obtain ⟨q0,q1,q2,q3,q4⟩:=hR1.out.cells;have hl:=hR1.out.lt;have hf1:=hR1.out.frozen 1)
 go_end0
 refine ⟨rfl,?_,by (with_reducible repeat first | exact Fr.refl _ _ | refine Fr.alloc ?_ _ | refine Fr.drewN ?_ _ | refine Fr.drew ?_ | (refine Fr.set ?_ ?_ _ _;rotate_left;first | exact .inl rfl | (right;simp;done) | (right;simp;omega) | (right;omega)) | refine Fr.step ?_ (by assumption) | refine Fr.stepB ?_ (by assumption))⟩
 rw [HW.out]
 exact hR1.out.set1 _
theorem need_no {rb g cap : Nat} {ws : List Wd} {o : Int} {σ : RS} {W : World} (S : Hid (StR W rb g cap ws o σ)) (E : Hid (EnvR rb g ws W)) (s : ByteArray) (hb : Hid (σ.is s.data.toList = false)) :
 Calls Try.prog 64 #[.pointer (some ⟨rb,0,none⟩),.string s] W fun e w' => e = .returned (.tuple #[]) ∧ StR w' rb g cap ws o (σ.fail 11) ∧ Fr (some rb) W w':=by
 go_enter Try.func64,Try.ntmps64
 go_wp2_with (first
  | (go_at_call 62;(with_reducible refine (st_is S.out E.out s false hb.out).mono ?_);rintro e' w1 ⟨rfl,hb1⟩)
  | (go_at_call 70;(with_reducible refine (st_fail (S.out.stay hb1) (E.out.stay hb1) 11 (by decide)).mono ?_);rintro e' w2 ⟨rfl,hs2,hf2⟩))
 ((try simp only [Exit.inBlock,Exit.then]);refine bodyPost_ret (results_none rfl _ _ _) rfl ?_)
 exact ⟨rfl,hs2,by (with_reducible repeat first | exact Fr.refl _ _ | refine Fr.alloc ?_ _ | refine Fr.drewN ?_ _ | refine Fr.drew ?_ | (refine Fr.set ?_ ?_ _ _;rotate_left;first | exact .inl rfl | (right;simp;done) | (right;simp;omega) | (right;omega)) | refine Fr.step ?_ (by assumption) | refine Fr.stepB ?_ (by assumption))⟩
theorem st_need {rb g cap : Nat} {ws : List Wd} {o : Int} {σ : RS} {W : World} (S : StR W rb g cap ws o σ) (E : EnvR rb g ws W) (s : ByteArray) :
 Calls Try.prog 64 #[.pointer (some ⟨rb,0,none⟩),.string s] W fun e w' => e = .returned (.tuple #[]) ∧ StR w' rb g cap ws o (σ.need s.data.toList) ∧ Fr (some rb) W w':=by
 cases hb : σ.is s.data.toList with
 | true =>
  obtain ⟨i,x,c,a,R,hi,h0,h1⟩:=S.at_ E
  have hc : c = 0:=by
   refine Decidable.byContradiction fun hc => ?_
   obtain ⟨b,_,rfl⟩:=h1 hc
   cases hb
  subst hc
  obtain ⟨tt,rfl,h5,h6,h7⟩:=h0 rfl
  refine (need_yes rb g cap ws i x o 0 a s W (hid R) (hid ((hi _).trans hb)) h7).mono fun e w' ⟨h2,h3,h4⟩ => ⟨h2,?_,h4⟩
  unfold RS.need
  rw [hb]
  exact .mk_ok h3 h5 h6 (S.fin.cons (RS.is_ne3 hb))
 | false =>
  refine (need_no (hid S) (hid E) s (hid hb)).mono fun e w' ⟨h2,h3,h4⟩ => ⟨h2,?_,h4⟩
  unfold RS.need
  rw [hb]
  exact h3
theorem renter_ok {rb g cap : Nat} {ws : List Wd} {o : Nat} {x : Wd} {tt : List Wd} {W : World} (S0 : StR W rb g cap ws o (.ok (x :: tt))) (E0 : EnvR rb g ws W) (hx : x.k ≠ 3) (ho : o < 32) :
 Calls Try.prog 78 #[.pointer (some ⟨rb,0,none⟩)] W fun e w' => e = .returned (.bool true) ∧ StR w' rb g cap ws ((o + 1 : Nat) : Int) (.ok tt) ∧ Fr (some rb) W w':=by
 obtain ⟨i,a,R,h5,h6,h7,_⟩:=S0.ok_cells E0
 have hRd:=hid R.rd
 obtain ⟨q0,q1,q2,q3,q4⟩:=hRd.out.cells
 have hl:=hRd.out.lt
 have hf1:=hRd.out.frozen 1
 have hf2:=hRd.out.frozen 2
 have hd : (decide ((o : Int) = 32)) = false:=by simp;omega
 have hd2 : ((o : Int) == 32) = false:=by simp;omega
 have hw1 : wrap64 ((o : Int) + 1) = ((o + 1 : Nat) : Int):=by unfold wrap64;omega
 have hw2 : wrap64 ((i : Int) + 1) = ((i + 1 : Nat) : Int):=by unfold wrap64;omega
 have HX:=hid (And.intro hw1 hw2)
 have HF:=hid (And.intro h5 (And.intro h6 (S0.fin.cons hx)))
 clear hw1 hw2 ho h5 h6 h7 R S0 E0 hx
 go_enter Try.func78,Try.ntmps78
 go_wp2
 go_ret
 refine ⟨rfl,?_,by (with_reducible repeat first | exact Fr.refl _ _ | refine Fr.alloc ?_ _ | refine Fr.drewN ?_ _ | refine Fr.drew ?_ | (refine Fr.set ?_ ?_ _ _;rotate_left;first | exact .inl rfl | (right;simp;done) | (right;simp;omega) | (right;omega)) | refine Fr.step ?_ (by assumption) | refine Fr.stepB ?_ (by assumption))⟩
 rw [HX.out.1,HX.out.2]
 exact .mk_ok ((hRd.out.set2 _).set1 _) HF.out.1 HF.out.2.1 HF.out.2.2
theorem renter_lim {rb g cap : Nat} {ws : List Wd} {σ : RS} {W : World} (S : Hid (StR W rb g cap ws 32 σ)) (E : Hid (EnvR rb g ws W)) :
 Calls Try.prog 78 #[.pointer (some ⟨rb,0,none⟩)] W fun e w' => e = .returned (.bool false) ∧ StR w' rb g cap ws 32 (σ.fail 2) ∧ Fr (some rb) W w':=by
 obtain ⟨i,c,a,hr,_,_⟩:=S.out.rd
 obtain ⟨q0,q1,q2,q3,q4⟩:=hr.cells
 have hl:=hr.lt
 clear hr
 go_enter Try.func78,Try.ntmps78
 go_wp2_with (go_at_call 70;(with_reducible refine (st_fail S.out E.out 2 (by decide)).mono ?_);rintro e' w2 ⟨rfl,hs2,hf2⟩)
 go_ret
 exact ⟨rfl,hs2,by (with_reducible repeat first | exact Fr.refl _ _ | refine Fr.alloc ?_ _ | refine Fr.drewN ?_ _ | refine Fr.drew ?_ | (refine Fr.set ?_ ?_ _ _;rotate_left;first | exact .inl rfl | (right;simp;done) | (right;simp;omega) | (right;omega)) | refine Fr.step ?_ (by assumption) | refine Fr.stepB ?_ (by assumption))⟩
end Go.Proofs.Ytbmmjomcjlpnlaa
namespace Go.Proofs.Ytbmmjomcjlpnlaa
open Go Go.RowKit
def Res.st : Res → RS | .ok _ ts => .ok ts | .okL _ ts => .ok ts | .bad c a => .bad c a
def GoodEx (lo : Nat) (W : World) (r : Res) (k op n : Int) (nm : ByteArray) (p : Option Addr) (l c : Nat) (a : Int) : Prop :=
 ∀ x ts',r = .ok x ts' → k = x.k ∧ op = x.op ∧ n = x.n ∧ nm = bstr x.nm ∧ l = x.ks.length ∧ a = x.a ∧ IsEx lo W x (.slice p l c)
theorem GoodEx.bad {lo : Nat} {W : World} {e a0 : Int} {b : Nat} {k op n : Int} {nm : ByteArray} {p : Option Addr} {l c : Nat} : GoodEx lo W (.bad e b) k op n nm p l c a0:=fun x ts' h => by cases h
theorem GoodEx.kept {lo : Nat} {W X : World} {r : Res} {k op n : Int} {nm : ByteArray} {p : Option Addr} {l c : Nat} {a : Int} (h : GoodEx lo W r k op n nm p l c a) (hk : ∀ g,lo ≤ g → g < W.heap.size → X.heap[g]? = W.heap[g]?) : GoodEx lo X r k op n nm p l c a :=
 fun x ts' e => by
  obtain ⟨h1,h2,h3,h4,h5,h6,h7⟩:=h x ts' e
  exact ⟨h1,h2,h3,h4,h5,h6,h7.kept hk⟩
theorem GoodEx.stay {lo : Nat} {W X : World} {r : Res} {k op n : Int} {nm : ByteArray} {p : Option Addr} {l c : Nat} {a : Int} (h : GoodEx lo W r k op n nm p l c a) (hf : Below W.heap.size W X) : GoodEx lo X r k op n nm p l c a:=h.kept fun g _ hl => hf.block g hl
theorem GoodEx.fr {lo rb : Nat} {W X : World} {r : Res} {k op n : Int} {nm : ByteArray} {p : Option Addr} {l c : Nat} {a : Int} (h : GoodEx lo W r k op n nm p l c a) (hf : Fr (some rb) W X) (hr : rb < lo) : GoodEx lo X r k op n nm p l c a :=
 h.kept fun g hg hl => hf.block hl (by simp;omega)
theorem GoodEx.low {lo lo' : Nat} {W : World} {r : Res} {k op n : Int} {nm : ByteArray} {p : Option Addr} {l c : Nat} {a : Int} (h : GoodEx lo W r k op n nm p l c a) (hl : lo' ≤ lo) : GoodEx lo' W r k op n nm p l c a :=
 fun x ts' e => by
  obtain ⟨h1,h2,h3,h4,h5,h6,h7⟩:=h x ts' e
  exact ⟨h1,h2,h3,h4,h5,h6,h7.low hl⟩
def SndR (rb g : Nat) (ws : List Wd) (f : Nat) (args : Array Value) (o : Nat) (ts : List Wd) (r : Res) : Prop :=
 ∀ (W : World) (cap : Nat),EnvR rb g ws W → StR W rb g cap ws o (.ok ts) → Calls Try.prog f args W fun e w' => Fr (some rb) W w' ∧ StR w' rb g cap ws o r.st ∧
  ∃ k op n nm p l c a,e = .returned (.agg #[.int .i64 k,.int .i64 op,.int .i64 n,.string nm,.slice p l c,.int .i64 a]) ∧ GoodEx W.heap.size w' r k op n nm p l c a
theorem SndR.use {rb g : Nat} {ws : List Wd} {f : Nat} {args : Array Value} {o : Nat} {ts : List Wd} {r : Res} (h : SndR rb g ws f args o ts r) (W : World) (cap : Nat) (E : EnvR rb g ws W) (S : StR W rb g cap ws o (.ok ts)) :
 Calls Try.prog f args W fun e w' => Fr (some rb) W w' ∧ StR w' rb g cap ws o r.st ∧
  ∃ k op n nm p l c a,e = .returned (.agg #[.int .i64 k,.int .i64 op,.int .i64 n,.string nm,.slice p l c,.int .i64 a]) ∧ GoodEx W.heap.size w' r k op n nm p l c a:=h W cap E S
def SndRL (rb g : Nat) (ws : List Wd) (f : Nat) (args : Array Value) (o : Nat) (ts : List Wd) (r : Res) : Prop :=
 ∀ (W : World) (cap : Nat),EnvR rb g ws W → StR W rb g cap ws o (.ok ts) → Calls Try.prog f args W fun e w' => Fr (some rb) W w' ∧ StR w' rb g cap ws o r.st ∧
  ∃ p l c,e = .returned (.slice p l c) ∧ ∀ xs ts',r = .okL xs ts' → l = xs.length ∧ IsEx W.heap.size w' (.mk 0 0 0 [] xs 0) (.slice p l c)
theorem SndRL.use {rb g : Nat} {ws : List Wd} {f : Nat} {args : Array Value} {o : Nat} {ts : List Wd} {r : Res} (h : SndRL rb g ws f args o ts r) (W : World) (cap : Nat) (E : EnvR rb g ws W) (S : StR W rb g cap ws o (.ok ts)) :
 Calls Try.prog f args W fun e w' => Fr (some rb) W w' ∧ StR w' rb g cap ws o r.st ∧
  ∃ p l c,e = .returned (.slice p l c) ∧ ∀ xs ts',r = .okL xs ts' → l = xs.length ∧ IsEx W.heap.size w' (.mk 0 0 0 [] xs 0) (.slice p l c):=h W cap E S
def GoalR (rb g : Nat) (ws : List Wd) : Job → Nat → List Wd → Res → Prop
 | .thing => SndR rb g ws 75 #[.pointer (some ⟨rb,0,none⟩)]
 | .nam => SndR rb g ws 79 #[.pointer (some ⟨rb,0,none⟩)]
 | .expr r => SndR rb g ws 73 #[.pointer (some ⟨rb,0,none⟩),.int .i64 r]
 | _ => fun _ _ _ => True
def BelowR (rb g : Nat) (ws : List Wd) (N : Nat) : Prop :=
 ∀ j o ts r,P o j ts r → ts <:+ ws → Fin ts → j.may ts → o ≤ 32 → 4 * ts.length + j.wt < N → GoalR rb g ws j o ts r
theorem Blk.grown {n : Nat} {X Y : World} {v0 v1 v2 v3 v4 v5 : Value} (h : Blk X n v0 v1 v2 v3 v4 v5) (hg : X.grownBy Y none) : Blk Y n v0 v1 v2 v3 v4 v5:=(hg.block n (Array.getElem?_eq_some_iff.1 h).1 (by simp)).trans h
theorem StR.grown {W X : World} {rb g cap : Nat} {ws : List Wd} {o : Int} {σ : RS} (S : StR W rb g cap ws o σ) (hg : W.grownBy X none) : StR X rb g cap ws o σ:=S.stay (Fr.below hg)
theorem EnvR.grown {W X : World} {rb g : Nat} {ws : List Wd} (E : EnvR rb g ws W) (hg : W.grownBy X none) : EnvR rb g ws X:=E.stay (Fr.below hg)
theorem results_ex {n : Nat} {X : World} {v0 v1 v2 v3 v4 v5 : Value} {fn : Func} {p : Tmp} (hfn : fn.results = #[.cell p 63]) (tmps : Array Value) (hp : tmps.getD p undef = .pointer (some ⟨n,0,none⟩)) (h : Blk X n v0 v1 v2 v3 v4 v5) :
 (results fn tmps).run Try.prog X = .ok (.agg #[v0,v1,v2,v3,v4,v5]) X:=by
 have hp' : tmps[p]?.getD undef = .pointer (some ⟨n,0,none⟩):=by simpa using hp
 simp [results,hfn,hp',asAddr,run_loadVar_row X n 63 63 _ (0,0) _ h Try.underlying63 rfl (by kernel_rfl)]
theorem isS_no {x : Wd} {tt : List Wd} (hk : KOk x) {c : UInt8} (r : List UInt8) (hc : isLetter c = false) (h : ¬ Sg x (c :: r)) : (RS.ok (x :: tt)).is (c :: r) = false:=by
 have:=mt (hk.sgn (r:=r) hc).1 h
 simp only [RS.is]
 by_cases h1 : x.k = 2 ∨ x.k = 0
 · have h2 : ¬ x.t = c :: r:=fun e => this ⟨h1,e⟩
   simp [h2]
 · simp at h1
   simp [h1]
theorem isS_yes {x : Wd} {tt : List Wd} {t : List UInt8} (h : Sg x t) : (RS.ok (x :: tt)).is t = true:=by
 simp [RS.is,h.1,h.2]
theorem rnam_var (rb g : Nat) (ws : List Wd) (o : Nat) (x y : Wd) (tt : List Wd) (hx : x.k = 0) (h1 : ¬ Sg y [91] ∧ ¬ Sg y [40]) : SndR rb g ws 79 #[.pointer (some ⟨rb,0,none⟩)] o (x :: y :: tt) (.ok (.mk 2 0 0 x.t [] x.a) (y :: tt)):=by
 intro W cap E0 S0
 have hrl:=S0.lt
 have hgl:=E0.wc.lt
 obtain ⟨i,a,R0,h5,h6,h7,hxm⟩:=S0.ok_cells E0
 have hky : KOk y:=E0.kok y (h6.subset (by simp))
 have hFy:=S0.fin.cons (by rw [hx];decide)
 have b1 : Hid ((RS.ok (y :: tt)).is (⟨#[91]⟩ : ByteArray).data.toList = false):=hid (isS_no hky [] (by decide) h1.1)
 have b2 : Hid ((RS.ok (y :: tt)).is (⟨#[40]⟩ : ByteArray).data.toList = false):=hid (isS_no hky [] (by decide) h1.2)
 obtain ⟨⟨r0,r1,r2,r3,r4⟩,⟨c0,c1,c2,c3⟩,_,_,hi1,hi2,_⟩:=R0.facts
 have hx3 : x.k ≠ 3:=by (rw [hx];decide)
 have S:=hid S0
 have E:=hid E0
 have R:=hid R0
 clear R0 E0 S0 hky h1 hxm h6
 go_enter Try.func79,Try.ntmps79
 go_upto_region 1 with (fail)
 go_wp2
 go_region
 go_upto_region 3 with (fail)
 refine name_world ?_
 intro W1 hW1
 have hB1 : Below W.heap.size W W1:=by (rw [hW1];(refine Fr.below ?_;(with_reducible repeat first | exact Fr.refl _ _ | refine Fr.alloc ?_ _ | refine Fr.drewN ?_ _ | refine Fr.drew ?_ | (refine Fr.set ?_ ?_ _ _;rotate_left;first | exact .inl rfl | (right;simp;done) | (right;simp;omega) | (right;omega)) | refine Fr.step ?_ (by assumption) | refine Fr.stepB ?_ (by assumption))))
 have hz1 : W1.heap.size = W.heap.size + 3:=by (rw [hW1];simp)
 have BV1 : Blk W1 W.heap.size (.int .i64 0) (.int .i64 0) (.int .i64 0) (.string ⟨#[]⟩) (.slice none 0 0) (.int .i64 0):=by (rw [hW1];exact ((((Blk.new rfl _ _ _ _ _ _).alloc _).alloc _).drew))
 have BE1 : Blk W1 (W.heap.size + 1 + 1) (.int .i64 2) (.int .i64 0) (.int .i64 0) (.string (bstr x.t)) (.slice none 0 0) (.int .i64 x.a):=by (rw [hW1];exact ((Blk.new (by simp) _ _ _ _ _ _).drew))
 clear hW1 r0 r1 r2 r3 r4 c0 c1 c2 c3
 have hR1:=R.out.kept hB1
 obtain ⟨⟨_,r1,_,_,_⟩,_,hrl1,_,_,_,hfz⟩:=hR1.facts
 have hf1:=hfz 1
 have hne0 : rb ≠ W.heap.size:=by omega
 have hne2 : rb ≠ W.heap.size + 1 + 1:=by omega
 have SA:=hid (st_adv (S.out.stay hB1) hR1 hx3 h5)
 have EA:=hid ((E.out.stay hB1).kept ((Fr.refl (some rb) W1).set (.inl rfl) 1 (.int .i64 ((i : Int) + 1))))
 have hfA : Fr (some rb) W (W1.setCell ⟨rb,1,none⟩ (.int .i64 ((i : Int) + 1))):=((Fr.of hB1).set (.inl rfl) 1 _)
 have BVA : Blk (W1.setCell ⟨rb,1,none⟩ (.int .i64 ((i : Int) + 1))) W.heap.size (.int .i64 0) (.int .i64 0) (.int .i64 0) (.string ⟨#[]⟩) (.slice none 0 0) (.int .i64 0):=BV1.setO (Ne.symm hne0) _ _
 have BEA : Blk (W1.setCell ⟨rb,1,none⟩ (.int .i64 ((i : Int) + 1))) (W.heap.size + 1 + 1) (.int .i64 2) (.int .i64 0) (.int .i64 0) (.string (bstr x.t)) (.slice none 0 0) (.int .i64 x.a):=BE1.setO (Ne.symm hne2) _ _
 go_upto_region 4 with (fail)
 refine name_world ?_
 intro WA hWA
 rw [← hWA] at SA EA hfA BVA BEA
 have hzA : W1.heap.size = WA.heap.size:=by (rw [hWA];simp)
 clear hWA BV1 BE1 hR1 r1 hfz hf1 hrl1 S E R hi1 hi2 h5 h7
 go_upto_region 21 with (first
  | (go_at_call 62;(with_reducible refine (st_is SA.out EA.out _ false b1.out).mono ?_);rintro e' w2 ⟨rfl,hb2⟩)
  | (go_at_call 62;(with_reducible refine (st_is (SA.out.stay hb2) (EA.out.stay hb2) _ false b2.out).mono ?_);rintro e' w3 ⟨rfl,hb3⟩))
 have hb23 : Below WA.heap.size WA w3:=hb2.trans (hb3.mono hb2.size)
 have BE3:=BEA.stay hb23
 have BV3:=BVA.stay hb23
 obtain ⟨ble,c0e,c1e,c2e,c3e,c4e,c5e,f0e,f1e,f2e,f3e,f4e,f5e⟩:=(BE3).facts
 obtain ⟨blv,c0v,c1v,c2v,c3v,c4v,c5v,f0v,f1v,f2v,f3v,f4v,f5v⟩:=(BV3).facts
 go_wp2
 refine bodyPost_ret (results_ex rfl _ rfl (BV3.all _ _ _ _ _ _)) rfl ⟨by (with_reducible repeat first | exact Fr.refl _ _ | refine Fr.alloc ?_ _ | refine Fr.drewN ?_ _ | refine Fr.drew ?_ | (refine Fr.set ?_ ?_ _ _;rotate_left;first | exact .inl rfl | (right;simp;done) | (right;simp;omega) | (right;omega)) | refine Fr.step ?_ (by assumption) | refine Fr.stepB ?_ (by assumption)),?_,_,_,_,_,_,_,_,_,rfl,?_⟩
 · show StR _ rb g cap ws o (.ok (y :: tt))
   (with_reducible repeat first | exact SA.out | refine StR.alloc ?_ _ | refine StR.drewN ?_ _ | refine StR.drew ?_ | refine StR.setO ?_ (by first | assumption | omega) _ _ | refine StR.stay ?_ (by assumption))
 · rintro x' ts' e
   cases e
   exact ⟨rfl,rfl,rfl,rfl,rfl,rfl,.leaf⟩
theorem rnam_elim (rb g : Nat) (ws : List Wd) (x y : Wd) (tt : List Wd) (hx : x.k = 0) (h1 : Sg y [91]) : SndR rb g ws 79 #[.pointer (some ⟨rb,0,none⟩)] 32 (x :: y :: tt) (.bad 2 y.a):=by
 intro W cap E0 S0
 have hrl:=S0.lt
 have hgl:=E0.wc.lt
 obtain ⟨i,a,R0,h5,h6,h7,hxm⟩:=S0.ok_cells E0
 have hky : KOk y:=E0.kok y (h6.subset (by simp))
 have hFy:=S0.fin.cons (by rw [hx];decide)
 have b1 : Hid ((RS.ok (y :: tt)).is (⟨#[91]⟩ : ByteArray).data.toList = true):=hid (isS_yes h1)
 obtain ⟨⟨r0,r1,r2,r3,r4⟩,⟨c0,c1,c2,c3⟩,_,_,hi1,hi2,_⟩:=R0.facts
 have hx3 : x.k ≠ 3:=by (rw [hx];decide)
 have S:=hid S0
 have E:=hid E0
 have R:=hid R0
 clear R0 E0 S0 hky h1 hxm h6
 go_enter Try.func79,Try.ntmps79
 go_upto_region 1 with (fail)
 go_wp2
 go_region
 go_upto_region 3 with (fail)
 refine name_world ?_
 intro W1 hW1
 have hB1 : Below W.heap.size W W1:=by (rw [hW1];(refine Fr.below ?_;(with_reducible repeat first | exact Fr.refl _ _ | refine Fr.alloc ?_ _ | refine Fr.drewN ?_ _ | refine Fr.drew ?_ | (refine Fr.set ?_ ?_ _ _;rotate_left;first | exact .inl rfl | (right;simp;done) | (right;simp;omega) | (right;omega)) | refine Fr.step ?_ (by assumption) | refine Fr.stepB ?_ (by assumption))))
 have hz1 : W1.heap.size = W.heap.size + 3:=by (rw [hW1];simp)
 have BV1 : Blk W1 W.heap.size (.int .i64 0) (.int .i64 0) (.int .i64 0) (.string ⟨#[]⟩) (.slice none 0 0) (.int .i64 0):=by (rw [hW1];exact ((((Blk.new rfl _ _ _ _ _ _).alloc _).alloc _).drew))
 have BE1 : Blk W1 (W.heap.size + 1 + 1) (.int .i64 2) (.int .i64 0) (.int .i64 0) (.string (bstr x.t)) (.slice none 0 0) (.int .i64 x.a):=by (rw [hW1];exact ((Blk.new (by simp) _ _ _ _ _ _).drew))
 clear hW1 r0 r1 r2 r3 r4 c0 c1 c2 c3
 have hR1:=R.out.kept hB1
 obtain ⟨⟨_,r1,_,_,_⟩,_,hrl1,_,_,_,hfz⟩:=hR1.facts
 have hf1:=hfz 1
 have hne0 : rb ≠ W.heap.size:=by omega
 have hne2 : rb ≠ W.heap.size + 1 + 1:=by omega
 have SA:=hid (st_adv (S.out.stay hB1) hR1 hx3 h5)
 have EA:=hid ((E.out.stay hB1).kept ((Fr.refl (some rb) W1).set (.inl rfl) 1 (.int .i64 ((i : Int) + 1))))
 have hfA : Fr (some rb) W (W1.setCell ⟨rb,1,none⟩ (.int .i64 ((i : Int) + 1))):=((Fr.of hB1).set (.inl rfl) 1 _)
 have BVA : Blk (W1.setCell ⟨rb,1,none⟩ (.int .i64 ((i : Int) + 1))) W.heap.size (.int .i64 0) (.int .i64 0) (.int .i64 0) (.string ⟨#[]⟩) (.slice none 0 0) (.int .i64 0):=BV1.setO (Ne.symm hne0) _ _
 have BEA : Blk (W1.setCell ⟨rb,1,none⟩ (.int .i64 ((i : Int) + 1))) (W.heap.size + 1 + 1) (.int .i64 2) (.int .i64 0) (.int .i64 0) (.string (bstr x.t)) (.slice none 0 0) (.int .i64 x.a):=BE1.setO (Ne.symm hne2) _ _
 go_upto_region 4 with (fail)
 refine name_world ?_
 intro WA hWA
 rw [← hWA] at SA EA hfA BVA BEA
 have hzA : W1.heap.size = WA.heap.size:=by (rw [hWA];simp)
 clear hWA BV1 BE1 hR1 r1 hfz hf1 hrl1 S E R hi1 hi2 h5 h7
 go_wp2_with (first
  | (go_at_call 62;(with_reducible refine (st_is SA.out EA.out _ true b1.out).mono ?_);rintro e' w2 ⟨rfl,hb2⟩;have BE2:=BEA.stay hb2;have BV2:=BVA.stay hb2)
  | (go_at_call 78;(with_reducible refine (renter_lim (hid (SA.out.stay hb2)) (hid (EA.out.stay hb2))).mono ?_);rintro e' w3 ⟨rfl,hs3,hf3⟩;have BE3:=BE2.fr hf3 (Ne.symm hne2);have BV3:=BV2.fr hf3 (Ne.symm hne0);(obtain ⟨ble,c0e,c1e,c2e,c3e,c4e,c5e,f0e,f1e,f2e,f3e,f4e,f5e⟩:=(BE3).facts);(obtain ⟨blv,c0v,c1v,c2v,c3v,c4v,c5v,f0v,f1v,f2v,f3v,f4v,f5v⟩:=(BV3).facts)))
 refine bodyPost_ret (results_ex rfl _ rfl (BV3.all _ _ _ _ _ _)) rfl ⟨by (with_reducible repeat first | exact Fr.refl _ _ | refine Fr.alloc ?_ _ | refine Fr.drewN ?_ _ | refine Fr.drew ?_ | (refine Fr.set ?_ ?_ _ _;rotate_left;first | exact .inl rfl | (right;simp;done) | (right;simp;omega) | (right;omega)) | refine Fr.step ?_ (by assumption) | refine Fr.stepB ?_ (by assumption)),?_,_,_,_,_,_,_,_,_,rfl,GoodEx.bad⟩
 have hs3' : StR w3 rb g cap ws 32 (.bad 2 y.a):=hs3
 show StR _ rb g cap ws 32 (.bad 2 y.a)
 (with_reducible repeat first | exact hs3' | refine StR.alloc ?_ _ | refine StR.drewN ?_ _ | refine StR.drew ?_ | refine StR.setO ?_ (by first | assumption | omega) _ _ | refine StR.stay ?_ (by assumption))
theorem RS.need_t {s : RS} {t : List UInt8} (h : s.is t = true) : s.need t = s.adv:=by simp [RS.need,h]
theorem RS.need_f {s : RS} {t : List UInt8} (h : s.is t = false) : s.need t = s.fail 11:=by simp [RS.need,h]
def WthEnd (cl : List UInt8) (f : Ex → Ex) : Res → Res → Prop
 | .ok e (d :: ts'),r => (Sg d cl ∧ r = .ok (f e) ts') ∨ (¬ Sg d cl ∧ r = .bad 11 d.a)
 | .bad c a,r => r = .bad c a
 | _,_ => False
theorem WthEnd.st {ws : List Wd} {cl : UInt8} {f : Ex → Ex} {r2 r : Res} (h : WthEnd [cl] f r2 r) (hc : isLetter cl = false) (hk : ∀ x ∈ ws,KOk x) (hs : ∀ tt,r2.st = .ok tt → tt <:+ ws) : r2.st.need [cl] = r.st:=by
 cases r2 with
 | ok e ts =>
  cases ts with
  | nil => exact h.elim
  | cons d ts =>
   have hd : KOk d:=hk d ((hs _ rfl).subset (by simp))
   rcases h with ⟨h1,rfl⟩ | ⟨h1,rfl⟩
   · exact (RS.need_t (isS_yes h1)).trans rfl
   · exact (RS.need_f (isS_no hd [] hc h1)).trans rfl
 | okL => exact h.elim
 | bad c a =>
  have h' : r = .bad c a:=h
  subst h'
  rfl
theorem WthEnd.inv {cl : List UInt8} {f : Ex → Ex} {r2 r : Res} (h : WthEnd cl f r2 r) {x : Ex} {ts' : List Wd} (hr : r = .ok x ts') : ∃ e d,r2 = .ok e (d :: ts') ∧ x = f e:=by
 cases r2 with
 | ok e ts =>
  cases ts with
  | nil => exact h.elim
  | cons d ts =>
   rcases h with ⟨_,h1⟩ | ⟨_,h1⟩
   · rw [hr] at h1
     cases h1
     exact ⟨e,d,rfl,rfl⟩
   · rw [hr] at h1
     cases h1
 | okL => exact h.elim
 | bad c a =>
  have h' : r = .bad c a:=h
  rw [hr] at h'
  cases h'
def rawL (k op n : Int) (nm : ByteArray) (p : Option Addr) (l c : Nat) (a : Int) : List Value:=[.int .i64 k,.int .i64 op,.int .i64 n,.string nm,.slice p l c,.int .i64 a]
theorem rawL_one (k op n : Int) (nm : ByteArray) (p : Option Addr) (l c : Nat) (a : Int) : ∀ u ∈ rawL k op n nm p l c a,u.oneCell' = true:=by
 intro u hu
 simp [rawL] at hu
 rcases hu with rfl | rfl | rfl | rfl | rfl | rfl <;> rfl
theorem one_row {B : Nat} {W X : World} {r2 : Res} {k op n : Int} {nm : ByteArray} {p : Option Addr} {l c : Nat} {a : Int} {gg cap : Nat} {e : Ex} {ts : List Wd} (h : GoodEx B W r2 k op n nm p l c a) (hr : r2 = .ok e ts)
 (ho : X.ownsRow B 63 6 (.slice (some ⟨gg,0,none⟩) 1 cap) 1 ([] ++ rawL k op n nm p l c a)) (hg : W.grownBy X none) (hh : gg = W.heap.size) (k' o' n' : Int) (nm' : List UInt8) (a' : Nat) : IsEx B X (.mk k' o' n' nm' [e] a') (.slice (some ⟨gg,0,none⟩) 1 cap):=by
 obtain ⟨rfl,rfl,rfl,rfl,rfl,rfl,h7⟩:=h e ts hr
 obtain ⟨l0,hl0⟩:=Grows.nil B W
 have hl0' : l0 = []:=by simpa using hl0.1
 subst hl0'
 have:=GrowsL.more hl0 h7 (fun j hj => by cases hj) hg rfl (.inr hh) ho
 exact Grows.ex ⟨_,this⟩ k' o' n' nm' a'
theorem rnam_elem (rb g : Nat) (ws : List Wd) (o : Nat) (x y : Wd) (tt : List Wd) (r2 r : Res) (ho : o < 32) (hx : x.k = 0) (h1 : Sg y [91]) (H2 : SndR rb g ws 73 #[.pointer (some ⟨rb,0,none⟩),.int .i64 1] (o + 1) tt r2) (hr : WthEnd [93] (fun e => .mk 3 0 0 x.t [e] x.a) r2 r) : SndR rb g ws 79 #[.pointer (some ⟨rb,0,none⟩)] o (x :: y :: tt) r:=by
 intro W cap E0 S0
 have hrl:=S0.lt
 have hgl:=E0.wc.lt
 obtain ⟨i,a,R0,h5,h6,h7,hxm⟩:=S0.ok_cells E0
 have hky : KOk y:=E0.kok y (h6.subset (by simp))
 have hFy:=S0.fin.cons (by rw [hx];decide)
 have b1 : Hid ((RS.ok (y :: tt)).is (⟨#[91]⟩ : ByteArray).data.toList = true):=hid (isS_yes h1)
 have hy3:=hid h1.ne
 obtain ⟨⟨r0,r1,r2,r3,r4⟩,⟨c0,c1,c2,c3⟩,_,_,hi1,hi2,_⟩:=R0.facts
 have hx3 : x.k ≠ 3:=by (rw [hx];decide)
 have S:=hid S0
 have E:=hid E0
 have R:=hid R0
 clear R0 E0 S0 hky h1 hxm h6
 go_enter Try.func79,Try.ntmps79
 go_upto_region 1 with (fail)
 go_wp2
 go_region
 go_upto_region 3 with (fail)
 refine name_world ?_
 intro W1 hW1
 have hB1 : Below W.heap.size W W1:=by (rw [hW1];(refine Fr.below ?_;(with_reducible repeat first | exact Fr.refl _ _ | refine Fr.alloc ?_ _ | refine Fr.drewN ?_ _ | refine Fr.drew ?_ | (refine Fr.set ?_ ?_ _ _;rotate_left;first | exact .inl rfl | (right;simp;done) | (right;simp;omega) | (right;omega)) | refine Fr.step ?_ (by assumption) | refine Fr.stepB ?_ (by assumption))))
 have hz1 : W1.heap.size = W.heap.size + 3:=by (rw [hW1];simp)
 have BV1 : Blk W1 W.heap.size (.int .i64 0) (.int .i64 0) (.int .i64 0) (.string ⟨#[]⟩) (.slice none 0 0) (.int .i64 0):=by (rw [hW1];exact ((((Blk.new rfl _ _ _ _ _ _).alloc _).alloc _).drew))
 have BE1 : Blk W1 (W.heap.size + 1 + 1) (.int .i64 2) (.int .i64 0) (.int .i64 0) (.string (bstr x.t)) (.slice none 0 0) (.int .i64 x.a):=by (rw [hW1];exact ((Blk.new (by simp) _ _ _ _ _ _).drew))
 clear hW1 r0 r1 r2 r3 r4 c0 c1 c2 c3
 have hR1:=R.out.kept hB1
 obtain ⟨⟨_,r1,_,_,_⟩,_,hrl1,_,_,_,hfz⟩:=hR1.facts
 have hf1:=hfz 1
 have hne0 : rb ≠ W.heap.size:=by omega
 have hne2 : rb ≠ W.heap.size + 1 + 1:=by omega
 have SA:=hid (st_adv (S.out.stay hB1) hR1 hx3 h5)
 have EA:=hid ((E.out.stay hB1).kept ((Fr.refl (some rb) W1).set (.inl rfl) 1 (.int .i64 ((i : Int) + 1))))
 have hfA : Fr (some rb) W (W1.setCell ⟨rb,1,none⟩ (.int .i64 ((i : Int) + 1))):=((Fr.of hB1).set (.inl rfl) 1 _)
 have BVA : Blk (W1.setCell ⟨rb,1,none⟩ (.int .i64 ((i : Int) + 1))) W.heap.size (.int .i64 0) (.int .i64 0) (.int .i64 0) (.string ⟨#[]⟩) (.slice none 0 0) (.int .i64 0):=BV1.setO (Ne.symm hne0) _ _
 have BEA : Blk (W1.setCell ⟨rb,1,none⟩ (.int .i64 ((i : Int) + 1))) (W.heap.size + 1 + 1) (.int .i64 2) (.int .i64 0) (.int .i64 0) (.string (bstr x.t)) (.slice none 0 0) (.int .i64 x.a):=BE1.setO (Ne.symm hne2) _ _
 go_upto_region 4 with (fail)
 refine name_world ?_
 intro WA hWA
 rw [← hWA] at SA EA hfA BVA BEA
 have hzA : W1.heap.size = WA.heap.size:=by (rw [hWA];simp)
 clear hWA BV1 BE1 hR1 r1 hfz hf1 hrl1 S E R hi1 hi2 h5 h7
 have HH2:=hid H2
 clear H2
 obtain ⟨i0,hinf,hzi0,hzi1,hzi2⟩:=info_parts infoEx
 go_upto_region 9 with (first
  | (go_at_call 62;(with_reducible refine (st_is SA.out EA.out _ true b1.out).mono ?_);rintro e' w2 ⟨rfl,hb2⟩;have BE2:=BEA.stay hb2;have BV2:=BVA.stay hb2)
  | (go_at_call 78;(with_reducible refine (renter_ok (SA.out.stay hb2) (EA.out.stay hb2) hy3.out ho).mono ?_);rintro e' w3 ⟨rfl,hs3,hf3⟩;have BE3:=BE2.fr hf3 (Ne.symm hne2);have BV3:=BV2.fr hf3 (Ne.symm hne0);(obtain ⟨ble,c0e,c1e,c2e,c3e,c4e,c5e,f0e,f1e,f2e,f3e,f4e,f5e⟩:=(BE3).facts);(obtain ⟨blv,c0v,c1v,c2v,c3v,c4v,c5v,f0v,f1v,f2v,f3v,f4v,f5v⟩:=(BV3).facts)))
 refine name_world ?_
 intro W4 hW4
 have BE4 : Blk W4 (W.heap.size + 1 + 1) (.int .i64 3) (.int .i64 0) (.int .i64 0) (.string (bstr x.t)) (.slice none 0 0) (.int .i64 x.a):=by (rw [hW4];exact BE3.set0 _)
 have BV4 : Blk W4 W.heap.size (.int .i64 0) (.int .i64 0) (.int .i64 0) (.string ⟨#[]⟩) (.slice none 0 0) (.int .i64 0):=by (rw [hW4];exact BV3.setO (by omega) _ _)
 have S4:=hid (show StR W4 rb g cap ws ((o + 1 : Nat) : Int) (.ok tt) by (rw [hW4];exact hs3.setO hne2 _ _))
 have E4 : Hid (EnvR rb g ws W4):=hid (by (rw [hW4];exact ((EA.out.stay hb2).kept hf3).setO (by omega) _ _))
 have hFW4 : Fr (some rb) W W4:=by (have hz2:=Fr.size hfA;rw [hW4];exact ((hfA.stepB hb2).step hf3).set (.inr (by omega)) _ _)
 have hz4 : W.heap.size + 3 ≤ W4.heap.size:=by (have h1:=hb2.size;have h2:=Fr.size hf3;rw [hW4];simp;omega)
 clear hW4 BE3 BV3 BE2 BV2 BEA BVA SA EA hs3 hf3 hb2 hfA
 obtain ⟨blh,c0h,c1h,c2h,c3h,c4h,c5h,f0h,f1h,f2h,f3h,f4h,f5h⟩:=(BE4).facts
 go_region_law (first
  | (refine step_append_lies _ (by rfl) _ _ _ (by rfl) W4.heap.size 63 i0 _ 6 72 Try.underlying61 hinf hzi0 hzi1 hzi2 rfl (by decide) _ 0 [] (by rfl) (World.ownsRow_nil _ _ _ _) ⟨_,0,none⟩ 1 1 (rawL k5 q5 n5 nm5 p5 l5 c5 a5) (by rfl) (by rfl) (World.news_of_block (heap_alloc_new _ _)) (rawL_one _ _ _ _ _ _ _ _) (by decide) (by unfold maxLen;omega) (by omega) (by simp;omega) _ rfl ?_;intro gg cap6 w6 hown6 hgrow6 hor6 hlt6;have hgr6 : World.grownBy _ w6 none:=hgrow6;have BE6:=(BE5.alloc (.cells #[.int .i64 k5,.int .i64 q5,.int .i64 n5,.string nm5,.slice p5 l5 c5,.int .i64 a5] 63)).grown hgr6;(obtain ⟨blj,c0j,c1j,c2j,c3j,c4j,c5j,f0j,f1j,f2j,f3j,f4j,f5j⟩:=(BE6).facts))
  | (go_simp;go_at_call 73;(with_reducible refine (HH2.out.use _ cap (E4.out.stay (by (refine Fr.below ?_;(with_reducible repeat first | exact Fr.refl _ _ | refine Fr.alloc ?_ _ | refine Fr.drewN ?_ _ | refine Fr.drew ?_ | (refine Fr.set ?_ ?_ _ _;rotate_left;first | exact .inl rfl | (right;simp;done) | (right;simp;omega) | (right;omega)) | refine Fr.step ?_ (by assumption) | refine Fr.stepB ?_ (by assumption))))) (by (with_reducible repeat first | exact S4.out | refine StR.alloc ?_ _ | refine StR.drewN ?_ _ | refine StR.drew ?_ | refine StR.setO ?_ (by first | assumption | omega) _ _ | refine StR.stay ?_ (by assumption)))).mono ?_);rintro e5 w5 ⟨hf5,hs5,k5,q5,n5,nm5,p5,l5,c5,a5,rfl,hg5⟩;have hz5a:=Fr.size hf5;(try simp only [World.size_drew] at hz5a);have BE5:=BE4.drew.fr hf5 (Ne.symm hne2);(obtain ⟨bli,c0i,c1i,c2i,c3i,c4i,c5i,f0i,f1i,f2i,f3i,f4i,f5i⟩:=(BE5).facts)))
 all_goals go_upto_region 10 with (fail)
 all_goals refine name_world ?_
 all_goals
  intro W7 hW7
  have hgg : gg = (w5.alloc (.cells #[.int .i64 k5,.int .i64 q5,.int .i64 n5,.string nm5,.slice p5 l5 c5,.int .i64 a5] 63)).heap.size:=by (rcases hor6 with h | h;(cases h);exact h)
  have hz5:=Fr.size hf5
  simp at hz5 hgg
  have hge : gg ≠ W.heap.size + 1 + 1:=by omega
  have BE7 : Blk W7 (W.heap.size + 1 + 1) (.int .i64 3) (.int .i64 0) (.int .i64 0) (.string (bstr x.t)) (.slice (some ⟨gg,0,none⟩) 1 cap6) (.int .i64 x.a):=by (rw [hW7];exact BE6.set4 _)
  have BV7 : Blk W7 W.heap.size (.int .i64 0) (.int .i64 0) (.int .i64 0) (.string ⟨#[]⟩) (.slice none 0 0) (.int .i64 0):=by (rw [hW7];exact (((BV4.drew.fr hf5 (Ne.symm hne0)).alloc _).grown hgr6).setO (by omega) _ _)
  obtain ⟨O,hO⟩ : ∃ O : Int,O = ((o + 1 : Nat) : Int):=⟨_,rfl⟩
  rw [← hO] at hs5
  have S7 : Hid (StR W7 rb g cap ws O r2.st):=hid (by (rw [hW7];exact ((hs5.alloc _).grown hgr6).setO hne2 _ _))
  have E7 : Hid (EnvR rb g ws W7):=hid (by (rw [hW7];exact ((((E4.out.stay (Below.refl _ _).drew).kept hf5).stay ((Below.refl _ _).alloc (Nat.le_refl _) _)).grown hgr6).setO (by omega) _ _))
  have hFW6 : Fr (some rb) W w6:=Fr.stepOwn (v:=.slice none 0 0) (((hFW4.drew).step hf5).alloc _) hgrow6 (fun j e => by cases e)
  have hFW7 : Fr (some rb) W W7:=by (rw [hW7];exact hFW6.set (.inr (by omega)) _ _)
  change GoodEx W4.heap.size w5 r2 k5 q5 n5 nm5 p5 l5 c5 a5 at hg5
  have X7 : Hid (∀ e ts,r2 = .ok e ts → IsEx W4.heap.size W7 (.mk 3 0 0 x.t [e] x.a) (.slice (some ⟨gg,0,none⟩) 1 cap6)):=hid (by
   intro e ts he
   rw [hW7]
   exact (one_row (hg5.stay ((Below.refl _ _).alloc (Nat.le_refl _) _)) he hown6 hgr6 (by simp;omega) 3 0 0 x.t x.a).set (by omega) _ _)
  have HO:=hid hO
  have hz7:=Fr.size hFW7
  clear hO hW7 hs5 hf5 hown6 hgrow6 hgr6 hor6 BE6 BE5 BE4 BV4 S4 E4 hg5 hgg hz5
  go_wp2_with (go_at_call 64;(with_reducible refine (st_need S7.out E7.out _).mono ?_);rintro e8 w8 ⟨rfl,hs8,hf8⟩;obtain ⟨i8,c8,a8,hr8,_,_⟩:=hs8.rd;obtain ⟨q0,q1,q2,q3,q4⟩:=hr8.cells;have hl8:=hr8.lt;have hfz8:=hr8.frozen 2;have BE8:=BE7.fr hf8 (Ne.symm hne2);have BV8:=BV7.fr hf8 (Ne.symm hne0);clear hr8;(obtain ⟨blk,c0k,c1k,c2k,c3k,c4k,c5k,f0k,f1k,f2k,f3k,f4k,f5k⟩:=(BE8).facts);(obtain ⟨bll,c0l,c1l,c2l,c3l,c4l,c5l,f0l,f1l,f2l,f3l,f4l,f5l⟩:=(BV8).facts))
  refine bodyPost_ret (results_ex rfl _ rfl ((BV8.setO (Ne.symm hne0) _ _).all _ _ _ _ _ _)) rfl ⟨by (with_reducible repeat first | exact Fr.refl _ _ | refine Fr.alloc ?_ _ | refine Fr.drewN ?_ _ | refine Fr.drew ?_ | (refine Fr.set ?_ ?_ _ _;rotate_left;first | exact .inl rfl | (right;simp;done) | (right;simp;omega) | (right;omega)) | refine Fr.step ?_ (by assumption) | refine Fr.stepB ?_ (by assumption)),?_,_,_,_,_,_,_,_,_,rfl,?_⟩
  · have hst:=hr.st (by decide) E7.out.kok (fun tt' h => (show StR W7 rb g cap ws O (.ok tt') from h ▸ S7.out).1)
    have hs9 : StR (w8.setCell ⟨rb,2,none⟩ (.int .i64 (wrap64 (O - 1)))) rb g cap ws o r.st:=by (rw [← hst,HO.out];exact st_dec (HO.out ▸ hs8) (by omega))
    (with_reducible repeat first | exact hs9 | refine StR.alloc ?_ _ | refine StR.drewN ?_ _ | refine StR.drew ?_ | refine StR.setO ?_ (by first | assumption | omega) _ _ | refine StR.stay ?_ (by assumption))
  · intro x' ts' e
    obtain ⟨e0,d,h8,rfl⟩:=hr.inv e
    have h9:=((X7.out e0 _ h8).fr hf8 (by omega)).set (show rb < W4.heap.size by omega) 2 (.int .i64 (wrap64 (O - 1)))
    refine ⟨rfl,rfl,rfl,rfl,rfl,rfl,IsEx.low (lo:=W4.heap.size) ?_ (by omega)⟩
    exact (((((h9.set (by omega) _ _).set (by omega) _ _).set (by omega) _ _).set (by omega) _ _).set (by omega) _ _).set (by omega) _ _
end Go.Proofs.Ytbmmjomcjlpnlaa
