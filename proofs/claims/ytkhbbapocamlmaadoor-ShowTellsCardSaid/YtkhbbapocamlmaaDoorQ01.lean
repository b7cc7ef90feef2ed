/- Joined texts: Frame Bld Tok TokJoin TokAt Ops Gram Rune Utf Sign NumB Span Sgn Read Row Words Word Maps Key Meth Beg Ex Eqv SameR ShF Txt ShT ShO ShR ShW: lemmas for the law; each says its own conditions. -/
import Derived.Test.YtkhbbapocamlmaaDoorProg
import Derived.WalkKit
import Derived.WalkSmall
import Derived.Maps.AppendAt
import Derived.Maps.Range
import Derived.Lib.Hide
import Derived.Lib.FrozenHead
import Derived.Lib.FrozenHead2
import Derived.Lib.OthersKept
import Derived.Deep.DeepMust
import Derived.Lib.Builder
import Derived.Laws.Externs
import Derived.Laws.Strings
import Derived.WalkLawsBesides
import Derived.WalkSpells
import Derived.Laws.RangeAny
import Derived.Test.YtkhbbapocamlmaaDoorShelf
import Derived.Lib.ParseIntBTie
import Derived.LoopTactic
import Derived.Lib.IndexAny
import Derived.OwnWalk
import Derived.Deep.AppendLies
import Derived.Deep.QuietTactic
import Derived.BigQuiet
import Derived.RegionTactic
import Derived.BigRegion
import Derived.ChangeAlike
import Derived.Maps.OwnSet
import Derived.StringKeys
import Derived.Laws.StructEq
import Derived.MapKept
import Derived.Deep.RegionWith
import Derived.Deep.Cut
import Derived.Lib.ItoaMem
set_option linter.unusedSimpArgs false
set_option linter.unusedVariables false
set_option maxRecDepth 100000
set_option maxHeartbeats 8000000
open Go.Lib (hid)
namespace Go.Proofs.YtkhbbapocamlmaaDoor
open Go Go.RowKit
def Fr (row : Option Nat) (W W' : World) : Prop:=W.grownBy W' row
section
variable {row : Option Nat} {W X Y : World}
theorem Fr.refl (row : Option Nat) (W : World) : Fr row W W:=World.grownBy.refl W row
theorem Fr.size (h : Fr row W X) : W.heap.size ≤ X.heap.size:=World.grownBy.size h
theorem Fr.block (h : Fr row W X) {k : Nat} (hk : k < W.heap.size) (hne : some k ≠ row) : X.heap[k]? = W.heap[k]?:=World.grownBy.block h k hk hne
theorem Fr.trans (h : Fr row W X) (k : Fr row X Y) : Fr row W Y:=World.grownBy.trans h k
theorem Fr.alloc (h : Fr row W X) (o : Obj) : Fr row W (X.alloc o):=h.trans (World.grownBy_alloc X o row)
theorem Fr.drewN (h : Fr row W X) (n : Nat) : Fr row W (X.drewN n):=h.trans ⟨rfl,rfl,rfl,Nat.le_refl _,fun _ _ _ => rfl⟩
theorem Fr.drew (h : Fr row W X) : Fr row W X.drew:=h.trans ⟨rfl,rfl,rfl,Nat.le_refl _,fun _ _ _ => rfl⟩
theorem Fr.set (h : Fr row W X) {b : Nat} (hb : some b = row ∨ W.heap.size ≤ b) (o : Nat) (v : Value) : Fr row W (X.setCell ⟨b,o,none⟩ v):=by
 have h' : W.grownBy X row:=h
 suffices hs : W.grownBy (X.setCell ⟨b,o,none⟩ v) row from hs
 refine ⟨h'.os,h'.tape,h'.output,?_,fun k hk hne => ?_⟩
 · have:=h.size
   simp [World.setCell]
   exact this
 · rw [heap_setCell_other X ⟨b,o,none⟩ k v (by
    rintro rfl
    rcases hb with hb | hb
    · exact hne hb
    · exact absurd hk (by simpa using hb))]
   exact h.block hk hne
theorem Fr.step (h : Fr row W X) (k : Fr row X Y) : Fr row W Y:=h.trans k
theorem Fr.stepOwn {v : Value} (h : Fr row W X) (k : X.grownBy Y v.ownBlock) (hj : ∀ j,v.ownBlock = some j → W.heap.size ≤ j) : Fr row W Y :=
 World.grownBy.andThen h k (fun i e => .inl (hj i e))
theorem Fr.of (h : Below W.heap.size W X) : Fr row W X:=⟨h.os,h.tape,h.output,h.size,fun k hk _ => h.block k hk⟩
theorem Fr.stepB (h : Fr row W X) (k : Below X.heap.size X Y) : Fr row W Y:=h.trans (.of k)
theorem Fr.below (h : Fr none W X) : Below W.heap.size W X:=⟨World.grownBy.os h,World.grownBy.tape h,World.grownBy.output h,h.size,fun k hk => h.block hk (by simp)⟩
theorem Fr.belowAt {B b : Nat} (h : Fr (some b) W X) (hb : B ≤ b) (hB : B ≤ W.heap.size) : Below B W X :=
 ⟨World.grownBy.os h,World.grownBy.tape h,World.grownBy.output h,h.size,fun k hk => h.block (by omega) (by simp;omega)⟩
end
theorem name_world {P : Program} {C : Code} {Q : Exit → Act → World → Prop} {a : Act} {w : World} (h : ∀ Z,Z = w → C.wp P Q a Z) : C.wp P Q a w:=h w rfl
def Blk (X : World) (n : Nat) (v0 v1 v2 v3 v4 v5 : Value) : Prop:=X.heap[n]? = some (.cells #[v0,v1,v2,v3,v4,v5] 71 (0,0))
section
variable {X Y : World} {n : Nat} {v0 v1 v2 v3 v4 v5 : Value}
theorem Blk.facts (h : Blk X n v0 v1 v2 v3 v4 v5) : n < X.heap.size ∧ X.cell? ⟨n,0,none⟩ = some v0 ∧ X.cell? ⟨n,1,none⟩ = some v1 ∧ X.cell? ⟨n,2,none⟩ = some v2 ∧ X.cell? ⟨n,3,none⟩ = some v3 ∧ X.cell? ⟨n,4,none⟩ = some v4 ∧ X.cell? ⟨n,5,none⟩ = some v5 ∧
 X.frozen? ⟨n,0,none⟩ = false ∧ X.frozen? ⟨n,1,none⟩ = false ∧ X.frozen? ⟨n,2,none⟩ = false ∧ X.frozen? ⟨n,3,none⟩ = false ∧ X.frozen? ⟨n,4,none⟩ = false ∧ X.frozen? ⟨n,5,none⟩ = false:=by
 refine ⟨(Array.getElem?_eq_some_iff.1 h).1,?_,?_,?_,?_,?_,?_,frozen_of_row X n _ _ _ h,frozen_of_row X n _ _ _ h,frozen_of_row X n _ _ _ h,frozen_of_row X n _ _ _ h,frozen_of_row X n _ _ _ h,frozen_of_row X n _ _ _ h⟩ <;> rw [cell_of_row _ _ _ _ _ _ h] <;> rfl
theorem Blk.alloc (h : Blk X n v0 v1 v2 v3 v4 v5) (o : Obj) : Blk (X.alloc o) n v0 v1 v2 v3 v4 v5:=(Below.heap_alloc X o n (Array.getElem?_eq_some_iff.1 h).1).trans h
theorem Blk.drew (h : Blk X n v0 v1 v2 v3 v4 v5) : Blk X.drew n v0 v1 v2 v3 v4 v5:=h
theorem Blk.drewN (h : Blk X n v0 v1 v2 v3 v4 v5) (m : Nat) : Blk (X.drewN m) n v0 v1 v2 v3 v4 v5:=h
theorem Blk.setO (h : Blk X n v0 v1 v2 v3 v4 v5) {b : Nat} (hne : n ≠ b) (o : Nat) (v : Value) : Blk (X.setCell ⟨b,o,none⟩ v) n v0 v1 v2 v3 v4 v5:=(heap_setCell_other X ⟨b,o,none⟩ n v hne).trans h
theorem Blk.set0 (h : Blk X n v0 v1 v2 v3 v4 v5) (v : Value) : Blk (X.setCell ⟨n,0,none⟩ v) n v v1 v2 v3 v4 v5:=heap_setCell_same X n 0 _ _ v h
theorem Blk.set1 (h : Blk X n v0 v1 v2 v3 v4 v5) (v : Value) : Blk (X.setCell ⟨n,1,none⟩ v) n v0 v v2 v3 v4 v5:=heap_setCell_same X n 1 _ _ v h
theorem Blk.set2 (h : Blk X n v0 v1 v2 v3 v4 v5) (v : Value) : Blk (X.setCell ⟨n,2,none⟩ v) n v0 v1 v v3 v4 v5:=heap_setCell_same X n 2 _ _ v h
theorem Blk.set3 (h : Blk X n v0 v1 v2 v3 v4 v5) (v : Value) : Blk (X.setCell ⟨n,3,none⟩ v) n v0 v1 v2 v v4 v5:=heap_setCell_same X n 3 _ _ v h
theorem Blk.set4 (h : Blk X n v0 v1 v2 v3 v4 v5) (v : Value) : Blk (X.setCell ⟨n,4,none⟩ v) n v0 v1 v2 v3 v v5:=heap_setCell_same X n 4 _ _ v h
theorem Blk.set5 (h : Blk X n v0 v1 v2 v3 v4 v5) (v : Value) : Blk (X.setCell ⟨n,5,none⟩ v) n v0 v1 v2 v3 v4 v:=heap_setCell_same X n 5 _ _ v h
theorem Blk.all (h : Blk X n v0 v1 v2 v3 v4 v5) (u0 u1 u2 u3 u4 u5 : Value) : Blk ((((((X.setCell ⟨n,0,none⟩ u0).setCell ⟨n,1,none⟩ u1).setCell ⟨n,2,none⟩ u2).setCell ⟨n,3,none⟩ u3).setCell ⟨n,4,none⟩ u4).setCell ⟨n,5,none⟩ u5) n u0 u1 u2 u3 u4 u5 :=
 (((((h.set0 u0).set1 u1).set2 u2).set3 u3).set4 u4).set5 u5
theorem Blk.fr {rb : Nat} (h : Blk X n v0 v1 v2 v3 v4 v5) (hf : Fr (some rb) X Y) (hne : n ≠ rb) : Blk Y n v0 v1 v2 v3 v4 v5:=(hf.block (Array.getElem?_eq_some_iff.1 h).1 (by simp;exact hne)).trans h
theorem Blk.stay (h : Blk X n v0 v1 v2 v3 v4 v5) (hf : Below X.heap.size X Y) : Blk Y n v0 v1 v2 v3 v4 v5:=(hf.block n (Array.getElem?_eq_some_iff.1 h).1).trans h
theorem Blk.new (hn : n = X.heap.size) (v0 v1 v2 v3 v4 v5 : Value) : Blk (X.alloc (.cells #[v0,v1,v2,v3,v4,v5] 71)) n v0 v1 v2 v3 v4 v5:=hn ▸ heap_alloc_new X _
end
end Go.Proofs.YtkhbbapocamlmaaDoor
namespace Go.Proofs.YtkhbbapocamlmaaDoor
open Go Go.RowKit
theorem bld_size : (Tryd.prog.info? 62).map (fun i => i.size) = some 2:=by kernel_rfl
theorem bld_lies : liesAt Tryd.prog Tryd.prog.depth 62 (2 / Tryd.prog.cellsOf 62) 0 62 1 = true:=by kernel_rfl
theorem bld_byte : (Tryd.prog.info? 5).map (fun i => (i.zero,i.size,i.bytes)) = some (some (.int .u8 0),1,1):=by kernel_rfl
abbrev Bld (B b : Nat) (bs : List Value) (w : World) : Prop:=Lib.IsBuilderF 62 5 B b bs w
theorem check_fresh (b : Nat) (w : World) (h0 : w.cell? ⟨b,0,none⟩ = some (.pointer none)) (hsh : w.shape? b = some (62,2)) (hfz : w.frozen? ⟨b,0,none⟩ = false) :
 Calls Tryd.prog 63 #[.pointer (some ⟨b,0,none⟩)] w fun e w' => e = .returned (.tuple #[]) ∧ w' = w.setCell ⟨b,0,none⟩ (.pointer (some ⟨b,0,none⟩)):=by
 obtain ⟨j,hj,hjs⟩:=Option.map_eq_some_iff.1 bld_size
 go_enter Tryd.func63,Tryd.ntmps63
 go_wp2
 rw [Lib.run_to_unsafe w ⟨b,0,none⟩ Tryd.underlying59 Tryd.underlying124 hj (by rw [hjs];decide) hsh (Nat.zero_lt_succ 1)]
 simp only [Result.andThen]
 rw [Oper.upon_value]
 go_wp2
 rw [run_callFunc_extern Tryd.func79 (by kernel_rfl) (by kernel_rfl) (by kernel_rfl) (e:=Extern.AbiNoEscape.same) (by kernel_rfl)]
 rw [Lib.run_noEscape]
 simp only [Result.andThen]
 rw [Oper.upon_value]
 go_wp2
 rw [Lib.run_from_unsafe w ⟨b,0,none⟩ Tryd.underlying124 Tryd.underlying59 hj hsh bld_lies]
 simp only [Result.andThen]
 rw [Oper.upon_value]
 go_wp2
 go_end0
 exact ⟨rfl,rfl⟩
theorem check_used (b : Nat) (w : World) (h0 : w.cell? ⟨b,0,none⟩ = some (.pointer (some ⟨b,0,none⟩))) :
 Calls Tryd.prog 63 #[.pointer (some ⟨b,0,none⟩)] w fun e w' => e = .returned (.tuple #[]) ∧ w' = w:=by
 obtain ⟨j,hj,_⟩:=Option.map_eq_some_iff.1 bld_size
 go_enter Tryd.func63,Tryd.ntmps63
 go_wp2
 rw [Lib.run_neq_ptr_same w _ Tryd.underlying59 hj]
 go_wp2
 go_end0
 exact ⟨rfl,rfl⟩
theorem check_any (B b : Nat) (bs : List Value) (w : World) (h : Bld B b bs w) :
 Calls Tryd.prog 63 #[.pointer (some ⟨b,0,none⟩)] w fun e w' => e = .returned (.tuple #[]) ∧ Lib.BuilderAtF 62 5 B b (.pointer (some ⟨b,0,none⟩)) bs w' ∧ Below B w w' ∧ Lib.OthersKept 5 (some b) w w':=by
 rcases h with h | h
 · refine (check_fresh b w h.cell0 h.shape h.frozen0).mono ?_
   rintro e w' ⟨rfl,rfl⟩
   exact ⟨rfl,h.used _,(Below.refl B w).setCell (p:=⟨b,0,none⟩) h.1 _,(Lib.OthersKept.refl _ _ w).setCell ⟨b,0,none⟩ rfl _⟩
 · refine (check_used b w h.cell0).mono ?_
   rintro e w' ⟨rfl,rfl⟩
   exact ⟨rfl,h,Below.refl B _,Lib.OthersKept.refl _ _ _⟩
theorem write_any (B b : Nat) (bs : List Value) (s : ByteArray) (w : World) (h : Hid (Bld B b bs w)) (hlen : bs.length + s.size ≤ 140737488355328) (hBw : B ≤ w.heap.size) :
 Calls Tryd.prog 47 #[.pointer (some ⟨b,0,none⟩),.string s] w fun e w' => e = .returned (.tuple #[.int .i64 s.size,.nilIface]) ∧ Bld B b (bs ++ Lib.strCells s) w' ∧ Below B w w' ∧ Lib.OthersKept 5 (some b) w w':=by
 obtain ⟨i0,hi,hz0,hz1,hz2⟩:=info_parts bld_byte
 go_enter Tryd.func47,Tryd.ntmps47
 go_wp2_with (first
  | (go_at_call 63;(with_reducible refine (check_any B b bs _ h.out).mono ?_);rintro e w1 ⟨rfl,h1,hb1,hk1⟩;obtain ⟨hB,v,hbk,hown,hne⟩:=h1;have c0 : w1.cell? ⟨b,0,none⟩ = some (.pointer (some ⟨b,0,none⟩)):=(Lib.cell_of_heap hbk 0).trans rfl;have c1 : w1.cell? ⟨b,1,none⟩ = some v:=(Lib.cell_of_heap hbk 1).trans rfl)
  | (at_builtin;refine Lib.wpList_append_own_stringF _ rfl _ _ 60 9 rfl B 5 i0 Tryd.underlying60 Tryd.underlying9 hi hz0 hz1 hz2 _ _ _ rfl hown s rfl ?c3 ?c4 ?c5 ?_))
 case c3 => unfold maxLen;omega
 case c4 => omega
 case c5 => (have:=hb1.size;omega)
 intro v' w2 hown' hgrow _
 have hlt : b < w1.heap.size:=(Array.getElem?_eq_some_iff.1 hbk).1
 have hb2 : w2.heap[b]? = some (.cells #[.pointer (some ⟨b,0,none⟩),v] 62 (0,0)):=(hgrow.block b hlt (fun e => hne e.symm)).trans hbk
 have d0 : w2.cell? ⟨b,0,none⟩ = some (.pointer (some ⟨b,0,none⟩)):=(Lib.cell_of_heap hb2 0).trans rfl
 have d1 : w2.cell? ⟨b,1,none⟩ = some v:=(Lib.cell_of_heap hb2 1).trans rfl
 have f1 : w2.frozen? ⟨b,1,none⟩ = false:=Lib.frozen_of_heap hb2 1
 obtain ⟨ao,n',cap,rfl⟩ : ∃ ao n' cap,v' = .slice ao n' cap:=by
  rcases hown'.2 with ⟨hv,_⟩ | ⟨g,cap,cur,fz,hv,_⟩
  · exact ⟨_,_,_,hv⟩
  · exact ⟨_,_,_,hv⟩
 go_wp2
 go_ret2
 refine ⟨rfl,.inr ?_,?_,(hk1.grown hgrow (Lib.ownsRowF_kind hown)).setCell ⟨b,1,none⟩ rfl _⟩
 · exact Lib.BuilderAtF.put (T:=62) (e:=5) hB hb2 (bs':=bs ++ Lib.strCells s) (by simpa [Lib.strCells_length] using hown') (by decide)
 · exact (hb1.grown hgrow (by have:=hb1.size;omega) (fun k hk => (hown.lt k hk).1)).setCell (p:=⟨b,1,none⟩) hB _
end Go.Proofs.YtkhbbapocamlmaaDoor
namespace Go.Proofs.YtkhbbapocamlmaaDoor
def isBlank (c : UInt8) : Bool:=c == 32 || c == 9 || c == 10 || c == 13
def isLetter (c : UInt8) : Bool:=(decide (65 ≤ c.toNat) && decide (c.toNat ≤ 90)) || (decide (97 ≤ c.toNat) && decide (c.toNat ≤ 122)) || decide (c.toNat = 95)
def isDigit (c : UInt8) : Bool:=decide (48 ≤ c.toNat) && decide (c.toNat ≤ 57)
def isPart (c : UInt8) : Bool:=isLetter c || isDigit c
def pairL : List (List UInt8):=[[38,38],[124,124],[61,61],[33,61],[60,61],[62,61],[60,60],[62,62]]
def oneL : List UInt8:=[43,45,42,47,37,38,124,94,60,62,33,61,40,41,91,93,123,125,59,44]
def spanL (l : List UInt8) : Nat:=(l.takeWhile isPart).length
def noteL (l : List UInt8) : Nat:=(l.takeWhile (· != 10)).length
def sgnLen : List UInt8 → Nat
 | [] => 0
 | [a] => if oneL.contains a then 1 else 0
 | a :: b :: _ => if pairL.contains [a,b] then 2 else if oneL.contains a then 1 else 0
inductive Tok where
 | gap (n : Nat)
 | word (k : Int) (n : Nat) (v : Int)
 | bad (e : Int)
def tok (num : List UInt8 → Option Int) : List UInt8 → Tok
 | [] => .gap 0
 | c :: r =>
  if isBlank c = true then .gap 1
  else if c = 47 ∧ r.head? = some 47 then .gap (noteL (c :: r))
  else if isLetter c = true then (if 24 < spanL (c :: r) then .bad 2 else .word 0 (spanL (c :: r)) 0)
  else if isDigit c = true then (match num ((c :: r).take (spanL (c :: r))) with | some v => .word 1 (spanL (c :: r)) v | none => .bad 10)
  else if sgnLen (c :: r) = 0 then .bad 10
  else .word 2 (sgnLen (c :: r)) 0
structure Wd where
 k : Int
 t : List UInt8
 n : Int
 a : Nat
inductive Sc (num : List UInt8 → Option Int) : List UInt8 → Nat → List Wd → Option (Int × Nat) → Prop
 | done (a : Nat) : Sc num [] a [⟨3,[],0,a⟩] none
 | bad (l : List UInt8) (a : Nat) (e : Int) : l ≠ [] → tok num l = .bad e → Sc num l a [] (some (e,a))
 | gap (l : List UInt8) (a n : Nat) (ws : List Wd) (r : Option (Int × Nat)) : l ≠ [] → tok num l = .gap n → Sc num (l.drop n) (a + n) ws r → Sc num l a ws r
 | word (l : List UInt8) (a n : Nat) (k v : Int) (ws : List Wd) (r : Option (Int × Nat)) : l ≠ [] → tok num l = .word k n v → Sc num (l.drop n) (a + n) ws r → Sc num l a (⟨k,l.take n,v,a⟩ :: ws) r
theorem span_le (l : List UInt8) : spanL l ≤ l.length:=by
 unfold spanL
 exact List.Sublist.length_le (List.takeWhile_sublist _)
theorem note_le (l : List UInt8) : noteL l ≤ l.length:=by
 unfold noteL
 exact List.Sublist.length_le (List.takeWhile_sublist _)
theorem span_pos {c : UInt8} {r : List UInt8} (h : isPart c = true) : 1 ≤ spanL (c :: r):=by
 unfold spanL
 rw [List.takeWhile_cons,if_pos h]
 simp
theorem sgn_le (l : List UInt8) : sgnLen l ≤ l.length:=by
 match l with
 | [] => simp [sgnLen]
 | [a] => simp only [sgnLen];split <;> simp
 | a :: b :: r => simp only [sgnLen];split <;> (try split) <;> simp <;> omega
section
variable {num : List UInt8 → Option Int} {l : List UInt8}
theorem tok_gap {n : Nat} (hl : l ≠ []) (h : tok num l = .gap n) : 1 ≤ n ∧ n ≤ l.length:=by
 obtain ⟨c,r,rfl⟩:=List.exists_cons_of_ne_nil hl
 simp only [tok] at h
 split at h
 · injection h with h;subst h;simp
 · split at h
   · rename_i h2
     injection h with h
     subst h
     refine ⟨?_,note_le _⟩
     unfold noteL
     rw [List.takeWhile_cons,if_pos (by rw [h2.1];decide)]
     simp
   · split at h
     · split at h <;> cases h
     · split at h
       · split at h <;> cases h
       · split at h <;> cases h
theorem tok_word {n : Nat} {k v : Int} (hl : l ≠ []) (h : tok num l = .word k n v) : 1 ≤ n ∧ n ≤ l.length:=by
 obtain ⟨c,r,rfl⟩:=List.exists_cons_of_ne_nil hl
 simp only [tok] at h
 split at h
 · cases h
 · split at h
   · cases h
   · split at h
     · rename_i h3
       split at h
       · cases h
       · injection h with h1 h2 h3'
         subst h2
         exact ⟨span_pos (by simp [isPart,h3]),span_le _⟩
     · split at h
       · rename_i h4
         split at h
         · injection h with h1 h2 h3'
           subst h2
           exact ⟨span_pos (by simp [isPart,h4]),span_le _⟩
         · cases h
       · split at h
         · cases h
         · rename_i h5
           injection h with h1 h2 h3'
           subst h2
           exact ⟨by omega,sgn_le _⟩
theorem Sc.total (num : List UInt8 → Option Int) : ∀ (m : Nat) (l : List UInt8) (a : Nat),l.length ≤ m → ∃ ws r,Sc num l a ws r:=by
 intro m
 induction m with
 | zero =>
  intro l a h
  have : l = []:=List.eq_nil_of_length_eq_zero (by omega)
  subst this
  exact ⟨_,_,.done a⟩
 | succ m ih =>
  intro l a h
  by_cases hl : l = []
  · subst hl
    exact ⟨_,_,.done a⟩
  · cases ht : tok num l with
    | gap n =>
     obtain ⟨h1,h2⟩:=tok_gap hl ht
     obtain ⟨ws,r,hs⟩:=ih (l.drop n) (a + n) (by rw [List.length_drop];omega)
     exact ⟨ws,r,.gap l a n ws r hl ht hs⟩
    | word k n v =>
     obtain ⟨h1,h2⟩:=tok_word hl ht
     obtain ⟨ws,r,hs⟩:=ih (l.drop n) (a + n) (by rw [List.length_drop];omega)
     exact ⟨_,r,.word l a n k v ws r hl ht hs⟩
    | bad e => exact ⟨_,_,.bad l a e hl ht⟩
theorem Sc.nil_inv {a : Nat} {ws : List Wd} {r : Option (Int × Nat)} (h : Sc num [] a ws r) : ws = [⟨3,[],0,a⟩] ∧ r = none:=by
 cases h with
 | done => exact ⟨rfl,rfl⟩
 | bad _ _ _ h => exact absurd rfl h
 | gap _ _ _ _ _ h => exact absurd rfl h
 | word _ _ _ _ _ _ _ h => exact absurd rfl h
theorem Sc.gap_inv {a n : Nat} {ws : List Wd} {r : Option (Int × Nat)} (h : Sc num l a ws r) (hl : l ≠ []) (ht : tok num l = .gap n) : Sc num (l.drop n) (a + n) ws r:=by
 cases h with
 | done => exact absurd rfl hl
 | bad _ _ _ _ h2 => rw [ht] at h2;cases h2
 | gap _ _ _ _ _ _ h2 h3 => rw [ht] at h2;cases h2;exact h3
 | word _ _ _ _ _ _ _ _ h2 => rw [ht] at h2;cases h2
theorem Sc.word_inv {a n : Nat} {k v : Int} {ws : List Wd} {r : Option (Int × Nat)} (h : Sc num l a ws r) (hl : l ≠ []) (ht : tok num l = .word k n v) : ∃ ws',ws = ⟨k,l.take n,v,a⟩ :: ws' ∧ Sc num (l.drop n) (a + n) ws' r:=by
 cases h with
 | done => exact absurd rfl hl
 | bad _ _ _ _ h2 => rw [ht] at h2;cases h2
 | gap _ _ _ _ _ _ h2 h3 => rw [ht] at h2;cases h2
 | word _ _ _ _ _ _ _ _ h2 h3 => rw [ht] at h2;cases h2;exact ⟨_,rfl,h3⟩
theorem Sc.bad_inv {a : Nat} {e : Int} {ws : List Wd} {r : Option (Int × Nat)} (h : Sc num l a ws r) (hl : l ≠ []) (ht : tok num l = .bad e) : ws = [] ∧ r = some (e,a):=by
 cases h with
 | done => exact absurd rfl hl
 | bad _ _ _ _ h2 => rw [ht] at h2;cases h2;exact ⟨rfl,rfl⟩
 | gap _ _ _ _ _ _ h2 h3 => rw [ht] at h2;cases h2
 | word _ _ _ _ _ _ _ _ h2 => rw [ht] at h2;cases h2
end
end Go.Proofs.YtkhbbapocamlmaaDoor
namespace Go.Proofs.YtkhbbapocamlmaaDoor
theorem takeWhile_stop {α : Type} (p : α → Bool) (x : α) (hx : p x = false) (tl : List α) : ∀ l : List α,(l ++ x :: tl).takeWhile p = l.takeWhile p
 | [] => by simp [List.takeWhile_cons,hx]
 | c :: r => by
  rw [List.cons_append,List.takeWhile_cons,List.takeWhile_cons,takeWhile_stop p x hx tl r]
theorem take_takeWhile {α : Type} (p : α → Bool) : ∀ l : List α,l.take (l.takeWhile p).length = l.takeWhile p
 | [] => rfl
 | c :: r => by
  rw [List.takeWhile_cons]
  split
  · simp [take_takeWhile p r]
  · simp
theorem takeWhile_all {α : Type} (p : α → Bool) : ∀ l : List α,(∀ c ∈ l,p c = true) → l.takeWhile p = l
 | [],_ => rfl
 | c :: r,h => by
  rw [List.takeWhile_cons,if_pos (h c (by simp)),takeWhile_all p r (fun d hd => h d (by simp [hd]))]
def Sep (x : UInt8) : Prop:=x = 32 ∨ x = 10
theorem Sep.part {x : UInt8} (h : Sep x) : isPart x = false:=by rcases h with rfl | rfl <;> decide
theorem Sep.blank {x : UInt8} (h : Sep x) : isBlank x = true:=by rcases h with rfl | rfl <;> decide
theorem Sep.pair {x : UInt8} (h : Sep x) (a : UInt8) : pairL.contains [a,x] = false:=by rcases h with rfl | rfl <;> simp [pairL]
section
variable {num : List UInt8 → Option Int} {l : List UInt8}
theorem sgn_stop {x : UInt8} (hx : Sep x) (tl : List UInt8) : ∀ l : List UInt8,l ≠ [] → sgnLen (l ++ x :: tl) = sgnLen l
 | [],h => absurd rfl h
 | [a],_ => by simp only [List.cons_append,List.nil_append,sgnLen,hx.pair];rfl
 | a :: b :: r,_ => rfl
theorem tok_stop {tl : List UInt8} (hl : l ≠ []) : tok num (l ++ 10 :: tl) = tok num l:=by
 have hx : Sep 10:=Or.inr rfl
 have e1 : spanL (l ++ 10 :: tl) = spanL l:=by unfold spanL;rw [takeWhile_stop isPart 10 hx.part]
 have e2 : noteL (l ++ 10 :: tl) = noteL l:=by unfold noteL;rw [takeWhile_stop _ 10 (by decide)]
 have e3:=sgn_stop hx tl l hl
 have e4 : (l ++ 10 :: tl).take (spanL l) = l.take (spanL l):=List.take_append_of_le_length (span_le l)
 obtain ⟨c,r,rfl⟩:=List.exists_cons_of_ne_nil hl
 have e5 : ((r ++ 10 :: tl).head? = some 47) = (r.head? = some 47):=by
  cases r with
  | nil => simp
  | cons d r => simp
 rw [List.cons_append] at e1 e2 e3 e4 ⊢
 simp only [tok,e1,e2,e3,e4,e5]
theorem drop_app {n : Nat} {tl : List UInt8} (h : n ≤ l.length) : (l ++ tl).drop n = l.drop n ++ tl:=List.drop_append_of_le_length h
theorem take_app {n : Nat} {tl : List UInt8} (h : n ≤ l.length) : (l ++ tl).take n = l.take n:=List.take_append_of_le_length h
theorem Sc.join {a : Nat} {ws : List Wd} {r : Option (Int × Nat)} (h : Sc num l a ws r) (hr : r = none) :
 ∃ ws0,ws = ws0 ++ [⟨3,[],0,a + l.length⟩] ∧ ∀ tl ws2 r2,Sc num (10 :: tl) (a + l.length) ws2 r2 → Sc num (l ++ 10 :: tl) a (ws0 ++ ws2) r2:=by
 induction h with
 | done a => exact ⟨[],rfl,fun tl ws2 r2 h => h⟩
 | bad l a e hl ht => cases hr
 | gap l a n ws r hl ht hs ih =>
  obtain ⟨h1,h2⟩:=tok_gap hl ht
  obtain ⟨ws0,e1,h3⟩:=ih hr
  have e2 : a + n + (l.drop n).length = a + l.length:=by rw [List.length_drop];omega
  rw [e2] at e1 h3
  refine ⟨ws0,e1,fun tl ws2 r2 h => ?_⟩
  refine .gap _ a n _ _ (by simp) ((tok_stop hl).trans ht) ?_
  rw [drop_app h2]
  exact h3 tl ws2 r2 h
 | word l a n k v ws r hl ht hs ih =>
  obtain ⟨h1,h2⟩:=tok_word hl ht
  obtain ⟨ws0,e1,h3⟩:=ih hr
  have e2 : a + n + (l.drop n).length = a + l.length:=by rw [List.length_drop];omega
  rw [e2] at e1 h3
  refine ⟨⟨k,l.take n,v,a⟩ :: ws0,by rw [e1];rfl,fun tl ws2 r2 h => ?_⟩
  have:=Sc.word (num:=num) (l ++ 10 :: tl) a n k v (ws0 ++ ws2) r2 (by simp) ((tok_stop hl).trans ht) (by rw [drop_app h2];exact h3 tl ws2 r2 h)
  rw [take_app h2] at this
  exact this
theorem tok_nl (num : List UInt8 → Option Int) (tl : List UInt8) : tok num (10 :: tl) = .gap 1:=by simp [tok,isBlank]
theorem tok_note (num : List UInt8 → Option Int) (nt tl : List UInt8) (h : ∀ c ∈ nt,c ≠ 10) : tok num (47 :: 47 :: (nt ++ 10 :: tl)) = .gap (2 + nt.length):=by
 have e : noteL (47 :: 47 :: (nt ++ 10 :: tl)) = 2 + nt.length:=by
  have e0 : nt.takeWhile (fun c : UInt8 => c != 10) = nt:=takeWhile_all _ _ (fun c hc => by simpa using h c hc)
  unfold noteL
  rw [List.takeWhile_cons,if_pos (by decide),List.takeWhile_cons,if_pos (by decide),takeWhile_stop _ 10 (by decide),e0]
  simp
  omega
 simp only [tok]
 rw [if_neg (by decide),if_pos (by simp),e]
theorem Sc.note {b : Nat} {ws : List Wd} {r : Option (Int × Nat)} {t nt : List UInt8} (hn : ∀ c ∈ nt,c ≠ 10) (h : Sc num t (b + (nt.length + 4)) ws r) : Sc num (10 :: 47 :: 47 :: (nt ++ 10 :: t)) b ws r:=by
 refine .gap _ b 1 _ _ (by simp) (tok_nl num _) ?_
 show Sc num (47 :: 47 :: (nt ++ 10 :: t)) (b + 1) ws r
 refine .gap _ (b + 1) (2 + nt.length) _ _ (by simp) (tok_note num nt t hn) ?_
 have e : (47 :: 47 :: (nt ++ 10 :: t)).drop (2 + nt.length) = 10 :: t:=by
  rw [Nat.add_comm,List.drop_succ_cons,List.drop_succ_cons,List.drop_left]
 rw [e]
 refine .gap _ _ 1 _ _ (by simp) (tok_nl num _) ?_
 rw [show b + 1 + (2 + nt.length) + 1 = b + (nt.length + 4) by omega]
 exact h
def Wd.key (w : Wd) : Int × List UInt8 × Int:=(w.k,w.t,w.n)
def joinT (x : UInt8) : List Wd → List UInt8
 | [] => []
 | w :: r => w.t ++ x :: joinT x r
def Placed (S : List UInt8) : Nat → List Wd → Prop
 | _,[] => False
 | lo,[w] => w.k = 3 ∧ w.t = [] ∧ lo ≤ w.a ∧ w.a ≤ S.length
 | lo,w :: r => w.k ≠ 3 ∧ lo ≤ w.a ∧ w.a + w.t.length ≤ S.length ∧ (S.drop w.a).take w.t.length = w.t ∧ 1 ≤ w.t.length ∧ Placed S (w.a + w.t.length) r
theorem Placed.lower {S : List UInt8} {lo lo' : Nat} {ws : List Wd} (h : Placed S lo ws) (hl : lo' ≤ lo) : Placed S lo' ws:=by
 match ws,h with
 | [w],h => exact ⟨h.1,h.2.1,by have:=h.2.2.1;omega,h.2.2.2⟩
 | w :: v :: r,h => exact ⟨h.1,by have:=h.2.1;omega,h.2.2⟩
theorem tok_kind {n : Nat} {k v : Int} (h : tok num l = .word k n v) : k ≠ 3:=by
 cases l with
 | nil => simp [tok] at h
 | cons c r =>
  simp only [tok] at h
  repeat' split at h
  all_goals first
   | cases h;done
   | (injection h with h1;omega)
theorem Placed.long {S : List UInt8} {x : UInt8} : ∀ (ws : List Wd) (lo : Nat),Placed S lo ws → (joinT x ws).length ≤ 2 * (S.length - lo) + 1
 | [],_,h => absurd h (by simp [Placed])
 | [w],lo,h => by simp [joinT,h.2.1]
 | w :: v :: r,lo,h => by
  obtain ⟨_,h2,h3,_,h5,h6⟩:=h
  have:=Placed.long (x:=x) (v :: r) _ h6
  rw [joinT,List.length_append,List.length_cons]
  omega
end
end Go.Proofs.YtkhbbapocamlmaaDoor
namespace Go.Proofs.YtkhbbapocamlmaaDoor
theorem Placed.get {S : List UInt8} : ∀ (W : List Wd) (lo k : Nat) (x : Wd),Placed S lo W → W[k]? = some x →
 lo ≤ x.a ∧ x.a + x.t.length ≤ S.length ∧ (S.drop x.a).take x.t.length = x.t ∧ (x.k = 3 ↔ k + 1 = W.length)
 | [],_,_,_,h,_ => absurd h (by simp [Placed])
 | [w],lo,0,x,h,hx => by
  simp at hx
  subst hx
  obtain ⟨h1,h2,h3,h4⟩:=h
  rw [h2]
  exact ⟨h3,by simpa using h4,rfl,by simp [h1]⟩
 | [w],lo,k + 1,x,_,hx => by simp at hx
 | w :: v :: r,lo,0,x,h,hx => by
  simp at hx
  subst hx
  obtain ⟨h1,h2,h3,h4,h5,h6⟩:=h
  exact ⟨h2,h3,h4,by simp [h1]⟩
 | w :: v :: r,lo,k + 1,x,h,hx => by
  obtain ⟨h1,h2,h3,h4,h5,h6⟩:=h
  obtain ⟨e1,e2,e3,e4⟩:=Placed.get (v :: r) _ k x h6 (by simpa using hx)
  refine ⟨by omega,e2,e3,?_⟩
  rw [e4]
  simp
theorem Placed.next {S : List UInt8} : ∀ (W : List Wd) (lo k : Nat) (y x : Wd),Placed S lo W → W[k]? = some y → W[k + 1]? = some x → y.a + y.t.length ≤ x.a
 | [],_,_,_,_,h,_,_ => absurd h (by simp [Placed])
 | [w],_,k,_,x,_,_,hx => by simp at hx
 | w :: v :: r,lo,0,y,x,h,hy,hx => by
  simp at hy
  subst hy
  obtain ⟨h1,h2,h3,h4,h5,h6⟩:=h
  exact (Placed.get (v :: r) _ 0 x h6 (by simpa using hx)).1
 | w :: v :: r,lo,k + 1,y,x,h,hy,hx => by
  obtain ⟨h1,h2,h3,h4,h5,h6⟩:=h
  exact Placed.next (v :: r) _ k y x h6 (by simpa using hy) (by simpa using hx)
theorem Sc.bad_code {num : List UInt8 → Option Int} {l : List UInt8} {a : Nat} {W : List Wd} {r : Option (Int × Nat)} (h : Sc num l a W r) : ∀ e p,r = some (e,p) → e = 2 ∨ e = 10:=by
 induction h with
 | done a => intro e p h;cases h
 | bad l a e hl ht =>
  intro e p h
  cases h
  cases l with
  | nil => simp [tok] at ht
  | cons c r =>
   simp only [tok] at ht
   repeat' split at ht
   all_goals first
    | cases ht;done
    | (injection ht with h1;omega)
 | gap l a n ws r hl ht hs ih => exact ih
 | word l a n k v ws r hl ht hs ih => exact ih
theorem Sc.few {num : List UInt8 → Option Int} {l : List UInt8} {a : Nat} {X : List Wd} {r : Option (Int × Nat)} (h : Sc num l a X r) (hr : r = none) : X.length ≤ l.length + 1:=by
 induction h with
 | done a => exact Nat.le_refl _
 | bad l a e hl ht => cases hr
 | gap l a n ws r hl ht hs ih =>
  have:=ih hr
  rw [List.length_drop] at this
  omega
 | word l a n k v ws r hl ht hs ih =>
  have h1:=tok_word hl ht
  have:=ih hr
  rw [List.length_drop] at this
  rw [List.length_cons]
  omega
theorem Sc.some_words {num : List UInt8 → Option Int} {l : List UInt8} {a : Nat} {W : List Wd} {r : Option (Int × Nat)} (h : Sc num l a W r) (hr : r = none) : 0 < W.length:=by
 induction h with
 | done a => exact Nat.one_pos
 | bad l a e hl ht => cases hr
 | gap l a n ws r hl ht hs ih => exact ih hr
 | word l a n k v ws r hl ht hs ih => exact Nat.succ_pos _
open Go
def sgnL : List ByteArray:=[⟨#[43]⟩,⟨#[45]⟩,⟨#[42]⟩,⟨#[47]⟩,⟨#[37]⟩,⟨#[38]⟩,⟨#[124]⟩,⟨#[94]⟩,⟨#[60,60]⟩,⟨#[62,62]⟩,⟨#[61,61]⟩,⟨#[33,61]⟩,⟨#[60]⟩,⟨#[60,61]⟩,⟨#[62]⟩,⟨#[62,61]⟩,⟨#[]⟩,⟨#[38,38]⟩,⟨#[124,124]⟩]
def sgn (n : Nat) : ByteArray:=sgnL.getD n ByteArray.empty
def rnkL : List Int:=[9,9,10,10,10,5,3,4,8,8,6,6,7,7,7,7,0,2,1]
def rnk (n : Nat) : Int:=rnkL.getD n 0
def sgnZ (o : Int) : ByteArray:=if 0 ≤ o ∧ o ≤ 18 then sgn o.toNat else ⟨#[]⟩
def rnkZ (o : Int) : Int:=if 0 ≤ o ∧ o ≤ 18 then rnk o.toNat else 0
def opGo (s : ByteArray) : Nat → Nat → Int
 | 0,_ => -1
 | f + 1,k => if (sgn k).toList == s.toList then k else opGo s f (k + 1)
def opM (s : ByteArray) : Int:=if s.toList.isEmpty then -1 else opGo s 19 0
def keyL : List (List UInt8):=[[112,117,98,108,105,99],[115,101,99,114,101,116],[105,110,116],[98,111,111,108],[98,121],[108,111,99,107],[102,117,110,99],[114,101,116,117,114,110],[116,104,114,101,97,100],[118,97,114],[105,102],[101,108,115,101],[119,104,105,108,101],[111,117,116],[116,114,117,101],[102,97,108,115,101]]
def keyB (l : List UInt8) : Bool:=keyL.any fun k => k == l
def sgB (k : Nat) : List UInt8:=(sgn k).data.toList
def opB (t : List UInt8) : Int:=opM ⟨t.toArray⟩
theorem opGo_lt (s : ByteArray) : ∀ f k,opGo s f k = -1 ∨ ∃ j,k ≤ j ∧ j < k + f ∧ opGo s f k = (j : Int) ∧ (sgn j).toList = s.toList
 | 0,k => .inl rfl
 | f + 1,k => by
  by_cases h : ((sgn k).toList == s.toList) = true
  · refine .inr ⟨k,Nat.le_refl _,by omega,?_,by simpa using h⟩
    rw [opGo,if_pos h]
  · rw [opGo,if_neg h]
    rcases opGo_lt s f (k + 1) with h1 | ⟨j,h1,h2,h3,h4⟩
    · exact .inl h1
    · exact .inr ⟨j,by omega,by omega,h3,h4⟩
theorem opB_some {t : List UInt8} (h : 0 ≤ opB t) : ∃ j : Nat,j < 19 ∧ opB t = (j : Int) ∧ sgB j = t:=by
 unfold opB opM at h ⊢
 split at h
 · omega
 · rename_i hn
   rw [if_neg hn]
   rcases opGo_lt ⟨t.toArray⟩ 19 0 with h1 | ⟨j,h1,h2,h3,h4⟩
   · omega
   · refine ⟨j,by omega,h3,?_⟩
     rw [ByteArray.toList_eq,ByteArray.toList_eq] at h4
     unfold sgB
     rw [h4]
theorem rnkZ_in {o : Int} (h : 1 ≤ rnkZ o) : 0 ≤ o ∧ o ≤ 18 ∧ o ≠ 16:=by
 unfold rnkZ at h
 split at h
 · rename_i hh
   refine ⟨hh.1,hh.2,fun e => ?_⟩
   subst e
   exact absurd h (by decide)
 · omega
theorem rnkZ_le (o : Int) : 0 ≤ rnkZ o ∧ rnkZ o ≤ 10:=by
 unfold rnkZ
 split
 · rename_i hh
   obtain ⟨n,rfl⟩:=Int.eq_ofNat_of_zero_le hh.1
   have hn : n ≤ 18:=by omega
   show 0 ≤ rnk n ∧ rnk n ≤ 10
   have : ∀ n : Nat,n ≤ 18 → 0 ≤ rnk n ∧ rnk n ≤ 10:=by decide
   exact this n hn
 · omega
theorem op_rank {t : List UInt8} (h : 1 ≤ rnkZ (opB t)) : ∃ j : Nat,j < 19 ∧ j ≠ 16 ∧ opB t = (j : Int) ∧ sgB j = t:=by
 have h1:=rnkZ_in h
 obtain ⟨j,h2,h3,h4⟩:=opB_some h1.1
 exact ⟨j,h2,by have:=h1.2.2;omega,h3,h4⟩
inductive Ex where
 | mk (k op n : Int) (nm : List UInt8) (ks : List Ex) (a : Nat)
def Ex.k : Ex → Int | .mk k _ _ _ _ _ => k
def Ex.op : Ex → Int | .mk _ o _ _ _ _ => o
def Ex.n : Ex → Int | .mk _ _ n _ _ _ => n
def Ex.nm : Ex → List UInt8 | .mk _ _ _ t _ _ => t
def Ex.ks : Ex → List Ex | .mk _ _ _ _ l _ => l
def Ex.a : Ex → Nat | .mk _ _ _ _ _ a => a
def Sg (w : Wd) (t : List UInt8) : Prop:=w.k = 2 ∧ w.t = t
def rkW (w : Wd) : Int:=if w.k = 2 then rnkZ (opB w.t) else 0
def truB : List UInt8:=[116,114,117,101]
def flsB : List UInt8:=[102,97,108,115,101]
def Stray (w : Wd) : Prop:=w.k ≠ 1 ∧ (w.k = 0 → keyB w.t = true ∧ w.t ≠ truB ∧ w.t ≠ flsB) ∧ (w.k = 2 → w.t ≠ [45] ∧ w.t ≠ [33] ∧ w.t ≠ [40])
inductive Job where
 | thing
 | beh (k : Int)
 | wth (c : List UInt8)
 | nam
 | giv
 | expr (r : Int)
 | loop (r : Int) (l : Ex)
 | list (acc : List Ex)
inductive Res where
 | ok (e : Ex) (ts : List Wd)
 | okL (es : List Ex) (ts : List Wd)
 | bad (e : Int) (a : Nat)
inductive P : Nat → Job → List Wd → Res → Prop
 | num {o : Nat} {w : Wd} {ts : List Wd} : w.k = 1 → P o .thing (w :: ts) (.ok (.mk 0 0 w.n [] [] w.a) ts)
 | tru {o : Nat} {w : Wd} {ts : List Wd} : w.k = 0 → w.t = truB → P o .thing (w :: ts) (.ok (.mk 1 0 1 [] [] w.a) ts)
 | fls {o : Nat} {w : Wd} {ts : List Wd} : w.k = 0 → w.t = flsB → P o .thing (w :: ts) (.ok (.mk 1 0 0 [] [] w.a) ts)
 | neg {o : Nat} {w : Wd} {ts : List Wd} {r : Res} : Sg w [45] → P o (.beh 4) (w :: ts) r → P o .thing (w :: ts) r
 | not {o : Nat} {w : Wd} {ts : List Wd} {r : Res} : Sg w [33] → P o (.beh 5) (w :: ts) r → P o .thing (w :: ts) r
 | par {o : Nat} {w : Wd} {ts : List Wd} {r : Res} : Sg w [40] → P o (.wth [41]) (w :: ts) r → P o .thing (w :: ts) r
 | name {o : Nat} {w : Wd} {ts : List Wd} {r : Res} : w.k = 0 → keyB w.t = false → P o .nam (w :: ts) r → P o .thing (w :: ts) r
 | stray {o : Nat} {w : Wd} {ts : List Wd} : Stray w → P o .thing (w :: ts) (.bad 11 w.a)
 | behLim {o : Nat} {k : Int} {w : Wd} {ts : List Wd} : o = 32 → P o (.beh k) (w :: ts) (.bad 2 w.a)
 | behOk {o : Nat} {k : Int} {w : Wd} {ts ts' : List Wd} {e : Ex} : o < 32 → P (o + 1) .thing ts (.ok e ts') → P o (.beh k) (w :: ts) (.ok (.mk k 0 0 [] [e] w.a) ts')
 | behBad {o : Nat} {k : Int} {w : Wd} {ts : List Wd} {e : Int} {a : Nat} : o < 32 → P (o + 1) .thing ts (.bad e a) → P o (.beh k) (w :: ts) (.bad e a)
 | wthLim {o : Nat} {c : List UInt8} {w : Wd} {ts : List Wd} : o = 32 → P o (.wth c) (w :: ts) (.bad 2 w.a)
 | wthOk {o : Nat} {c : List UInt8} {w d : Wd} {ts ts' : List Wd} {e : Ex} : o < 32 → P (o + 1) (.expr 1) ts (.ok e (d :: ts')) → Sg d c → P o (.wth c) (w :: ts) (.ok e ts')
 | wthNo {o : Nat} {c : List UInt8} {w d : Wd} {ts ts' : List Wd} {e : Ex} : o < 32 → P (o + 1) (.expr 1) ts (.ok e (d :: ts')) → ¬ Sg d c → P o (.wth c) (w :: ts) (.bad 11 d.a)
 | wthBad {o : Nat} {c : List UInt8} {w : Wd} {ts : List Wd} {e : Int} {a : Nat} : o < 32 → P (o + 1) (.expr 1) ts (.bad e a) → P o (.wth c) (w :: ts) (.bad e a)
 | namVar {o : Nat} {w c : Wd} {ts : List Wd} : ¬ Sg c [91] → ¬ Sg c [40] → P o .nam (w :: c :: ts) (.ok (.mk 2 0 0 w.t [] w.a) (c :: ts))
 | namElem {o : Nat} {w c : Wd} {ts ts' : List Wd} {e : Ex} : Sg c [91] → P o (.wth [93]) (c :: ts) (.ok e ts') → P o .nam (w :: c :: ts) (.ok (.mk 3 0 0 w.t [e] w.a) ts')
 | namElemBad {o : Nat} {w c : Wd} {ts : List Wd} {e : Int} {a : Nat} : Sg c [91] → P o (.wth [93]) (c :: ts) (.bad e a) → P o .nam (w :: c :: ts) (.bad e a)
 | namCall {o : Nat} {w c : Wd} {ts ts' : List Wd} {es : List Ex} : Sg c [40] → P o .giv (c :: ts) (.okL es ts') → P o .nam (w :: c :: ts) (.ok (.mk 7 0 0 w.t es w.a) ts')
 | namCallBad {o : Nat} {w c : Wd} {ts : List Wd} {e : Int} {a : Nat} : Sg c [40] → P o .giv (c :: ts) (.bad e a) → P o .nam (w :: c :: ts) (.bad e a)
 | givLim {o : Nat} {w : Wd} {ts : List Wd} : o = 32 → P o .giv (w :: ts) (.bad 2 w.a)
 | givNone {o : Nat} {w d : Wd} {ts : List Wd} : o < 32 → Sg d [41] → P o .giv (w :: d :: ts) (.okL [] ts)
 | givSome {o : Nat} {w d f : Wd} {ts ts' : List Wd} {es : List Ex} : o < 32 → ¬ Sg d [41] → P (o + 1) (.list []) (d :: ts) (.okL es (f :: ts')) → Sg f [41] → P o .giv (w :: d :: ts) (.okL es ts')
 | givNo {o : Nat} {w d f : Wd} {ts ts' : List Wd} {es : List Ex} : o < 32 → ¬ Sg d [41] → P (o + 1) (.list []) (d :: ts) (.okL es (f :: ts')) → ¬ Sg f [41] → P o .giv (w :: d :: ts) (.bad 11 f.a)
 | givBad {o : Nat} {w d : Wd} {ts : List Wd} {e : Int} {a : Nat} : o < 32 → ¬ Sg d [41] → P (o + 1) (.list []) (d :: ts) (.bad e a) → P o .giv (w :: d :: ts) (.bad e a)
 | lstMore {o : Nat} {d : Wd} {ts ts' : List Wd} {acc : List Ex} {e : Ex} {r : Res} : P o (.expr 1) ts (.ok e (d :: ts')) → Sg d [44] → P o (.list (acc ++ [e])) ts' r → P o (.list acc) ts r
 | lstEnd {o : Nat} {d : Wd} {ts ts' : List Wd} {acc : List Ex} {e : Ex} : P o (.expr 1) ts (.ok e (d :: ts')) → ¬ Sg d [44] → P o (.list acc) ts (.okL (acc ++ [e]) (d :: ts'))
 | lstBad {o : Nat} {ts : List Wd} {acc : List Ex} {e : Int} {a : Nat} : P o (.expr 1) ts (.bad e a) → P o (.list acc) ts (.bad e a)
 | expr {o : Nat} {r : Int} {ts ts' : List Wd} {l : Ex} {res : Res} : P o .thing ts (.ok l ts') → P o (.loop r l) ts' res → P o (.expr r) ts res
 | exprBad {o : Nat} {r : Int} {ts : List Wd} {e : Int} {a : Nat} : P o .thing ts (.bad e a) → P o (.expr r) ts (.bad e a)
 | loopEnd {o : Nat} {r : Int} {l : Ex} {c : Wd} {ts : List Wd} : rkW c < r → P o (.loop r l) (c :: ts) (.ok l (c :: ts))
 | loopMore {o : Nat} {r : Int} {l e : Ex} {c : Wd} {ts ts' : List Wd} {res : Res} : r ≤ rkW c → P o (.expr (rkW c + 1)) ts (.ok e ts') → P o (.loop r (.mk 6 (opB c.t) 0 [] [l,e] l.a)) ts' res → P o (.loop r l) (c :: ts) res
 | loopBad {o : Nat} {r : Int} {l : Ex} {c : Wd} {ts : List Wd} {e : Int} {a : Nat} : r ≤ rkW c → P o (.expr (rkW c + 1)) ts (.bad e a) → P o (.loop r l) (c :: ts) (.bad e a)
def Fin (ts : List Wd) : Prop:=∃ pre e,ts = pre ++ [e] ∧ e.k = 3
theorem Fin.cons {w : Wd} {ts : List Wd} (h : Fin (w :: ts)) (hw : w.k ≠ 3) : Fin ts:=by
 obtain ⟨pre,e,h1,h2⟩:=h
 cases pre with
 | nil =>
  simp at h1
  exact absurd (h1.1 ▸ h2) hw
 | cons x pre =>
  simp at h1
  exact ⟨pre,e,h1.2,h2⟩
theorem Fin.ne {ts : List Wd} (h : Fin ts) : ∃ w r,ts = w :: r:=by
 obtain ⟨pre,e,h1,_⟩:=h
 cases pre with
 | nil => exact ⟨e,[],by simpa using h1⟩
 | cons x pre => exact ⟨x,pre ++ [e],by simpa using h1⟩
theorem Sg.ne {w : Wd} {t : List UInt8} (h : Sg w t) : w.k ≠ 3:=by rw [h.1];decide
theorem rkW_ne {w : Wd} (h : 1 ≤ rkW w) : w.k = 2 ∧ 1 ≤ rnkZ (opB w.t):=by
 unfold rkW at h
 split at h
 · exact ⟨by assumption,h⟩
 · omega
theorem rkW_bd (w : Wd) : 0 ≤ rkW w ∧ rkW w ≤ 10:=by
 unfold rkW
 split
 · exact rnkZ_le _
 · omega
def Job.lst : Job → Bool | .giv => true | .list _ => true | _ => false
def Job.min : Job → Nat | .loop _ _ => 0 | _ => 1
def Job.low : Job → Prop | .expr r => 1 ≤ r | .loop r _ => 1 ≤ r | _ => True
def Post (j : Job) (ts : List Wd) : Res → Prop
 | .ok _ ts' => j.lst = false ∧ Fin ts' ∧ ts'.length + j.min ≤ ts.length
 | .okL _ ts' => j.lst = true ∧ Fin ts' ∧ ts'.length + j.min ≤ ts.length
 | .bad _ _ => True
theorem P.post {o : Nat} {j : Job} {ts : List Wd} {r : Res} (h : P o j ts r) : j.low → Fin ts → (j = .nam → ∀ w t,ts = w :: t → w.k = 0) → (∀ k,j = .beh k → ∀ w t,ts = w :: t → w.k = 2) → (∀ c,j = .wth c → ∀ w t,ts = w :: t → w.k = 2) → (j = .giv → ∀ w t,ts = w :: t → w.k = 2) → Post j ts r:=by
 induction h with
 | num h => intro _ hf _ _ _ _;exact ⟨rfl,hf.cons (by rw [h];decide),by simp [Job.min]⟩
 | tru h _ => intro _ hf _ _ _ _;exact ⟨rfl,hf.cons (by rw [h];decide),by simp [Job.min]⟩
 | fls h _ => intro _ hf _ _ _ _;exact ⟨rfl,hf.cons (by rw [h];decide),by simp [Job.min]⟩
 | @neg o w ts r hs h ih =>
  intro _ hf _ _ _ _
  have:=ih trivial hf (by simp) (by rintro k - w' t' e;simp at e;rw [← e.1];exact hs.1) (by simp) (by simp)
  cases r <;> simp_all [Post,Job.lst,Job.min]
 | @not o w ts r hs h ih =>
  intro _ hf _ _ _ _
  have:=ih trivial hf (by simp) (by rintro k - w' t' e;simp at e;rw [← e.1];exact hs.1) (by simp) (by simp)
  cases r <;> simp_all [Post,Job.lst,Job.min]
 | @par o w ts r hs h ih =>
  intro _ hf _ _ _ _
  have:=ih trivial hf (by simp) (by simp) (by rintro k - w' t' e;simp at e;rw [← e.1];exact hs.1) (by simp)
  cases r <;> simp_all [Post,Job.lst,Job.min]
 | @name o w ts r hs hk h ih =>
  intro _ hf _ _ _ _
  have:=ih trivial hf (by rintro - w' t' e;simp at e;rw [← e.1];exact hs) (by simp) (by simp) (by simp)
  cases r <;> simp_all [Post,Job.lst,Job.min]
 | stray => intros;trivial
 | behLim => intros;trivial
 | @behOk o k w ts ts' e ho h ih =>
  intro _ hf _ hb _ _
  have:=ih trivial (hf.cons (by rw [hb k rfl w ts rfl];decide)) (by simp) (by simp) (by simp) (by simp)
  simp [Post,Job.lst,Job.min] at this ⊢
  exact ⟨this.1,by omega⟩
 | behBad => intros;trivial
 | wthLim => intros;trivial
 | @wthOk o c w d ts ts' e ho h hd ih =>
  intro _ hf _ _ hb _
  have:=ih (by simp [Job.low]) (hf.cons (by rw [hb c rfl w ts rfl];decide)) (by simp) (by simp) (by simp) (by simp)
  simp [Post,Job.lst,Job.min] at this ⊢
  exact ⟨this.1.cons hd.ne,by omega⟩
 | wthNo => intros;trivial
 | wthBad => intros;trivial
 | namVar h1 h2 => intro _ hf hn _ _ _;exact ⟨rfl,hf.cons (by rw [hn rfl _ _ rfl];decide),by simp [Job.min]⟩
 | @namElem o w c ts ts' e hs h ih =>
  intro _ hf hn _ _ _
  have:=ih trivial (hf.cons (by rw [hn rfl _ _ rfl];decide)) (by simp) (by simp) (by rintro k - w' t' e;simp at e;rw [← e.1];exact hs.1) (by simp)
  simp [Post,Job.lst,Job.min] at this ⊢
  exact ⟨this.1,by omega⟩
 | namElemBad => intros;trivial
 | @namCall o w c ts ts' es hs h ih =>
  intro _ hf hn _ _ _
  have:=ih trivial (hf.cons (by rw [hn rfl _ _ rfl];decide)) (by simp) (by simp) (by simp) (by rintro - w' t' e;simp at e;rw [← e.1];exact hs.1)
  simp [Post,Job.lst,Job.min] at this ⊢
  exact ⟨this.1,by omega⟩
 | namCallBad => intros;trivial
 | givLim => intros;trivial
 | @givNone o w d ts ho hd =>
  intro _ hf _ _ _ hg
  exact ⟨rfl,(hf.cons (by rw [hg rfl _ _ rfl];decide)).cons hd.ne,by simp [Job.min]⟩
 | @givSome o w d f ts ts' es ho hd h hf' ih =>
  intro _ hf _ _ _ hg
  have:=ih trivial (hf.cons (by rw [hg rfl _ _ rfl];decide)) (by simp) (by simp) (by simp) (by simp)
  simp [Post,Job.lst,Job.min] at this ⊢
  exact ⟨this.1.cons hf'.ne,by omega⟩
 | givNo => intros;trivial
 | givBad => intros;trivial
 | @lstMore o d ts ts' acc e r h hd h2 ih ih2 =>
  intro _ hf _ _ _ _
  have h1:=ih (by simp [Job.low]) hf (by simp) (by simp) (by simp) (by simp)
  simp [Post,Job.lst,Job.min] at h1
  have h3:=ih2 trivial (h1.1.cons hd.ne) (by simp) (by simp) (by simp) (by simp)
  cases r <;> simp [Post,Job.lst,Job.min] at h3 ⊢
  exact ⟨h3.1,by omega⟩
 | @lstEnd o d ts ts' acc e h hd ih =>
  intro _ hf _ _ _ _
  have h1:=ih (by simp [Job.low]) hf (by simp) (by simp) (by simp) (by simp)
  simpa [Post,Job.lst,Job.min] using h1
 | lstBad => intros;trivial
 | @expr o r ts ts' l res h h2 ih ih2 =>
  intro hl hf _ _ _ _
  have h1:=ih trivial hf (by simp) (by simp) (by simp) (by simp)
  simp [Post,Job.lst,Job.min] at h1
  have h3:=ih2 hl h1.1 (by simp) (by simp) (by simp) (by simp)
  cases res <;> simp [Post,Job.lst,Job.min] at h3 ⊢
  exact ⟨h3.1,by omega⟩
 | exprBad => intros;trivial
 | loopEnd => intro _ hf _ _ _ _;exact ⟨rfl,hf,by simp [Job.min]⟩
 | @loopMore o r l e c ts ts' res hr h h2 ih ih2 =>
  intro hl hf _ _ _ _
  have hc : 1 ≤ rkW c:=Int.le_trans hl hr
  have h1:=ih (by simp [Job.low];omega) (hf.cons (by rw [(rkW_ne hc).1];decide)) (by simp) (by simp) (by simp) (by simp)
  simp [Post,Job.lst,Job.min] at h1
  have h3:=ih2 hl h1.1 (by simp) (by simp) (by simp) (by simp)
  cases res <;> simp [Post,Job.lst,Job.min] at h3 ⊢
  exact ⟨h3.1,by omega⟩
 | loopBad => intros;trivial
def Suf (ts : List Wd) : Res → Prop
 | .ok _ ts' => ts' <:+ ts
 | .okL _ ts' => ts' <:+ ts
 | .bad _ _ => True
theorem suf_cons {w : Wd} {a b : List Wd} (h : a <:+ b) : a <:+ w :: b:=h.trans (List.suffix_cons _ _)
theorem P.suf0 {o : Nat} {j : Job} {ts : List Wd} {r : Res} (h : P o j ts r) : Suf ts r:=by
 induction h with
 | num => exact List.suffix_cons _ _
 | tru => exact List.suffix_cons _ _
 | fls => exact List.suffix_cons _ _
 | neg _ _ ih => exact ih
 | not _ _ ih => exact ih
 | par _ _ ih => exact ih
 | name _ _ _ ih => exact ih
 | stray => trivial
 | behLim => trivial
 | behOk _ _ ih => exact suf_cons ih
 | behBad => trivial
 | wthLim => trivial
 | wthOk _ _ _ ih => exact suf_cons ((List.suffix_cons _ _).trans ih)
 | wthNo => trivial
 | wthBad => trivial
 | namVar => exact List.suffix_cons _ _
 | namElem _ _ ih => exact suf_cons ih
 | namElemBad => trivial
 | namCall _ _ ih => exact suf_cons ih
 | namCallBad => trivial
 | givLim => trivial
 | givNone => exact suf_cons (List.suffix_cons _ _)
 | givSome _ _ _ _ ih => exact suf_cons ((List.suffix_cons _ _).trans ih)
 | givNo => trivial
 | givBad => trivial
 | @lstMore _ _ _ _ _ _ r _ _ _ ih ih2 =>
  cases r with
  | ok => exact List.IsSuffix.trans ih2 ((List.suffix_cons _ _).trans ih)
  | okL => exact List.IsSuffix.trans ih2 ((List.suffix_cons _ _).trans ih)
  | bad => trivial
 | lstEnd _ _ ih => exact ih
 | lstBad => trivial
 | @expr _ _ _ _ _ r _ _ ih ih2 =>
  cases r with
  | ok => exact List.IsSuffix.trans ih2 ih
  | okL => exact List.IsSuffix.trans ih2 ih
  | bad => trivial
 | exprBad => trivial
 | loopEnd => exact List.suffix_refl _
 | @loopMore _ _ _ _ _ _ _ r _ _ _ ih ih2 =>
  cases r with
  | ok => exact suf_cons (List.IsSuffix.trans ih2 ih)
  | okL => exact suf_cons (List.IsSuffix.trans ih2 ih)
  | bad => trivial
 | loopBad => trivial
theorem P.suf {o : Nat} {j : Job} {ts ts' : List Wd} {x : Ex} (h : P o j ts (.ok x ts')) : ts' <:+ ts:=h.suf0
open Go Go.RowKit
def blankR (r : Int) : Bool:=decide (r = 32 ∨ r = 9 ∨ r = 10 ∨ r = 13)
def letterR (r : Int) : Bool:=decide ((65 ≤ r ∧ r ≤ 90) ∨ (97 ≤ r ∧ r ≤ 122) ∨ r = 95)
def digitR (r : Int) : Bool:=decide (48 ≤ r ∧ r ≤ 57)
theorem ret_bool {a b : Bool} (h : a = b) : Ending.returned (.bool a) = .returned (.bool b):=by rw [h]
theorem rletter_any (r : Int) (w : World) : Calls Tryd.prog 34 #[.int .u8 r] w fun e w' => e = .returned (.bool (letterR r)) ∧ w = w':=by
 go_enter Tryd.func34,Tryd.ntmps34
 go_wp2
 all_goals
  go_ret
  exact ⟨ret_bool (by rw [Bool.eq_iff_iff];simp [letterR] <;> omega),rfl⟩
theorem rdigit_any (r : Int) (w : World) : Calls Tryd.prog 35 #[.int .u8 r] w fun e w' => e = .returned (.bool (digitR r)) ∧ w = w':=by
 go_enter Tryd.func35,Tryd.ntmps35
 go_wp2
 all_goals
  go_ret
  exact ⟨ret_bool (by rw [Bool.eq_iff_iff];simp [digitR] <;> omega),rfl⟩
def Rn (r : Int) (c : UInt8) : Prop:=(c.toNat < 128 ∧ r = c.toNat) ∨ (128 ≤ c.toNat ∧ 128 ≤ r)
theorem Rn.blank {r : Int} {c : UInt8} (h : Rn r c) : blankR r = isBlank c:=by
 have e : isBlank c = decide (c.toNat = 32 ∨ c.toNat = 9 ∨ c.toNat = 10 ∨ c.toNat = 13):=by
  rw [Bool.eq_iff_iff]
  simp [isBlank,← UInt8.toNat_inj]
  omega
 rw [e,Bool.eq_iff_iff]
 simp only [blankR,decide_eq_true_eq]
 rcases h with ⟨h1,rfl⟩ | ⟨h1,h2⟩ <;> omega
theorem Rn.letter {r : Int} {c : UInt8} (h : Rn r c) : letterR r = isLetter c:=by
 rw [Bool.eq_iff_iff]
 simp only [letterR,isLetter,decide_eq_true_eq,Bool.or_eq_true,Bool.and_eq_true]
 rcases h with ⟨h1,rfl⟩ | ⟨h1,h2⟩ <;> omega
theorem letterR_byte (c : UInt8) : letterR c.toNat = isLetter c:=by
 rw [Bool.eq_iff_iff]
 simp only [letterR,isLetter,decide_eq_true_eq,Bool.or_eq_true,Bool.and_eq_true]
 omega
theorem digitR_byte (c : UInt8) : digitR c.toNat = isDigit c:=by
 rw [Bool.eq_iff_iff]
 simp only [digitR,isDigit,decide_eq_true_eq,Bool.and_eq_true]
 omega
theorem Rn.nl {r : Int} {c : UInt8} (h : Rn r c) : (r == 10) = (c == 10):=by
 rw [Bool.eq_iff_iff]
 simp only [beq_iff_eq,← UInt8.toNat_inj]
 rcases h with ⟨h1,rfl⟩ | ⟨h1,h2⟩
 · show (c.toNat : Int) = 10 ↔ c.toNat = 10
   omega
 · show r = 10 ↔ c.toNat = 10
   omega
theorem get_off (s : ByteArray) (i : Nat) (h : i < s.size) : s.get! i = s[i]'h:=by
 simp [ByteArray.get!,getElem!_pos,h]
 rfl
theorem decode_cont (s : ByteArray) (p j : Nat) (_ : p < s.size) (h1 : p < j) (h2 : j < p + (Utf8.decode s p).2) : ∃ h : j < s.size,128 ≤ (s[j]'h).toNat:=by
 have key : ∀ k,(decide (p + k < s.size) && (s.get! (p + k)).toNat / 64 == 2) = true → j = p + k → ∃ h : j < s.size,128 ≤ (s[j]'h).toNat:=by
  rintro k hk rfl
  simp only [Bool.and_eq_true,decide_eq_true_eq,beq_iff_eq] at hk
  refine ⟨hk.1,?_⟩
  rw [← get_off s _ hk.1]
  omega
 simp only [Utf8.decode] at h2
 repeat' split at h2
 all_goals first
  | omega
  | (rename_i h4 h5;simp only [Bool.and_eq_true] at h4;exact key 1 (by simpa using h4.2) (by omega))
  | (rename_i h4 h5
     simp only [Bool.and_eq_true] at h4
     rcases (show j = p + 1 ∨ j = p + 2 by omega) with h | h
     · exact key 1 (by simpa using h4.1.2) h
     · exact key 2 (by simpa using h4.2) h)
  | (rename_i h4 h5
     simp only [Bool.and_eq_true] at h4
     rcases (show j = p + 1 ∨ j = p + 2 ∨ j = p + 3 by omega) with h | h | h
     · exact key 1 (by simpa using h4.1.1.2) h
     · exact key 2 (by simpa using h4.1.2) h
     · exact key 3 (by simpa using h4.2) h)
theorem decode_pos (s : ByteArray) (p : Nat) (hp : p < s.size) : 1 ≤ (Utf8.decode s p).2:=by
 by_cases ha : (s[p]'hp).toNat < 128
 · rw [decode_ascii s p hp ha]
   exact Nat.le_refl _
 · exact (decode_high s p hp (by omega)).2
theorem decode_stop (s : ByteArray) (p q : Nat) (hp : p < s.size) (hq : p < q) (ha : ∀ h : q < s.size,(s[q]'h).toNat < 128) : p + (Utf8.decode s p).2 ≤ q:=by
 by_cases h : p + (Utf8.decode s p).2 ≤ q
 · exact h
 · exfalso
   obtain ⟨h1,h2⟩:=decode_cont s p q hp hq (by omega)
   have:=ha h1
   omega
inductive Comes (s : ByteArray) : Nat → Nat → Prop
 | here (q : Nat) : Comes s q q
 | on (p q : Nat) : p < q → Comes s (p + (Utf8.decode s p).2) q → Comes s p q
theorem Comes.step {s : ByteArray} {p q : Nat} (h : Comes s p q) (hpq : p < q) : Comes s (p + (Utf8.decode s p).2) q:=by
 cases h with
 | here => exact absurd hpq (by omega)
 | on _ _ _ h => exact h
theorem Comes.stop (s : ByteArray) (q : Nat) (hq : q ≤ s.size) (ha : ∀ h : q < s.size,(s[q]'h).toNat < 128) : ∀ (d p : Nat),q ≤ p + d → p ≤ q → Comes s p q
 | 0,p,h,h2 => by
  obtain rfl : p = q:=by omega
  exact .here _
 | d + 1,p,h,h2 => by
  by_cases hpq : p = q
  · subst hpq
    exact .here _
  · have hp : p < s.size:=by omega
    have:=decode_pos s p hp
    exact .on p q (by omega) (Comes.stop s q hq ha d _ (by omega) (decode_stop s p q hp (by omega) ha))
theorem ret_str {a b : ByteArray} (h : a = b) : Ending.returned (.string a) = .returned (.string b):=by rw [h]
theorem ret_i {a b : Int} (h : a = b) : Ending.returned (.int .i64 a) = .returned (.int .i64 b):=by rw [h]
structure Table (w : World) : Prop where
 size : 1 < w.heap.size
 sign : ∀ n,n < 19 → w.cell? ⟨1,n * 2,none⟩ = some (.string (sgn n))
 rank : ∀ n,n < 19 → w.cell? ⟨1,n * 2 + 1,none⟩ = some (.int .i64 (rnk n))
theorem Table.below {w w' : World} (T : Table w) (hb : Below w.heap.size w w') : Table w' where
 size:=Nat.lt_of_lt_of_le T.size hb.size
 sign n hn:=(hb.cell (p:=⟨1,n * 2,none⟩) T.size).trans (T.sign n hn)
 rank n hn:=(hb.cell (p:=⟨1,n * 2 + 1,none⟩) T.size).trans (T.rank n hn)
theorem known_t (n : Int) (w : World) (h0 : 0 ≤ n) (h : n ≤ 18) : Calls Tryd.prog 106 #[.int .i64 n] w fun e w' => e = .returned (.bool true) ∧ w = w':=by
 have hd : decide (n ≤ 18) = true:=by simpa using h
 go_enter Tryd.func106,Tryd.ntmps106
 go_wp2
 go_ret
 exact ⟨rfl,rfl⟩
theorem known_f (n : Int) (w : World) (h : n < 0 ∨ 18 < n) : Calls Tryd.prog 106 #[.int .i64 n] w fun e w' => e = .returned (.bool false) ∧ w = w':=by
 rcases h with h | h
 · have hd : decide (0 ≤ n) = false:=by simp;omega
   go_enter Tryd.func106,Tryd.ntmps106
   go_wp2
   go_ret
   exact ⟨rfl,rfl⟩
 · have hd : decide (n ≤ 18) = false:=by simp;omega
   have hd0 : decide (0 ≤ n) = true:=by simp;omega
   go_enter Tryd.func106,Tryd.ntmps106
   go_wp2
   go_ret
   exact ⟨rfl,rfl⟩
theorem sign_in (n : Nat) (s : ByteArray) (w : World) (hn : n < 19) (hc : w.cell? ⟨1,n * 2,none⟩ = some (.string s)) : Calls Tryd.prog 97 #[.int .i64 n] w fun e w' => e = .returned (.string s) ∧ w = w':=by
 go_enter Tryd.func97,Tryd.ntmps97
 go_wp2_with (go_at_call 106;refine (known_t _ _ (by omega) (by omega)).mono ?_;rintro e w' ⟨rfl,rfl⟩)
 go_ret
 exact ⟨rfl,rfl⟩
theorem sign_out (n : Int) (w : World) (h : n < 0 ∨ 18 < n) : Calls Tryd.prog 97 #[.int .i64 n] w fun e w' => e = .returned (.string ⟨#[]⟩) ∧ w = w':=by
 have H:=hid h
 clear h
 go_enter Tryd.func97,Tryd.ntmps97
 go_wp2_with (go_at_call 106;refine (known_f _ _ H.out).mono ?_;rintro e w' ⟨rfl,rfl⟩)
 go_ret
 exact ⟨rfl,rfl⟩
theorem sign_any (n : Int) (w : World) (T : Table w) : Calls Tryd.prog 97 #[.int .i64 n] w fun e w' => e = .returned (.string (sgnZ n)) ∧ w = w':=by
 by_cases h : 0 ≤ n ∧ n ≤ 18
 · obtain ⟨m,rfl⟩:=Int.eq_ofNat_of_zero_le h.1
   have e1 : sgnZ (m : Int) = sgn m:=by unfold sgnZ;rw [if_pos h];rfl
   rw [e1]
   exact sign_in m _ w (by omega) (T.sign m (by omega))
 · have e1 : sgnZ n = ⟨#[]⟩:=if_neg h
   rw [e1]
   exact sign_out n w (by omega)
theorem rank_in (n : Nat) (s : Int) (w : World) (hn : n < 19) (hc : w.cell? ⟨1,n * 2 + 1,none⟩ = some (.int .i64 s)) : Calls Tryd.prog 96 #[.int .i64 n] w fun e w' => e = .returned (.int .i64 s) ∧ w = w':=by
 go_enter Tryd.func96,Tryd.ntmps96
 go_wp2_with (go_at_call 106;refine (known_t _ _ (by omega) (by omega)).mono ?_;rintro e w' ⟨rfl,rfl⟩)
 go_ret
 exact ⟨rfl,rfl⟩
theorem rank_out (n : Int) (w : World) (h : n < 0 ∨ 18 < n) : Calls Tryd.prog 96 #[.int .i64 n] w fun e w' => e = .returned (.int .i64 0) ∧ w = w':=by
 have H:=hid h
 clear h
 go_enter Tryd.func96,Tryd.ntmps96
 go_wp2_with (go_at_call 106;refine (known_f _ _ H.out).mono ?_;rintro e w' ⟨rfl,rfl⟩)
 go_ret
 exact ⟨rfl,rfl⟩
theorem rank_any (n : Int) (w : World) (T : Table w) : Calls Tryd.prog 96 #[.int .i64 n] w fun e w' => e = .returned (.int .i64 (rnkZ n)) ∧ w = w':=by
 by_cases h : 0 ≤ n ∧ n ≤ 18
 · obtain ⟨m,rfl⟩:=Int.eq_ofNat_of_zero_le h.1
   have e1 : rnkZ (m : Int) = rnk m:=by unfold rnkZ;rw [if_pos h];rfl
   rw [e1]
   exact rank_in m _ w (by omega) (T.rank m (by omega))
 · have e1 : rnkZ n = 0:=if_neg h
   rw [e1]
   exact rank_out n w (by omega)
theorem opGo_hit (s : ByteArray) (k : Nat) (hk : k < 19) (h : ((sgn k).toList == s.toList) = true) : opGo s (19 - k) k = k:=by
 have e : 19 - k = (19 - (k + 1)) + 1:=by omega
 rw [e,opGo,if_pos h]
theorem opGo_miss (s : ByteArray) (k : Nat) (hk : k < 19) (h : ((sgn k).toList == s.toList) = false) : opGo s (19 - k) k = opGo s (19 - (k + 1)) (k + 1):=by
 have e : 19 - k = (19 - (k + 1)) + 1:=by omega
 rw [e,opGo,if_neg (by simp [h])]
theorem opGo_end (s : ByteArray) (k : Nat) (hk : ¬ k < 19) : opGo s (19 - k) k = -1:=by
 have e : 19 - k = 0:=by omega
 rw [e,opGo]
open Go Go.RowKit Go.Sort
structure Laid (w : World) : Prop where
 tab : Table w
 rPow : 0 < w.heap.size
 pow : Lib.TabIs Tryd.prog w "internal/strconv.uint64pow10" .u64 Lib.pow10Tab
theorem gPow : Tryd.prog.globalNamed "internal/strconv.uint64pow10" = some 0:=by kernel_rfl
theorem Laid.below {w w' : World} (L : Laid w) (hb : Below w.heap.size w w') : Laid w' where
 tab:=L.tab.below hb
 rPow:=Nat.lt_of_lt_of_le L.rPow hb.size
 pow:=var?_below hb gPow L.rPow L.pow
theorem below_grow (w : World) (k : Nat) (os : Array Obj) : Below w.heap.size w (grow (w.drewN k) os):=by
 have h1 : Below w.heap.size w (w.drewN k):=below_drewN (Below.refl _ _) k
 refine ⟨h1.os,h1.tape,h1.output,?_,fun j hj => ?_⟩
 · have:=h1.size
   simp [grow]
 · rw [← h1.block j hj]
   simp only [grow]
   rw [Array.getElem?_append_left (by have:=h1.size;omega)]
def dig (n : Int) : ByteArray:=⟨(Lib.itoa n).toArray⟩
theorem digits_any (n : Int) (w : World) (L : Hid (Laid w)) (h0 : -9223372036854775808 ≤ n) (h1 : n ≤ 9223372036854775807) : Calls Tryd.prog 48 #[.int .i64 n] w fun e w' => e = .returned (.string (dig n)) ∧ Below w.heap.size w w':=by
 go_enter Tryd.func48,Tryd.ntmps48
 go_wp2_with (go_at_call 64;refine (Tryd.strconv_FormatInt_10 n h0 h1 _ L.out.pow).mono ?_;rintro e w' ⟨rfl,k,os,rfl⟩)
 go_ret
 exact ⟨rfl,below_grow w k os⟩
def numM (s : ByteArray) : Int × Bool :=
 if 19 < s.size then (0,false)
 else match Lib.parseIntB 64 s.data.toList with
  | .ok v => if v < 0 then (0,false) else if (dig v).toList == s.toList then (v,true) else (0,false)
  | _ => (0,false)
theorem at_list (s : ByteArray) (i : Nat) (h : i < s.size) : s.data.toList[i]? = some (s[i]'h):=by
 rw [List.getElem?_eq_getElem (by simpa using h)]
 rfl
def NoNl (s : ByteArray) (k : Nat) : Prop:=∀ i (h : i < s.size),i < k → (s[i]'h) ≠ 10
def AllPart (s : ByteArray) (k : Nat) : Prop:=∀ i (h : i < s.size),i < k → isPart (s[i]'h) = true
theorem AllPart.step {s : ByteArray} {k : Nat} (h : AllPart s k) (hk : k < s.size) (hp : isPart (s[k]'hk) = true) : AllPart s (k + 1):=by
 intro i hi h2
 by_cases e : i = k
 · subst e
   exact hp
 · exact h i hi (by omega)
theorem two_of (s : ByteArray) (h2 : 1 < s.size) : ∃ a b r,s.data.toList = a :: b :: r ∧ (s.extract 0 2).toList = [a,b] ∧ s[0]'(by omega) = a:=by
 have h : s.data.toList.length = s.size:=rfl
 match hl : s.data.toList,h with
 | [],h => simp at h;omega
 | [a],h => simp at h;omega
 | a :: b :: r,h =>
  refine ⟨a,b,r,rfl,?_,?_⟩
  · rw [Lib.extract_toList,hl];rfl
  · have:=at_list s 0 (by omega)
    rw [hl] at this
    simpa using this.symm
theorem one_of (s : ByteArray) (h2 : s.size = 1) : ∃ a,s.data.toList = [a] ∧ s[0]'(by omega) = a:=by
 have h : s.data.toList.length = s.size:=rfl
 match hl : s.data.toList,h with
 | [],h => simp at h;omega
 | [a],h =>
  refine ⟨a,rfl,?_⟩
  have:=at_list s 0 (by omega)
  rw [hl] at this
  simpa using this.symm
 | a :: b :: r,h => simp at h;omega
theorem sgn_pair (s : ByteArray) (h2 : 1 < s.size) (p : List UInt8) (hp : pairL.contains p = true) (h : ((s.extract 0 2).toList == p) = true) : sgnLen s.data.toList = 2:=by
 obtain ⟨a,b,r,e1,e2,_⟩:=two_of s h2
 rw [e2,beq_iff_eq] at h
 subst h
 rw [e1]
 simp only [sgnLen,hp,if_true]
theorem sgn_single (s : ByteArray) (h2 : 1 < s.size) (g0 : ((s.extract 0 2).toList == [38,38]) = false) (g1 : ((s.extract 0 2).toList == [124,124]) = false) (g2 : ((s.extract 0 2).toList == [61,61]) = false) (g3 : ((s.extract 0 2).toList == [33,61]) = false) (g4 : ((s.extract 0 2).toList == [60,61]) = false) (g5 : ((s.extract 0 2).toList == [62,61]) = false) (g6 : ((s.extract 0 2).toList == [60,60]) = false) (g7 : ((s.extract 0 2).toList == [62,62]) = false) : sgnLen s.data.toList = if oneL.contains (s[0]'(by omega)) = true then 1 else 0:=by
 obtain ⟨a,b,r,e1,e2,e3⟩:=two_of s h2
 rw [e2] at g0 g1 g2 g3 g4 g5 g6 g7
 have hp : pairL.contains [a,b] = false:=by
  simp only [pairL,List.contains_cons,List.contains_nil,g0,g1,g2,g3,g4,g5,g6,g7]
  rfl
 rw [e1,e3]
 simp only [sgnLen,hp,if_false,Bool.false_eq_true]
theorem sgn_one (s : ByteArray) (h2 : s.size = 1) : sgnLen s.data.toList = if oneL.contains (s[0]'(by omega)) = true then 1 else 0:=by
 obtain ⟨a,e1,e3⟩:=one_of s h2
 rw [e1,e3]
 rfl
abbrev wordV (k : Int) (t : ByteArray) (n a : Int) : Value:=.agg #[.int .i64 k,.string t,.int .i64 n,.int .i64 a]
theorem bcell {W w1 : World} (hb : Below W.heap.size W w1) : (∀ b o,b < W.heap.size → w1.cell? ⟨b,o,none⟩ = W.cell? ⟨b,o,none⟩) ∧ (∀ b o,b < W.heap.size → w1.frozen? ⟨b,o,none⟩ = W.frozen? ⟨b,o,none⟩) :=
 ⟨fun b o h => hb.cell (p:=⟨b,o,none⟩) h,fun b o h => hb.frozen (p:=⟨b,o,none⟩) h⟩
theorem below_after {w w1 : World} {o : Obj} (h : Below (w.alloc o).heap.size (w.alloc o) w1) : Below w.heap.size w w1:=((Below.refl _ _).alloc (Nat.le_refl _) _).trans (h.mono (by simp))
def numO (l : List UInt8) : Option Int:=match numM ⟨l.toArray⟩ with | (v,true) => some v | (_,false) => none
theorem numO_some {l : List UInt8} {v : Int} (h : numO l = some v) : numM ⟨l.toArray⟩ = (v,true):=by
 unfold numO at h
 split at h
 · rename_i e
   cases h
   exact e
 · cases h
theorem numO_none {l : List UInt8} (h : numO l = none) : ∃ v,numM ⟨l.toArray⟩ = (v,false):=by
 unfold numO at h
 split at h
 · cases h
 · rename_i e
   exact ⟨_,e⟩
theorem take_ext (s : ByteArray) (n : Nat) : s.extract 0 n = ⟨(s.data.toList.take n).toArray⟩:=by rw [Lib.extract_eq];rfl
def gapN (l : List UInt8) : Nat:=if isBlank (l.headD 0) = true then 1 else if l.head? = some 47 ∧ l.tail.head? = some 47 then noteL l else 0
def wcells (x : Wd) : List Value:=[.int .i64 x.k,.string ⟨x.t.toArray⟩,.int .i64 x.n,.int .i64 x.a]
def cellsW (l : List Wd) : List Value:=l.flatMap wcells
theorem cellsW_snoc (l : List Wd) (x : Wd) : cellsW (l ++ [x]) = cellsW l ++ wcells x:=by simp [cellsW]
theorem cellsW_at : ∀ (l : List Wd) (i : Nat) (x : Wd) (j : Nat) (u : Value),l[i]? = some x → (wcells x)[j]? = some u → (cellsW l)[i * 4 + j]? = some u
 | [],i,x,j,u,h,_ => by simp at h
 | y :: r,0,x,j,u,h,hu => by
  simp at h
  subst h
  have hj : j < 4:=(List.getElem?_eq_some_iff.1 hu).1
  show (wcells y ++ cellsW r)[0 * 4 + j]? = _
  rw [List.getElem?_append_left (by show 0 * 4 + j < 4;omega),Nat.zero_mul,Nat.zero_add]
  exact hu
 | y :: r,i + 1,x,j,u,h,hu => by
  show (wcells y ++ cellsW r)[(i + 1) * 4 + j]? = _
  rw [List.getElem?_append_right (by show 4 ≤ _;omega)]
  have e : (i + 1) * 4 + j - (wcells y).length = i * 4 + j:=by show (i + 1) * 4 + j - 4 = _;omega
  rw [e]
  exact cellsW_at r i x j u (by simpa using h) hu
theorem own_below {W W' : World} {B e size n : Nat} {v : Value} {xs : List Value} (h : W.ownsRow B e size v n xs) (hb : Below W.heap.size W W') : W'.ownsRow B e size v n xs:=by
 refine ⟨h.1,?_⟩
 rcases h.2 with h0 | ⟨g,cap,cur,hv,hB,hg,rest⟩
 · exact .inl h0
 · exact .inr ⟨g,cap,cur,hv,hB,(hb.block g (Array.getElem?_eq_some_iff.1 hg).1).trans hg,rest⟩
theorem add_off (g j : Nat) : (⟨g,0,none⟩ : Addr).add j = ⟨g,j,none⟩:=by
 unfold Addr.add
 split <;> simp_all
theorem cell_four_new (w : World) (T : TypeId) (a b c d : Value) (j : Nat) (u : Value) (h : [a,b,c,d][j]? = some u) : (w.alloc (.cells #[a,b,c,d] T)).cell? ((⟨w.heap.size,0,none⟩ : Addr).add j) = some u:=by
 rw [add_off,cell_of_row _ _ j #[a,b,c,d] T (0,0) (heap_alloc_new w _)]
 simpa using h
theorem cell_four_at (w : World) (T : TypeId) (a b c d : Value) (g : Nat) (hg : g = w.heap.size) (j : Nat) (u : Value) (h : [a,b,c,d][j]? = some u) : (w.alloc (.cells #[a,b,c,d] T)).cell? ((⟨g,0,none⟩ : Addr).add j) = some u:=by
 subst hg
 exact cell_four_new w T a b c d j u h
theorem four_one (a : Int) (t : ByteArray) (c d : Int) : ∀ u ∈ [Value.int .i64 a,Value.string t,Value.int .i64 c,Value.int .i64 d],u.oneCell' = true:=by
 intro u hu
 simp at hu
 rcases hu with rfl | rfl | rfl | rfl <;> rfl
theorem row_at {w : World} {B e n : Nat} {g cap : Nat} {W : List Wd} (h : w.ownsRow B e 4 (.slice (some ⟨g,0,none⟩) n cap) W.length (cellsW W)) {i : Nat} {x : Wd} (hx : W[i]? = some x) :
 w.cell? ⟨g,i * 4,none⟩ = some (.int .i64 x.k) ∧ w.cell? ⟨g,i * 4 + 1,none⟩ = some (.string ⟨x.t.toArray⟩) ∧ w.cell? ⟨g,i * 4 + 2,none⟩ = some (.int .i64 x.n) ∧ w.cell? ⟨g,i * 4 + 3,none⟩ = some (.int .i64 x.a):=by
 have key : ∀ j u,(wcells x)[j]? = some u → w.cell? ⟨g,i * 4 + j,none⟩ = some u:=by
  intro j u hu
  have:=h.cells (g:=g) rfl (i * 4 + j) u (cellsW_at W i x j u hx hu)
  rwa [add_off] at this
 exact ⟨key 0 _ rfl,key 1 _ rfl,key 2 _ rfl,key 3 _ rfl⟩
theorem rest_size (s : ByteArray) (p : Nat) : (s.extract p s.size).size = s.size - p:=by rw [ByteArray.size_extract];omega
theorem rest_list (s : ByteArray) (p : Nat) : (s.extract p s.size).data.toList = s.data.toList.drop p:=Lib.extract_to_end s p
theorem drop_ne (s : ByteArray) (p : Nat) (hp : p < s.size) : s.data.toList.drop p ≠ []:=by
 intro h
 have:=congrArg List.length h
 rw [List.length_drop] at this
 simp at this
 have e : s.data.size = s.size:=rfl
 omega
theorem drop_len (s : ByteArray) (p : Nat) : (s.data.toList.drop p).length = s.size - p:=by rw [List.length_drop];rfl
theorem list_at (s : ByteArray) (p i : Nat) (h : p + i < s.size) : (s.data.toList.drop p)[i]? = some (s[p + i]'h):=by rw [List.getElem?_drop,at_list s (p + i) h]
theorem take_all {α : Type} (p : α → Bool) : ∀ (l : List α) (i : Nat) (x : α),i < (l.takeWhile p).length → l[i]? = some x → p x = true
 | [],i,x,h,_ => by simp at h
 | c :: r,i,x,h,hx => by
  rw [List.takeWhile_cons] at h
  split at h
  · rename_i hc
    cases i with
    | zero =>
     simp at hx
     rw [← hx]
     exact hc
    | succ i => exact take_all p r i x (by simpa using h) (by simpa using hx)
  · simp at h
theorem note_end {l : List UInt8} {x : UInt8} (hx : l[noteL l]? = some x) : x = 10:=by
 unfold noteL at hx
 induction l with
 | nil => simp at hx
 | cons c r ih =>
  rw [List.takeWhile_cons] at hx
  split at hx
  · exact ih (by simpa using hx)
  · rename_i hc
    simp at hx hc
    rw [← hx]
    exact hc
def bstr (t : List UInt8) : ByteArray:=⟨t.toArray⟩
theorem bstr_eq {a b : List UInt8} : ((bstr a).toList == (bstr b).toList) = decide (a = b):=by
 rw [ByteArray.toList_eq,ByteArray.toList_eq]
 show (a == b) = _
 by_cases h : a = b <;> simp [h]
def rdCells (sl mp : Value) (nx op bad at' : Int) : Array Value:=#[sl,.int .i64 nx,.int .i64 op,mp,.int .i64 bad,.int .i64 at']
abbrev wdV (x : Wd) : Value:=wordV x.k (bstr x.t) x.n x.a
structure WCells (W : World) (g : Nat) (ws : List Wd) : Prop where
 lt : g < W.heap.size
 at_ : ∀ i x,ws[i]? = some x → W.cell? ⟨g,i * 4,none⟩ = some (.int .i64 x.k) ∧ W.cell? ⟨g,i * 4 + 1,none⟩ = some (.string (bstr x.t)) ∧ W.cell? ⟨g,i * 4 + 2,none⟩ = some (.int .i64 x.n) ∧ W.cell? ⟨g,i * 4 + 3,none⟩ = some (.int .i64 x.a)
theorem WCells.kept {W X : World} {g : Nat} {ws : List Wd} (h : WCells W g ws) (hb : ∀ k,k = g → X.heap[k]? = W.heap[k]?) (hs : W.heap.size ≤ X.heap.size) : WCells X g ws where
 lt:=Nat.lt_of_lt_of_le h.lt hs
 at_ i x hx:=by
  have hk : ∀ o,X.cell? ⟨g,o,none⟩ = W.cell? ⟨g,o,none⟩:=fun o => World.cell?_of_block (a:=⟨g,o,none⟩) (hb g rfl)
  rw [hk,hk,hk,hk]
  exact h.at_ i x hx
open Go Go.ChangeMaps Go.MapKept Go.WideElems Go.Maps
def fnElem : Value → Option (DataW Unit × List MemPlace)
 | .func (.func n) fs cs => if fs.size = 0 ∧ cs.size = 0 then some (.lit (.int .i64 n),[]) else none
 | .nilFunc => some (.nil,[])
 | _ => none
open Go Go.RowKit Go.Maps Go.WideMaps
def keyD : DataW Unit:=setOf (.agg []) (keyL.map Lit.string)
def keyP (k : Nat) : ByteArray:=⟨(keyL.getD k []).toArray⟩
def keysC : Array Value:=#[.string ⟨#[112,117,98,108,105,99]⟩,.string ⟨#[115,101,99,114,101,116]⟩,.string ⟨#[105,110,116]⟩,.string ⟨#[98,111,111,108]⟩,.string ⟨#[98,121]⟩,.string ⟨#[108,111,99,107]⟩,.string ⟨#[102,117,110,99]⟩,.string ⟨#[114,101,116,117,114,110]⟩,.string ⟨#[116,104,114,101,97,100]⟩,.string ⟨#[118,97,114]⟩,.string ⟨#[105,102]⟩,.string ⟨#[101,108,115,101]⟩,.string ⟨#[119,104,105,108,101]⟩,.string ⟨#[111,117,116]⟩,.string ⟨#[116,114,117,101]⟩,.string ⟨#[102,97,108,115,101]⟩]
theorem keys_at (k : Nat) (h : k < 16) : keysC[k]? = some (.string (keyP k)):=by
 match k,h with
 | 0,_ => rfl
 | 1,_ => rfl
 | 2,_ => rfl
 | 3,_ => rfl
 | 4,_ => rfl
 | 5,_ => rfl
 | 6,_ => rfl
 | 7,_ => rfl
 | 8,_ => rfl
 | 9,_ => rfl
 | 10,_ => rfl
 | 11,_ => rfl
 | 12,_ => rfl
 | 13,_ => rfl
 | 14,_ => rfl
 | 15,_ => rfl
 | k + 16,h => exact absurd h (by omega)
def NoKey (s : ByteArray) (k : Nat) : Prop:=∀ j,j < k → ((keyP j).toList == s.toList) = false
theorem NoKey.step {s : ByteArray} {k : Nat} (h : NoKey s k) (h2 : ((keyP k).toList == s.toList) = false) : NoKey s (k + 1):=by
 intro j hj
 by_cases e : j = k
 · subst e
   exact h2
 · exact h j (by omega)
theorem key_yes {s : ByteArray} {k : Nat} (hk : k < 16) (h : ((keyP k).toList == s.toList) = true) : keyB s.data.toList = true:=by
 unfold keyB
 rw [List.any_eq_true]
 have hk2 : k < keyL.length:=hk
 refine ⟨keyL[k],List.getElem_mem hk2,?_⟩
 rw [ByteArray.toList_eq,ByteArray.toList_eq] at h
 have e : (keyP k).data.toList = keyL[k]:=by
  show keyL.getD k [] = _
  rw [List.getD_eq_getElem?_getD,List.getElem?_eq_getElem hk2]
  rfl
 rw [e] at h
 exact h
theorem key_no {s : ByteArray} (h : NoKey s 16) : keyB s.data.toList = false:=by
 unfold keyB
 rw [List.any_eq_false]
 intro x hx
 obtain ⟨k,hk,rfl⟩:=List.getElem_of_mem hx
 have h1:=h k hk
 rw [ByteArray.toList_eq,ByteArray.toList_eq] at h1
 have e : (keyP k).data.toList = keyL[k]:=by
  show keyL.getD k [] = _
  rw [List.getD_eq_getElem?_getD,List.getElem?_eq_getElem hk]
  rfl
 rw [e] at h1
 simpa using h1
theorem rkey_any (s : ByteArray) (w : World) : Calls Tryd.prog 57 #[.string s] w fun e w' => e = .returned (.bool (keyB s.data.toList)) ∧ Below w.heap.size w w':=by
 go_enter Tryd.func57,Tryd.ntmps57
 go_wp2
 go_loopw [4] (fun i wr => ∃ k : Nat,i = .int .i64 k ∧ k ≤ 16 ∧ wr = (w.alloc (.cells keysC 9)) ∧ Hid (NoKey s k)) (fun i _ => 16 - (intOf i).toNat)
 case atStart => exact ⟨0,rfl,by omega,rfl,hid (fun j h => absurd h (by omega))⟩
 case round =>
  obtain ⟨k,rfl,hk,rfl,HU⟩:=hrel
  by_cases hlt : k < 16
  · obtain ⟨P,hP⟩ : ∃ P,P = keyP k:=⟨_,rfl⟩
    have hcell : (w.alloc (.cells keysC 9)).cell? ⟨w.heap.size,k,none⟩ = some (.string P):=by
     rw [hP,← keys_at k hlt]
     exact cell_of_row _ _ k keysC 9 (0,0) (heap_alloc_new w _)
    have HP:=hid hP
    clear hP
    have hk2 : (k : Int) < 16:=by omega
    have hk0 : (0 : Int) ≤ k:=by omega
    cases he : (P.toList == s.toList)
    · go_wp2
      go_roundw
      case rel => exact ⟨k + 1,by go_num,by omega,(by first | rfl | trivial),hid (HU.out.step (by rw [← HP.out];exact he))⟩
      case measure => simp [intOf];omega
    · have HR:=hid (key_yes hlt (by rw [← HP.out];exact he))
      go_wp2
      go_ret
      exact ⟨ret_bool (by rw [HR.out]),(Below.refl _ _).alloc (Nat.le_refl _) _⟩
  · obtain rfl : k = 16:=by omega
    have HR:=hid (key_no HU.out)
    go_wp2
    go_ret
    exact ⟨ret_bool (by rw [HR.out]),(Below.refl _ _).alloc (Nat.le_refl _) _⟩
structure Base (W : World) (rb : Nat) : Prop where
 out : ∃ V : World,Laid V ∧ Below V.heap.size V W ∧ V.heap.size ≤ rb
theorem Base.laid {W : World} {rb : Nat} (h : Base W rb) : Laid W:=by
 obtain ⟨V,h1,h2,_⟩:=h.out
 exact h1.below h2
theorem Base.kept {W X : World} {rb : Nat} (h : Base W rb) (hf : Fr (some rb) W X) : Base X rb:=by
 obtain ⟨V,h1,h2,h3⟩:=h.out
 exact ⟨V,h1,h2.trans (hf.belowAt h3 h2.size),h3⟩
theorem Base.below {W X : World} {rb : Nat} (h : Base W rb) (hf : Below W.heap.size W X) : Base X rb:=h.kept (.of hf)
abbrev opnV (k : Int) (t : ByteArray) : Value:=.agg #[.int .i64 k,.string t]
abbrev exV (k op n : Int) (nm : ByteArray) (ks : Value) (a : Int) : Value:=.agg #[.int .i64 k,.int .i64 op,.int .i64 n,.string nm,ks,.int .i64 a]
theorem bstr_back (s : ByteArray) : bstr s.data.toList = s:=by
 obtain ⟨d⟩:=s
 simp [bstr]
def bkey : Nat → Value
 | 0 => opnV 2 ⟨#[45]⟩
 | 1 => opnV 2 ⟨#[33]⟩
 | 2 => opnV 2 ⟨#[40]⟩
 | 3 => opnV 1 ⟨#[]⟩
 | 4 => opnV 0 ⟨#[116,114,117,101]⟩
 | 5 => opnV 0 ⟨#[102,97,108,115,101]⟩
 | _ => opnV 0 ⟨#[]⟩
def exCells (e : Ex) (v : Value) : List Value:=[.int .i64 e.k,.int .i64 e.op,.int .i64 e.n,.string (bstr e.nm),v,.int .i64 e.a]
abbrev exVal (e : Ex) (v : Value) : Value:=.agg #[.int .i64 e.k,.int .i64 e.op,.int .i64 e.n,.string (bstr e.nm),v,.int .i64 e.a]
inductive IsEx (lo : Nat) (W : World) : Ex → Value → Prop
 | leaf {k o n : Int} {nm : List UInt8} {a : Nat} : IsEx lo W (.mk k o n nm [] a) (.slice none 0 0)
 | node {k o n : Int} {nm : List UInt8} {ks : List Ex} {a : Nat} (g cap : Nat) (cs : Array Value) (fr : Nat × Nat) (vs : Nat → Value) : lo ≤ g → W.heap[g]? = some (.cells cs 71 fr) → ks ≠ [] →
  (∀ i e,ks[i]? = some e → ∀ j u,(exCells e (vs i))[j]? = some u → cs[i * 6 + j]? = some u) → (∀ i e,ks[i]? = some e → IsEx lo W e (vs i)) → IsEx lo W (.mk k o n nm ks a) (.slice (some ⟨g,0,none⟩) ks.length cap)
theorem IsEx.kept {lo : Nat} {W X : World} {e : Ex} {v : Value} (h : IsEx lo W e v) (hk : ∀ g,lo ≤ g → g < W.heap.size → X.heap[g]? = W.heap[g]?) : IsEx lo X e v:=by
 induction h with
 | leaf => exact .leaf
 | node g cap cs fr vs hg hb hne hc _ ih => exact .node g cap cs fr vs hg ((hk g hg (Array.getElem?_eq_some_iff.1 hb).1).trans hb) hne hc ih
theorem IsEx.low {lo lo' : Nat} {W : World} {e : Ex} {v : Value} (h : IsEx lo W e v) (hl : lo' ≤ lo) : IsEx lo' W e v:=by
 induction h with
 | leaf => exact .leaf
 | node g cap cs fr vs hg hb hne hc _ ih => exact .node g cap cs fr vs (by omega) hb hne hc ih
theorem IsEx.fr {lo rb : Nat} {W X : World} {e : Ex} {v : Value} (h : IsEx lo W e v) (hf : Fr (some rb) W X) (hr : rb < lo) : IsEx lo X e v :=
 h.kept fun g hg hl => hf.block hl (by simp;omega)
theorem IsEx.stay {lo : Nat} {W X : World} {e : Ex} {v : Value} (h : IsEx lo W e v) (hf : Below W.heap.size W X) : IsEx lo X e v:=h.kept fun g _ hl => hf.block g hl
theorem IsEx.alloc {lo : Nat} {W : World} {e : Ex} {v : Value} (h : IsEx lo W e v) (o : Obj) : IsEx lo (W.alloc o) e v:=h.stay ((Below.refl _ _).alloc (Nat.le_refl _) _)
theorem IsEx.drewN {lo : Nat} {W : World} {e : Ex} {v : Value} (h : IsEx lo W e v) (n : Nat) : IsEx lo (W.drewN n) e v:=h.kept fun _ _ _ => rfl
theorem IsEx.drew {lo : Nat} {W : World} {e : Ex} {v : Value} (h : IsEx lo W e v) : IsEx lo W.drew e v:=h.kept fun _ _ _ => rfl
theorem IsEx.set {lo : Nat} {W : World} {e : Ex} {v : Value} (h : IsEx lo W e v) {b : Nat} (hb : b < lo) (o : Nat) (x : Value) : IsEx lo (W.setCell ⟨b,o,none⟩ x) e v :=
 h.kept fun g hg _ => heap_setCell_other W ⟨b,o,none⟩ g x (by simp;omega)
theorem IsEx.recast {lo : Nat} {W : World} {k o n k' o' n' : Int} {nm nm' : List UInt8} {ks : List Ex} {a a' : Nat} {v : Value} (h : IsEx lo W (.mk k o n nm ks a) v) : IsEx lo W (.mk k' o' n' nm' ks a') v:=by
 cases h with
 | leaf => exact .leaf
 | node g cap cs fr vs hg hb hne hc hi => exact .node g cap cs fr vs hg hb hne hc hi
theorem IsEx.form {lo : Nat} {W : World} {e : Ex} {v : Value} (h : IsEx lo W e v) : ∃ p c,v = .slice p e.ks.length c:=by
 cases h with
 | leaf => exact ⟨_,_,rfl⟩
 | node g cap => exact ⟨_,_,rfl⟩
theorem IsEx.kid {lo : Nat} {W : World} {e : Ex} {v : Value} (h : IsEx lo W e v) {i : Nat} {x : Ex} (hx : e.ks[i]? = some x) :
 ∃ g cap u,v = .slice (some ⟨g,0,none⟩) e.ks.length cap ∧ lo ≤ g ∧ g < W.heap.size ∧ IsEx lo W x u ∧
  W.cell? ⟨g,i * 6,none⟩ = some (.int .i64 x.k) ∧ W.cell? ⟨g,i * 6 + 1,none⟩ = some (.int .i64 x.op) ∧ W.cell? ⟨g,i * 6 + 2,none⟩ = some (.int .i64 x.n) ∧ W.cell? ⟨g,i * 6 + 3,none⟩ = some (.string (bstr x.nm)) ∧ W.cell? ⟨g,i * 6 + 4,none⟩ = some u ∧ W.cell? ⟨g,i * 6 + 5,none⟩ = some (.int .i64 x.a):=by
 cases h with
 | leaf => simp [Ex.ks] at hx
 | node g cap cs fr vs hg hb hne hc hi =>
  have key : ∀ j u,(exCells x (vs i))[j]? = some u → W.cell? ⟨g,i * 6 + j,none⟩ = some u:=fun j u hu => by
   rw [cell_of_row _ _ _ _ _ _ hb]
   exact hc i x hx j u hu
  exact ⟨g,cap,vs i,rfl,hg,(Array.getElem?_eq_some_iff.1 hb).1,hi i x hx,key 0 _ rfl,key 1 _ rfl,key 2 _ rfl,key 3 _ rfl,key 4 _ rfl,key 5 _ rfl⟩
theorem heap_new (W : World) (o : Obj) : (W.alloc o).heap[W.heap.size]? = some o:=by
 show (W.heap.push o)[W.heap.size]? = some o
 simp
theorem IsEx.one {lo : Nat} {W : World} {x : Ex} {u : Value} (h : IsEx lo W x u) (hl : lo ≤ W.heap.size) (k o n : Int) (nm : List UInt8) (a : Nat) :
 IsEx lo (W.alloc (.cells #[.int .i64 x.k,.int .i64 x.op,.int .i64 x.n,.string (bstr x.nm),u,.int .i64 x.a] 71)) (.mk k o n nm [x] a) (.slice (some ⟨W.heap.size,0,none⟩) 1 1):=by
 refine .node W.heap.size 1 _ (0,0) (fun _ => u) hl (heap_new _ _) (by simp) ?_ ?_
 · intro i e he j v hv
   cases i with
   | zero =>
    simp at he
    subst he
    simpa [exCells] using hv
   | succ i => simp at he
 · intro i e he
   cases i with
   | zero =>
    simp at he
    subst he
    exact h.stay ((Below.refl _ _).alloc (Nat.le_refl _) _)
   | succ i => simp at he
theorem IsEx.two {lo : Nat} {W : World} {x y : Ex} {u v : Value} (h : IsEx lo W x u) (h2 : IsEx lo W y v) (hl : lo ≤ W.heap.size) (k o n : Int) (nm : List UInt8) (a : Nat) :
 IsEx lo (W.alloc (.cells #[.int .i64 x.k,.int .i64 x.op,.int .i64 x.n,.string (bstr x.nm),u,.int .i64 x.a,.int .i64 y.k,.int .i64 y.op,.int .i64 y.n,.string (bstr y.nm),v,.int .i64 y.a] 71)) (.mk k o n nm [x,y] a) (.slice (some ⟨W.heap.size,0,none⟩) 2 2):=by
 refine .node W.heap.size 2 _ (0,0) (fun i => if i = 0 then u else v) hl (heap_new _ _) (by simp) ?_ ?_
 · intro i e he j w hw
   match i,he with
   | 0,he =>
    simp at he
    subst he
    simp only [exCells,if_true] at hw
    match j,hw with
    | 0,hw | 1,hw | 2,hw | 3,hw | 4,hw | 5,hw => simpa using hw
    | j + 6,hw => simp at hw
   | 1,he =>
    simp at he
    subst he
    simp only [exCells,if_neg (show ¬ (1 = 0) by decide)] at hw
    match j,hw with
    | 0,hw | 1,hw | 2,hw | 3,hw | 4,hw | 5,hw => simpa using hw
    | j + 6,hw => simp at hw
   | i + 2,he => simp at he
 · intro i e he
   have hb : Below W.heap.size W (W.alloc (.cells #[.int .i64 x.k,.int .i64 x.op,.int .i64 x.n,.string (bstr x.nm),u,.int .i64 x.a,.int .i64 y.k,.int .i64 y.op,.int .i64 y.n,.string (bstr y.nm),v,.int .i64 y.a] 71)):=(Below.refl _ _).alloc (Nat.le_refl _) _
   match i,he with
   | 0,he =>
    simp at he
    subst he
    exact h.stay hb
   | 1,he =>
    simp at he
    subst he
    exact h2.stay hb
   | i + 2,he => simp at he
theorem IsEx.twoAt {lo n : Nat} {W : World} {x y : Ex} {u v : Value} (h : IsEx lo W x u) (h2 : IsEx lo W y v) (hl : lo ≤ W.heap.size) (hn : n = W.heap.size) (k o m : Int) (nm : List UInt8) (a : Nat) :
 IsEx lo (W.alloc (.cells #[.int .i64 x.k,.int .i64 x.op,.int .i64 x.n,.string (bstr x.nm),u,.int .i64 x.a,.int .i64 y.k,.int .i64 y.op,.int .i64 y.n,.string (bstr y.nm),v,.int .i64 y.a] 71)) (.mk k o m nm [x,y] a) (.slice (some ⟨n,0,none⟩) 2 2):=hn ▸ h.two h2 hl k o m nm a
theorem suf_at {ws ts : List Wd} {w : Wd} (h : (w :: ts) <:+ ws) : ws[ws.length - (w :: ts).length]? = some w ∧ ws.length - (w :: ts).length + 1 = ws.length - ts.length ∧ ts <:+ ws:=by
 obtain ⟨pre,rfl⟩:=h
 refine ⟨?_,?_,?_⟩
 · simp
 · simp
   omega
 · exact ⟨pre ++ [w],by simp⟩
def Junk (v : Value) : Prop:=∃ (k o n : Int) (nm : ByteArray) (p : Option Addr) (l c : Nat) (a : Int),v = exV k o n nm (.slice p l c) a
def JunkL (v : Value) : Prop:=∃ (p : Option Addr) (l c : Nat),v = .slice p l c
theorem Junk.zero : Junk (exV 0 0 0 ⟨#[]⟩ (.slice none 0 0) 0):=⟨_,_,_,_,_,_,_,_,rfl⟩
theorem Junk.of (k o n : Int) (nm : ByteArray) (p : Option Addr) (l c : Nat) (a : Int) : Junk (exV k o n nm (.slice p l c) a):=⟨_,_,_,_,_,_,_,_,rfl⟩
def Job.wt : Job → Nat | .thing => 1 | .expr _ => 2 | .list _ => 3 | _ => 0
def Job.may : Job → List Wd → Prop
 | .beh _,ts => ∀ w t,ts = w :: t → w.k = 2
 | .wth _,ts => ∀ w t,ts = w :: t → w.k = 2
 | .giv,ts => ∀ w t,ts = w :: t → w.k = 2
 | .nam,ts => ∀ w t,ts = w :: t → w.k = 0
 | .expr r,_ => 1 ≤ r ∧ r ≤ 11
 | .loop r _,_ => 1 ≤ r ∧ r ≤ 11
 | _,_ => True
theorem P.post' {o : Nat} {j : Job} {ts : List Wd} {r : Res} (h : P o j ts r) (hm : j.may ts) (hf : Fin ts) : Post j ts r:=by
 refine h.post ?_ hf ?_ ?_ ?_ ?_
 · cases j <;> first | exact hm.1 | trivial
 · rintro rfl;exact hm
 · rintro k rfl;exact hm
 · rintro c rfl;exact hm
 · rintro rfl;exact hm
mutual
def Ex.eqv : Ex → Ex → Bool
 | .mk k o n t ks _,.mk k' o' n' t' ks' _ => (k == k') && (o == o') && (n == n') && (t == t') && Ex.eqvL ks ks'
def Ex.eqvL : List Ex → List Ex → Bool
 | [],[] => true
 | x :: r,y :: q => Ex.eqv x y && Ex.eqvL r q
 | _,_ => false
end
theorem eqv_parts (x y : Ex) : x.eqv y = ((x.k == y.k) && (x.op == y.op) && (x.n == y.n) && (x.nm == y.nm) && Ex.eqvL x.ks y.ks):=by
 cases x;cases y;simp only [Ex.eqv,Ex.k,Ex.op,Ex.n,Ex.nm,Ex.ks]
mutual
def Ex.cnt : Ex → Nat
 | .mk _ _ _ _ ks _ => 1 + Ex.cntL ks
def Ex.cntL : List Ex → Nat
 | [] => 0
 | x :: r => Ex.cnt x + Ex.cntL r
end
theorem cnt_pos (x : Ex) : 1 ≤ x.cnt:=by cases x;simp only [Ex.cnt];omega
theorem cntL_mem : ∀ {l : List Ex} {x : Ex},x ∈ l → x.cnt ≤ Ex.cntL l
 | y :: r,x,h => by
  simp only [Ex.cntL]
  rcases List.mem_cons.1 h with rfl | h
  · omega
  · have:=cntL_mem h
    omega
theorem cntL_len : ∀ l : List Ex,l.length ≤ Ex.cntL l
 | [] => Nat.le_refl _
 | x :: r => by
  have:=cntL_len r
  have:=cnt_pos x
  simp only [Ex.cntL,List.length_cons]
  omega
theorem ks_lt (x : Ex) : x.ks.length < x.cnt:=by
 have:=cntL_len x.ks
 cases x
 simp only [Ex.cnt,Ex.ks] at this ⊢
 omega
def SameGoal (f : Nat) (N : Nat) : Prop:=∀ (x y : Ex) (u v : Value) (w : World),x.cnt < N ∧ x.cnt < 1000000000 → IsEx 0 w x u → IsEx 0 w y v →
 Calls Tryd.prog f #[.agg #[.int .i64 x.k,.int .i64 x.op,.int .i64 x.n,.string (bstr x.nm),u,.int .i64 x.a],.agg #[.int .i64 y.k,.int .i64 y.op,.int .i64 y.n,.string (bstr y.nm),v,.int .i64 y.a]] w fun e w' => e = .returned (.bool (x.eqv y)) ∧ Below w.heap.size w w'
def KeptE (w w' : World) : Prop:=w.heap.size ≤ w'.heap.size ∧ ∀ (k : Nat) (cs : Array Value) (fr : Nat × Nat),w.heap[k]? = some (.cells cs 71 fr) → w'.heap[k]? = some (.cells cs 71 fr)
theorem KeptE.refl (w : World) : KeptE w w:=⟨Nat.le_refl _,fun _ _ _ h => h⟩
theorem KeptE.step {a b c : World} (h : KeptE a b) (k : KeptE b c) : KeptE a c:=⟨Nat.le_trans h.1 k.1,fun i cs fr hi => k.2 i cs fr (h.2 i cs fr hi)⟩
theorem KeptE.below {a b c : World} (h : KeptE a b) (k : Below b.heap.size b c) : KeptE a c:=h.step ⟨k.size,fun i _ _ hi => (k.block i (Array.getElem?_eq_some_iff.1 hi).1).trans hi⟩
theorem KeptE.alloc {a b : World} (h : KeptE a b) (o : Obj) : KeptE a (b.alloc o):=h.below ((Below.refl _ _).alloc (Nat.le_refl _) _)
theorem KeptE.drew {a b : World} (h : KeptE a b) : KeptE a b.drew:=h
theorem KeptE.drewN {a b : World} (h : KeptE a b) (n : Nat) : KeptE a (b.drewN n):=h
theorem KeptE.set {a b : World} (h : KeptE a b) {c : Nat} (hc : a.heap.size ≤ c) (o : Nat) (v : Value) : KeptE a (b.setCell ⟨c,o,none⟩ v) :=
 ⟨by simpa using h.1,fun i cs fr hi => (heap_setCell_other b ⟨c,o,none⟩ i v (by have:=(Array.getElem?_eq_some_iff.1 hi).1;simp;omega)).trans (h.2 i cs fr hi)⟩
theorem KeptE.size {a b : World} (h : KeptE a b) : a.heap.size ≤ b.heap.size:=h.1
theorem IsEx.ke {lo : Nat} {W X : World} {e : Ex} {v : Value} (h : IsEx lo W e v) (hk : KeptE W X) : IsEx lo X e v:=by
 induction h with
 | leaf => exact .leaf
 | node g cap cs fr vs hg hb hne hc _ ih => exact .node g cap cs fr vs hg (hk.2 _ _ _ hb) hne hc ih
theorem Blk.ke {X Y : World} {n : Nat} {v0 v1 v2 v3 v4 v5 : Value} (h : Blk X n v0 v1 v2 v3 v4 v5) (hk : KeptE X Y) : Blk Y n v0 v1 v2 v3 v4 v5:=hk.2 _ _ _ h
theorem Bld.lt {B b : Nat} {bs : List Value} {w : World} (h : Bld B b bs w) : b < w.heap.size:=h.elim (fun h => h.lt) fun h => h.lt
theorem Bld.alloc {B b : Nat} {bs : List Value} {w : World} (h : Bld B b bs w) (o : Obj) : Bld B b bs (w.alloc o):=h.imp (fun h => h.alloc o) fun h => h.alloc o
theorem Bld.drew {B b : Nat} {bs : List Value} {w : World} (h : Bld B b bs w) : Bld B b bs w.drew:=h
theorem Bld.drewN {B b : Nat} {bs : List Value} {w : World} (h : Bld B b bs w) (n : Nat) : Bld B b bs (w.drewN n):=h
theorem bldAt_set {B b c : Nat} {p : Value} {bs : List Value} {w : World} (h : Lib.BuilderAtF 62 5 B b p bs w) {cs : Array Value} {fr : Nat × Nat} (hc : w.heap[c]? = some (.cells cs 71 fr)) (o : Nat) (x : Value) :
 Lib.BuilderAtF 62 5 B b p bs (w.setCell ⟨c,o,none⟩ x):=by
 obtain ⟨hB,v,hb,hown,hne⟩:=h
 have hbc : b ≠ c:=by
  rintro rfl
  rw [hc] at hb
  cases hb
 refine ⟨hB,v,(heap_setCell_other w ⟨c,o,none⟩ b x hbc).trans hb,?_,hne⟩
 exact hown.kept (row:=some c) ⟨rfl,rfl,rfl,by simp [World.setCell],fun k _ hk => Below.heap_setCell _ _ _ _ (fun e => hk (by simp [e]))⟩ (Or.inr (Lib.ownBlock_neF hown hc (by decide)))
theorem Bld.set {B b c : Nat} {bs : List Value} {w : World} (h : Bld B b bs w) {v0 v1 v2 v3 v4 v5 : Value} (hc : Blk w c v0 v1 v2 v3 v4 v5) (o : Nat) (x : Value) : Bld B b bs (w.setCell ⟨c,o,none⟩ x) :=
 h.imp (fun h => bldAt_set h hc o x) fun h => bldAt_set h hc o x
theorem bld_ke {B b : Nat} {bs : List Value} {w w' : World} (h : Bld B b bs w) (hk : Lib.OthersKept 5 (some b) w w') (hs : w.heap.size ≤ w'.heap.size) : KeptE w w':=by
 refine ⟨hs,fun k cs fr hi => hk k _ hi (fun e => ?_) fun c fz e => by cases e⟩
 cases e
 rcases h with ⟨_,v,hbk,_⟩ | ⟨_,v,hbk,_⟩ <;> (rw [hi] at hbk;cases hbk)
def LB (B : Nat) (w : World) : Prop:=∃ w0,Laid w0 ∧ w0.heap.size = B ∧ Below B w0 w
theorem LB.b {B : Nat} {w w' : World} (h : LB B w) (k : Below B w w') : LB B w':=by
 obtain ⟨w0,h1,h2,h3⟩:=h
 exact ⟨w0,h1,h2,h3.trans k⟩
theorem LB.laid {B : Nat} {w : World} (h : LB B w) : Laid w:=by
 obtain ⟨w0,h1,rfl,h3⟩:=h
 exact h1.below h3
def partT (k : Bool) (t : List UInt8) : List UInt8:=if k then 40 :: t ++ [41] else t
def opT (o : Int) : List UInt8:=32 :: ((sgnZ o).data.toList ++ [32])
abbrev Kd:=Int × Int × List UInt8
def rowK : List Kd → List UInt8
 | [] => []
 | x :: r => x.2.2 ++ r.flatMap fun y => 44 :: 32 :: y.2.2
def oneK (l : List Kd) : List UInt8:=l.flatMap fun y => partT (y.1 == 6) y.2.2
def twoK (o : Int) : List Kd → List UInt8
 | [] => []
 | x :: r => partT ((x.1 == 6) && decide (rnkZ x.2.1 < rnkZ o)) x.2.2 ++ r.flatMap fun y => opT o ++ partT ((y.1 == 6) && decide (rnkZ y.2.1 ≤ rnkZ o)) y.2.2
def txtOf (k o n : Int) (nm : List UInt8) (l : List Kd) : List UInt8 :=
 if k = 0 then Lib.itoa n
 else if k = 1 then (if n = 0 then flsB else truB)
 else if k = 2 then nm
 else if k = 3 then nm ++ 91 :: (rowK l ++ [93])
 else if k = 7 then nm ++ 40 :: (rowK l ++ [41])
 else if k = 4 then 45 :: oneK l
 else if k = 5 then 33 :: oneK l
 else if k = 6 then twoK o l
 else []
mutual
def Ex.txt : Ex → List UInt8
 | .mk k o n nm ks _ => txtOf k o n nm (Ex.kds ks)
def Ex.kds : List Ex → List Kd
 | [] => []
 | x :: r => (x.k,x.op,Ex.txt x) :: Ex.kds r
end
theorem kds_map : ∀ l : List Ex,Ex.kds l = l.map fun y => (y.k,y.op,y.txt)
 | [] => by simp only [Ex.kds,List.map_nil]
 | x :: r => by simp only [Ex.kds,List.map_cons,kds_map r]
theorem txt_parts (x : Ex) : x.txt = txtOf x.k x.op x.n x.nm (x.ks.map fun y => (y.k,y.op,y.txt)):=by
 cases x
 simp only [Ex.txt,Ex.k,Ex.op,Ex.n,Ex.nm,Ex.ks,kds_map]
theorem eqv_head {x y : Ex} (h : x.eqv y = true) : x.k = y.k ∧ x.op = y.op ∧ x.n = y.n ∧ x.nm = y.nm ∧ Ex.eqvL x.ks y.ks = true:=by
 rw [eqv_parts] at h
 simpa only [Bool.and_eq_true,beq_iff_eq,and_assoc] using h
mutual
theorem eqv_txt : ∀ x y : Ex,x.eqv y = true → x.txt = y.txt
 | .mk k o n t ks _,.mk k' o' n' t' ks' _,h => by
  simp only [Ex.eqv,Bool.and_eq_true,beq_iff_eq] at h
  obtain ⟨⟨⟨⟨rfl,rfl⟩,rfl⟩,rfl⟩,h⟩:=h
  simp only [Ex.txt,eqvL_kds ks ks' h]
theorem eqvL_kds : ∀ l m : List Ex,Ex.eqvL l m = true → Ex.kds l = Ex.kds m
 | [],[],_ => rfl
 | x :: r,y :: q,h => by
  simp only [Ex.eqvL,Bool.and_eq_true] at h
  have h1:=eqv_head h.1
  simp only [Ex.kds,eqv_txt x y h.1,eqvL_kds r q h.2,h1.1,h1.2.1]
 | [],_ :: _,h => by simp [Ex.eqvL] at h
 | _ :: _,[],h => by simp [Ex.eqvL] at h
end
mutual
theorem eqv_refl : ∀ x : Ex,x.eqv x = true
 | .mk k o n t ks _ => by simp only [Ex.eqv,beq_self_eq_true,Bool.and_self,eqvL_refl ks]
theorem eqvL_refl : ∀ l : List Ex,Ex.eqvL l l = true
 | [] => by simp only [Ex.eqvL]
 | x :: r => by simp only [Ex.eqvL,eqv_refl x,eqvL_refl r,Bool.and_self]
end
mutual
theorem eqv_symm : ∀ x y : Ex,x.eqv y = true → y.eqv x = true
 | .mk k o n t ks _,.mk k' o' n' t' ks' _,h => by
  simp only [Ex.eqv,Bool.and_eq_true,beq_iff_eq] at h ⊢
  exact ⟨⟨⟨⟨h.1.1.1.1.symm,h.1.1.1.2.symm⟩,h.1.1.2.symm⟩,h.1.2.symm⟩,eqvL_symm ks ks' h.2⟩
theorem eqvL_symm : ∀ l m : List Ex,Ex.eqvL l m = true → Ex.eqvL m l = true
 | [],[],h => h
 | x :: r,y :: q,h => by
  simp only [Ex.eqvL,Bool.and_eq_true] at h ⊢
  exact ⟨eqv_symm x y h.1,eqvL_symm r q h.2⟩
 | [],_ :: _,h => by simp [Ex.eqvL] at h
 | _ :: _,[],h => by simp [Ex.eqvL] at h
end
def Ex.txtAt (r : Int) (x : Ex) : List UInt8:=partT ((x.k == 6) && decide (rnkZ x.op < r)) x.txt
theorem txtAt_not {x : Ex} (h : x.k ≠ 6) (r : Int) : x.txtAt r = x.txt:=by
 have : (x.k == 6) = false:=by simpa using h
 simp only [Ex.txtAt,this,Bool.false_and,partT]
 rfl
theorem txtAt_low {x : Ex} {r : Int} (h : r ≤ rnkZ x.op) : x.txtAt r = x.txt:=by
 have : decide (rnkZ x.op < r) = false:=by simp;omega
 simp only [Ex.txtAt,this,Bool.and_false,partT]
 rfl
theorem txtAt_brk {x : Ex} {r : Int} (h : x.k = 6) (h2 : rnkZ x.op < r) : x.txtAt r = 40 :: (x.txt ++ [41]):=by
 simp only [Ex.txtAt,h,h2,partT]
 rfl
theorem txtAt_top {x : Ex} : partT (x.k == 6) x.txt = x.txtAt 11:=by
 have : decide (rnkZ x.op < 11) = true:=by
  have:=(rnkZ_le x.op).2
  simp
  omega
 simp only [Ex.txtAt,this,Bool.and_true]
theorem txt_num (o n : Int) (nm : List UInt8) (ks : List Ex) (a : Nat) : (Ex.mk 0 o n nm ks a).txt = Lib.itoa n:=by simp only [Ex.txt,txtOf];rfl
theorem txt_truth (o n : Int) (nm : List UInt8) (ks : List Ex) (a : Nat) : (Ex.mk 1 o n nm ks a).txt = if n = 0 then flsB else truB:=by simp only [Ex.txt,txtOf];rfl
theorem txt_var (o n : Int) (nm : List UInt8) (ks : List Ex) (a : Nat) : (Ex.mk 2 o n nm ks a).txt = nm:=by simp only [Ex.txt,txtOf];rfl
theorem txt_elem (o n : Int) (nm : List UInt8) (e : Ex) (a : Nat) : (Ex.mk 3 o n nm [e] a).txt = nm ++ 91 :: (e.txt ++ [93]):=by
 simp only [Ex.txt,txtOf,Ex.kds,rowK,List.flatMap_nil,List.append_nil]
 rfl
theorem txt_call (o n : Int) (nm : List UInt8) (ks : List Ex) (a : Nat) : (Ex.mk 7 o n nm ks a).txt = nm ++ 40 :: (rowK (Ex.kds ks) ++ [41]):=by simp only [Ex.txt,txtOf];rfl
theorem txt_neg (o n : Int) (nm : List UInt8) (e : Ex) (a : Nat) : (Ex.mk 4 o n nm [e] a).txt = 45 :: e.txtAt 11:=by
 rw [← txtAt_top]
 simp only [Ex.txt,txtOf,Ex.kds,oneK,List.flatMap_cons,List.flatMap_nil,List.append_nil]
 rfl
theorem txt_not (o n : Int) (nm : List UInt8) (e : Ex) (a : Nat) : (Ex.mk 5 o n nm [e] a).txt = 33 :: e.txtAt 11:=by
 rw [← txtAt_top]
 simp only [Ex.txt,txtOf,Ex.kds,oneK,List.flatMap_cons,List.flatMap_nil,List.append_nil]
 rfl
theorem txt_two (o n : Int) (nm : List UInt8) (l r : Ex) (a : Nat) : (Ex.mk 6 o n nm [l,r] a).txt = l.txtAt (rnkZ o) ++ (opT o ++ r.txtAt (rnkZ o + 1)):=by
 have e : decide (rnkZ r.op ≤ rnkZ o) = decide (rnkZ r.op < rnkZ o + 1):=by
  rw [decide_eq_decide]
  omega
 simp only [Ex.txt,txtOf,Ex.kds,twoK,List.flatMap_cons,List.flatMap_nil,List.append_nil,Ex.txtAt,e]
 rfl
theorem write_txt (B b : Nat) (l : List UInt8) (s : ByteArray) (w : World) (h : Bld B b (Lib.byteCells l) w) (hlen : l.length + s.data.toList.length ≤ 140737488355328) (hBw : B ≤ w.heap.size) :
 Calls Tryd.prog 47 #[.pointer (some ⟨b,0,none⟩),.string s] w fun e w' => e = .returned (.tuple #[.int .i64 s.size,.nilIface]) ∧ Bld B b (Lib.byteCells (l ++ s.data.toList)) w' ∧ Below B w w' ∧ KeptE w w' :=
 (write_any B b _ s w (hid h) (by simpa [Lib.byteCells] using hlen) hBw).mono fun e w' ⟨h1,h2,h3,h4⟩ => ⟨h1,by simpa [Lib.byteCells,Lib.strCells] using h2,h3,bld_ke h h4 h3.size⟩
abbrev Shows (x : Ex) (t : List UInt8) (B b : Nat) : Prop:=∀ (p : Option Addr) (c : Nat) (l : List UInt8) (w : World),IsEx 0 w x (.slice p x.ks.length c) → Bld B b (Lib.byteCells l) w → B ≤ w.heap.size → LB B w → l.length + t.length ≤ 140737488355328 →
 Calls Tryd.prog 66 #[.pointer (some ⟨b,0,none⟩),.agg #[.int .i64 x.k,.int .i64 x.op,.int .i64 x.n,.string (bstr x.nm),.slice p x.ks.length c,.int .i64 x.a]] w fun e w' => e = .returned (.tuple #[]) ∧ Bld B b (Lib.byteCells (l ++ t)) w' ∧ Below B w w' ∧ KeptE w w'
theorem part_any (x : Ex) (t : List UInt8) (B b : Nat) (k : Bool) (p : Option Addr) (c : Nat) (l : List UInt8) (w : World) (hS : Hid (Shows x t B b)) (hx : Hid (IsEx 0 w x (.slice p x.ks.length c))) (hb : Hid (Bld B b (Lib.byteCells l) w)) (hB : B ≤ w.heap.size) (hL : LB B w) (hl : l.length + (partT k t).length ≤ 140737488355328) :
 Calls Tryd.prog 95 #[.pointer (some ⟨b,0,none⟩),.agg #[.int .i64 x.k,.int .i64 x.op,.int .i64 x.n,.string (bstr x.nm),.slice p x.ks.length c,.int .i64 x.a],.bool k] w fun e w' => e = .returned (.tuple #[]) ∧ Bld B b (Lib.byteCells (l ++ partT k t)) w' ∧ Below B w w' ∧ KeptE w w':=by
 cases k with
 | false =>
  go_enter Tryd.func95,Tryd.ntmps95
  go_wp2_with (go_at_call 66;(with_reducible refine (hS.out p c l _ (by (with_reducible repeat first | exact hx.out | refine IsEx.alloc ?_ _ | refine IsEx.drewN ?_ _ | refine IsEx.drew ?_ | (refine IsEx.set ?_ ?_ _ _;rotate_left;first | omega | (simp;done) | (simp;omega)) | refine IsEx.fr ?_ (by assumption) (by omega) | refine IsEx.stay ?_ (by assumption))) (by (with_reducible repeat first | exact hb.out | refine Bld.alloc ?_ _ | refine Bld.drewN ?_ _ | refine Bld.drew ?_)) (by first | omega | (simp;omega)) (hL.b (by (with_reducible repeat first | exact Below.refl _ _ | refine Below.alloc ?_ (by first | omega | (simp;omega)) _ | refine Below.drewN ?_ _ | refine Below.drew ?_ | refine Below.setCell ?_ (by first | omega | (simp;omega)) _ | refine Below.trans ?_ (by assumption)))) (by simpa [partT] using hl)).mono ?_);rintro e' w1 ⟨rfl,hb1,hB1,hk1⟩)
  go_end0
  exact ⟨rfl,by simpa [partT] using hb1,by (with_reducible repeat first | exact Below.refl _ _ | refine Below.alloc ?_ (by first | omega | (simp;omega)) _ | refine Below.drewN ?_ _ | refine Below.drew ?_ | refine Below.setCell ?_ (by first | omega | (simp;omega)) _ | refine Below.trans ?_ (by assumption)),by (with_reducible repeat first | exact KeptE.refl _ | refine KeptE.alloc ?_ _ | refine KeptE.drewN ?_ _ | refine KeptE.drew ?_ | refine KeptE.set ?_ (by first | omega | (simp;omega)) _ _ | refine KeptE.step ?_ (by assumption))⟩
 | true =>
  have hl1 : l.length + 1 ≤ 140737488355328:=by (simp [partT] at hl;omega)
  have hl2 : (l ++ [40]).length + t.length ≤ 140737488355328:=by (simp [partT] at hl ⊢;omega)
  have hl3 : (l ++ [40] ++ t).length + 1 ≤ 140737488355328:=by (simp [partT] at hl ⊢;omega)
  go_enter Tryd.func95,Tryd.ntmps95
  go_wp2_with (first
   | (go_at_call 47;(with_reducible refine (write_txt B b l ⟨#[40]⟩ _ (by (with_reducible repeat first | exact hb.out | refine Bld.alloc ?_ _ | refine Bld.drewN ?_ _ | refine Bld.drew ?_)) (by simp;omega) (by first | omega | (simp;omega))).mono ?_);rintro e' w1 ⟨rfl,hb1,hB1,hk1⟩;have hz1:=hB1.size;(try simp at hz1);have BX1 : Blk w1 w.heap.size (.int .i64 x.k) (.int .i64 x.op) (.int .i64 x.n) (.string (bstr x.nm)) (.slice p x.ks.length c) (.int .i64 x.a):=(Blk.new rfl _ _ _ _ _ _).ke hk1;obtain ⟨blx,c0x,c1x,c2x,c3x,c4x,c5x,f0x,f1x,f2x,f3x,f4x,f5x⟩:=(BX1).facts)
   | (go_at_call 66;(with_reducible refine (hS.out p c (l ++ [40]) _ (by (refine IsEx.ke ?_ hk1;(with_reducible repeat first | exact hx.out | refine IsEx.alloc ?_ _ | refine IsEx.drewN ?_ _ | refine IsEx.drew ?_ | (refine IsEx.set ?_ ?_ _ _;rotate_left;first | omega | (simp;done) | (simp;omega)) | refine IsEx.fr ?_ (by assumption) (by omega) | refine IsEx.stay ?_ (by assumption)))) (by (with_reducible repeat first | exact hb1 | refine Bld.alloc ?_ _ | refine Bld.drewN ?_ _ | refine Bld.drew ?_)) (by first | omega | (simp;omega)) (hL.b (by (with_reducible repeat first | exact Below.refl _ _ | refine Below.alloc ?_ (by first | omega | (simp;omega)) _ | refine Below.drewN ?_ _ | refine Below.drew ?_ | refine Below.setCell ?_ (by first | omega | (simp;omega)) _ | refine Below.trans ?_ (by assumption)))) hl2).mono ?_);rintro e' w2 ⟨rfl,hb2,hB2,hk2⟩;have hz2:=hB2.size;(try simp at hz2))
   | (go_at_call 47;(with_reducible refine (write_txt B b (l ++ [40] ++ t) ⟨#[41]⟩ _ (by (with_reducible repeat first | exact hb2 | refine Bld.alloc ?_ _ | refine Bld.drewN ?_ _ | refine Bld.drew ?_)) (by simp at hl3 ⊢;omega) (by first | omega | (simp;omega))).mono ?_);rintro e' w3 ⟨rfl,hb3,hB3,hk3⟩))
  go_end0
  exact ⟨rfl,by simpa [partT] using hb3,by (with_reducible repeat first | exact Below.refl _ _ | refine Below.alloc ?_ (by first | omega | (simp;omega)) _ | refine Below.drewN ?_ _ | refine Below.drew ?_ | refine Below.setCell ?_ (by first | omega | (simp;omega)) _ | refine Below.trans ?_ (by assumption)),by (with_reducible repeat first | exact KeptE.refl _ | refine KeptE.alloc ?_ _ | refine KeptE.drewN ?_ _ | refine KeptE.drew ?_ | refine KeptE.set ?_ (by first | omega | (simp;omega)) _ _ | refine KeptE.step ?_ (by assumption))⟩
theorem take_len {α β : Type} (f : α → List β) (l : List α) (i : Nat) : ((l.take i).flatMap f).length ≤ (l.flatMap f).length:=by
 conv => rhs;rw [← List.take_append_drop i l,List.flatMap_append,List.length_append]
 omega
theorem take_step {α β : Type} (f : α → List β) {l : List α} {i : Nat} {x : α} (h : l[i]? = some x) : (l.take (i + 1)).flatMap f = (l.take i).flatMap f ++ f x:=by
 rw [List.take_add_one,h]
 simp
theorem one_any (x : Ex) (tx : Ex → List UInt8) (B b n : Nat) (p : Option Addr) (c : Nat) (l : List UInt8) (w : World) (hn : Hid (x.ks.length = n)) (hn9 : n < 1000000000) (hS : Hid (∀ y ∈ x.ks,Shows y (tx y) B b)) (hx : Hid (IsEx 0 w x (.slice p n c))) (hb : Hid (Bld B b (Lib.byteCells l) w)) (hB : B ≤ w.heap.size) (hL : LB B w)
 (sg : UInt8) (hk : sg = if x.k = 4 then 45 else 33) (f : Ex → List UInt8) (hf : Hid (f = fun y => partT (y.k == 6) (tx y))) (hl : l.length + 1 + (x.ks.flatMap f).length ≤ 140737488355328) :
 Calls Tryd.prog 84 #[.pointer (some ⟨b,0,none⟩),.agg #[.int .i64 x.k,.int .i64 x.op,.int .i64 x.n,.string (bstr x.nm),.slice p n c,.int .i64 x.a]] w fun e w' => e = .returned (.tuple #[]) ∧ Bld B b (Lib.byteCells (l ++ sg :: x.ks.flatMap f)) w' ∧ Below B w w' ∧ KeptE w w':=by
 by_cases h4 : x.k = 4
 · have hkb : (x.k == 4) = true:=by simpa using h4
   rw [if_pos h4] at hk
   clear h4
   subst hk
   go_enter Tryd.func84,Tryd.ntmps84
   go_wp2_with (go_at_call 47;(with_reducible refine (write_txt B b l ⟨#[45]⟩ _ (by (with_reducible repeat first | exact hb.out | refine Bld.alloc ?_ _ | refine Bld.drewN ?_ _ | refine Bld.drew ?_)) (by simp;omega) (by first | omega | (simp;omega))).mono ?_);rintro e' w1 ⟨rfl,hb1,hB1,hk1⟩;have hz1:=hB1.size;(try simp at hz1);have BX1 : Blk w1 w.heap.size (.int .i64 x.k) (.int .i64 x.op) (.int .i64 x.n) (.string (bstr x.nm)) (.slice p n c) (.int .i64 x.a):=(Blk.new rfl _ _ _ _ _ _).ke hk1;obtain ⟨blx,c0x,c1x,c2x,c3x,c4x,c5x,f0x,f1x,f2x,f3x,f4x,f5x⟩:=(BX1).facts)
   have hBw1 : Below B w w1:=by (with_reducible repeat first | exact Below.refl _ _ | refine Below.alloc ?_ (by first | omega | (simp;omega)) _ | refine Below.drewN ?_ _ | refine Below.drew ?_ | refine Below.setCell ?_ (by first | omega | (simp;omega)) _ | refine Below.trans ?_ (by assumption))
   have hKw1 : KeptE w w1:=by (with_reducible repeat first | exact KeptE.refl _ | refine KeptE.alloc ?_ _ | refine KeptE.drewN ?_ _ | refine KeptE.drew ?_ | refine KeptE.set ?_ (by first | omega | (simp;omega)) _ _ | refine KeptE.step ?_ (by assumption))
   go_loopw [16] (fun iv wr => ∃ i : Nat,iv = .int .i64 i ∧ i ≤ n ∧ Below B w1 wr ∧ KeptE w1 wr ∧ Hid (Bld B b (Lib.byteCells (l ++ 45 :: (x.ks.take i).flatMap f)) wr)) (fun iv _ => n - (intOf iv).toNat)
   case atStart => exact ⟨0,rfl,Nat.zero_le _,Below.refl _ _,KeptE.refl _,hid (by simpa using hb1)⟩
   case round =>
    obtain ⟨i,rfl,hi,hBr,hKr,hbr⟩:=hrel
    have hKw : KeptE w wr:=hKw1.step hKr
    have hzr:=hKr.size
    have hBwr : B ≤ wr.heap.size:=by omega
    have hLr : LB B wr:=hL.b (hBw1.trans hBr)
    by_cases hin : i < n
    · have hin2 : (i : Int) < n:=by omega
      obtain ⟨y,hy⟩ : ∃ y,x.ks[i]? = some y:=⟨_,List.getElem?_eq_getElem (by rw [hn.out];exact hin)⟩
      have hxr:=hx.out.ke hKw
      rw [← hn.out] at hxr
      obtain ⟨g,cap,u,hp,-,hg,hyx,d0,d1,d2,d3,d4,d5⟩:=hxr.kid hy
      rw [hn.out] at hp
      obtain ⟨rfl,rfl⟩ : p = some ⟨g,0,none⟩ ∧ c = cap:=by simpa using hp
      obtain ⟨py,cy,rfl⟩:=hyx.form
      have hsy:=hid (hS.out y (List.mem_of_getElem? hy))
      have hst:=hid (take_step f hy)
      have hfy : Hid (f y = partT (y.k == 6) (tx y)):=hid (by rw [hf.out])
      have hle:=take_len f x.ks (i + 1)
      rw [hst.out,hfy.out] at hle
      have hle2 : (l ++ 45 :: (x.ks.take i).flatMap f).length + (partT (y.k == 6) (tx y)).length ≤ 140737488355328:=by
       rw [List.length_append] at hle
       rw [List.length_append,List.length_cons]
       omega
      have HY:=hid hyx
      clear hyx hxr hp hy hle
      go_wp2_with (go_at_call 95;(with_reducible refine (part_any y (tx y) B b (y.k == 6) py cy _ _ hsy (hid (by (with_reducible repeat first | exact HY.out | refine IsEx.alloc ?_ _ | refine IsEx.drewN ?_ _ | refine IsEx.drew ?_ | (refine IsEx.set ?_ ?_ _ _;rotate_left;first | omega | (simp;done) | (simp;omega)) | refine IsEx.fr ?_ (by assumption) (by omega) | refine IsEx.stay ?_ (by assumption)))) (hid (by (with_reducible repeat first | exact hbr.out | refine Bld.alloc ?_ _ | refine Bld.drewN ?_ _ | refine Bld.drew ?_))) (by first | omega | (simp;omega)) (hLr.b (by (with_reducible repeat first | exact Below.refl _ _ | refine Below.alloc ?_ (by first | omega | (simp;omega)) _ | refine Below.drewN ?_ _ | refine Below.drew ?_ | refine Below.setCell ?_ (by first | omega | (simp;omega)) _ | refine Below.trans ?_ (by assumption)))) hle2).mono ?_);rintro e' w3 ⟨rfl,hb3,hB3,hk3⟩)
      clear hKw
      exact ⟨⟨i + 1,by simp,by omega,by (with_reducible repeat first | exact Below.refl _ _ | refine Below.alloc ?_ (by first | omega | (simp;omega)) _ | refine Below.drewN ?_ _ | refine Below.drew ?_ | refine Below.setCell ?_ (by first | omega | (simp;omega)) _ | refine Below.trans ?_ (by assumption)),by (with_reducible repeat first | exact KeptE.refl _ | refine KeptE.alloc ?_ _ | refine KeptE.drewN ?_ _ | refine KeptE.drew ?_ | refine KeptE.set ?_ (by first | omega | (simp;omega)) _ _ | refine KeptE.step ?_ (by assumption)),hid (by rw [hst.out,hfy.out];simpa using hb3)⟩,by simp [intOf];omega⟩
    · obtain rfl : i = n:=by omega
      go_wp2
      go_end0
      exact ⟨rfl,by (have:=hbr.out;rwa [← hn.out,List.take_length] at this),by (with_reducible repeat first | exact Below.refl _ _ | refine Below.alloc ?_ (by first | omega | (simp;omega)) _ | refine Below.drewN ?_ _ | refine Below.drew ?_ | refine Below.setCell ?_ (by first | omega | (simp;omega)) _ | refine Below.trans ?_ (by assumption)),by (with_reducible repeat first | exact KeptE.refl _ | refine KeptE.alloc ?_ _ | refine KeptE.drewN ?_ _ | refine KeptE.drew ?_ | refine KeptE.set ?_ (by first | omega | (simp;omega)) _ _ | refine KeptE.step ?_ (by assumption))⟩
 · have hkb : (x.k == 4) = false:=by simpa using h4
   rw [if_neg h4] at hk
   clear h4
   subst hk
   go_enter Tryd.func84,Tryd.ntmps84
   go_wp2_with (go_at_call 47;(with_reducible refine (write_txt B b l ⟨#[33]⟩ _ (by (with_reducible repeat first | exact hb.out | refine Bld.alloc ?_ _ | refine Bld.drewN ?_ _ | refine Bld.drew ?_)) (by simp;omega) (by first | omega | (simp;omega))).mono ?_);rintro e' w1 ⟨rfl,hb1,hB1,hk1⟩;have hz1:=hB1.size;(try simp at hz1);have BX1 : Blk w1 w.heap.size (.int .i64 x.k) (.int .i64 x.op) (.int .i64 x.n) (.string (bstr x.nm)) (.slice p n c) (.int .i64 x.a):=(Blk.new rfl _ _ _ _ _ _).ke hk1;obtain ⟨blx,c0x,c1x,c2x,c3x,c4x,c5x,f0x,f1x,f2x,f3x,f4x,f5x⟩:=(BX1).facts)
   have hBw1 : Below B w w1:=by (with_reducible repeat first | exact Below.refl _ _ | refine Below.alloc ?_ (by first | omega | (simp;omega)) _ | refine Below.drewN ?_ _ | refine Below.drew ?_ | refine Below.setCell ?_ (by first | omega | (simp;omega)) _ | refine Below.trans ?_ (by assumption))
   have hKw1 : KeptE w w1:=by (with_reducible repeat first | exact KeptE.refl _ | refine KeptE.alloc ?_ _ | refine KeptE.drewN ?_ _ | refine KeptE.drew ?_ | refine KeptE.set ?_ (by first | omega | (simp;omega)) _ _ | refine KeptE.step ?_ (by assumption))
   go_loopw [16] (fun iv wr => ∃ i : Nat,iv = .int .i64 i ∧ i ≤ n ∧ Below B w1 wr ∧ KeptE w1 wr ∧ Hid (Bld B b (Lib.byteCells (l ++ 33 :: (x.ks.take i).flatMap f)) wr)) (fun iv _ => n - (intOf iv).toNat)
   case atStart => exact ⟨0,rfl,Nat.zero_le _,Below.refl _ _,KeptE.refl _,hid (by simpa using hb1)⟩
   case round =>
    obtain ⟨i,rfl,hi,hBr,hKr,hbr⟩:=hrel
    have hKw : KeptE w wr:=hKw1.step hKr
    have hzr:=hKr.size
    have hBwr : B ≤ wr.heap.size:=by omega
    have hLr : LB B wr:=hL.b (hBw1.trans hBr)
    by_cases hin : i < n
    · have hin2 : (i : Int) < n:=by omega
      obtain ⟨y,hy⟩ : ∃ y,x.ks[i]? = some y:=⟨_,List.getElem?_eq_getElem (by rw [hn.out];exact hin)⟩
      have hxr:=hx.out.ke hKw
      rw [← hn.out] at hxr
      obtain ⟨g,cap,u,hp,-,hg,hyx,d0,d1,d2,d3,d4,d5⟩:=hxr.kid hy
      rw [hn.out] at hp
      obtain ⟨rfl,rfl⟩ : p = some ⟨g,0,none⟩ ∧ c = cap:=by simpa using hp
      obtain ⟨py,cy,rfl⟩:=hyx.form
      have hsy:=hid (hS.out y (List.mem_of_getElem? hy))
      have hst:=hid (take_step f hy)
      have hfy : Hid (f y = partT (y.k == 6) (tx y)):=hid (by rw [hf.out])
      have hle:=take_len f x.ks (i + 1)
      rw [hst.out,hfy.out] at hle
      have hle2 : (l ++ 33 :: (x.ks.take i).flatMap f).length + (partT (y.k == 6) (tx y)).length ≤ 140737488355328:=by
       rw [List.length_append] at hle
       rw [List.length_append,List.length_cons]
       omega
      have HY:=hid hyx
      clear hyx hxr hp hy hle
      go_wp2_with (go_at_call 95;(with_reducible refine (part_any y (tx y) B b (y.k == 6) py cy _ _ hsy (hid (by (with_reducible repeat first | exact HY.out | refine IsEx.alloc ?_ _ | refine IsEx.drewN ?_ _ | refine IsEx.drew ?_ | (refine IsEx.set ?_ ?_ _ _;rotate_left;first | omega | (simp;done) | (simp;omega)) | refine IsEx.fr ?_ (by assumption) (by omega) | refine IsEx.stay ?_ (by assumption)))) (hid (by (with_reducible repeat first | exact hbr.out | refine Bld.alloc ?_ _ | refine Bld.drewN ?_ _ | refine Bld.drew ?_))) (by first | omega | (simp;omega)) (hLr.b (by (with_reducible repeat first | exact Below.refl _ _ | refine Below.alloc ?_ (by first | omega | (simp;omega)) _ | refine Below.drewN ?_ _ | refine Below.drew ?_ | refine Below.setCell ?_ (by first | omega | (simp;omega)) _ | refine Below.trans ?_ (by assumption)))) hle2).mono ?_);rintro e' w3 ⟨rfl,hb3,hB3,hk3⟩)
      clear hKw
      exact ⟨⟨i + 1,by simp,by omega,by (with_reducible repeat first | exact Below.refl _ _ | refine Below.alloc ?_ (by first | omega | (simp;omega)) _ | refine Below.drewN ?_ _ | refine Below.drew ?_ | refine Below.setCell ?_ (by first | omega | (simp;omega)) _ | refine Below.trans ?_ (by assumption)),by (with_reducible repeat first | exact KeptE.refl _ | refine KeptE.alloc ?_ _ | refine KeptE.drewN ?_ _ | refine KeptE.drew ?_ | refine KeptE.set ?_ (by first | omega | (simp;omega)) _ _ | refine KeptE.step ?_ (by assumption)),hid (by rw [hst.out,hfy.out];simpa using hb3)⟩,by simp [intOf];omega⟩
    · obtain rfl : i = n:=by omega
      go_wp2
      go_end0
      exact ⟨rfl,by (have:=hbr.out;rwa [← hn.out,List.take_length] at this),by (with_reducible repeat first | exact Below.refl _ _ | refine Below.alloc ?_ (by first | omega | (simp;omega)) _ | refine Below.drewN ?_ _ | refine Below.drew ?_ | refine Below.setCell ?_ (by first | omega | (simp;omega)) _ | refine Below.trans ?_ (by assumption)),by (with_reducible repeat first | exact KeptE.refl _ | refine KeptE.alloc ?_ _ | refine KeptE.drewN ?_ _ | refine KeptE.drew ?_ | refine KeptE.set ?_ (by first | omega | (simp;omega)) _ _ | refine KeptE.step ?_ (by assumption))⟩
def rowT (f : Ex → List UInt8) : List Ex → List UInt8
 | [] => []
 | x :: r => f x ++ r.flatMap fun y => 44 :: 32 :: f y
theorem rowT_first (f : Ex → List UInt8) {l : List Ex} {x : Ex} (h : l[0]? = some x) : rowT f (l.take 1) = f x:=by
 cases l with
 | nil => simp at h
 | cons a r =>
  simp at h
  subst h
  simp [rowT]
theorem rowT_step (f : Ex → List UInt8) {l : List Ex} {i : Nat} {x : Ex} (h : l[i]? = some x) (hi : 0 < i) : rowT f (l.take (i + 1)) = rowT f (l.take i) ++ (44 :: 32 :: f x):=by
 cases l with
 | nil => simp at h
 | cons a r =>
  obtain ⟨k,rfl⟩ : ∃ k,i = k + 1:=⟨i - 1,by omega⟩
  have hk : r[k]? = some x:=by simpa using h
  rw [List.take_succ_cons,List.take_succ_cons]
  show f a ++ _ = (f a ++ _) ++ _
  rw [take_step _ hk,List.append_assoc]
theorem rowT_le (f : Ex → List UInt8) (l : List Ex) (i : Nat) : (rowT f (l.take i)).length ≤ (rowT f l).length:=by
 cases l with
 | nil => simp
 | cons a r =>
  cases i with
  | zero => simp [rowT]
  | succ k =>
   rw [List.take_succ_cons]
   have:=take_len (fun y => 44 :: 32 :: f y) r k
   simp only [rowT,List.length_append]
   omega
theorem row_any (x : Ex) (f : Ex → List UInt8) (s1 s2 : ByteArray) (B b n : Nat) (p : Option Addr) (c : Nat) (l : List UInt8) (w : World) (hn : Hid (x.ks.length = n)) (hn9 : n < 1000000000) (hS : Hid (∀ y ∈ x.ks,Shows y (f y) B b)) (hx : Hid (IsEx 0 w x (.slice p n c))) (hb : Hid (Bld B b (Lib.byteCells l) w)) (hB : B ≤ w.heap.size) (hL : LB B w)
 (t1 t2 : List UInt8) (h1 : Hid ((bstr x.nm ++ s1).data.toList = t1)) (h2 : Hid (s2.data.toList = t2)) (hl : l.length + t1.length + (rowT f x.ks).length + t2.length ≤ 140737488355328) :
 Calls Tryd.prog 83 #[.pointer (some ⟨b,0,none⟩),.agg #[.int .i64 x.k,.int .i64 x.op,.int .i64 x.n,.string (bstr x.nm),.slice p n c,.int .i64 x.a],.string s1,.string s2] w fun e w' => e = .returned (.tuple #[]) ∧ Bld B b (Lib.byteCells (l ++ t1 ++ rowT f x.ks ++ t2)) w' ∧ Below B w w' ∧ KeptE w w':=by
 have hcat : (bstr x.nm).size + s1.size ≤ 9223372036854775807:=by
  have e : (bstr x.nm ++ s1).size = (bstr x.nm).size + s1.size:=ByteArray.size_append
  have e2 : (bstr x.nm ++ s1).size = t1.length:=by rw [← h1.out];simp
  omega
 have hcat2 : ¬ 9223372036854775807 < (bstr x.nm).size + s1.size:=by omega
 go_enter Tryd.func83,Tryd.ntmps83
 go_wp2_with (go_at_call 47;(with_reducible refine (write_txt B b l (bstr x.nm ++ s1) _ (by (with_reducible repeat first | exact hb.out | refine Bld.alloc ?_ _ | refine Bld.drewN ?_ _ | refine Bld.drew ?_)) (by rw [h1.out];omega) (by first | omega | (simp;omega))).mono ?_);rintro e' w1 ⟨rfl,hb1,hB1,hk1⟩;have hz1:=hB1.size;(try simp at hz1);have BX1 : Blk w1 w.heap.size (.int .i64 x.k) (.int .i64 x.op) (.int .i64 x.n) (.string (bstr x.nm)) (.slice p n c) (.int .i64 x.a):=(Blk.new rfl _ _ _ _ _ _).ke hk1;obtain ⟨blx,c0x,c1x,c2x,c3x,c4x,c5x,f0x,f1x,f2x,f3x,f4x,f5x⟩:=(BX1).facts)
 have hBw1 : Below B w w1:=by (with_reducible repeat first | exact Below.refl _ _ | refine Below.alloc ?_ (by first | omega | (simp;omega)) _ | refine Below.drewN ?_ _ | refine Below.drew ?_ | refine Below.setCell ?_ (by first | omega | (simp;omega)) _ | refine Below.trans ?_ (by assumption))
 have hKw1 : KeptE w w1:=by (with_reducible repeat first | exact KeptE.refl _ | refine KeptE.alloc ?_ _ | refine KeptE.drewN ?_ _ | refine KeptE.drew ?_ | refine KeptE.set ?_ (by first | omega | (simp;omega)) _ _ | refine KeptE.step ?_ (by assumption))
 rw [h1.out] at hb1
 go_loopw [19] (fun iv wr => ∃ i : Nat,iv = .int .i64 i ∧ i ≤ n ∧ Below B w1 wr ∧ KeptE w1 wr ∧ Hid (Bld B b (Lib.byteCells (l ++ t1 ++ rowT f (x.ks.take i))) wr)) (fun iv _ => n - (intOf iv).toNat)
 case atStart => exact ⟨0,rfl,Nat.zero_le _,Below.refl _ _,KeptE.refl _,hid (by simpa [rowT] using hb1)⟩
 case round =>
  obtain ⟨i,rfl,hi,hBr,hKr,hbr⟩:=hrel
  have hKw : KeptE w wr:=hKw1.step hKr
  have hzr:=hKr.size
  have hBwr : B ≤ wr.heap.size:=by omega
  have hLr : LB B wr:=hL.b (hBw1.trans hBr)
  by_cases hin : i < n
  · have hin2 : (i : Int) < n:=by omega
    obtain ⟨y,hy⟩ : ∃ y,x.ks[i]? = some y:=⟨_,List.getElem?_eq_getElem (by rw [hn.out];exact hin)⟩
    have hxr:=hx.out.ke hKw
    rw [← hn.out] at hxr
    obtain ⟨g,cap,u,hp,-,hg,hyx,d0,d1,d2,d3,d4,d5⟩:=hxr.kid hy
    rw [hn.out] at hp
    obtain ⟨rfl,rfl⟩ : p = some ⟨g,0,none⟩ ∧ c = cap:=by simpa using hp
    obtain ⟨py,cy,rfl⟩:=hyx.form
    have hsy:=hid (hS.out y (List.mem_of_getElem? hy))
    have HY:=hid hyx
    have hle:=rowT_le f x.ks (i + 1)
    by_cases h0 : i = 0
    · have hs0 : Hid (rowT f (x.ks.take (i + 1)) = rowT f (x.ks.take i) ++ f y):=hid (by rw [h0] at hy ⊢;rw [rowT_first f hy];simp [rowT])
      have hi0 : ¬ ((0 : Int) < (i : Int)):=by omega
      rw [hs0.out,List.length_append] at hle
      have hle2 : (l ++ t1 ++ rowT f (x.ks.take i)).length + (f y).length ≤ 140737488355328:=by
       rw [List.length_append,List.length_append]
       omega
      clear hyx hxr hp hy hle h0
      go_wp2_with (go_at_call 66;(with_reducible refine (hsy.out py cy _ _ (by (with_reducible repeat first | exact HY.out | refine IsEx.alloc ?_ _ | refine IsEx.drewN ?_ _ | refine IsEx.drew ?_ | (refine IsEx.set ?_ ?_ _ _;rotate_left;first | omega | (simp;done) | (simp;omega)) | refine IsEx.fr ?_ (by assumption) (by omega) | refine IsEx.stay ?_ (by assumption))) (by (with_reducible repeat first | exact hbr.out | refine Bld.alloc ?_ _ | refine Bld.drewN ?_ _ | refine Bld.drew ?_)) (by first | omega | (simp;omega)) (hLr.b (by (with_reducible repeat first | exact Below.refl _ _ | refine Below.alloc ?_ (by first | omega | (simp;omega)) _ | refine Below.drewN ?_ _ | refine Below.drew ?_ | refine Below.setCell ?_ (by first | omega | (simp;omega)) _ | refine Below.trans ?_ (by assumption)))) hle2).mono ?_);rintro e' w3 ⟨rfl,hb3,hB3,hk3⟩)
      clear hKw
      exact ⟨⟨i + 1,by simp,by omega,by (with_reducible repeat first | exact Below.refl _ _ | refine Below.alloc ?_ (by first | omega | (simp;omega)) _ | refine Below.drewN ?_ _ | refine Below.drew ?_ | refine Below.setCell ?_ (by first | omega | (simp;omega)) _ | refine Below.trans ?_ (by assumption)),by (with_reducible repeat first | exact KeptE.refl _ | refine KeptE.alloc ?_ _ | refine KeptE.drewN ?_ _ | refine KeptE.drew ?_ | refine KeptE.set ?_ (by first | omega | (simp;omega)) _ _ | refine KeptE.step ?_ (by assumption)),hid (by rw [hs0.out];simpa using hb3)⟩,by simp [intOf];omega⟩
    · have hs0 : Hid (rowT f (x.ks.take (i + 1)) = rowT f (x.ks.take i) ++ (44 :: 32 :: f y)):=hid (rowT_step f hy (by omega))
      have hi0 : (0 : Int) < (i : Int):=by omega
      rw [hs0.out,List.length_append,List.length_cons,List.length_cons] at hle
      have hle1 : (l ++ t1 ++ rowT f (x.ks.take i)).length + 2 ≤ 140737488355328:=by
       rw [List.length_append,List.length_append]
       omega
      have hle2 : (l ++ t1 ++ rowT f (x.ks.take i) ++ [44,32]).length + (f y).length ≤ 140737488355328:=by
       rw [List.length_append,List.length_append,List.length_append]
       show _ + 2 + _ ≤ _
       omega
      clear hyx hxr hp hy hle h0
      go_wp2_with (first
       | (go_at_call 47;(with_reducible refine (write_txt B b _ ⟨#[44,32]⟩ _ (by (with_reducible repeat first | exact hbr.out | refine Bld.alloc ?_ _ | refine Bld.drewN ?_ _ | refine Bld.drew ?_)) hle1 (by first | omega | (simp;omega))).mono ?_);rintro e' w2 ⟨rfl,hb2,hB2,hk2⟩;have hz2:=hB2.size;(try simp at hz2);have BY2 : Blk w2 wr.heap.size (.int .i64 y.k) (.int .i64 y.op) (.int .i64 y.n) (.string (bstr y.nm)) (.slice py y.ks.length cy) (.int .i64 y.a):=(Blk.new rfl _ _ _ _ _ _).ke hk2;obtain ⟨bly,c0y,c1y,c2y,c3y,c4y,c5y,f0y,f1y,f2y,f3y,f4y,f5y⟩:=(BY2).facts)
       | (go_at_call 66;(with_reducible refine (hsy.out py cy (l ++ t1 ++ rowT f (x.ks.take i) ++ [44,32]) _ (by (refine IsEx.ke ?_ hk2;(with_reducible repeat first | exact HY.out | refine IsEx.alloc ?_ _ | refine IsEx.drewN ?_ _ | refine IsEx.drew ?_ | (refine IsEx.set ?_ ?_ _ _;rotate_left;first | omega | (simp;done) | (simp;omega)) | refine IsEx.fr ?_ (by assumption) (by omega) | refine IsEx.stay ?_ (by assumption)))) (by (with_reducible repeat first | exact hb2 | refine Bld.alloc ?_ _ | refine Bld.drewN ?_ _ | refine Bld.drew ?_)) (by first | omega | (simp;omega)) (hLr.b (by (with_reducible repeat first | exact Below.refl _ _ | refine Below.alloc ?_ (by first | omega | (simp;omega)) _ | refine Below.drewN ?_ _ | refine Below.drew ?_ | refine Below.setCell ?_ (by first | omega | (simp;omega)) _ | refine Below.trans ?_ (by assumption)))) hle2).mono ?_);rintro e' w3 ⟨rfl,hb3,hB3,hk3⟩))
      clear hKw
      exact ⟨⟨i + 1,by simp,by omega,by (with_reducible repeat first | exact Below.refl _ _ | refine Below.alloc ?_ (by first | omega | (simp;omega)) _ | refine Below.drewN ?_ _ | refine Below.drew ?_ | refine Below.setCell ?_ (by first | omega | (simp;omega)) _ | refine Below.trans ?_ (by assumption)),by (with_reducible repeat first | exact KeptE.refl _ | refine KeptE.alloc ?_ _ | refine KeptE.drewN ?_ _ | refine KeptE.drew ?_ | refine KeptE.set ?_ (by first | omega | (simp;omega)) _ _ | refine KeptE.step ?_ (by assumption)),hid (by rw [hs0.out];simpa using hb3)⟩,by simp [intOf];omega⟩
  · obtain rfl : i = n:=by omega
    have hle : (l ++ t1 ++ rowT f (x.ks.take i)).length + s2.data.toList.length ≤ 140737488355328:=by
     rw [h2.out,← hn.out,List.take_length,List.length_append,List.length_append]
     omega
    go_wp2_with (go_at_call 47;(with_reducible refine (write_txt B b _ s2 _ (by (with_reducible repeat first | exact hbr.out | refine Bld.alloc ?_ _ | refine Bld.drewN ?_ _ | refine Bld.drew ?_)) hle (by first | omega | (simp;omega))).mono ?_);rintro e' w2 ⟨rfl,hb2,hB2,hk2⟩)
    go_end0
    exact ⟨rfl,by (rw [h2.out,← hn.out,List.take_length] at hb2;exact hb2),by (with_reducible repeat first | exact Below.refl _ _ | refine Below.alloc ?_ (by first | omega | (simp;omega)) _ | refine Below.drewN ?_ _ | refine Below.drew ?_ | refine Below.setCell ?_ (by first | omega | (simp;omega)) _ | refine Below.trans ?_ (by assumption)),by (clear hKr;(with_reducible repeat first | exact KeptE.refl _ | refine KeptE.alloc ?_ _ | refine KeptE.drewN ?_ _ | refine KeptE.drew ?_ | refine KeptE.set ?_ (by first | omega | (simp;omega)) _ _ | refine KeptE.step ?_ (by assumption)))⟩
def twoT (F0 F1 : Ex → List UInt8) : List Ex → List UInt8
 | [] => []
 | x :: r => F0 x ++ r.flatMap F1
theorem twoT_first (F0 F1 : Ex → List UInt8) {l : List Ex} {x : Ex} (h : l[0]? = some x) : twoT F0 F1 (l.take 1) = F0 x:=by
 cases l with
 | nil => simp at h
 | cons a r =>
  simp at h
  subst h
  simp [twoT]
theorem twoT_step (F0 F1 : Ex → List UInt8) {l : List Ex} {i : Nat} {x : Ex} (h : l[i]? = some x) (hi : 0 < i) : twoT F0 F1 (l.take (i + 1)) = twoT F0 F1 (l.take i) ++ F1 x:=by
 cases l with
 | nil => simp at h
 | cons a r =>
  obtain ⟨k,rfl⟩ : ∃ k,i = k + 1:=⟨i - 1,by omega⟩
  have hk : r[k]? = some x:=by simpa using h
  rw [List.take_succ_cons,List.take_succ_cons]
  show F0 a ++ _ = (F0 a ++ _) ++ _
  rw [take_step _ hk,List.append_assoc]
theorem twoT_le (F0 F1 : Ex → List UInt8) (l : List Ex) (i : Nat) : (twoT F0 F1 (l.take i)).length ≤ (twoT F0 F1 l).length:=by
 cases l with
 | nil => simp
 | cons a r =>
  cases i with
  | zero => simp [twoT]
  | succ k =>
   rw [List.take_succ_cons]
   have:=take_len F1 r k
   simp only [twoT,List.length_append]
   omega
theorem write_sp (B b : Nat) (l : List UInt8) (o : Int) (w : World) (h : Bld B b (Lib.byteCells l) w) (hlen : l.length + ((⟨#[32]⟩ : ByteArray) ++ sgnZ o ++ ⟨#[32]⟩).data.toList.length ≤ 140737488355328) (hBw : B ≤ w.heap.size) :
 Calls Tryd.prog 47 #[.pointer (some ⟨b,0,none⟩),.string ((⟨#[32]⟩ : ByteArray) ++ sgnZ o ++ ⟨#[32]⟩)] w fun e w' => e = .returned (.tuple #[.int .i64 ((⟨#[32]⟩ : ByteArray) ++ sgnZ o ++ ⟨#[32]⟩).size,.nilIface]) ∧ Bld B b (Lib.byteCells (l ++ ((⟨#[32]⟩ : ByteArray) ++ sgnZ o ++ ⟨#[32]⟩).data.toList)) w' ∧ Below B w w' ∧ KeptE w w':=write_txt B b l _ w h hlen hBw
theorem two_any (x : Ex) (tx F0 F1 : Ex → List UInt8) (B b n : Nat) (p : Option Addr) (c : Nat) (l : List UInt8) (w : World) (hn : Hid (x.ks.length = n)) (hn9 : n < 1000000000) (hS : Hid (∀ y ∈ x.ks,Shows y (tx y) B b)) (hx : Hid (IsEx 0 w x (.slice p n c))) (hb : Hid (Bld B b (Lib.byteCells l) w)) (hB : B ≤ w.heap.size) (hL : LB B w)
 (t1 : List UInt8) (h1 : Hid (((⟨#[32]⟩ : ByteArray) ++ sgnZ x.op ++ ⟨#[32]⟩).data.toList = t1)) (hs : (sgnZ x.op).size ≤ 2)
 (h0 : Hid (F0 = fun y => partT ((y.k == 6) && decide (rnkZ y.op < rnkZ x.op)) (tx y))) (hF1 : Hid (F1 = fun y => t1 ++ partT ((y.k == 6) && decide (rnkZ y.op ≤ rnkZ x.op)) (tx y))) (hl : l.length + (twoT F0 F1 x.ks).length ≤ 140737488355328) :
 Calls Tryd.prog 85 #[.pointer (some ⟨b,0,none⟩),.agg #[.int .i64 x.k,.int .i64 x.op,.int .i64 x.n,.string (bstr x.nm),.slice p n c,.int .i64 x.a]] w fun e w' => e = .returned (.tuple #[]) ∧ Bld B b (Lib.byteCells (l ++ twoT F0 F1 x.ks)) w' ∧ Below B w w' ∧ KeptE w w':=by
 have hsz : (sgnZ x.op).size < 1000:=by omega
 go_enter Tryd.func85,Tryd.ntmps85
 go_wp2_with (go_at_call 96;(with_reducible refine (rank_any x.op _ (LB.laid (hL.b (by (with_reducible repeat first | exact Below.refl _ _ | refine Below.alloc ?_ (by first | omega | (simp;omega)) _ | refine Below.drewN ?_ _ | refine Below.drew ?_ | refine Below.setCell ?_ (by first | omega | (simp;omega)) _ | refine Below.trans ?_ (by assumption))))).tab).mono ?_);rintro e' w1 ⟨rfl,rfl⟩)
 obtain ⟨w1,hw1⟩ : ∃ w1,w1 = w.alloc (.cells #[.int .i64 x.k,.int .i64 x.op,.int .i64 x.n,.string (bstr x.nm),.slice p n c,.int .i64 x.a] 71):=⟨_,rfl⟩
 rw [← hw1]
 have hBw1 : Below B w w1:=by (rw [hw1];(with_reducible repeat first | exact Below.refl _ _ | refine Below.alloc ?_ (by first | omega | (simp;omega)) _ | refine Below.drewN ?_ _ | refine Below.drew ?_ | refine Below.setCell ?_ (by first | omega | (simp;omega)) _ | refine Below.trans ?_ (by assumption)))
 have hKw1 : KeptE w w1:=by (rw [hw1];(with_reducible repeat first | exact KeptE.refl _ | refine KeptE.alloc ?_ _ | refine KeptE.drewN ?_ _ | refine KeptE.drew ?_ | refine KeptE.set ?_ (by first | omega | (simp;omega)) _ _ | refine KeptE.step ?_ (by assumption)))
 have hb1 : Bld B b (Lib.byteCells l) w1:=by (rw [hw1];exact hb.out.alloc _)
 have BX1 : Hid (Blk w1 w.heap.size (.int .i64 x.k) (.int .i64 x.op) (.int .i64 x.n) (.string (bstr x.nm)) (.slice p n c) (.int .i64 x.a)):=hid (by rw [hw1];exact Blk.new rfl _ _ _ _ _ _)
 have hz1 : w.heap.size < w1.heap.size:=by (rw [hw1];simp)
 clear hw1
 go_loopw [14] (fun iv wr => ∃ i : Nat,iv = .int .i64 i ∧ i ≤ n ∧ Below B w1 wr ∧ KeptE w1 wr ∧ Hid (Bld B b (Lib.byteCells (l ++ twoT F0 F1 (x.ks.take i))) wr)) (fun iv _ => n - (intOf iv).toNat)
 case atStart => exact ⟨0,rfl,Nat.zero_le _,Below.refl _ _,KeptE.refl _,hid (by simpa [twoT] using hb1)⟩
 case round =>
  obtain ⟨i,rfl,hi,hBr,hKr,hbr⟩:=hrel
  have hKw : KeptE w wr:=hKw1.step hKr
  have hzr:=hKr.size
  have hBwr : B ≤ wr.heap.size:=by omega
  have hLr : LB B wr:=hL.b (hBw1.trans hBr)
  have BXr:=BX1.out.ke hKr
  obtain ⟨blx,c0x,c1x,c2x,c3x,c4x,c5x,f0x,f1x,f2x,f3x,f4x,f5x⟩:=(BXr).facts
  by_cases hin : i < n
  · have hin2 : (i : Int) < n:=by omega
    obtain ⟨y,hy⟩ : ∃ y,x.ks[i]? = some y:=⟨_,List.getElem?_eq_getElem (by rw [hn.out];exact hin)⟩
    have hxr:=hx.out.ke hKw
    rw [← hn.out] at hxr
    obtain ⟨g,cap,u,hp,-,hg,hyx,d0,d1,d2,d3,d4,d5⟩:=hxr.kid hy
    rw [hn.out] at hp
    obtain ⟨rfl,rfl⟩ : p = some ⟨g,0,none⟩ ∧ c = cap:=by simpa using hp
    obtain ⟨py,cy,rfl⟩:=hyx.form
    have hsy:=hid (hS.out y (List.mem_of_getElem? hy))
    have HY:=hid hyx
    have hle:=twoT_le F0 F1 x.ks (i + 1)
    have hx1 : w.heap.size ≠ wr.heap.size:=by omega
    by_cases hz : i = 0
    · have hs0 : Hid (twoT F0 F1 (x.ks.take (i + 1)) = twoT F0 F1 (x.ks.take i) ++ F0 y):=hid (by rw [hz] at hy ⊢;rw [twoT_first F0 F1 hy];simp [twoT])
      have hi0 : (((i : Int)) == 0) = true:=by simp [hz]
      rw [hs0.out,List.length_append] at hle
      have hle2 : ∀ T,F0 y = T → (l ++ twoT F0 F1 (x.ks.take i)).length + T.length ≤ 140737488355328:=by
       rintro _ rfl
       rw [List.length_append]
       omega
      clear hyx hxr hp hy hle hz
      rcases (show (¬ y.k = 6) ∨ (y.k = 6 ∧ rnkZ y.op < rnkZ x.op) ∨ (y.k = 6 ∧ ¬ rnkZ y.op < rnkZ x.op) by omega) with hc | hc | hc
      · have hkb : (y.k == 6) = false:=by simpa using hc
        have hF : F0 y = partT false (tx y):=by (rw [h0.out];simp [hkb])
        clear hc
        go_wp2_with (first
         | (go_at_call 96;(with_reducible refine (rank_any y.op _ (LB.laid (hLr.b (by (with_reducible repeat first | exact Below.refl _ _ | refine Below.alloc ?_ (by first | omega | (simp;omega)) _ | refine Below.drewN ?_ _ | refine Below.drew ?_ | refine Below.setCell ?_ (by first | omega | (simp;omega)) _ | refine Below.trans ?_ (by assumption))))).tab).mono ?_);rintro e' w5 ⟨rfl,rfl⟩)
         | (go_at_call 95;(with_reducible refine (part_any y (tx y) B b false py cy _ _ hsy (hid (by (with_reducible repeat first | exact HY.out | refine IsEx.alloc ?_ _ | refine IsEx.drewN ?_ _ | refine IsEx.drew ?_ | (refine IsEx.set ?_ ?_ _ _;rotate_left;first | omega | (simp;done) | (simp;omega)) | refine IsEx.fr ?_ (by assumption) (by omega) | refine IsEx.stay ?_ (by assumption)))) (hid (by (with_reducible repeat first | exact hbr.out | refine Bld.alloc ?_ _ | refine Bld.drewN ?_ _ | refine Bld.drew ?_))) (by first | omega | (simp;omega)) (hLr.b (by (with_reducible repeat first | exact Below.refl _ _ | refine Below.alloc ?_ (by first | omega | (simp;omega)) _ | refine Below.drewN ?_ _ | refine Below.drew ?_ | refine Below.setCell ?_ (by first | omega | (simp;omega)) _ | refine Below.trans ?_ (by assumption)))) (hle2 _ hF)).mono ?_);rintro e' w3 ⟨rfl,hb3,hB3,hk3⟩))
        clear hKw
        exact ⟨⟨i + 1,by simp,by omega,by (with_reducible repeat first | exact Below.refl _ _ | refine Below.alloc ?_ (by first | omega | (simp;omega)) _ | refine Below.drewN ?_ _ | refine Below.drew ?_ | refine Below.setCell ?_ (by first | omega | (simp;omega)) _ | refine Below.trans ?_ (by assumption)),by (with_reducible repeat first | exact KeptE.refl _ | refine KeptE.alloc ?_ _ | refine KeptE.drewN ?_ _ | refine KeptE.drew ?_ | refine KeptE.set ?_ (by first | omega | (simp;omega)) _ _ | refine KeptE.step ?_ (by assumption)),hid (by rw [hs0.out,hF];simpa using hb3)⟩,by simp [intOf];omega⟩
      · have hkb : (y.k == 6) = true:=by simpa using hc.1
        have hcm:=hc.2
        have hF : F0 y = partT true (tx y):=by (rw [h0.out];simp [hkb,hcm])
        clear hc
        go_wp2_with (first
         | (go_at_call 96;(with_reducible refine (rank_any y.op _ (LB.laid (hLr.b (by (with_reducible repeat first | exact Below.refl _ _ | refine Below.alloc ?_ (by first | omega | (simp;omega)) _ | refine Below.drewN ?_ _ | refine Below.drew ?_ | refine Below.setCell ?_ (by first | omega | (simp;omega)) _ | refine Below.trans ?_ (by assumption))))).tab).mono ?_);rintro e' w5 ⟨rfl,rfl⟩)
         | (go_at_call 95;(with_reducible refine (part_any y (tx y) B b true py cy _ _ hsy (hid (by (with_reducible repeat first | exact HY.out | refine IsEx.alloc ?_ _ | refine IsEx.drewN ?_ _ | refine IsEx.drew ?_ | (refine IsEx.set ?_ ?_ _ _;rotate_left;first | omega | (simp;done) | (simp;omega)) | refine IsEx.fr ?_ (by assumption) (by omega) | refine IsEx.stay ?_ (by assumption)))) (hid (by (with_reducible repeat first | exact hbr.out | refine Bld.alloc ?_ _ | refine Bld.drewN ?_ _ | refine Bld.drew ?_))) (by first | omega | (simp;omega)) (hLr.b (by (with_reducible repeat first | exact Below.refl _ _ | refine Below.alloc ?_ (by first | omega | (simp;omega)) _ | refine Below.drewN ?_ _ | refine Below.drew ?_ | refine Below.setCell ?_ (by first | omega | (simp;omega)) _ | refine Below.trans ?_ (by assumption)))) (hle2 _ hF)).mono ?_);rintro e' w3 ⟨rfl,hb3,hB3,hk3⟩))
        clear hKw
        exact ⟨⟨i + 1,by simp,by omega,by (with_reducible repeat first | exact Below.refl _ _ | refine Below.alloc ?_ (by first | omega | (simp;omega)) _ | refine Below.drewN ?_ _ | refine Below.drew ?_ | refine Below.setCell ?_ (by first | omega | (simp;omega)) _ | refine Below.trans ?_ (by assumption)),by (with_reducible repeat first | exact KeptE.refl _ | refine KeptE.alloc ?_ _ | refine KeptE.drewN ?_ _ | refine KeptE.drew ?_ | refine KeptE.set ?_ (by first | omega | (simp;omega)) _ _ | refine KeptE.step ?_ (by assumption)),hid (by rw [hs0.out,hF];simpa using hb3)⟩,by simp [intOf];omega⟩
      · have hkb : (y.k == 6) = true:=by simpa using hc.1
        have hcm:=hc.2
        have hF : F0 y = partT (decide (rnkZ y.op < rnkZ x.op)) (tx y):=by (rw [h0.out];simp [hkb])
        clear hc hcm
        go_wp2_with (first
         | (go_at_call 96;(with_reducible refine (rank_any y.op _ (LB.laid (hLr.b (by (with_reducible repeat first | exact Below.refl _ _ | refine Below.alloc ?_ (by first | omega | (simp;omega)) _ | refine Below.drewN ?_ _ | refine Below.drew ?_ | refine Below.setCell ?_ (by first | omega | (simp;omega)) _ | refine Below.trans ?_ (by assumption))))).tab).mono ?_);rintro e' w5 ⟨rfl,rfl⟩)
         | (go_at_call 95;(with_reducible refine (part_any y (tx y) B b (decide (rnkZ y.op < rnkZ x.op)) py cy _ _ hsy (hid (by (with_reducible repeat first | exact HY.out | refine IsEx.alloc ?_ _ | refine IsEx.drewN ?_ _ | refine IsEx.drew ?_ | (refine IsEx.set ?_ ?_ _ _;rotate_left;first | omega | (simp;done) | (simp;omega)) | refine IsEx.fr ?_ (by assumption) (by omega) | refine IsEx.stay ?_ (by assumption)))) (hid (by (with_reducible repeat first | exact hbr.out | refine Bld.alloc ?_ _ | refine Bld.drewN ?_ _ | refine Bld.drew ?_))) (by first | omega | (simp;omega)) (hLr.b (by (with_reducible repeat first | exact Below.refl _ _ | refine Below.alloc ?_ (by first | omega | (simp;omega)) _ | refine Below.drewN ?_ _ | refine Below.drew ?_ | refine Below.setCell ?_ (by first | omega | (simp;omega)) _ | refine Below.trans ?_ (by assumption)))) (hle2 _ hF)).mono ?_);rintro e' w3 ⟨rfl,hb3,hB3,hk3⟩))
        clear hKw
        exact ⟨⟨i + 1,by simp,by omega,by (with_reducible repeat first | exact Below.refl _ _ | refine Below.alloc ?_ (by first | omega | (simp;omega)) _ | refine Below.drewN ?_ _ | refine Below.drew ?_ | refine Below.setCell ?_ (by first | omega | (simp;omega)) _ | refine Below.trans ?_ (by assumption)),by (with_reducible repeat first | exact KeptE.refl _ | refine KeptE.alloc ?_ _ | refine KeptE.drewN ?_ _ | refine KeptE.drew ?_ | refine KeptE.set ?_ (by first | omega | (simp;omega)) _ _ | refine KeptE.step ?_ (by assumption)),hid (by rw [hs0.out,hF];simpa using hb3)⟩,by simp [intOf];omega⟩
    · have hs0 : Hid (twoT F0 F1 (x.ks.take (i + 1)) = twoT F0 F1 (x.ks.take i) ++ F1 y):=hid (twoT_step F0 F1 hy (by omega))
      have hi0 : (((i : Int)) == 0) = false:=by simpa using hz
      have hi1 : ¬ ((i : Int)) = 0:=by omega
      rw [hs0.out,List.length_append] at hle
      have hle2 : ∀ T,F1 y = t1 ++ T → (l ++ twoT F0 F1 (x.ks.take i)).length + t1.length ≤ 140737488355328 ∧ (l ++ twoT F0 F1 (x.ks.take i) ++ t1).length + T.length ≤ 140737488355328:=by
       intro T hT
       rw [hT,List.length_append] at hle
       simp only [List.length_append]
       omega
      clear hyx hxr hp hy hle hz
      rcases (show (¬ y.k = 6) ∨ (y.k = 6 ∧ rnkZ y.op ≤ rnkZ x.op) ∨ (y.k = 6 ∧ ¬ rnkZ y.op ≤ rnkZ x.op) by omega) with hc | hc | hc
      · have hkb : (y.k == 6) = false:=by simpa using hc
        have hF : F1 y = t1 ++ partT false (tx y):=by (rw [hF1.out];simp [hkb])
        have hle3 : (l ++ twoT F0 F1 (x.ks.take i)).length + ((⟨#[32]⟩ : ByteArray) ++ sgnZ x.op ++ ⟨#[32]⟩).data.toList.length ≤ 140737488355328:=by (rw [h1.out];exact (hle2 _ hF).1)
        clear hc
        go_wp2_with (first
         | (go_at_call 96;(with_reducible refine (rank_any y.op _ (LB.laid (hLr.b (by (with_reducible repeat first | exact Below.refl _ _ | refine Below.alloc ?_ (by first | omega | (simp;omega)) _ | refine Below.drewN ?_ _ | refine Below.drew ?_ | refine Below.setCell ?_ (by first | omega | (simp;omega)) _ | refine Below.trans ?_ (by assumption))))).tab).mono ?_);rintro e' w5 ⟨rfl,rfl⟩)
         | (go_at_call 97;(with_reducible refine (sign_any x.op _ (LB.laid (hLr.b (by (with_reducible repeat first | exact Below.refl _ _ | refine Below.alloc ?_ (by first | omega | (simp;omega)) _ | refine Below.drewN ?_ _ | refine Below.drew ?_ | refine Below.setCell ?_ (by first | omega | (simp;omega)) _ | refine Below.trans ?_ (by assumption))))).tab).mono ?_);rintro e' w6 ⟨rfl,rfl⟩)
         | (go_at_call 47;go_loud ((with_reducible refine (write_sp B b (l ++ twoT F0 F1 (x.ks.take i)) x.op _ (by (with_reducible repeat first | exact hbr.out | refine Bld.alloc ?_ _ | refine Bld.drewN ?_ _ | refine Bld.drew ?_)) hle3 (by first | omega | (simp;omega))).mono ?_);rintro e' w2 ⟨rfl,hb2,hB2,hk2⟩;rw [h1.out] at hb2;have hz2:=hB2.size;(try simp at hz2);have BY2 : Blk w2 wr.heap.size (.int .i64 y.k) (.int .i64 y.op) (.int .i64 y.n) (.string (bstr y.nm)) (.slice py y.ks.length cy) (.int .i64 y.a):=(Blk.new rfl _ _ _ _ _ _).ke hk2;obtain ⟨bly,c0y,c1y,c2y,c3y,c4y,c5y,f0y,f1y,f2y,f3y,f4y,f5y⟩:=(BY2).facts))
         | (go_at_call 95;(with_reducible refine (part_any y (tx y) B b false py cy (l ++ twoT F0 F1 (x.ks.take i) ++ t1) _ hsy (hid (by (refine IsEx.ke ?_ hk2;(with_reducible repeat first | exact HY.out | refine IsEx.alloc ?_ _ | refine IsEx.drewN ?_ _ | refine IsEx.drew ?_ | (refine IsEx.set ?_ ?_ _ _;rotate_left;first | omega | (simp;done) | (simp;omega)) | refine IsEx.fr ?_ (by assumption) (by omega) | refine IsEx.stay ?_ (by assumption))))) (hid (by (with_reducible repeat first | exact hb2 | refine Bld.alloc ?_ _ | refine Bld.drewN ?_ _ | refine Bld.drew ?_))) (by first | omega | (simp;omega)) (hLr.b (by (with_reducible repeat first | exact Below.refl _ _ | refine Below.alloc ?_ (by first | omega | (simp;omega)) _ | refine Below.drewN ?_ _ | refine Below.drew ?_ | refine Below.setCell ?_ (by first | omega | (simp;omega)) _ | refine Below.trans ?_ (by assumption)))) (hle2 _ hF).2).mono ?_);rintro e' w3 ⟨rfl,hb3,hB3,hk3⟩))
        clear hKw
        exact ⟨⟨i + 1,by simp,by omega,by (with_reducible repeat first | exact Below.refl _ _ | refine Below.alloc ?_ (by first | omega | (simp;omega)) _ | refine Below.drewN ?_ _ | refine Below.drew ?_ | refine Below.setCell ?_ (by first | omega | (simp;omega)) _ | refine Below.trans ?_ (by assumption)),by (with_reducible repeat first | exact KeptE.refl _ | refine KeptE.alloc ?_ _ | refine KeptE.drewN ?_ _ | refine KeptE.drew ?_ | refine KeptE.set ?_ (by first | omega | (simp;omega)) _ _ | refine KeptE.step ?_ (by assumption)),hid (by rw [hs0.out,hF];simpa using hb3)⟩,by simp [intOf];omega⟩
      · have hkb : (y.k == 6) = true:=by simpa using hc.1
        have hcm:=hc.2
        have hF : F1 y = t1 ++ partT true (tx y):=by (rw [hF1.out];simp [hkb,hcm])
        have hle3 : (l ++ twoT F0 F1 (x.ks.take i)).length + ((⟨#[32]⟩ : ByteArray) ++ sgnZ x.op ++ ⟨#[32]⟩).data.toList.length ≤ 140737488355328:=by (rw [h1.out];exact (hle2 _ hF).1)
        clear hc
        go_wp2_with (first
         | (go_at_call 96;(with_reducible refine (rank_any y.op _ (LB.laid (hLr.b (by (with_reducible repeat first | exact Below.refl _ _ | refine Below.alloc ?_ (by first | omega | (simp;omega)) _ | refine Below.drewN ?_ _ | refine Below.drew ?_ | refine Below.setCell ?_ (by first | omega | (simp;omega)) _ | refine Below.trans ?_ (by assumption))))).tab).mono ?_);rintro e' w5 ⟨rfl,rfl⟩)
         | (go_at_call 97;(with_reducible refine (sign_any x.op _ (LB.laid (hLr.b (by (with_reducible repeat first | exact Below.refl _ _ | refine Below.alloc ?_ (by first | omega | (simp;omega)) _ | refine Below.drewN ?_ _ | refine Below.drew ?_ | refine Below.setCell ?_ (by first | omega | (simp;omega)) _ | refine Below.trans ?_ (by assumption))))).tab).mono ?_);rintro e' w6 ⟨rfl,rfl⟩)
         | (go_at_call 47;go_loud ((with_reducible refine (write_sp B b (l ++ twoT F0 F1 (x.ks.take i)) x.op _ (by (with_reducible repeat first | exact hbr.out | refine Bld.alloc ?_ _ | refine Bld.drewN ?_ _ | refine Bld.drew ?_)) hle3 (by first | omega | (simp;omega))).mono ?_);rintro e' w2 ⟨rfl,hb2,hB2,hk2⟩;rw [h1.out] at hb2;have hz2:=hB2.size;(try simp at hz2);have BY2 : Blk w2 wr.heap.size (.int .i64 y.k) (.int .i64 y.op) (.int .i64 y.n) (.string (bstr y.nm)) (.slice py y.ks.length cy) (.int .i64 y.a):=(Blk.new rfl _ _ _ _ _ _).ke hk2;obtain ⟨bly,c0y,c1y,c2y,c3y,c4y,c5y,f0y,f1y,f2y,f3y,f4y,f5y⟩:=(BY2).facts))
         | (go_at_call 95;(with_reducible refine (part_any y (tx y) B b true py cy (l ++ twoT F0 F1 (x.ks.take i) ++ t1) _ hsy (hid (by (refine IsEx.ke ?_ hk2;(with_reducible repeat first | exact HY.out | refine IsEx.alloc ?_ _ | refine IsEx.drewN ?_ _ | refine IsEx.drew ?_ | (refine IsEx.set ?_ ?_ _ _;rotate_left;first | omega | (simp;done) | (simp;omega)) | refine IsEx.fr ?_ (by assumption) (by omega) | refine IsEx.stay ?_ (by assumption))))) (hid (by (with_reducible repeat first | exact hb2 | refine Bld.alloc ?_ _ | refine Bld.drewN ?_ _ | refine Bld.drew ?_))) (by first | omega | (simp;omega)) (hLr.b (by (with_reducible repeat first | exact Below.refl _ _ | refine Below.alloc ?_ (by first | omega | (simp;omega)) _ | refine Below.drewN ?_ _ | refine Below.drew ?_ | refine Below.setCell ?_ (by first | omega | (simp;omega)) _ | refine Below.trans ?_ (by assumption)))) (hle2 _ hF).2).mono ?_);rintro e' w3 ⟨rfl,hb3,hB3,hk3⟩))
        clear hKw
        exact ⟨⟨i + 1,by simp,by omega,by (with_reducible repeat first | exact Below.refl _ _ | refine Below.alloc ?_ (by first | omega | (simp;omega)) _ | refine Below.drewN ?_ _ | refine Below.drew ?_ | refine Below.setCell ?_ (by first | omega | (simp;omega)) _ | refine Below.trans ?_ (by assumption)),by (with_reducible repeat first | exact KeptE.refl _ | refine KeptE.alloc ?_ _ | refine KeptE.drewN ?_ _ | refine KeptE.drew ?_ | refine KeptE.set ?_ (by first | omega | (simp;omega)) _ _ | refine KeptE.step ?_ (by assumption)),hid (by rw [hs0.out,hF];simpa using hb3)⟩,by simp [intOf];omega⟩
      · have hkb : (y.k == 6) = true:=by simpa using hc.1
        have hcm:=hc.2
        have hF : F1 y = t1 ++ partT (decide (rnkZ y.op ≤ rnkZ x.op)) (tx y):=by (rw [hF1.out];simp [hkb])
        have hle3 : (l ++ twoT F0 F1 (x.ks.take i)).length + ((⟨#[32]⟩ : ByteArray) ++ sgnZ x.op ++ ⟨#[32]⟩).data.toList.length ≤ 140737488355328:=by (rw [h1.out];exact (hle2 _ hF).1)
        clear hc hcm
        go_wp2_with (first
         | (go_at_call 96;(with_reducible refine (rank_any y.op _ (LB.laid (hLr.b (by (with_reducible repeat first | exact Below.refl _ _ | refine Below.alloc ?_ (by first | omega | (simp;omega)) _ | refine Below.drewN ?_ _ | refine Below.drew ?_ | refine Below.setCell ?_ (by first | omega | (simp;omega)) _ | refine Below.trans ?_ (by assumption))))).tab).mono ?_);rintro e' w5 ⟨rfl,rfl⟩)
         | (go_at_call 97;(with_reducible refine (sign_any x.op _ (LB.laid (hLr.b (by (with_reducible repeat first | exact Below.refl _ _ | refine Below.alloc ?_ (by first | omega | (simp;omega)) _ | refine Below.drewN ?_ _ | refine Below.drew ?_ | refine Below.setCell ?_ (by first | omega | (simp;omega)) _ | refine Below.trans ?_ (by assumption))))).tab).mono ?_);rintro e' w6 ⟨rfl,rfl⟩)
         | (go_at_call 47;go_loud ((with_reducible refine (write_sp B b (l ++ twoT F0 F1 (x.ks.take i)) x.op _ (by (with_reducible repeat first | exact hbr.out | refine Bld.alloc ?_ _ | refine Bld.drewN ?_ _ | refine Bld.drew ?_)) hle3 (by first | omega | (simp;omega))).mono ?_);rintro e' w2 ⟨rfl,hb2,hB2,hk2⟩;rw [h1.out] at hb2;have hz2:=hB2.size;(try simp at hz2);have BY2 : Blk w2 wr.heap.size (.int .i64 y.k) (.int .i64 y.op) (.int .i64 y.n) (.string (bstr y.nm)) (.slice py y.ks.length cy) (.int .i64 y.a):=(Blk.new rfl _ _ _ _ _ _).ke hk2;obtain ⟨bly,c0y,c1y,c2y,c3y,c4y,c5y,f0y,f1y,f2y,f3y,f4y,f5y⟩:=(BY2).facts))
         | (go_at_call 95;(with_reducible refine (part_any y (tx y) B b (decide (rnkZ y.op ≤ rnkZ x.op)) py cy (l ++ twoT F0 F1 (x.ks.take i) ++ t1) _ hsy (hid (by (refine IsEx.ke ?_ hk2;(with_reducible repeat first | exact HY.out | refine IsEx.alloc ?_ _ | refine IsEx.drewN ?_ _ | refine IsEx.drew ?_ | (refine IsEx.set ?_ ?_ _ _;rotate_left;first | omega | (simp;done) | (simp;omega)) | refine IsEx.fr ?_ (by assumption) (by omega) | refine IsEx.stay ?_ (by assumption))))) (hid (by (with_reducible repeat first | exact hb2 | refine Bld.alloc ?_ _ | refine Bld.drewN ?_ _ | refine Bld.drew ?_))) (by first | omega | (simp;omega)) (hLr.b (by (with_reducible repeat first | exact Below.refl _ _ | refine Below.alloc ?_ (by first | omega | (simp;omega)) _ | refine Below.drewN ?_ _ | refine Below.drew ?_ | refine Below.setCell ?_ (by first | omega | (simp;omega)) _ | refine Below.trans ?_ (by assumption)))) (hle2 _ hF).2).mono ?_);rintro e' w3 ⟨rfl,hb3,hB3,hk3⟩))
        clear hKw
        exact ⟨⟨i + 1,by simp,by omega,by (with_reducible repeat first | exact Below.refl _ _ | refine Below.alloc ?_ (by first | omega | (simp;omega)) _ | refine Below.drewN ?_ _ | refine Below.drew ?_ | refine Below.setCell ?_ (by first | omega | (simp;omega)) _ | refine Below.trans ?_ (by assumption)),by (with_reducible repeat first | exact KeptE.refl _ | refine KeptE.alloc ?_ _ | refine KeptE.drewN ?_ _ | refine KeptE.drew ?_ | refine KeptE.set ?_ (by first | omega | (simp;omega)) _ _ | refine KeptE.step ?_ (by assumption)),hid (by rw [hs0.out,hF];simpa using hb3)⟩,by simp [intOf];omega⟩
  · obtain rfl : i = n:=by omega
    go_wp2
    go_end0
    exact ⟨rfl,by (have:=hbr.out;rwa [← hn.out,List.take_length] at this),by (with_reducible repeat first | exact Below.refl _ _ | refine Below.alloc ?_ (by first | omega | (simp;omega)) _ | refine Below.drewN ?_ _ | refine Below.drew ?_ | refine Below.setCell ?_ (by first | omega | (simp;omega)) _ | refine Below.trans ?_ (by assumption)),by (clear hKr;(with_reducible repeat first | exact KeptE.refl _ | refine KeptE.alloc ?_ _ | refine KeptE.drewN ?_ _ | refine KeptE.drew ?_ | refine KeptE.set ?_ (by first | omega | (simp;omega)) _ _ | refine KeptE.step ?_ (by assumption)))⟩
end Go.Proofs.YtkhbbapocamlmaaDoor
