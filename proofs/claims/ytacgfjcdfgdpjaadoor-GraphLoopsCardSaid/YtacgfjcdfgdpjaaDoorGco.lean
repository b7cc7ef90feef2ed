/- A place that is come to: graph's ways.come. -/
import Derived.Test.YtacgfjcdfgdpjaaDoorGws
import Derived.Lib.RowBridge
namespace Go.Proofs.YtacgfjcdfgdpjaaDoor
set_option linter.unusedSimpArgs false
set_option linter.unusedVariables false
open Go Go.RowKit Go.Sort Go.Lib Gm

/-- What isn't of a code of so many. -/
def outB (n : Nat) (x : Int) : Bool := decide (x < 0) || decide ((n : Int) ≤ x)
theorem out_gives {bx : Nat} {p : Option Addr} {n cap : Nat} (x : Int) (W : World) (hb : W.cell? ⟨bx, 0, none⟩ = some (.slice p n cap)) : FnGives Tryd.prog 48 #[.pointer (some ⟨bx, 0, none⟩)] #[.int .i64 x] (.bool (outB n x)) W := by
  show Calls Tryd.prog 48 #[.int .i64 x, .pointer (some ⟨bx, 0, none⟩)] W _
  obtain ⟨r, hr⟩ : ∃ r, outB n x = r := ⟨_, rfl⟩
  rw [hr]
  have HR := Lib.hid hr
  clear hr
  by_cases h : x < 0
  · have hd : decide (x < 0) = true := by simpa using h
    have e : r = true := by rw [← HR.out]; simp [outB, h]
    subst e
    clear h
    go_enter Tryd.func48, Tryd.ntmps48
    go_wp2
    go_ret
    exact ⟨rfl, 0, rfl⟩
  · have hd : decide (x < 0) = false := by simpa using h
    have e : r = decide ((n : Int) ≤ x) := by rw [← HR.out]; simp [outB, h]
    subst e
    have h' : 0 ≤ x := by omega
    clear h
    go_enter Tryd.func48, Tryd.ntmps48
    go_wp2
    go_ret
    exact ⟨rfl, 0, rfl⟩
/-- What a cut leaves: those that are of the code. -/
def inn (n : Nat) (l : List Int) : List Int := l.filter fun x => !outB n x
theorem heap_sortWorld {α : Type} [Inhabited α] (enc : α → Value) (w : World) (blk off n : Nat) (dk : Array α) (os : Array Obj) {k : Nat} (hk : k < w.heap.size) (hne : k ≠ blk) : (sortWorld enc w blk off n dk os).heap[k]? = w.heap[k]? := by
  unfold sortWorld
  have hk' : k < (putRow enc (Sort.ahead w n) blk off dk).heap.size := by
    simp only [putRow, mapBlock, Array.size_modify]
    exact hk
  rw [Sort.heap_grow_old _ _ hk']
  simp only [putRow, mapBlock, Array.getElem?_modify]
  rw [if_neg (fun h => hne h.symm)]
  rfl
theorem delete_own {B bx : Nat} {w : World} {v : Value} {l : List Int} {p : Option Addr} {n cap : Nat} {T : TypeId} (h : Rw B w v l) (hl : l.length ≤ 1000000) (hb : w.heap[bx]? = some (.cells #[.slice p n cap] T (0, 0))) (hne : v.ownBlock ≠ some bx) :
    Calls Tryd.prog 49 #[v, .func (.func 48) #[] #[.pointer (some ⟨bx, 0, none⟩)]] w (InsP B w v (inn n l)) := by
  rcases h.2 with ⟨rfl, h0⟩ | ⟨g, c0, cur, rfl, hBg, hg, hnc, hcm, hcs, ht⟩
  · have hl0 : l = [] := List.eq_nil_of_length_eq_zero h0
    subst hl0
    have hcon : Calls Tryd.prog 65 #[.slice none 0 0, .func (.func 48) #[] #[.pointer (some ⟨bx, 0, none⟩)]] w fun e w' => e = .returned (.int .i64 (-1)) ∧ w = w' := by
      clear h hl hb hne h0
      go_enter Tryd.func65, Tryd.ntmps65
      go_wp2
      go_loop [8] (fun i => i = .int .i64 0) (fun _ => 0)
      case atStart => rfl
      case round =>
        subst hrel
        go_wp2
        go_ret
        exact ⟨rfl, rfl⟩
    have HC := Lib.hid hcon
    have HN : Hid (Rw B w (.slice none 0 0) (inn n [])) := Lib.hid h
    clear hcon h hl hb hne h0
    go_enter Tryd.func49, Tryd.ntmps49
    go_wp2_with (go_at_call 65; ((with_reducible refine (HC.out).mono ?_); rintro e w' ⟨rfl, rfl⟩))
    go_ret
    exact ⟨_, rfl, HN.out, Fr.refl _ _⟩
  · rw [Nat.mul_one] at ht hcs
    have hgx : bx ≠ g := fun e => hne (by rw [e]; rfl)
    have hH : Holds (Value.int .i64) w g 0 l.toArray := fun j hj => by
      have hj' : j < l.length := by simpa using hj
      refine ⟨?_, frozen_of_row w g _ _ _ hg⟩
      rw [Nat.zero_add, cell_of_row w g j _ _ _ hg]
      have h1 := congrArg (·[j]?) ht
      simp only [List.getElem?_take, List.getElem?_map] at h1
      rw [if_pos hj', List.getElem?_eq_getElem hj'] at h1
      simp only [Option.map_some] at h1
      rw [← Array.getElem?_toList, h1]
      simp [hj']
    have eg : ∀ args w, (callFunc 48 args).run Tryd.prog w = .ok (.enter 48 args) w := enters_of Tryd.func48 (by kernel_rfl) rfl
    have hbx : bx < w.heap.size := (Array.getElem?_eq_some_iff.1 hb).1
    have hcell : w.cell? ⟨bx, 0, none⟩ = some (.slice p n cap) := by rw [cell_of_row _ _ _ _ _ _ hb]; rfl
    have hcon := Tryd.slices_DeleteFunc (Value.int .i64) (fun _ => rfl) (outB n) 48 #[.pointer (some ⟨bx, 0, none⟩)] eg 0 Tryd.zeroValue3 g 0 c0 l.toArray w
      (fun W x hW => out_gives x W ((hW.cell (p := ⟨bx, 0, none⟩) hbx).trans hcell))
      (fun n os dk x _ => out_gives x _ ((World.cell?_of_block (a := ⟨bx, 0, none⟩) (heap_sortWorld _ w g 0 n dk os hbx hgx)).trans hcell)) hH (by simp; omega) (by simpa using hnc)
    have e1 : l.toArray.size = l.length := by simp
    simp only [e1] at hcon
    rw [show (List.filter (fun x => !outB n x) l) = inn n l from rfl] at hcon
    have hlen : (inn n l).length ≤ l.length := List.length_filter_le _ _
    have hys : (inn n l ++ List.replicate (l.length - (inn n l).length) 0).length = l.toArray.size := by
      rw [List.length_append, List.length_replicate, e1]
      omega
    refine hcon.mono ?_
    rintro e w' ⟨rfl, q, rfl⟩
    have hb := putRow_eq_setCells (Value.int .i64) w g 0 l.toArray (inn n l ++ List.replicate (l.length - (inn n l).length) 0) q hH hys
    obtain ⟨c2, g2, s2, k2⟩ := heap_setCells_same g 3 ((inn n l ++ List.replicate (l.length - (inn n l).length) 0).map (Value.int .i64)) 0 (w.drewN q) cur hg
    refine ⟨_, rfl, ?_, ?_⟩
    · rw [hb]
      refine ⟨by simp, .inr ⟨g, c0, c2, rfl, hBg, g2, by omega, hcm, by omega, ?_⟩⟩
      rw [Nat.mul_one]
      apply List.ext_getElem?
      intro j
      rw [List.getElem?_take]
      by_cases hj : j < (inn n l).length
      · rw [if_pos hj, Array.getElem?_toList, k2 j (by omega), if_pos ⟨by omega, by rw [List.length_map, hys, e1]; omega⟩, Nat.sub_zero, List.map_append, List.getElem?_append_left (by simpa using hj)]
      · rw [if_neg hj, List.getElem?_eq_none (by simpa using hj)]
    · rw [hb]
      exact Fr.trans (Fr.drewN (Fr.refl (some g) w) q) (grown_setCells g _ _ _)
theorem Rw.gv {B : Nat} {w : World} {v : Value} {l : List Int} (h : Rw B w v l) : GV 3 B w v l.length (iv fun i => l.getD i 0) := by
  unfold Rw at h
  unfold GV
  have : l.map (Value.int .i64) = rw_ l.length (iv fun i => l.getD i 0) := by
    apply List.ext_getElem?
    intro j
    by_cases hj : j < l.length
    · rw [rw_get _ hj, List.getElem?_map, List.getElem?_eq_getElem hj]
      simp [iv, hj]
    · rw [rw_none _ (by omega), List.getElem?_eq_none (by simpa using hj)]
  rw [← this]
  exact h
theorem Rw.lv {B : Nat} {w : World} {v : Value} {l : List Nat} (h : Rw B w v (l.map Int.ofNat)) : GV 3 B w v l.length (lv l) := by
  have h1 := h.gv
  rw [List.length_map] at h1
  refine h1.to fun i hi => ?_
  simp [iv, Go.Proofs.YtacgfjcdfgdpjaaDoor.lv, hi]
theorem inn_outs {c : List Ic} {i : Nat} {x : Ic} (hx : c[i]? = some x) : inn c.length (nextM x i) = (outs c i).map Int.ofNat := by
  unfold outs
  rw [hx]
  simp only [List.map_map]
  have : ∀ l : List Int, inn c.length l = (l.filter fun z : Int => decide (0 ≤ z) && decide (z < (c.length : Int))).map (Int.ofNat ∘ Int.toNat) := by
    intro l
    induction l with
    | nil => rfl
    | cons z r ih =>
      unfold inn at ih ⊢
      rw [List.filter_cons, List.filter_cons]
      by_cases h : 0 ≤ z ∧ z < (c.length : Int)
      · have e1 : (!outB c.length z) = true := by simp [outB]; omega
        have e2 : (decide (0 ≤ z) && decide (z < (c.length : Int))) = true := by simp; omega
        rw [if_pos e1, if_pos e2, List.map_cons, ih]
        congr 1
        simp
        omega
      · have e1 : ¬ (!outB c.length z) = true := by simp [outB]; omega
        have e2 : ¬ (decide (0 ≤ z) && decide (z < (c.length : Int))) = true := by simp; omega
        rw [if_neg e1, if_neg e2, ih]
  exact this _
end Go.Proofs.YtacgfjcdfgdpjaaDoor
