/- A row of one number, many times: slices.Repeat. -/
import Derived.Test.YtacgfjcdfgdpjaaDoorGm
import Derived.Test.YtacgfjcdfgdpjaaDoorShelf
import Derived.Laws.CopyOwn
import Derived.LoopTactic
import Derived.RegionTactic
import Derived.ChangeAlike
import Derived.Deep.RegionLaw
import Derived.StillTailTactics
import Derived.WalkLawsBesides
import Derived.WalkSpells
import Derived.Deep.DeepMust
namespace Go.Proofs.YtacgfjcdfgdpjaaDoor
set_option linter.unusedSimpArgs false
set_option linter.unusedVariables false
open Go Go.RowKit

theorem splice_rep {n off j : Nat} (x z : Value) (h : off + j ≤ n) : splice (rw_ n fun i => if i < off then x else z) off (List.replicate j x) = rw_ n fun i => if i < off + j then x else z := by
  unfold splice
  apply List.ext_getElem?
  intro i
  have hl : (List.take off (rw_ n fun i => if i < off then x else z)).length = off := by rw [List.length_take, rw_len]; omega
  by_cases h1 : i < off
  · rw [List.getElem?_append_left (by omega), List.getElem?_take, if_pos h1, rw_get _ (by omega), rw_get _ (by omega), if_pos h1, if_pos (by omega)]
  · rw [List.getElem?_append_right (by omega), hl]
    by_cases h2 : i < off + j
    · rw [List.getElem?_append_left (by simp; omega), rw_get _ (by omega), if_pos h2, List.getElem?_replicate, if_pos (by omega)]
    · rw [List.getElem?_append_right (by simp; omega), List.length_replicate, List.getElem?_drop]
      by_cases h3 : i < n
      · rw [rw_get _ (by omega), rw_get _ h3, if_neg (by omega), if_neg h2]
      · rw [rw_none _ (by omega), rw_none _ (by omega)]
theorem mul_one_ (n : Nat) (hn : n ≤ 1000000) (W : World) : Calls Tryd.prog 47 #[.int .u64 1, .int .u64 n] W fun e w' => e = .returned (.tuple #[.int .u64 0, .int .u64 n]) ∧ W = w' := by
  have := Tryd.bits_Mul 1 n (by decide) (by omega) W
  rw [Nat.one_mul, Nat.div_eq_of_lt (by omega), Nat.mod_eq_of_lt (by omega)] at this
  exact this.mono fun _ _ ⟨h1, h2⟩ => ⟨h1, h2.symm⟩
theorem info_sz : (Tryd.prog.info? 3).map (·.size) = some 1 := by kernel_rfl
def RepP (W : World) (n : Nat) (x : Int) (e : Ending) (w' : World) : Prop := ∃ b, e = .returned (.slice (some ⟨b, 0, none⟩) n n) ∧ FV 3 w' b n (iv fun _ => x) ∧ Below W.heap.size W w' ∧ W.heap.size ≤ b
set_option maxRecDepth 100000 in
set_option maxHeartbeats 1000000 in
theorem repeat_any {W : World} {g : Nat} {x : Int} (n : Nat) (hn : n ≤ 1000000) (hg : g < W.heap.size) (hx : W.cell? ⟨g, 0, none⟩ = some (.int .i64 x)) : Calls Tryd.prog 36 #[.slice (some ⟨g, 0, none⟩) 1 1, .int .i64 n] W (RepP W n x) := by
  have hmk := make_i n (by omega)
  have hgt2 : decide ((9223372036854775807 : Int) < n) = false := by simp; omega
  have hn0 : decide ((n : Int) < 0) = false := by simp
  have HF : Hid (∀ k, (fun i => if i < k then Value.int .i64 x else .int .i64 0) = iv fun i => if i < k then x else 0) := Lib.hid fun k => by
    funext i
    simp only [iv]
    split <;> rfl
  have HB0 : Hid ((W.alloc (.cells (rw_ n fun _ => .int .i64 0).toArray 3)).heap[W.heap.size]? = some (.cells (rw_ n fun i => if i < 0 then Value.int .i64 x else .int .i64 0).toArray 3 (0, 0))) := Lib.hid (by
    have := heap_alloc_new W (.cells (rw_ n fun _ => .int .i64 0).toArray 3)
    simpa using this)
  have HX : Hid ((W.alloc (.cells (rw_ n fun _ => .int .i64 0).toArray 3)).cell? ⟨g, 0, none⟩ = some (.int .i64 x)) := Lib.hid (((below1 W _).cell (p := ⟨g, 0, none⟩) hg).trans hx)
  clear hx
  obtain ⟨b, hb⟩ : ∃ b, W.heap.size = b := ⟨_, rfl⟩
  have HBE := Lib.hid hb
  rw [hb] at HB0
  have HP : Hid (0 < (List.replicate (Nat.min 1 n) (Value.int .i64 x)).length → ∀ j v, (List.replicate (Nat.min 1 n) (Value.int .i64 x))[j]? = some v → (W.alloc (.cells (rw_ n fun _ => .int .i64 0).toArray 3)).cell? ((⟨g, 0, none⟩ : Addr).add j) = some v) := Lib.hid (by
    intro h0 j v hv
    rw [List.getElem?_replicate] at hv
    split at hv
    · rename_i hj
      cases hv
      have : j = 0 := by have : Nat.min 1 n = min 1 n := rfl; omega
      subst this
      exact HX.out
    · cases hv)
  go_enter Tryd.func36, Tryd.ntmps36
  go_upto_region 7 with (go_at_call 47; ((with_reducible refine (mul_one_ n hn _).mono ?_); rintro e w' ⟨rfl, rfl⟩))
  go_wp2_with ((refine wpList_copy_splice (o := ⟨some 33, _, _, _, _, _⟩) rfl (.tmp 31) (.tmp 32) 34 34 rfl 3 Tryd.underlying34 info_sz (some ⟨b, 0, none⟩) (some ⟨g, 0, none⟩) n n 1 1 rfl rfl b 0 (rw_ n fun i => if i < 0 then Value.int .i64 x else .int .i64 0) 3 HB0.out (List.replicate (Nat.min 1 n) (.int .i64 x)) (by simp) (fun h => ⟨rfl, ⟨g, 0, none⟩, rfl, HP.out h⟩) (by rw [List.length_replicate, rw_len, Nat.zero_add]; exact Nat.min_le_right _ _) (fun v hv => by rw [(List.mem_replicate.1 hv).2]; rfl) b W (HBE.out ▸ below1 W _) (Nat.le_refl _) ?_; intro w1 hw1 hb1; have HB1 := Lib.hid hb1; clear hb1))
  have HW1 : Hid (FV 3 w1 b n (iv fun i => if i < Nat.min 1 n then x else 0)) := Lib.hid (by
    have := hw1.out
    rw [splice_rep _ _ (by rw [Nat.zero_add]; exact Nat.min_le_right _ _), Nat.zero_add, HF.out] at this
    exact this)
  obtain ⟨k0, hk0⟩ : ∃ k0, Nat.min 1 n = k0 := ⟨_, rfl⟩
  have hk1 : k0 ≤ n ∧ (0 < n → 0 < k0) := by
    have : k0 = min 1 n := hk0.symm
    omega
  rw [hk0] at HW1
  clear hw1 HX HB0
  rw [hk0]
  clear hk0
  go_loopw [8] (fun i wr => ∃ k : Nat, i = .int .i64 k ∧ k ≤ n ∧ (0 < n → 0 < k) ∧ Hid (FV 3 wr b n (iv fun i => if i < k then x else 0) ∧ Below b W wr)) (fun i _ => n - (intOf i).toNat)
  case atStart => exact ⟨k0, rfl, hk1.1, hk1.2, Lib.hid ⟨HW1.out, HB1.out⟩⟩
  case round =>
    obtain ⟨k, rfl, hk, hk2, HR⟩ := hrel
    by_cases hlt : k < n
    · have hk3 : 0 < k := hk2 (by omega)
      obtain ⟨j, hj⟩ : ∃ j, Nat.min k (n - k) = j := ⟨_, rfl⟩
      have hj1 : j ≤ k ∧ k + j ≤ n ∧ 0 < j := by
        have : j = min k (n - k) := hj.symm
        omega
      obtain ⟨hj2, hj3, hj4⟩ := hj1
      have HJ := Lib.hid hj
      have HF2 : Hid (wr.heap[b]? = some (.cells (rw_ n fun i => if i < k then Value.int .i64 x else .int .i64 0).toArray 3 (0, 0))) := Lib.hid (by rw [HF.out]; exact HR.out.1)
      have HP2 : Hid (∀ j' v, (List.replicate j (Value.int .i64 x))[j']? = some v → wr.cell? ((⟨b, 0, none⟩ : Addr).add j') = some v) := Lib.hid (by
        intro j' v hv
        rw [List.getElem?_replicate] at hv
        split at hv
        · cases hv
          rw [Addr.add_lit, HR.out.1.cell (by omega)]
          simp only [iv]
          rw [if_pos (by omega)]
        · cases hv)
      clear hj
      have hnk : ¬ n = k := by omega
      obtain ⟨w2, hcp, hw2, hb2⟩ : ∃ w2, (Builtin.copy_ #[34, 34] 3 #[.slice (some ⟨b, k, none⟩) (n - k) (n - k), .slice (some ⟨b, 0, none⟩) k n]).run Tryd.prog wr.drew = .ok (Value.int .i64 (j : Int)) w2 ∧ Hid (w2.heap[b]? = some (Obj.cells (splice (rw_ n fun i => if i < k then Value.int .i64 x else Value.int .i64 0) k (List.replicate j (Value.int .i64 x))).toArray 3 (0, 0))) ∧ Below b W w2 := by
        have hrun := run_copy_row (P := Tryd.prog) wr.drew 34 34 3 3 b k (n - k) (n - k) ⟨b, 0, none⟩ k n (rw_ n fun i => if i < k then Value.int .i64 x else Value.int .i64 0).toArray 3 (List.replicate j (Value.int .i64 x)) Tryd.underlying34 info_sz HF2.out (by rw [List.length_replicate]; exact HJ.out.symm) HP2.out (by rw [List.length_replicate, List.size_toArray, rw_len]; exact hj3) (fun v hv => by rw [(List.mem_replicate.1 hv).2]; rfl)
        rw [List.length_replicate] at hrun
        refine ⟨_, hrun, Lib.hid ?_, below_setRow (below_drew HR.out.2) (Nat.le_refl _) _⟩
        have := setRow_heap wr.drew b (rw_ n fun i => if i < k then Value.int .i64 x else Value.int .i64 0).toArray ((rw_ n fun i => if i < k then Value.int .i64 x else Value.int .i64 0).take k ++ List.replicate j (Value.int .i64 x) ++ (rw_ n fun i => if i < k then Value.int .i64 x else Value.int .i64 0).drop (k + (List.replicate j (Value.int .i64 x)).length)).toArray 3 (0, 0) HF2.out
        simpa [splice] using this
      have HB2 := Lib.hid hb2
      have HW2 : Hid (FV 3 w2 b n (iv fun i => if i < k + j then x else 0)) := Lib.hid (by
        have := hw2.out
        rw [splice_rep _ _ (by omega), HF.out] at this
        exact this)
      clear hw2 hb2
      go_wp2
      go_region
      go_wp2
      go_roundw
      case rel => exact ⟨k + j, by go_num, by omega, fun _ => by omega, Lib.hid ⟨HW2.out, HB2.out⟩⟩
      case measure => (simp [intOf]; try omega)
    · obtain rfl : k = n := by omega
      go_wp2
      go_ret
      exact ⟨b, rfl, HR.out.1.to fun i hi => by simp only [iv]; rw [if_pos hi], by rw [hb]; exact HR.out.2, by omega⟩
end Go.Proofs.YtacgfjcdfgdpjaaDoor
