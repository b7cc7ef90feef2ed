/- The laws' own small functions: whether two rows are the same, whether all is small. -/
import Derived.Test.YtnmalhjhfddjpaaNwr
namespace Go.Proofs.Ytnmalhjhfddjpaa
set_option linter.unusedSimpArgs false
set_option linter.unusedVariables false
open Go Go.RowKit Go.ChangeMaps Go.MapKept Go.WideElems Go.Maps

set_option maxRecDepth 100000 in
set_option maxHeartbeats 2000000 in
theorem numbers_any {W : World} {p q : Option Addr} {n m c d : Nat} {a b : List Int} (ha : Hid (a.length = n)) (hb : Hid (b.length = m)) (hn : n < 1000000) (hm : m < 1000000) (hA : Hid (IntsAt W p a)) (hB : Hid (IntsAt W q b)) :
    Calls Try.prog 10 #[.slice p n c, .slice q m d] W fun e w' => e = .returned (.bool (decide (a = b))) ∧ ∃ j, w' = W.drewN j := by
  by_cases hnm : n = m
  · subst hnm
    have hnn : ((n : Int) != (n : Int)) = false := by simp
    go_enter Try.func10, Try.ntmps10
    go_wp2_with (fail)
    go_loopw [5] (fun i wr => ∃ k j : Nat, i = .int .i64 (k : Int) ∧ k ≤ n ∧ wr = W.drewN j ∧ Hid (a.take k = b.take k)) (fun i _ => n - (intOf i).toNat)
    case atStart => exact ⟨0, 0, rfl, Nat.zero_le _, rfl, Lib.hid (by simp)⟩
    case round =>
      obtain ⟨k, j, rfl, hk, rfl, HT⟩ := hrel
      by_cases hlt : k < n
      · obtain ⟨x, hx⟩ : ∃ x, a[k]? = some x := ⟨_, List.getElem?_eq_getElem (by rw [ha.out]; exact hlt)⟩
        obtain ⟨y, hy⟩ : ∃ y, b[k]? = some y := ⟨_, List.getElem?_eq_getElem (by rw [hb.out]; exact hlt)⟩
        obtain ⟨g, o, rfl, hg, hc⟩ := hA.out k x hx
        obtain ⟨g2, o2, rfl, hg2, hc2⟩ := hB.out k y hy
        have HX : Hid (a[k]? = some x ∧ b[k]? = some y) := Lib.hid ⟨hx, hy⟩
        have hk2 : (k : Int) < (n : Int) := by omega
        have hk3 : (0 : Int) ≤ k := by omega
        clear hx hy
        by_cases e : x = y
        · have hxy : (x != y) = false := by simp [e]
          have HE := Lib.hid e
          clear e
          go_wp2_with (fail)
          go_quiet (fail)
          go_wp2_with (fail)
          go_roundw
          case rel => exact ⟨k + 1, _, by go_num, by omega, rfl, Lib.hid (by rw [List.take_add_one, List.take_add_one, HT.out, HX.out.1, HX.out.2, HE.out])⟩
          case measure => simp [intOf]; omega
        · have hxy : (x != y) = true := by simp [e]
          have HE := Lib.hid e
          clear e
          go_wp2_with (fail)
          go_quiet (fail)
          go_wp2_with (fail)
          go_ret
          refine ⟨?_, j + nq, by rw [World.drewN_drewN]⟩
          have : ¬ a = b := fun h => by
            have h1 := HX.out.1
            rw [h, HX.out.2] at h1
            exact HE.out (Option.some.inj h1).symm
          simp [this]
      · obtain rfl : k = n := by omega
        go_wp2_with (fail)
        go_ret
        refine ⟨?_, _, rfl⟩
        have : a = b := by
          have := HT.out
          rwa [List.take_of_length_le (by rw [ha.out]; exact Nat.le_refl _), List.take_of_length_le (by rw [hb.out]; exact Nat.le_refl _)] at this
        simp [this]
  · have hnn : ((n : Int) != (m : Int)) = true := by simp; omega
    have HN := Lib.hid hnm
    clear hnm
    go_enter Try.func10, Try.ntmps10
    go_wp2_with (fail)
    go_ret
    refine ⟨?_, 0, rfl⟩
    have : ¬ a = b := fun h => HN.out (by rw [← ha.out, ← hb.out, h])
    simp [this]
/-- Is all small? -/
def smallB (cs : List (List Ic)) (m : Nat) : Bool := cs.all (fun c => decide (c.length ≤ 100)) && (decide (cs.length ≤ 6) && decide (m ≤ 100))
set_option maxRecDepth 100000 in
set_option maxHeartbeats 2000000 in
theorem small_any {W : World} {p q : Option Addr} {n m c d : Nat} {cs : List (List Ic)} (ha : Hid (cs.length = n)) (hn : n ≤ 9223372036854775807) (hm : m ≤ 9223372036854775807) (hC : Hid (CodesAt W p cs)) :
    Calls Try.prog 7 #[.slice p n c, .slice q m d] W fun e w' => e = .returned (.bool (smallB cs m)) ∧ W = w' := by
  go_enter Try.func7, Try.ntmps7
  go_wp2_with (fail)
  go_loop [5] (fun i => ∃ k : Nat, i = .int .i64 (k : Int) ∧ k ≤ n ∧ Hid ((cs.take k).all (fun c => decide (c.length ≤ 100)) = true)) (fun i => n - (intOf i).toNat)
  case atStart => exact ⟨0, rfl, Nat.zero_le _, Lib.hid (by simp)⟩
  case round =>
    obtain ⟨k, rfl, hk, HT⟩ := hrel
    by_cases hlt : k < n
    · obtain ⟨x, hx⟩ : ∃ x, cs[k]? = some x := ⟨_, List.getElem?_eq_getElem (by rw [ha.out]; exact hlt)⟩
      obtain ⟨g, o, rfl, hg, cp, cap, hc, _⟩ := hC.out k x hx
      obtain ⟨l, hl⟩ : ∃ l, x.length = l := ⟨_, rfl⟩
      rw [hl] at hc
      have HX : Hid (cs[k]? = some x ∧ x.length = l) := Lib.hid ⟨hx, hl⟩
      have hk2 : (k : Int) < (n : Int) := by omega
      have hk3 : (0 : Int) ≤ k := by omega
      clear hx hl
      by_cases e : 100 < l
      · have hd : decide ((100 : Int) < (l : Int)) = true := by simp; omega
        go_wp2_with (fail)
        go_ret
        refine ⟨?_, rfl⟩
        have h1 : cs.all (fun c => decide (c.length ≤ 100)) = false := by
          rw [List.all_eq_false]
          exact ⟨x, List.mem_of_getElem? HX.out.1, by simp [HX.out.2]; omega⟩
        simp [smallB, h1]
      · have hd : decide ((100 : Int) < (l : Int)) = false := by simp; omega
        go_wp2_with (fail)
        go_round
        case rel => exact ⟨k + 1, by go_num, by omega, Lib.hid (by rw [List.take_add_one, HX.out.1, List.all_append, HT.out]; simp [HX.out.2]; omega)⟩
        case measure => simp [intOf]; omega
    · obtain rfl : k = n := by omega
      have h1 := HT.out
      rw [List.take_of_length_le (by rw [ha.out]; exact Nat.le_refl _)] at h1
      have HF : Hid (smallB cs m = (decide (k ≤ 6) && decide (m ≤ 100))) := Lib.hid (by unfold smallB; rw [h1, ha.out]; rfl)
      clear h1
      by_cases e : k ≤ 6
      · have hd : decide ((k : Int) ≤ 6) = true := by simp; omega
        go_wp2_with (fail)
        go_ret
        refine ⟨?_, rfl⟩
        rw [HF.out]
        simp [e]
        omega
      · have hd : decide ((k : Int) ≤ 6) = false := by simp; omega
        go_wp2_with (fail)
        go_ret
        refine ⟨?_, rfl⟩
        rw [HF.out]
        simp [e]
end Go.Proofs.Ytnmalhjhfddjpaa
