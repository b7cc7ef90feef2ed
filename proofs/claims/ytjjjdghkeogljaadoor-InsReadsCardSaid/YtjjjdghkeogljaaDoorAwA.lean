/- Whether two rows of numbers are the same (ints); the statements' own example (awake) comes out true. -/
import Derived.Test.YtjjjdghkeogljaaDoorNxt
import Derived.Test.YtjjjdghkeogljaaDoorTxt
namespace Go.Proofs.YtjjjdghkeogljaaDoor
set_option linter.unusedSimpArgs false
set_option linter.unusedVariables false
open Go Go.RowKit

/-- A row, by its cells. -/
theorem rw_len {B : Nat} {w : World} {v : Value} {l : List Int} (h : Rw B w v l) : ∃ p c, v = .slice p l.length c ∧ ∀ j x, l[j]? = some x → ∃ g, p = some ⟨g, 0, none⟩ ∧ g < w.heap.size ∧ w.cell? ⟨g, j, none⟩ = some (.int .i64 x) := by
  rcases h.open with ⟨rfl, rfl⟩ | ⟨g, c, rfl, _, hg, _, hc⟩
  · exact ⟨none, 0, rfl, fun j x hx => by simp at hx⟩
  · exact ⟨some ⟨g, 0, none⟩, c, rfl, fun j x hx => ⟨g, rfl, hg, hc j x hx⟩⟩
theorem ints_no {B B' : Nat} {w : World} {v v' : Value} {l m : List Int} (h : Rw B w v l) (h' : Rw B' w v' m) (hl : l.length ≤ 1000000) (hm : m.length ≤ 1000000) (hne : l.length ≠ m.length) :
    Calls Tryd.prog 8 #[v, v'] w fun e w' => e = .returned (.bool false) ∧ Below w.heap.size w w' := by
  obtain ⟨p, c, rfl, _⟩ := rw_len h
  obtain ⟨p', c', rfl, _⟩ := rw_len h'
  have hq : ((l.length : Int) != (m.length : Int)) = true := by simp; omega
  go_enter Tryd.func8, Tryd.ntmps8
  go_wp2
  go_ret
  exact ⟨rfl, Below.refl _ _⟩
set_option maxRecDepth 100000 in
set_option maxHeartbeats 1000000 in
theorem ints_same {B B' : Nat} {w : World} {v v' : Value} {l m : List Int} (h : Rw B w v l) (h' : Rw B' w v' m) (hl : l.length ≤ 1000000) (hm : m.length = l.length) (r : Bool) (hr : Hid (decide (l = m) = r)) :
    Calls Tryd.prog 8 #[v, v'] w fun e w' => e = .returned (.bool r) ∧ Below w.heap.size w w' := by
  obtain ⟨p, c, rfl, hc⟩ := rw_len h
  obtain ⟨p', c', rfl, hc'⟩ := rw_len h'
  rw [hm]
  have HC := Lib.hid hc
  have HC' := Lib.hid hc'
  have HM := Lib.hid hm
  have hq : ((l.length : Int) != (l.length : Int)) = false := by simp
  clear hc hc' hm h h'
  go_enter Tryd.func8, Tryd.ntmps8
  go_wp2
  go_loopw [5] (fun i wr => ∃ k q : Nat, i = .int .i64 k ∧ k ≤ l.length ∧ wr = w.drewN q ∧ Hid (∀ j, j < k → l[j]? = m[j]?)) (fun i _ => l.length - (intOf i).toNat)
  case atStart => exact ⟨0, 0, rfl, Nat.zero_le _, rfl, Lib.hid (fun j hj => absurd hj (by omega))⟩
  case round =>
    obtain ⟨k, q, rfl, hk, rfl, HN⟩ := hrel
    by_cases hlt : k < l.length
    · obtain ⟨x, hx⟩ : ∃ x, l[k]? = some x := ⟨_, List.getElem?_eq_getElem hlt⟩
      obtain ⟨y, hy⟩ : ∃ y, m[k]? = some y := ⟨_, List.getElem?_eq_getElem (by rw [HM.out]; exact hlt)⟩
      obtain ⟨g, rfl, hg, hcx⟩ := HC.out k x hx
      obtain ⟨g', rfl, hg', hcy⟩ := HC'.out k y hy
      have hk2 : (k : Int) < l.length := by omega
      have hk0 : (0 : Int) ≤ k := by omega
      cases hq2 : (x != y)
      · have HN2 : Hid (∀ j, j < k + 1 → l[j]? = m[j]?) := Lib.hid (fun j hj => by
          by_cases e : j = k
          · subst e
            rw [hx, hy]
            have : x = y := by simpa using hq2
            rw [this]
          · exact HN.out j (by omega))
        clear hx hy
        go_wp2
        go_quiet (fail)
        go_wp2
        go_roundw
        case rel => exact ⟨k + 1, _, by go_num, by omega, rfl, HN2⟩
        case measure => simp [intOf]; omega
      · have HR : Hid (r = false) := Lib.hid (by
          rw [← hr.out, decide_eq_false]
          intro e
          rw [e, hy] at hx
          cases hx
          simp at hq2)
        clear hx hy
        go_wp2
        go_quiet (fail)
        go_wp2
        go_ret
        exact ⟨ret_bool HR.out.symm, below_drewN (below_drewN (Below.refl _ _) _) _⟩
    · obtain rfl : k = l.length := by omega
      have HR : Hid (r = true) := Lib.hid (by
        rw [← hr.out, decide_eq_true]
        apply List.ext_getElem?
        intro j
        by_cases hj : j < l.length
        · exact HN.out j hj
        · rw [List.getElem?_eq_none (by omega), List.getElem?_eq_none (by rw [HM.out]; omega)])
      go_wp2
      go_ret
      exact ⟨ret_bool HR.out.symm, below_drewN (Below.refl _ _) _⟩
/-- Are two rows of numbers the same? -/
theorem ints_any {B B' : Nat} {w : World} {v v' : Value} {l m : List Int} (h : Rw B w v l) (h' : Rw B' w v' m) (hl : l.length ≤ 1000000) (hm : m.length ≤ 1000000) :
    Calls Tryd.prog 8 #[v, v'] w fun e w' => e = .returned (.bool (decide (l = m))) ∧ Below w.heap.size w w' := by
  by_cases he : l.length = m.length
  · exact ints_same h h' hl he.symm _ (Lib.hid rfl)
  · rw [decide_eq_false (fun e => he (by rw [e]))]
    exact ints_no h h' hl hm he
theorem ints_yes {B B' : Nat} {w : World} {v v' : Value} {l m : List Int} (h : Rw B w v l) (h' : Rw B' w v' m) (hl : l.length ≤ 1000000) (e : l = m) :
    Calls Tryd.prog 8 #[v, v'] w fun e w' => e = .returned (.bool true) ∧ Below w.heap.size w w' := by
  subst e
  have := ints_any h h' hl hl
  rw [decide_eq_true rfl] at this
  exact this
end Go.Proofs.YtjjjdghkeogljaaDoor
