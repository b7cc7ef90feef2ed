/- The laws' words: are two rows the same? -/
import Derived.Test.YtacgfjcdfgdpjaaDoorGpm
namespace Go.Proofs.YtacgfjcdfgdpjaaDoor
set_option linter.unusedSimpArgs false
set_option linter.unusedVariables false
open Go Go.RowKit

set_option maxRecDepth 100000 in
set_option maxHeartbeats 2000000 in
theorem ints_any {W : World} {p q : Option Addr} {cp cq : Nat} {l k : List Nat} (hp : Hid (RV W p l.length (lv l))) (hq : Hid (RV W q k.length (lv k))) (hl : l.length ≤ 1000000) :
    Calls Tryd.prog 18 #[.slice p l.length cp, .slice q k.length cq] W fun e w' => ∃ b, e = .returned (.bool b) ∧ (b = true ↔ l = k) ∧ Below W.heap.size W w' := by
  by_cases hlk : l.length = k.length
  · rw [← hlk] at hq ⊢
    have HLK := Lib.hid hlk
    clear hlk
    go_enter Tryd.func18, Tryd.ntmps18
    go_wp2
    go_loopw [5] (fun a wr => ∃ j : Nat, a = .int .i64 j ∧ j ≤ l.length ∧ Hid (Below W.heap.size W wr ∧ ∀ i, i < j → l.getD i 0 = k.getD i 0)) (fun a _ => l.length - (intOf a).toNat)
    case atStart => exact ⟨0, rfl, Nat.zero_le _, Lib.hid ⟨Below.refl _ _, fun i h => absurd h (Nat.not_lt_zero _)⟩⟩
    case round =>
      obtain ⟨wo, rfl⟩ : ∃ wo : World, wo = wr := ⟨_, rfl⟩
      obtain ⟨j, rfl, hj, HR⟩ := hrel
      by_cases hlt : j < l.length
      · obtain ⟨g, o, rfl, -, i1⟩ := (hp.out.stay HR.out.1) j hlt
        obtain ⟨g', o', rfl, -, i2⟩ := (hq.out.stay HR.out.1) j hlt
        simp only [lv] at i1 i2
        by_cases he : l.getD j 0 = k.getD j 0
        · rw [← he] at i2
          obtain ⟨z, hz⟩ : ∃ z, l.getD j 0 = z := ⟨_, rfl⟩
          rw [hz] at i1 i2
          have HE := Lib.hid he
          clear he hz
          go_wp2
          go_quiet (fail)
          go_wp2
          go_roundw
          case rel => exact ⟨j + 1, by go_num, by omega, Lib.hid ⟨below_like HR.out.1 rfl rfl rfl rfl, fun i hi => by
            by_cases e : i = j
            · rw [e]; exact HE.out
            · exact HR.out.2 i (by omega)⟩⟩
          case measure => (simp [intOf]; try omega)
        · have hn : ¬ ((l.getD j 0 : Nat) : Int) = ((k.getD j 0 : Nat) : Int) := fun e => he (by omega)
          have HE := Lib.hid he
          obtain ⟨z, hz⟩ : ∃ z, l.getD j 0 = z := ⟨_, rfl⟩
          obtain ⟨z', hz'⟩ : ∃ z, k.getD j 0 = z := ⟨_, rfl⟩
          rw [hz] at i1 hn
          rw [hz'] at i2 hn
          clear he hz hz'
          go_wp2
          go_quiet (fail)
          go_wp2
          go_ret
          exact ⟨_, rfl, ⟨fun e => (by cases e), fun e => absurd (by rw [e]) HE.out⟩, below_like HR.out.1 rfl rfl rfl rfl⟩
      · obtain rfl : j = l.length := by omega
        go_wp2
        go_ret
        exact ⟨_, rfl, ⟨fun _ => List.ext_getElem HLK.out fun i h1 h2 => by
          have := HR.out.2 i h1
          rw [List.getD_eq_getElem?_getD, List.getD_eq_getElem?_getD, List.getElem?_eq_getElem h1, List.getElem?_eq_getElem h2] at this
          exact this, fun _ => rfl⟩, HR.out.1⟩
  · have hn : ¬ ((l.length : Int) = (k.length : Int)) := by omega
    have HLK := Lib.hid hlk
    clear hlk
    go_enter Tryd.func18, Tryd.ntmps18
    go_wp2
    go_ret
    exact ⟨_, rfl, ⟨fun e => (by cases e), fun e => absurd (by rw [e]) HLK.out⟩, Below.refl _ _⟩
set_option maxRecDepth 100000 in
set_option maxHeartbeats 2000000 in
theorem bools_any {W : World} {p q : Option Addr} {cp cq m n : Nat} {f k : Nat → Bool} (hp : Hid (RV W p m (bv f))) (hq : Hid (RV W q n (bv k))) (hl : m ≤ 1000000) :
    Calls Tryd.prog 8 #[.slice p m cp, .slice q n cq] W fun e w' => ∃ b, e = .returned (.bool b) ∧ (b = true ↔ m = n ∧ ∀ i, i < m → f i = k i) ∧ Below W.heap.size W w' := by
  by_cases hlk : m = n
  · subst hlk
    go_enter Tryd.func8, Tryd.ntmps8
    go_wp2
    go_loopw [5] (fun a wr => ∃ j : Nat, a = .int .i64 j ∧ j ≤ m ∧ Hid (Below W.heap.size W wr ∧ ∀ i, i < j → f i = k i)) (fun a _ => m - (intOf a).toNat)
    case atStart => exact ⟨0, rfl, Nat.zero_le _, Lib.hid ⟨Below.refl _ _, fun i h => absurd h (Nat.not_lt_zero _)⟩⟩
    case round =>
      obtain ⟨wo, rfl⟩ : ∃ wo : World, wo = wr := ⟨_, rfl⟩
      obtain ⟨j, rfl, hj, HR⟩ := hrel
      by_cases hlt : j < m
      · obtain ⟨g, o, rfl, -, i1⟩ := (hp.out.stay HR.out.1) j hlt
        obtain ⟨g', o', rfl, -, i2⟩ := (hq.out.stay HR.out.1) j hlt
        simp only [bv] at i1 i2
        by_cases he : f j = k j
        · rw [← he] at i2
          obtain ⟨z, hz⟩ : ∃ z, f j = z := ⟨_, rfl⟩
          rw [hz] at i1 i2
          have HE := Lib.hid he
          have hne : (z != z) = false := by simp
          clear he hz
          go_wp2
          go_quiet (fail)
          go_wp2
          go_roundw
          case rel => exact ⟨j + 1, by go_num, by omega, Lib.hid ⟨below_like HR.out.1 rfl rfl rfl rfl, fun i hi => by
            by_cases e : i = j
            · rw [e]; exact HE.out
            · exact HR.out.2 i (by omega)⟩⟩
          case measure => (simp [intOf]; try omega)
        · have HE := Lib.hid he
          obtain ⟨z, hz⟩ : ∃ z, f j = z := ⟨_, rfl⟩
          obtain ⟨z', hz'⟩ : ∃ z, k j = z := ⟨_, rfl⟩
          rw [hz] at i1 he
          rw [hz'] at i2 he
          cases z <;> cases z' <;> first
            | exact absurd rfl he
            | (clear he hz hz'
               go_wp2
               go_quiet (fail)
               go_wp2
               go_ret
               exact ⟨_, rfl, ⟨fun e => (by cases e), fun e => absurd (e.2 j hlt) HE.out⟩, below_like HR.out.1 rfl rfl rfl rfl⟩)
      · obtain rfl : j = m := by omega
        go_wp2
        go_ret
        exact ⟨_, rfl, iff_of_true rfl (And.intro (by trivial) HR.out.2), HR.out.1⟩
  · have hn : ¬ ((m : Int) = (n : Int)) := by omega
    have HLK := Lib.hid hlk
    clear hlk
    go_enter Tryd.func8, Tryd.ntmps8
    go_wp2
    go_ret
    exact ⟨_, rfl, ⟨fun e => (by cases e), fun e => absurd e.1 HLK.out⟩, Below.refl _ _⟩
/-- A row of numbers that is read. -/
def RowIn (W : World) (v : Value) (l : List Nat) : Prop := ∃ p cap, v = .slice p l.length cap ∧ RV W p l.length (lv l)
theorem RowIn.stay {W X : World} {v : Value} {l : List Nat} (h : RowIn W v l) (hb : Below W.heap.size W X) : RowIn X v l := by
  obtain ⟨p, cap, e, h⟩ := h
  exact ⟨p, cap, e, h.stay hb⟩
set_option maxRecDepth 100000 in
set_option maxHeartbeats 4000000 in
theorem rowsS_any {W : World} {p q : Option Addr} {cp cq m n : Nat} {S S' : Nat → Value} {A B : Nat → List Nat} (hp : Hid (RV W p m S)) (hq : Hid (RV W q n S')) (ha : Hid (∀ i, i < m → RowIn W (S i) (A i) ∧ (A i).length ≤ 1000000)) (hb : Hid (∀ i, i < n → RowIn W (S' i) (B i))) (hl : m ≤ 1000000) :
    Calls Tryd.prog 11 #[.slice p m cp, .slice q n cq] W fun e w' => ∃ b, e = .returned (.bool b) ∧ (b = true ↔ m = n ∧ ∀ i, i < m → A i = B i) ∧ Below W.heap.size W w' := by
  by_cases hlk : m = n
  · subst hlk
    go_enter Tryd.func11, Tryd.ntmps11
    go_wp2
    go_loopw [5] (fun a wr => ∃ j : Nat, a = .int .i64 j ∧ j ≤ m ∧ Hid (Below W.heap.size W wr ∧ ∀ i, i < j → A i = B i)) (fun a _ => m - (intOf a).toNat)
    case atStart => exact ⟨0, rfl, Nat.zero_le _, Lib.hid ⟨Below.refl _ _, fun i h => absurd h (Nat.not_lt_zero _)⟩⟩
    case round =>
      obtain ⟨wo, rfl⟩ : ∃ wo : World, wo = wr := ⟨_, rfl⟩
      obtain ⟨j, rfl, hj, HR⟩ := hrel
      by_cases hlt : j < m
      · obtain ⟨g, o, rfl, -, i1⟩ := (hp.out.stay HR.out.1) j hlt
        obtain ⟨g', o', rfl, -, i2⟩ := (hq.out.stay HR.out.1) j hlt
        obtain ⟨pa, ca, ea, ra⟩ := ((ha.out j hlt).1).stay HR.out.1
        have hla := (ha.out j hlt).2
        obtain ⟨pb, cb, eb, rb⟩ := (hb.out j hlt).stay HR.out.1
        rw [ea] at i1
        rw [eb] at i2
        have HA : Hid (RV wo.drew pa (A j).length (lv (A j))) := Lib.hid (ra.stay (below_drew (Below.refl _ _)))
        have HB : Hid (RV wo.drew pb (B j).length (lv (B j))) := Lib.hid (rb.stay (below_drew (Below.refl _ _)))
        have HBw : Hid (Below W.heap.size W wo.drew) := Lib.hid (below_drew HR.out.1)
        clear ea ra eb rb
        go_upto_region 6 with (fail)
        go_still_tail 8, (by kernel_rfl)
        obtain ⟨W2, hW2⟩ : ∃ W2, wo.drew = W2 := ⟨_, rfl⟩
        change wpList _ _ _ _ _ wo.drew
        rw [hW2] at HA HB HBw ⊢
        clear hW2
        go_upto_region 7 with (go_at_call 18; ((with_reducible refine (ints_any HA HB hla).mono ?_); rintro e5 w5 ⟨b5, rfl, h5, hb5⟩; have H5 := Lib.hid (And.intro h5 hb5); clear h5 hb5))
        cases b5 with
        | true =>
          go_wp2
          go_roundw
          case rel => exact ⟨j + 1, by go_num, by omega, Lib.hid ⟨HBw.out.trans (H5.out.2.mono HBw.out.size), fun i hi => by
            by_cases e : i = j
            · rw [e]; exact H5.out.1.1 rfl
            · exact HR.out.2 i (by omega)⟩⟩
          case measure => (simp [intOf]; try omega)
        | false =>
          go_wp2
          go_ret
          exact ⟨_, rfl, ⟨fun e => (by cases e), fun e => by have := H5.out.1.2 (e.2 j hlt); cases this⟩, HBw.out.trans (H5.out.2.mono HBw.out.size)⟩
      · obtain rfl : j = m := by omega
        go_wp2
        go_ret
        exact ⟨_, rfl, iff_of_true rfl (And.intro (by trivial) HR.out.2), HR.out.1⟩
  · have hn : ¬ ((m : Int) = (n : Int)) := by omega
    have HLK := Lib.hid hlk
    clear hlk
    go_enter Tryd.func11, Tryd.ntmps11
    go_wp2
    go_ret
    exact ⟨_, rfl, ⟨fun e => (by cases e), fun e => absurd e.1 HLK.out⟩, Below.refl _ _⟩
end Go.Proofs.YtacgfjcdfgdpjaaDoor
