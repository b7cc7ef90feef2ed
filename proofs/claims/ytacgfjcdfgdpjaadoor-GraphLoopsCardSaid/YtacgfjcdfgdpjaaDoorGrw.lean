/- Rows of rows, each told by a function: graph's rows. -/
import Derived.Test.YtacgfjcdfgdpjaaDoorGpd
namespace Go.Proofs.YtacgfjcdfgdpjaaDoor
set_option linter.unusedSimpArgs false
set_option linter.unusedVariables false
open Go Go.RowKit Gm

/-- A row that stays, whatever becomes of blocks that were there before. -/
def Keeps (R : Nat → Nat → World → Value → Prop) : Prop := ∀ i B X Y v, R i B X v → Ch (fun b => b < B) X Y → R i B Y v
/-- What rows gives. -/
def RowsP (T : TypeId) (R : Nat → Nat → World → Value → Prop) (W : World) (m : Nat) (e : Ending) (w' : World) : Prop :=
  ∃ (b : Nat) (S : Nat → Value), e = .returned (.slice (some ⟨b, 0, none⟩) m m) ∧ FV T w' b m S ∧ (∀ i, i < m → ∃ B, b < B ∧ R i B w' (S i)) ∧ W.heap.size ≤ b ∧ Below W.heap.size W w'
/-- What a function for rows tells. -/
def RowQ (R : Nat → Nat → World → Value → Prop) (i : Nat) (X : World) (e : Ending) (w' : World) : Prop := ∃ p k q, e = .returned (.slice p k q) ∧ R i X.heap.size w' (.slice p k q) ∧ Below X.heap.size X w'
set_option maxRecDepth 100000 in
set_option maxHeartbeats 4000000 in
theorem rowsP_any {W : World} {m : Nat} {p0 : Nat} {R : Nat → Nat → World → Value → Prop} (hm : m ≤ 1000000) (hK : Hid (Keeps R)) (hr : Hid (∀ i : Nat, i < m → ∀ X, Below W.heap.size W X → Calls Tryd.prog 25 #[.int .i64 i, .pointer (some ⟨p0, 0, none⟩)] X (RowQ R i X))) :
    Calls Tryd.prog 24 #[.int .i64 m, .func (.func 25) #[] #[.pointer (some ⟨p0, 0, none⟩)]] W (RowsP 34 R W m) := by
  have hmk := make_ii m (by omega)
  go_enter Tryd.func24, Tryd.ntmps24
  go_upto_region 2 with (fail)
  refine name_world ?_
  intro V hV
  obtain ⟨b, hb⟩ : ∃ b, W.heap.size = b := ⟨_, rfl⟩
  have HV : Hid (Below W.heap.size W V ∧ FV 34 V b m (fun _ => .slice none 0 0)) := Lib.hid (by
    rw [hV, ← hb]
    exact ⟨below1 W _, FV.new rfl (by simp)⟩)
  have HB := Lib.hid hb
  rw [hb]
  clear hV hb hmk
  go_wp2
  go_loopw [11] (fun a wr => ∃ (j : Nat) (S : Nat → Value), a = .int .i64 j ∧ j ≤ m ∧ Hid (Below W.heap.size W wr ∧ FV 34 wr b m S ∧ ∀ i, i < j → ∃ B, b < B ∧ R i B wr (S i))) (fun a _ => m - (intOf a).toNat)
  case atStart => exact ⟨0, _, rfl, Nat.zero_le _, Lib.hid ⟨HV.out.1, HV.out.2, fun i h => absurd h (Nat.not_lt_zero _)⟩⟩
  case round =>
    obtain ⟨wo, rfl⟩ : ∃ wo : World, wo = wr := ⟨_, rfl⟩
    obtain ⟨j, S, rfl, hj, HR⟩ := hrel
    by_cases hlt : j < m
    · have HC := Lib.hid (hr.out j hlt wo HR.out.1)
      have hbl := HR.out.2.1.lt
      go_wp2_with (go_at_call 25; ((with_reducible refine HC.out.mono ?_); rintro e1 w1 ⟨p, k, q, rfl, hr1, hb1⟩; have H1 := Lib.hid (And.intro hr1 hb1); have i1 := (HR.out.2.1.stay hb1).cell hlt; have f1 := (HR.out.2.1.stay hb1).frozen j; clear hr1 hb1))
      go_roundw
      case rel =>
        refine ⟨j + 1, upd S j (.slice p k q), by go_num, by omega, Lib.hid ⟨?_, (HR.out.2.1.stay H1.out.2).set j _, fun i hi => ?_⟩⟩
        · exact (HR.out.1.trans (H1.out.2.mono HR.out.1.size)).setCell (p := ⟨b, j, none⟩) (by rw [HB.out]; exact Nat.le_refl _) _
        · by_cases e : i = j
          · rw [e, upd_at]
            exact ⟨wo.heap.size, hbl, hK.out _ _ _ _ _ H1.out.1 ((Ch.refl _ _).set (b := b) (.inl hbl) j _)⟩
          · rw [upd_of e]
            obtain ⟨B, h1, h2⟩ := HR.out.2.2 i (by omega)
            exact ⟨B, h1, hK.out _ _ _ _ _ h2 (((Ch.refl _ _).stepB H1.out.2).set (b := b) (.inl h1) j _)⟩
      case measure => (simp [intOf]; try omega)
    · obtain rfl : j = m := by omega
      go_wp2
      go_ret
      exact ⟨b, S, rfl, HR.out.2.1, HR.out.2.2, by rw [HB.out]; exact Nat.le_refl _, HR.out.1⟩
set_option maxRecDepth 100000 in
set_option maxHeartbeats 4000000 in
theorem rowsL_any {W : World} {m : Nat} {p0 p1 p2 : Nat} {R : Nat → Nat → World → Value → Prop} (hm : m ≤ 1000000) (hK : Hid (Keeps R)) (hr : Hid (∀ i : Nat, i < m → ∀ X, Below W.heap.size W X → Calls Tryd.prog 33 #[.int .i64 i, .pointer (some ⟨p0, 0, none⟩), .pointer (some ⟨p1, 0, none⟩), .pointer (some ⟨p2, 0, none⟩)] X (RowQ R i X))) :
    Calls Tryd.prog 24 #[.int .i64 m, .func (.func 33) #[] #[.pointer (some ⟨p0, 0, none⟩), .pointer (some ⟨p1, 0, none⟩), .pointer (some ⟨p2, 0, none⟩)]] W (RowsP 34 R W m) := by
  have hmk := make_ii m (by omega)
  go_enter Tryd.func24, Tryd.ntmps24
  go_upto_region 2 with (fail)
  refine name_world ?_
  intro V hV
  obtain ⟨b, hb⟩ : ∃ b, W.heap.size = b := ⟨_, rfl⟩
  have HV : Hid (Below W.heap.size W V ∧ FV 34 V b m (fun _ => .slice none 0 0)) := Lib.hid (by
    rw [hV, ← hb]
    exact ⟨below1 W _, FV.new rfl (by simp)⟩)
  have HB := Lib.hid hb
  rw [hb]
  clear hV hb hmk
  go_wp2
  go_loopw [11] (fun a wr => ∃ (j : Nat) (S : Nat → Value), a = .int .i64 j ∧ j ≤ m ∧ Hid (Below W.heap.size W wr ∧ FV 34 wr b m S ∧ ∀ i, i < j → ∃ B, b < B ∧ R i B wr (S i))) (fun a _ => m - (intOf a).toNat)
  case atStart => exact ⟨0, _, rfl, Nat.zero_le _, Lib.hid ⟨HV.out.1, HV.out.2, fun i h => absurd h (Nat.not_lt_zero _)⟩⟩
  case round =>
    obtain ⟨wo, rfl⟩ : ∃ wo : World, wo = wr := ⟨_, rfl⟩
    obtain ⟨j, S, rfl, hj, HR⟩ := hrel
    by_cases hlt : j < m
    · have HC := Lib.hid (hr.out j hlt wo HR.out.1)
      have hbl := HR.out.2.1.lt
      go_wp2_with (go_at_call 33; ((with_reducible refine HC.out.mono ?_); rintro e1 w1 ⟨p, k, q, rfl, hr1, hb1⟩; have H1 := Lib.hid (And.intro hr1 hb1); have i1 := (HR.out.2.1.stay hb1).cell hlt; have f1 := (HR.out.2.1.stay hb1).frozen j; clear hr1 hb1))
      go_roundw
      case rel =>
        refine ⟨j + 1, upd S j (.slice p k q), by go_num, by omega, Lib.hid ⟨?_, (HR.out.2.1.stay H1.out.2).set j _, fun i hi => ?_⟩⟩
        · exact (HR.out.1.trans (H1.out.2.mono HR.out.1.size)).setCell (p := ⟨b, j, none⟩) (by rw [HB.out]; exact Nat.le_refl _) _
        · by_cases e : i = j
          · rw [e, upd_at]
            exact ⟨wo.heap.size, hbl, hK.out _ _ _ _ _ H1.out.1 ((Ch.refl _ _).set (b := b) (.inl hbl) j _)⟩
          · rw [upd_of e]
            obtain ⟨B, h1, h2⟩ := HR.out.2.2 i (by omega)
            exact ⟨B, h1, hK.out _ _ _ _ _ h2 (((Ch.refl _ _).stepB H1.out.2).set (b := b) (.inl h1) j _)⟩
      case measure => (simp [intOf]; try omega)
    · obtain rfl : j = m := by omega
      go_wp2
      go_ret
      exact ⟨b, S, rfl, HR.out.2.1, HR.out.2.2, by rw [HB.out]; exact Nat.le_refl _, HR.out.1⟩
set_option maxRecDepth 100000 in
set_option maxHeartbeats 4000000 in
theorem rowsD_any {W : World} {m : Nat} {p0 p1 p2 : Nat} {R : Nat → Nat → World → Value → Prop} (hm : m ≤ 1000000) (hK : Hid (Keeps R)) (hr : Hid (∀ i : Nat, i < m → ∀ X, Below W.heap.size W X → Calls Tryd.prog 30 #[.int .i64 i, .pointer (some ⟨p0, 0, none⟩), .pointer (some ⟨p1, 0, none⟩), .pointer (some ⟨p2, 0, none⟩)] X (RowQ R i X))) :
    Calls Tryd.prog 29 #[.int .i64 m, .func (.func 30) #[] #[.pointer (some ⟨p0, 0, none⟩), .pointer (some ⟨p1, 0, none⟩), .pointer (some ⟨p2, 0, none⟩)]] W (RowsP 25 R W m) := by
  have hmk := make_bb m (by omega)
  go_enter Tryd.func29, Tryd.ntmps29
  go_upto_region 2 with (fail)
  refine name_world ?_
  intro V hV
  obtain ⟨b, hb⟩ : ∃ b, W.heap.size = b := ⟨_, rfl⟩
  have HV : Hid (Below W.heap.size W V ∧ FV 25 V b m (fun _ => .slice none 0 0)) := Lib.hid (by
    rw [hV, ← hb]
    exact ⟨below1 W _, FV.new rfl (by simp)⟩)
  have HB := Lib.hid hb
  rw [hb]
  clear hV hb hmk
  go_wp2
  go_loopw [11] (fun a wr => ∃ (j : Nat) (S : Nat → Value), a = .int .i64 j ∧ j ≤ m ∧ Hid (Below W.heap.size W wr ∧ FV 25 wr b m S ∧ ∀ i, i < j → ∃ B, b < B ∧ R i B wr (S i))) (fun a _ => m - (intOf a).toNat)
  case atStart => exact ⟨0, _, rfl, Nat.zero_le _, Lib.hid ⟨HV.out.1, HV.out.2, fun i h => absurd h (Nat.not_lt_zero _)⟩⟩
  case round =>
    obtain ⟨wo, rfl⟩ : ∃ wo : World, wo = wr := ⟨_, rfl⟩
    obtain ⟨j, S, rfl, hj, HR⟩ := hrel
    by_cases hlt : j < m
    · have HC := Lib.hid (hr.out j hlt wo HR.out.1)
      have hbl := HR.out.2.1.lt
      go_wp2_with (go_at_call 30; ((with_reducible refine HC.out.mono ?_); rintro e1 w1 ⟨p, k, q, rfl, hr1, hb1⟩; have H1 := Lib.hid (And.intro hr1 hb1); have i1 := (HR.out.2.1.stay hb1).cell hlt; have f1 := (HR.out.2.1.stay hb1).frozen j; clear hr1 hb1))
      go_roundw
      case rel =>
        refine ⟨j + 1, upd S j (.slice p k q), by go_num, by omega, Lib.hid ⟨?_, (HR.out.2.1.stay H1.out.2).set j _, fun i hi => ?_⟩⟩
        · exact (HR.out.1.trans (H1.out.2.mono HR.out.1.size)).setCell (p := ⟨b, j, none⟩) (by rw [HB.out]; exact Nat.le_refl _) _
        · by_cases e : i = j
          · rw [e, upd_at]
            exact ⟨wo.heap.size, hbl, hK.out _ _ _ _ _ H1.out.1 ((Ch.refl _ _).set (b := b) (.inl hbl) j _)⟩
          · rw [upd_of e]
            obtain ⟨B, h1, h2⟩ := HR.out.2.2 i (by omega)
            exact ⟨B, h1, hK.out _ _ _ _ _ h2 (((Ch.refl _ _).stepB H1.out.2).set (b := b) (.inl h1) j _)⟩
      case measure => (simp [intOf]; try omega)
    · obtain rfl : j = m := by omega
      go_wp2
      go_ret
      exact ⟨b, S, rfl, HR.out.2.1, HR.out.2.2, by rw [HB.out]; exact Nat.le_refl _, HR.out.1⟩
end Go.Proofs.YtacgfjcdfgdpjaaDoor
