/- The reader's methods that open and close, and the one that tells an operator. -/
import Derived.Test.YtngfbpmabdmkeaaGreatDoorWord
import Derived.Test.YtngfbpmabdmkeaaGreatDoorKey
namespace Go.Proofs.YtngfbpmabdmkeaaGreatDoor
open Go Go.RowKit

/-- The signs' table lies below a block of which nothing is written. -/
structure Base (W : World) (rb : Nat) : Prop where
  out : ∃ V : World, Laid V ∧ Below V.heap.size V W ∧ V.heap.size ≤ rb
theorem Base.laid {W : World} {rb : Nat} (h : Base W rb) : Laid W := by
  obtain ⟨V, h1, h2, _⟩ := h.out
  exact h1.below h2
theorem Base.kept {W X : World} {rb : Nat} (h : Base W rb) (hf : Fr (some rb) W X) : Base X rb := by
  obtain ⟨V, h1, h2, h3⟩ := h.out
  exact ⟨V, h1, h2.trans (hf.belowAt h3 h2.size), h3⟩
theorem Base.below {W X : World} {rb : Nat} (h : Base W rb) (hf : Below W.heap.size W X) : Base X rb := h.kept (.of hf)

set_option maxRecDepth 100000 in
theorem enter_ok (rb g cap mb : Nat) (ws : List Wd) (i : Nat) (x : Wd) (o : Nat) (bad at' : Int) (w : World) (R : Hid (Rdr w rb g cap mb ws i x o bad at')) (ho : o < 32) (hi : i < 9223372036854775807) :
    Calls Tryz.prog 130 #[.pointer (some ⟨rb, 0, none⟩)] w fun e w' => e = .returned (.bool true) ∧ RdAt w' rb (.slice (some ⟨g, 0, none⟩) ws.length cap) (.map (some mb)) ((i + 1 : Nat) : Int) ((o + 1 : Nat) : Int) bad at' ∧ Fr (some rb) w w' := by
  have hRd := Lib.hid R.out.rd
  obtain ⟨q0, q1, q2, q3, q4, q5⟩ := hRd.out.cells
  have hl := hRd.out.lt
  have hf1 := hRd.out.frozen 1
  have hf2 := hRd.out.frozen 2
  have hd : (decide ((o : Int) = 32)) = false := by simp; omega
  have hd2 : ((o : Int) == 32) = false := by simp; omega
  have hw1 : wrap64 ((o : Int) + 1) = ((o + 1 : Nat) : Int) := by unfold wrap64; omega
  have hw2 : wrap64 ((i : Int) + 1) = ((i + 1 : Nat) : Int) := by unfold wrap64; omega
  have HX := Lib.hid (And.intro hw1 hw2)
  clear hw1 hw2 hi ho
  go_enter Tryz.func130, Tryz.ntmps130
  go_wp2
  go_ret
  refine ⟨rfl, ?_, by (repeat (first | (with_reducible exact Fr.refl _ _) | (with_reducible refine Fr.alloc ?_ _) | (with_reducible refine Fr.drewN ?_ _) | (with_reducible refine Fr.drew ?_) | (with_reducible refine Fr.set ?_ ?_ _ _; rotate_left; first | exact .inl rfl | (right; simp; done) | (right; simp; omega) | (right; omega)) | (with_reducible refine Fr.step ?_ (by assumption)) | (with_reducible refine Fr.stepB ?_ (by assumption))))⟩
  rw [HX.out.1, HX.out.2]
  exact (hRd.out.set2 _).set1 _

set_option maxRecDepth 100000 in
theorem enter_lim (rb g cap mb : Nat) (ws : List Wd) (i : Nat) (x : Wd) (bad at' : Int) (w : World) (R : Hid (Rdr w rb g cap mb ws i x 32 bad at')) :
    Calls Tryz.prog 130 #[.pointer (some ⟨rb, 0, none⟩)] w fun e w' => e = .returned (.bool false) ∧ RdAt w' rb (.slice (some ⟨g, 0, none⟩) ws.length cap) (.map (some mb)) i 32 2 x.a ∧ Fr (some rb) w w' := by
  obtain ⟨q0, q1, q2, q3, q4, q5⟩ := R.out.rd.cells
  go_enter Tryz.func130, Tryz.ntmps130
  go_wp2_with (go_at_call 135; (with_reducible refine (fail_any rb g cap mb ws i x 32 bad at' 2 _ R).mono ?_); rintro e' w1 ⟨rfl, hr1, hf1⟩)
  go_ret
  exact ⟨rfl, hr1, hf1⟩

set_option maxRecDepth 100000 in
theorem leave_ok (rb g cap mb : Nat) (ws : List Wd) (i : Nat) (x : Wd) (o : Nat) (bad at' : Int) (t : List UInt8) (w : World) (R : Hid (Rdr w rb g cap mb ws i x ((o + 1 : Nat) : Int) bad at')) (ht : Hid (Sg x t)) (ho : o ≤ 32) (hi : i < 9223372036854775807) :
    Calls Tryz.prog 131 #[.pointer (some ⟨rb, 0, none⟩), .string (bstr t)] w fun e w' => e = .returned (.bool true) ∧ RdAt w' rb (.slice (some ⟨g, 0, none⟩) ws.length cap) (.map (some mb)) ((i + 1 : Nat) : Int) o bad at' ∧ Fr (some rb) w w' := by
  have hw1 : wrap64 (((o + 1 : Nat) : Int) - 1) = (o : Int) := by unfold wrap64; omega
  have hw2 : wrap64 ((i : Int) + 1) = ((i + 1 : Nat) : Int) := by unfold wrap64; omega
  have HX := Lib.hid (And.intro hw1 hw2)
  obtain ⟨O, hO⟩ : ∃ O : Int, O = ((o + 1 : Nat) : Int) := ⟨_, rfl⟩
  rw [← hO] at HX R
  clear hw1 hw2 hi ho hO
  go_enter Tryz.func131, Tryz.ntmps131
  go_wp2_with (go_at_call 132; (with_reducible refine (is_yes rb g cap mb ws i x O bad at' t _ R.out ht.out).mono ?_); rintro e' w1 ⟨rfl, hb1⟩; have hRd := Lib.hid (R.out.rd.kept hb1); obtain ⟨q0, q1, q2, q3, q4, q5⟩ := hRd.out.cells; have hl := hRd.out.lt; have hf1 := hRd.out.frozen 1; have hf2 := hRd.out.frozen 2)
  go_ret
  refine ⟨rfl, ?_, by (repeat (first | (with_reducible exact Fr.refl _ _) | (with_reducible refine Fr.alloc ?_ _) | (with_reducible refine Fr.drewN ?_ _) | (with_reducible refine Fr.drew ?_) | (with_reducible refine Fr.set ?_ ?_ _ _; rotate_left; first | exact .inl rfl | (right; simp; done) | (right; simp; omega) | (right; omega)) | (with_reducible refine Fr.step ?_ (by assumption)) | (with_reducible refine Fr.stepB ?_ (by assumption))))⟩
  rw [HX.out.1, HX.out.2]
  exact (hRd.out.set2 _).set1 _

set_option maxRecDepth 100000 in
theorem leave_no (rb g cap mb : Nat) (ws : List Wd) (i : Nat) (x : Wd) (op bad at' : Int) (t : List UInt8) (w : World) (R : Hid (Rdr w rb g cap mb ws i x op bad at')) (ht : Hid (¬ Sg x t)) :
    Calls Tryz.prog 131 #[.pointer (some ⟨rb, 0, none⟩), .string (bstr t)] w fun e w' => e = .returned (.bool false) ∧ RdAt w' rb (.slice (some ⟨g, 0, none⟩) ws.length cap) (.map (some mb)) i op 11 x.a ∧ Fr (some rb) w w' := by
  go_enter Tryz.func131, Tryz.ntmps131
  go_wp2_with (first
    | (go_at_call 132; (with_reducible refine (is_no rb g cap mb ws i x op bad at' t _ R.out ht.out).mono ?_); rintro e' w1 ⟨rfl, hb1⟩)
    | (go_at_call 135; (with_reducible refine (fail_any rb g cap mb ws i x op bad at' 11 _ (Lib.hid (R.out.kept hb1))).mono ?_); rintro e' w2 ⟨rfl, hr2, hf2⟩))
  go_ret
  exact ⟨rfl, hr2, by (repeat (first | (with_reducible exact Fr.refl _ _) | (with_reducible refine Fr.alloc ?_ _) | (with_reducible refine Fr.drewN ?_ _) | (with_reducible refine Fr.drew ?_) | (with_reducible refine Fr.set ?_ ?_ _ _; rotate_left; first | exact .inl rfl | (right; simp; done) | (right; simp; omega) | (right; omega)) | (with_reducible refine Fr.step ?_ (by assumption)) | (with_reducible refine Fr.stepB ?_ (by assumption))))⟩

set_option maxRecDepth 100000 in
theorem operator_yes (rb g cap mb : Nat) (ws : List Wd) (i : Nat) (x : Wd) (op bad at' r : Int) (w : World) (R : Hid (Rdr w rb g cap mb ws i x op bad at')) (B : Hid (Base w rb)) (h1 : Hid (1 ≤ r)) (hr : Hid (r ≤ rkW x)) :
    Calls Tryz.prog 105 #[.pointer (some ⟨rb, 0, none⟩), .int .i64 r] w fun e w' => e = .returned (.tuple #[.int .i64 (opB x.t), .bool true]) ∧ Below w.heap.size w w' := by
  have hk := (rkW_ne (Int.le_trans h1.out hr.out)).1
  have hrk : rkW x = rnkZ (opB x.t) := by unfold rkW; rw [if_pos hk]
  have hk' : (x.k != 2) = false := by simp [hk]
  have hd : (decide (r ≤ rnkZ (opB x.t))) = true := by
    have := hr.out
    rw [hrk] at this
    simpa using this
  obtain ⟨K, hK⟩ : ∃ K, K = opB x.t := ⟨_, rfl⟩
  obtain ⟨M, hM⟩ : ∃ M, M = rnkZ K := ⟨_, rfl⟩
  rw [← hK, ← hM] at hd
  have hKB : opM (bstr x.t) = K := hK.symm
  rw [← hK]
  have HK := Lib.hid hKB
  have HM := Lib.hid hM
  clear hK hrk hk hM hKB
  have hd2 := of_decide_eq_true hd
  go_enter Tryz.func105, Tryz.ntmps105
  go_wp2_with (first
    | (go_at_call 99; (with_reducible refine (word_any rb g cap mb ws i x op bad at' _ R.out).mono ?_); rintro e' w1 ⟨rfl, hb1⟩; have hB1 := Lib.hid (B.out.below hb1))
    | (go_at_call 136; (with_reducible refine (op_any _ _ (hB1.out.below ((Below.refl _ _).alloc (Nat.le_refl _) _)).laid.tab).mono ?_); rw [HK.out]; rintro e' w2 ⟨rfl, rfl⟩)
    | (go_at_call 106; (with_reducible refine (rank_any _ _ (hB1.out.below ((Below.refl _ _).alloc (Nat.le_refl _) _)).laid.tab).mono ?_); rw [← HM.out]; rintro e' w3 ⟨rfl, rfl⟩))
  go_ret2
  exact ⟨rfl, by (refine Fr.below ?_; (repeat (first | (with_reducible exact Fr.refl _ _) | (with_reducible refine Fr.alloc ?_ _) | (with_reducible refine Fr.drewN ?_ _) | (with_reducible refine Fr.drew ?_) | (with_reducible refine Fr.set ?_ ?_ _ _; rotate_left; first | exact .inl rfl | (right; simp; done) | (right; simp; omega) | (right; omega)) | (with_reducible refine Fr.step ?_ (by assumption)) | (with_reducible refine Fr.stepB ?_ (by assumption)))))⟩

set_option maxRecDepth 100000 in
theorem operator_no (rb g cap mb : Nat) (ws : List Wd) (i : Nat) (x : Wd) (op bad at' r : Int) (w : World) (R : Hid (Rdr w rb g cap mb ws i x op bad at')) (B : Hid (Base w rb)) (hr : Hid (rkW x < r)) :
    Calls Tryz.prog 105 #[.pointer (some ⟨rb, 0, none⟩), .int .i64 r] w fun e w' => (∃ K : Int, e = .returned (.tuple #[.int .i64 K, .bool false])) ∧ Below w.heap.size w w' := by
  by_cases hk : x.k = 2
  · have hrk : rkW x = rnkZ (opB x.t) := by unfold rkW; rw [if_pos hk]
    have hk' : (x.k != 2) = false := by simp [hk]
    have hd : (decide (r ≤ rnkZ (opB x.t))) = false := by
      have := hr.out
      rw [hrk] at this
      simp
      omega
    obtain ⟨K, hK⟩ : ∃ K, K = opB x.t := ⟨_, rfl⟩
    obtain ⟨M, hM⟩ : ∃ M, M = rnkZ K := ⟨_, rfl⟩
    rw [← hK, ← hM] at hd
    have hKB : opM (bstr x.t) = K := hK.symm
    have HK := Lib.hid hKB
    have HM := Lib.hid hM
    clear hK hrk hk hM hKB
    go_enter Tryz.func105, Tryz.ntmps105
    go_wp2_with (first
      | (go_at_call 99; (with_reducible refine (word_any rb g cap mb ws i x op bad at' _ R.out).mono ?_); rintro e' w1 ⟨rfl, hb1⟩; have hB1 := Lib.hid (B.out.below hb1))
      | (go_at_call 136; (with_reducible refine (op_any _ _ (hB1.out.below ((Below.refl _ _).alloc (Nat.le_refl _) _)).laid.tab).mono ?_); rw [HK.out]; rintro e' w2 ⟨rfl, rfl⟩)
      | (go_at_call 106; (with_reducible refine (rank_any _ _ (hB1.out.below ((Below.refl _ _).alloc (Nat.le_refl _) _)).laid.tab).mono ?_); rw [← HM.out]; rintro e' w3 ⟨rfl, rfl⟩))
    go_ret2
    exact ⟨⟨_, rfl⟩, by (refine Fr.below ?_; (repeat (first | (with_reducible exact Fr.refl _ _) | (with_reducible refine Fr.alloc ?_ _) | (with_reducible refine Fr.drewN ?_ _) | (with_reducible refine Fr.drew ?_) | (with_reducible refine Fr.set ?_ ?_ _ _; rotate_left; first | exact .inl rfl | (right; simp; done) | (right; simp; omega) | (right; omega)) | (with_reducible refine Fr.step ?_ (by assumption)) | (with_reducible refine Fr.stepB ?_ (by assumption)))))⟩
  · have hk' : (x.k != 2) = true := by simp [hk]
    clear hk
    go_enter Tryz.func105, Tryz.ntmps105
    go_wp2_with (go_at_call 99; (with_reducible refine (word_any rb g cap mb ws i x op bad at' _ R.out).mono ?_); rintro e' w1 ⟨rfl, hb1⟩)
    go_ret2
    exact ⟨⟨_, rfl⟩, by (refine Fr.below ?_; (repeat (first | (with_reducible exact Fr.refl _ _) | (with_reducible refine Fr.alloc ?_ _) | (with_reducible refine Fr.drewN ?_ _) | (with_reducible refine Fr.drew ?_) | (with_reducible refine Fr.set ?_ ?_ _ _; rotate_left; first | exact .inl rfl | (right; simp; done) | (right; simp; omega) | (right; omega)) | (with_reducible refine Fr.step ?_ (by assumption)) | (with_reducible refine Fr.stepB ?_ (by assumption)))))⟩

/-- What a word begins: a number and a name that is no key by its kind alone, all others by their text too. -/
abbrev opnV (k : Int) (t : ByteArray) : Value := .agg #[.int .i64 k, .string t]
set_option maxRecDepth 100000 in
theorem begin_num (t : ByteArray) (n a : Int) (w : World) : Calls Tryz.prog 134 #[.agg #[.int .i64 1, .string t, .int .i64 n, .int .i64 a]] w fun e w' => e = .returned (opnV 1 ⟨#[]⟩) ∧ Below w.heap.size w w' := by
  go_enter Tryz.func134, Tryz.ntmps134
  go_wp2
  exact bodyPost_ret (v := opnV 1 ⟨#[]⟩) (by simp [results, Tryz.results134, go_sem]) rfl ⟨rfl, by (refine Fr.below ?_; (repeat (first | (with_reducible exact Fr.refl _ _) | (with_reducible refine Fr.alloc ?_ _) | (with_reducible refine Fr.drewN ?_ _) | (with_reducible refine Fr.drew ?_) | (with_reducible refine Fr.set ?_ ?_ _ _; rotate_left; first | exact .inl rfl | (right; simp; done) | (right; simp; omega) | (right; omega)) | (with_reducible refine Fr.step ?_ (by assumption)) | (with_reducible refine Fr.stepB ?_ (by assumption)))))⟩
set_option maxRecDepth 100000 in
theorem begin_name (t : ByteArray) (n a : Int) (w : World) (ht : t.size ≤ maxLen) (hk : Hid (keyB t.data.toList = false)) : Calls Tryz.prog 134 #[.agg #[.int .i64 0, .string t, .int .i64 n, .int .i64 a]] w fun e w' => e = .returned (opnV 0 ⟨#[]⟩) ∧ Below w.heap.size w w' := by
  go_enter Tryz.func134, Tryz.ntmps134
  go_wp2_with (go_at_call 121; (with_reducible refine (key_any t _ ht).mono ?_); rw [hk.out]; rintro e' w1 ⟨rfl, hb1⟩; obtain ⟨hc, hf⟩ := bcell hb1; have hz : w.heap.size + 1 < w1.heap.size := by have := hb1.size; simp at this; omega)
  exact bodyPost_ret (v := opnV 0 ⟨#[]⟩) (by simp [results, Tryz.results134, go_sem, hc]) rfl ⟨rfl, by (refine Fr.below ?_; (repeat (first | (with_reducible exact Fr.refl _ _) | (with_reducible refine Fr.alloc ?_ _) | (with_reducible refine Fr.drewN ?_ _) | (with_reducible refine Fr.drew ?_) | (with_reducible refine Fr.set ?_ ?_ _ _; rotate_left; first | exact .inl rfl | (right; simp; done) | (right; simp; omega) | (right; omega)) | (with_reducible refine Fr.step ?_ (by assumption)) | (with_reducible refine Fr.stepB ?_ (by assumption)))))⟩
set_option maxRecDepth 100000 in
theorem begin_key (t : ByteArray) (n a : Int) (w : World) (ht : t.size ≤ maxLen) (hk : Hid (keyB t.data.toList = true)) : Calls Tryz.prog 134 #[.agg #[.int .i64 0, .string t, .int .i64 n, .int .i64 a]] w fun e w' => e = .returned (opnV 0 t) ∧ Below w.heap.size w w' := by
  go_enter Tryz.func134, Tryz.ntmps134
  go_wp2_with (go_at_call 121; (with_reducible refine (key_any t _ ht).mono ?_); rw [hk.out]; rintro e' w1 ⟨rfl, hb1⟩; obtain ⟨hc, hf⟩ := bcell hb1; have hz : w.heap.size + 1 < w1.heap.size := by have := hb1.size; simp at this; omega)
  exact bodyPost_ret (v := opnV 0 t) (by simp [results, Tryz.results134, go_sem, hc]) rfl ⟨rfl, by (refine Fr.below ?_; (repeat (first | (with_reducible exact Fr.refl _ _) | (with_reducible refine Fr.alloc ?_ _) | (with_reducible refine Fr.drewN ?_ _) | (with_reducible refine Fr.drew ?_) | (with_reducible refine Fr.set ?_ ?_ _ _; rotate_left; first | exact .inl rfl | (right; simp; done) | (right; simp; omega) | (right; omega)) | (with_reducible refine Fr.step ?_ (by assumption)) | (with_reducible refine Fr.stepB ?_ (by assumption)))))⟩
set_option maxRecDepth 100000 in
theorem begin_sign (t : ByteArray) (k n a : Int) (w : World) (h0 : (k == 0) = false) (h1 : (k == 1) = false) : Calls Tryz.prog 134 #[.agg #[.int .i64 k, .string t, .int .i64 n, .int .i64 a]] w fun e w' => e = .returned (opnV k t) ∧ Below w.heap.size w w' := by
  go_enter Tryz.func134, Tryz.ntmps134
  go_wp2
  exact bodyPost_ret (v := opnV k t) (by simp [results, Tryz.results134, go_sem]) rfl ⟨rfl, by (refine Fr.below ?_; (repeat (first | (with_reducible exact Fr.refl _ _) | (with_reducible refine Fr.alloc ?_ _) | (with_reducible refine Fr.drewN ?_ _) | (with_reducible refine Fr.drew ?_) | (with_reducible refine Fr.set ?_ ?_ _ _; rotate_left; first | exact .inl rfl | (right; simp; done) | (right; simp; omega) | (right; omega)) | (with_reducible refine Fr.step ?_ (by assumption)) | (with_reducible refine Fr.stepB ?_ (by assumption)))))⟩

/-- An expression's value. -/
abbrev exV (k op n : Int) (nm : ByteArray) (ks : Value) (a : Int) : Value := .agg #[.int .i64 k, .int .i64 op, .int .i64 n, .string nm, ks, .int .i64 a]
set_option maxRecDepth 100000 in
theorem alone_any (rb g cap mb : Nat) (ws : List Wd) (i : Nat) (x : Wd) (op bad at' k n : Int) (w : World) (R : Hid (Rdr w rb g cap mb ws i x op bad at')) (hi : i < 9223372036854775807) :
    Calls Tryz.prog 98 #[.pointer (some ⟨rb, 0, none⟩), .int .i64 k, .int .i64 n] w fun e w' => e = .returned (.tuple #[exV k 0 n ⟨#[]⟩ (.slice none 0 0) x.a, .bool true]) ∧ RdAt w' rb (.slice (some ⟨g, 0, none⟩) ws.length cap) (.map (some mb)) ((i + 1 : Nat) : Int) op bad at' ∧ Fr (some rb) w w' := by
  have hfd := field_a
  have hw2 : wrap64 ((i : Int) + 1) = ((i + 1 : Nat) : Int) := by unfold wrap64; omega
  have HX := Lib.hid hw2
  have hnb : rb ≠ w.heap.size := by have := R.out.rd.lt; omega
  have hnb2 : w.heap.size ≠ rb := fun h => hnb h.symm
  clear hw2 hi
  go_enter Tryz.func98, Tryz.ntmps98
  go_wp2_with (go_at_call 99; (with_reducible refine (word_any rb g cap mb ws i x op bad at' _ (R.out.alloc _)).mono ?_); rintro e' w1 ⟨rfl, hb1⟩; have hRd := Lib.hid ((R.out.rd.alloc _).kept hb1); obtain ⟨q0, q1, q2, q3, q4, q5⟩ := hRd.out.cells; have hl := hRd.out.lt; have hf1 := hRd.out.frozen 1; obtain ⟨hc, hf⟩ := bcell hb1; have hz : w.heap.size < w1.heap.size := by have := hb1.size; simp at this; omega)
  have hzn := Nat.ne_of_lt hz
  refine bodyPost_ret (v := .tuple #[exV k 0 n ⟨#[]⟩ (.slice none 0 0) x.a, .bool true]) (by simp [results, Tryz.results98, go_sem, hc, hz, hzn, hnb, hnb2]) rfl ⟨rfl, ?_, by (repeat (first | (with_reducible exact Fr.refl _ _) | (with_reducible refine Fr.alloc ?_ _) | (with_reducible refine Fr.drewN ?_ _) | (with_reducible refine Fr.drew ?_) | (with_reducible refine Fr.set ?_ ?_ _ _; rotate_left; first | exact .inl rfl | (right; simp; done) | (right; simp; omega) | (right; omega)) | (with_reducible refine Fr.step ?_ (by assumption)) | (with_reducible refine Fr.stepB ?_ (by assumption))))⟩
  rw [HX.out]
  (repeat (first | (with_reducible refine RdAt.alloc ?_ _) | (with_reducible refine RdAt.drewN ?_ _) | (with_reducible refine RdAt.drew ?_) | (with_reducible refine RdAt.setO ?_ (by first | assumption | omega) _ _) | (with_reducible refine RdAt.kept ?_ (by assumption))))
  exact (hRd.out.set1 _)

/-- The same, of a text as it stands in the program. -/
theorem bstr_back (s : ByteArray) : bstr s.data.toList = s := by
  obtain ⟨d⟩ := s
  simp [bstr]
theorem is_yesS (rb g cap mb : Nat) (ws : List Wd) (i : Nat) (x : Wd) (op bad at' : Int) (s : ByteArray) (w : World) (R : Rdr w rb g cap mb ws i x op bad at') (h : Sg x s.data.toList) :
    Calls Tryz.prog 132 #[.pointer (some ⟨rb, 0, none⟩), .string s] w fun e w' => e = .returned (.bool true) ∧ Below w.heap.size w w' := by
  have := is_yes rb g cap mb ws i x op bad at' s.data.toList w R h
  rwa [bstr_back] at this
theorem is_noS (rb g cap mb : Nat) (ws : List Wd) (i : Nat) (x : Wd) (op bad at' : Int) (s : ByteArray) (w : World) (R : Rdr w rb g cap mb ws i x op bad at') (h : ¬ Sg x s.data.toList) :
    Calls Tryz.prog 132 #[.pointer (some ⟨rb, 0, none⟩), .string s] w fun e w' => e = .returned (.bool false) ∧ Below w.heap.size w w' := by
  have := is_no rb g cap mb ws i x op bad at' s.data.toList w R h
  rwa [bstr_back] at this
theorem leave_okS (rb g cap mb : Nat) (ws : List Wd) (i : Nat) (x : Wd) (o : Nat) (bad at' : Int) (s : ByteArray) (w : World) (R : Hid (Rdr w rb g cap mb ws i x ((o + 1 : Nat) : Int) bad at')) (ht : Hid (Sg x s.data.toList)) (ho : o ≤ 32) (hi : i < 9223372036854775807) :
    Calls Tryz.prog 131 #[.pointer (some ⟨rb, 0, none⟩), .string s] w fun e w' => e = .returned (.bool true) ∧ RdAt w' rb (.slice (some ⟨g, 0, none⟩) ws.length cap) (.map (some mb)) ((i + 1 : Nat) : Int) o bad at' ∧ Fr (some rb) w w' := by
  have := leave_ok rb g cap mb ws i x o bad at' s.data.toList w R ht ho hi
  rwa [bstr_back] at this
theorem leave_noS (rb g cap mb : Nat) (ws : List Wd) (i : Nat) (x : Wd) (op bad at' : Int) (s : ByteArray) (w : World) (R : Hid (Rdr w rb g cap mb ws i x op bad at')) (ht : Hid (¬ Sg x s.data.toList)) :
    Calls Tryz.prog 131 #[.pointer (some ⟨rb, 0, none⟩), .string s] w fun e w' => e = .returned (.bool false) ∧ RdAt w' rb (.slice (some ⟨g, 0, none⟩) ws.length cap) (.map (some mb)) i op 11 x.a ∧ Fr (some rb) w w' := by
  have := leave_no rb g cap mb ws i x op bad at' s.data.toList w R ht
  rwa [bstr_back] at this
end Go.Proofs.YtngfbpmabdmkeaaGreatDoor
