/- A sign, and the thing that it is of. -/
import Derived.Test.YtngfbpmabdmkeaaGreatDoorEx
namespace Go.Proofs.YtngfbpmabdmkeaaGreatDoor
open Go Go.RowKit

set_option maxRecDepth 100000 in
theorem beh_step (rb g cap mb bx : Nat) (ws : List Wd) (o : Nat) (k : Int) (ts : List Wd) (r : Res) (IH : Below' rb g cap mb bx ws (4 * ts.length)) (hP : P o (.beh k) ts r) (hs : ts <:+ ws) (hF : Fin ts) (hm : (Job.beh k).may ts) (ho : o ≤ 32) :
    Goal rb g cap mb bx ws (.beh k) o ts r := by
  intro W bad at' E S
  have hrl := S.lt
  have hnb : rb ≠ W.heap.size := by omega
  have hnb2 : W.heap.size ≠ rb := fun h => hnb h.symm
  have hfd := field_a
  cases hP with
  | @behLim _ _ w ts ho32 =>
    have R := Lib.hid (S.rdr E hs)
    obtain ⟨i, hi⟩ : ∃ i, i = ws.length - (w :: ts).length := ⟨_, rfl⟩
    rw [← hi] at R
    clear hi
    subst ho32
    go_enter Tryz.func93, Tryz.ntmps93
    go_wp2_with (first
      | (go_at_call 99; (with_reducible refine (word_any rb g cap mb ws i w _ bad at' _ (R.out.alloc _)).mono ?_); rintro e' w1 ⟨rfl, hb1⟩; obtain ⟨hc1, hg1⟩ := bcell hb1; have hz1 := (hb1).size; (try simp at hz1); (have hy1_0 : W.heap.size < w1.heap.size := by omega))
      | (go_at_call 130; (with_reducible refine (enter_lim rb g cap mb ws i w bad at' _ (Lib.hid ((R.out.alloc _).kept hb1))).mono ?_); rintro e' w2 ⟨rfl, hr2, hf2⟩; obtain ⟨hc2, hg2⟩ := fcell hf2; have hz2 := Fr.size (hf2); (try simp at hz2); (have hy2_0 : W.heap.size < w2.heap.size := by omega)))
    refine bodyPost_ret (v := .tuple #[exV 0 0 0 ⟨#[]⟩ (.slice none 0 0) 0, .bool false]) (by simp [results, Tryz.results93, go_sem, hc1, hc2, hy1_0, hy2_0, hnb, hnb2]) rfl ⟨by (repeat (first | (with_reducible exact Fr.refl _ _) | (with_reducible refine Fr.alloc ?_ _) | (with_reducible refine Fr.drewN ?_ _) | (with_reducible refine Fr.drew ?_) | (with_reducible refine Fr.set ?_ ?_ _ _; rotate_left; first | exact .inl rfl | (right; simp; done) | (right; simp; omega) | (right; omega)) | (with_reducible refine Fr.step ?_ (by assumption)) | (with_reducible refine Fr.stepB ?_ (by assumption)))), ?_⟩
    refine ended_bad (nx := i) (op := 32) Junk.zero ?_
    (repeat (first | (with_reducible refine RdAt.alloc ?_ _) | (with_reducible refine RdAt.drewN ?_ _) | (with_reducible refine RdAt.drew ?_) | (with_reducible refine RdAt.setO ?_ (by first | assumption | omega) _ _) | (with_reducible refine RdAt.kept ?_ (by assumption))))
    exact hr2
  | @behOk _ _ w ts ts' x hlt hP =>
    have hIH : Hid (Snd Junk rb g cap mb bx ws 104 #[.pointer (some ⟨rb, 0, none⟩)] (o + 1) ts (.ok x ts')) := Lib.hid (IH .thing _ _ _ hP (suf_at hs).2.2 (hF.cons (by rw [hm w ts rfl]; decide)) trivial (by omega) (by simp [Job.wt]; omega))
    have R := Lib.hid (S.rdr E hs)
    have EE := Lib.hid E
    have hlen := E.few
    have hi0 : ws.length - (w :: ts).length < 9223372036854775807 := by omega
    have hi1 := Lib.hid (suf_at hs).2.1
    obtain ⟨i, hi⟩ : ∃ i, i = ws.length - (w :: ts).length := ⟨_, rfl⟩
    rw [← hi] at R hi1 hi0
    have hw1 : wrap64 (((o + 1 : Nat) : Int) - 1) = (o : Int) := by unfold wrap64; omega
    have HX := Lib.hid hw1
    obtain ⟨O, hO⟩ : ∃ O : Int, O = ((o + 1 : Nat) : Int) := ⟨_, rfl⟩
    rw [← hO] at HX
    have HO := Lib.hid hO
    clear hi hlen hw1 hO hP hF S E
    go_enter Tryz.func93, Tryz.ntmps93
    go_wp2_with (first
      | (go_at_call 99; (with_reducible refine (word_any rb g cap mb ws i w _ bad at' _ (R.out.alloc _)).mono ?_); rintro e' w1 ⟨rfl, hb1⟩; obtain ⟨hc1, hg1⟩ := bcell hb1; have hz1 := (hb1).size; (try simp at hz1); (have hy1_0 : W.heap.size < w1.heap.size := by omega))
      | (go_at_call 130; (with_reducible refine (enter_ok rb g cap mb ws i w o bad at' _ (Lib.hid ((R.out.alloc _).kept hb1)) hlt hi0).mono ?_); rintro e' w2 ⟨rfl, hr2, hf2⟩; obtain ⟨hc2, hg2⟩ := fcell hf2; have hz2 := Fr.size (hf2); (try simp at hz2); (have hy2_0 : W.heap.size < w2.heap.size := by omega); have hF2 : Fr (some rb) W w2 := (((Fr.refl _ _).alloc _).stepB hb1).step hf2)
      | (go_at_call 104; (with_reducible refine (hIH.out.ok w2 bad at' (EE.out.kept hF2) (by (unfold StAt; rw [← hi1.out]; exact hr2))).mono ?_); rintro e' w3 ⟨hf3, p3, l3, c3, hx3, rfl, bad3, at3, hs3⟩; obtain ⟨hc3, hg3⟩ := fcell hf3; have hz3 := Fr.size (hf3); (try simp at hz3); (have hy3_0 : W.heap.size < w3.heap.size := by omega); have hR3 := Lib.hid hs3; rw [← HO.out] at hR3; obtain ⟨q0, q1, q2, q3, q4, q5⟩ := hR3.out.cells; have hz3 := hR3.out.frozen 2; have hl3 := hR3.out.lt; have hn3 := Nat.ne_of_lt hl3; have hn3' := hn3.symm))
    refine bodyPost_ret (v := .tuple #[exV k 0 0 ⟨#[]⟩ (.slice (some ⟨w3.heap.size + 1, 0, none⟩) 1 1) w.a, .bool true]) (by have hq1 := Nat.ne_of_lt hy3_0; have hq2 : W.heap.size ≠ w3.heap.size + 1 := (by omega); simp [results, Tryz.results93, go_sem, hc1, hc2, hc3, hy1_0, hy2_0, hy3_0, hnb, hnb2, hq1, hq2]) rfl ⟨by (repeat (first | (with_reducible exact Fr.refl _ _) | (with_reducible refine Fr.alloc ?_ _) | (with_reducible refine Fr.drewN ?_ _) | (with_reducible refine Fr.drew ?_) | (with_reducible refine Fr.set ?_ ?_ _ _; rotate_left; first | exact .inl rfl | (right; simp; done) | (right; simp; omega) | (right; omega)) | (with_reducible refine Fr.step ?_ (by assumption)) | (with_reducible refine Fr.stepB ?_ (by assumption)))), ?_⟩
    refine ended_ok (x := .mk k 0 0 [] [x] w.a) (bad := bad3) (at' := at3) ?_ ?_
    · refine IsEx.low (lo := w2.heap.size) ?_ (by omega)
      refine IsEx.oneAt ?_ (by simp; omega) (by simp) k 0 0 [] w.a
      (repeat (first | (with_reducible exact hx3) | (with_reducible refine IsEx.alloc ?_ _) | (with_reducible refine IsEx.drewN ?_ _) | (with_reducible refine IsEx.drew ?_) | (with_reducible refine IsEx.set ?_ ?_ _ _; rotate_left; first | omega | (simp; done) | (simp; omega)) | (with_reducible refine IsEx.fr ?_ (by assumption) (by omega)) | (with_reducible refine IsEx.stay ?_ (by assumption))))
    · rw [HX.out]
      show RdAt _ _ _ _ _ _ _ _
      (repeat (first | (with_reducible refine RdAt.alloc ?_ _) | (with_reducible refine RdAt.drewN ?_ _) | (with_reducible refine RdAt.drew ?_) | (with_reducible refine RdAt.setO ?_ (by first | assumption | omega) _ _) | (with_reducible refine RdAt.kept ?_ (by assumption))))
      exact hR3.out.set2 _
  | @behBad _ _ w ts c a hlt hP =>
    have hIH : Hid (Snd Junk rb g cap mb bx ws 104 #[.pointer (some ⟨rb, 0, none⟩)] (o + 1) ts (.bad c a)) := Lib.hid (IH .thing _ _ _ hP (suf_at hs).2.2 (hF.cons (by rw [hm w ts rfl]; decide)) trivial (by omega) (by simp [Job.wt]; omega))
    have R := Lib.hid (S.rdr E hs)
    have EE := Lib.hid E
    have hlen := E.few
    have hi0 : ws.length - (w :: ts).length < 9223372036854775807 := by omega
    have hi1 := Lib.hid (suf_at hs).2.1
    obtain ⟨i, hi⟩ : ∃ i, i = ws.length - (w :: ts).length := ⟨_, rfl⟩
    rw [← hi] at R hi1 hi0
    clear hi hlen hP hF S E
    go_enter Tryz.func93, Tryz.ntmps93
    go_wp2_with (first
      | (go_at_call 99; (with_reducible refine (word_any rb g cap mb ws i w _ bad at' _ (R.out.alloc _)).mono ?_); rintro e' w1 ⟨rfl, hb1⟩; obtain ⟨hc1, hg1⟩ := bcell hb1; have hz1 := (hb1).size; (try simp at hz1); (have hy1_0 : W.heap.size < w1.heap.size := by omega))
      | (go_at_call 130; (with_reducible refine (enter_ok rb g cap mb ws i w o bad at' _ (Lib.hid ((R.out.alloc _).kept hb1)) hlt hi0).mono ?_); rintro e' w2 ⟨rfl, hr2, hf2⟩; obtain ⟨hc2, hg2⟩ := fcell hf2; have hz2 := Fr.size (hf2); (try simp at hz2); (have hy2_0 : W.heap.size < w2.heap.size := by omega); have hF2 : Fr (some rb) W w2 := (((Fr.refl _ _).alloc _).stepB hb1).step hf2)
      | (go_at_call 104; (with_reducible refine (hIH.out.badE w2 bad at' (EE.out.kept hF2) (by (unfold StAt; rw [← hi1.out]; exact hr2))).mono ?_); rintro e' w3 ⟨hf3, ⟨jk, jo, jn, jm, jp, jl, jc, ja, rfl⟩, nx, oq, hs3⟩; obtain ⟨hc3, hg3⟩ := fcell hf3; have hz3 := Fr.size (hf3); (try simp at hz3); (have hy3_0 : W.heap.size < w3.heap.size := by omega); have hR3 := Lib.hid hs3; obtain ⟨q0, q1, q2, q3, q4, q5⟩ := hR3.out.cells; have hz3 := hR3.out.frozen 2; have hl3 := hR3.out.lt; have hn3 := Nat.ne_of_lt hl3; have hn3' := hn3.symm))
    refine bodyPost_ret (v := .tuple #[exV k 0 0 ⟨#[]⟩ (.slice (some ⟨w3.heap.size + 1, 0, none⟩) 1 1) w.a, .bool false]) (by have hq1 := Nat.ne_of_lt hy3_0; have hq2 : W.heap.size ≠ w3.heap.size + 1 := (by omega); simp [results, Tryz.results93, go_sem, hc1, hc2, hc3, hy1_0, hy2_0, hy3_0, hnb, hnb2, hq1, hq2]) rfl ⟨by (repeat (first | (with_reducible exact Fr.refl _ _) | (with_reducible refine Fr.alloc ?_ _) | (with_reducible refine Fr.drewN ?_ _) | (with_reducible refine Fr.drew ?_) | (with_reducible refine Fr.set ?_ ?_ _ _; rotate_left; first | exact .inl rfl | (right; simp; done) | (right; simp; omega) | (right; omega)) | (with_reducible refine Fr.step ?_ (by assumption)) | (with_reducible refine Fr.stepB ?_ (by assumption)))), ?_⟩
    refine ended_bad (nx := nx) (op := wrap64 (oq - 1)) (Junk.of _ _ _ _ _ _ _ _) ?_
    (repeat (first | (with_reducible refine RdAt.alloc ?_ _) | (with_reducible refine RdAt.drewN ?_ _) | (with_reducible refine RdAt.drew ?_) | (with_reducible refine RdAt.setO ?_ (by first | assumption | omega) _ _) | (with_reducible refine RdAt.kept ?_ (by assumption))))
    exact hR3.out.set2 _
end Go.Proofs.YtngfbpmabdmkeaaGreatDoor
