/- An expression in brackets. -/
import Derived.Test.YtngfbpmabdmkeaaGreatDoorEx
import Derived.Deep.RegionWith
namespace Go.Proofs.YtngfbpmabdmkeaaGreatDoor
open Go Go.RowKit

set_option maxRecDepth 100000 in
set_option maxHeartbeats 1000000 in
theorem wth_step (rb g cap mb bx : Nat) (ws : List Wd) (o : Nat) (cl : List UInt8) (ts : List Wd) (r : Res) (IH : Below' rb g cap mb bx ws (4 * ts.length)) (hP : P o (.wth cl) ts r) (hs : ts <:+ ws) (hF : Fin ts) (hm : (Job.wth cl).may ts) (ho : o ≤ 32) :
    Goal rb g cap mb bx ws (.wth cl) o ts r := by
  intro W bad at' E S
  have hrl := S.lt
  have hnb : rb ≠ W.heap.size := by omega
  have hnb2 : W.heap.size ≠ rb := fun h => hnb h.symm
  cases hP with
  | @wthLim _ _ w ts ho32 =>
    have R := Lib.hid (S.rdr E hs)
    obtain ⟨i, hi⟩ : ∃ i, i = ws.length - (w :: ts).length := ⟨_, rfl⟩
    rw [← hi] at R
    clear hi
    subst ho32
    go_enter Tryz.func96, Tryz.ntmps96
    go_wp2_with (go_at_call 130; (with_reducible refine (enter_lim rb g cap mb ws i w bad at' _ (Lib.hid (R.out.alloc _))).mono ?_); rintro e' w1 ⟨rfl, hr1, hf1⟩; obtain ⟨hc1, hg1⟩ := fcell hf1; have hz1 := Fr.size (hf1); (try simp at hz1); (have hy1_0 : W.heap.size < w1.heap.size := by omega))
    refine bodyPost_ret (v := .tuple #[exV 0 0 0 ⟨#[]⟩ (.slice none 0 0) 0, .bool false]) (by simp [results, Tryz.results96, go_sem, hc1, hy1_0, hnb, hnb2]) rfl ⟨by (repeat (first | (with_reducible exact Fr.refl _ _) | (with_reducible refine Fr.alloc ?_ _) | (with_reducible refine Fr.drewN ?_ _) | (with_reducible refine Fr.drew ?_) | (with_reducible refine Fr.set ?_ ?_ _ _; rotate_left; first | exact .inl rfl | (right; simp; done) | (right; simp; omega) | (right; omega)) | (with_reducible refine Fr.step ?_ (by assumption)) | (with_reducible refine Fr.stepB ?_ (by assumption)))), ?_⟩
    refine ended_bad (nx := i) (op := 32) Junk.zero ?_
    (repeat (first | (with_reducible refine RdAt.alloc ?_ _) | (with_reducible refine RdAt.drewN ?_ _) | (with_reducible refine RdAt.drew ?_) | (with_reducible refine RdAt.setO ?_ (by first | assumption | omega) _ _) | (with_reducible refine RdAt.kept ?_ (by assumption))))
    exact hr1
  | @wthOk _ _ w d ts ts' x hlt hP hd =>
    have hfin := hF.cons (by rw [hm w ts rfl]; decide)
    have hpo := hP.post' (by simp [Job.may]) hfin
    simp only [Post, Job.lst, Job.min] at hpo
    have hIH : Hid (Snd Junk rb g cap mb bx ws 55 #[.pointer (some ⟨rb, 0, none⟩), .int .i64 1] (o + 1) ts (.ok x (d :: ts'))) := Lib.hid (IH (.expr 1) _ _ _ hP (suf_at hs).2.2 hfin (by simp [Job.may]) (by omega) (by simp [Job.wt]; omega))
    have hsd : Hid ((d :: ts') <:+ ws) := Lib.hid (hP.suf.trans (suf_at hs).2.2)
    have R := Lib.hid (S.rdr E hs)
    have EE := Lib.hid E
    have hlen := E.few
    have hi0 : ws.length - (w :: ts).length < 9223372036854775807 := by omega
    have hi1 := Lib.hid (suf_at hs).2.1
    have hd0 : ws.length - (d :: ts').length < 9223372036854775807 := by omega
    have hd1 := Lib.hid (suf_at hsd.out).2.1
    obtain ⟨i, hi⟩ : ∃ i, i = ws.length - (w :: ts).length := ⟨_, rfl⟩
    rw [← hi] at R hi1 hi0
    have Hd := Lib.hid hd
    obtain ⟨k, hk⟩ : ∃ k, k = ws.length - (d :: ts').length := ⟨_, rfl⟩
    rw [← hk] at hd0 hd1
    have HK := Lib.hid hk
    clear hi hlen hP hF S E hd hpo hfin hk
    go_enter Tryz.func96, Tryz.ntmps96
    go_wp2_with (first
      | (go_at_call 130; (with_reducible refine (enter_ok rb g cap mb ws i w o bad at' _ (Lib.hid (R.out.alloc _)) hlt hi0).mono ?_); rintro e' w1 ⟨rfl, hr1, hf1⟩; obtain ⟨hc1, hg1⟩ := fcell hf1; have hz1 := Fr.size (hf1); (try simp at hz1); (have hy1_0 : W.heap.size < w1.heap.size := by omega); have hF1 : Fr (some rb) W w1 := ((Fr.refl _ _).alloc _).step hf1)
      | (go_at_call 55; (with_reducible refine (hIH.out.ok w1 bad at' (EE.out.kept hF1) (by (unfold StAt; rw [← hi1.out]; exact hr1))).mono ?_); rintro e' w2 ⟨hf2, p2, l2, c2, hx2, rfl, bad2, at2, hs2⟩; obtain ⟨hc2, hg2⟩ := fcell hf2; have hz2 := Fr.size (hf2); (try simp at hz2); (have hy2_0 : W.heap.size < w2.heap.size := by omega); have hF2 := hF1.step hf2; have hR2 := Lib.hid (hs2.rdr (EE.out.kept hF2) hsd.out); rw [← HK.out] at hR2; have hnb3 : rb ≠ w2.heap.size := by (have := hR2.out.rd.lt; omega)))
    have hnb4 : w2.heap.size ≠ rb := fun h => hnb3 h.symm
    have hq1 := Nat.ne_of_lt hy2_0
    go_region_with (go_at_call 131; (with_reducible refine (leave_ok rb g cap mb ws k d o bad2 at2 cl _ (Lib.hid (hR2.out.kept (by (refine Fr.below ?_; (repeat (first | (with_reducible exact Fr.refl _ _) | (with_reducible refine Fr.alloc ?_ _) | (with_reducible refine Fr.drewN ?_ _) | (with_reducible refine Fr.drew ?_) | (with_reducible refine Fr.set ?_ ?_ _ _; rotate_left; first | exact .inl rfl | (right; simp; done) | (right; simp; omega) | (right; omega)) | (with_reducible refine Fr.step ?_ (by assumption)) | (with_reducible refine Fr.stepB ?_ (by assumption)))))))) Hd ho hd0).mono ?_); rintro e' w3 ⟨rfl, hr3, hf3⟩; obtain ⟨hc3, hg3⟩ := fcell hf3; have hz3 := Fr.size (hf3); (try simp at hz3); (have hy3_0 : W.heap.size < w3.heap.size := by omega); (have hy3_1 : w2.heap.size < w3.heap.size := by omega))
    all_goals go_wp2
    all_goals
      refine bodyPost_ret (v := .tuple #[exV x.k x.op x.n (bstr x.nm) (.slice p2 l2 c2) x.a, .bool true]) (by (have hq3 : W.heap.size < w2.heap.size + 1 := by omega); simp [results, Tryz.results96, go_sem, hq3, hc1, hc2, hc3, hy1_0, hy2_0, hy3_0, hy3_1, hnb, hnb2, hnb3, hnb4, hq1]) rfl ⟨by (repeat (first | (with_reducible exact Fr.refl _ _) | (with_reducible refine Fr.alloc ?_ _) | (with_reducible refine Fr.drewN ?_ _) | (with_reducible refine Fr.drew ?_) | (with_reducible refine Fr.set ?_ ?_ _ _; rotate_left; first | exact .inl rfl | (right; simp; done) | (right; simp; omega) | (right; omega)) | (with_reducible refine Fr.step ?_ (by assumption)) | (with_reducible refine Fr.stepB ?_ (by assumption)))), ?_⟩
      refine ended_ok (x := x) (bad := bad2) (at' := at2) ?_ ?_
      · refine IsEx.low (lo := w1.heap.size) ?_ (by omega)
        (repeat (first | (with_reducible exact hx2) | (with_reducible refine IsEx.alloc ?_ _) | (with_reducible refine IsEx.drewN ?_ _) | (with_reducible refine IsEx.drew ?_) | (with_reducible refine IsEx.set ?_ ?_ _ _; rotate_left; first | omega | (simp; done) | (simp; omega)) | (with_reducible refine IsEx.fr ?_ (by assumption) (by omega)) | (with_reducible refine IsEx.stay ?_ (by assumption))))
      · unfold StAt
        rw [← hd1.out]
        (repeat (first | (with_reducible refine RdAt.alloc ?_ _) | (with_reducible refine RdAt.drewN ?_ _) | (with_reducible refine RdAt.drew ?_) | (with_reducible refine RdAt.setO ?_ (by first | assumption | omega) _ _) | (with_reducible refine RdAt.kept ?_ (by assumption))))
        exact hr3
  | @wthNo _ _ w d ts ts' x hlt hP hd =>
    have hfin := hF.cons (by rw [hm w ts rfl]; decide)
    have hpo := hP.post' (by simp [Job.may]) hfin
    simp only [Post, Job.lst, Job.min] at hpo
    have hIH : Hid (Snd Junk rb g cap mb bx ws 55 #[.pointer (some ⟨rb, 0, none⟩), .int .i64 1] (o + 1) ts (.ok x (d :: ts'))) := Lib.hid (IH (.expr 1) _ _ _ hP (suf_at hs).2.2 hfin (by simp [Job.may]) (by omega) (by simp [Job.wt]; omega))
    have hsd : Hid ((d :: ts') <:+ ws) := Lib.hid (hP.suf.trans (suf_at hs).2.2)
    have R := Lib.hid (S.rdr E hs)
    have EE := Lib.hid E
    have hlen := E.few
    have hi0 : ws.length - (w :: ts).length < 9223372036854775807 := by omega
    have hi1 := Lib.hid (suf_at hs).2.1
    have hd0 : ws.length - (d :: ts').length < 9223372036854775807 := by omega
    have hd1 := Lib.hid (suf_at hsd.out).2.1
    obtain ⟨i, hi⟩ : ∃ i, i = ws.length - (w :: ts).length := ⟨_, rfl⟩
    rw [← hi] at R hi1 hi0
    have Hd := Lib.hid hd
    obtain ⟨k, hk⟩ : ∃ k, k = ws.length - (d :: ts').length := ⟨_, rfl⟩
    rw [← hk] at hd0 hd1
    have HK := Lib.hid hk
    clear hi hlen hP hF S E hd hpo hfin hk
    go_enter Tryz.func96, Tryz.ntmps96
    go_wp2_with (first
      | (go_at_call 130; (with_reducible refine (enter_ok rb g cap mb ws i w o bad at' _ (Lib.hid (R.out.alloc _)) hlt hi0).mono ?_); rintro e' w1 ⟨rfl, hr1, hf1⟩; obtain ⟨hc1, hg1⟩ := fcell hf1; have hz1 := Fr.size (hf1); (try simp at hz1); (have hy1_0 : W.heap.size < w1.heap.size := by omega); have hF1 : Fr (some rb) W w1 := ((Fr.refl _ _).alloc _).step hf1)
      | (go_at_call 55; (with_reducible refine (hIH.out.ok w1 bad at' (EE.out.kept hF1) (by (unfold StAt; rw [← hi1.out]; exact hr1))).mono ?_); rintro e' w2 ⟨hf2, p2, l2, c2, hx2, rfl, bad2, at2, hs2⟩; obtain ⟨hc2, hg2⟩ := fcell hf2; have hz2 := Fr.size (hf2); (try simp at hz2); (have hy2_0 : W.heap.size < w2.heap.size := by omega); have hF2 := hF1.step hf2; have hR2 := Lib.hid (hs2.rdr (EE.out.kept hF2) hsd.out); rw [← HK.out] at hR2; have hnb3 : rb ≠ w2.heap.size := by (have := hR2.out.rd.lt; omega)))
    have hnb4 : w2.heap.size ≠ rb := fun h => hnb3 h.symm
    have hq1 := Nat.ne_of_lt hy2_0
    go_region_with (go_at_call 131; (with_reducible refine (leave_no rb g cap mb ws k d ((o + 1 : Nat) : Int) bad2 at2 cl _ (Lib.hid (hR2.out.kept (by (refine Fr.below ?_; (repeat (first | (with_reducible exact Fr.refl _ _) | (with_reducible refine Fr.alloc ?_ _) | (with_reducible refine Fr.drewN ?_ _) | (with_reducible refine Fr.drew ?_) | (with_reducible refine Fr.set ?_ ?_ _ _; rotate_left; first | exact .inl rfl | (right; simp; done) | (right; simp; omega) | (right; omega)) | (with_reducible refine Fr.step ?_ (by assumption)) | (with_reducible refine Fr.stepB ?_ (by assumption)))))))) Hd).mono ?_); rintro e' w3 ⟨rfl, hr3, hf3⟩; obtain ⟨hc3, hg3⟩ := fcell hf3; have hz3 := Fr.size (hf3); (try simp at hz3); (have hy3_0 : W.heap.size < w3.heap.size := by omega); (have hy3_1 : w2.heap.size < w3.heap.size := by omega))
    all_goals go_wp2
    all_goals
      refine bodyPost_ret (v := .tuple #[exV x.k x.op x.n (bstr x.nm) (.slice p2 l2 c2) x.a, .bool false]) (by (have hq3 : W.heap.size < w2.heap.size + 1 := by omega); simp [results, Tryz.results96, go_sem, hq3, hc1, hc2, hc3, hy1_0, hy2_0, hy3_0, hy3_1, hnb, hnb2, hnb3, hnb4, hq1]) rfl ⟨by (repeat (first | (with_reducible exact Fr.refl _ _) | (with_reducible refine Fr.alloc ?_ _) | (with_reducible refine Fr.drewN ?_ _) | (with_reducible refine Fr.drew ?_) | (with_reducible refine Fr.set ?_ ?_ _ _; rotate_left; first | exact .inl rfl | (right; simp; done) | (right; simp; omega) | (right; omega)) | (with_reducible refine Fr.step ?_ (by assumption)) | (with_reducible refine Fr.stepB ?_ (by assumption)))), ?_⟩
      refine ended_bad (nx := k) (op := ((o + 1 : Nat) : Int)) (Junk.of _ _ _ _ _ _ _ _) ?_
      (repeat (first | (with_reducible refine RdAt.alloc ?_ _) | (with_reducible refine RdAt.drewN ?_ _) | (with_reducible refine RdAt.drew ?_) | (with_reducible refine RdAt.setO ?_ (by first | assumption | omega) _ _) | (with_reducible refine RdAt.kept ?_ (by assumption))))
      exact hr3
  | @wthBad _ _ w ts c a hlt hP =>
    have hfin := hF.cons (by rw [hm w ts rfl]; decide)
    have hIH : Hid (Snd Junk rb g cap mb bx ws 55 #[.pointer (some ⟨rb, 0, none⟩), .int .i64 1] (o + 1) ts (.bad c a)) := Lib.hid (IH (.expr 1) _ _ _ hP (suf_at hs).2.2 hfin (by simp [Job.may]) (by omega) (by simp [Job.wt]; omega))
    have R := Lib.hid (S.rdr E hs)
    have EE := Lib.hid E
    have hlen := E.few
    have hi0 : ws.length - (w :: ts).length < 9223372036854775807 := by omega
    have hi1 := Lib.hid (suf_at hs).2.1
    obtain ⟨i, hi⟩ : ∃ i, i = ws.length - (w :: ts).length := ⟨_, rfl⟩
    rw [← hi] at R hi1 hi0
    clear hi hlen hP hF S E hfin
    go_enter Tryz.func96, Tryz.ntmps96
    go_wp2_with (first
      | (go_at_call 130; (with_reducible refine (enter_ok rb g cap mb ws i w o bad at' _ (Lib.hid (R.out.alloc _)) hlt hi0).mono ?_); rintro e' w1 ⟨rfl, hr1, hf1⟩; obtain ⟨hc1, hg1⟩ := fcell hf1; have hz1 := Fr.size (hf1); (try simp at hz1); (have hy1_0 : W.heap.size < w1.heap.size := by omega); have hF1 : Fr (some rb) W w1 := ((Fr.refl _ _).alloc _).step hf1)
      | (go_at_call 55; (with_reducible refine (hIH.out.badE w1 bad at' (EE.out.kept hF1) (by (unfold StAt; rw [← hi1.out]; exact hr1))).mono ?_); rintro e' w2 ⟨hf2, ⟨jk, jo, jn, jm, jp, jl, jc, ja, rfl⟩, nx, oq, hs2⟩; obtain ⟨hc2, hg2⟩ := fcell hf2; have hz2 := Fr.size (hf2); (try simp at hz2); (have hy2_0 : W.heap.size < w2.heap.size := by omega); have hnb3 : rb ≠ w2.heap.size := by (have := hs2.lt; omega)))
    have hnb4 : w2.heap.size ≠ rb := fun h => hnb3 h.symm
    have hq1 := Nat.ne_of_lt hy2_0
    refine bodyPost_ret (v := .tuple #[exV jk jo jn jm (.slice jp jl jc) ja, .bool false]) (by simp [results, Tryz.results96, go_sem, hc1, hc2, hy1_0, hy2_0, hnb, hnb2, hnb3, hnb4, hq1]) rfl ⟨by (repeat (first | (with_reducible exact Fr.refl _ _) | (with_reducible refine Fr.alloc ?_ _) | (with_reducible refine Fr.drewN ?_ _) | (with_reducible refine Fr.drew ?_) | (with_reducible refine Fr.set ?_ ?_ _ _; rotate_left; first | exact .inl rfl | (right; simp; done) | (right; simp; omega) | (right; omega)) | (with_reducible refine Fr.step ?_ (by assumption)) | (with_reducible refine Fr.stepB ?_ (by assumption)))), ?_⟩
    refine ended_bad (nx := nx) (op := oq) (Junk.of _ _ _ _ _ _ _ _) ?_
    (repeat (first | (with_reducible refine RdAt.alloc ?_ _) | (with_reducible refine RdAt.drewN ?_ _) | (with_reducible refine RdAt.drew ?_) | (with_reducible refine RdAt.setO ?_ (by first | assumption | omega) _ _) | (with_reducible refine RdAt.kept ?_ (by assumption))))
    exact hs2
end Go.Proofs.YtngfbpmabdmkeaaGreatDoor
