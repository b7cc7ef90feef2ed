/- A name, and what belongs to it. -/
import Derived.Test.YtngfbpmabdmkeaaGreatDoorEx
import Derived.Deep.RegionWith
import Derived.Deep.Cut
namespace Go.Proofs.YtngfbpmabdmkeaaGreatDoor
open Go Go.RowKit

theorem P.nam_form {o : Nat} {ts : List Wd} {r : Res} (h : P o .nam ts r) : ∃ w c ts', ts = w :: c :: ts' := by
  cases h <;> exact ⟨_, _, _, rfl⟩

set_option maxRecDepth 100000 in
set_option maxHeartbeats 4000000 in
theorem nam_step (rb g cap mb bx : Nat) (ws : List Wd) (o : Nat) (ts0 : List Wd) (r : Res) (IH : Below' rb g cap mb bx ws (4 * ts0.length)) (hP : P o .nam ts0 r) (hs : ts0 <:+ ws) (hF : Fin ts0) (hm : Job.nam.may ts0) (ho : o ≤ 32) :
    Goal rb g cap mb bx ws .nam o ts0 r := by
  obtain ⟨w, c, ts, rfl⟩ := hP.nam_form
  intro W bad at' E S
  have hrl := S.lt
  have hnb : rb ≠ W.heap.size := by omega
  have hnb2 : W.heap.size ≠ rb := fun h => hnb h.symm
  have R := Lib.hid (S.rdr E hs)
  have EE := Lib.hid E
  have hsc := Lib.hid (suf_at hs).2.2
  have hfc := Lib.hid (hF.cons (by rw [hm w _ rfl]; decide))
  have hi1 := (suf_at hs).2.1
  obtain ⟨i, hi⟩ : ∃ i, i = ws.length - (w :: c :: ts).length := ⟨_, rfl⟩
  have hlen := E.few
  have hi0 : i < 9223372036854775807 := by omega
  rw [← hi] at R hi1
  have hw1 : (i : Int) + 1 = ((ws.length - (c :: ts).length : Nat) : Int) := by rw [← hi1]; omega
  have HX := Lib.hid hw1
  have hsz : (bstr w.t).size ≤ 281474976710656 := by
    have := E.long w (hs.subset (by simp))
    show w.t.toArray.size ≤ _
    simp
    omega
  have HP := Lib.hid hP
  have HI := Lib.hid IH
  clear hi hi1 hlen hw1 S E hP IH hs hm hF
  go_enter Tryz.func103, Tryz.ntmps103
  go_wp2_with (first
    | (go_at_call 99; (with_reducible refine (word_any rb g cap mb ws i w _ bad at' _ (R.out.alloc _)).mono ?_); rintro e' w1 ⟨rfl, hb1⟩; have hz1 := hb1.size; (try simp at hz1); have B1 := Lib.hid ((Blk.new (X := W) rfl (.int .i64 0) (.int .i64 0) (.int .i64 0) (.string ⟨#[]⟩) (.slice none 0 0) (.int .i64 0)).stay hb1); have hR1 := Lib.hid ((R.out.alloc _).kept hb1); have HB1 := Lib.hid hb1; obtain ⟨q0, q1, q2, q3, q4, q5⟩ := hR1.out.rd.cells; have hz3 := hR1.out.rd.frozen 1; have hl1 := hR1.out.rd.lt; have hn1 := Nat.ne_of_lt hl1; have hn1' := hn1.symm; clear hb1))
  clear q0 q1 q2 q3 q4 q5 hz3 hn1 hn1'
  go_cut [5] from 8 (fun b X => ∃ n, b = .pointer (some ⟨n, 0, none⟩) ∧ w1.heap.size ≤ n ∧ Fr (some rb) w1 X ∧ RdAt X rb (.slice (some ⟨g, 0, none⟩) ws.length cap) (.map (some mb)) ((i : Int) + 1) o bad at' ∧
    Blk X n (.int .i64 2) (.int .i64 0) (.int .i64 0) (.string (bstr w.t)) (.slice none 0 0) (.int .i64 w.a))
  case first =>
    go_region_with (go_at_call 29; (with_reducible refine (clone_any (bstr w.t) _ hsz).mono ?_); rintro e' w2 ⟨rfl, hb2⟩; have hT1 : w2.cell? ⟨w1.heap.size, 1, none⟩ = some (.string (bstr w.t)) := (hb2.cell (p := ⟨w1.heap.size, 1, none⟩) (by first | (simp; done) | (simp; omega))).trans (by simp [go_sem]); have hT3 : w2.cell? ⟨w1.heap.size, 3, none⟩ = some (.int .i64 w.a) := (hb2.cell (p := ⟨w1.heap.size, 3, none⟩) (by first | (simp; done) | (simp; omega))).trans (by simp [go_sem]); (have hyz : w1.heap.size < w2.heap.size := by (have := hb2.size; simp at this; omega)); have hyn := Nat.ne_of_lt hyz; (first | (have BA : Blk w2 (w1.heap.size + 1) (.int .i64 0) (.int .i64 0) (.int .i64 0) (.string ⟨#[]⟩) (.slice none 0 0) (.int .i64 0) := Blk.stay (Blk.drew (Blk.new (X := World.alloc _ _) (by simp) _ _ _ _ _ _)) hb2; obtain ⟨bla, c0a, c1a, c2a, c3a, c4a, c5a, f0a, f1a, f2a, f3a, f4a, f5a⟩ := (BA).facts) | skip); have HB2 := Lib.hid hb2; clear hb2)
    all_goals (go_wp2_with fail; go_meet)
    all_goals (have hb2 := HB2.out; refine ⟨_, rfl, by omega, by (repeat (first | (with_reducible exact Fr.refl _ _) | (with_reducible refine Fr.alloc ?_ _) | (with_reducible refine Fr.drewN ?_ _) | (with_reducible refine Fr.drew ?_) | (with_reducible refine Fr.set ?_ ?_ _ _; rotate_left; first | exact .inl rfl | (right; simp; done) | (right; simp; omega) | (right; omega)) | (with_reducible refine Fr.step ?_ (by assumption)) | (with_reducible refine Fr.stepB ?_ (by assumption)))), by (repeat (first | (with_reducible exact (hR1.out.rd.set1 _)) | (with_reducible refine RdAt.alloc ?_ _) | (with_reducible refine RdAt.drewN ?_ _) | (with_reducible refine RdAt.drew ?_) | (with_reducible refine RdAt.setO ?_ (by first | assumption | omega) _ _) | (with_reducible refine RdAt.kept ?_ (by assumption)))), ?_⟩)
    all_goals first | (with_reducible exact Blk.new rfl _ _ _ _ _ _) | exact BA.all _ _ _ _ _ _
  case rest =>
    obtain ⟨n, rfl, hn0, hfX, hrX, BN⟩ := hcut
    have hFX : Fr (some rb) W wc := (((Fr.refl _ _).alloc _).stepB HB1.out).step hfX
    have hRX : Hid (Rdr wc rb g cap mb ws (ws.length - (c :: ts).length) c o bad at') := Lib.hid ⟨by rw [← HX.out]; exact hrX, (EE.out.kept hFX).wc, EE.out.ne1, (suf_at hsc.out).1⟩
    obtain ⟨k, hk⟩ : ∃ k, k = ws.length - (c :: ts).length := ⟨_, rfl⟩
    rw [← hk] at hRX
    have HK := Lib.hid hk
    clear hk hrX hR1 R HX
    have hnr : n ≠ rb := by omega
    have hnW : n ≠ W.heap.size := by omega
    have hnW' := hnW.symm
    have BR := Lib.hid (B1.out.fr hfX hnb2)
    have hzx := Fr.size hfX
    clear B1
    have BN := Lib.hid BN
    cases HP.out with
    | namVar h1 h2 =>
      have hg1 : ¬ Sg c (⟨#[91]⟩ : ByteArray).data.toList := h1
      have hg2 : ¬ Sg c (⟨#[40]⟩ : ByteArray).data.toList := h2
      clear HP HI h1 h2
      go_wp2_with (first
        | (go_at_call 132; (with_reducible refine (is_noS rb g cap mb ws k c o bad at' _ _ hRX.out hg1).mono ?_); rintro e' w3 ⟨rfl, hb3⟩; have BR3 := Lib.hid (BR.out.stay hb3); have BN3 := Lib.hid (BN.out.stay hb3); have hF3 := hFX.stepB hb3; have hz3 := hb3.size)
        | (go_at_call 132; (with_reducible refine (is_noS rb g cap mb ws k c o bad at' _ _ (hRX.out.kept hb3) hg2).mono ?_); rintro e' w4 ⟨rfl, hb4⟩; have BR4 := Lib.hid (BR3.out.stay hb4); have BN4 := Lib.hid (BN3.out.stay hb4); have hF4 := hF3.stepB hb4; have hz4 := hb4.size; obtain ⟨blr, c0r, c1r, c2r, c3r, c4r, c5r, f0r, f1r, f2r, f3r, f4r, f5r⟩ := (BR4.out).facts; obtain ⟨bln, c0n, c1n, c2n, c3n, c4n, c5n, f0n, f1n, f2n, f3n, f4n, f5n⟩ := (BN4.out).facts))
      refine bodyPost_ret (results_blk Tryz.results103 _ _ rfl rfl (BR4.out.all _ _ _ _ _ _)) rfl ⟨by (repeat (first | (with_reducible exact Fr.refl _ _) | (with_reducible refine Fr.alloc ?_ _) | (with_reducible refine Fr.drewN ?_ _) | (with_reducible refine Fr.drew ?_) | (with_reducible refine Fr.set ?_ ?_ _ _; rotate_left; first | exact .inl rfl | (right; simp; done) | (right; simp; omega) | (right; omega)) | (with_reducible refine Fr.step ?_ (by assumption)) | (with_reducible refine Fr.stepB ?_ (by assumption)))), ?_⟩
      refine ended_ok (x := .mk 2 0 0 w.t [] w.a) (bad := bad) (at' := at') .leaf ?_
      unfold StAt
      rw [← HK.out]
      (repeat (first | (with_reducible exact (hRX.out.rd)) | (with_reducible refine RdAt.alloc ?_ _) | (with_reducible refine RdAt.drewN ?_ _) | (with_reducible refine RdAt.drew ?_) | (with_reducible refine RdAt.setO ?_ (by first | assumption | omega) _ _) | (with_reducible refine RdAt.kept ?_ (by assumption))))
    | @namElem _ _ _ _ ts' x h1 h2 =>
      have hg1 : Sg c (⟨#[91]⟩ : ByteArray).data.toList := h1
      have hIH2 : Hid (Snd Junk rb g cap mb bx ws 96 #[.pointer (some ⟨rb, 0, none⟩), .string ⟨#[93]⟩] o (c :: ts) (.ok x ts')) := Lib.hid (HI.out (.wth [93]) _ _ _ h2 hsc.out hfc.out (by rintro w' t' e; cases e; exact h1.1) ho (by first | (simp [Job.wt]; done) | (simp [Job.wt]; omega)))
      clear HP HI h1 h2
      go_wp2_with (first
        | (go_at_call 132; (with_reducible refine (is_yesS rb g cap mb ws k c o bad at' _ _ hRX.out hg1).mono ?_); rintro e' w3 ⟨rfl, hb3⟩; have BR3 := Lib.hid (BR.out.stay hb3); have BN3 := Lib.hid (BN.out.stay hb3); have hF3 := hFX.stepB hb3; have hz3 := hb3.size)
        | (go_at_call 96; (have hnb3 : w3.heap.size ≠ rb := by omega); (have hnb4 : w3.heap.size ≠ n := by (have := (BN3.out.facts).1; omega)); have hnb5 := hnb4.symm; (have hnb6 : w3.heap.size ≠ W.heap.size := by omega); have hnb7 := hnb6.symm; (with_reducible refine (hIH2.out.ok _ bad at' (EE.out.kept (by (repeat (first | (with_reducible exact Fr.refl _ _) | (with_reducible refine Fr.alloc ?_ _) | (with_reducible refine Fr.drewN ?_ _) | (with_reducible refine Fr.drew ?_) | (with_reducible refine Fr.set ?_ ?_ _ _; rotate_left; first | exact .inl rfl | (right; simp; done) | (right; simp; omega) | (right; omega)) | (with_reducible refine Fr.step ?_ (by assumption)) | (with_reducible refine Fr.stepB ?_ (by assumption)))))) (by (unfold StAt; rw [← HK.out]; (repeat (first | (with_reducible exact (hRX.out.rd)) | (with_reducible refine RdAt.alloc ?_ _) | (with_reducible refine RdAt.drewN ?_ _) | (with_reducible refine RdAt.drew ?_) | (with_reducible refine RdAt.setO ?_ (by first | assumption | omega) _ _) | (with_reducible refine RdAt.kept ?_ (by assumption))))))).mono ?_); rintro e' w5 ⟨hf5, p5, l5, c5, hx5, rfl, bad5, at5, hs5⟩; have hz5 := Fr.size hf5; (try simp at hz5); have BR5 := Lib.hid ((BR3.out.alloc _).fr hf5 hnb2); have BN5 := Lib.hid ((BN3.out.alloc _).fr hf5 hnr); have BP5 := Lib.hid ((Blk.new (X := w3) rfl (.int .i64 0) (.int .i64 0) (.int .i64 0) (.string ⟨#[]⟩) (.slice none 0 0) (.int .i64 0)).fr hf5 hnb3); have hF5 := (hF3.alloc _).step hf5; obtain ⟨blp, c0p, c1p, c2p, c3p, c4p, c5p, f0p, f1p, f2p, f3p, f4p, f5p⟩ := (BP5.out).facts))
      refine name_world ?_
      intro Z hZ
      have BPZ : Blk Z w3.heap.size (.int .i64 x.k) (.int .i64 x.op) (.int .i64 x.n) (.string (bstr x.nm)) (.slice p5 l5 c5) (.int .i64 x.a) := by rw [hZ]; exact BP5.out.all _ _ _ _ _ _
      have BNZ : Blk Z n (.int .i64 2) (.int .i64 0) (.int .i64 0) (.string (bstr w.t)) (.slice none 0 0) (.int .i64 w.a) := by rw [hZ]; (repeat (first | (with_reducible exact BN5.out) | (with_reducible refine Blk.alloc ?_ _) | (with_reducible refine Blk.drewN ?_ _) | (with_reducible refine Blk.drew ?_) | (with_reducible refine Blk.setO ?_ ?_ _ _; rotate_left; first | assumption | omega | (simp; omega)) | (with_reducible refine Blk.fr ?_ (by assumption) (by first | assumption | omega)) | (with_reducible refine Blk.stay ?_ (by assumption))))
      have BRZ : Hid (Blk Z W.heap.size (.int .i64 0) (.int .i64 0) (.int .i64 0) (.string ⟨#[]⟩) (.slice none 0 0) (.int .i64 0)) := Lib.hid (by rw [hZ]; (repeat (first | (with_reducible exact BR5.out) | (with_reducible refine Blk.alloc ?_ _) | (with_reducible refine Blk.drewN ?_ _) | (with_reducible refine Blk.drew ?_) | (with_reducible refine Blk.setO ?_ ?_ _ _; rotate_left; first | assumption | omega | (simp; omega)) | (with_reducible refine Blk.fr ?_ (by assumption) (by first | assumption | omega)) | (with_reducible refine Blk.stay ?_ (by assumption)))))
      have hFZ : Fr (some rb) W Z := by rw [hZ]; (repeat (first | (with_reducible exact Fr.refl _ _) | (with_reducible refine Fr.alloc ?_ _) | (with_reducible refine Fr.drewN ?_ _) | (with_reducible refine Fr.drew ?_) | (with_reducible refine Fr.set ?_ ?_ _ _; rotate_left; first | exact .inl rfl | (right; simp; done) | (right; simp; omega) | (right; omega)) | (with_reducible refine Fr.step ?_ (by assumption)) | (with_reducible refine Fr.stepB ?_ (by assumption))))
      have hsZ : Z.heap.size = w5.heap.size := by rw [hZ]; simp
      have hxZ : Hid (IsEx (w3.heap.size + 1) Z x (.slice p5 l5 c5)) := Lib.hid (by rw [hZ]; (refine IsEx.low (lo := (w3.alloc (.cells #[.int .i64 0, .int .i64 0, .int .i64 0, .string ⟨#[]⟩, .slice none 0 0, .int .i64 0] 25)).heap.size) ?_ (by simp)); (repeat (first | (with_reducible exact hx5) | (with_reducible refine IsEx.set ?_ (by simp) _ _))))
      have hsZ2 : Hid (StAt Z rb g cap mb ws ts' o bad5 at5) := Lib.hid (by rw [hZ]; unfold StAt; (repeat (first | (with_reducible exact hs5) | (with_reducible refine RdAt.alloc ?_ _) | (with_reducible refine RdAt.drewN ?_ _) | (with_reducible refine RdAt.drew ?_) | (with_reducible refine RdAt.setO ?_ (by first | assumption | omega) _ _) | (with_reducible refine RdAt.kept ?_ (by assumption)))))
      have BNY := Lib.hid BNZ
      obtain ⟨blp, c0p, c1p, c2p, c3p, c4p, c5p, f0p, f1p, f2p, f3p, f4p, f5p⟩ := (BPZ).facts
      obtain ⟨bln, c0n, c1n, c2n, c3n, c4n, c5n, f0n, f1n, f2n, f3n, f4n, f5n⟩ := (BNZ).facts
      have hnZ := Nat.ne_of_lt bln
      have hnZ' := hnZ.symm
      have hpZ := Nat.ne_of_lt blp
      have hpZ' := hpZ.symm
      have hWZ := Nat.ne_of_lt (BRZ.out.facts).1
      have hWZ' := hWZ.symm
      have hsZh := Lib.hid hsZ
      clear hZ BPZ BNZ BP5 BN5 BR5 hsZ
      go_region
      all_goals (obtain ⟨blr, c0r, c1r, c2r, c3r, c4r, c5r, f0r, f1r, f2r, f3r, f4r, f5r⟩ := (BRZ.out).facts; go_wp2)
      have hn3 : n < w3.heap.size := (BN3.out.facts).1
      all_goals
        refine bodyPost_ret (results_blk (n := W.heap.size) (v0 := .int .i64 3) (v1 := .int .i64 0) (v2 := .int .i64 0) (v3 := .string (bstr w.t)) (v4 := .slice (some ⟨Z.heap.size, 0, none⟩) 1 1) (v5 := .int .i64 w.a) Tryz.results103 _ _ rfl rfl (by (try with_reducible refine Blk.drew ?_); (try with_reducible refine Blk.drewN ?_ _); (with_reducible refine Blk.alloc ?_ _); with_reducible exact (((BRZ.out.setO hnW' 0 _).setO hnW' 4 _).all _ _ _ _ _ _))) rfl ⟨by (repeat (first | (with_reducible exact Fr.refl _ _) | (with_reducible refine Fr.alloc ?_ _) | (with_reducible refine Fr.drewN ?_ _) | (with_reducible refine Fr.drew ?_) | (with_reducible refine Fr.set ?_ ?_ _ _; rotate_left; first | exact .inl rfl | (right; simp; done) | (right; simp; omega) | (right; omega)) | (with_reducible refine Fr.step ?_ (by assumption)) | (with_reducible refine Fr.stepB ?_ (by assumption)))), ?_⟩
        refine ended_ok (x := .mk 3 0 0 w.t [x] w.a) (bad := bad5) (at' := at5) ?_ ?_
        · refine IsEx.low (lo := w3.heap.size + 1) ?_ (by omega)
          (try with_reducible refine IsEx.drew ?_)
          (try with_reducible refine IsEx.drewN ?_ _)
          with_reducible refine IsEx.oneAt ?_ (by simp; have h1 := hsZh.out; omega) (by simp) 3 0 0 w.t w.a
          (repeat (first | (with_reducible exact hxZ.out) | (with_reducible refine IsEx.alloc ?_ _) | (with_reducible refine IsEx.drewN ?_ _) | (with_reducible refine IsEx.drew ?_) | (with_reducible refine IsEx.set ?_ ?_ _ _; rotate_left; first | omega | (simp; done) | (simp; omega)) | (with_reducible refine IsEx.fr ?_ (by assumption) (by omega)) | (with_reducible refine IsEx.stay ?_ (by assumption))))
        · unfold StAt
          (repeat (first | (with_reducible exact hsZ2.out) | (with_reducible refine RdAt.alloc ?_ _) | (with_reducible refine RdAt.drewN ?_ _) | (with_reducible refine RdAt.drew ?_) | (with_reducible refine RdAt.setO ?_ (by first | assumption | omega) _ _) | (with_reducible refine RdAt.kept ?_ (by assumption))))
    | @namElemBad _ _ _ _ ec ea h1 h2 =>
      have hg1 : Sg c (⟨#[91]⟩ : ByteArray).data.toList := h1
      have hIH2 : Hid (Snd Junk rb g cap mb bx ws 96 #[.pointer (some ⟨rb, 0, none⟩), .string ⟨#[93]⟩] o (c :: ts) (.bad ec ea)) := Lib.hid (HI.out (.wth [93]) _ _ _ h2 hsc.out hfc.out (by rintro w' t' e; cases e; exact h1.1) ho (by first | (simp [Job.wt]; done) | (simp [Job.wt]; omega)))
      clear HP HI h1 h2
      go_wp2_with (first
        | (go_at_call 132; (with_reducible refine (is_yesS rb g cap mb ws k c o bad at' _ _ hRX.out hg1).mono ?_); rintro e' w3 ⟨rfl, hb3⟩; have BR3 := Lib.hid (BR.out.stay hb3); have BN3 := Lib.hid (BN.out.stay hb3); have hF3 := hFX.stepB hb3; have hz3 := hb3.size)
        | (go_at_call 96; (have hnb3 : w3.heap.size ≠ rb := by omega); (have hnb4 : w3.heap.size ≠ n := by (have := (BN3.out.facts).1; omega)); have hnb5 := hnb4.symm; (have hnb6 : w3.heap.size ≠ W.heap.size := by omega); have hnb7 := hnb6.symm; (with_reducible refine (hIH2.out.badE _ bad at' (EE.out.kept (by (repeat (first | (with_reducible exact Fr.refl _ _) | (with_reducible refine Fr.alloc ?_ _) | (with_reducible refine Fr.drewN ?_ _) | (with_reducible refine Fr.drew ?_) | (with_reducible refine Fr.set ?_ ?_ _ _; rotate_left; first | exact .inl rfl | (right; simp; done) | (right; simp; omega) | (right; omega)) | (with_reducible refine Fr.step ?_ (by assumption)) | (with_reducible refine Fr.stepB ?_ (by assumption)))))) (by (unfold StAt; rw [← HK.out]; (repeat (first | (with_reducible exact (hRX.out.rd)) | (with_reducible refine RdAt.alloc ?_ _) | (with_reducible refine RdAt.drewN ?_ _) | (with_reducible refine RdAt.drew ?_) | (with_reducible refine RdAt.setO ?_ (by first | assumption | omega) _ _) | (with_reducible refine RdAt.kept ?_ (by assumption))))))).mono ?_); rintro e' w5 ⟨hf5, ⟨jk, jo, jn, jm, jp, jl, jc, ja, rfl⟩, nx, oq, hs5⟩; have hz5 := Fr.size hf5; (try simp at hz5); have BR5 := Lib.hid ((BR3.out.alloc _).fr hf5 hnb2); have BN5 := Lib.hid ((BN3.out.alloc _).fr hf5 hnr); have BP5 := Lib.hid ((Blk.new (X := w3) rfl (.int .i64 0) (.int .i64 0) (.int .i64 0) (.string ⟨#[]⟩) (.slice none 0 0) (.int .i64 0)).fr hf5 hnb3); have hF5 := (hF3.alloc _).step hf5; obtain ⟨blp, c0p, c1p, c2p, c3p, c4p, c5p, f0p, f1p, f2p, f3p, f4p, f5p⟩ := (BP5.out).facts))
      refine name_world ?_
      intro Z hZ
      have BPZ : Blk Z w3.heap.size (.int .i64 jk) (.int .i64 jo) (.int .i64 jn) (.string jm) (.slice jp jl jc) (.int .i64 ja) := by rw [hZ]; exact BP5.out.all _ _ _ _ _ _
      have BNZ : Blk Z n (.int .i64 2) (.int .i64 0) (.int .i64 0) (.string (bstr w.t)) (.slice none 0 0) (.int .i64 w.a) := by rw [hZ]; (repeat (first | (with_reducible exact BN5.out) | (with_reducible refine Blk.alloc ?_ _) | (with_reducible refine Blk.drewN ?_ _) | (with_reducible refine Blk.drew ?_) | (with_reducible refine Blk.setO ?_ ?_ _ _; rotate_left; first | assumption | omega | (simp; omega)) | (with_reducible refine Blk.fr ?_ (by assumption) (by first | assumption | omega)) | (with_reducible refine Blk.stay ?_ (by assumption))))
      have BRZ : Hid (Blk Z W.heap.size (.int .i64 0) (.int .i64 0) (.int .i64 0) (.string ⟨#[]⟩) (.slice none 0 0) (.int .i64 0)) := Lib.hid (by rw [hZ]; (repeat (first | (with_reducible exact BR5.out) | (with_reducible refine Blk.alloc ?_ _) | (with_reducible refine Blk.drewN ?_ _) | (with_reducible refine Blk.drew ?_) | (with_reducible refine Blk.setO ?_ ?_ _ _; rotate_left; first | assumption | omega | (simp; omega)) | (with_reducible refine Blk.fr ?_ (by assumption) (by first | assumption | omega)) | (with_reducible refine Blk.stay ?_ (by assumption)))))
      have hFZ : Fr (some rb) W Z := by rw [hZ]; (repeat (first | (with_reducible exact Fr.refl _ _) | (with_reducible refine Fr.alloc ?_ _) | (with_reducible refine Fr.drewN ?_ _) | (with_reducible refine Fr.drew ?_) | (with_reducible refine Fr.set ?_ ?_ _ _; rotate_left; first | exact .inl rfl | (right; simp; done) | (right; simp; omega) | (right; omega)) | (with_reducible refine Fr.step ?_ (by assumption)) | (with_reducible refine Fr.stepB ?_ (by assumption))))
      have hsZ : Z.heap.size = w5.heap.size := by rw [hZ]; simp
      have hsZ2 : Hid (RdAt Z rb (.slice (some ⟨g, 0, none⟩) ws.length cap) (.map (some mb)) nx oq ec ea) := Lib.hid (by rw [hZ]; (repeat (first | (with_reducible exact hs5) | (with_reducible refine RdAt.alloc ?_ _) | (with_reducible refine RdAt.drewN ?_ _) | (with_reducible refine RdAt.drew ?_) | (with_reducible refine RdAt.setO ?_ (by first | assumption | omega) _ _) | (with_reducible refine RdAt.kept ?_ (by assumption)))))
      have BNY := Lib.hid BNZ
      obtain ⟨blp, c0p, c1p, c2p, c3p, c4p, c5p, f0p, f1p, f2p, f3p, f4p, f5p⟩ := (BPZ).facts
      obtain ⟨bln, c0n, c1n, c2n, c3n, c4n, c5n, f0n, f1n, f2n, f3n, f4n, f5n⟩ := (BNZ).facts
      have hnZ := Nat.ne_of_lt bln
      have hnZ' := hnZ.symm
      have hpZ := Nat.ne_of_lt blp
      have hpZ' := hpZ.symm
      have hWZ := Nat.ne_of_lt (BRZ.out.facts).1
      have hWZ' := hWZ.symm
      have hsZh := Lib.hid hsZ
      clear hZ BPZ BNZ BP5 BN5 BR5 hsZ
      go_region
      all_goals (obtain ⟨blr, c0r, c1r, c2r, c3r, c4r, c5r, f0r, f1r, f2r, f3r, f4r, f5r⟩ := (BRZ.out).facts; go_wp2)
      all_goals
        refine bodyPost_ret (results_blk (n := W.heap.size) (v0 := .int .i64 3) (v1 := .int .i64 0) (v2 := .int .i64 0) (v3 := .string (bstr w.t)) (v4 := .slice (some ⟨Z.heap.size, 0, none⟩) 1 1) (v5 := .int .i64 w.a) Tryz.results103 _ _ rfl rfl (by (try with_reducible refine Blk.drew ?_); (try with_reducible refine Blk.drewN ?_ _); (with_reducible refine Blk.alloc ?_ _); with_reducible exact (((BRZ.out.setO hnW' 0 _).setO hnW' 4 _).all _ _ _ _ _ _))) rfl ⟨by (repeat (first | (with_reducible exact Fr.refl _ _) | (with_reducible refine Fr.alloc ?_ _) | (with_reducible refine Fr.drewN ?_ _) | (with_reducible refine Fr.drew ?_) | (with_reducible refine Fr.set ?_ ?_ _ _; rotate_left; first | exact .inl rfl | (right; simp; done) | (right; simp; omega) | (right; omega)) | (with_reducible refine Fr.step ?_ (by assumption)) | (with_reducible refine Fr.stepB ?_ (by assumption)))), ?_⟩
        refine ended_bad (nx := nx) (op := oq) (Junk.of _ _ _ _ _ _ _ _) ?_
        (repeat (first | (with_reducible exact hsZ2.out) | (with_reducible refine RdAt.alloc ?_ _) | (with_reducible refine RdAt.drewN ?_ _) | (with_reducible refine RdAt.drew ?_) | (with_reducible refine RdAt.setO ?_ (by first | assumption | omega) _ _) | (with_reducible refine RdAt.kept ?_ (by assumption))))
    | @namCall _ _ _ _ ts' es h1 h2 =>
      have hno : ¬ Sg c [91] := fun h => absurd (h.2.symm.trans h1.2) (by decide)
      have hg1 : ¬ Sg c (⟨#[91]⟩ : ByteArray).data.toList := hno
      have hg2 : Sg c (⟨#[40]⟩ : ByteArray).data.toList := h1
      have hIH2 : Hid (Snd JunkL rb g cap mb bx ws 133 #[.pointer (some ⟨rb, 0, none⟩)] o (c :: ts) (.okL es ts')) := Lib.hid (HI.out .giv _ _ _ h2 hsc.out hfc.out (by rintro w' t' e; cases e; exact h1.1) ho (by first | (simp [Job.wt]; done) | (simp [Job.wt]; omega)))
      clear HP HI h1 h2 hno
      go_wp2_with (first
        | (go_at_call 132; (with_reducible refine (is_noS rb g cap mb ws k c o bad at' _ _ hRX.out hg1).mono ?_); rintro e' w3 ⟨rfl, hb3⟩; have BR3 := Lib.hid (BR.out.stay hb3); have BN3 := Lib.hid (BN.out.stay hb3); have hF3 := hFX.stepB hb3; have hz3 := hb3.size)
        | (go_at_call 132; (with_reducible refine (is_yesS rb g cap mb ws k c o bad at' _ _ (hRX.out.kept hb3) hg2).mono ?_); rintro e' w4 ⟨rfl, hb4⟩; have BR4 := Lib.hid (BR3.out.stay hb4); have BN4 := Lib.hid (BN3.out.stay hb4); have hF4 := hF3.stepB hb4; have hz4 := hb4.size; obtain ⟨bln, c0n, c1n, c2n, c3n, c4n, c5n, f0n, f1n, f2n, f3n, f4n, f5n⟩ := (BN4.out).facts)
        | (go_at_call 133; (with_reducible refine (hIH2.out.okL _ bad at' (EE.out.kept (by (repeat (first | (with_reducible exact Fr.refl _ _) | (with_reducible refine Fr.alloc ?_ _) | (with_reducible refine Fr.drewN ?_ _) | (with_reducible refine Fr.drew ?_) | (with_reducible refine Fr.set ?_ ?_ _ _; rotate_left; first | exact .inl rfl | (right; simp; done) | (right; simp; omega) | (right; omega)) | (with_reducible refine Fr.step ?_ (by assumption)) | (with_reducible refine Fr.stepB ?_ (by assumption)))))) (by (unfold StAt; rw [← HK.out]; (repeat (first | (with_reducible exact (hRX.out.rd)) | (with_reducible refine RdAt.alloc ?_ _) | (with_reducible refine RdAt.drewN ?_ _) | (with_reducible refine RdAt.drew ?_) | (with_reducible refine RdAt.setO ?_ (by first | assumption | omega) _ _) | (with_reducible refine RdAt.kept ?_ (by assumption))))))).mono ?_); rintro e' w5 ⟨hf5, p5, l5, c5, hx5, rfl, bad5, at5, hs5⟩; have hz5 := Fr.size hf5; (try simp at hz5); have BR5 : Hid (Blk w5 W.heap.size (.int .i64 0) (.int .i64 0) (.int .i64 0) (.string ⟨#[]⟩) (.slice none 0 0) (.int .i64 0)) := Lib.hid (Blk.fr (by ((repeat (first | (with_reducible exact BR4.out) | (with_reducible refine Blk.alloc ?_ _) | (with_reducible refine Blk.drewN ?_ _) | (with_reducible refine Blk.drew ?_) | (with_reducible refine Blk.setO ?_ ?_ _ _; rotate_left; first | assumption | omega | (simp; omega)) | (with_reducible refine Blk.fr ?_ (by assumption) (by first | assumption | omega)) | (with_reducible refine Blk.stay ?_ (by assumption)))))) hf5 hnb2); have BN5 : Hid (Blk w5 n (.int .i64 7) (.int .i64 0) (.int .i64 0) (.string (bstr w.t)) (.slice none 0 0) (.int .i64 w.a)) := Lib.hid (Blk.fr (by ((repeat (first | (with_reducible exact (BN4.out.set0 _)) | (with_reducible refine Blk.alloc ?_ _) | (with_reducible refine Blk.drewN ?_ _) | (with_reducible refine Blk.drew ?_) | (with_reducible refine Blk.setO ?_ ?_ _ _; rotate_left; first | assumption | omega | (simp; omega)) | (with_reducible refine Blk.fr ?_ (by assumption) (by first | assumption | omega)) | (with_reducible refine Blk.stay ?_ (by assumption)))))) hf5 hnr); obtain ⟨blr, c0r, c1r, c2r, c3r, c4r, c5r, f0r, f1r, f2r, f3r, f4r, f5r⟩ := (BR5.out).facts; obtain ⟨bln, c0n, c1n, c2n, c3n, c4n, c5n, f0n, f1n, f2n, f3n, f4n, f5n⟩ := (BN5.out).facts))
      have hn4 : n < w4.heap.size := (BN4.out.facts).1
      refine bodyPost_ret (results_blk (n := W.heap.size) (v0 := .int .i64 7) (v1 := .int .i64 0) (v2 := .int .i64 0) (v3 := .string (bstr w.t)) (v4 := (.slice p5 l5 c5)) (v5 := .int .i64 w.a) Tryz.results103 _ _ rfl rfl (by (try with_reducible refine Blk.drew ?_); (try with_reducible refine Blk.drewN ?_ _); with_reducible exact ((BR5.out.setO hnW' 4 _).all _ _ _ _ _ _))) rfl ⟨by (repeat (first | (with_reducible exact Fr.refl _ _) | (with_reducible refine Fr.alloc ?_ _) | (with_reducible refine Fr.drewN ?_ _) | (with_reducible refine Fr.drew ?_) | (with_reducible refine Fr.set ?_ ?_ _ _; rotate_left; first | exact .inl rfl | (right; simp; done) | (right; simp; omega) | (right; omega)) | (with_reducible refine Fr.step ?_ (by assumption)) | (with_reducible refine Fr.stepB ?_ (by assumption)))), ?_⟩
      refine ended_ok (x := .mk 7 0 0 w.t es w.a) (bad := bad5) (at' := at5) ?_ ?_
      · refine IsEx.low (lo := w4.heap.size) ?_ (by omega)
        refine IsEx.recast (k := 0) (o := 0) (n := 0) (nm := []) (a := 0) ?_
        (repeat (first | (with_reducible exact hx5) | (with_reducible exact hx5.low (by simp)) | (with_reducible refine IsEx.drew ?_) | (with_reducible refine IsEx.drewN ?_ _) | (with_reducible refine IsEx.set ?_ ?_ _ _; rotate_left; (first | omega | (simp; omega)))))
      · unfold StAt
        (repeat (first | (with_reducible exact hs5) | (with_reducible refine RdAt.alloc ?_ _) | (with_reducible refine RdAt.drewN ?_ _) | (with_reducible refine RdAt.drew ?_) | (with_reducible refine RdAt.setO ?_ (by first | assumption | omega) _ _) | (with_reducible refine RdAt.kept ?_ (by assumption))))
    | @namCallBad _ _ _ _ ec ea h1 h2 =>
      have hno : ¬ Sg c [91] := fun h => absurd (h.2.symm.trans h1.2) (by decide)
      have hg1 : ¬ Sg c (⟨#[91]⟩ : ByteArray).data.toList := hno
      have hg2 : Sg c (⟨#[40]⟩ : ByteArray).data.toList := h1
      have hIH2 : Hid (Snd JunkL rb g cap mb bx ws 133 #[.pointer (some ⟨rb, 0, none⟩)] o (c :: ts) (.bad ec ea)) := Lib.hid (HI.out .giv _ _ _ h2 hsc.out hfc.out (by rintro w' t' e; cases e; exact h1.1) ho (by first | (simp [Job.wt]; done) | (simp [Job.wt]; omega)))
      clear HP HI h1 h2 hno
      go_wp2_with (first
        | (go_at_call 132; (with_reducible refine (is_noS rb g cap mb ws k c o bad at' _ _ hRX.out hg1).mono ?_); rintro e' w3 ⟨rfl, hb3⟩; have BR3 := Lib.hid (BR.out.stay hb3); have BN3 := Lib.hid (BN.out.stay hb3); have hF3 := hFX.stepB hb3; have hz3 := hb3.size)
        | (go_at_call 132; (with_reducible refine (is_yesS rb g cap mb ws k c o bad at' _ _ (hRX.out.kept hb3) hg2).mono ?_); rintro e' w4 ⟨rfl, hb4⟩; have BR4 := Lib.hid (BR3.out.stay hb4); have BN4 := Lib.hid (BN3.out.stay hb4); have hF4 := hF3.stepB hb4; have hz4 := hb4.size; obtain ⟨bln, c0n, c1n, c2n, c3n, c4n, c5n, f0n, f1n, f2n, f3n, f4n, f5n⟩ := (BN4.out).facts)
        | (go_at_call 133; (with_reducible refine (hIH2.out.bad _ bad at' (EE.out.kept (by (repeat (first | (with_reducible exact Fr.refl _ _) | (with_reducible refine Fr.alloc ?_ _) | (with_reducible refine Fr.drewN ?_ _) | (with_reducible refine Fr.drew ?_) | (with_reducible refine Fr.set ?_ ?_ _ _; rotate_left; first | exact .inl rfl | (right; simp; done) | (right; simp; omega) | (right; omega)) | (with_reducible refine Fr.step ?_ (by assumption)) | (with_reducible refine Fr.stepB ?_ (by assumption)))))) (by (unfold StAt; rw [← HK.out]; (repeat (first | (with_reducible exact (hRX.out.rd)) | (with_reducible refine RdAt.alloc ?_ _) | (with_reducible refine RdAt.drewN ?_ _) | (with_reducible refine RdAt.drew ?_) | (with_reducible refine RdAt.setO ?_ (by first | assumption | omega) _ _) | (with_reducible refine RdAt.kept ?_ (by assumption))))))).mono ?_); rintro e' w5 ⟨hf5, ⟨jv, rfl, jp, jl, jc, rfl⟩, nx, oq, hs5⟩; have hz5 := Fr.size hf5; (try simp at hz5); have BR5 : Hid (Blk w5 W.heap.size (.int .i64 0) (.int .i64 0) (.int .i64 0) (.string ⟨#[]⟩) (.slice none 0 0) (.int .i64 0)) := Lib.hid (Blk.fr (by ((repeat (first | (with_reducible exact BR4.out) | (with_reducible refine Blk.alloc ?_ _) | (with_reducible refine Blk.drewN ?_ _) | (with_reducible refine Blk.drew ?_) | (with_reducible refine Blk.setO ?_ ?_ _ _; rotate_left; first | assumption | omega | (simp; omega)) | (with_reducible refine Blk.fr ?_ (by assumption) (by first | assumption | omega)) | (with_reducible refine Blk.stay ?_ (by assumption)))))) hf5 hnb2); have BN5 : Hid (Blk w5 n (.int .i64 7) (.int .i64 0) (.int .i64 0) (.string (bstr w.t)) (.slice none 0 0) (.int .i64 w.a)) := Lib.hid (Blk.fr (by ((repeat (first | (with_reducible exact (BN4.out.set0 _)) | (with_reducible refine Blk.alloc ?_ _) | (with_reducible refine Blk.drewN ?_ _) | (with_reducible refine Blk.drew ?_) | (with_reducible refine Blk.setO ?_ ?_ _ _; rotate_left; first | assumption | omega | (simp; omega)) | (with_reducible refine Blk.fr ?_ (by assumption) (by first | assumption | omega)) | (with_reducible refine Blk.stay ?_ (by assumption)))))) hf5 hnr); obtain ⟨blr, c0r, c1r, c2r, c3r, c4r, c5r, f0r, f1r, f2r, f3r, f4r, f5r⟩ := (BR5.out).facts; obtain ⟨bln, c0n, c1n, c2n, c3n, c4n, c5n, f0n, f1n, f2n, f3n, f4n, f5n⟩ := (BN5.out).facts))
      have hn4 : n < w4.heap.size := (BN4.out.facts).1
      refine bodyPost_ret (results_blk (n := W.heap.size) (v0 := .int .i64 7) (v1 := .int .i64 0) (v2 := .int .i64 0) (v3 := .string (bstr w.t)) (v4 := (.slice jp jl jc)) (v5 := .int .i64 w.a) Tryz.results103 _ _ rfl rfl (by (try with_reducible refine Blk.drew ?_); (try with_reducible refine Blk.drewN ?_ _); with_reducible exact ((BR5.out.setO hnW' 4 _).all _ _ _ _ _ _))) rfl ⟨by (repeat (first | (with_reducible exact Fr.refl _ _) | (with_reducible refine Fr.alloc ?_ _) | (with_reducible refine Fr.drewN ?_ _) | (with_reducible refine Fr.drew ?_) | (with_reducible refine Fr.set ?_ ?_ _ _; rotate_left; first | exact .inl rfl | (right; simp; done) | (right; simp; omega) | (right; omega)) | (with_reducible refine Fr.step ?_ (by assumption)) | (with_reducible refine Fr.stepB ?_ (by assumption)))), ?_⟩
      refine ended_bad (nx := nx) (op := oq) (Junk.of _ _ _ _ _ _ _ _) ?_
      (repeat (first | (with_reducible exact hs5) | (with_reducible refine RdAt.alloc ?_ _) | (with_reducible refine RdAt.drewN ?_ _) | (with_reducible refine RdAt.drew ?_) | (with_reducible refine RdAt.setO ?_ (by first | assumption | omega) _ _) | (with_reducible refine RdAt.kept ?_ (by assumption))))
end Go.Proofs.YtngfbpmabdmkeaaGreatDoor
