/- expr.Of: a text's expression, or its error. -/
import Derived.Test.YtngfbpmabdmkeaaGreatDoorAll
import Derived.Test.YtngfbpmabdmkeaaGreatDoorParse
import Derived.Test.YtngfbpmabdmkeaaGreatDoorTot
namespace Go.Proofs.YtngfbpmabdmkeaaGreatDoor
open Go Go.RowKit

theorem own_wcells {w : World} {B : Nat} {v : Value} {Wf : List Wd} (h : w.ownsRow B 68 4 v Wf.length (cellsW Wf)) (h0 : 0 < Wf.length) : ∃ g cap, v = .slice (some ⟨g, 0, none⟩) Wf.length cap ∧ WCells w g Wf ∧ B ≤ g := by
  rcases h.2 with ⟨h1, h2⟩ | ⟨g, cap, cur, hv, hB, hg, rest⟩
  · omega
  · subst hv
    exact ⟨g, cap, rfl, ⟨(Array.getElem?_eq_some_iff.1 hg).1, fun i x hx => row_at h hx⟩, hB⟩

theorem P.code {o : Nat} {j : Job} {ts : List Wd} {r : Res} (h : P o j ts r) : ∀ c a, r = .bad c a → c = 2 ∨ c = 11 := by
  induction h with
  | num | tru | fls | behOk | wthOk | namVar | namElem | namCall | givNone | givSome | lstEnd | loopEnd => intro c a e; cases e
  | stray | wthNo | givNo => intro c a e; cases e; exact .inr rfl
  | behLim | wthLim | givLim => intro c a e; cases e; exact .inl rfl
  | neg _ _ ih | not _ _ ih | par _ _ ih | name _ _ _ ih => exact ih
  | behBad _ _ ih | wthBad _ _ ih | namElemBad _ _ ih | namCallBad _ _ ih | givBad _ _ _ ih | lstBad _ ih | exprBad _ ih | loopBad _ _ ih => intro c a e; cases e; exact ih _ _ rfl
  | lstMore _ _ _ _ ih => exact ih
  | expr _ _ _ ih => exact ih
  | loopMore _ _ _ _ ih => exact ih

theorem parse_full (g cap m : Nat) (ws : List Wd) (hm : m = ws.length) (r : Res) (w : World) (L : Laid w) (H : WordsAt w g ws) (hP : P 0 (.expr 1) ws r) :
    Calls Tryz.prog 26 #[.slice (some ⟨g, 0, none⟩) m cap, .int .i64 0] w fun e w' => ParseEnd w.heap.size ws r e w' ∧ Below w.heap.size w w' :=
  parse_any g cap m ws (Lib.hid hm) r w (Lib.hid L) (Lib.hid H) (Lib.hid hP) fun rb mb bx =>
    all_methods rb g cap mb bx ws H.2.2.1 (4 * ws.length + 3) (.expr 1) 0 ws r hP (List.suffix_refl _) H.2.2.2 (by simp [Job.may]) (by omega) (by simp [Job.wt])

theorem words_ok (s : ByteArray) (w : World) (L : Laid w) (hs : s.size ≤ 16384) (ws : List Wd) (n : Nat) (hn : n = ws.length) (hS : Sc numO s.data.toList 0 ws none) :
    Calls Tryz.prog 25 #[.string s] w fun e w' => ∃ g cap, e = .returned (.tuple #[.slice (some ⟨g, 0, none⟩) n cap, .int .i64 0, .int .i64 0]) ∧ Below w.heap.size w w' ∧ WordsAt w' g ws ∧ w.heap.size ≤ g :=
  (words_any s w (Lib.hid L) hs ws none (Lib.hid hS)).mono fun e w' ⟨⟨v, h1, h2⟩, h3⟩ => by
    have hsz : s.data.toList.length = s.size := by simp
    have hF := hS.fin rfl
    obtain ⟨x, t, hx⟩ := hF.ne
    obtain ⟨g, cap, rfl, hc, hgB⟩ := own_wcells h2 (by rw [hx]; simp)
    refine ⟨g, cap, by rw [h1, hn], h3, ⟨hc, ?_, fun y hy => ?_, hF⟩, hgB⟩
    · have := hS.few rfl
      omega
    · have := hS.short y hy
      omega
theorem words_bad (s : ByteArray) (w : World) (L : Laid w) (hs : s.size ≤ 16384) (ws : List Wd) (c : Int) (a : Nat) (hS : Sc numO s.data.toList 0 ws (some (c, a))) :
    Calls Tryz.prog 25 #[.string s] w fun e w' => e = .returned (.tuple #[.slice none 0 0, .int .i64 c, .int .i64 a]) ∧ Below w.heap.size w w' :=
  (words_any s w (Lib.hid L) hs ws _ (Lib.hid hS)).mono fun e w' h => h

/-- How Of ends. -/
def OfEnd (lo : Nat) : Out → Ending → World → Prop
  | .ok x, e, w' => ∃ p l c, IsEx lo w' x (.slice p l c) ∧ e = .returned (.tuple #[exVal x (.slice p l c), .int .i64 0, .int .i64 0])
  | .bad c a, e, _ => e = .returned (.tuple #[exV 0 0 0 ⟨#[]⟩ (.slice none 0 0) 0, .int .i64 c, .int .i64 a])

theorem WordsAt.kept {W X : World} {g : Nat} {ws : List Wd} (H : WordsAt W g ws) (hb : Below W.heap.size W X) : WordsAt X g ws :=
  ⟨H.1.kept (fun k e => hb.block k (by rw [e]; exact H.1.lt)) hb.size, H.2⟩
theorem pars_ok (g cap m k : Nat) (ws : List Wd) (hm : m = ws.length) (x : Ex) (ts' : List Wd) (hk : k = ws.length - ts'.length) (w : World) (L : Laid w) (H : WordsAt w g ws) (hP : P 0 (.expr 1) ws (.ok x ts')) :
    Calls Tryz.prog 26 #[.slice (some ⟨g, 0, none⟩) m cap, .int .i64 0] w fun e w' => ∃ p l c, e = .returned (.tuple #[exVal x (.slice p l c), .int .i64 (k : Nat), .int .i64 0, .int .i64 0]) ∧ IsEx w.heap.size w' x (.slice p l c) ∧ Below w.heap.size w w' :=
  (parse_full g cap m ws hm _ w L H hP).mono fun e w' ⟨⟨p, l, c, h1, h2⟩, h3⟩ => ⟨p, l, c, by rw [h2, hk], h1, h3⟩
theorem pars_bad (g cap m : Nat) (ws : List Wd) (hm : m = ws.length) (c : Int) (a : Nat) (w : World) (L : Laid w) (H : WordsAt w g ws) (hP : P 0 (.expr 1) ws (.bad c a)) :
    Calls Tryz.prog 26 #[.slice (some ⟨g, 0, none⟩) m cap, .int .i64 0] w fun e w' => e = .returned (.tuple #[.agg #[.int .i64 0, .int .i64 0, .int .i64 0, .string ⟨#[]⟩, .slice none 0 0, .int .i64 0], .int .i64 0, .int .i64 c, .int .i64 a]) ∧ Below w.heap.size w w' :=
  (parse_full g cap m ws hm _ w L H hP).mono fun e w' ⟨h1, h3⟩ => ⟨h1, h3⟩
theorem results_blk3 {n : Nat} {X : World} {v0 v1 v2 v3 v4 v5 : Value} {fn : Func} {p q r : Tmp} (hfn : fn.results = #[.cell p 25, .tmp q, .tmp r]) (tmps : Array Value) (u u' : Value) (hp : tmps.getD p undef = .pointer (some ⟨n, 0, none⟩)) (hq : tmps.getD q undef = u) (hr : tmps.getD r undef = u') (h : Blk X n v0 v1 v2 v3 v4 v5) :
    (results fn tmps).run Tryz.prog X = .ok (.tuple #[.agg #[v0, v1, v2, v3, v4, v5], u, u']) X := by
  have hp' : tmps[p]?.getD undef = .pointer (some ⟨n, 0, none⟩) := by simpa using hp
  have hq' : tmps[q]?.getD undef = u := by simpa using hq
  have hr' : tmps[r]?.getD undef = u' := by simpa using hr
  simp [results, hfn, hp', hq', hr', asAddr, run_loadVar_row X n 25 25 _ (0, 0) _ h Tryz.underlying25 rfl (by kernel_rfl)]

set_option maxRecDepth 100000 in
set_option maxHeartbeats 4000000 in
theorem of_any (s : ByteArray) (hs : s.size ≤ 16384) (r : Out) (w : World) (L : Hid (Laid w)) (hR : Hid (OfR s.data.toList r)) :
    Calls Tryz.prog 10 #[.string s] w fun e w' => OfEnd w.heap.size r e w' ∧ Below w.heap.size w w' := by
  cases hR.out with
  | @lex ws c a hS =>
    have hc : (c == 0) = false := by (have := hS.bad_code _ _ rfl; simp; omega)
    have HS := Lib.hid hS
    clear hR hS
    go_enter Tryz.func10, Tryz.ntmps10
    go_wp2_with (first
      | (go_at_call 25; (with_reducible refine (words_bad s _ (L.out.below (by (refine Fr.below ?_; (repeat (first | (with_reducible exact Fr.refl _ _) | (with_reducible refine Fr.alloc ?_ _) | (with_reducible refine Fr.drewN ?_ _) | (with_reducible refine Fr.drew ?_) | (with_reducible refine Fr.set ?_ ?_ _ _; rotate_left; first | exact .inl rfl | (right; simp; done) | (right; simp; omega) | (right; omega)) | (with_reducible refine Fr.step ?_ (by assumption)) | (with_reducible refine Fr.stepB ?_ (by assumption))))))) hs ws c a HS.out).mono ?_); rintro e' w1 ⟨rfl, hb1⟩; have hz1 := hb1.size; (try simp at hz1); have BR1 : Hid (Blk w1 w.heap.size (.int .i64 0) (.int .i64 0) (.int .i64 0) (.string ⟨#[]⟩) (.slice none 0 0) (.int .i64 0)) := Lib.hid ((Blk.new rfl (.int .i64 0) (.int .i64 0) (.int .i64 0) (.string ⟨#[]⟩) (.slice none 0 0) (.int .i64 0)).stay hb1); obtain ⟨blr, c0r, c1r, c2r, c3r, c4r, c5r, f0r, f1r, f2r, f3r, f4r, f5r⟩ := (BR1.out).facts))
    all_goals refine bodyPost_ret (results_blk3 (n := w.heap.size) (v0 := .int .i64 0) (v1 := .int .i64 0) (v2 := .int .i64 0) (v3 := .string ⟨#[]⟩) (v4 := .slice none 0 0) (v5 := .int .i64 0) Tryz.results10 _ (.int .i64 c) (.int .i64 a) rfl rfl rfl (by (repeat (first | (with_reducible refine Blk.drew ?_) | (with_reducible refine Blk.drewN ?_ _) | (with_reducible refine Blk.alloc ?_ _))); with_reducible exact BR1.out.all _ _ _ _ _ _)) rfl ⟨?_, by (refine Fr.below ?_; (repeat (first | (with_reducible exact Fr.refl _ _) | (with_reducible refine Fr.alloc ?_ _) | (with_reducible refine Fr.drewN ?_ _) | (with_reducible refine Fr.drew ?_) | (with_reducible refine Fr.set ?_ ?_ _ _; rotate_left; first | exact .inl rfl | (right; simp; done) | (right; simp; omega) | (right; omega)) | (with_reducible refine Fr.step ?_ (by assumption)) | (with_reducible refine Fr.stepB ?_ (by assumption)))))⟩
    all_goals rfl
  | @bad ws c a hS hP =>
    have hc : (c == 0) = false := by (have := hP.code _ _ rfl; simp; omega)
    have HS := Lib.hid hS
    have HP := Lib.hid hP
    obtain ⟨m, hm'⟩ : ∃ m, m = ws.length := ⟨_, rfl⟩
    have hm := Lib.hid hm'
    clear hR hS hP hm'
    go_enter Tryz.func10, Tryz.ntmps10
    go_wp2_with (first
      | (go_at_call 25; (with_reducible refine (words_ok s _ (L.out.below (by (refine Fr.below ?_; (repeat (first | (with_reducible exact Fr.refl _ _) | (with_reducible refine Fr.alloc ?_ _) | (with_reducible refine Fr.drewN ?_ _) | (with_reducible refine Fr.drew ?_) | (with_reducible refine Fr.set ?_ ?_ _ _; rotate_left; first | exact .inl rfl | (right; simp; done) | (right; simp; omega) | (right; omega)) | (with_reducible refine Fr.step ?_ (by assumption)) | (with_reducible refine Fr.stepB ?_ (by assumption))))))) hs ws m hm.out HS.out).mono ?_); rintro e' w1 ⟨g, cap, rfl, hb1, hw1, hgB⟩; (try simp at hgB); (have hgn : g ≠ w.heap.size := by omega); have hgn' := hgn.symm; have hz1 := hb1.size; (try simp at hz1); have HW1 := Lib.hid hw1; have BR1 : Hid (Blk w1 w.heap.size (.int .i64 0) (.int .i64 0) (.int .i64 0) (.string ⟨#[]⟩) (.slice none 0 0) (.int .i64 0)) := Lib.hid ((Blk.new rfl (.int .i64 0) (.int .i64 0) (.int .i64 0) (.string ⟨#[]⟩) (.slice none 0 0) (.int .i64 0)).stay hb1); obtain ⟨blr, c0r, c1r, c2r, c3r, c4r, c5r, f0r, f1r, f2r, f3r, f4r, f5r⟩ := (BR1.out).facts)
      | (go_at_call 26; (with_reducible refine (pars_bad g cap m ws hm.out c a _ (L.out.below (by (refine Fr.below ?_; (repeat (first | (with_reducible exact Fr.refl _ _) | (with_reducible refine Fr.alloc ?_ _) | (with_reducible refine Fr.drewN ?_ _) | (with_reducible refine Fr.drew ?_) | (with_reducible refine Fr.set ?_ ?_ _ _; rotate_left; first | exact .inl rfl | (right; simp; done) | (right; simp; omega) | (right; omega)) | (with_reducible refine Fr.step ?_ (by assumption)) | (with_reducible refine Fr.stepB ?_ (by assumption))))))) (HW1.out.kept (by (refine Fr.below ?_; (repeat (first | (with_reducible exact Fr.refl _ _) | (with_reducible refine Fr.alloc ?_ _) | (with_reducible refine Fr.drewN ?_ _) | (with_reducible refine Fr.drew ?_) | (with_reducible refine Fr.set ?_ ?_ _ _; rotate_left; first | exact .inl rfl | (right; simp; done) | (right; simp; omega) | (right; omega)) | (with_reducible refine Fr.step ?_ (by assumption)) | (with_reducible refine Fr.stepB ?_ (by assumption))))))) HP.out).mono ?_); rintro e' w2 ⟨rfl, hb2⟩; have hz2 := hb2.size; (try simp at hz2); have BR2 : Hid (Blk w2 w.heap.size (.int .i64 0) (.int .i64 0) (.int .i64 0) (.string ⟨#[]⟩) (.slice none 0 0) (.int .i64 0)) := Lib.hid (by (repeat (first | (with_reducible exact BR1.out) | (with_reducible refine Blk.alloc ?_ _) | (with_reducible refine Blk.drewN ?_ _) | (with_reducible refine Blk.drew ?_) | (with_reducible refine Blk.setO ?_ ?_ _ _; rotate_left; first | assumption | omega | (simp; omega)) | (with_reducible refine Blk.fr ?_ (by assumption) (by first | assumption | omega)) | (with_reducible refine Blk.stay ?_ (by assumption))))); obtain ⟨blr, c0r, c1r, c2r, c3r, c4r, c5r, f0r, f1r, f2r, f3r, f4r, f5r⟩ := (BR2.out).facts))
    all_goals refine bodyPost_ret (results_blk3 (n := w.heap.size) (v0 := .int .i64 0) (v1 := .int .i64 0) (v2 := .int .i64 0) (v3 := .string ⟨#[]⟩) (v4 := .slice none 0 0) (v5 := .int .i64 0) Tryz.results10 _ (.int .i64 c) (.int .i64 a) rfl rfl rfl (by (repeat (first | (with_reducible refine Blk.drew ?_) | (with_reducible refine Blk.drewN ?_ _) | (with_reducible refine Blk.alloc ?_ _))); with_reducible exact BR2.out.all _ _ _ _ _ _)) rfl ⟨?_, by (refine Fr.below ?_; (repeat (first | (with_reducible exact Fr.refl _ _) | (with_reducible refine Fr.alloc ?_ _) | (with_reducible refine Fr.drewN ?_ _) | (with_reducible refine Fr.drew ?_) | (with_reducible refine Fr.set ?_ ?_ _ _; rotate_left; first | exact .inl rfl | (right; simp; done) | (right; simp; omega) | (right; omega)) | (with_reducible refine Fr.step ?_ (by assumption)) | (with_reducible refine Fr.stepB ?_ (by assumption)))))⟩
    all_goals rfl
  | @stray ws ts d e hS hP hd =>
    have hd2 : (d.k == 3) = false := by simpa using hd
    clear hd
    have HS := Lib.hid hS
    have HP := Lib.hid hP
    obtain ⟨m, hm'⟩ : ∃ m, m = ws.length := ⟨_, rfl⟩
    obtain ⟨k, hk'⟩ : ∃ k, k = ws.length - (d :: ts).length := ⟨_, rfl⟩
    have hat := (suf_at hP.suf).1
    rw [← hk'] at hat
    have hkm : k < m := by rw [hm']; exact (List.getElem?_eq_some_iff.1 hat).1
    have hkm2 : (k : Int) < m := by omega
    have hdk := Lib.hid hat
    have hm := Lib.hid hm'
    have hk := Lib.hid hk'
    clear hR hS hP hm' hk' hat
    go_enter Tryz.func10, Tryz.ntmps10
    go_wp2_with (first
      | (go_at_call 25; (with_reducible refine (words_ok s _ (L.out.below (by (refine Fr.below ?_; (repeat (first | (with_reducible exact Fr.refl _ _) | (with_reducible refine Fr.alloc ?_ _) | (with_reducible refine Fr.drewN ?_ _) | (with_reducible refine Fr.drew ?_) | (with_reducible refine Fr.set ?_ ?_ _ _; rotate_left; first | exact .inl rfl | (right; simp; done) | (right; simp; omega) | (right; omega)) | (with_reducible refine Fr.step ?_ (by assumption)) | (with_reducible refine Fr.stepB ?_ (by assumption))))))) hs ws m hm.out HS.out).mono ?_); rintro e' w1 ⟨g, cap, rfl, hb1, hw1, hgB⟩; (try simp at hgB); (have hgn : g ≠ w.heap.size := by omega); have hgn' := hgn.symm; have hz1 := hb1.size; (try simp at hz1); have HW1 := Lib.hid hw1; have BR1 : Hid (Blk w1 w.heap.size (.int .i64 0) (.int .i64 0) (.int .i64 0) (.string ⟨#[]⟩) (.slice none 0 0) (.int .i64 0)) := Lib.hid ((Blk.new rfl (.int .i64 0) (.int .i64 0) (.int .i64 0) (.string ⟨#[]⟩) (.slice none 0 0) (.int .i64 0)).stay hb1); obtain ⟨blr, c0r, c1r, c2r, c3r, c4r, c5r, f0r, f1r, f2r, f3r, f4r, f5r⟩ := (BR1.out).facts)
      | (go_at_call 26; (with_reducible refine (pars_ok g cap m k ws hm.out e (d :: ts) hk.out _ (L.out.below (by (refine Fr.below ?_; (repeat (first | (with_reducible exact Fr.refl _ _) | (with_reducible refine Fr.alloc ?_ _) | (with_reducible refine Fr.drewN ?_ _) | (with_reducible refine Fr.drew ?_) | (with_reducible refine Fr.set ?_ ?_ _ _; rotate_left; first | exact .inl rfl | (right; simp; done) | (right; simp; omega) | (right; omega)) | (with_reducible refine Fr.step ?_ (by assumption)) | (with_reducible refine Fr.stepB ?_ (by assumption))))))) (HW1.out.kept (by (refine Fr.below ?_; (repeat (first | (with_reducible exact Fr.refl _ _) | (with_reducible refine Fr.alloc ?_ _) | (with_reducible refine Fr.drewN ?_ _) | (with_reducible refine Fr.drew ?_) | (with_reducible refine Fr.set ?_ ?_ _ _; rotate_left; first | exact .inl rfl | (right; simp; done) | (right; simp; omega) | (right; omega)) | (with_reducible refine Fr.step ?_ (by assumption)) | (with_reducible refine Fr.stepB ?_ (by assumption))))))) HP.out).mono ?_); rintro e' w2 ⟨p2, l2, c2, rfl, hx2, hb2⟩; have hz2 := hb2.size; (try simp at hz2); have BR2 : Hid (Blk w2 w.heap.size (.int .i64 0) (.int .i64 0) (.int .i64 0) (.string ⟨#[]⟩) (.slice none 0 0) (.int .i64 0)) := Lib.hid (by (repeat (first | (with_reducible exact BR1.out) | (with_reducible refine Blk.alloc ?_ _) | (with_reducible refine Blk.drewN ?_ _) | (with_reducible refine Blk.drew ?_) | (with_reducible refine Blk.setO ?_ ?_ _ _; rotate_left; first | assumption | omega | (simp; omega)) | (with_reducible refine Blk.fr ?_ (by assumption) (by first | assumption | omega)) | (with_reducible refine Blk.stay ?_ (by assumption))))); obtain ⟨blr, c0r, c1r, c2r, c3r, c4r, c5r, f0r, f1r, f2r, f3r, f4r, f5r⟩ := (BR2.out).facts; have HW2 : Hid (WordsAt w2 g ws) := Lib.hid (HW1.out.kept (by (refine Fr.below ?_; (repeat (first | (with_reducible exact Fr.refl _ _) | (with_reducible refine Fr.alloc ?_ _) | (with_reducible refine Fr.drewN ?_ _) | (with_reducible refine Fr.drew ?_) | (with_reducible refine Fr.set ?_ ?_ _ _; rotate_left; first | exact .inl rfl | (right; simp; done) | (right; simp; omega) | (right; omega)) | (with_reducible refine Fr.step ?_ (by assumption)) | (with_reducible refine Fr.stepB ?_ (by assumption))))))); obtain ⟨d0, d1, d2, d3⟩ := HW2.out.1.at_ k d hdk.out; have hgl := HW2.out.1.lt))
    go_region
    all_goals go_wp2
    all_goals refine bodyPost_ret (results_blk3 (n := w.heap.size) (v0 := .int .i64 0) (v1 := .int .i64 0) (v2 := .int .i64 0) (v3 := .string ⟨#[]⟩) (v4 := .slice none 0 0) (v5 := .int .i64 0) Tryz.results10 _ (.int .i64 11) (.int .i64 d.a) rfl rfl rfl (by (repeat (first | (with_reducible refine Blk.drew ?_) | (with_reducible refine Blk.drewN ?_ _) | (with_reducible refine Blk.alloc ?_ _))); with_reducible exact BR2.out.all _ _ _ _ _ _)) rfl ⟨?_, by (refine Fr.below ?_; (repeat (first | (with_reducible exact Fr.refl _ _) | (with_reducible refine Fr.alloc ?_ _) | (with_reducible refine Fr.drewN ?_ _) | (with_reducible refine Fr.drew ?_) | (with_reducible refine Fr.set ?_ ?_ _ _; rotate_left; first | exact .inl rfl | (right; simp; done) | (right; simp; omega) | (right; omega)) | (with_reducible refine Fr.step ?_ (by assumption)) | (with_reducible refine Fr.stepB ?_ (by assumption)))))⟩
    all_goals rfl
  | @ok ws ts d e hS hP hd =>
    have hd2 : (d.k == 3) = true := by simpa using hd
    clear hd
    have HS := Lib.hid hS
    have HP := Lib.hid hP
    obtain ⟨m, hm'⟩ : ∃ m, m = ws.length := ⟨_, rfl⟩
    obtain ⟨k, hk'⟩ : ∃ k, k = ws.length - (d :: ts).length := ⟨_, rfl⟩
    have hat := (suf_at hP.suf).1
    rw [← hk'] at hat
    have hkm : k < m := by rw [hm']; exact (List.getElem?_eq_some_iff.1 hat).1
    have hkm2 : (k : Int) < m := by omega
    have hdk := Lib.hid hat
    have hm := Lib.hid hm'
    have hk := Lib.hid hk'
    clear hR hS hP hm' hk' hat
    go_enter Tryz.func10, Tryz.ntmps10
    go_wp2_with (first
      | (go_at_call 25; (with_reducible refine (words_ok s _ (L.out.below (by (refine Fr.below ?_; (repeat (first | (with_reducible exact Fr.refl _ _) | (with_reducible refine Fr.alloc ?_ _) | (with_reducible refine Fr.drewN ?_ _) | (with_reducible refine Fr.drew ?_) | (with_reducible refine Fr.set ?_ ?_ _ _; rotate_left; first | exact .inl rfl | (right; simp; done) | (right; simp; omega) | (right; omega)) | (with_reducible refine Fr.step ?_ (by assumption)) | (with_reducible refine Fr.stepB ?_ (by assumption))))))) hs ws m hm.out HS.out).mono ?_); rintro e' w1 ⟨g, cap, rfl, hb1, hw1, hgB⟩; (try simp at hgB); (have hgn : g ≠ w.heap.size := by omega); have hgn' := hgn.symm; have hz1 := hb1.size; (try simp at hz1); have HW1 := Lib.hid hw1; have BR1 : Hid (Blk w1 w.heap.size (.int .i64 0) (.int .i64 0) (.int .i64 0) (.string ⟨#[]⟩) (.slice none 0 0) (.int .i64 0)) := Lib.hid ((Blk.new rfl (.int .i64 0) (.int .i64 0) (.int .i64 0) (.string ⟨#[]⟩) (.slice none 0 0) (.int .i64 0)).stay hb1); obtain ⟨blr, c0r, c1r, c2r, c3r, c4r, c5r, f0r, f1r, f2r, f3r, f4r, f5r⟩ := (BR1.out).facts)
      | (go_at_call 26; (with_reducible refine (pars_ok g cap m k ws hm.out e (d :: ts) hk.out _ (L.out.below (by (refine Fr.below ?_; (repeat (first | (with_reducible exact Fr.refl _ _) | (with_reducible refine Fr.alloc ?_ _) | (with_reducible refine Fr.drewN ?_ _) | (with_reducible refine Fr.drew ?_) | (with_reducible refine Fr.set ?_ ?_ _ _; rotate_left; first | exact .inl rfl | (right; simp; done) | (right; simp; omega) | (right; omega)) | (with_reducible refine Fr.step ?_ (by assumption)) | (with_reducible refine Fr.stepB ?_ (by assumption))))))) (HW1.out.kept (by (refine Fr.below ?_; (repeat (first | (with_reducible exact Fr.refl _ _) | (with_reducible refine Fr.alloc ?_ _) | (with_reducible refine Fr.drewN ?_ _) | (with_reducible refine Fr.drew ?_) | (with_reducible refine Fr.set ?_ ?_ _ _; rotate_left; first | exact .inl rfl | (right; simp; done) | (right; simp; omega) | (right; omega)) | (with_reducible refine Fr.step ?_ (by assumption)) | (with_reducible refine Fr.stepB ?_ (by assumption))))))) HP.out).mono ?_); rintro e' w2 ⟨p2, l2, c2, rfl, hx2, hb2⟩; have hz2 := hb2.size; (try simp at hz2); have BR2 : Hid (Blk w2 w.heap.size (.int .i64 0) (.int .i64 0) (.int .i64 0) (.string ⟨#[]⟩) (.slice none 0 0) (.int .i64 0)) := Lib.hid (by (repeat (first | (with_reducible exact BR1.out) | (with_reducible refine Blk.alloc ?_ _) | (with_reducible refine Blk.drewN ?_ _) | (with_reducible refine Blk.drew ?_) | (with_reducible refine Blk.setO ?_ ?_ _ _; rotate_left; first | assumption | omega | (simp; omega)) | (with_reducible refine Blk.fr ?_ (by assumption) (by first | assumption | omega)) | (with_reducible refine Blk.stay ?_ (by assumption))))); obtain ⟨blr, c0r, c1r, c2r, c3r, c4r, c5r, f0r, f1r, f2r, f3r, f4r, f5r⟩ := (BR2.out).facts; have HW2 : Hid (WordsAt w2 g ws) := Lib.hid (HW1.out.kept (by (refine Fr.below ?_; (repeat (first | (with_reducible exact Fr.refl _ _) | (with_reducible refine Fr.alloc ?_ _) | (with_reducible refine Fr.drewN ?_ _) | (with_reducible refine Fr.drew ?_) | (with_reducible refine Fr.set ?_ ?_ _ _; rotate_left; first | exact .inl rfl | (right; simp; done) | (right; simp; omega) | (right; omega)) | (with_reducible refine Fr.step ?_ (by assumption)) | (with_reducible refine Fr.stepB ?_ (by assumption))))))); obtain ⟨d0, d1, d2, d3⟩ := HW2.out.1.at_ k d hdk.out; have hgl := HW2.out.1.lt))
    all_goals refine bodyPost_ret (results_blk3 (n := w.heap.size) (v0 := .int .i64 e.k) (v1 := .int .i64 e.op) (v2 := .int .i64 e.n) (v3 := .string (bstr e.nm)) (v4 := .slice p2 l2 c2) (v5 := .int .i64 e.a) Tryz.results10 _ (.int .i64 0) (.int .i64 0) rfl rfl rfl (by (repeat (first | (with_reducible refine Blk.drew ?_) | (with_reducible refine Blk.drewN ?_ _) | (with_reducible refine Blk.alloc ?_ _))); with_reducible exact BR2.out.all _ _ _ _ _ _)) rfl ⟨?_, by (refine Fr.below ?_; (repeat (first | (with_reducible exact Fr.refl _ _) | (with_reducible refine Fr.alloc ?_ _) | (with_reducible refine Fr.drewN ?_ _) | (with_reducible refine Fr.drew ?_) | (with_reducible refine Fr.set ?_ ?_ _ _; rotate_left; first | exact .inl rfl | (right; simp; done) | (right; simp; omega) | (right; omega)) | (with_reducible refine Fr.step ?_ (by assumption)) | (with_reducible refine Fr.stepB ?_ (by assumption)))))⟩
    all_goals
      refine ⟨p2, l2, c2, ?_, rfl⟩
      refine IsEx.low (lo := w1.heap.size) ?_ (by omega)
      (repeat (first | (with_reducible exact hx2) | (with_reducible refine IsEx.alloc ?_ _) | (with_reducible refine IsEx.drewN ?_ _) | (with_reducible refine IsEx.drew ?_) | (with_reducible refine IsEx.set ?_ ?_ _ _; rotate_left; first | omega | (simp; done) | (simp; omega)) | (with_reducible refine IsEx.fr ?_ (by assumption) (by omega)) | (with_reducible refine IsEx.stay ?_ (by assumption))))
end Go.Proofs.YtngfbpmabdmkeaaGreatDoor
