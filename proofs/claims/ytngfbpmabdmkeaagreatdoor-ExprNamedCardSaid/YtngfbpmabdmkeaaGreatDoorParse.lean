/- expr.Parse, of words from the first one on. -/
import Derived.Test.YtngfbpmabdmkeaaGreatDoorExP
import Derived.Test.YtngfbpmabdmkeaaGreatDoorNewW
namespace Go.Proofs.YtngfbpmabdmkeaaGreatDoor
open Go Go.RowKit

/-- A row of words that is read: as expr.Parse meets it. -/
def WordsAt (W : World) (g : Nat) (ws : List Wd) : Prop := WCells W g ws ∧ ws.length < 1000000 ∧ (∀ x ∈ ws, x.t.length ≤ 100000) ∧ Fin ws

/-- How Parse ends. -/
def ParseEnd (lo : Nat) (ws : List Wd) : Res → Ending → World → Prop
  | .ok x ts', e, w' => ∃ p l c, IsEx lo w' x (.slice p l c) ∧ e = .returned (.tuple #[exVal x (.slice p l c), .int .i64 ((ws.length - ts'.length : Nat) : Int), .int .i64 0, .int .i64 0])
  | .bad c a, e, _ => e = .returned (.tuple #[exV 0 0 0 ⟨#[]⟩ (.slice none 0 0) 0, .int .i64 0, .int .i64 c, .int .i64 a])
  | .okL _ _, _, _ => False

/-- What a new reader stands on. -/
theorem env_new {g cap mb bx rb : Nat} {ws : List Wd} {w w1 : World} (L : Laid w) (H : WordsAt w g ws) (hB : Below w.heap.size w w1) (hm : BegMap w1 mb bx) (hx : w1.heap[bx]? = some (.cells #[.pointer (some ⟨rb, 0, none⟩)] 118 (0, 0))) (hn : w.heap.size ≤ rb ∧ mb ≠ rb ∧ bx ≠ rb) :
    Env rb g cap mb bx ws w1 where
  wc := H.1.kept (fun k e => hB.block k (by rw [e]; exact H.1.lt)) hB.size
  map := hm
  box := hx
  ne1 := by have := H.1.lt; omega
  ne2 := hn.2.1
  ne3 := hn.2.2
  base := ⟨w, L, hB, hn.1⟩
  few := H.2.1
  long := H.2.2.1

theorem newReader_at (g n cap b : Nat) (w : World) (hb : b = w.heap.size) :
    Calls Tryz.prog 54 #[.slice (some ⟨g, 0, none⟩) n cap, .int .i64 0] w fun e w' => e = .returned (.pointer (some ⟨b, 0, none⟩)) ∧ Below w.heap.size w w' ∧
      RdAt w' b (.slice (some ⟨g, 0, none⟩) n cap) (.map (some (b + 2))) 0 0 0 0 ∧ BegMap w' (b + 2) (b + 1) ∧ w'.heap[b + 1]? = some (.cells #[.pointer (some ⟨b, 0, none⟩)] 118 (0, 0)) := hb ▸ newReader_any g n cap 0 w

/-- What Parse hands back. -/
theorem results_blk4 {n : Nat} {X : World} {v0 v1 v2 v3 v4 v5 : Value} {fn : Func} {p q r s : Tmp} (hfn : fn.results = #[.cell p 25, .tmp q, .tmp r, .tmp s]) (tmps : Array Value) (u u' u'' : Value) (hp : tmps.getD p undef = .pointer (some ⟨n, 0, none⟩)) (hq : tmps.getD q undef = u) (hr : tmps.getD r undef = u') (hs : tmps.getD s undef = u'') (h : Blk X n v0 v1 v2 v3 v4 v5) :
    (results fn tmps).run Tryz.prog X = .ok (.tuple #[.agg #[v0, v1, v2, v3, v4, v5], u, u', u'']) X := by
  have hp' : tmps[p]?.getD undef = .pointer (some ⟨n, 0, none⟩) := by simpa using hp
  have hq' : tmps[q]?.getD undef = u := by simpa using hq
  have hr' : tmps[r]?.getD undef = u' := by simpa using hr
  have hs' : tmps[s]?.getD undef = u'' := by simpa using hs
  simp [results, hfn, hp', hq', hr', hs', asAddr, run_loadVar_row X n 25 25 _ (0, 0) _ h Tryz.underlying25 rfl (by kernel_rfl)]

theorem newReader_st (g m cap b : Nat) (ws : List Wd) (hm : m = ws.length) (w0 w : World) (hb : b = w.heap.size) (L : Laid w0) (H : WordsAt w0 g ws) (hB : Below w0.heap.size w0 w) :
    Calls Tryz.prog 54 #[.slice (some ⟨g, 0, none⟩) m cap, .int .i64 0] w fun e w' => e = .returned (.pointer (some ⟨b, 0, none⟩)) ∧ Below w.heap.size w w' ∧
      StAt w' b g cap (b + 2) ws ws (0 : Nat) 0 0 ∧ Env b g cap (b + 2) (b + 1) ws w' :=
  (newReader_at g m cap b w hb).mono fun e w' ⟨h1, h2, h3, h4, h5⟩ => by
    have hz := hB.size
    have h6 : Below w0.heap.size w0 w' := by (refine Fr.below ?_; (repeat (first | (with_reducible exact Fr.refl _ _) | (with_reducible refine Fr.alloc ?_ _) | (with_reducible refine Fr.drewN ?_ _) | (with_reducible refine Fr.drew ?_) | (with_reducible refine Fr.set ?_ ?_ _ _; rotate_left; first | exact .inl rfl | (right; simp; done) | (right; simp; omega) | (right; omega)) | (with_reducible refine Fr.step ?_ (by assumption)) | (with_reducible refine Fr.stepB ?_ (by assumption)))))
    refine ⟨h1, h2, ?_, env_new L H h6 h4 h5 ⟨by omega, by omega, by omega⟩⟩
    unfold StAt
    rw [Nat.sub_self, ← hm]
    exact h3

set_option maxRecDepth 100000 in
set_option maxHeartbeats 4000000 in
theorem parse_any (g cap m : Nat) (ws : List Wd) (hm : Hid (m = ws.length)) (r : Res) (w : World) (L : Hid (Laid w)) (H : Hid (WordsAt w g ws)) (hP : Hid (P 0 (.expr 1) ws r)) (hM : ∀ rb mb bx, Snd Junk rb g cap mb bx ws 55 #[.pointer (some ⟨rb, 0, none⟩), .int .i64 1] 0 ws r) :
    Calls Tryz.prog 26 #[.slice (some ⟨g, 0, none⟩) m cap, .int .i64 0] w fun e w' => ParseEnd w.heap.size ws r e w' ∧ Below w.heap.size w w' := by
  obtain ⟨x0, t0, hw0⟩ := H.out.2.2.2.ne
  have hlen : 0 < m := by rw [hm.out, hw0]; simp
  have hlen2 : (0 : Int) < m := by omega
  have hpost := Lib.hid (hP.out.post' (by simp [Job.may]) H.out.2.2.2)
  clear hw0
  cases r with
  | okL xs ts' =>
    have := hpost.out
    simp [Post, Job.lst] at this
  | ok x ts' =>
    go_enter Tryz.func26, Tryz.ntmps26
    go_wp2_with (first
      | (go_at_call 54; (with_reducible refine (newReader_st g m cap (w.heap.size + 1) ws hm.out w _ (by simp) L.out H.out (by (refine Fr.below ?_; (repeat (first | (with_reducible exact Fr.refl _ _) | (with_reducible refine Fr.alloc ?_ _) | (with_reducible refine Fr.drewN ?_ _) | (with_reducible refine Fr.drew ?_) | (with_reducible refine Fr.set ?_ ?_ _ _; rotate_left; first | exact .inl rfl | (right; simp; done) | (right; simp; omega) | (right; omega)) | (with_reducible refine Fr.step ?_ (by assumption)) | (with_reducible refine Fr.stepB ?_ (by assumption))))))).mono ?_); rintro e' w1 ⟨rfl, hb1, hr1, he1⟩; have hB1 : Hid (Below w.heap.size w w1) := Lib.hid (by (refine Fr.below ?_; (repeat (first | (with_reducible exact Fr.refl _ _) | (with_reducible refine Fr.alloc ?_ _) | (with_reducible refine Fr.drewN ?_ _) | (with_reducible refine Fr.drew ?_) | (with_reducible refine Fr.set ?_ ?_ _ _; rotate_left; first | exact .inl rfl | (right; simp; done) | (right; simp; omega) | (right; omega)) | (with_reducible refine Fr.step ?_ (by assumption)) | (with_reducible refine Fr.stepB ?_ (by assumption)))))); have HE1 := Lib.hid he1; have HR1 := Lib.hid hr1; have BR1 : Hid (Blk w1 w.heap.size (.int .i64 0) (.int .i64 0) (.int .i64 0) (.string ⟨#[]⟩) (.slice none 0 0) (.int .i64 0)) := Lib.hid ((Blk.new rfl (.int .i64 0) (.int .i64 0) (.int .i64 0) (.string ⟨#[]⟩) (.slice none 0 0) (.int .i64 0)).stay hb1); have hz1 := hb1.size; (try simp at hz1); have hl1 := hr1.lt; (try simp at hl1); clear hb1 hr1 he1)
      | (go_at_call 55; (with_reducible refine ((hM _ _ _).ok w1 0 0 HE1.out HR1.out).mono ?_); rintro e' w2 ⟨hf2, p2, l2, c2, hx2, rfl, bad2, at2, hs2⟩; have hz2 := Fr.size hf2; have hF2 : Hid (Fr none w w2) := Lib.hid (Fr.fresh (.of hB1.out) hf2 (by omega)); have BR2 : Hid (Blk w2 w.heap.size (.int .i64 0) (.int .i64 0) (.int .i64 0) (.string ⟨#[]⟩) (.slice none 0 0) (.int .i64 0)) := Lib.hid (BR1.out.fr hf2 (by omega)); have HS2 := Lib.hid hs2; have hl2 := hs2.lt; (try simp at hl2); obtain ⟨q0, q1, q2, q3, q4, q5⟩ := hs2.cells; (try simp at q0 q1 q2 q3 q4 q5); obtain ⟨blr, c0r, c1r, c2r, c3r, c4r, c5r, f0r, f1r, f2r, f3r, f4r, f5r⟩ := (BR2.out).facts; (have hq1 : w.heap.size + 1 ≠ w2.heap.size := by omega); (have hq2 : w.heap.size ≠ w2.heap.size := by omega); clear hs2))
    go_region
    all_goals go_wp2
    all_goals (have hFz := hF2.out)
    all_goals refine bodyPost_ret (results_blk4 (n := w.heap.size) (v0 := .int .i64 x.k) (v1 := .int .i64 x.op) (v2 := .int .i64 x.n) (v3 := .string (bstr x.nm)) (v4 := .slice p2 l2 c2) (v5 := .int .i64 x.a) Tryz.results26 _ (.int .i64 ((ws.length - ts'.length : Nat) : Int)) (.int .i64 0) (.int .i64 0) rfl rfl rfl rfl (by (repeat (first | (with_reducible refine Blk.drew ?_) | (with_reducible refine Blk.drewN ?_ _) | (with_reducible refine Blk.alloc ?_ _))); with_reducible exact BR2.out.all _ _ _ _ _ _)) rfl ⟨?_, by (refine Fr.below ?_; (repeat (first | (with_reducible exact Fr.refl _ _) | (with_reducible refine Fr.alloc ?_ _) | (with_reducible refine Fr.drewN ?_ _) | (with_reducible refine Fr.drew ?_) | (with_reducible refine Fr.set ?_ ?_ _ _; rotate_left; first | exact .inl rfl | (right; simp; done) | (right; simp; omega) | (right; omega)) | (with_reducible refine Fr.step ?_ (by assumption)) | (with_reducible refine Fr.stepB ?_ (by assumption)))))⟩
    all_goals
      refine ⟨p2, l2, c2, ?_, rfl⟩
      refine IsEx.low (lo := w1.heap.size) ?_ (by omega)
      (repeat (first | (with_reducible exact hx2) | (with_reducible refine IsEx.alloc ?_ _) | (with_reducible refine IsEx.drewN ?_ _) | (with_reducible refine IsEx.drew ?_) | (with_reducible refine IsEx.set ?_ ?_ _ _; rotate_left; first | omega | (simp; done) | (simp; omega)) | (with_reducible refine IsEx.fr ?_ (by assumption) (by omega)) | (with_reducible refine IsEx.stay ?_ (by assumption))))
  | bad c a =>
    go_enter Tryz.func26, Tryz.ntmps26
    go_wp2_with (first
      | (go_at_call 54; (with_reducible refine (newReader_st g m cap (w.heap.size + 1) ws hm.out w _ (by simp) L.out H.out (by (refine Fr.below ?_; (repeat (first | (with_reducible exact Fr.refl _ _) | (with_reducible refine Fr.alloc ?_ _) | (with_reducible refine Fr.drewN ?_ _) | (with_reducible refine Fr.drew ?_) | (with_reducible refine Fr.set ?_ ?_ _ _; rotate_left; first | exact .inl rfl | (right; simp; done) | (right; simp; omega) | (right; omega)) | (with_reducible refine Fr.step ?_ (by assumption)) | (with_reducible refine Fr.stepB ?_ (by assumption))))))).mono ?_); rintro e' w1 ⟨rfl, hb1, hr1, he1⟩; have hB1 : Hid (Below w.heap.size w w1) := Lib.hid (by (refine Fr.below ?_; (repeat (first | (with_reducible exact Fr.refl _ _) | (with_reducible refine Fr.alloc ?_ _) | (with_reducible refine Fr.drewN ?_ _) | (with_reducible refine Fr.drew ?_) | (with_reducible refine Fr.set ?_ ?_ _ _; rotate_left; first | exact .inl rfl | (right; simp; done) | (right; simp; omega) | (right; omega)) | (with_reducible refine Fr.step ?_ (by assumption)) | (with_reducible refine Fr.stepB ?_ (by assumption)))))); have HE1 := Lib.hid he1; have HR1 := Lib.hid hr1; have BR1 : Hid (Blk w1 w.heap.size (.int .i64 0) (.int .i64 0) (.int .i64 0) (.string ⟨#[]⟩) (.slice none 0 0) (.int .i64 0)) := Lib.hid ((Blk.new rfl (.int .i64 0) (.int .i64 0) (.int .i64 0) (.string ⟨#[]⟩) (.slice none 0 0) (.int .i64 0)).stay hb1); have hz1 := hb1.size; (try simp at hz1); have hl1 := hr1.lt; (try simp at hl1); clear hb1 hr1 he1)
      | (go_at_call 55; (with_reducible refine ((hM _ _ _).badE w1 0 0 HE1.out HR1.out).mono ?_); rintro e' w2 ⟨hf2, ⟨jk, jo, jn, jm, jp, jl, jc, ja, rfl⟩, nx, oq, hs2⟩; have hz2 := Fr.size hf2; have hF2 : Hid (Fr none w w2) := Lib.hid (Fr.fresh (.of hB1.out) hf2 (by omega)); have BR2 : Hid (Blk w2 w.heap.size (.int .i64 0) (.int .i64 0) (.int .i64 0) (.string ⟨#[]⟩) (.slice none 0 0) (.int .i64 0)) := Lib.hid (BR1.out.fr hf2 (by omega)); have HS2 := Lib.hid hs2; have hl2 := hs2.lt; (try simp at hl2); obtain ⟨q0, q1, q2, q3, q4, q5⟩ := hs2.cells; (try simp at q0 q1 q2 q3 q4 q5); obtain ⟨blr, c0r, c1r, c2r, c3r, c4r, c5r, f0r, f1r, f2r, f3r, f4r, f5r⟩ := (BR2.out).facts; (have hq1 : w.heap.size + 1 ≠ w2.heap.size := by omega); (have hq2 : w.heap.size ≠ w2.heap.size := by omega); clear hs2))
    go_region
    all_goals go_wp2
    all_goals (have hFz := hF2.out)
    all_goals refine bodyPost_ret (results_blk4 (n := w.heap.size) (v0 := .int .i64 0) (v1 := .int .i64 0) (v2 := .int .i64 0) (v3 := .string ⟨#[]⟩) (v4 := .slice none 0 0) (v5 := .int .i64 0) Tryz.results26 _ (.int .i64 0) (.int .i64 c) (.int .i64 a) rfl rfl rfl rfl (by (repeat (first | (with_reducible refine Blk.drew ?_) | (with_reducible refine Blk.drewN ?_ _) | (with_reducible refine Blk.alloc ?_ _))); with_reducible exact BR2.out.all _ _ _ _ _ _)) rfl ⟨?_, by (refine Fr.below ?_; (repeat (first | (with_reducible exact Fr.refl _ _) | (with_reducible refine Fr.alloc ?_ _) | (with_reducible refine Fr.drewN ?_ _) | (with_reducible refine Fr.drew ?_) | (with_reducible refine Fr.set ?_ ?_ _ _; rotate_left; first | exact .inl rfl | (right; simp; done) | (right; simp; omega) | (right; omega)) | (with_reducible refine Fr.step ?_ (by assumption)) | (with_reducible refine Fr.stepB ?_ (by assumption)))))⟩
    all_goals rfl
end Go.Proofs.YtngfbpmabdmkeaaGreatDoor
