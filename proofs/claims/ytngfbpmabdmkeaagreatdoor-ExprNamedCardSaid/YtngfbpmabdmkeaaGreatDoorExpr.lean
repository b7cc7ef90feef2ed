/- An expression: things with operators between. -/
import Derived.Test.YtngfbpmabdmkeaaGreatDoorExP
import Derived.IntWalk
namespace Go.Proofs.YtngfbpmabdmkeaaGreatDoor
open Go Go.RowKit

/-- What is left to do, for a measure. -/
def msE : Value → Nat → Nat | .bool true, n => n + 1 | _, _ => 0

set_option maxRecDepth 100000 in
set_option maxHeartbeats 4000000 in
theorem expr_bad (rb g cap mb bx : Nat) (ws : List Wd) (o : Nat) (r : Int) (ts : List Wd) (ec : Int) (ea : Nat) (hIH : Hid (Snd Junk rb g cap mb bx ws 104 #[.pointer (some ⟨rb, 0, none⟩)] o ts (.bad ec ea))) :
    Goal rb g cap mb bx ws (.expr r) o ts (.bad ec ea) := by
  intro W bad at' E S
  have hrl := S.lt
  have hnb2 : W.heap.size ≠ rb := by omega
  have EE := Lib.hid E
  have SS := Lib.hid S
  clear E S
  go_enter Tryz.func55, Tryz.ntmps55
  go_wp2_with (go_at_call 104; (with_reducible refine (hIH.out.badE _ bad at' (EE.out.kept (by (repeat (first | (with_reducible exact Fr.refl _ _) | (with_reducible refine Fr.alloc ?_ _) | (with_reducible refine Fr.drewN ?_ _) | (with_reducible refine Fr.drew ?_) | (with_reducible refine Fr.set ?_ ?_ _ _; rotate_left; first | exact .inl rfl | (right; simp; done) | (right; simp; omega) | (right; omega)) | (with_reducible refine Fr.step ?_ (by assumption)) | (with_reducible refine Fr.stepB ?_ (by assumption)))))) (by (unfold StAt; (repeat (first | (with_reducible exact SS.out) | (with_reducible refine RdAt.alloc ?_ _) | (with_reducible refine RdAt.drewN ?_ _) | (with_reducible refine RdAt.drew ?_) | (with_reducible refine RdAt.setO ?_ (by first | assumption | omega) _ _) | (with_reducible refine RdAt.kept ?_ (by assumption))))))).mono ?_); rintro e' w1 ⟨hf1, ⟨jk, jo, jn, jm, jp, jl, jc, ja, rfl⟩, nx, oq, hs1⟩; have BR1 := Lib.hid ((Blk.new (X := W) rfl (.int .i64 0) (.int .i64 0) (.int .i64 0) (.string ⟨#[]⟩) (.slice none 0 0) (.int .i64 0)).fr hf1 hnb2); have hz1 := Fr.size hf1; (try simp at hz1); obtain ⟨blr, c0r, c1r, c2r, c3r, c4r, c5r, f0r, f1r, f2r, f3r, f4r, f5r⟩ := (BR1.out).facts)
  have hF1 : Fr (some rb) W w1 := ((Fr.refl _ _).alloc _).step hf1
  go_loopw [7] (fun okv wr => okv = .bool false ∧ wr = w1.alloc (.cells #[.int .i64 jk, .int .i64 jo, .int .i64 jn, .string jm, .slice jp jl jc, .int .i64 ja] 25)) (fun _ _ => 0)
  case atStart => exact ⟨rfl, rfl⟩
  case round =>
    obtain ⟨rfl, rfl⟩ := hrel
    have hq1 := Nat.ne_of_lt blr
    go_wp2
    refine bodyPost_ret (results_blk (n := W.heap.size) (v0 := .int .i64 jk) (v1 := .int .i64 jo) (v2 := .int .i64 jn) (v3 := .string jm) (v4 := .slice jp jl jc) (v5 := .int .i64 ja) Tryz.results55 _ _ rfl rfl ((BR1.out.all _ _ _ _ _ _).alloc _)) rfl ⟨by (repeat (first | (with_reducible exact Fr.refl _ _) | (with_reducible refine Fr.alloc ?_ _) | (with_reducible refine Fr.drewN ?_ _) | (with_reducible refine Fr.drew ?_) | (with_reducible refine Fr.set ?_ ?_ _ _; rotate_left; first | exact .inl rfl | (right; simp; done) | (right; simp; omega) | (right; omega)) | (with_reducible refine Fr.step ?_ (by assumption)) | (with_reducible refine Fr.stepB ?_ (by assumption)))), ?_⟩
    refine ended_bad (nx := nx) (op := oq) (Junk.of _ _ _ _ _ _ _ _) ?_
    (repeat (first | (with_reducible exact hs1) | (with_reducible refine RdAt.alloc ?_ _) | (with_reducible refine RdAt.drewN ?_ _) | (with_reducible refine RdAt.drew ?_) | (with_reducible refine RdAt.setO ?_ (by first | assumption | omega) _ _) | (with_reducible refine RdAt.kept ?_ (by assumption))))

set_option maxRecDepth 100000 in
set_option maxHeartbeats 4000000 in
theorem expr_ok (rb g cap mb bx : Nat) (ws : List Wd) (o : Nat) (r : Int) (ts ts1 : List Wd) (l : Ex) (res : Res) (IH : Below' rb g cap mb bx ws (4 * ts.length + 2)) (hr : 1 ≤ r ∧ r ≤ 11) (ho : o ≤ 32) (hP : P o .thing ts (.ok l ts1)) (hL : P o (.loop r l) ts1 res) (hs : ts <:+ ws) (hF : Fin ts) :
    Goal rb g cap mb bx ws (.expr r) o ts res := by
  intro W bad at' E S
  have hrl := S.lt
  have hnb2 : W.heap.size ≠ rb := by omega
  have EE := Lib.hid E
  have SS := Lib.hid S
  have hIH : Hid (Snd Junk rb g cap mb bx ws 104 #[.pointer (some ⟨rb, 0, none⟩)] o ts (.ok l ts1)) := Lib.hid (IH .thing _ _ _ hP hs hF trivial ho (by simp [Job.wt]))
  have HR := Lib.hid hr
  have HI := Lib.hid IH
  have hlen2 := Lib.hid E.few
  have hpo := hP.post' trivial hF
  simp only [Post, Job.lst, Job.min] at hpo
  have HL := Lib.hid (And.intro hL (And.intro hpo.2.1 (And.intro hP.suf hpo.2.2)))
  have hsw := Lib.hid hs
  clear E S IH hr hP hL hpo hs hF
  go_enter Tryz.func55, Tryz.ntmps55
  go_wp2_with (go_at_call 104; (with_reducible refine (hIH.out.ok _ bad at' (EE.out.kept (by (repeat (first | (with_reducible exact Fr.refl _ _) | (with_reducible refine Fr.alloc ?_ _) | (with_reducible refine Fr.drewN ?_ _) | (with_reducible refine Fr.drew ?_) | (with_reducible refine Fr.set ?_ ?_ _ _; rotate_left; first | exact .inl rfl | (right; simp; done) | (right; simp; omega) | (right; omega)) | (with_reducible refine Fr.step ?_ (by assumption)) | (with_reducible refine Fr.stepB ?_ (by assumption)))))) (by (unfold StAt; (repeat (first | (with_reducible exact SS.out) | (with_reducible refine RdAt.alloc ?_ _) | (with_reducible refine RdAt.drewN ?_ _) | (with_reducible refine RdAt.drew ?_) | (with_reducible refine RdAt.setO ?_ (by first | assumption | omega) _ _) | (with_reducible refine RdAt.kept ?_ (by assumption))))))).mono ?_); rintro e' w1 ⟨hf1, p1, l1, c1, hx1, rfl, bad1, at1, hs1⟩; have BR1 := Lib.hid ((Blk.new (X := W) rfl (.int .i64 0) (.int .i64 0) (.int .i64 0) (.string ⟨#[]⟩) (.slice none 0 0) (.int .i64 0)).fr hf1 hnb2); have hz1 := Fr.size hf1; (try simp at hz1); have HX1 := Lib.hid hx1; have HS1 := Lib.hid hs1; clear hx1 hs1)
  have hF1 : Fr (some rb) W w1 := ((Fr.refl _ _).alloc _).step hf1
  have hb6 : w1.heap.size ≠ rb := by omega
  have hb60 : w1.heap.size ≠ W.heap.size := by omega
  go_loopw [7] (fun okv wr => Fr (some rb) W wr ∧ w1.heap.size < wr.heap.size ∧ Blk wr W.heap.size (.int .i64 0) (.int .i64 0) (.int .i64 0) (.string ⟨#[]⟩) (.slice none 0 0) (.int .i64 0) ∧
    ((∃ left tt p q c bad2 at2, okv = .bool true ∧ Blk wr w1.heap.size (.int .i64 left.k) (.int .i64 left.op) (.int .i64 left.n) (.string (bstr left.nm)) (.slice p q c) (.int .i64 left.a) ∧ IsExP (fun b => W.heap.size < b ∧ b ≠ w1.heap.size) wr left (.slice p q c) ∧ StAt wr rb g cap mb ws tt o bad2 at2 ∧ Hid (P o (.loop r left) tt res ∧ Fin tt ∧ tt <:+ ts ∧ tt.length < ts.length)) ∨
     (∃ k o' n nm p q c a ec ea nx oq, okv = .bool false ∧ Blk wr w1.heap.size (.int .i64 k) (.int .i64 o') (.int .i64 n) (.string nm) (.slice p q c) (.int .i64 a) ∧ res = .bad ec ea ∧ RdAt wr rb (.slice (some ⟨g, 0, none⟩) ws.length cap) (.map (some mb)) nx oq ec ea))) (fun okv wr => msE okv (ws.length + 1 - nxOf wr rb))
  case atStart =>
    refine ⟨hF1.alloc _, by simp, BR1.out.alloc _, .inl ⟨l, ts1, p1, l1, c1, bad1, at1, rfl, Blk.new rfl _ _ _ _ _ _, ?_, RdAt.alloc HS1.out _, Lib.hid ⟨HL.out.1, HL.out.2.1, HL.out.2.2.1, by have := HL.out.2.2.2; omega⟩⟩⟩
    refine HX1.out.toP fun b hb hl => ⟨Below.heap_alloc _ _ b hl, ?_, by omega⟩
    simp at hb
    omega
  case round =>
    obtain ⟨hFW, hsz, hBR, hrel⟩ := hrel
    have HBR := Lib.hid hBR
    clear hBR
    rcases hrel with ⟨left, tt, p, q, c, bad2, at2, rfl, hBL, hxL, hS, hPF⟩ | ⟨k, o', n, nm, p, q, c, a, ec, ea, nx, oq, rfl, hBL, hres, hS⟩
    · have hsT : Hid (tt <:+ ws) := Lib.hid (hPF.out.2.2.1.trans hsw.out)
      obtain ⟨d, tt', htt⟩ := hPF.out.2.1.ne
      have HBL := Lib.hid hBL
      have HXL := Lib.hid hxL
      have HS := Lib.hid hS
      have HP := hPF.out.1
      clear hBL hxL hS
      cases HP with
      | @loopEnd _ _ _ cd ctt hlt =>
        have HLT := Lib.hid hlt
        have hR := Lib.hid (HS.out.rdr (EE.out.kept hFW) hsT.out)
        clear hPF hlt
        go_wp2_with (go_at_call 105; (with_reducible refine (operator_no rb g cap mb ws _ cd _ bad2 at2 r _ hR (Lib.hid (EE.out.base.kept hFW)) HLT).mono ?_); rintro e' w3 ⟨⟨K, rfl⟩, hb3⟩; have BR3 := Lib.hid (HBR.out.stay hb3); have BL3 := Lib.hid (HBL.out.stay hb3); obtain ⟨blr, c0r, c1r, c2r, c3r, c4r, c5r, f0r, f1r, f2r, f3r, f4r, f5r⟩ := (BR3.out).facts; obtain ⟨bll, c0l, c1l, c2l, c3l, c4l, c5l, f0l, f1l, f2l, f3l, f4l, f5l⟩ := (BL3.out).facts)
        refine bodyPost_ret (results_blk (n := W.heap.size) (v0 := .int .i64 left.k) (v1 := .int .i64 left.op) (v2 := .int .i64 left.n) (v3 := .string (bstr left.nm)) (v4 := .slice p q c) (v5 := .int .i64 left.a) Tryz.results55 _ _ rfl rfl (BR3.out.all _ _ _ _ _ _)) rfl ⟨by exact (((((((hFW.stepB hb3).set (.inr (Nat.le_refl _)) _ _).set (.inr (Nat.le_refl _)) _ _).set (.inr (Nat.le_refl _)) _ _).set (.inr (Nat.le_refl _)) _ _).set (.inr (Nat.le_refl _)) _ _).set (.inr (Nat.le_refl _)) _ _), ?_⟩
        refine ended_ok (x := left) (bad := bad2) (at' := at2) ?_ ?_
        · refine IsExP.toEx (ok := fun b => W.heap.size < b ∧ b ≠ w1.heap.size) ?_ (fun b hb => by have := hb.1; omega)
          (repeat (first | (with_reducible exact HXL.out) | (with_reducible refine IsExP.alloc ?_ _) | (with_reducible refine IsExP.drew ?_) | (with_reducible refine IsExP.set ?_ ?_ _ _; rotate_left; (intro b hb; have hb1 := hb.1; have hb2 := hb.2; omega)) | (with_reducible refine IsExP.fr ?_ (by assumption) (by intro b hb; have hb1 := hb.1; have hb2 := hb.2; omega)) | (with_reducible refine IsExP.stay ?_ (by assumption))))
        · unfold StAt
          (repeat (first | (with_reducible exact HS.out) | (with_reducible refine RdAt.alloc ?_ _) | (with_reducible refine RdAt.drewN ?_ _) | (with_reducible refine RdAt.drew ?_) | (with_reducible refine RdAt.setO ?_ (by first | assumption | omega) _ _) | (with_reducible refine RdAt.kept ?_ (by assumption))))
      | @loopMore _ _ _ x cd ctt tt' _ hrk hPx hPl =>
        have hk1 : 1 ≤ rkW cd := Int.le_trans HR.out.1 hrk
        have hk2 := (rkW_ne hk1).1
        have hbd := rkW_bd cd
        have hfc : Fin ctt := hPF.out.2.1.cons (by rw [hk2]; decide)
        have hsc := (suf_at hsT.out).2
        have hln : ctt.length + 1 < ts.length := by have := hPF.out.2.2.2; simpa using this
        have hIHx : Hid (Snd Junk rb g cap mb bx ws 55 #[.pointer (some ⟨rb, 0, none⟩), .int .i64 (rkW cd + 1)] o ctt (.ok x tt')) := Lib.hid (HI.out (.expr (rkW cd + 1)) _ _ _ hPx hsc.2 hfc ⟨by omega, by omega⟩ ho (by simp only [Job.wt]; omega))
        have hM0 : rnkZ (opB cd.t) = rkW cd := by unfold rkW; rw [if_pos hk2]
        have hRK := Lib.hid hrk
        have hS0 := Lib.hid (HS.out.rdr (EE.out.kept hFW) hsT.out)
        obtain ⟨k, hk⟩ : ∃ k, k = ws.length - (cd :: ctt).length := ⟨_, rfl⟩
        have hk0 : k < 9223372036854775807 := by (have := hlen2.out; omega)
        have hkk : (k : Int) + 1 = ((ws.length - ctt.length : Nat) : Int) := by have := hsc.1; rw [← hk] at this; omega
        have HKK := Lib.hid hkk
        have HKD := Lib.hid hk
        rw [← hk] at hS0
        have hpx := hPx.post' ⟨by omega, by omega⟩ hfc
        simp only [Post, Job.lst, Job.min] at hpx
        have HPL := Lib.hid (And.intro hPl (And.intro hpx.2.1 (And.intro (((hPx.suf.trans (List.suffix_cons _ _)).trans hPF.out.2.2.1)) hpx.2.2)))
        have HXr : Hid (IsExP (fun b => (W.heap.size < b ∧ b ≠ w1.heap.size) ∧ b < wr.heap.size) wr left (.slice p q c)) := Lib.hid (HXL.out.kept fun b hb hl => ⟨rfl, hb, hl⟩)
        obtain ⟨K, hK⟩ : ∃ K, K = opB cd.t := ⟨_, rfl⟩
        obtain ⟨M, hM⟩ : ∃ M, M = rkW cd := ⟨_, rfl⟩
        rw [← hM] at hIHx hM0 hbd hRK
        rw [← hK] at hM0
        have HM := Lib.hid hM0
        have HK := Lib.hid hK
        have HMM := Lib.hid hM
        obtain ⟨hbd0, hbd1⟩ := hbd
        have hlnH := Lib.hid hln
        clear hk hkk hM hK hM0 hk1 hk2 hfc hsc hln hPx hrk hPF hPl hpx
        go_wp2_with (first
          | (go_at_call 105; (with_reducible refine (operator_yes rb g cap mb ws k cd _ bad2 at2 r _ hS0 (Lib.hid (EE.out.base.kept hFW)) (Lib.hid HR.out.1) (Lib.hid (by rw [← HMM.out]; exact hRK.out))).mono ?_); rw [← HK.out]; rintro e' w3 ⟨rfl, hb3⟩; have BR3 := Lib.hid (HBR.out.stay hb3); have BL3 := Lib.hid (HBL.out.stay hb3); have hR3 := Lib.hid (hS0.out.rd.kept hb3); obtain ⟨q0, q1, q2, q3, q4, q5⟩ := hR3.out.cells; have hfz := hR3.out.frozen 1; have hz3 := hb3.size; have hl3 := hR3.out.lt; have hnr3 := Nat.ne_of_lt hl3; have hnr3' := hnr3.symm; (have hne : w1.heap.size ≠ w3.heap.size := by omega); (have hne0 : W.heap.size ≠ w3.heap.size := by omega))
          | (go_at_call 106; (with_reducible refine (rank_any K _ (EE.out.base.kept (by (repeat (first | (with_reducible exact Fr.refl _ _) | (with_reducible refine Fr.alloc ?_ _) | (with_reducible refine Fr.drewN ?_ _) | (with_reducible refine Fr.drew ?_) | (with_reducible refine Fr.set ?_ ?_ _ _; rotate_left; first | exact .inl rfl | (right; simp; done) | (right; simp; omega) | (right; omega)) | (with_reducible refine Fr.step ?_ (by assumption)) | (with_reducible refine Fr.stepB ?_ (by assumption)))))).laid.tab).mono ?_); rw [HM.out]; rintro e' w4 ⟨rfl, rfl⟩)
          | (go_at_call 55; (with_reducible refine (hIHx.out.ok _ bad2 at2 (EE.out.kept (by (repeat (first | (with_reducible exact Fr.refl _ _) | (with_reducible refine Fr.alloc ?_ _) | (with_reducible refine Fr.drewN ?_ _) | (with_reducible refine Fr.drew ?_) | (with_reducible refine Fr.set ?_ ?_ _ _; rotate_left; first | exact .inl rfl | (right; simp; done) | (right; simp; omega) | (right; omega)) | (with_reducible refine Fr.step ?_ (by assumption)) | (with_reducible refine Fr.stepB ?_ (by assumption)))))) (by (unfold StAt; rw [← HKK.out]; (repeat (first | (with_reducible exact (hR3.out.set1 _)) | (with_reducible refine RdAt.alloc ?_ _) | (with_reducible refine RdAt.drewN ?_ _) | (with_reducible refine RdAt.drew ?_) | (with_reducible refine RdAt.setO ?_ (by first | assumption | omega) _ _) | (with_reducible refine RdAt.kept ?_ (by assumption))))))).mono ?_); rintro e' w5 ⟨hf5, p5, l5, c5, hx5, rfl, bad5, at5, hs5⟩; have hz5 := Fr.size hf5; (try simp at hz5); have hFW5 : Hid (Fr (some rb) W w5) := Lib.hid (by (repeat (first | (with_reducible exact Fr.refl _ _) | (with_reducible refine Fr.alloc ?_ _) | (with_reducible refine Fr.drewN ?_ _) | (with_reducible refine Fr.drew ?_) | (with_reducible refine Fr.set ?_ ?_ _ _; rotate_left; first | exact .inl rfl | (right; simp; done) | (right; simp; omega) | (right; omega)) | (with_reducible refine Fr.step ?_ (by assumption)) | (with_reducible refine Fr.stepB ?_ (by assumption))))); have BR5 : Hid (Blk w5 W.heap.size (.int .i64 0) (.int .i64 0) (.int .i64 0) (.string ⟨#[]⟩) (.slice none 0 0) (.int .i64 0)) := Lib.hid (Blk.fr (by (repeat (first | (with_reducible exact BR3.out) | (with_reducible refine Blk.alloc ?_ _) | (with_reducible refine Blk.drewN ?_ _) | (with_reducible refine Blk.drew ?_) | (with_reducible refine Blk.setO ?_ ?_ _ _; rotate_left; first | assumption | omega | (simp; omega)) | (with_reducible refine Blk.fr ?_ (by assumption) (by first | assumption | omega)) | (with_reducible refine Blk.stay ?_ (by assumption))))) hf5 hnb2); have BL5 : Hid (Blk w5 w1.heap.size (.int .i64 left.k) (.int .i64 left.op) (.int .i64 left.n) (.string (bstr left.nm)) (.slice p q c) (.int .i64 left.a)) := Lib.hid (Blk.fr (by (repeat (first | (with_reducible exact BL3.out) | (with_reducible refine Blk.alloc ?_ _) | (with_reducible refine Blk.drewN ?_ _) | (with_reducible refine Blk.drew ?_) | (with_reducible refine Blk.setO ?_ ?_ _ _; rotate_left; first | assumption | omega | (simp; omega)) | (with_reducible refine Blk.fr ?_ (by assumption) (by first | assumption | omega)) | (with_reducible refine Blk.stay ?_ (by assumption))))) hf5 hb6); have B10 : Hid (Blk w5 w3.heap.size (.int .i64 0) (.int .i64 0) (.int .i64 0) (.string ⟨#[]⟩) (.slice none 0 0) (.int .i64 0)) := Lib.hid (Blk.fr (Blk.new (X := World.setCell _ _ _) (by simp) _ _ _ _ _ _) hf5 hnr3'); obtain ⟨blx, c0x, c1x, c2x, c3x, c4x, c5x, f0x, f1x, f2x, f3x, f4x, f5x⟩ := (B10.out).facts; obtain ⟨bll, c0l, c1l, c2l, c3l, c4l, c5l, f0l, f1l, f2l, f3l, f4l, f5l⟩ := (BL5.out).facts; have hq5 := Nat.ne_of_lt blx; have hq6 := Nat.ne_of_lt bll))
        have hb60' := hb60.symm
        have hfx := BL5.out.facts.1
        go_roundw
        case rel =>
          refine ⟨(((((((((((((hFW5.out.set (.inr (by omega)) _ _).set (.inr (by omega)) _ _).set (.inr (by omega)) _ _).set (.inr (by omega)) _ _).set (.inr (by omega)) _ _).set (.inr (by omega)) _ _).set (.inr (by omega)) _ _).set (.inr (by omega)) _ _).set (.inr (by omega)) _ _).set (.inr (by omega)) _ _).set (.inr (by omega)) _ _).set (.inr (by omega)) _ _).alloc _), by simp; omega, (((((((((((((BR5.out.setO hne0 0 _).setO hne0 1 _).setO hne0 2 _).setO hne0 3 _).setO hne0 4 _).setO hne0 5 _).setO hb60' 0 _).setO hb60' 1 _).setO hb60' 2 _).setO hb60' 3 _).setO hb60' 4 _).setO hb60' 5 _).alloc _), .inl ⟨.mk 6 K 0 [] [left, x] left.a, tt', some ⟨w5.heap.size, 0, none⟩, 2, 2, bad5, at5, rfl, ((((((((BL5.out.setO hne 0 _).setO hne 1 _).setO hne 2 _).setO hne 3 _).setO hne 4 _).setO hne 5 _).all _ _ _ _ _ _).alloc _), ?_, ?_, ?_⟩⟩
          · refine IsExP.twoAt ?_ ?_ (by simp) ⟨by simp; omega, by simp; omega⟩ 6 K 0 [] left.a
            · refine IsExP.weak (ok := fun b => (W.heap.size < b ∧ b ≠ w1.heap.size) ∧ b < wr.heap.size) ?_ (fun b hb => hb.1)
              (repeat (first | (with_reducible exact HXr.out) | (with_reducible refine IsExP.alloc ?_ _) | (with_reducible refine IsExP.drew ?_) | (with_reducible refine IsExP.set ?_ ?_ _ _; rotate_left; (intro b hb; have hb1 := hb.1; have hb2 := hb.2; omega)) | (with_reducible refine IsExP.fr ?_ (by assumption) (by intro b hb; have hb1 := hb.1; have hb2 := hb.2; omega)) | (with_reducible refine IsExP.stay ?_ (by assumption))))
            · refine IsEx.toP (lo := w3.heap.size + 1) ?_ (fun b hb hl => ⟨rfl, by omega, by omega⟩)
              have hx6 : IsEx (w3.heap.size + 1) w5 x (.slice p5 l5 c5) := IsEx.low hx5 (by simp)
              (repeat (first | (with_reducible exact hx6) | (with_reducible refine IsEx.alloc ?_ _) | (with_reducible refine IsEx.drewN ?_ _) | (with_reducible refine IsEx.drew ?_) | (with_reducible refine IsEx.set ?_ ?_ _ _; rotate_left; first | omega | (simp; done) | (simp; omega)) | (with_reducible refine IsEx.fr ?_ (by assumption) (by omega)) | (with_reducible refine IsEx.stay ?_ (by assumption))))
          · unfold StAt
            (repeat (first | (with_reducible exact hs5) | (with_reducible refine RdAt.alloc ?_ _) | (with_reducible refine RdAt.drewN ?_ _) | (with_reducible refine RdAt.drew ?_) | (with_reducible refine RdAt.setO ?_ (by first | assumption | omega) _ _) | (with_reducible refine RdAt.kept ?_ (by assumption))))
          · refine Lib.hid ⟨?_, HPL.out.2.1, HPL.out.2.2.1, ?_⟩
            · have := HPL.out.1
              rw [← HK.out] at this
              exact this
            · have h1 := HPL.out.2.2.2
              have h2 := hlnH.out
              omega
        case measure =>
          have hTL := hsT.out.length_le
          have h1 := HPL.out.2.2.2
          have key : ∀ Y, RdAt Y rb (.slice (some ⟨g, 0, none⟩) ws.length cap) (.map (some mb)) ((ws.length - tt'.length : Nat) : Int) o bad5 at5 → msE (.bool true) (ws.length + 1 - nxOf Y rb) < msE (.bool true) (ws.length + 1 - nxOf wr rb) := by
            intro Y hY
            rw [hY.nx, HS.out.nx]
            simp at hTL
            simp [msE]
            omega
          refine key _ ?_
          (repeat (first | (with_reducible exact hs5) | (with_reducible refine RdAt.alloc ?_ _) | (with_reducible refine RdAt.drewN ?_ _) | (with_reducible refine RdAt.drew ?_) | (with_reducible refine RdAt.setO ?_ (by first | assumption | omega) _ _) | (with_reducible refine RdAt.kept ?_ (by assumption))))
      | @loopBad _ _ _ cd ctt ec ea hrk hPx =>
        have hk1 : 1 ≤ rkW cd := Int.le_trans HR.out.1 hrk
        have hk2 := (rkW_ne hk1).1
        have hbd := rkW_bd cd
        have hfc : Fin ctt := hPF.out.2.1.cons (by rw [hk2]; decide)
        have hsc := (suf_at hsT.out).2
        have hln : ctt.length + 1 < ts.length := by have := hPF.out.2.2.2; simpa using this
        have hIHx : Hid (Snd Junk rb g cap mb bx ws 55 #[.pointer (some ⟨rb, 0, none⟩), .int .i64 (rkW cd + 1)] o ctt (.bad ec ea)) := Lib.hid (HI.out (.expr (rkW cd + 1)) _ _ _ hPx hsc.2 hfc ⟨by omega, by omega⟩ ho (by simp only [Job.wt]; omega))
        have hM0 : rnkZ (opB cd.t) = rkW cd := by unfold rkW; rw [if_pos hk2]
        have hRK := Lib.hid hrk
        have hS0 := Lib.hid (HS.out.rdr (EE.out.kept hFW) hsT.out)
        obtain ⟨k, hk⟩ : ∃ k, k = ws.length - (cd :: ctt).length := ⟨_, rfl⟩
        have hk0 : k < 9223372036854775807 := by (have := hlen2.out; omega)
        have hkk : (k : Int) + 1 = ((ws.length - ctt.length : Nat) : Int) := by have := hsc.1; rw [← hk] at this; omega
        have HKK := Lib.hid hkk
        have HKD := Lib.hid hk
        rw [← hk] at hS0
        obtain ⟨K, hK⟩ : ∃ K, K = opB cd.t := ⟨_, rfl⟩
        obtain ⟨M, hM⟩ : ∃ M, M = rkW cd := ⟨_, rfl⟩
        rw [← hM] at hIHx hM0 hbd hRK
        rw [← hK] at hM0
        have HM := Lib.hid hM0
        have HK := Lib.hid hK
        have HMM := Lib.hid hM
        obtain ⟨hbd0, hbd1⟩ := hbd
        have hlnH := Lib.hid hln
        clear hk hkk hM hK hM0 hk1 hk2 hfc hsc hln hPx hrk hPF
        go_wp2_with (first
          | (go_at_call 105; (with_reducible refine (operator_yes rb g cap mb ws k cd _ bad2 at2 r _ hS0 (Lib.hid (EE.out.base.kept hFW)) (Lib.hid HR.out.1) (Lib.hid (by rw [← HMM.out]; exact hRK.out))).mono ?_); rw [← HK.out]; rintro e' w3 ⟨rfl, hb3⟩; have BR3 := Lib.hid (HBR.out.stay hb3); have BL3 := Lib.hid (HBL.out.stay hb3); have hR3 := Lib.hid (hS0.out.rd.kept hb3); obtain ⟨q0, q1, q2, q3, q4, q5⟩ := hR3.out.cells; have hfz := hR3.out.frozen 1; have hz3 := hb3.size; have hl3 := hR3.out.lt; have hnr3 := Nat.ne_of_lt hl3; have hnr3' := hnr3.symm; (have hne : w1.heap.size ≠ w3.heap.size := by omega); (have hne0 : W.heap.size ≠ w3.heap.size := by omega))
          | (go_at_call 106; (with_reducible refine (rank_any K _ (EE.out.base.kept (by (repeat (first | (with_reducible exact Fr.refl _ _) | (with_reducible refine Fr.alloc ?_ _) | (with_reducible refine Fr.drewN ?_ _) | (with_reducible refine Fr.drew ?_) | (with_reducible refine Fr.set ?_ ?_ _ _; rotate_left; first | exact .inl rfl | (right; simp; done) | (right; simp; omega) | (right; omega)) | (with_reducible refine Fr.step ?_ (by assumption)) | (with_reducible refine Fr.stepB ?_ (by assumption)))))).laid.tab).mono ?_); rw [HM.out]; rintro e' w4 ⟨rfl, rfl⟩)
          | (go_at_call 55; (with_reducible refine (hIHx.out.badE _ bad2 at2 (EE.out.kept (by (repeat (first | (with_reducible exact Fr.refl _ _) | (with_reducible refine Fr.alloc ?_ _) | (with_reducible refine Fr.drewN ?_ _) | (with_reducible refine Fr.drew ?_) | (with_reducible refine Fr.set ?_ ?_ _ _; rotate_left; first | exact .inl rfl | (right; simp; done) | (right; simp; omega) | (right; omega)) | (with_reducible refine Fr.step ?_ (by assumption)) | (with_reducible refine Fr.stepB ?_ (by assumption)))))) (by (unfold StAt; rw [← HKK.out]; (repeat (first | (with_reducible exact (hR3.out.set1 _)) | (with_reducible refine RdAt.alloc ?_ _) | (with_reducible refine RdAt.drewN ?_ _) | (with_reducible refine RdAt.drew ?_) | (with_reducible refine RdAt.setO ?_ (by first | assumption | omega) _ _) | (with_reducible refine RdAt.kept ?_ (by assumption))))))).mono ?_); rintro e' w5 ⟨hf5, ⟨jk, jo, jn, jm, jp, jl, jc, ja, rfl⟩, nx, oq, hs5⟩; have hz5 := Fr.size hf5; (try simp at hz5); have hFW5 : Hid (Fr (some rb) W w5) := Lib.hid (by (repeat (first | (with_reducible exact Fr.refl _ _) | (with_reducible refine Fr.alloc ?_ _) | (with_reducible refine Fr.drewN ?_ _) | (with_reducible refine Fr.drew ?_) | (with_reducible refine Fr.set ?_ ?_ _ _; rotate_left; first | exact .inl rfl | (right; simp; done) | (right; simp; omega) | (right; omega)) | (with_reducible refine Fr.step ?_ (by assumption)) | (with_reducible refine Fr.stepB ?_ (by assumption))))); have BR5 : Hid (Blk w5 W.heap.size (.int .i64 0) (.int .i64 0) (.int .i64 0) (.string ⟨#[]⟩) (.slice none 0 0) (.int .i64 0)) := Lib.hid (Blk.fr (by (repeat (first | (with_reducible exact BR3.out) | (with_reducible refine Blk.alloc ?_ _) | (with_reducible refine Blk.drewN ?_ _) | (with_reducible refine Blk.drew ?_) | (with_reducible refine Blk.setO ?_ ?_ _ _; rotate_left; first | assumption | omega | (simp; omega)) | (with_reducible refine Blk.fr ?_ (by assumption) (by first | assumption | omega)) | (with_reducible refine Blk.stay ?_ (by assumption))))) hf5 hnb2); have BL5 : Hid (Blk w5 w1.heap.size (.int .i64 left.k) (.int .i64 left.op) (.int .i64 left.n) (.string (bstr left.nm)) (.slice p q c) (.int .i64 left.a)) := Lib.hid (Blk.fr (by (repeat (first | (with_reducible exact BL3.out) | (with_reducible refine Blk.alloc ?_ _) | (with_reducible refine Blk.drewN ?_ _) | (with_reducible refine Blk.drew ?_) | (with_reducible refine Blk.setO ?_ ?_ _ _; rotate_left; first | assumption | omega | (simp; omega)) | (with_reducible refine Blk.fr ?_ (by assumption) (by first | assumption | omega)) | (with_reducible refine Blk.stay ?_ (by assumption))))) hf5 hb6); have B10 : Hid (Blk w5 w3.heap.size (.int .i64 0) (.int .i64 0) (.int .i64 0) (.string ⟨#[]⟩) (.slice none 0 0) (.int .i64 0)) := Lib.hid (Blk.fr (Blk.new (X := World.setCell _ _ _) (by simp) _ _ _ _ _ _) hf5 hnr3'); obtain ⟨blx, c0x, c1x, c2x, c3x, c4x, c5x, f0x, f1x, f2x, f3x, f4x, f5x⟩ := (B10.out).facts; obtain ⟨bll, c0l, c1l, c2l, c3l, c4l, c5l, f0l, f1l, f2l, f3l, f4l, f5l⟩ := (BL5.out).facts; have hq5 := Nat.ne_of_lt blx; have hq6 := Nat.ne_of_lt bll))
        have hb60' := hb60.symm
        have hfx := BL5.out.facts.1
        go_roundw
        case rel =>
          refine ⟨(((((((((((((hFW5.out.set (.inr (by omega)) _ _).set (.inr (by omega)) _ _).set (.inr (by omega)) _ _).set (.inr (by omega)) _ _).set (.inr (by omega)) _ _).set (.inr (by omega)) _ _).set (.inr (by omega)) _ _).set (.inr (by omega)) _ _).set (.inr (by omega)) _ _).set (.inr (by omega)) _ _).set (.inr (by omega)) _ _).set (.inr (by omega)) _ _).alloc _), by simp; omega, (((((((((((((BR5.out.setO hne0 0 _).setO hne0 1 _).setO hne0 2 _).setO hne0 3 _).setO hne0 4 _).setO hne0 5 _).setO hb60' 0 _).setO hb60' 1 _).setO hb60' 2 _).setO hb60' 3 _).setO hb60' 4 _).setO hb60' 5 _).alloc _), .inr ⟨6, K, 0, ⟨#[]⟩, some ⟨w5.heap.size, 0, none⟩, 2, 2, left.a, ec, ea, nx, oq, rfl, ((((((((BL5.out.setO hne 0 _).setO hne 1 _).setO hne 2 _).setO hne 3 _).setO hne 4 _).setO hne 5 _).all _ _ _ _ _ _).alloc _), rfl, ?_⟩⟩
          (repeat (first | (with_reducible exact hs5) | (with_reducible refine RdAt.alloc ?_ _) | (with_reducible refine RdAt.drewN ?_ _) | (with_reducible refine RdAt.drew ?_) | (with_reducible refine RdAt.setO ?_ (by first | assumption | omega) _ _) | (with_reducible refine RdAt.kept ?_ (by assumption))))
        case measure =>
          simp [msE]
    · have HBL := Lib.hid hBL
      obtain ⟨blr, c0r, c1r, c2r, c3r, c4r, c5r, f0r, f1r, f2r, f3r, f4r, f5r⟩ := (HBR.out).facts
      obtain ⟨bll, c0l, c1l, c2l, c3l, c4l, c5l, f0l, f1l, f2l, f3l, f4l, f5l⟩ := (HBL.out).facts
      go_wp2
      refine bodyPost_ret (results_blk (n := W.heap.size) (v0 := .int .i64 k) (v1 := .int .i64 o') (v2 := .int .i64 n) (v3 := .string nm) (v4 := .slice p q c) (v5 := .int .i64 a) Tryz.results55 _ _ rfl rfl (HBR.out.all _ _ _ _ _ _)) rfl ⟨by exact ((((((hFW.set (.inr (Nat.le_refl _)) _ _).set (.inr (Nat.le_refl _)) _ _).set (.inr (Nat.le_refl _)) _ _).set (.inr (Nat.le_refl _)) _ _).set (.inr (Nat.le_refl _)) _ _).set (.inr (Nat.le_refl _)) _ _), ?_⟩
      rw [hres]
      refine ended_bad (nx := nx) (op := oq) (Junk.of _ _ _ _ _ _ _ _) ?_
      (repeat (first | (with_reducible exact hS) | (with_reducible refine RdAt.alloc ?_ _) | (with_reducible refine RdAt.drewN ?_ _) | (with_reducible refine RdAt.drew ?_) | (with_reducible refine RdAt.setO ?_ (by first | assumption | omega) _ _) | (with_reducible refine RdAt.kept ?_ (by assumption))))

end Go.Proofs.YtngfbpmabdmkeaaGreatDoor
