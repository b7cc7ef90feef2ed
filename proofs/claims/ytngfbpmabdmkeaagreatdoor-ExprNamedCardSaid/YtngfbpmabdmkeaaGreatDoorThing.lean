/- One thing, by what its first word begins. -/
import Derived.Test.YtngfbpmabdmkeaaGreatDoorClo
namespace Go.Proofs.YtngfbpmabdmkeaaGreatDoor
open Go Go.RowKit

/-- How a word is looked up. -/
def Begins (x : Wd) (kk : Int) (tt : ByteArray) : Prop := ∀ w : World, Calls Tryz.prog 134 #[.agg #[.int .i64 x.k, .string (bstr x.t), .int .i64 x.n, .int .i64 x.a]] w fun e w' => e = .returned (opnV kk tt) ∧ Below w.heap.size w w'
theorem Begins.out {x : Wd} {kk : Int} {tt : ByteArray} (h : Begins x kk tt) (w : World) : Calls Tryz.prog 134 #[.agg #[.int .i64 x.k, .string (bstr x.t), .int .i64 x.n, .int .i64 x.a]] w fun e w' => e = .returned (opnV kk tt) ∧ Below w.heap.size w w' := h w

/-- Up to the look-up: what stands in the slots, and that nothing has turned. -/
def Looks (kk : Int) (tt : ByteArray) (mb bx : Nat) (fv : Value) (b : Bool) : Prop := ∀ X : World, BegMap X mb bx → (Instr.lookup 122 (.map (some mb)) (opnV kk tt) true).run Tryz.prog X = .ok (.tuple #[fv, .bool b]) X
theorem Looks.out {kk : Int} {tt : ByteArray} {mb bx : Nat} {fv : Value} {b : Bool} (h : Looks kk tt mb bx fv b) (X : World) (hX : BegMap X mb bx) : (Instr.lookup 122 (.map (some mb)) (opnV kk tt) true).run Tryz.prog X = .ok (.tuple #[fv, .bool b]) X := h X hX

set_option maxRecDepth 100000 in
set_option maxHeartbeats 2000000 in
theorem thing_ok (rb g cap mb bx : Nat) (ws : List Wd) (o : Nat) (w : Wd) (ts : List Wd) (hs : (w :: ts) <:+ ws) (kk : Int) (tt : ByteArray) (hB : Hid (Begins w kk tt)) (fv : Nat) (ts' : List Wd) (x : Ex) (hL : Hid (Looks kk tt mb bx (.func (.func fv) #[] #[.pointer (some ⟨bx, 0, none⟩)]) true)) (hfv : ∀ args w, (callFunc fv args).run Tryz.prog w = .ok (.enter fv args) w) (hS : Hid (Snd Junk rb g cap mb bx ws fv #[.pointer (some ⟨bx, 0, none⟩)] o (w :: ts) (.ok x ts'))) :
    Goal rb g cap mb bx ws .thing o (w :: ts) (.ok x ts') := by
  intro W bad at' E S
  have hrl := S.lt
  have hnb2 : W.heap.size ≠ rb := by omega
  have hnb := hnb2.symm
  have R := Lib.hid (S.rdr E hs)
  have EE := Lib.hid E
  have SS := Lib.hid S
  obtain ⟨i, hi⟩ : ∃ i, i = ws.length - (w :: ts).length := ⟨_, rfl⟩
  rw [← hi] at R
  have hm := Lib.hid E.ne2
  obtain ⟨q0, q1, q2, q3, q4, q5⟩ := R.out.rd.cells
  clear hi E S q0 q1 q2 q4 q5
  go_enter Tryz.func104, Tryz.ntmps104
  go_wp2
  go_cut [4, 5] from 6 (fun fn is X => fn = .func (.func fv) #[] #[.pointer (some ⟨bx, 0, none⟩)] ∧ is = .bool true ∧ Below W.heap.size W X ∧ Blk X W.heap.size (.int .i64 0) (.int .i64 0) (.int .i64 0) (.string ⟨#[]⟩) (.slice none 0 0) (.int .i64 0))
  case first =>
    go_region_with (first
      | (go_at_call 99; (with_reducible refine (word_any rb g cap mb ws i w _ bad at' _ (R.out.kept (by (refine Fr.below ?_; (repeat (first | (with_reducible exact Fr.refl _ _) | (with_reducible refine Fr.alloc ?_ _) | (with_reducible refine Fr.drewN ?_ _) | (with_reducible refine Fr.drew ?_) | (with_reducible refine Fr.set ?_ ?_ _ _; rotate_left; first | exact .inl rfl | (right; simp; done) | (right; simp; omega) | (right; omega)) | (with_reducible refine Fr.step ?_ (by assumption)) | (with_reducible refine Fr.stepB ?_ (by assumption)))))))).mono ?_); rintro e' w1 ⟨rfl, hb1⟩; have q31 : w1.cell? ⟨rb, 3, none⟩ = some (.map (some mb)) := (hb1.cell (p := ⟨rb, 3, none⟩) (by simp; omega)).trans (by (try simp [go_sem]); exact cell_old q3 _); have BR1 : Hid (Blk w1 W.heap.size (.int .i64 0) (.int .i64 0) (.int .i64 0) (.string ⟨#[]⟩) (.slice none 0 0) (.int .i64 0)) := Lib.hid (Blk.stay (by ((repeat (first | (with_reducible exact (Blk.new rfl (.int .i64 0) (.int .i64 0) (.int .i64 0) (.string ⟨#[]⟩) (.slice none 0 0) (.int .i64 0))) | (with_reducible refine Blk.alloc ?_ _) | (with_reducible refine Blk.drewN ?_ _) | (with_reducible refine Blk.drew ?_) | (with_reducible refine Blk.setO ?_ ?_ _ _; rotate_left; first | assumption | omega | (simp; omega)) | (with_reducible refine Blk.fr ?_ (by assumption) (by first | assumption | omega)) | (with_reducible refine Blk.stay ?_ (by assumption)))))) hb1); have HF1 : Hid (Below W.heap.size W w1) := Lib.hid (by (refine Fr.below ?_; (repeat (first | (with_reducible exact Fr.refl _ _) | (with_reducible refine Fr.alloc ?_ _) | (with_reducible refine Fr.drewN ?_ _) | (with_reducible refine Fr.drew ?_) | (with_reducible refine Fr.set ?_ ?_ _ _; rotate_left; first | exact .inl rfl | (right; simp; done) | (right; simp; omega) | (right; omega)) | (with_reducible refine Fr.step ?_ (by assumption)) | (with_reducible refine Fr.stepB ?_ (by assumption)))))); clear hb1)
      | (go_at_call 134; (with_reducible refine (hB.out.out _).mono ?_); rintro e' w2 ⟨rfl, hb2⟩; have q32 : w2.cell? ⟨rb, 3, none⟩ = some (.map (some mb)) := (hb2.cell (p := ⟨rb, 3, none⟩) (block_lt_of_cell q31)).trans q31; have BR2 : Hid (Blk w2 W.heap.size (.int .i64 0) (.int .i64 0) (.int .i64 0) (.string ⟨#[]⟩) (.slice none 0 0) (.int .i64 0)) := Lib.hid (BR1.out.stay hb2); have HF2 : Hid (Below W.heap.size W w2) := Lib.hid (HF1.out.trans (hb2.mono HF1.out.size)); have hlk := hL.out.out w2 (EE.out.map.kept (fun k hk _ => HF2.out.block k hk)); clear hb2))
    all_goals (go_wp2_with fail; go_meet; exact ⟨rfl, rfl, HF2.out, BR2.out⟩)
  case rest =>
    obtain ⟨rfl, rfl, hbX, BX⟩ := hcut
    have BX := Lib.hid BX
    go_wp2_with ((with_reducible refine (hS.out.ok _ bad at' (EE.out.kept (by (repeat (first | (with_reducible exact Fr.refl _ _) | (with_reducible refine Fr.alloc ?_ _) | (with_reducible refine Fr.drewN ?_ _) | (with_reducible refine Fr.drew ?_) | (with_reducible refine Fr.set ?_ ?_ _ _; rotate_left; first | exact .inl rfl | (right; simp; done) | (right; simp; omega) | (right; omega)) | (with_reducible refine Fr.step ?_ (by assumption)) | (with_reducible refine Fr.stepB ?_ (by assumption)))))) (by (unfold StAt; (repeat (first | (with_reducible exact SS.out) | (with_reducible refine RdAt.alloc ?_ _) | (with_reducible refine RdAt.drewN ?_ _) | (with_reducible refine RdAt.drew ?_) | (with_reducible refine RdAt.setO ?_ (by first | assumption | omega) _ _) | (with_reducible refine RdAt.kept ?_ (by assumption))))))).mono ?_); rintro e' w3 ⟨hf3, p3, l3, c3, hx3, rfl, bad3, at3, hs3⟩; have BR3 := BX.out.fr hf3 hnb2; obtain ⟨blr, c0r, c1r, c2r, c3r, c4r, c5r, f0r, f1r, f2r, f3r, f4r, f5r⟩ := (BR3).facts)
    refine bodyPost_ret (results_blk Tryz.results104 _ _ rfl rfl (BR3.all _ _ _ _ _ _)) rfl ⟨by (repeat (first | (with_reducible exact Fr.refl _ _) | (with_reducible refine Fr.alloc ?_ _) | (with_reducible refine Fr.drewN ?_ _) | (with_reducible refine Fr.drew ?_) | (with_reducible refine Fr.set ?_ ?_ _ _; rotate_left; first | exact .inl rfl | (right; simp; done) | (right; simp; omega) | (right; omega)) | (with_reducible refine Fr.step ?_ (by assumption)) | (with_reducible refine Fr.stepB ?_ (by assumption)))), ?_⟩
    refine ended_ok (x := x) (bad := bad3) (at' := at3) ?_ ?_
    · have hlt : W.heap.size < wc.heap.size := (BX.out.facts).1
      refine IsEx.low (lo := wc.heap.size) ?_ (by omega)
      (repeat (first | (with_reducible exact hx3) | (with_reducible refine IsEx.set ?_ hlt _ _)))
    · unfold StAt
      (repeat (first | (with_reducible exact hs3) | (with_reducible refine RdAt.alloc ?_ _) | (with_reducible refine RdAt.drewN ?_ _) | (with_reducible refine RdAt.drew ?_) | (with_reducible refine RdAt.setO ?_ (by first | assumption | omega) _ _) | (with_reducible refine RdAt.kept ?_ (by assumption))))

set_option maxRecDepth 100000 in
set_option maxHeartbeats 2000000 in
theorem thing_bad (rb g cap mb bx : Nat) (ws : List Wd) (o : Nat) (w : Wd) (ts : List Wd) (hs : (w :: ts) <:+ ws) (kk : Int) (tt : ByteArray) (hB : Hid (Begins w kk tt)) (fv : Nat) (c : Int) (a : Nat) (hL : Hid (Looks kk tt mb bx (.func (.func fv) #[] #[.pointer (some ⟨bx, 0, none⟩)]) true)) (hfv : ∀ args w, (callFunc fv args).run Tryz.prog w = .ok (.enter fv args) w) (hS : Hid (Snd Junk rb g cap mb bx ws fv #[.pointer (some ⟨bx, 0, none⟩)] o (w :: ts) (.bad c a))) :
    Goal rb g cap mb bx ws .thing o (w :: ts) (.bad c a) := by
  intro W bad at' E S
  have hrl := S.lt
  have hnb2 : W.heap.size ≠ rb := by omega
  have hnb := hnb2.symm
  have R := Lib.hid (S.rdr E hs)
  have EE := Lib.hid E
  have SS := Lib.hid S
  obtain ⟨i, hi⟩ : ∃ i, i = ws.length - (w :: ts).length := ⟨_, rfl⟩
  rw [← hi] at R
  have hm := Lib.hid E.ne2
  obtain ⟨q0, q1, q2, q3, q4, q5⟩ := R.out.rd.cells
  clear hi E S q0 q1 q2 q4 q5
  go_enter Tryz.func104, Tryz.ntmps104
  go_wp2
  go_cut [4, 5] from 6 (fun fn is X => fn = .func (.func fv) #[] #[.pointer (some ⟨bx, 0, none⟩)] ∧ is = .bool true ∧ Below W.heap.size W X ∧ Blk X W.heap.size (.int .i64 0) (.int .i64 0) (.int .i64 0) (.string ⟨#[]⟩) (.slice none 0 0) (.int .i64 0))
  case first =>
    go_region_with (first
      | (go_at_call 99; (with_reducible refine (word_any rb g cap mb ws i w _ bad at' _ (R.out.kept (by (refine Fr.below ?_; (repeat (first | (with_reducible exact Fr.refl _ _) | (with_reducible refine Fr.alloc ?_ _) | (with_reducible refine Fr.drewN ?_ _) | (with_reducible refine Fr.drew ?_) | (with_reducible refine Fr.set ?_ ?_ _ _; rotate_left; first | exact .inl rfl | (right; simp; done) | (right; simp; omega) | (right; omega)) | (with_reducible refine Fr.step ?_ (by assumption)) | (with_reducible refine Fr.stepB ?_ (by assumption)))))))).mono ?_); rintro e' w1 ⟨rfl, hb1⟩; have q31 : w1.cell? ⟨rb, 3, none⟩ = some (.map (some mb)) := (hb1.cell (p := ⟨rb, 3, none⟩) (by simp; omega)).trans (by (try simp [go_sem]); exact cell_old q3 _); have BR1 : Hid (Blk w1 W.heap.size (.int .i64 0) (.int .i64 0) (.int .i64 0) (.string ⟨#[]⟩) (.slice none 0 0) (.int .i64 0)) := Lib.hid (Blk.stay (by ((repeat (first | (with_reducible exact (Blk.new rfl (.int .i64 0) (.int .i64 0) (.int .i64 0) (.string ⟨#[]⟩) (.slice none 0 0) (.int .i64 0))) | (with_reducible refine Blk.alloc ?_ _) | (with_reducible refine Blk.drewN ?_ _) | (with_reducible refine Blk.drew ?_) | (with_reducible refine Blk.setO ?_ ?_ _ _; rotate_left; first | assumption | omega | (simp; omega)) | (with_reducible refine Blk.fr ?_ (by assumption) (by first | assumption | omega)) | (with_reducible refine Blk.stay ?_ (by assumption)))))) hb1); have HF1 : Hid (Below W.heap.size W w1) := Lib.hid (by (refine Fr.below ?_; (repeat (first | (with_reducible exact Fr.refl _ _) | (with_reducible refine Fr.alloc ?_ _) | (with_reducible refine Fr.drewN ?_ _) | (with_reducible refine Fr.drew ?_) | (with_reducible refine Fr.set ?_ ?_ _ _; rotate_left; first | exact .inl rfl | (right; simp; done) | (right; simp; omega) | (right; omega)) | (with_reducible refine Fr.step ?_ (by assumption)) | (with_reducible refine Fr.stepB ?_ (by assumption)))))); clear hb1)
      | (go_at_call 134; (with_reducible refine (hB.out.out _).mono ?_); rintro e' w2 ⟨rfl, hb2⟩; have q32 : w2.cell? ⟨rb, 3, none⟩ = some (.map (some mb)) := (hb2.cell (p := ⟨rb, 3, none⟩) (block_lt_of_cell q31)).trans q31; have BR2 : Hid (Blk w2 W.heap.size (.int .i64 0) (.int .i64 0) (.int .i64 0) (.string ⟨#[]⟩) (.slice none 0 0) (.int .i64 0)) := Lib.hid (BR1.out.stay hb2); have HF2 : Hid (Below W.heap.size W w2) := Lib.hid (HF1.out.trans (hb2.mono HF1.out.size)); have hlk := hL.out.out w2 (EE.out.map.kept (fun k hk _ => HF2.out.block k hk)); clear hb2))
    all_goals (go_wp2_with fail; go_meet; exact ⟨rfl, rfl, HF2.out, BR2.out⟩)
  case rest =>
    obtain ⟨rfl, rfl, hbX, BX⟩ := hcut
    have BX := Lib.hid BX
    go_wp2_with ((with_reducible refine (hS.out.badE _ bad at' (EE.out.kept (by (repeat (first | (with_reducible exact Fr.refl _ _) | (with_reducible refine Fr.alloc ?_ _) | (with_reducible refine Fr.drewN ?_ _) | (with_reducible refine Fr.drew ?_) | (with_reducible refine Fr.set ?_ ?_ _ _; rotate_left; first | exact .inl rfl | (right; simp; done) | (right; simp; omega) | (right; omega)) | (with_reducible refine Fr.step ?_ (by assumption)) | (with_reducible refine Fr.stepB ?_ (by assumption)))))) (by (unfold StAt; (repeat (first | (with_reducible exact SS.out) | (with_reducible refine RdAt.alloc ?_ _) | (with_reducible refine RdAt.drewN ?_ _) | (with_reducible refine RdAt.drew ?_) | (with_reducible refine RdAt.setO ?_ (by first | assumption | omega) _ _) | (with_reducible refine RdAt.kept ?_ (by assumption))))))).mono ?_); rintro e' w3 ⟨hf3, ⟨jk, jo, jn, jm, jp, jl, jc, ja, rfl⟩, nx, oq, hs3⟩; have BR3 := BX.out.fr hf3 hnb2; obtain ⟨blr, c0r, c1r, c2r, c3r, c4r, c5r, f0r, f1r, f2r, f3r, f4r, f5r⟩ := (BR3).facts)
    refine bodyPost_ret (results_blk Tryz.results104 _ _ rfl rfl (BR3.all _ _ _ _ _ _)) rfl ⟨by (repeat (first | (with_reducible exact Fr.refl _ _) | (with_reducible refine Fr.alloc ?_ _) | (with_reducible refine Fr.drewN ?_ _) | (with_reducible refine Fr.drew ?_) | (with_reducible refine Fr.set ?_ ?_ _ _; rotate_left; first | exact .inl rfl | (right; simp; done) | (right; simp; omega) | (right; omega)) | (with_reducible refine Fr.step ?_ (by assumption)) | (with_reducible refine Fr.stepB ?_ (by assumption)))), ?_⟩
    refine ended_bad (nx := nx) (op := oq) (Junk.of _ _ _ _ _ _ _ _) ?_
    (repeat (first | (with_reducible exact hs3) | (with_reducible refine RdAt.alloc ?_ _) | (with_reducible refine RdAt.drewN ?_ _) | (with_reducible refine RdAt.drew ?_) | (with_reducible refine RdAt.setO ?_ (by first | assumption | omega) _ _) | (with_reducible refine RdAt.kept ?_ (by assumption))))

set_option maxRecDepth 100000 in
set_option maxHeartbeats 2000000 in
theorem thing_stray (rb g cap mb bx : Nat) (ws : List Wd) (o : Nat) (w : Wd) (ts : List Wd) (hs : (w :: ts) <:+ ws) (kk : Int) (tt : ByteArray) (hB : Hid (Begins w kk tt)) (hL : Hid (Looks kk tt mb bx .nilFunc false)) :
    Goal rb g cap mb bx ws .thing o (w :: ts) (.bad 11 w.a) := by
  intro W bad at' E S
  have hrl := S.lt
  have hnb2 : W.heap.size ≠ rb := by omega
  have hnb := hnb2.symm
  have R := Lib.hid (S.rdr E hs)
  have EE := Lib.hid E
  have SS := Lib.hid S
  obtain ⟨i, hi⟩ : ∃ i, i = ws.length - (w :: ts).length := ⟨_, rfl⟩
  rw [← hi] at R
  have hm := Lib.hid E.ne2
  obtain ⟨q0, q1, q2, q3, q4, q5⟩ := R.out.rd.cells
  clear hi E S q0 q1 q2 q4 q5
  go_enter Tryz.func104, Tryz.ntmps104
  go_wp2
  go_cut [4, 5] from 6 (fun fn is X => fn = .nilFunc ∧ is = .bool false ∧ Below W.heap.size W X ∧ Blk X W.heap.size (.int .i64 0) (.int .i64 0) (.int .i64 0) (.string ⟨#[]⟩) (.slice none 0 0) (.int .i64 0))
  case first =>
    go_region_with (first
      | (go_at_call 99; (with_reducible refine (word_any rb g cap mb ws i w _ bad at' _ (R.out.kept (by (refine Fr.below ?_; (repeat (first | (with_reducible exact Fr.refl _ _) | (with_reducible refine Fr.alloc ?_ _) | (with_reducible refine Fr.drewN ?_ _) | (with_reducible refine Fr.drew ?_) | (with_reducible refine Fr.set ?_ ?_ _ _; rotate_left; first | exact .inl rfl | (right; simp; done) | (right; simp; omega) | (right; omega)) | (with_reducible refine Fr.step ?_ (by assumption)) | (with_reducible refine Fr.stepB ?_ (by assumption)))))))).mono ?_); rintro e' w1 ⟨rfl, hb1⟩; have q31 : w1.cell? ⟨rb, 3, none⟩ = some (.map (some mb)) := (hb1.cell (p := ⟨rb, 3, none⟩) (by simp; omega)).trans (by (try simp [go_sem]); exact cell_old q3 _); have BR1 : Hid (Blk w1 W.heap.size (.int .i64 0) (.int .i64 0) (.int .i64 0) (.string ⟨#[]⟩) (.slice none 0 0) (.int .i64 0)) := Lib.hid (Blk.stay (by ((repeat (first | (with_reducible exact (Blk.new rfl (.int .i64 0) (.int .i64 0) (.int .i64 0) (.string ⟨#[]⟩) (.slice none 0 0) (.int .i64 0))) | (with_reducible refine Blk.alloc ?_ _) | (with_reducible refine Blk.drewN ?_ _) | (with_reducible refine Blk.drew ?_) | (with_reducible refine Blk.setO ?_ ?_ _ _; rotate_left; first | assumption | omega | (simp; omega)) | (with_reducible refine Blk.fr ?_ (by assumption) (by first | assumption | omega)) | (with_reducible refine Blk.stay ?_ (by assumption)))))) hb1); have HF1 : Hid (Below W.heap.size W w1) := Lib.hid (by (refine Fr.below ?_; (repeat (first | (with_reducible exact Fr.refl _ _) | (with_reducible refine Fr.alloc ?_ _) | (with_reducible refine Fr.drewN ?_ _) | (with_reducible refine Fr.drew ?_) | (with_reducible refine Fr.set ?_ ?_ _ _; rotate_left; first | exact .inl rfl | (right; simp; done) | (right; simp; omega) | (right; omega)) | (with_reducible refine Fr.step ?_ (by assumption)) | (with_reducible refine Fr.stepB ?_ (by assumption)))))); clear hb1)
      | (go_at_call 134; (with_reducible refine (hB.out.out _).mono ?_); rintro e' w2 ⟨rfl, hb2⟩; have q32 : w2.cell? ⟨rb, 3, none⟩ = some (.map (some mb)) := (hb2.cell (p := ⟨rb, 3, none⟩) (block_lt_of_cell q31)).trans q31; have BR2 : Hid (Blk w2 W.heap.size (.int .i64 0) (.int .i64 0) (.int .i64 0) (.string ⟨#[]⟩) (.slice none 0 0) (.int .i64 0)) := Lib.hid (BR1.out.stay hb2); have HF2 : Hid (Below W.heap.size W w2) := Lib.hid (HF1.out.trans (hb2.mono HF1.out.size)); have hlk := hL.out.out w2 (EE.out.map.kept (fun k hk _ => HF2.out.block k hk)); clear hb2))
    all_goals (go_wp2_with fail; go_meet; exact ⟨rfl, rfl, HF2.out, BR2.out⟩)
  case rest =>
    obtain ⟨rfl, rfl, hbX, BX⟩ := hcut
    have BX := Lib.hid BX
    go_wp2_with (go_at_call 135; (with_reducible refine (fail_any rb g cap mb ws i w _ bad at' 11 _ (Lib.hid (R.out.kept (by (refine Fr.below ?_; (repeat (first | (with_reducible exact Fr.refl _ _) | (with_reducible refine Fr.alloc ?_ _) | (with_reducible refine Fr.drewN ?_ _) | (with_reducible refine Fr.drew ?_) | (with_reducible refine Fr.set ?_ ?_ _ _; rotate_left; first | exact .inl rfl | (right; simp; done) | (right; simp; omega) | (right; omega)) | (with_reducible refine Fr.step ?_ (by assumption)) | (with_reducible refine Fr.stepB ?_ (by assumption))))))))).mono ?_); rintro e' w3 ⟨rfl, hr3, hf3⟩; have BR3 := BX.out.fr hf3 hnb2; obtain ⟨blr, c0r, c1r, c2r, c3r, c4r, c5r, f0r, f1r, f2r, f3r, f4r, f5r⟩ := (BR3).facts)
    refine bodyPost_ret (results_blk Tryz.results104 _ _ rfl rfl (BR3.all _ _ _ _ _ _)) rfl ⟨by (repeat (first | (with_reducible exact Fr.refl _ _) | (with_reducible refine Fr.alloc ?_ _) | (with_reducible refine Fr.drewN ?_ _) | (with_reducible refine Fr.drew ?_) | (with_reducible refine Fr.set ?_ ?_ _ _; rotate_left; first | exact .inl rfl | (right; simp; done) | (right; simp; omega) | (right; omega)) | (with_reducible refine Fr.step ?_ (by assumption)) | (with_reducible refine Fr.stepB ?_ (by assumption)))), ?_⟩
    refine ended_bad (nx := i) (op := o) Junk.zero ?_
    (repeat (first | (with_reducible exact hr3) | (with_reducible refine RdAt.alloc ?_ _) | (with_reducible refine RdAt.drewN ?_ _) | (with_reducible refine RdAt.drew ?_) | (with_reducible refine RdAt.setO ?_ (by first | assumption | omega) _ _) | (with_reducible refine RdAt.kept ?_ (by assumption))))

end Go.Proofs.YtngfbpmabdmkeaaGreatDoor
