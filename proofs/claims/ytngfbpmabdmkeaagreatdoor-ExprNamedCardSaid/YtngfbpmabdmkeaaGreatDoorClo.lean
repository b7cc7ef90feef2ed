/- The functions that go on behind what begins a thing. -/
import Derived.Test.YtngfbpmabdmkeaaGreatDoorEx
import Derived.Deep.RegionWith
import Derived.Deep.Cut
namespace Go.Proofs.YtngfbpmabdmkeaaGreatDoor
open Go Go.RowKit

set_option maxRecDepth 100000 in
set_option maxHeartbeats 1000000 in
theorem clo1_ok (rb g cap mb bx : Nat) (ws : List Wd) (o : Nat) (ts : List Wd) (x : Ex) (ts' : List Wd) (h : Hid (Snd Junk rb g cap mb bx ws 93 #[.pointer (some ⟨rb, 0, none⟩), .int .i64 4] o ts (.ok x ts'))) : Snd Junk rb g cap mb bx ws 92 #[.pointer (some ⟨bx, 0, none⟩)] o ts (.ok x ts') := by
  intro W bad at' E S
  have hrl := S.lt
  have hnb2 : W.heap.size ≠ rb := by omega
  have hbx := (Array.getElem?_eq_some_iff.1 E.box).1
  have hbc : W.cell? ⟨bx, 0, none⟩ = some (.pointer (some ⟨rb, 0, none⟩)) := by rw [cell_of_row _ _ _ _ _ _ E.box]; rfl
  have hbn := Nat.ne_of_lt hbx
  have EE := Lib.hid E
  have SS := Lib.hid S
  clear E S
  go_enter Tryz.func92, Tryz.ntmps92
  go_wp2_with (go_at_call 93; (with_reducible refine (h.out.ok _ bad at' (EE.out.kept (by (repeat (first | (with_reducible exact Fr.refl _ _) | (with_reducible refine Fr.alloc ?_ _) | (with_reducible refine Fr.drewN ?_ _) | (with_reducible refine Fr.drew ?_) | (with_reducible refine Fr.set ?_ ?_ _ _; rotate_left; first | exact .inl rfl | (right; simp; done) | (right; simp; omega) | (right; omega)) | (with_reducible refine Fr.step ?_ (by assumption)) | (with_reducible refine Fr.stepB ?_ (by assumption)))))) (by (unfold StAt; (repeat (first | (with_reducible exact SS.out) | (with_reducible refine RdAt.alloc ?_ _) | (with_reducible refine RdAt.drewN ?_ _) | (with_reducible refine RdAt.drew ?_) | (with_reducible refine RdAt.setO ?_ (by first | assumption | omega) _ _) | (with_reducible refine RdAt.kept ?_ (by assumption))))))).mono ?_); rintro e' w1 ⟨hf1, p1, l1, c1, hx1, rfl, bad1, at1, hs1⟩; have BR := (Blk.new (X := W) rfl (.int .i64 0) (.int .i64 0) (.int .i64 0) (.string ⟨#[]⟩) (.slice none 0 0) (.int .i64 0)).fr hf1 hnb2; obtain ⟨blr, c0r, c1r, c2r, c3r, c4r, c5r, f0r, f1r, f2r, f3r, f4r, f5r⟩ := (BR).facts)
  refine bodyPost_ret (results_blk Tryz.results92 _ _ rfl rfl (BR.all _ _ _ _ _ _)) rfl ⟨by (repeat (first | (with_reducible exact Fr.refl _ _) | (with_reducible refine Fr.alloc ?_ _) | (with_reducible refine Fr.drewN ?_ _) | (with_reducible refine Fr.drew ?_) | (with_reducible refine Fr.set ?_ ?_ _ _; rotate_left; first | exact .inl rfl | (right; simp; done) | (right; simp; omega) | (right; omega)) | (with_reducible refine Fr.step ?_ (by assumption)) | (with_reducible refine Fr.stepB ?_ (by assumption)))), ?_⟩
  refine ended_ok (x := x) (bad := bad1) (at' := at1) ?_ ?_
  · refine IsEx.low (lo := (W.alloc (.cells #[.int .i64 0, .int .i64 0, .int .i64 0, .string ⟨#[]⟩, .slice none 0 0, .int .i64 0] 25)).heap.size) ?_ (by simp)
    (repeat (first | (with_reducible exact hx1) | (with_reducible refine IsEx.set ?_ (by simp) _ _)))
  · unfold StAt
    (repeat (first | (with_reducible exact hs1) | (with_reducible refine RdAt.alloc ?_ _) | (with_reducible refine RdAt.drewN ?_ _) | (with_reducible refine RdAt.drew ?_) | (with_reducible refine RdAt.setO ?_ (by first | assumption | omega) _ _) | (with_reducible refine RdAt.kept ?_ (by assumption))))

set_option maxRecDepth 100000 in
set_option maxHeartbeats 1000000 in
theorem clo1_bad (rb g cap mb bx : Nat) (ws : List Wd) (o : Nat) (ts : List Wd) (c : Int) (a : Nat) (h : Hid (Snd Junk rb g cap mb bx ws 93 #[.pointer (some ⟨rb, 0, none⟩), .int .i64 4] o ts (.bad c a))) : Snd Junk rb g cap mb bx ws 92 #[.pointer (some ⟨bx, 0, none⟩)] o ts (.bad c a) := by
  intro W bad at' E S
  have hrl := S.lt
  have hnb2 : W.heap.size ≠ rb := by omega
  have hbx := (Array.getElem?_eq_some_iff.1 E.box).1
  have hbc : W.cell? ⟨bx, 0, none⟩ = some (.pointer (some ⟨rb, 0, none⟩)) := by rw [cell_of_row _ _ _ _ _ _ E.box]; rfl
  have hbn := Nat.ne_of_lt hbx
  have EE := Lib.hid E
  have SS := Lib.hid S
  clear E S
  go_enter Tryz.func92, Tryz.ntmps92
  go_wp2_with (go_at_call 93; (with_reducible refine (h.out.badE _ bad at' (EE.out.kept (by (repeat (first | (with_reducible exact Fr.refl _ _) | (with_reducible refine Fr.alloc ?_ _) | (with_reducible refine Fr.drewN ?_ _) | (with_reducible refine Fr.drew ?_) | (with_reducible refine Fr.set ?_ ?_ _ _; rotate_left; first | exact .inl rfl | (right; simp; done) | (right; simp; omega) | (right; omega)) | (with_reducible refine Fr.step ?_ (by assumption)) | (with_reducible refine Fr.stepB ?_ (by assumption)))))) (by (unfold StAt; (repeat (first | (with_reducible exact SS.out) | (with_reducible refine RdAt.alloc ?_ _) | (with_reducible refine RdAt.drewN ?_ _) | (with_reducible refine RdAt.drew ?_) | (with_reducible refine RdAt.setO ?_ (by first | assumption | omega) _ _) | (with_reducible refine RdAt.kept ?_ (by assumption))))))).mono ?_); rintro e' w1 ⟨hf1, ⟨jk, jo, jn, jm, jp, jl, jc, ja, rfl⟩, nx, oq, hs1⟩; have BR := (Blk.new (X := W) rfl (.int .i64 0) (.int .i64 0) (.int .i64 0) (.string ⟨#[]⟩) (.slice none 0 0) (.int .i64 0)).fr hf1 hnb2; obtain ⟨blr, c0r, c1r, c2r, c3r, c4r, c5r, f0r, f1r, f2r, f3r, f4r, f5r⟩ := (BR).facts)
  refine bodyPost_ret (results_blk Tryz.results92 _ _ rfl rfl (BR.all _ _ _ _ _ _)) rfl ⟨by (repeat (first | (with_reducible exact Fr.refl _ _) | (with_reducible refine Fr.alloc ?_ _) | (with_reducible refine Fr.drewN ?_ _) | (with_reducible refine Fr.drew ?_) | (with_reducible refine Fr.set ?_ ?_ _ _; rotate_left; first | exact .inl rfl | (right; simp; done) | (right; simp; omega) | (right; omega)) | (with_reducible refine Fr.step ?_ (by assumption)) | (with_reducible refine Fr.stepB ?_ (by assumption)))), ?_⟩
  refine ended_bad (nx := nx) (op := oq) (Junk.of _ _ _ _ _ _ _ _) ?_
  (repeat (first | (with_reducible exact hs1) | (with_reducible refine RdAt.alloc ?_ _) | (with_reducible refine RdAt.drewN ?_ _) | (with_reducible refine RdAt.drew ?_) | (with_reducible refine RdAt.setO ?_ (by first | assumption | omega) _ _) | (with_reducible refine RdAt.kept ?_ (by assumption))))

set_option maxRecDepth 100000 in
set_option maxHeartbeats 1000000 in
theorem clo2_ok (rb g cap mb bx : Nat) (ws : List Wd) (o : Nat) (ts : List Wd) (x : Ex) (ts' : List Wd) (h : Hid (Snd Junk rb g cap mb bx ws 93 #[.pointer (some ⟨rb, 0, none⟩), .int .i64 5] o ts (.ok x ts'))) : Snd Junk rb g cap mb bx ws 94 #[.pointer (some ⟨bx, 0, none⟩)] o ts (.ok x ts') := by
  intro W bad at' E S
  have hrl := S.lt
  have hnb2 : W.heap.size ≠ rb := by omega
  have hbx := (Array.getElem?_eq_some_iff.1 E.box).1
  have hbc : W.cell? ⟨bx, 0, none⟩ = some (.pointer (some ⟨rb, 0, none⟩)) := by rw [cell_of_row _ _ _ _ _ _ E.box]; rfl
  have hbn := Nat.ne_of_lt hbx
  have EE := Lib.hid E
  have SS := Lib.hid S
  clear E S
  go_enter Tryz.func94, Tryz.ntmps94
  go_wp2_with (go_at_call 93; (with_reducible refine (h.out.ok _ bad at' (EE.out.kept (by (repeat (first | (with_reducible exact Fr.refl _ _) | (with_reducible refine Fr.alloc ?_ _) | (with_reducible refine Fr.drewN ?_ _) | (with_reducible refine Fr.drew ?_) | (with_reducible refine Fr.set ?_ ?_ _ _; rotate_left; first | exact .inl rfl | (right; simp; done) | (right; simp; omega) | (right; omega)) | (with_reducible refine Fr.step ?_ (by assumption)) | (with_reducible refine Fr.stepB ?_ (by assumption)))))) (by (unfold StAt; (repeat (first | (with_reducible exact SS.out) | (with_reducible refine RdAt.alloc ?_ _) | (with_reducible refine RdAt.drewN ?_ _) | (with_reducible refine RdAt.drew ?_) | (with_reducible refine RdAt.setO ?_ (by first | assumption | omega) _ _) | (with_reducible refine RdAt.kept ?_ (by assumption))))))).mono ?_); rintro e' w1 ⟨hf1, p1, l1, c1, hx1, rfl, bad1, at1, hs1⟩; have BR := (Blk.new (X := W) rfl (.int .i64 0) (.int .i64 0) (.int .i64 0) (.string ⟨#[]⟩) (.slice none 0 0) (.int .i64 0)).fr hf1 hnb2; obtain ⟨blr, c0r, c1r, c2r, c3r, c4r, c5r, f0r, f1r, f2r, f3r, f4r, f5r⟩ := (BR).facts)
  refine bodyPost_ret (results_blk Tryz.results94 _ _ rfl rfl (BR.all _ _ _ _ _ _)) rfl ⟨by (repeat (first | (with_reducible exact Fr.refl _ _) | (with_reducible refine Fr.alloc ?_ _) | (with_reducible refine Fr.drewN ?_ _) | (with_reducible refine Fr.drew ?_) | (with_reducible refine Fr.set ?_ ?_ _ _; rotate_left; first | exact .inl rfl | (right; simp; done) | (right; simp; omega) | (right; omega)) | (with_reducible refine Fr.step ?_ (by assumption)) | (with_reducible refine Fr.stepB ?_ (by assumption)))), ?_⟩
  refine ended_ok (x := x) (bad := bad1) (at' := at1) ?_ ?_
  · refine IsEx.low (lo := (W.alloc (.cells #[.int .i64 0, .int .i64 0, .int .i64 0, .string ⟨#[]⟩, .slice none 0 0, .int .i64 0] 25)).heap.size) ?_ (by simp)
    (repeat (first | (with_reducible exact hx1) | (with_reducible refine IsEx.set ?_ (by simp) _ _)))
  · unfold StAt
    (repeat (first | (with_reducible exact hs1) | (with_reducible refine RdAt.alloc ?_ _) | (with_reducible refine RdAt.drewN ?_ _) | (with_reducible refine RdAt.drew ?_) | (with_reducible refine RdAt.setO ?_ (by first | assumption | omega) _ _) | (with_reducible refine RdAt.kept ?_ (by assumption))))

set_option maxRecDepth 100000 in
set_option maxHeartbeats 1000000 in
theorem clo2_bad (rb g cap mb bx : Nat) (ws : List Wd) (o : Nat) (ts : List Wd) (c : Int) (a : Nat) (h : Hid (Snd Junk rb g cap mb bx ws 93 #[.pointer (some ⟨rb, 0, none⟩), .int .i64 5] o ts (.bad c a))) : Snd Junk rb g cap mb bx ws 94 #[.pointer (some ⟨bx, 0, none⟩)] o ts (.bad c a) := by
  intro W bad at' E S
  have hrl := S.lt
  have hnb2 : W.heap.size ≠ rb := by omega
  have hbx := (Array.getElem?_eq_some_iff.1 E.box).1
  have hbc : W.cell? ⟨bx, 0, none⟩ = some (.pointer (some ⟨rb, 0, none⟩)) := by rw [cell_of_row _ _ _ _ _ _ E.box]; rfl
  have hbn := Nat.ne_of_lt hbx
  have EE := Lib.hid E
  have SS := Lib.hid S
  clear E S
  go_enter Tryz.func94, Tryz.ntmps94
  go_wp2_with (go_at_call 93; (with_reducible refine (h.out.badE _ bad at' (EE.out.kept (by (repeat (first | (with_reducible exact Fr.refl _ _) | (with_reducible refine Fr.alloc ?_ _) | (with_reducible refine Fr.drewN ?_ _) | (with_reducible refine Fr.drew ?_) | (with_reducible refine Fr.set ?_ ?_ _ _; rotate_left; first | exact .inl rfl | (right; simp; done) | (right; simp; omega) | (right; omega)) | (with_reducible refine Fr.step ?_ (by assumption)) | (with_reducible refine Fr.stepB ?_ (by assumption)))))) (by (unfold StAt; (repeat (first | (with_reducible exact SS.out) | (with_reducible refine RdAt.alloc ?_ _) | (with_reducible refine RdAt.drewN ?_ _) | (with_reducible refine RdAt.drew ?_) | (with_reducible refine RdAt.setO ?_ (by first | assumption | omega) _ _) | (with_reducible refine RdAt.kept ?_ (by assumption))))))).mono ?_); rintro e' w1 ⟨hf1, ⟨jk, jo, jn, jm, jp, jl, jc, ja, rfl⟩, nx, oq, hs1⟩; have BR := (Blk.new (X := W) rfl (.int .i64 0) (.int .i64 0) (.int .i64 0) (.string ⟨#[]⟩) (.slice none 0 0) (.int .i64 0)).fr hf1 hnb2; obtain ⟨blr, c0r, c1r, c2r, c3r, c4r, c5r, f0r, f1r, f2r, f3r, f4r, f5r⟩ := (BR).facts)
  refine bodyPost_ret (results_blk Tryz.results94 _ _ rfl rfl (BR.all _ _ _ _ _ _)) rfl ⟨by (repeat (first | (with_reducible exact Fr.refl _ _) | (with_reducible refine Fr.alloc ?_ _) | (with_reducible refine Fr.drewN ?_ _) | (with_reducible refine Fr.drew ?_) | (with_reducible refine Fr.set ?_ ?_ _ _; rotate_left; first | exact .inl rfl | (right; simp; done) | (right; simp; omega) | (right; omega)) | (with_reducible refine Fr.step ?_ (by assumption)) | (with_reducible refine Fr.stepB ?_ (by assumption)))), ?_⟩
  refine ended_bad (nx := nx) (op := oq) (Junk.of _ _ _ _ _ _ _ _) ?_
  (repeat (first | (with_reducible exact hs1) | (with_reducible refine RdAt.alloc ?_ _) | (with_reducible refine RdAt.drewN ?_ _) | (with_reducible refine RdAt.drew ?_) | (with_reducible refine RdAt.setO ?_ (by first | assumption | omega) _ _) | (with_reducible refine RdAt.kept ?_ (by assumption))))

set_option maxRecDepth 100000 in
set_option maxHeartbeats 1000000 in
theorem clo3_ok (rb g cap mb bx : Nat) (ws : List Wd) (o : Nat) (ts : List Wd) (x : Ex) (ts' : List Wd) (h : Hid (Snd Junk rb g cap mb bx ws 96 #[.pointer (some ⟨rb, 0, none⟩), .string ⟨#[41]⟩] o ts (.ok x ts'))) : Snd Junk rb g cap mb bx ws 95 #[.pointer (some ⟨bx, 0, none⟩)] o ts (.ok x ts') := by
  intro W bad at' E S
  have hrl := S.lt
  have hnb2 : W.heap.size ≠ rb := by omega
  have hbx := (Array.getElem?_eq_some_iff.1 E.box).1
  have hbc : W.cell? ⟨bx, 0, none⟩ = some (.pointer (some ⟨rb, 0, none⟩)) := by rw [cell_of_row _ _ _ _ _ _ E.box]; rfl
  have hbn := Nat.ne_of_lt hbx
  have EE := Lib.hid E
  have SS := Lib.hid S
  clear E S
  go_enter Tryz.func95, Tryz.ntmps95
  go_wp2_with (go_at_call 96; (with_reducible refine (h.out.ok _ bad at' (EE.out.kept (by (repeat (first | (with_reducible exact Fr.refl _ _) | (with_reducible refine Fr.alloc ?_ _) | (with_reducible refine Fr.drewN ?_ _) | (with_reducible refine Fr.drew ?_) | (with_reducible refine Fr.set ?_ ?_ _ _; rotate_left; first | exact .inl rfl | (right; simp; done) | (right; simp; omega) | (right; omega)) | (with_reducible refine Fr.step ?_ (by assumption)) | (with_reducible refine Fr.stepB ?_ (by assumption)))))) (by (unfold StAt; (repeat (first | (with_reducible exact SS.out) | (with_reducible refine RdAt.alloc ?_ _) | (with_reducible refine RdAt.drewN ?_ _) | (with_reducible refine RdAt.drew ?_) | (with_reducible refine RdAt.setO ?_ (by first | assumption | omega) _ _) | (with_reducible refine RdAt.kept ?_ (by assumption))))))).mono ?_); rintro e' w1 ⟨hf1, p1, l1, c1, hx1, rfl, bad1, at1, hs1⟩; have BR := (Blk.new (X := W) rfl (.int .i64 0) (.int .i64 0) (.int .i64 0) (.string ⟨#[]⟩) (.slice none 0 0) (.int .i64 0)).fr hf1 hnb2; obtain ⟨blr, c0r, c1r, c2r, c3r, c4r, c5r, f0r, f1r, f2r, f3r, f4r, f5r⟩ := (BR).facts)
  refine bodyPost_ret (results_blk Tryz.results95 _ _ rfl rfl (BR.all _ _ _ _ _ _)) rfl ⟨by (repeat (first | (with_reducible exact Fr.refl _ _) | (with_reducible refine Fr.alloc ?_ _) | (with_reducible refine Fr.drewN ?_ _) | (with_reducible refine Fr.drew ?_) | (with_reducible refine Fr.set ?_ ?_ _ _; rotate_left; first | exact .inl rfl | (right; simp; done) | (right; simp; omega) | (right; omega)) | (with_reducible refine Fr.step ?_ (by assumption)) | (with_reducible refine Fr.stepB ?_ (by assumption)))), ?_⟩
  refine ended_ok (x := x) (bad := bad1) (at' := at1) ?_ ?_
  · refine IsEx.low (lo := (W.alloc (.cells #[.int .i64 0, .int .i64 0, .int .i64 0, .string ⟨#[]⟩, .slice none 0 0, .int .i64 0] 25)).heap.size) ?_ (by simp)
    (repeat (first | (with_reducible exact hx1) | (with_reducible refine IsEx.set ?_ (by simp) _ _)))
  · unfold StAt
    (repeat (first | (with_reducible exact hs1) | (with_reducible refine RdAt.alloc ?_ _) | (with_reducible refine RdAt.drewN ?_ _) | (with_reducible refine RdAt.drew ?_) | (with_reducible refine RdAt.setO ?_ (by first | assumption | omega) _ _) | (with_reducible refine RdAt.kept ?_ (by assumption))))

set_option maxRecDepth 100000 in
set_option maxHeartbeats 1000000 in
theorem clo3_bad (rb g cap mb bx : Nat) (ws : List Wd) (o : Nat) (ts : List Wd) (c : Int) (a : Nat) (h : Hid (Snd Junk rb g cap mb bx ws 96 #[.pointer (some ⟨rb, 0, none⟩), .string ⟨#[41]⟩] o ts (.bad c a))) : Snd Junk rb g cap mb bx ws 95 #[.pointer (some ⟨bx, 0, none⟩)] o ts (.bad c a) := by
  intro W bad at' E S
  have hrl := S.lt
  have hnb2 : W.heap.size ≠ rb := by omega
  have hbx := (Array.getElem?_eq_some_iff.1 E.box).1
  have hbc : W.cell? ⟨bx, 0, none⟩ = some (.pointer (some ⟨rb, 0, none⟩)) := by rw [cell_of_row _ _ _ _ _ _ E.box]; rfl
  have hbn := Nat.ne_of_lt hbx
  have EE := Lib.hid E
  have SS := Lib.hid S
  clear E S
  go_enter Tryz.func95, Tryz.ntmps95
  go_wp2_with (go_at_call 96; (with_reducible refine (h.out.badE _ bad at' (EE.out.kept (by (repeat (first | (with_reducible exact Fr.refl _ _) | (with_reducible refine Fr.alloc ?_ _) | (with_reducible refine Fr.drewN ?_ _) | (with_reducible refine Fr.drew ?_) | (with_reducible refine Fr.set ?_ ?_ _ _; rotate_left; first | exact .inl rfl | (right; simp; done) | (right; simp; omega) | (right; omega)) | (with_reducible refine Fr.step ?_ (by assumption)) | (with_reducible refine Fr.stepB ?_ (by assumption)))))) (by (unfold StAt; (repeat (first | (with_reducible exact SS.out) | (with_reducible refine RdAt.alloc ?_ _) | (with_reducible refine RdAt.drewN ?_ _) | (with_reducible refine RdAt.drew ?_) | (with_reducible refine RdAt.setO ?_ (by first | assumption | omega) _ _) | (with_reducible refine RdAt.kept ?_ (by assumption))))))).mono ?_); rintro e' w1 ⟨hf1, ⟨jk, jo, jn, jm, jp, jl, jc, ja, rfl⟩, nx, oq, hs1⟩; have BR := (Blk.new (X := W) rfl (.int .i64 0) (.int .i64 0) (.int .i64 0) (.string ⟨#[]⟩) (.slice none 0 0) (.int .i64 0)).fr hf1 hnb2; obtain ⟨blr, c0r, c1r, c2r, c3r, c4r, c5r, f0r, f1r, f2r, f3r, f4r, f5r⟩ := (BR).facts)
  refine bodyPost_ret (results_blk Tryz.results95 _ _ rfl rfl (BR.all _ _ _ _ _ _)) rfl ⟨by (repeat (first | (with_reducible exact Fr.refl _ _) | (with_reducible refine Fr.alloc ?_ _) | (with_reducible refine Fr.drewN ?_ _) | (with_reducible refine Fr.drew ?_) | (with_reducible refine Fr.set ?_ ?_ _ _; rotate_left; first | exact .inl rfl | (right; simp; done) | (right; simp; omega) | (right; omega)) | (with_reducible refine Fr.step ?_ (by assumption)) | (with_reducible refine Fr.stepB ?_ (by assumption)))), ?_⟩
  refine ended_bad (nx := nx) (op := oq) (Junk.of _ _ _ _ _ _ _ _) ?_
  (repeat (first | (with_reducible exact hs1) | (with_reducible refine RdAt.alloc ?_ _) | (with_reducible refine RdAt.drewN ?_ _) | (with_reducible refine RdAt.drew ?_) | (with_reducible refine RdAt.setO ?_ (by first | assumption | omega) _ _) | (with_reducible refine RdAt.kept ?_ (by assumption))))

set_option maxRecDepth 100000 in
set_option maxHeartbeats 1000000 in
theorem clo7_ok (rb g cap mb bx : Nat) (ws : List Wd) (o : Nat) (ts : List Wd) (x : Ex) (ts' : List Wd) (h : Hid (Snd Junk rb g cap mb bx ws 103 #[.pointer (some ⟨rb, 0, none⟩)] o ts (.ok x ts'))) : Snd Junk rb g cap mb bx ws 102 #[.pointer (some ⟨bx, 0, none⟩)] o ts (.ok x ts') := by
  intro W bad at' E S
  have hrl := S.lt
  have hnb2 : W.heap.size ≠ rb := by omega
  have hbx := (Array.getElem?_eq_some_iff.1 E.box).1
  have hbc : W.cell? ⟨bx, 0, none⟩ = some (.pointer (some ⟨rb, 0, none⟩)) := by rw [cell_of_row _ _ _ _ _ _ E.box]; rfl
  have hbn := Nat.ne_of_lt hbx
  have EE := Lib.hid E
  have SS := Lib.hid S
  clear E S
  go_enter Tryz.func102, Tryz.ntmps102
  go_wp2_with (go_at_call 103; (with_reducible refine (h.out.ok _ bad at' (EE.out.kept (by (repeat (first | (with_reducible exact Fr.refl _ _) | (with_reducible refine Fr.alloc ?_ _) | (with_reducible refine Fr.drewN ?_ _) | (with_reducible refine Fr.drew ?_) | (with_reducible refine Fr.set ?_ ?_ _ _; rotate_left; first | exact .inl rfl | (right; simp; done) | (right; simp; omega) | (right; omega)) | (with_reducible refine Fr.step ?_ (by assumption)) | (with_reducible refine Fr.stepB ?_ (by assumption)))))) (by (unfold StAt; (repeat (first | (with_reducible exact SS.out) | (with_reducible refine RdAt.alloc ?_ _) | (with_reducible refine RdAt.drewN ?_ _) | (with_reducible refine RdAt.drew ?_) | (with_reducible refine RdAt.setO ?_ (by first | assumption | omega) _ _) | (with_reducible refine RdAt.kept ?_ (by assumption))))))).mono ?_); rintro e' w1 ⟨hf1, p1, l1, c1, hx1, rfl, bad1, at1, hs1⟩; have BR := (Blk.new (X := W) rfl (.int .i64 0) (.int .i64 0) (.int .i64 0) (.string ⟨#[]⟩) (.slice none 0 0) (.int .i64 0)).fr hf1 hnb2; obtain ⟨blr, c0r, c1r, c2r, c3r, c4r, c5r, f0r, f1r, f2r, f3r, f4r, f5r⟩ := (BR).facts)
  refine bodyPost_ret (results_blk Tryz.results102 _ _ rfl rfl (BR.all _ _ _ _ _ _)) rfl ⟨by (repeat (first | (with_reducible exact Fr.refl _ _) | (with_reducible refine Fr.alloc ?_ _) | (with_reducible refine Fr.drewN ?_ _) | (with_reducible refine Fr.drew ?_) | (with_reducible refine Fr.set ?_ ?_ _ _; rotate_left; first | exact .inl rfl | (right; simp; done) | (right; simp; omega) | (right; omega)) | (with_reducible refine Fr.step ?_ (by assumption)) | (with_reducible refine Fr.stepB ?_ (by assumption)))), ?_⟩
  refine ended_ok (x := x) (bad := bad1) (at' := at1) ?_ ?_
  · refine IsEx.low (lo := (W.alloc (.cells #[.int .i64 0, .int .i64 0, .int .i64 0, .string ⟨#[]⟩, .slice none 0 0, .int .i64 0] 25)).heap.size) ?_ (by simp)
    (repeat (first | (with_reducible exact hx1) | (with_reducible refine IsEx.set ?_ (by simp) _ _)))
  · unfold StAt
    (repeat (first | (with_reducible exact hs1) | (with_reducible refine RdAt.alloc ?_ _) | (with_reducible refine RdAt.drewN ?_ _) | (with_reducible refine RdAt.drew ?_) | (with_reducible refine RdAt.setO ?_ (by first | assumption | omega) _ _) | (with_reducible refine RdAt.kept ?_ (by assumption))))

set_option maxRecDepth 100000 in
set_option maxHeartbeats 1000000 in
theorem clo7_bad (rb g cap mb bx : Nat) (ws : List Wd) (o : Nat) (ts : List Wd) (c : Int) (a : Nat) (h : Hid (Snd Junk rb g cap mb bx ws 103 #[.pointer (some ⟨rb, 0, none⟩)] o ts (.bad c a))) : Snd Junk rb g cap mb bx ws 102 #[.pointer (some ⟨bx, 0, none⟩)] o ts (.bad c a) := by
  intro W bad at' E S
  have hrl := S.lt
  have hnb2 : W.heap.size ≠ rb := by omega
  have hbx := (Array.getElem?_eq_some_iff.1 E.box).1
  have hbc : W.cell? ⟨bx, 0, none⟩ = some (.pointer (some ⟨rb, 0, none⟩)) := by rw [cell_of_row _ _ _ _ _ _ E.box]; rfl
  have hbn := Nat.ne_of_lt hbx
  have EE := Lib.hid E
  have SS := Lib.hid S
  clear E S
  go_enter Tryz.func102, Tryz.ntmps102
  go_wp2_with (go_at_call 103; (with_reducible refine (h.out.badE _ bad at' (EE.out.kept (by (repeat (first | (with_reducible exact Fr.refl _ _) | (with_reducible refine Fr.alloc ?_ _) | (with_reducible refine Fr.drewN ?_ _) | (with_reducible refine Fr.drew ?_) | (with_reducible refine Fr.set ?_ ?_ _ _; rotate_left; first | exact .inl rfl | (right; simp; done) | (right; simp; omega) | (right; omega)) | (with_reducible refine Fr.step ?_ (by assumption)) | (with_reducible refine Fr.stepB ?_ (by assumption)))))) (by (unfold StAt; (repeat (first | (with_reducible exact SS.out) | (with_reducible refine RdAt.alloc ?_ _) | (with_reducible refine RdAt.drewN ?_ _) | (with_reducible refine RdAt.drew ?_) | (with_reducible refine RdAt.setO ?_ (by first | assumption | omega) _ _) | (with_reducible refine RdAt.kept ?_ (by assumption))))))).mono ?_); rintro e' w1 ⟨hf1, ⟨jk, jo, jn, jm, jp, jl, jc, ja, rfl⟩, nx, oq, hs1⟩; have BR := (Blk.new (X := W) rfl (.int .i64 0) (.int .i64 0) (.int .i64 0) (.string ⟨#[]⟩) (.slice none 0 0) (.int .i64 0)).fr hf1 hnb2; obtain ⟨blr, c0r, c1r, c2r, c3r, c4r, c5r, f0r, f1r, f2r, f3r, f4r, f5r⟩ := (BR).facts)
  refine bodyPost_ret (results_blk Tryz.results102 _ _ rfl rfl (BR.all _ _ _ _ _ _)) rfl ⟨by (repeat (first | (with_reducible exact Fr.refl _ _) | (with_reducible refine Fr.alloc ?_ _) | (with_reducible refine Fr.drewN ?_ _) | (with_reducible refine Fr.drew ?_) | (with_reducible refine Fr.set ?_ ?_ _ _; rotate_left; first | exact .inl rfl | (right; simp; done) | (right; simp; omega) | (right; omega)) | (with_reducible refine Fr.step ?_ (by assumption)) | (with_reducible refine Fr.stepB ?_ (by assumption)))), ?_⟩
  refine ended_bad (nx := nx) (op := oq) (Junk.of _ _ _ _ _ _ _ _) ?_
  (repeat (first | (with_reducible exact hs1) | (with_reducible refine RdAt.alloc ?_ _) | (with_reducible refine RdAt.drewN ?_ _) | (with_reducible refine RdAt.drew ?_) | (with_reducible refine RdAt.setO ?_ (by first | assumption | omega) _ _) | (with_reducible refine RdAt.kept ?_ (by assumption))))

set_option maxRecDepth 100000 in
set_option maxHeartbeats 1000000 in
theorem clo5 (rb g cap mb bx : Nat) (ws : List Wd) (o : Nat) (w : Wd) (ts : List Wd) (hs : (w :: ts) <:+ ws) : Snd Junk rb g cap mb bx ws 100 #[.pointer (some ⟨bx, 0, none⟩)] o (w :: ts) (.ok (.mk 1 0 1 [] [] w.a) ts) := by
  intro W bad at' E S
  have hrl := S.lt
  have hnb2 : W.heap.size ≠ rb := by omega
  have hbx := (Array.getElem?_eq_some_iff.1 E.box).1
  have hbc : W.cell? ⟨bx, 0, none⟩ = some (.pointer (some ⟨rb, 0, none⟩)) := by rw [cell_of_row _ _ _ _ _ _ E.box]; rfl
  have hbn := Nat.ne_of_lt hbx
  have R := Lib.hid (S.rdr E hs)
  have hlen := E.few
  have hi1 := Lib.hid (suf_at hs).2.1
  obtain ⟨i, hi⟩ : ∃ i, i = ws.length - (w :: ts).length := ⟨_, rfl⟩
  have hi0 : i < 9223372036854775807 := by omega
  rw [← hi] at R hi1
  clear E S hi hlen
  go_enter Tryz.func100, Tryz.ntmps100
  go_wp2_with (go_at_call 98; (with_reducible refine (alone_any rb g cap mb ws i w _ bad at' 1 1 _ (Lib.hid (R.out.alloc _)) hi0).mono ?_); rintro e' w1 ⟨rfl, hr1, hf1⟩; have BR := (Blk.new (X := W) rfl (.int .i64 0) (.int .i64 0) (.int .i64 0) (.string ⟨#[]⟩) (.slice none 0 0) (.int .i64 0)).fr hf1 hnb2; obtain ⟨blr, c0r, c1r, c2r, c3r, c4r, c5r, f0r, f1r, f2r, f3r, f4r, f5r⟩ := (BR).facts)
  refine bodyPost_ret (results_blk Tryz.results100 _ _ rfl rfl (BR.all _ _ _ _ _ _)) rfl ⟨by (repeat (first | (with_reducible exact Fr.refl _ _) | (with_reducible refine Fr.alloc ?_ _) | (with_reducible refine Fr.drewN ?_ _) | (with_reducible refine Fr.drew ?_) | (with_reducible refine Fr.set ?_ ?_ _ _; rotate_left; first | exact .inl rfl | (right; simp; done) | (right; simp; omega) | (right; omega)) | (with_reducible refine Fr.step ?_ (by assumption)) | (with_reducible refine Fr.stepB ?_ (by assumption)))), ?_⟩
  refine ended_ok (x := .mk 1 0 1 [] [] w.a) (bad := bad) (at' := at') .leaf ?_
  unfold StAt
  rw [← hi1.out]
  (repeat (first | (with_reducible exact hr1) | (with_reducible refine RdAt.alloc ?_ _) | (with_reducible refine RdAt.drewN ?_ _) | (with_reducible refine RdAt.drew ?_) | (with_reducible refine RdAt.setO ?_ (by first | assumption | omega) _ _) | (with_reducible refine RdAt.kept ?_ (by assumption))))

set_option maxRecDepth 100000 in
set_option maxHeartbeats 1000000 in
theorem clo6 (rb g cap mb bx : Nat) (ws : List Wd) (o : Nat) (w : Wd) (ts : List Wd) (hs : (w :: ts) <:+ ws) : Snd Junk rb g cap mb bx ws 101 #[.pointer (some ⟨bx, 0, none⟩)] o (w :: ts) (.ok (.mk 1 0 0 [] [] w.a) ts) := by
  intro W bad at' E S
  have hrl := S.lt
  have hnb2 : W.heap.size ≠ rb := by omega
  have hbx := (Array.getElem?_eq_some_iff.1 E.box).1
  have hbc : W.cell? ⟨bx, 0, none⟩ = some (.pointer (some ⟨rb, 0, none⟩)) := by rw [cell_of_row _ _ _ _ _ _ E.box]; rfl
  have hbn := Nat.ne_of_lt hbx
  have R := Lib.hid (S.rdr E hs)
  have hlen := E.few
  have hi1 := Lib.hid (suf_at hs).2.1
  obtain ⟨i, hi⟩ : ∃ i, i = ws.length - (w :: ts).length := ⟨_, rfl⟩
  have hi0 : i < 9223372036854775807 := by omega
  rw [← hi] at R hi1
  clear E S hi hlen
  go_enter Tryz.func101, Tryz.ntmps101
  go_wp2_with (go_at_call 98; (with_reducible refine (alone_any rb g cap mb ws i w _ bad at' 1 0 _ (Lib.hid (R.out.alloc _)) hi0).mono ?_); rintro e' w1 ⟨rfl, hr1, hf1⟩; have BR := (Blk.new (X := W) rfl (.int .i64 0) (.int .i64 0) (.int .i64 0) (.string ⟨#[]⟩) (.slice none 0 0) (.int .i64 0)).fr hf1 hnb2; obtain ⟨blr, c0r, c1r, c2r, c3r, c4r, c5r, f0r, f1r, f2r, f3r, f4r, f5r⟩ := (BR).facts)
  refine bodyPost_ret (results_blk Tryz.results101 _ _ rfl rfl (BR.all _ _ _ _ _ _)) rfl ⟨by (repeat (first | (with_reducible exact Fr.refl _ _) | (with_reducible refine Fr.alloc ?_ _) | (with_reducible refine Fr.drewN ?_ _) | (with_reducible refine Fr.drew ?_) | (with_reducible refine Fr.set ?_ ?_ _ _; rotate_left; first | exact .inl rfl | (right; simp; done) | (right; simp; omega) | (right; omega)) | (with_reducible refine Fr.step ?_ (by assumption)) | (with_reducible refine Fr.stepB ?_ (by assumption)))), ?_⟩
  refine ended_ok (x := .mk 1 0 0 [] [] w.a) (bad := bad) (at' := at') .leaf ?_
  unfold StAt
  rw [← hi1.out]
  (repeat (first | (with_reducible exact hr1) | (with_reducible refine RdAt.alloc ?_ _) | (with_reducible refine RdAt.drewN ?_ _) | (with_reducible refine RdAt.drew ?_) | (with_reducible refine RdAt.setO ?_ (by first | assumption | omega) _ _) | (with_reducible refine RdAt.kept ?_ (by assumption))))

set_option maxRecDepth 100000 in
set_option maxHeartbeats 2000000 in
theorem clo4 (rb g cap mb bx : Nat) (ws : List Wd) (o : Nat) (w : Wd) (ts : List Wd) (hs : (w :: ts) <:+ ws) : Snd Junk rb g cap mb bx ws 97 #[.pointer (some ⟨bx, 0, none⟩)] o (w :: ts) (.ok (.mk 0 0 w.n [] [] w.a) ts) := by
  intro W bad at' E S
  have hrl := S.lt
  have hnb2 : W.heap.size ≠ rb := by omega
  have hbx := (Array.getElem?_eq_some_iff.1 E.box).1
  have hbc : W.cell? ⟨bx, 0, none⟩ = some (.pointer (some ⟨rb, 0, none⟩)) := by rw [cell_of_row _ _ _ _ _ _ E.box]; rfl
  have hbn := Nat.ne_of_lt hbx
  have hfn := field_n
  have R := Lib.hid (S.rdr E hs)
  have hlen := E.few
  have hi1 := Lib.hid (suf_at hs).2.1
  obtain ⟨i, hi⟩ : ∃ i, i = ws.length - (w :: ts).length := ⟨_, rfl⟩
  have hi0 : i < 9223372036854775807 := by omega
  rw [← hi] at R hi1
  have hbr := E.ne3
  clear E S hi hlen
  go_enter Tryz.func97, Tryz.ntmps97
  go_wp2
  go_region_with (first
    | (go_at_call 99; (with_reducible refine (word_any rb g cap mb ws i w _ bad at' _ (R.out.kept (by (refine Fr.below ?_; (repeat (first | (with_reducible exact Fr.refl _ _) | (with_reducible refine Fr.alloc ?_ _) | (with_reducible refine Fr.drewN ?_ _) | (with_reducible refine Fr.drew ?_) | (with_reducible refine Fr.set ?_ ?_ _ _; rotate_left; first | exact .inl rfl | (right; simp; done) | (right; simp; omega) | (right; omega)) | (with_reducible refine Fr.step ?_ (by assumption)) | (with_reducible refine Fr.stepB ?_ (by assumption)))))))).mono ?_); rintro e' w1 ⟨rfl, hb1⟩; have hbc1 : w1.cell? ⟨bx, 0, none⟩ = some (.pointer (some ⟨rb, 0, none⟩)) := (hb1.cell (p := ⟨bx, 0, none⟩) (by simp; omega)).trans (by (try simp [go_sem]); exact cell_old hbc _); have BR1 : Hid (Blk w1 W.heap.size (.int .i64 0) (.int .i64 0) (.int .i64 0) (.string ⟨#[]⟩) (.slice none 0 0) (.int .i64 0)) := Lib.hid (Blk.stay (by ((repeat (first | (with_reducible exact (Blk.new rfl (.int .i64 0) (.int .i64 0) (.int .i64 0) (.string ⟨#[]⟩) (.slice none 0 0) (.int .i64 0))) | (with_reducible refine Blk.alloc ?_ _) | (with_reducible refine Blk.drewN ?_ _) | (with_reducible refine Blk.drew ?_) | (with_reducible refine Blk.setO ?_ ?_ _ _; rotate_left; first | assumption | omega | (simp; omega)) | (with_reducible refine Blk.fr ?_ (by assumption) (by first | assumption | omega)) | (with_reducible refine Blk.stay ?_ (by assumption)))))) hb1); have R1 : Hid (Rdr w1 rb g cap mb ws i w o bad at') := Lib.hid ((R.out.kept (by (refine Fr.below ?_; (repeat (first | (with_reducible exact Fr.refl _ _) | (with_reducible refine Fr.alloc ?_ _) | (with_reducible refine Fr.drewN ?_ _) | (with_reducible refine Fr.drew ?_) | (with_reducible refine Fr.set ?_ ?_ _ _; rotate_left; first | exact .inl rfl | (right; simp; done) | (right; simp; omega) | (right; omega)) | (with_reducible refine Fr.step ?_ (by assumption)) | (with_reducible refine Fr.stepB ?_ (by assumption))))))).kept hb1))
    | (go_at_call 98; (with_reducible refine (alone_any rb g cap mb ws i w _ bad at' 0 w.n _ R1 hi0).mono ?_); rintro e' w2 ⟨rfl, hr2, hf2⟩; have BR := BR1.out.fr hf2 hnb2; obtain ⟨blr, c0r, c1r, c2r, c3r, c4r, c5r, f0r, f1r, f2r, f3r, f4r, f5r⟩ := (BR).facts))
  all_goals go_wp2
  all_goals
    refine bodyPost_ret (results_blk Tryz.results97 _ _ rfl rfl (BR.all _ _ _ _ _ _)) rfl ⟨by (repeat (first | (with_reducible exact Fr.refl _ _) | (with_reducible refine Fr.alloc ?_ _) | (with_reducible refine Fr.drewN ?_ _) | (with_reducible refine Fr.drew ?_) | (with_reducible refine Fr.set ?_ ?_ _ _; rotate_left; first | exact .inl rfl | (right; simp; done) | (right; simp; omega) | (right; omega)) | (with_reducible refine Fr.step ?_ (by assumption)) | (with_reducible refine Fr.stepB ?_ (by assumption)))), ?_⟩
    refine ended_ok (x := .mk 0 0 w.n [] [] w.a) (bad := bad) (at' := at') .leaf ?_
    unfold StAt
    rw [← hi1.out]
    (repeat (first | (with_reducible exact hr2) | (with_reducible refine RdAt.alloc ?_ _) | (with_reducible refine RdAt.drewN ?_ _) | (with_reducible refine RdAt.drew ?_) | (with_reducible refine RdAt.setO ?_ (by first | assumption | omega) _ _) | (with_reducible refine RdAt.kept ?_ (by assumption))))
end Go.Proofs.YtngfbpmabdmkeaaGreatDoor
