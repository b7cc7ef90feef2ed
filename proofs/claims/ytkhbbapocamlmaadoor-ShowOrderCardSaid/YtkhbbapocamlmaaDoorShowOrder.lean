/- ShowOrder comes out true for every two texts: no condition but what the card itself says of the listed variables. -/
import Derived.Test.YtkhbbapocamlmaaDoorR01
import Derived.Test.YtkhbbapocamlmaaDoorTie
import Derived.Test.YtkhbbapocamlmaaDoorCards
import Derived.SevenTiedAt
import Derived.Carry
set_option linter.unusedSimpArgs false
set_option linter.unusedVariables false
namespace Go.Proofs.YtkhbbapocamlmaaDoor
namespace ShowOrder
open Go Go.ChangeShapes Go.WideShapes Go.ChangeAt Go.WideMaps Go.WideElems Go.RowKit Go.Sort
open Go.ChangeMaps (open_string shut_string)


set_option maxRecDepth 100000 in
set_option maxHeartbeats 8000000 in
theorem walk (s : ByteArray) (_ : s.size ≤ maxLen) (t : ByteArray) (_ : t.size ≤ maxLen) (W : World) (L0 : Laid W) : Calls Tryd.prog 6 #[.string s, .string t] W fun e w' => e = .returned (.bool true) ∧ Below W.heap.size W w' := by
  have L := Lib.hid L0
  clear L0
  obtain ⟨i0, ii0, iz0, is0, iy0⟩ := info_parts infoGl
  obtain ⟨i1, ii1, iz1, is1, iy1⟩ := info_parts infoLk
  obtain ⟨i2, ii2, iz2, is2, iy2⟩ := info_parts infoFn
  obtain ⟨i3, ii3, iz3, is3, iy3⟩ := info_parts infoTh
  go_enter Tryd.func6, Tryd.ntmps6
  go_upto_region 6 with (first
    | (go_at_call 7; (with_reducible refine (awake_any _ L).mono ?_); rintro e w1 ⟨rfl, hb1⟩; have hz1 := hb1.size)
    | (go_at_call 8; (with_reducible refine (r4_parse_all s _).mono ?_); rintro e w2 ⟨hb2, z0, n0, c0, z1, n1, c1, z2, n2, c2, z3, n3, c3, c, a, rfl, hP⟩; have hz2 := hb2.size; have HP := Lib.hid hP; clear hP)
    | (go_at_call 8; (with_reducible refine (r4_parse_all t _).mono ?_); rintro e w3 ⟨hb3, y0, m0, d0, y1, m1, d1, y2, m2, d2, y3, m3, d3, d, b, rfl, hQ⟩; have hz3 := hb3.size; have HQ := Lib.hid hQ; clear hQ))
  by_cases hs2 : 2000 < s.size
  · go_wp2
    go_ret
    exact ⟨rfl, by (refine Fr.below ?_; (repeat (first | (with_reducible exact Fr.refl _ _) | (with_reducible refine Fr.alloc ?_ _) | (with_reducible refine Fr.drewN ?_ _) | (with_reducible refine Fr.drew ?_) | (with_reducible refine Fr.set ?_ ?_ _ _; rotate_left; first | exact .inl rfl | (right; simp; done) | (right; simp; omega) | (right; omega)) | (with_reducible refine Fr.step ?_ (by assumption)) | (with_reducible refine Fr.stepB ?_ (by assumption)))))⟩
  by_cases ht2 : 2000 < t.size
  · go_wp2
    go_ret
    exact ⟨rfl, by (refine Fr.below ?_; (repeat (first | (with_reducible exact Fr.refl _ _) | (with_reducible refine Fr.alloc ?_ _) | (with_reducible refine Fr.drewN ?_ _) | (with_reducible refine Fr.drew ?_) | (with_reducible refine Fr.set ?_ ?_ _ _; rotate_left; first | exact .inl rfl | (right; simp; done) | (right; simp; omega) | (right; omega)) | (with_reducible refine Fr.step ?_ (by assumption)) | (with_reducible refine Fr.stepB ?_ (by assumption)))))⟩
  by_cases hc1 : ¬ c = 0
  · have hcb : (c != 0) = true := by simpa using hc1
    go_wp2
    go_ret
    exact ⟨rfl, by (refine Fr.below ?_; (repeat (first | (with_reducible exact Fr.refl _ _) | (with_reducible refine Fr.alloc ?_ _) | (with_reducible refine Fr.drewN ?_ _) | (with_reducible refine Fr.drew ?_) | (with_reducible refine Fr.set ?_ ?_ _ _; rotate_left; first | exact .inl rfl | (right; simp; done) | (right; simp; omega) | (right; omega)) | (with_reducible refine Fr.step ?_ (by assumption)) | (with_reducible refine Fr.stepB ?_ (by assumption)))))⟩
  have hc0 := Decidable.not_not.1 hc1
  clear hc1
  subst hc0
  by_cases hd1 : ¬ d = 0
  · have hdb : (d != 0) = true := by simpa using hd1
    go_wp2
    go_ret
    exact ⟨rfl, by (refine Fr.below ?_; (repeat (first | (with_reducible exact Fr.refl _ _) | (with_reducible refine Fr.alloc ?_ _) | (with_reducible refine Fr.drewN ?_ _) | (with_reducible refine Fr.drew ?_) | (with_reducible refine Fr.set ?_ ?_ _ _; rotate_left; first | exact .inl rfl | (right; simp; done) | (right; simp; omega) | (right; omega)) | (with_reducible refine Fr.step ?_ (by assumption)) | (with_reducible refine Fr.stepB ?_ (by assumption)))))⟩
  have hd0 := Decidable.not_not.1 hd1
  rcases HP.out with hbad | ⟨_, _, p, rf, rt, hGp, hNp, R0⟩
  · exact absurd rfl hbad
  rcases HQ.out with hbad | ⟨_, _, q, rf2, rt2, hGq, hNq, S0⟩
  · exact absurd hd0 hbad
  clear hd1
  subst hd0
  obtain ⟨_, _, e⟩ := own_form R0.g
  cases e
  obtain ⟨_, _, e⟩ := own_form R0.l
  cases e
  obtain ⟨_, _, e⟩ := own_form R0.f
  cases e
  obtain ⟨_, _, e⟩ := own_form R0.t
  cases e
  obtain ⟨_, _, e⟩ := own_form S0.g
  cases e
  obtain ⟨_, _, e⟩ := own_form S0.l
  cases e
  obtain ⟨_, _, e⟩ := own_form S0.f
  cases e
  obtain ⟨_, _, e⟩ := own_form S0.t
  cases e
  have SP := say_of hGp hNp
  have SQ := say_of hGq hNq
  have FP := few_of hNp
  have FQ := few_of hNq
  obtain ⟨n0, hn0⟩ : ∃ n, p.gs.length = n := ⟨_, rfl⟩
  obtain ⟨m0, hm0⟩ : ∃ n, q.gs.length = n := ⟨_, rfl⟩
  obtain ⟨n1, hn1⟩ : ∃ n, p.ls.length = n := ⟨_, rfl⟩
  obtain ⟨m1, hm1⟩ : ∃ n, q.ls.length = n := ⟨_, rfl⟩
  obtain ⟨n2, hn2⟩ : ∃ n, p.fs.length = n := ⟨_, rfl⟩
  obtain ⟨m2, hm2⟩ : ∃ n, q.fs.length = n := ⟨_, rfl⟩
  obtain ⟨n3, hn3⟩ : ∃ n, p.ths.length = n := ⟨_, rfl⟩
  obtain ⟨m3, hm3⟩ : ∃ n, q.ths.length = n := ⟨_, rfl⟩
  have hbn : n0 ≤ 64 ∧ n1 ≤ 64 ∧ n2 ≤ 64 ∧ n3 ≤ 64 ∧ m0 ≤ 64 ∧ m1 ≤ 64 ∧ m2 ≤ 64 ∧ m3 ≤ 64 := by (have := FP.nl; have := FP.ng; have := FP.nf; have := FP.nt; have := FQ.nl; have := FQ.ng; have := FQ.nf; have := FQ.nt; omega)
  obtain ⟨X0, hX0⟩ : ∃ X0, X0 = w3.alloc (.cells #[.slice y0 q.gs.length d0, .slice y1 q.ls.length d1, .slice y2 q.fs.length d2, .slice y3 q.ths.length d3] 28) := ⟨_, rfl⟩
  have hAp := below_of_alloc w2 (.cells #[.slice z0 p.gs.length c0, .slice z1 p.ls.length c1, .slice z2 p.fs.length c2, .slice z3 p.ths.length c3] 28)
  have hAq := below_of_alloc w3 (.cells #[.slice y0 q.gs.length d0, .slice y1 q.ls.length d1, .slice y2 q.fs.length d2, .slice y3 q.ths.length d3] 28)
  rw [← hX0] at hAq
  have hPX : Below w2.heap.size w2 X0 := below_ch (below_ch hAp hb3) hAq
  have hWX : Below W.heap.size W X0 := below_ch (below_ch hb1 hb2) hPX
  have HWX := Lib.hid hWX
  have hpb : PgBlk X0 w2.heap.size (.slice z0 p.gs.length c0) (.slice z1 p.ls.length c1) (.slice z2 p.fs.length c2) (.slice z3 p.ths.length c3) := (PgBlk.new (X := w2) rfl).of ((below_ch hb3 hAq).block _ (by simp))
  have hqb : PgBlk X0 w3.heap.size (.slice y0 q.gs.length d0) (.slice y1 q.ls.length d1) (.slice y2 q.fs.length d2) (.slice y3 q.ths.length d3) := (by (rw [hX0]; exact PgBlk.new rfl))
  have hpl : w2.heap.size < X0.heap.size := (hpb.facts).1
  have hql : w3.heap.size < X0.heap.size := (hqb.facts).1
  have hR := R0.stay hPX
  have hS := S0.stay hAq
  have hLX : Laid X0 := L.out.below hWX
  rw [← hX0]
  rw [hn0, hn1, hn2, hn3] at hpb ⊢
  rw [hm0, hm1, hm2, hm3] at hqb ⊢
  have RG : Hid (PRows w1.heap.size X0 p (.slice z0 n0 c0) (.slice z1 n1 c1) (.slice z2 n2 c2) (.slice z3 n3 c3) rf rt) := Lib.hid (by (rw [← hn0, ← hn1, ← hn2, ← hn3]; exact hR))
  have SG : Hid (PRows (w2.alloc (.cells #[.slice z0 p.gs.length c0, .slice z1 p.ls.length c1, .slice z2 p.fs.length c2, .slice z3 p.ths.length c3] 28)).heap.size X0 q (.slice y0 m0 d0) (.slice y1 m1 d1) (.slice y2 m2 d2) (.slice y3 m3 d3) rf2 rt2) := Lib.hid (by (rw [← hm0, ← hm1, ← hm2, ← hm3]; exact hS))
  generalize (w2.alloc (.cells #[.slice z0 p.gs.length c0, .slice z1 p.ls.length c1, .slice z2 p.fs.length c2, .slice z3 p.ths.length c3] 28)).heap.size = B2 at SG
  have HPB := Lib.hid hpb
  have HQB := Lib.hid hqb
  have HLX := Lib.hid hLX
  have HSP := Lib.hid (And.intro SP FP)
  have HSQ := Lib.hid (And.intro SQ FQ)
  have HNN := Lib.hid (And.intro hNp hNq)
  have HN0 := Lib.hid hn0
  have HM0 := Lib.hid hm0
  have HN1 := Lib.hid hn1
  have HM1 := Lib.hid hm1
  have HN2 := Lib.hid hn2
  have HM2 := Lib.hid hm2
  have HN3 := Lib.hid hn3
  have HM3 := Lib.hid hm3
  clear hX0 hAp hAq hPX hWX hpb hqb hR hS hLX SP SQ FP FQ R0 S0 hGp hGq hNp hNq HP HQ hb1 hb2 hb3 hz1 hz2 hz3 hn0 hn1 hn2 hn3 hm0 hm1 hm2 hm3
  have hs3 : ¬ (2000 : Int) < (s.size : Int) := by omega
  have ht3 : ¬ (2000 : Int) < (t.size : Int) := by omega
  have hs4 : decide ((2000 : Int) < (s.size : Int)) = false := decide_eq_false hs3
  have ht4 : decide ((2000 : Int) < (t.size : Int)) = false := decide_eq_false ht3
  go_upto_region 9 with (fail)
  have HS0 := Lib.hid (OS.new X0)
  have hn12 : X0.heap.size < (X0.alloc (.cells #[.slice none 0 0, .slice none 0 0, .slice none 0 0, .slice none 0 0] 28)).heap.size := by simp
  refine name_world ?_
  intro Z0 hZ0
  rw [← hZ0] at HS0
  clear hZ0 hn12
  obtain ⟨al, ⟨ac0, ac1, ac2, ac3⟩, _⟩ := HS0.out.blk.facts
  obtain ⟨pl, ⟨pc0, pc1, pc2, pc3⟩, _⟩ := (HPB.out.of (HS0.out.below.block _ hpl)).facts
  have hbX : Below X0.heap.size X0 Z0 := HS0.out.below
  have how := own_below RG.out.g hbX
  rw [HN0.out] at how
  have HOW := Lib.hid how
  clear hbX how
  go_upto_region 10 with (at_builtin; refine wpList_append_rows rfl (.tmp 46) (.tmp 48) 23 rfl X0.heap.size w1.heap.size 39 i0 _ 6 56 Tryd.underlying23 ii0 iz0 is0 iy0 rfl (by decide) (.slice none 0 0) 0 ([]) (by rfl) HS0.out.g (.slice z0 n0 c0) n0 (p.gs.flatMap glCells) (by rfl) HOW.out (one_gl _) (by omega) (by decide) (Nat.le_of_lt HS0.out.lt) ?_; intro zz0 cc0 kk0 wq0 hk0 hown0 hgr0; have HK0 := Lib.hid hk0; have hkb0 : kk0 ≤ 64 := (by omega); clear hk0; obtain ⟨al0, _, ⟨af0, af1, af2, af3⟩⟩ := (HS0.out.gb0 hgr0).facts)
  refine name_world ?_
  intro Z1 hZ1
  have HS1 : Hid (OS X0 Z1 X0.heap.size (.slice zz0 kk0 cc0) (.slice none 0 0) (.slice none 0 0) (.slice none 0 0) kk0 0 0 0 ([] ++ p.gs.flatMap glCells) [] [] []) := Lib.hid (by (rw [hZ1]; exact HS0.out.set0 hown0 hgr0))
  clear hZ1 hown0 hgr0 al ac0 ac1 ac2 ac3 pl pc0 pc1 pc2 pc3 al0 af0 af1 af2 af3 HOW
  obtain ⟨al, ⟨ac0, ac1, ac2, ac3⟩, _⟩ := HS1.out.blk.facts
  obtain ⟨pl, ⟨pc0, pc1, pc2, pc3⟩, _⟩ := (HQB.out.of (HS1.out.below.block _ hql)).facts
  have hbX : Below X0.heap.size X0 Z1 := HS1.out.below
  have how := own_below SG.out.g hbX
  rw [HM0.out] at how
  have HOW := Lib.hid how
  clear hbX how
  go_upto_region 11 with (at_builtin; refine wpList_append_rows rfl (.tmp 52) (.tmp 54) 23 rfl X0.heap.size B2 39 i0 _ 6 56 Tryd.underlying23 ii0 iz0 is0 iy0 rfl (by decide) (.slice zz0 kk0 cc0) kk0 (([] ++ p.gs.flatMap glCells)) (by rfl) HS1.out.g (.slice y0 m0 d0) m0 (q.gs.flatMap glCells) (by rfl) HOW.out (one_gl _) (by omega) (by decide) (Nat.le_of_lt HS1.out.lt) ?_; intro zz1 cc1 kk1 wq1 hk1 hown1 hgr1; have HK1 := Lib.hid hk1; have hkb1 : kk1 ≤ 128 := (by omega); clear hk1; obtain ⟨al1, _, ⟨af0, af1, af2, af3⟩⟩ := (HS1.out.gb0 hgr1).facts)
  refine name_world ?_
  intro Z2 hZ2
  have HS2 : Hid (OS X0 Z2 X0.heap.size (.slice zz1 kk1 cc1) (.slice none 0 0) (.slice none 0 0) (.slice none 0 0) kk1 0 0 0 (([] ++ p.gs.flatMap glCells) ++ q.gs.flatMap glCells) [] [] []) := Lib.hid (by (rw [hZ2]; exact HS1.out.set0 hown1 hgr1))
  clear hZ2 hown1 hgr1 al ac0 ac1 ac2 ac3 pl pc0 pc1 pc2 pc3 al1 af0 af1 af2 af3 HOW
  obtain ⟨al, ⟨ac0, ac1, ac2, ac3⟩, _⟩ := HS2.out.blk.facts
  obtain ⟨pl, ⟨pc0, pc1, pc2, pc3⟩, _⟩ := (HPB.out.of (HS2.out.below.block _ hpl)).facts
  have hbX : Below X0.heap.size X0 Z2 := HS2.out.below
  have how := own_below RG.out.l hbX
  rw [HN1.out] at how
  have HOW := Lib.hid how
  clear hbX how
  go_upto_region 12 with (at_builtin; refine wpList_append_rows rfl (.tmp 58) (.tmp 60) 24 rfl X0.heap.size w1.heap.size 66 i1 _ 2 24 Tryd.underlying24 ii1 iz1 is1 iy1 rfl (by decide) (.slice none 0 0) 0 ([]) (by rfl) HS2.out.l (.slice z1 n1 c1) n1 (p.ls.flatMap lkCells) (by rfl) HOW.out (one_lk _) (by omega) (by decide) (Nat.le_of_lt HS2.out.lt) ?_; intro zz2 cc2 kk2 wq2 hk2 hown2 hgr2; have HK2 := Lib.hid hk2; have hkb2 : kk2 ≤ 64 := (by omega); clear hk2; obtain ⟨al2, _, ⟨af0, af1, af2, af3⟩⟩ := (HS2.out.gb1 hgr2).facts)
  refine name_world ?_
  intro Z3 hZ3
  have HS3 : Hid (OS X0 Z3 X0.heap.size (.slice zz1 kk1 cc1) (.slice zz2 kk2 cc2) (.slice none 0 0) (.slice none 0 0) kk1 kk2 0 0 ((([] ++ p.gs.flatMap glCells) ++ q.gs.flatMap glCells)) ([] ++ p.ls.flatMap lkCells) [] []) := Lib.hid (by (rw [hZ3]; exact HS2.out.set1 hown2 hgr2))
  clear hZ3 hown2 hgr2 al ac0 ac1 ac2 ac3 pl pc0 pc1 pc2 pc3 al2 af0 af1 af2 af3 HOW
  obtain ⟨al, ⟨ac0, ac1, ac2, ac3⟩, _⟩ := HS3.out.blk.facts
  obtain ⟨pl, ⟨pc0, pc1, pc2, pc3⟩, _⟩ := (HQB.out.of (HS3.out.below.block _ hql)).facts
  have hbX : Below X0.heap.size X0 Z3 := HS3.out.below
  have how := own_below SG.out.l hbX
  rw [HM1.out] at how
  have HOW := Lib.hid how
  clear hbX how
  go_upto_region 13 with (at_builtin; refine wpList_append_rows rfl (.tmp 64) (.tmp 66) 24 rfl X0.heap.size B2 66 i1 _ 2 24 Tryd.underlying24 ii1 iz1 is1 iy1 rfl (by decide) (.slice zz2 kk2 cc2) kk2 (([] ++ p.ls.flatMap lkCells)) (by rfl) HS3.out.l (.slice y1 m1 d1) m1 (q.ls.flatMap lkCells) (by rfl) HOW.out (one_lk _) (by omega) (by decide) (Nat.le_of_lt HS3.out.lt) ?_; intro zz3 cc3 kk3 wq3 hk3 hown3 hgr3; have HK3 := Lib.hid hk3; have hkb3 : kk3 ≤ 128 := (by omega); clear hk3; obtain ⟨al3, _, ⟨af0, af1, af2, af3⟩⟩ := (HS3.out.gb1 hgr3).facts)
  refine name_world ?_
  intro Z4 hZ4
  have HS4 : Hid (OS X0 Z4 X0.heap.size (.slice zz1 kk1 cc1) (.slice zz3 kk3 cc3) (.slice none 0 0) (.slice none 0 0) kk1 kk3 0 0 ((([] ++ p.gs.flatMap glCells) ++ q.gs.flatMap glCells)) (([] ++ p.ls.flatMap lkCells) ++ q.ls.flatMap lkCells) [] []) := Lib.hid (by (rw [hZ4]; exact HS3.out.set1 hown3 hgr3))
  clear hZ4 hown3 hgr3 al ac0 ac1 ac2 ac3 pl pc0 pc1 pc2 pc3 al3 af0 af1 af2 af3 HOW
  obtain ⟨al, ⟨ac0, ac1, ac2, ac3⟩, _⟩ := HS4.out.blk.facts
  obtain ⟨pl, ⟨pc0, pc1, pc2, pc3⟩, _⟩ := (HPB.out.of (HS4.out.below.block _ hpl)).facts
  have hbX : Below X0.heap.size X0 Z4 := HS4.out.below
  have how := own_below RG.out.f hbX
  rw [HN2.out] at how
  have HOW := Lib.hid how
  clear hbX how
  go_upto_region 14 with (at_builtin; refine wpList_append_rows rfl (.tmp 70) (.tmp 72) 25 rfl X0.heap.size w1.heap.size 73 i2 _ 12 152 Tryd.underlying25 ii2 iz2 is2 iy2 rfl (by decide) (.slice none 0 0) 0 ([]) (by rfl) HS4.out.f (.slice z2 n2 c2) n2 (fnRow rf) (by rfl) HOW.out (one_fn _ RG.out.xf) (by omega) (by decide) (Nat.le_of_lt HS4.out.lt) ?_; intro zz4 cc4 kk4 wq4 hk4 hown4 hgr4; have HK4 := Lib.hid hk4; have hkb4 : kk4 ≤ 64 := (by omega); clear hk4; obtain ⟨al4, _, ⟨af0, af1, af2, af3⟩⟩ := (HS4.out.gb2 hgr4).facts)
  refine name_world ?_
  intro Z5 hZ5
  have HS5 : Hid (OS X0 Z5 X0.heap.size (.slice zz1 kk1 cc1) (.slice zz3 kk3 cc3) (.slice zz4 kk4 cc4) (.slice none 0 0) kk1 kk3 kk4 0 ((([] ++ p.gs.flatMap glCells) ++ q.gs.flatMap glCells)) ((([] ++ p.ls.flatMap lkCells) ++ q.ls.flatMap lkCells)) ([] ++ fnRow rf) []) := Lib.hid (by (rw [hZ5]; exact HS4.out.set2 hown4 hgr4))
  clear hZ5 hown4 hgr4 al ac0 ac1 ac2 ac3 pl pc0 pc1 pc2 pc3 al4 af0 af1 af2 af3 HOW
  obtain ⟨al, ⟨ac0, ac1, ac2, ac3⟩, _⟩ := HS5.out.blk.facts
  obtain ⟨pl, ⟨pc0, pc1, pc2, pc3⟩, _⟩ := (HQB.out.of (HS5.out.below.block _ hql)).facts
  have hbX : Below X0.heap.size X0 Z5 := HS5.out.below
  have how := own_below SG.out.f hbX
  rw [HM2.out] at how
  have HOW := Lib.hid how
  clear hbX how
  go_upto_region 15 with (at_builtin; refine wpList_append_rows rfl (.tmp 76) (.tmp 78) 25 rfl X0.heap.size B2 73 i2 _ 12 152 Tryd.underlying25 ii2 iz2 is2 iy2 rfl (by decide) (.slice zz4 kk4 cc4) kk4 (([] ++ fnRow rf)) (by rfl) HS5.out.f (.slice y2 m2 d2) m2 (fnRow rf2) (by rfl) HOW.out (one_fn _ SG.out.xf) (by omega) (by decide) (Nat.le_of_lt HS5.out.lt) ?_; intro zz5 cc5 kk5 wq5 hk5 hown5 hgr5; have HK5 := Lib.hid hk5; have hkb5 : kk5 ≤ 128 := (by omega); clear hk5; obtain ⟨al5, _, ⟨af0, af1, af2, af3⟩⟩ := (HS5.out.gb2 hgr5).facts)
  refine name_world ?_
  intro Z6 hZ6
  have HS6 : Hid (OS X0 Z6 X0.heap.size (.slice zz1 kk1 cc1) (.slice zz3 kk3 cc3) (.slice zz5 kk5 cc5) (.slice none 0 0) kk1 kk3 kk5 0 ((([] ++ p.gs.flatMap glCells) ++ q.gs.flatMap glCells)) ((([] ++ p.ls.flatMap lkCells) ++ q.ls.flatMap lkCells)) (([] ++ fnRow rf) ++ fnRow rf2) []) := Lib.hid (by (rw [hZ6]; exact HS5.out.set2 hown5 hgr5))
  clear hZ6 hown5 hgr5 al ac0 ac1 ac2 ac3 pl pc0 pc1 pc2 pc3 al5 af0 af1 af2 af3 HOW
  obtain ⟨al, ⟨ac0, ac1, ac2, ac3⟩, _⟩ := HS6.out.blk.facts
  obtain ⟨pl, ⟨pc0, pc1, pc2, pc3⟩, _⟩ := (HPB.out.of (HS6.out.below.block _ hpl)).facts
  have hbX : Below X0.heap.size X0 Z6 := HS6.out.below
  have how := own_below RG.out.t hbX
  rw [HN3.out] at how
  have HOW := Lib.hid how
  clear hbX how
  go_upto_region 16 with (at_builtin; refine wpList_append_rows rfl (.tmp 82) (.tmp 84) 26 rfl X0.heap.size w1.heap.size 34 i3 _ 1 24 Tryd.underlying26 ii3 iz3 is3 iy3 rfl (by decide) (.slice none 0 0) 0 ([]) (by rfl) HS6.out.t (.slice z3 n3 c3) n3 (thRow rt) (by rfl) HOW.out (one_th _ RG.out.xt) (by omega) (by decide) (Nat.le_of_lt HS6.out.lt) ?_; intro zz6 cc6 kk6 wq6 hk6 hown6 hgr6; have HK6 := Lib.hid hk6; have hkb6 : kk6 ≤ 64 := (by omega); clear hk6; obtain ⟨al6, _, ⟨af0, af1, af2, af3⟩⟩ := (HS6.out.gb3 hgr6).facts)
  refine name_world ?_
  intro Z7 hZ7
  have HS7 : Hid (OS X0 Z7 X0.heap.size (.slice zz1 kk1 cc1) (.slice zz3 kk3 cc3) (.slice zz5 kk5 cc5) (.slice zz6 kk6 cc6) kk1 kk3 kk5 kk6 ((([] ++ p.gs.flatMap glCells) ++ q.gs.flatMap glCells)) ((([] ++ p.ls.flatMap lkCells) ++ q.ls.flatMap lkCells)) ((([] ++ fnRow rf) ++ fnRow rf2)) ([] ++ thRow rt)) := Lib.hid (by (rw [hZ7]; exact HS6.out.set3 hown6 hgr6))
  clear hZ7 hown6 hgr6 al ac0 ac1 ac2 ac3 pl pc0 pc1 pc2 pc3 al6 af0 af1 af2 af3 HOW
  obtain ⟨al, ⟨ac0, ac1, ac2, ac3⟩, _⟩ := HS7.out.blk.facts
  obtain ⟨pl, ⟨pc0, pc1, pc2, pc3⟩, _⟩ := (HQB.out.of (HS7.out.below.block _ hql)).facts
  have hbX : Below X0.heap.size X0 Z7 := HS7.out.below
  have how := own_below SG.out.t hbX
  rw [HM3.out] at how
  have HOW := Lib.hid how
  clear hbX how
  go_upto_region 17 with (at_builtin; refine wpList_append_rows rfl (.tmp 88) (.tmp 90) 26 rfl X0.heap.size B2 34 i3 _ 1 24 Tryd.underlying26 ii3 iz3 is3 iy3 rfl (by decide) (.slice zz6 kk6 cc6) kk6 (([] ++ thRow rt)) (by rfl) HS7.out.t (.slice y3 m3 d3) m3 (thRow rt2) (by rfl) HOW.out (one_th _ SG.out.xt) (by omega) (by decide) (Nat.le_of_lt HS7.out.lt) ?_; intro zz7 cc7 kk7 wq7 hk7 hown7 hgr7; have HK7 := Lib.hid hk7; have hkb7 : kk7 ≤ 128 := (by omega); clear hk7; obtain ⟨al7, _, ⟨af0, af1, af2, af3⟩⟩ := (HS7.out.gb3 hgr7).facts)
  refine name_world ?_
  intro Z8 hZ8
  have HS8 : Hid (OS X0 Z8 X0.heap.size (.slice zz1 kk1 cc1) (.slice zz3 kk3 cc3) (.slice zz5 kk5 cc5) (.slice zz7 kk7 cc7) kk1 kk3 kk5 kk7 ((([] ++ p.gs.flatMap glCells) ++ q.gs.flatMap glCells)) ((([] ++ p.ls.flatMap lkCells) ++ q.ls.flatMap lkCells)) ((([] ++ fnRow rf) ++ fnRow rf2)) (([] ++ thRow rt) ++ thRow rt2)) := Lib.hid (by (rw [hZ8]; exact HS7.out.set3 hown7 hgr7))
  clear hZ8 hown7 hgr7 al ac0 ac1 ac2 ac3 pl pc0 pc1 pc2 pc3 al7 af0 af1 af2 af3 HOW
  have hbX : Below X0.heap.size X0 Z8 := HS8.out.below
  have HX := Lib.hid hbX
  have hall : PRows 0 Z8 (p.both q) (.slice zz1 kk1 cc1) (.slice zz3 kk3 cc3) (.slice zz5 kk5 cc5) (.slice zz7 kk7 cc7) (rf ++ rf2) (rt ++ rt2) := by
    refine PRows.both (RG.out.stay hbX) (SG.out.stay hbX) (n := X0.heap.size) ?_ ?_ ?_ ?_
    · have e : kk1 = p.gs.length + q.gs.length := by (have := HK0.out; have := HK1.out; have := HN0.out; have := HM0.out; omega)
      rw [← e]
      exact HS8.out.g
    · have e : kk3 = p.ls.length + q.ls.length := by (have := HK2.out; have := HK3.out; have := HN1.out; have := HM1.out; omega)
      rw [← e]
      exact HS8.out.l
    · have e : kk5 = p.fs.length + q.fs.length := by (have := HK4.out; have := HK5.out; have := HN2.out; have := HM2.out; omega)
      rw [← e]
      exact HS8.out.f
    · have e : kk7 = p.ths.length + q.ths.length := by (have := HK6.out; have := HK7.out; have := HN3.out; have := HM3.out; omega)
      rw [← e]
      exact HS8.out.t
  have HALL := Lib.hid hall
  clear hall hbX
  obtain ⟨A1, hA1⟩ : ∃ A, progT fnT ⟨[], p.ls, [], []⟩ = A := ⟨_, rfl⟩
  have hl1 : A1.length ≤ 50000000000000 := by (have h := say_len HSP.out.1.onlyL HSP.out.2.onlyL; rw [hA1] at h; exact h)
  have HA1 : Hid (∀ X, Below X0.heap.size X0 X → Calls Tryd.prog 9 #[.agg #[.slice none 0 0, .slice z1 n1 c1, .slice none 0 0, .slice none 0 0]] X fun e w' => e = .returned (.string (bstr A1)) ∧ Below X.heap.size X w') := Lib.hid fun X hX => prog_say (RG.out.stay hX).onlyL (HLX.out.below hX) HSP.out.1.onlyL HSP.out.2.onlyL A1 hA1
  obtain ⟨A2, hA2⟩ : ∃ A, progT fnT ⟨[], q.ls, [], []⟩ = A := ⟨_, rfl⟩
  have hl2 : A2.length ≤ 50000000000000 := by (have h := say_len HSQ.out.1.onlyL HSQ.out.2.onlyL; rw [hA2] at h; exact h)
  have HA2 : Hid (∀ X, Below X0.heap.size X0 X → Calls Tryd.prog 9 #[.agg #[.slice none 0 0, .slice y1 m1 d1, .slice none 0 0, .slice none 0 0]] X fun e w' => e = .returned (.string (bstr A2)) ∧ Below X.heap.size X w') := Lib.hid fun X hX => prog_say (SG.out.stay hX).onlyL (HLX.out.below hX) HSQ.out.1.onlyL HSQ.out.2.onlyL A2 hA2
  obtain ⟨A3, hA3⟩ : ∃ A, progT fnT ⟨p.gs, [], [], []⟩ = A := ⟨_, rfl⟩
  have hl3 : A3.length ≤ 50000000000000 := by (have h := say_len HSP.out.1.onlyG HSP.out.2.onlyG; rw [hA3] at h; exact h)
  have HA3 : Hid (∀ X, Below X0.heap.size X0 X → Calls Tryd.prog 9 #[.agg #[.slice z0 n0 c0, .slice none 0 0, .slice none 0 0, .slice none 0 0]] X fun e w' => e = .returned (.string (bstr A3)) ∧ Below X.heap.size X w') := Lib.hid fun X hX => prog_say (RG.out.stay hX).onlyG (HLX.out.below hX) HSP.out.1.onlyG HSP.out.2.onlyG A3 hA3
  obtain ⟨A4, hA4⟩ : ∃ A, progT fnT ⟨q.gs, [], [], []⟩ = A := ⟨_, rfl⟩
  have hl4 : A4.length ≤ 50000000000000 := by (have h := say_len HSQ.out.1.onlyG HSQ.out.2.onlyG; rw [hA4] at h; exact h)
  have HA4 : Hid (∀ X, Below X0.heap.size X0 X → Calls Tryd.prog 9 #[.agg #[.slice y0 m0 d0, .slice none 0 0, .slice none 0 0, .slice none 0 0]] X fun e w' => e = .returned (.string (bstr A4)) ∧ Below X.heap.size X w') := Lib.hid fun X hX => prog_say (SG.out.stay hX).onlyG (HLX.out.below hX) HSQ.out.1.onlyG HSQ.out.2.onlyG A4 hA4
  obtain ⟨A5, hA5⟩ : ∃ A, progT fnT ⟨[], [], p.fs, []⟩ = A := ⟨_, rfl⟩
  have hl5 : A5.length ≤ 50000000000000 := by (have h := say_len HSP.out.1.onlyF HSP.out.2.onlyF; rw [hA5] at h; exact h)
  have HA5 : Hid (∀ X, Below X0.heap.size X0 X → Calls Tryd.prog 9 #[.agg #[.slice none 0 0, .slice none 0 0, .slice z2 n2 c2, .slice none 0 0]] X fun e w' => e = .returned (.string (bstr A5)) ∧ Below X.heap.size X w') := Lib.hid fun X hX => prog_say (RG.out.stay hX).onlyF (HLX.out.below hX) HSP.out.1.onlyF HSP.out.2.onlyF A5 hA5
  obtain ⟨A6, hA6⟩ : ∃ A, progT fnT ⟨[], [], q.fs, []⟩ = A := ⟨_, rfl⟩
  have hl6 : A6.length ≤ 50000000000000 := by (have h := say_len HSQ.out.1.onlyF HSQ.out.2.onlyF; rw [hA6] at h; exact h)
  have HA6 : Hid (∀ X, Below X0.heap.size X0 X → Calls Tryd.prog 9 #[.agg #[.slice none 0 0, .slice none 0 0, .slice y2 m2 d2, .slice none 0 0]] X fun e w' => e = .returned (.string (bstr A6)) ∧ Below X.heap.size X w') := Lib.hid fun X hX => prog_say (SG.out.stay hX).onlyF (HLX.out.below hX) HSQ.out.1.onlyF HSQ.out.2.onlyF A6 hA6
  obtain ⟨A7, hA7⟩ : ∃ A, progT fnT ⟨[], [], [], p.ths⟩ = A := ⟨_, rfl⟩
  have hl7 : A7.length ≤ 50000000000000 := by (have h := say_len HSP.out.1.onlyT HSP.out.2.onlyT; rw [hA7] at h; exact h)
  have HA7 : Hid (∀ X, Below X0.heap.size X0 X → Calls Tryd.prog 9 #[.agg #[.slice none 0 0, .slice none 0 0, .slice none 0 0, .slice z3 n3 c3]] X fun e w' => e = .returned (.string (bstr A7)) ∧ Below X.heap.size X w') := Lib.hid fun X hX => prog_say (RG.out.stay hX).onlyT (HLX.out.below hX) HSP.out.1.onlyT HSP.out.2.onlyT A7 hA7
  obtain ⟨A8, hA8⟩ : ∃ A, progT fnT ⟨[], [], [], q.ths⟩ = A := ⟨_, rfl⟩
  have hl8 : A8.length ≤ 50000000000000 := by (have h := say_len HSQ.out.1.onlyT HSQ.out.2.onlyT; rw [hA8] at h; exact h)
  have HA8 : Hid (∀ X, Below X0.heap.size X0 X → Calls Tryd.prog 9 #[.agg #[.slice none 0 0, .slice none 0 0, .slice none 0 0, .slice y3 m3 d3]] X fun e w' => e = .returned (.string (bstr A8)) ∧ Below X.heap.size X w') := Lib.hid fun X hX => prog_say (SG.out.stay hX).onlyT (HLX.out.below hX) HSQ.out.1.onlyT HSQ.out.2.onlyT A8 hA8
  obtain ⟨T, hT⟩ : ∃ T, progT fnT (p.both q) = T := ⟨_, rfl⟩
  have hTe := progT_both p q
  rw [hT, hA1, hA2, hA3, hA4, hA5, hA6, hA7, hA8] at hTe
  have HT : Hid (∀ X, Below Z8.heap.size Z8 X → Calls Tryd.prog 9 #[.agg #[.slice zz1 kk1 cc1, .slice zz3 kk3 cc3, .slice zz5 kk5 cc5, .slice zz7 kk7 cc7]] X fun e w' => e = .returned (.string (bstr T)) ∧ Below X.heap.size X w') := Lib.hid fun X hX => prog_say (HALL.out.stay hX) (HLX.out.below (below_ch HX.out hX)) (HSP.out.1.both HSQ.out.1) (few_both HNN.out.1 HNN.out.2) T hT
  have HZ0 : Hid (Below Z8.heap.size Z8 Z8) := Lib.hid (Below.refl _ _)
  obtain ⟨Y0, hY0⟩ : ∃ Y, A1 ++ A2 = Y := ⟨_, rfl⟩
  have hyl0 : Y0.length ≤ 100000000000000 := by (rw [← hY0]; simp only [List.length_append]; omega)
  have HY0 := Lib.hid hY0
  obtain ⟨Y1, hY1⟩ : ∃ Y, Y0 ++ (A3 ++ A4) = Y := ⟨_, rfl⟩
  have hyl1 : Y1.length ≤ 200000000000000 := by (rw [← hY1]; simp only [List.length_append]; omega)
  have HY1 := Lib.hid hY1
  obtain ⟨Y2, hY2⟩ : ∃ Y, Y1 ++ (A5 ++ A6) = Y := ⟨_, rfl⟩
  have hyl2 : Y2.length ≤ 300000000000000 := by (rw [← hY2]; simp only [List.length_append]; omega)
  have HY2 := Lib.hid hY2
  obtain ⟨Y3, hY3⟩ : ∃ Y, Y2 ++ (A7 ++ A8) = Y := ⟨_, rfl⟩
  have hyl3 : Y3.length ≤ 400000000000000 := by (rw [← hY3]; simp only [List.length_append]; omega)
  have HY3 := Lib.hid hY3
  have hYT : Y3 = T := by (rw [hTe, ← hY3, ← hY2, ← hY1, ← hY0])
  have HYT := Lib.hid hYT
  clear hT hTe hYT hA1 hA2 hA3 hA4 hA5 hA6 hA7 hA8 hY0 hY1 hY2 hY3
  have hs1 : (bstr A1).size ≤ 50000000000000 := hl1
  have hs2 : (bstr A2).size ≤ 50000000000000 := hl2
  have hc1 : ¬ 9223372036854775807 < (bstr A1).size + (bstr A2).size := by omega
  have hc2 : (bstr A1).size + (bstr A2).size ≤ 9223372036854775807 := by omega
  go_cut [13] from 93 (fun s X => s = .string (bstr Y0) ∧ Below Z8.heap.size Z8 X)
  case first =>
    have HC : Hid (Below Z8.heap.size Z8 Z8.drew) := Lib.hid ((Below.refl _ _).drew)
    obtain ⟨pl, ⟨pc0, pc1, pc2, pc3⟩, _⟩ := (HPB.out.of ((below_ch HX.out (below_ch HZ0.out HC.out)).block _ hpl)).facts; obtain ⟨ql, ⟨qc0, qc1, qc2, qc3⟩, _⟩ := (HQB.out.of ((below_ch HX.out (below_ch HZ0.out HC.out)).block _ hql)).facts
    go_region_law (first
      | (go_simp; go_at_call 9; (with_reducible refine (HA1.out _ (below_ch HX.out (below_ch HZ0.out HC.out))).mono ?_); rintro e1 wt ⟨rfl, hbt⟩; replace HC := Lib.hid (below_ch HC.out hbt); obtain ⟨pl, ⟨pc0, pc1, pc2, pc3⟩, _⟩ := (HPB.out.of ((below_ch HX.out (below_ch HZ0.out HC.out)).block _ hpl)).facts; obtain ⟨ql, ⟨qc0, qc1, qc2, qc3⟩, _⟩ := (HQB.out.of ((below_ch HX.out (below_ch HZ0.out HC.out)).block _ hql)).facts; clear hbt)
      | (go_simp; go_at_call 9; (with_reducible refine (HA2.out _ (below_ch HX.out (below_ch HZ0.out HC.out))).mono ?_); rintro e1 wt ⟨rfl, hbt⟩; replace HC := Lib.hid (below_ch HC.out hbt); obtain ⟨pl, ⟨pc0, pc1, pc2, pc3⟩, _⟩ := (HPB.out.of ((below_ch HX.out (below_ch HZ0.out HC.out)).block _ hpl)).facts; obtain ⟨ql, ⟨qc0, qc1, qc2, qc3⟩, _⟩ := (HQB.out.of ((below_ch HX.out (below_ch HZ0.out HC.out)).block _ hql)).facts; clear hbt))
    all_goals (go_wp2_with fail; go_meet)
    all_goals exact ⟨by rw [bstr_cat, HY0.out], HC.out⟩
  obtain ⟨rfl, hbc⟩ := hcut
  have HZ1 := Lib.hid (below_ch HZ0.out hbc)
  obtain ⟨wc1, hwc⟩ : ∃ z, z = wc := ⟨_, rfl⟩
  rw [← hwc] at HZ1 ⊢
  clear hwc hbc hs1 hs2 hc1 hc2
  have hs1 : (bstr A3).size ≤ 50000000000000 := hl3
  have hs2 : (bstr A4).size ≤ 50000000000000 := hl4
  have hc1 : ¬ 9223372036854775807 < (bstr A3).size + (bstr A4).size := by omega
  have hc2 : (bstr A3).size + (bstr A4).size ≤ 9223372036854775807 := by omega
  have hs3 : (bstr Y0).size ≤ 100000000000000 := hyl0
  have hc3 : ¬ 9223372036854775807 < (bstr Y0).size + (bstr A3 ++ bstr A4).size := by (rw [ByteArray.size_append]; omega)
  have hc4 : ¬ 9223372036854775807 < (bstr Y0).size + ((bstr A3).size + (bstr A4).size) := by omega
  go_upto_region 18 with (fail)
  go_cut [13] from 102 (fun s X => s = .string (bstr Y1) ∧ Below wc1.heap.size wc1 X)
  case first =>
    have HC : Hid (Below wc1.heap.size wc1 wc1.drew) := Lib.hid ((Below.refl _ _).drew)
    obtain ⟨pl, ⟨pc0, pc1, pc2, pc3⟩, _⟩ := (HPB.out.of ((below_ch HX.out (below_ch HZ1.out HC.out)).block _ hpl)).facts; obtain ⟨ql, ⟨qc0, qc1, qc2, qc3⟩, _⟩ := (HQB.out.of ((below_ch HX.out (below_ch HZ1.out HC.out)).block _ hql)).facts
    go_region_law (first
      | (go_simp; go_at_call 9; (with_reducible refine (HA3.out _ (below_ch HX.out (below_ch HZ1.out HC.out))).mono ?_); rintro e1 wt ⟨rfl, hbt⟩; replace HC := Lib.hid (below_ch HC.out hbt); obtain ⟨pl, ⟨pc0, pc1, pc2, pc3⟩, _⟩ := (HPB.out.of ((below_ch HX.out (below_ch HZ1.out HC.out)).block _ hpl)).facts; obtain ⟨ql, ⟨qc0, qc1, qc2, qc3⟩, _⟩ := (HQB.out.of ((below_ch HX.out (below_ch HZ1.out HC.out)).block _ hql)).facts; clear hbt)
      | (go_simp; go_at_call 9; (with_reducible refine (HA4.out _ (below_ch HX.out (below_ch HZ1.out HC.out))).mono ?_); rintro e1 wt ⟨rfl, hbt⟩; replace HC := Lib.hid (below_ch HC.out hbt); obtain ⟨pl, ⟨pc0, pc1, pc2, pc3⟩, _⟩ := (HPB.out.of ((below_ch HX.out (below_ch HZ1.out HC.out)).block _ hpl)).facts; obtain ⟨ql, ⟨qc0, qc1, qc2, qc3⟩, _⟩ := (HQB.out.of ((below_ch HX.out (below_ch HZ1.out HC.out)).block _ hql)).facts; clear hbt))
    all_goals (go_wp2_with fail; go_meet)
    all_goals exact ⟨by rw [bstr_cat, bstr_cat, HY1.out], HC.out⟩
  obtain ⟨rfl, hbc⟩ := hcut
  have HZ2 := Lib.hid (below_ch HZ1.out hbc)
  obtain ⟨wc2, hwc⟩ : ∃ z, z = wc := ⟨_, rfl⟩
  rw [← hwc] at HZ2 ⊢
  clear hwc hbc hs1 hs2 hc1 hc2 hs3 hc3 hc4
  have hs1 : (bstr A5).size ≤ 50000000000000 := hl5
  have hs2 : (bstr A6).size ≤ 50000000000000 := hl6
  have hc1 : ¬ 9223372036854775807 < (bstr A5).size + (bstr A6).size := by omega
  have hc2 : (bstr A5).size + (bstr A6).size ≤ 9223372036854775807 := by omega
  have hs3 : (bstr Y1).size ≤ 200000000000000 := hyl1
  have hc3 : ¬ 9223372036854775807 < (bstr Y1).size + (bstr A5 ++ bstr A6).size := by (rw [ByteArray.size_append]; omega)
  have hc4 : ¬ 9223372036854775807 < (bstr Y1).size + ((bstr A5).size + (bstr A6).size) := by omega
  go_upto_region 19 with (fail)
  go_cut [13] from 113 (fun s X => s = .string (bstr Y2) ∧ Below wc2.heap.size wc2 X)
  case first =>
    have HC : Hid (Below wc2.heap.size wc2 wc2.drew) := Lib.hid ((Below.refl _ _).drew)
    obtain ⟨pl, ⟨pc0, pc1, pc2, pc3⟩, _⟩ := (HPB.out.of ((below_ch HX.out (below_ch HZ2.out HC.out)).block _ hpl)).facts; obtain ⟨ql, ⟨qc0, qc1, qc2, qc3⟩, _⟩ := (HQB.out.of ((below_ch HX.out (below_ch HZ2.out HC.out)).block _ hql)).facts
    go_region_law (first
      | (go_simp; go_at_call 9; (with_reducible refine (HA5.out _ (below_ch HX.out (below_ch HZ2.out HC.out))).mono ?_); rintro e1 wt ⟨rfl, hbt⟩; replace HC := Lib.hid (below_ch HC.out hbt); obtain ⟨pl, ⟨pc0, pc1, pc2, pc3⟩, _⟩ := (HPB.out.of ((below_ch HX.out (below_ch HZ2.out HC.out)).block _ hpl)).facts; obtain ⟨ql, ⟨qc0, qc1, qc2, qc3⟩, _⟩ := (HQB.out.of ((below_ch HX.out (below_ch HZ2.out HC.out)).block _ hql)).facts; clear hbt)
      | (go_simp; go_at_call 9; (with_reducible refine (HA6.out _ (below_ch HX.out (below_ch HZ2.out HC.out))).mono ?_); rintro e1 wt ⟨rfl, hbt⟩; replace HC := Lib.hid (below_ch HC.out hbt); obtain ⟨pl, ⟨pc0, pc1, pc2, pc3⟩, _⟩ := (HPB.out.of ((below_ch HX.out (below_ch HZ2.out HC.out)).block _ hpl)).facts; obtain ⟨ql, ⟨qc0, qc1, qc2, qc3⟩, _⟩ := (HQB.out.of ((below_ch HX.out (below_ch HZ2.out HC.out)).block _ hql)).facts; clear hbt))
    all_goals (go_wp2_with fail; go_meet)
    all_goals exact ⟨by rw [bstr_cat, bstr_cat, HY2.out], HC.out⟩
  obtain ⟨rfl, hbc⟩ := hcut
  have HZ3 := Lib.hid (below_ch HZ2.out hbc)
  obtain ⟨wc3, hwc⟩ : ∃ z, z = wc := ⟨_, rfl⟩
  rw [← hwc] at HZ3 ⊢
  clear hwc hbc hs1 hs2 hc1 hc2 hs3 hc3 hc4
  have hs1 : (bstr A7).size ≤ 50000000000000 := hl7
  have hs2 : (bstr A8).size ≤ 50000000000000 := hl8
  have hc1 : ¬ 9223372036854775807 < (bstr A7).size + (bstr A8).size := by omega
  have hc2 : (bstr A7).size + (bstr A8).size ≤ 9223372036854775807 := by omega
  have hs3 : (bstr Y2).size ≤ 300000000000000 := hyl2
  have hc3 : ¬ 9223372036854775807 < (bstr Y2).size + (bstr A7 ++ bstr A8).size := by (rw [ByteArray.size_append]; omega)
  have hc4 : ¬ 9223372036854775807 < (bstr Y2).size + ((bstr A7).size + (bstr A8).size) := by omega
  go_upto_region 20 with (fail)
  go_cut [13] from 124 (fun s X => s = .string (bstr Y3) ∧ Below wc3.heap.size wc3 X)
  case first =>
    have HC : Hid (Below wc3.heap.size wc3 wc3.drew) := Lib.hid ((Below.refl _ _).drew)
    obtain ⟨pl, ⟨pc0, pc1, pc2, pc3⟩, _⟩ := (HPB.out.of ((below_ch HX.out (below_ch HZ3.out HC.out)).block _ hpl)).facts; obtain ⟨ql, ⟨qc0, qc1, qc2, qc3⟩, _⟩ := (HQB.out.of ((below_ch HX.out (below_ch HZ3.out HC.out)).block _ hql)).facts
    go_region_law (first
      | (go_simp; go_at_call 9; (with_reducible refine (HA7.out _ (below_ch HX.out (below_ch HZ3.out HC.out))).mono ?_); rintro e1 wt ⟨rfl, hbt⟩; replace HC := Lib.hid (below_ch HC.out hbt); obtain ⟨pl, ⟨pc0, pc1, pc2, pc3⟩, _⟩ := (HPB.out.of ((below_ch HX.out (below_ch HZ3.out HC.out)).block _ hpl)).facts; obtain ⟨ql, ⟨qc0, qc1, qc2, qc3⟩, _⟩ := (HQB.out.of ((below_ch HX.out (below_ch HZ3.out HC.out)).block _ hql)).facts; clear hbt)
      | (go_simp; go_at_call 9; (with_reducible refine (HA8.out _ (below_ch HX.out (below_ch HZ3.out HC.out))).mono ?_); rintro e1 wt ⟨rfl, hbt⟩; replace HC := Lib.hid (below_ch HC.out hbt); obtain ⟨pl, ⟨pc0, pc1, pc2, pc3⟩, _⟩ := (HPB.out.of ((below_ch HX.out (below_ch HZ3.out HC.out)).block _ hpl)).facts; obtain ⟨ql, ⟨qc0, qc1, qc2, qc3⟩, _⟩ := (HQB.out.of ((below_ch HX.out (below_ch HZ3.out HC.out)).block _ hql)).facts; clear hbt))
    all_goals (go_wp2_with fail; go_meet)
    all_goals exact ⟨by rw [bstr_cat, bstr_cat, HY3.out], HC.out⟩
  obtain ⟨rfl, hbc⟩ := hcut
  have HZ4 := Lib.hid (below_ch HZ3.out hbc)
  obtain ⟨wc4, hwc⟩ : ∃ z, z = wc := ⟨_, rfl⟩
  rw [← hwc] at HZ4 ⊢
  clear hwc hbc hs1 hs2 hc1 hc2 hs3 hc3 hc4
  obtain ⟨al, ⟨ac0, ac1, ac2, ac3⟩, _⟩ := (HS8.out.blk.of (HZ4.out.block _ HS8.out.lt)).facts
  rw [HYT.out]
  go_wp2_with (go_at_call 9; (with_reducible refine (HT.out _ HZ4.out).mono ?_); rintro e9 w9 ⟨rfl, hb9⟩)
  go_ret
  exact ⟨by first | rfl | simp, below_ch HWX.out (below_ch HX.out (below_ch HZ4.out hb9))⟩

set_option maxRecDepth 100000 in
theorem lifted (os : Os) (started : os.Started) (H : Type) (enc : TypeId × Value → H) :
    ReturnsInHanded {} Tryd.checked os 6 .any (fun w args => (Rows.showOrderSpec.pre enc Tryd.prog Tryd.f6 [] false w args ∧ laidMetH Tryd.prog laidL w) ∧ sizedMet enc Tryd.prog Tryd.f6 (OpenSpec.ofChange Rows.showOrderSpec) false w args)
      (Rows.showOrderSpec.post enc Tryd.prog Tryd.f6 false true false false) := by
  refine returnsInHanded_of_change_and (C := Tryd.checked) (X := fun w _ => laidMetH Tryd.prog laidL w) (fun _ _ _ hh h => h.of_heap hh) own started (by kernel_rfl) Tryd.func6
    (ChangeSpec.witness_shaped (enc := enc) (C := Tryd.checked) (os := os) (X := fun w _ => laidMetH Tryd.prog laidL w) false (World.doorLaid Tryd.prog 400 os) #[.string ByteArray.empty, .string ByteArray.empty] 8 rfl (World.shaped_of_RefB (by kernel_rfl) (by kernel_rfl)) (by kernel_rfl) (by kernel_rfl) (by kernel_rfl) (door_met os _)) ?_
  intro W base args ds gs before hval0 hW _ _ hL _
  have hval : ∀ (j : Nat) t v, Tryd.f6.params[j]? = some t → args[j]? = some v → Value.okWide Tryd.prog W .any base t v := hval0
  have hW' := hW
  obtain ⟨p, q, hA0, hV, rfl, hfz, hnd⟩ := hW
  have hA : DataW.TrodAll enc Tryd.prog W 0 (fun _ => true) true Tryd.f6.params.toList args.toList ds p := hA0
  rw [Tryd.params6] at hA hval
  obtain ⟨v0, v1, d0, d1, p0, p1, rfl, rfl, rfl, h0, h1⟩ := trodAll_two hA
  obtain ⟨rfl, rfl⟩ := trodVars_none hV
  obtain ⟨s, rfl, rfl, rfl, wx0⟩ := open_string Tryd.underlying9 (hval 0 9 _ rfl rfl) h0
  obtain ⟨t, rfl, rfl, rfl, wx1⟩ := open_string Tryd.underlying9 (hval 1 9 _ rfl rfl) h1
  have hLaid := of_laid hL
  clear hA0 hval0
  simp only [List.append_nil] at hW'
  refine (walk s wx0 t wx1 W hLaid).mono fun e W' ⟨he, hb⟩ => ?_
  subst he
  exact ⟨_, rfl, _, _, _, [], [], [], hW', trodAll_mk1 (shut_bool Tryd.underlying4 _), trodAll_mk2 (shut_string Tryd.underlying9 wx0) (shut_string Tryd.underlying9 wx1), rfl, hb.frame _, fun h => by cases h⟩

theorem said : Rows.ShowOrderSaid :=
  OpenClaim.holds_of_wide 6 Tryd.f6 rfl rfl rfl rfl rfl rfl rfl ⟨rfl, rfl, rfl, rfl, rfl⟩ rfl rfl rfl rfl rfl (by kernel_rfl) Tryd.func6 (by kernel_rfl)
    (of_decide_eq_true (by kernel_rfl)) (by unfold Func.isWrapper; first | (rw [if_pos (by decide +kernel)]; kernel_rfl) | (rw [if_neg (by decide +kernel)]; exact ⟨rfl, rfl⟩))
    (fun os started H enc _ => lifted os started H enc)
end ShowOrder

theorem showOrder_card_holds : Rows.ShowOrderCardSaid :=
  Claim7.holds_tied_plain_at .later [] _ true _ false
    ShowOrder.said (fun _ h => by cases h) (by kernel_rfl) (fun _ h => by cases h) showOrder_row_tie rfl ⟨rfl, rfl⟩ (by kernel_rfl) rfl
    (fun f fn hf hfn => by
      obtain rfl : f = 6 := Option.some.inj ((show Tryd.prog.funcNamed "paling/palinglaw05.ShowOrder" = some 6 by kernel_rfl).symm.trans hf) |>.symm
      obtain rfl : fn = Tryd.f6 := (Option.some.inj (Tryd.func6.symm.trans hfn)).symm
      exact ⟨by kernel_rfl, fun j t ht => by
        rw [Tryd.params6] at ht
        have hm : t ∈ [9, 9] := by simpa using Array.mem_of_getElem? ht
        have hall : ([9, 9].all fun u => !Tryd.prog.wantsStandIn u) = true := by kernel_rfl
        exact (show Tryd.prog.wantsStandIn t = false by simpa using List.all_eq_true.1 hall t hm)⟩)
    (by kernel_rfl)
#print axioms showOrder_card_holds
end Go.Proofs.YtkhbbapocamlmaaDoor
