/- Joined texts: An: lemmas for the law; each says its own conditions. -/
import Derived.Test.YtbnggoopfakgfaaQ09
import Derived.BigQuiet
set_option linter.unusedSimpArgs false
set_option linter.unusedVariables false
namespace Go.Proofs.Ytbnggoopfakgfaa
open Go Go.RowKit
theorem neq_ty (a b c d : Bool) (W : World) : (binOp .neq 42 (.agg #[.bool a, .bool b]) (.agg #[.bool c, .bool d])).run Try.prog W = .ok (.bool (!(a == c && b == d))) W := by
  cases a <;> cases b <;> cases c <;> cases d <;> kernel_rfl
theorem TF.dels_back (F : TF) (t : ByteArray) (x : Th) (h : F t.data.toList = none) : (F.upd t.data.toList x).dels (([] ++ [t]).drop 0) = F := by
  funext k
  show ((F.upd t.data.toList x).del t.data.toList) k = F k
  unfold TF.del TF.upd
  by_cases hk : k = t.data.toList
  · rw [if_pos hk, hk, h]
  · rw [if_neg hk, if_neg hk]
theorem neq_ty_same (a b : Bool) (W : World) : (binOp .neq 42 (.agg #[.bool a, .bool b]) (.agg #[.bool a, .bool b])).run Try.prog W = .ok (.bool false) W := by
  rw [neq_ty]
  simp
theorem kindN_none {x : Option Th} (h : kindN x = 0) : x = none := by
  rcases x with _ | x
  · rfl
  · cases x <;> simp [kindN] at h
theorem kindN_some {x : Option Th} (h : ¬ kindN x = 0) : x.isSome = true := by
  rcases x with _ | x
  · exact absurd rfl h
  · rfl
section
variable {B : Nat} {W : World} {s n : Nat} {F : TF} {L : List ByteArray} {bl : List Nat} {m lv bv : Value}
theorem let_no (h : Hid (Scp B W s n F L bl m lv bv)) (hbl : bl ≠ []) (t : ByteArray) (ht : t.size ≤ 1000000) (hF : t.toList.isEmpty = true ∨ ¬ kindN (F t.data.toList) = 0) (tr sc : Bool) :
    Calls Try.prog 13 #[.pointer (some ⟨s, 0, none⟩), .string t, .agg #[.bool tr, .bool sc]] W fun e w' => e = .returned (.int .i64 12) ∧ Below W.heap.size W w' := by
  by_cases he : t.data.toList = []
  · have e : t = ⟨#[]⟩ := by
      obtain ⟨⟨l⟩⟩ := t
      simp only at he
      subst he
      rfl
    subst e
    exact let_no1 h hbl tr sc
  · rcases hF with hF | hF
    · exact absurd (by rw [ByteArray.toList_eq] at hF; simpa using hF) he
    · exact let_no2 h hbl t ht he tr sc (kindN_some hF)
end
set_option maxRecDepth 100000 in
set_option maxHeartbeats 8000000 in
theorem anew_any (a0 a1 : ByteArray) (a2 : Int) (w1 : a1.size ≤ maxLen) (w2 : (Lit.int .u8 a2).wf = true) (w : World) :
    Calls Try.prog 5 #[.string a0, .string a1, .int .u8 a2] w fun e w' => e = .returned (.bool true) ∧ Below w.heap.size w w' := by
  go_enter Try.func5, Try.ntmps5
  go_upto_region 5 with (first
    | (go_at_call 6; (with_reducible refine (awake_any _).mono ?_); rintro e1 x1 ⟨rfl, hb1⟩; have HB1 := Lib.hid hb1; clear hb1)
    | (go_at_call 7; (with_reducible refine (r4_parse6 a0 _).mono ?_); rintro e2 x2 ⟨hb2, z0, n0, c0, z1, n1, c1, z2, n2, c2, z3, n3, c3, c, a, rfl, hP⟩; have HB2 := Lib.hid (below_ch HB1.out hb2); have HP := Lib.hid hP; clear hb2 hP))
  refine name_world ?_
  intro W1 hW1
  have HB3 : Hid (Below w.heap.size w W1) := Lib.hid (by (rw [hW1]; exact below_ch HB2.out (below_of_alloc _ _)))
  by_cases hs4 : 4000 < a0.size
  · clear hW1
    go_wp2
    go_ret
    exact ⟨rfl, HB3.out⟩
  by_cases hs1 : 100 < a1.size
  · clear hW1
    go_wp2
    go_ret
    exact ⟨rfl, HB3.out⟩
  by_cases hc1 : ¬ c = 0
  · have hcb : (c != 0) = true := by simpa using hc1
    clear hW1
    go_wp2
    go_ret
    exact ⟨rfl, HB3.out⟩
  have hc0 := Decidable.not_not.1 hc1
  rcases HP.out with hbad | ⟨_, p, rf, rt, hsh, hR⟩
  · exact absurd hbad hc1
  clear hc1
  subst hc0
  have HR : Hid (PRows x1.heap.size W1 p (.slice z0 n0 c0) (.slice z1 n1 c1) (.slice z2 n2 c2) (.slice z3 n3 c3) rf rt) := Lib.hid (by (rw [hW1]; exact hR.stay (below_of_alloc _ _)))
  have hm1 : W1.heap[x2.heap.size]? = some (.cells #[.slice z0 n0 c0, .slice z1 n1 c1, .slice z2 n2 c2, .slice z3 n3 c3] 29 (0, 0)) := by (rw [hW1]; exact heap_alloc_new _ _)
  have hml : x2.heap.size < W1.heap.size := (Array.getElem?_eq_some_iff.1 hm1).1
  have m0 : W1.cell? ⟨x2.heap.size, 0, none⟩ = some (.slice z0 n0 c0) := cell_of_row _ _ _ _ _ _ hm1
  have m1 : W1.cell? ⟨x2.heap.size, 1, none⟩ = some (.slice z1 n1 c1) := cell_of_row _ _ _ _ _ _ hm1
  have m2 : W1.cell? ⟨x2.heap.size, 2, none⟩ = some (.slice z2 n2 c2) := cell_of_row _ _ _ _ _ _ hm1
  have m3 : W1.cell? ⟨x2.heap.size, 3, none⟩ = some (.slice z3 n3 c3) := cell_of_row _ _ _ _ _ _ hm1
  clear hW1 hm1 HP hR HB1 HB2
  by_cases htw : (twiceF (thingsL p)).2 = true
  · have heq := fun X => eql_ptr_none X
    go_wp2_with (go_at_call 8; (with_reducible refine (new_bad HR hsh htw).mono ?_); rintro e3 x3 ⟨hb3, rfl⟩; have HB4 := Lib.hid (below_ch HB3.out hb3); clear hb3)
    go_ret
    exact ⟨rfl, HB4.out⟩
  have htf : (twiceF (thingsL p)).2 = false := by simpa using htw
  go_upto_region 8 with (go_at_call 8; (with_reducible refine (new_good HR hsh htf).mono ?_); rintro e4 x4 ⟨hb4, s, rfl, hs4, hok⟩; obtain ⟨F, mm, n, hn, hFe, hS⟩ := hok; have HB4 := Lib.hid (below_ch HB3.out hb4); have S0 := Lib.hid hS; clear hb4 hFe hS)
  clear m0 m1 m2 m3 hml HR htf htw
  obtain ⟨B, hB⟩ : ∃ B, W1.heap.size = B := ⟨_, rfl⟩
  have hBw : w.heap.size ≤ B := by (rw [← hB]; exact HB3.out.size)
  rw [hB] at S0 hs4
  clear hB HB3
  have ht1 : a1.size ≤ 1000000 := by omega
  obtain ⟨k, hk⟩ : ∃ k, kindN (F a1.data.toList) = k := ⟨_, rfl⟩
  have HKD : Hid (∀ X F' n' m' lv' bv' L' bl', Hid (Scp B X s n' F' L' bl' m' lv' bv') → F' a1.data.toList = F a1.data.toList → Calls Try.prog 19 #[.pointer (some ⟨s, 0, none⟩), .string a1] X fun e w' => e = .returned (.int .i64 k) ∧ w' = X) := Lib.hid fun X F' n' m' lv' bv' L' bl' hX hF => by
    have h := kind_any hX a1 ht1
    rw [hF, hk] at h
    exact h
  have hb12 : 0 ≤ a2 ∧ a2 ≤ 255 := by
    have h : IntKind.u8.min ≤ a2 ∧ a2 ≤ IntKind.u8.max := by simpa [Lit.wf] using w2
    exact h
  by_cases hfr : k = 0 ∧ a1.toList.isEmpty = false
  · obtain ⟨hk0, hef⟩ := hfr
    subst hk0
    have hF0 := Lib.hid (kindN_none hk)
    have HF0 := hF0
    have hne : a1.data.toList ≠ [] := fun h => by (rw [ByteArray.toList_eq, h] at hef; cases hef)
    go_upto_region 13 with (go_at_call 19; (with_reducible refine (HKD.out _ _ _ _ _ _ _ _ S0 rfl).mono ?_); rintro e5 x5 ⟨rfl, rfl⟩)
    clear hef hF0
    go_loopw [16] (fun iv wr => ∃ (i n' : Nat) (m lv bv : Value), iv = .int .i64 i ∧ i ≤ 12 ∧ n' ≤ 3000 + i ∧ Below w.heap.size w wr ∧ Scp B wr s n' F [] [] m lv bv) (fun iv _ => 12 - (intOf iv).toNat)
    case atStart => exact ⟨0, n, _, _, _, rfl, Nat.zero_le _, hn, HB4.out, S0.out⟩
    case round =>
      obtain ⟨i, n1, m, lv, bv, rfl, hi, hn1, hbr, hsr⟩ := hrel
      have HBR := Lib.hid hbr
      have S1 := Lib.hid hsr
      clear hbr hsr S0 HB4
      by_cases hin : (i : Int) < a2 % 12
      · have hi12 : i < 12 := by omega
        have hi0 : (0 : Int) ≤ (i : Int) := Int.natCast_nonneg _
        go_upto_region 16 with (go_at_call 10; (with_reducible refine (enter_any S1 (by simp) (by simp)).mono ?_); rintro e6 y1 ⟨rfl, bv1, hS, hb⟩; have S2 := Lib.hid hS; have HC1 := Lib.hid (below_tr HBR.out (hb.mono hBw)); clear hS hb)
        go_upto_region 17 with (fail)
        refine name_world ?_
        intro Y1 hY1
        obtain ⟨tr, htr⟩ : ∃ tr, ((i : Int) % 2 == 0) = tr := ⟨_, rfl⟩
        obtain ⟨sc, hsc⟩ : ∃ sc, ((i : Int) % 3 == 0) = sc := ⟨_, rfl⟩
        rw [htr, hsc] at hY1
        clear htr hsc
        have HA1 : Hid (Below y1.heap.size y1 Y1) := Lib.hid (by (rw [hY1]; exact below_of_alloc _ _))
        have hm1 : Y1.heap[y1.heap.size]? = some (.cells #[.bool tr, .bool sc] 42 (0, 0)) := by (rw [hY1]; exact heap_alloc_new _ _)
        have HM1 := Lib.hid hm1
        have S3 := Lib.hid (S2.out.stay HA1.out)
        have HC2 := Lib.hid (below_ch HC1.out HA1.out)
        have hl1 : y1.heap.size < Y1.heap.size := (Array.getElem?_eq_some_iff.1 hm1).1
        have d0 : Y1.cell? ⟨y1.heap.size, 0, none⟩ = some (.bool tr) := cell_of_row _ _ _ _ _ _ hm1
        have d1 : Y1.cell? ⟨y1.heap.size, 1, none⟩ = some (.bool sc) := cell_of_row _ _ _ _ _ _ hm1
        clear hY1 hm1 S1 S2 HC1 HA1
        go_upto_region 18 with (go_at_call 13; (with_reducible refine (let_yes S3 (by simp) a1 ht1 hne tr sc HF0.out (by omega) (by simp)).mono ?_); rintro e7 y2 ⟨rfl, b7, lv7, hS7, hb7, ho7⟩; have S4 := Lib.hid hS7; have HC3 := Lib.hid (below_tr HC2.out (hb7.mono hBw)); have hm2 := (ho7.2 _ _ _ _ HM1.out (by decide) (by decide) (by decide)).trans HM1.out; clear hS7 hb7 ho7)
        have HM2 := Lib.hid hm2
        have hl2 : y1.heap.size < y2.heap.size := (Array.getElem?_eq_some_iff.1 hm2).1
        have d0 : y2.cell? ⟨y1.heap.size, 0, none⟩ = some (.bool tr) := cell_of_row _ _ _ _ _ _ hm2
        have d1 : y2.cell? ⟨y1.heap.size, 1, none⟩ = some (.bool sc) := cell_of_row _ _ _ _ _ _ hm2
        have HSM : Hid (((F.upd a1.data.toList (.lo tr sc)) a1.data.toList).isSome = true) := Lib.hid (by unfold TF.upd; rw [if_pos rfl]; rfl)
        clear hm2 HM1 S3 HC2 hl1
        go_upto_region 19 with (go_at_call 13; (with_reducible refine (let_no2 S4 (by simp) a1 ht1 hne tr sc HSM.out).mono ?_); rintro e8 y3 ⟨rfl, hb8⟩; have HB8 := Lib.hid hb8; have S5 := Lib.hid (S4.out.stay hb8); have HC4 := Lib.hid (below_ch HC3.out hb8); clear hb8)
        have hm3 := (HB8.out.block _ hl2).trans HM2.out
        have HM3 := Lib.hid hm3
        have hl3 : y1.heap.size < y3.heap.size := (Array.getElem?_eq_some_iff.1 hm3).1
        have d0 : y3.cell? ⟨y1.heap.size, 0, none⟩ = some (.bool tr) := cell_of_row _ _ _ _ _ _ hm3
        have d1 : y3.cell? ⟨y1.heap.size, 1, none⟩ = some (.bool sc) := cell_of_row _ _ _ _ _ _ hm3
        have HTY : Hid (∀ X, Below y3.heap.size y3 X → Calls Try.prog 21 #[.pointer (some ⟨s, 0, none⟩), .string a1] X fun e w' => e = .returned (.agg #[.bool tr, .bool sc]) ∧ Below X.heap.size X w') := Lib.hid fun X hX => by
          have h := typ_any (Lib.hid (S5.out.stay hX)) a1 ht1
          have e : typeN ((F.upd a1.data.toList (.lo tr sc)) a1.data.toList) = (tr, sc) := by (unfold TF.upd; rw [if_pos rfl]; rfl)
          rw [e] at h
          exact h
        have HKL : Hid (∀ X, Below y3.heap.size y3 X → Calls Try.prog 19 #[.pointer (some ⟨s, 0, none⟩), .string a1] X fun e w' => e = .returned (.int .i64 4) ∧ w' = X) := Lib.hid fun X hX => by
          have h := kind_any (Lib.hid (S5.out.stay hX)) a1 ht1
          have e : kindN ((F.upd a1.data.toList (.lo tr sc)) a1.data.toList) = 4 := by (unfold TF.upd; rw [if_pos rfl]; rfl)
          rw [e] at h
          exact h
        have hnq := neq_ty_same tr sc
        clear hm3 HM2 HB8 S4 HC3 HSM hl2
        obtain ⟨g7, c7, elv, hg7, _⟩ := row_some S5.out.lo (show 0 < ([] ++ [a1]).length by simp)
        subst elv
        have hc7 : 0 < c7 := by
          have h := (own_str (l := 1) (L := [a1]) S5.out.lo).2.1
          omega
        refine wp_region_quiet (C := fun w' => Below y3.heap.size y3 w') (by kernel_rfl) (by kernel_rfl) ((Below.refl _ _).drew) ?_
        dsimp only
        repeat (first
          | go_big_quiet_skip
          | (go_big_quiet_want; go_big_quiet_op; first
            | go_big_quiet_on
            | (refine ⟨_, fun _ _ => rfl, ?_⟩; go_big_quiet_on)
            | (apply Exists.intro; refine ⟨fun ww hww => ?_, ?_⟩; (go_at_call 21; exact (HTY.out _ hww).mono fun e X ⟨h1, h2⟩ => ⟨h1, below_ch hww h2⟩); go_big_quiet_on)
            | (apply Exists.intro; refine ⟨fun ww hww => ?_, ?_⟩; (go_at_call 19; exact (HKL.out _ hww).mono fun e X ⟨h1, h2⟩ => ⟨h1, h2 ▸ hww⟩); go_big_quiet_on)
            | (refine ⟨.agg #[.bool tr, .bool sc], fun ww hww => ?_, ?_⟩; (have q0 : ww.cell? ⟨y1.heap.size, 0, none⟩ = some (.bool tr) := (hww.cell (p := ⟨y1.heap.size, 0, none⟩) hl3).trans (cell_of_row _ _ _ _ _ _ HM3.out); have q1 : ww.cell? ⟨y1.heap.size, 1, none⟩ = some (.bool sc) := (hww.cell (p := ⟨y1.heap.size, 1, none⟩) hl3).trans (cell_of_row _ _ _ _ _ _ HM3.out); have ql := Nat.lt_of_lt_of_le hl3 hww.size; go_simp); go_big_quiet_on)))
        refine wpQuiet_nil ?_
        intro y4 hb9
        have S6 := Lib.hid (S5.out.stay hb9)
        have HC5 := Lib.hid (below_ch HC4.out hb9)
        clear hb9
        go_wp2_with (first
          | (go_at_call 19; (with_reducible refine (HKD.out _ _ _ _ _ _ _ _ S7 rfl).mono ?_); rintro e11 y7 ⟨rfl, rfl⟩)
          | (go_at_call 11; (with_reducible refine (leave_some (b0 := []) (a := 0) S6 (by simp) (by simp) (by simp) (fun x hx => by simp at hx; subst hx; exact ht1) hc7).mono ?_); rintro e12 y6 ⟨rfl, bv6, hS6, hb6, _⟩; rw [TF.dels_back _ _ _ HF0.out] at hS6; have S7 : Hid (Scp B y6 s (n1 + 1) F [] [] (.map (some b7)) (.slice (some ⟨g7, 0, none⟩) 0 c7) bv6) := Lib.hid hS6; have HC6 := Lib.hid (below_tr HC5.out (hb6.mono hBw)); clear hS6 hb6)
          | (go_at_call 16; (with_reducible refine (locals_any S7 (by simp) (fun x hx => by simp at hx)).mono ?_); rintro e13 y8 ⟨hb13, p13, c13, rfl, _⟩; have S8 := Lib.hid (S7.out.stay hb13); have HC7 := Lib.hid (below_ch HC6.out hb13); clear hb13))
        all_goals
          refine ⟨⟨i + 1, _, _, _, _, by go_num, by omega, by omega, HC7.out, S8.out⟩, ?_⟩
          simp [intOf]
          omega
      · go_wp2
        go_ret
        exact ⟨rfl, HBR.out⟩
  · by_cases hk0 : k = 0
    · have hee : a1.toList.isEmpty = true := by
        cases h : a1.toList.isEmpty
        · exact absurd ⟨hk0, h⟩ hfr
        · rfl
      have HNO : Hid (a1.toList.isEmpty = true ∨ ¬ kindN (F a1.data.toList) = 0) := Lib.hid (.inl hee)
      clear hfr
      go_upto_region 13 with (go_at_call 19; (with_reducible refine (HKD.out _ _ _ _ _ _ _ _ S0 rfl).mono ?_); rintro e5 x5 ⟨rfl, rfl⟩)
      clear hee
      go_loopw [16] (fun iv wr => ∃ (i n' : Nat) (m lv bv : Value), iv = .int .i64 i ∧ i ≤ 12 ∧ n' ≤ 3000 + i ∧ Below w.heap.size w wr ∧ Scp B wr s n' F [] [] m lv bv) (fun iv _ => 12 - (intOf iv).toNat)
      case atStart => exact ⟨0, n, _, _, _, rfl, Nat.zero_le _, hn, HB4.out, S0.out⟩
      case round =>
        obtain ⟨i, n1, m, lv, bv, rfl, hi, hn1, hbr, hsr⟩ := hrel
        have HBR := Lib.hid hbr
        have S1 := Lib.hid hsr
        clear hbr hsr S0 HB4
        by_cases hin : (i : Int) < a2 % 12
        · have hi12 : i < 12 := by omega
          have hi0 : (0 : Int) ≤ (i : Int) := Int.natCast_nonneg _
          go_upto_region 16 with (go_at_call 10; (with_reducible refine (enter_any S1 (by simp) (by simp)).mono ?_); rintro e6 y1 ⟨rfl, bv1, hS, hb⟩; have S2 := Lib.hid hS; have HC1 := Lib.hid (below_tr HBR.out (hb.mono hBw)); clear hS hb)
          go_upto_region 17 with (fail)
          refine name_world ?_
          intro Y1 hY1
          obtain ⟨tr, htr⟩ : ∃ tr, ((i : Int) % 2 == 0) = tr := ⟨_, rfl⟩
          obtain ⟨sc, hsc⟩ : ∃ sc, ((i : Int) % 3 == 0) = sc := ⟨_, rfl⟩
          rw [htr, hsc] at hY1
          clear htr hsc
          have HA1 : Hid (Below y1.heap.size y1 Y1) := Lib.hid (by (rw [hY1]; exact below_of_alloc _ _))
          have hm1 : Y1.heap[y1.heap.size]? = some (.cells #[.bool tr, .bool sc] 42 (0, 0)) := by (rw [hY1]; exact heap_alloc_new _ _)
          have HM1 := Lib.hid hm1
          have S3 := Lib.hid (S2.out.stay HA1.out)
          have HC2 := Lib.hid (below_ch HC1.out HA1.out)
          have hl1 : y1.heap.size < Y1.heap.size := (Array.getElem?_eq_some_iff.1 hm1).1
          have d0 : Y1.cell? ⟨y1.heap.size, 0, none⟩ = some (.bool tr) := cell_of_row _ _ _ _ _ _ hm1
          have d1 : Y1.cell? ⟨y1.heap.size, 1, none⟩ = some (.bool sc) := cell_of_row _ _ _ _ _ _ hm1
          clear hY1 hm1 S1 S2 HC1 HA1
          go_upto_region 18 with (go_at_call 13; (with_reducible refine (let_no S3 (by simp) a1 ht1 HNO.out tr sc).mono ?_); rintro e7 y2 ⟨rfl, hb7⟩; have HB7 := Lib.hid hb7; have S4 := Lib.hid (S3.out.stay hb7); have HC3 := Lib.hid (below_ch HC2.out hb7); clear hb7)
          have hm2 := (HB7.out.block _ hl1).trans HM1.out
          have HM2 := Lib.hid hm2
          have hl2 : y1.heap.size < y2.heap.size := (Array.getElem?_eq_some_iff.1 hm2).1
          have d0 : y2.cell? ⟨y1.heap.size, 0, none⟩ = some (.bool tr) := cell_of_row _ _ _ _ _ _ hm2
          have d1 : y2.cell? ⟨y1.heap.size, 1, none⟩ = some (.bool sc) := cell_of_row _ _ _ _ _ _ hm2
          clear hm2 HM1 S3 HC2 hl1 HB7
          go_upto_region 19 with (go_at_call 13; (with_reducible refine (let_no S4 (by simp) a1 ht1 HNO.out tr sc).mono ?_); rintro e8 y3 ⟨rfl, hb8⟩; have HB8 := Lib.hid hb8; have S5 := Lib.hid (S4.out.stay hb8); have HC4 := Lib.hid (below_ch HC3.out hb8); clear hb8)
          have hm3 := (HB8.out.block _ hl2).trans HM2.out
          have hl3 : y1.heap.size < y3.heap.size := (Array.getElem?_eq_some_iff.1 hm3).1
          have d0 : y3.cell? ⟨y1.heap.size, 0, none⟩ = some (.bool tr) := cell_of_row _ _ _ _ _ _ hm3
          have d1 : y3.cell? ⟨y1.heap.size, 1, none⟩ = some (.bool sc) := cell_of_row _ _ _ _ _ _ hm3
          clear hm3 HM2 HB8 S4 HC3 hl2
          refine wp_region_quiet_lit (by kernel_rfl) (by kernel_rfl) ?_
          repeat (any_goals (first | go_big_quiet_step ((go_at_call 19; exact Calls.quiet_of_same (HKD.out _ _ _ _ _ _ _ _ (Lib.hid (S5.out.stay (below_drewN (Below.refl _ _) _))) rfl))) | quiet_step ((go_at_call 19; exact Calls.quiet_of_same (HKD.out _ _ _ _ _ _ _ _ (Lib.hid (S5.out.stay (below_drewN (Below.refl _ _) _))) rfl)))))
          refine wpQuiet_nil ?_
          intro _ hw'
          obtain ⟨nq, hw''⟩ := hw'
          subst hw''
          all_goals go_wp2_with (first
            | (go_at_call 19; (with_reducible refine (HKD.out _ _ _ _ _ _ _ _ S7 rfl).mono ?_); rintro e11 y7 ⟨rfl, rfl⟩)
            | (go_at_call 11; (with_reducible refine (leave_nil (b0 := []) (Lib.hid (S5.out.stay (below_drewN (Below.refl _ _) _))) (by simp)).mono ?_); rintro e12 y6 ⟨rfl, lv6, bv6, hS6, hb6⟩; have S7 := Lib.hid hS6; have HC6 := Lib.hid (below_tr (below_drewN HC4.out _) (hb6.mono hBw)); clear hS6 hb6)
            | (go_at_call 16; (with_reducible refine (locals_any S7 (by simp) (fun x hx => by simp at hx)).mono ?_); rintro e13 y8 ⟨hb13, p13, c13, rfl, _⟩; have S8 := Lib.hid (S7.out.stay hb13); have HC7 := Lib.hid (below_ch HC6.out hb13); clear hb13))
          all_goals
            refine ⟨⟨i + 1, _, _, _, _, by go_num, by omega, by omega, HC7.out, S8.out⟩, ?_⟩
            simp [intOf]
            omega
        · go_wp2
          go_ret
          exact ⟨rfl, HBR.out⟩
    · have HNO : Hid (a1.toList.isEmpty = true ∨ ¬ kindN (F a1.data.toList) = 0) := Lib.hid (.inr (by rw [hk]; exact hk0))
      clear hfr
      go_upto_region 13 with (go_at_call 19; (with_reducible refine (HKD.out _ _ _ _ _ _ _ _ S0 rfl).mono ?_); rintro e5 x5 ⟨rfl, rfl⟩)
      go_loopw [16] (fun iv wr => ∃ (i n' : Nat) (m lv bv : Value), iv = .int .i64 i ∧ i ≤ 12 ∧ n' ≤ 3000 + i ∧ Below w.heap.size w wr ∧ Scp B wr s n' F [] [] m lv bv) (fun iv _ => 12 - (intOf iv).toNat)
      case atStart => exact ⟨0, n, _, _, _, rfl, Nat.zero_le _, hn, HB4.out, S0.out⟩
      case round =>
        obtain ⟨i, n1, m, lv, bv, rfl, hi, hn1, hbr, hsr⟩ := hrel
        have HBR := Lib.hid hbr
        have S1 := Lib.hid hsr
        clear hbr hsr S0 HB4
        by_cases hin : (i : Int) < a2 % 12
        · have hi12 : i < 12 := by omega
          have hi0 : (0 : Int) ≤ (i : Int) := Int.natCast_nonneg _
          go_upto_region 16 with (go_at_call 10; (with_reducible refine (enter_any S1 (by simp) (by simp)).mono ?_); rintro e6 y1 ⟨rfl, bv1, hS, hb⟩; have S2 := Lib.hid hS; have HC1 := Lib.hid (below_tr HBR.out (hb.mono hBw)); clear hS hb)
          go_upto_region 17 with (fail)
          refine name_world ?_
          intro Y1 hY1
          obtain ⟨tr, htr⟩ : ∃ tr, ((i : Int) % 2 == 0) = tr := ⟨_, rfl⟩
          obtain ⟨sc, hsc⟩ : ∃ sc, ((i : Int) % 3 == 0) = sc := ⟨_, rfl⟩
          rw [htr, hsc] at hY1
          clear htr hsc
          have HA1 : Hid (Below y1.heap.size y1 Y1) := Lib.hid (by (rw [hY1]; exact below_of_alloc _ _))
          have hm1 : Y1.heap[y1.heap.size]? = some (.cells #[.bool tr, .bool sc] 42 (0, 0)) := by (rw [hY1]; exact heap_alloc_new _ _)
          have HM1 := Lib.hid hm1
          have S3 := Lib.hid (S2.out.stay HA1.out)
          have HC2 := Lib.hid (below_ch HC1.out HA1.out)
          have hl1 : y1.heap.size < Y1.heap.size := (Array.getElem?_eq_some_iff.1 hm1).1
          have d0 : Y1.cell? ⟨y1.heap.size, 0, none⟩ = some (.bool tr) := cell_of_row _ _ _ _ _ _ hm1
          have d1 : Y1.cell? ⟨y1.heap.size, 1, none⟩ = some (.bool sc) := cell_of_row _ _ _ _ _ _ hm1
          clear hY1 hm1 S1 S2 HC1 HA1
          go_upto_region 18 with (go_at_call 13; (with_reducible refine (let_no S3 (by simp) a1 ht1 HNO.out tr sc).mono ?_); rintro e7 y2 ⟨rfl, hb7⟩; have HB7 := Lib.hid hb7; have S4 := Lib.hid (S3.out.stay hb7); have HC3 := Lib.hid (below_ch HC2.out hb7); clear hb7)
          have hm2 := (HB7.out.block _ hl1).trans HM1.out
          have HM2 := Lib.hid hm2
          have hl2 : y1.heap.size < y2.heap.size := (Array.getElem?_eq_some_iff.1 hm2).1
          have d0 : y2.cell? ⟨y1.heap.size, 0, none⟩ = some (.bool tr) := cell_of_row _ _ _ _ _ _ hm2
          have d1 : y2.cell? ⟨y1.heap.size, 1, none⟩ = some (.bool sc) := cell_of_row _ _ _ _ _ _ hm2
          clear hm2 HM1 S3 HC2 hl1 HB7
          go_upto_region 19 with (go_at_call 13; (with_reducible refine (let_no S4 (by simp) a1 ht1 HNO.out tr sc).mono ?_); rintro e8 y3 ⟨rfl, hb8⟩; have HB8 := Lib.hid hb8; have S5 := Lib.hid (S4.out.stay hb8); have HC4 := Lib.hid (below_ch HC3.out hb8); clear hb8)
          have hm3 := (HB8.out.block _ hl2).trans HM2.out
          have hl3 : y1.heap.size < y3.heap.size := (Array.getElem?_eq_some_iff.1 hm3).1
          have d0 : y3.cell? ⟨y1.heap.size, 0, none⟩ = some (.bool tr) := cell_of_row _ _ _ _ _ _ hm3
          have d1 : y3.cell? ⟨y1.heap.size, 1, none⟩ = some (.bool sc) := cell_of_row _ _ _ _ _ _ hm3
          clear hm3 HM2 HB8 S4 HC3 hl2
          refine wp_region_quiet_lit (by kernel_rfl) (by kernel_rfl) ?_
          repeat (any_goals (first | go_big_quiet_step ((go_at_call 19; exact Calls.quiet_of_same (HKD.out _ _ _ _ _ _ _ _ (Lib.hid (S5.out.stay (below_drewN (Below.refl _ _) _))) rfl))) | quiet_step ((go_at_call 19; exact Calls.quiet_of_same (HKD.out _ _ _ _ _ _ _ _ (Lib.hid (S5.out.stay (below_drewN (Below.refl _ _) _))) rfl)))))
          refine wpQuiet_nil ?_
          intro _ hw'
          obtain ⟨nq, hw''⟩ := hw'
          subst hw''
          all_goals go_wp2_with (first
            | (go_at_call 19; (with_reducible refine (HKD.out _ _ _ _ _ _ _ _ S7 rfl).mono ?_); rintro e11 y7 ⟨rfl, rfl⟩)
            | (go_at_call 11; (with_reducible refine (leave_nil (b0 := []) (Lib.hid (S5.out.stay (below_drewN (Below.refl _ _) _))) (by simp)).mono ?_); rintro e12 y6 ⟨rfl, lv6, bv6, hS6, hb6⟩; have S7 := Lib.hid hS6; have HC6 := Lib.hid (below_tr (below_drewN HC4.out _) (hb6.mono hBw)); clear hS6 hb6)
            | (go_at_call 16; (with_reducible refine (locals_any S7 (by simp) (fun x hx => by simp at hx)).mono ?_); rintro e13 y8 ⟨hb13, p13, c13, rfl, _⟩; have S8 := Lib.hid (S7.out.stay hb13); have HC7 := Lib.hid (below_ch HC6.out hb13); clear hb13))
          all_goals
            refine ⟨⟨i + 1, _, _, _, _, by go_num, by omega, by omega, HC7.out, S8.out⟩, ?_⟩
            simp [intOf]
            omega
        · go_wp2
          go_ret
          exact ⟨rfl, HBR.out⟩
end Go.Proofs.Ytbnggoopfakgfaa
