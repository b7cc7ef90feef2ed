/- ExprDeep comes out true for every two bytes: no condition but what the card itself says of the listed variables. -/
import Derived.Test.YtgjfcikniamleaaGreatDoorPD
import Derived.Test.YtgjfcikniamleaaGreatDoorPA
import Derived.Test.YtgjfcikniamleaaGreatDoorRnumB
import Derived.Test.YtgjfcikniamleaaGreatDoorLaid
import Derived.Test.YtgjfcikniamleaaGreatDoorTie
import Derived.Test.YtgjfcikniamleaaGreatDoorCards
import Derived.SevenTiedAt
import Derived.Carry
namespace Go.Proofs.YtgjfcikniamleaaGreatDoor
namespace ExprDeep
open Go Go.ChangeShapes Go.WideShapes Go.ChangeAt Go.WideMaps Go.WideElems Go.RowKit Go.Sort
open Go.ChangeMaps (open_string shut_string)


def opensC : Array Value := #[.string ⟨#[40]⟩, .string ⟨#[45]⟩, .string ⟨#[33]⟩, .string ⟨#[97, 91]⟩, .string ⟨#[102, 40]⟩, .string ⟨#[102, 40, 49, 44, 32]⟩, .string ⟨#[33, 40]⟩]
def shutsC : Array Value := #[.string ⟨#[41]⟩, .string ⟨#[]⟩, .string ⟨#[]⟩, .string ⟨#[93]⟩, .string ⟨#[41]⟩, .string ⟨#[41]⟩, .string ⟨#[41]⟩]
theorem opens_at : ∀ k : Nat, k < 7 → opensC[k]? = some (.string (bstr (opB' k)))
  | 0, _ | 1, _ | 2, _ | 3, _ | 4, _ | 5, _ | 6, _ => rfl
  | k + 7, h => absurd h (by omega)
theorem shuts_at : ∀ k : Nat, k < 7 → shutsC[k]? = some (.string (bstr (shB' k)))
  | 0, _ | 1, _ | 2, _ | 3, _ | 4, _ | 5, _ | 6, _ => rfl
  | k + 7, h => absurd h (by omega)

/-- What the text of the law is, and how it ends. -/
theorem deep_of {k m : Nat} (hk : k < 7) : (m * each' k ≤ 32 ∧ ∃ x, OfR (dpT k m) (.ok x) ∧ x.txt ≠ []) ∨ (32 < m * each' k ∧ ∃ b : Nat, OfR (dpT k m) (.bad 2 b) ∧ b < (dpT k m).length) := by
  have hD := (dp_all num1 hk m 0 (by omega)).2 [] 0 [⟨3, [], 0, 0 + (dpT k m).length⟩] Stop.nil (.done _)
  obtain ⟨wx, hS, -, hp⟩ := hD
  rw [List.append_nil] at hS
  have h2 := hp ⟨3, [], 0, 0 + (dpT k m).length⟩ [] rfl ⟨fun e => absurd (show (3 : Int) = 2 from e.1) (by decide), fun e => absurd (show (3 : Int) = 2 from e.1) (by decide)⟩
  by_cases h : m * each' k ≤ 32
  · rw [decide_eq_true (by omega), if_pos rfl] at h2
    obtain ⟨x, hx, hP⟩ := h2
    exact .inl ⟨h, x, .ok hS (.expr hP (.loopEnd (by rw [rk_end]; decide))) rfl, hx⟩
  · rw [decide_eq_false (by omega), if_neg (by decide)] at h2
    obtain ⟨b, hP⟩ := h2
    refine .inr ⟨by omega, b, .bad hS (.exprBad hP), ?_⟩
    obtain ⟨v, hv, hva, hv3⟩ := hP.at_word (by simp) (by simp) (by simp) _ _ rfl
    have := (hS.place v hv).2 (hv3 rfl)
    omega

set_option maxRecDepth 100000 in
set_option maxHeartbeats 4000000 in
theorem walk (n : Int) (wn : (Lit.int .u8 n).wf = true) (q : Int) (wq : (Lit.int .u8 q).wf = true) (W : World) (L0 : Laid W) : Calls Tryz.prog 5 #[.int .u8 n, .int .u8 q] W fun e w' => e = .returned (.bool true) ∧ Below W.heap.size W w' := by
  have L := Lib.hid L0
  clear L0
  go_enter Tryz.func5, Tryz.ntmps5
  go_wp2_with (go_at_call 7; (with_reducible refine (awake_any _ L).mono ?_); rintro e' w1 ⟨rfl, hb1⟩)
  obtain ⟨k, hk7, hk⟩ : ∃ k : Nat, k < 7 ∧ (wrap64 q).tmod 7 = (k : Int) := by
    have hb : 0 ≤ q ∧ q ≤ 255 := by (simp [Lit.wf, IntKind.min, IntKind.max, IntKind.bits, IntKind.signed] at wq; omega)
    have e : wrap64 q = q := w64 (by omega) (by omega)
    refine ⟨q.toNat % 7, Nat.mod_lt _ (by decide), ?_⟩
    rw [e, Int.tmod_eq_emod_of_nonneg hb.1]
    omega
  obtain ⟨m, hm70, hm⟩ : ∃ m : Nat, m < 70 ∧ wrap64 (n.tmod 70) = (m : Int) := by
    have hb : 0 ≤ n ∧ n ≤ 255 := by (simp [Lit.wf, IntKind.min, IntKind.max, IntKind.bits, IntKind.signed] at wn; omega)
    have e : n.tmod 70 = n % 70 := Int.tmod_eq_emod_of_nonneg hb.1
    refine ⟨n.toNat % 70, Nat.mod_lt _ (by decide), ?_⟩
    rw [e, w64 (by omega) (by omega)]
    omega
  rw [hk, hm]
  obtain ⟨W2, hW2⟩ : ∃ W2, W2 = (w1.alloc (.cells opensC 9)).alloc (.cells shutsC 9) := ⟨_, rfl⟩
  have hBO : W2.heap[w1.heap.size]? = some (.cells opensC 9 (0, 0)) := by (rw [hW2]; exact (Below.heap_alloc _ _ _ (by simp)).trans (heap_new w1 _))
  have hBS : W2.heap[w1.heap.size + 1]? = some (.cells shutsC 9 (0, 0)) := by (rw [hW2]; exact heap_alloc2_new w1 _ _)
  have hB2 : Below W.heap.size W W2 := by (rw [hW2]; (refine Fr.below ?_; (repeat (first | (with_reducible exact Fr.refl _ _) | (with_reducible refine Fr.alloc ?_ _) | (with_reducible refine Fr.drewN ?_ _) | (with_reducible refine Fr.drew ?_) | (with_reducible refine Fr.set ?_ ?_ _ _; rotate_left; first | exact .inl rfl | (right; simp; done) | (right; simp; omega) | (right; omega)) | (with_reducible refine Fr.step ?_ (by assumption)) | (with_reducible refine Fr.stepB ?_ (by assumption))))))
  unfold opensC shutsC at hW2
  rw [← hW2]
  have cO : W2.cell? ⟨w1.heap.size, k, none⟩ = some (.string (bstr (opB' k))) := (cell_of_row _ _ _ _ _ _ hBO).trans (opens_at k hk7)
  have cS : W2.cell? ⟨w1.heap.size + 1, k, none⟩ = some (.string (bstr (shB' k))) := (cell_of_row _ _ _ _ _ _ hBS).trans (shuts_at k hk7)
  have hsz : w1.heap.size + 1 < W2.heap.size := by (rw [hW2]; simp)
  have hL1 : (opB' k).length + (shB' k).length ≤ 6 := by
    have : ∀ k : Nat, k < 7 → (opB' k).length + (shB' k).length ≤ 6 := by decide
    exact this k hk7
  have hO1 : (bstr (opB' k)).size = (opB' k).length := bs_size _
  have hS1 : (bstr (shB' k)).size = (shB' k).length := bs_size _
  have HLO := Lib.hid (And.intro hO1 (And.intro hS1 hL1))
  have HK := Lib.hid hk7
  clear hW2 hBO hBS hk hm wq wn hO1 hS1 hL1
  have hki : (k : Int) < 7 := by omega
  go_loopw [10, 11] (fun sv iv wr => ∃ (s : ByteArray) (j : Nat), sv = .string s ∧ iv = .int .i64 j ∧ j ≤ m ∧ Hid (s.data.toList = dpT k j) ∧ s.size ≤ 6 * j + 1 ∧ Below W2.heap.size W2 wr) (fun _ iv _ => m - (intOf iv).toNat)
  case atStart => exact ⟨_, 0, rfl, rfl, Nat.zero_le _, Lib.hid rfl, by decide, Below.refl _ _⟩
  case round =>
    obtain ⟨s, j, rfl, rfl, hj, hs, hsl, hbr⟩ := hrel
    by_cases hjm : j < m
    · have hjm2 : (j : Int) < m := by omega
      have cO2 := (hbr.cell (p := ⟨w1.heap.size, k, none⟩) (by simp; omega)).trans cO
      have cS2 := (hbr.cell (p := ⟨w1.heap.size + 1, k, none⟩) (by simp; omega)).trans cS
      have hc1 : (bstr (opB' k)).size + s.size ≤ 9223372036854775807 := by (have := HLO.out; omega)
      have hc2 : ¬ 9223372036854775807 < (bstr (opB' k)).size + s.size := by omega
      have hcz : (bstr (opB' k) ++ s).size = (bstr (opB' k)).size + s.size := ByteArray.size_append
      have hc3 : (bstr (opB' k) ++ s).size + (bstr (shB' k)).size ≤ 9223372036854775807 := by (have := HLO.out; omega)
      have hc4 : ¬ 9223372036854775807 < (bstr (opB' k) ++ s).size + (bstr (shB' k)).size := by omega
      clear hcz
      go_wp2
      go_quiet (fail)
      go_wp2
      refine ⟨⟨_, j + 1, rfl, by simp, by omega, Lib.hid ?_, ?_, below_drewN hbr _⟩, by simp [intOf]; omega⟩
      · rw [cat_list, cat_list, hs.out]
        rfl
      · have h1 : (bstr (opB' k) ++ s ++ bstr (shB' k)).size = (bstr (opB' k) ++ s).size + (bstr (shB' k)).size := ByteArray.size_append
        have h2 : (bstr (opB' k) ++ s).size = (bstr (opB' k)).size + s.size := ByteArray.size_append
        have := HLO.out
        omega
    · obtain rfl : j = m := by omega
      have hsz2 : s.size ≤ 16384 := by omega
      have hzb := hbr.size
      have hBr : Below W.heap.size W wr := hB2.trans (hbr.mono hB2.size)
      have LR := Lib.hid (L.out.below hBr)
      have hse : s.size = (dpT k j).length := by rw [← hs.out]; rfl
      have hl2 : (dpT k j).length ≤ 20000 := by omega
      have hw1 : wrap64 (j : Int) = (j : Int) := w64 (by omega) (by omega)
      have hw2 : wrap64 ((j : Int) * 2) = (j : Int) * 2 := w64 (by omega) (by omega)
      have HD := Lib.hid (deep_of (m := j) HK.out)
      by_cases h6 : k = 6
      · have h6b : ((k : Int) == 6) = true := by (rw [h6]; rfl)
        have he : each' k = 2 := by (rw [h6]; rfl)
        rcases HD.out with ⟨h32, x, hO, hx⟩ | ⟨h32, b, hO, hb⟩
        · clear h6
          rw [he] at h32
          have HO := Lib.hid hO
          obtain ⟨T, hT⟩ : ∃ T, T = x.txt := ⟨_, rfl⟩
          have hTp : 0 < (bstr T).size := by (rw [bs_size, hT]; exact List.length_pos_iff.2 hx)
          have HT := Lib.hid hT
          clear hx hO hT
          go_wp2_with (first
            | (go_at_call 8; (with_reducible refine (of_ok s hsz2 x x.ks.length rfl _ (LR.out.below (by (refine Fr.below ?_; (repeat (first | (with_reducible exact Fr.refl _ _) | (with_reducible refine Fr.alloc ?_ _) | (with_reducible refine Fr.drewN ?_ _) | (with_reducible refine Fr.drew ?_) | (with_reducible refine Fr.set ?_ ?_ _ _; rotate_left; first | exact .inl rfl | (right; simp; done) | (right; simp; omega) | (right; omega)) | (with_reducible refine Fr.step ?_ (by assumption)) | (with_reducible refine Fr.stepB ?_ (by assumption))))))) (by rw [hs.out]; exact HO.out)).mono ?_); rintro e2 w3 ⟨px, cx, rfl, hx3, hb3⟩; have hz3 := hb3.size; (try simp at hz3))
            | (go_at_call 9; (with_reducible refine (show_of HO.out hl2 x.ks.length rfl T HT.out px cx _ (hx3.alloc _) (LR.out.below (by (refine Fr.below ?_; (repeat (first | (with_reducible exact Fr.refl _ _) | (with_reducible refine Fr.alloc ?_ _) | (with_reducible refine Fr.drewN ?_ _) | (with_reducible refine Fr.drew ?_) | (with_reducible refine Fr.set ?_ ?_ _ _; rotate_left; first | exact .inl rfl | (right; simp; done) | (right; simp; omega) | (right; omega)) | (with_reducible refine Fr.step ?_ (by assumption)) | (with_reducible refine Fr.stepB ?_ (by assumption)))))))).mono ?_); rintro e4 w4 ⟨rfl, hb4⟩; have hz4 := hb4.size; (try simp at hz4)))
          go_ret
          exact ⟨by first | rfl | exact ret_bool (decide_eq_true hTp), hBr.trans ((show Below wr.heap.size wr _ by (refine Fr.below ?_; (repeat (first | (with_reducible exact Fr.refl _ _) | (with_reducible refine Fr.alloc ?_ _) | (with_reducible refine Fr.drewN ?_ _) | (with_reducible refine Fr.drew ?_) | (with_reducible refine Fr.set ?_ ?_ _ _; rotate_left; first | exact .inl rfl | (right; simp; done) | (right; simp; omega) | (right; omega)) | (with_reducible refine Fr.step ?_ (by assumption)) | (with_reducible refine Fr.stepB ?_ (by assumption)))))).mono hBr.size)⟩
        · clear h6
          rw [he] at h32
          have HO := Lib.hid hO
          have hb2 : (b : Int) < s.size := by omega
          clear hO
          go_wp2_with (go_at_call 8; (with_reducible refine (of_bad s hsz2 2 b _ (LR.out.below (by (refine Fr.below ?_; (repeat (first | (with_reducible exact Fr.refl _ _) | (with_reducible refine Fr.alloc ?_ _) | (with_reducible refine Fr.drewN ?_ _) | (with_reducible refine Fr.drew ?_) | (with_reducible refine Fr.set ?_ ?_ _ _; rotate_left; first | exact .inl rfl | (right; simp; done) | (right; simp; omega) | (right; omega)) | (with_reducible refine Fr.step ?_ (by assumption)) | (with_reducible refine Fr.stepB ?_ (by assumption))))))) (by rw [hs.out]; exact HO.out)).mono ?_); rintro e2 w3 ⟨rfl, hb3⟩; have hz3 := hb3.size; (try simp at hz3))
          go_ret
          exact ⟨rfl, hBr.trans ((show Below wr.heap.size wr _ by (refine Fr.below ?_; (repeat (first | (with_reducible exact Fr.refl _ _) | (with_reducible refine Fr.alloc ?_ _) | (with_reducible refine Fr.drewN ?_ _) | (with_reducible refine Fr.drew ?_) | (with_reducible refine Fr.set ?_ ?_ _ _; rotate_left; first | exact .inl rfl | (right; simp; done) | (right; simp; omega) | (right; omega)) | (with_reducible refine Fr.step ?_ (by assumption)) | (with_reducible refine Fr.stepB ?_ (by assumption)))))).mono hBr.size)⟩
      · have h6b : ((k : Int) == 6) = false := by (simp; omega)
        have he : each' k = 1 := by (unfold each'; rw [if_neg h6])
        rcases HD.out with ⟨h32, x, hO, hx⟩ | ⟨h32, b, hO, hb⟩
        · clear h6
          rw [he] at h32
          have HO := Lib.hid hO
          obtain ⟨T, hT⟩ : ∃ T, T = x.txt := ⟨_, rfl⟩
          have hTp : 0 < (bstr T).size := by (rw [bs_size, hT]; exact List.length_pos_iff.2 hx)
          have HT := Lib.hid hT
          clear hx hO hT
          go_wp2_with (first
            | (go_at_call 8; (with_reducible refine (of_ok s hsz2 x x.ks.length rfl _ (LR.out.below (by (refine Fr.below ?_; (repeat (first | (with_reducible exact Fr.refl _ _) | (with_reducible refine Fr.alloc ?_ _) | (with_reducible refine Fr.drewN ?_ _) | (with_reducible refine Fr.drew ?_) | (with_reducible refine Fr.set ?_ ?_ _ _; rotate_left; first | exact .inl rfl | (right; simp; done) | (right; simp; omega) | (right; omega)) | (with_reducible refine Fr.step ?_ (by assumption)) | (with_reducible refine Fr.stepB ?_ (by assumption))))))) (by rw [hs.out]; exact HO.out)).mono ?_); rintro e2 w3 ⟨px, cx, rfl, hx3, hb3⟩; have hz3 := hb3.size; (try simp at hz3))
            | (go_at_call 9; (with_reducible refine (show_of HO.out hl2 x.ks.length rfl T HT.out px cx _ (hx3.alloc _) (LR.out.below (by (refine Fr.below ?_; (repeat (first | (with_reducible exact Fr.refl _ _) | (with_reducible refine Fr.alloc ?_ _) | (with_reducible refine Fr.drewN ?_ _) | (with_reducible refine Fr.drew ?_) | (with_reducible refine Fr.set ?_ ?_ _ _; rotate_left; first | exact .inl rfl | (right; simp; done) | (right; simp; omega) | (right; omega)) | (with_reducible refine Fr.step ?_ (by assumption)) | (with_reducible refine Fr.stepB ?_ (by assumption)))))))).mono ?_); rintro e4 w4 ⟨rfl, hb4⟩; have hz4 := hb4.size; (try simp at hz4)))
          go_ret
          exact ⟨by first | rfl | exact ret_bool (decide_eq_true hTp), hBr.trans ((show Below wr.heap.size wr _ by (refine Fr.below ?_; (repeat (first | (with_reducible exact Fr.refl _ _) | (with_reducible refine Fr.alloc ?_ _) | (with_reducible refine Fr.drewN ?_ _) | (with_reducible refine Fr.drew ?_) | (with_reducible refine Fr.set ?_ ?_ _ _; rotate_left; first | exact .inl rfl | (right; simp; done) | (right; simp; omega) | (right; omega)) | (with_reducible refine Fr.step ?_ (by assumption)) | (with_reducible refine Fr.stepB ?_ (by assumption)))))).mono hBr.size)⟩
        · clear h6
          rw [he] at h32
          have HO := Lib.hid hO
          have hb2 : (b : Int) < s.size := by omega
          clear hO
          go_wp2_with (go_at_call 8; (with_reducible refine (of_bad s hsz2 2 b _ (LR.out.below (by (refine Fr.below ?_; (repeat (first | (with_reducible exact Fr.refl _ _) | (with_reducible refine Fr.alloc ?_ _) | (with_reducible refine Fr.drewN ?_ _) | (with_reducible refine Fr.drew ?_) | (with_reducible refine Fr.set ?_ ?_ _ _; rotate_left; first | exact .inl rfl | (right; simp; done) | (right; simp; omega) | (right; omega)) | (with_reducible refine Fr.step ?_ (by assumption)) | (with_reducible refine Fr.stepB ?_ (by assumption))))))) (by rw [hs.out]; exact HO.out)).mono ?_); rintro e2 w3 ⟨rfl, hb3⟩; have hz3 := hb3.size; (try simp at hz3))
          go_ret
          exact ⟨rfl, hBr.trans ((show Below wr.heap.size wr _ by (refine Fr.below ?_; (repeat (first | (with_reducible exact Fr.refl _ _) | (with_reducible refine Fr.alloc ?_ _) | (with_reducible refine Fr.drewN ?_ _) | (with_reducible refine Fr.drew ?_) | (with_reducible refine Fr.set ?_ ?_ _ _; rotate_left; first | exact .inl rfl | (right; simp; done) | (right; simp; omega) | (right; omega)) | (with_reducible refine Fr.step ?_ (by assumption)) | (with_reducible refine Fr.stepB ?_ (by assumption)))))).mono hBr.size)⟩

set_option maxRecDepth 100000 in
theorem lifted (os : Os) (started : os.Started) (H : Type) (enc : TypeId × Value → H) :
    ReturnsInHanded {} Tryz.checked os 5 .any (fun w args => (Rows.exprDeepSpec.pre enc Tryz.prog Tryz.f5 [] false w args ∧ laidMetH Tryz.prog laidL w) ∧ sizedMet enc Tryz.prog Tryz.f5 (OpenSpec.ofChange Rows.exprDeepSpec) false w args)
      (Rows.exprDeepSpec.post enc Tryz.prog Tryz.f5 false true false false) := by
  refine returnsInHanded_of_change_and (C := Tryz.checked) (X := fun w _ => laidMetH Tryz.prog laidL w) (fun _ _ _ hh h => h.of_heap hh) own started (by kernel_rfl) Tryz.func5
    (ChangeSpec.witness_shaped (enc := enc) (C := Tryz.checked) (os := os) (X := fun w _ => laidMetH Tryz.prog laidL w) false (World.doorLaid Tryz.prog 400 os) #[.int .u8 0, .int .u8 0] 8 rfl (World.shaped_of_RefB (by kernel_rfl) (by kernel_rfl)) (by kernel_rfl) (by kernel_rfl) (by kernel_rfl) (door_met os _)) ?_
  intro W base args ds gs before hval0 hW _ _ hL _
  have hval : ∀ (j : Nat) t v, Tryz.f5.params[j]? = some t → args[j]? = some v → Value.okWide Tryz.prog W .any base t v := hval0
  have hW' := hW
  obtain ⟨p, q, hA0, hV, rfl, hfz, hnd⟩ := hW
  have hA : DataW.TrodAll enc Tryz.prog W 0 (fun _ => true) true Tryz.f5.params.toList args.toList ds p := hA0
  rw [Tryz.params5] at hA hval
  obtain ⟨v0, v1, d0, d1, p0, p1, rfl, rfl, rfl, h0, h1⟩ := trodAll_two hA
  obtain ⟨rfl, rfl⟩ := trodVars_none hV
  obtain ⟨n, rfl, rfl, rfl, wx0⟩ := open_int Tryz.underlying5 (hval 0 5 _ rfl rfl) h0
  obtain ⟨q, rfl, rfl, rfl, wx1⟩ := open_int Tryz.underlying5 (hval 1 5 _ rfl rfl) h1
  have hLaid := of_laid hL
  clear hA0 hval0
  simp only [List.append_nil] at hW'
  refine (walk n wx0 q wx1 W hLaid).mono fun e W' ⟨he, hb⟩ => ?_
  subst he
  exact ⟨_, rfl, _, _, _, [], [], [], hW', trodAll_mk1 (shut_bool Tryz.underlying4 _), trodAll_mk2 (shut_int Tryz.underlying5 wx0) (shut_int Tryz.underlying5 wx1), rfl, hb.frame _, fun h => by cases h⟩

theorem said : Rows.ExprDeepSaid :=
  OpenClaim.holds_of_wide 5 Tryz.f5 rfl rfl rfl rfl rfl rfl rfl ⟨rfl, rfl, rfl, rfl, rfl⟩ rfl rfl rfl rfl rfl (by kernel_rfl) Tryz.func5 (by kernel_rfl)
    (of_decide_eq_true (by kernel_rfl)) (by unfold Func.isWrapper; first | (rw [if_pos (by decide +kernel)]; kernel_rfl) | (rw [if_neg (by decide +kernel)]; exact ⟨rfl, rfl⟩))
    (fun os started H enc _ => lifted os started H enc)
end ExprDeep

theorem exprDeep_card_holds : Rows.ExprDeepCardSaid :=
  Claim7.holds_tied_plain_at .later [] _ true _ true
    ExprDeep.said (fun _ h => by cases h) (by kernel_rfl) (fun _ h => by cases h) exprDeep_row_tie rfl ⟨rfl, rfl⟩ (by kernel_rfl) rfl
    (fun f fn hf hfn => by
      obtain rfl : f = 5 := Option.some.inj ((show Tryz.prog.funcNamed "paling/palinglaw03.ExprDeep" = some 5 by kernel_rfl).symm.trans hf) |>.symm
      obtain rfl : fn = Tryz.f5 := (Option.some.inj (Tryz.func5.symm.trans hfn)).symm
      exact ⟨by kernel_rfl, fun j t ht => by
        rw [Tryz.params5] at ht
        have hm : t ∈ [5, 5] := by simpa using Array.mem_of_getElem? ht
        have hall : ([5, 5].all fun u => !Tryz.prog.wantsStandIn u) = true := by kernel_rfl
        exact (show Tryz.prog.wantsStandIn t = false by simpa using List.all_eq_true.1 hall t hm)⟩)
    (by kernel_rfl)
#print axioms exprDeep_card_holds
end Go.Proofs.YtgjfcikniamleaaGreatDoor
