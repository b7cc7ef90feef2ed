/- Lemmas for the laws of live (Lri Lnm Lgr Lno Lbe Lab Lea): each says its own conditions. -/
import Derived.Test.YthodpkcjdbkdnaaDoorJ03
import Derived.Test.YthodpkcjdbkdnaaDoorJ04
import Derived.Test.YthodpkcjdbkdnaaDoorJ02
import Derived.Deep.LoopGhost
set_option linter.unusedSimpArgs false
set_option linter.unusedVariables false
namespace Go.Proofs.YthodpkcjdbkdnaaDoor
open Go Go.RowKit Gm

theorem low_bit {r : Nat} (h0 : r ≠ 0) (hr : r < 18446744073709551616) : ∃ c, Lib.ctz 64 r = c ∧ c < 64 ∧ r.testBit c = true ∧ (∀ i, i < c → r.testBit i = false) ∧ ∀ i, (r &&& (r - 1)).testBit i = (r.testBit i && !decide (i = c)) := by
  obtain ⟨m, hm, hc⟩ := Lib.ctzFrom_spec 64 r (by omega) hr
  refine ⟨Lib.ctzFrom 64 r, if_neg h0, hc, ?_, ?_, ?_⟩
  all_goals
    obtain ⟨c, e⟩ : ∃ c, Lib.ctzFrom 64 r = c := ⟨_, rfl⟩
    rw [e] at hm ⊢
    have hb : ∀ i, r.testBit i = (decide (c ≤ i) && (2 * m + 1).testBit (i - c)) := fun i => by
      rw [hm, Nat.mul_comm, Nat.testBit_mul_two_pow]
  · rw [hb c]
    simp [Nat.testBit_zero]
  · intro i hi
    rw [hb i]
    simp
    omega
  · have hp : 0 < 2 ^ c := Nat.two_pow_pos c
    have e1 : r - 1 = 2 ^ c * (2 * m) + (2 ^ c - 1) := by rw [hm, Nat.mul_add, Nat.mul_one]; omega
    intro i
    rw [Nat.testBit_and, e1, Nat.testBit_two_pow_mul_add (i := c) (2 * m) (by omega), hb i]
    by_cases h1 : i < c
    · have h5 : decide (c ≤ i) = false := by simp; omega
      rw [if_pos h1, h5]
      simp
    · rw [if_neg h1]
      by_cases h2 : i = c
      · subst h2
        simp [Nat.testBit_zero]
      · obtain ⟨j, hj⟩ : ∃ j, i - c = j + 1 := ⟨i - c - 1, by omega⟩
        rw [hj, Nat.testBit_succ, Nat.testBit_succ, show (2 * m + 1) / 2 = m by omega, show 2 * m / 2 = m by omega]
        simp [h2]
theorem rowM_low {r : Nat} (h0 : r ≠ 0) (hr : r < 18446744073709551616) : rowM r = (Lib.ctz 64 r : Int) :: rowM (r &&& (r - 1)) := by
  obtain ⟨c, e, hc, h1, h2, h3⟩ := low_bit h0 hr
  rw [e]
  have hl : r &&& (r - 1) < 18446744073709551616 := Nat.lt_of_le_of_lt Nat.and_le_left hr
  have hm : ∀ t, Bt (r &&& (r - 1)) t ↔ Bt r t ∧ t ≠ c := fun t => by
    unfold Bt
    rw [h3]
    simp only [Bool.and_eq_true, Bool.not_eq_true', decide_eq_false_iff_not]
    constructor
    · rintro ⟨a, b, d⟩; exact ⟨⟨a, b⟩, fun e => d (by omega)⟩
    · rintro ⟨⟨a, b⟩, d⟩; exact ⟨a, b, fun e => d (by omega)⟩
  refine up_sameI (rowM_up _) (List.pairwise_cons.2 ⟨fun t ht => ?_, rowM_up _⟩) fun t => ?_
  · rw [rowM_mem hl, hm] at ht
    have h4 := ht.1.1
    refine Classical.byContradiction fun hn => ?_
    by_cases e2 : t.toNat = c
    · exact ht.2 (by omega)
    · have h5 := h2 t.toNat (by omega)
      rw [ht.1.2] at h5
      cases h5
  · rw [List.mem_cons, rowM_mem hl, rowM_mem hr, hm]
    constructor
    · intro h
      by_cases e2 : t = c
      · exact .inl e2
      · exact .inr ⟨h, e2⟩
    · rintro (rfl | h)
      · exact ⟨by omega, by rw [Int.toNat_natCast]; exact h1⟩
      · exact h.1
theorem and_less {r : Nat} (h0 : r ≠ 0) : r &&& (r - 1) < r := Nat.lt_of_le_of_lt Nat.and_le_right (by omega)
theorem sub_one_u {r : Nat} (h0 : r ≠ 0) (hr : r < 18446744073709551616) : bits .and .u64 (r : Int) ((r : Int) - 1) = ((r &&& (r - 1) : Nat) : Int) := by
  rw [show (r : Int) - 1 = ((r - 1 : Nat) : Int) by omega]
  exact bits_and_u64_nat r (r - 1) hr (by omega)
set_option maxRecDepth 100000 in
set_option maxHeartbeats 4000000 in
theorem rising1_c {W : World} (E : Hid (En W)) {m : Nat} (hm : m < 18446744073709551616) : Calls Tryd.prog 61 #[.slice none 0 0, .int .i64 0, .int .u64 m] W (RowP W (rowM m)) := by
  go_enter Tryd.func61, Tryd.ntmps61
  go_upto_region 1 with (fail)
  go_loopw [0, 2] (fun a0 a2 wr => ∃ (v : Value) (r : Nat) (L : List Int), v = a0 ∧ a2 = .int .u64 r ∧ r < 18446744073709551616 ∧ Hid (rowM m = L ++ rowM r ∧ GV 3 W.heap.size wr v L.length (ivl L) ∧ Below W.heap.size W wr)) (fun _ a2 _ => (intOf a2).toNat)
  case atStart => exact ⟨_, m, [], rfl, rfl, hm, Lib.hid ⟨rfl, GV.nil _ _ _ _, Below.refl _ _⟩⟩
  case round =>
    obtain ⟨wo, rfl⟩ : ∃ wo : World, wo = wr := ⟨_, rfl⟩
    obtain ⟨v, r, L, rfl, rfl, hr, HR⟩ := hrel
    by_cases h0 : r = 0
    · subst h0
      go_wp2
      go_ret
      have h1 := HR.out.1
      rw [rowM_zero, List.append_nil] at h1
      refine ⟨v, rfl, ?_, HR.out.2.2⟩
      rw [h1]
      unfold Rw
      have h2 := HR.out.2.1
      unfold GV at h2
      have e : rw_ L.length (ivl L) = L.map (Value.int .i64) := by
        apply List.ext_getElem?
        intro j
        by_cases hj : j < L.length
        · rw [rw_get _ hj, List.getElem?_map, List.getElem?_eq_getElem hj]
          simp [ivl, hj]
        · rw [rw_none _ (by omega), List.getElem?_eq_none (by simpa using hj)]
      rw [← e]
      exact h2
    · have h0i : ¬ (r : Int) = 0 := by omega
      have HT : Hid (TabAt 1 Lib.deBruijn64tab wo) := Lib.hid (E.out.below HR.out.2.2).tab
      have HTZ := Lib.hid (Tryd.bits_tz r hr wo fun _ => HT.out)
      have hrow := rowM_low h0 hr
      have hless := and_less h0
      have hsub := sub_one_u h0 hr
      have hc64 : Lib.ctz 64 r < 64 := by
        obtain ⟨c, e, hc, -⟩ := low_bit h0 hr
        omega
      have hll : L.length ≤ 64 := by
        have h1 := congrArg List.length HR.out.1
        have h2 := rowM_len m
        rw [List.length_append] at h1
        omega
      obtain ⟨c, hc⟩ : ∃ c, Lib.ctz 64 r = c := ⟨_, rfl⟩
      obtain ⟨r', hr'⟩ : ∃ k, r &&& (r - 1) = k := ⟨_, rfl⟩
      rw [hc] at HTZ hrow hc64
      rw [hr'] at hless hsub hrow
      have HRO := Lib.hid hrow
      clear hc hr' hrow
      obtain ⟨i0, hi, hz0, hz1, hz2⟩ := info_parts info_int
      go_wp2_with (first
        | (go_at_call 62; (with_reducible refine HTZ.out.mono ?_); rintro e5 w5 ⟨rfl, rfl⟩)
        | (at_builtin; refine wpList_append_own_at _ rfl _ _ 36 rfl W.heap.size 3 i0 _ 1 8 Tryd.underlying36 hi hz0 hz1 hz2 rfl (by decide) v L.length (rw_ L.length (ivl L)) rfl (World.ownsRow.alloc HR.out.2.1 _) ⟨w5.heap.size, 0, none⟩ 1 1 [.int .i64 (c : Int)] rfl rfl (World.news_of_block (heap_alloc_new _ _)) (fun x hx => by simp at hx; subst hx; rfl) (by unfold maxLen; omega) (by omega) (by have := HR.out.2.2.size; simp; omega) ?_; intro v4 w4 hown hgrow _ hats; have HG4 := Lib.hid (GV.more hown); have hb4 : Below W.heap.size W w4 := (HR.out.2.2.alloc (HR.out.2.2.size) _).grown hgrow (by have := HR.out.2.2.size; simp; omega) (fun b e => (HR.out.2.1.lt b e).1); have HB4 := Lib.hid hb4; clear hown hgrow hats hb4))
      go_roundw
      case rel =>
        refine ⟨v4, r', L ++ [(c : Int)], rfl, rfl, by omega, Lib.hid ⟨?_, ?_, HB4.out⟩⟩
        · rw [HR.out.1, HRO.out]
          simp
        · rw [List.length_append]
          exact HG4.out.to fun i hi => ivl_snoc hi
      case measure => (simp [intOf]; try omega)
theorem sk_set {m : Nat} {L : List Int} (h : SK (SF m) L) : L = if m = 0 then [] else [0] := by
  have hm : ∀ k, k ∈ L ↔ k = 0 ∧ m ≠ 0 := fun k => by
    rw [h.2]
    unfold SF
    split
    · rename_i e; simp [e]
    · rename_i e; simp; omega
  refine up_sameI h.1 (by split <;> simp) fun k => ?_
  rw [hm]
  split
  · rename_i e; simp [e]
  · rename_i e; simp [e]
set_option maxRecDepth 100000 in
set_option maxHeartbeats 4000000 in
theorem rowU_c {W : World} (E : Hid (En W)) {b m : Nat} (h : Hid (ST W b m)) : Calls Tryd.prog 60 #[.map (some b), .func (.func 61) #[] #[]] W (RowP W (rowM m)) := by
  have hml := h.out.lt
  have HSO := Lib.hid (sortedU_c h.out.km (by omega))
  have eg : ∀ args w, (callFunc 61 args).run Tryd.prog w = .ok (.enter 61 args) w := enters_of Tryd.func61 (by kernel_rfl) rfl
  go_enter Tryd.func60, Tryd.ntmps60
  go_upto_region 3 with (first
    | (go_at_call 73; (with_reducible refine (keysU_c (some b) _).mono ?_); rintro e1 w1 ⟨rfl, rfl⟩)
    | (go_at_call 50; (with_reducible refine HSO.out.mono ?_); rintro e2 w2 ⟨v2, L, rfl, hsk, -, hrow, hb2⟩; have HV := Lib.hid (And.intro hsk (And.intro hrow hb2)); obtain ⟨q2, c2, rfl, -⟩ := hrow.gv.open; clear hsk hrow hb2))
  have hbw : Below W.heap.size W w2 := (below1 W _).trans (HV.out.2.2.mono (by omega))
  have HB2 := Lib.hid hbw
  have hL := sk_set HV.out.1
  clear hbw
  by_cases hm0 : m = 0
  · rw [if_pos hm0] at hL
    subst hL
    go_loopw [5, 12] (fun a5 a wr => a5 = .slice none 0 0 ∧ a = .int .i64 0 ∧ w2 = wr) (fun _ _ _ => 0)
    case atStart => exact ⟨rfl, rfl, rfl⟩
    case round =>
      obtain ⟨rfl, rfl, rfl⟩ := hrel
      go_wp2
      go_ret
      rw [hm0, rowM_zero]
      exact ⟨_, rfl, Rw.nil _ _, HB2.out⟩
  · rw [if_neg hm0] at hL
    have HM := Lib.hid hm0
    subst hL
    obtain ⟨_, _, e', hq⟩ := HV.out.2.1.gv.open
    cases e'
    obtain ⟨gq, rfl, -, hgl, hgB, -, -, hc⟩ := hq.resolve_left (fun e => by simp at e)
    have hc0 := hc 0 (by decide)
    have HC0 : Hid (w2.cell? ⟨gq, 0, none⟩ = some (.int .i64 0) ∧ gq < w2.heap.size) := Lib.hid ⟨hc0, hgl⟩
    clear hm0 hq hc hc0 hgl
    simp only [List.length_cons, List.length_nil, Nat.zero_add, Int.natCast_one]
    go_loopw [5, 12] (fun a5 a12 wr => ∃ (i : Nat) (v : Value), v = a5 ∧ a12 = .int .i64 i ∧ i ≤ 1 ∧ Hid (Below w2.heap.size w2 wr ∧ ((i = 0 ∧ v = .slice none 0 0) ∨ (i = 1 ∧ Rw w2.heap.size wr v (rowM m))))) (fun _ a12 _ => 1 - (intOf a12).toNat)
    case atStart => exact ⟨0, _, rfl, rfl, by omega, Lib.hid ⟨Below.refl _ _, .inl ⟨rfl, rfl⟩⟩⟩
    case round =>
      obtain ⟨wo, rfl⟩ : ∃ wo : World, wo = wr := ⟨_, rfl⟩
      obtain ⟨i, v, rfl, rfl, hi, HR⟩ := hrel
      by_cases hi0 : i = 0
      · subst hi0
        have hv : v = .slice none 0 0 := by
          rcases HR.out.2 with ⟨-, h⟩ | ⟨h, -⟩
          · exact h
          · omega
        subst hv
        have ic := (HR.out.1.cell (p := ⟨gq, 0, none⟩) HC0.out.2).trans HC0.out.1
        have hbo : Below W.heap.size W wo := HB2.out.trans (HR.out.1.mono HB2.out.size)
        have HSt := Lib.hid (h.out.stay hbo)
        have HEo := Lib.hid (E.out.below hbo)
        have hlk := HSt.out.look2
        have HR1 := Lib.hid (rising1_c HEo hml)
        clear hbo
        go_wp2_with (go_at_call 61; (with_reducible refine HR1.out.mono ?_); rintro e5 w5 ⟨v5, rfl, hr5, hb5⟩; have HV5 := Lib.hid (And.intro hr5 hb5); clear hr5 hb5)
        go_roundw
        case rel => exact ⟨1, v5, rfl, rfl, by omega, Lib.hid ⟨HR.out.1.trans (HV5.out.2.mono HR.out.1.size), .inr ⟨rfl, HV5.out.1.mono HR.out.1.size⟩⟩⟩
        case measure => (simp [intOf]; try omega)
      · obtain rfl : i = 1 := by omega
        go_wp2
        go_ret
        rcases HR.out.2 with ⟨e, -⟩ | ⟨-, hr⟩
        · omega
        · exact ⟨v, rfl, hr.mono HB2.out.size, HB2.out.trans (HR.out.1.mono HB2.out.size)⟩
set_option maxRecDepth 100000 in
theorem rising_c {W : World} (E : Hid (En W)) {b m : Nat} (h : Hid (ST W b m)) : Calls Tryd.prog 45 #[.map (some b)] W (RowP W (rowM m)) := by
  have HRU := Lib.hid (rowU_c E h)
  go_enter Tryd.func45, Tryd.ntmps45
  go_wp2_with (go_at_call 60; (with_reducible refine HRU.out.mono ?_); rintro e5 w5 ⟨v5, rfl, hr5, hb5⟩; have HV5 := Lib.hid (And.intro hr5 hb5); clear hr5 hb5)
  go_ret
  exact ⟨v5, rfl, HV5.out.1, HV5.out.2⟩
end Go.Proofs.YthodpkcjdbkdnaaDoor
namespace Go.Proofs.YthodpkcjdbkdnaaDoor
open Go Go.RowKit Gm

/-- Sets as values. -/
def mv (bs : Nat → Nat) : Nat → Value := fun i => .map (some (bs i))
theorem mv_upd (bs : Nat → Nat) (i b : Nat) : upd (mv bs) i (.map (some b)) = mv (upd bs i b) := by
  funext j
  unfold upd mv
  split <;> simp [*]
theorem GV.isc {T : TypeId} {B : Nat} {X : World} {v : Value} {k : Nat} {F : Nat → Value} (h : GV T B X v k F) {g : Nat} (e : v.ownBlock = some g) : ∃ cs, X.heap[g]? = some (.cells cs T (0, 0)) := by
  rcases h.2 with ⟨rfl, _⟩ | ⟨g', cap, cur, rfl, hB, hg, r⟩
  · cases e
  · cases e
    exact ⟨cur, hg⟩
theorem ST.far {T : TypeId} {B : Nat} {X : World} {v : Value} {k : Nat} {F : Nat → Value} {b m : Nat} (h : ST X b m) (hv : GV T B X v k F) : ¬ v.ownBlock = some b := fun e => by
  obtain ⟨cs, hc⟩ := hv.isc e
  exact h.nocells hc rfl
theorem KM.far {T K : TypeId} {B : Nat} {X : World} {v : Value} {k : Nat} {F : Nat → Value} {b n : Nat} {f : KF} (h : KM K X b n f) (hv : GV T B X v k F) : ¬ v.ownBlock = some b := fun e => by
  obtain ⟨cs, hc⟩ := hv.isc e
  exact h.nocells hc rfl
/-- The sets of stretches. -/
structure Sts (X : World) (lo K : Nat) (bs ws : Nat → Nat) (A Wm : Nat → Nat) : Prop where
  sa : ∀ i, i < K → ST X (bs i) (A i) ∧ lo < bs i
  sw : ∀ i, i < K → ST X (ws i) (Wm i) ∧ lo < ws i
  inj : ∀ i j, i < K → j < K → (bs i = bs j → i = j) ∧ bs i ≠ ws j
section
variable {X Y : World} {lo K : Nat} {bs ws A Wm : Nat → Nat}
theorem Sts.ch {S : Nat → Prop} (h : Sts X lo K bs ws A Wm) (hc : Ch S X Y) (hn : ∀ b m, ST X b m → lo < b → ¬ S b) : Sts Y lo K bs ws A Wm :=
  ⟨fun i hi => ⟨(h.sa i hi).1.ch hc (hn _ _ (h.sa i hi).1 (h.sa i hi).2), (h.sa i hi).2⟩, fun i hi => ⟨(h.sw i hi).1.ch hc (hn _ _ (h.sw i hi).1 (h.sw i hi).2), (h.sw i hi).2⟩, h.inj⟩
theorem Sts.stay (h : Sts X lo K bs ws A Wm) (hb : Below X.heap.size X Y) : Sts Y lo K bs ws A Wm :=
  ⟨fun i hi => ⟨(h.sa i hi).1.stay hb, (h.sa i hi).2⟩, fun i hi => ⟨(h.sw i hi).1.stay hb, (h.sw i hi).2⟩, h.inj⟩
theorem Sts.put (h : Sts X lo K bs ws A Wm) {q m : Nat} (hq : q < K) (hc : Ch (fun z => z = bs q) X Y) (hs : ST Y (bs q) m) : Sts Y lo K bs ws (upd A q m) Wm := by
  refine ⟨fun i hi => ⟨?_, (h.sa i hi).2⟩, fun i hi => ⟨(h.sw i hi).1.ch hc fun e => (h.inj q i hq hi).2 e.symm, (h.sw i hi).2⟩, h.inj⟩
  by_cases e : i = q
  · subst e; rw [upd_at]; exact hs
  · rw [upd_of e]; exact (h.sa i hi).1.ch hc fun e2 => e ((h.inj i q hi hq).1 e2)
/-- Two more, both new. -/
theorem Sts.more (h : Sts X lo K bs ws A Wm) (hb : Below X.heap.size X Y) {b w m n : Nat} (hbb : X.heap.size ≤ b) (hww : X.heap.size ≤ w) (hlo : lo < X.heap.size) (hbw : b ≠ w) (h1 : ST Y b m) (h2 : ST Y w n) :
    Sts Y lo (K + 1) (upd bs K b) (upd ws K w) (upd A K m) (upd Wm K n) := by
  refine ⟨fun i hi => ?_, fun i hi => ?_, fun i j hi hj => ?_⟩
  · by_cases e : i = K
    · subst e; rw [upd_at, upd_at]; exact ⟨h1, by omega⟩
    · rw [upd_of e, upd_of e]
      have := h.sa i (by omega)
      exact ⟨this.1.stay hb, this.2⟩
  · by_cases e : i = K
    · subst e; rw [upd_at, upd_at]; exact ⟨h2, by omega⟩
    · rw [upd_of e, upd_of e]
      have := h.sw i (by omega)
      exact ⟨this.1.stay hb, this.2⟩
  · have la : ∀ i, i < K → bs i < X.heap.size := fun i hi => (h.sa i hi).1.bl
    have lw : ∀ i, i < K → ws i < X.heap.size := fun i hi => (h.sw i hi).1.bl
    by_cases e : i = K
    · subst e
      rw [upd_at]
      by_cases e2 : j = i
      · subst e2
        rw [upd_at, upd_at]
        exact ⟨fun _ => rfl, hbw⟩
      · rw [upd_of e2, upd_of e2]
        have := la j (by omega)
        have := lw j (by omega)
        exact ⟨fun e => by omega, by omega⟩
    · rw [upd_of e]
      have := la i (by omega)
      by_cases e2 : j = K
      · subst e2
        rw [upd_at, upd_at]
        exact ⟨fun e => by omega, by omega⟩
      · rw [upd_of e2, upd_of e2]
        exact h.inj i j (by omega) (by omega)
end
/-- A map of one row. -/
def WF (v : Option Value) : KF := fun k => if k = 0 then v else none
theorem wf_zero (v : Option Value) : WF v 0 = v := if_pos rfl
theorem wf_other {v : Option Value} {k : Int} (h : k ≠ 0) : WF v k = none := if_neg h
theorem wf_upd (v : Option Value) (u : Value) : (WF v).upd 0 u = WF (some u) := by
  funext k
  unfold KF.upd WF
  by_cases e : k = 0
  · rw [if_pos e, if_pos e]
  · rw [if_neg e, if_neg e, if_neg e]
/-- The whole of needs, with all its stretches' sets, in memory. V: the world in which the stretches were cut. -/
structure NG (V X : World) (own : Nat → Nat) (nb : Nat) (pc : Option Addr) (capc n : Nat) (vs : Value) (K : Nat) (va vw : Value) (bs ws A Wm : Nat → Nat) (lo : Nat) : Prop where
  bel : Below V.heap.size V X
  nbc : X.heap[nb]? = some (.cells #[.slice pc n capc, vs, va] 60 (0, 0))
  gva : GV 64 V.heap.size X va K (mv bs)
  gvw : GV 64 V.heap.size X vw K (mv ws)
  sts : Sts X lo K bs ws A Wm
  t1 : own nb = 1
  t2 : Tg own va 2
  t3 : Tg own vw 3
  los : V.heap.size ≤ nb ∧ V.heap.size ≤ lo
section
variable {V X Y : World} {own : Nat → Nat} {nb : Nat} {pc : Option Addr} {capc n : Nat} {vs : Value} {K : Nat} {va vw : Value} {bs ws A Wm : Nat → Nat} {lo : Nat}
theorem NG.lt (h : NG V X own nb pc capc n vs K va vw bs ws A Wm lo) : nb < X.heap.size := (Array.getElem?_eq_some_iff.1 h.nbc).1
theorem NG.stay (h : NG V X own nb pc capc n vs K va vw bs ws A Wm lo) (hb : Below X.heap.size X Y) : NG V Y own nb pc capc n vs K va vw bs ws A Wm lo :=
  ⟨h.bel.trans (hb.mono h.bel.size), (hb.block nb h.lt).trans h.nbc, h.gva.stay hb, h.gvw.stay hb, h.sts.stay hb, h.t1, h.t2, h.t3, h.los⟩
theorem NG.like (h : NG V X own nb pc capc n vs K va vw bs ws A Wm lo) (e : Y.heap = X.heap) (e1 : Y.os = X.os) (e2 : Y.tape = X.tape) (e3 : Y.output = X.output) : NG V Y own nb pc capc n vs K va vw bs ws A Wm lo := h.stay (below_like (Below.refl _ _) e e1 e2 e3)
theorem NG.cells (h : NG V X own nb pc capc n vs K va vw bs ws A Wm lo) : X.cell? ⟨nb, 0, none⟩ = some (.slice pc n capc) ∧ X.cell? ⟨nb, 1, none⟩ = some vs ∧ X.cell? ⟨nb, 2, none⟩ = some va := by
  refine ⟨?_, ?_, ?_⟩ <;> rw [cell_of_row _ _ _ _ _ _ h.nbc] <;> rfl
/-- One stretch's set is another. -/
theorem NG.put (h : NG V X own nb pc capc n vs K va vw bs ws A Wm lo) {q m : Nat} (hq : q < K) (hc : Ch (fun z => z = bs q) X Y) (hs : ST Y (bs q) m) : NG V Y own nb pc capc n vs K va vw bs ws (upd A q m) Wm lo := by
  have hst := (h.sts.sa q hq).1
  have hl := (h.sts.sa q hq).2
  have hlo := h.los
  exact ⟨h.bel.trans (hc.below h.bel.size fun z hz e => by omega), (hc.block nb h.lt fun e => hst.nocells h.nbc e.symm).trans h.nbc, h.gva.ch hc fun g e e2 => hst.far h.gva (e2 ▸ e), h.gvw.ch hc fun g e e2 => hst.far h.gvw (e2 ▸ e), h.sts.put hq hc hs, h.t1, h.t2, h.t3, h.los⟩
/-- A row besides is appended to. -/
theorem NG.apd (h : NG V X own nb pc capc n vs K va vw bs ws A Wm lo) {T : TypeId} {z z' : Value} {k t : Nat} {F : Nat → Value} (hz : GV T V.heap.size X z k F) (ht : Tg own z t) (h5 : 3 < t) (ha : Apd X Y z z') : NG V Y (tag own X.heap.size t) nb pc capc n vs K va vw bs ws A Wm lo := by
  have hS : ∀ k, z.ownBlock = some k → V.heap.size ≤ k := fun k e => (hz.lt k e).1
  exact ⟨h.bel.trans (ha.1.below h.bel.size fun k hk e => by have := hS k e; omega), (ha.1.block nb h.lt fun e => by have := ht nb e; have := h.t1; omega).trans h.nbc,
    h.gva.ch ha.1 fun g e e2 => by (have := h.t2 g e; have := ht g e2; omega), h.gvw.ch ha.1 fun g e e2 => by (have := h.t3 g e; have := ht g e2; omega), h.sts.ch ha.1 fun b m hs _ e => hs.far hz e,
    by rw [tag_lt h.lt]; exact h.t1, h.t2.old fun g e => (h.gva.lt g e).2, h.t3.old fun g e => (h.gvw.lt g e).2, h.los⟩
end
end Go.Proofs.YthodpkcjdbkdnaaDoor
namespace Go.Proofs.YthodpkcjdbkdnaaDoor
open Go Go.RowKit Gm

theorem lv_last2 (l : List Nat) (z : Nat) : lv (l ++ [z]) l.length = .int .i64 (z : Int) := by simp [lv]
theorem lv_pre {l : List Nat} {z i : Nat} (h : i < l.length) : lv (l ++ [z]) i = lv l i := by
  unfold lv
  rw [List.getD_eq_getElem?_getD, List.getD_eq_getElem?_getD, List.getElem?_append_left h]
/-- Before and between. -/
structure Gw (V X : World) (own : Nat → Nat) (nb : Nat) (pc : Option Addr) (capc n : Nat) (vs : Value) (K : Nat) (va vw : Value) (bs ws A Wm : Nat → Nat) (lo : Nat) (z : Value) (wl : List Nat) : Prop where
  ng : NG V X own nb pc capc n vs K va vw bs ws A Wm lo
  gz : GV 3 V.heap.size X z wl.length (lv wl)
  tz : Tg own z 5
section
variable {V X Y : World} {own : Nat → Nat} {nb : Nat} {pc : Option Addr} {capc n : Nat} {vs : Value} {K : Nat} {va vw : Value} {bs ws A Wm : Nat → Nat} {lo : Nat} {z z' : Value} {wl : List Nat}
theorem Gw.stay (h : Gw V X own nb pc capc n vs K va vw bs ws A Wm lo z wl) (hb : Below X.heap.size X Y) : Gw V Y own nb pc capc n vs K va vw bs ws A Wm lo z wl := ⟨h.ng.stay hb, h.gz.stay hb, h.tz⟩
theorem Gw.like (h : Gw V X own nb pc capc n vs K va vw bs ws A Wm lo z wl) (e : Y.heap = X.heap) (e1 : Y.os = X.os) (e2 : Y.tape = X.tape) (e3 : Y.output = X.output) : Gw V Y own nb pc capc n vs K va vw bs ws A Wm lo z wl := h.stay (below_like (Below.refl _ _) e e1 e2 e3)
theorem Gw.pop {q : Option Addr} {cap u : Nat} (h : Gw V X own nb pc capc n vs K va vw bs ws A Wm lo (.slice q (wl.length + 1) cap) (wl ++ [u])) : Gw V X own nb pc capc n vs K va vw bs ws A Wm lo (.slice q wl.length cap) wl := by
  refine ⟨h.ng, ?_, fun g e => h.tz g (by cases q <;> exact e)⟩
  have hg := h.gz
  rw [List.length_append] at hg
  exact (hg.cut (k' := wl.length) (by omega)).to fun i hi => lv_pre hi
theorem Gw.put (h : Gw V X own nb pc capc n vs K va vw bs ws A Wm lo z wl) {q m : Nat} (hq : q < K) (hc : Ch (fun z => z = bs q) X Y) (hs : ST Y (bs q) m) : Gw V Y own nb pc capc n vs K va vw bs ws (upd A q m) Wm lo z wl :=
  ⟨h.ng.put hq hc hs, h.gz.ch hc fun g e e2 => (h.ng.sts.sa q hq).1.far h.gz (e2 ▸ e), h.tz⟩
theorem Gw.app (h : Gw V X own nb pc capc n vs K va vw bs ws A Wm lo z wl) {u : Nat} (ha : Apd X Y z z') (hg : GV 3 V.heap.size Y z' (wl.length + 1) (upd (lv wl) wl.length (.int .i64 (u : Int)))) : Gw V Y (tag own X.heap.size 5) nb pc capc n vs K va vw bs ws A Wm lo z' (wl ++ [u]) := by
  refine ⟨h.ng.apd h.gz h.tz (by decide) ha, ?_, h.tz.new (fun g e => (h.gz.lt g e).2) ha.2⟩
  rw [List.length_append]
  exact hg.to fun i hi => lv_snoc2 hi
end
/-- What grow leaves as it was: all but the stretches' sets and the row of those that wait. -/
def Gc (W : World) (z0 : Value) (K : Nat) (bs : Nat → Nat) (X : World) (z : Value) : Prop := Ch (fun b => (∃ i, i < K ∧ b = bs i) ∨ z0.ownBlock = some b) W X ∧ ∀ g, z.ownBlock = some g → z0.ownBlock = some g ∨ W.heap.size ≤ g
section
variable {W X Y : World} {z0 z z' : Value} {K : Nat} {bs : Nat → Nat}
theorem Gc.refl (W : World) (z0 : Value) (K : Nat) (bs : Nat → Nat) : Gc W z0 K bs W z0 := ⟨Ch.refl _ _, fun _ e => .inl e⟩
theorem Gc.same (h : Gc W z0 K bs X z) (e : z'.ownBlock = z.ownBlock) : Gc W z0 K bs X z' := ⟨h.1, fun g e2 => h.2 g (e ▸ e2)⟩
theorem Gc.like (h : Gc W z0 K bs X z) (e : Y.heap = X.heap) (e1 : Y.os = X.os) (e2 : Y.tape = X.tape) (e3 : Y.output = X.output) : Gc W z0 K bs Y z := ⟨h.1.like e e1 e2 e3, h.2⟩
theorem Gc.put (h : Gc W z0 K bs X z) {q : Nat} (hq : q < K) (hc : Ch (fun z => z = bs q) X Y) : Gc W z0 K bs Y z := ⟨h.1.trans ⟨hc.os, hc.tape, hc.output, hc.size, fun k hk hn => hc.block k hk fun e => hn (.inl ⟨q, hq, e⟩)⟩, h.2⟩
theorem Gc.app (h : Gc W z0 K bs X z) (ha : Apd X Y z z') : Gc W z0 K bs Y z' := by
  refine ⟨h.1.fresh ha.1 fun b hb e => (h.2 b e).elim .inr fun h2 => by omega, fun g e => ?_⟩
  rcases ha.2 with h2 | ⟨g2, h2, h3⟩
  · exact h.2 g (h2 ▸ e)
  · rw [h2] at e
    cases e
    exact .inr (Nat.le_trans h.1.size h3)
end
set_option maxRecDepth 100000 in
set_option maxHeartbeats 16000000 in
theorem grow_c {V W : World} {own : Nat → Nat} {nb : Nat} {pc : Option Addr} {capc n : Nat} {vs : Value} {K : Nat} {va vw : Value} {bs ws A0 Wm : Nat → Nat} {lo : Nat} {z : Value} {wl : List Nat} {fs es : Nat → Nat} {gt gf : Nat → List Nat}
    (h : Hid (Gw V W own nb pc capc n vs K va vw bs ws A0 Wm lo z wl)) (hg : Hid (Go1 K gf Wm A0 A0 wl)) {l0 : Nat} (hsr : Hid (SR V l0 vs K fs es gt gf)) (hK : K ≤ 100000) (hw : wl.length ≤ K) (hfr : Hid (∀ s, s < K → (gf s).length ≤ 2 * K)) :
    Calls Tryd.prog 49 #[.pointer (some ⟨nb, 0, none⟩), .int .i64 0, z, vw] W fun e w' => e = .returned (.tuple #[]) ∧ ∃ own' A z', Gw V w' own' nb pc capc n vs K va vw bs ws A Wm lo z' [] ∧ Go1 K gf Wm A0 A [] ∧ Gc W z K bs w' z' := by
  have hfu : wl.length + 2 * potL A0 K ≤ 129 * K := by
    have := potL_le A0 K
    omega
  have HFu := Lib.hid hfu
  obtain ⟨vsp, vsc, evs, -⟩ := hsr.out
  subst evs
  obtain ⟨pa, ca, eva, -⟩ := h.out.ng.gva.open
  subst eva
  obtain ⟨pw, cw, evw, -⟩ := h.out.ng.gvw.open
  subst evw
  obtain ⟨zp, zc, ez, -⟩ := h.out.gz.open
  subst ez
  obtain ⟨zl, hzl⟩ : ∃ k, wl.length = k := ⟨_, rfl⟩
  have HGC : Hid (Gc W (.slice zp zl zc) K bs W (.slice zp wl.length zc)) := Lib.hid (by rw [hzl]; exact Gc.refl _ _ _ _)
  have HZL := Lib.hid hzl
  clear hfu hzl
  go_enter Tryd.func49, Tryd.ntmps49
  go_wp2
  go_loopg [2] (129 * K) (fun gk a2 wr => ∃ (own : Nat → Nat) (A : Nat → Nat) (p : Option Addr) (cap : Nat) (wl : List Nat), a2 = .slice p wl.length cap ∧ Hid (wl.length + 2 * potL A K ≤ gk ∧ gk ≤ 12900000) ∧ Hid (Gw V wr own nb pc capc n (.slice vsp K vsc) K (.slice pa K ca) (.slice pw K cw) bs ws A Wm lo (.slice p wl.length cap) wl ∧ Go1 K gf Wm A0 A wl) ∧ Hid (Gc W (.slice zp zl zc) K bs wr (.slice p wl.length cap)))
  case atStart => exact ⟨own, A0, zp, zc, wl, rfl, Lib.hid ⟨HFu.out, by omega⟩, Lib.hid ⟨h.out, hg.out⟩, HGC⟩
  case round =>
    obtain ⟨wo, rfl⟩ : ∃ wo : World, wo = wr := ⟨_, rfl⟩
    obtain ⟨gO, rfl⟩ : ∃ gO, gO = gk := ⟨_, rfl⟩
    obtain ⟨own, A, p, cap, wl, rfl, HG, HK, HC⟩ := hrel
    rcases List.eq_nil_or_concat wl with rfl | ⟨l0, s, rfl⟩
    · go_wp2
      go_end0
      exact ⟨rfl, own, A, _, HK.out.1, HK.out.2, by rw [HZL.out]; exact HC.out⟩
    · rw [List.concat_eq_append] at HK HG ⊢
      have hlen : (l0 ++ [s]).length = l0.length + 1 := by simp
      rw [hlen] at HK HG ⊢
      have hsK : s < K := HK.out.2.lt s (by simp)
      have hgz := HK.out.1.gz
      rw [hlen] at hgz
      obtain ⟨_, _, e', hzo⟩ := hgz.open
      cases e'
      obtain ⟨gw, ep, -, hgwl, -, hpcap, -, hpc⟩ := hzo.resolve_left (fun e => by omega)
      subst ep
      have iz := hpc l0.length (by omega)
      rw [lv_last2] at iz
      obtain ⟨_, _, e', hvo⟩ := HK.out.1.ng.gva.open
      cases e'
      obtain ⟨ga, ep, -, hgal, -, -, -, hac⟩ := hvo.resolve_left (fun e => by omega)
      subst ep
      have ia := hac s hsK
      simp only [mv] at ia
      obtain ⟨n0, n1, n2⟩ := HK.out.1.ng.cells
      have nl := HK.out.1.ng.lt
      obtain ⟨_, _, e', hss⟩ := hsr.out
      cases e'
      obtain ⟨gs, ep, hgs, -, -, p2, k2, -, -, c2, -, r2, -⟩ := hss s hsK
      subst ep
      have hbel := HK.out.1.ng.bel
      have c2 := (hbel.cell (p := ⟨gs, s * 4 + 2, none⟩) hgs).trans c2
      have hgs := Nat.lt_of_lt_of_le hgs hbel.size
      have hSs := (HK.out.1.ng.sts.sa s hsK).1
      have hlk := hSs.look
      have hml := hSs.lt
      obtain ⟨m, hm⟩ : ∃ m, A s = m := ⟨_, rfl⟩
      have HM := Lib.hid (And.intro hm r2)
      have HW0 := Lib.hid HK.out.1.pop
      have HG0 : Hid (Gi K gf Wm A0 A l0 s 0 m) := Lib.hid (hm ▸ HK.out.2.pop)
      rw [hm] at hlk hml
      have hcap : l0.length ≤ 12900000 := by have := HG.out; omega
      have hfl : (gf s).length ≤ 200000 := by have := hfr.out s hsK; omega
      clear hgz hzo hpc hvo hac hss hSs hm r2 hlen
      obtain ⟨O, hO⟩ : ∃ O, gf s = O := ⟨_, rfl⟩
      have HO := Lib.hid hO
      rw [hO] at c2 hfl
      clear hO
      go_upto_region 5 with (fail)
      clear iz ia n0 n1 n2 c2 hlk hbel
      go_loopw [2, 45] (fun a2 a45 wr => ∃ (i : Nat) (own : Nat → Nat) (A : Nat → Nat) (p : Option Addr) (cap : Nat) (wl : List Nat), a2 = .slice p wl.length cap ∧ a45 = .int .i64 i ∧ i ≤ O.length ∧ Hid (wl.length + 2 * potL A K + 1 ≤ gO ∧ gO ≤ 12900000) ∧ Hid (Gw V wr own nb pc capc n (.slice (some ⟨gs, 0, none⟩) K vsc) K (.slice (some ⟨ga, 0, none⟩) K ca) (.slice pw K cw) bs ws A Wm lo (.slice p wl.length cap) wl ∧ Gi K gf Wm A0 A wl s i m) ∧ Hid (Gc W (.slice zp zl zc) K bs wr (.slice p wl.length cap))) (fun _ a45 _ => O.length - (intOf a45).toNat)
      case atStart => exact ⟨0, own, A, some ⟨gw, 0, none⟩, cap, l0, rfl, rfl, Nat.zero_le _, Lib.hid (by have := HG.out; omega), Lib.hid ⟨HW0.out, HG0.out⟩, Lib.hid (HC.out.same rfl)⟩
      case round =>
        have HVl := Lib.hid HM.out.2
        clear HW0 HG0 HK HG HM HC nl hgs hgwl hgal hpcap hcap
        obtain ⟨wi, rfl⟩ : ∃ wo : World, wo = wr := ⟨_, rfl⟩
        obtain ⟨i, own, A, p, cap, wl, rfl, rfl, hi, HG, HK, HC⟩ := hrel
        by_cases hlt : i < O.length
        · obtain ⟨q, hq⟩ : ∃ q, O[i]? = some q := ⟨_, List.getElem?_eq_getElem hlt⟩
          have hqg : (gf s)[i]? = some q := by rw [HO.out]; exact hq
          have hqK : q < K := HK.out.2.gl s q hsK (List.mem_of_getElem? hqg)
          have hr2 := HVl.out.stay HK.out.1.ng.bel
          rw [HO.out] at hr2
          obtain ⟨gr, or, ep, -, ir⟩ := hr2 i hlt
          subst ep
          have irv : lv O i = .int .i64 (q : Int) := by simp [lv, hq]
          rw [irv] at ir
          obtain ⟨_, _, e', hvo⟩ := HK.out.1.ng.gva.open
          cases e'
          obtain ⟨_, ep, -, hgal, -, -, -, hac⟩ := hvo.resolve_left (fun e => by omega)
          cases ep
          have ia := hac q hqK
          obtain ⟨_, _, e', hwo⟩ := HK.out.1.ng.gvw.open
          cases e'
          obtain ⟨gW, ep, -, hgWl, -, -, -, hwc⟩ := hwo.resolve_left (fun e => by omega)
          subst ep
          have iw := hwc q hqK
          simp only [mv] at ia iw
          obtain ⟨n0, n1, n2⟩ := HK.out.1.ng.cells
          have nl := HK.out.1.ng.lt
          have hSq := (HK.out.1.ng.sts.sa q hqK).1
          have hWq := (HK.out.1.ng.sts.sw q hqK).1
          have hlk := fun j => (hSq.drewN j).look
          have hlw := fun j => (hWq.drewN j).look
          have hal := hSq.lt
          have hwl := hWq.lt
          obtain ⟨Aq, hAq⟩ : ∃ m, A q = m := ⟨_, rfl⟩
          obtain ⟨Wq, hWq'⟩ : ∃ m, Wm q = m := ⟨_, rfl⟩
          rw [hAq] at hlk hal
          rw [hWq'] at hlw hwl
          have hor := bits_or_u64_nat Aq Wq hal hwl
          have hol := or_lt hal hwl
          obtain ⟨Oq, hOq⟩ : ∃ m, Aq ||| Wq = m := ⟨_, rfl⟩
          rw [hOq] at hor hol
          have hnot : bits .andNot .u64 (m : Int) (Oq : Int) = ((dif m Oq : Nat) : Int) := u64_andNot_nat m Oq hml hol
          have hfl2 := dif_lt (b := Oq) hml
          obtain ⟨F, hF⟩ : ∃ m', dif m Oq = m' := ⟨_, rfl⟩
          rw [hF] at hnot hfl2
          have HF : Hid (dif m (A q ||| Wm q) = F ∧ A q = Aq ∧ (gf s)[i]? = some q) := Lib.hid ⟨by rw [hAq, hWq', hOq, hF], hAq, hqg⟩
          clear hq hqg hr2 irv hvo hac hwo hwc hSq hWq hAq hWq' hOq hF hol hwl
          go_upto_region 7 with (fail)
          go_quiet (fail)
          go_upto_region 8 with (fail)
          refine name_world ?_
          intro V7 hV7
          have HK7 : Hid (Gw V V7 own nb pc capc n (.slice (some ⟨gs, 0, none⟩) K vsc) K (.slice (some ⟨ga, 0, none⟩) K ca) (.slice (some ⟨gW, 0, none⟩) K cw) bs ws A Wm lo (.slice p wl.length cap) wl) := Lib.hid (by rw [hV7]; exact HK.out.1.like rfl rfl rfl rfl)
          have HSq7 : Hid (ST V7 (bs q) Aq) := Lib.hid (by rw [← HF.out.2.1]; exact (HK7.out.ng.sts.sa q hqK).1)
          have HC7 : Hid (Gc W (.slice zp zl zc) K bs V7 (.slice p wl.length cap)) := Lib.hid (by rw [hV7]; exact HC.out.like rfl rfl rfl rfl)
          clear hV7 ia iw n0 n1 n2 hlk hlw hor hnot ir
          by_cases hF0 : F = 0
          · subst hF0
            go_wp2
            go_roundw
            case rel => exact ⟨i + 1, own, A, p, cap, wl, rfl, by go_num, by omega, HG, Lib.hid ⟨HK7.out, HK.out.2.no HF.out.2.2 HF.out.1⟩, HC7⟩
            case measure => (simp [intOf]; try omega)
          · have hFi : ¬ (F : Int) = 0 := by omega
            have HF0 := Lib.hid hF0
            obtain ⟨_, _, e', hvo⟩ := HK7.out.ng.gva.open
            cases e'
            obtain ⟨_, ep, -, hgal, -, -, -, hac⟩ := hvo.resolve_left (fun e => by omega)
            cases ep
            have ia := hac q hqK
            simp only [mv] at ia
            obtain ⟨n0, n1, n2⟩ := HK7.out.ng.cells
            have nl := HK7.out.ng.lt
            have hlk := HSq7.out.look
            have hor := bits_or_u64_nat Aq F hal hfl2
            have hol := or_lt hal hfl2
            obtain ⟨N, hN⟩ : ∃ m, Aq ||| F = m := ⟨_, rfl⟩
            rw [hN] at hor hol
            have HY := Lib.hid (HK.out.2.yes HF.out.2.2 HF.out.1 HF0.out)
            rw [HF.out.2.1, hN] at HY
            have hN0 : N ≠ 0 := fun e => HF0.out (bt_none fun r hr => bt_zero r (by rw [← e, ← hN]; exact bt_or.2 (.inr hr)))
            have HN0 := Lib.hid hN0
            have hwll : wl.length ≤ 12900000 := by have := HG.out; omega
            clear hvo hac hN hN0 hF0
            obtain ⟨i0, hi0, hz0, hz1, hz2⟩ := info_parts info_int
            go_upto_region 10 with (at_mapUpdate; refine wpList_putK rfl (.tmp 75) (.tmp 76) (.tmp 79) rfl keyedI Tryd.underlying64 (bs q) 1 (SF Aq) rfl HSq7.out.km (by decide) 0 (.int .u64 N) rfl rfl key0 ?_; intro w8 hk8 hg8; have HW8 := Lib.hid (And.intro hk8 hg8); clear hk8 hg8)
            have HK8 : Hid (Gw V w8 own nb pc capc n (.slice (some ⟨gs, 0, none⟩) K vsc) K (.slice (some ⟨ga, 0, none⟩) K ca) (.slice (some ⟨gW, 0, none⟩) K cw) bs ws (upd A q N) Wm lo (.slice p wl.length cap) wl) := Lib.hid (HK7.out.put hqK ((Ch.refl _ _).grown HW8.out.2 (fun z e => .inl (by cases e; rfl))) (ST.of_put HW8.out.1 rfl HN0.out hol))
            clear ia n0 n1 n2 hlk hor
            go_wp2_with (at_builtin; refine wpList_append_own_at _ rfl _ _ 36 rfl V.heap.size 3 i0 (.int .i64 0) 1 8 Tryd.underlying36 hi0 hz0 hz1 hz2 rfl (by decide) (.slice p wl.length cap) wl.length (rw_ wl.length (lv wl)) rfl (World.ownsRow.alloc HK8.out.gz _) ⟨w8.heap.size, 0, none⟩ 1 1 [.int .i64 (q : Int)] rfl rfl (World.news_of_block (heap_alloc_new _ _)) (fun u hu => by simp at hu; subst hu; rfl) (by unfold maxLen; omega) (by omega) (by have := HK8.out.ng.bel.size; simp; omega) ?_; intro v9 w9 hown hgrow _ hats; have HG9 : Hid (GV 3 V.heap.size w9 v9 (wl.length + 1) (upd (lv wl) wl.length (.int .i64 (q : Int)))) := Lib.hid (GV.more hown); have HA9 : Hid (Apd w8 w9 (.slice p wl.length cap) v9) := Lib.hid (apd_of hgrow hats); clear hown hgrow hats)
            obtain ⟨q9, cp9, rfl, -⟩ := HG9.out.open
            go_roundw
            case rel => exact ⟨i + 1, _, upd A q N, q9, cp9, wl ++ [q], by rw [List.length_append]; rfl, by go_num, by omega, Lib.hid (by have h1 := HG.out; have h2 := HY.out.2; rw [List.length_append]; simp only [List.length_cons, List.length_nil]; omega), Lib.hid ⟨by have := HK8.out.app HA9.out HG9.out; rw [List.length_append]; exact this, HY.out.1⟩, Lib.hid (((HC7.out.put hqK ((Ch.refl _ _).grown HW8.out.2 (fun z e => .inl (by cases e; rfl)))).app HA9.out).same (by cases q9 <;> rfl))⟩
            case measure => (simp [intOf]; try omega)
        · obtain rfl : i = O.length := by omega
          have hfull := HK.out.2
          rw [← HO.out] at hfull
          have HFL := Lib.hid hfull.full
          clear hfull
          go_wp2
          go_roundg (gO - 1)
          case rel => exact ⟨own, A, p, cap, wl, rfl, Lib.hid (by have := HG.out; omega), Lib.hid ⟨HK.out.1.like rfl rfl rfl rfl, HFL.out⟩, Lib.hid (HC.out.like rfl rfl rfl rfl)⟩
          case measure => have := HG.out; omega
end Go.Proofs.YthodpkcjdbkdnaaDoor
namespace Go.Proofs.YthodpkcjdbkdnaaDoor
open Go Go.RowKit Gm

theorem info_set : (Tryd.prog.info? 64).map (fun i => (i.zero, i.size, i.bytes)) = some (some (.map none), 1, 8) := by kernel_rfl
/-- The map of those that wait: one row. -/
structure Wts (V X : World) (own : Nat → Nat) (bw : Nat) (wv : Option Value) (wl : List Nat) : Prop where
  wm : KM 3 X bw 1 (WF wv)
  wr : (wv = none ∧ wl = []) ∨ ∃ u, wv = some u ∧ GV 3 V.heap.size X u wl.length (lv wl) ∧ Tg own u 5
theorem Wts.stay {V X Y : World} {own : Nat → Nat} {bw : Nat} {wv : Option Value} {wl : List Nat} (h : Wts V X own bw wv wl) (hb : Below X.heap.size X Y) : Wts V Y own bw wv wl :=
  ⟨h.wm.same (hb.block bw h.wm.lt), h.wr.imp id fun ⟨u, e, g, t⟩ => ⟨u, e, g.stay hb, t⟩⟩
theorem Wts.tags {V X : World} {own own' : Nat → Nat} {bw : Nat} {wv : Option Value} {wl : List Nat} (h : Wts V X own bw wv wl) (ho : ∀ b, b < X.heap.size → own' b = own b) : Wts V X own' bw wv wl :=
  ⟨h.wm, h.wr.imp id fun ⟨u, e, g, t⟩ => ⟨u, e, g, fun b e2 => by rw [ho b (g.lt b e2).2]; exact t b e2⟩⟩
theorem KM.apd {K : TypeId} {X Y : World} {b n : Nat} {f : KF} (h : KM K X b n f) {T : TypeId} {B k : Nat} {z z' : Value} {F : Nat → Value} (hz : GV T B X z k F) (ha : Apd X Y z z') : KM K Y b n f := h.same (ha.1.block b h.lt fun e => h.far hz e)
/-- A row besides is appended to. -/
theorem Wts.apd {V X Y : World} {own : Nat → Nat} {bw : Nat} {wv : Option Value} {wl : List Nat} (h : Wts V X own bw wv wl) {T : TypeId} {B k t : Nat} {z z' : Value} {F : Nat → Value} (hz : GV T B X z k F) (ht : Tg own z t) (h5 : t ≠ 5) (ha : Apd X Y z z') : Wts V Y (tag own X.heap.size t) bw wv wl := by
  refine ⟨h.wm.apd hz ha, h.wr.imp id fun ⟨u, e, g, tu⟩ => ⟨u, e, g.ch ha.1 fun b e1 e2 => ?_, tu.old fun b e1 => (g.lt b e1).2⟩⟩
  have h1 := tu b e1
  have h2 := ht b e2
  omega
theorem Wts.set {V X : World} {own : Nat → Nat} {bw : Nat} {wv : Option Value} {wl : List Nat} (h : Wts V X own bw wv wl) {nb : Nat} {cs : Array Value} {T : TypeId} (hn : X.heap[nb]? = some (.cells cs T (0, 0))) (h1 : own nb ≠ 5) (i : Nat) (x : Value) : Wts V (X.setCell ⟨nb, i, none⟩ x) own bw wv wl := by
  refine ⟨h.wm.same (heap_setCell_other X ⟨nb, i, none⟩ bw x (h.wm.nocells hn)), h.wr.imp id fun ⟨u, e, g, tu⟩ => ⟨u, e, g.setO (fun e1 => h1 (tu nb e1)) _ _, tu⟩⟩
/-- One stretch more. -/
theorem NG.two {V X Y Z : World} {own : Nat → Nat} {nb : Nat} {pc : Option Addr} {capc n : Nat} {vs : Value} {s : Nat} {va vw va' vw' : Value} {bs ws A Wm : Nat → Nat} {lo b w m1 m2 : Nat} (h : NG V X own nb pc capc n vs s va vw bs ws A Wm lo)
    (h1 : Apd X Y va va') (g1 : GV 64 V.heap.size Y va' (s + 1) (upd (mv bs) s (.map (some b)))) (h2 : Apd Y Z vw vw') (g2 : GV 64 V.heap.size Z vw' (s + 1) (upd (mv ws) s (.map (some w)))) (gy : GV 64 V.heap.size Y vw s (mv ws))
    (hs : Sts X lo (s + 1) (upd bs s b) (upd ws s w) (upd A s m1) (upd Wm s m2)) :
    NG V (Z.setCell ⟨nb, 2, none⟩ va') (tag (tag own X.heap.size 2) Y.heap.size 3) nb pc capc n vs (s + 1) va' vw' (upd bs s b) (upd ws s w) (upd A s m1) (upd Wm s m2) lo := by
  have hSa : ∀ k, va.ownBlock = some k → V.heap.size ≤ k := fun k e => (h.gva.lt k e).1
  have hSw : ∀ k, vw.ownBlock = some k → V.heap.size ≤ k := fun k e => (h.gvw.lt k e).1
  have hXY := h1.1.size
  have hYZ := h2.1.size
  have hnl := h.lt
  have hna : ¬ va.ownBlock = some nb := fun e => by have := h.t2 nb e; have := h.t1; omega
  have hnw : ¬ vw.ownBlock = some nb := fun e => by have := h.t3 nb e; have := h.t1; omega
  have nbY := (h1.1.block nb hnl hna).trans h.nbc
  have nbZ := (h2.1.block nb (by omega) hnw).trans nbY
  have tva : Tg (tag own X.heap.size 2) va' 2 := h.t2.new (fun g e => (h.gva.lt g e).2) h1.2
  have tva2 : Tg (tag (tag own X.heap.size 2) Y.heap.size 3) va' 2 := tva.old fun g e => (g1.lt g e).2
  have tvw : Tg (tag own X.heap.size 2) vw 3 := h.t3.old fun g e => (h.gvw.lt g e).2
  have tvw2 : Tg (tag (tag own X.heap.size 2) Y.heap.size 3) vw' 3 := tvw.new (fun g e => by have := (h.gvw.lt g e).2; omega) h2.2
  have t1' : tag (tag own X.heap.size 2) Y.heap.size 3 nb = 1 := by rw [tag_lt (by omega), tag_lt hnl]; exact h.t1
  have gvaZ : GV 64 V.heap.size Z va' (s + 1) (upd (mv bs) s (.map (some b))) := g1.ch h2.1 fun g e e2 => by
    have h3 := tva g e
    have h4 := tvw g e2
    omega
  have hna' : va'.ownBlock ≠ some nb := fun e => by have := tva2 nb e; omega
  have hnw' : vw'.ownBlock ≠ some nb := fun e => by have := tvw2 nb e; omega
  have stZ : Sts Z lo (s + 1) (upd bs s b) (upd ws s w) (upd A s m1) (upd Wm s m2) := (hs.ch h1.1 fun b m hs _ e => hs.far h.gva e).ch h2.1 fun b m hs _ e => hs.far gy e
  have hlo := h.los
  refine ⟨((h.bel.trans (h1.1.below h.bel.size fun k hk e => by have := hSa k e; omega)).trans (h2.1.below (by have := h.bel.size; omega) fun k hk e => by have := hSw k e; omega)).setCell (p := ⟨nb, 2, none⟩) hlo.1 _, ?_, ?_, ?_, ?_, t1', tva2, tvw2, hlo⟩
  · exact heap_setCell_same Z nb 2 _ _ va' nbZ
  · rw [← mv_upd]; exact gvaZ.setO hna' _ _
  · rw [← mv_upd]; exact g2.setO hnw' _ _
  · exact ⟨fun i hi => ⟨(stZ.sa i hi).1.same (heap_setCell_other Z ⟨nb, 2, none⟩ _ _ ((stZ.sa i hi).1.nocells nbZ)), (stZ.sa i hi).2⟩, fun i hi => ⟨(stZ.sw i hi).1.same (heap_setCell_other Z ⟨nb, 2, none⟩ _ _ ((stZ.sw i hi).1.nocells nbZ)), (stZ.sw i hi).2⟩, stZ.inj⟩
/-- Within a stretch: what it needs for itself, and writes, from place j on. -/
structure Il (Z X : World) (b w q : Nat) (cs : Array Value) (c : List Ic) (m1 m2 es j : Nat) : Prop where
  bel : Below Z.heap.size Z X
  s1 : ST X b m1
  s2 : ST X w m2
  bx : X.heap[q]? = some (.cells cs 62 (0, 0))
  f1 : ∀ r, Bt m1 r ↔ FlP c r False (es + 1) j
  f2 : ∀ r, Bt m2 r ↔ ∃ i x, j ≤ i ∧ i ≤ es ∧ c[i]? = some x ∧ defM x = r ∧ 0 ≤ r
theorem Il.step1 {c : List Ic} {m1 es j : Nat} {x : Ic} (hx : c[j]? = some x) (hj : j ≤ es) (hs : Sm1 x) (hm : m1 < 18446744073709551616) (h : ∀ r, Bt m1 r ↔ FlP c r False (es + 1) (j + 1)) (r : Int) : Bt (upM x m1) r ↔ FlP c r False (es + 1) j := by
  rw [upM_bt hs hm, FlP.iff (by omega) hx, h r]
theorem Il.step2 {c : List Ic} {m2 es j : Nat} {x : Ic} (hx : c[j]? = some x) (hj : j ≤ es) (h : ∀ r, Bt m2 r ↔ ∃ i x, j + 1 ≤ i ∧ i ≤ es ∧ c[i]? = some x ∧ defM x = r ∧ 0 ≤ r) (r : Int) : Bt (putM m2 (defM x)) r ↔ ∃ i x, j ≤ i ∧ i ≤ es ∧ c[i]? = some x ∧ defM x = r ∧ 0 ≤ r := by
  rw [bt_put, h r]
  constructor
  · rintro (⟨i, y, a, b, d⟩ | ⟨e, h0⟩)
    · exact ⟨i, y, by omega, b, d⟩
    · exact ⟨j, x, Nat.le_refl _, hj, hx, e.symm, by omega⟩
  · rintro ⟨i, y, a, b, d, e, f⟩
    by_cases e2 : i = j
    · subst e2
      rw [hx] at d
      cases d
      exact .inr ⟨e.symm, by omega⟩
    · exact .inl ⟨i, y, by omega, b, d, e, f⟩
theorem zeroIs (W : World) : (zeroValue 36).run Tryd.prog W = .ok (.slice none 0 0) W := Tryd.zeroValue36 W
/-- Whose row waits. -/
theorem Wts.look {V X : World} {own : Nat → Nat} {bw : Nat} {wv : Option Value} {wl : List Nat} (h : Wts V X own bw wv wl) : ∃ pu cu, (Instr.lookup 78 (.map (some bw)) (.int .i64 0) false).run Tryd.prog X = .ok (.slice pu wl.length cu) X ∧ GV 3 V.heap.size X (.slice pu wl.length cu) wl.length (lv wl) ∧ Tg own (.slice pu wl.length cu) 5 := by
  have hl := h.wm.look_ok keyedI Tryd.underlying78 (zeroIs X) key0 false
  rw [wf_zero] at hl
  rcases h.wr with ⟨rfl, rfl⟩ | ⟨u, rfl, hg, ht⟩
  · exact ⟨none, 0, hl, GV.nil _ _ _ _, fun g e => by cases e⟩
  · obtain ⟨p, cap, rfl, -⟩ := hg.open
    exact ⟨p, cap, hl, hg, ht⟩
/-- One more waits. -/
theorem Wts.more {V X Y Z : World} {own : Nat → Nat} {bw : Nat} {wv : Option Value} {wl : List Nat} (h : Wts V X own bw wv wl) {u u' : Value} {s : Nat} (hg : GV 3 V.heap.size X u wl.length (lv wl)) (ht : Tg own u 5) (ha : Apd X Y u u') (hg' : GV 3 V.heap.size Y u' (wl.length + 1) (upd (lv wl) wl.length (.int .i64 (s : Int)))) (hk : KM 3 Z bw 2 ((WF wv).upd 0 u')) (hz : Y.grownBy Z (some bw)) :
    Wts V Z (tag own X.heap.size 5) bw (some u') (wl ++ [s]) := by
  rw [wf_upd] at hk
  have hY := h.wm.apd hg ha
  refine ⟨hk.tight fun k e => wf_other e, .inr ⟨u', rfl, ?_, ht.new (fun g e => (hg.lt g e).2) ha.2⟩⟩
  rw [List.length_append]
  refine (hg'.ch ((Ch.refl (fun z => z = bw) Y).grown hz fun b e => .inl (by cases e; rfl)) fun g e e2 => hY.far hg' (e2 ▸ e)).to fun i hi => lv_snoc2 hi
/-- The one that waits, under way. -/
def Jw (V wr : World) (nb : Nat) (p : Option Addr) (cap n : Nat) (vs : Value) (K : Nat) (va vw : Value) (bs ws A Wm : Nat → Nat) (bw b r m s : Nat) (wl : List Nat) (left : Int → Bool) (wl' : List Nat) : Prop :=
  ∃ own wv, NG V wr own nb p cap n vs K va vw bs ws A Wm bw ∧ Wts V wr own bw wv wl' ∧ ((left = (fun k => (SF m k).isSome) ∧ wl' = wl) ∨ ((∀ k, left k = false) ∧ wl' = wl ++ [s]))
/-- A block that is none of those. -/
def Itr (X : World) (r : Nat) : Prop := (∀ cs T fr, X.heap[r]? ≠ some (.cells cs T fr)) ∧ ∀ es k, X.heap[r]? ≠ some (.map es k)
theorem KR.itr {X : World} {b r n cnt : Nat} {f : KF} {left : Int → Bool} (h : KR X b r n f left cnt) : Itr X r := by
  obtain ⟨D, L, ⟨es, clock, since, seen, c0, h0, F, hs, hD, h1, rest⟩, h2⟩ := h
  exact ⟨fun cs T fr e => (by rw [h1] at e; cases e), fun es k e => (by rw [h1] at e; cases e)⟩
theorem KM.itr {K : TypeId} {X : World} {b n r : Nat} {f : KF} (h : KM K X b n f) (hr : Itr X r) : b ≠ r := by
  obtain ⟨D, ⟨es, clock, hb, _⟩, _⟩ := h
  rintro rfl
  exact hr.2 _ _ hb
theorem GV.itr {T : TypeId} {B : Nat} {X : World} {v : Value} {k r : Nat} {F : Nat → Value} (h : GV T B X v k F) (hr : Itr X r) : ¬ v.ownBlock = some r := fun e => by
  obtain ⟨cs, hc⟩ := h.isc e
  exact hr.1 _ _ _ hc
theorem NG.itr {V X Y : World} {own : Nat → Nat} {nb : Nat} {pc : Option Addr} {capc n : Nat} {vs : Value} {K : Nat} {va vw : Value} {bs ws A Wm : Nat → Nat} {lo r : Nat} (h : NG V X own nb pc capc n vs K va vw bs ws A Wm lo) (hr : Itr X r) (hV : V.heap.size ≤ r) (hc : Ch (fun z => z = r) X Y) : NG V Y own nb pc capc n vs K va vw bs ws A Wm lo :=
  ⟨h.bel.trans (hc.below h.bel.size fun z hz e => by omega), (hc.block nb h.lt fun e => hr.1 _ _ _ (e ▸ h.nbc)).trans h.nbc, h.gva.ch hc fun g e e2 => h.gva.itr hr (e2 ▸ e), h.gvw.ch hc fun g e e2 => h.gvw.itr hr (e2 ▸ e), h.sts.ch hc fun b m hs _ e => hs.km.itr hr e, h.t1, h.t2, h.t3, h.los⟩
theorem Wts.itr {V X Y : World} {own : Nat → Nat} {bw r : Nat} {wv : Option Value} {wl : List Nat} (h : Wts V X own bw wv wl) (hr : Itr X r) (hc : Ch (fun z => z = r) X Y) : Wts V Y own bw wv wl :=
  ⟨h.wm.same (hc.block bw h.wm.lt fun e => h.wm.itr hr e), h.wr.imp id fun ⟨u, e, g, t⟩ => ⟨u, e, g.ch hc fun b e1 e2 => g.itr hr (e2 ▸ e1), t⟩⟩
/-- A map that is none of the stretches' is another. -/
theorem NG.mapw {V X Y : World} {own : Nat → Nat} {nb : Nat} {pc : Option Addr} {capc n : Nat} {vs : Value} {K : Nat} {va vw : Value} {bs ws A Wm : Nat → Nat} {lo : Nat} (h : NG V X own nb pc capc n vs K va vw bs ws A Wm lo) {k : Nat} {f : KF} (hk : KM 3 X lo k f) (hc : Ch (fun z => z = lo) X Y) : NG V Y own nb pc capc n vs K va vw bs ws A Wm lo :=
  ⟨h.bel.trans (hc.below h.bel.size fun z hz e => by have := h.los; omega), (hc.block nb h.lt fun e => hk.nocells h.nbc e.symm).trans h.nbc, h.gva.ch hc fun g e e2 => hk.far h.gva (e2 ▸ e), h.gvw.ch hc fun g e e2 => hk.far h.gvw (e2 ▸ e), h.sts.ch hc fun b m hs hl e => by omega, h.t1, h.t2, h.t3, h.los⟩
/-- Ahead of a stretch. -/
def Nl (V wr : World) (p : Option Addr) (cap : Nat) (c : List Ic) (vs : Value) (fs es : Nat → Nat) (nb bw s : Nat) (vw : Value) (wl : List Nat) (wv : Option Value) : Prop :=
  ∃ own va bs ws A Wm, NG V wr own nb p cap c.length vs s va vw bs ws A Wm bw ∧ Wts V wr own bw wv wl ∧ Own0 c s fs es A Wm ∧ (∀ i, i < s → A i ≠ 0 → i ∈ wl) ∧ (∀ i, i ∈ wl → i < s) ∧ wl.length ≤ s
theorem go1_start {K : Nat} {gf : Nat → List Nat} {Wm A : Nat → Nat} {wl : List Nat} (hm : ∀ t, t < K → A t < 18446744073709551616) (hw : ∀ t, t < K → Wm t < 18446744073709551616) (h : ∀ i, i < K → A i ≠ 0 → i ∈ wl) (hl : ∀ i, i ∈ wl → i < K) (gl : ∀ t q, t < K → q ∈ gf t → q < K) : Go1 K gf Wm A A wl :=
  ⟨hm, hw, fun P h1 _ t r ht hr => h1 t r ht hr, fun t r _ hr => hr, fun t ht hn q _ r hr => absurd hr (by
    have e : A t = 0 := Classical.byContradiction fun h0 => hn (h t ht h0)
    rw [e]
    exact bt_zero r), hl, gl⟩
/-- What is grown, under way. -/
def Jg (V wr : World) (nb : Nat) (p : Option Addr) (cap n : Nat) (vs : Value) (K : Nat) (va vw : Value) (bs ws A Wm : Nat → Nat) (bw : Nat) (gf : Nat → List Nat) (wv : Option Value) (wl : List Nat) (left : Int → Bool) : Prop :=
  ∃ own A', NG V wr own nb p cap n vs K va vw bs ws A' Wm bw ∧ ((left = (fun k => (WF wv k).isSome) ∧ A' = A ∧ Wts V wr own bw wv wl) ∨ ((∀ k, left k = false) ∧ Go1 K gf Wm A A' []))
/-- What is needed of a code, in memory. -/
structure Nds (lo : Nat) (X : World) (nb : Nat) (p : Option Addr) (cap : Nat) (c : List Ic) (K : Nat) (fs es : Nat → Nat) (gt gf : Nat → List Nat) (vs va : Value) (bs A : Nat → Nat) : Prop where
  nbc : X.heap[nb]? = some (.cells #[.slice p c.length cap, vs, va] 60 (0, 0))
  nbl : lo ≤ nb
  sr : SR X lo vs K fs es gt gf
  cu : Cu c K fs es gt gf
  va : ∃ pa ca, va = .slice pa K ca ∧ RV X pa K (mv bs) ∧ ∀ a, pa = some a → lo ≤ a.block
  sa : ∀ i, i < K → ST X (bs i) (A i) ∧ lo ≤ bs i
  nd : ∀ s r, s < K → (Bt (A s) r ↔ Nd c r (fs s))
  kl : K ≤ c.length
section
variable {lo : Nat} {X Y : World} {nb : Nat} {p : Option Addr} {cap : Nat} {c : List Ic} {K : Nat} {fs es : Nat → Nat} {gt gf : Nat → List Nat} {vs va : Value} {bs A : Nat → Nat}
theorem Nds.lt (h : Nds lo X nb p cap c K fs es gt gf vs va bs A) : nb < X.heap.size := (Array.getElem?_eq_some_iff.1 h.nbc).1
theorem Nds.stay (h : Nds lo X nb p cap c K fs es gt gf vs va bs A) (hb : Below X.heap.size X Y) : Nds lo Y nb p cap c K fs es gt gf vs va bs A :=
  ⟨(hb.block nb h.lt).trans h.nbc, h.nbl, h.sr.stay hb, h.cu, by
    obtain ⟨pa, ca, e, r, l⟩ := h.va
    exact ⟨pa, ca, e, r.stay hb, l⟩, fun i hi => ⟨(h.sa i hi).1.stay hb, (h.sa i hi).2⟩, h.nd, h.kl⟩
/-- Other blocks are written. -/
theorem Nds.far (h : Nds lo X nb p cap c K fs es gt gf vs va bs A) {S : Nat → Prop} (hc : Ch S X Y) (hn : ∀ z, S z → z < lo) : Nds lo Y nb p cap c K fs es gt gf vs va bs A := by
  refine ⟨(hc.block nb h.lt fun e => by have := hn nb e; have := h.nbl; omega).trans h.nbc, h.nbl, h.sr.far hc hn, h.cu, ?_, fun i hi => ⟨(h.sa i hi).1.ch hc fun e => by (have := hn _ e; have := (h.sa i hi).2; omega), (h.sa i hi).2⟩, h.nd, h.kl⟩
  obtain ⟨pa, ca, e, r, l⟩ := h.va
  exact ⟨pa, ca, e, r.ch hc fun a e1 e2 => (by have := hn _ e2; have := l a e1; omega), l⟩
theorem Nds.cells (h : Nds lo X nb p cap c K fs es gt gf vs va bs A) : nb < X.heap.size ∧ X.cell? ⟨nb, 0, none⟩ = some (.slice p c.length cap) ∧ X.cell? ⟨nb, 1, none⟩ = some vs ∧ X.cell? ⟨nb, 2, none⟩ = some va := by
  refine ⟨h.lt, ?_, ?_, ?_⟩ <;> rw [cell_of_row _ _ _ _ _ _ h.nbc] <;> rfl
end
def NeedsP (W : World) (p : Option Addr) (cap : Nat) (c : List Ic) (e : Ending) (w' : World) : Prop := ∃ nb K fs es gt gf vs va bs A, e = .returned (.pointer (some ⟨nb, 0, none⟩)) ∧ Nds W.heap.size w' nb p cap c K fs es gt gf vs va bs A ∧ Below W.heap.size W w'
set_option maxRecDepth 100000 in
set_option maxHeartbeats 16000000 in
theorem needs_c {W : World} {p : Option Addr} {cap : Nat} {c : List Ic} (hc : Hid (CodeAt W p c)) (E : Hid (En W)) (hsm : Hid (Sm c)) (hn : c.length ≤ 50000) : Calls Tryd.prog 26 #[.slice p c.length cap] W (NeedsP W p cap c) := by
  have hmm := @run_makeMap Tryd.prog
  go_enter Tryd.func26, Tryd.ntmps26
  go_upto_region 4 with (go_at_call 47; ((with_reducible refine (cut_c hc E (by omega)).mono ?_); rintro e1 V ⟨vs, K, fs, es, gt, gf, rfl, hsr, hcu, hbe, hKn⟩; obtain ⟨vsp, vsc, evs, hss⟩ := hsr; subst evs; have HC := Lib.hid (And.intro hss (And.intro hcu hbe)); clear hss hcu hbe))
  refine name_world ?_
  intro V4 hV4
  obtain ⟨nb, hnb⟩ : ∃ b, V.heap.size = b := ⟨_, rfl⟩
  have HB4 : Hid (Below V.heap.size V V4) := Lib.hid (by rw [hV4]; exact ((Below.refl _ _).alloc (Nat.le_refl _) _).alloc (by simp) _)
  have HN4 : Hid (NG V V4 (fun z => if z = nb then 1 else 0) nb p cap c.length (.slice vsp K vsc) 0 (.slice none 0 0) (.slice none 0 0) (fun _ => 0) (fun _ => 0) (fun _ => 0) (fun _ => 0) (nb + 1)) := Lib.hid ⟨HB4.out, by
      rw [hV4, ← hnb]
      exact (Below.heap_alloc _ _ _ (by simp)).trans (heap_alloc_new V _), GV.nil _ _ _ _, GV.nil _ _ _ _, ⟨fun i hi => absurd hi (Nat.not_lt_zero _), fun i hi => absurd hi (Nat.not_lt_zero _), fun i j hi => absurd hi (Nat.not_lt_zero _)⟩, if_pos rfl, fun g e => (by cases e), fun g e => (by cases e), by omega⟩
  have HW4 : Hid (Wts V V4 (fun z => if z = nb then 1 else 0) (nb + 1) none []) := Lib.hid ⟨by
    have h := KM.made 3 (V.alloc (.cells #[.slice p c.length cap, .slice vsp K vsc, .slice none 0 0] 60))
    have e : (WF none) = fun _ => none := by
      funext k
      unfold WF
      split <;> rfl
    rw [e, hV4, ← hnb]
    have e2 : (V.alloc (.cells #[.slice p c.length cap, .slice vsp K vsc, .slice none 0 0] 60)).heap.size = V.heap.size + 1 := by simp
    rw [e2] at h
    exact h.mono (Nat.zero_le _), .inl ⟨rfl, rfl⟩⟩
  have HNB := Lib.hid hnb
  rw [hnb]
  clear hV4 hnb
  obtain ⟨n0, n1, n2⟩ := HN4.out.cells
  go_upto_region 5 with (fail)
  clear n0 n1 n2
  obtain ⟨bw, hbw⟩ : ∃ b, nb + 1 = b := ⟨_, rfl⟩
  have HBW := Lib.hid hbw
  try rw [hbw]
  rw [hbw] at HN4 HW4
  clear hbw
  go_loopw [4, 25] (fun a4 a25 wr => ∃ (s : Nat) (vw : Value) (wl : List Nat) (wv : Option Value), vw = a4 ∧ a25 = .int .i64 s ∧ s ≤ K ∧ Hid (Nl V wr p cap c (.slice vsp K vsc) fs es nb bw s vw wl wv)) (fun _ a25 _ => K - (intOf a25).toNat)
  case atStart => exact ⟨0, _, [], none, rfl, rfl, Nat.zero_le _, Lib.hid ⟨_, _, _, _, _, _, HN4.out, HW4.out, ⟨fun s r hs => absurd hs (Nat.not_lt_zero _), fun s r hs => absurd hs (Nat.not_lt_zero _)⟩, fun i hi => absurd hi (Nat.not_lt_zero _), fun i hi => (by cases hi), Nat.le_refl _⟩⟩
  case round =>
    clear HN4 HW4
    obtain ⟨wo, rfl⟩ : ∃ wo : World, wo = wr := ⟨_, rfl⟩
    obtain ⟨s, vw, wl, wv, rfl, rfl, hs, HNl⟩ := hrel
    obtain ⟨own, va, bs, ws, A, Wm, hng, hwt, hown, hwl⟩ := HNl.out
    have HNG := Lib.hid hng
    have HWT := Lib.hid hwt
    have HOW := Lib.hid (And.intro hown hwl)
    clear hng hwt hown hwl HNl
    by_cases hsK : s < K
    · have hle := HC.out.2.1.le hsK
      obtain ⟨gs, ep, hgs, c0, c1, p2, k2, p3, k3, c2, c3, -, -⟩ := HC.out.1 s hsK
      subst ep
      have hbel := HNG.out.bel
      have c0 := (hbel.cell (p := ⟨gs, s * 4, none⟩) hgs).trans c0
      have c1 := (hbel.cell (p := ⟨gs, s * 4 + 1, none⟩) hgs).trans c1
      have c2 := (hbel.cell (p := ⟨gs, s * 4 + 2, none⟩) hgs).trans c2
      have c3 := (hbel.cell (p := ⟨gs, s * 4 + 3, none⟩) hgs).trans c3
      have hgs := Nat.lt_of_lt_of_le hgs hbel.size
      clear hbel
      go_upto_region 8 with (fail)
      refine name_world ?_
      intro V8 hV8
      obtain ⟨q, hq⟩ : ∃ q, wo.heap.size = q := ⟨_, rfl⟩
      have HIl : Hid (Il wo V8 (q + 1) (q + 1 + 1) q #[.int .i64 (fs s : Int), .int .i64 (es s : Int), .slice p2 (gf s).length k2, .slice p3 (gt s).length k3] c 0 0 (es s) (es s + 1)) := Lib.hid (by
        obtain ⟨X1, hX1⟩ : ∃ X, wo.alloc (.cells #[.int .i64 (fs s : Int), .int .i64 (es s : Int), .slice p2 (gf s).length k2, .slice p3 (gt s).length k3] 62) = X := ⟨_, rfl⟩
        have hs1 : X1.heap.size = q + 1 := by rw [← hX1, ← hq]; simp
        have hs2 : (X1.alloc (.map #[] 0)).heap.size = q + 1 + 1 := by simp [hs1]
        have hbx : X1.heap[q]? = some (.cells #[.int .i64 (fs s : Int), .int .i64 (es s : Int), .slice p2 (gf s).length k2, .slice p3 (gt s).length k3] 62 (0, 0)) := by rw [← hX1, ← hq]; exact heap_alloc_new wo _
        have t1 := (ST.made X1).stay (Y := (X1.alloc (.map #[] 0)).alloc (.map #[] 0)) ((Below.refl _ _).alloc (Nat.le_refl _) _)
        have t2 := ST.made (X1.alloc (.map #[] 0))
        rw [hs1] at t1
        rw [hs2] at t2
        rw [hX1] at hV8
        rw [hV8]
        refine ⟨?_, t1, t2, (((Below.refl X1.heap.size X1).alloc (Nat.le_refl _) _).alloc (by simp) _ |>.block q (by omega)).trans hbx, fun r => ?_, fun r => ?_⟩
        · have h1 : Below wo.heap.size wo X1 := by rw [← hX1]; exact below1 _ _
          exact (h1.alloc (by omega) _).alloc (by simp; omega) _
        · rw [FlP.at_end]
          exact ⟨fun h => bt_zero r h, False.elim⟩
        · constructor
          · intro h; exact absurd h (bt_zero r)
          · rintro ⟨i, x, h1, h2, -⟩; omega)
      have HQ := Lib.hid hq
      rw [hq]
      clear hV8 c0 c1 c2 c3 hq
      have bx1 : V8.cell? ⟨q, 1, none⟩ = some (.int .i64 (es s : Int)) := by rw [cell_of_row _ _ _ _ _ _ HIl.out.bx]; rfl
      go_upto_region 9 with (fail)
      clear bx1
      go_loopw [10] (fun a wr => ∃ (j m1 m2 : Nat), a = .int .i64 ((j : Int) - 1) ∧ fs s ≤ j ∧ j ≤ es s + 1 ∧ Hid (Il wo wr (q + 1) (q + 1 + 1) q #[.int .i64 (fs s : Int), .int .i64 (es s : Int), .slice p2 (gf s).length k2, .slice p3 (gt s).length k3] c m1 m2 (es s) j)) (fun a _ => (intOf a + 1).toNat)
      case atStart => exact ⟨es s + 1, 0, 0, by simp, by omega, by omega, HIl⟩
      case round =>
        clear HIl
        obtain ⟨wi, rfl⟩ : ∃ wo : World, wo = wr := ⟨_, rfl⟩
        obtain ⟨j, m1, m2, rfl, hj1, hj2, HI⟩ := hrel
        have bx0 : wi.cell? ⟨q, 0, none⟩ = some (.int .i64 (fs s : Int)) := by rw [cell_of_row _ _ _ _ _ _ HI.out.bx]; rfl
        by_cases hlt : fs s < j
        · obtain ⟨i, rfl⟩ : ∃ i, j = i + 1 := ⟨j - 1, by omega⟩
          obtain ⟨x, hx⟩ : ∃ x, c[i]? = some x := ⟨_, List.getElem?_eq_getElem (by omega)⟩
          have hbW : Below W.heap.size W wi := (HC.out.2.2.trans (HNG.out.bel.mono HC.out.2.2.size)).trans (HI.out.bel.mono (Nat.le_trans HC.out.2.2.size HNG.out.bel.size))
          obtain ⟨gc, oc, ep, hgc, hatW, hok⟩ := hc.out i x hx
          have hat7 := hatW.stay hgc hbW
          have k0 := hat7.k
          have k1 := hat7.o
          have k2' := hat7.d
          have k3' := hat7.a
          have k4 := hat7.b
          have k5 := hat7.n
          have k6 := hat7.t
          have hWq : W.heap.size ≤ q := by have h1 := HC.out.2.2.size; have h2 := HNG.out.bel.size; have h3 := HQ.out; omega
          have hgi := Nat.lt_of_lt_of_le hgc hbW.size
          have HX := Lib.hid (And.intro hx (And.intro hatW hgc))
          have hsx := hsm.out i x hx
          have hEi := E.out.below hbW
          have HEi := Lib.hid hEi
          have HBW := Lib.hid hbW
          have HUP := Lib.hid (up_c (Lib.hid HI.out.s1) HEi x hsx)
          have hds := def_sm hsx
          have HDF : Hid (∀ w, Kinds w → Calls Tryd.prog 43 #[.agg #[.int .i64 x.k, .int .i64 x.o, .int .i64 x.d, .int .i64 x.a, .int .i64 x.b, .int .i64 x.n, .int .i64 x.t]] w fun e w' => e = .returned (.int .i64 (defM x)) ∧ Below w.heap.size w w') := Lib.hid fun w T => def_any x w T
          obtain ⟨dm, hdm⟩ : ∃ d, defM x = d := ⟨_, rfl⟩
          rw [hdm] at HDF hds
          have HDM := Lib.hid hdm
          have hfs : (fs s : Int) ≤ i := by omega
          subst ep
          clear hat7 hok hbW hEi hx hdm hatW
          go_upto_region 12 with (first
            | (go_at_call 36; (with_reducible refine HUP.out.mono ?_); rintro e5 w5 ⟨n5, rfl, -, hs5, hc5⟩; have HU5 := Lib.hid (And.intro hs5 hc5); clear hs5 hc5))
          clear k0 k1 k2' k3' k4 k5 k6 bx0
          have hb5 : Below W.heap.size W w5 := HBW.out.trans (HU5.out.2.below HBW.out.size fun z hz e => by omega)
          have hat5 := HX.out.2.1.stay HX.out.2.2 hb5
          have k0 := hat5.k
          have k1 := hat5.o
          have k2' := hat5.d
          have k3' := hat5.a
          have k4 := hat5.b
          have k5 := hat5.n
          have k6 := hat5.t
          have hgi5 := Nat.lt_of_lt_of_le HX.out.2.2 hb5.size
          have HE5 := Lib.hid (E.out.below hb5)
          have hS2 := HI.out.s2.ch HU5.out.2 (by omega)
          have HS2 := Lib.hid hS2
          clear hat5 hb5 hS2
          go_upto_region 10 with (first
            | (go_at_call 43; (with_reducible refine (HDF.out _ HE5.out.kinds).mono ?_); rintro e6 w6 ⟨rfl, hb6⟩; have HB6 := Lib.hid hb6; have HS6 := Lib.hid (HS2.out.stay hb6); clear hb6)
            | (go_at_call 48; (with_reducible refine (put_c HS6 dm hds).mono ?_); rintro e7 w7 ⟨n7, rfl, -, hs7, hc7⟩; have HP7 := Lib.hid (And.intro hs7 hc7); clear hs7 hc7))
          clear k0 k1 k2' k3' k4 k5 k6
          go_wp2
          go_roundw
          case rel =>
            have hx := HX.out.1
            have hsize5 := HU5.out.2.size
            have hsize6 := HB6.out.size
            have hqi : q + 1 + 1 < wi.heap.size := HI.out.s2.bl
            have hIq : wo.heap.size = q := HQ.out
            refine ⟨i, upM x m1, putM m2 dm, by first | go_num | (simp; try omega), by omega, by omega, Lib.hid ⟨?_, ?_, HP7.out.1, ?_, ?_, ?_⟩⟩
            · refine ((HI.out.bel.trans (HU5.out.2.below HI.out.bel.size fun z hz e => by omega)).trans (HB6.out.mono ?_)).trans (HP7.out.2.below ?_ fun z hz e => by omega)
              · have := HI.out.bel.size; omega
              · have := HI.out.bel.size; omega
            · exact (HU5.out.1.stay HB6.out).ch HP7.out.2 (by omega)
            · exact ((HP7.out.2.block q (by omega) (by omega)).trans ((HB6.out.block q (by omega)).trans (HU5.out.2.block q (by omega) (by omega)))).trans HI.out.bx
            · exact Il.step1 hx (by omega) hsx HI.out.s1.lt HI.out.f1
            · rw [← HDM.out]
              exact Il.step2 hx (by omega) HI.out.f2
          case measure => (simp [intOf]; try omega)
        · obtain rfl : j = fs s := by omega
          go_upto_region 13 with (fail)
          clear bx0 hlt
          have HN := Lib.hid (HNG.out.stay HI.out.bel)
          have HT := Lib.hid (HWT.out.stay HI.out.bel)
          obtain ⟨pa, ca, eva, -⟩ := HN.out.gva.open
          obtain ⟨pw, cw, evw, -⟩ := HN.out.gvw.open
          subst eva
          subst evw
          obtain ⟨n0, n1, n2⟩ := HN.out.cells
          have nl := HN.out.lt
          have HNX : Hid (∀ w4 v4, Apd wi w4 (.slice pa s ca) v4 → GV 64 V.heap.size w4 (.slice pw s cw) s (mv ws)) := Lib.hid fun w4 v4 hA => HN.out.gvw.ch hA.1 fun g e e2 => by
            have h3 := HN.out.t2 g e2
            have h4 := HN.out.t3 g e
            omega
          have HNB2 : Hid (∀ w4 v4 w5 v5, Apd wi w4 (.slice pa s ca) v4 → Apd w4 w5 (.slice pw s cw) v5 → w5.heap[nb]? = some (.cells #[.slice p c.length cap, .slice (some ⟨gs, 0, none⟩) K vsc, .slice pa s ca] 60 (0, 0))) := Lib.hid fun w4 v4 w5 v5 h1 h2 => by
            have hna : ¬ (Value.slice pa s ca).ownBlock = some nb := fun e => by have := HN.out.t2 nb e; have := HN.out.t1; omega
            have hnw : ¬ (Value.slice pw s cw).ownBlock = some nb := fun e => by have := HN.out.t3 nb e; have := HN.out.t1; omega
            exact (h2.1.block nb (Nat.lt_of_lt_of_le nl h1.1.size) hnw).trans ((h1.1.block nb nl hna).trans HN.out.nbc)
          have HST : Hid (Sts wi bw (s + 1) (upd bs s (q + 1)) (upd ws s (q + 1 + 1)) (upd A s m1) (upd Wm s m2)) := Lib.hid (HNG.out.sts.more HI.out.bel (by have := HQ.out; omega) (by have := HQ.out; omega) HWT.out.wm.lt (by omega) HI.out.s1 HI.out.s2)
          have hbase : V.heap.size ≤ wi.heap.size := HN.out.bel.size
          obtain ⟨i0, hi0, hz0, hz1, hz2⟩ := info_parts info_set
          go_upto_region 14 with (first
            | (at_builtin; refine wpList_append_own_at _ rfl _ _ 58 rfl V.heap.size 64 i0 (.map none) 1 8 Tryd.underlying58 hi0 hz0 hz1 hz2 rfl (by decide) (.slice pa s ca) s (rw_ s (mv bs)) rfl (World.ownsRow.alloc HN.out.gva _) ⟨wi.heap.size, 0, none⟩ 1 1 [.map (some (q + 1))] rfl rfl (World.news_of_block (heap_alloc_new _ _)) (fun u hu => by simp at hu; subst hu; rfl) (by unfold maxLen; omega) (by omega) (by simp; omega) ?_; intro v4 w4 hown hgrow _ hats; have HG4 : Hid (GV 64 V.heap.size w4 v4 (s + 1) (upd (mv bs) s (.map (some (q + 1))))) := Lib.hid (GV.more hown); have HA4 : Hid (Apd wi w4 (.slice pa s ca) v4) := Lib.hid (apd_of hgrow hats); have HY4 := Lib.hid (HNX.out w4 v4 HA4.out); clear hown hgrow hats; obtain ⟨q4, cp4, rfl, -⟩ := HG4.out.open)
            | (at_builtin; refine wpList_append_own_at _ rfl _ _ 58 rfl V.heap.size 64 i0 (.map none) 1 8 Tryd.underlying58 hi0 hz0 hz1 hz2 rfl (by decide) (.slice pw s cw) s (rw_ s (mv ws)) rfl (World.ownsRow.alloc HY4.out _) ⟨w4.heap.size, 0, none⟩ 1 1 [.map (some (q + 1 + 1))] rfl rfl (World.news_of_block (heap_alloc_new _ _)) (fun u hu => by simp at hu; subst hu; rfl) (by unfold maxLen; omega) (by omega) (by have := HA4.out.1.size; simp; omega) ?_; intro v5 w5 hown hgrow _ hats; have HG5 : Hid (GV 64 V.heap.size w5 v5 (s + 1) (upd (mv ws) s (.map (some (q + 1 + 1))))) := Lib.hid (GV.more hown); have HA5 : Hid (Apd w4 w5 (.slice pw s cw) v5) := Lib.hid (apd_of hgrow hats); clear hown hgrow hats; obtain ⟨q5, cp5, rfl, -⟩ := HG5.out.open; have h5 := HNB2.out _ _ _ _ HA4.out HA5.out; have x2 : w5.cell? ⟨nb, 2, none⟩ = some (.slice pa s ca) := (by rw [cell_of_row _ _ _ _ _ _ h5]; rfl); have x3 := frozen_of_row w5 nb 2 _ _ h5; have x4 : nb < w5.heap.size := (Array.getElem?_eq_some_iff.1 h5).1; have HH5 := Lib.hid h5; clear h5))
          refine name_world ?_
          intro V14 hV14
          have HN14 : Hid (NG V V14 (tag (tag own wi.heap.size 2) w4.heap.size 3) nb p cap c.length (.slice (some ⟨gs, 0, none⟩) K vsc) (s + 1) (.slice q4 (s + 1) cp4) (.slice q5 (s + 1) cp5) (upd bs s (q + 1)) (upd ws s (q + 1 + 1)) (upd A s m1) (upd Wm s m2) bw) := Lib.hid (by rw [hV14]; exact HN.out.two HA4.out HG4.out HA5.out HG5.out HY4.out HST.out)
          have HT14 : Hid (Wts V V14 (tag (tag own wi.heap.size 2) w4.heap.size 3) bw wv wl) := Lib.hid (by
            rw [hV14]
            have hq1 := (HT.out.apd HN.out.gva HN.out.t2 (by decide) HA4.out).apd HY4.out (HN.out.t3.old fun g e => (HN.out.gvw.lt g e).2) (by decide) HA5.out
            refine hq1.set HH5.out ?_ _ _
            rw [tag_lt (Nat.lt_of_lt_of_le nl HA4.out.1.size), tag_lt nl, HN.out.t1]
            decide)
          obtain ⟨own2, ho2⟩ : ∃ o, tag (tag own wi.heap.size 2) w4.heap.size 3 = o := ⟨_, rfl⟩
          rw [ho2] at HN14 HT14
          have HS14 : Hid (ST V14 (q + 1) m1) := Lib.hid (by
            have := (HN14.out.sts.sa s (by omega)).1
            rwa [upd_at, upd_at] at this)
          have HO14 : Hid (Own0 c (s + 1) fs es (upd A s m1) (upd Wm s m2)) := Lib.hid ⟨fun i r hi => by
            by_cases e : i = s
            · subst e; rw [upd_at]; exact HI.out.f1 r
            · rw [upd_of e]; exact HOW.out.1.a0 i r (by omega), fun i r hi => by
            by_cases e : i = s
            · subst e; rw [upd_at]; exact HI.out.f2 r
            · rw [upd_of e]; exact HOW.out.1.wm i r (by omega)⟩
          clear hV14 ho2 n0 n1 n2 x2 x3 x4
          obtain ⟨b, hb⟩ : ∃ b, q + 1 = b := ⟨_, rfl⟩
          have HBq : Hid (q + 1 = b ∧ bw < b) := Lib.hid ⟨hb, by have := HWT.out.wm.lt; have := HQ.out; omega⟩
          rw [hb] at HS14
          try rw [hb]
          clear hb
          go_upto_region 15 with (first | (at_range; refine wpList_rangeK rfl _ rfl Tryd.underlying64 b 1 (SF m1) rfl HS14.out.km ?_; intro w0 cnt0 hkr0 hg0 hs0; have HR0 := Lib.hid (And.intro hkr0 (And.intro hg0 hs0)); clear hkr0 hg0 hs0))
          try go_frame
          obtain ⟨r, hr1⟩ : ∃ r, V14.heap.size = r := ⟨_, rfl⟩
          rw [hr1]
          have HW0 : Hid (Below V14.heap.size V14 w0 ∧ KR w0 b r 1 (SF m1) (fun k => (SF m1 k).isSome) cnt0) := Lib.hid ⟨(Below.refl _ _).grown HR0.out.2.1 (Nat.le_refl _) (fun z e => by cases e), by have h0 := HR0.out.1; rwa [hr1] at h0⟩
          have HRV := Lib.hid hr1
          clear hr1 HR0
          go_loopw [69] (fun _ wr => ∃ left cnt wl', Hid (KR wr b r 1 (SF m1) left cnt ∧ Jw V wr nb p cap c.length (.slice (some ⟨gs, 0, none⟩) K vsc) (s + 1) (.slice q4 (s + 1) cp4) (.slice q5 (s + 1) cp5) (upd bs s (q + 1)) (upd ws s (q + 1 + 1)) (upd A s m1) (upd Wm s m2) bw b r m1 s wl left wl')) (fun _ wr => wr.rangeLeft b r)
          case atStart => exact ⟨_, cnt0, wl, Lib.hid ⟨HW0.out.2, own2, wv, HN14.out.stay HW0.out.1, HT14.out.stay HW0.out.1, .inl ⟨rfl, rfl⟩⟩⟩
          case round =>
            obtain ⟨wz, rfl⟩ : ∃ wo : World, wo = wr := ⟨_, rfl⟩
            obtain ⟨left, cnt, wl', HK⟩ := hrel
            go_wp2_with (at_next; refine wpList_nextK rfl _ rfl b r 1 (SF m1) left cnt rfl HK.out.1 ?_ ?_)
            case refine_1 =>
              intro hl
              have HL := Lib.hid hl
              clear hl
              obtain ⟨own', wv', hng, hwt, hst⟩ := HK.out.2
              have HR9 := Lib.hid (And.intro hng (And.intro hwt hst))
              clear hng hwt hst
              go_wp2
              go_roundw
              case rel =>
                refine ⟨s + 1, .slice q5 (s + 1) cp5, wl', wv', rfl, by go_num, by omega, Lib.hid ⟨own', _, _, _, _, _, HR9.out.1, HR9.out.2.1, HO14.out, fun i hi h0 => ?_, fun i hi => ?_, ?_⟩⟩
                · by_cases e : i = s
                  · subst e
                    rw [upd_at] at h0
                    rcases HR9.out.2.2 with ⟨rfl, rfl⟩ | ⟨-, rfl⟩
                    · have h5 : (SF m1 0).isSome = false := HL.out 0
                      rw [sf_zero h0] at h5
                      cases h5
                    · simp
                  · rw [upd_of e] at h0
                    have h5 := HOW.out.2.1 i (by omega) h0
                    rcases HR9.out.2.2 with ⟨-, rfl⟩ | ⟨-, rfl⟩
                    · exact h5
                    · simp [h5]
                · rcases HR9.out.2.2 with ⟨-, rfl⟩ | ⟨-, rfl⟩
                  · have := HOW.out.2.2.1 i hi; omega
                  · rcases List.mem_append.1 hi with hi | hi
                    · have := HOW.out.2.2.1 i hi; omega
                    · have : i = s := by simpa using hi
                      omega
                · have h6 := HOW.out.2.2.2
                  rcases HR9.out.2.2 with ⟨-, rfl⟩ | ⟨-, rfl⟩
                  · omega
                  · rw [List.length_append]; simp; omega
              case measure => (simp [intOf]; try omega)
            case refine_2 =>
              intro k0 v0 w1 cnt1 hls hfs hkr1 hlt1 hg1 hs1 hen
              obtain ⟨rfl, rfl, hm0⟩ := sf_some hfs
              obtain ⟨own', wv', hng, hwt, hst⟩ := HK.out.2
              rcases hst with ⟨rfl, rfl⟩ | ⟨hno, -⟩
              · have hb1 : Ch (fun z => z = r) wz w1 := (Ch.refl _ _).grown hg1 (fun z e => .inl (by cases e; rfl))
                have hir := HK.out.1.itr
                have hVr : V.heap.size ≤ r := by have := HRV.out; have := HN14.out.bel.size; omega
                have HN1 := Lib.hid (hng.itr hir hVr hb1)
                have HT1 := Lib.hid (hwt.itr hir hb1)
                have HK1 := Lib.hid (And.intro hkr1 (And.intro HK.out.1.left_eq hlt1))
                obtain ⟨pu, cu, hlk, hgu, htu⟩ := HT1.out.look
                have HU := Lib.hid (And.intro hgu htu)
                have hwll : wl'.length ≤ 50000 := by have := HOW.out.2.2.2; omega
                have hb1s : V.heap.size ≤ w1.heap.size := HN1.out.bel.size
                obtain ⟨i0, hi0, hz0, hz1, hz2⟩ := info_parts info_int
                have HM0 := Lib.hid hm0
                clear hng hwt hir hVr hkr1 hlt1 hg1 hs1 hb1 hgu htu hls hfs hm0 HK
                go_wp2_with (first
                  | (at_builtin; refine wpList_append_own_at _ rfl _ _ 36 rfl V.heap.size 3 i0 (.int .i64 0) 1 8 Tryd.underlying36 hi0 hz0 hz1 hz2 rfl (by decide) (.slice pu wl'.length cu) wl'.length (rw_ wl'.length (lv wl')) rfl (World.ownsRow.alloc HU.out.1 _) ⟨w1.heap.size, 0, none⟩ 1 1 [.int .i64 (s : Int)] rfl rfl (World.news_of_block (heap_alloc_new _ _)) (fun u hu => by simp at hu; subst hu; rfl) (by unfold maxLen; omega) (by omega) (by simp; omega) ?_; intro v4 w2 hown hgrow _ hats; have HG4 : Hid (GV 3 V.heap.size w2 v4 (wl'.length + 1) (upd (lv wl') wl'.length (.int .i64 (s : Int)))) := Lib.hid (GV.more hown); have HA4 : Hid (Apd w1 w2 (.slice pu wl'.length cu) v4) := Lib.hid (apd_of hgrow hats); clear hown hgrow hats; obtain ⟨qq, cc, rfl, -⟩ := HG4.out.open; have HT2 := Lib.hid (HT1.out.wm.apd HU.out.1 HA4.out))
                  | (at_mapUpdate; refine wpList_putK rfl (.tmp 73) (.tmp 74) (.tmp 80) rfl keyedI Tryd.underlying78 bw 1 (WF wv') rfl HT2.out (by decide) 0 _ rfl rfl key0 ?_; intro w3 hk3 hg3; have HW3 := Lib.hid (And.intro hk3 hg3); clear hk3 hg3))
                go_roundw
                case rel =>
                  have hc3 : Ch (fun z => z = bw) w2 w3 := (Ch.refl _ _).grown HW3.out.2 (fun z e => .inl (by cases e; rfl))
                  have hbb := HBq.out.2
                  have hrr := HRV.out
                  have hbwl := HT14.out.wm.lt
                  have hkr := (HK1.out.1.ch HA4.out.1 (fun e => HK1.out.1.km.far HU.out.1 e) (fun e => HU.out.1.itr HK1.out.1.itr e)).ch hc3 (by omega) (by omega)
                  rw [left_none] at hkr
                  exact ⟨_, _, wl' ++ [s], Lib.hid ⟨hkr, _, _, (HN1.out.apd HU.out.1 HU.out.2 (by decide) HA4.out).mapw HT2.out hc3, HT1.out.more HU.out.1 HU.out.2 HA4.out HG4.out HW3.out.1 HW3.out.2, .inr ⟨fun _ => rfl, rfl⟩⟩⟩
                case measure =>
                  have hc3 : Ch (fun z => z = bw) w2 w3 := (Ch.refl _ _).grown HW3.out.2 (fun z e => .inl (by cases e; rfl))
                  have hbb := HBq.out.2
                  have hrr := HRV.out
                  have hbwl := HT14.out.wm.lt
                  have hkr := (HK1.out.1.ch HA4.out.1 (fun e => HK1.out.1.km.far HU.out.1 e) (fun e => HU.out.1.itr HK1.out.1.itr e)).ch hc3 (by omega) (by omega)
                  rw [hkr.left_eq, HK1.out.2.1]
                  exact HK1.out.2.2
              · rw [hno 0] at hls
                cases hls
    · obtain rfl : s = K := by omega
      have hgl : ∀ t q, t < s → q ∈ gf t → q < s := fun t q ht hq => ((HC.out.2.1.gfr t ht q).1 hq).1
      have HGS := Lib.hid (go1_start (gf := gf) (fun t ht => (HNG.out.sts.sa t ht).1.lt) (fun t ht => (HNG.out.sts.sw t ht).1.lt) HOW.out.2.1 HOW.out.2.2.1 hgl)
      have hwm := HWT.out.wm
      clear hgl
      go_upto_region 20 with (first | (at_range; refine wpList_rangeK rfl _ rfl Tryd.underlying78 bw 1 (WF wv) rfl hwm ?_; intro w0 cnt0 hkr0 hg0 hs0; have HR0 := Lib.hid (And.intro hkr0 (And.intro hg0 hs0)); clear hkr0 hg0 hs0))
      try go_frame
      obtain ⟨r, hr1⟩ : ∃ r, wo.heap.size = r := ⟨_, rfl⟩
      rw [hr1]
      have HW0 : Hid (Below wo.heap.size wo w0 ∧ KR w0 bw r 1 (WF wv) (fun k => (WF wv k).isSome) cnt0) := Lib.hid ⟨(Below.refl _ _).grown HR0.out.2.1 (Nat.le_refl _) (fun z e => by cases e), by have h0 := HR0.out.1; rwa [hr1] at h0⟩
      have HRV := Lib.hid hr1
      clear hr1 HR0 hwm
      go_loopw [84] (fun _ wr => ∃ left cnt, Hid (KR wr bw r 1 (WF wv) left cnt ∧ Jg V wr nb p cap c.length (.slice vsp s vsc) s va vw bs ws A Wm bw gf wv wl left)) (fun _ wr => wr.rangeLeft bw r)
      case atStart => exact ⟨_, cnt0, Lib.hid ⟨HW0.out.2, own, A, HNG.out.stay HW0.out.1, .inl ⟨rfl, rfl, HWT.out.stay HW0.out.1⟩⟩⟩
      case round =>
        obtain ⟨wz, rfl⟩ : ∃ wo : World, wo = wr := ⟨_, rfl⟩
        obtain ⟨left, cnt, HK⟩ := hrel
        go_wp2_with (at_next; refine wpList_nextK rfl _ rfl bw r 1 (WF wv) left cnt rfl HK.out.1 ?_ ?_)
        case refine_1 =>
          intro hl
          have HL := Lib.hid hl
          clear hl
          obtain ⟨own', A', hng, hst⟩ := HK.out.2
          have HR9 := Lib.hid (And.intro hng hst)
          clear hng hst
          go_wp2
          go_ret
          have hgo : Go1 s gf Wm A A' [] := by
            rcases HR9.out.2 with ⟨rfl, rfl, hwt⟩ | ⟨-, h⟩
            · have hwl : wl = [] := by
                rcases hwt.wr with ⟨-, h⟩ | ⟨u, rfl, -⟩
                · exact h
                · have h5 : (WF (some u) 0).isSome = false := HL.out 0
                  rw [wf_zero] at h5
                  cases h5
              have := HGS.out
              rwa [hwl] at this
            · exact h
          have hng := HR9.out.1
          obtain ⟨pa, ca, eva, hra, hla⟩ := hng.gva.rv
          have hWV := HC.out.2.2
          have hlo := hng.los
          exact ⟨nb, s, fs, es, gt, gf, _, va, bs, A', rfl, ⟨hng.nbc, by have := hWV.size; omega, SR.stay ⟨_, _, rfl, HC.out.1⟩ hng.bel, HC.out.2.1, ⟨pa, ca, eva, hra, fun a e => Nat.le_trans hWV.size (hla a e).1⟩, fun i hi => ⟨(hng.sts.sa i hi).1, by have := (hng.sts.sa i hi).2; have := hWV.size; omega⟩, fun t r ht => need_iff HC.out.2.1 hsm.out HOW.out.1 hgo ht, hKn⟩, hWV.trans (hng.bel.mono hWV.size)⟩
        case refine_2 =>
          intro k0 v0 w1 cnt1 hls hfs hkr1 hlt1 hg1 hs1 hen
          obtain ⟨own', A', hng, hst⟩ := HK.out.2
          rcases hst with ⟨rfl, rfl, hwt⟩ | ⟨hno, -⟩
          · have hk0 : k0 = 0 := Classical.byContradiction fun e => by rw [wf_other e] at hfs; cases hfs
            subst hk0
            rw [wf_zero] at hfs
            have hb1 : Ch (fun z => z = r) wz w1 := (Ch.refl _ _).grown hg1 (fun z e => .inl (by cases e; rfl))
            have hir := HK.out.1.itr
            have hVr : V.heap.size ≤ r := by have := HRV.out; have := HNG.out.bel.size; omega
            have HN1 := Lib.hid (hng.itr hir hVr hb1)
            have HT1 := Lib.hid (hwt.itr hir hb1)
            have HK1 := Lib.hid (And.intro hkr1 (And.intro HK.out.1.left_eq hlt1))
            obtain ⟨u, eu, hgu, htu⟩ := HT1.out.wr.resolve_left (fun e => by rw [e.1] at hfs; cases hfs)
            have hv0 : v0 = u := by rw [hfs] at eu; cases eu; rfl
            subst hv0
            obtain ⟨pu, cu, eu2, -⟩ := hgu.open
            have HU := Lib.hid (And.intro hgu htu)
            subst eu2
            have HGR := Lib.hid (grow_c (Lib.hid ⟨HN1.out, HU.out.1, HU.out.2⟩) HGS (Lib.hid ⟨vsp, vsc, rfl, HC.out.1⟩) (by omega) HOW.out.2.2.2 (Lib.hid HC.out.2.1.frl))
            clear hng hwt hir hVr hkr1 hlt1 hg1 hs1 hb1 hgu htu hls hfs eu HK
            go_wp2_with (go_at_call 49; (with_reducible refine HGR.out.mono ?_); rintro e5 w5 ⟨rfl, own5, A5, z5, hg5, hgo5, hgc5⟩; have HV5 := Lib.hid (And.intro hg5 (And.intro hgo5 hgc5)); clear hg5 hgo5 hgc5)
            have hkr : KR w5 bw r 1 (WF wv) (fun _ => false) cnt1 := by
              have h1 := HK1.out.1.ch HV5.out.2.2.1 (fun e => by
                rcases e with ⟨i, hi, e⟩ | e
                · have := (HN1.out.sts.sa i hi).2; omega
                · exact HT1.out.wm.far HU.out.1 e) (fun e => by
                rcases e with ⟨i, hi, e⟩ | e
                · exact (HN1.out.sts.sa i hi).1.km.itr HK1.out.1.itr e.symm
                · exact HU.out.1.itr HK1.out.1.itr e)
              have e : (fun t => (WF wv t).isSome && !decide (t = 0)) = fun _ : Int => false := by
                funext t
                by_cases e : t = 0
                · simp [e]
                · rw [wf_other e]; rfl
              rwa [e] at h1
            have HKR := Lib.hid hkr
            clear hkr
            go_roundw
            case rel => exact ⟨_, cnt1, Lib.hid ⟨HKR.out, own5, A5, HV5.out.1.ng, .inr ⟨fun _ => rfl, HV5.out.2.1⟩⟩⟩
            case measure =>
              rw [HKR.out.left_eq, HK1.out.2.1]
              exact HK1.out.2.2
          · rw [hno k0] at hls
            cases hls
end Go.Proofs.YthodpkcjdbkdnaaDoor
namespace Go.Proofs.YthodpkcjdbkdnaaDoor
open Go Go.RowKit Gm

def BehP (X : World) (c : List Ic) (i : Nat) (e : Ending) (w' : World) : Prop := ∃ b m, e = .returned (.map (some b)) ∧ ST w' b m ∧ (∀ r, Bt m r ↔ Bh c r i) ∧ X.heap.size ≤ b ∧ Below X.heap.size X w'
set_option maxRecDepth 100000 in
set_option maxHeartbeats 4000000 in
theorem behind1_c {lo : Nat} {X : World} {nb : Nat} {p : Option Addr} {cap : Nat} {c : List Ic} {K : Nat} {fs es : Nat → Nat} {gt gf : Nat → List Nat} {vs va : Value} {bs A : Nat → Nat} (h : Hid (Nds lo X nb p cap c K fs es gt gf vs va bs A)) {s : Nat} (hs : s < K) :
    Calls Tryd.prog 34 #[.pointer (some ⟨nb, 0, none⟩), .int .i64 s] X (BehP X c (es s)) := by
  have hmm := @run_makeMap Tryd.prog
  obtain ⟨vsp, vsc, evs, hss⟩ := h.out.sr
  obtain ⟨pa, ca, eva, hra, -⟩ := h.out.va
  obtain ⟨gs, ep, hgs, -, -, -, -, p3, k3, -, c3, -, r3, -⟩ := hss s hs
  subst ep
  subst evs
  subst eva
  have HRA := Lib.hid hra
  have HR3 := Lib.hid r3
  have htl := h.out.cu.tol s hs
  have HTK : Hid (∀ t, t ∈ gt s → t < K) := Lib.hid fun t ht => ((h.out.cu.gto s hs t).1 ht).1
  have HBI : Hid (∀ r, (∃ t, t ∈ gt s ∧ Bt (A t) r) ↔ Bh c r (es s)) := Lib.hid fun r => behind_iff h.out.cu (fun t r ht => h.out.nd t r ht) hs
  obtain ⟨O, hO⟩ : ∃ O, gt s = O := ⟨_, rfl⟩
  rw [hO] at c3 HR3 htl HTK HBI
  obtain ⟨nl, n0, n1, n2⟩ := h.out.cells
  have HHs := Lib.hid hgs
  clear hss hra r3 hO
  go_enter Tryd.func34, Tryd.ntmps34
  go_upto_region 2 with (fail)
  refine name_world ?_
  intro V1 hV1
  obtain ⟨b, hb⟩ : ∃ b, X.heap.size = b := ⟨_, rfl⟩
  have HB1 : Hid (Below X.heap.size X V1 ∧ ST V1 b 0) := Lib.hid (by rw [hV1, ← hb]; exact ⟨below1 _ _, ST.made X⟩)
  have n1 := (HB1.out.1.cell (p := ⟨nb, 1, none⟩) nl).trans n1
  have c3 := (HB1.out.1.cell (p := ⟨gs, s * 4 + 3, none⟩) hgs).trans c3
  have nl1 := Nat.lt_of_lt_of_le nl HB1.out.1.size
  have hgs1 := Nat.lt_of_lt_of_le hgs HB1.out.1.size
  have HBV := Lib.hid hb
  try rw [hb]
  clear hV1 hb
  go_upto_region 3 with (fail)
  clear n1 c3 n0 n2 hgs hgs1 nl1
  go_loopw [18] (fun a wr => ∃ (i m : Nat), a = .int .i64 i ∧ i ≤ O.length ∧ Hid (Below X.heap.size X wr ∧ ST wr b m ∧ ∀ r, Bt m r ↔ ∃ t, t ∈ O.take i ∧ Bt (A t) r)) (fun a _ => O.length - (intOf a).toNat)
  case atStart => exact ⟨0, 0, rfl, Nat.zero_le _, Lib.hid ⟨HB1.out.1, HB1.out.2, fun r => ⟨fun h => absurd h (bt_zero r), fun ⟨t, ht, _⟩ => by simp at ht⟩⟩⟩
  case round =>
    obtain ⟨wo, rfl⟩ : ∃ wo : World, wo = wr := ⟨_, rfl⟩
    obtain ⟨i, m, rfl, hi, HR⟩ := hrel
    by_cases hlt : i < O.length
    · obtain ⟨t, ht⟩ : ∃ t, O[i]? = some t := ⟨_, List.getElem?_eq_getElem hlt⟩
      obtain ⟨gr, or, ep, -, ir⟩ := (HR3.out.stay HR.out.1) i hlt
      subst ep
      have irv : lv O i = .int .i64 (t : Int) := by simp [lv, ht]
      rw [irv] at ir
      have htK := HTK.out t (List.mem_of_getElem? ht)
      obtain ⟨ga, oa, ep, hga, ia⟩ := (HRA.out.stay HR.out.1) t htK
      subst ep
      simp only [mv] at ia
      have HN := Lib.hid (h.out.stay HR.out.1)
      obtain ⟨nl', n0, n1, n2⟩ := HN.out.cells
      have hbt : b ≠ bs t := by have := (h.out.sa t htK).1.bl; have := HBV.out; omega
      have HJ := Lib.hid (join_c (Lib.hid HR.out.2.1) (Lib.hid (HN.out.sa t htK).1) hbt)
      have HT := Lib.hid ht
      clear irv ht
      go_wp2_with (go_at_call 44; (with_reducible refine HJ.out.mono ?_); rintro e5 w5 ⟨f5, rfl, hf5, hs5, -, hc5⟩; have HJ5 := Lib.hid (And.intro hs5 hc5); clear hf5 hs5 hc5)
      go_roundw
      case rel =>
        refine ⟨i + 1, m ||| A t, by go_num, by omega, Lib.hid ⟨HR.out.1.trans (HJ5.out.2.below HR.out.1.size fun z hz e => by have := HBV.out; omega), HJ5.out.1, fun r => ?_⟩⟩
        rw [bt_or, HR.out.2.2 r, List.take_add_one, HT.out]
        constructor
        · rintro (⟨u, hu, hb⟩ | hb)
          · exact ⟨u, by simp [hu], hb⟩
          · exact ⟨t, by simp, hb⟩
        · rintro ⟨u, hu, hb⟩
          rcases List.mem_append.1 hu with hu | hu
          · exact .inl ⟨u, hu, hb⟩
          · have : u = t := by simpa using hu
            exact .inr (this ▸ hb)
      case measure => (simp [intOf]; try omega)
    · obtain rfl : i = O.length := by omega
      go_wp2
      go_ret
      refine ⟨b, m, rfl, HR.out.2.1, fun r => ?_, Nat.le_of_eq HBV.out, HR.out.1⟩
      rw [HR.out.2.2 r, List.take_length, HBI.out]
end Go.Proofs.YthodpkcjdbkdnaaDoor
namespace Go.Proofs.YthodpkcjdbkdnaaDoor
open Go Go.RowKit Go.Sort Go.Lib Gm

/-- One is taken out. -/
theorem cut_yes {l : List Int} {d : Int} (h : Up l) (hd : d ∈ l) : l.take (l.countP (· < d)) ++ l.drop (l.countP (· < d) + 1) = l.filter fun x => !decide (x = d) := by
  induction l with
  | nil => cases hd
  | cons x r ih =>
    obtain ⟨h1, h2⟩ := List.pairwise_cons.1 h
    rcases List.mem_cons.1 hd with rfl | hm
    · have e1 : (d :: r).countP (· < d) = 0 := by
        rw [List.countP_eq_zero]
        intro a ha
        rcases List.mem_cons.1 ha with rfl | ha
        · simp
        · have := h1 a ha
          simp only [decide_eq_true_eq]
          omega
      have e3 : r.filter (fun y => !decide (y = d)) = r := List.filter_eq_self.2 fun a ha => by
        have := h1 a ha
        simp only [Bool.not_eq_true', decide_eq_false_iff_not]
        omega
      rw [e1, List.filter_cons, if_neg (by simp), e3]
      rfl
    · have hx := h1 d hm
      have e1 : (x :: r).countP (· < d) = r.countP (· < d) + 1 := by
        rw [List.countP_cons, if_pos (by simpa using hx)]
      rw [e1, List.filter_cons, if_pos (by simp only [Bool.not_eq_true', decide_eq_false_iff_not]; omega), ← ih h2 hm]
      rfl
theorem cut_no {l : List Int} {d : Int} (hd : d ∉ l) : l.filter (fun x => !decide (x = d)) = l := List.filter_eq_self.2 fun a ha => by
  simp only [Bool.not_eq_true', decide_eq_false_iff_not]
  rintro rfl
  exact hd ha
/-- The row ahead of an instruction. -/
def abv (x : Ic) (l : List Int) : List Int := (usesM x).foldl insG (l.filter fun t => !decide (t = defM x))
theorem abv_up {x : Ic} {l : List Int} (h : Up l) : Up (abv x l) := (fold_facts _ _ (h.filter _)).1
theorem abv_mem {x : Ic} {l : List Int} (h : Up l) {t : Int} : t ∈ abv x l ↔ t ∈ usesM x ∨ (defM x ≠ t ∧ t ∈ l) := by
  unfold abv
  rw [(fold_facts _ _ (h.filter _)).2.2, List.mem_filter]
  simp only [Bool.not_eq_true', decide_eq_false_iff_not]
  constructor
  · rintro (k | ⟨k, k2⟩)
    · exact .inl k
    · exact .inr ⟨fun e => k2 e.symm, k⟩
  · rintro (k | ⟨k, k2⟩)
    · exact .inl k
    · exact .inr ⟨k2, fun e => k e.symm⟩
theorem abv_len {x : Ic} {l : List Int} (h : Up l) : (abv x l).length ≤ l.length + 3 := by
  have h1 := (fold_facts (usesM x) _ (h.filter fun t => !decide (t = defM x))).2.1
  have h2 := uses_len x
  have h3 := List.length_filter_le (fun t => !decide (t = defM x)) l
  unfold abv
  omega
theorem delete1_own {B : Nat} {w : World} {v : Value} {l : List Int} (h : Rw B w v l) {i : Nat} (hi : i < l.length) :
    Calls Tryd.prog 70 #[v, .int .i64 (i : Int), .int .i64 ((i : Int) + 1)] w (InsP B w v (l.take i ++ l.drop (i + 1))) := by
  rcases h.2 with ⟨rfl, h0⟩ | ⟨g, c0, cur, rfl, hBg, hg, hnc, hcm, hcs, ht⟩
  · omega
  · rw [Nat.mul_one] at ht hcs
    have hH : Holds (Value.int .i64) w g 0 l.toArray := fun j hj => by
      have hj' : j < l.length := by simpa using hj
      refine ⟨?_, frozen_of_row w g _ _ _ hg⟩
      rw [Nat.zero_add, cell_of_row w g j _ _ _ hg]
      have h1 := congrArg (·[j]?) ht
      simp only [List.getElem?_take, List.getElem?_map] at h1
      rw [if_pos hj', List.getElem?_eq_getElem hj'] at h1
      simp only [Option.map_some] at h1
      rw [← Array.getElem?_toList, h1]
      simp [hj']
    have hcon := Tryd.slices_Delete_int g 0 c0 i (i + 1) l w hH hnc (by unfold maxLen at hcm; omega) (by omega) hi
    have e1 : l.length - (i + 1 - i) = (l.take i ++ l.drop (i + 1)).length := by rw [List.length_append, List.length_take, List.length_drop]; omega
    have e2 : ((i + 1 : Nat) : Int) = (i : Int) + 1 := by omega
    rw [e1, e2] at hcon
    obtain ⟨L, hL⟩ : ∃ L, l.take i ++ l.drop (i + 1) = L := ⟨_, rfl⟩
    have hlen : L.length + 1 = l.length := by rw [← hL, List.length_append, List.length_take, List.length_drop]; omega
    rw [hL] at hcon ⊢
    refine hcon.mono ?_
    rintro e w' ⟨rfl, q, rfl⟩
    have e3 : i + 1 - i = 1 := by omega
    rw [e3]
    have hys : (L ++ List.replicate 1 0).length = l.toArray.size := by simp; omega
    have hb := putRow_eq_setCells (Value.int .i64) w g 0 l.toArray (L ++ List.replicate 1 0) q hH hys
    obtain ⟨c2, g2, s2, k2⟩ := heap_setCells_same g 3 ((L ++ List.replicate 1 0).map (Value.int .i64)) 0 (w.drewN q) cur hg
    refine ⟨_, rfl, ?_, ?_⟩
    · rw [hb]
      refine ⟨by simp, .inr ⟨g, c0, c2, rfl, hBg, g2, by omega, hcm, by omega, ?_⟩⟩
      rw [Nat.mul_one]
      apply List.ext_getElem?
      intro j
      rw [List.getElem?_take]
      by_cases hj : j < L.length
      · rw [if_pos hj, Array.getElem?_toList, k2 j (by omega), if_pos ⟨by omega, by rw [List.length_map, hys]; simp; omega⟩, Nat.sub_zero, List.map_append, List.getElem?_append_left (by simpa using hj)]
      · rw [if_neg hj, List.getElem?_eq_none (by simpa using hj)]
    · rw [hb]
      exact Fr.trans (Fr.drewN (Fr.refl (some g) w) q) (grown_setCells g _ _ _)
/-- make([]int, 0, k). -/
theorem make_cap (k : Nat) (hk : k ≤ 10000001) (W : World) : (Instr.makeSlice 36 (.int .i64 0) (.int .i64 (k : Int))).run Tryd.prog W = .ok (.slice (some ⟨W.heap.size, 0, none⟩) 0 k) (W.alloc (.cells (rw_ k fun _ => .int .i64 0).toArray 3)) := by
  obtain ⟨i0, h1, h2, h3, h4⟩ := info_parts info_int
  have hbm : (i0.bytes : Int) * k ≤ 281474976710656 := by rw [h4]; omega
  have := run_makeSlice (P := Tryd.prog) W 36 3 i0 (.int .i64 0) Tryd.underlying36 h1 h2 .i64 .i64 0 k (by omega) (by omega) (Nat.le_trans (by rw [h3]; simp; exact hk) (by decide)) hbm (by omega)
  rw [this, h3, Int.toNat_natCast, Nat.mul_one, made_one (.int .i64 0) rfl k]
  simp
theorem rw_made (k : Nat) (hk : k ≤ 1000000) (W : World) : Rw W.heap.size (W.alloc (.cells (rw_ k fun _ => .int .i64 0).toArray 3)) (.slice (some ⟨W.heap.size, 0, none⟩) 0 k) [] :=
  ⟨by simp, .inr ⟨W.heap.size, k, _, rfl, Nat.le_refl _, heap_alloc_new W _, Nat.zero_le _, by unfold maxLen; omega, by simp [rw_len], by simp⟩⟩
theorem Rw.srcs {B : Nat} {w : World} {v : Value} {l : List Int} (h : Rw B w v l) : ∃ p c, v = .slice p l.length c ∧ Src w p l.length c l := by
  rcases h.open with ⟨rfl, rfl⟩ | ⟨g, cap, rfl, _, _, _, hc⟩
  · exact ⟨none, 0, rfl, .inl ⟨rfl, rfl, rfl, rfl⟩⟩
  · refine ⟨_, cap, rfl, .inr ⟨_, rfl, rfl, fun j u hu => ?_⟩⟩
    rw [addr_off, Nat.zero_add]
    exact hc j u hu
theorem Src.stay {w X : World} {p : Option Addr} {m c : Nat} {l : List Int} (h : Src w p m c l) (hs : ∀ a, p = some a → a.block < w.heap.size) (hb : Below w.heap.size w X) : Src X p m c l := by
  rcases h with h | ⟨ad, rfl, hl, hc⟩
  · exact .inl h
  · refine .inr ⟨ad, rfl, hl, fun j u hu => ?_⟩
    have hab : (ad.add j).block = ad.block := by unfold Addr.add; split <;> rfl
    exact (hb.cell (p := ad.add j) (by rw [hab]; exact hs _ rfl)).trans (hc j u hu)
set_option maxRecDepth 100000 in
set_option maxHeartbeats 8000000 in
theorem above_c {W : World} (E : Hid (En W)) {B0 : Nat} {v : Value} {l : List Int} (hv : Hid (Rw B0 W v l)) (hu : Hid (Up l)) (hl : l.length ≤ 100000) (x : Ic) :
    Calls Tryd.prog 52 #[v, .agg #[.int .i64 x.k, .int .i64 x.o, .int .i64 x.d, .int .i64 x.a, .int .i64 x.b, .int .i64 x.n, .int .i64 x.t]] W (RowP W (abv x l)) := by
  obtain ⟨p, c, rfl, hsrc⟩ := hv.out.srcs
  have hpl : ∀ a, p = some a → a.block < W.heap.size := fun a e => by
    subst e
    exact (hv.out.gv.lt a.block rfl).2
  have HSRC := Lib.hid (And.intro hsrc hpl)
  clear hsrc hpl
  have HUS : Hid (∀ w, Kinds w → Calls Tryd.prog 41 #[.agg #[.int .i64 x.k, .int .i64 x.o, .int .i64 x.d, .int .i64 x.a, .int .i64 x.b, .int .i64 x.n, .int .i64 x.t]] w (RowP w (usesM x))) := Lib.hid fun w T => uses_any x w T
  have HDF : Hid (∀ w, Kinds w → Calls Tryd.prog 43 #[.agg #[.int .i64 x.k, .int .i64 x.o, .int .i64 x.d, .int .i64 x.a, .int .i64 x.b, .int .i64 x.n, .int .i64 x.t]] w fun e w' => e = .returned (.int .i64 (defM x)) ∧ Below w.heap.size w w') := Lib.hid fun w T => def_any x w T
  have hul := uses_len x
  obtain ⟨R, hR⟩ : ∃ k, abv x l = k := ⟨_, rfl⟩
  rw [hR]
  unfold abv at hR
  obtain ⟨u, hu6⟩ : ∃ u, usesM x = u := ⟨_, rfl⟩
  obtain ⟨dm, hdm⟩ : ∃ d, defM x = d := ⟨_, rfl⟩
  rw [hu6] at HUS hul hR
  rw [hdm] at HDF hR
  have HR := Lib.hid hR
  clear hu6 hdm hR
  have hmk := make_cap (l.length + u.length) (by omega)
  rw [Int.natCast_add] at hmk
  go_enter Tryd.func52, Tryd.ntmps52
  go_upto_region 1 with (fail)
  refine name_world ?_
  intro V1 hV1
  obtain ⟨q, hq⟩ : ∃ q, W.heap.size = q := ⟨_, rfl⟩
  have HI : Hid (Ib V1 q (.int .i64 x.k) (.int .i64 x.o) (.int .i64 x.d) (.int .i64 x.a) (.int .i64 x.b) (.int .i64 x.n) (.int .i64 x.t)) := Lib.hid (by rw [hV1]; exact Ib.new hq.symm _ _ _ _ _ _ _)
  have HB1 : Hid (Below W.heap.size W V1) := Lib.hid (by rw [hV1]; exact below1 _ _)
  have HE1 := Lib.hid (E.out.below HB1.out)
  have HQ := Lib.hid hq
  try rw [hq]
  clear hV1 hq
  obtain ⟨bm, y0, y1, y2, y3, y4, y5, y6, -⟩ := HI.out.facts
  go_upto_region 2 with (first
    | (go_at_call 41; (with_reducible refine (HUS.out _ HE1.out.kinds).mono ?_); rintro e6 w6 ⟨v6, rfl, hr6, hb6⟩; obtain ⟨q6, c6, rfl, hv6, -⟩ := GV.rv hr6.gv; have HV6 : Hid (RV w6 q6 u.length (ivl u)) := Lib.hid hv6; have HB6 := Lib.hid (HB1.out.trans (hb6.mono HB1.out.size)); have HI6 := Lib.hid (HI.out.stay hb6); clear hr6 hb6 hv6))
  have HS6 : Hid (Src w6 p l.length c l) := Lib.hid (HSRC.out.1.stay HSRC.out.2 HB6.out)
  clear bm y0 y1 y2 y3 y4 y5 y6
  obtain ⟨i0, hi, hz0, hz1, hz2⟩ := info_parts info_int
  go_upto_region 3 with (at_builtin; refine wpList_app_sl rfl (.tmp 20) (.tmp 21) _ rfl i0 Tryd.underlying36 hi hz0 hz1 hz2 rfl (rw_made (l.length + u.length) (by omega) w6) rfl (HS6.out.stay (fun a e => Nat.lt_of_lt_of_le (HSRC.out.2 a e) HB6.out.size) (below1 _ _)) (by simp; omega) (by simp) ?_; intro q7 k7 c7 w7 hk7 hrow7 hb7; have HR7 : Hid (Rw w6.heap.size w7 (.slice q7 k7 c7) l) := Lib.hid (by simpa using hrow7); have HB7 : Hid (Below w6.heap.size w6 w7) := Lib.hid ((below1 _ _).trans hb7); clear hrow7 hb7)
  have hk : k7 = l.length := by simpa using hk7
  subst hk
  have HI7 := Lib.hid (HI6.out.stay (HB7.out.mono (Nat.le_refl _)))
  have HE7 : Hid (En w7) := Lib.hid (E.out.below (HB6.out.trans (HB7.out.mono HB6.out.size)))
  obtain ⟨bm, y0, y1, y2, y3, y4, y5, y6, -⟩ := HI7.out.facts
  obtain ⟨n, hn⟩ : ∃ n, l.countP (· < dm) = n := ⟨_, rfl⟩
  have hnl : n ≤ l.length := by rw [← hn]; exact List.countP_le_length
  obtain ⟨cb, hcb⟩ : ∃ b, l.contains dm = b := ⟨_, rfl⟩
  have HSE : Hid (∀ X, Rw w6.heap.size X (.slice q7 l.length c7) l → Calls Tryd.prog 69 #[.slice q7 l.length c7, .int .i64 dm] X fun e w' => e = .returned (.tuple #[.int .i64 (n : Int), .bool cb]) ∧ ∃ q, w' = X.drewN q) := Lib.hid fun X h => by
    have := search_own dm h hu.out (by omega)
    rw [hn, hcb] at this
    exact this
  have HCB := Lib.hid (And.intro hn hcb)
  clear hn hcb hk7
  obtain ⟨L0, hL0⟩ : ∃ L, (l.filter fun t => !decide (t = dm)) = L := ⟨_, rfl⟩
  have HL0 : Hid (Up L0 ∧ L0.length ≤ l.length ∧ u.foldl insG L0 = R ∧ (cb = true → l.take n ++ l.drop (n + 1) = L0) ∧ (cb = false → l = L0) ∧ (cb = true → n < l.length)) := Lib.hid (by
    rw [← hL0]
    refine ⟨hu.out.filter _, List.length_filter_le _ _, HR.out, fun h => ?_, fun h => ?_, fun h => ?_⟩
    · rw [← HCB.out.1]
      rw [← HCB.out.2] at h
      exact cut_yes hu.out (by simpa using h)
    · rw [← HCB.out.2] at h
      exact (cut_no (by simpa using h)).symm
    · have h5 := congrArg List.length (cut_yes hu.out (d := dm) (by rw [← HCB.out.2] at h; simpa using h))
      have h6 : (l.filter fun t => !decide (t = dm)).length < l.length := by
        refine Nat.lt_of_le_of_ne (List.length_filter_le _ _) fun e => ?_
        have h7 := List.length_filter_eq_length_iff.1 e dm (by rw [← HCB.out.2] at h; simpa using h)
        simp at h7
      rw [List.length_append, List.length_take, List.length_drop, HCB.out.1] at h5
      omega)
  clear hL0
  go_upto_region 4 with (first
    | (go_at_call 43; (with_reducible refine (HDF.out _ HE7.out.kinds).mono ?_); rintro e8 w8 ⟨rfl, hb8⟩; have HB8 := Lib.hid hb8; have HR8 := Lib.hid (HR7.out.stay hb8); clear hb8)
    | (go_at_call 69; (with_reducible refine (HSE.out _ HR8.out).mono ?_); rintro e9 w9 ⟨rfl, nq, rfl⟩))
  go_upto_if 30 with (fail)
  go_cut [6] from 31 to 35 (fun a wx => ∃ v', v' = a ∧ Hid (Rw w6.heap.size wx v' L0 ∧ Below w6.heap.size w6 wx))
  case first =>
    have HBc : Hid (Below w6.heap.size w6 (w8.drewN nq)) := Lib.hid (below_like (HB7.out.trans (HB8.out.mono HB7.out.size)) rfl rfl rfl rfl)
    have HRc : Hid (Rw w6.heap.size (w8.drewN nq) (.slice q7 l.length c7) l) := Lib.hid (HR8.out.drewN nq)
    cases cb with
    | false =>
      go_wp2_with fail
      go_meet
      case rel =>
        have e := HL0.out.2.2.2.2.1 (by first | trivial | rfl)
        exact ⟨_, rfl, Lib.hid ⟨by have := HRc.out; rw [← e]; exact this, HBc.out⟩⟩
    | true =>
      have e := HL0.out.2.2.2.1 (by first | trivial | rfl)
      have hnlt := HL0.out.2.2.2.2.2 (by first | trivial | rfl)
      have HDE := Lib.hid (delete1_own HRc.out hnlt)
      rw [e] at HDE
      go_wp2_with (go_at_call 70; (with_reducible refine HDE.out.mono ?_); rintro e5 w5 ⟨v5, rfl, hr5, hg5⟩; have HR5 := Lib.hid hr5; have HG5 := Lib.hid hg5; clear hr5 hg5)
      go_meet
      case rel => exact ⟨v5, rfl, Lib.hid ⟨HR5.out, HBc.out.grown HG5.out HBc.out.size (fun b e => (HRc.out.gv.lt b e).1)⟩⟩
  case rest =>
    obtain ⟨v', rfl, HC⟩ := hcut
    have hl0 := HL0.out.2.1
    have HV : Hid (∀ X, Below w6.heap.size w6 X → RV X q6 u.length (ivl u)) := Lib.hid fun X hX => HV6.out.stay hX
    clear bm y0 y1 y2 y3 y4 y5 y6 hmk
    go_upto_region 7 with (fail)
    go_loopw [6, 38] (fun a6 a38 wr => ∃ (i : Nat) (z : Value), z = a6 ∧ a38 = .int .i64 i ∧ i ≤ u.length ∧ Hid (Rw w6.heap.size wr z ((u.take i).foldl insG L0) ∧ Below w6.heap.size w6 wr)) (fun _ a38 _ => u.length - (intOf a38).toNat)
    case atStart => exact ⟨0, _, rfl, rfl, Nat.zero_le _, HC⟩
    case round =>
      obtain ⟨wo, rfl⟩ : ∃ wo : World, wo = wr := ⟨_, rfl⟩
      obtain ⟨i, z, rfl, rfl, hi', HK⟩ := hrel
      by_cases hlt : i < u.length
      · obtain ⟨r, hr⟩ : ∃ r, u[i]? = some r := ⟨_, List.getElem?_eq_getElem hlt⟩
        obtain ⟨gu, ou, rfl, -, iu⟩ := HV.out wo HK.out.2 i hlt
        have ie : ivl u i = .int .i64 r := by simp [ivl, List.getD_eq_getElem?_getD, hr]
        rw [ie] at iu
        have hff := fold_facts (u.take i) L0 HL0.out.1
        have hnx : (u.take (i + 1)).foldl insG L0 = insG ((u.take i).foldl insG L0) r := by
          rw [List.take_add_one, hr, List.foldl_append]
          rfl
        obtain ⟨Li, hLi⟩ : ∃ L, (u.take i).foldl insG L0 = L := ⟨_, rfl⟩
        rw [hLi] at hff hnx HK
        have hLl : Li.length ≤ 100010 := by
          have := hff.2.1
          rw [List.length_take] at this
          omega
        rw [insG_at hff.1] at hnx
        have HNX := Lib.hid hnx
        have HUp := Lib.hid hff.1
        clear ie hr hff hLi hnx
        have hcp : Li.countP (· < r) ≤ Li.length := List.countP_le_length
        obtain ⟨m, hm⟩ : ∃ m, Li.countP (· < r) = m := ⟨_, rfl⟩
        rw [hm] at hcp HNX
        cases hq : Li.contains r
        · have HN2 : Hid ((u.take (i + 1)).foldl insG L0 = Li.take m ++ r :: Li.drop m) := Lib.hid (by rw [HNX.out, hq]; rfl)
          have HSE2 : Hid (∀ X, Rw w6.heap.size X z Li → Calls Tryd.prog 69 #[z, .int .i64 r] X fun e w' => e = .returned (.tuple #[.int .i64 (m : Int), .bool false]) ∧ ∃ q, w' = X.drewN q) := Lib.hid fun X h => by
            have := search_own r h HUp.out (by omega)
            rw [hm, hq] at this
            exact this
          clear hm hq HNX
          go_wp2_with (first
            | (go_at_call 69; (with_reducible refine (HSE2.out _ HK.out.1).mono ?_); rintro e1 w1 ⟨rfl, nq, rfl⟩)
            | (go_at_call 71; refine (insert_own m r _ ((HK.out.1.alloc _).drewN nq) hcp (by omega) (heap_alloc_new _ _) HK.out.1.old (by have := HK.out.2.size; simp; omega)).mono ?_; rintro e2 w2 ⟨v'', rfl, hr2, hg2⟩; have HR2 := Lib.hid hr2; have HG2 := Lib.hid hg2; clear hr2 hg2))
          go_roundw
          case rel =>
            refine ⟨i + 1, v'', rfl, by go_num, by omega, Lib.hid ⟨by rw [HN2.out]; exact HR2.out, ?_⟩⟩
            exact ((below_drewN (HK.out.2.alloc (by have := HK.out.2.size; omega) _) nq).grown HG2.out (by have := HK.out.2.size; simp; omega) (fun j hj => (World.ownsRow.lt HK.out.1 j hj).1))
          case measure => (simp [intOf]; try omega)
        · have HN2 : Hid ((u.take (i + 1)).foldl insG L0 = Li) := Lib.hid (by rw [HNX.out, hq]; rfl)
          have HSE2 : Hid (∀ X, Rw w6.heap.size X z Li → Calls Tryd.prog 69 #[z, .int .i64 r] X fun e w' => e = .returned (.tuple #[.int .i64 (m : Int), .bool true]) ∧ ∃ q, w' = X.drewN q) := Lib.hid fun X h => by
            have := search_own r h HUp.out (by omega)
            rw [hm, hq] at this
            exact this
          clear hm hq HNX
          go_wp2_with (first
            | (go_at_call 69; (with_reducible refine (HSE2.out _ HK.out.1).mono ?_); rintro e1 w1 ⟨rfl, nq, rfl⟩))
          go_roundw
          case rel => exact ⟨i + 1, z, rfl, by go_num, by omega, Lib.hid ⟨by rw [HN2.out]; exact HK.out.1, below_drewN HK.out.2 nq⟩⟩
          case measure => (simp [intOf]; try omega)
      · obtain rfl : i = u.length := by omega
        go_wp2
        go_ret
        have h1 := HK.out.1
        rw [List.take_length, HL0.out.2.2.1] at h1
        exact ⟨z, rfl, h1.mono HB6.out.size, HB6.out.trans (HK.out.2.mono HB6.out.size)⟩
end Go.Proofs.YthodpkcjdbkdnaaDoor
namespace Go.Proofs.YthodpkcjdbkdnaaDoor
open Go Go.RowKit Gm

/-- A rising row of what holds, in memory of its own. -/
def RowT (lo : Nat) (X : World) (v : Value) (T : Int → Prop) : Prop := ∃ L : List Int, Rw lo X v L ∧ Up L ∧ L.length ≤ 64 ∧ ∀ r, r ∈ L ↔ T r
theorem Rw.heap {B : Nat} {W X : World} {v : Value} {l : List Int} (h : Rw B W v l) (e : ∀ g, v.ownBlock = some g → X.heap[g]? = W.heap[g]?) : Rw B X v l := by
  refine ⟨h.1, ?_⟩
  rcases h.2 with h0 | ⟨g, cap, cur, rfl, hB, hg, r⟩
  · exact .inl h0
  · exact .inr ⟨g, cap, cur, rfl, hB, (e g rfl).trans hg, r⟩
theorem RowT.far {lo : Nat} {X Y : World} {v : Value} {T : Int → Prop} (h : RowT lo X v T) {S : Nat → Prop} (hc : Ch S X Y) (hn : ∀ z, S z → z < lo) : RowT lo Y v T := by
  obtain ⟨L, h1, h2⟩ := h
  exact ⟨L, h1.heap fun g e => hc.block g (h1.gv.lt g e).2 fun e2 => (by have := hn g e2; have := (h1.gv.lt g e).1; omega), h2⟩
theorem RowT.nri {lo : Nat} {X : World} {v : Value} {T : Int → Prop} (h : RowT lo X v T) : NRI X v T := by
  obtain ⟨L, h1, h2, h3, h4⟩ := h
  obtain ⟨p, cap, e, h5, -⟩ := h1.gv.rv
  exact ⟨L, ⟨p, cap, e, h5⟩, by omega, h2, h4⟩
theorem up_len64 {L : List Int} (h : Up L) (hb : ∀ r, r ∈ L → 0 ≤ r ∧ r < 64) : L.length ≤ 64 := by
  have h1 : (L.map Int.toNat).Nodup := by
    rw [List.nodup_iff_pairwise_ne, List.pairwise_map]
    exact h.imp_of_mem fun {a b} ha hb' hab e => by
      have := hb a ha
      have := hb b hb'
      omega
  have := nodup_len (n := 64) h1 fun x hx => by
    obtain ⟨r, hr, rfl⟩ := List.mem_map.1 hx
    have := hb r hr
    omega
  simpa using this
theorem rg_sm {c : List Ic} (hs : Sm c) {r : Int} (h : Rg c r) : 0 ≤ r ∧ r < 64 := by
  obtain ⟨i, x, hx, h⟩ := h
  rcases h with h | ⟨h, h0⟩
  · exact uses_sm (hs i x hx) h
  · exact ⟨h0, by have := def_sm (hs i x hx); omega⟩
/-- What a told place's row holds. -/
def Tl (sel : Bool) (c : List Ic) (i : Nat) (r : Int) : Prop := if sel then Nd c r i else Bh c r i
/-- The rows that are told. -/
structure Td (sel : Bool) (V0 X wr : World) (c : List Ic) (lo b : Nat) (F : Nat → Value) (D : Nat → Prop) : Prop where
  bel : Below V0.heap.size V0 wr
  ch : Ch (fun z => z = b) X wr
  fv : FV 36 wr b c.length F
  rw : ∀ i, i < c.length → D i → RowT lo wr (F i) (Tl sel c i)
section
variable {sel : Bool} {V0 X wr Y : World} {c : List Ic} {lo b : Nat} {F : Nat → Value} {D D' : Nat → Prop}
theorem Td.stay (h : Td sel V0 X wr c lo b F D) (hb : Below wr.heap.size wr Y) : Td sel V0 X Y c lo b F D :=
  ⟨h.bel.trans (hb.mono h.bel.size), h.ch.stepB hb, h.fv.stay hb, fun i hi hd => (h.rw i hi hd).far (S := fun _ => False) ⟨hb.os, hb.tape, hb.output, hb.size, fun k hk _ => hb.block k hk⟩ fun _ => False.elim⟩
theorem Td.to (h : Td sel V0 X wr c lo b F D) (e : ∀ i, D' i → D i) : Td sel V0 X wr c lo b F D' := ⟨h.bel, h.ch, h.fv, fun i hi hd => h.rw i hi (e i hd)⟩
theorem Td.set (h : Td sel V0 X wr c lo b F D) (hb : V0.heap.size ≤ b) (hlo : b < lo) {i : Nat} {v : Value} (hv : RowT lo wr v (Tl sel c i)) : Td sel V0 X (wr.setCell ⟨b, i, none⟩ v) c lo b (upd F i v) (fun z => z = i ∨ D z) := by
  have hc : Ch (fun z => z = b) wr (wr.setCell ⟨b, i, none⟩ v) := (Ch.refl (fun z => z = b) wr).set (b := b) (.inl rfl) i v
  refine ⟨h.bel.setCell (p := ⟨b, i, none⟩) hb _, h.ch.set (b := b) (.inl rfl) i v, h.fv.set i v, fun z hz hd => ?_⟩
  by_cases e : z = i
  · subst e
    rw [upd_at]
    exact hv.far hc fun z e => by omega
  · rw [upd_of e]
    exact (h.rw z hz (hd.resolve_left e)).far hc fun z e => by omega
end
/-- A call of the function that is told. -/
def TellOk (g : Nat) (sel : Bool) (b bl n : Nat) : Prop := ∀ (X : World) (F : Nat → Value) (i : Nat) (pa pb : Option Addr) (ka ca kb cb : Nat), FV 36 X b n F → X.cell? ⟨bl, 0, none⟩ = some (.slice (some ⟨b, 0, none⟩) n n) → i < n →
  Calls Tryd.prog g #[.int .i64 (i : Int), .slice pa ka ca, .slice pb kb cb, .pointer (some ⟨bl, 0, none⟩)] X fun e w' => e = .returned (.tuple #[]) ∧ w' = X.setCell ⟨b, i, none⟩ (if sel then .slice pa ka ca else .slice pb kb cb)
set_option maxRecDepth 100000 in
theorem tellA (b bl n : Nat) : TellOk 31 true b bl n := fun X F i pa pb ka ca kb cb hf hb hi => by
  have i1 := hf.cell hi
  have f1 := hf.frozen i
  go_enter Tryd.func31, Tryd.ntmps31
  go_wp2
  go_end0
  exact ⟨rfl, rfl⟩
set_option maxRecDepth 100000 in
theorem tellB (b bl n : Nat) : TellOk 33 false b bl n := fun X F i pa pb ka ca kb cb hf hb hi => by
  have i1 := hf.cell hi
  have f1 := hf.frozen i
  go_enter Tryd.func33, Tryd.ntmps33
  go_wp2
  go_end0
  exact ⟨rfl, rfl⟩
set_option maxRecDepth 100000 in
set_option maxHeartbeats 8000000 in
theorem each_c {g : Nat} {sel : Bool} {V0 X : World} {nb : Nat} {p : Option Addr} {cap : Nat} {c : List Ic} {K : Nat} {fs es : Nat → Nat} {gt gf : Nat → List Nat} {vs va : Value} {bs A : Nat → Nat} {b bl : Nat} {F0 : Nat → Value} {lo : Nat}
    (hg : ∀ args w, (callFunc g args).run Tryd.prog w = .ok (.enter g args) w) (hT : Hid (TellOk g sel b bl c.length)) (h : Hid (Nds lo X nb p cap c K fs es gt gf vs va bs A)) (hc : Hid (CodeAt V0 p c)) (E : Hid (En V0)) (hsm : Hid (Sm c)) (hn : c.length ≤ 100000)
    (h0 : Hid (Td sel V0 X X c lo b F0 fun _ => False)) (hl : Hid (X.heap[bl]? = some (.cells #[.slice (some ⟨b, 0, none⟩) c.length c.length] 33 (0, 0)))) (hlo : V0.heap.size ≤ b ∧ b < lo ∧ lo ≤ X.heap.size ∧ bl < lo ∧ bl ≠ b) :
    Calls Tryd.prog 30 #[.pointer (some ⟨nb, 0, none⟩), .func (.func g) #[] #[.pointer (some ⟨bl, 0, none⟩)]] X fun e w' => e = .returned (.tuple #[]) ∧ ∃ F, Td sel V0 X w' c lo b F fun _ => True := by
  obtain ⟨vsp, vsc, evs, hss⟩ := h.out.sr
  subst evs
  obtain ⟨nl, n0, n1, n2⟩ := h.out.cells
  have HSS := Lib.hid hss
  go_enter Tryd.func30, Tryd.ntmps30
  go_upto_region 1 with (fail)
  clear n0 n1 n2 nl hss
  go_loopw [14] (fun a wr => ∃ (s : Nat) (F : Nat → Value), a = .int .i64 s ∧ s ≤ K ∧ Hid (Td sel V0 X wr c lo b F fun i => ∃ t, t < s ∧ fs t ≤ i ∧ i ≤ es t)) (fun a _ => K - (intOf a).toNat)
  case atStart => exact ⟨0, F0, rfl, Nat.zero_le _, Lib.hid (h0.out.to fun i ⟨t, ht, _⟩ => by omega)⟩
  case round =>
    obtain ⟨wo, rfl⟩ : ∃ wo : World, wo = wr := ⟨_, rfl⟩
    obtain ⟨s, F, rfl, hs, HR⟩ := hrel
    have hKl := h.out.kl
    by_cases hsK : s < K
    · have hle := h.out.cu.le hsK
      have hN := h.out.far HR.out.ch fun z e => by omega
      obtain ⟨_, _, e', hss⟩ := hN.sr
      cases e'
      obtain ⟨gs, ep, hgs, c0, c1, p2, k2, p3, k3, c2, c3, -⟩ := hss s hsK
      subst ep
      have HN := Lib.hid hN
      clear hN hss
      go_upto_region 3 with (fail)
      refine name_world ?_
      intro V3 hV3
      obtain ⟨m, hm⟩ : ∃ m, wo.heap.size = m := ⟨_, rfl⟩
      have HB3 : Hid (Below wo.heap.size wo V3) := Lib.hid (by rw [hV3]; exact below1 _ _)
      have HX3 : Hid (V3.heap[m]? = some (.cells #[.int .i64 (fs s : Int), .int .i64 (es s : Int), .slice p2 (gf s).length k2, .slice p3 (gt s).length k3] 62 (0, 0))) := Lib.hid (by rw [hV3, ← hm]; exact heap_alloc_new wo _)
      have HN3 := Lib.hid (HN.out.stay HB3.out)
      have HR3 := Lib.hid (HR.out.stay HB3.out)
      have HBE := Lib.hid (behind1_c HN3 hsK)
      have hml : lo ≤ m := by have := HR.out.ch.size; omega
      have HM := Lib.hid hm
      try rw [hm]
      clear hV3 hm c0 c1 c2 c3
      have HE3 : Hid (En V3) := Lib.hid (E.out.below HR3.out.bel)
      go_upto_region 4 with (first
        | (go_at_call 34; (with_reducible refine HBE.out.mono ?_); rintro e5 w5 ⟨b5, m5, rfl, hs5, hm5, hl5, hb5⟩; have HV5 := Lib.hid (And.intro hs5 (And.intro hm5 (And.intro hl5 hb5))); have HRI := Lib.hid (rising_c (Lib.hid (HE3.out.below hb5)) (Lib.hid hs5)); clear hs5 hm5 hl5 hb5)
        | (go_at_call 45; (with_reducible refine HRI.out.mono ?_); rintro e6 w6 ⟨v6, rfl, hr6, hb6⟩; have HV6 := Lib.hid (And.intro hr6 hb6); clear hr6 hb6; obtain ⟨q6, c6, rfl, -⟩ := HV6.out.1.gv.open))
      have hb36 : Below V3.heap.size V3 w6 := HV5.out.2.2.2.trans (HV6.out.2.mono HV5.out.2.2.2.size)
      have hs3 : m < V3.heap.size := (Array.getElem?_eq_some_iff.1 HX3.out).1
      have HX6 := Lib.hid ((hb36.block m hs3).trans HX3.out)
      have HR6 := Lib.hid (HR3.out.stay hb36)
      have hrow : RowT lo w6 (.slice q6 (rowM m5).length c6) (fun r => Bh c r (es s)) := ⟨rowM m5, HV6.out.1.mono (by have := HV5.out.2.2.2.size; omega), rowM_up m5, rowM_len m5, fun r => (rowM_mem HV5.out.1.lt).trans (HV5.out.2.1 r)⟩
      have HROW := Lib.hid hrow
      have bx1 : w6.cell? ⟨m, 1, none⟩ = some (.int .i64 (es s : Int)) := by rw [cell_of_row _ _ _ _ _ _ HX6.out]; rfl
      clear hb36 hs3 hrow
      go_upto_region 5 with (fail)
      clear bx1
      go_loopw [6, 7] (fun a6 a7 wr => ∃ (j : Nat) (F : Nat → Value) (vb : Value), vb = a6 ∧ a7 = .int .i64 ((j : Int) - 1) ∧ fs s ≤ j ∧ j ≤ es s + 1 ∧ Hid (Td sel V0 X wr c lo b F (fun i => (∃ t, t < s ∧ fs t ≤ i ∧ i ≤ es t) ∨ (j ≤ i ∧ i ≤ es s)) ∧ wr.heap[m]? = w6.heap[m]? ∧ (fs s < j → RowT lo wr vb fun r => Bh c r (j - 1)))) (fun _ a7 _ => (intOf a7 + 1).toNat)
      case atStart => exact ⟨es s + 1, F, _, rfl, by simp, by omega, by omega, Lib.hid ⟨HR6.out.to fun i hi => hi.resolve_right (by omega), rfl, fun _ => HROW.out⟩⟩
      case round =>
        clear HROW HR6 HR3 HRI HBE
        obtain ⟨wi, rfl⟩ : ∃ wo : World, wo = wr := ⟨_, rfl⟩
        obtain ⟨j, F, vb, rfl, rfl, hj1, hj2, HI⟩ := hrel
        have hxm := HI.out.2.1.trans HX6.out
        have bx0 : wi.cell? ⟨m, 0, none⟩ = some (.int .i64 (fs s : Int)) := by rw [cell_of_row _ _ _ _ _ _ hxm]; rfl
        have hmi : m < wi.heap.size := (Array.getElem?_eq_some_iff.1 hxm).1
        clear hxm
        by_cases hlt : fs s < j
        · obtain ⟨i, rfl⟩ : ∃ i, j = i + 1 := ⟨j - 1, by omega⟩
          obtain ⟨x, hx⟩ : ∃ x, c[i]? = some x := ⟨_, List.getElem?_eq_getElem (by omega)⟩
          have hil : i < c.length := by omega
          obtain ⟨gc, oc, ep, hgc, hat7, hok⟩ := (hc.out.stay HI.out.1.bel) i x hx
          have k0 := hat7.k
          have k1 := hat7.o
          have k2' := hat7.d
          have k3' := hat7.a
          have k4 := hat7.b
          have k5 := hat7.n
          have k6 := hat7.t
          obtain ⟨L, hrw, hup, hll, hmem⟩ := HI.out.2.2 hlt
          rw [Nat.add_sub_cancel] at hmem
          have HNi := Lib.hid (h.out.far HI.out.1.ch fun z e => by omega)
          obtain ⟨nl, n0, n1, n2⟩ := HNi.out.cells
          have HEi : Hid (En wi) := Lib.hid (E.out.below HI.out.1.bel)
          have HAB := Lib.hid (above_c HEi (Lib.hid hrw) (Lib.hid hup) (by omega) x)
          obtain ⟨pv, cv, ev, -⟩ := hrw.gv.open
          have HX := Lib.hid (And.intro hx (And.intro hup hmem))
          have hap : ∀ r, r ∈ abv x L ↔ Nd c r i := fun r => by rw [abv_mem hup, Nd.iff hx, hmem]
          have HAP := Lib.hid hap
          have HAL := Lib.hid (up_len64 (abv_up (x := x) hup) fun r hr => rg_sm hsm.out ((hap r).1 hr).rg)
          have HAU := Lib.hid (abv_up (x := x) hup)
          subst ev
          subst ep
          have HRB := Lib.hid hrw
          clear hat7 hok hx hrw hup hll hmem hap
          obtain ⟨R, hR⟩ : ∃ R, abv x L = R := ⟨_, rfl⟩
          rw [hR] at HAB HAP HAL HAU
          clear hR
          go_upto_region 8 with (go_at_call 52; (with_reducible refine HAB.out.mono ?_); rintro e8 w8 ⟨v8, rfl, hr8, hb8⟩; have HV8 := Lib.hid (And.intro hr8 hb8); clear hr8 hb8; obtain ⟨q8, c8, rfl, -⟩ := HV8.out.1.gv.open)
          have HT8 := Lib.hid (HI.out.1.stay HV8.out.2)
          have hbl8 : w8.heap[bl]? = some (.cells #[.slice (some ⟨b, 0, none⟩) c.length c.length] 33 (0, 0)) := (HT8.out.ch.block bl (by omega) hlo.2.2.2.2).trans hl.out
          have HTE := Lib.hid (hT.out w8 F i q8 pv R.length c8 L.length cv HT8.out.fv (by rw [cell_of_row _ _ _ _ _ _ hbl8]; rfl) hil)
          have HR8 : Hid (RowT lo w8 (.slice q8 R.length c8) fun r => Nd c r i) := Lib.hid ⟨R, HV8.out.1.mono (by omega), HAU.out, HAL.out, HAP.out⟩
          have HRv : Hid (RowT lo w8 (.slice pv L.length cv) fun r => Bh c r i) := Lib.hid ((HI.out.2.2 hlt).far (S := fun _ => False) ⟨HV8.out.2.os, HV8.out.2.tape, HV8.out.2.output, HV8.out.2.size, fun k hk _ => HV8.out.2.block k hk⟩ fun _ => False.elim)
          have hm8 : w8.heap[m]? = w6.heap[m]? := (HV8.out.2.block m hmi).trans HI.out.2.1
          have HM8 := Lib.hid hm8
          clear k0 k1 k2' k3' k4 k5 k6 nl n0 n1 n2 hbl8 hm8 bx0
          go_wp2_with ((with_reducible refine HTE.out.mono ?_); rintro e9 w9 ⟨rfl, rfl⟩)
          go_roundw
          case rel =>
            have hnb : m ≠ b := by omega
            have hset := HT8.out.set hlo.1 hlo.2.1 (i := i) (v := if sel then .slice q8 R.length c8 else .slice pv L.length cv) (by
              unfold Tl
              cases sel
              · exact HRv.out
              · exact HR8.out)
            refine ⟨i, _, .slice q8 R.length c8, rfl, by first | go_num | (simp; try omega), by omega, by omega, Lib.hid ⟨hset.to fun z hz => ?_, (heap_setCell_other w8 ⟨b, i, none⟩ m _ hnb).trans HM8.out, fun hfi => ?_⟩⟩
            · rcases hz with hz | ⟨h1, h2⟩
              · exact .inr (.inl hz)
              · by_cases e : z = i
                · exact .inl e
                · exact .inr (.inr ⟨by omega, h2⟩)
            · have h5 := HR8.out.far (Y := w8.setCell ⟨b, i, none⟩ (if sel then .slice q8 R.length c8 else .slice pv L.length cv)) ((Ch.refl (fun z => z = b) w8).set (b := b) (.inl rfl) i _) fun z e => by omega
              obtain ⟨L5, a1, a2, a3, a4⟩ := h5
              refine ⟨L5, a1, a2, a3, fun r => (a4 r).trans ?_⟩
              show Nd c r i ↔ Bh c r (i - 1)
              rw [h.out.cu.bh_in hsK (show fs s ≤ i - 1 by omega) (by omega), show i - 1 + 1 = i by omega]
          case measure => (simp [intOf]; try omega)
        · obtain rfl : j = fs s := by omega
          go_wp2
          go_roundw
          case rel => exact ⟨s + 1, F, by go_num, by omega, Lib.hid (HI.out.1.to fun i ⟨t, ht, h1, h2⟩ => by
            by_cases e : t = s
            · subst e; exact .inr ⟨h1, h2⟩
            · exact .inl ⟨t, by omega, h1, h2⟩)⟩
          case measure => (simp [intOf]; try omega)
    · obtain rfl : s = K := by omega
      go_wp2
      go_end0
      refine ⟨rfl, F, HR.out.bel, HR.out.ch, HR.out.fv, fun i hi _ => HR.out.rw i hi ?_⟩
      obtain ⟨of, hcut⟩ := h.out.cu.cuts
      obtain ⟨h1, h2, h3⟩ := hcut.ofl i hi
      exact ⟨of i, h1, h2, h3⟩
def AheP (sel : Bool) (W : World) (c : List Ic) (e : Ending) (w' : World) : Prop := ∃ v, e = .returned v ∧ Rows2 w' v c.length (fun X i u => NRI X u (Tl sel c i)) ∧ Below W.heap.size W w'
set_option maxRecDepth 100000 in
set_option maxHeartbeats 4000000 in
theorem lahead_c {W : World} {p : Option Addr} {cap : Nat} {c : List Ic} (hc : Hid (CodeAt W p c)) (E : Hid (En W)) (hsm : Hid (Sm c)) (hn : c.length ≤ 50000) : Calls Tryd.prog 12 #[.slice p c.length cap] W (AheP true W c) := by
  have hmk := make_ii c.length (by omega)
  have eg : ∀ args w, (callFunc 31 args).run Tryd.prog w = .ok (.enter 31 args) w := enters_of Tryd.func31 (by kernel_rfl) rfl
  go_enter Tryd.func12, Tryd.ntmps12
  go_upto_region 2 with (fail)
  refine name_world ?_
  intro V1 hV1
  obtain ⟨b, hb⟩ : ∃ b, W.heap.size = b := ⟨_, rfl⟩
  have HV1 : Hid (Below W.heap.size W V1 ∧ FV 36 V1 b c.length (fun _ => .slice none 0 0) ∧ V1.heap[b + 1]? = some (.cells #[.slice (some ⟨b, 0, none⟩) c.length c.length] 33 (0, 0)) ∧ V1.heap.size = b + 2) := Lib.hid (by
    rw [hV1, ← hb]
    refine ⟨(below1 W _).alloc (by simp) _, (FV.new rfl (by simp)).alloc _, ?_, by simp⟩
    have := heap_alloc_new (W.alloc (.cells (rw_ c.length fun _ => .slice none 0 0).toArray 36)) (.cells #[.slice (some ⟨W.heap.size, 0, none⟩) c.length c.length] 33)
    simpa using this)
  have HB := Lib.hid hb
  try rw [hb]
  clear hV1 hb hmk
  have HC1 := Lib.hid (hc.out.stay HV1.out.1)
  have HE1 := Lib.hid (E.out.below HV1.out.1)
  have HND := Lib.hid (needs_c (cap := cap) HC1 HE1 hsm hn)
  go_upto_region 3 with (first
    | (go_at_call 26; (with_reducible refine HND.out.mono ?_); rintro e3 w3 ⟨nb, K, fs, es, gt, gf, vs, va, bs, A, rfl, hnd, hb3⟩; have HN3 := Lib.hid hnd; have HB3 := Lib.hid hb3; have hl3 := (hb3.block (b + 1) (by have := HV1.out.2.2.2; omega)).trans HV1.out.2.2.1; have HL3 := Lib.hid hl3; have HT3 : Hid (Td true W w3 w3 c V1.heap.size b (fun _ => .slice none 0 0) fun _ => False) := Lib.hid ⟨HV1.out.1.trans (hb3.mono HV1.out.1.size), Ch.refl _ _, HV1.out.2.1.stay hb3, fun i hi h => h.elim⟩; have HEA := Lib.hid (each_c eg (Lib.hid (tellA b (b + 1) c.length)) HN3 hc E hsm (by omega) HT3 HL3 (by have h1 := HV1.out.2.2.2; have h2 := HV1.out.1.size; have h3 := HB.out; have h4 := hb3.size; omega)); clear hnd hb3 hl3)
    | (go_at_call 30; (with_reducible refine HEA.out.mono ?_); rintro e5 w5 ⟨rfl, F5, h5⟩; have HT5 := Lib.hid h5; clear h5))
  have hbb : (b + 1 : Nat) ≠ b := by omega
  have hl5 : w5.heap[b + 1]? = some (.cells #[.slice (some ⟨b, 0, none⟩) c.length c.length] 33 (0, 0)) := (HT5.out.ch.block (b + 1) (by have h1 := HV1.out.2.2.2; have h2 := HB3.out.size; omega) hbb).trans HL3.out
  have i5 : w5.cell? ⟨b + 1, 0, none⟩ = some (.slice (some ⟨b, 0, none⟩) c.length c.length) := by rw [cell_of_row _ _ _ _ _ _ hl5]; rfl
  clear hl5
  go_wp2
  go_ret
  exact ⟨_, rfl, ⟨_, _, F5, rfl, HT5.out.fv.rv, fun i hi => (HT5.out.rw i hi trivial).nri⟩, HT5.out.bel⟩
set_option maxRecDepth 100000 in
set_option maxHeartbeats 4000000 in
theorem lbehind_c {W : World} {p : Option Addr} {cap : Nat} {c : List Ic} (hc : Hid (CodeAt W p c)) (E : Hid (En W)) (hsm : Hid (Sm c)) (hn : c.length ≤ 50000) : Calls Tryd.prog 14 #[.slice p c.length cap] W (AheP false W c) := by
  have hmk := make_ii c.length (by omega)
  have eg : ∀ args w, (callFunc 33 args).run Tryd.prog w = .ok (.enter 33 args) w := enters_of Tryd.func33 (by kernel_rfl) rfl
  go_enter Tryd.func14, Tryd.ntmps14
  go_upto_region 2 with (fail)
  refine name_world ?_
  intro V1 hV1
  obtain ⟨b, hb⟩ : ∃ b, W.heap.size = b := ⟨_, rfl⟩
  have HV1 : Hid (Below W.heap.size W V1 ∧ FV 36 V1 b c.length (fun _ => .slice none 0 0) ∧ V1.heap[b + 1]? = some (.cells #[.slice (some ⟨b, 0, none⟩) c.length c.length] 33 (0, 0)) ∧ V1.heap.size = b + 2) := Lib.hid (by
    rw [hV1, ← hb]
    refine ⟨(below1 W _).alloc (by simp) _, (FV.new rfl (by simp)).alloc _, ?_, by simp⟩
    have := heap_alloc_new (W.alloc (.cells (rw_ c.length fun _ => .slice none 0 0).toArray 36)) (.cells #[.slice (some ⟨W.heap.size, 0, none⟩) c.length c.length] 33)
    simpa using this)
  have HB := Lib.hid hb
  try rw [hb]
  clear hV1 hb hmk
  have HC1 := Lib.hid (hc.out.stay HV1.out.1)
  have HE1 := Lib.hid (E.out.below HV1.out.1)
  have HND := Lib.hid (needs_c (cap := cap) HC1 HE1 hsm hn)
  go_upto_region 3 with (first
    | (go_at_call 26; (with_reducible refine HND.out.mono ?_); rintro e3 w3 ⟨nb, K, fs, es, gt, gf, vs, va, bs, A, rfl, hnd, hb3⟩; have HN3 := Lib.hid hnd; have HB3 := Lib.hid hb3; have hl3 := (hb3.block (b + 1) (by have := HV1.out.2.2.2; omega)).trans HV1.out.2.2.1; have HL3 := Lib.hid hl3; have HT3 : Hid (Td false W w3 w3 c V1.heap.size b (fun _ => .slice none 0 0) fun _ => False) := Lib.hid ⟨HV1.out.1.trans (hb3.mono HV1.out.1.size), Ch.refl _ _, HV1.out.2.1.stay hb3, fun i hi h => h.elim⟩; have HEA := Lib.hid (each_c eg (Lib.hid (tellB b (b + 1) c.length)) HN3 hc E hsm (by omega) HT3 HL3 (by have h1 := HV1.out.2.2.2; have h2 := HV1.out.1.size; have h3 := HB.out; have h4 := hb3.size; omega)); clear hnd hb3 hl3)
    | (go_at_call 30; (with_reducible refine HEA.out.mono ?_); rintro e5 w5 ⟨rfl, F5, h5⟩; have HT5 := Lib.hid h5; clear h5))
  have hbb : (b + 1 : Nat) ≠ b := by omega
  have hl5 : w5.heap[b + 1]? = some (.cells #[.slice (some ⟨b, 0, none⟩) c.length c.length] 33 (0, 0)) := (HT5.out.ch.block (b + 1) (by have h1 := HV1.out.2.2.2; have h2 := HB3.out.size; omega) hbb).trans HL3.out
  have i5 : w5.cell? ⟨b + 1, 0, none⟩ = some (.slice (some ⟨b, 0, none⟩) c.length c.length) := by rw [cell_of_row _ _ _ _ _ _ hl5]; rfl
  clear hl5
  go_wp2
  go_ret
  exact ⟨_, rfl, ⟨_, _, F5, rfl, HT5.out.fv.rv, fun i hi => (HT5.out.rw i hi trivial).nri⟩, HT5.out.bel⟩
end Go.Proofs.YthodpkcjdbkdnaaDoor
