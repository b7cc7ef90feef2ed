/- Lemmas for the laws of live (Lcu): each says its own conditions. -/
import Derived.Test.YthodpkcjdbkdnaaDoorJ02
import Derived.Test.YthodpkcjdbkdnaaDoorJ03
set_option linter.unusedSimpArgs false
set_option linter.unusedVariables false
namespace Go.Proofs.YthodpkcjdbkdnaaDoor
open Go Go.RowKit Gm

/-- Is a row just that one? -/
theorem eq_one {W : World} {B gb : Nat} {v : Value} {O : List Nat} (hg : GV 3 B W v O.length (lv O)) (hl : O.length ≤ 2) (j : Nat) (hb : W.heap[gb]? = some (.cells #[.int .i64 (j : Int)] 3 (0, 0))) :
    Calls Tryd.prog 65 #[v, .slice (some ⟨gb, 0, none⟩) 1 1] W fun e w' => e = .returned (.bool (decide (O = [j]))) ∧ Below W.heap.size W w' := by
  obtain ⟨p, cap, rfl, h⟩ := hg.open
  rcases h with ⟨rfl, h0⟩ | ⟨g, rfl, -, -, -, -, -, hc⟩
  · have : O = [] := List.eq_nil_of_length_eq_zero h0
    subst this
    refine (Tryd.slices_Equal_int_empty none (some ⟨gb, 0, none⟩) cap 1 1 W (by decide)).mono ?_
    rintro e w' ⟨rfl, rfl⟩
    exact ⟨by simp, Below.refl _ _⟩
  · refine (Tryd.slices_Equal_int g 0 O.length cap gb 0 1 1 (O.map Int.ofNat) [(j : Int)] W (by simp) (by simp) (by omega) (by decide) (fun i hi => ?_) (fun i hi => ?_)).mono ?_
    · have hi' : i < O.length := by simpa using hi
      rw [Nat.zero_add, hc i hi']
      simp [lv, hi']
    · have hi' : i = 0 := by simpa using hi
      subst hi'
      rw [cell_of_row _ _ _ _ _ _ hb]
      rfl
    · rintro e w' ⟨rfl, q, rfl⟩
      refine ⟨?_, below_like (Below.refl _ _) rfl rfl rfl rfl⟩
      congr 2
      have e1 : (O.map Int.ofNat).take O.length = O.map Int.ofNat := by rw [List.take_of_length_le (by simp)]
      rw [e1]
      by_cases e : O = [j]
      · subst e
        simp
      · have : ¬ O.map Int.ofNat = [(j : Int)] := fun h2 => e (by
          match O, h2 with
          | [], h2 => simp at h2
          | [a], h2 => simp at h2; rw [show a = j by omega]
          | a :: b :: r, h2 => simp at h2)
        simp [e, this]
/-- A stretch's cells, ahead of those that tell where it leads. -/
def gcell (fs es : Nat → Nat) (t : Nat) : Value := if t % 4 = 0 then .int .i64 (fs (t / 4) : Int) else if t % 4 = 1 then .int .i64 (es (t / 4) : Int) else .slice none 0 0
/-- The first loop's state. -/
structure C1 (V X : World) (c : List Ic) (bo k K : Nat) (v : Value) (fs es of : Nat → Nat) : Prop where
  ch : Ch (fun z => z = bo) V X
  row : G4 V.heap.size X v K (gcell fs es)
  ofv : FV 3 X bo c.length (iv fun i => (of i : Int))
  cuts : Cuts c k K fs es of
section
variable {V X Y : World} {c : List Ic} {bo k K : Nat} {v : Value} {fs es of : Nat → Nat}
theorem C1.stay (h : C1 V X c bo k K v fs es of) (hb : Below X.heap.size X Y) : C1 V Y c bo k K v fs es of := ⟨h.ch.stepB hb, h.row.stay hb, h.ofv.stay hb, h.cuts⟩
end
theorem info_stretch : (Tryd.prog.info? 62).map (fun i => (i.zero, i.size, i.bytes)) = some (some (.agg #[.int .i64 0, .int .i64 0, .slice none 0 0, .slice none 0 0]), 4, 64) := by kernel_rfl
theorem gcell_up (fs es : Nat → Nat) (K k : Nat) {t : Nat} (ht : t < (K + 1) * 4) : upd (up4 (gcell fs es) K (.int .i64 (k : Int)) (.int .i64 0) (.slice none 0 0) (.slice none 0 0)) ((K + 1 - 1) * 4 + 1) (.int .i64 (k : Int)) t = gcell (upd fs K k) (upd es K k) t := by
  unfold gcell up4 upd
  rw [Nat.add_sub_cancel]
  by_cases h : t < K * 4
  · have e : t / 4 ≠ K := by omega
    simp only [if_neg e, if_neg (show ¬ t = K * 4 + 1 by omega), if_neg (show ¬ t = K * 4 by omega), if_neg (show ¬ t = K * 4 + 2 by omega), if_neg (show ¬ t = K * 4 + 3 by omega)]
  · have e : t / 4 = K := by omega
    simp only [if_pos e]
    by_cases h0 : t = K * 4
    · simp only [if_neg (show ¬ t = K * 4 + 1 by omega), if_pos h0, if_pos (show t % 4 = 0 by omega)]
    · by_cases h1 : t = K * 4 + 1
      · simp only [if_pos h1, if_neg (show ¬ t % 4 = 0 by omega), if_pos (show t % 4 = 1 by omega)]
      · simp only [if_neg h0, if_neg h1, if_neg (show ¬ t % 4 = 0 by omega), if_neg (show ¬ t % 4 = 1 by omega)]
        split
        · rfl
        · split
          · rfl
          · omega
theorem gcell_ext (fs es : Nat → Nat) (K k : Nat) (hK : 0 < K) (t : Nat) : upd (gcell fs es) ((K - 1) * 4 + 1) (.int .i64 (k : Int)) t = gcell fs (upd es (K - 1) k) t := by
  unfold gcell upd
  by_cases h : t = (K - 1) * 4 + 1
  · have e : t / 4 = K - 1 := by omega
    simp only [if_pos h, if_neg (show ¬ t % 4 = 0 by omega), if_pos (show t % 4 = 1 by omega), if_pos e]
  · simp only [if_neg h]
    by_cases h1 : t % 4 = 1
    · have e : t / 4 ≠ K - 1 := by omega
      simp only [if_neg (show ¬ t % 4 = 0 by omega), if_pos h1, if_neg e]
    · simp only [if_neg h1]
/-- Ahead of telling a place's stretch. -/
def C2 (V X : World) (c : List Ic) (bo k K : Nat) (v : Value) (G : Nat → Value) (of : Nat → Nat) : Prop := Ch (fun z => z = bo) V X ∧ G4 V.heap.size X v K G ∧ FV 3 X bo c.length (iv fun i => (of i : Int)) ∧ ∃ fs es, Cuts c (k + 1) K fs es (upd of k (K - 1)) ∧ ∀ t, t < K * 4 → upd G ((K - 1) * 4 + 1) (.int .i64 (k : Int)) t = gcell fs es t
def CutP (W : World) (c : List Ic) (e : Ending) (w' : World) : Prop := ∃ v K fs es gt gf, e = .returned v ∧ SR w' W.heap.size v K fs es gt gf ∧ Cu c K fs es gt gf ∧ Below W.heap.size W w' ∧ K ≤ c.length
set_option maxRecDepth 100000 in
set_option maxHeartbeats 16000000 in
theorem cut_c {W : World} {p : Option Addr} {cap : Nat} {c : List Ic} (hc : Hid (CodeAt W p c)) (E : Hid (En W)) (hn : c.length ≤ 100000) : Calls Tryd.prog 47 #[.slice p c.length cap] W (CutP W c) := by
  have hmi := make_i c.length (by omega)
  go_enter Tryd.func47, Tryd.ntmps47
  go_upto_region 3 with (go_at_call 64; ((with_reducible refine (goes_c hc E hn).mono ?_); rintro e1 V1 ⟨b1, b2, B, F, rfl, hG, hBs⟩; have HG := Lib.hid (And.intro hG hBs); clear hG hBs))
  go_upto_region 4 with (fail)
  refine name_world ?_
  intro V hV
  obtain ⟨bo, hbo⟩ : ∃ bo, V1.heap.size = bo := ⟨_, rfl⟩
  have HV : Hid (Below V1.heap.size V1 V ∧ FV 3 V bo c.length (iv fun _ => 0) ∧ bo < V.heap.size) := Lib.hid (by
    rw [hV, ← hbo]
    exact ⟨below1 _ _, FV.new rfl (by simp; rfl), by simp⟩)
  have HBO := Lib.hid hbo
  rw [hbo]
  clear hV hbo hmi
  go_wp2
  go_loopw [5, 22] (fun a5 a22 wr => ∃ (k K : Nat) (fs es of : Nat → Nat) (v : Value), v = a5 ∧ a22 = .int .i64 k ∧ k ≤ c.length ∧ Hid (C1 V wr c bo k K v fs es of)) (fun _ a22 _ => c.length - (intOf a22).toNat)
  case atStart => exact ⟨0, 0, fun _ => 0, fun _ => 0, fun _ => 0, _, rfl, rfl, Nat.zero_le _, Lib.hid ⟨Ch.refl _ _, G4.nil _ _ _, HV.out.2.1, Cuts.zero _ _ _ _⟩⟩
  case round =>
    obtain ⟨wo, rfl⟩ : ∃ wo : World, wo = wr := ⟨_, rfl⟩
    obtain ⟨k, K, fs, es, of, v, rfl, rfl, hk, HR⟩ := hrel
    by_cases hlt : k < c.length
    · have hbV : Below V1.heap.size V1 wo := HV.out.1.trans (HR.out.ch.below HV.out.1.size fun z hz e => by have := HBO.out; omega)
      have HGo := Lib.hid (HG.out.1.stay hbV)
      clear hbV
      go_upto_region 7 with (fail)
      go_cut [44] from 25 to 44 (fun b wx => ∃ bb : Bool, b = .bool bb ∧ (bb = false → 0 < k ∧ outs c (k - 1) = [k] ∧ cmz c c.length k = 1) ∧ Below wo.heap.size wo wx)
      case first =>
        by_cases hk0 : k = 0
        · subst hk0
          go_wp2
          go_meet
          case rel => exact ⟨true, rfl, (fun h => by cases h), Below.refl _ _⟩
        · obtain ⟨k', rfl⟩ : ∃ k', k = k' + 1 := ⟨k - 1, by omega⟩
          have i2 := HGo.out.f2.cell hlt
          simp only [iv] at i2
          have hk0 : ((k' : Int) + 1 == 0) = false := by simp; omega
          have hk1 : k' < c.length := by omega
          have i1 := HGo.out.f1.cell hk1
          have hrow := HGo.out.rw k' hk1
          obtain ⟨q1, c1, e1, -⟩ := hrow.open
          rw [e1] at i1 hrow
          have HROW := Lib.hid hrow
          clear hrow e1
          by_cases hcm : cmz c c.length (k' + 1) = 1
          · rw [hcm] at i2
            have HCM := Lib.hid hcm
            clear hcm
            obtain ⟨O, hO⟩ : ∃ O, outs c k' = O := ⟨_, rfl⟩
            have hol := outs_len c k'
            have HO := Lib.hid hO
            have heq0 := (eq_one (W := wo.alloc (.cells #[.int .i64 ((k' + 1 : Nat) : Int)] 3)) (gb := wo.heap.size) (HROW.out.alloc _) hol (k' + 1) (heap_alloc_new _ _))
            have HEQ := Lib.hid heq0
            rw [show ((k' + 1 : Nat) : Int) = (k' : Int) + 1 by omega] at HEQ
            clear heq0
            simp only [hO] at hol HEQ i1
            obtain ⟨bb, hbb⟩ : ∃ bb, decide (O = [k' + 1]) = bb := ⟨_, rfl⟩
            rw [hbb] at HEQ
            have HBB := Lib.hid hbb
            clear hO hbb
            go_wp2_with (go_at_call 65; (with_reducible refine HEQ.out.mono ?_); rintro e6 w6 ⟨rfl, hb6⟩; have HB6 := Lib.hid hb6; clear hb6)
            go_meet
            case rel =>
              refine ⟨!bb, rfl, fun h => ⟨by omega, ?_, HCM.out⟩, (below1 _ _).trans (HB6.out.mono (by simp))⟩
              have hb : bb = true := by simpa using h
              have := HBB.out
              rw [hb] at this
              rw [Nat.add_sub_cancel, HO.out]
              exact of_decide_eq_true this
          · obtain ⟨N, hN⟩ : ∃ N, cmz c c.length (k' + 1) = N := ⟨_, rfl⟩
            rw [hN] at i2 hcm
            have hne : ((N : Int) != 1) = true := by simp; omega
            clear hN
            go_wp2
            go_meet
            case rel => exact ⟨true, rfl, (fun h => by cases h), Below.refl _ _⟩
      case rest =>
        obtain ⟨bb, rfl, hbb, hbw⟩ := hcut
        have HW := Lib.hid (And.intro hbb hbw)
        have HRw := Lib.hid (HR.out.stay hbw)
        clear hbb hbw HR
        go_upto_if 44 with (fail)
        go_cut [5] from 45 to 49 (fun v5 wx => ∃ (K' : Nat) (G' : Nat → Value) (v' : Value), v' = v5 ∧ 0 < K' ∧ K' ≤ k + 1 ∧ Hid (C2 V wx c bo k K' v' G' of))
        case first =>
          cases bb with
          | false =>
            go_wp2
            go_meet
            case rel =>
              obtain ⟨h1, h2, h3⟩ := HW.out.1 (by first | trivial | rfl)
              have hK := HRw.out.cuts.pos h1
              exact ⟨K, _, v, rfl, hK, by have := HRw.out.cuts.Kle; omega, Lib.hid ⟨HRw.out.ch, HRw.out.row, HRw.out.ofv, fs, _, HRw.out.cuts.ext h1 h2 h3, fun t _ => gcell_ext fs es K k hK t⟩⟩
          | true =>
            obtain ⟨i0, hi, hz0, hz1, hz2⟩ := info_parts info_stretch
            have hKle := HRw.out.cuts.Kle
            go_wp2_with (at_builtin; refine wpList_append_own_at _ rfl _ _ 57 rfl V.heap.size 62 i0 _ 4 64 Tryd.underlying57 hi hz0 hz1 hz2 rfl (by decide) v K (rw_ (K * 4) (gcell fs es)) rfl (World.ownsRow.alloc HRw.out.row _) ⟨wc.heap.size, 0, none⟩ 1 1 [.int .i64 (k : Int), .int .i64 0, .slice none 0 0, .slice none 0 0] rfl rfl ?c1 ?c2 ?c3 ?c4 ?c5 ?_)
            case c1 => exact World.news_of_block (heap_alloc_new _ _)
            case c2 => intro x hx; simp at hx; rcases hx with rfl | rfl | rfl <;> rfl
            case c3 => unfold maxLen; omega
            case c4 => omega
            case c5 => have := HRw.out.ch.size; simp; omega
            intro v4 w4 hown hgrow _ hats
            have HG4 := Lib.hid (G4.more hown)
            have hcw : Ch (fun z => z = bo) V w4 := (HRw.out.ch.alloc _).fresh ((Ch.refl (fun z => v.ownBlock = some z) _).grown hgrow fun b e => .inl e) fun z hz e => by have := (HRw.out.row.lt z e).1; omega
            have hof : FV 3 w4 bo c.length (iv fun i => (of i : Int)) := (HRw.out.ofv.alloc _).of_heap (hgrow.block bo (by have := HRw.out.ofv.lt; simp; omega) fun e => by have := (HRw.out.row.lt bo e.symm).1; have := HV.out.2.2; omega)
            have HC4 := Lib.hid (And.intro hcw hof)
            clear hown hgrow hats hcw hof
            go_wp2
            go_meet
            case rel => exact ⟨K + 1, _, v4, rfl, by omega, by omega, Lib.hid ⟨HC4.out.1, HG4.out, HC4.out.2, _, _, HRw.out.cuts.new, fun t ht => gcell_up fs es K k ht⟩⟩
        case rest =>
          obtain ⟨K', G', v', rfl, hK0, hK1, HC⟩ := hcut
          obtain ⟨q', c', e', hq⟩ := HC.out.2.1.open
          obtain ⟨gl, rfl, hown, hgl, hgB, hgc, hgf, hgcell⟩ := hq.resolve_left (fun e => by omega)
          subst e'
          have fo := HC.out.2.2.1.frozen k
          have io := HC.out.2.2.1.cell hlt
          have hgo : gl ≠ bo := by have := HV.out.2.2; omega
          have hKi : (K' : Int) - 1 = ((K' - 1 : Nat) : Int) := by omega
          have fg := hgf ((K' - 1) * 4 + 1)
          have ig := hgcell ((K' - 1) * 4 + 1) (by omega)
          obtain ⟨Km, hKm⟩ : ∃ m, K' - 1 = m := ⟨_, rfl⟩
          have HKm := Lib.hid hKm
          rw [hKm] at hKi fg ig
          clear hq hgcell hgf hKm
          go_wp2
          go_roundw
          case rel =>
            obtain ⟨h1, h2, h3, fs', es', h4, h5⟩ := HC.out
            have hKm := HKm.out
            rw [hKm] at h4 h5
            refine ⟨k + 1, K', fs', es', _, .slice (some ⟨gl, 0, none⟩) K' c', rfl, by go_num, by omega, Lib.hid ⟨(h1.set (.inl rfl) _ _).set (.inr hgB) _ _, ?_, ?_, h4⟩⟩
            · exact ((h2.setO (fun e => hgo (by cases e; rfl)) _ _).set hown (by omega) _).to h5
            · have := (h3.set k (.int .i64 (Km : Int))).setO (fun e => hgo e.symm) (Km * 4 + 1) (.int .i64 (k : Int))
              rw [iv_upd, nv_upd2] at this
              exact this
          case measure => (simp [intOf]; try omega)
    · obtain rfl : k = c.length := by omega
      obtain ⟨p', cap', e', hq⟩ := HR.out.row.open
      subst e'
      have hKle := HR.out.cuts.Kle
      by_cases hK0 : K = 0
      · subst hK0
        go_wp2
        go_loopw [67] (fun a wr => a = .int .i64 0 ∧ wo = wr) (fun _ _ => 0)
        case atStart => exact ⟨rfl, rfl⟩
        case round =>
          obtain ⟨rfl, rfl⟩ := hrel
          go_wp2
          go_ret
          have hbe : Below V1.heap.size V1 wo := HV.out.1.trans (HR.out.ch.below HV.out.1.size fun z hz e => by have := HBO.out; omega)
          refine ⟨_, 0, fs, es, fun _ => [], fun _ => [], rfl, ⟨_, _, rfl, fun s hs => absurd hs (Nat.not_lt_zero _)⟩, ?_, HG.out.1.bel.trans (hbe.mono HG.out.1.bel.size), hKle⟩
          exact ⟨⟨of, HR.out.cuts⟩, fun s hs => absurd hs (Nat.not_lt_zero _), fun s hs => absurd hs (Nat.not_lt_zero _), fun s hs => absurd hs (Nat.not_lt_zero _), fun s hs => absurd hs (Nat.not_lt_zero _)⟩
      · obtain ⟨g, rfl, -, hgl, hgB, -, -, -⟩ := hq.resolve_left (fun e => hK0 e.2)
        have HS : Hid (S2 wo wo V.heap.size g K cap' (fun z => if z = g then 4 else 0) (gcell fs es) fs es (fun _ => [])) := Lib.hid ⟨Ch.refl _ _, HR.out.row, hgl, if_pos rfl, fun s hs => ⟨(by unfold gcell; rw [if_pos (by omega)]; congr 3; omega), (by unfold gcell; rw [if_neg (by omega), if_pos (by omega)]; congr 3; omega)⟩, fun t ht h2 => (by
            have e : gcell fs es t = .slice none 0 0 := (by unfold gcell; rw [if_neg (by omega), if_neg (by omega)])
            rw [e]
            exact GV.nil _ _ _ _), fun t ht h2 g2 e2 => (by
            have e : gcell fs es t = .slice none 0 0 := (by unfold gcell; rw [if_neg (by omega), if_neg (by omega)])
            rw [e] at e2
            cases e2)⟩
        have hbV : Below V1.heap.size V1 wo := HV.out.1.trans (HR.out.ch.below HV.out.1.size fun z hz e => by have := HBO.out; omega)
        have HGo := Lib.hid (HG.out.1.stay hbV)
        have hgo : g ≠ bo := by have := HV.out.2.2; omega
        have hgb1 : g ≠ b1 ∧ B ≤ g := by
          have h1 := HGo.out.hb1
          have h2 := HG.out.2
          have h3 := HV.out.1.size
          omega
        have HBZ : Hid (B ≤ wo.heap.size) := Lib.hid (by have := HG.out.2; have := hbV.size; omega)
        clear hbV hq
        go_wp2
        go_loopw [67] (fun a wr => ∃ (s : Nat) (own : Nat → Nat) (G : Nat → Value) (wl : Nat → List Nat), a = .int .i64 s ∧ s ≤ K ∧ Hid (S2 wo wr V.heap.size g K cap' own G fs es wl ∧ Jm c K es of s 0 wl)) (fun a _ => K - (intOf a).toNat)
        case atStart => exact ⟨0, _, _, _, rfl, Nat.zero_le _, Lib.hid ⟨HS.out, Jm.zero c K es of⟩⟩
        case round =>
          clear HS
          obtain ⟨wp, rfl⟩ : ∃ wo : World, wo = wr := ⟨_, rfl⟩
          obtain ⟨s, own, G, wl, rfl, hs, HQ⟩ := hrel
          by_cases hsK : s < K
          · have hcut := HR.out.cuts
            have hle := hcut.le s hsK
            obtain ⟨_, _, e', hq⟩ := HQ.out.1.row.open
            cases e'
            obtain ⟨_, e', -, hgl1, -, -, -, hcell⟩ := hq.resolve_left (fun e => hK0 e.2)
            cases e'
            have c0 := hcell (s * 4) (by omega)
            have c1 := hcell (s * 4 + 1) (by omega)
            have c2 := hcell (s * 4 + 2) (by omega)
            have c3 := hcell (s * 4 + 3) (by omega)
            rw [(HQ.out.1.num s hsK).1] at c0
            rw [(HQ.out.1.num s hsK).2] at c1
            obtain ⟨p2, k2, e2, -⟩ := (HQ.out.1.rw (s * 4 + 2) (by omega) (by omega)).open
            obtain ⟨p3, k3, e3, -⟩ := (HQ.out.1.rw (s * 4 + 3) (by omega) (by omega)).open
            rw [e2] at c2
            rw [e3] at c3
            have i1 := HGo.out.f1.ch HQ.out.1.ch (fun e => hgb1.1 e.symm)
            have i1c := i1.cell hle.2
            obtain ⟨q1, k1, e1, hq1⟩ := (HGo.out.rw (es s) hle.2).open
            rw [e1] at i1c
            have HROW : Hid (∀ X, Ch (fun z => z = g) wo X → ∀ (q j : Nat), (outs c (es s))[q]? = some j → ∃ gl, q1 = some ⟨gl, 0, none⟩ ∧ X.cell? ⟨gl, q, none⟩ = some (.int .i64 (j : Int))) := Lib.hid fun X hX q j hj => by
              have hql := (List.getElem?_eq_some_iff.1 hj).1
              obtain ⟨gl, rfl, hown, hg1, -, -, -, hc1⟩ := hq1.resolve_left (fun e => by omega)
              refine ⟨gl, rfl, (hX.cell hg1 fun e => ?_).trans ?_⟩
              · have h6 := ((HG.out.1.rw (es s) hle.2).lt gl hown)
                have h7 := HV.out.1.size
                omega
              · rw [hc1 q hql]
                simp [lv, hj]
            clear hq hcell e1 e2 e3 hq1 i1
            go_upto_region 15 with (fail)
            refine name_world ?_
            intro V3 hV3
            obtain ⟨m, hm⟩ : ∃ m, wp.heap.size = m := ⟨_, rfl⟩
            have HB3 : Hid (Below wp.heap.size wp V3) := Lib.hid (by rw [hV3]; exact below1 _ _)
            have bx1 : V3.cell? ⟨m, 1, none⟩ = some (.int .i64 (es s : Int)) := by
              rw [hV3, ← hm, cell_of_row _ _ _ _ _ _ (heap_alloc_new wp _)]
              rfl
            have HS3 := Lib.hid (HQ.out.1.stay HB3.out)
            have i1c := (HB3.out.cell (p := ⟨b1, es s, none⟩) (show b1 < wp.heap.size by have := HGo.out.f1.lt; have := HQ.out.1.ch.size; omega)).trans i1c
            rw [hm]
            clear hV3 hm c0 c1 c2 c3
            obtain ⟨O, hO⟩ : ∃ O, outs c (es s) = O := ⟨_, rfl⟩
            have hol := outs_len c (es s)
            have HO := Lib.hid hO
            rw [hO] at i1c hol HROW
            clear hO
            go_upto_region 16 with (fail)
            have HJ := Lib.hid HQ.out.2
            clear i1c bx1
            go_loopw [78] (fun a wr => ∃ (q : Nat) (own : Nat → Nat) (G : Nat → Value) (wl : Nat → List Nat), a = .int .i64 q ∧ q ≤ O.length ∧ Hid (S2 wo wr V.heap.size g K cap' own G fs es wl ∧ Jm c K es of s q wl)) (fun a _ => O.length - (intOf a).toNat)
            case atStart => exact ⟨0, _, _, _, rfl, Nat.zero_le _, Lib.hid ⟨HS3.out, HJ.out⟩⟩
            case round =>
              clear HQ HS3 HJ
              obtain ⟨wi, rfl⟩ : ∃ wo : World, wo = wr := ⟨_, rfl⟩
              obtain ⟨q, own, G, wl, rfl, hq, HQ⟩ := hrel
              by_cases hql : q < O.length
              · obtain ⟨j, hj⟩ : ∃ j, O[q]? = some j := ⟨_, List.getElem?_eq_getElem hql⟩
                have hjc : (outs c (es s))[q]? = some j := by rw [HO.out]; exact hj
                have hjn := (outs_lt (List.mem_of_getElem? hjc)).2
                obtain ⟨gr, eq1, il⟩ := HROW.out wi HQ.out.1.ch q j hj
                subst eq1
                have io := (HR.out.ofv.ch HQ.out.1.ch (fun e => hgo e.symm)).cell hjn
                simp only [iv] at io
                have huK := (hcut.ofl j hjn).1
                obtain ⟨u, hu⟩ : ∃ u, of j = u := ⟨_, rfl⟩
                rw [hu] at io huK
                have HJC := Lib.hid (And.intro hjc (And.intro hu hjn))
                have hbol : bo < wo.heap.size := HR.out.ofv.lt
                clear hj hu hjc
                -- the way's own row
                obtain ⟨_, _, e', hqo⟩ := HQ.out.1.row.open
                cases e'
                obtain ⟨_, e', -, hgl1, -, -, hfro, hcell⟩ := hqo.resolve_left (fun e => hK0 e.2)
                cases e'
                have ht3 : s * 4 + 3 < K * 4 := by omega
                have iF := hcell (s * 4 + 3) ht3
                have fF := hfro (s * 4 + 3)
                obtain ⟨pF, cF, eF, -⟩ := (HQ.out.1.rw (s * 4 + 3) ht3 (by omega)).open
                have hgF := HQ.out.1.rw (s * 4 + 3) ht3 (by omega)
                rw [eF] at iF hgF
                have HEF := Lib.hid eF
                have hpl : (wl (s * 4 + 3)).length ≤ 2 := by
                  rw [HQ.out.2.tos s hsK]
                  unfold tol
                  rw [if_neg (Nat.lt_irrefl _), if_pos rfl, List.length_map, List.length_take]
                  have := outs_len c (es s)
                  omega
                obtain ⟨R, hR⟩ : ∃ R, wl (s * 4 + 3) = R := ⟨_, rfl⟩
                simp only [hR] at iF hgF hpl HEF
                have HGF := Lib.hid hgF
                have HRq := Lib.hid hR
                have hby : ∀ X v', Apd wi X (.slice pF R.length cF) v' → X.cell? ⟨g, s * 4 + 3, none⟩ = some (.slice pF R.length cF) ∧ X.frozen? ⟨g, s * 4 + 3, none⟩ = false ∧ g < X.heap.size := fun X v' hX => by
                  have hfar : ¬ (Value.slice pF R.length cF).ownBlock = some g := by rw [← HEF.out]; exact HQ.out.1.far ht3 (by omega)
                  have h := HQ.out.1.row.ch hX.1 fun g' e e2 => by cases e; exact hfar e2
                  obtain ⟨_, _, e', hq5⟩ := h.open
                  cases e'
                  obtain ⟨_, e', -, hl5, -, -, hf5, hc5⟩ := hq5.resolve_left (fun e => hK0 e.2)
                  cases e'
                  exact ⟨(hc5 _ ht3).trans (congrArg some HEF.out), hf5 _, hl5⟩
                have HBy := Lib.hid hby
                obtain ⟨j0, hj0, hy0, hy1, hy2⟩ := info_parts info_int
                have HNX : Hid (∀ (w8 : World) (gg cap8 : Nat), Apd wi w8 (.slice pF R.length cF) (.slice (some ⟨gg, 0, none⟩) (R.length + 1) cap8) → GV 3 wo.heap.size w8 (.slice (some ⟨gg, 0, none⟩) (R.length + 1) cap8) (R.length + 1) (upd (lv R) R.length (.int .i64 (u : Int))) →
                    S2 wo (w8.setCell ⟨g, s * 4 + 3, none⟩ (.slice (some ⟨gg, 0, none⟩) (R.length + 1) cap8)) V.heap.size g K cap' (tag own wi.heap.size (10 + (s * 4 + 3))) (upd G (s * 4 + 3) (.slice (some ⟨gg, 0, none⟩) (R.length + 1) cap8)) fs es (upd wl (s * 4 + 3) (wl (s * 4 + 3) ++ [u]))) := Lib.hid fun w8 gg cap8 hA hG => by
                  rw [← HEF.out] at hA
                  exact HQ.out.1.app (u := u) ht3 (by omega) hA (by rw [HRq.out]; exact hG)
                clear hgF eF hR hby hqo hcell hfro
                have hboi : bo < wi.heap.size := by have := HQ.out.1.ch.size; omega
                go_upto_region 18 with (fail)
                go_cut [94] from 82 to 96 (fun _ wx => Hid (∃ own' G', S2 wo wx V.heap.size g K cap' own' G' fs es (upd wl (s * 4 + 3) (wl (s * 4 + 3) ++ [u]))))
                case first =>
                 go_region_law (refine step_append_lies _ (by rfl) _ _ _ (by rfl) wo.heap.size 3 j0 _ 1 8 Tryd.underlying36 hj0 hy0 hy1 hy2 rfl (by decide) (.slice pF R.length cF) R.length (rw_ R.length (lv R)) (by rfl) (World.ownsRow.alloc (HGF.out.of_heap fun _ _ => rfl) _) ⟨_, 0, none⟩ 1 1 [.int .i64 (u : Int)] (by rfl) (by rfl) (World.news_of_block (heap_alloc_new _ _)) (fun u hu => by simp at hu; subst hu; rfl) (by decide) (by unfold maxLen; omega) (by omega) (by have := HQ.out.1.ch.size; simp; omega) _ rfl ?_; intro gg cap8 w8 hown8 hgrow8 hor8 hlt8; have hA8 : Apd wi w8 (.slice pF R.length cF) (.slice (some ⟨gg, 0, none⟩) (R.length + 1) cap8) := apd_like9 (W := wi.drew) rfl rfl rfl rfl (apd_of hgrow8 (hor8.elim (fun h => .inl h.symm) (fun h => .inr (congrArg some h)))); have HG8 : Hid (GV 3 wo.heap.size w8 (.slice (some ⟨gg, 0, none⟩) (R.length + 1) cap8) (R.length + 1) (upd (lv R) R.length (.int .i64 (u : Int)))) := Lib.hid (GV.more hown8); obtain ⟨c8, f8, l8⟩ := HBy.out w8 _ hA8; have HA8 := Lib.hid hA8; clear hown8 hgrow8 hor8 hlt8 hA8)
                 all_goals
                  go_wp2_with fail
                  go_meet
                  case rel => exact Lib.hid ⟨_, _, (HNX.out w8 gg cap8 HA8.out HG8.out).like rfl rfl rfl rfl⟩
                case rest =>
                  obtain ⟨own5, G5, HS5⟩ := hcut.out
                  have hv5 : (upd wl (s * 4 + 3) (wl (s * 4 + 3) ++ [u])) (u * 4 + 2) = wl (u * 4 + 2) := upd_of (by omega)
                  obtain ⟨wl5, hwl5⟩ : ∃ w, upd wl (s * 4 + 3) (wl (s * 4 + 3) ++ [u]) = w := ⟨_, rfl⟩
                  have HJ5 := Lib.hid (And.intro HQ.out.2 hwl5)
                  have hlen5 := HQ.out.2.len u huK
                  have HQC := Lib.hid HQ.out.1.ch
                  rw [hwl5] at HS5 hv5
                  have HS := Lib.hid HS5
                  have io := (HR.out.ofv.ch HS5.ch (fun e => hgo e.symm)).cell HJC.out.2.2
                  simp only [iv, HJC.out.2.1] at io
                  have hboi : bo < wc.heap.size := by have := HS5.ch.size; omega
                  clear iF fF hj0 hy0 hy1 hy2 HBy HNX HGF HEF HRq hpl hwl5 HS5 il hgl1
                  obtain ⟨_, _, e', hqo⟩ := HS.out.row.open
                  cases e'
                  obtain ⟨_, e', -, hgl1, -, -, hfro, hcell⟩ := hqo.resolve_left (fun e => hK0 e.2)
                  cases e'
                  have ht2 : u * 4 + 2 < K * 4 := by omega
                  have iF := hcell (u * 4 + 2) ht2
                  have fF := hfro (u * 4 + 2)
                  obtain ⟨pF, cF, eF, -⟩ := (HS.out.rw (u * 4 + 2) ht2 (by omega)).open
                  have hgF := HS.out.rw (u * 4 + 2) ht2 (by omega)
                  rw [eF] at iF hgF
                  have HEF := Lib.hid eF
                  obtain ⟨R, hR⟩ : ∃ R, wl5 (u * 4 + 2) = R := ⟨_, rfl⟩
                  have hpl : R.length ≤ 2 * s + q := by rw [← hR, hv5]; exact hlen5
                  simp only [hR] at iF hgF HEF
                  have HGF := Lib.hid hgF
                  have HRq := Lib.hid hR
                  have HV5 := Lib.hid hv5
                  have hby : ∀ X v', Apd wc X (.slice pF R.length cF) v' → X.cell? ⟨g, u * 4 + 2, none⟩ = some (.slice pF R.length cF) ∧ X.frozen? ⟨g, u * 4 + 2, none⟩ = false ∧ g < X.heap.size ∧ X.cell? ⟨bo, j, none⟩ = some (.int .i64 (u : Int)) ∧ bo < X.heap.size := fun X v' hX => by
                    have hfar : ¬ (Value.slice pF R.length cF).ownBlock = some g := by rw [← HEF.out]; exact HS.out.far ht2 (by omega)
                    have h := HS.out.row.ch hX.1 fun g' e e2 => by cases e; exact hfar e2
                    obtain ⟨_, _, e', hq5⟩ := h.open
                    cases e'
                    obtain ⟨_, e', -, hl5, -, -, hf5, hc5⟩ := hq5.resolve_left (fun e => hK0 e.2)
                    cases e'
                    have hbo5 : X.cell? ⟨bo, j, none⟩ = some (.int .i64 (u : Int)) := (hX.1.cell (b := bo) hboi fun e => by
                      have := (HGF.out.lt _ e).1
                      omega).trans io
                    exact ⟨(hc5 _ ht2).trans (congrArg some HEF.out), hf5 _, hl5, hbo5, by have := hX.1.size; omega⟩
                  have HBy := Lib.hid hby
                  obtain ⟨j0, hj0, hy0, hy1, hy2⟩ := info_parts info_int
                  have HNX : Hid (∀ (w8 : World) (gg cap8 : Nat), Apd wc w8 (.slice pF R.length cF) (.slice (some ⟨gg, 0, none⟩) (R.length + 1) cap8) → GV 3 wo.heap.size w8 (.slice (some ⟨gg, 0, none⟩) (R.length + 1) cap8) (R.length + 1) (upd (lv R) R.length (.int .i64 (s : Int))) →
                      ∃ own' G' wl', S2 wo (w8.setCell ⟨g, u * 4 + 2, none⟩ (.slice (some ⟨gg, 0, none⟩) (R.length + 1) cap8)) V.heap.size g K cap' own' G' fs es wl' ∧ Jm c K es of s (q + 1) wl') := Lib.hid fun w8 gg cap8 hA hG => by
                    rw [← HEF.out] at hA
                    refine ⟨_, _, _, HS.out.app (u := s) ht2 (by omega) hA (by rw [HRq.out]; exact hG), ?_⟩
                    have h5 := HJ5.out.1.step hsK HJC.out.1 HJC.out.2.1 huK
                    rw [HJ5.out.2, ← HV5.out] at h5
                    exact h5
                  clear hgF eF hR hby hqo hcell hfro hv5 hlen5
                  go_upto_region 19 with (fail)
                  go_region_law (refine step_append_lies _ (by rfl) _ _ _ (by rfl) wo.heap.size 3 j0 _ 1 8 Tryd.underlying36 hj0 hy0 hy1 hy2 rfl (by decide) (.slice pF R.length cF) R.length (rw_ R.length (lv R)) (by rfl) (World.ownsRow.alloc (HGF.out.of_heap fun _ _ => rfl) _) ⟨_, 0, none⟩ 1 1 [.int .i64 (s : Int)] (by rfl) (by rfl) (World.news_of_block (heap_alloc_new _ _)) (fun u hu => by simp at hu; subst hu; rfl) (by decide) (by unfold maxLen; omega) (by omega) (by have := HS.out.ch.size; simp; omega) _ rfl ?_; intro gg cap8 w8 hown8 hgrow8 hor8 hlt8; have hA8 : Apd wc w8 (.slice pF R.length cF) (.slice (some ⟨gg, 0, none⟩) (R.length + 1) cap8) := apd_like9 (W := wc.drew) rfl rfl rfl rfl (apd_of hgrow8 (hor8.elim (fun h => .inl h.symm) (fun h => .inr (congrArg some h)))); have HG8 : Hid (GV 3 wo.heap.size w8 (.slice (some ⟨gg, 0, none⟩) (R.length + 1) cap8) (R.length + 1) (upd (lv R) R.length (.int .i64 (s : Int)))) := Lib.hid (GV.more hown8); obtain ⟨c8, f8, l8, d8, m8⟩ := HBy.out w8 _ hA8; have HA8 := Lib.hid hA8; clear hown8 hgrow8 hor8 hlt8 hA8)
                  all_goals
                    go_wp2
                    go_roundw
                    case rel =>
                      obtain ⟨own', G', wl', h1, h2⟩ := HNX.out w8 gg cap8 HA8.out HG8.out
                      exact ⟨q + 1, own', G', wl', by go_num, by omega, Lib.hid ⟨h1.like rfl rfl rfl rfl, h2⟩⟩
                    case measure => (simp [intOf]; try omega)
              · obtain rfl : q = O.length := by omega
                go_wp2
                go_roundw
                case rel =>
                  refine ⟨s + 1, own, G, wl, by go_num, by omega, Lib.hid ⟨HQ.out.1.like rfl rfl rfl rfl, ?_⟩⟩
                  have := HQ.out.2
                  rw [← HO.out] at this
                  exact this.next
                case measure => (simp [intOf]; try omega)
          · obtain rfl : s = K := by omega
            go_wp2
            go_ret
            have hbe : Below V1.heap.size V1 wp := (HV.out.1.trans (HR.out.ch.below HV.out.1.size fun z hz e => by have := HBO.out; omega)).trans (HQ.out.1.ch.below (by have h1 := HV.out.1.size; have h2 := HR.out.ch.size; omega) fun z hz e => by have h1 := HV.out.1.size; omega)
            exact ⟨_, s, fs, es, _, _, rfl, HQ.out.1.sr (by have h1 := HV.out.1.size; have h2 := HG.out.1.bel.size; omega) (by have h1 := HV.out.1.size; have h2 := HG.out.1.bel.size; have h3 := HR.out.ch.size; omega), HQ.out.2.all HR.out.cuts, HG.out.1.bel.trans (hbe.mono HG.out.1.bel.size), hKle⟩
end Go.Proofs.YthodpkcjdbkdnaaDoor
