/- What is found in the forest: graph's climb.find. -/
import Derived.Test.YtacgfjcdfgdpjaaDoorGcl
import Derived.Test.YtacgfjcdfgdpjaaDoorGd
import Derived.Deep.QuietTactic
import Derived.BigQuiet
namespace Go.Proofs.YtacgfjcdfgdpjaaDoor
set_option linter.unusedSimpArgs false
set_option linter.unusedVariables false
open Go Go.RowKit Gm

/-- none is -1. -/
def ov : Option Nat → Int
  | none => -1
  | some p => p
theorem ov_none {o : Option Nat} : ov o = -1 ↔ o = none := by
  cases o with
  | none => simp [ov]
  | some p => simp [ov]
theorem ov_upd (f : Nat → Option Nat) (i : Nat) (x : Option Nat) : upd (fun i => ov (f i)) i (ov x) = fun j => ov (upd f i x j) := by
  funext j
  unfold upd
  split <;> rfl
theorem nv_upd (f : Nat → Nat) (i x : Nat) : upd (fun i => (f i : Int)) i (x : Int) = fun j => ((upd f i x j : Nat) : Int) := by
  funext j
  unfold upd
  split <;> rfl
/-- The climb of so many numbers, from t on hung up. -/
structure Cm (W : World) (k : Kn) (m : Nat) (par s : Nat → Nat) (t : Nat) (up : Nat → Option Nat) (bs : Nat → Nat) : Prop where
  kl : Kl W k m (fun i => s i) (fun i => ov (up i)) (fun i => bs i)
  clb : Clb m par s t up bs
/-- What find leaves. -/
def FindP (W : World) (k : Kn) (m : Nat) (par s : Nat → Nat) (t v : Nat) (e : Ending) (w' : World) : Prop := ∃ y up bs, e = .returned (.int .i64 ((y : Nat) : Int)) ∧ Cm w' k m par s t up bs ∧ FindR m par s t v y ∧ Ch (fun b => b = k.u ∨ b = k.b) W w'
theorem desc {g : Nat → Nat} {j : Nat} (h : ∀ i, i < j → g (i + 1) < g i) : ∀ r i, i < r → r ≤ j → g r < g i := by
  intro r
  induction r with
  | zero => intro i hi; omega
  | succ r ih =>
    intro i hi hr
    have h1 := h r (by omega)
    by_cases e : i = r
    · rw [e]; exact h1
    · have := ih i (by omega) (by omega)
      omega
section
variable {W : World} {k : Kn} {m : Nat} {par s : Nat → Nat} {t : Nat} {up : Nat → Option Nat} {bs : Nat → Nat}
/-- One is hung up higher. -/
theorem Cm.setU (h : Cm W k m par s t up bs) {u : Nat} {q : Option Nat} (hC : Clb m par s t (upd up u q) bs) : Cm (W.setCell ⟨k.u, u, none⟩ (.int .i64 (ov q))) k m par s t (upd up u q) bs :=
  ⟨by have := h.kl.setU u (ov q); rw [ov_upd] at this; exact this, hC⟩
end
set_option maxRecDepth 100000 in
set_option maxHeartbeats 4000000 in
theorem find_any {W : World} {k : Kn} {m : Nat} {par s : Nat → Nat} {t : Nat} {up : Nat → Option Nat} {bs : Nat → Nat} (hC : Hid (Cm W k m par s t up bs)) (hp : Hid (∀ v, 0 < v → v < m → par v < v)) (v : Nat) (hv : v < m) (hm : m ≤ 1000000) :
    Calls Tryd.prog 42 #[.pointer (some ⟨k.kb, 0, none⟩), .int .i64 v] W (FindP W k m par s t v) := by
  obtain ⟨l, c0, c1, c2, -⟩ := hC.out.kl.facts
  have iu := hC.out.kl.up.cell hv
  have HL := Lib.hid hC.out.kl.lt
  rcases hup : up v with - | p
  · have hvt := hC.out.clb.bare hv hup
    simp only [iv, hup, ov] at iu
    have HV := Lib.hid hvt
    clear hup hvt
    go_enter Tryd.func42, Tryd.ntmps42
    go_wp2
    go_ret
    exact ⟨v, up, bs, rfl, hC.out, ⟨hv, fun _ => rfl, fun h => absurd h (by have := HV.out; omega)⟩, Ch.refl _ _⟩
  · obtain ⟨htv, hpv, hpm⟩ := hC.out.clb.tied hv hup
    simp only [iv, hup, ov] at iu
    have HV := Lib.hid htv
    have HU := Lib.hid hup
    have ne1 : ((p : Int) == -1) = false := by simp
    clear hup htv
    go_enter Tryd.func42, Tryd.ntmps42
    go_wp2
    go_loopw [5, 6] (fun a b wr => ∃ (j : Nat) (g : Nat → Nat) (v0 : Value), v0 = a ∧ b = .int .i64 (g j) ∧ g 0 = v ∧ (∀ i, i ≤ j → t ≤ g i ∧ g i < m) ∧ Hid ((∀ i, i < j → up (g i) = some (g (i + 1))) ∧ j + g j ≤ v ∧ Below W.heap.size W wr ∧ GV 3 W.heap.size wr v0 j (iv fun i => g i))) (fun _ b _ => (intOf b).toNat)
    case atStart => exact ⟨0, fun _ => v, _, rfl, rfl, rfl, fun i _ => ⟨HV.out, hv⟩, Lib.hid ⟨fun i hi => absurd hi (by omega), by simp, Below.refl _ _, GV.nil _ _ _ _⟩⟩
    case round =>
      clear c0 c1 c2 iu ne1 l
      obtain ⟨j, g, v0, rfl, rfl, hg0, hgb, HR⟩ := hrel
      have hjm : j ≤ 1000000 := by have := HR.out.2.1; omega
      have HK : Hid (Kl wr k m (fun i => s i) (fun i => ov (up i)) (fun i => bs i)) := Lib.hid (hC.out.kl.stay HR.out.2.2.1)
      obtain ⟨l, c0, c1, c2, -⟩ := HK.out.facts
      have hu := hgb j (Nat.le_refl _)
      obtain ⟨u, hgu⟩ : ∃ u, g j = u := ⟨_, rfl⟩
      rw [hgu] at hu ⊢
      obtain ⟨hu1, hu2⟩ := hu
      obtain ⟨p1, e1, e2, -⟩ := hC.out.clb.hung u hu1 hu2
      have i1 := HK.out.up.cell hu2
      have hp1 : p1 < m := by omega
      have i2 := HK.out.up.cell hp1
      simp only [iv, e1, ov] at i1
      have HG := Lib.hid (And.intro hg0 (And.intro hgb (And.intro hgu e1)))
      clear hg0 hgb hgu e1
      rcases e3 : up p1 with - | q
      · simp only [iv, e3, ov] at i2
        have HQ := Lib.hid e3
        clear e3
        obtain ⟨pp, cap, rfl, -⟩ := HR.out.2.2.2.open
        go_wp2
        go_region
        go_wp2
        go_loopw [7] (fun a wx => ∃ (x : Int) (r : Nat) (up' : Nat → Option Nat) (bs' : Nat → Nat), a = .int .i64 x ∧ x + 1 = r ∧ r ≤ j ∧ Hid (Cm wx k m par s t up' bs' ∧ (∀ i, i < r → up' (g i) = some (g (i + 1))) ∧ (∃ q, q < t ∧ up' (g r) = some q) ∧ Ch (fun b => b = k.u ∨ b = k.b) W wx ∧ GV 3 W.heap.size wx (.slice pp j cap) j (iv fun i => g i))) (fun a _ => (intOf a + 1).toNat)
        case atStart =>
          refine ⟨_, j, up, bs, rfl, by omega, Nat.le_refl _, Lib.hid ⟨⟨HK.out.drewN 1, hC.out.clb⟩, HR.out.1, ⟨p1, hC.out.clb.bare hp1 HQ.out, ?_⟩, (Ch.of HR.out.2.2.1).drewN 1, HR.out.2.2.2⟩⟩
          rw [HG.out.2.2.1]
          exact HG.out.2.2.2
        case round =>
          clear l c0 c1 c2 i1 i2
          obtain ⟨wo, rfl⟩ : ∃ wo : World, wo = wr := ⟨_, rfl⟩
          obtain ⟨x, r, up', bs', rfl, hx, hr, HX⟩ := hrel
          rcases r with - | r
          · obtain rfl : x = -1 := by omega
            obtain ⟨l, c0, c1, c2, -⟩ := HX.out.1.kl.facts
            have ib := HX.out.1.kl.best.cell hv
            simp only [iv] at ib
            go_wp2
            go_ret
            obtain ⟨q, hq, hq2⟩ := HX.out.2.2.1
            rw [HG.out.1] at hq2
            exact ⟨bs' v, up', bs', rfl, HX.out.1, HX.out.1.clb.found hp.out hv hq2 hq, HX.out.2.2.2.1⟩
          · obtain rfl : x = (r : Int) := by omega
            obtain ⟨pp', cap', hpe, hpo⟩ := HX.out.2.2.2.2.open
            cases hpe
            have hpo := hpo.resolve_left (fun e => by omega)
            obtain ⟨gp, rfl, hpb, hpl, hpB, _, _, hpc⟩ := hpo
            have ip := hpc r (by omega)
            simp only [iv] at ip
            obtain ⟨hU1, hU2⟩ := HG.out.2.1 r (by omega)
            obtain ⟨hT1, hT2⟩ := HG.out.2.1 (r + 1) (by omega)
            have hup1 := HX.out.2.1 r (by omega)
            obtain ⟨q, hq, hup2⟩ := HX.out.2.2.1
            obtain ⟨U, hU⟩ : ∃ U, g r = U := ⟨_, rfl⟩
            obtain ⟨T, hT⟩ : ∃ T, g (r + 1) = T := ⟨_, rfl⟩
            rw [hU] at hU1 hU2 hup1 ip
            rw [hT] at hT1 hT2 hup1 hup2
            have hqm := (HX.out.1.clb.tied hT2 hup2).2.2
            obtain ⟨l, c0, c1, c2, -⟩ := HX.out.1.kl.facts
            obtain ⟨n4, n5, n6⟩ := HX.out.1.kl.ne
            have nsu := HX.out.1.kl.su
            have nsb := HX.out.1.kl.sb
            have nub := HX.out.1.kl.ub
            have fu := HX.out.1.kl.up.frozen U
            have fb := HX.out.1.kl.best.frozen U
            have iuU := HX.out.1.kl.up.cell hU2
            have iuT := HX.out.1.kl.up.cell hT2
            have ibU := HX.out.1.kl.best.cell hU2
            have ibT := HX.out.1.kl.best.cell hT2
            have hbU := (HX.out.1.clb.best hp.out hU2).1
            have hbT := (HX.out.1.clb.best hp.out hT2).1
            obtain ⟨bU, hbUe⟩ : ∃ b, bs' U = b := ⟨_, rfl⟩
            obtain ⟨bT, hbTe⟩ : ∃ b, bs' T = b := ⟨_, rfl⟩
            rw [hbUe] at hbU
            rw [hbTe] at hbT
            have isU := HX.out.1.kl.sem.cell hbU
            have isT := HX.out.1.kl.sem.cell hbT
            simp only [iv, hup1, hup2, ov, hbUe, hbTe] at iuU iuT ibU ibT isU isT
            have HD : Hid (∀ i, i < r → g i ≠ U) := Lib.hid (fun i hi => by
              have := desc (g := g) (j := j) (fun i hi => (hC.out.clb.tied (HG.out.2.1 i (by omega)).2 (HR.out.1 i hi)).2.1) r i hi (by omega)
              omega)
            have HH := Lib.hid (And.intro hup1 (And.intro hup2 (And.intro hU (And.intro hT (And.intro hbUe hbTe)))))
            have HQ2 := Lib.hid hq
            clear hup1 hup2 hU hT hbUe hbTe hpc hpb hq
            have hgk : gp ≠ k.u ∧ gp ≠ k.b ∧ gp ≠ k.kb := by
              have h1 := HL.out k.u (.inr (.inr (.inl rfl)))
              have h2 := HL.out k.b (.inr (.inr (.inr rfl)))
              have h3 := HL.out k.kb (.inl rfl)
              omega
            obtain ⟨g1, g2, g3⟩ := hgk
            have HGV : Hid (∀ (c : Nat) (i : Nat) (x : Value) (X : World), (c = k.u ∨ c = k.b) → GV 3 W.heap.size X (.slice (some ⟨gp, 0, none⟩) j cap) j (iv fun i => g i) → GV 3 W.heap.size (X.setCell ⟨c, i, none⟩ x) (.slice (some ⟨gp, 0, none⟩) j cap) j (iv fun i => g i)) := Lib.hid (fun c i x X hc h => h.setO (by
              simp only [Value.ownBlock]
              intro e
              cases e
              rcases hc with rfl | rfl
              · exact g1 rfl
              · exact g2 rfl) i x)
            obtain ⟨sU, hsU⟩ : ∃ b, s bU = b := ⟨_, rfl⟩
            obtain ⟨sT, hsT⟩ : ∃ b, s bT = b := ⟨_, rfl⟩
            rw [hsU] at isU
            rw [hsT] at isT
            have HS := Lib.hid (And.intro hsU hsT)
            clear hsU hsT
            by_cases hlt : sT < sU
            · have hlt2 : decide (sT < sU) = true := by simpa using hlt
              have HLT := Lib.hid hlt
              have HCL := Lib.hid (HX.out.1.clb.short hp.out (u := U) (b := bT) (up' := upd up' U (some q)) (bs' := upd bs' U bT) hU2 HH.out.1 HH.out.2.1 (by rw [HH.out.2.2.2.2.1, HH.out.2.2.2.2.2, HS.out.1, HS.out.2, if_pos hlt]) (fun x => rfl) (fun x => rfl))
              clear hlt
              go_wp2
              go_quiet (fail)
              go_wp2
              go_region
              go_wp2
              go_region
              go_wp2
              go_roundw
              case rel =>
                refine ⟨(r : Int) - 1, r, _, _, by go_num, by omega, by omega, Lib.hid ⟨⟨Kl.to (Kl.like (Kl.setU (Kl.setB HX.out.1.kl U bT) U q) rfl) (fun _ _ => rfl) (fun i _ => congrFun (ov_upd up' U (some q)) i) (fun i _ => congrFun (nv_upd bs' U bT) i), HCL.out⟩, fun i hi => ?_, ⟨q, HQ2.out, ?_⟩, ?_, ?_⟩⟩
                · rw [upd_of (HD.out i hi)]
                  exact HX.out.2.1 i (by omega)
                · rw [HH.out.2.2.1, upd_at]
                · exact Ch.like ((HX.out.2.2.2.1.set (b := k.b) (.inl (.inr rfl)) U (.int .i64 bT)).set (b := k.u) (.inl (.inl rfl)) U (.int .i64 q)) rfl rfl rfl rfl
                · exact HGV.out k.u U _ _ (.inl rfl) (HGV.out k.b U _ _ (.inr rfl) HX.out.2.2.2.2)
              case measure => (simp [intOf]; try omega)
            · have hlt2 : decide (sT < sU) = false := by simpa using hlt
              have HCL := Lib.hid (HX.out.1.clb.short hp.out (u := U) (b := bU) (up' := upd up' U (some q)) (bs' := bs') hU2 HH.out.1 HH.out.2.1 (by rw [HH.out.2.2.2.2.1, HH.out.2.2.2.2.2, HS.out.1, HS.out.2, if_neg hlt]) (fun x => rfl) (fun x => by
                by_cases e : x = U
                · rw [if_pos e, e]
                  exact HH.out.2.2.2.2.1
                · rw [if_neg e]))
              clear hlt
              go_wp2
              go_quiet (fail)
              go_wp2
              go_region
              go_wp2
              go_roundw
              case rel =>
                refine ⟨(r : Int) - 1, r, _, _, by go_num, by omega, by omega, Lib.hid ⟨⟨Kl.to (Kl.like (Kl.setU HX.out.1.kl U q) rfl) (fun _ _ => rfl) (fun i _ => congrFun (ov_upd up' U (some q)) i) (fun _ _ => rfl), HCL.out⟩, fun i hi => ?_, ⟨q, HQ2.out, ?_⟩, ?_, ?_⟩⟩
                · rw [upd_of (HD.out i hi)]
                  exact HX.out.2.1 i (by omega)
                · rw [HH.out.2.2.1, upd_at]
                · exact Ch.like (HX.out.2.2.2.1.set (b := k.u) (.inl (.inl rfl)) U (.int .i64 q)) rfl rfl rfl rfl
                · exact HGV.out k.u U _ _ (.inl rfl) HX.out.2.2.2.2
              case measure => (simp [intOf]; try omega)
      · simp only [iv, e3, ov] at i2
        have ne2 : ((q : Int) == -1) = false := by simp
        have ne3 : ((q : Int) != -1) = true := by simp
        have HQ := Lib.hid e3
        obtain ⟨i0, hi, hz0, hz1, hz2⟩ := info_parts info_int
        clear e3
        go_wp2
        go_region
        go_wp2_with (at_builtin; refine wpList_append_own_at _ rfl _ _ 34 rfl W.heap.size 3 i0 (.int .i64 0) 1 8 Tryd.underlying34 hi hz0 hz1 hz2 rfl (by decide) _ _ _ rfl (World.ownsRow.alloc (w := World.drewN _ 1) HR.out.2.2.2 _) ⟨wr.heap.size, 0, none⟩ 1 1 [.int .i64 (u : Int)] rfl rfl ?c1 ?c2 ?c3 ?c4 ?c5 ?_)
        case c1 => exact fun j u h => cell_one_new wr _ _ j u h
        case c2 => intro x hx; simp at hx; subst hx; rfl
        case c3 => unfold maxLen; omega
        case c4 => omega
        case c5 => have := HR.out.2.2.1.size; simp; omega
        intro v' w1 hown hgrow _ _
        have HB1 : Hid (Below W.heap.size W w1) := Lib.hid ((below_drewN (HR.out.2.2.1.alloc HR.out.2.2.1.size _) 1).grown hgrow (by have := HR.out.2.2.1.size; simp; omega) (fun j hj => (HR.out.2.2.2.lt j hj).1))
        have HG1 : Hid (GV 3 W.heap.size w1 v' (j + 1) (upd (iv fun i => g i) j (.int .i64 u))) := Lib.hid (GV.more hown)
        clear hown hgrow l c0 c1 c2 i1 i2
        have HK1 : Hid (Kl w1 k m (fun i => s i) (fun i => ov (up i)) (fun i => bs i)) := Lib.hid (hC.out.kl.stay HB1.out)
        obtain ⟨l, c0, c1, c2, -⟩ := HK1.out.facts
        have i1 := HK1.out.up.cell hu2
        simp only [iv, HG.out.2.2.2, ov] at i1
        go_wp2
        go_roundw
        case rel =>
          obtain ⟨g0, gb, gu, gp⟩ := HG.out
          refine ⟨j + 1, upd g (j + 1) p1, v', rfl, ?_, ?_, fun i hi => ?_, Lib.hid ⟨fun i hi => ?_, ?_, HB1.out, ?_⟩⟩
          · rw [upd_at]
          · rw [upd_of (by omega)]; exact g0
          · by_cases e : i = j + 1
            · rw [e, upd_at]
              exact ⟨(hC.out.clb.tied hp1 HQ.out).1, hp1⟩
            · rw [upd_of e]; exact gb i (by omega)
          · by_cases e : i = j
            · rw [e, upd_of (by omega), upd_at, gu]; exact gp
            · rw [upd_of (by omega), upd_of (by omega)]; exact HR.out.1 i (by omega)
          · rw [upd_at]
            have := HR.out.2.1
            rw [gu] at this
            omega
          · refine HG1.out.to fun i hi => ?_
            by_cases e : i = j
            · rw [e, upd_at]
              simp only [iv]
              rw [upd_of (by omega), gu]
            · rw [upd_of e]
              simp only [iv]
              rw [upd_of (by omega)]
        case measure => (simp [intOf]; try omega)
end Go.Proofs.YtacgfjcdfgdpjaaDoor
