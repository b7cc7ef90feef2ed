/- Lemmas for the laws of live (Ftl Fne Fsw Fsx Fsy OrI): each says its own conditions. -/
import Derived.Test.YtgdhgipofaaogaaDoorJ05
import Derived.Test.YtgdhgipofaaogaaDoorJ03
import Derived.WalkMore
import Derived.Test.YtgdhgipofaaogaaDoorJ02
import Derived.Test.YtgdhgipofaaogaaDoorJ01
import Derived.Lib.Hide
import Derived.Orders
import Derived.Conc.Own4
set_option linter.unusedSimpArgs false
set_option linter.unusedVariables false
namespace Go.Proofs.YtgdhgipofaaogaaDoor
open Go Go.RowKit Gm Go.ChangeMaps

theorem CodeAt.ch {W X : World} {p : Option Addr} {c : List Ic} {S : Nat → Prop} (h : CodeAt W p c) (hc : Ch S W X) (hS : ∀ ad, p = some ad → ¬ S ad.block) : CodeAt X p c := fun i x hx => by
  obtain ⟨g, o, h1, h2, h3, h4⟩ := h i x hx
  have hn := hS _ h1
  have hcl : ∀ q, X.cell? ⟨g, q, none⟩ = W.cell? ⟨g, q, none⟩ := fun q => hc.cell h2 hn
  exact ⟨g, o, h1, Nat.lt_of_lt_of_le h2 hc.size, ⟨(hcl _).trans h3.k, (hcl _).trans h3.o, (hcl _).trans h3.d, (hcl _).trans h3.a, (hcl _).trans h3.b, (hcl _).trans h3.n, (hcl _).trans h3.t⟩, h4⟩
def TellP (B : Nat) (own : Nat → Ob) (W : World) (g kb lb sb n rw : Nat) (F KV LV : Nat → Value) (Lf : Nat → KF) (Ld : Nat → Int → List Nat) (L : List Int) (K : Nat) (c : List Ic) (rc tg : Nat → Bool) (fr : Nat → List Nat) (Q : Nat → Int → Prop) (e : Ending) (w' : World) : Prop := ∃ (v : Value) (own' : Nat → Ob) (F' VW' : Nat → Value) (M' : Km) (RW' : Nat → List Int), e = .returned v ∧ TR B own W g kb lb sb n rw F KV LV Lf Ld L K c rc tg fr Q (fun _ _ _ => False) own' F' VW' M' [] RW' w'
theorem TR.rc' {B : Nat} {own own' : Nat → Ob} {W X : World} {g kb lb sb n rw K : Nat} {F F' KV LV VW' : Nat → Value} {M' : Km} {Lf : Nat → KF} {Ld : Nat → Int → List Nat} {PW' : List Nat} {RW' : Nat → List Int} {c : List Ic} {rc tg : Nat → Bool} {fr : Nat → List Nat} {L : List Int} {Q : Nat → Int → Prop} {Ex : Nat → Int → Nat → Prop} (h : TR B own W g kb lb sb n rw F KV LV Lf Ld L K c rc tg fr Q Ex own' F' VW' M' PW' RW' X) (hS : Stp c fr tg) {s p : Nat} {r : Int} (hm : p ∈ Ld s r) : Rc c p := by
  obtain ⟨-, q, hq, -⟩ := h.tl.ti.lq s r p hm
  obtain ⟨h1, h2⟩ := (hS.mem p q).1 hq
  exact .on h1 h2
theorem drop_one {α : Type} [Inhabited α] {l : List α} {i : Nat} (h : i < l.length) : l.drop i = l[i] :: l.drop (i + 1) := List.drop_eq_getElem_cons h
set_option maxRecDepth 100000 in
set_option maxHeartbeats 8000000 in
theorem tell_c {B : Nat} {own : Nat → Ob} {W : World} {g kb lb sb n rw K cap : Nat} {pc : Option Addr} {F KV LV VW : Nat → Value} {M : Km} {Lf : Nat → KF} {Ld : Nat → Int → List Nat} {PW : List Nat} {RW : Nat → List Int} {c : List Ic} {rc tg : Nat → Bool} {fr : Nat → List Nat} {L : List Int} {Q : Nat → Int → Prop} (hR : Hid (TR B own W g kb lb sb n rw F KV LV Lf Ld L K c rc tg fr Q (fun _ _ _ => False) own F VW M PW RW W)) (hF0 : F 0 = .slice pc n cap) (hF1 : F 1 = .slice (some ⟨sb, 0, none⟩) n n) (hC : Hid (CodeAt W pc c)) (hCo : Hid (∀ ad, pc = some ad → own ad.block = .no)) (hl : c.length = n) (hn : n ≤ 5000) (hB : B ≤ W.heap.size) (hrc : Hid (∀ p, rc p = true ↔ Rc c p)) (hS : Hid (Stp c fr tg)) (hk : Hid (Okc c)) (hK : K ≤ 400000) (hLl : L.length ≤ 1000000) (hLd : Hid (∀ s r, (Ld s r).length ≤ 1000000)) (hnd : Hid (∀ a, (nds c a).length ≤ 1000)) (hd6 : Hid (∀ a, In6 (dfn c a))) (hn6 : Hid (∀ a nd, nd ∈ nds c a → In6 nd)) : Calls Tryd.prog 22 #[.pointer (some ⟨g, 0, none⟩)] W (TellP B own W g kb lb sb n rw F KV LV Lf Ld L K c rc tg fr Q) := by
  obtain ⟨TOx, hTO⟩ : ∃ P : Nat → World → Prop, ∀ mu X, P mu X ↔ ∃ own' F' VW' M' PW' RW', TR B own W g kb lb sb n rw F KV LV Lf Ld L K c rc tg fr Q (fun _ _ _ => False) own' F' VW' M' PW' RW' X ∧ 2 * wsum n L M' + PW'.length = mu := ⟨_, fun _ _ => Iff.rfl⟩
  have HTO := Lib.hid hTO
  clear hTO
  go_enter Tryd.func22, Tryd.ntmps22
  go_wp2
  go_loopw [] (fun wr => ∃ mu, TOx mu wr) (fun wr => leastN (fun mu => TOx mu wr))
  case atStart => exact ⟨_, (HTO.out _ _).2 ⟨own, F, VW, M, PW, RW, hR.out, rfl⟩⟩
  case round =>
    obtain ⟨wo, rfl⟩ : ∃ wo : World, wo = wr := ⟨_, rfl⟩
    obtain ⟨mu0, hmu0⟩ := hrel
    obtain ⟨own1, F1, VW1, M1, PW1, RW1, hT1, hm1⟩ := (HTO.out (leastN fun mu => TOx mu wo) wo).1 (leastN_spec (P := fun mu => TOx mu wo) hmu0).1
    have HMU := Lib.hid hm1
    clear hm1 hmu0
    obtain ⟨pq, kq, eq⟩ := hT1.ta.qw.sp.form
    have hT1 := Lib.hid hT1
    cases PW1 with
    | nil =>
      have HEM : Hid (Calls Tryd.prog 39 #[.pointer (some ⟨g, 6, none⟩)] wo fun e w' => e = .returned (.bool true) ∧ w' = wo) := Lib.hid (qempty_c (Lib.hid hT1.out.ta.fv) eq (by omega))
      have hgo := hT1.out.ta.fv.lt
      clear eq
      go_wp2_with (go_at_call 39; (with_reducible refine (HEM.out).mono ?_); rintro e2 w2 ⟨rfl, hw2⟩; rw [hw2]; clear hw2 w2)
      exact bodyPost_ret (results_none rfl _ _ _) rfl ⟨_, own1, F1, VW1, M1, RW1, rfl, hT1.out⟩
    | cons a P =>
      have HEM : Hid (Calls Tryd.prog 39 #[.pointer (some ⟨g, 6, none⟩)] wo fun e w' => e = .returned (.bool false) ∧ w' = wo) := Lib.hid ((qempty_c (Lib.hid hT1.out.ta.fv) eq (by omega)).mono fun e w' ⟨h1, h2⟩ => ⟨by rw [h1]; simp, h2⟩)
      have hgo := hT1.out.ta.fv.lt
      have ha : a < n := hT1.out.tl.qi.lt a (List.mem_cons.2 (.inl rfl))
      have HRC : Hid (Rc c a) := Lib.hid (by
        obtain ⟨r, hr⟩ := List.exists_mem_of_ne_nil _ ((hT1.out.tl.qi.iff a).1 (List.mem_cons.2 (.inl rfl)))
        exact hT1.out.tl.rr a r hr)
      have HRA : Hid (rc a = true) := Lib.hid ((hrc.out a).2 HRC.out)
      have HNX : Hid (Calls Tryd.prog 40 #[.pointer (some ⟨g, 6, none⟩)] wo (NextP B own1 wo g 6 n rw F1 VW1 a P RW1)) := Lib.hid (qnext_c (Lib.hid hT1.out.ta.fv) hT1.out.ta.f7 (by omega) (Lib.hid hT1.out.ta.qw) hT1.out.ta.og ha hn)
      clear eq
      go_upto_region 1 with (go_at_call 39; (with_reducible refine (HEM.out).mono ?_); rintro e2 w2 ⟨rfl, hw2⟩; rw [hw2]; clear hw2 w2)
      go_step3
      go_upto_region 2 with (go_at_call 40; (with_reducible refine (HNX.out).mono ?_); rintro e2 w2 hp; obtain ⟨pa, ka, vP, own2, rfl, hsr2, hso2, hT2⟩ := hT1.out.next hp; have HSR2 := Lib.hid hsr2; have HSO2 := Lib.hid hso2; have HT2 := Lib.hid hT2; clear hp hsr2 hso2 hT2)
      have hsl5 := HT2.out.st.st.sl
      have hg5l := HT2.out.ta.fv.lt
      have d1 := HT2.out.ta.fv.cell (i := 1) (by omega)
      rw [HT2.out.fe 1 (by omega), hF1] at d1
      have t0 := HT2.out.st.st.r a ha
      have t1 := HT2.out.st.st.t a ha
      obtain ⟨pf, kf, t2, hvf⟩ := HT2.out.st.st.f a ha
      have t3 := HT2.out.st.st.d a ha HRA.out
      obtain ⟨pn, kn, t4, hvn⟩ := HT2.out.st.st.nn a ha HRA.out
      rw [HRA.out] at t0
      have HVN := Lib.hid hvn
      clear hvf hvn hgo
      go_upto_region 3 with (fail)
      try go_step3
      go_upto_region 3 with (fail)
      refine name_world ?_
      intro V1 hV1
      obtain ⟨m5, hm5⟩ : ∃ x, w2.heap.size = x := ⟨_, rfl⟩
      have HC6 : Hid (Ch (fun _ => False) w2 V1) := Lib.hid (by rw [hV1]; exact (Ch.refl (fun _ => False) w2).alloc _)
      obtain ⟨own3, ho3⟩ : ∃ o, ownM own2 m5 .no = o := ⟨_, rfl⟩
      have HO3 : Hid (∀ b, b < w2.heap.size → own3 b = own2 b) := Lib.hid fun b hb => by rw [← ho3]; exact ownM_of (by omega)
      have HT3 := Lib.hid (HT2.out.mem HC6.out HO3.out)
      have HRS0 : Hid (RSt B own3 V1 (.slice pa (RW1 a).length ka) (RW1 a) m5 (.bool (tg a)) (.slice pf (fr a).length kf) (dfn c a) pn kn (nds c a)) := Lib.hid ⟨HSR2.out.ch HC6.out fun _ _ h => h, fun z e => by rw [HO3.out z (HSR2.out.lt z e).2]; exact HSO2.out z e, by rw [hV1, ← hm5]; exact heap_alloc_new w2 _, by rw [← ho3]; exact ownM_at, HVN.out.ch HC6.out fun _ _ h => h, fun ad e => by
        obtain ⟨e1, e2⟩ := HT2.out.st.of _ ad _ kn (e ▸ t4)
        exact ⟨by rw [HO3.out _ e2]; exact e1, Nat.lt_of_lt_of_le e2 HC6.out.size⟩⟩
      try rw [hm5]
      obtain ⟨v1, hv1⟩ : ∃ x, Value.bool (tg a) = x := ⟨_, rfl⟩
      obtain ⟨v2, hv2⟩ : ∃ x, Value.slice pf (fr a).length kf = x := ⟨_, rfl⟩
      rw [hv1, hv2] at HRS0
      obtain ⟨RG, hRG⟩ : ∃ x, RW1 a = x := ⟨_, rfl⟩
      rw [hRG] at HRS0
      try rw [hRG]
      obtain ⟨BND, hBND⟩ : ∃ x, 2 * wsum n L M1 + P.length = x := ⟨_, rfl⟩
      have hRGl : RG.length ≤ 400000 := by have := hT1.out.tl.bd a; rw [hRG] at this; omega
      have HBL : Hid (BND < leastN (fun mu => TOx mu wo)) := Lib.hid (by rw [← HMU.out, ← hBND, List.length_cons]; omega)
      have HRK : Hid (∀ r, r ∈ RG → In6 r) := Lib.hid fun r hr => hT1.out.tl.rk a r (hRG ▸ hr)
      have HT3b : Hid (TR B own W g kb lb sb n rw F KV LV Lf Ld L K c rc tg fr Q (fun s r _ => s = a ∧ r ∈ RG.drop 0) own3 (upd F1 6 vP) (upd VW1 a (.slice none 0 0)) M1 P (fun i => if i = a then [] else RW1 i) V1) := Lib.hid (by rw [List.drop_zero, ← hRG]; exact HT3.out)
      clear hV1 hm5 t0 t1 t2 t3 t4 d1 hsl5 hg5l ho3 hv1 hv2 hRG
      go_upto_region 4 with (fail)
      go_loopw [36] (fun z wr => ∃ (i : Nat) (own2 : Nat → Ob) (F2 VW2 : Nat → Value) (M2 : Km) (PW2 : List Nat) (RW2 : Nat → List Int), z = .int .i64 i ∧ i ≤ RG.length ∧ Hid (TR B own W g kb lb sb n rw F KV LV Lf Ld L K c rc tg fr Q (fun s r _ => s = a ∧ r ∈ RG.drop i) own2 F2 VW2 M2 PW2 RW2 wr ∧ 2 * wsum n L M2 + PW2.length ≤ BND ∧ RSt B own2 wr (.slice pa RG.length ka) RG m5 v1 v2 (dfn c a) pn kn (nds c a))) (fun z _ => RG.length - (intOf z).toNat)
      case atStart => exact ⟨0, own3, _, _, M1, P, _, rfl, Nat.zero_le _, Lib.hid ⟨HT3b.out, Nat.le_of_eq hBND, HRS0.out⟩⟩
      case round =>
        obtain ⟨wi, rfl⟩ : ∃ wi : World, wi = wr := ⟨_, rfl⟩
        obtain ⟨i, own2, F2, VW2, M2, PW2, RW2, rfl, hi, HI2⟩ := hrel
        have HTR := Lib.hid HI2.out.1
        have HBN := Lib.hid HI2.out.2.1
        have HRS := Lib.hid HI2.out.2.2
        by_cases hlt : i < RG.length
        · obtain ⟨pl, kl, epl, hpl⟩ := HRS.out.sr.rv
          cases epl
          obtain ⟨gr, orr, ep, hgr, ir⟩ := hpl i hlt
          obtain ⟨x, hx⟩ : ∃ x, RG[i] = x := ⟨_, rfl⟩
          have elv : iv (fun j => RG.getD j 0) i = .int .i64 x := by
            show Value.int .i64 (RG.getD i 0) = _
            rw [List.getD_eq_getElem?_getD, List.getElem?_eq_getElem hlt, hx]
            rfl
          rw [elv] at ir
          have HXD : Hid (RG.drop i = x :: RG.drop (i + 1)) := Lib.hid (by rw [← hx]; exact List.drop_eq_getElem_cons hlt)
          have HX6 : Hid (In6 x) := Lib.hid (HRK.out x (by rw [← hx]; exact List.getElem_mem hlt))
          subst ep
          obtain ⟨bm, u3, u4⟩ := HRS.out.sb.facts
          clear elv hx hpl
          by_cases hd : x = dfn c a
          · have hdb : (x == dfn c a) = true := by simp [hd]
            have HD := Lib.hid hd
            clear hd
            obtain ⟨N, hN⟩ : ∃ N, nds c a = N := ⟨_, rfl⟩
            rw [hN] at u4
            have HNE := Lib.hid hN
            have HNL : Hid (N.length ≤ 1000) := Lib.hid (hN ▸ hnd.out a)
            have HNR : Hid (RV wi pn N.length (iv fun j => N.getD j 0)) := Lib.hid (by rw [← hN]; exact HRS.out.rn)
            clear hN
            have hnl := HNL.out
            go_upto_region 8 with (fail)
            go_loopw [47] (fun z wr => ∃ (j : Nat), z = .int .i64 j ∧ j ≤ N.length ∧ Hid (Ch (fun _ => False) wi wr ∧ ∀ nd, nd ∈ N.take j → ¬ unt M2 a nd)) (fun z _ => N.length - (intOf z).toNat)
            case atStart => exact ⟨0, rfl, Nat.zero_le _, Lib.hid ⟨Ch.refl _ _, fun nd h => by cases h⟩⟩
            case round =>
              obtain ⟨wj, rfl⟩ : ∃ wj : World, wj = wr := ⟨_, rfl⟩
              obtain ⟨j, rfl, hj, HJ⟩ := hrel
              have HTJ := Lib.hid (HTR.out.mem HJ.out.1 fun _ _ => rfl)
              have HRJ := Lib.hid (HRS.out.ch HJ.out.1 (fun _ _ => rfl) fun _ _ h => h)
              by_cases hltj : j < N.length
              · obtain ⟨gm, om, ep2, hgm, jr⟩ := (HNR.out.ch HJ.out.1 fun _ _ h => h) j hltj
                obtain ⟨nd, hnd2⟩ : ∃ x, N[j] = x := ⟨_, rfl⟩
                have elv : iv (fun j => N.getD j 0) j = .int .i64 nd := by
                  show Value.int .i64 (N.getD j 0) = _
                  rw [List.getD_eq_getElem?_getD, List.getElem?_eq_getElem hltj, hnd2]
                  rfl
                rw [elv] at jr
                have hnm : nd ∈ nds c a := by rw [HNE.out, ← hnd2]; exact List.getElem_mem hltj
                have HNT : Hid (N.take (j + 1) = N.take j ++ [nd]) := Lib.hid (by rw [List.take_add_one, List.getElem?_eq_getElem hltj, hnd2]; rfl)
                have HNM := Lib.hid hnm
                subst ep2
                have hgj := HTJ.out.ta.fv.lt
                have g2 := HTJ.out.ta.fv.cell (i := 2) (by omega)
                rw [HTJ.out.ta.f2] at g2
                have hkbj := HTJ.out.ta.km.fv.lt
                have gk2 := HTJ.out.ta.km.fv.cell ha
                have hlk2 := HTJ.out.ta.km.look2 ha (hn6.out a nd hnm)
                obtain ⟨kva, hkva⟩ : ∃ z, KV a = z := ⟨_, rfl⟩
                rw [hkva] at gk2 hlk2
                clear elv hnd2 hkva hnm
                have hcase : (∃ m, M2 a nd = some (m, false)) ∨ (M2 a nd = none ∨ ∃ m, M2 a nd = some (m, true)) := by
                  cases M2 a nd with
                  | none => exact .inr (.inl rfl)
                  | some v => obtain ⟨m, t⟩ := v; cases t with
                    | false => exact .inl ⟨m, rfl⟩
                    | true => exact .inr (.inr ⟨m, rfl⟩)
                rcases hcase with ⟨m, hM⟩ | hM | ⟨m, hM⟩
                · have hk2 : kmv M2 a nd = (m, false) := by unfold kmv; rw [hM]; rfl
                  rw [hM, hk2] at hlk2
                  simp only [Option.isSome] at hlk2
                  have HMM := Lib.hid hM
                  clear hM hk2
                  go_wp2
                  go_roundw
                  case rel =>
                    have hce : Ch (fun _ => False) wi (wj.alloc (.cells #[.int .i64 m, .bool false] 98)) := HJ.out.1.alloc _
                    exact ⟨i + 1, own2, F2, VW2, M2, PW2, RW2, by go_num, by omega, Lib.hid ⟨(HTR.out.mem hce fun _ _ => rfl).to (HTR.out.tl.weak (fun s r p hm hx => by
                      obtain ⟨rfl, hx⟩ := hx
                      rw [HXD.out] at hx
                      rcases List.mem_cons.1 hx with rfl | hx
                      · exact .inr (.inr (.inl ⟨HD.out.symm, nd, HNM.out, m, HMM.out⟩))
                      · exact .inr (.inl ⟨rfl, hx⟩)) fun s r p hx => HTR.out.tl.nb s r p (.inr ⟨hx.1, by rw [HXD.out]; exact List.mem_cons.2 (.inr hx.2)⟩)), HBN.out, HRS.out.ch hce (fun _ _ => rfl) fun _ _ h => h⟩⟩
                  case measure => (simp [intOf]; try omega)
                · have hk2 : kmv M2 a nd = (0, false) := by unfold kmv; rw [hM]; rfl
                  rw [hM, hk2] at hlk2
                  simp only [Option.isSome] at hlk2
                  have HMM := Lib.hid hM
                  clear hM hk2
                  go_wp2
                  go_roundw
                  case rel =>
                    refine ⟨j + 1, by go_num, by omega, Lib.hid ⟨HJ.out.1.alloc _, fun z hz => ?_⟩⟩
                    rw [HNT.out] at hz
                    rcases List.mem_append.1 hz with hz | hz
                    · exact HJ.out.2 z hz
                    · rw [show z = nd by simpa using hz]
                      rintro ⟨m, hm⟩
                      rw [HMM.out] at hm
                      cases hm
                  case measure => (simp [intOf]; try omega)
                · have hk2 : kmv M2 a nd = (m, true) := by unfold kmv; rw [hM]; rfl
                  rw [hM, hk2] at hlk2
                  simp only [Option.isSome] at hlk2
                  have HMM := Lib.hid hM
                  clear hM hk2
                  go_wp2
                  go_roundw
                  case rel =>
                    refine ⟨j + 1, by go_num, by omega, Lib.hid ⟨HJ.out.1.alloc _, fun z hz => ?_⟩⟩
                    rw [HNT.out] at hz
                    rcases List.mem_append.1 hz with hz | hz
                    · exact HJ.out.2 z hz
                    · rw [show z = nd by simpa using hz]
                      rintro ⟨m, hm⟩
                      rw [HMM.out] at hm
                      cases hm
                  case measure => (simp [intOf]; try omega)
              · obtain rfl : j = N.length := by omega
                have HBK : Hid (¬ Blk c M2 a x) := Lib.hid (by
                  rintro (⟨-, nd, h1, h2⟩ | ⟨h, -⟩)
                  · exact HJ.out.2 nd (by rw [List.take_length, ← HNE.out]; exact h1) h2
                  · exact h HD.out.symm)
                clear hnl u3 u4 bm
                have HBC : Hid (CodeAt wj pc c) := Lib.hid (hC.out.ch HTJ.out.ch fun ad e => TS.no (hCo.out ad e))
                have hxa : c[a]? = some c[a] := List.getElem?_eq_getElem (by rw [hl]; exact ha)
                have HBH : Hid (Calls Tryd.prog 44 #[.pointer (some ⟨g, 0, none⟩), .int .i64 a, .int .i64 x] wj (BhdP wj c M2 a x)) := Lib.hid (behind_c (Lib.hid HTJ.out.ta.fv) ((HTJ.out.fe 0 (by omega)).trans hF0) ((HTJ.out.fe 1 (by omega)).trans hF1) HTJ.out.ta.f2 (Lib.hid HTJ.out.ta.km) HBC hxa ha hn HX6.out HTJ.out.st.st.sl (HTJ.out.st.st.d a ha HRA.out))
                clear hxa
                go_upto_region 14 with (go_at_call 44; (with_reducible refine (HBH.out).mono ?_); rintro e3 w3 ⟨nn, tt, rfl, hbx, hb3⟩; have HBX := Lib.hid hbx; have HB3 := Lib.hid hb3; clear hbx hb3)
                have HC3 : Hid (Ch (fun _ => False) wj w3) := Lib.hid (Ch.of HB3.out)
                have HTR3 := Lib.hid (HTJ.out.mem HC3.out fun _ _ => rfl)
                have HRS3 := Lib.hid (HRJ.out.ch HC3.out (fun _ _ => rfl) fun _ _ h => h)
                have hg3 := HTR3.out.ta.fv.lt
                have g3 := HTR3.out.ta.fv.cell (i := 3) (by omega)
                rw [HTR3.out.ta.f3] at g3
                have hlb3 := HTR3.out.ta.lm.fv.lt
                have gl3 := HTR3.out.ta.lm.fv.cell ha
                have hlk3 := HTR3.out.ta.lm.look ha HX6.out
                obtain ⟨p0, k0, e0⟩ := (HTR3.out.ta.lm.row ha x).1.form
                rw [List.length_map] at e0
                rw [e0] at hlk3
                have HE0 := Lib.hid e0
                obtain ⟨lva, hlva⟩ : ∃ z, LV a = z := ⟨_, rfl⟩
                rw [hlva] at gl3 hlk3
                obtain ⟨LD, hLD⟩ : ∃ z, Ld a x = z := ⟨_, rfl⟩
                rw [hLD] at hlk3 e0 HE0
                have HLD := Lib.hid hLD
                have hLDl : LD.length ≤ 1000000 := by rw [← hLD]; exact hLd.out a x
                clear e0 hlva hLD
                have HU : Hid (∀ p, p ∈ LD → ∀ G, Cons c G → ∀ m, G p x = some m → boK nn tt = some m) := Lib.hid fun p hp G hG m hm => by
                  have h1 := HTJ.out.tl.ti.upper hS.out hk.out (HLD.out ▸ hp) HBK.out hG hm
                  rw [HBX.out] at h1
                  exact h1
                have HTL : Hid (TL c fr tg Q Ld L n K M2 PW2 RW2 (fun s r p => (s = a ∧ r ∈ RG.drop (i + 1)) ∨ (s = a ∧ r = x ∧ p ∈ LD.drop 0))) := Lib.hid (HTJ.out.tl.weak (fun s r p hm hx => by
                  obtain ⟨rfl, hx⟩ := hx
                  rw [HXD.out] at hx
                  rcases List.mem_cons.1 hx with rfl | hx
                  · exact .inr (.inl (.inr ⟨rfl, rfl, by rw [← HLD.out]; exact hm⟩))
                  · exact .inr (.inl (.inl ⟨rfl, hx⟩))) fun s r p hx => by
                  rcases hx with ⟨rfl, hx⟩ | ⟨rfl, rfl, -⟩
                  · exact HTJ.out.tl.nb s r p (.inr ⟨rfl, by rw [HXD.out]; exact List.mem_cons.2 (.inr hx)⟩)
                  · exact HTJ.out.tl.nb s r p (.inr ⟨rfl, by rw [HXD.out]; exact List.mem_cons.2 (.inl rfl)⟩))
                have HTR4 := Lib.hid (HTR3.out.to HTL.out)
                go_upto_region 15 with (fail)
                go_loopw [87] (fun z wr => ∃ (k : Nat) (own3 : Nat → Ob) (F3 VW3 : Nat → Value) (M3 : Km) (PW3 : List Nat) (RW3 : Nat → List Int), z = .int .i64 k ∧ k ≤ LD.length ∧ Hid (TR B own W g kb lb sb n rw F KV LV Lf Ld L K c rc tg fr Q (fun s r p => (s = a ∧ r ∈ RG.drop (i + 1)) ∨ (s = a ∧ r = x ∧ p ∈ LD.drop k)) own3 F3 VW3 M3 PW3 RW3 wr ∧ ((x ∈ RW3 a ∨ x ∈ RG.drop (i + 1)) ∨ bX c M3 a x = boK nn tt) ∧ 2 * wsum n L M3 + PW3.length ≤ BND ∧ RSt B own3 wr (.slice (some ⟨gr, orr, none⟩) RG.length ka) RG m5 v1 v2 (dfn c a) pn kn (nds c a))) (fun z _ => LD.length - (intOf z).toNat)
                case atStart => exact ⟨0, own2, F2, VW2, M2, PW2, RW2, rfl, Nat.zero_le _, Lib.hid ⟨HTR4.out, .inr HBX.out, HBN.out, HRS3.out⟩⟩
                case round =>
                  obtain ⟨wo4, rfl⟩ : ∃ wo4 : World, wo4 = wr := ⟨_, rfl⟩
                  obtain ⟨k, own3, F3, VW3, M3, PW3, RW3, rfl, hkl, HI⟩ := hrel
                  by_cases hlt4 : k < LD.length
                  · obtain ⟨pl, kl, epl, hpl⟩ := (HI.out.1.ta.lm.row ha x).1.rv
                    rw [HE0.out, HLD.out, List.length_map] at epl
                    cases epl
                    rw [HLD.out, List.length_map] at hpl
                    obtain ⟨gn, on, ep, hgn, ir⟩ := hpl k hlt4
                    subst ep
                    obtain ⟨p, hp⟩ : ∃ p, LD[k] = p := ⟨_, rfl⟩
                    have elv : iv (fun j => (List.map Int.ofNat LD).getD j 0) k = .int .i64 (p : Int) := by
                      show Value.int .i64 ((List.map Int.ofNat LD).getD k 0) = _
                      rw [List.getD_eq_getElem?_getD, List.getElem?_map, List.getElem?_eq_getElem hlt4, hp]
                      rfl
                    rw [elv] at ir
                    have HPD : Hid (LD.drop k = p :: LD.drop (k + 1)) := Lib.hid (by rw [← hp]; exact List.drop_eq_getElem_cons hlt4)
                    have HPM : Hid (p ∈ Ld a x) := Lib.hid (by rw [HLD.out, ← hp]; exact List.getElem_mem hlt4)
                    have HPR : Hid (Rc c p) := Lib.hid (HI.out.1.rc' hS.out HPM.out)
                    have hpn : p < n := by rw [← hl]; exact HPR.out.lt
                    have HCM : Hid (Calls Tryd.prog 45 #[.pointer (some ⟨g, 0, none⟩), .int .i64 p, .int .i64 x, .int .i64 nn, .bool tt] wo4 (ComeP B own3 wo4 g kb lb n rw F3 KV LV M3 Lf Ld PW3 RW3 c tg p x (boK nn tt))) := Lib.hid (come_c (L := L) (Lib.hid HI.out.1.ta) ((HI.out.1.fe 1 (by omega)).trans hF1) (Lib.hid HI.out.1.st) ((hrc.out p).2 HPR.out) hpn hn HX6.out (Nat.le_trans hB HI.out.1.ch.size) (by have := HI.out.1.tl.qi.len; omega) (by have := HI.out.1.tl.bd p; omega) (Lib.hid fun s hs => (HI.out.1.tl.ml p s hs).2) hLl (hnd.out p) nn tt)
                    clear elv hp hpl hpn
                    go_wp2_with (go_at_call 45; (with_reducible refine (HCM.out).mono ?_); rintro e5 w5 hp; obtain ⟨v0, rfl⟩ : ∃ v0, e5 = .returned v0 := (by obtain ⟨v0, _, _, _, h, _⟩ := hp; exact ⟨v0, h⟩); have HP := Lib.hid hp; clear hp)
                    go_roundw
                    case rel =>
                      have hT0 := HI.out.1
                      rw [HPD.out] at hT0
                      obtain ⟨vv, own4, F4, VW4, PW4, RW4, -, q1, q2, q3, q4, q5⟩ := TR.come (E := fun s r => s = a ∧ r ∈ RG.drop (i + 1)) (s := a) (rest := LD.drop (k + 1)) hT0 HP.out hk.out hd6.out HX6.out (by rw [← hl]; exact HPR.out.lt) HPR.out HPM.out (HU.out p (by rw [← HLD.out]; exact HPM.out)) (HI.out.2.1.imp (fun h => h.imp id fun h => ⟨rfl, h⟩) id) (fun s t hx => hT0.tl.nb s t p (.inr (.inl hx))) (hT0.tl.nb a x p (.inr (.inr ⟨rfl, rfl, List.mem_cons.2 (.inl rfl)⟩)))
                      exact ⟨k + 1, own4, F4, VW4, _, PW4, RW4, by go_num, by omega, Lib.hid ⟨q3, q4.imp (fun h => h.imp id And.right) id, Nat.le_trans q5 HI.out.2.2.1, HI.out.2.2.2.ch q2 q1 fun b e => TS.no e⟩⟩
                    case measure => (simp [intOf]; try omega)
                  · obtain rfl : k = LD.length := by omega
                    go_wp2
                    go_roundw
                    case rel =>
                      exact ⟨i + 1, own3, F3, VW3, M3, PW3, RW3, by go_num, by omega, Lib.hid ⟨HI.out.1.to (HI.out.1.tl.weak (fun s r p hm hx => by
                        rcases hx with hx | ⟨-, -, hx⟩
                        · exact .inr (.inl hx)
                        · rw [List.drop_length] at hx; cases hx) fun s r p hx => HI.out.1.tl.nb s r p (.inr (.inl hx))), HI.out.2.2.1, HI.out.2.2.2⟩⟩
                    case measure => (simp [intOf]; try omega)
          · have hdb : (x == dfn c a) = false := by simp [hd]
            have HBK : Hid (¬ Blk c M2 a x) := Lib.hid (by
              have hnb := HTR.out.tl.nb a x 0 (.inr ⟨rfl, by rw [HXD.out]; exact List.mem_cons.2 (.inl rfl)⟩)
              rintro (⟨h, -⟩ | ⟨-, h⟩)
              · exact hd h.symm
              · exact hnb.elim (fun h => hd h.symm) fun k => k h)
            clear hd
            have HBC : Hid (CodeAt wi pc c) := Lib.hid (hC.out.ch HTR.out.ch fun ad e => TS.no (hCo.out ad e))
            have hxa : c[a]? = some c[a] := List.getElem?_eq_getElem (by rw [hl]; exact ha)
            have HBH : Hid (Calls Tryd.prog 44 #[.pointer (some ⟨g, 0, none⟩), .int .i64 a, .int .i64 x] wi (BhdP wi c M2 a x)) := Lib.hid (behind_c (Lib.hid HTR.out.ta.fv) ((HTR.out.fe 0 (by omega)).trans hF0) ((HTR.out.fe 1 (by omega)).trans hF1) HTR.out.ta.f2 (Lib.hid HTR.out.ta.km) HBC hxa ha hn HX6.out HTR.out.st.st.sl (HTR.out.st.st.d a ha HRA.out))
            clear hxa
            go_upto_region 14 with (go_at_call 44; (with_reducible refine (HBH.out).mono ?_); rintro e3 w3 ⟨nn, tt, rfl, hbx, hb3⟩; have HBX := Lib.hid hbx; have HB3 := Lib.hid hb3; clear hbx hb3)
            have HC3 : Hid (Ch (fun _ => False) wi w3) := Lib.hid (Ch.of HB3.out)
            have HTR3 := Lib.hid (HTR.out.mem HC3.out fun _ _ => rfl)
            have HRS3 := Lib.hid (HRS.out.ch HC3.out (fun _ _ => rfl) fun _ _ h => h)
            have hg3 := HTR3.out.ta.fv.lt
            have g3 := HTR3.out.ta.fv.cell (i := 3) (by omega)
            rw [HTR3.out.ta.f3] at g3
            have hlb3 := HTR3.out.ta.lm.fv.lt
            have gl3 := HTR3.out.ta.lm.fv.cell ha
            have hlk3 := HTR3.out.ta.lm.look ha HX6.out
            obtain ⟨p0, k0, e0⟩ := (HTR3.out.ta.lm.row ha x).1.form
            rw [List.length_map] at e0
            rw [e0] at hlk3
            have HE0 := Lib.hid e0
            obtain ⟨lva, hlva⟩ : ∃ z, LV a = z := ⟨_, rfl⟩
            rw [hlva] at gl3 hlk3
            obtain ⟨LD, hLD⟩ : ∃ z, Ld a x = z := ⟨_, rfl⟩
            rw [hLD] at hlk3 e0 HE0
            have HLD := Lib.hid hLD
            have hLDl : LD.length ≤ 1000000 := by rw [← hLD]; exact hLd.out a x
            clear e0 hlva hLD
            have HU : Hid (∀ p, p ∈ LD → ∀ G, Cons c G → ∀ m, G p x = some m → boK nn tt = some m) := Lib.hid fun p hp G hG m hm => by
              have h1 := HTR.out.tl.ti.upper hS.out hk.out (HLD.out ▸ hp) HBK.out hG hm
              rw [HBX.out] at h1
              exact h1
            have HTL : Hid (TL c fr tg Q Ld L n K M2 PW2 RW2 (fun s r p => (s = a ∧ r ∈ RG.drop (i + 1)) ∨ (s = a ∧ r = x ∧ p ∈ LD.drop 0))) := Lib.hid (HTR.out.tl.weak (fun s r p hm hx => by
              obtain ⟨rfl, hx⟩ := hx
              rw [HXD.out] at hx
              rcases List.mem_cons.1 hx with rfl | hx
              · exact .inr (.inl (.inr ⟨rfl, rfl, by rw [← HLD.out]; exact hm⟩))
              · exact .inr (.inl (.inl ⟨rfl, hx⟩))) fun s r p hx => by
              rcases hx with ⟨rfl, hx⟩ | ⟨rfl, rfl, -⟩
              · exact HTR.out.tl.nb s r p (.inr ⟨rfl, by rw [HXD.out]; exact List.mem_cons.2 (.inr hx)⟩)
              · exact HTR.out.tl.nb s r p (.inr ⟨rfl, by rw [HXD.out]; exact List.mem_cons.2 (.inl rfl)⟩))
            have HTR4 := Lib.hid (HTR3.out.to HTL.out)
            go_upto_region 15 with (fail)
            go_loopw [87] (fun z wr => ∃ (k : Nat) (own3 : Nat → Ob) (F3 VW3 : Nat → Value) (M3 : Km) (PW3 : List Nat) (RW3 : Nat → List Int), z = .int .i64 k ∧ k ≤ LD.length ∧ Hid (TR B own W g kb lb sb n rw F KV LV Lf Ld L K c rc tg fr Q (fun s r p => (s = a ∧ r ∈ RG.drop (i + 1)) ∨ (s = a ∧ r = x ∧ p ∈ LD.drop k)) own3 F3 VW3 M3 PW3 RW3 wr ∧ ((x ∈ RW3 a ∨ x ∈ RG.drop (i + 1)) ∨ bX c M3 a x = boK nn tt) ∧ 2 * wsum n L M3 + PW3.length ≤ BND ∧ RSt B own3 wr (.slice (some ⟨gr, orr, none⟩) RG.length ka) RG m5 v1 v2 (dfn c a) pn kn (nds c a))) (fun z _ => LD.length - (intOf z).toNat)
            case atStart => exact ⟨0, own2, F2, VW2, M2, PW2, RW2, rfl, Nat.zero_le _, Lib.hid ⟨HTR4.out, .inr HBX.out, HBN.out, HRS3.out⟩⟩
            case round =>
              obtain ⟨wo4, rfl⟩ : ∃ wo4 : World, wo4 = wr := ⟨_, rfl⟩
              obtain ⟨k, own3, F3, VW3, M3, PW3, RW3, rfl, hkl, HI⟩ := hrel
              by_cases hlt4 : k < LD.length
              · obtain ⟨pl, kl, epl, hpl⟩ := (HI.out.1.ta.lm.row ha x).1.rv
                rw [HE0.out, HLD.out, List.length_map] at epl
                cases epl
                rw [HLD.out, List.length_map] at hpl
                obtain ⟨gn, on, ep, hgn, ir⟩ := hpl k hlt4
                subst ep
                obtain ⟨p, hp⟩ : ∃ p, LD[k] = p := ⟨_, rfl⟩
                have elv : iv (fun j => (List.map Int.ofNat LD).getD j 0) k = .int .i64 (p : Int) := by
                  show Value.int .i64 ((List.map Int.ofNat LD).getD k 0) = _
                  rw [List.getD_eq_getElem?_getD, List.getElem?_map, List.getElem?_eq_getElem hlt4, hp]
                  rfl
                rw [elv] at ir
                have HPD : Hid (LD.drop k = p :: LD.drop (k + 1)) := Lib.hid (by rw [← hp]; exact List.drop_eq_getElem_cons hlt4)
                have HPM : Hid (p ∈ Ld a x) := Lib.hid (by rw [HLD.out, ← hp]; exact List.getElem_mem hlt4)
                have HPR : Hid (Rc c p) := Lib.hid (HI.out.1.rc' hS.out HPM.out)
                have hpn : p < n := by rw [← hl]; exact HPR.out.lt
                have HCM : Hid (Calls Tryd.prog 45 #[.pointer (some ⟨g, 0, none⟩), .int .i64 p, .int .i64 x, .int .i64 nn, .bool tt] wo4 (ComeP B own3 wo4 g kb lb n rw F3 KV LV M3 Lf Ld PW3 RW3 c tg p x (boK nn tt))) := Lib.hid (come_c (L := L) (Lib.hid HI.out.1.ta) ((HI.out.1.fe 1 (by omega)).trans hF1) (Lib.hid HI.out.1.st) ((hrc.out p).2 HPR.out) hpn hn HX6.out (Nat.le_trans hB HI.out.1.ch.size) (by have := HI.out.1.tl.qi.len; omega) (by have := HI.out.1.tl.bd p; omega) (Lib.hid fun s hs => (HI.out.1.tl.ml p s hs).2) hLl (hnd.out p) nn tt)
                clear elv hp hpl hpn
                go_wp2_with (go_at_call 45; (with_reducible refine (HCM.out).mono ?_); rintro e5 w5 hp; obtain ⟨v0, rfl⟩ : ∃ v0, e5 = .returned v0 := (by obtain ⟨v0, _, _, _, h, _⟩ := hp; exact ⟨v0, h⟩); have HP := Lib.hid hp; clear hp)
                go_roundw
                case rel =>
                  have hT0 := HI.out.1
                  rw [HPD.out] at hT0
                  obtain ⟨vv, own4, F4, VW4, PW4, RW4, -, q1, q2, q3, q4, q5⟩ := TR.come (E := fun s r => s = a ∧ r ∈ RG.drop (i + 1)) (s := a) (rest := LD.drop (k + 1)) hT0 HP.out hk.out hd6.out HX6.out (by rw [← hl]; exact HPR.out.lt) HPR.out HPM.out (HU.out p (by rw [← HLD.out]; exact HPM.out)) (HI.out.2.1.imp (fun h => h.imp id fun h => ⟨rfl, h⟩) id) (fun s t hx => hT0.tl.nb s t p (.inr (.inl hx))) (hT0.tl.nb a x p (.inr (.inr ⟨rfl, rfl, List.mem_cons.2 (.inl rfl)⟩)))
                  exact ⟨k + 1, own4, F4, VW4, _, PW4, RW4, by go_num, by omega, Lib.hid ⟨q3, q4.imp (fun h => h.imp id And.right) id, Nat.le_trans q5 HI.out.2.2.1, HI.out.2.2.2.ch q2 q1 fun b e => TS.no e⟩⟩
                case measure => (simp [intOf]; try omega)
              · obtain rfl : k = LD.length := by omega
                go_wp2
                go_roundw
                case rel =>
                  exact ⟨i + 1, own3, F3, VW3, M3, PW3, RW3, by go_num, by omega, Lib.hid ⟨HI.out.1.to (HI.out.1.tl.weak (fun s r p hm hx => by
                    rcases hx with hx | ⟨-, -, hx⟩
                    · exact .inr (.inl hx)
                    · rw [List.drop_length] at hx; cases hx) fun s r p hx => HI.out.1.tl.nb s r p (.inr (.inl hx))), HI.out.2.2.1, HI.out.2.2.2⟩⟩
                case measure => (simp [intOf]; try omega)
        · obtain rfl : i = RG.length := by omega
          have HX : Hid (TOx (2 * wsum n L M2 + PW2.length) wi) := Lib.hid ((HTO.out _ _).2 ⟨own2, F2, VW2, M2, PW2, RW2, HTR.out.to (HTR.out.tl.weak (fun s r p _ hx => by rw [List.drop_length] at hx; cases hx.2) fun s r p hx => hx.elim), rfl⟩)
          go_wp2
          go_roundw
          case rel =>
            (repeat apply Exists.intro)
            exact ⟨⟨_, HX.out⟩, rfl⟩
          case measure =>
            have h1 := (leastN_spec (P := fun mu => TOx mu wi) HX.out).2 _ HX.out
            have h2 := HBN.out
            have h3 := HBL.out
            omega
end Go.Proofs.YtgdhgipofaaogaaDoor
namespace Go.Proofs.YtgdhgipofaaogaaDoor
open Go Go.RowKit Gm

def ndx (x : Ic) : List Int := if x.k = 1 ∨ x.k = 2 ∨ x.k = 3 then usesM x else []
theorem own_mono {B B' e size n : Nat} {W : World} {v : Value} {xs : List Value} (h : W.ownsRow B e size v n xs) (hb : B' ≤ B) : W.ownsRow B' e size v n xs := by
  refine ⟨h.1, ?_⟩
  rcases h.2 with h0 | ⟨g, cap, cur, hv, hB, r⟩
  · exact .inl h0
  · exact .inr ⟨g, cap, cur, hv, Nat.le_trans hb hB, r⟩
set_option maxRecDepth 100000 in
set_option maxHeartbeats 2000000 in
theorem needs_c (x : Ic) (w : World) (T : Kinds w) : Calls Tryd.prog 60 #[.agg #[.int .i64 x.k, .int .i64 x.o, .int .i64 x.d, .int .i64 x.a, .int .i64 x.b, .int .i64 x.n, .int .i64 x.t]] w (RowP w (ndx x)) := by
  have HT := Lib.hid T
  clear T
  go_enter Tryd.func60, Tryd.ntmps60
  go_upto_region 1 with (fail)
  refine name_world ?_
  intro V1 hV1
  obtain ⟨m, hm⟩ : ∃ m, w.heap.size = m := ⟨_, rfl⟩
  have HI : Hid (Ib V1 m (.int .i64 x.k) (.int .i64 x.o) (.int .i64 x.d) (.int .i64 x.a) (.int .i64 x.b) (.int .i64 x.n) (.int .i64 x.t)) := Lib.hid (by rw [hV1]; exact Ib.new hm.symm _ _ _ _ _ _ _)
  have HB1 : Hid (Below w.heap.size w V1) := Lib.hid (by rw [hV1]; exact below1 _ _)
  obtain ⟨bm, y0, y1, y2, y3, y4, y5, y6, -⟩ := HI.out.facts
  try rw [hm]
  clear hV1
  have HU := Lib.hid (uses_any x V1 (HT.out.below HB1.out))
  have HEND : Hid (∀ e w', RowP V1 (usesM x) e w' → (x.k = 1 ∨ x.k = 2 ∨ x.k = 3) → RowP w (ndx x) e w') := Lib.hid fun e w' ⟨v, he, hr, hb⟩ hk => by
    refine ⟨v, he, ?_, HB1.out.trans (hb.mono HB1.out.size)⟩
    unfold ndx
    rw [if_pos hk]
    exact own_mono hr HB1.out.size
  by_cases k1 : x.k = 1
  · rw [k1] at y0 HU
    have HK := Lib.hid (HEND.out · · · (.inl k1))
    go_wp2_with (go_at_call 25; (with_reducible refine HU.out.mono ?_); rintro e2 w2 hr2; have HR := Lib.hid (HK.out _ _ hr2); obtain ⟨v2, rfl, -, -⟩ := hr2)
    go_ret
    exact HR.out
  have e1 : (x.k == 1) = false := by simp [k1]
  by_cases k2 : x.k = 2
  · rw [k2] at y0 HU
    have HK := Lib.hid (HEND.out · · · (.inr (.inl k2)))
    go_wp2_with (go_at_call 25; (with_reducible refine HU.out.mono ?_); rintro e2 w2 hr2; have HR := Lib.hid (HK.out _ _ hr2); obtain ⟨v2, rfl, -, -⟩ := hr2)
    go_ret
    exact HR.out
  have e2 : (x.k == 2) = false := by simp [k2]
  by_cases k3 : x.k = 3
  · rw [k3] at y0 HU
    have HK := Lib.hid (HEND.out · · · (.inr (.inr k3)))
    go_wp2_with (go_at_call 25; (with_reducible refine HU.out.mono ?_); rintro e2 w2 hr2; have HR := Lib.hid (HK.out _ _ hr2); obtain ⟨v2, rfl, -, -⟩ := hr2)
    go_ret
    exact HR.out
  have e3 : (x.k == 3) = false := by simp [k3]
  have HN : Hid (ndx x = []) := Lib.hid (if_neg (by omega))
  go_wp2
  go_ret
  have hend : ∀ X, Below w.heap.size w X → RowP w (ndx x) (.returned (.slice none 0 0)) X := fun X hX => ⟨_, rfl, by rw [HN.out]; exact Rw.nil _ _, hX⟩
  exact hend _ HB1.out
end Go.Proofs.YtgdhgipofaaogaaDoor
namespace Go.Proofs.YtgdhgipofaaogaaDoor
open Go Go.RowKit Gm

theorem Kinds.ch {w w' : World} {S : Nat → Prop} (T : Kinds w) (hc : Ch S w w') (hn : ¬ S 0) : Kinds w' where
  size := Nat.lt_of_lt_of_le T.size hc.size
  name := fun k hk => (hc.cell T.size hn).trans (T.name k hk)
  part := fun k j hk hj => (hc.cell T.size hn).trans (T.part k j hk hj)
  keep := fun k hk => (hc.cell T.size hn).trans (T.keep k hk)
  ends := fun k hk => (hc.cell T.size hn).trans (T.ends k hk)
/-- Whose a block is. -/
inductive Os where
  | no | v | sb | wt | nd | fr (i : Nat)
  deriving DecidableEq
def tagO (own : Nat → Os) (C : Nat) (t : Os) : Nat → Os := fun b => if C ≤ b then t else own b
theorem tagO_lt {own : Nat → Os} {C b : Nat} {t : Os} (h : b < C) : tagO own C t b = own b := if_neg (by omega)
theorem tagO_ge {own : Nat → Os} {C b : Nat} {t : Os} (h : C ≤ b) : tagO own C t b = t := if_pos h
/-- A block of ints. -/
def TyI (W : World) (b : Nat) : Prop := ∃ cs f, W.heap[b]? = some (.cells cs 3 f)
theorem TyI.ch {W X : World} {b : Nat} {S : Nat → Prop} (h : TyI W b) (hc : Ch S W X) (hn : ¬ S b) : TyI X b := by
  obtain ⟨cs, f, e⟩ := h
  exact ⟨cs, f, (hc.block b (Array.getElem?_eq_some_iff.1 e).1 hn).trans e⟩
theorem SR.ty {B g : Nat} {W : World} {v : Value} {l : List Int} (h : SR B W v l) (e : v.ownBlock = some g) : TyI W g := by
  rcases h with ⟨rfl, -⟩ | ⟨g', o, cap, cur, rfl, -, hg, -⟩
  · cases e
  · obtain rfl : g' = g := by simpa [Value.ownBlock] using e
    exact ⟨_, _, hg⟩
structure SW (B : Nat) (own : Nat → Os) (W : World) (sb n : Nat) (c : List Ic) (rc tg : Nat → Bool) (fr : Nat → List Nat) (G : Nat → Value) (bl bc bw : Nat) (pc : Option Addr) (cap : Nat) (vw : Value) (wt : List Nat) : Prop where
  ol : own bl = .v
  oc : own bc = .v
  ow : own bw = .v
  lw : bl ≠ bw
  cw : bc ≠ bw
  lc : bl ≠ bc
  os : own sb = .sb
  vl : FV 61 W bl 1 (fun _ => .slice (some ⟨sb, 0, none⟩) n n)
  vc : FV 28 W bc 1 (fun _ => .slice pc n cap)
  xw : FV 64 W bw 1 (fun _ => vw)
  wr : SR B W vw (wt.map Int.ofNat)
  wo : ∀ z, vw.ownBlock = some z → own z = .wt
  fv : FV 75 W sb (n * 5) G
  gr : ∀ i, i < n → G (i * 5) = .bool (rc i)
  gt : ∀ i, i < n → G (i * 5 + 1) = .bool (tg i)
  gf : ∀ i, i < n → SR B W (G (i * 5 + 2)) ((fr i).map Int.ofNat) ∧ ∀ z, (G (i * 5 + 2)).ownBlock = some z → own z = .fr i
  gd : ∀ i, i < n → rc i = true → G (i * 5 + 3) = .int .i64 (dfn c i)
  gi : ∀ i, i < n → ∃ d, G (i * 5 + 3) = .int .i64 d
  gn : ∀ i, i < n → (∃ p cap, G (i * 5 + 4) = .slice p (nds c i).length cap ∧ RV W p (nds c i).length (iv fun j => (nds c i).getD j 0) ∧ ∀ ad, p = some ad → own ad.block = .nd ∧ B ≤ ad.block ∧ ad.block < W.heap.size ∧ TyI W ad.block) ∨ (rc i = false ∧ G (i * 5 + 4) = .slice none 0 0)
section
variable {B : Nat} {own own' : Nat → Os} {W X : World} {sb n a cap : Nat} {c : List Ic} {rc tg : Nat → Bool} {fr : Nat → List Nat} {G : Nat → Value} {bl bc bw : Nat} {pc : Option Addr} {vw v' : Value} {wt : List Nat} {S : Nat → Prop}
theorem SW.ch (h : SW B own W sb n c rc tg fr G bl bc bw pc cap vw wt) (hc : Ch S W X) (ho : ∀ b, b < W.heap.size → own' b = own b) (hS : ∀ b, own b ≠ .no → ¬ S b) : SW B own' X sb n c rc tg fr G bl bc bw pc cap vw wt where
  ol := by rw [ho _ h.vl.lt]; exact h.ol
  oc := by rw [ho _ h.vc.lt]; exact h.oc
  ow := by rw [ho _ h.xw.lt]; exact h.ow
  lw := h.lw
  cw := h.cw
  lc := h.lc
  os := by rw [ho _ h.fv.lt]; exact h.os
  vl := h.vl.ch hc (hS _ (by rw [h.ol]; simp))
  vc := h.vc.ch hc (hS _ (by rw [h.oc]; simp))
  xw := h.xw.ch hc (hS _ (by rw [h.ow]; simp))
  wr := h.wr.ch hc fun z e => hS z (by rw [h.wo z e]; simp)
  wo := fun z e => by rw [ho z (h.wr.lt z e).2]; exact h.wo z e
  fv := h.fv.ch hc (hS _ (by rw [h.os]; simp))
  gr := h.gr
  gt := h.gt
  gf := fun i hi => by
    obtain ⟨h1, h2⟩ := h.gf i hi
    exact ⟨h1.ch hc fun z e => hS z (by rw [h2 z e]; simp), fun z e => by rw [ho z (h1.lt z e).2]; exact h2 z e⟩
  gd := h.gd
  gi := h.gi
  gn := fun i hi => by
    rcases h.gn i hi with ⟨p, k, e, h2, h3⟩ | h1
    · exact .inl ⟨p, k, e, h2.ch hc fun ad e => hS _ (by rw [(h3 ad e).1]; simp), fun ad e => by
        obtain ⟨e1, e2, e3, e4⟩ := h3 ad e
        exact ⟨by rw [ho _ e3]; exact e1, e2, Nat.lt_of_lt_of_le e3 hc.size, e4.ch hc (hS _ (by rw [e1]; simp))⟩⟩
    · exact .inr h1
/-- A place is reached: its step is written. -/
theorem SW.reach {p : Option Addr} {k : Nat} (h : SW B own W sb n c rc tg fr G bl bc bw pc cap vw wt) (hrc : rc a = false) (hfv : FV 75 X sb (n * 5) (upd (upd (upd G (a * 5) (.bool true)) (a * 5 + 3) (.int .i64 (dfn c a))) (a * 5 + 4) (.slice p (nds c a).length k))) (hrv : RV X p (nds c a).length (iv fun j => (nds c a).getD j 0)) (hon : ∀ ad, p = some ad → W.heap.size ≤ ad.block ∧ ad.block < X.heap.size ∧ TyI X ad.block) (hB : B ≤ W.heap.size) (hc : Ch (fun z => z = sb) W X) :
    SW B (tagO own W.heap.size .nd) X sb n c (fun z => if z = a then true else rc z) tg fr (upd (upd (upd G (a * 5) (.bool true)) (a * 5 + 3) (.int .i64 (dfn c a))) (a * 5 + 4) (.slice p (nds c a).length k)) bl bc bw pc cap vw wt := by
  have hn : ∀ b t, own b = t → t ≠ .sb → ¬ b = sb := fun b t h1 h2 e => h2 (by rw [← h1, e, h.os])
  have ho : ∀ b, b < W.heap.size → tagO own W.heap.size .nd b = own b := fun b hb => tagO_lt hb
  have hg : ∀ j, j ≠ a * 5 → j ≠ a * 5 + 3 → j ≠ a * 5 + 4 → upd (upd (upd G (a * 5) (.bool true)) (a * 5 + 3) (.int .i64 (dfn c a))) (a * 5 + 4) (.slice p (nds c a).length k) j = G j := fun j h1 h2 h3 => by rw [upd_of h3, upd_of h2, upd_of h1]
  refine ⟨by rw [ho _ h.vl.lt]; exact h.ol, by rw [ho _ h.vc.lt]; exact h.oc, by rw [ho _ h.xw.lt]; exact h.ow, h.lw, h.cw, h.lc, by rw [ho _ h.fv.lt]; exact h.os, h.vl.ch hc (hn _ _ h.ol (by simp)), h.vc.ch hc (hn _ _ h.oc (by simp)), h.xw.ch hc (hn _ _ h.ow (by simp)), h.wr.ch hc fun z e => hn z _ (h.wo z e) (by simp), fun z e => by rw [ho z (h.wr.lt z e).2]; exact h.wo z e, hfv, fun i hi => ?_, fun i hi => ?_, fun i hi => ?_, fun i hi hr => ?_, fun i hi => ?_, fun i hi => ?_⟩
  · by_cases e : i = a
    · subst e
      rw [upd_of (by omega), upd_of (by omega), upd_at]
      simp
    · rw [hg _ (by omega) (by omega) (by omega), if_neg e]
      exact h.gr i hi
  · rw [hg _ (by omega) (by omega) (by omega)]
    exact h.gt i hi
  · rw [hg _ (by omega) (by omega) (by omega)]
    obtain ⟨h1, h2⟩ := h.gf i hi
    exact ⟨h1.ch hc fun z e => hn z _ (h2 z e) (by simp), fun z e => by rw [ho z (h1.lt z e).2]; exact h2 z e⟩
  · by_cases e : i = a
    · subst e
      rw [upd_of (by omega), upd_at]
    · rw [hg _ (by omega) (by omega) (by omega)]
      rw [if_neg e] at hr
      exact h.gd i hi hr
  · by_cases e : i = a
    · subst e
      exact ⟨_, by rw [upd_of (by omega), upd_at]⟩
    · rw [hg _ (by omega) (by omega) (by omega)]
      exact h.gi i hi
  · by_cases e : i = a
    · subst e
      refine .inl ⟨p, k, upd_at .., hrv, fun ad e => ?_⟩
      obtain ⟨e1, e2, e3⟩ := hon ad e
      exact ⟨tagO_ge e1, Nat.le_trans hB e1, e2, e3⟩
    · rw [hg _ (by omega) (by omega) (by omega), if_neg e]
      rcases h.gn i hi with ⟨p, k, e, h2, h3⟩ | h1
      · exact .inl ⟨p, k, e, h2.ch hc fun ad e => hn _ _ (h3 ad e).1 (by simp), fun ad e => by
          obtain ⟨e1, e2, e3, e4⟩ := h3 ad e
          exact ⟨by rw [ho _ e3]; exact e1, e2, Nat.lt_of_lt_of_le e3 hc.size, e4.ch hc (hn _ _ e1 (by simp))⟩⟩
      · exact .inr h1
/-- What waits is another row. -/
theorem SW.wait {wt' : List Nat} (h : SW B own W sb n c rc tg fr G bl bc bw pc cap vw wt) (hc : Ch (fun z => vw.ownBlock = some z) W X) (hsr : SR B X v' (wt'.map Int.ofNat)) (hat : v'.ownBlock = vw.ownBlock ∨ ∃ g, v'.ownBlock = some g ∧ W.heap.size ≤ g) :
    SW B (tagO own W.heap.size .wt) (X.setCell ⟨bw, 0, none⟩ v') sb n c rc tg fr G bl bc bw pc cap v' wt' := by
  have hwl := h.xw.lt
  have ho : ∀ b, b < W.heap.size → tagO own W.heap.size .wt b = own b := fun b hb => tagO_lt hb
  have hc2 : Ch (fun z => z = bw ∨ vw.ownBlock = some z) W (X.setCell ⟨bw, 0, none⟩ v') := (hc.mono fun z _ e => .inr e).set (.inl (.inl rfl)) _ _
  have hn : ∀ b t, own b = t → t ≠ .v → t ≠ .wt → ¬ (b = bw ∨ vw.ownBlock = some b) := fun b t h1 h2 h3 e => by
    rcases e with e | e
    · exact h2 (by rw [← h1, e, h.ow])
    · exact h3 (by rw [← h1, h.wo b e])
  have hnv : ∀ b, b ≠ bw → own b = .v → ¬ (b = bw ∨ vw.ownBlock = some b) := fun b h1 h2 e => by
    rcases e with e | e
    · exact h1 e
    · rw [h.wo b e] at h2; cases h2
  have hwo : ∀ z, v'.ownBlock = some z → tagO own W.heap.size .wt z = .wt := fun z e => by
    rcases hat with h1 | ⟨g, h1, h2⟩
    · rw [ho z (h.wr.lt z (h1 ▸ e)).2]; exact h.wo z (h1 ▸ e)
    · rw [e] at h1
      cases h1
      exact tagO_ge h2
  refine ⟨by rw [ho _ h.vl.lt]; exact h.ol, by rw [ho _ h.vc.lt]; exact h.oc, by rw [ho _ h.xw.lt]; exact h.ow, h.lw, h.cw, h.lc, by rw [ho _ h.fv.lt]; exact h.os, h.vl.ch hc2 (hnv _ h.lw h.ol), h.vc.ch hc2 (hnv _ h.cw h.oc), ?_, ?_, hwo, h.fv.ch hc2 (hn _ _ h.os (by simp) (by simp)), h.gr, h.gt, fun i hi => ?_, h.gd, h.gi, fun i hi => ?_⟩
  · refine ((h.xw.ch hc fun e => by have := h.wo bw e; rw [h.ow] at this; cases this).set 0 v').to fun i hi => ?_
    rw [show i = 0 by omega, upd_at]
  · refine hsr.of_heap fun g e => heap_setCell_other X ⟨bw, 0, none⟩ g v' fun e2 => ?_
    have e2 : g = bw := e2
    have h1 := hwo g e
    rw [e2, ho _ hwl, h.ow] at h1
    cases h1
  · obtain ⟨h1, h2⟩ := h.gf i hi
    exact ⟨h1.ch hc2 fun z e => hn z _ (h2 z e) (by simp) (by simp), fun z e => by rw [ho z (h1.lt z e).2]; exact h2 z e⟩
  · rcases h.gn i hi with ⟨p, k, e, h2, h3⟩ | h1
    · exact .inl ⟨p, k, e, h2.ch hc2 fun ad e => hn _ _ (h3 ad e).1 (by simp) (by simp), fun ad e => by
        obtain ⟨e1, e2, e3, e4⟩ := h3 ad e
        exact ⟨by rw [ho _ e3]; exact e1, e2, Nat.lt_of_lt_of_le e3 hc2.size, e4.ch hc2 (hn _ _ e1 (by simp) (by simp))⟩⟩
    · exact .inr h1
/-- One more place from which it is gone on to here. -/
theorem SW.from {l' : List Nat} (h : SW B own W sb n c rc tg fr G bl bc bw pc cap vw wt) (ha : a < n) (hc : Ch (fun z => (G (a * 5 + 2)).ownBlock = some z) W X) (hsr : SR B X v' (l'.map Int.ofNat)) (hat : v'.ownBlock = (G (a * 5 + 2)).ownBlock ∨ ∃ g, v'.ownBlock = some g ∧ W.heap.size ≤ g) :
    SW B (tagO own W.heap.size (.fr a)) (X.setCell ⟨sb, a * 5 + 2, none⟩ v') sb n c rc tg (updL fr a l') (upd G (a * 5 + 2) v') bl bc bw pc cap vw wt := by
  have hsl := h.fv.lt
  have hfa := (h.gf a ha).2
  have ho : ∀ b, b < W.heap.size → tagO own W.heap.size (.fr a) b = own b := fun b hb => tagO_lt hb
  have hc2 : Ch (fun z => z = sb ∨ (G (a * 5 + 2)).ownBlock = some z) W (X.setCell ⟨sb, a * 5 + 2, none⟩ v') := (hc.mono fun z _ e => .inr e).set (.inl (.inl rfl)) _ _
  have hn : ∀ b t, own b = t → t ≠ .sb → t ≠ .fr a → ¬ (b = sb ∨ (G (a * 5 + 2)).ownBlock = some b) := fun b t h1 h2 h3 e => by
    rcases e with e | e
    · exact h2 (by rw [← h1, e, h.os])
    · exact h3 (by rw [← h1, hfa b e])
  have hwo : ∀ z, v'.ownBlock = some z → tagO own W.heap.size (.fr a) z = .fr a := fun z e => by
    rcases hat with h1 | ⟨g, h1, h2⟩
    · rw [ho z ((h.gf a ha).1.lt z (h1 ▸ e)).2]; exact hfa z (h1 ▸ e)
    · rw [e] at h1
      cases h1
      exact tagO_ge h2
  refine ⟨by rw [ho _ h.vl.lt]; exact h.ol, by rw [ho _ h.vc.lt]; exact h.oc, by rw [ho _ h.xw.lt]; exact h.ow, h.lw, h.cw, h.lc, by rw [ho _ h.fv.lt]; exact h.os, h.vl.ch hc2 (hn _ _ h.ol (by simp) (by simp)), h.vc.ch hc2 (hn _ _ h.oc (by simp) (by simp)), h.xw.ch hc2 (hn _ _ h.ow (by simp) (by simp)), h.wr.ch hc2 fun z e => hn z _ (h.wo z e) (by simp) (by simp), fun z e => by rw [ho z (h.wr.lt z e).2]; exact h.wo z e, (h.fv.ch hc fun e => by have := hfa sb e; rw [h.os] at this; cases this).set _ _, fun i hi => ?_, fun i hi => ?_, fun i hi => ?_, fun i hi hr => ?_, fun i hi => ?_, fun i hi => ?_⟩
  · rw [upd_of (by omega)]; exact h.gr i hi
  · rw [upd_of (by omega)]; exact h.gt i hi
  · by_cases e : i = a
    · subst e
      rw [upd_at]
      unfold updL
      rw [if_pos rfl]
      refine ⟨hsr.of_heap fun g e => heap_setCell_other X ⟨sb, i * 5 + 2, none⟩ g v' fun e2 => ?_, hwo⟩
      have e2 : g = sb := e2
      have h1 := hwo g e
      rw [e2, ho _ hsl, h.os] at h1
      cases h1
    · rw [upd_of (by omega)]
      unfold updL
      rw [if_neg e]
      obtain ⟨h1, h2⟩ := h.gf i hi
      exact ⟨h1.ch hc2 fun z e3 => hn z _ (h2 z e3) (by simp) (by simpa using e), fun z e => by rw [ho z (h1.lt z e).2]; exact h2 z e⟩
  · rw [upd_of (by omega)]; exact h.gd i hi hr
  · rw [upd_of (by omega)]; exact h.gi i hi
  · rw [upd_of (by omega)]
    rcases h.gn i hi with ⟨p, k, e, h2, h3⟩ | h1
    · exact .inl ⟨p, k, e, h2.ch hc2 fun ad e => hn _ _ (h3 ad e).1 (by simp) (by simp), fun ad e => by
        obtain ⟨e1, e2, e3, e4⟩ := h3 ad e
        exact ⟨by rw [ho _ e3]; exact e1, e2, Nat.lt_of_lt_of_le e3 hc2.size, e4.ch hc2 (hn _ _ e1 (by simp) (by simp))⟩⟩
    · exact .inr h1
/-- Whether ways come together is written. -/
theorem SW.tog {t : Bool} (h : SW B own W sb n c rc tg fr G bl bc bw pc cap vw wt) (hc : X = W.setCell ⟨sb, a * 5 + 1, none⟩ (.bool t)) : SW B own X sb n c rc (fun z => if z = a then t else tg z) fr (upd G (a * 5 + 1) (.bool t)) bl bc bw pc cap vw wt := by
  subst hc
  have hc2 : Ch (fun z => z = sb) W (W.setCell ⟨sb, a * 5 + 1, none⟩ (.bool t)) := (Ch.refl (fun z => z = sb) W).set (.inl rfl) _ _
  have hn : ∀ b t, own b = t → t ≠ .sb → ¬ b = sb := fun b t h1 h2 e => h2 (by rw [← h1, e, h.os])
  refine ⟨h.ol, h.oc, h.ow, h.lw, h.cw, h.lc, h.os, h.vl.ch hc2 (hn _ _ h.ol (by simp)), h.vc.ch hc2 (hn _ _ h.oc (by simp)), h.xw.ch hc2 (hn _ _ h.ow (by simp)), h.wr.ch hc2 fun z e => hn z _ (h.wo z e) (by simp), h.wo, h.fv.set _ _, fun i hi => ?_, fun i hi => ?_, fun i hi => ?_, fun i hi hr => ?_, fun i hi => ?_, fun i hi => ?_⟩
  · rw [upd_of (by omega)]; exact h.gr i hi
  · by_cases e : i = a
    · subst e
      rw [upd_at, if_pos rfl]
    · rw [upd_of (by omega), if_neg e]; exact h.gt i hi
  · rw [upd_of (by omega)]
    obtain ⟨h1, h2⟩ := h.gf i hi
    exact ⟨h1.ch hc2 fun z e => hn z _ (h2 z e) (by simp), h2⟩
  · rw [upd_of (by omega)]; exact h.gd i hi hr
  · rw [upd_of (by omega)]; exact h.gi i hi
  · rw [upd_of (by omega)]
    rcases h.gn i hi with ⟨p, k, e, h2, h3⟩ | h1
    · exact .inl ⟨p, k, e, h2.ch hc2 fun ad e => hn _ _ (h3 ad e).1 (by simp), fun ad e => by
        obtain ⟨e1, e2, e3, e4⟩ := h3 ad e
        exact ⟨e1, e2, Nat.lt_of_lt_of_le e3 hc2.size, e4.ch hc2 (hn _ _ e1 (by simp))⟩⟩
    · exact .inr h1
/-- Cut behind. -/
theorem SR.pop {p : Option Addr} {k x : Nat} {l : List Nat} (h : SR B W (.slice p (l ++ [x]).length k) ((l ++ [x]).map Int.ofNat)) : ∃ g o, p = some ⟨g, o, none⟩ ∧ (l ++ [x]).length ≤ k ∧ SR B W (.slice p l.length k) (l.map Int.ofNat) ∧ W.cell? ⟨g, o + l.length, none⟩ = some (.int .i64 (x : Int)) ∧ g < W.heap.size := by
  rcases h with ⟨-, h⟩ | ⟨g, o, k', cur, e, hB, hg, h1, h2, h3⟩
  · simp at h
  · simp only [List.length_map] at e h2
    cases e
    refine ⟨g, o, rfl, h2, .inr ⟨g, o, k, cur, by simp, hB, hg, h1, by simp at h2 ⊢; omega, fun i u hu => h3 i u ?_⟩, ?_, (Array.getElem?_eq_some_iff.1 hg).1⟩
    · unfold iw at hu ⊢
      rw [List.map_append, List.map_append, List.getElem?_append_left (by have := (List.getElem?_eq_some_iff.1 hu).1; simpa using this)]
      exact hu
    · rw [cell_of_row W g _ cur _ _ hg]
      exact h3 l.length _ (by simp [iw])
end
end Go.Proofs.YtgdhgipofaaogaaDoor
namespace Go.Proofs.YtgdhgipofaaogaaDoor
open Go Go.RowKit Gm

def ReachP (B : Nat) (own : Nat → Os) (W : World) (sb n : Nat) (c : List Ic) (rc tg : Nat → Bool) (fr : Nat → List Nat) (bl bc bw : Nat) (pc : Option Addr) (cap : Nat) (wt : List Nat) (a : Nat) (e : Ending) (w' : World) : Prop :=
  ∃ (v : Value) (own' : Nat → Os) (G' : Nat → Value) (vw' : Value), e = .returned v ∧ (∀ b, b < W.heap.size → own' b = own b) ∧ SW B own' w' sb n c (fun z => if z = a then true else rc z) tg fr G' bl bc bw pc cap vw' (if rc a = true then wt else wt ++ [a]) ∧ Ch (fun z => own z ≠ .no) W w'
theorem nds_ndx {c : List Ic} {a : Nat} {x : Ic} (hx : c[a]? = some x) : nds c a = ndx x := by unfold nds; rw [hx]; rfl
theorem RowP.rv {W X : World} {v : Value} {l : List Int} (h : Rw W.heap.size X v l) : ∃ p k, v = .slice p l.length k ∧ RV X p l.length (iv fun j => l.getD j 0) ∧ ∀ ad, p = some ad → W.heap.size ≤ ad.block ∧ ad.block < X.heap.size ∧ TyI X ad.block := by
  have hs : SR W.heap.size X v l := .of_own rfl h (Nat.le_refl _)
  obtain ⟨p, k, rfl, hr⟩ := hs.rv
  exact ⟨p, k, rfl, hr, fun ad e => by subst e; exact ⟨(hs.lt _ rfl).1, (hs.lt _ rfl).2, hs.ty rfl⟩⟩
set_option maxRecDepth 100000 in
set_option maxHeartbeats 8000000 in
theorem reach_c {B : Nat} {own : Nat → Os} {W : World} {sb n a cap : Nat} {c : List Ic} {rc tg : Nat → Bool} {fr : Nat → List Nat} {G : Nat → Value} {bl bc bw : Nat} {pc : Option Addr} {vw : Value} {wt : List Nat} (hA : Hid (SW B own W sb n c rc tg fr G bl bc bw pc cap vw wt)) (hK : Hid (Kinds W)) (hC : Hid (CodeAt W pc c)) (hCo : Hid (∀ ad, pc = some ad → own ad.block = .no)) (hl : c.length = n) (ha : a < n) (hn : n ≤ 5000) (hB : B ≤ W.heap.size) (hwl : wt.length ≤ 1000000) : Calls Tryd.prog 58 #[.int .i64 a, .pointer (some ⟨bl, 0, none⟩), .pointer (some ⟨bc, 0, none⟩), .pointer (some ⟨bw, 0, none⟩)] W (ReachP B own W sb n c rc tg fr bl bc bw pc cap wt a) := by
  have hbl := hA.out.vl.lt
  have cl := hA.out.vl.cell (i := 0) (by omega)
  have hsb := hA.out.fv.lt
  have r1 := hA.out.fv.cell (i := a * 5) (by omega)
  rw [hA.out.gr a ha] at r1
  cases hrc : rc a with
  | true =>
    rw [hrc] at r1
    go_enter Tryd.func58, Tryd.ntmps58
    go_wp2
    refine bodyPost_ret (results_none rfl _ _ _) rfl ⟨_, own, G, vw, rfl, fun _ _ => rfl, ?_, Ch.refl _ _⟩
    rw [if_pos hrc]
    have e : (fun z => if z = a then true else rc z) = rc := by
      funext z
      by_cases h : z = a
      · rw [if_pos h, h, hrc]
      · rw [if_neg h]
    rw [e]
    exact hA.out
  | false =>
    rw [hrc] at r1
    obtain ⟨x, hx⟩ : ∃ x, c[a]? = some x := ⟨_, List.getElem?_eq_getElem (by rw [hl]; exact ha)⟩
    obtain ⟨gc, oc, ep, hgc, at7, -⟩ := hC.out a x hx
    have hgo := hCo.out _ ep
    subst ep
    have k0 := at7.k
    have k1 := at7.o
    have k2 := at7.d
    have k3 := at7.a
    have k4 := at7.b
    have k5 := at7.n
    have k6 := at7.t
    have hbc := hA.out.vc.lt
    have cc := hA.out.vc.cell (i := 0) (by omega)
    have hnl : ¬ bl = sb := fun e => by have h1 := hA.out.os; rw [← e, hA.out.ol] at h1; cases h1
    have hnc : ¬ bc = sb := fun e => by have h1 := hA.out.os; rw [← e, hA.out.oc] at h1; cases h1
    have hng : ¬ gc = sb := fun e => by have h1 := hA.out.os; have h2 : own gc = .no := hgo; rw [e, h1] at h2; cases h2
    have HX := Lib.hid hx
    clear at7 hx hgo
    go_enter Tryd.func58, Tryd.ntmps58
    go_upto_region 1 with (fail)
    refine region_held1 (fun w' => Ch (fun z => z = sb) W w') (by kernel_rfl) ?_
    show wpAnyH _ _ _ _ _ 25 _ _ _
    have hS0 : Ch (fun z => z = sb) W W.drew := Ch.of (below_drew1 _)
    refine takeH (i := 0) (v := .slice (some ⟨sb, 0, none⟩) n n) (some 11) rfl rfl (by kernel_rfl) (by kernel_rfl) (by kernel_rfl) (Or.inl ⟨by rfl, ?_⟩) hS0 ?_
    · intro y1 hS1
      have cl := (hS1.cell (b := bl) hbl hnl).trans cl
      go_simp
    simp only [Act.put, List.setIfInBounds_toArray, List.set_cons_zero, List.set_cons_succ]
    refine takeH (i := 1) (v := .int .i64 (a : Int)) (some 12) rfl rfl (by kernel_rfl) (by kernel_rfl) (by kernel_rfl) (Or.inl ⟨by rfl, ?_⟩) hS0 ?_
    · intro y1 hS1
      go_simp
    simp only [Act.put, List.setIfInBounds_toArray, List.set_cons_zero, List.set_cons_succ]
    refine takeH (i := 2) (v := .slice (some ⟨sb, 0, none⟩) n n) (some 13) rfl rfl (by kernel_rfl) (by kernel_rfl) (by kernel_rfl) (Or.inl ⟨by rfl, ?_⟩) hS0 ?_
    · intro y1 hS1
      have cl := (hS1.cell (b := bl) hbl hnl).trans cl
      go_simp
    simp only [Act.put, List.setIfInBounds_toArray, List.set_cons_zero, List.set_cons_succ]
    refine takeH (i := 3) (v := .int .i64 (a : Int)) (some 14) rfl rfl (by kernel_rfl) (by kernel_rfl) (by kernel_rfl) (Or.inl ⟨by rfl, ?_⟩) hS0 ?_
    · intro y1 hS1
      go_simp
    simp only [Act.put, List.setIfInBounds_toArray, List.set_cons_zero, List.set_cons_succ]
    refine takeH (i := 4) (v := .slice (some ⟨sb, 0, none⟩) n n) (some 15) rfl rfl (by kernel_rfl) (by kernel_rfl) (by kernel_rfl) (Or.inl ⟨by rfl, ?_⟩) hS0 ?_
    · intro y1 hS1
      have cl := (hS1.cell (b := bl) hbl hnl).trans cl
      go_simp
    simp only [Act.put, List.setIfInBounds_toArray, List.set_cons_zero, List.set_cons_succ]
    refine takeH (i := 5) (v := .int .i64 (a : Int)) (some 16) rfl rfl (by kernel_rfl) (by kernel_rfl) (by kernel_rfl) (Or.inl ⟨by rfl, ?_⟩) hS0 ?_
    · intro y1 hS1
      go_simp
    simp only [Act.put, List.setIfInBounds_toArray, List.set_cons_zero, List.set_cons_succ]
    refine takeH (i := 6) (v := .slice (some ⟨gc, oc, none⟩) n cap) (some 17) rfl rfl (by kernel_rfl) (by kernel_rfl) (by kernel_rfl) (Or.inl ⟨by rfl, ?_⟩) hS0 ?_
    · intro y1 hS1
      have cc := (hS1.cell (b := bc) hbc hnc).trans cc
      go_simp
    simp only [Act.put, List.setIfInBounds_toArray, List.set_cons_zero, List.set_cons_succ]
    refine takeH (i := 7) (v := .int .i64 (a : Int)) (some 18) rfl rfl (by kernel_rfl) (by kernel_rfl) (by kernel_rfl) (Or.inl ⟨by rfl, ?_⟩) hS0 ?_
    · intro y1 hS1
      go_simp
    simp only [Act.put, List.setIfInBounds_toArray, List.set_cons_zero, List.set_cons_succ]
    refine takeH (i := 8) (v := .pointer (some ⟨gc, oc + a * 7, none⟩)) (some 19) rfl rfl (by kernel_rfl) (by kernel_rfl) (by kernel_rfl) (Or.inl ⟨by rfl, ?_⟩) hS0 ?_
    · intro y1 hS1
      go_simp
    simp only [Act.put, List.setIfInBounds_toArray, List.set_cons_zero, List.set_cons_succ]
    refine takeH (i := 9) (v := .agg #[.int .i64 x.k, .int .i64 x.o, .int .i64 x.d, .int .i64 x.a, .int .i64 x.b, .int .i64 x.n, .int .i64 x.t]) (some 20) rfl rfl (by kernel_rfl) (by kernel_rfl) (by kernel_rfl) (Or.inl ⟨by rfl, ?_⟩) hS0 ?_
    · intro y1 hS1
      have k0 := (hS1.cell (b := gc) hgc hng).trans k0
      have k1 := (hS1.cell (b := gc) hgc hng).trans k1
      have k2 := (hS1.cell (b := gc) hgc hng).trans k2
      have k3 := (hS1.cell (b := gc) hgc hng).trans k3
      have k4 := (hS1.cell (b := gc) hgc hng).trans k4
      have k5 := (hS1.cell (b := gc) hgc hng).trans k5
      have k6 := (hS1.cell (b := gc) hgc hng).trans k6
      go_simp
    simp only [Act.put, List.setIfInBounds_toArray, List.set_cons_zero, List.set_cons_succ]
    refine takeH (i := 11) (v := .slice (some ⟨gc, oc, none⟩) n cap) (some 22) rfl rfl (by kernel_rfl) (by kernel_rfl) (by kernel_rfl) (Or.inl ⟨by rfl, ?_⟩) hS0 ?_
    · intro y1 hS1
      have cc := (hS1.cell (b := bc) hbc hnc).trans cc
      go_simp
    simp only [Act.put, List.setIfInBounds_toArray, List.set_cons_zero, List.set_cons_succ]
    refine takeH (i := 12) (v := .int .i64 (a : Int)) (some 23) rfl rfl (by kernel_rfl) (by kernel_rfl) (by kernel_rfl) (Or.inl ⟨by rfl, ?_⟩) hS0 ?_
    · intro y1 hS1
      go_simp
    simp only [Act.put, List.setIfInBounds_toArray, List.set_cons_zero, List.set_cons_succ]
    refine takeH (i := 13) (v := .pointer (some ⟨gc, oc + a * 7, none⟩)) (some 24) rfl rfl (by kernel_rfl) (by kernel_rfl) (by kernel_rfl) (Or.inl ⟨by rfl, ?_⟩) hS0 ?_
    · intro y1 hS1
      go_simp
    simp only [Act.put, List.setIfInBounds_toArray, List.set_cons_zero, List.set_cons_succ]
    refine takeH (i := 14) (v := .agg #[.int .i64 x.k, .int .i64 x.o, .int .i64 x.d, .int .i64 x.a, .int .i64 x.b, .int .i64 x.n, .int .i64 x.t]) (some 25) rfl rfl (by kernel_rfl) (by kernel_rfl) (by kernel_rfl) (Or.inl ⟨by rfl, ?_⟩) hS0 ?_
    · intro y1 hS1
      have k0 := (hS1.cell (b := gc) hgc hng).trans k0
      have k1 := (hS1.cell (b := gc) hgc hng).trans k1
      have k2 := (hS1.cell (b := gc) hgc hng).trans k2
      have k3 := (hS1.cell (b := gc) hgc hng).trans k3
      have k4 := (hS1.cell (b := gc) hgc hng).trans k4
      have k5 := (hS1.cell (b := gc) hgc hng).trans k5
      have k6 := (hS1.cell (b := gc) hgc hng).trans k6
      go_simp
    simp only [Act.put, List.setIfInBounds_toArray, List.set_cons_zero, List.set_cons_succ]
    refine wpAnyH_all (rs := [10]) (by kernel_rfl) (by simp) ?_
    intro i1 hi1
    obtain rfl : i1 = 10 := by simpa using hi1
    refine wpOp_call (some 21) rfl rfl (by rfl) (f := 59) (args := #[.agg #[.int .i64 x.k, .int .i64 x.o, .int .i64 x.d, .int .i64 x.a, .int .i64 x.b, .int .i64 x.n, .int .i64 x.t]]) (by go_simp) (def_any x _ (hK.out.below (below_drew1 _))) ?_
    rintro e6 w6 ⟨rfl, hb6⟩
    have hb6 : Below W.heap.size W w6 := (below_drew1 W).trans hb6
    refine ⟨_, rfl, Ch.of hb6, ?_⟩
    simp only [Act.put, List.setIfInBounds_toArray, List.set_cons_zero, List.set_cons_succ]
    refine wpAnyH_all (rs := [15]) (by kernel_rfl) (by simp) ?_
    intro i2 hi2
    obtain rfl : i2 = 15 := by simpa using hi2
    refine wpOp_call (some 26) rfl rfl (by rfl) (f := 60) (args := #[.agg #[.int .i64 x.k, .int .i64 x.o, .int .i64 x.d, .int .i64 x.a, .int .i64 x.b, .int .i64 x.n, .int .i64 x.t]]) (by go_simp) (needs_c x _ (hK.out.below hb6)) ?_
    rintro e7 w7 ⟨v7, rfl, hr7, hb7⟩
    obtain ⟨pn, kn, rfl, hrv7, hon7⟩ := RowP.rv hr7
    have HBN : Hid (Below W.heap.size W w7) := Lib.hid (hb6.trans (hb7.mono hb6.size))
    have HRV : Hid (RV w7 pn (ndx x).length (iv fun j => (ndx x).getD j 0) ∧ ∀ ad, pn = some ad → W.heap.size ≤ ad.block ∧ ad.block < w7.heap.size ∧ TyI w7 ad.block) := Lib.hid ⟨hrv7, fun ad e => ⟨Nat.le_trans hb6.size (hon7 ad e).1, (hon7 ad e).2⟩⟩
    clear hr7 hb7 hrv7 hon7 hb6
    refine ⟨_, rfl, Ch.of HBN.out, ?_⟩
    simp only [Act.put, List.setIfInBounds_toArray, List.set_cons_zero, List.set_cons_succ]
    have hSn : Ch (fun z => z = sb) W w7 := Ch.of HBN.out
    have HF0 : Hid (FV 75 w7 sb (n * 5) G) := Lib.hid (hA.out.fv.stay HBN.out)
    refine takeH (i := 16) (v := .pointer (some ⟨sb, a * 5, none⟩)) (some 27) rfl rfl (by kernel_rfl) (by kernel_rfl) (by kernel_rfl) (Or.inl ⟨by rfl, ?_⟩) hSn ?_
    · intro y1 hS1
      go_simp
    simp only [Act.put, List.setIfInBounds_toArray, List.set_cons_zero, List.set_cons_succ]
    refine takeH (i := 17) (v := .pointer (some ⟨sb, a * 5, none⟩)) (some 28) rfl rfl (by kernel_rfl) (by kernel_rfl) (by kernel_rfl) (Or.inl ⟨by rfl, ?_⟩) hSn ?_
    · intro y1 hS1
      go_simp
    simp only [Act.put, List.setIfInBounds_toArray, List.set_cons_zero, List.set_cons_succ]
    have r0 := HF0.out.cell (i := a * 5) (by omega)
    have z0 := HF0.out.frozen (a * 5)
    have s0 := HF0.out.lt
    rw [hA.out.gr a ha] at r0
    refine wpAnyH_all (rs := [18]) (by kernel_rfl) (by simp) ?_
    intro j1 hj1
    obtain rfl : j1 = 18 := by simpa using hj1
    refine wpOp_skip (w' := w7.setCell ⟨sb, a * 5, none⟩ (.bool true)) none rfl rfl (by rfl) (by go_simp) ?_
    refine ⟨hSn.set (.inl rfl) _ _, ?_⟩
    simp only [Act.put, List.setIfInBounds_toArray, List.set_cons_zero, List.set_cons_succ]
    have HF1 : Hid (FV 75 (w7.setCell ⟨sb, a * 5, none⟩ (.bool true)) sb (n * 5) (upd G (a * 5) (.bool true))) := Lib.hid (HF0.out.set _ _)
    have hSn := hSn.set (b := sb) (.inl rfl) (a * 5) (.bool true)
    obtain ⟨X1, hX1⟩ : ∃ X, w7.setCell ⟨sb, a * 5, none⟩ (.bool true) = X := ⟨_, rfl⟩
    rw [hX1] at HF1 hSn
    rw [hX1]
    clear r0 z0 s0
    refine takeH (i := 19) (v := .pointer (some ⟨sb, a * 5, none⟩)) (some 29) rfl rfl (by kernel_rfl) (by kernel_rfl) (by kernel_rfl) (Or.inl ⟨by rfl, ?_⟩) hSn ?_
    · intro y1 hS1
      go_simp
    simp only [Act.put, List.setIfInBounds_toArray, List.set_cons_zero, List.set_cons_succ]
    refine takeH (i := 20) (v := .pointer (some ⟨sb, a * 5 + 3, none⟩)) (some 30) rfl rfl (by kernel_rfl) (by kernel_rfl) (by kernel_rfl) (Or.inl ⟨by rfl, ?_⟩) hSn ?_
    · intro y1 hS1
      go_simp
    simp only [Act.put, List.setIfInBounds_toArray, List.set_cons_zero, List.set_cons_succ]
    have r0 := HF1.out.cell (i := a * 5 + 3) (by omega)
    have z0 := HF1.out.frozen (a * 5 + 3)
    have s0 := HF1.out.lt
    rw [upd_of (by omega)] at r0
    obtain ⟨d0, hd0⟩ := hA.out.gi a ha
    rw [hd0] at r0
    clear hd0
    refine wpAnyH_all (rs := [21]) (by kernel_rfl) (by simp) ?_
    intro j2 hj2
    obtain rfl : j2 = 21 := by simpa using hj2
    refine wpOp_skip (w' := X1.setCell ⟨sb, a * 5 + 3, none⟩ (.int .i64 (defM x))) none rfl rfl (by rfl) (by go_simp) ?_
    refine ⟨hSn.set (.inl rfl) _ _, ?_⟩
    simp only [Act.put, List.setIfInBounds_toArray, List.set_cons_zero, List.set_cons_succ]
    have HF2 : Hid (FV 75 (X1.setCell ⟨sb, a * 5 + 3, none⟩ (.int .i64 (defM x))) sb (n * 5) (upd (upd G (a * 5) (.bool true)) (a * 5 + 3) (.int .i64 (defM x)))) := Lib.hid (HF1.out.set _ _)
    have hSn := hSn.set (b := sb) (.inl rfl) (a * 5 + 3) (.int .i64 (defM x))
    obtain ⟨X2, hX2⟩ : ∃ X, X1.setCell ⟨sb, a * 5 + 3, none⟩ (.int .i64 (defM x)) = X := ⟨_, rfl⟩
    rw [hX2] at HF2 hSn
    rw [hX2]
    clear r0 z0 s0
    refine takeH (i := 22) (v := .pointer (some ⟨sb, a * 5, none⟩)) (some 31) rfl rfl (by kernel_rfl) (by kernel_rfl) (by kernel_rfl) (Or.inl ⟨by rfl, ?_⟩) hSn ?_
    · intro y1 hS1
      go_simp
    simp only [Act.put, List.setIfInBounds_toArray, List.set_cons_zero, List.set_cons_succ]
    refine takeH (i := 23) (v := .pointer (some ⟨sb, a * 5 + 4, none⟩)) (some 32) rfl rfl (by kernel_rfl) (by kernel_rfl) (by kernel_rfl) (Or.inl ⟨by rfl, ?_⟩) hSn ?_
    · intro y1 hS1
      go_simp
    simp only [Act.put, List.setIfInBounds_toArray, List.set_cons_zero, List.set_cons_succ]
    have r0 := HF2.out.cell (i := a * 5 + 4) (by omega)
    have z0 := HF2.out.frozen (a * 5 + 4)
    have s0 := HF2.out.lt
    rw [upd_of (by omega), upd_of (by omega)] at r0
    obtain ⟨q0, m0, c0, hd0⟩ : ∃ q0 m0 c0, G (a * 5 + 4) = .slice q0 m0 c0 := by
      rcases hA.out.gn a ha with ⟨p, k, e, -⟩ | ⟨-, e⟩
      · exact ⟨_, _, _, e⟩
      · exact ⟨_, _, _, e⟩
    rw [hd0] at r0
    clear hd0
    refine wpAnyH_all (rs := [24]) (by kernel_rfl) (by simp) ?_
    intro j3 hj3
    obtain rfl : j3 = 24 := by simpa using hj3
    refine wpOp_skip (w' := X2.setCell ⟨sb, a * 5 + 4, none⟩ (.slice pn (ndx x).length kn)) none rfl rfl (by rfl) (by go_simp) ?_
    refine ⟨hSn.set (.inl rfl) _ _, ?_⟩
    simp only [Act.put, List.setIfInBounds_toArray, List.set_cons_zero, List.set_cons_succ]
    refine wpAnyH_done (by kernel_rfl) ?_ _
    refine ⟨rfl, ?_⟩
    have hch := hSn.set (b := sb) (.inl rfl) (a * 5 + 4) (.slice pn (ndx x).length kn)
    have hrv3 : RV (X2.setCell ⟨sb, a * 5 + 4, none⟩ (.slice pn (ndx x).length kn)) pn (ndx x).length (iv fun j => (ndx x).getD j 0) := by
      have h1 : Ch (fun z => z = sb) w7 (X2.setCell ⟨sb, a * 5 + 4, none⟩ (.slice pn (ndx x).length kn)) := by
        rw [← hX2, ← hX1]
        exact (((Ch.refl (fun z => z = sb) w7).set (.inl rfl) _ _).set (.inl rfl) _ _).set (.inl rfl) _ _
      exact HRV.out.1.ch h1 fun ad e e2 => by
        have h2 := (HRV.out.2 ad e).1
        rw [e2] at h2
        omega
    have hty3 : ∀ ad, pn = some ad → TyI (X2.setCell ⟨sb, a * 5 + 4, none⟩ (.slice pn (ndx x).length kn)) ad.block := fun ad e => by
      have h1 : Ch (fun z => z = sb) w7 (X2.setCell ⟨sb, a * 5 + 4, none⟩ (.slice pn (ndx x).length kn)) := by
        rw [← hX2, ← hX1]
        exact (((Ch.refl (fun z => z = sb) w7).set (.inl rfl) _ _).set (.inl rfl) _ _).set (.inl rfl) _ _
      exact (HRV.out.2 ad e).2.2.ch h1 fun e2 => by
        have h2 := (HRV.out.2 ad e).1
        rw [e2] at h2
        omega
    have hsz3 : (X2.setCell ⟨sb, a * 5 + 4, none⟩ (.slice pn (ndx x).length kn)).heap.size = w7.heap.size := by rw [← hX2, ← hX1]; simp [World.setCell]
    have HS3 : Hid (SW B (tagO own W.heap.size .nd) (X2.setCell ⟨sb, a * 5 + 4, none⟩ (.slice pn (ndx x).length kn)) sb n c (fun z => if z = a then true else rc z) tg fr _ bl bc bw (some ⟨gc, oc, none⟩) cap vw wt) := Lib.hid (hA.out.reach (p := pn) (k := kn) hrc (by
      rw [dfn_eq HX.out, nds_ndx HX.out]
      exact HF2.out.set _ _) (by rw [nds_ndx HX.out]; exact hrv3) (fun ad e => by
      obtain ⟨e1, e2, -⟩ := HRV.out.2 ad e
      exact ⟨e1, by rw [hsz3]; exact e2, hty3 ad e⟩) hB hch)
    have HCH := Lib.hid hch
    obtain ⟨X3, hX3⟩ : ∃ X, X2.setCell ⟨sb, a * 5 + 4, none⟩ (.slice pn (ndx x).length kn) = X := ⟨_, rfl⟩
    rw [hX3] at HS3 HCH
    rw [hX3]
    clear r0 z0 s0 hch hrv3 hsz3 hty3 hX1 hX2 hX3 hSn
    obtain ⟨G3, hG3⟩ : ∃ X, upd (upd (upd G (a * 5) (.bool true)) (a * 5 + 3) (.int .i64 (dfn c a))) (a * 5 + 4) (.slice pn (nds c a).length kn) = X := ⟨_, rfl⟩
    rw [hG3] at HS3
    clear hG3
    have hB3 : B ≤ X3.heap.size := Nat.le_trans hB HCH.out.size
    have hbw3 := HS3.out.xw.lt
    have cw3 := HS3.out.xw.cell (i := 0) (by omega)
    have zw3 := HS3.out.xw.frozen 0
    obtain ⟨pw, kw, ew⟩ := HS3.out.wr.form
    rw [List.length_map] at ew
    rw [ew] at cw3
    have HWR : Hid (SR B X3 (.slice pw wt.length kw) (wt.map Int.ofNat)) := Lib.hid (ew ▸ HS3.out.wr)
    have HEW := Lib.hid ew
    have hbwn : ¬ (Value.slice pw wt.length kw).ownBlock = some bw := fun e => by
      have h1 := HS3.out.wo bw (by rw [ew]; exact e)
      rw [HS3.out.ow] at h1
      cases h1
    have hwm : (wt.map Int.ofNat).length ≤ 10000000 := by rw [List.length_map]; omega
    clear ew
    go_wp2_with (at_builtin; go_loud (refine wpList_append_sr (B := B) rfl _ _ 64 rfl Tryd.underlying64 (.slice pw wt.length kw) (wt.map Int.ofNat) rfl (HWR.out.stay ((Below.refl _ _).alloc (Nat.le_refl _) _)) (Nat.le_trans hB3 (by simp)) hwm ⟨X3.heap.size, 0, none⟩ 1 (a : Int) rfl (by rw [Addr.add_zero', cell_of_row _ _ _ _ _ _ (heap_alloc_new _ _)]; try rfl) ?_; intro v4 w4 hsr4 hgr4 hat4; obtain ⟨p4, k4, rfl⟩ : ∃ p4 k4, v4 = Value.slice p4 (wt.length + 1) k4 := (by (obtain ⟨p, k, e⟩ := hsr4.form); exact ⟨p, k, e.trans (by simp)⟩); have HSR4 := Lib.hid hsr4; have HAT4 := Lib.hid hat4; have HGR4 := Lib.hid hgr4; have HCH4 : Hid (Ch (fun z => (Value.slice pw wt.length kw).ownBlock = some z) X3 w4) := Lib.hid (((Ch.refl _ _).alloc _).grown hgr4 fun z e => .inl e); have cw4 := (HCH4.out.cell (b := bw) hbw3 hbwn).trans cw3; have zw4 := (HS3.out.xw.ch HCH4.out hbwn).frozen 0; have hbw4 := Nat.lt_of_lt_of_le hbw3 HCH4.out.size; clear hsr4 hat4 hgr4 cw3 zw3))
    refine bodyPost_ret (results_none rfl _ _ _) rfl ?_
    have hS5 := HS3.out.wait (wt' := wt ++ [a]) (by rw [HEW.out]; exact HCH4.out) (by rw [List.map_append]; exact HSR4.out) (by
      rw [HEW.out]
      exact HAT4.out.imp id fun ⟨z, e, h⟩ => ⟨z, e, by simp at h; omega⟩)
    refine ⟨_, _, _, _, rfl, fun b hb => ?_, by rw [if_neg (by rw [hrc]; simp)]; exact hS5, ?_⟩
    · rw [tagO_lt (Nat.lt_of_lt_of_le hb HCH.out.size), tagO_lt hb]
    · have hc5 : Ch (fun z => z = bw ∨ (Value.slice pw wt.length kw).ownBlock = some z) X3 _ := (HCH4.out.mono fun z _ e => .inr e).set (b := bw) (.inl (.inl rfl)) 0 (Value.slice p4 (wt.length + 1) k4)
      refine Ch.fresh (HCH.out.mono fun z _ e => by rw [e, hA.out.os]; simp) hc5 fun b hb h => ?_
      rcases h with h | h
      · rw [h, hA.out.ow]; simp
      · have h1 := HS3.out.wo b (by rw [HEW.out]; exact h)
        rw [tagO_lt hb] at h1
        rw [h1]; simp
end Go.Proofs.YtgdhgipofaaogaaDoor
namespace Go.Proofs.YtgdhgipofaaogaaDoor
open Go Go.RowKit Gm

def StepsP (W : World) (c : List Ic) (n : Nat) (e : Ending) (w' : World) : Prop := ∃ (sb : Nat) (rc tg : Nat → Bool) (fr : Nat → List Nat), e = .returned (.slice (some ⟨sb, 0, none⟩) n n) ∧ W.heap.size ≤ sb ∧ StM w' sb n c rc tg fr ∧ Stp c fr tg ∧ (∀ p, rc p = true ↔ Rc c p) ∧ (∀ p, (fr p).length ≤ 2 * n) ∧ (∀ i p k cap, w'.cell? ⟨sb, i, none⟩ = some (.slice (some p) k cap) → W.heap.size ≤ p.block ∧ p.block < w'.heap.size ∧ TyI w' p.block) ∧ (∃ cs f, w'.heap[sb]? = some (.cells cs 75 f)) ∧ Below W.heap.size W w'
/-- What of a row lies within a code. -/
def outsT (n : Nat) (l : List Int) : List Nat := (l.filter fun z : Int => decide (0 ≤ z) && decide (z < (n : Int))).map Int.toNat
theorem outs_T {c : List Ic} {i : Nat} {x : Ic} (hx : c[i]? = some x) : outs c i = outsT c.length (nextM x i) := by unfold outs; rw [hx]; rfl
theorem outsT_in {n p : Nat} {l : List Int} (hp : p < n) : outsT n (l ++ [(p : Int)]) = outsT n l ++ [p] := by
  unfold outsT
  rw [List.filter_append, List.map_append]
  have : (List.filter (fun z : Int => decide (0 ≤ z) && decide (z < (n : Int))) [(p : Int)]) = [(p : Int)] := by simp [hp]
  rw [this]
  rfl
theorem outsT_out {n : Nat} {z : Int} {l : List Int} (hz : z < 0 ∨ (n : Int) ≤ z) : outsT n (l ++ [z]) = outsT n l := by
  unfold outsT
  rw [List.filter_append, List.map_append]
  have : (List.filter (fun z : Int => decide (0 ≤ z) && decide (z < (n : Int))) [z]) = [] := by
    simp
    omega
  rw [this]
  simp
theorem SI.len {c : List Ic} {rc : Nat → Bool} {wt D : List Nat} {fr : Nat → List Nat} {tg : Nat → Bool} {a : Option (Nat × List Nat)} (h : SI c rc wt D fr tg a) : D.length + wt.length ≤ c.length := by
  have h5 := sub_len (l := (D ++ wt).map Int.ofNat) (m := (List.range c.length).map Int.ofNat) (List.pairwise_map.2 (h.nd.imp fun hne e => hne (Int.ofNat.inj e))) (fun t ht => by
    obtain ⟨a, ha, rfl⟩ := List.mem_map.1 ht
    refine List.mem_map.2 ⟨a, List.mem_range.2 ?_, rfl⟩
    rcases List.mem_append.1 ha with ha | ha
    · exact (h.sound a (h.dr a ha)).lt
    · exact (h.sound a (h.wr a ha)).lt)
  simpa using h5
theorem info_step : (Tryd.prog.info? 75).map (fun i => (i.zero, i.size, i.bytes)) = some (some (.agg #[.bool false, .bool false, .slice none 0 0, .int .i64 0, .slice none 0 0]), 5, 64) := by kernel_rfl
def zG (j : Nat) : Value := if j % 5 = 0 ∨ j % 5 = 1 then .bool false else if j % 5 = 3 then .int .i64 0 else .slice none 0 0
theorem made_step (m : Nat) : madeCells (Value.agg #[.bool false, .bool false, .slice none 0 0, .int .i64 0, .slice none 0 0]).cells (m * 5) = (rw_ (m * 5) zG).toArray := by
  unfold madeCells
  apply Array.ext_getElem?
  intro j
  by_cases h : j < m * 5
  · have h5 : j % 5 = 0 ∨ j % 5 = 1 ∨ j % 5 = 2 ∨ j % 5 = 3 ∨ j % 5 = 4 := by omega
    have hs : (Value.agg #[.bool false, .bool false, .slice none 0 0, .int .i64 0, .slice none 0 0]).cells = #[.bool false, .bool false, .slice none 0 0, .int .i64 0, .slice none 0 0] := by rfl
    rw [hs]
    rcases h5 with e | e | e | e | e <;> simp [rw_, h, zG, e]
  · simp [rw_, h]
theorem make_steps (m : Nat) (hm : m ≤ 10000) (W : World) : (Instr.makeSlice 61 (.int .i64 m) (.int .i64 m)).run Tryd.prog W = .ok (.slice (some ⟨W.heap.size, 0, none⟩) m m) (W.alloc (.cells (rw_ (m * 5) zG).toArray 75)) := by
  obtain ⟨i0, h1, h2, h3, h4⟩ := info_parts info_step
  have := run_makeSlice (P := Tryd.prog) W 61 75 i0 _ Tryd.underlying61 h1 h2 .i64 .i64 m m (by omega) (by omega) (Nat.le_trans (by rw [h3]; simp; omega) (show 100000 ≤ _ by decide)) (by rw [h4]; omega) (by omega)
  rw [this, h3]
  have e := made_step m
  simp only [Int.toNat_natCast]
  rw [e]
theorem SW.out {B : Nat} {own : Nat → Os} {W : World} {sb n cap : Nat} {c : List Ic} {rc tg : Nat → Bool} {fr : Nat → List Nat} {G : Nat → Value} {bl bc bw : Nat} {pc : Option Addr} {vw : Value} {wt : List Nat} (h : SW B own W sb n c rc tg fr G bl bc bw pc cap vw wt) : StM W sb n c rc tg fr ∧ ∀ i p k cap, W.cell? ⟨sb, i, none⟩ = some (.slice (some p) k cap) → B ≤ p.block ∧ p.block < W.heap.size ∧ TyI W p.block := by
  refine ⟨⟨h.fv.lt, fun i hi => by rw [h.fv.cell (by omega), h.gr i hi], fun i hi => by rw [h.fv.cell (by omega), h.gt i hi], fun i hi => ?_, fun i hi hr => by rw [h.fv.cell (by omega), h.gd i hi hr], fun i hi hr => ?_⟩, fun i p k cap e => ?_⟩
  · obtain ⟨p, k, e, hr⟩ := (h.gf i hi).1.rv
    rw [List.length_map] at e hr
    refine ⟨p, k, by rw [h.fv.cell (by omega), e], hr.to fun j hj => ?_⟩
    show Value.int .i64 ((List.map Int.ofNat (fr i)).getD j 0) = Value.int .i64 (((fr i).getD j 0 : Nat) : Int)
    rw [List.getD_eq_getElem?_getD, List.getD_eq_getElem?_getD, List.getElem?_map, List.getElem?_eq_getElem hj]
    rfl
  · rcases h.gn i hi with ⟨p, k, e, hr2, -⟩ | ⟨e, -⟩
    · exact ⟨p, k, by rw [h.fv.cell (by omega), e], hr2⟩
    · rw [hr] at e; cases e
  · by_cases hi : i < n * 5
    · rw [h.fv.cell hi] at e
      have e := Option.some.inj e
      have h5 : i % 5 = 0 ∨ i % 5 = 1 ∨ i % 5 = 2 ∨ i % 5 = 3 ∨ i % 5 = 4 := by omega
      have hq : i / 5 < n := by omega
      rcases h5 with h5 | h5 | h5 | h5 | h5
      · have := h.gr (i / 5) hq
        rw [show i / 5 * 5 = i by omega, e] at this
        cases this
      · have := h.gt (i / 5) hq
        rw [show i / 5 * 5 + 1 = i by omega, e] at this
        cases this
      · have := (h.gf (i / 5) hq).1
        rw [show i / 5 * 5 + 2 = i by omega, e] at this
        exact ⟨(this.lt _ rfl).1, (this.lt _ rfl).2, this.ty rfl⟩
      · obtain ⟨d, this⟩ := h.gi (i / 5) hq
        rw [show i / 5 * 5 + 3 = i by omega, e] at this
        cases this
      · rcases h.gn (i / 5) hq with ⟨p', k', e', -, h3⟩ | ⟨-, e'⟩
        · rw [show i / 5 * 5 + 4 = i by omega, e] at e'
          cases e'
          exact (h3 p rfl).2
        · rw [show i / 5 * 5 + 4 = i by omega, e] at e'
          cases e'
    · rw [cell_of_row _ _ _ _ _ _ h.fv] at e
      simp [rw_, hi] at e
def ownS (bc sb bl bw b : Nat) : Os := if b = bc ∨ b = bl ∨ b = bw then .v else if b = sb then .sb else .no
theorem SW.new {W : World} {bc sb bl bw n cap : Nat} {pc : Option Addr} {c : List Ic} (hbc : W.heap.size = bc) (hsb : bc + 1 = sb) (hbl : sb + 1 = bl) (hbw : bl + 1 = bw) : SW W.heap.size (ownS bc sb bl bw) ((((W.alloc (.cells #[.slice pc n cap] 28)).alloc (.cells (rw_ (n * 5) zG).toArray 75)).alloc (.cells #[.slice (some ⟨sb, 0, none⟩) n n] 61)).alloc (.cells #[.slice none 0 0] 64)) sb n c (fun _ => false) (fun _ => false) (fun _ => []) zG bl bc bw pc cap (.slice none 0 0) [] := by
  have s1 : (W.alloc (.cells #[.slice pc n cap] 28)).heap.size = sb := by rw [World.size_alloc]; omega
  have s2 : ((W.alloc (.cells #[.slice pc n cap] 28)).alloc (.cells (rw_ (n * 5) zG).toArray 75)).heap.size = bl := by rw [World.size_alloc, s1]; omega
  have s3 : (((W.alloc (.cells #[.slice pc n cap] 28)).alloc (.cells (rw_ (n * 5) zG).toArray 75)).alloc (.cells #[.slice (some ⟨sb, 0, none⟩) n n] 61)).heap.size = bw := by rw [World.size_alloc, s2]; omega
  have f1 : FV 28 (W.alloc (.cells #[.slice pc n cap] 28)) bc 1 (fun _ => .slice pc n cap) := FV.new hbc.symm rfl
  have f2 : FV 75 ((W.alloc (.cells #[.slice pc n cap] 28)).alloc (.cells (rw_ (n * 5) zG).toArray 75)) sb (n * 5) zG := FV.new s1.symm (by simp)
  have f3 : FV 61 (((W.alloc (.cells #[.slice pc n cap] 28)).alloc (.cells (rw_ (n * 5) zG).toArray 75)).alloc (.cells #[.slice (some ⟨sb, 0, none⟩) n n] 61)) bl 1 (fun _ => .slice (some ⟨sb, 0, none⟩) n n) := FV.new s2.symm rfl
  refine ⟨if_pos (.inr (.inl rfl)), if_pos (.inl rfl), if_pos (.inr (.inr rfl)), by omega, by omega, by omega, ?_, f3.alloc _, ((f1.alloc _).alloc _).alloc _, FV.new s3.symm rfl, SR.nil _ _, fun z e => (by cases e), (f2.alloc _).alloc _, fun i hi => ?_, fun i hi => ?_, fun i hi => ?_, fun i hi h => (by cases h), fun i hi => ?_, fun i hi => .inr ⟨rfl, ?_⟩⟩
  · unfold ownS
    rw [if_neg (by omega), if_pos rfl]
  · unfold zG
    rw [if_pos (by omega)]
  · unfold zG
    rw [if_pos (by omega)]
  · unfold zG
    rw [if_neg (by omega), if_neg (by omega)]
    exact ⟨SR.nil _ _, fun z e => (by cases e)⟩
  · unfold zG
    rw [if_neg (by omega), if_pos (by omega)]
    exact ⟨0, rfl⟩
  · unfold zG
    rw [if_neg (by omega), if_neg (by omega)]
def R14 (W : World) (own2 : Nat → Os) (wj X : World) (sb n : Nat) (c : List Ic) (rc tg : Nat → Bool) (fr : Nat → List Nat) (bl bc bw : Nat) (pc : Option Addr) (cap : Nat) (vw : Value) (wt : List Nat) (p q : Nat) : Prop := ∃ (own5 : Nat → Os) (G5 : Nat → Value), SW W.heap.size own5 X sb n c rc tg (updL fr p (fr p ++ [q])) G5 bl bc bw pc cap vw wt ∧ Ch (fun z => own2 z ≠ .no) wj X ∧ ∀ b, b < wj.heap.size → own5 b = own2 b
set_option maxRecDepth 100000 in
set_option maxHeartbeats 8000000 in
theorem steps_c {W : World} {n cap : Nat} {c : List Ic} {pc : Option Addr} (hK : Hid (Kinds W)) (hC : Hid (CodeAt W pc c)) (hl : c.length = n) (hn : n ≤ 5000) (hn0 : 0 < n) : Calls Tryd.prog 37 #[.slice pc n cap] W (StepsP W c n) := by
  have hmk := make_steps n (by omega)
  obtain ⟨gc, oc, epc, -, -⟩ := hC.out 0 c[0] (List.getElem?_eq_getElem (by omega))
  subst epc
  go_enter Tryd.func37, Tryd.ntmps37
  go_upto_region 3 with (fail)
  refine name_world ?_
  intro W4 hW4
  obtain ⟨bc, hbc⟩ : ∃ x, W.heap.size = x := ⟨_, rfl⟩
  obtain ⟨sb, hsb⟩ : ∃ x, bc + 1 = x := ⟨_, rfl⟩
  obtain ⟨bl, hbl⟩ : ∃ x, sb + 1 = x := ⟨_, rfl⟩
  obtain ⟨bw, hbw⟩ : ∃ x, bl + 1 = x := ⟨_, rfl⟩
  have HS4 : Hid (SW W.heap.size (ownS bc sb bl bw) W4 sb n c (fun _ => false) (fun _ => false) (fun _ => []) zG bl bc bw (some (⟨gc, oc, none⟩ : Addr)) cap (.slice none 0 0) []) := Lib.hid (by
    have e : W4 = (((W.alloc (.cells #[.slice (some (⟨gc, oc, none⟩ : Addr)) n cap] 28)).alloc (.cells (rw_ (n * 5) zG).toArray 75)).alloc (.cells #[.slice (some ⟨sb, 0, none⟩) n n] 61)).alloc (.cells #[.slice none 0 0] 64) := by rw [hW4, ← hsb, ← hbc]
    rw [e]
    exact SW.new hbc hsb hbl hbw)
  have HB4 : Hid (Below W.heap.size W W4) := Lib.hid (by
    rw [hW4]
    exact ((((Below.refl _ _).alloc (Nat.le_refl _) _).alloc (by simp) _).alloc (by simp; omega) _).alloc (by simp; omega) _)
  have HSB : Hid (W.heap.size ≤ sb) := Lib.hid (by omega)
  have HON : Hid (∀ b, b < W.heap.size → ownS bc sb bl bw b = .no) := Lib.hid fun b hb => by
    unfold ownS
    rw [if_neg (by omega), if_neg (by omega)]
  rw [hbc, hsb, hbl, hbw]
  obtain ⟨own0, ho0⟩ : ∃ o, ownS bc sb bl bw = o := ⟨_, rfl⟩
  rw [ho0] at HS4 HON
  have HC4 : Hid (CodeAt W4 (some (⟨gc, oc, none⟩ : Addr)) c) := Lib.hid (hC.out.stay (HB4.out))
  have HK4 : Hid (Kinds W4) := Lib.hid (hK.out.below HB4.out)
  have HCO : Hid (∀ ad, (some (⟨gc, oc, none⟩ : Addr)) = some ad → ad.block < W.heap.size ∧ own0 ad.block = .no) := Lib.hid fun ad e => by
    obtain ⟨g, o, e2, hg, -⟩ := hC.out 0 c[0] (List.getElem?_eq_getElem (by omega))
    rw [e] at e2
    cases e2
    exact ⟨hg, HON.out _ hg⟩
  have HKO : Hid (0 < W.heap.size ∧ own0 0 = .no) := Lib.hid ⟨hK.out.size, HON.out _ hK.out.size⟩
  have hbl4 := HS4.out.vl.lt
  have hbc4 := HS4.out.vc.lt
  have cc4 := HS4.out.vc.cell (i := 0) (by omega)
  have hB4 := HB4.out.size
  have HRE : Hid (Calls Tryd.prog 58 #[.int .i64 0, .pointer (some ⟨bl, 0, none⟩), .pointer (some ⟨bc, 0, none⟩), .pointer (some ⟨bw, 0, none⟩)] W4 (ReachP W.heap.size own0 W4 sb n c (fun _ => false) (fun _ => false) (fun _ => []) bl bc bw (some (⟨gc, oc, none⟩ : Addr)) cap [] 0)) := Lib.hid (reach_c (a := 0) HS4 HK4 HC4 (Lib.hid fun ad e => (HCO.out ad e).2) hl hn0 hn hB4 (by simp))
  clear hW4 hbc hsb hbl hbw ho0 hmk
  go_upto_region 6 with (go_at_call 58; (with_reducible refine (HRE.out).mono ?_); rintro e5 w5 hp; obtain ⟨v0, rfl⟩ : ∃ v0, e5 = .returned v0 := (by obtain ⟨v0, _, _, _, h, _⟩ := hp; exact ⟨v0, h⟩); have HP := Lib.hid hp; clear hp)
  obtain ⟨-, own5, G5, vw5, -, ho5, hs5, hc5⟩ := HP.out
  have e1 : (fun z => if z = 0 then true else (fun _ => false) z) = fun p : Nat => decide (p = 0) := by funext z; by_cases h : z = 0 <;> simp [h]
  rw [e1] at hs5
  have e2 : (if (fun _ : Nat => false) 0 = true then ([] : List Nat) else [] ++ [0]) = [0] := by simp
  rw [e2] at hs5
  have HS5 := Lib.hid hs5
  have hbl5 := hs5.vl.lt
  have cl5 := hs5.vl.cell (i := 0) (by omega)
  have hsb5 := hs5.fv.lt
  have r5 := hs5.fv.cell (i := 1) (by omega)
  have r6 := hs5.gt 0 hn0
  rw [show 0 * 5 + 1 = 1 from rfl] at r6
  rw [r6] at r5
  have z5 := hs5.fv.frozen 1
  clear r6 e1 e2 hs5
  go_upto_region 7 with (fail)
  refine name_world ?_
  intro W6 hW6
  have HS6 : Hid (SW W.heap.size own5 W6 sb n c (fun p => decide (p = 0)) (fun p => decide (p = 0)) (fun _ => []) (upd G5 (0 * 5 + 1) (.bool true)) bl bc bw (some (⟨gc, oc, none⟩ : Addr)) cap vw5 [0]) := Lib.hid (by
    have h := HS5.out.tog (a := 0) (t := true) (X := W6) (by rw [hW6])
    have e : (fun z => if z = 0 then true else (fun _ : Nat => false) z) = fun p : Nat => decide (p = 0) := by funext z; by_cases h : z = 0 <;> simp [h]
    rw [e] at h
    exact h)
  have HC6 : Hid (Ch (fun z => own0 z ≠ .no) W4 W6) := Lib.hid (by
    rw [hW6]
    exact hc5.set (.inl (by rw [HS4.out.os]; simp)) _ _)
  have HO6 := Lib.hid ho5
  obtain ⟨G6, hG6⟩ : ∃ z, upd G5 (0 * 5 + 1) (.bool true) = z := ⟨_, rfl⟩
  rw [hG6] at HS6
  clear hW6 hG6 ho5 hc5 hbl5 cl5 hsb5 r5 z5
  obtain ⟨TOx, hTO⟩ : ∃ P : Nat → World → Prop, ∀ mu X, P mu X ↔ ∃ own1 rc tg fr G vw wt D, SW W.heap.size own1 X sb n c rc tg fr G bl bc bw (some (⟨gc, oc, none⟩ : Addr)) cap vw wt ∧ SI c rc wt D fr tg none ∧ (∀ p, (fr p).length ≤ 2 * D.length) ∧ Ch (fun z => own0 z ≠ .no) W4 X ∧ (∀ b, b < W4.heap.size → own1 b = own0 b) ∧ n - D.length = mu := ⟨_, fun _ _ => Iff.rfl⟩
  have HTO := Lib.hid hTO
  clear hTO
  go_loopw [] (fun wr => ∃ mu, TOx mu wr) (fun wr => leastN (fun mu => TOx mu wr))
  case atStart => exact ⟨_, (HTO.out _ _).2 ⟨own5, _, _, _, G6, vw5, [0], [], HS6.out, SI.new (by omega), fun p => Nat.zero_le _, HC6.out, HO6.out, rfl⟩⟩
  case round =>
    obtain ⟨wo, rfl⟩ : ∃ wo : World, wo = wr := ⟨_, rfl⟩
    obtain ⟨mu0, hmu0⟩ := hrel
    obtain ⟨own1, rc1, tg1, fr1, G1, vw1, wt1, D1, hS1, hI1, hf1, hc1, ho1, hm1⟩ := (HTO.out (leastN fun mu => TOx mu wo) wo).1 (leastN_spec (P := fun mu => TOx mu wo) hmu0).1
    have HMU := Lib.hid hm1
    have HS1 := Lib.hid hS1
    have HI1 := Lib.hid hI1
    have HF1 := Lib.hid hf1
    have HC1 := Lib.hid hc1
    have HO1 := Lib.hid ho1
    obtain ⟨pw, kw, ew⟩ := hS1.wr.form
    rw [List.length_map] at ew
    have hbw1 := hS1.xw.lt
    have cw1 := hS1.xw.cell (i := 0) (by omega)
    have zw1 := hS1.xw.frozen 0
    rw [ew] at cw1
    have hbl1 := hS1.vl.lt
    have cl1 := hS1.vl.cell (i := 0) (by omega)
    clear hS1 hI1 hf1 hc1 ho1 hm1 hmu0
    rcases List.eq_nil_or_concat wt1 with hw | ⟨wt0, q, hw⟩
    · subst hw
      have HEND : Hid (StepsP W c n (.returned (.slice (some ⟨sb, 0, none⟩) n n)) wo) := Lib.hid (by
        obtain ⟨h1, h2⟩ := HS1.out.out
        refine ⟨sb, rc1, tg1, fr1, rfl, HSB.out, h1, HI1.out.stp, HI1.out.rc_iff, fun p => ?_, h2, ⟨_, _, HS1.out.fv⟩, ?_⟩
        · have h3 := HF1.out p
          have h4 := HI1.out.len
          omega
        · refine HB4.out.trans ?_
          exact HC1.out.below hB4 fun b hb h => h (HON.out b hb))
      clear ew
      go_wp2
      go_ret
      exact HEND.out
    · rw [List.concat_eq_append] at hw
      subst hw
      have hlen : (wt0 ++ [q]).length = wt0.length + 1 := by simp
      have HWR : SR W.heap.size wo (.slice pw (wt0 ++ [q]).length kw) ((wt0 ++ [q]).map Int.ofNat) := ew ▸ HS1.out.wr
      obtain ⟨gw, ow, epw, hkw, hsr0, cq, hgw⟩ := SR.pop HWR
      subst epw
      rw [hlen] at cw1 ew hkw
      have HEW := Lib.hid ew
      have HSR0 := Lib.hid hsr0
      have HQ : Hid (Rc c q) := Lib.hid (HI1.out.sound q (HI1.out.wr q (by simp)))
      have hqn : q < n := by rw [← hl]; exact HQ.out.lt
      have hwl : wt0.length ≤ 5000 := by have h4 := HI1.out.len; rw [hlen] at h4; omega
      clear HWR ew hsr0 hlen
      go_upto_region 10 with (fail)
      refine name_world ?_
      intro V9 hV9
      obtain ⟨own9, ho9⟩ : ∃ o, tagO own1 wo.heap.size .wt = o := ⟨_, rfl⟩
      have HO9 : Hid (∀ b, b < wo.heap.size → own9 b = own1 b) := Lib.hid fun b hb => by rw [← ho9]; exact tagO_lt hb
      have HS9 : Hid (SW W.heap.size own9 V9 sb n c rc1 tg1 fr1 G1 bl bc bw (some (⟨gc, oc, none⟩ : Addr)) cap (.slice (some ⟨gw, ow, none⟩) wt0.length kw) wt0) := Lib.hid (by
        rw [← ho9, hV9]
        exact HS1.out.wait (wt' := wt0) (v' := .slice (some ⟨gw, ow, none⟩) wt0.length kw) (Ch.refl _ _) HSR0.out (.inl (by rw [HEW.out]; rfl)))
      have HC9 : Hid (Ch (fun z => own0 z ≠ .no) W4 V9) := Lib.hid (by
        rw [hV9]
        exact HC1.out.set (.inl (by rw [HS4.out.ow]; simp)) _ _)
      have HOA : Hid (∀ b, b < W4.heap.size → own9 b = own0 b) := Lib.hid fun b hb => by rw [HO9.out b (Nat.lt_of_lt_of_le hb HC1.out.size)]; exact HO1.out b hb
      obtain ⟨x, hx⟩ : ∃ x, c[q]? = some x := ⟨_, List.getElem?_eq_getElem HQ.out.lt⟩
      have HX := Lib.hid hx
      have HC9c : Hid (CodeAt V9 (some (⟨gc, oc, none⟩ : Addr)) c) := Lib.hid (HC4.out.ch HC9.out fun ad e h => h (HCO.out ad e).2)
      obtain ⟨gc', oc', ep, hgc, at7, -⟩ := HC9c.out q x hx
      cases ep
      have k0 := at7.k
      have k1 := at7.o
      have k2 := at7.d
      have k3 := at7.a
      have k4 := at7.b
      have k5 := at7.n
      have k6 := at7.t
      have hbc9 := HS9.out.vc.lt
      have cc9 := HS9.out.vc.cell (i := 0) (by omega)
      have HNX : Hid (Calls Tryd.prog 61 #[.agg #[.int .i64 x.k, .int .i64 x.o, .int .i64 x.d, .int .i64 x.a, .int .i64 x.b, .int .i64 x.n, .int .i64 x.t], .int .i64 q] V9 (RowP V9 (nextM x q))) := Lib.hid (next_any x q V9 (by omega) (by omega) (HK4.out.ch HC9.out fun h => h HKO.out.2))
      obtain ⟨N, hN⟩ : ∃ N, nextM x q = N := ⟨_, rfl⟩
      rw [hN] at HNX
      have HNO : Hid (outs c q = outsT n N) := Lib.hid (by rw [outs_T HX.out, hl, hN])
      have hNl : N.length ≤ 2 := by rw [← hN]; exact nextM_len _ _
      clear hV9 ho9 at7 hx hN cw1 zw1 hbw1 hbl1 cl1 cq hgw hkw
      go_upto_region 11 with (go_at_call 61; (with_reducible refine (HNX.out).mono ?_); rintro e6 w6 ⟨v6, rfl, hr6, hb6⟩; obtain ⟨pn, kn, rfl, hrv6, hon6⟩ := RowP.rv hr6; have HB6 := Lib.hid hb6; have HRV6 := Lib.hid hrv6; have HON6 := Lib.hid hon6; clear hr6 hb6 hrv6 hon6)
      obtain ⟨ownA, hoA⟩ : ∃ o, tagO own9 V9.heap.size .no = o := ⟨_, rfl⟩
      have HSA : Hid (SW W.heap.size ownA w6 sb n c rc1 tg1 fr1 G1 bl bc bw (some (⟨gc, oc, none⟩ : Addr)) cap (.slice (some ⟨gw, ow, none⟩) wt0.length kw) wt0) := Lib.hid (by
        rw [← hoA]
        exact HS9.out.ch (S := fun _ => False) (Ch.of HB6.out) (fun b hb => tagO_lt hb) fun _ _ h => h)
      have HIA : Hid (SI c rc1 wt0 D1 fr1 tg1 (some (q, outsT n (N.take 0)))) := Lib.hid HI1.out.pop
      have HCA : Hid (Ch (fun z => own0 z ≠ .no) W4 w6) := Lib.hid (HC9.out.stepB HB6.out)
      have HOB : Hid (∀ b, b < W4.heap.size → ownA b = own0 b) := Lib.hid fun b hb => by rw [← hoA, tagO_lt (Nat.lt_of_lt_of_le hb HC9.out.size)]; exact HOA.out b hb
      have HONA : Hid (∀ ad, pn = some ad → ownA ad.block = .no ∧ ad.block < w6.heap.size) := Lib.hid fun ad e => by
        obtain ⟨e1, e2, -⟩ := HON6.out ad e
        exact ⟨by rw [← hoA]; exact tagO_ge e1, e2⟩
      clear hoA
      go_loopw [42] (fun z wr => ∃ (j : Nat) (own2 : Nat → Os) (rc2 tg2 : Nat → Bool) (fr2 : Nat → List Nat) (G2 : Nat → Value) (vw2 : Value) (wt2 : List Nat), z = .int .i64 j ∧ j ≤ N.length ∧ Hid (SW W.heap.size own2 wr sb n c rc2 tg2 fr2 G2 bl bc bw (some (⟨gc, oc, none⟩ : Addr)) cap vw2 wt2 ∧ SI c rc2 wt2 D1 fr2 tg2 (some (q, outsT n (N.take j))) ∧ (∀ p, (fr2 p).length ≤ 2 * D1.length + (outsT n (N.take j)).length) ∧ Ch (fun z => own0 z ≠ .no) W4 wr ∧ (∀ b, b < W4.heap.size → own2 b = own0 b) ∧ RV wr pn N.length (iv fun j => N.getD j 0) ∧ ∀ ad, pn = some ad → own2 ad.block = .no ∧ ad.block < wr.heap.size)) (fun z _ => N.length - (intOf z).toNat)
      case atStart => exact ⟨0, ownA, rc1, tg1, fr1, G1, _, wt0, rfl, Nat.zero_le _, Lib.hid ⟨HSA.out, HIA.out, fun p => by have := HF1.out p; omega, HCA.out, HOB.out, HRV6.out, HONA.out⟩⟩
      case round =>
        obtain ⟨wj, rfl⟩ : ∃ wj : World, wj = wr := ⟨_, rfl⟩
        obtain ⟨j, own2, rc2, tg2, fr2, G2, vw2, wt2, rfl, hj, HI⟩ := hrel
        have HSW := Lib.hid HI.out.1
        by_cases hltj : j < N.length
        · obtain ⟨gn, on, ep2, hgn, jr⟩ := HI.out.2.2.2.2.2.1 j hltj
          obtain ⟨z, hz⟩ : ∃ x, N[j] = x := ⟨_, rfl⟩
          have elv : iv (fun j => N.getD j 0) j = .int .i64 z := by
            show Value.int .i64 (N.getD j 0) = _
            rw [List.getD_eq_getElem?_getD, List.getElem?_eq_getElem hltj, hz]
            rfl
          rw [elv] at jr
          have HNT : Hid (N.take (j + 1) = N.take j ++ [z]) := Lib.hid (by rw [List.take_add_one, List.getElem?_eq_getElem hltj, hz]; rfl)
          have HNZ : Hid (z ∈ N) := Lib.hid (by rw [← hz]; exact List.getElem_mem hltj)
          have hbcj := HSW.out.vc.lt
          have ccj := HSW.out.vc.cell (i := 0) (by omega)
          have hbl2 := HSW.out.vl.lt
          have cl := HSW.out.vl.cell (i := 0) (by omega)
          subst ep2
          clear elv hz
          by_cases hz0 : z < 0
          · have hz1 : decide (z < 0) = true := by simp [hz0]
            have HZ : Hid (outsT n (N.take (j + 1)) = outsT n (N.take j)) := Lib.hid (by rw [HNT.out]; exact outsT_out (.inl hz0))
            go_wp2
            go_roundw
            case rel => exact ⟨j + 1, own2, rc2, tg2, fr2, G2, vw2, wt2, by go_num, by omega, Lib.hid (by rw [HZ.out]; exact HI.out)⟩
            case measure => (simp [intOf]; try omega)
          · have hz1 : decide (z < 0) = false := by simp [hz0]
            by_cases hzn : (n : Int) ≤ z
            · have hz2 : decide ((n : Int) ≤ z) = true := by simp [hzn]
              have HZ : Hid (outsT n (N.take (j + 1)) = outsT n (N.take j)) := Lib.hid (by rw [HNT.out]; exact outsT_out (.inr hzn))
              go_wp2
              go_roundw
              case rel => exact ⟨j + 1, own2, rc2, tg2, fr2, G2, vw2, wt2, by go_num, by omega, Lib.hid (by rw [HZ.out]; exact HI.out)⟩
              case measure => (simp [intOf]; try omega)
            · have hz2 : decide ((n : Int) ≤ z) = false := by simp [hzn]
              obtain ⟨p, hp⟩ : ∃ p : Nat, z = p := ⟨z.toNat, by omega⟩
              subst hp
              have hpn : p < n := by omega
              have HPO : Hid (p ∈ outs c q) := Lib.hid (by
                rw [HNO.out]
                unfold outsT
                exact List.mem_map.2 ⟨(p : Int), List.mem_filter.2 ⟨HNZ.out, by simp [hpn]⟩, rfl⟩)
              obtain ⟨pf, kf, ef⟩ := (HSW.out.gf p hpn).1.form
              rw [List.length_map] at ef
              have HEF := Lib.hid ef
              have HSF : Hid (SR W.heap.size wj (.slice pf (fr2 p).length kf) ((fr2 p).map Int.ofNat)) := Lib.hid (ef ▸ (HSW.out.gf p hpn).1)
              have hfl2 : (fr2 p).length ≤ 20000 := by
                have h1 := HI.out.2.2.1 p
                have h2 := HI.out.2.1.len
                have h3 : (outsT n (N.take j)).length ≤ 2 := by
                  unfold outsT
                  rw [List.length_map]
                  exact Nat.le_trans (List.length_filter_le _ _) (by rw [List.length_take]; omega)
                omega
              have ff := HSW.out.fv.cell (i := p * 5 + 2) (by omega)
              rw [ef] at ff
              have hsbj := HSW.out.fv.lt
              have hnf : ¬ (Value.slice pf (fr2 p).length kf).ownBlock = some sb := fun e => by
                have h1 := (HSW.out.gf p hpn).2 sb (by rw [ef]; exact e)
                rw [HSW.out.os] at h1
                cases h1
              have hnl : ¬ (bl = sb ∨ (Value.slice pf (fr2 p).length kf).ownBlock = some bl) := fun h => by
                rcases h with h | h
                · have h1 := HSW.out.os; rw [← h, HSW.out.ol] at h1; cases h1
                · have h1 := (HSW.out.gf p hpn).2 bl (by rw [ef]; exact h)
                  rw [HSW.out.ol] at h1
                  cases h1
              have hBj : W.heap.size ≤ wj.heap.size := Nat.le_trans hB4 HI.out.2.2.2.1.size
              have HREL : Hid (∀ (w4 : World) (p4 : Option Addr) (k4 : Nat), Ch (fun z => (Value.slice pf (fr2 p).length kf).ownBlock = some z) wj w4 → Ch (fun z => z = sb ∨ (Value.slice pf (fr2 p).length kf).ownBlock = some z) wj w4 → SR W.heap.size w4 (.slice p4 ((fr2 p).map Int.ofNat ++ [(q : Int)]).length k4) ((fr2 p).map Int.ofNat ++ [(q : Int)]) → ((Value.slice p4 ((fr2 p).map Int.ofNat ++ [(q : Int)]).length k4).ownBlock = (G2 (p * 5 + 2)).ownBlock ∨ ∃ g, (Value.slice p4 ((fr2 p).map Int.ofNat ++ [(q : Int)]).length k4).ownBlock = some g ∧ wj.heap.size ≤ g) → R14 W own2 wj (w4.setCell ⟨sb, p * 5 + 2, none⟩ (.slice p4 ((fr2 p).map Int.ofNat ++ [(q : Int)]).length k4)) sb n c rc2 tg2 fr2 bl bc bw (some (⟨gc, oc, none⟩ : Addr)) cap vw2 wt2 p q) := Lib.hid fun w4 p4 k4 h1 h2 h3 h4 => by
                have h5 := HSW.out.from (l' := fr2 p ++ [q]) hpn (by rw [HEF.out]; exact h1) (by rw [List.map_append]; exact h3) h4
                refine ⟨_, _, h5, (h2.set (.inl (.inl rfl)) _ _).mono fun z _ h => ?_, fun b hb => tagO_lt hb⟩
                rcases h with h | h
                · rw [h, HSW.out.os]; simp
                · rw [(HSW.out.gf p hpn).2 z (by rw [HEF.out]; exact h)]; simp
              clear ef
              go_upto_region 14 with (fail)
              go_cut [] from 54 to 65 (fun X => R14 W own2 wj X sb n c rc2 tg2 fr2 bl bc bw (some (⟨gc, oc, none⟩ : Addr)) cap vw2 wt2 p q)
              case first =>
                refine region_held1 (fun w' => Ch (fun z => z = sb ∨ (Value.slice pf (fr2 p).length kf).ownBlock = some z) wj w') (by kernel_rfl) ?_
                show wpAnyH _ _ _ _ _ 13 _ _ _
                have hS0 : Ch (fun z => z = sb ∨ (Value.slice pf (fr2 p).length kf).ownBlock = some z) wj wj.drew := Ch.of (below_drew1 _)
                refine takeH (i := 0) (v := .slice (some ⟨sb, 0, none⟩) n n) (some 54) rfl rfl (by kernel_rfl) (by kernel_rfl) (by kernel_rfl) (Or.inl ⟨by rfl, ?_⟩) hS0 ?_
                · intro y1 hS1
                  have cl := (hS1.cell (b := bl) hbl2 hnl).trans cl
                  go_simp
                simp only [Act.put, List.setIfInBounds_toArray, List.set_cons_zero, List.set_cons_succ]
                refine takeH (i := 1) (v := .int .i64 (p : Int)) (some 55) rfl rfl (by kernel_rfl) (by kernel_rfl) (by kernel_rfl) (Or.inl ⟨by rfl, ?_⟩) hS0 ?_
                · intro y1 hS1
                  go_simp
                simp only [Act.put, List.setIfInBounds_toArray, List.set_cons_zero, List.set_cons_succ]
                refine takeH (i := 2) (v := .slice (some ⟨sb, 0, none⟩) n n) (some 56) rfl rfl (by kernel_rfl) (by kernel_rfl) (by kernel_rfl) (Or.inl ⟨by rfl, ?_⟩) hS0 ?_
                · intro y1 hS1
                  have cl := (hS1.cell (b := bl) hbl2 hnl).trans cl
                  go_simp
                simp only [Act.put, List.setIfInBounds_toArray, List.set_cons_zero, List.set_cons_succ]
                refine takeH (i := 3) (v := .int .i64 (p : Int)) (some 57) rfl rfl (by kernel_rfl) (by kernel_rfl) (by kernel_rfl) (Or.inl ⟨by rfl, ?_⟩) hS0 ?_
                · intro y1 hS1
                  go_simp
                simp only [Act.put, List.setIfInBounds_toArray, List.set_cons_zero, List.set_cons_succ]
                refine takeH (i := 4) (v := .pointer (some ⟨sb, p * 5, none⟩)) (some 58) rfl rfl (by kernel_rfl) (by kernel_rfl) (by kernel_rfl) (Or.inl ⟨by rfl, ?_⟩) hS0 ?_
                · intro y1 hS1
                  go_simp
                simp only [Act.put, List.setIfInBounds_toArray, List.set_cons_zero, List.set_cons_succ]
                refine takeH (i := 5) (v := .pointer (some ⟨sb, p * 5 + 2, none⟩)) (some 59) rfl rfl (by kernel_rfl) (by kernel_rfl) (by kernel_rfl) (Or.inl ⟨by rfl, ?_⟩) hS0 ?_
                · intro y1 hS1
                  go_simp
                simp only [Act.put, List.setIfInBounds_toArray, List.set_cons_zero, List.set_cons_succ]
                refine takeH (i := 7) (v := .int .i64 (q : Int)) (some 61) rfl rfl (by kernel_rfl) (by kernel_rfl) (by kernel_rfl) (Or.inl ⟨by rfl, ?_⟩) hS0 ?_
                · intro y1 hS1
                  go_simp
                simp only [Act.put, List.setIfInBounds_toArray, List.set_cons_zero, List.set_cons_succ]
                refine wpAnyH_all (rs := [6, 8]) (by kernel_rfl) (by simp) ?_
                intro i1 hi1
                rcases (show i1 = 6 ∨ i1 = 8 by simpa using hi1) with rfl | rfl
                · refine wpOp_val (w' := wj.drew) (v := .slice pf (fr2 p).length kf) (some 60) rfl rfl (by rfl) (by go_simp) ?_
                  refine ⟨hS0, ?_⟩
                  simp only [Act.put, List.setIfInBounds_toArray, List.set_cons_zero, List.set_cons_succ]
                  refine wpAnyH_all (rs := [8]) (by kernel_rfl) (by simp) ?_
                  intro i4 hi4
                  obtain rfl : i4 = 8 := by simpa using hi4
                  refine wpOp_val (w' := wj.drew.alloc (.cells #[.int .i64 (q : Int)] 3)) (v := .slice (some ⟨wj.drew.heap.size, 0, none⟩) 1 1) (some 62) rfl rfl (by rfl) (by go_simp) ?_
                  refine ⟨hS0.alloc _, ?_⟩
                  simp only [Act.put, List.setIfInBounds_toArray, List.set_cons_zero, List.set_cons_succ]
                  refine wpAnyH_all (rs := [9]) (by kernel_rfl) (by simp) ?_
                  intro i2 hi2
                  obtain rfl : i2 = 9 := by simpa using hi2
                  refine wpOp_sr (B := W.heap.size) (some 63) rfl rfl (by rfl) _ _ 64 rfl Tryd.underlying64 (.slice pf (fr2 p).length kf) ((fr2 p).map Int.ofNat) rfl (HSF.out.stay ((below_drew1 _).alloc (Nat.le_refl _) _)) (by simp; omega) (by rw [List.length_map]; omega) ⟨wj.drew.heap.size, 0, none⟩ 1 (q : Int) rfl (by rw [Addr.add_zero', cell_of_row _ _ _ _ _ _ (heap_alloc_new _ _)]; rfl) ?_
                  intro v4 w4 hsr4 hgr4 hat4
                  obtain ⟨p4, k4, e4⟩ := hsr4.form
                  subst e4
                  have hS4 : Ch (fun z => z = sb ∨ (Value.slice pf (fr2 p).length kf).ownBlock = some z) wj w4 := (hS0.alloc _).grown hgr4 fun z e => .inl (.inr e)
                  have hCF : Ch (fun z => (Value.slice pf (fr2 p).length kf).ownBlock = some z) wj w4 := ((Ch.of (below_drew1 _)).alloc _).grown hgr4 fun z e => .inl e
                  refine ⟨hS4, ?_⟩
                  simp only [Act.put, List.setIfInBounds_toArray, List.set_cons_zero, List.set_cons_succ]
                  refine takeH (i := 10) (v := .pointer (some ⟨sb, p * 5, none⟩)) (some 64) rfl rfl (by kernel_rfl) (by kernel_rfl) (by kernel_rfl) (Or.inl ⟨by rfl, ?_⟩) hS4 ?_
                  · intro y1 hS1
                    go_simp
                  simp only [Act.put, List.setIfInBounds_toArray, List.set_cons_zero, List.set_cons_succ]
                  refine takeH (i := 11) (v := .pointer (some ⟨sb, p * 5 + 2, none⟩)) (some 65) rfl rfl (by kernel_rfl) (by kernel_rfl) (by kernel_rfl) (Or.inl ⟨by rfl, ?_⟩) hS4 ?_
                  · intro y1 hS1
                    go_simp
                  simp only [Act.put, List.setIfInBounds_toArray, List.set_cons_zero, List.set_cons_succ]
                  have HF4 := HSW.out.fv.ch hCF hnf
                  have r0 := HF4.cell (i := p * 5 + 2) (by omega)
                  have z0 := HF4.frozen (p * 5 + 2)
                  have s0 := HF4.lt
                  rw [HEF.out] at r0
                  have hat5 : (Value.slice p4 ((fr2 p).map Int.ofNat ++ [(q : Int)]).length k4).ownBlock = (G2 (p * 5 + 2)).ownBlock ∨ ∃ g, (Value.slice p4 ((fr2 p).map Int.ofNat ++ [(q : Int)]).length k4).ownBlock = some g ∧ wj.heap.size ≤ g := by
                    rw [HEF.out]
                    exact hat4.imp id fun ⟨z, e, h⟩ => ⟨z, e, by simp at h; omega⟩
                  refine wpAnyH_all (rs := [12]) (by kernel_rfl) (by simp) ?_
                  intro i3 hi3
                  obtain rfl : i3 = 12 := by simpa using hi3
                  refine wpOp_skip (w' := w4.setCell ⟨sb, p * 5 + 2, none⟩ (Value.slice p4 ((fr2 p).map Int.ofNat ++ [(q : Int)]).length k4)) none rfl rfl (by rfl) (by go_simp) ?_
                  refine ⟨hS4.set (.inl (.inl rfl)) _ _, ?_⟩
                  simp only [Act.put, List.setIfInBounds_toArray, List.set_cons_zero, List.set_cons_succ]
                  refine wpAnyH_done (by kernel_rfl) ?_ _
                  refine ⟨rfl, ?_⟩
                  have HRL := Lib.hid (HREL.out w4 p4 k4 hCF hS4 hsr4 hat5)
                  go_wp2_with fail
                  go_meet
                  case rel => first | exact HRL.out | (have h := HRL.out; simp only [List.length_append, List.length_map, List.length_cons, List.length_nil, Nat.zero_add] at h; exact h)
                · refine wpOp_val (w' := wj.drew.alloc (.cells #[.int .i64 (q : Int)] 3)) (v := .slice (some ⟨wj.drew.heap.size, 0, none⟩) 1 1) (some 62) rfl rfl (by rfl) (by go_simp) ?_
                  refine ⟨hS0.alloc _, ?_⟩
                  simp only [Act.put, List.setIfInBounds_toArray, List.set_cons_zero, List.set_cons_succ]
                  refine wpAnyH_all (rs := [6]) (by kernel_rfl) (by simp) ?_
                  intro i4 hi4
                  obtain rfl : i4 = 6 := by simpa using hi4
                  refine wpOp_val (w' := wj.drew.alloc (.cells #[.int .i64 (q : Int)] 3)) (v := .slice pf (fr2 p).length kf) (some 60) rfl rfl (by rfl) (by go_simp) ?_
                  refine ⟨hS0.alloc _, ?_⟩
                  simp only [Act.put, List.setIfInBounds_toArray, List.set_cons_zero, List.set_cons_succ]
                  refine wpAnyH_all (rs := [9]) (by kernel_rfl) (by simp) ?_
                  intro i2 hi2
                  obtain rfl : i2 = 9 := by simpa using hi2
                  refine wpOp_sr (B := W.heap.size) (some 63) rfl rfl (by rfl) _ _ 64 rfl Tryd.underlying64 (.slice pf (fr2 p).length kf) ((fr2 p).map Int.ofNat) rfl (HSF.out.stay ((below_drew1 _).alloc (Nat.le_refl _) _)) (by simp; omega) (by rw [List.length_map]; omega) ⟨wj.drew.heap.size, 0, none⟩ 1 (q : Int) rfl (by rw [Addr.add_zero', cell_of_row _ _ _ _ _ _ (heap_alloc_new _ _)]; rfl) ?_
                  intro v4 w4 hsr4 hgr4 hat4
                  obtain ⟨p4, k4, e4⟩ := hsr4.form
                  subst e4
                  have hS4 : Ch (fun z => z = sb ∨ (Value.slice pf (fr2 p).length kf).ownBlock = some z) wj w4 := (hS0.alloc _).grown hgr4 fun z e => .inl (.inr e)
                  have hCF : Ch (fun z => (Value.slice pf (fr2 p).length kf).ownBlock = some z) wj w4 := ((Ch.of (below_drew1 _)).alloc _).grown hgr4 fun z e => .inl e
                  refine ⟨hS4, ?_⟩
                  simp only [Act.put, List.setIfInBounds_toArray, List.set_cons_zero, List.set_cons_succ]
                  refine takeH (i := 10) (v := .pointer (some ⟨sb, p * 5, none⟩)) (some 64) rfl rfl (by kernel_rfl) (by kernel_rfl) (by kernel_rfl) (Or.inl ⟨by rfl, ?_⟩) hS4 ?_
                  · intro y1 hS1
                    go_simp
                  simp only [Act.put, List.setIfInBounds_toArray, List.set_cons_zero, List.set_cons_succ]
                  refine takeH (i := 11) (v := .pointer (some ⟨sb, p * 5 + 2, none⟩)) (some 65) rfl rfl (by kernel_rfl) (by kernel_rfl) (by kernel_rfl) (Or.inl ⟨by rfl, ?_⟩) hS4 ?_
                  · intro y1 hS1
                    go_simp
                  simp only [Act.put, List.setIfInBounds_toArray, List.set_cons_zero, List.set_cons_succ]
                  have HF4 := HSW.out.fv.ch hCF hnf
                  have r0 := HF4.cell (i := p * 5 + 2) (by omega)
                  have z0 := HF4.frozen (p * 5 + 2)
                  have s0 := HF4.lt
                  rw [HEF.out] at r0
                  have hat5 : (Value.slice p4 ((fr2 p).map Int.ofNat ++ [(q : Int)]).length k4).ownBlock = (G2 (p * 5 + 2)).ownBlock ∨ ∃ g, (Value.slice p4 ((fr2 p).map Int.ofNat ++ [(q : Int)]).length k4).ownBlock = some g ∧ wj.heap.size ≤ g := by
                    rw [HEF.out]
                    exact hat4.imp id fun ⟨z, e, h⟩ => ⟨z, e, by simp at h; omega⟩
                  refine wpAnyH_all (rs := [12]) (by kernel_rfl) (by simp) ?_
                  intro i3 hi3
                  obtain rfl : i3 = 12 := by simpa using hi3
                  refine wpOp_skip (w' := w4.setCell ⟨sb, p * 5 + 2, none⟩ (Value.slice p4 ((fr2 p).map Int.ofNat ++ [(q : Int)]).length k4)) none rfl rfl (by rfl) (by go_simp) ?_
                  refine ⟨hS4.set (.inl (.inl rfl)) _ _, ?_⟩
                  simp only [Act.put, List.setIfInBounds_toArray, List.set_cons_zero, List.set_cons_succ]
                  refine wpAnyH_done (by kernel_rfl) ?_ _
                  refine ⟨rfl, ?_⟩
                  have HRL := Lib.hid (HREL.out w4 p4 k4 hCF hS4 hsr4 hat5)
                  go_wp2_with fail
                  go_meet
                  case rel => first | exact HRL.out | (have h := HRL.out; simp only [List.length_append, List.length_map, List.length_cons, List.length_nil, Nat.zero_add] at h; exact h)
              case rest =>
                obtain ⟨X5, rfl⟩ : ∃ X : World, X = wc := ⟨_, rfl⟩
                obtain ⟨own5, G5, hS5, hC5, hO5⟩ := hcut
                obtain ⟨fr5, hfr5⟩ : ∃ z, updL fr2 p (fr2 p ++ [q]) = z := ⟨_, rfl⟩
                rw [hfr5] at hS5
                have HFQ : Hid (updL fr2 p (fr2 p ++ [q]) = fr5) := Lib.hid hfr5
                have HFP : Hid (fr5 p = fr2 p ++ [q]) := Lib.hid (by rw [← hfr5]; exact if_pos rfl)
                have HFO : Hid (∀ z, z ≠ p → fr5 z = fr2 z) := Lib.hid fun z h => by rw [← hfr5]; exact if_neg h
                have HS5 := Lib.hid hS5
                have HO5 : Hid (∀ b, b < W4.heap.size → own5 b = own0 b) := Lib.hid fun b hb => by rw [hO5 b (Nat.lt_of_lt_of_le hb HI.out.2.2.2.1.size)]; exact HI.out.2.2.2.2.1 b hb
                have HC5 : Hid (Ch (fun z => own0 z ≠ .no) W4 X5) := Lib.hid (HI.out.2.2.2.1.fresh hC5 fun b hb h => by rw [HI.out.2.2.2.2.1 b hb] at h; exact h)
                have HON5 : Hid (∀ ad, some (⟨gn, on, none⟩ : Addr) = some ad → own5 ad.block = .no ∧ ad.block < X5.heap.size) := Lib.hid fun ad e => by
                  obtain ⟨e1, e2⟩ := HI.out.2.2.2.2.2.2 ad e
                  exact ⟨by rw [hO5 _ e2]; exact e1, Nat.lt_of_lt_of_le e2 hC5.size⟩
                have HRN5 : Hid (RV X5 (some ⟨gn, on, none⟩) N.length (iv fun j => N.getD j 0)) := Lib.hid (HI.out.2.2.2.2.2.1.ch hC5 fun ad e h => h (HI.out.2.2.2.2.2.2 ad e).1)
                have HRN7 : Hid (∀ Y : World, X5.heap.size ≤ Y.heap.size → (∀ b, b < X5.heap.size → own5 b = .no → Y.heap[b]? = X5.heap[b]?) → RV Y (some ⟨gn, on, none⟩) N.length (iv fun j => N.getD j 0)) := Lib.hid fun Y h1 h2 i hi => by
                  obtain ⟨g', o', e1, e2, e3⟩ := HRN5.out i hi
                  refine ⟨g', o', e1, Nat.lt_of_lt_of_le e2 h1, ?_⟩
                  rw [← e3]
                  exact World.cell?_of_block (a := ⟨g', _, none⟩) (h2 g' e2 (HON5.out _ e1).1)
                have hbl5 := hS5.vl.lt
                have cl5 := hS5.vl.cell (i := 0) (by omega)
                have hsb5 := hS5.fv.lt
                have t5 := hS5.fv.cell (i := p * 5 + 1) (by omega)
                rw [hS5.gt p hpn] at t5
                have zt5 := hS5.fv.frozen (p * 5 + 1)
                have f5 := hS5.fv.cell (i := p * 5 + 2) (by omega)
                obtain ⟨p5, k5, e5⟩ := (hS5.gf p hpn).1.form
                rw [List.length_map] at e5
                rw [e5] at f5
                have hnl5 : ¬ bl = sb := fun h => by have h1 := hS5.os; rw [← h, hS5.ol] at h1; cases h1
                have hfl5 : (fr5 p).length ≤ 20001 := by rw [HFP.out, List.length_append]; simp only [List.length_cons, List.length_nil]; omega
                clear e5 hS5 hC5 hO5 hfr5 cl hbl2 ff hsbj hnl hnf
                go_upto_region 15 with (fail)
                by_cases hp0 : p = 0
                · have hp1 : ((p : Int) == 0) = true := by simp [hp0]
                  have HP0 := Lib.hid hp0
                  clear hp0
                  refine region_held1 (fun w' => Ch (fun z => z = sb) X5 w' ∧ w'.cell? ⟨sb, p * 5 + 2, none⟩ = X5.cell? ⟨sb, p * 5 + 2, none⟩) (by kernel_rfl) ?_
                  show wpAnyH _ _ _ _ _ 16 _ _ _
                  have hT0 : Ch (fun z => z = sb) X5 X5.drew ∧ X5.drew.cell? ⟨sb, p * 5 + 2, none⟩ = X5.cell? ⟨sb, p * 5 + 2, none⟩ := ⟨Ch.of (below_drew1 _), (below_drew1 X5).cell (p := ⟨sb, _, none⟩) hsb5⟩
                  refine takeH (i := 0) (v := .slice (some ⟨sb, 0, none⟩) n n) (some 66) rfl rfl (by kernel_rfl) (by kernel_rfl) (by kernel_rfl) (Or.inl ⟨by rfl, ?_⟩) hT0 ?_
                  · intro y1 hS1
                    have cl5 := (hS1.1.cell (b := bl) hbl5 hnl5).trans cl5
                    go_simp
                  simp only [Act.put, List.setIfInBounds_toArray, List.set_cons_zero, List.set_cons_succ]
                  refine takeH (i := 1) (v := .int .i64 (p : Int)) (some 67) rfl rfl (by kernel_rfl) (by kernel_rfl) (by kernel_rfl) (Or.inl ⟨by rfl, ?_⟩) hT0 ?_
                  · intro y1 hS1
                    go_simp
                  simp only [Act.put, List.setIfInBounds_toArray, List.set_cons_zero, List.set_cons_succ]
                  refine takeH (i := 2) (v := .int .i64 (p : Int)) (some 68) rfl rfl (by kernel_rfl) (by kernel_rfl) (by kernel_rfl) (Or.inl ⟨by rfl, ?_⟩) hT0 ?_
                  · intro y1 hS1
                    go_simp
                  simp only [Act.put, List.setIfInBounds_toArray, List.set_cons_zero, List.set_cons_succ]
                  refine takeH (i := 3) (v := .bool true) (some 69) rfl rfl (by kernel_rfl) (by kernel_rfl) (by kernel_rfl) (Or.inl ⟨by rfl, ?_⟩) hT0 ?_
                  · intro y1 hS1
                    go_simp
                  simp only [Act.put, List.setIfInBounds_toArray, List.set_cons_zero, List.set_cons_succ]
                  refine takeH (i := 4) (v := .bool true) (some 70) rfl rfl (by kernel_rfl) (by kernel_rfl) (by kernel_rfl) (Or.inl ⟨by rfl, ?_⟩) hT0 ?_
                  · intro y1 hS1
                    go_simp
                  simp only [Act.put, List.setIfInBounds_toArray, List.set_cons_zero, List.set_cons_succ]
                  refine takeH (i := 5) (v := undef) (some 71) rfl rfl (by kernel_rfl) (by kernel_rfl) (by kernel_rfl) (Or.inr ⟨by rfl, rfl⟩) hT0 ?_
                  simp only [Act.put, List.setIfInBounds_toArray, List.set_cons_zero, List.set_cons_succ]
                  refine takeH (i := 6) (v := undef) (some 72) rfl rfl (by kernel_rfl) (by kernel_rfl) (by kernel_rfl) (Or.inr ⟨by rfl, rfl⟩) hT0 ?_
                  simp only [Act.put, List.setIfInBounds_toArray, List.set_cons_zero, List.set_cons_succ]
                  refine takeH (i := 7) (v := undef) (some 73) rfl rfl (by kernel_rfl) (by kernel_rfl) (by kernel_rfl) (Or.inr ⟨by rfl, rfl⟩) hT0 ?_
                  simp only [Act.put, List.setIfInBounds_toArray, List.set_cons_zero, List.set_cons_succ]
                  refine takeH (i := 8) (v := undef) (some 74) rfl rfl (by kernel_rfl) (by kernel_rfl) (by kernel_rfl) (Or.inr ⟨by rfl, rfl⟩) hT0 ?_
                  simp only [Act.put, List.setIfInBounds_toArray, List.set_cons_zero, List.set_cons_succ]
                  refine takeH (i := 9) (v := undef) (some 75) rfl rfl (by kernel_rfl) (by kernel_rfl) (by kernel_rfl) (Or.inr ⟨by rfl, rfl⟩) hT0 ?_
                  simp only [Act.put, List.setIfInBounds_toArray, List.set_cons_zero, List.set_cons_succ]
                  refine takeH (i := 10) (v := undef) (some 76) rfl rfl (by kernel_rfl) (by kernel_rfl) (by kernel_rfl) (Or.inr ⟨by rfl, rfl⟩) hT0 ?_
                  simp only [Act.put, List.setIfInBounds_toArray, List.set_cons_zero, List.set_cons_succ]
                  refine takeH (i := 11) (v := undef) (some 77) rfl rfl (by kernel_rfl) (by kernel_rfl) (by kernel_rfl) (Or.inr ⟨by rfl, rfl⟩) hT0 ?_
                  simp only [Act.put, List.setIfInBounds_toArray, List.set_cons_zero, List.set_cons_succ]
                  refine takeH (i := 12) (v := .bool true) (some 78) rfl rfl (by kernel_rfl) (by kernel_rfl) (by kernel_rfl) (Or.inl ⟨by rfl, ?_⟩) hT0 ?_
                  · intro y1 hS1
                    go_simp
                  simp only [Act.put, List.setIfInBounds_toArray, List.set_cons_zero, List.set_cons_succ]
                  refine takeH (i := 13) (v := .pointer (some ⟨sb, p * 5, none⟩)) (some 79) rfl rfl (by kernel_rfl) (by kernel_rfl) (by kernel_rfl) (Or.inl ⟨by rfl, ?_⟩) hT0 ?_
                  · intro y1 hS1
                    go_simp
                  simp only [Act.put, List.setIfInBounds_toArray, List.set_cons_zero, List.set_cons_succ]
                  refine takeH (i := 14) (v := .pointer (some ⟨sb, p * 5 + 1, none⟩)) (some 80) rfl rfl (by kernel_rfl) (by kernel_rfl) (by kernel_rfl) (Or.inl ⟨by rfl, ?_⟩) hT0 ?_
                  · intro y1 hS1
                    go_simp
                  simp only [Act.put, List.setIfInBounds_toArray, List.set_cons_zero, List.set_cons_succ]
                  refine wpAnyH_all (rs := [15]) (by kernel_rfl) (by simp) ?_
                  intro i9 hi9
                  obtain rfl : i9 = 15 := by simpa using hi9
                  refine wpOp_skip (w' := X5.drew.setCell ⟨sb, p * 5 + 1, none⟩ (.bool true)) none rfl rfl (by rfl) (by go_simp) ?_
                  refine ⟨⟨hT0.1.set (.inl rfl) _ _, ?_⟩, ?_⟩
                  · refine Eq.trans ?_ hT0.2
                    rw [cell_of_row _ _ _ _ _ _ ((HS5.out.fv.stay (below_drew1 _)).set (p * 5 + 1) (.bool true)), cell_of_row _ _ _ _ _ _ (HS5.out.fv.stay (below_drew1 _))]
                    simp only [List.getElem?_toArray]
                    rw [rw_get _ (by omega), rw_get _ (by omega), upd_of (by omega)]
                  simp only [Act.put, List.setIfInBounds_toArray, List.set_cons_zero, List.set_cons_succ]
                  refine wpAnyH_done (by kernel_rfl) ?_ _
                  refine ⟨rfl, ?_⟩
                  have HS6 : Hid (SW W.heap.size own5 (X5.drew.setCell ⟨sb, p * 5 + 1, none⟩ (.bool true)) sb n c rc2 (fun z => if z = p then decide (p = 0 ∨ 1 < (fr2 p ++ [q]).length) else tg2 z) fr5 (upd G5 (p * 5 + 1) (.bool true)) bl bc bw (some (⟨gc, oc, none⟩ : Addr)) cap vw2 wt2) := Lib.hid (by
                    have h := (HS5.out.ch (S := fun _ => False) (Ch.of (below_drew1 _)) (fun _ _ => rfl) fun _ _ h => h).tog (a := p) (t := true) rfl
                    have e : true = decide (p = 0 ∨ 1 < (fr2 p ++ [q]).length) := by rw [← HFP.out]; simp [HP0.out]
                    rw [← e]
                    exact h)
                  have HC6 : Hid (Ch (fun z => own0 z ≠ .no) W4 (X5.drew.setCell ⟨sb, p * 5 + 1, none⟩ (.bool true))) := Lib.hid ((HC5.out.stepB (below_drew1 _)).set (.inl (by rw [HS4.out.os]; simp)) _ _)
                  have HSZ : Hid (X5.heap.size ≤ (X5.drew.setCell ⟨sb, p * 5 + 1, none⟩ (.bool true)).heap.size) := Lib.hid (by simp [World.setCell])
                  have HBK : Hid (∀ b, b < X5.heap.size → own5 b = .no → (X5.drew.setCell ⟨sb, p * 5 + 1, none⟩ (.bool true)).heap[b]? = X5.heap[b]?) := Lib.hid fun b hb hno => by
                    rw [heap_setCell_other _ ⟨sb, p * 5 + 1, none⟩ b _ (fun e => by have e : b = sb := e; rw [e, HS5.out.os] at hno; cases hno)]
                    exact (below_drew1 X5).block b hb
                  obtain ⟨X6, hX6⟩ : ∃ X, X5.drew.setCell ⟨sb, p * 5 + 1, none⟩ (.bool true) = X := ⟨_, rfl⟩
                  rw [hX6] at HS6 HC6 HSZ HBK
                  rw [hX6]
                  obtain ⟨G6, hG6⟩ : ∃ z, upd G5 (p * 5 + 1) (.bool true) = z := ⟨_, rfl⟩
                  rw [hG6] at HS6
                  clear hX6 hG6 hT0
                  have hwl6 : wt2.length ≤ 1000000 := by have h := HI.out.2.1.len; omega
                  have HRE6 : Hid (Calls Tryd.prog 58 #[.int .i64 (p : Int), .pointer (some ⟨bl, 0, none⟩), .pointer (some ⟨bc, 0, none⟩), .pointer (some ⟨bw, 0, none⟩)] X6 (ReachP W.heap.size own5 X6 sb n c rc2 _ fr5 bl bc bw (some (⟨gc, oc, none⟩ : Addr)) cap wt2 p)) := Lib.hid (reach_c HS6 (Lib.hid (HK4.out.ch HC6.out fun h => h HKO.out.2)) (Lib.hid (HC4.out.ch HC6.out fun ad e h => h (HCO.out ad e).2)) (Lib.hid fun ad e => by rw [HO5.out _ (Nat.lt_of_lt_of_le (HCO.out ad e).1 hB4)]; exact (HCO.out ad e).2) hl hpn hn (Nat.le_trans hB4 HC6.out.size) hwl6)
                  go_wp2_with (go_at_call 58; (with_reducible refine (HRE6.out).mono ?_); rintro e5 w5 hp; obtain ⟨v0, rfl⟩ : ∃ v0, e5 = .returned v0 := (by obtain ⟨v0, _, _, _, h, _⟩ := hp; exact ⟨v0, h⟩); have HP := Lib.hid hp; clear hp)
                  go_roundw
                  case rel =>
                    obtain ⟨-, own7, G7, vw7, -, ho7, hs7, hc7⟩ := HP.out
                    have hs6 := HC6.out.size
                    have hI7 := HI.out.2.1.edge HPO.out
                    rw [← outsT_in hpn, HFQ.out] at hI7
                    rw [← HNT.out] at hI7
                    refine ⟨j + 1, own7, _, _, fr5, G7, vw7, _, by go_num, by omega, Lib.hid ⟨hs7, hI7, fun z => ?_, HC6.out.fresh hc7 fun b hb h => ?_, fun b hb => ?_, ?_, fun ad e => ?_⟩⟩
                    · have h0 := HI.out.2.2.1 z
                      rw [HNT.out, outsT_in hpn, List.length_append]
                      simp only [List.length_cons, List.length_nil]
                      by_cases e : z = p
                      · rw [e, HFP.out, List.length_append]; rw [e] at h0; simp only [List.length_cons, List.length_nil]; omega
                      · rw [HFO.out z e]; omega
                    · rw [HO5.out b hb] at h; exact h
                    · rw [ho7 b (Nat.lt_of_lt_of_le hb hs6), HO5.out b hb]
                    · exact HRN7.out _ (Nat.le_trans HSZ.out hc7.size) (fun b hb hno => by
                        refine (hc7.block b (Nat.lt_of_lt_of_le hb HSZ.out) fun h => h hno).trans ?_
                        exact HBK.out b hb hno)
                    · obtain ⟨e1, e2⟩ := HON5.out ad e
                      exact ⟨by rw [ho7 _ (Nat.lt_of_lt_of_le e2 HSZ.out)]; exact e1, Nat.lt_of_lt_of_le e2 (Nat.le_trans HSZ.out hc7.size)⟩
                  case measure => (simp [intOf]; try omega)
                · have hp1 : ((p : Int) == 0) = false := by simp [hp0]
                  have HP0 := Lib.hid hp0
                  clear hp0
                  refine region_held1 (fun w' => Ch (fun z => z = sb) X5 w' ∧ w'.cell? ⟨sb, p * 5 + 2, none⟩ = X5.cell? ⟨sb, p * 5 + 2, none⟩) (by kernel_rfl) ?_
                  show wpAnyH _ _ _ _ _ 16 _ _ _
                  have hT0 : Ch (fun z => z = sb) X5 X5.drew ∧ X5.drew.cell? ⟨sb, p * 5 + 2, none⟩ = X5.cell? ⟨sb, p * 5 + 2, none⟩ := ⟨Ch.of (below_drew1 _), (below_drew1 X5).cell (p := ⟨sb, _, none⟩) hsb5⟩
                  refine takeH (i := 0) (v := .slice (some ⟨sb, 0, none⟩) n n) (some 66) rfl rfl (by kernel_rfl) (by kernel_rfl) (by kernel_rfl) (Or.inl ⟨by rfl, ?_⟩) hT0 ?_
                  · intro y1 hS1
                    have cl5 := (hS1.1.cell (b := bl) hbl5 hnl5).trans cl5
                    go_simp
                  simp only [Act.put, List.setIfInBounds_toArray, List.set_cons_zero, List.set_cons_succ]
                  refine takeH (i := 1) (v := .int .i64 (p : Int)) (some 67) rfl rfl (by kernel_rfl) (by kernel_rfl) (by kernel_rfl) (Or.inl ⟨by rfl, ?_⟩) hT0 ?_
                  · intro y1 hS1
                    go_simp
                  simp only [Act.put, List.setIfInBounds_toArray, List.set_cons_zero, List.set_cons_succ]
                  refine takeH (i := 2) (v := .int .i64 (p : Int)) (some 68) rfl rfl (by kernel_rfl) (by kernel_rfl) (by kernel_rfl) (Or.inl ⟨by rfl, ?_⟩) hT0 ?_
                  · intro y1 hS1
                    go_simp
                  simp only [Act.put, List.setIfInBounds_toArray, List.set_cons_zero, List.set_cons_succ]
                  refine takeH (i := 3) (v := .bool false) (some 69) rfl rfl (by kernel_rfl) (by kernel_rfl) (by kernel_rfl) (Or.inl ⟨by rfl, ?_⟩) hT0 ?_
                  · intro y1 hS1
                    go_simp
                  simp only [Act.put, List.setIfInBounds_toArray, List.set_cons_zero, List.set_cons_succ]
                  refine takeH (i := 4) (v := .bool false) (some 70) rfl rfl (by kernel_rfl) (by kernel_rfl) (by kernel_rfl) (Or.inl ⟨by rfl, ?_⟩) hT0 ?_
                  · intro y1 hS1
                    go_simp
                  simp only [Act.put, List.setIfInBounds_toArray, List.set_cons_zero, List.set_cons_succ]
                  refine takeH (i := 5) (v := .slice (some ⟨sb, 0, none⟩) n n) (some 71) rfl rfl (by kernel_rfl) (by kernel_rfl) (by kernel_rfl) (Or.inl ⟨by rfl, ?_⟩) hT0 ?_
                  · intro y1 hS1
                    have cl5 := (hS1.1.cell (b := bl) hbl5 hnl5).trans cl5
                    go_simp
                  simp only [Act.put, List.setIfInBounds_toArray, List.set_cons_zero, List.set_cons_succ]
                  refine takeH (i := 6) (v := .int .i64 (p : Int)) (some 72) rfl rfl (by kernel_rfl) (by kernel_rfl) (by kernel_rfl) (Or.inl ⟨by rfl, ?_⟩) hT0 ?_
                  · intro y1 hS1
                    go_simp
                  simp only [Act.put, List.setIfInBounds_toArray, List.set_cons_zero, List.set_cons_succ]
                  refine takeH (i := 7) (v := .pointer (some ⟨sb, p * 5, none⟩)) (some 73) rfl rfl (by kernel_rfl) (by kernel_rfl) (by kernel_rfl) (Or.inl ⟨by rfl, ?_⟩) hT0 ?_
                  · intro y1 hS1
                    go_simp
                  simp only [Act.put, List.setIfInBounds_toArray, List.set_cons_zero, List.set_cons_succ]
                  refine takeH (i := 8) (v := .pointer (some ⟨sb, p * 5 + 2, none⟩)) (some 74) rfl rfl (by kernel_rfl) (by kernel_rfl) (by kernel_rfl) (Or.inl ⟨by rfl, ?_⟩) hT0 ?_
                  · intro y1 hS1
                    go_simp
                  simp only [Act.put, List.setIfInBounds_toArray, List.set_cons_zero, List.set_cons_succ]
                  refine takeH (i := 9) (v := .slice p5 (fr5 p).length k5) (some 75) rfl rfl (by kernel_rfl) (by kernel_rfl) (by kernel_rfl) (Or.inl ⟨by rfl, ?_⟩) hT0 ?_
                  · intro y1 hS1
                    have f5 := hS1.2.trans f5
                    have hsz := Nat.lt_of_lt_of_le hsb5 hS1.1.size
                    go_simp
                  simp only [Act.put, List.setIfInBounds_toArray, List.set_cons_zero, List.set_cons_succ]
                  refine takeH (i := 10) (v := .int .i64 ((fr5 p).length : Int)) (some 76) rfl rfl (by kernel_rfl) (by kernel_rfl) (by kernel_rfl) (Or.inl ⟨by rfl, ?_⟩) hT0 ?_
                  · intro y1 hS1
                    go_simp
                  simp only [Act.put, List.setIfInBounds_toArray, List.set_cons_zero, List.set_cons_succ]
                  refine takeH (i := 11) (v := .bool (decide (1 < (fr5 p).length))) (some 77) rfl rfl (by kernel_rfl) (by kernel_rfl) (by kernel_rfl) (Or.inl ⟨by rfl, ?_⟩) hT0 ?_
                  · intro y1 hS1
                    go_simp
                    omega
                  simp only [Act.put, List.setIfInBounds_toArray, List.set_cons_zero, List.set_cons_succ]
                  refine takeH (i := 12) (v := .bool (decide (1 < (fr5 p).length))) (some 78) rfl rfl (by kernel_rfl) (by kernel_rfl) (by kernel_rfl) (Or.inl ⟨by rfl, ?_⟩) hT0 ?_
                  · intro y1 hS1
                    go_simp
                  simp only [Act.put, List.setIfInBounds_toArray, List.set_cons_zero, List.set_cons_succ]
                  refine takeH (i := 13) (v := .pointer (some ⟨sb, p * 5, none⟩)) (some 79) rfl rfl (by kernel_rfl) (by kernel_rfl) (by kernel_rfl) (Or.inl ⟨by rfl, ?_⟩) hT0 ?_
                  · intro y1 hS1
                    go_simp
                  simp only [Act.put, List.setIfInBounds_toArray, List.set_cons_zero, List.set_cons_succ]
                  refine takeH (i := 14) (v := .pointer (some ⟨sb, p * 5 + 1, none⟩)) (some 80) rfl rfl (by kernel_rfl) (by kernel_rfl) (by kernel_rfl) (Or.inl ⟨by rfl, ?_⟩) hT0 ?_
                  · intro y1 hS1
                    go_simp
                  simp only [Act.put, List.setIfInBounds_toArray, List.set_cons_zero, List.set_cons_succ]
                  refine wpAnyH_all (rs := [15]) (by kernel_rfl) (by simp) ?_
                  intro i9 hi9
                  obtain rfl : i9 = 15 := by simpa using hi9
                  refine wpOp_skip (w' := X5.drew.setCell ⟨sb, p * 5 + 1, none⟩ (.bool (decide (1 < (fr5 p).length)))) none rfl rfl (by rfl) (by go_simp) ?_
                  refine ⟨⟨hT0.1.set (.inl rfl) _ _, ?_⟩, ?_⟩
                  · refine Eq.trans ?_ hT0.2
                    rw [cell_of_row _ _ _ _ _ _ ((HS5.out.fv.stay (below_drew1 _)).set (p * 5 + 1) (.bool (decide (1 < (fr5 p).length)))), cell_of_row _ _ _ _ _ _ (HS5.out.fv.stay (below_drew1 _))]
                    simp only [List.getElem?_toArray]
                    rw [rw_get _ (by omega), rw_get _ (by omega), upd_of (by omega)]
                  simp only [Act.put, List.setIfInBounds_toArray, List.set_cons_zero, List.set_cons_succ]
                  refine wpAnyH_done (by kernel_rfl) ?_ _
                  refine ⟨rfl, ?_⟩
                  have HS6 : Hid (SW W.heap.size own5 (X5.drew.setCell ⟨sb, p * 5 + 1, none⟩ (.bool (decide (1 < (fr5 p).length)))) sb n c rc2 (fun z => if z = p then decide (p = 0 ∨ 1 < (fr2 p ++ [q]).length) else tg2 z) fr5 (upd G5 (p * 5 + 1) (.bool (decide (1 < (fr5 p).length)))) bl bc bw (some (⟨gc, oc, none⟩ : Addr)) cap vw2 wt2) := Lib.hid (by
                    have h := (HS5.out.ch (S := fun _ => False) (Ch.of (below_drew1 _)) (fun _ _ => rfl) fun _ _ h => h).tog (a := p) (t := (decide (1 < (fr5 p).length))) rfl
                    have e : (decide (1 < (fr5 p).length)) = decide (p = 0 ∨ 1 < (fr2 p ++ [q]).length) := by rw [← HFP.out]; simp [HP0.out]
                    rw [← e]
                    exact h)
                  have HC6 : Hid (Ch (fun z => own0 z ≠ .no) W4 (X5.drew.setCell ⟨sb, p * 5 + 1, none⟩ (.bool (decide (1 < (fr5 p).length))))) := Lib.hid ((HC5.out.stepB (below_drew1 _)).set (.inl (by rw [HS4.out.os]; simp)) _ _)
                  have HSZ : Hid (X5.heap.size ≤ (X5.drew.setCell ⟨sb, p * 5 + 1, none⟩ (.bool (decide (1 < (fr5 p).length)))).heap.size) := Lib.hid (by simp [World.setCell])
                  have HBK : Hid (∀ b, b < X5.heap.size → own5 b = .no → (X5.drew.setCell ⟨sb, p * 5 + 1, none⟩ (.bool (decide (1 < (fr5 p).length)))).heap[b]? = X5.heap[b]?) := Lib.hid fun b hb hno => by
                    rw [heap_setCell_other _ ⟨sb, p * 5 + 1, none⟩ b _ (fun e => by have e : b = sb := e; rw [e, HS5.out.os] at hno; cases hno)]
                    exact (below_drew1 X5).block b hb
                  obtain ⟨X6, hX6⟩ : ∃ X, X5.drew.setCell ⟨sb, p * 5 + 1, none⟩ (.bool (decide (1 < (fr5 p).length))) = X := ⟨_, rfl⟩
                  rw [hX6] at HS6 HC6 HSZ HBK
                  rw [hX6]
                  obtain ⟨G6, hG6⟩ : ∃ z, upd G5 (p * 5 + 1) (.bool (decide (1 < (fr5 p).length))) = z := ⟨_, rfl⟩
                  rw [hG6] at HS6
                  clear hX6 hG6 hT0
                  have hwl6 : wt2.length ≤ 1000000 := by have h := HI.out.2.1.len; omega
                  have HRE6 : Hid (Calls Tryd.prog 58 #[.int .i64 (p : Int), .pointer (some ⟨bl, 0, none⟩), .pointer (some ⟨bc, 0, none⟩), .pointer (some ⟨bw, 0, none⟩)] X6 (ReachP W.heap.size own5 X6 sb n c rc2 _ fr5 bl bc bw (some (⟨gc, oc, none⟩ : Addr)) cap wt2 p)) := Lib.hid (reach_c HS6 (Lib.hid (HK4.out.ch HC6.out fun h => h HKO.out.2)) (Lib.hid (HC4.out.ch HC6.out fun ad e h => h (HCO.out ad e).2)) (Lib.hid fun ad e => by rw [HO5.out _ (Nat.lt_of_lt_of_le (HCO.out ad e).1 hB4)]; exact (HCO.out ad e).2) hl hpn hn (Nat.le_trans hB4 HC6.out.size) hwl6)
                  go_wp2_with (go_at_call 58; (with_reducible refine (HRE6.out).mono ?_); rintro e5 w5 hp; obtain ⟨v0, rfl⟩ : ∃ v0, e5 = .returned v0 := (by obtain ⟨v0, _, _, _, h, _⟩ := hp; exact ⟨v0, h⟩); have HP := Lib.hid hp; clear hp)
                  go_roundw
                  case rel =>
                    obtain ⟨-, own7, G7, vw7, -, ho7, hs7, hc7⟩ := HP.out
                    have hs6 := HC6.out.size
                    have hI7 := HI.out.2.1.edge HPO.out
                    rw [← outsT_in hpn, HFQ.out] at hI7
                    rw [← HNT.out] at hI7
                    refine ⟨j + 1, own7, _, _, fr5, G7, vw7, _, by go_num, by omega, Lib.hid ⟨hs7, hI7, fun z => ?_, HC6.out.fresh hc7 fun b hb h => ?_, fun b hb => ?_, ?_, fun ad e => ?_⟩⟩
                    · have h0 := HI.out.2.2.1 z
                      rw [HNT.out, outsT_in hpn, List.length_append]
                      simp only [List.length_cons, List.length_nil]
                      by_cases e : z = p
                      · rw [e, HFP.out, List.length_append]; rw [e] at h0; simp only [List.length_cons, List.length_nil]; omega
                      · rw [HFO.out z e]; omega
                    · rw [HO5.out b hb] at h; exact h
                    · rw [ho7 b (Nat.lt_of_lt_of_le hb hs6), HO5.out b hb]
                    · exact HRN7.out _ (Nat.le_trans HSZ.out hc7.size) (fun b hb hno => by
                        refine (hc7.block b (Nat.lt_of_lt_of_le hb HSZ.out) fun h => h hno).trans ?_
                        exact HBK.out b hb hno)
                    · obtain ⟨e1, e2⟩ := HON5.out ad e
                      exact ⟨by rw [ho7 _ (Nat.lt_of_lt_of_le e2 HSZ.out)]; exact e1, Nat.lt_of_lt_of_le e2 (Nat.le_trans HSZ.out hc7.size)⟩
                  case measure => (simp [intOf]; try omega)
        · obtain rfl : j = N.length := by omega
          have HX : Hid (TOx (n - (D1 ++ [q]).length) wj) := Lib.hid ((HTO.out _ _).2 ⟨own2, rc2, tg2, fr2, G2, vw2, wt2, D1 ++ [q], HSW.out, HI.out.2.1.end (fun p hp => by rw [List.take_length, ← HNO.out]; exact hp), fun p => by
            have h1 := HI.out.2.2.1 p
            have h3 : (outsT n (N.take N.length)).length ≤ 2 := by
              unfold outsT
              rw [List.length_map]
              exact Nat.le_trans (List.length_filter_le _ _) (by rw [List.length_take]; omega)
            rw [List.length_append]
            simp only [List.length_cons, List.length_nil]
            omega, HI.out.2.2.2.1, HI.out.2.2.2.2.1, rfl⟩)
          have HLN : Hid (D1.length < n) := Lib.hid (by
            have h := (HI.out.2.1.end (fun p hp => by rw [List.take_length, ← HNO.out]; exact hp)).len
            rw [List.length_append] at h
            simp only [List.length_cons, List.length_nil] at h
            omega)
          go_wp2
          go_roundw
          case rel =>
            first | exact ⟨_, HX.out⟩ | ((repeat apply Exists.intro); exact ⟨⟨_, HX.out⟩, rfl⟩)
          case measure =>
            have h1 := (leastN_spec (P := fun mu => TOx mu wj) HX.out).2 _ HX.out
            have h2 := HMU.out
            have h3 := HLN.out
            rw [List.length_append] at h1
            simp only [List.length_cons, List.length_nil] at h1
            omega
end Go.Proofs.YtgdhgipofaaogaaDoor
namespace Go.Proofs.YtgdhgipofaaogaaDoor
open Go

theorem wpAny_inv {P : Program} {md : Region.Mode} {ops : Array Oper} {Q : Exit → Act → World → Prop} (I : Array Bool → Act → World → Prop)
    (hstep : ∀ listed a w i, I listed a w → i ∈ Region.ready md ops listed → wpOp P ops Q i (fun a' w' => I (listed.setIfInBounds i true) a' w') a w)
    (hend : ∀ listed a w, I listed a w → Region.ready md ops listed = [] → Q .normal a w) :
    ∀ fuel listed a w, I listed a w → listed.size = ops.size → (listed.toList.filter (! ·)).length ≤ fuel → wpAny P md ops Q fuel listed a w := by
  intro fuel
  induction fuel with
  | zero =>
    intro listed a w hI hsz hf
    have hr : Region.ready md ops listed = [] := by
      unfold Region.ready
      rw [List.filter_eq_nil_iff]
      intro i hi
      have hi2 : i < listed.size := by rw [hsz]; exact List.mem_range.1 hi
      have hall : ∀ b ∈ listed.toList, b = true := by
        intro b hb
        have : (listed.toList.filter (! ·)) = [] := List.eq_nil_of_length_eq_zero (by omega)
        rw [List.filter_eq_nil_iff] at this
        have := this b hb
        simpa using this
      have : listed.getD i true = true := by
        rw [Array.getD_eq_getD_getElem?, Array.getElem?_eq_getElem hi2]
        exact hall _ (by simp)
      simp [this]
    exact ⟨hr, hend _ _ _ hI hr⟩
  | succ fuel ih =>
    intro listed a w hI hsz hf
    refine ⟨fun hr => hend _ _ _ hI hr, fun i hi => wpOp_mono (fun a' w' h' => ih _ _ _ h' (by simpa using hsz) ?_) (hstep _ _ _ _ hI hi)⟩
    have hi2 : i < listed.size := by
      unfold Region.ready at hi
      rw [List.mem_filter] at hi
      rw [hsz]
      exact List.mem_range.1 hi.1
    have hi3 : listed.toList[i]'(by simpa using hi2) = false := by
      unfold Region.ready at hi
      rw [List.mem_filter] at hi
      have := hi.2
      rw [Array.getD_eq_getD_getElem?, Array.getElem?_eq_getElem hi2] at this
      simp at this
      simpa using this.1
    rw [Array.toList_setIfInBounds]
    have key : ∀ (l : List Bool) (i : Nat) (h : i < l.length), l[i] = false → ((l.set i true).filter (! ·)).length + 1 = (l.filter (! ·)).length := by
      intro l
      induction l with
      | nil => intro i h; simp at h
      | cons b r ihr =>
        intro i h hb
        cases i with
        | zero =>
          simp at hb
          subst hb
          simp
        | succ i =>
          simp at h hb
          have := ihr i h hb
          cases b <;> simp <;> omega
    have := key listed.toList i (by simpa using hi2) hi3
    omega

/-- The slots of the region that lays a new reader's map: which operation writes which, and what. -/
theorem getD_put (a : Act) (d e : Nat) (v : Value) (hd : d < a.tmps.size) : (a.put (some d) v).tmps.getD e undef = if e = d then v else a.tmps.getD e undef := by
  show (a.tmps.setIfInBounds d v).getD e undef = _
  simp only [Array.getD_eq_getD_getElem?, Array.getElem?_setIfInBounds]
  by_cases h : d = e
  · subst h
    simp [hd]
  · rw [if_neg h, if_neg (fun e' => h e'.symm)]
theorem getD_set (listed : Array Bool) (i j : Nat) : (listed.setIfInBounds i true).getD j false = true → j = i ∨ listed.getD j false = true := by
  intro h
  by_cases hij : i = j
  · exact .inl hij.symm
  · right
    simp only [Array.getD_eq_getD_getElem?, Array.getElem?_setIfInBounds, if_neg hij] at h ⊢
    exact h
theorem getD_set_self {listed : Array Bool} {i : Nat} (hi : i < listed.size) : (listed.setIfInBounds i true).getD i false = true := by
  simp [Array.getD_eq_getD_getElem?, Array.getElem?_setIfInBounds, hi]
theorem getD_set_old {listed : Array Bool} {i j : Nat} (h : listed.getD j false = true) : (listed.setIfInBounds i true).getD j false = true := by
  by_cases hij : i = j
  · subst hij
    have hlt : i < listed.size := by
      rw [Array.getD_eq_getD_getElem?] at h
      by_cases hb : i < listed.size
      · exact hb
      · rw [Array.getElem?_eq_none (by omega)] at h
        cases h
    exact getD_set_self hlt
  · simp only [Array.getD_eq_getD_getElem?, Array.getElem?_setIfInBounds, if_neg hij] at h ⊢
    exact h
theorem wpOp_w {P : Program} {ops : Array Oper} {Q : Exit → Act → World → Prop} {i : Nat} {K : Act → World → Prop} {a : Act} {w : World} {o : Oper} (ho : ops[i]? = some o) (hg : Region.wanted o (yielded ops a.tmps) = true) (h : o.wp P a w K Q) : wpOp P ops Q i K a w := by
  unfold wpOp
  rw [ho]
  simp only [hg, if_true]
  exact .inl h
theorem wpOp_s {P : Program} {ops : Array Oper} {Q : Exit → Act → World → Prop} {i : Nat} {K : Act → World → Prop} {a : Act} {w : World} {o : Oper} (ho : ops[i]? = some o) (hg : Region.wanted o (yielded ops a.tmps) = false) (h : K (a.put o.dst undef) w) : wpOp P ops Q i K a w := by
  unfold wpOp
  rw [ho]
  simp only [hg]
  exact h
theorem wanted_at {ops : Array Oper} {tmps : Array Value} {o oj : Oper} {j d : Nat} {b c : Bool} (hg : o.guard = some (j, b)) (hj : ops[j]? = some oj) (hd : oj.dst = some d) (hv : tmps.getD d undef = .bool c) : Region.wanted o (yielded ops tmps) = (c == b) := by
  have h2 : tmps[d]? = some (.bool c) := by
    rw [Array.getD_eq_getD_getElem?] at hv
    cases h : tmps[d]? with
    | none => rw [h] at hv; cases hv
    | some v => rw [h] at hv; exact congrArg some hv
  unfold Region.wanted yielded
  rw [hg]
  simp only [hj, hd, Option.bind_some, h2]
  cases c <;> cases b <;> rfl

structure Ins (n sz : Nat) (dst : Nat → Nat) (vs : List (Option Value)) (t0 : Array Value) (listed : Array Bool) (a : Act) : Prop where
  size : listed.size = n
  tsz : a.tmps.size = sz
  defs : a.defers = []
  old : ∀ d, (∀ k, k < n → dst k ≠ d) → a.tmps.getD d undef = t0.getD d undef
  new : ∀ k v, k < n → vs[k]? = some (some v) → listed.getD k false = true → a.tmps.getD (dst k) undef = v
section
variable {n sz : Nat} {dst : Nat → Nat} {vs : List (Option Value)} {t0 : Array Value} {listed : Array Bool} {a : Act}
theorem Ins.put (h : Ins n sz dst vs t0 listed a) {k : Nat} {v : Value} (hk : k < n) (hlt : dst k < sz) (inj : ∀ i, i < n → dst i = dst k → i = k) (hv : ∀ u, vs[k]? = some (some u) → u = v) : Ins n sz dst vs t0 (listed.setIfInBounds k true) (a.put (some (dst k)) v) where
  size := by simpa using h.size
  tsz := by simpa [Act.put] using h.tsz
  defs := h.defs
  old := fun d hd => by
    rw [getD_put a _ _ _ (by rw [h.tsz]; exact hlt), if_neg (fun e => hd k hk e.symm)]
    exact h.old d hd
  new := fun j u hj hu hl => by
    rw [getD_put a _ _ _ (by rw [h.tsz]; exact hlt)]
    by_cases e : dst j = dst k
    · obtain rfl := inj j hj e
      rw [if_pos rfl]
      exact (hv u hu).symm
    · rw [if_neg e]
      rcases getD_set listed k j hl with rfl | hl
      · exact absurd rfl e
      · exact h.new j u hj hu hl
end
/-- Nothing is left, once none may come. -/
theorem all_came {md : Region.Mode} {ops : Array Oper} {listed : Array Bool} (hs : listed.size = ops.size) (hr : Region.ready md ops listed = [])
    (hb0 : ((List.range ops.size).all fun k => match ops[k]? with | some o => o.after.all (fun e => decide (e.on < k)) | none => true) = true) : ∀ k, k < ops.size → listed.getD k false = true := by
  have hb : ∀ (k : Nat) (o : Oper), ops[k]? = some o → ∀ e ∈ o.after, e.on < k := by
    intro k o ho e he
    have h1 := List.all_eq_true.1 hb0 k (List.mem_range.2 (Array.getElem?_eq_some_iff.1 ho).1)
    rw [ho] at h1
    have h2 := Array.all_eq_true_iff_forall_mem.1 h1 e he
    simpa using h2
  intro k
  induction k using Nat.strongRecOn with
  | _ k ih =>
    intro hk
    cases hc : listed.getD k false with
    | true => rfl
    | false =>
      exfalso
      have hn : k ∈ Region.ready md ops listed := by
        rw [mem_ready]
        refine ⟨?_, ops[k], Array.getElem?_eq_getElem hk, fun e he hbd => ?_⟩
        · rw [Array.getD_eq_getD_getElem?] at hc ⊢
          rw [Array.getElem?_eq_getElem (by omega)] at hc ⊢
          exact hc
        · have h1 := hb k _ (Array.getElem?_eq_getElem hk) e he
          have h2 := ih e.on h1 (by omega)
          rw [Array.getD_eq_getD_getElem?] at h2 ⊢
          rw [Array.getElem?_eq_getElem (by omega)] at h2 ⊢
          exact h2
      rw [hr] at hn
      cases hn
section
variable {P : Program} {o : Oper} {a : Act} {w : World} {K : Act → World → Prop} {Q : Exit → Act → World → Prop}
theorem wp_val {v : Value} (h : (execOp a.eval o).run P w = .ok (.value v) w) (hk : K (a.put o.dst v) w) : o.wp P a w K Q := by
  unfold Oper.wp
  rw [h]
  exact hk
theorem wp_enter {f : FuncId} {args : Array Value} (h : (execOp a.eval o).run P w = .ok (.enter f args) w) (hc : Calls P f args w fun e w' => ∃ v, e = .returned v ∧ K (a.put o.dst v) w') : o.wp P a w K Q := by
  unfold Oper.wp
  rw [h]
  refine Calls.mono hc fun e w' ⟨v, he, hk⟩ => ?_
  subst he
  exact hk
theorem run_move {ev : Operand → Value} {s : Operand} {v : Value} (ho : o.op = .move s ∨ o.op = .assign s) (h : ev s = v) : (execOp ev o).run P w = .ok (.value v) w := by
  subst h
  rcases ho with ho | ho
  · unfold execOp
    rw [ho]
    rfl
  · unfold execOp
    rw [ho]
    rfl
theorem run_pick {ev : Operand → Value} {c x y : Operand} {b : Bool} {v : Value} (ho : o.op = .pick c x y) (h : ev c = .bool b) (hv : (if b then ev x else ev y) = v) : (execOp ev o).run P w = .ok (.value v) w := by
  subst hv
  unfold execOp
  rw [ho]
  simp [h, asBool]
theorem run_load {ev : Operand → Value} {t : TypeId} {s : Operand} {ad : Addr} {v : Value} (ho : o.op = .load t s) (h : ev s = .pointer (some ad)) (hv : (loadVar t ad).run P w = .ok v w) : (execOp ev o).run P w = .ok (.value v) w := by
  unfold execOp
  rw [ho]
  simp [h, Instr.loadAt, Instr.sureAddr, hv, Result.andThen]
theorem run_bin {ev : Operand → Value} {b : BinOp} {t r : TypeId} {x y : Operand} {vx vy v : Value} (ho : o.op = .binOp b t x y r) (hx : ev x = vx) (hy : ev y = vy) (h : (do eqGuard b t x y vx vy; binOp b t vx vy : Sem Value).run P w = .ok v w) : (execOp ev o).run P w = .ok (.value v) w := by
  subst hx
  subst hy
  unfold execOp
  rw [ho]
  show ((do eqGuard b t x y (ev x) (ev y); binOp b t (ev x) (ev y) : Sem Value) >>= fun v => pure (Next.value v) : Sem Next).run P w = _
  rw [Sem.run_bind, h]
  rfl
theorem name_act {C : Code} (h : ∀ b, b = a → C.wp P Q b w) : C.wp P Q a w := h a rfl
end
theorem wpOp_of {P : Program} {ops : Array Oper} {Q : Exit → Act → World → Prop} {i : Nat} {K : Act → World → Prop} {a : Act} {w : World} {o : Oper} (ho : ops[i]? = some o) (hg : o.guard = none) (h : o.wp P a w K Q) : wpOp P ops Q i K a w := by
  unfold wpOp
  rw [ho]
  simp only [Region.wanted, hg, if_true]
  exact .inl h

/-- What holds of each slot whose operation has come, in the world as it is by now. -/
structure InP (n sz : Nat) (dst : Nat → Nat) (Pr : Nat → Value → World → Prop) (t0 : Array Value) (listed : Array Bool) (a : Act) (X : World) : Prop where
  size : listed.size = n
  tsz : a.tmps.size = sz
  defs : a.defers = []
  old : ∀ d, (∀ k, k < n → dst k ≠ d) → a.tmps.getD d undef = t0.getD d undef
  new : ∀ k, k < n → listed.getD k false = true → Pr k (a.tmps.getD (dst k) undef) X
theorem InP.put {n sz : Nat} {dst : Nat → Nat} {Pr : Nat → Value → World → Prop} {t0 : Array Value} {listed : Array Bool} {a : Act} {X X' : World} (h : InP n sz dst Pr t0 listed a X) {k : Nat} {v : Value} (hk : k < n) (hlt : dst k < sz) (inj : ∀ i, i < n → dst i = dst k → i = k)
    (mono : ∀ j u, j < n → Pr j u X → Pr j u X') (hv : Pr k v X') : InP n sz dst Pr t0 (listed.setIfInBounds k true) (a.put (some (dst k)) v) X' where
  size := by simpa using h.size
  tsz := by simpa [Act.put] using h.tsz
  defs := h.defs
  old := fun d hd => by
    rw [getD_put a _ _ _ (by rw [h.tsz]; exact hlt), if_neg (fun e => hd k hk e.symm)]
    exact h.old d hd
  new := fun j hj hl => by
    rw [getD_put a _ _ _ (by rw [h.tsz]; exact hlt)]
    by_cases e : dst j = dst k
    · obtain rfl := inj j hj e
      rw [if_pos rfl]
      exact hv
    · rw [if_neg e]
      rcases getD_set listed k j hl with rfl | hl
      · exact absurd rfl e
      · exact mono j _ hj (h.new j hj hl)
end Go.Proofs.YtgdhgipofaaogaaDoor
