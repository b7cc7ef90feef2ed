/- Lemmas for the laws of live (Fce Fcf Fcg Fch Ftr Fam Far Fas): each says its own conditions. -/
import Derived.Test.YtgdhgipofaaogaaDoorJ04
set_option linter.unusedSimpArgs false
set_option linter.unusedVariables false
namespace Go.Proofs.YtgdhgipofaaogaaDoor
open Go Go.RowKit Gm Go.ChangeMaps
set_option maxRecDepth 100000 in
set_option maxHeartbeats 4000000 in
theorem come_ft {B : Nat} {own : Nat → Ob} {W : World} {g kb lb sb n rw a : Nat} {F KV LV VW : Nat → Value} {M : Km} {Lf : Nat → KF} {Ld : Nat → Int → List Nat} {PW : List Nat} {RW : Nat → List Int} {r : Int} {L : List Int} {c : List Ic} {rc tg : Nat → Bool} {fr : Nat → List Nat} (hA : Hid (TA B own W g kb lb n rw F KV LV VW M Lf Ld PW RW)) (hF1 : F 1 = .slice (some ⟨sb, 0, none⟩) n n) (hM : Hid (StO own W sb n c rc tg fr)) (hra : rc a = true) (ha : a < n) (hn : n ≤ 5000) (hr : In6 r) (hB : B ≤ W.heap.size) (hPW : PW.length ≤ 500000) (hRW : (RW a).length ≤ 500000) (hLk : Hid (∀ s, M a s ≠ none → s ∈ L)) (hLl : L.length ≤ 1000000) (hndl : (nds c a).length ≤ 1000) (x : Int) {k : Int} (hMr : M a r = some (k, false)) : Calls Tryd.prog 45 #[.pointer (some ⟨g, 0, none⟩), .int .i64 a, .int .i64 r, .int .i64 x, .bool true] W (ComeP B own W g kb lb n rw F KV LV M Lf Ld PW RW c tg a r (boK x true)) := by
  have hF := Lib.hid hA.out.fv
  have hog := hA.out.og
  have hg0 := hF.out.lt
  have c2 := hF.out.cell (i := 2) (by omega)
  rw [hA.out.f2] at c2
  have hkb := hA.out.km.fv.lt
  have ck := hA.out.km.fv.cell ha
  have hlk := hA.out.km.look2 ha hr
  obtain ⟨m, hkv, hom, hkm⟩ : ∃ m, KV a = .map (some m) ∧ own m = .km a ∧ KM 3 W m L.length (fun s => (M a s).map fv2) := by
    rcases hA.out.km.mp a ha with ⟨-, h2⟩ | ⟨m, cnt, h1, h2, h3⟩
    · rw [h2 r] at hMr; cases hMr
    · exact ⟨m, h1, h2, h3.within L fun s hs => hLk.out s fun e => hs (by simp only [e]; rfl)⟩
  have hmW := hkm.lt
  have HKM := Lib.hid hkm
  have hk2 : kmv M a r = (k, false) := by unfold kmv; rw [hMr]; rfl
  rw [hMr, hk2, hkv] at hlk
  rw [hkv] at ck
  simp only [Option.isSome] at hlk
  have hLm : L.length < maxLen := by unfold maxLen; omega
  have hkr := keyI hr
  have HMr := Lib.hid hMr
  have HKV := Lib.hid hkv
  have HOM := Lib.hid hom
  clear hkm hk2 hMr hkv
  have HK0 : Hid (∀ X, Ch (fun _ => False) W X → KM 3 X m L.length (fun s => (M a s).map fv2)) := Lib.hid fun X hX => HKM.out.same (hX.block m hmW id)
  go_enter Tryd.func45, Tryd.ntmps45
  go_upto_region 2 with (fail)
  refine name_world ?_
  intro W1 hW1
  have HC1 : Hid (Ch (fun _ => False) W W1) := Lib.hid (by rw [hW1]; exact (Ch.refl (fun _ => False) W).alloc _)
  obtain ⟨m2, hm2⟩ : ∃ x, W.heap.size = x := ⟨_, rfl⟩
  have HFB : Hid (W1.heap[m2]? = some (.cells #[.int .i64 k, .bool false] 98 (0, 0))) := Lib.hid (by rw [hW1, ← hm2]; exact heap_alloc_new W _)
  have q0 : W1.cell? ⟨m2, 0, none⟩ = some (.int .i64 k) := by rw [cell_of_row _ _ _ _ _ _ HFB.out]; rfl
  have q1 : W1.cell? ⟨m2, 1, none⟩ = some (.bool false) := by rw [cell_of_row _ _ _ _ _ _ HFB.out]; rfl
  have q2 : m2 < W1.heap.size := (Array.getElem?_eq_some_iff.1 HFB.out).1
  have HKMx := Lib.hid (HK0.out W1 HC1.out)
  have HA1 : Hid (TA B own W1 g kb lb n rw F KV LV VW M Lf Ld PW RW) := Lib.hid (hA.out.ch HC1.out (fun _ _ => rfl) fun _ _ h => h)
  have c2 := (HC1.out.cell (b := g) hg0 id).trans c2
  have ck := (HC1.out.cell (b := kb) hkb id).trans ck
  have hg0 := Nat.lt_of_lt_of_le hg0 HC1.out.size
  have hkb := Nat.lt_of_lt_of_le hkb HC1.out.size
  try rw [hm2]
  clear hW1 hm2 hlk
  obtain ⟨Mn, hMn⟩ : ∃ y, setM M a r (some (x, true)) = y := ⟨_, rfl⟩
  have HMn : Hid (comeM M a r (boK x true) = Mn) := Lib.hid (by rw [← hMn]; unfold comeM boK; simp [HMr.out])
  have hnew : newM M a r (boK x true) = true := by unfold newM boK; simp [HMr.out]
  have HNW := Lib.hid hnew
  clear hnew
  go_upto_region 5 with (at_mapUpdate; refine wpList_putK rfl (.tmp 62) (.tmp 63) (.tmp 65) rfl keyedI Tryd.underlying100 m L.length _ rfl HKMx.out hLm r (fv2 (x, true)) rfl rfl hkr ?_; intro w5 hk5 hg5; have HW5 := Lib.hid (And.intro hk5 hg5); clear hk5 hg5)
  have HA5 : Hid (TA B own w5 g kb lb n rw F KV LV VW Mn Lf Ld PW RW) := Lib.hid (hMn ▸ HA1.out.setK HKV.out HOM.out HW5.out.1 ef_put HW5.out.2)
  have HCm : Hid (Ch (fun z => z = m) W w5) := Lib.hid ((HC1.out.mono fun _ _ h => h.elim).grown HW5.out.2 fun b e => .inl (by cases e; rfl))
  have HM5 : Hid (StO own w5 sb n c rc tg fr) := Lib.hid (hM.out.ch HCm.out (fun _ _ => rfl) fun b hb e => by rw [e, HOM.out] at hb; cases hb)
  have HC5 : Hid (Ch (TS own) W w5) := Lib.hid (HCm.out.mono fun z _ e => .inr (.inl ⟨a, by rw [e]; exact HOM.out⟩))
  have hnew := HNW.out
  clear hMn c2 ck q0 q1 q2 hkb hg0 hmW HK0 HKMx hom
  have hsl5 := HM5.out.st.sl
  have hg5l := HA5.out.fv.lt
  have d1 := HA5.out.fv.cell (i := 1) (by omega)
  rw [hF1] at d1
  have t0 := HM5.out.st.r a ha
  have t1 := HM5.out.st.t a ha
  obtain ⟨pf, kf, t2, hvf⟩ := HM5.out.st.f a ha
  have t3 := HM5.out.st.d a ha hra
  obtain ⟨pn, kn, t4, hvn⟩ := HM5.out.st.nn a ha hra
  rw [hra] at t0
  have HVN := Lib.hid hvn
  clear hvf hvn
  go_upto_region 6 with (fail)
  refine name_world ?_
  intro V1 hV1
  obtain ⟨m5, hm5⟩ : ∃ x, w5.heap.size = x := ⟨_, rfl⟩
  have HV1 : Hid (Sb5 V1 m5 (.bool true) (.bool (tg a)) (.slice pf (fr a).length kf) (.int .i64 (dfn c a)) (.slice pn (nds c a).length kn)) := Lib.hid (by rw [hV1, ← hm5]; exact heap_alloc_new w5 _)
  have HC6 : Hid (Ch (fun _ => False) w5 V1) := Lib.hid (by rw [hV1]; exact (Ch.refl (fun _ => False) w5).alloc _)
  obtain ⟨own1, ho1⟩ : ∃ o, ownM own m5 .no = o := ⟨_, rfl⟩
  have HO5 : Hid (∀ b, b < w5.heap.size → own1 b = own b) := Lib.hid fun b hb => by rw [← ho1]; exact ownM_of (by omega)
  have hom5 : own1 m5 = .no := by rw [← ho1]; exact ownM_at
  have HNM : Hid (¬ TS own1 m5) := Lib.hid fun h => by
    unfold TS at h
    rw [hom5] at h
    rcases h with h | ⟨_, h⟩ | h | h | ⟨_, h⟩ <;> cases h
  have HA6 : Hid (TA B own1 V1 g kb lb n rw F KV LV VW Mn Lf Ld PW RW) := Lib.hid (HA5.out.ch HC6.out HO5.out fun _ _ h => h)
  have HVN6 := Lib.hid (HVN.out.ch HC6.out fun _ _ h => h)
  try rw [hm5]
  have HC7 : Hid (Ch (TS own) W V1) := Lib.hid (HC5.out.trans (HC6.out.mono fun _ _ h => h.elim))
  have HB7 : Hid (B ≤ V1.heap.size) := Lib.hid (Nat.le_trans hB HC7.out.size)
  have HEND : Hid (∀ (v : Value) (X : World) (own' : Nat → Ob) (F' VW' : Nat → Value) (l : List Int), l = comeL c tg M a r (boK x true) → (∀ b, b < V1.heap.size → own' b = own1 b) → (∀ i, i ≠ 6 → F' i = F i) → TA B own' X g kb lb n rw F' KV LV VW' Mn Lf Ld (puts a l (PW, RW)).1 (puts a l (PW, RW)).2 → Ch (TS own1) V1 X → ComeP B own W g kb lb n rw F KV LV M Lf Ld PW RW c tg a r (boK x true) (.returned v) X) := Lib.hid fun v X own' F' VW' l e1 h1 h2 h3 h4 => by
    subst e1
    have hsz : W.heap.size ≤ w5.heap.size := HC5.out.size
    refine ⟨v, own', F', VW', rfl, fun b hb => ?_, h2, by rw [HMn.out]; exact h3, ?_⟩
    · rw [h1 b (Nat.lt_of_lt_of_le hb HC7.out.size), HO5.out b (Nat.lt_of_lt_of_le hb hsz)]
    · refine Ch.fresh HC7.out h4 fun b hb h => ?_
      unfold TS at h ⊢
      rw [HO5.out b (Nat.lt_of_lt_of_le hb hsz)] at h
      exact h
  have HNO : Hid (∀ ad, pn = some ad → ¬ TS own1 ad.block) := Lib.hid fun ad e h => by
    obtain ⟨e1, e2⟩ := HM5.out.of _ ad _ kn (e ▸ t4)
    unfold TS at h
    rw [HO5.out _ e2, e1] at h
    rcases h with h | ⟨_, h⟩ | h | h | ⟨_, h⟩ <;> cases h
  have HCV : Hid (Ch (TS own1) V1 V1) := Lib.hid (Ch.refl _ _)
  have HO0 : OEq V1.heap.size own1 own1 := fun _ _ => rfl
  have HF0 : FEq F F := fun _ _ => rfl
  have HL := Lib.hid (comeL_new (c := c) (tg := tg) hnew)
  clear hV1 hm5 t0 t1 t2 t3 t4 d1 hsl5 hg5l ho1 hom5
  obtain ⟨bm, u3, u4⟩ := HV1.out.facts
  have u1 := HV1.out.one
  by_cases hd : r = dfn c a
  · have hdb : (r != dfn c a) = false := by simp [hd]
    have hl1 : Hid (comeL c tg M a r (boK x true) = [] ++ if r ∈ nds c a then [dfn c a] else []) := Lib.hid (by rw [HL.out, if_neg (fun h => h.1 hd.symm)])
    have HD := Lib.hid hd
    clear hd
    have HCON : Hid (Calls Tryd.prog 63 #[.slice pn (nds c a).length kn, .int .i64 r] V1 fun e w' => e = .returned (.bool ((nds c a).contains r)) ∧ w' = V1) := Lib.hid (contains_c (HVN6.out.ch HCV.out fun ad e => HNO.out ad e) hndl)
    by_cases hin : r ∈ nds c a
    · have hcb : (nds c a).contains r = true := by simpa using hin
      rw [hcb] at HCON
      have HIN := Lib.hid hin
      clear hin hcb
      have hg2l := HA6.out.fv.lt
      go_upto_region 9 with (go_at_call 63; (with_reducible refine (HCON.out).mono ?_); rintro e3 w3 ⟨rfl, hw3⟩; rw [hw3]; clear hw3 w3)
      have HC9 : Hid (Ch (TS own1) V1 V1.drew) := Lib.hid (HCV.out.stepB (below_drew1 _))
      have HA9 : Hid (TA B own1 V1.drew g kb lb n rw F KV LV VW Mn Lf Ld (puts a ([] : List Int) (PW, RW)).1 (puts a ([] : List Int) (PW, RW)).2) := Lib.hid (HA6.out.ch (S := fun _ => False) (Ch.of (below_drew1 _)) (fun _ _ => rfl) fun _ _ h => h)
      have HPB : Hid (Calls Tryd.prog 20 #[.pointer (some ⟨g, 6, none⟩), .int .i64 a, .int .i64 (dfn c a)] V1.drew (PutP B own1 V1.drew g 6 n rw F VW (puts a ([] : List Int) (PW, RW)).1 (puts a ([] : List Int) (PW, RW)).2 a (dfn c a))) := Lib.hid (put_c (Lib.hid HA9.out.fv) HA9.out.f7 (by omega) (Lib.hid HA9.out.qw) HA9.out.og ha hn (Nat.le_trans HB7.out HC9.out.size) (by have := puts_len a ([] : List Int) (PW, RW); simp only [List.length_cons, List.length_nil] at this; omega) (by have := puts_len a ([] : List Int) (PW, RW); simp only [List.length_cons, List.length_nil] at this; omega))
      have u3 := (HCV.out.cell (b := m5) bm HNM.out).trans u3
      have bm2 := Nat.lt_of_lt_of_le bm HCV.out.size
      have hnq : ¬ QS own1 g 6 m5 := fun h => HNM.out (by
        have h := QS.ts HA6.out.og h
        unfold TS at h ⊢
        rw [HO0 m5 bm] at h
        exact h)
      refine region_held1 (fun w' => Ch (QS own1 g 6) V1 w') (by kernel_rfl) ?_
      show wpAnyH _ _ _ _ _ 7 _ _ _
      have hS0 : Ch (QS own1 g 6) V1 V1.drew := Ch.of (below_drew1 _)
      refine takeH (i := 0) (v := .pointer (some ⟨g, 0, none⟩)) (some 91) rfl rfl (by kernel_rfl) (by kernel_rfl) (by kernel_rfl) (Or.inl ⟨by rfl, ?_⟩) hS0 ?_
      · intro y1 hS1
        go_simp
      simp only [Act.put, List.setIfInBounds_toArray, List.set_cons_zero, List.set_cons_succ]
      refine takeH (i := 1) (v := .pointer (some ⟨g, 0, none⟩)) (some 92) rfl rfl (by kernel_rfl) (by kernel_rfl) (by kernel_rfl) (Or.inl ⟨by rfl, ?_⟩) hS0 ?_
      · intro y1 hS1
        go_simp
      simp only [Act.put, List.setIfInBounds_toArray, List.set_cons_zero, List.set_cons_succ]
      refine takeH (i := 2) (v := .pointer (some ⟨g, 5 + 1, none⟩)) (some 93) rfl rfl (by kernel_rfl) (by kernel_rfl) (by kernel_rfl) (Or.inl ⟨by rfl, ?_⟩) hS0 ?_
      · intro y1 hS1
        go_simp
      simp only [Act.put, List.setIfInBounds_toArray, List.set_cons_zero, List.set_cons_succ]
      refine takeH (i := 3) (v := .int .i64 (a : Int)) (some 94) rfl rfl (by kernel_rfl) (by kernel_rfl) (by kernel_rfl) (Or.inl ⟨by rfl, ?_⟩) hS0 ?_
      · intro y1 hS1
        go_simp
      simp only [Act.put, List.setIfInBounds_toArray, List.set_cons_zero, List.set_cons_succ]
      refine takeH (i := 4) (v := .pointer (some ⟨m5, 3, none⟩)) (some 95) rfl rfl (by kernel_rfl) (by kernel_rfl) (by kernel_rfl) (Or.inl ⟨by rfl, ?_⟩) hS0 ?_
      · intro y1 hS1
        go_simp
      simp only [Act.put, List.setIfInBounds_toArray, List.set_cons_zero, List.set_cons_succ]
      refine takeH (i := 5) (v := .int .i64 (dfn c a)) (some 96) rfl rfl (by kernel_rfl) (by kernel_rfl) (by kernel_rfl) (Or.inl ⟨by rfl, ?_⟩) hS0 ?_
      · intro y1 hS1
        have u3 := (hS1.cell (b := m5) bm2 hnq).trans u3
        go_simp
      simp only [Act.put, List.setIfInBounds_toArray, List.set_cons_zero, List.set_cons_succ]
      refine wpAnyH_all (rs := [6]) (by kernel_rfl) (by simp) ?_
      intro i6 hi6
      obtain rfl : i6 = 6 := by simpa using hi6
      refine wpOp_call (some 97) rfl rfl (by rfl) (f := 20) (args := #[.pointer (some ⟨g, 6, none⟩), .int .i64 a, .int .i64 (dfn c a)]) (by go_simp) HPB.out ?_
      intro e4 w4 hp
      obtain ⟨v4, own4, F4, VW4, rfl, h1, h2, h3, h4⟩ := HA9.out.putW hp
      refine ⟨_, rfl, ?_, ?_⟩
      · obtain ⟨_, _, _, _, -, -, -, -, h5⟩ := hp
        exact hS0.trans (h5.mono fun z _ h => h)
      simp only [Act.put, List.setIfInBounds_toArray, List.set_cons_zero, List.set_cons_succ]
      refine wpAnyH_done (by kernel_rfl) ?_ _
      refine ⟨rfl, ?_⟩
      have HX := Lib.hid (And.intro h1 (And.intro h2 (And.intro h3 h4)))
      clear h1 h2 h3 h4 hp
      go_wp2
      refine bodyPost_ret (results_none rfl _ _ _) rfl (HEND.out _ _ own4 F4 VW4 (([] : List Int) ++ [dfn c a]) (by rw [hl1.out, if_pos HIN.out]) (fun b hb => (HX.out.1 b (Nat.lt_of_lt_of_le hb HC9.out.size)).trans (HO0 b hb)) (fun i hi => (HX.out.2.1 i hi).trans (HF0 i hi)) (by rw [puts_end]; exact HX.out.2.2.1) (HC9.out.fresh HX.out.2.2.2 fun b hb h => by
        unfold TS at h ⊢
        rw [HO0 b hb] at h
        exact h))
    · have hcb : (nds c a).contains r = false := by simpa using hin
      rw [hcb] at HCON
      have HIN := Lib.hid hin
      clear hin hcb
      go_wp2_with (go_at_call 63; (with_reducible refine (HCON.out).mono ?_); rintro e3 w3 ⟨rfl, hw3⟩; rw [hw3]; clear hw3 w3)
      refine bodyPost_ret (results_none rfl _ _ _) rfl (HEND.out _ _ own1 F VW ([] : List Int) (by rw [hl1.out, if_neg HIN.out]; simp) HO0 HF0 HA6.out HCV.out)
  · have hdb : (r != dfn c a) = true := by simp [hd]
    have HD := Lib.hid hd
    clear hd
    by_cases ht : tg a = true
    · have hl1 : Hid (comeL c tg M a r (boK x true) = [r] ++ if r ∈ nds c a then [dfn c a] else []) := Lib.hid (by rw [HL.out, if_pos ⟨fun h => HD.out h.symm, ht⟩])
      have HT := Lib.hid ht
      rw [ht] at u1
      clear ht
      have HPUTA : Hid (Calls Tryd.prog 20 #[.pointer (some ⟨g, 6, none⟩), .int .i64 a, .int .i64 r] V1 (PutP B own1 V1 g 6 n rw F VW PW RW a r)) := Lib.hid (put_c (Lib.hid HA6.out.fv) HA6.out.f7 (by omega) (Lib.hid HA6.out.qw) HA6.out.og ha hn HB7.out (by omega) (by omega))
      have hgl6 := HA6.out.fv.lt
      go_upto_region 8 with (go_at_call 20; (with_reducible refine (HPUTA.out).mono ?_); rintro e2 w2 hp; obtain ⟨v0, rfl⟩ : ∃ v0, e2 = .returned v0 := (by obtain ⟨v0, _, _, _, h, _⟩ := hp; exact ⟨v0, h⟩); have HP := Lib.hid hp; clear hp)
      obtain ⟨v1, own2, F2, VW2, -, g1, g2, g3, g4⟩ := HA6.out.putW HP.out
      have HA8 : Hid (TA B own2 w2 g kb lb n rw F2 KV LV VW2 Mn Lf Ld (puts a [r] (PW, RW)).1 (puts a [r] (PW, RW)).2) := Lib.hid g3
      have HC8 := Lib.hid g4
      have HO8 := Lib.hid g1
      have HF8 := Lib.hid g2
      clear g1 g2 g3 g4
      have u4 := (HC8.out.cell (b := m5) bm HNM.out).trans u4
      have HCON : Hid (Calls Tryd.prog 63 #[.slice pn (nds c a).length kn, .int .i64 r] w2 fun e w' => e = .returned (.bool ((nds c a).contains r)) ∧ w' = w2) := Lib.hid (contains_c (HVN6.out.ch HC8.out fun ad e => HNO.out ad e) hndl)
      by_cases hin : r ∈ nds c a
      · have hcb : (nds c a).contains r = true := by simpa using hin
        rw [hcb] at HCON
        have HIN := Lib.hid hin
        clear hin hcb
        have hg2l := HA8.out.fv.lt
        go_upto_region 9 with (go_at_call 63; (with_reducible refine (HCON.out).mono ?_); rintro e3 w3 ⟨rfl, hw3⟩; rw [hw3]; clear hw3 w3)
        have HC9 : Hid (Ch (TS own1) V1 w2.drew) := Lib.hid (HC8.out.stepB (below_drew1 _))
        have HA9 : Hid (TA B own2 w2.drew g kb lb n rw F2 KV LV VW2 Mn Lf Ld (puts a [r] (PW, RW)).1 (puts a [r] (PW, RW)).2) := Lib.hid (HA8.out.ch (S := fun _ => False) (Ch.of (below_drew1 _)) (fun _ _ => rfl) fun _ _ h => h)
        have HPB : Hid (Calls Tryd.prog 20 #[.pointer (some ⟨g, 6, none⟩), .int .i64 a, .int .i64 (dfn c a)] w2.drew (PutP B own2 w2.drew g 6 n rw F2 VW2 (puts a [r] (PW, RW)).1 (puts a [r] (PW, RW)).2 a (dfn c a))) := Lib.hid (put_c (Lib.hid HA9.out.fv) HA9.out.f7 (by omega) (Lib.hid HA9.out.qw) HA9.out.og ha hn (Nat.le_trans HB7.out HC9.out.size) (by have := puts_len a [r] (PW, RW); simp only [List.length_cons, List.length_nil] at this; omega) (by have := puts_len a [r] (PW, RW); simp only [List.length_cons, List.length_nil] at this; omega))
        have u3 := (HC8.out.cell (b := m5) bm HNM.out).trans u3
        have bm2 := Nat.lt_of_lt_of_le bm HC8.out.size
        have hnq : ¬ QS own2 g 6 m5 := fun h => HNM.out (by
          have h := QS.ts HA8.out.og h
          unfold TS at h ⊢
          rw [HO8.out m5 bm] at h
          exact h)
        refine region_held1 (fun w' => Ch (QS own2 g 6) w2 w') (by kernel_rfl) ?_
        show wpAnyH _ _ _ _ _ 7 _ _ _
        have hS0 : Ch (QS own2 g 6) w2 w2.drew := Ch.of (below_drew1 _)
        refine takeH (i := 0) (v := .pointer (some ⟨g, 0, none⟩)) (some 91) rfl rfl (by kernel_rfl) (by kernel_rfl) (by kernel_rfl) (Or.inl ⟨by rfl, ?_⟩) hS0 ?_
        · intro y1 hS1
          go_simp
        simp only [Act.put, List.setIfInBounds_toArray, List.set_cons_zero, List.set_cons_succ]
        refine takeH (i := 1) (v := .pointer (some ⟨g, 0, none⟩)) (some 92) rfl rfl (by kernel_rfl) (by kernel_rfl) (by kernel_rfl) (Or.inl ⟨by rfl, ?_⟩) hS0 ?_
        · intro y1 hS1
          go_simp
        simp only [Act.put, List.setIfInBounds_toArray, List.set_cons_zero, List.set_cons_succ]
        refine takeH (i := 2) (v := .pointer (some ⟨g, 5 + 1, none⟩)) (some 93) rfl rfl (by kernel_rfl) (by kernel_rfl) (by kernel_rfl) (Or.inl ⟨by rfl, ?_⟩) hS0 ?_
        · intro y1 hS1
          go_simp
        simp only [Act.put, List.setIfInBounds_toArray, List.set_cons_zero, List.set_cons_succ]
        refine takeH (i := 3) (v := .int .i64 (a : Int)) (some 94) rfl rfl (by kernel_rfl) (by kernel_rfl) (by kernel_rfl) (Or.inl ⟨by rfl, ?_⟩) hS0 ?_
        · intro y1 hS1
          go_simp
        simp only [Act.put, List.setIfInBounds_toArray, List.set_cons_zero, List.set_cons_succ]
        refine takeH (i := 4) (v := .pointer (some ⟨m5, 3, none⟩)) (some 95) rfl rfl (by kernel_rfl) (by kernel_rfl) (by kernel_rfl) (Or.inl ⟨by rfl, ?_⟩) hS0 ?_
        · intro y1 hS1
          go_simp
        simp only [Act.put, List.setIfInBounds_toArray, List.set_cons_zero, List.set_cons_succ]
        refine takeH (i := 5) (v := .int .i64 (dfn c a)) (some 96) rfl rfl (by kernel_rfl) (by kernel_rfl) (by kernel_rfl) (Or.inl ⟨by rfl, ?_⟩) hS0 ?_
        · intro y1 hS1
          have u3 := (hS1.cell (b := m5) bm2 hnq).trans u3
          go_simp
        simp only [Act.put, List.setIfInBounds_toArray, List.set_cons_zero, List.set_cons_succ]
        refine wpAnyH_all (rs := [6]) (by kernel_rfl) (by simp) ?_
        intro i6 hi6
        obtain rfl : i6 = 6 := by simpa using hi6
        refine wpOp_call (some 97) rfl rfl (by rfl) (f := 20) (args := #[.pointer (some ⟨g, 6, none⟩), .int .i64 a, .int .i64 (dfn c a)]) (by go_simp) HPB.out ?_
        intro e4 w4 hp
        obtain ⟨v4, own4, F4, VW4, rfl, h1, h2, h3, h4⟩ := HA9.out.putW hp
        refine ⟨_, rfl, ?_, ?_⟩
        · obtain ⟨_, _, _, _, -, -, -, -, h5⟩ := hp
          exact hS0.trans (h5.mono fun z _ h => h)
        simp only [Act.put, List.setIfInBounds_toArray, List.set_cons_zero, List.set_cons_succ]
        refine wpAnyH_done (by kernel_rfl) ?_ _
        refine ⟨rfl, ?_⟩
        have HX := Lib.hid (And.intro h1 (And.intro h2 (And.intro h3 h4)))
        clear h1 h2 h3 h4 hp
        go_wp2
        refine bodyPost_ret (results_none rfl _ _ _) rfl (HEND.out _ _ own4 F4 VW4 ([r] ++ [dfn c a]) (by rw [hl1.out, if_pos HIN.out]) (fun b hb => (HX.out.1 b (Nat.lt_of_lt_of_le hb HC9.out.size)).trans (HO8.out b hb)) (fun i hi => (HX.out.2.1 i hi).trans (HF8.out i hi)) (by rw [puts_end]; exact HX.out.2.2.1) (HC9.out.fresh HX.out.2.2.2 fun b hb h => by
          unfold TS at h ⊢
          rw [HO8.out b hb] at h
          exact h))
      · have hcb : (nds c a).contains r = false := by simpa using hin
        rw [hcb] at HCON
        have HIN := Lib.hid hin
        clear hin hcb
        go_wp2_with (go_at_call 63; (with_reducible refine (HCON.out).mono ?_); rintro e3 w3 ⟨rfl, hw3⟩; rw [hw3]; clear hw3 w3)
        refine bodyPost_ret (results_none rfl _ _ _) rfl (HEND.out _ _ own2 F2 VW2 [r] (by rw [hl1.out, if_neg HIN.out]; simp) HO8.out HF8.out HA8.out HC8.out)
    · have hl1 : Hid (comeL c tg M a r (boK x true) = [] ++ if r ∈ nds c a then [dfn c a] else []) := Lib.hid (by rw [HL.out, if_neg (fun h => ht h.2)])
      have ht : tg a = false := by simpa using ht
      rw [ht] at u1
      clear ht
      have HCON : Hid (Calls Tryd.prog 63 #[.slice pn (nds c a).length kn, .int .i64 r] V1 fun e w' => e = .returned (.bool ((nds c a).contains r)) ∧ w' = V1) := Lib.hid (contains_c (HVN6.out.ch HCV.out fun ad e => HNO.out ad e) hndl)
      by_cases hin : r ∈ nds c a
      · have hcb : (nds c a).contains r = true := by simpa using hin
        rw [hcb] at HCON
        have HIN := Lib.hid hin
        clear hin hcb
        have hg2l := HA6.out.fv.lt
        go_upto_region 9 with (go_at_call 63; (with_reducible refine (HCON.out).mono ?_); rintro e3 w3 ⟨rfl, hw3⟩; rw [hw3]; clear hw3 w3)
        have HC9 : Hid (Ch (TS own1) V1 V1.drew) := Lib.hid (HCV.out.stepB (below_drew1 _))
        have HA9 : Hid (TA B own1 V1.drew g kb lb n rw F KV LV VW Mn Lf Ld (puts a ([] : List Int) (PW, RW)).1 (puts a ([] : List Int) (PW, RW)).2) := Lib.hid (HA6.out.ch (S := fun _ => False) (Ch.of (below_drew1 _)) (fun _ _ => rfl) fun _ _ h => h)
        have HPB : Hid (Calls Tryd.prog 20 #[.pointer (some ⟨g, 6, none⟩), .int .i64 a, .int .i64 (dfn c a)] V1.drew (PutP B own1 V1.drew g 6 n rw F VW (puts a ([] : List Int) (PW, RW)).1 (puts a ([] : List Int) (PW, RW)).2 a (dfn c a))) := Lib.hid (put_c (Lib.hid HA9.out.fv) HA9.out.f7 (by omega) (Lib.hid HA9.out.qw) HA9.out.og ha hn (Nat.le_trans HB7.out HC9.out.size) (by have := puts_len a ([] : List Int) (PW, RW); simp only [List.length_cons, List.length_nil] at this; omega) (by have := puts_len a ([] : List Int) (PW, RW); simp only [List.length_cons, List.length_nil] at this; omega))
        have u3 := (HCV.out.cell (b := m5) bm HNM.out).trans u3
        have bm2 := Nat.lt_of_lt_of_le bm HCV.out.size
        have hnq : ¬ QS own1 g 6 m5 := fun h => HNM.out (by
          have h := QS.ts HA6.out.og h
          unfold TS at h ⊢
          rw [HO0 m5 bm] at h
          exact h)
        refine region_held1 (fun w' => Ch (QS own1 g 6) V1 w') (by kernel_rfl) ?_
        show wpAnyH _ _ _ _ _ 7 _ _ _
        have hS0 : Ch (QS own1 g 6) V1 V1.drew := Ch.of (below_drew1 _)
        refine takeH (i := 0) (v := .pointer (some ⟨g, 0, none⟩)) (some 91) rfl rfl (by kernel_rfl) (by kernel_rfl) (by kernel_rfl) (Or.inl ⟨by rfl, ?_⟩) hS0 ?_
        · intro y1 hS1
          go_simp
        simp only [Act.put, List.setIfInBounds_toArray, List.set_cons_zero, List.set_cons_succ]
        refine takeH (i := 1) (v := .pointer (some ⟨g, 0, none⟩)) (some 92) rfl rfl (by kernel_rfl) (by kernel_rfl) (by kernel_rfl) (Or.inl ⟨by rfl, ?_⟩) hS0 ?_
        · intro y1 hS1
          go_simp
        simp only [Act.put, List.setIfInBounds_toArray, List.set_cons_zero, List.set_cons_succ]
        refine takeH (i := 2) (v := .pointer (some ⟨g, 5 + 1, none⟩)) (some 93) rfl rfl (by kernel_rfl) (by kernel_rfl) (by kernel_rfl) (Or.inl ⟨by rfl, ?_⟩) hS0 ?_
        · intro y1 hS1
          go_simp
        simp only [Act.put, List.setIfInBounds_toArray, List.set_cons_zero, List.set_cons_succ]
        refine takeH (i := 3) (v := .int .i64 (a : Int)) (some 94) rfl rfl (by kernel_rfl) (by kernel_rfl) (by kernel_rfl) (Or.inl ⟨by rfl, ?_⟩) hS0 ?_
        · intro y1 hS1
          go_simp
        simp only [Act.put, List.setIfInBounds_toArray, List.set_cons_zero, List.set_cons_succ]
        refine takeH (i := 4) (v := .pointer (some ⟨m5, 3, none⟩)) (some 95) rfl rfl (by kernel_rfl) (by kernel_rfl) (by kernel_rfl) (Or.inl ⟨by rfl, ?_⟩) hS0 ?_
        · intro y1 hS1
          go_simp
        simp only [Act.put, List.setIfInBounds_toArray, List.set_cons_zero, List.set_cons_succ]
        refine takeH (i := 5) (v := .int .i64 (dfn c a)) (some 96) rfl rfl (by kernel_rfl) (by kernel_rfl) (by kernel_rfl) (Or.inl ⟨by rfl, ?_⟩) hS0 ?_
        · intro y1 hS1
          have u3 := (hS1.cell (b := m5) bm2 hnq).trans u3
          go_simp
        simp only [Act.put, List.setIfInBounds_toArray, List.set_cons_zero, List.set_cons_succ]
        refine wpAnyH_all (rs := [6]) (by kernel_rfl) (by simp) ?_
        intro i6 hi6
        obtain rfl : i6 = 6 := by simpa using hi6
        refine wpOp_call (some 97) rfl rfl (by rfl) (f := 20) (args := #[.pointer (some ⟨g, 6, none⟩), .int .i64 a, .int .i64 (dfn c a)]) (by go_simp) HPB.out ?_
        intro e4 w4 hp
        obtain ⟨v4, own4, F4, VW4, rfl, h1, h2, h3, h4⟩ := HA9.out.putW hp
        refine ⟨_, rfl, ?_, ?_⟩
        · obtain ⟨_, _, _, _, -, -, -, -, h5⟩ := hp
          exact hS0.trans (h5.mono fun z _ h => h)
        simp only [Act.put, List.setIfInBounds_toArray, List.set_cons_zero, List.set_cons_succ]
        refine wpAnyH_done (by kernel_rfl) ?_ _
        refine ⟨rfl, ?_⟩
        have HX := Lib.hid (And.intro h1 (And.intro h2 (And.intro h3 h4)))
        clear h1 h2 h3 h4 hp
        go_wp2
        refine bodyPost_ret (results_none rfl _ _ _) rfl (HEND.out _ _ own4 F4 VW4 (([] : List Int) ++ [dfn c a]) (by rw [hl1.out, if_pos HIN.out]) (fun b hb => (HX.out.1 b (Nat.lt_of_lt_of_le hb HC9.out.size)).trans (HO0 b hb)) (fun i hi => (HX.out.2.1 i hi).trans (HF0 i hi)) (by rw [puts_end]; exact HX.out.2.2.1) (HC9.out.fresh HX.out.2.2.2 fun b hb h => by
          unfold TS at h ⊢
          rw [HO0 b hb] at h
          exact h))
      · have hcb : (nds c a).contains r = false := by simpa using hin
        rw [hcb] at HCON
        have HIN := Lib.hid hin
        clear hin hcb
        go_wp2_with (go_at_call 63; (with_reducible refine (HCON.out).mono ?_); rintro e3 w3 ⟨rfl, hw3⟩; rw [hw3]; clear hw3 w3)
        refine bodyPost_ret (results_none rfl _ _ _) rfl (HEND.out _ _ own1 F VW ([] : List Int) (by rw [hl1.out, if_neg HIN.out]; simp) HO0 HF0 HA6.out HCV.out)
end Go.Proofs.YtgdhgipofaaogaaDoor
namespace Go.Proofs.YtgdhgipofaaogaaDoor
open Go Go.RowKit Gm Go.ChangeMaps
set_option maxRecDepth 100000 in
set_option maxHeartbeats 4000000 in
theorem come_tf {B : Nat} {own : Nat → Ob} {W : World} {g kb lb sb n rw a : Nat} {F KV LV VW : Nat → Value} {M : Km} {Lf : Nat → KF} {Ld : Nat → Int → List Nat} {PW : List Nat} {RW : Nat → List Int} {r : Int} {L : List Int} {c : List Ic} {rc tg : Nat → Bool} {fr : Nat → List Nat} (hA : Hid (TA B own W g kb lb n rw F KV LV VW M Lf Ld PW RW)) (hF1 : F 1 = .slice (some ⟨sb, 0, none⟩) n n) (hM : Hid (StO own W sb n c rc tg fr)) (hra : rc a = true) (ha : a < n) (hn : n ≤ 5000) (hr : In6 r) (hB : B ≤ W.heap.size) (hPW : PW.length ≤ 500000) (hRW : (RW a).length ≤ 500000) (hLk : Hid (∀ s, M a s ≠ none → s ∈ L)) (hLl : L.length ≤ 1000000) (hndl : (nds c a).length ≤ 1000) (x : Int) {k : Int} (hMr : M a r = some (k, true)) : Calls Tryd.prog 45 #[.pointer (some ⟨g, 0, none⟩), .int .i64 a, .int .i64 r, .int .i64 x, .bool false] W (ComeP B own W g kb lb n rw F KV LV M Lf Ld PW RW c tg a r (boK x false)) := by
  have hF := Lib.hid hA.out.fv
  have hog := hA.out.og
  have hg0 := hF.out.lt
  have c2 := hF.out.cell (i := 2) (by omega)
  rw [hA.out.f2] at c2
  have hkb := hA.out.km.fv.lt
  have ck := hA.out.km.fv.cell ha
  have hlk := hA.out.km.look2 ha hr
  obtain ⟨m, hkv, hom, hkm⟩ : ∃ m, KV a = .map (some m) ∧ own m = .km a ∧ KM 3 W m L.length (fun s => (M a s).map fv2) := by
    rcases hA.out.km.mp a ha with ⟨-, h2⟩ | ⟨m, cnt, h1, h2, h3⟩
    · rw [h2 r] at hMr; cases hMr
    · exact ⟨m, h1, h2, h3.within L fun s hs => hLk.out s fun e => hs (by simp only [e]; rfl)⟩
  have hmW := hkm.lt
  have HKM := Lib.hid hkm
  have hk2 : kmv M a r = (k, true) := by unfold kmv; rw [hMr]; rfl
  rw [hMr, hk2, hkv] at hlk
  rw [hkv] at ck
  simp only [Option.isSome] at hlk
  have hLm : L.length < maxLen := by unfold maxLen; omega
  have hkr := keyI hr
  have HMr := Lib.hid hMr
  have HKV := Lib.hid hkv
  have HOM := Lib.hid hom
  clear hkm hk2 hMr hkv
  have HK0 : Hid (∀ X, Ch (fun _ => False) W X → KM 3 X m L.length (fun s => (M a s).map fv2)) := Lib.hid fun X hX => HKM.out.same (hX.block m hmW id)
  go_enter Tryd.func45, Tryd.ntmps45
  go_upto_region 2 with (fail)
  refine name_world ?_
  intro W1 hW1
  have HC1 : Hid (Ch (fun _ => False) W W1) := Lib.hid (by rw [hW1]; exact (Ch.refl (fun _ => False) W).alloc _)
  obtain ⟨m2, hm2⟩ : ∃ x, W.heap.size = x := ⟨_, rfl⟩
  have HFB : Hid (W1.heap[m2]? = some (.cells #[.int .i64 k, .bool true] 98 (0, 0))) := Lib.hid (by rw [hW1, ← hm2]; exact heap_alloc_new W _)
  have q0 : W1.cell? ⟨m2, 0, none⟩ = some (.int .i64 k) := by rw [cell_of_row _ _ _ _ _ _ HFB.out]; rfl
  have q1 : W1.cell? ⟨m2, 1, none⟩ = some (.bool true) := by rw [cell_of_row _ _ _ _ _ _ HFB.out]; rfl
  have q2 : m2 < W1.heap.size := (Array.getElem?_eq_some_iff.1 HFB.out).1
  have HKMx := Lib.hid (HK0.out W1 HC1.out)
  have HA1 : Hid (TA B own W1 g kb lb n rw F KV LV VW M Lf Ld PW RW) := Lib.hid (hA.out.ch HC1.out (fun _ _ => rfl) fun _ _ h => h)
  have c2 := (HC1.out.cell (b := g) hg0 id).trans c2
  have ck := (HC1.out.cell (b := kb) hkb id).trans ck
  have hg0 := Nat.lt_of_lt_of_le hg0 HC1.out.size
  have hkb := Nat.lt_of_lt_of_le hkb HC1.out.size
  try rw [hm2]
  clear hW1 hm2 hlk
  obtain ⟨Mn, hMn⟩ : ∃ y, setM M a r (none) = y := ⟨_, rfl⟩
  have HMn : Hid (comeM M a r (boK x false) = Mn) := Lib.hid (by rw [← hMn]; unfold comeM boK; simp [HMr.out])
  have hnew : newM M a r (boK x false) = true := by unfold newM boK; simp [HMr.out]
  have HNW := Lib.hid hnew
  clear hnew
  go_upto_region 5 with (at_delete; refine wpList_strikeK rfl (.tmp 31) (.tmp 32) rfl keyedI Tryd.underlying100 m L.length _ rfl HKMx.out r rfl hkr ?_; intro w5 hk5 hg5; have HW5 := Lib.hid (And.intro hk5 hg5); clear hk5 hg5)
  have HA5 : Hid (TA B own w5 g kb lb n rw F KV LV VW Mn Lf Ld PW RW) := Lib.hid (hMn ▸ HA1.out.setK HKV.out HOM.out HW5.out.1 ef_del HW5.out.2)
  have HCm : Hid (Ch (fun z => z = m) W w5) := Lib.hid ((HC1.out.mono fun _ _ h => h.elim).grown HW5.out.2 fun b e => .inl (by cases e; rfl))
  have HM5 : Hid (StO own w5 sb n c rc tg fr) := Lib.hid (hM.out.ch HCm.out (fun _ _ => rfl) fun b hb e => by rw [e, HOM.out] at hb; cases hb)
  have HC5 : Hid (Ch (TS own) W w5) := Lib.hid (HCm.out.mono fun z _ e => .inr (.inl ⟨a, by rw [e]; exact HOM.out⟩))
  have hnew := HNW.out
  clear hMn c2 ck q0 q1 q2 hkb hg0 hmW HK0 HKMx hom
  have hsl5 := HM5.out.st.sl
  have hg5l := HA5.out.fv.lt
  have d1 := HA5.out.fv.cell (i := 1) (by omega)
  rw [hF1] at d1
  have t0 := HM5.out.st.r a ha
  have t1 := HM5.out.st.t a ha
  obtain ⟨pf, kf, t2, hvf⟩ := HM5.out.st.f a ha
  have t3 := HM5.out.st.d a ha hra
  obtain ⟨pn, kn, t4, hvn⟩ := HM5.out.st.nn a ha hra
  rw [hra] at t0
  have HVN := Lib.hid hvn
  clear hvf hvn
  go_upto_region 6 with (fail)
  refine name_world ?_
  intro V1 hV1
  obtain ⟨m5, hm5⟩ : ∃ x, w5.heap.size = x := ⟨_, rfl⟩
  have HV1 : Hid (Sb5 V1 m5 (.bool true) (.bool (tg a)) (.slice pf (fr a).length kf) (.int .i64 (dfn c a)) (.slice pn (nds c a).length kn)) := Lib.hid (by rw [hV1, ← hm5]; exact heap_alloc_new w5 _)
  have HC6 : Hid (Ch (fun _ => False) w5 V1) := Lib.hid (by rw [hV1]; exact (Ch.refl (fun _ => False) w5).alloc _)
  obtain ⟨own1, ho1⟩ : ∃ o, ownM own m5 .no = o := ⟨_, rfl⟩
  have HO5 : Hid (∀ b, b < w5.heap.size → own1 b = own b) := Lib.hid fun b hb => by rw [← ho1]; exact ownM_of (by omega)
  have hom5 : own1 m5 = .no := by rw [← ho1]; exact ownM_at
  have HNM : Hid (¬ TS own1 m5) := Lib.hid fun h => by
    unfold TS at h
    rw [hom5] at h
    rcases h with h | ⟨_, h⟩ | h | h | ⟨_, h⟩ <;> cases h
  have HA6 : Hid (TA B own1 V1 g kb lb n rw F KV LV VW Mn Lf Ld PW RW) := Lib.hid (HA5.out.ch HC6.out HO5.out fun _ _ h => h)
  have HVN6 := Lib.hid (HVN.out.ch HC6.out fun _ _ h => h)
  try rw [hm5]
  have HC7 : Hid (Ch (TS own) W V1) := Lib.hid (HC5.out.trans (HC6.out.mono fun _ _ h => h.elim))
  have HB7 : Hid (B ≤ V1.heap.size) := Lib.hid (Nat.le_trans hB HC7.out.size)
  have HEND : Hid (∀ (v : Value) (X : World) (own' : Nat → Ob) (F' VW' : Nat → Value) (l : List Int), l = comeL c tg M a r (boK x false) → (∀ b, b < V1.heap.size → own' b = own1 b) → (∀ i, i ≠ 6 → F' i = F i) → TA B own' X g kb lb n rw F' KV LV VW' Mn Lf Ld (puts a l (PW, RW)).1 (puts a l (PW, RW)).2 → Ch (TS own1) V1 X → ComeP B own W g kb lb n rw F KV LV M Lf Ld PW RW c tg a r (boK x false) (.returned v) X) := Lib.hid fun v X own' F' VW' l e1 h1 h2 h3 h4 => by
    subst e1
    have hsz : W.heap.size ≤ w5.heap.size := HC5.out.size
    refine ⟨v, own', F', VW', rfl, fun b hb => ?_, h2, by rw [HMn.out]; exact h3, ?_⟩
    · rw [h1 b (Nat.lt_of_lt_of_le hb HC7.out.size), HO5.out b (Nat.lt_of_lt_of_le hb hsz)]
    · refine Ch.fresh HC7.out h4 fun b hb h => ?_
      unfold TS at h ⊢
      rw [HO5.out b (Nat.lt_of_lt_of_le hb hsz)] at h
      exact h
  have HNO : Hid (∀ ad, pn = some ad → ¬ TS own1 ad.block) := Lib.hid fun ad e h => by
    obtain ⟨e1, e2⟩ := HM5.out.of _ ad _ kn (e ▸ t4)
    unfold TS at h
    rw [HO5.out _ e2, e1] at h
    rcases h with h | ⟨_, h⟩ | h | h | ⟨_, h⟩ <;> cases h
  have HCV : Hid (Ch (TS own1) V1 V1) := Lib.hid (Ch.refl _ _)
  have HO0 : OEq V1.heap.size own1 own1 := fun _ _ => rfl
  have HF0 : FEq F F := fun _ _ => rfl
  have HL := Lib.hid (comeL_new (c := c) (tg := tg) hnew)
  clear hV1 hm5 t0 t1 t2 t3 t4 d1 hsl5 hg5l ho1 hom5
  obtain ⟨bm, u3, u4⟩ := HV1.out.facts
  have u1 := HV1.out.one
  by_cases hd : r = dfn c a
  · have hdb : (r != dfn c a) = false := by simp [hd]
    have hl1 : Hid (comeL c tg M a r (boK x false) = [] ++ if r ∈ nds c a then [dfn c a] else []) := Lib.hid (by rw [HL.out, if_neg (fun h => h.1 hd.symm)])
    have HD := Lib.hid hd
    clear hd
    have HCON : Hid (Calls Tryd.prog 63 #[.slice pn (nds c a).length kn, .int .i64 r] V1 fun e w' => e = .returned (.bool ((nds c a).contains r)) ∧ w' = V1) := Lib.hid (contains_c (HVN6.out.ch HCV.out fun ad e => HNO.out ad e) hndl)
    by_cases hin : r ∈ nds c a
    · have hcb : (nds c a).contains r = true := by simpa using hin
      rw [hcb] at HCON
      have HIN := Lib.hid hin
      clear hin hcb
      have hg2l := HA6.out.fv.lt
      go_upto_region 9 with (go_at_call 63; (with_reducible refine (HCON.out).mono ?_); rintro e3 w3 ⟨rfl, hw3⟩; rw [hw3]; clear hw3 w3)
      have HC9 : Hid (Ch (TS own1) V1 V1.drew) := Lib.hid (HCV.out.stepB (below_drew1 _))
      have HA9 : Hid (TA B own1 V1.drew g kb lb n rw F KV LV VW Mn Lf Ld (puts a ([] : List Int) (PW, RW)).1 (puts a ([] : List Int) (PW, RW)).2) := Lib.hid (HA6.out.ch (S := fun _ => False) (Ch.of (below_drew1 _)) (fun _ _ => rfl) fun _ _ h => h)
      have HPB : Hid (Calls Tryd.prog 20 #[.pointer (some ⟨g, 6, none⟩), .int .i64 a, .int .i64 (dfn c a)] V1.drew (PutP B own1 V1.drew g 6 n rw F VW (puts a ([] : List Int) (PW, RW)).1 (puts a ([] : List Int) (PW, RW)).2 a (dfn c a))) := Lib.hid (put_c (Lib.hid HA9.out.fv) HA9.out.f7 (by omega) (Lib.hid HA9.out.qw) HA9.out.og ha hn (Nat.le_trans HB7.out HC9.out.size) (by have := puts_len a ([] : List Int) (PW, RW); simp only [List.length_cons, List.length_nil] at this; omega) (by have := puts_len a ([] : List Int) (PW, RW); simp only [List.length_cons, List.length_nil] at this; omega))
      have u3 := (HCV.out.cell (b := m5) bm HNM.out).trans u3
      have bm2 := Nat.lt_of_lt_of_le bm HCV.out.size
      have hnq : ¬ QS own1 g 6 m5 := fun h => HNM.out (by
        have h := QS.ts HA6.out.og h
        unfold TS at h ⊢
        rw [HO0 m5 bm] at h
        exact h)
      refine region_held1 (fun w' => Ch (QS own1 g 6) V1 w') (by kernel_rfl) ?_
      show wpAnyH _ _ _ _ _ 7 _ _ _
      have hS0 : Ch (QS own1 g 6) V1 V1.drew := Ch.of (below_drew1 _)
      refine takeH (i := 0) (v := .pointer (some ⟨g, 0, none⟩)) (some 91) rfl rfl (by kernel_rfl) (by kernel_rfl) (by kernel_rfl) (Or.inl ⟨by rfl, ?_⟩) hS0 ?_
      · intro y1 hS1
        go_simp
      simp only [Act.put, List.setIfInBounds_toArray, List.set_cons_zero, List.set_cons_succ]
      refine takeH (i := 1) (v := .pointer (some ⟨g, 0, none⟩)) (some 92) rfl rfl (by kernel_rfl) (by kernel_rfl) (by kernel_rfl) (Or.inl ⟨by rfl, ?_⟩) hS0 ?_
      · intro y1 hS1
        go_simp
      simp only [Act.put, List.setIfInBounds_toArray, List.set_cons_zero, List.set_cons_succ]
      refine takeH (i := 2) (v := .pointer (some ⟨g, 5 + 1, none⟩)) (some 93) rfl rfl (by kernel_rfl) (by kernel_rfl) (by kernel_rfl) (Or.inl ⟨by rfl, ?_⟩) hS0 ?_
      · intro y1 hS1
        go_simp
      simp only [Act.put, List.setIfInBounds_toArray, List.set_cons_zero, List.set_cons_succ]
      refine takeH (i := 3) (v := .int .i64 (a : Int)) (some 94) rfl rfl (by kernel_rfl) (by kernel_rfl) (by kernel_rfl) (Or.inl ⟨by rfl, ?_⟩) hS0 ?_
      · intro y1 hS1
        go_simp
      simp only [Act.put, List.setIfInBounds_toArray, List.set_cons_zero, List.set_cons_succ]
      refine takeH (i := 4) (v := .pointer (some ⟨m5, 3, none⟩)) (some 95) rfl rfl (by kernel_rfl) (by kernel_rfl) (by kernel_rfl) (Or.inl ⟨by rfl, ?_⟩) hS0 ?_
      · intro y1 hS1
        go_simp
      simp only [Act.put, List.setIfInBounds_toArray, List.set_cons_zero, List.set_cons_succ]
      refine takeH (i := 5) (v := .int .i64 (dfn c a)) (some 96) rfl rfl (by kernel_rfl) (by kernel_rfl) (by kernel_rfl) (Or.inl ⟨by rfl, ?_⟩) hS0 ?_
      · intro y1 hS1
        have u3 := (hS1.cell (b := m5) bm2 hnq).trans u3
        go_simp
      simp only [Act.put, List.setIfInBounds_toArray, List.set_cons_zero, List.set_cons_succ]
      refine wpAnyH_all (rs := [6]) (by kernel_rfl) (by simp) ?_
      intro i6 hi6
      obtain rfl : i6 = 6 := by simpa using hi6
      refine wpOp_call (some 97) rfl rfl (by rfl) (f := 20) (args := #[.pointer (some ⟨g, 6, none⟩), .int .i64 a, .int .i64 (dfn c a)]) (by go_simp) HPB.out ?_
      intro e4 w4 hp
      obtain ⟨v4, own4, F4, VW4, rfl, h1, h2, h3, h4⟩ := HA9.out.putW hp
      refine ⟨_, rfl, ?_, ?_⟩
      · obtain ⟨_, _, _, _, -, -, -, -, h5⟩ := hp
        exact hS0.trans (h5.mono fun z _ h => h)
      simp only [Act.put, List.setIfInBounds_toArray, List.set_cons_zero, List.set_cons_succ]
      refine wpAnyH_done (by kernel_rfl) ?_ _
      refine ⟨rfl, ?_⟩
      have HX := Lib.hid (And.intro h1 (And.intro h2 (And.intro h3 h4)))
      clear h1 h2 h3 h4 hp
      go_wp2
      refine bodyPost_ret (results_none rfl _ _ _) rfl (HEND.out _ _ own4 F4 VW4 (([] : List Int) ++ [dfn c a]) (by rw [hl1.out, if_pos HIN.out]) (fun b hb => (HX.out.1 b (Nat.lt_of_lt_of_le hb HC9.out.size)).trans (HO0 b hb)) (fun i hi => (HX.out.2.1 i hi).trans (HF0 i hi)) (by rw [puts_end]; exact HX.out.2.2.1) (HC9.out.fresh HX.out.2.2.2 fun b hb h => by
        unfold TS at h ⊢
        rw [HO0 b hb] at h
        exact h))
    · have hcb : (nds c a).contains r = false := by simpa using hin
      rw [hcb] at HCON
      have HIN := Lib.hid hin
      clear hin hcb
      go_wp2_with (go_at_call 63; (with_reducible refine (HCON.out).mono ?_); rintro e3 w3 ⟨rfl, hw3⟩; rw [hw3]; clear hw3 w3)
      refine bodyPost_ret (results_none rfl _ _ _) rfl (HEND.out _ _ own1 F VW ([] : List Int) (by rw [hl1.out, if_neg HIN.out]; simp) HO0 HF0 HA6.out HCV.out)
  · have hdb : (r != dfn c a) = true := by simp [hd]
    have HD := Lib.hid hd
    clear hd
    by_cases ht : tg a = true
    · have hl1 : Hid (comeL c tg M a r (boK x false) = [r] ++ if r ∈ nds c a then [dfn c a] else []) := Lib.hid (by rw [HL.out, if_pos ⟨fun h => HD.out h.symm, ht⟩])
      have HT := Lib.hid ht
      rw [ht] at u1
      clear ht
      have HPUTA : Hid (Calls Tryd.prog 20 #[.pointer (some ⟨g, 6, none⟩), .int .i64 a, .int .i64 r] V1 (PutP B own1 V1 g 6 n rw F VW PW RW a r)) := Lib.hid (put_c (Lib.hid HA6.out.fv) HA6.out.f7 (by omega) (Lib.hid HA6.out.qw) HA6.out.og ha hn HB7.out (by omega) (by omega))
      have hgl6 := HA6.out.fv.lt
      go_upto_region 8 with (go_at_call 20; (with_reducible refine (HPUTA.out).mono ?_); rintro e2 w2 hp; obtain ⟨v0, rfl⟩ : ∃ v0, e2 = .returned v0 := (by obtain ⟨v0, _, _, _, h, _⟩ := hp; exact ⟨v0, h⟩); have HP := Lib.hid hp; clear hp)
      obtain ⟨v1, own2, F2, VW2, -, g1, g2, g3, g4⟩ := HA6.out.putW HP.out
      have HA8 : Hid (TA B own2 w2 g kb lb n rw F2 KV LV VW2 Mn Lf Ld (puts a [r] (PW, RW)).1 (puts a [r] (PW, RW)).2) := Lib.hid g3
      have HC8 := Lib.hid g4
      have HO8 := Lib.hid g1
      have HF8 := Lib.hid g2
      clear g1 g2 g3 g4
      have u4 := (HC8.out.cell (b := m5) bm HNM.out).trans u4
      have HCON : Hid (Calls Tryd.prog 63 #[.slice pn (nds c a).length kn, .int .i64 r] w2 fun e w' => e = .returned (.bool ((nds c a).contains r)) ∧ w' = w2) := Lib.hid (contains_c (HVN6.out.ch HC8.out fun ad e => HNO.out ad e) hndl)
      by_cases hin : r ∈ nds c a
      · have hcb : (nds c a).contains r = true := by simpa using hin
        rw [hcb] at HCON
        have HIN := Lib.hid hin
        clear hin hcb
        have hg2l := HA8.out.fv.lt
        go_upto_region 9 with (go_at_call 63; (with_reducible refine (HCON.out).mono ?_); rintro e3 w3 ⟨rfl, hw3⟩; rw [hw3]; clear hw3 w3)
        have HC9 : Hid (Ch (TS own1) V1 w2.drew) := Lib.hid (HC8.out.stepB (below_drew1 _))
        have HA9 : Hid (TA B own2 w2.drew g kb lb n rw F2 KV LV VW2 Mn Lf Ld (puts a [r] (PW, RW)).1 (puts a [r] (PW, RW)).2) := Lib.hid (HA8.out.ch (S := fun _ => False) (Ch.of (below_drew1 _)) (fun _ _ => rfl) fun _ _ h => h)
        have HPB : Hid (Calls Tryd.prog 20 #[.pointer (some ⟨g, 6, none⟩), .int .i64 a, .int .i64 (dfn c a)] w2.drew (PutP B own2 w2.drew g 6 n rw F2 VW2 (puts a [r] (PW, RW)).1 (puts a [r] (PW, RW)).2 a (dfn c a))) := Lib.hid (put_c (Lib.hid HA9.out.fv) HA9.out.f7 (by omega) (Lib.hid HA9.out.qw) HA9.out.og ha hn (Nat.le_trans HB7.out HC9.out.size) (by have := puts_len a [r] (PW, RW); simp only [List.length_cons, List.length_nil] at this; omega) (by have := puts_len a [r] (PW, RW); simp only [List.length_cons, List.length_nil] at this; omega))
        have u3 := (HC8.out.cell (b := m5) bm HNM.out).trans u3
        have bm2 := Nat.lt_of_lt_of_le bm HC8.out.size
        have hnq : ¬ QS own2 g 6 m5 := fun h => HNM.out (by
          have h := QS.ts HA8.out.og h
          unfold TS at h ⊢
          rw [HO8.out m5 bm] at h
          exact h)
        refine region_held1 (fun w' => Ch (QS own2 g 6) w2 w') (by kernel_rfl) ?_
        show wpAnyH _ _ _ _ _ 7 _ _ _
        have hS0 : Ch (QS own2 g 6) w2 w2.drew := Ch.of (below_drew1 _)
        refine takeH (i := 0) (v := .pointer (some ⟨g, 0, none⟩)) (some 91) rfl rfl (by kernel_rfl) (by kernel_rfl) (by kernel_rfl) (Or.inl ⟨by rfl, ?_⟩) hS0 ?_
        · intro y1 hS1
          go_simp
        simp only [Act.put, List.setIfInBounds_toArray, List.set_cons_zero, List.set_cons_succ]
        refine takeH (i := 1) (v := .pointer (some ⟨g, 0, none⟩)) (some 92) rfl rfl (by kernel_rfl) (by kernel_rfl) (by kernel_rfl) (Or.inl ⟨by rfl, ?_⟩) hS0 ?_
        · intro y1 hS1
          go_simp
        simp only [Act.put, List.setIfInBounds_toArray, List.set_cons_zero, List.set_cons_succ]
        refine takeH (i := 2) (v := .pointer (some ⟨g, 5 + 1, none⟩)) (some 93) rfl rfl (by kernel_rfl) (by kernel_rfl) (by kernel_rfl) (Or.inl ⟨by rfl, ?_⟩) hS0 ?_
        · intro y1 hS1
          go_simp
        simp only [Act.put, List.setIfInBounds_toArray, List.set_cons_zero, List.set_cons_succ]
        refine takeH (i := 3) (v := .int .i64 (a : Int)) (some 94) rfl rfl (by kernel_rfl) (by kernel_rfl) (by kernel_rfl) (Or.inl ⟨by rfl, ?_⟩) hS0 ?_
        · intro y1 hS1
          go_simp
        simp only [Act.put, List.setIfInBounds_toArray, List.set_cons_zero, List.set_cons_succ]
        refine takeH (i := 4) (v := .pointer (some ⟨m5, 3, none⟩)) (some 95) rfl rfl (by kernel_rfl) (by kernel_rfl) (by kernel_rfl) (Or.inl ⟨by rfl, ?_⟩) hS0 ?_
        · intro y1 hS1
          go_simp
        simp only [Act.put, List.setIfInBounds_toArray, List.set_cons_zero, List.set_cons_succ]
        refine takeH (i := 5) (v := .int .i64 (dfn c a)) (some 96) rfl rfl (by kernel_rfl) (by kernel_rfl) (by kernel_rfl) (Or.inl ⟨by rfl, ?_⟩) hS0 ?_
        · intro y1 hS1
          have u3 := (hS1.cell (b := m5) bm2 hnq).trans u3
          go_simp
        simp only [Act.put, List.setIfInBounds_toArray, List.set_cons_zero, List.set_cons_succ]
        refine wpAnyH_all (rs := [6]) (by kernel_rfl) (by simp) ?_
        intro i6 hi6
        obtain rfl : i6 = 6 := by simpa using hi6
        refine wpOp_call (some 97) rfl rfl (by rfl) (f := 20) (args := #[.pointer (some ⟨g, 6, none⟩), .int .i64 a, .int .i64 (dfn c a)]) (by go_simp) HPB.out ?_
        intro e4 w4 hp
        obtain ⟨v4, own4, F4, VW4, rfl, h1, h2, h3, h4⟩ := HA9.out.putW hp
        refine ⟨_, rfl, ?_, ?_⟩
        · obtain ⟨_, _, _, _, -, -, -, -, h5⟩ := hp
          exact hS0.trans (h5.mono fun z _ h => h)
        simp only [Act.put, List.setIfInBounds_toArray, List.set_cons_zero, List.set_cons_succ]
        refine wpAnyH_done (by kernel_rfl) ?_ _
        refine ⟨rfl, ?_⟩
        have HX := Lib.hid (And.intro h1 (And.intro h2 (And.intro h3 h4)))
        clear h1 h2 h3 h4 hp
        go_wp2
        refine bodyPost_ret (results_none rfl _ _ _) rfl (HEND.out _ _ own4 F4 VW4 ([r] ++ [dfn c a]) (by rw [hl1.out, if_pos HIN.out]) (fun b hb => (HX.out.1 b (Nat.lt_of_lt_of_le hb HC9.out.size)).trans (HO8.out b hb)) (fun i hi => (HX.out.2.1 i hi).trans (HF8.out i hi)) (by rw [puts_end]; exact HX.out.2.2.1) (HC9.out.fresh HX.out.2.2.2 fun b hb h => by
          unfold TS at h ⊢
          rw [HO8.out b hb] at h
          exact h))
      · have hcb : (nds c a).contains r = false := by simpa using hin
        rw [hcb] at HCON
        have HIN := Lib.hid hin
        clear hin hcb
        go_wp2_with (go_at_call 63; (with_reducible refine (HCON.out).mono ?_); rintro e3 w3 ⟨rfl, hw3⟩; rw [hw3]; clear hw3 w3)
        refine bodyPost_ret (results_none rfl _ _ _) rfl (HEND.out _ _ own2 F2 VW2 [r] (by rw [hl1.out, if_neg HIN.out]; simp) HO8.out HF8.out HA8.out HC8.out)
    · have hl1 : Hid (comeL c tg M a r (boK x false) = [] ++ if r ∈ nds c a then [dfn c a] else []) := Lib.hid (by rw [HL.out, if_neg (fun h => ht h.2)])
      have ht : tg a = false := by simpa using ht
      rw [ht] at u1
      clear ht
      have HCON : Hid (Calls Tryd.prog 63 #[.slice pn (nds c a).length kn, .int .i64 r] V1 fun e w' => e = .returned (.bool ((nds c a).contains r)) ∧ w' = V1) := Lib.hid (contains_c (HVN6.out.ch HCV.out fun ad e => HNO.out ad e) hndl)
      by_cases hin : r ∈ nds c a
      · have hcb : (nds c a).contains r = true := by simpa using hin
        rw [hcb] at HCON
        have HIN := Lib.hid hin
        clear hin hcb
        have hg2l := HA6.out.fv.lt
        go_upto_region 9 with (go_at_call 63; (with_reducible refine (HCON.out).mono ?_); rintro e3 w3 ⟨rfl, hw3⟩; rw [hw3]; clear hw3 w3)
        have HC9 : Hid (Ch (TS own1) V1 V1.drew) := Lib.hid (HCV.out.stepB (below_drew1 _))
        have HA9 : Hid (TA B own1 V1.drew g kb lb n rw F KV LV VW Mn Lf Ld (puts a ([] : List Int) (PW, RW)).1 (puts a ([] : List Int) (PW, RW)).2) := Lib.hid (HA6.out.ch (S := fun _ => False) (Ch.of (below_drew1 _)) (fun _ _ => rfl) fun _ _ h => h)
        have HPB : Hid (Calls Tryd.prog 20 #[.pointer (some ⟨g, 6, none⟩), .int .i64 a, .int .i64 (dfn c a)] V1.drew (PutP B own1 V1.drew g 6 n rw F VW (puts a ([] : List Int) (PW, RW)).1 (puts a ([] : List Int) (PW, RW)).2 a (dfn c a))) := Lib.hid (put_c (Lib.hid HA9.out.fv) HA9.out.f7 (by omega) (Lib.hid HA9.out.qw) HA9.out.og ha hn (Nat.le_trans HB7.out HC9.out.size) (by have := puts_len a ([] : List Int) (PW, RW); simp only [List.length_cons, List.length_nil] at this; omega) (by have := puts_len a ([] : List Int) (PW, RW); simp only [List.length_cons, List.length_nil] at this; omega))
        have u3 := (HCV.out.cell (b := m5) bm HNM.out).trans u3
        have bm2 := Nat.lt_of_lt_of_le bm HCV.out.size
        have hnq : ¬ QS own1 g 6 m5 := fun h => HNM.out (by
          have h := QS.ts HA6.out.og h
          unfold TS at h ⊢
          rw [HO0 m5 bm] at h
          exact h)
        refine region_held1 (fun w' => Ch (QS own1 g 6) V1 w') (by kernel_rfl) ?_
        show wpAnyH _ _ _ _ _ 7 _ _ _
        have hS0 : Ch (QS own1 g 6) V1 V1.drew := Ch.of (below_drew1 _)
        refine takeH (i := 0) (v := .pointer (some ⟨g, 0, none⟩)) (some 91) rfl rfl (by kernel_rfl) (by kernel_rfl) (by kernel_rfl) (Or.inl ⟨by rfl, ?_⟩) hS0 ?_
        · intro y1 hS1
          go_simp
        simp only [Act.put, List.setIfInBounds_toArray, List.set_cons_zero, List.set_cons_succ]
        refine takeH (i := 1) (v := .pointer (some ⟨g, 0, none⟩)) (some 92) rfl rfl (by kernel_rfl) (by kernel_rfl) (by kernel_rfl) (Or.inl ⟨by rfl, ?_⟩) hS0 ?_
        · intro y1 hS1
          go_simp
        simp only [Act.put, List.setIfInBounds_toArray, List.set_cons_zero, List.set_cons_succ]
        refine takeH (i := 2) (v := .pointer (some ⟨g, 5 + 1, none⟩)) (some 93) rfl rfl (by kernel_rfl) (by kernel_rfl) (by kernel_rfl) (Or.inl ⟨by rfl, ?_⟩) hS0 ?_
        · intro y1 hS1
          go_simp
        simp only [Act.put, List.setIfInBounds_toArray, List.set_cons_zero, List.set_cons_succ]
        refine takeH (i := 3) (v := .int .i64 (a : Int)) (some 94) rfl rfl (by kernel_rfl) (by kernel_rfl) (by kernel_rfl) (Or.inl ⟨by rfl, ?_⟩) hS0 ?_
        · intro y1 hS1
          go_simp
        simp only [Act.put, List.setIfInBounds_toArray, List.set_cons_zero, List.set_cons_succ]
        refine takeH (i := 4) (v := .pointer (some ⟨m5, 3, none⟩)) (some 95) rfl rfl (by kernel_rfl) (by kernel_rfl) (by kernel_rfl) (Or.inl ⟨by rfl, ?_⟩) hS0 ?_
        · intro y1 hS1
          go_simp
        simp only [Act.put, List.setIfInBounds_toArray, List.set_cons_zero, List.set_cons_succ]
        refine takeH (i := 5) (v := .int .i64 (dfn c a)) (some 96) rfl rfl (by kernel_rfl) (by kernel_rfl) (by kernel_rfl) (Or.inl ⟨by rfl, ?_⟩) hS0 ?_
        · intro y1 hS1
          have u3 := (hS1.cell (b := m5) bm2 hnq).trans u3
          go_simp
        simp only [Act.put, List.setIfInBounds_toArray, List.set_cons_zero, List.set_cons_succ]
        refine wpAnyH_all (rs := [6]) (by kernel_rfl) (by simp) ?_
        intro i6 hi6
        obtain rfl : i6 = 6 := by simpa using hi6
        refine wpOp_call (some 97) rfl rfl (by rfl) (f := 20) (args := #[.pointer (some ⟨g, 6, none⟩), .int .i64 a, .int .i64 (dfn c a)]) (by go_simp) HPB.out ?_
        intro e4 w4 hp
        obtain ⟨v4, own4, F4, VW4, rfl, h1, h2, h3, h4⟩ := HA9.out.putW hp
        refine ⟨_, rfl, ?_, ?_⟩
        · obtain ⟨_, _, _, _, -, -, -, -, h5⟩ := hp
          exact hS0.trans (h5.mono fun z _ h => h)
        simp only [Act.put, List.setIfInBounds_toArray, List.set_cons_zero, List.set_cons_succ]
        refine wpAnyH_done (by kernel_rfl) ?_ _
        refine ⟨rfl, ?_⟩
        have HX := Lib.hid (And.intro h1 (And.intro h2 (And.intro h3 h4)))
        clear h1 h2 h3 h4 hp
        go_wp2
        refine bodyPost_ret (results_none rfl _ _ _) rfl (HEND.out _ _ own4 F4 VW4 (([] : List Int) ++ [dfn c a]) (by rw [hl1.out, if_pos HIN.out]) (fun b hb => (HX.out.1 b (Nat.lt_of_lt_of_le hb HC9.out.size)).trans (HO0 b hb)) (fun i hi => (HX.out.2.1 i hi).trans (HF0 i hi)) (by rw [puts_end]; exact HX.out.2.2.1) (HC9.out.fresh HX.out.2.2.2 fun b hb h => by
          unfold TS at h ⊢
          rw [HO0 b hb] at h
          exact h))
      · have hcb : (nds c a).contains r = false := by simpa using hin
        rw [hcb] at HCON
        have HIN := Lib.hid hin
        clear hin hcb
        go_wp2_with (go_at_call 63; (with_reducible refine (HCON.out).mono ?_); rintro e3 w3 ⟨rfl, hw3⟩; rw [hw3]; clear hw3 w3)
        refine bodyPost_ret (results_none rfl _ _ _) rfl (HEND.out _ _ own1 F VW ([] : List Int) (by rw [hl1.out, if_neg HIN.out]; simp) HO0 HF0 HA6.out HCV.out)
end Go.Proofs.YtgdhgipofaaogaaDoor
namespace Go.Proofs.YtgdhgipofaaogaaDoor
open Go Go.RowKit Gm Go.ChangeMaps
set_option maxRecDepth 100000 in
set_option maxHeartbeats 4000000 in
theorem come_tt {B : Nat} {own : Nat → Ob} {W : World} {g kb lb sb n rw a : Nat} {F KV LV VW : Nat → Value} {M : Km} {Lf : Nat → KF} {Ld : Nat → Int → List Nat} {PW : List Nat} {RW : Nat → List Int} {r : Int} {L : List Int} {c : List Ic} {rc tg : Nat → Bool} {fr : Nat → List Nat} (hA : Hid (TA B own W g kb lb n rw F KV LV VW M Lf Ld PW RW)) (hF1 : F 1 = .slice (some ⟨sb, 0, none⟩) n n) (hM : Hid (StO own W sb n c rc tg fr)) (hra : rc a = true) (ha : a < n) (hn : n ≤ 5000) (hr : In6 r) (hB : B ≤ W.heap.size) (hPW : PW.length ≤ 500000) (hRW : (RW a).length ≤ 500000) (hLk : Hid (∀ s, M a s ≠ none → s ∈ L)) (hLl : L.length ≤ 1000000) (hndl : (nds c a).length ≤ 1000) (x : Int) {k : Int} (hMr : M a r = some (k, true)) (hne : ¬ x = k) : Calls Tryd.prog 45 #[.pointer (some ⟨g, 0, none⟩), .int .i64 a, .int .i64 r, .int .i64 x, .bool true] W (ComeP B own W g kb lb n rw F KV LV M Lf Ld PW RW c tg a r (boK x true)) := by
  have hF := Lib.hid hA.out.fv
  have hog := hA.out.og
  have hg0 := hF.out.lt
  have c2 := hF.out.cell (i := 2) (by omega)
  rw [hA.out.f2] at c2
  have hkb := hA.out.km.fv.lt
  have ck := hA.out.km.fv.cell ha
  have hlk := hA.out.km.look2 ha hr
  obtain ⟨m, hkv, hom, hkm⟩ : ∃ m, KV a = .map (some m) ∧ own m = .km a ∧ KM 3 W m L.length (fun s => (M a s).map fv2) := by
    rcases hA.out.km.mp a ha with ⟨-, h2⟩ | ⟨m, cnt, h1, h2, h3⟩
    · rw [h2 r] at hMr; cases hMr
    · exact ⟨m, h1, h2, h3.within L fun s hs => hLk.out s fun e => hs (by simp only [e]; rfl)⟩
  have hmW := hkm.lt
  have HKM := Lib.hid hkm
  have hk2 : kmv M a r = (k, true) := by unfold kmv; rw [hMr]; rfl
  rw [hMr, hk2, hkv] at hlk
  rw [hkv] at ck
  simp only [Option.isSome] at hlk
  have hLm : L.length < maxLen := by unfold maxLen; omega
  have hkr := keyI hr
  have HMr := Lib.hid hMr
  have HKV := Lib.hid hkv
  have HOM := Lib.hid hom
  clear hkm hk2 hMr hkv
  have HK0 : Hid (∀ X, Ch (fun _ => False) W X → KM 3 X m L.length (fun s => (M a s).map fv2)) := Lib.hid fun X hX => HKM.out.same (hX.block m hmW id)
  go_enter Tryd.func45, Tryd.ntmps45
  go_upto_region 2 with (fail)
  refine name_world ?_
  intro W1 hW1
  have HC1 : Hid (Ch (fun _ => False) W W1) := Lib.hid (by rw [hW1]; exact (Ch.refl (fun _ => False) W).alloc _)
  obtain ⟨m2, hm2⟩ : ∃ x, W.heap.size = x := ⟨_, rfl⟩
  have HFB : Hid (W1.heap[m2]? = some (.cells #[.int .i64 k, .bool true] 98 (0, 0))) := Lib.hid (by rw [hW1, ← hm2]; exact heap_alloc_new W _)
  have q0 : W1.cell? ⟨m2, 0, none⟩ = some (.int .i64 k) := by rw [cell_of_row _ _ _ _ _ _ HFB.out]; rfl
  have q1 : W1.cell? ⟨m2, 1, none⟩ = some (.bool true) := by rw [cell_of_row _ _ _ _ _ _ HFB.out]; rfl
  have q2 : m2 < W1.heap.size := (Array.getElem?_eq_some_iff.1 HFB.out).1
  have HKMx := Lib.hid (HK0.out W1 HC1.out)
  have HA1 : Hid (TA B own W1 g kb lb n rw F KV LV VW M Lf Ld PW RW) := Lib.hid (hA.out.ch HC1.out (fun _ _ => rfl) fun _ _ h => h)
  have c2 := (HC1.out.cell (b := g) hg0 id).trans c2
  have ck := (HC1.out.cell (b := kb) hkb id).trans ck
  have hg0 := Nat.lt_of_lt_of_le hg0 HC1.out.size
  have hkb := Nat.lt_of_lt_of_le hkb HC1.out.size
  try rw [hm2]
  clear hW1 hm2 hlk
  obtain ⟨Mn, hMn⟩ : ∃ y, setM M a r (none) = y := ⟨_, rfl⟩
  have HMn : Hid (comeM M a r (boK x true) = Mn) := Lib.hid (by rw [← hMn]; unfold comeM boK; simp [HMr.out, hne])
  have hnew : newM M a r (boK x true) = true := by unfold newM boK; simp [HMr.out, hne]
  have HNW := Lib.hid hnew
  clear hnew
  go_upto_region 5 with (at_delete; refine wpList_strikeK rfl (.tmp 31) (.tmp 32) rfl keyedI Tryd.underlying100 m L.length _ rfl HKMx.out r rfl hkr ?_; intro w5 hk5 hg5; have HW5 := Lib.hid (And.intro hk5 hg5); clear hk5 hg5)
  have HA5 : Hid (TA B own w5 g kb lb n rw F KV LV VW Mn Lf Ld PW RW) := Lib.hid (hMn ▸ HA1.out.setK HKV.out HOM.out HW5.out.1 ef_del HW5.out.2)
  have HCm : Hid (Ch (fun z => z = m) W w5) := Lib.hid ((HC1.out.mono fun _ _ h => h.elim).grown HW5.out.2 fun b e => .inl (by cases e; rfl))
  have HM5 : Hid (StO own w5 sb n c rc tg fr) := Lib.hid (hM.out.ch HCm.out (fun _ _ => rfl) fun b hb e => by rw [e, HOM.out] at hb; cases hb)
  have HC5 : Hid (Ch (TS own) W w5) := Lib.hid (HCm.out.mono fun z _ e => .inr (.inl ⟨a, by rw [e]; exact HOM.out⟩))
  have hnew := HNW.out
  clear hMn c2 ck q0 q1 q2 hkb hg0 hmW HK0 HKMx hom
  have hsl5 := HM5.out.st.sl
  have hg5l := HA5.out.fv.lt
  have d1 := HA5.out.fv.cell (i := 1) (by omega)
  rw [hF1] at d1
  have t0 := HM5.out.st.r a ha
  have t1 := HM5.out.st.t a ha
  obtain ⟨pf, kf, t2, hvf⟩ := HM5.out.st.f a ha
  have t3 := HM5.out.st.d a ha hra
  obtain ⟨pn, kn, t4, hvn⟩ := HM5.out.st.nn a ha hra
  rw [hra] at t0
  have HVN := Lib.hid hvn
  clear hvf hvn
  go_upto_region 6 with (fail)
  refine name_world ?_
  intro V1 hV1
  obtain ⟨m5, hm5⟩ : ∃ x, w5.heap.size = x := ⟨_, rfl⟩
  have HV1 : Hid (Sb5 V1 m5 (.bool true) (.bool (tg a)) (.slice pf (fr a).length kf) (.int .i64 (dfn c a)) (.slice pn (nds c a).length kn)) := Lib.hid (by rw [hV1, ← hm5]; exact heap_alloc_new w5 _)
  have HC6 : Hid (Ch (fun _ => False) w5 V1) := Lib.hid (by rw [hV1]; exact (Ch.refl (fun _ => False) w5).alloc _)
  obtain ⟨own1, ho1⟩ : ∃ o, ownM own m5 .no = o := ⟨_, rfl⟩
  have HO5 : Hid (∀ b, b < w5.heap.size → own1 b = own b) := Lib.hid fun b hb => by rw [← ho1]; exact ownM_of (by omega)
  have hom5 : own1 m5 = .no := by rw [← ho1]; exact ownM_at
  have HNM : Hid (¬ TS own1 m5) := Lib.hid fun h => by
    unfold TS at h
    rw [hom5] at h
    rcases h with h | ⟨_, h⟩ | h | h | ⟨_, h⟩ <;> cases h
  have HA6 : Hid (TA B own1 V1 g kb lb n rw F KV LV VW Mn Lf Ld PW RW) := Lib.hid (HA5.out.ch HC6.out HO5.out fun _ _ h => h)
  have HVN6 := Lib.hid (HVN.out.ch HC6.out fun _ _ h => h)
  try rw [hm5]
  have HC7 : Hid (Ch (TS own) W V1) := Lib.hid (HC5.out.trans (HC6.out.mono fun _ _ h => h.elim))
  have HB7 : Hid (B ≤ V1.heap.size) := Lib.hid (Nat.le_trans hB HC7.out.size)
  have HEND : Hid (∀ (v : Value) (X : World) (own' : Nat → Ob) (F' VW' : Nat → Value) (l : List Int), l = comeL c tg M a r (boK x true) → (∀ b, b < V1.heap.size → own' b = own1 b) → (∀ i, i ≠ 6 → F' i = F i) → TA B own' X g kb lb n rw F' KV LV VW' Mn Lf Ld (puts a l (PW, RW)).1 (puts a l (PW, RW)).2 → Ch (TS own1) V1 X → ComeP B own W g kb lb n rw F KV LV M Lf Ld PW RW c tg a r (boK x true) (.returned v) X) := Lib.hid fun v X own' F' VW' l e1 h1 h2 h3 h4 => by
    subst e1
    have hsz : W.heap.size ≤ w5.heap.size := HC5.out.size
    refine ⟨v, own', F', VW', rfl, fun b hb => ?_, h2, by rw [HMn.out]; exact h3, ?_⟩
    · rw [h1 b (Nat.lt_of_lt_of_le hb HC7.out.size), HO5.out b (Nat.lt_of_lt_of_le hb hsz)]
    · refine Ch.fresh HC7.out h4 fun b hb h => ?_
      unfold TS at h ⊢
      rw [HO5.out b (Nat.lt_of_lt_of_le hb hsz)] at h
      exact h
  have HNO : Hid (∀ ad, pn = some ad → ¬ TS own1 ad.block) := Lib.hid fun ad e h => by
    obtain ⟨e1, e2⟩ := HM5.out.of _ ad _ kn (e ▸ t4)
    unfold TS at h
    rw [HO5.out _ e2, e1] at h
    rcases h with h | ⟨_, h⟩ | h | h | ⟨_, h⟩ <;> cases h
  have HCV : Hid (Ch (TS own1) V1 V1) := Lib.hid (Ch.refl _ _)
  have HO0 : OEq V1.heap.size own1 own1 := fun _ _ => rfl
  have HF0 : FEq F F := fun _ _ => rfl
  have HL := Lib.hid (comeL_new (c := c) (tg := tg) hnew)
  clear hV1 hm5 t0 t1 t2 t3 t4 d1 hsl5 hg5l ho1 hom5
  obtain ⟨bm, u3, u4⟩ := HV1.out.facts
  have u1 := HV1.out.one
  by_cases hd : r = dfn c a
  · have hdb : (r != dfn c a) = false := by simp [hd]
    have hl1 : Hid (comeL c tg M a r (boK x true) = [] ++ if r ∈ nds c a then [dfn c a] else []) := Lib.hid (by rw [HL.out, if_neg (fun h => h.1 hd.symm)])
    have HD := Lib.hid hd
    clear hd
    have HCON : Hid (Calls Tryd.prog 63 #[.slice pn (nds c a).length kn, .int .i64 r] V1 fun e w' => e = .returned (.bool ((nds c a).contains r)) ∧ w' = V1) := Lib.hid (contains_c (HVN6.out.ch HCV.out fun ad e => HNO.out ad e) hndl)
    by_cases hin : r ∈ nds c a
    · have hcb : (nds c a).contains r = true := by simpa using hin
      rw [hcb] at HCON
      have HIN := Lib.hid hin
      clear hin hcb
      have hg2l := HA6.out.fv.lt
      go_upto_region 9 with (go_at_call 63; (with_reducible refine (HCON.out).mono ?_); rintro e3 w3 ⟨rfl, hw3⟩; rw [hw3]; clear hw3 w3)
      have HC9 : Hid (Ch (TS own1) V1 V1.drew) := Lib.hid (HCV.out.stepB (below_drew1 _))
      have HA9 : Hid (TA B own1 V1.drew g kb lb n rw F KV LV VW Mn Lf Ld (puts a ([] : List Int) (PW, RW)).1 (puts a ([] : List Int) (PW, RW)).2) := Lib.hid (HA6.out.ch (S := fun _ => False) (Ch.of (below_drew1 _)) (fun _ _ => rfl) fun _ _ h => h)
      have HPB : Hid (Calls Tryd.prog 20 #[.pointer (some ⟨g, 6, none⟩), .int .i64 a, .int .i64 (dfn c a)] V1.drew (PutP B own1 V1.drew g 6 n rw F VW (puts a ([] : List Int) (PW, RW)).1 (puts a ([] : List Int) (PW, RW)).2 a (dfn c a))) := Lib.hid (put_c (Lib.hid HA9.out.fv) HA9.out.f7 (by omega) (Lib.hid HA9.out.qw) HA9.out.og ha hn (Nat.le_trans HB7.out HC9.out.size) (by have := puts_len a ([] : List Int) (PW, RW); simp only [List.length_cons, List.length_nil] at this; omega) (by have := puts_len a ([] : List Int) (PW, RW); simp only [List.length_cons, List.length_nil] at this; omega))
      have u3 := (HCV.out.cell (b := m5) bm HNM.out).trans u3
      have bm2 := Nat.lt_of_lt_of_le bm HCV.out.size
      have hnq : ¬ QS own1 g 6 m5 := fun h => HNM.out (by
        have h := QS.ts HA6.out.og h
        unfold TS at h ⊢
        rw [HO0 m5 bm] at h
        exact h)
      refine region_held1 (fun w' => Ch (QS own1 g 6) V1 w') (by kernel_rfl) ?_
      show wpAnyH _ _ _ _ _ 7 _ _ _
      have hS0 : Ch (QS own1 g 6) V1 V1.drew := Ch.of (below_drew1 _)
      refine takeH (i := 0) (v := .pointer (some ⟨g, 0, none⟩)) (some 91) rfl rfl (by kernel_rfl) (by kernel_rfl) (by kernel_rfl) (Or.inl ⟨by rfl, ?_⟩) hS0 ?_
      · intro y1 hS1
        go_simp
      simp only [Act.put, List.setIfInBounds_toArray, List.set_cons_zero, List.set_cons_succ]
      refine takeH (i := 1) (v := .pointer (some ⟨g, 0, none⟩)) (some 92) rfl rfl (by kernel_rfl) (by kernel_rfl) (by kernel_rfl) (Or.inl ⟨by rfl, ?_⟩) hS0 ?_
      · intro y1 hS1
        go_simp
      simp only [Act.put, List.setIfInBounds_toArray, List.set_cons_zero, List.set_cons_succ]
      refine takeH (i := 2) (v := .pointer (some ⟨g, 5 + 1, none⟩)) (some 93) rfl rfl (by kernel_rfl) (by kernel_rfl) (by kernel_rfl) (Or.inl ⟨by rfl, ?_⟩) hS0 ?_
      · intro y1 hS1
        go_simp
      simp only [Act.put, List.setIfInBounds_toArray, List.set_cons_zero, List.set_cons_succ]
      refine takeH (i := 3) (v := .int .i64 (a : Int)) (some 94) rfl rfl (by kernel_rfl) (by kernel_rfl) (by kernel_rfl) (Or.inl ⟨by rfl, ?_⟩) hS0 ?_
      · intro y1 hS1
        go_simp
      simp only [Act.put, List.setIfInBounds_toArray, List.set_cons_zero, List.set_cons_succ]
      refine takeH (i := 4) (v := .pointer (some ⟨m5, 3, none⟩)) (some 95) rfl rfl (by kernel_rfl) (by kernel_rfl) (by kernel_rfl) (Or.inl ⟨by rfl, ?_⟩) hS0 ?_
      · intro y1 hS1
        go_simp
      simp only [Act.put, List.setIfInBounds_toArray, List.set_cons_zero, List.set_cons_succ]
      refine takeH (i := 5) (v := .int .i64 (dfn c a)) (some 96) rfl rfl (by kernel_rfl) (by kernel_rfl) (by kernel_rfl) (Or.inl ⟨by rfl, ?_⟩) hS0 ?_
      · intro y1 hS1
        have u3 := (hS1.cell (b := m5) bm2 hnq).trans u3
        go_simp
      simp only [Act.put, List.setIfInBounds_toArray, List.set_cons_zero, List.set_cons_succ]
      refine wpAnyH_all (rs := [6]) (by kernel_rfl) (by simp) ?_
      intro i6 hi6
      obtain rfl : i6 = 6 := by simpa using hi6
      refine wpOp_call (some 97) rfl rfl (by rfl) (f := 20) (args := #[.pointer (some ⟨g, 6, none⟩), .int .i64 a, .int .i64 (dfn c a)]) (by go_simp) HPB.out ?_
      intro e4 w4 hp
      obtain ⟨v4, own4, F4, VW4, rfl, h1, h2, h3, h4⟩ := HA9.out.putW hp
      refine ⟨_, rfl, ?_, ?_⟩
      · obtain ⟨_, _, _, _, -, -, -, -, h5⟩ := hp
        exact hS0.trans (h5.mono fun z _ h => h)
      simp only [Act.put, List.setIfInBounds_toArray, List.set_cons_zero, List.set_cons_succ]
      refine wpAnyH_done (by kernel_rfl) ?_ _
      refine ⟨rfl, ?_⟩
      have HX := Lib.hid (And.intro h1 (And.intro h2 (And.intro h3 h4)))
      clear h1 h2 h3 h4 hp
      go_wp2
      refine bodyPost_ret (results_none rfl _ _ _) rfl (HEND.out _ _ own4 F4 VW4 (([] : List Int) ++ [dfn c a]) (by rw [hl1.out, if_pos HIN.out]) (fun b hb => (HX.out.1 b (Nat.lt_of_lt_of_le hb HC9.out.size)).trans (HO0 b hb)) (fun i hi => (HX.out.2.1 i hi).trans (HF0 i hi)) (by rw [puts_end]; exact HX.out.2.2.1) (HC9.out.fresh HX.out.2.2.2 fun b hb h => by
        unfold TS at h ⊢
        rw [HO0 b hb] at h
        exact h))
    · have hcb : (nds c a).contains r = false := by simpa using hin
      rw [hcb] at HCON
      have HIN := Lib.hid hin
      clear hin hcb
      go_wp2_with (go_at_call 63; (with_reducible refine (HCON.out).mono ?_); rintro e3 w3 ⟨rfl, hw3⟩; rw [hw3]; clear hw3 w3)
      refine bodyPost_ret (results_none rfl _ _ _) rfl (HEND.out _ _ own1 F VW ([] : List Int) (by rw [hl1.out, if_neg HIN.out]; simp) HO0 HF0 HA6.out HCV.out)
  · have hdb : (r != dfn c a) = true := by simp [hd]
    have HD := Lib.hid hd
    clear hd
    by_cases ht : tg a = true
    · have hl1 : Hid (comeL c tg M a r (boK x true) = [r] ++ if r ∈ nds c a then [dfn c a] else []) := Lib.hid (by rw [HL.out, if_pos ⟨fun h => HD.out h.symm, ht⟩])
      have HT := Lib.hid ht
      rw [ht] at u1
      clear ht
      have HPUTA : Hid (Calls Tryd.prog 20 #[.pointer (some ⟨g, 6, none⟩), .int .i64 a, .int .i64 r] V1 (PutP B own1 V1 g 6 n rw F VW PW RW a r)) := Lib.hid (put_c (Lib.hid HA6.out.fv) HA6.out.f7 (by omega) (Lib.hid HA6.out.qw) HA6.out.og ha hn HB7.out (by omega) (by omega))
      have hgl6 := HA6.out.fv.lt
      go_upto_region 8 with (go_at_call 20; (with_reducible refine (HPUTA.out).mono ?_); rintro e2 w2 hp; obtain ⟨v0, rfl⟩ : ∃ v0, e2 = .returned v0 := (by obtain ⟨v0, _, _, _, h, _⟩ := hp; exact ⟨v0, h⟩); have HP := Lib.hid hp; clear hp)
      obtain ⟨v1, own2, F2, VW2, -, g1, g2, g3, g4⟩ := HA6.out.putW HP.out
      have HA8 : Hid (TA B own2 w2 g kb lb n rw F2 KV LV VW2 Mn Lf Ld (puts a [r] (PW, RW)).1 (puts a [r] (PW, RW)).2) := Lib.hid g3
      have HC8 := Lib.hid g4
      have HO8 := Lib.hid g1
      have HF8 := Lib.hid g2
      clear g1 g2 g3 g4
      have u4 := (HC8.out.cell (b := m5) bm HNM.out).trans u4
      have HCON : Hid (Calls Tryd.prog 63 #[.slice pn (nds c a).length kn, .int .i64 r] w2 fun e w' => e = .returned (.bool ((nds c a).contains r)) ∧ w' = w2) := Lib.hid (contains_c (HVN6.out.ch HC8.out fun ad e => HNO.out ad e) hndl)
      by_cases hin : r ∈ nds c a
      · have hcb : (nds c a).contains r = true := by simpa using hin
        rw [hcb] at HCON
        have HIN := Lib.hid hin
        clear hin hcb
        have hg2l := HA8.out.fv.lt
        go_upto_region 9 with (go_at_call 63; (with_reducible refine (HCON.out).mono ?_); rintro e3 w3 ⟨rfl, hw3⟩; rw [hw3]; clear hw3 w3)
        have HC9 : Hid (Ch (TS own1) V1 w2.drew) := Lib.hid (HC8.out.stepB (below_drew1 _))
        have HA9 : Hid (TA B own2 w2.drew g kb lb n rw F2 KV LV VW2 Mn Lf Ld (puts a [r] (PW, RW)).1 (puts a [r] (PW, RW)).2) := Lib.hid (HA8.out.ch (S := fun _ => False) (Ch.of (below_drew1 _)) (fun _ _ => rfl) fun _ _ h => h)
        have HPB : Hid (Calls Tryd.prog 20 #[.pointer (some ⟨g, 6, none⟩), .int .i64 a, .int .i64 (dfn c a)] w2.drew (PutP B own2 w2.drew g 6 n rw F2 VW2 (puts a [r] (PW, RW)).1 (puts a [r] (PW, RW)).2 a (dfn c a))) := Lib.hid (put_c (Lib.hid HA9.out.fv) HA9.out.f7 (by omega) (Lib.hid HA9.out.qw) HA9.out.og ha hn (Nat.le_trans HB7.out HC9.out.size) (by have := puts_len a [r] (PW, RW); simp only [List.length_cons, List.length_nil] at this; omega) (by have := puts_len a [r] (PW, RW); simp only [List.length_cons, List.length_nil] at this; omega))
        have u3 := (HC8.out.cell (b := m5) bm HNM.out).trans u3
        have bm2 := Nat.lt_of_lt_of_le bm HC8.out.size
        have hnq : ¬ QS own2 g 6 m5 := fun h => HNM.out (by
          have h := QS.ts HA8.out.og h
          unfold TS at h ⊢
          rw [HO8.out m5 bm] at h
          exact h)
        refine region_held1 (fun w' => Ch (QS own2 g 6) w2 w') (by kernel_rfl) ?_
        show wpAnyH _ _ _ _ _ 7 _ _ _
        have hS0 : Ch (QS own2 g 6) w2 w2.drew := Ch.of (below_drew1 _)
        refine takeH (i := 0) (v := .pointer (some ⟨g, 0, none⟩)) (some 91) rfl rfl (by kernel_rfl) (by kernel_rfl) (by kernel_rfl) (Or.inl ⟨by rfl, ?_⟩) hS0 ?_
        · intro y1 hS1
          go_simp
        simp only [Act.put, List.setIfInBounds_toArray, List.set_cons_zero, List.set_cons_succ]
        refine takeH (i := 1) (v := .pointer (some ⟨g, 0, none⟩)) (some 92) rfl rfl (by kernel_rfl) (by kernel_rfl) (by kernel_rfl) (Or.inl ⟨by rfl, ?_⟩) hS0 ?_
        · intro y1 hS1
          go_simp
        simp only [Act.put, List.setIfInBounds_toArray, List.set_cons_zero, List.set_cons_succ]
        refine takeH (i := 2) (v := .pointer (some ⟨g, 5 + 1, none⟩)) (some 93) rfl rfl (by kernel_rfl) (by kernel_rfl) (by kernel_rfl) (Or.inl ⟨by rfl, ?_⟩) hS0 ?_
        · intro y1 hS1
          go_simp
        simp only [Act.put, List.setIfInBounds_toArray, List.set_cons_zero, List.set_cons_succ]
        refine takeH (i := 3) (v := .int .i64 (a : Int)) (some 94) rfl rfl (by kernel_rfl) (by kernel_rfl) (by kernel_rfl) (Or.inl ⟨by rfl, ?_⟩) hS0 ?_
        · intro y1 hS1
          go_simp
        simp only [Act.put, List.setIfInBounds_toArray, List.set_cons_zero, List.set_cons_succ]
        refine takeH (i := 4) (v := .pointer (some ⟨m5, 3, none⟩)) (some 95) rfl rfl (by kernel_rfl) (by kernel_rfl) (by kernel_rfl) (Or.inl ⟨by rfl, ?_⟩) hS0 ?_
        · intro y1 hS1
          go_simp
        simp only [Act.put, List.setIfInBounds_toArray, List.set_cons_zero, List.set_cons_succ]
        refine takeH (i := 5) (v := .int .i64 (dfn c a)) (some 96) rfl rfl (by kernel_rfl) (by kernel_rfl) (by kernel_rfl) (Or.inl ⟨by rfl, ?_⟩) hS0 ?_
        · intro y1 hS1
          have u3 := (hS1.cell (b := m5) bm2 hnq).trans u3
          go_simp
        simp only [Act.put, List.setIfInBounds_toArray, List.set_cons_zero, List.set_cons_succ]
        refine wpAnyH_all (rs := [6]) (by kernel_rfl) (by simp) ?_
        intro i6 hi6
        obtain rfl : i6 = 6 := by simpa using hi6
        refine wpOp_call (some 97) rfl rfl (by rfl) (f := 20) (args := #[.pointer (some ⟨g, 6, none⟩), .int .i64 a, .int .i64 (dfn c a)]) (by go_simp) HPB.out ?_
        intro e4 w4 hp
        obtain ⟨v4, own4, F4, VW4, rfl, h1, h2, h3, h4⟩ := HA9.out.putW hp
        refine ⟨_, rfl, ?_, ?_⟩
        · obtain ⟨_, _, _, _, -, -, -, -, h5⟩ := hp
          exact hS0.trans (h5.mono fun z _ h => h)
        simp only [Act.put, List.setIfInBounds_toArray, List.set_cons_zero, List.set_cons_succ]
        refine wpAnyH_done (by kernel_rfl) ?_ _
        refine ⟨rfl, ?_⟩
        have HX := Lib.hid (And.intro h1 (And.intro h2 (And.intro h3 h4)))
        clear h1 h2 h3 h4 hp
        go_wp2
        refine bodyPost_ret (results_none rfl _ _ _) rfl (HEND.out _ _ own4 F4 VW4 ([r] ++ [dfn c a]) (by rw [hl1.out, if_pos HIN.out]) (fun b hb => (HX.out.1 b (Nat.lt_of_lt_of_le hb HC9.out.size)).trans (HO8.out b hb)) (fun i hi => (HX.out.2.1 i hi).trans (HF8.out i hi)) (by rw [puts_end]; exact HX.out.2.2.1) (HC9.out.fresh HX.out.2.2.2 fun b hb h => by
          unfold TS at h ⊢
          rw [HO8.out b hb] at h
          exact h))
      · have hcb : (nds c a).contains r = false := by simpa using hin
        rw [hcb] at HCON
        have HIN := Lib.hid hin
        clear hin hcb
        go_wp2_with (go_at_call 63; (with_reducible refine (HCON.out).mono ?_); rintro e3 w3 ⟨rfl, hw3⟩; rw [hw3]; clear hw3 w3)
        refine bodyPost_ret (results_none rfl _ _ _) rfl (HEND.out _ _ own2 F2 VW2 [r] (by rw [hl1.out, if_neg HIN.out]; simp) HO8.out HF8.out HA8.out HC8.out)
    · have hl1 : Hid (comeL c tg M a r (boK x true) = [] ++ if r ∈ nds c a then [dfn c a] else []) := Lib.hid (by rw [HL.out, if_neg (fun h => ht h.2)])
      have ht : tg a = false := by simpa using ht
      rw [ht] at u1
      clear ht
      have HCON : Hid (Calls Tryd.prog 63 #[.slice pn (nds c a).length kn, .int .i64 r] V1 fun e w' => e = .returned (.bool ((nds c a).contains r)) ∧ w' = V1) := Lib.hid (contains_c (HVN6.out.ch HCV.out fun ad e => HNO.out ad e) hndl)
      by_cases hin : r ∈ nds c a
      · have hcb : (nds c a).contains r = true := by simpa using hin
        rw [hcb] at HCON
        have HIN := Lib.hid hin
        clear hin hcb
        have hg2l := HA6.out.fv.lt
        go_upto_region 9 with (go_at_call 63; (with_reducible refine (HCON.out).mono ?_); rintro e3 w3 ⟨rfl, hw3⟩; rw [hw3]; clear hw3 w3)
        have HC9 : Hid (Ch (TS own1) V1 V1.drew) := Lib.hid (HCV.out.stepB (below_drew1 _))
        have HA9 : Hid (TA B own1 V1.drew g kb lb n rw F KV LV VW Mn Lf Ld (puts a ([] : List Int) (PW, RW)).1 (puts a ([] : List Int) (PW, RW)).2) := Lib.hid (HA6.out.ch (S := fun _ => False) (Ch.of (below_drew1 _)) (fun _ _ => rfl) fun _ _ h => h)
        have HPB : Hid (Calls Tryd.prog 20 #[.pointer (some ⟨g, 6, none⟩), .int .i64 a, .int .i64 (dfn c a)] V1.drew (PutP B own1 V1.drew g 6 n rw F VW (puts a ([] : List Int) (PW, RW)).1 (puts a ([] : List Int) (PW, RW)).2 a (dfn c a))) := Lib.hid (put_c (Lib.hid HA9.out.fv) HA9.out.f7 (by omega) (Lib.hid HA9.out.qw) HA9.out.og ha hn (Nat.le_trans HB7.out HC9.out.size) (by have := puts_len a ([] : List Int) (PW, RW); simp only [List.length_cons, List.length_nil] at this; omega) (by have := puts_len a ([] : List Int) (PW, RW); simp only [List.length_cons, List.length_nil] at this; omega))
        have u3 := (HCV.out.cell (b := m5) bm HNM.out).trans u3
        have bm2 := Nat.lt_of_lt_of_le bm HCV.out.size
        have hnq : ¬ QS own1 g 6 m5 := fun h => HNM.out (by
          have h := QS.ts HA6.out.og h
          unfold TS at h ⊢
          rw [HO0 m5 bm] at h
          exact h)
        refine region_held1 (fun w' => Ch (QS own1 g 6) V1 w') (by kernel_rfl) ?_
        show wpAnyH _ _ _ _ _ 7 _ _ _
        have hS0 : Ch (QS own1 g 6) V1 V1.drew := Ch.of (below_drew1 _)
        refine takeH (i := 0) (v := .pointer (some ⟨g, 0, none⟩)) (some 91) rfl rfl (by kernel_rfl) (by kernel_rfl) (by kernel_rfl) (Or.inl ⟨by rfl, ?_⟩) hS0 ?_
        · intro y1 hS1
          go_simp
        simp only [Act.put, List.setIfInBounds_toArray, List.set_cons_zero, List.set_cons_succ]
        refine takeH (i := 1) (v := .pointer (some ⟨g, 0, none⟩)) (some 92) rfl rfl (by kernel_rfl) (by kernel_rfl) (by kernel_rfl) (Or.inl ⟨by rfl, ?_⟩) hS0 ?_
        · intro y1 hS1
          go_simp
        simp only [Act.put, List.setIfInBounds_toArray, List.set_cons_zero, List.set_cons_succ]
        refine takeH (i := 2) (v := .pointer (some ⟨g, 5 + 1, none⟩)) (some 93) rfl rfl (by kernel_rfl) (by kernel_rfl) (by kernel_rfl) (Or.inl ⟨by rfl, ?_⟩) hS0 ?_
        · intro y1 hS1
          go_simp
        simp only [Act.put, List.setIfInBounds_toArray, List.set_cons_zero, List.set_cons_succ]
        refine takeH (i := 3) (v := .int .i64 (a : Int)) (some 94) rfl rfl (by kernel_rfl) (by kernel_rfl) (by kernel_rfl) (Or.inl ⟨by rfl, ?_⟩) hS0 ?_
        · intro y1 hS1
          go_simp
        simp only [Act.put, List.setIfInBounds_toArray, List.set_cons_zero, List.set_cons_succ]
        refine takeH (i := 4) (v := .pointer (some ⟨m5, 3, none⟩)) (some 95) rfl rfl (by kernel_rfl) (by kernel_rfl) (by kernel_rfl) (Or.inl ⟨by rfl, ?_⟩) hS0 ?_
        · intro y1 hS1
          go_simp
        simp only [Act.put, List.setIfInBounds_toArray, List.set_cons_zero, List.set_cons_succ]
        refine takeH (i := 5) (v := .int .i64 (dfn c a)) (some 96) rfl rfl (by kernel_rfl) (by kernel_rfl) (by kernel_rfl) (Or.inl ⟨by rfl, ?_⟩) hS0 ?_
        · intro y1 hS1
          have u3 := (hS1.cell (b := m5) bm2 hnq).trans u3
          go_simp
        simp only [Act.put, List.setIfInBounds_toArray, List.set_cons_zero, List.set_cons_succ]
        refine wpAnyH_all (rs := [6]) (by kernel_rfl) (by simp) ?_
        intro i6 hi6
        obtain rfl : i6 = 6 := by simpa using hi6
        refine wpOp_call (some 97) rfl rfl (by rfl) (f := 20) (args := #[.pointer (some ⟨g, 6, none⟩), .int .i64 a, .int .i64 (dfn c a)]) (by go_simp) HPB.out ?_
        intro e4 w4 hp
        obtain ⟨v4, own4, F4, VW4, rfl, h1, h2, h3, h4⟩ := HA9.out.putW hp
        refine ⟨_, rfl, ?_, ?_⟩
        · obtain ⟨_, _, _, _, -, -, -, -, h5⟩ := hp
          exact hS0.trans (h5.mono fun z _ h => h)
        simp only [Act.put, List.setIfInBounds_toArray, List.set_cons_zero, List.set_cons_succ]
        refine wpAnyH_done (by kernel_rfl) ?_ _
        refine ⟨rfl, ?_⟩
        have HX := Lib.hid (And.intro h1 (And.intro h2 (And.intro h3 h4)))
        clear h1 h2 h3 h4 hp
        go_wp2
        refine bodyPost_ret (results_none rfl _ _ _) rfl (HEND.out _ _ own4 F4 VW4 (([] : List Int) ++ [dfn c a]) (by rw [hl1.out, if_pos HIN.out]) (fun b hb => (HX.out.1 b (Nat.lt_of_lt_of_le hb HC9.out.size)).trans (HO0 b hb)) (fun i hi => (HX.out.2.1 i hi).trans (HF0 i hi)) (by rw [puts_end]; exact HX.out.2.2.1) (HC9.out.fresh HX.out.2.2.2 fun b hb h => by
          unfold TS at h ⊢
          rw [HO0 b hb] at h
          exact h))
      · have hcb : (nds c a).contains r = false := by simpa using hin
        rw [hcb] at HCON
        have HIN := Lib.hid hin
        clear hin hcb
        go_wp2_with (go_at_call 63; (with_reducible refine (HCON.out).mono ?_); rintro e3 w3 ⟨rfl, hw3⟩; rw [hw3]; clear hw3 w3)
        refine bodyPost_ret (results_none rfl _ _ _) rfl (HEND.out _ _ own1 F VW ([] : List Int) (by rw [hl1.out, if_neg HIN.out]; simp) HO0 HF0 HA6.out HCV.out)
end Go.Proofs.YtgdhgipofaaogaaDoor
namespace Go.Proofs.YtgdhgipofaaogaaDoor
open Go Go.RowKit Gm Go.ChangeMaps

theorem come_no {B : Nat} {own : Nat → Ob} {W X : World} {g kb lb n rw a : Nat} {F KV LV VW : Nat → Value} {M : Km} {Lf : Nat → KF} {Ld : Nat → Int → List Nat} {PW : List Nat} {RW : Nat → List Int} {r : Int} {b : Option Int} {c : List Ic} {tg : Nat → Bool} {v : Value} (hA : TA B own W g kb lb n rw F KV LV VW M Lf Ld PW RW) (hm : comeM M a r b = M) (hn : newM M a r b = false) (hc : Ch (fun _ => False) W X) : ComeP B own W g kb lb n rw F KV LV M Lf Ld PW RW c tg a r b (.returned v) X := by
  refine ⟨v, own, F, VW, rfl, fun _ _ => rfl, fun _ _ => rfl, ?_, hc.mono fun _ _ h => h.elim⟩
  rw [hm, comeL_old hn]
  exact hA.ch hc (fun _ _ => rfl) fun _ _ h => h
set_option maxRecDepth 100000 in
set_option maxHeartbeats 4000000 in
theorem come_none {B : Nat} {own : Nat → Ob} {W : World} {g kb lb sb n rw a : Nat} {F KV LV VW : Nat → Value} {M : Km} {Lf : Nat → KF} {Ld : Nat → Int → List Nat} {PW : List Nat} {RW : Nat → List Int} {r : Int} {L : List Int} {c : List Ic} {rc tg : Nat → Bool} {fr : Nat → List Nat} (hA : Hid (TA B own W g kb lb n rw F KV LV VW M Lf Ld PW RW)) (hF1 : F 1 = .slice (some ⟨sb, 0, none⟩) n n) (hM : Hid (StO own W sb n c rc tg fr)) (hra : rc a = true) (ha : a < n) (hn : n ≤ 5000) (hr : In6 r) (hB : B ≤ W.heap.size) (hPW : PW.length ≤ 500000) (hRW : (RW a).length ≤ 500000) (hLk : Hid (∀ s, M a s ≠ none → s ∈ L)) (hLl : L.length ≤ 1000000) (hndl : (nds c a).length ≤ 1000) (x : Int) (hMr : M a r = none) (is : Bool) : Calls Tryd.prog 45 #[.pointer (some ⟨g, 0, none⟩), .int .i64 a, .int .i64 r, .int .i64 x, .bool is] W (ComeP B own W g kb lb n rw F KV LV M Lf Ld PW RW c tg a r (boK x is)) := by
  have hF := Lib.hid hA.out.fv
  have hg0 := hF.out.lt
  have c2 := hF.out.cell (i := 2) (by omega)
  rw [hA.out.f2] at c2
  have hkb := hA.out.km.fv.lt
  have ck := hA.out.km.fv.cell ha
  have hlk := hA.out.km.look2 ha hr
  have hk2 : kmv M a r = (0, false) := by unfold kmv; rw [hMr]; rfl
  rw [hMr, hk2] at hlk
  simp only [Option.isSome] at hlk
  obtain ⟨v, hv⟩ : ∃ v, KV a = v := ⟨_, rfl⟩
  rw [hv] at ck hlk
  have HEND : Hid (∀ (v : Value) (X : World), Ch (fun _ => False) W X → ComeP B own W g kb lb n rw F KV LV M Lf Ld PW RW c tg a r (boK x is) (.returned v) X) := Lib.hid fun v X hX => come_no hA.out (by unfold comeM; simp [hMr, boK]) (by unfold newM; simp [hMr, boK]) hX
  clear hv hk2 hMr
  go_enter Tryd.func45, Tryd.ntmps45
  go_wp2
  exact bodyPost_ret (results_none rfl _ _ _) rfl (HEND.out _ _ ((Ch.refl (fun _ => False) W).alloc _))
set_option maxRecDepth 100000 in
set_option maxHeartbeats 4000000 in
theorem come_same {B : Nat} {own : Nat → Ob} {W : World} {g kb lb sb n rw a : Nat} {F KV LV VW : Nat → Value} {M : Km} {Lf : Nat → KF} {Ld : Nat → Int → List Nat} {PW : List Nat} {RW : Nat → List Int} {r : Int} {L : List Int} {c : List Ic} {rc tg : Nat → Bool} {fr : Nat → List Nat} (hA : Hid (TA B own W g kb lb n rw F KV LV VW M Lf Ld PW RW)) (hF1 : F 1 = .slice (some ⟨sb, 0, none⟩) n n) (hM : Hid (StO own W sb n c rc tg fr)) (hra : rc a = true) (ha : a < n) (hn : n ≤ 5000) (hr : In6 r) (hB : B ≤ W.heap.size) (hPW : PW.length ≤ 500000) (hRW : (RW a).length ≤ 500000) (hLk : Hid (∀ s, M a s ≠ none → s ∈ L)) (hLl : L.length ≤ 1000000) (hndl : (nds c a).length ≤ 1000) (x : Int) (hMr : M a r = some (x, true)) : Calls Tryd.prog 45 #[.pointer (some ⟨g, 0, none⟩), .int .i64 a, .int .i64 r, .int .i64 x, .bool true] W (ComeP B own W g kb lb n rw F KV LV M Lf Ld PW RW c tg a r (boK x true)) := by
  have hF := Lib.hid hA.out.fv
  have hg0 := hF.out.lt
  have c2 := hF.out.cell (i := 2) (by omega)
  rw [hA.out.f2] at c2
  have hkb := hA.out.km.fv.lt
  have ck := hA.out.km.fv.cell ha
  have hlk := hA.out.km.look2 ha hr
  have hk2 : kmv M a r = (x, true) := by unfold kmv; rw [hMr]; rfl
  rw [hMr, hk2] at hlk
  simp only [Option.isSome] at hlk
  obtain ⟨v, hv⟩ : ∃ v, KV a = v := ⟨_, rfl⟩
  rw [hv] at ck hlk
  have HEND : Hid (∀ (v : Value) (X : World), Ch (fun _ => False) W X → ComeP B own W g kb lb n rw F KV LV M Lf Ld PW RW c tg a r (boK x true) (.returned v) X) := Lib.hid fun v X hX => come_no hA.out (by unfold comeM; simp [hMr, boK]) (by unfold newM; simp [hMr, boK]) hX
  clear hv hk2 hMr
  go_enter Tryd.func45, Tryd.ntmps45
  go_wp2
  exact bodyPost_ret (results_none rfl _ _ _) rfl (HEND.out _ _ ((Ch.refl (fun _ => False) W).alloc _))
theorem come_c {B : Nat} {own : Nat → Ob} {W : World} {g kb lb sb n rw a : Nat} {F KV LV VW : Nat → Value} {M : Km} {Lf : Nat → KF} {Ld : Nat → Int → List Nat} {PW : List Nat} {RW : Nat → List Int} {r : Int} {L : List Int} {c : List Ic} {rc tg : Nat → Bool} {fr : Nat → List Nat} (hA : Hid (TA B own W g kb lb n rw F KV LV VW M Lf Ld PW RW)) (hF1 : F 1 = .slice (some ⟨sb, 0, none⟩) n n) (hM : Hid (StO own W sb n c rc tg fr)) (hra : rc a = true) (ha : a < n) (hn : n ≤ 5000) (hr : In6 r) (hB : B ≤ W.heap.size) (hPW : PW.length ≤ 500000) (hRW : (RW a).length ≤ 500000) (hLk : Hid (∀ s, M a s ≠ none → s ∈ L)) (hLl : L.length ≤ 1000000) (hndl : (nds c a).length ≤ 1000) (x : Int) (is : Bool) : Calls Tryd.prog 45 #[.pointer (some ⟨g, 0, none⟩), .int .i64 a, .int .i64 r, .int .i64 x, .bool is] W (ComeP B own W g kb lb n rw F KV LV M Lf Ld PW RW c tg a r (boK x is)) := by
  cases hMr : M a r with
  | none => exact come_none hA hF1 hM hra ha hn hr hB hPW hRW hLk hLl hndl x hMr is
  | some v =>
    obtain ⟨k, t⟩ := v
    cases t with
    | false =>
      cases is with
      | false => exact come_ff hA hF1 hM hra ha hn hr hB hPW hRW hLk hLl hndl x hMr
      | true => exact come_ft hA hF1 hM hra ha hn hr hB hPW hRW hLk hLl hndl x hMr
    | true =>
      cases is with
      | false => exact come_tf hA hF1 hM hra ha hn hr hB hPW hRW hLk hLl hndl x hMr
      | true =>
        by_cases e : x = k
        · subst e; exact come_same hA hF1 hM hra ha hn hr hB hPW hRW hLk hLl hndl x hMr
        · exact come_tt hA hF1 hM hra ha hn hr hB hPW hRW hLk hLl hndl x hMr e
end Go.Proofs.YtgdhgipofaaogaaDoor
namespace Go.Proofs.YtgdhgipofaaogaaDoor
open Go Go.RowKit Gm Go.ChangeMaps

/-- The least number of which something holds. -/
theorem least_ex {P : Nat → Prop} : ∀ {n}, P n → ∃ m, P m ∧ ∀ k, P k → m ≤ k := by
  intro n
  induction n using Nat.strongRecOn with
  | _ n ih =>
    intro h
    by_cases hx : ∃ k, k < n ∧ P k
    · obtain ⟨k, hk, hP⟩ := hx
      exact ih k hk hP
    · exact ⟨n, h, fun k hk => Nat.le_of_not_lt fun hlt => hx ⟨k, hlt, hk⟩⟩
open Classical in
noncomputable def leastN (P : Nat → Prop) : Nat := if h : ∃ m, P m ∧ ∀ k, P k → m ≤ k then h.choose else 0
theorem leastN_spec {P : Nat → Prop} {n : Nat} (h : P n) : P (leastN P) ∧ ∀ k, P k → leastN P ≤ k := by
  have hx : ∃ m, P m ∧ ∀ k, P k → m ≤ k := least_ex h
  unfold leastN
  rw [dif_pos hx]
  exact hx.choose_spec
section
variable {B : Nat} {own own' own2 : Nat → Ob} {W X Y : World} {g kb lb sb n rw a K : Nat} {F F' KV LV VW VW' : Nat → Value} {M M' : Km} {Lf : Nat → KF} {Ld : Nat → Int → List Nat} {PW PW' : List Nat} {RW RW' : Nat → List Int} {S : Nat → Prop} {r : Int} {e : Ending} {c : List Ic} {rc tg : Nat → Bool} {fr : Nat → List Nat} {L : List Int} {Q : Nat → Int → Prop}
theorem StO.ch2 (h : StO own W sb n c rc tg fr) (hc : Ch S W X) (ho : ∀ b, b < W.heap.size → own b = .no → own' b = .no) (hS : ∀ b, own b = .no → ¬ S b) : StO own' X sb n c rc tg fr := by
  have h1 := h.ch hc (fun _ _ => rfl) hS
  refine ⟨h1.st, ho _ h.st.sl h.os, fun i p k cap e => ?_⟩
  rw [hc.cell h.st.sl (hS _ h.os)] at e
  obtain ⟨e1, e2⟩ := h.of i p k cap e
  exact ⟨ho _ e2 e1, Nat.lt_of_lt_of_le e2 hc.size⟩
theorem LMm.ch2 (h : LMm B own W lb n LV Lf Ld) (hc : Ch S W X) (ho : ∀ b, b < W.heap.size → own b = .lb ∨ (∃ i, own b = .lm i) ∨ (∃ i r, own b = .lr i r) → own' b = own b) (hS : ∀ b, own b = .lb ∨ (∃ i, own b = .lm i) ∨ (∃ i r, own b = .lr i r) → ¬ S b) : LMm B own' X lb n LV Lf Ld where
  olb := by rw [ho _ h.fv.lt (.inl h.olb)]; exact h.olb
  fv := h.fv.ch hc (hS _ (.inl h.olb))
  mp := fun i hi => by
    rcases h.mp i hi with h1 | ⟨m, cnt, h1, h2, h3⟩
    · exact .inl h1
    · exact .inr ⟨m, cnt, h1, by rw [ho _ h3.lt (.inr (.inl ⟨i, h2⟩))]; exact h2, h3.same (hc.block m h3.lt (hS _ (.inr (.inl ⟨i, h2⟩))))⟩
  sr := fun i r hi => (h.sr i r hi).ch hc (fun b hb e => ho b hb (.inr (.inr ⟨i, r, e⟩))) fun b e => hS b (.inr (.inr ⟨i, r, e⟩))
/-- The telling under way. -/
structure TR (B : Nat) (own : Nat → Ob) (W : World) (g kb lb sb n rw : Nat) (F KV LV : Nat → Value) (Lf : Nat → KF) (Ld : Nat → Int → List Nat) (L : List Int) (K : Nat) (c : List Ic) (rc tg : Nat → Bool) (fr : Nat → List Nat) (Q : Nat → Int → Prop) (Ex : Nat → Int → Nat → Prop) (own' : Nat → Ob) (F' VW' : Nat → Value) (M' : Km) (PW' : List Nat) (RW' : Nat → List Int) (X : World) : Prop where
  ow : ∀ b, b < W.heap.size → own' b = own b ∨ own' b = .no
  fe : ∀ i, i ≠ 6 → F' i = F i
  ta : TA B own' X g kb lb n rw F' KV LV VW' M' Lf Ld PW' RW'
  st : StO own' X sb n c rc tg fr
  tl : TL c fr tg Q Ld L n K M' PW' RW' Ex
  ch : Ch (TS own) W X
theorem TS.no (h : own a = .no) : ¬ TS own a := fun k => by
  unfold TS at k
  rw [h] at k
  rcases k with k | ⟨_, k⟩ | k | k | ⟨_, k⟩ <;> cases k
theorem TS.old (ho : ∀ b, b < W.heap.size → own' b = own b ∨ own' b = .no) (ha : a < W.heap.size) (h : TS own' a) : TS own a := by
  rcases ho a ha with e | e
  · unfold TS at h ⊢; rw [e] at h; exact h
  · exact absurd h (TS.no e)
variable {Ex Ey : Nat → Int → Nat → Prop}
/-- Memory that is nobody's is made. -/
theorem TR.mem (h : TR B own W g kb lb sb n rw F KV LV Lf Ld L K c rc tg fr Q Ex own' F' VW' M' PW' RW' X) (hc : Ch (fun _ => False) X Y) (ho : ∀ b, b < X.heap.size → own2 b = own' b) : TR B own W g kb lb sb n rw F KV LV Lf Ld L K c rc tg fr Q Ex own2 F' VW' M' PW' RW' Y where
  ow := fun b hb => by rw [ho b (Nat.lt_of_lt_of_le hb h.ch.size)]; exact h.ow b hb
  fe := h.fe
  ta := h.ta.ch hc ho fun _ _ => id
  st := h.st.ch hc ho fun _ _ => id
  tl := h.tl
  ch := h.ch.trans (hc.mono fun _ _ k => k.elim)
theorem TR.to (h : TR B own W g kb lb sb n rw F KV LV Lf Ld L K c rc tg fr Q Ex own' F' VW' M' PW' RW' X) (k : TL c fr tg Q Ld L n K M' PW' RW' Ey) : TR B own W g kb lb sb n rw F KV LV Lf Ld L K c rc tg fr Q Ey own' F' VW' M' PW' RW' X := ⟨h.ow, h.fe, h.ta, h.st, k, h.ch⟩
/-- The first place is taken. -/
theorem TR.next {P : List Nat} (h : TR B own W g kb lb sb n rw F KV LV Lf Ld L K c rc tg fr Q (fun _ _ _ => False) own' F' VW' M' (a :: P) RW' X) (hn : NextP B own' X g 6 n rw F' VW' a P RW' e Y) :
    ∃ (pa : Option Addr) (ka : Nat) (vP : Value) (own2 : Nat → Ob), e = .returned (.tuple #[.int .i64 (a : Int), .slice pa (RW' a).length ka]) ∧ SR B Y (.slice pa (RW' a).length ka) (RW' a) ∧ (∀ z, (Value.slice pa (RW' a).length ka).ownBlock = some z → own2 z = .no) ∧
      TR B own W g kb lb sb n rw F KV LV Lf Ld L K c rc tg fr Q (fun s r _ => s = a ∧ r ∈ RW' a) own2 (upd F' 6 vP) (upd VW' a (.slice none 0 0)) M' P (fun i => if i = a then [] else RW' i) Y := by
  obtain ⟨pa, ka, vP, own2, rfl, ho, hz, hsr, hfv, hq, hc⟩ := hn
  have hkeep : ∀ b t, own' b = t → t ≠ .q 6 a → own2 b = t := fun b t h1 h2 => by
    rcases ho b with e | ⟨e, -⟩
    · rw [e, h1]
    · exact absurd (h1.symm.trans e) h2
  have hno : ∀ b, own' b = .no → own2 b = .no := fun b hb => hkeep b _ hb (by simp)
  have hS : ∀ b t, own' b = t → t ≠ .f → t ≠ .qr 6 → ¬ (b = g ∨ b = rw) := fun b t h1 h2 h3 k => by
    rcases k with k | k
    · exact h2 (by rw [← h1, k]; exact h.ta.og)
    · exact h3 (by rw [← h1, k]; exact h.ta.qw.orb)
  refine ⟨pa, ka, vP, own2, rfl, hsr, hz, ⟨fun b hb => ?_, fun i hi => ?_, ⟨hkeep g _ h.ta.og (by simp), hfv, by rw [upd_of (by omega)]; exact h.ta.f2, by rw [upd_of (by omega)]; exact h.ta.f3, by rw [upd_of (by omega)]; exact h.ta.f7, ?_, ?_, by rw [upd_at]; exact hq⟩, h.st.ch2 hc (fun b _ => hno b) (fun b hb => hS b _ hb (by simp) (by simp)), h.tl.next, ?_⟩⟩
  · rcases ho b with e | ⟨-, e⟩
    · rw [e]; exact h.ow b hb
    · exact .inr e
  · rw [upd_of hi]; exact h.fe i hi
  · exact h.ta.km.ch hc (fun b _ hb => by rcases hb with e | ⟨i, e⟩ <;> (rw [e]; exact hkeep b _ e (by simp))) fun b hb => by rcases hb with e | ⟨i, e⟩ <;> exact hS b _ e (by simp) (by simp)
  · exact h.ta.lm.ch2 hc (fun b _ hb => by rcases hb with e | ⟨i, e⟩ | ⟨i, r, e⟩ <;> (rw [e]; exact hkeep b _ e (by simp))) fun b hb => by rcases hb with e | ⟨i, e⟩ | ⟨i, r, e⟩ <;> exact hS b _ e (by simp) (by simp)
  · refine Ch.fresh h.ch hc fun b hb k => ?_
    refine TS.old h.ow hb ?_
    rcases k with rfl | rfl
    · exact .inl h.ta.og
    · exact .inr (.inr (.inl h.ta.qw.orb))
/-- One way tells. -/
theorem TR.come {E : Nat → Int → Prop} {s p : Nat} {b : Option Int} {rest : List Nat} (h : TR B own W g kb lb sb n rw F KV LV Lf Ld L K c rc tg fr Q (fun a t p' => E a t ∨ (a = s ∧ t = r ∧ p' ∈ p :: rest)) own' F' VW' M' PW' RW' X) (hn : ComeP B own' X g kb lb n rw F' KV LV M' Lf Ld PW' RW' c tg p r b e Y)
    (hk : Okc c) (hd6 : ∀ a, In6 (dfn c a)) (hr6 : In6 r) (hp : p < n) (hrp : Rc c p) (hpl : p ∈ Ld s r) (hU : ∀ G, Cons c G → ∀ m, G p r = some m → b = some m) (hs : (r ∈ RW' s ∨ E s r) ∨ bX c M' s r = b) (hE : ∀ a t, E a t → dfn c a = t ∨ ¬ unt M' a t) (hsr : dfn c s = r ∨ ¬ unt M' s r) :
    ∃ (v : Value) (own2 : Nat → Ob) (F2 VW2 : Nat → Value) (PW2 : List Nat) (RW2 : Nat → List Int), e = .returned v ∧ (∀ b, b < X.heap.size → own2 b = own' b) ∧ Ch (TS own') X Y ∧
      TR B own W g kb lb sb n rw F KV LV Lf Ld L K c rc tg fr Q (fun a t p' => E a t ∨ (a = s ∧ t = r ∧ p' ∈ rest)) own2 F2 VW2 (comeM M' p r b) PW2 RW2 Y ∧
      ((r ∈ RW2 s ∨ E s r) ∨ bX c (comeM M' p r b) s r = b) ∧ 2 * wsum n L (comeM M' p r b) + PW2.length ≤ 2 * wsum n L M' + PW'.length := by
  obtain ⟨v, own2, F2, VW2, rfl, ho, hf, hta, hc⟩ := hn
  obtain ⟨t1, t2, t3, -⟩ := TL.come hk hd6 hr6 hp hrp h.tl hpl hU hs hE hsr
  refine ⟨v, own2, F2, VW2, _, _, rfl, ho, hc, ⟨fun b hb => ?_, fun i hi => (hf i hi).trans (h.fe i hi), hta, h.st.ch2 hc (fun b hb e => by rw [ho b hb]; exact e) (fun b e => TS.no e), t1, Ch.fresh h.ch hc fun b hb k => TS.old h.ow hb k⟩, t2, t3⟩
  rw [ho b (Nat.lt_of_lt_of_le hb h.ch.size)]
  exact h.ow b hb
/-- What a round of the telling has of its place: the registers, the step's variable, the needs. -/
structure RSt (B : Nat) (own' : Nat → Ob) (X : World) (v : Value) (l : List Int) (m5 : Nat) (v1 v2 : Value) (d : Int) (pn : Option Addr) (kn : Nat) (N : List Int) : Prop where
  sr : SR B X v l
  so : ∀ z, v.ownBlock = some z → own' z = .no
  sb : Sb5 X m5 (.bool true) v1 v2 (.int .i64 d) (.slice pn N.length kn)
  o5 : own' m5 = .no
  rn : RV X pn N.length (iv fun j => N.getD j 0)
  on : ∀ ad, pn = some ad → own' ad.block = .no ∧ ad.block < X.heap.size
theorem RSt.ch {v : Value} {l : List Int} {m5 : Nat} {v1 v2 : Value} {d : Int} {pn : Option Addr} {kn : Nat} {N : List Int} (h : RSt B own' X v l m5 v1 v2 d pn kn N) (hc : Ch S X Y) (ho : ∀ b, b < X.heap.size → own2 b = own' b) (hS : ∀ b, own' b = .no → ¬ S b) : RSt B own2 Y v l m5 v1 v2 d pn kn N where
  sr := h.sr.ch hc fun z e => hS z (h.so z e)
  so := fun z e => by rw [ho z (h.sr.lt z e).2]; exact h.so z e
  sb := (hc.block m5 h.sb.facts.1 (hS _ h.o5)).trans h.sb
  o5 := by rw [ho _ h.sb.facts.1]; exact h.o5
  rn := h.rn.ch hc fun ad e => hS _ (h.on ad e).1
  on := fun ad e => by obtain ⟨e1, e2⟩ := h.on ad e; exact ⟨by rw [ho _ e2]; exact e1, Nat.lt_of_lt_of_le e2 hc.size⟩
end
end Go.Proofs.YtgdhgipofaaogaaDoor
namespace Go.Proofs.YtgdhgipofaaogaaDoor
open Gm

theorem srt_len3 (a b c : Int) : (srt [a, b, c]).length ≤ 3 := srt_len [a, b, c]
theorem nds_len (c : List Ic) (q : Nat) : (nds c q).length ≤ 3 := by
  unfold nds
  cases c[q]? with
  | none => exact Nat.zero_le _
  | some x =>
    simp only
    split
    · unfold usesM
      split
      · unfold pos
        exact Nat.le_trans (List.length_filter_le _ _) (srt_len3 _ _ _)
      · exact Nat.zero_le _
    · exact Nat.zero_le _
def nonQ (n : Nat) (L : List Int) (M : Km) : Nat := sumP (fun p => sumL (fun r => if (M p r).isNone = true then 1 else 0) L) n
theorem nonQ_open {n a : Nat} {L : List Int} {M : Km} {x : Int} {v : Int × Bool} (ha : a < n) (hx : x ∈ L) (hn : M a x = none) : nonQ n L (setM M a x (some v)) < nonQ n L M := by
  have key : ∀ p r, (if (setM M a x (some v) p r).isNone = true then 1 else 0) ≤ (if (M p r).isNone = true then 1 else 0) := fun p r => by
    by_cases e : p = a ∧ r = x
    · obtain ⟨rfl, rfl⟩ := e
      rw [setM_at]
      simp
    · rw [setM_of e]; exact Nat.le_refl _
  refine sumP_lt (fun p => sumL_le (key p) L) (s := a) (sumL_lt (key a) (s := x) ?_ hx) ha
  rw [setM_at, hn]
  simp
def cntE (L : List Int) (Ld : Nat → Int → List Nat) (a : Nat) : Nat := sumL (fun r => if (Ld a r).isEmpty = true then 1 else 0) L
theorem cntE_put {L : List Int} {Ld : Nat → Int → List Nat} {s q : Nat} {x : Int} (a : Nat) : cntE L (putL Ld s x q) a ≤ cntE L Ld a ∧ (x ∈ L → Ld s x = [] → cntE L (putL Ld s x q) s < cntE L Ld s) := by
  have key : ∀ a r, (if (putL Ld s x q a r).isEmpty = true then 1 else 0) ≤ (if (Ld a r).isEmpty = true then 1 else 0) := fun a r => by
    unfold putL
    by_cases e : a = s ∧ r = x
    · rw [if_pos e]; simp
    · rw [if_neg e]; exact Nat.le_refl _
  refine ⟨sumL_le (key a) L, fun hx hn => sumL_lt (key s) (s := x) ?_ hx⟩
  have e1 : putL Ld s x q s x = Ld s x ++ [q] := if_pos ⟨rfl, rfl⟩
  rw [e1, hn]
  simp
def notQ (n : Nat) (fr : Nat → List Nat) (M : Km) (r : Int) : Nat := sumP (fun p => if (M p r).isNone = true then (fr p).length else 0) n
theorem sumP_upd {f g : Nat → Nat} {a : Nat} (h : ∀ p, p ≠ a → g p = f p) : ∀ {n}, a < n → sumP g n + f a = sumP f n + g a
  | n + 1, ha => by
    show sumP g n + g n + f a = sumP f n + f n + g a
    by_cases e : a = n
    · subst e
      have : ∀ k, k ≤ a → sumP g k = sumP f k := by
        intro k
        induction k with
        | zero => intro _; rfl
        | succ k ih =>
          intro hk
          show sumP g k + g k = sumP f k + f k
          rw [ih (by omega), h k (by omega)]
      rw [this a (Nat.le_refl _)]
      omega
    · have := sumP_upd h (n := n) (by omega)
      rw [h n (fun e2 => e e2.symm)]
      omega
theorem notQ_open {n a : Nat} {fr : Nat → List Nat} {M : Km} {x : Int} {v : Int × Bool} (ha : a < n) (hn : M a x = none) (r : Int) : notQ n fr (setM M a x (some v)) r + (if r = x then (fr a).length else 0) = notQ n fr M r := by
  by_cases e : r = x
  · subst e
    have := sumP_upd (f := fun p => if (M p r).isNone = true then (fr p).length else 0) (g := fun p => if (setM M a r (some v) p r).isNone = true then (fr p).length else 0) (a := a) (fun p hp => by rw [setM_of fun h => hp h.1]) ha
    have e1 : (if (setM M a r (some v) a r).isNone = true then (fr a).length else 0) = 0 := by rw [setM_at]; rfl
    have e2 : (if (M a r).isNone = true then (fr a).length else 0) = (fr a).length := by rw [hn]; rfl
    rw [e1, e2] at this
    unfold notQ
    rw [if_pos rfl]
    exact this
  · rw [if_neg e]
    unfold notQ
    have : (fun p => if (setM M a x (some v) p r).isNone = true then (fr p).length else 0) = fun p => if (M p r).isNone = true then (fr p).length else 0 := by
      funext p
      rw [setM_of fun h => e h.2]
    rw [this]
    rfl
/-- What holds while it is asked: Ex is asked for besides; Ho: where it is still to be led. -/
structure AL (c : List Ic) (fr : Nat → List Nat) (tg : Nat → Bool) (L : List Int) (n KA KW KL : Nat) (Q0 : Nat → Int → Prop) (M : Km) (Ld : Nat → Int → List Nat) (PA : List Nat) (RA : Nat → List Int) (PW : List Nat) (RW : Nat → List Int) (Ex : Nat → Int → Prop) (Ho : Nat → Int → Nat → Prop) (Sl : Int → Nat) : Prop where
  m0 : ∀ p r v, M p r = some v → v = (0, false) ∧ p ≠ 0 ∧ p < n ∧ r ∈ L
  ar : ∀ p r, r ∈ RA p ∨ Ex p r → r ∈ L
  ld : ∀ p r q s, M p r ≠ none → q ∈ fr p → Src c fr tg r q s → p ∈ Ld s r ∨ Ho p r q
  lq : ∀ s r p, p ∈ Ld s r → M p r ≠ none ∧ ∃ q, q ∈ fr p ∧ Src c fr tg r q s
  cl : ∀ s r, Ld s r ≠ [] → ((s = 0 ∨ (dfn c s = r ∧ nds c s = [])) ∧ r ∈ RW s) ∨ (s ≠ 0 ∧ dfn c s = r ∧ nds c s ≠ [] ∧ ∀ nd, nd ∈ nds c s → M s nd ≠ none ∨ nd ∈ RA s ∨ Ex s nd) ∨ (s ≠ 0 ∧ dfn c s ≠ r ∧ (M s r ≠ none ∨ r ∈ RA s ∨ Ex s r))
  qa : QI n PA RA
  qw : QI n PW RW
  wr : ∀ s r, r ∈ RW s → r ∈ L ∧ Rc c s ∧ (s = 0 ∨ dfn c s = r)
  ba : ∀ a, (RA a).length + 3 * cntE L Ld a ≤ KA
  bw : ∀ a, (RW a).length + cntE L Ld a ≤ KW
  bl : ∀ s r, (Ld s r).length + notQ n fr M r + Sl r ≤ KL
  aq : ∀ p r, Q0 p r → p = 0 ∨ M p r ≠ none ∨ r ∈ RA p ∨ Ex p r
section
variable {c : List Ic} {fr : Nat → List Nat} {tg : Nat → Bool} {L : List Int} {n KA KW KL : Nat} {Q0 : Nat → Int → Prop} {M : Km} {Ld : Nat → Int → List Nat} {PA P PW : List Nat} {RA RW : Nat → List Int} {Ex Ey : Nat → Int → Prop} {Ho Hp : Nat → Int → Nat → Prop} {Sl Sm : Int → Nat} {a : Nat} {x : Int}
theorem AL.weak (h : AL c fr tg L n KA KW KL Q0 M Ld PA RA PW RW Ex Ho Sl) (h1 : ∀ s r, Ex s r → Ey s r ∨ s = 0 ∨ M s r ≠ none) (h2 : ∀ s r, Ey s r → r ∈ L) (h3 : ∀ p r q, Ho p r q → Hp p r q) (h4 : ∀ r, Sm r ≤ Sl r) : AL c fr tg L n KA KW KL Q0 M Ld PA RA PW RW Ey Hp Sm where
  m0 := h.m0
  ar := fun p r k => k.elim (fun k => h.ar p r (.inl k)) (h2 p r)
  ld := fun p r q s k1 k2 k3 => (h.ld p r q s k1 k2 k3).imp id (h3 p r q)
  lq := h.lq
  cl := fun s r hl => by
    rcases h.cl s r hl with k | ⟨k1, k2, k3, k4⟩ | ⟨k1, k2, k3⟩
    · exact .inl k
    · refine .inr (.inl ⟨k1, k2, k3, fun nd hnd => ?_⟩)
      rcases k4 nd hnd with k | k | k
      · exact .inl k
      · exact .inr (.inl k)
      · rcases h1 s nd k with k | k | k
        · exact .inr (.inr k)
        · exact absurd k k1
        · exact .inl k
    · refine .inr (.inr ⟨k1, k2, ?_⟩)
      rcases k3 with k | k | k
      · exact .inl k
      · exact .inr (.inl k)
      · rcases h1 s r k with k | k | k
        · exact .inr (.inr k)
        · exact absurd k k1
        · exact .inl k
  qa := h.qa
  qw := h.qw
  wr := h.wr
  ba := h.ba
  bw := h.bw
  bl := fun s r => by have := h.bl s r; have := h4 r; omega
  aq := fun p r k => by
    rcases h.aq p r k with k | k | k | k
    · exact .inl k
    · exact .inr (.inl k)
    · exact .inr (.inr (.inl k))
    · rcases h1 p r k with k | k | k
      · exact .inr (.inr (.inr k))
      · exact .inl k
      · exact .inr (.inl k)
/-- The first place is taken. -/
theorem AL.next (h : AL c fr tg L n KA KW KL Q0 M Ld (a :: P) RA PW RW (fun _ _ => False) Ho Sl) : AL c fr tg L n KA KW KL Q0 M Ld P (fun i => if i = a then [] else RA i) PW RW (fun s r => s = a ∧ r ∈ RA a) Ho Sl := by
  have hm : ∀ s r, r ∈ RA s → r ∈ (if s = a then [] else RA s) ∨ (s = a ∧ r ∈ RA a) := fun s r hr => by
    by_cases e : s = a
    · subst e; exact .inr ⟨rfl, hr⟩
    · rw [if_neg e]; exact .inl hr
  have hm2 : ∀ s r, r ∈ (if s = a then [] else RA s) ∨ (s = a ∧ r ∈ RA a) → r ∈ RA s := fun s r hr => by
    rcases hr with hr | ⟨e, hr⟩
    · by_cases e : s = a
      · rw [if_pos e] at hr; cases hr
      · rw [if_neg e] at hr; exact hr
    · rw [e]; exact hr
  refine ⟨h.m0, fun p r k => h.ar p r (.inl (hm2 p r k)), h.ld, h.lq, fun s r hl => ?_, h.qa.next, h.qw, h.wr, fun i => ?_, h.bw, h.bl, fun p r k => by
    rcases h.aq p r k with k | k | k | k
    · exact .inl k
    · exact .inr (.inl k)
    · exact .inr (.inr (hm p r k))
    · exact k.elim⟩
  · rcases h.cl s r hl with k | ⟨k1, k2, k3, k4⟩ | ⟨k1, k2, k3⟩
    · exact .inl k
    · refine .inr (.inl ⟨k1, k2, k3, fun nd hnd => ?_⟩)
      rcases k4 nd hnd with k | k | k
      · exact .inl k
      · exact .inr (hm s nd k)
      · exact k.elim
    · refine .inr (.inr ⟨k1, k2, ?_⟩)
      rcases k3 with k | k | k
      · exact .inl k
      · exact .inr (hm s r k)
      · exact k.elim
  · have := h.ba i
    by_cases e : i = a
    · simp only [e]; rw [e] at this; simp; omega
    · simp only [if_neg e]; exact this
/-- A register is opened. -/
theorem AL.open (h : AL c fr tg L n KA KW KL Q0 M Ld PA RA PW RW (fun s r => s = a ∧ (r = x ∨ Ey s r)) (fun _ _ _ => False) (fun _ => 0)) (ha : a < n) (h0 : a ≠ 0) (hx : x ∈ L) (hn : M a x = none) :
    AL c fr tg L n KA KW KL Q0 (setM M a x (some (0, false))) Ld PA RA PW RW (fun s r => s = a ∧ Ey s r) (fun p r q => p = a ∧ r = x ∧ q ∈ (fr a).drop 0) (fun r => if r = x then (fr a).length - 0 else 0) := by
  have hmn : ∀ p r, M p r ≠ none → setM M a x (some (0, false)) p r ≠ none := fun p r k => by
    by_cases e : p = a ∧ r = x
    · obtain ⟨rfl, rfl⟩ := e
      rw [setM_at]; simp
    · rw [setM_of e]; exact k
  have hat : setM M a x (some (0, false)) a x ≠ none := by rw [setM_at]; simp
  refine ⟨fun p r v e => ?_, fun p r k => h.ar p r (k.imp id fun k => ⟨k.1, .inr k.2⟩), fun p r q s k1 k2 k3 => ?_, fun s r p k => ?_, fun s r hl => ?_, h.qa, h.qw, h.wr, h.ba, h.bw, fun s r => ?_, fun p r k => by
    rcases h.aq p r k with k | k | k | ⟨rfl, rfl | k⟩
    · exact .inl k
    · exact .inr (.inl (hmn _ _ k))
    · exact .inr (.inr (.inl k))
    · exact .inr (.inl hat)
    · exact .inr (.inr (.inr ⟨rfl, k⟩))⟩
  · by_cases e1 : p = a ∧ r = x
    · obtain ⟨rfl, rfl⟩ := e1
      rw [setM_at] at e
      cases e
      exact ⟨rfl, h0, ha, hx⟩
    · rw [setM_of e1] at e
      exact h.m0 p r v e
  · by_cases e1 : p = a ∧ r = x
    · obtain ⟨rfl, rfl⟩ := e1
      exact .inr ⟨rfl, rfl, k2⟩
    · rw [setM_of e1] at k1
      exact .inl ((h.ld p r q s k1 k2 k3).resolve_right id)
  · obtain ⟨k1, k2⟩ := h.lq s r p k
    exact ⟨hmn p r k1, k2⟩
  · rcases h.cl s r hl with k | ⟨k1, k2, k3, k4⟩ | ⟨k1, k2, k3⟩
    · exact .inl k
    · refine .inr (.inl ⟨k1, k2, k3, fun nd hnd => ?_⟩)
      rcases k4 nd hnd with k | k | ⟨rfl, rfl | k⟩
      · exact .inl (hmn _ _ k)
      · exact .inr (.inl k)
      · exact .inl hat
      · exact .inr (.inr ⟨rfl, k⟩)
    · refine .inr (.inr ⟨k1, k2, ?_⟩)
      rcases k3 with k | k | ⟨rfl, rfl | k⟩
      · exact .inl (hmn _ _ k)
      · exact .inr (.inl k)
      · exact .inl hat
      · exact .inr (.inr ⟨rfl, k⟩)
  · have h1 := h.bl s r
    have h2 := notQ_open (fr := fr) (v := (0, false)) ha hn r
    simp only [Nat.sub_zero]
    omega
/-- A source is told where to lead. -/
theorem AL.lead {s q k : Nat} (h : AL c fr tg L n KA KW KL Q0 M Ld PA RA PW RW Ex (fun p r q => p = a ∧ r = x ∧ q ∈ (fr a).drop k) (fun r => if r = x then (fr a).length - k else 0)) (hLn : ∀ b nd, nd ∈ nds c b → nd ∈ L) (hx : x ∈ L) (hq : M a x ≠ none) (hk : k < (fr a).length) (hqk : (fr a)[k] = q) (hsr : Src c fr tg x q s) (hs : s < n) (hrs : Rc c s) :
    AL c fr tg L n KA KW KL Q0 M (putL Ld s x a) (puts s (laskL c Ld s x) (PA, RA)).1 (puts s (laskL c Ld s x) (PA, RA)).2 (puts s (lwayL c Ld s x) (PW, RW)).1 (puts s (lwayL c Ld s x) (PW, RW)).2 Ex (fun p r q => p = a ∧ r = x ∧ q ∈ (fr a).drop (k + 1)) (fun r => if r = x then (fr a).length - (k + 1) else 0) := by
  have hd : (fr a).drop k = q :: (fr a).drop (k + 1) := by rw [← hqk]; exact List.drop_eq_getElem_cons hk
  have hqm : q ∈ fr a := by rw [← hqk]; exact List.getElem_mem hk
  have hla : ∀ t, t ∈ laskL c Ld s x → t ∈ L := fun t ht => by
    unfold laskL at ht
    split at ht
    · cases ht
    · split at ht
      · cases ht
      · split at ht
        · exact hLn s t ht
        · rw [show t = x by simpa using ht]; exact hx
  have hlw : ∀ t, t ∈ lwayL c Ld s x → t = x ∧ (s = 0 ∨ dfn c s = x) := fun t ht => by
    unfold lwayL at ht
    split at ht
    · cases ht
    · split at ht
      · rename_i h1
        exact ⟨by simpa using ht, h1.imp id And.left⟩
      · cases ht
  have hle : (laskL c Ld s x).length ≤ 3 ∧ (lwayL c Ld s x).length ≤ 1 ∧ (Ld s x ≠ [] → laskL c Ld s x = [] ∧ lwayL c Ld s x = []) := by
    unfold laskL lwayL
    by_cases e : Ld s x ≠ []
    · simp [e]
    · rw [if_neg e, if_neg e]
      refine ⟨?_, ?_, fun k => absurd k e⟩
      · split
        · simp
        · split
          · exact nds_len c s
          · simp
      · split <;> simp
  refine ⟨h.m0, fun p r hr => ?_, fun p r q' s' k1 k2 k3 => ?_, fun s' r p hp => ?_, fun s' r hl => ?_, puts_qi hs _ _ h.qa, puts_qi hs _ _ h.qw, fun s' r hr => ?_, fun i => ?_, fun i => ?_, fun s' r => ?_, fun p r k => (h.aq p r k).imp id fun k => k.imp id fun k => k.imp (fun k => (puts_mem _ _).2 (.inl k)) id⟩
  · rcases hr with hr | hr
    · rcases (puts_mem _ _).1 hr with hr | ⟨-, hr⟩
      · exact h.ar p r (.inl hr)
      · exact hla r hr
    · exact h.ar p r (.inr hr)
  · rcases h.ld p r q' s' k1 k2 k3 with k4 | ⟨rfl, rfl, k4⟩
    · left
      unfold putL
      split
      · rename_i e
        obtain ⟨rfl, rfl⟩ := e
        exact List.mem_append.2 (.inl k4)
      · exact k4
    · rw [hd] at k4
      rcases List.mem_cons.1 k4 with rfl | k4
      · left
        have := hsr.one k3
        subst this
        unfold putL
        rw [if_pos ⟨rfl, rfl⟩]
        simp
      · exact .inr ⟨rfl, rfl, k4⟩
  · unfold putL at hp
    split at hp
    · rename_i e
      obtain ⟨rfl, rfl⟩ := e
      rcases List.mem_append.1 hp with hp | hp
      · exact h.lq s' r p hp
      · rw [show p = a by simpa using hp]
        exact ⟨hq, q, hqm, hsr⟩
    · exact h.lq s' r p hp
  · have up1 : ∀ b t, t ∈ RA b ∨ Ex b t → t ∈ (puts s (laskL c Ld s x) (PA, RA)).2 b ∨ Ex b t := fun b t k => k.imp (fun k => (puts_mem _ _).2 (.inl k)) id
    by_cases hold : Ld s' r ≠ []
    · rcases h.cl s' r hold with ⟨k1, k2⟩ | ⟨k1, k2, k3, k4⟩ | ⟨k1, k2, k3⟩
      · exact .inl ⟨k1, (puts_mem _ _).2 (.inl k2)⟩
      · exact .inr (.inl ⟨k1, k2, k3, fun nd hnd => (k4 nd hnd).imp id (up1 s' nd)⟩)
      · exact .inr (.inr ⟨k1, k2, k3.imp id (up1 s' r)⟩)
    · have he : s' = s ∧ r = x := by
        unfold putL at hl
        split at hl
        · assumption
        · exact absurd hl hold
      obtain ⟨rfl, rfl⟩ := he
      have hn : Ld s' r = [] := by simpa using hold
      by_cases h1 : s' = 0 ∨ (dfn c s' = r ∧ nds c s' = [])
      · refine .inl ⟨h1, (puts_mem _ _).2 (.inr ⟨rfl, ?_⟩)⟩
        unfold lwayL
        rw [if_neg hold, if_pos h1]
        simp
      · by_cases h2 : dfn c s' = r
        · refine .inr (.inl ⟨fun e => h1 (.inl e), h2, fun e => h1 (.inr ⟨h2, e⟩), fun nd hnd => .inr (.inl ((puts_mem _ _).2 (.inr ⟨rfl, ?_⟩)))⟩)
          unfold laskL
          rw [if_neg hold, if_neg h1, if_pos h2]
          exact hnd
        · refine .inr (.inr ⟨fun e => h1 (.inl e), h2, .inr (.inl ((puts_mem _ _).2 (.inr ⟨rfl, ?_⟩)))⟩)
          unfold laskL
          rw [if_neg hold, if_neg h1, if_neg h2]
          simp
  · rcases (puts_mem _ _).1 hr with hr | ⟨rfl, hr⟩
    · exact h.wr s' r hr
    · obtain ⟨rfl, k⟩ := hlw r hr
      exact ⟨hx, hrs, k⟩
  · have h1 := h.ba i
    have h2 := cntE_put (L := L) (Ld := Ld) (s := s) (q := a) (x := x) i
    by_cases e : i = s
    · subst e
      have h3 := (puts_len i (laskL c Ld i x) (PA, RA)).2
      rw [h3]
      simp only
      by_cases hn : Ld i x = []
      · have := h2.2 hx hn
        have := hle.1
        omega
      · rw [(hle.2.2 hn).1]
        simp only [List.length_nil]
        omega
    · rw [puts_other e]
      simp only
      omega
  · have h1 := h.bw i
    have h2 := cntE_put (L := L) (Ld := Ld) (s := s) (q := a) (x := x) i
    by_cases e : i = s
    · subst e
      have h3 := (puts_len i (lwayL c Ld i x) (PW, RW)).2
      rw [h3]
      simp only
      by_cases hn : Ld i x = []
      · have := h2.2 hx hn
        have := hle.2.1
        omega
      · rw [(hle.2.2 hn).2]
        simp only [List.length_nil]
        omega
    · rw [puts_other e]
      simp only
      omega
  · have h1 := h.bl s' r
    unfold putL
    by_cases e : s' = s ∧ r = x
    · obtain ⟨rfl, rfl⟩ := e
      rw [if_pos ⟨rfl, rfl⟩, List.length_append]
      simp only [if_true] at h1 ⊢
      simp only [List.length_cons, List.length_nil]
      omega
    · rw [if_neg e]
      by_cases e2 : r = x
      · simp only [e2, if_true] at h1 ⊢; omega
      · simp only [if_neg e2] at h1 ⊢; exact h1
/-- Before anything is asked for. -/
theorem AL.new (hq : QI n PA RA) (hr : ∀ p r, r ∈ RA p → r ∈ L) (h3 : ∀ a, (RA a).length + 3 * L.length ≤ KA) (hW : L.length ≤ KW) (hf : ∀ p, (fr p).length ≤ 2 * n) (hKL : n * (2 * n) ≤ KL) (hQ : ∀ p r, Q0 p r → r ∈ RA p) : AL c fr tg L n KA KW KL Q0 (fun _ _ => none) (fun _ _ => []) PA RA [] (fun _ => []) (fun _ _ => False) (fun _ _ _ => False) (fun _ => 0) := by
  have hc : ∀ a, cntE L (fun _ _ => []) a ≤ L.length := fun a => by
    have := sumL_top (f := fun r => if (([] : List Nat)).isEmpty = true then 1 else 0) (k := 1) (fun r => by simp) L
    show sumL (fun r => if (([] : List Nat)).isEmpty = true then 1 else 0) L ≤ _
    omega
  refine ⟨fun p r v e => (by cases e), fun p r k => k.elim (hr p r) False.elim, fun p r q s k => absurd rfl k, fun s r p k => (by cases k), fun s r k => absurd rfl k, hq, ⟨List.nodup_nil, fun a => (by simp), fun a ha => (by cases ha)⟩, fun s r k => (by cases k), fun a => ?_, fun a => ?_, fun s r => ?_, fun p r k => .inr (.inr (.inl (hQ p r k)))⟩
  · have := h3 a; have := hc a; omega
  · have := hc a; simp only [List.length_nil]; omega
  · have h1 : notQ n fr (fun _ _ => none) r ≤ n * (2 * n) := sumP_top (fun p => by simp; exact hf p) n
    simp only [List.length_nil]
    omega
/-- What was asked for first is known of. -/
theorem AL.all (h : AL c fr tg L n KA KW KL Q0 M Ld [] RA PW RW (fun _ _ => False) (fun _ _ _ => False) (fun _ => 0)) {p : Nat} {r : Int} (hq : Q0 p r) (hp : p ≠ 0) : M p r ≠ none := by
  rcases h.aq p r hq with k | k | k | k
  · exact absurd k hp
  · exact k
  · exact absurd ((h.qa.iff p).2 fun e => by rw [e] at k; cases k) (by simp)
  · exact k.elim
/-- All is asked: the telling begins. -/
theorem AL.ti (h : AL c fr tg L n KA KW KL Q0 M Ld [] RA PW RW (fun _ _ => False) (fun _ _ _ => False) (fun _ => 0)) (hL0 : ∀ r, r ∈ L → 0 ≤ r) : TI c fr tg (fun p r => M p r ≠ none) Ld M (fun s r _ => r ∈ RW s) := by
  have hra : ∀ p, RA p = [] := fun p => by
    by_cases e : RA p = []
    · exact e
    · exact absurd ((h.qa.iff p).2 e) (by simp)
  have hAI : AI c fr tg (fun p r => M p r ≠ none) Ld (fun s r => r ∈ RW s) (fun p r => r ∈ RA p) := by
    refine ⟨fun r hr => ?_, fun p r hr => ?_, fun p r hr => hL0 r (h.ar p r (.inl hr)), fun p r q s k1 k2 k3 => (h.ld p r q s k1 k2 k3).resolve_right id, h.lq, fun s r hl => ?_⟩
    · cases e : M 0 r with
      | none => exact hr e
      | some v => exact (h.m0 0 r v e).2.1 rfl
    · cases e : M p r with
      | none => exact absurd e hr
      | some v => exact hL0 r (h.m0 p r v e).2.2.2
    · rcases h.cl s r hl with k | ⟨k1, k2, k3, k4⟩ | ⟨k1, k2, k3⟩
      · exact .inl k
      · exact .inr (.inl ⟨k1, k2, k3, fun nd hnd => (k4 nd hnd).imp id fun k => k.resolve_right id⟩)
      · exact .inr (.inr ⟨k1, k2, k3.imp id fun k => k.resolve_right id⟩)
  refine hAI.ti (fun p r hr => by rw [hra] at hr; cases hr) fun p r => ⟨fun hq => ?_, fun hq => ?_⟩
  · cases e : M p r with
    | none => exact absurd e hq
    | some v => rw [(h.m0 p r v e).1]
  · cases e : M p r with
    | none => rfl
    | some v => exact absurd (by rw [e]; simp) hq
theorem AL.tl (h : AL c fr tg L n KA KW KL Q0 M Ld [] RA PW RW (fun _ _ => False) (fun _ _ _ => False) (fun _ => 0)) (hL0 : ∀ r, r ∈ L → 0 ≤ r) (hL6 : ∀ r, r ∈ L → In6 r) (hk : Okc c) {K : Nat} (hK : KW + 2 * (n * (2 * L.length)) ≤ K) : TL c fr tg (fun p r => M p r ≠ none) Ld L n K M PW RW (fun _ _ _ => False) := by
  refine ⟨(h.ti hL0).weak fun s r p _ k => .inl (.inl k), fun s r p k => ?_, h.qw, fun s r k => hL6 r (h.wr s r k).1, fun s r k => (h.wr s r k).2.1, fun p r m e => ?_, fun p r e => ?_, fun a => ?_, fun p r k e => by have := (h.m0 p r _ e).1; cases this⟩
  · rcases k with k | k
    · rcases (h.wr s r k).2.2 with rfl | k
      · refine .inr fun ⟨m, e⟩ => ?_
        exact (h.m0 0 r _ e).2.1 rfl
      · exact .inl k
    · exact k.elim
  · have := (h.m0 p r _ e).1
    cases this
    rfl
  · cases e2 : M p r with
    | none => exact absurd e2 e
    | some v => exact ⟨(h.m0 p r v e2).2.2.1, (h.m0 p r v e2).2.2.2⟩
  · have h1 := h.bw a
    have h2 := wsum_top n L M
    omega
end
end Go.Proofs.YtgdhgipofaaogaaDoor
namespace Go.Proofs.YtgdhgipofaaogaaDoor
open Go Go.RowKit Gm Go.ChangeMaps

/-- A row that is nobody's. -/
structure NoR (own : Nat → Ob) (X : World) (p : Option Addr) (k : Nat) (G : Nat → Value) : Prop where
  rv : RV X p k G
  on : ∀ ad, p = some ad → own ad.block = .no ∧ ad.block < X.heap.size
section
variable {B : Nat} {own own' own2 : Nat → Ob} {W X Y : World} {g kb lb sb n ra rw a KA KW KL : Nat} {F F' KV' LV' VA' VW' : Nat → Value} {M' : Km} {Lf' : Nat → KF} {Ld' : Nat → Int → List Nat} {PA' PW' : List Nat} {RA' RW' : Nat → List Int} {S : Nat → Prop} {r : Int} {e : Ending} {c : List Ic} {rc tg : Nat → Bool} {fr : Nat → List Nat} {L : List Int} {Q0 Ex Ey : Nat → Int → Prop} {Ho Hp : Nat → Int → Nat → Prop} {Sl Sm : Int → Nat}
theorem NoR.ch {p : Option Addr} {k : Nat} {G : Nat → Value} (h : NoR own X p k G) (hc : Ch S X Y) (ho : ∀ b, b < X.heap.size → own' b = own b) (hS : ∀ b, own b = .no → ¬ S b) : NoR own' Y p k G :=
  ⟨h.rv.ch hc fun ad e => hS _ (h.on ad e).1, fun ad e => by obtain ⟨e1, e2⟩ := h.on ad e; exact ⟨by rw [ho _ e2]; exact e1, Nat.lt_of_lt_of_le e2 hc.size⟩⟩
theorem NoR.of_sr {pa : Option Addr} {ka : Nat} {l : List Int} (h : SR B X (.slice pa l.length ka) l) (hn : ∀ z, (Value.slice pa l.length ka).ownBlock = some z → own z = .no) : NoR own X pa l.length (iv fun j => l.getD j 0) := by
  obtain ⟨p, cap, e, hr⟩ := h.rv
  cases e
  exact ⟨hr, fun ad e => by subst e; exact ⟨hn _ rfl, (h.lt _ rfl).2⟩⟩
theorem QM.ch2 {k m rb : Nat} {vP : Value} {RV : Nat → Value} {P : List Nat} {R : Nat → List Int} (h : QM B own W k m vP rb RV P R) (hc : Ch S W X) (ho : ∀ b, b < W.heap.size → own b = .qr k ∨ own b = .qp k ∨ (∃ i, own b = .q k i) → own' b = own b) (hS : ∀ b, own b = .qr k ∨ own b = .qp k ∨ (∃ i, own b = .q k i) → ¬ S b) : QM B own' X k m vP rb RV P R where
  orb := by rw [ho _ h.fv.lt (.inl h.orb)]; exact h.orb
  fv := h.fv.ch hc (hS _ (.inl h.orb))
  sp := h.sp.ch hc fun g e => hS _ (.inr (.inl (h.op g e)))
  op := fun g e => by rw [ho _ (h.sp.lt g e).2 (.inr (.inl (h.op g e)))]; exact h.op g e
  sr := fun i hi => (h.sr i hi).ch hc fun g e => hS _ (.inr (.inr ⟨i, h.oq i g hi e⟩))
  oq := fun i g hi e => by rw [ho _ ((h.sr i hi).lt g e).2 (.inr (.inr ⟨i, h.oq i g hi e⟩))]; exact h.oq i g hi e
theorem LA.ch3 (h : LA B own W g lb n ra rw F LV' VA' VW' Lf' Ld' PA' RA' PW' RW') (hc : Ch S W X) (ho : ∀ b, b < W.heap.size → own' b = own b) (hS : ∀ b, LS own b → ¬ S b) : LA B own' X g lb n ra rw F LV' VA' VW' Lf' Ld' PA' RA' PW' RW' where
  og := by rw [ho _ h.fv.lt]; exact h.og
  fv := h.fv.ch hc (hS _ (.inl h.og))
  f3 := h.f3
  f5 := h.f5
  f7 := h.f7
  lm := h.lm.ch hc ho fun b hb => hS b (hb.elim (fun e => .inr (.inl e)) fun hb => hb.elim (fun e => .inr (.inr (.inl e))) fun e => .inr (.inr (.inr (.inl e))))
  qa := h.qa.ch hc ho fun b hb => hS b (.inr (.inr (.inr (.inr ⟨4, hb⟩))))
  qw := h.qw.ch hc ho fun b hb => hS b (.inr (.inr (.inr (.inr ⟨6, hb⟩))))
theorem LS.not {b : Nat} {t : Ob} (e : own b = t) (h : LS own b) (h1 : t = .no ∨ t = .kb ∨ ∃ i, t = .km i) : False := by
  unfold LS at h
  rw [e] at h
  rcases h1 with rfl | rfl | ⟨i, rfl⟩ <;> (rcases h with h | h | ⟨_, h⟩ | ⟨_, _, h⟩ | ⟨_, h | h | ⟨_, h⟩⟩ <;> cases h)
/-- The asking under way. -/
structure AR (B : Nat) (own : Nat → Ob) (W : World) (g kb lb sb n ra rw : Nat) (F : Nat → Value) (L : List Int) (KA KW KL : Nat) (Q0 : Nat → Int → Prop) (c : List Ic) (rc tg : Nat → Bool) (fr : Nat → List Nat) (Ex : Nat → Int → Prop) (Ho : Nat → Int → Nat → Prop) (Sl : Int → Nat) (own' : Nat → Ob) (F' KV' LV' VA' VW' : Nat → Value) (M' : Km) (Lf' : Nat → KF) (Ld' : Nat → Int → List Nat) (PA' : List Nat) (RA' : Nat → List Int) (PW' : List Nat) (RW' : Nat → List Int) (X : World) : Prop where
  ow : ∀ b, b < W.heap.size → own' b = own b ∨ own' b = .no
  fe : ∀ i, i ≠ 4 → i ≠ 6 → F' i = F i
  la : LA B own' X g lb n ra rw F' LV' VA' VW' Lf' Ld' PA' RA' PW' RW'
  km : KMm own' X kb n KV' M'
  st : StO own' X sb n c rc tg fr
  al : AL c fr tg L n KA KW KL Q0 M' Ld' PA' RA' PW' RW' Ex Ho Sl
  lk : ∀ i s, Lf' i s ≠ none → s ∈ L
  ch : Ch (fun z => own z ≠ .no) W X
theorem AR.chs (hw : ∀ b, b < W.heap.size → own' b = own b ∨ own' b = .no) (h : Ch (fun z => own z ≠ .no) W X) (k : Ch S X Y) (hS : ∀ b, S b → own' b ≠ .no) : Ch (fun z => own z ≠ .no) W Y :=
  Ch.fresh h k fun b hb s => by
    rcases hw b hb with e | e
    · rw [← e]; exact hS b s
    · exact absurd e (hS b s)
/-- Memory that is nobody's is made. -/
theorem AR.mem (h : AR B own W g kb lb sb n ra rw F L KA KW KL Q0 c rc tg fr Ex Ho Sl own' F' KV' LV' VA' VW' M' Lf' Ld' PA' RA' PW' RW' X) (hc : Ch (fun _ => False) X Y) (ho : ∀ b, b < X.heap.size → own2 b = own' b) : AR B own W g kb lb sb n ra rw F L KA KW KL Q0 c rc tg fr Ex Ho Sl own2 F' KV' LV' VA' VW' M' Lf' Ld' PA' RA' PW' RW' Y where
  ow := fun b hb => by rw [ho b (Nat.lt_of_lt_of_le hb h.ch.size)]; exact h.ow b hb
  fe := h.fe
  la := h.la.ch hc ho fun _ _ => id
  km := h.km.ch hc (fun b hb _ => ho b hb) fun _ _ => id
  st := h.st.ch hc ho fun _ _ => id
  al := h.al
  lk := h.lk
  ch := h.ch.trans (hc.mono fun _ _ k => k.elim)
theorem AR.to (h : AR B own W g kb lb sb n ra rw F L KA KW KL Q0 c rc tg fr Ex Ho Sl own' F' KV' LV' VA' VW' M' Lf' Ld' PA' RA' PW' RW' X) (k : AL c fr tg L n KA KW KL Q0 M' Ld' PA' RA' PW' RW' Ey Hp Sm) : AR B own W g kb lb sb n ra rw F L KA KW KL Q0 c rc tg fr Ey Hp Sm own' F' KV' LV' VA' VW' M' Lf' Ld' PA' RA' PW' RW' X := ⟨h.ow, h.fe, h.la, h.km, h.st, k, h.lk, h.ch⟩
/-- The first place is taken. -/
theorem AR.next {P : List Nat} (h : AR B own W g kb lb sb n ra rw F L KA KW KL Q0 c rc tg fr (fun _ _ => False) Ho Sl own' F' KV' LV' VA' VW' M' Lf' Ld' (a :: P) RA' PW' RW' X) (hn : NextP B own' X g 4 n ra F' VA' a P RA' e Y) :
    ∃ (pa : Option Addr) (ka : Nat) (vP : Value) (own2 : Nat → Ob), e = .returned (.tuple #[.int .i64 (a : Int), .slice pa (RA' a).length ka]) ∧ NoR own2 Y pa (RA' a).length (iv fun j => (RA' a).getD j 0) ∧
      AR B own W g kb lb sb n ra rw F L KA KW KL Q0 c rc tg fr (fun s r => s = a ∧ r ∈ RA' a) Ho Sl own2 (upd F' 4 vP) KV' LV' (upd VA' a (.slice none 0 0)) VW' M' Lf' Ld' P (fun i => if i = a then [] else RA' i) PW' RW' Y := by
  obtain ⟨pa, ka, vP, own2, rfl, ho, hz, hsr, hfv, hq, hc⟩ := hn
  have hkeep : ∀ b t, own' b = t → t ≠ .q 4 a → own2 b = t := fun b t h1 h2 => by
    rcases ho b with e | ⟨e, -⟩
    · rw [e, h1]
    · exact absurd (h1.symm.trans e) h2
  have hS : ∀ b t, own' b = t → t ≠ .f → t ≠ .qr 4 → ¬ (b = g ∨ b = ra) := fun b t h1 h2 h3 k => by
    rcases k with k | k
    · exact h2 (by rw [← h1, k]; exact h.la.og)
    · exact h3 (by rw [← h1, k]; exact h.la.qa.orb)
  refine ⟨pa, ka, vP, own2, rfl, .of_sr hsr hz, ⟨fun b hb => ?_, fun i h4 h6 => ?_, ⟨hkeep g _ h.la.og (by simp), hfv, by rw [upd_of (by omega)]; exact h.la.f3, by rw [upd_of (by omega)]; exact h.la.f5, by rw [upd_of (by omega)]; exact h.la.f7, ?_, by rw [upd_at]; exact hq, ?_⟩, ?_, h.st.ch2 hc (fun b _ hb => hkeep b _ hb (by simp)) (fun b hb => hS b _ hb (by simp) (by simp)), h.al.next, h.lk, ?_⟩⟩
  · rcases ho b with e | ⟨-, e⟩
    · rw [e]; exact h.ow b hb
    · exact .inr e
  · rw [upd_of h4]; exact h.fe i h4 h6
  · exact h.la.lm.ch2 hc (fun b _ hb => by rcases hb with e | ⟨i, e⟩ | ⟨i, r, e⟩ <;> (rw [e]; exact hkeep b _ e (by simp))) fun b hb => by rcases hb with e | ⟨i, e⟩ | ⟨i, r, e⟩ <;> exact hS b _ e (by simp) (by simp)
  · rw [upd_of (by omega)]
    exact h.la.qw.ch2 hc (fun b _ hb => by rcases hb with e | e | ⟨i, e⟩ <;> (rw [e]; exact hkeep b _ e (by simp))) fun b hb => by rcases hb with e | e | ⟨i, e⟩ <;> exact hS b _ e (by simp) (by simp)
  · exact h.km.ch hc (fun b _ hb => by rcases hb with e | ⟨i, e⟩ <;> (rw [e]; exact hkeep b _ e (by simp))) fun b hb => by rcases hb with e | ⟨i, e⟩ <;> exact hS b _ e (by simp) (by simp)
  · refine AR.chs h.ow h.ch hc fun b k => ?_
    rcases k with rfl | rfl
    · rw [h.la.og]; simp
    · rw [h.la.qa.orb]; simp
/-- A register is opened. -/
theorem AR.open (h : AR B own W g kb lb sb n ra rw F L KA KW KL Q0 c rc tg fr Ex Ho Sl own' F' KV' LV' VA' VW' M' Lf' Ld' PA' RA' PW' RW' X) (hn : OpnP own' X kb n M' a r e Y) (k : AL c fr tg L n KA KW KL Q0 (setM M' a r (some (0, false))) Ld' PA' RA' PW' RW' Ey Hp Sm) :
    ∃ (own2 : Nat → Ob) (KV2 : Nat → Value), e = .returned (.bool (M' a r).isNone) ∧ (∀ b, b < X.heap.size → own2 b = own' b) ∧ Ch (fun z => own' z ≠ .no) X Y ∧ AR B own W g kb lb sb n ra rw F L KA KW KL Q0 c rc tg fr Ey Hp Sm own2 F' KV2 LV' VA' VW' (setM M' a r (some (0, false))) Lf' Ld' PA' RA' PW' RW' Y := by
  obtain ⟨rfl, own2, KV2, ho, hk, hc⟩ := hn
  have hno : ∀ b, (b = kb ∨ own' b = .km a) → own' b ≠ .no := fun b s => by
    rcases s with rfl | s
    · rw [h.km.okb]; simp
    · rw [s]; simp
  refine ⟨own2, KV2, rfl, ho, hc.mono fun b _ s => hno b s, ⟨fun b hb => by rw [ho b (Nat.lt_of_lt_of_le hb h.ch.size)]; exact h.ow b hb, h.fe, h.la.ch3 hc ho fun b hb s => ?_, hk, h.st.ch hc ho fun b hb s => hno b s hb, k, h.lk, AR.chs h.ow h.ch hc hno⟩⟩
  rcases s with rfl | s
  · exact LS.not h.km.okb hb (.inr (.inl rfl))
  · exact LS.not s hb (.inr (.inr ⟨_, rfl⟩))
/-- A source is told where to lead. -/
theorem AR.lead {s : Nat} (h : AR B own W g kb lb sb n ra rw F L KA KW KL Q0 c rc tg fr Ex Ho Sl own' F' KV' LV' VA' VW' M' Lf' Ld' PA' RA' PW' RW' X) (hn : LeadP B own' X g lb n ra rw F' Lf' Ld' PA' RA' PW' RW' c s r a e Y) (hr : r ∈ L)
    (k : AL c fr tg L n KA KW KL Q0 M' (putL Ld' s r a) (puts s (laskL c Ld' s r) (PA', RA')).1 (puts s (laskL c Ld' s r) (PA', RA')).2 (puts s (lwayL c Ld' s r) (PW', RW')).1 (puts s (lwayL c Ld' s r) (PW', RW')).2 Ey Hp Sm) :
    ∃ (v : Value) (own2 : Nat → Ob) (F2 LV2 VA2 VW2 : Nat → Value) (Lf2 : Nat → KF) (Ld2 : Nat → Int → List Nat) (PA2 : List Nat) (RA2 : Nat → List Int) (PW2 : List Nat) (RW2 : Nat → List Int), e = .returned v ∧ (∀ b, b < X.heap.size → own2 b = own' b) ∧ Ch (fun z => own' z ≠ .no) X Y ∧ AR B own W g kb lb sb n ra rw F L KA KW KL Q0 c rc tg fr Ey Hp Sm own2 F2 KV' LV2 VA2 VW2 M' Lf2 Ld2 PA2 RA2 PW2 RW2 Y := by
  obtain ⟨v, own2, F2, LV2, VA2, VW2, Lf2, rfl, ho, hf, hla, hlf, hc⟩ := hn
  have hno : ∀ b, LS own' b → own' b ≠ .no := fun b s e => LS.not e s (.inl rfl)
  refine ⟨v, own2, F2, LV2, VA2, VW2, Lf2, _, _, _, _, _, rfl, ho, hc.mono fun b _ s => hno b s, ⟨fun b hb => by rw [ho b (Nat.lt_of_lt_of_le hb h.ch.size)]; exact h.ow b hb, fun i h4 h6 => (hf i h4 h6).trans (h.fe i h4 h6), hla, h.km.ch hc (fun b hb _ => ho b hb) fun b hb s => ?_, h.st.ch hc ho fun b hb s => hno b s hb, k, fun i t ht => ?_, AR.chs h.ow h.ch hc hno⟩⟩
  · rcases hb with hb | ⟨i, hb⟩
    · exact LS.not hb s (.inr (.inl rfl))
    · exact LS.not hb s (.inr (.inr ⟨_, rfl⟩))
  · rcases hlf i t ht with h1 | ⟨-, rfl⟩
    · exact h.lk i t h1
    · exact hr
end
end Go.Proofs.YtgdhgipofaaogaaDoor
namespace Go.Proofs.YtgdhgipofaaogaaDoor
open Go Go.RowKit Gm Go.ChangeMaps

def AskP (B : Nat) (own : Nat → Ob) (W : World) (g kb lb sb n ra rw : Nat) (F : Nat → Value) (L : List Int) (KA KW KL : Nat) (Q0 : Nat → Int → Prop) (c : List Ic) (rc tg : Nat → Bool) (fr : Nat → List Nat) (e : Ending) (w' : World) : Prop := ∃ (v : Value) (own' : Nat → Ob) (F' KV' LV' VA' VW' : Nat → Value) (M' : Km) (Lf' : Nat → KF) (Ld' : Nat → Int → List Nat) (RA' : Nat → List Int) (PW' : List Nat) (RW' : Nat → List Int), e = .returned v ∧ AR B own W g kb lb sb n ra rw F L KA KW KL Q0 c rc tg fr (fun _ _ => False) (fun _ _ _ => False) (fun _ => 0) own' F' KV' LV' VA' VW' M' Lf' Ld' [] RA' PW' RW' w'
theorem setM_same {M : Km} {a : Nat} {x : Int} {v : Int × Bool} (h : M a x = some v) : setM M a x (some v) = M := by
  funext p r
  by_cases e : p = a ∧ r = x
  · obtain ⟨rfl, rfl⟩ := e
    rw [setM_at, h]
  · exact setM_of e
set_option maxRecDepth 100000 in
set_option maxHeartbeats 8000000 in
theorem ask_c {B : Nat} {own : Nat → Ob} {W : World} {g kb lb sb n ra rw KA KW KL : Nat} {F KV LV VA VW : Nat → Value} {M : Km} {Lf : Nat → KF} {Ld : Nat → Int → List Nat} {PA PW : List Nat} {RA RW : Nat → List Int} {c : List Ic} {rc tg : Nat → Bool} {fr : Nat → List Nat} {L : List Int} {Q0 : Nat → Int → Prop} (hR : Hid (AR B own W g kb lb sb n ra rw F L KA KW KL Q0 c rc tg fr (fun _ _ => False) (fun _ _ _ => False) (fun _ => 0) own F KV LV VA VW M Lf Ld PA RA PW RW W)) (hF1 : F 1 = .slice (some ⟨sb, 0, none⟩) n n) (hF2 : F 2 = .slice (some ⟨kb, 0, none⟩) n n) (hl : c.length = n) (hn : n ≤ 5000) (hB : B ≤ W.heap.size) (hrc : Hid (∀ p, rc p = true ↔ Rc c p)) (hS : Hid (Stp c fr tg)) (hLn : Hid (∀ b nd, nd ∈ nds c b → nd ∈ L)) (hL6 : Hid (∀ r, r ∈ L → In6 r)) (hLl : L.length ≤ 1000000) (hKA : KA ≤ 400000) (hKW : KW ≤ 400000) (hKL : KL ≤ 900000) (hfr : Hid (∀ p, (fr p).length ≤ 100000)) : Calls Tryd.prog 21 #[.pointer (some ⟨g, 0, none⟩)] W (AskP B own W g kb lb sb n ra rw F L KA KW KL Q0 c rc tg fr) := by
  obtain ⟨TOx, hTO⟩ : ∃ P : Nat → World → Prop, ∀ mu X, P mu X ↔ ∃ own' F' KV' LV' VA' VW' M' Lf' Ld' PA' RA' PW' RW', AR B own W g kb lb sb n ra rw F L KA KW KL Q0 c rc tg fr (fun _ _ => False) (fun _ _ _ => False) (fun _ => 0) own' F' KV' LV' VA' VW' M' Lf' Ld' PA' RA' PW' RW' X ∧ nonQ n L M' * (n + 1) + PA'.length = mu := ⟨_, fun _ _ => Iff.rfl⟩
  have HTO := Lib.hid hTO
  clear hTO
  go_enter Tryd.func21, Tryd.ntmps21
  go_wp2
  go_loopw [] (fun wr => ∃ mu, TOx mu wr) (fun wr => leastN (fun mu => TOx mu wr))
  case atStart => exact ⟨_, (HTO.out _ _).2 ⟨own, F, KV, LV, VA, VW, M, Lf, Ld, PA, RA, PW, RW, hR.out, rfl⟩⟩
  case round =>
    obtain ⟨wo, rfl⟩ : ∃ wo : World, wo = wr := ⟨_, rfl⟩
    obtain ⟨mu0, hmu0⟩ := hrel
    obtain ⟨own1, F1, KV1, LV1, VA1, VW1, M1, Lf1, Ld1, PA1, RA1, PW1, RW1, hT1, hm1⟩ := (HTO.out (leastN fun mu => TOx mu wo) wo).1 (leastN_spec (P := fun mu => TOx mu wo) hmu0).1
    have HMU := Lib.hid hm1
    clear hm1 hmu0
    obtain ⟨pq, kq, eq⟩ := hT1.la.qa.sp.form
    have hT1 := Lib.hid hT1
    cases PA1 with
    | nil =>
      have HEM : Hid (Calls Tryd.prog 39 #[.pointer (some ⟨g, 4, none⟩)] wo fun e w' => e = .returned (.bool true) ∧ w' = wo) := Lib.hid (qempty_c (Lib.hid hT1.out.la.fv) eq (by omega))
      have hgo := hT1.out.la.fv.lt
      clear eq
      go_wp2_with (go_at_call 39; (with_reducible refine (HEM.out).mono ?_); rintro e2 w2 ⟨rfl, hw2⟩; rw [hw2]; clear hw2 w2)
      exact bodyPost_ret (results_none rfl _ _ _) rfl ⟨_, own1, F1, KV1, LV1, VA1, VW1, M1, Lf1, Ld1, RA1, PW1, RW1, rfl, hT1.out⟩
    | cons a P =>
      have HEM : Hid (Calls Tryd.prog 39 #[.pointer (some ⟨g, 4, none⟩)] wo fun e w' => e = .returned (.bool false) ∧ w' = wo) := Lib.hid ((qempty_c (Lib.hid hT1.out.la.fv) eq (by omega)).mono fun e w' ⟨h1, h2⟩ => ⟨by rw [h1]; simp, h2⟩)
      have hgo := hT1.out.la.fv.lt
      have ha : a < n := hT1.out.al.qa.lt a (List.mem_cons.2 (.inl rfl))
      have HNX : Hid (Calls Tryd.prog 40 #[.pointer (some ⟨g, 4, none⟩)] wo (NextP B own1 wo g 4 n ra F1 VA1 a P RA1)) := Lib.hid (qnext_c (Lib.hid hT1.out.la.fv) hT1.out.la.f5 (by omega) (Lib.hid hT1.out.la.qa) hT1.out.la.og ha hn)
      have hRGl : (RA1 a).length ≤ 400000 := by have := hT1.out.al.ba a; omega
      clear eq
      go_upto_region 1 with (go_at_call 39; (with_reducible refine (HEM.out).mono ?_); rintro e2 w2 ⟨rfl, hw2⟩; rw [hw2]; clear hw2 w2)
      go_upto_region 3 with (go_at_call 40; (with_reducible refine (HNX.out).mono ?_); rintro e2 w2 hp; obtain ⟨pa, ka, vP, own2, rfl, hno2, hT2⟩ := hT1.out.next hp; have HNO2 := Lib.hid hno2; have HT2 := Lib.hid hT2; clear hp hno2 hT2)
      obtain ⟨RG, hRG⟩ : ∃ x, RA1 a = x := ⟨_, rfl⟩
      rw [hRG] at HNO2 hRGl
      try rw [hRG]
      obtain ⟨BND, hBND⟩ : ∃ x, nonQ n L M1 * (n + 1) + P.length = x := ⟨_, rfl⟩
      have HBL : Hid (BND < leastN (fun mu => TOx mu wo)) := Lib.hid (by rw [← HMU.out, ← hBND, List.length_cons]; omega)
      have HT3b : Hid (AR B own W g kb lb sb n ra rw F L KA KW KL Q0 c rc tg fr (fun s r => s = a ∧ r ∈ RG.drop 0) (fun _ _ _ => False) (fun _ => 0) own2 (upd F1 4 vP) KV1 LV1 (upd VA1 a (.slice none 0 0)) VW1 M1 Lf1 Ld1 P (fun i => if i = a then [] else RA1 i) PW1 RW1 w2) := Lib.hid (by rw [List.drop_zero, ← hRG]; exact HT2.out)
      clear hRG hgo
      go_loopw [22] (fun z wr => ∃ (i : Nat) (own2 : Nat → Ob) (F2 KV2 LV2 VA2 VW2 : Nat → Value) (M2 : Km) (Lf2 : Nat → KF) (Ld2 : Nat → Int → List Nat) (PA2 : List Nat) (RA2 : Nat → List Int) (PW2 : List Nat) (RW2 : Nat → List Int), z = .int .i64 i ∧ i ≤ RG.length ∧ Hid (AR B own W g kb lb sb n ra rw F L KA KW KL Q0 c rc tg fr (fun s r => s = a ∧ r ∈ RG.drop i) (fun _ _ _ => False) (fun _ => 0) own2 F2 KV2 LV2 VA2 VW2 M2 Lf2 Ld2 PA2 RA2 PW2 RW2 wr ∧ nonQ n L M2 * (n + 1) + PA2.length ≤ BND ∧ NoR own2 wr pa RG.length (iv fun j => RG.getD j 0))) (fun z _ => RG.length - (intOf z).toNat)
      case atStart => exact ⟨0, own2, _, KV1, LV1, _, VW1, M1, Lf1, Ld1, P, _, PW1, RW1, rfl, Nat.zero_le _, Lib.hid ⟨HT3b.out, Nat.le_of_eq hBND, HNO2.out⟩⟩
      case round =>
        obtain ⟨wi, rfl⟩ : ∃ wi : World, wi = wr := ⟨_, rfl⟩
        obtain ⟨i, own2, F2, KV2, LV2, VA2, VW2, M2, Lf2, Ld2, PA2, RA2, PW2, RW2, rfl, hi, HI2⟩ := hrel
        have HTR := Lib.hid HI2.out.1
        have HBN := Lib.hid HI2.out.2.1
        have HNR := Lib.hid HI2.out.2.2
        by_cases hlt : i < RG.length
        · obtain ⟨gr, orr, ep, hgr, ir⟩ := HNR.out.rv i hlt
          obtain ⟨x, hx⟩ : ∃ x, RG[i] = x := ⟨_, rfl⟩
          have elv : iv (fun j => RG.getD j 0) i = .int .i64 x := by
            show Value.int .i64 (RG.getD i 0) = _
            rw [List.getD_eq_getElem?_getD, List.getElem?_eq_getElem hlt, hx]
            rfl
          rw [elv] at ir
          have HXD : Hid (RG.drop i = x :: RG.drop (i + 1)) := Lib.hid (by rw [← hx]; exact List.drop_eq_getElem_cons hlt)
          have HXL : Hid (x ∈ L) := Lib.hid (HTR.out.al.ar a x (.inr ⟨rfl, by rw [HXD.out]; exact List.mem_cons.2 (.inl rfl)⟩))
          have HX6 : Hid (In6 x) := Lib.hid (hL6.out x HXL.out)
          subst ep
          clear elv hx
          by_cases h0 : a = 0
          · have h0b : ((a : Int) != 0) = false := by simp [h0]
            have H0 := Lib.hid h0
            clear h0
            go_wp2
            go_roundw
            case rel =>
              exact ⟨i + 1, own2, F2, KV2, LV2, VA2, VW2, M2, Lf2, Ld2, PA2, RA2, PW2, RW2, by go_num, by omega, Lib.hid ⟨HTR.out.to (HTR.out.al.weak (fun s r k => .inr (.inl (k.1.trans H0.out))) (fun s r k => HTR.out.al.ar a r (.inr ⟨rfl, by rw [HXD.out]; exact List.mem_cons.2 (.inr k.2)⟩)) (fun _ _ _ k => k) fun _ => Nat.le_refl _), HBN.out, HNR.out⟩⟩
            case measure => (simp [intOf]; try omega)
          · have h0b : ((a : Int) != 0) = true := by simp [h0]
            have H0 := Lib.hid h0
            have HOP : Hid (Calls Tryd.prog 41 #[.pointer (some ⟨g, 0, none⟩), .int .i64 a, .int .i64 x] wi (OpnP own2 wi kb n M2 a x)) := Lib.hid (open_c (L := L) (Lib.hid HTR.out.la.fv) ((HTR.out.fe 2 (by omega) (by omega)).trans hF2) (Lib.hid HTR.out.km) HTR.out.la.og ha hn HX6.out (Lib.hid fun s hs => by
              cases e : M2 a s with
              | none => exact absurd e hs
              | some v => exact (HTR.out.al.m0 a s v e).2.2.2) hLl)
            clear h0
            by_cases hM : M2 a x = none
            · have HM := Lib.hid hM
              have HAL := Lib.hid (AL.open (x := x) (Ey := fun _ r => r ∈ RG.drop (i + 1)) (HTR.out.al.weak (fun s r k => .inl ⟨k.1, by have k2 := k.2; rw [HXD.out] at k2; exact List.mem_cons.1 k2⟩) (fun s r k => HTR.out.al.ar a r (.inr ⟨rfl, by rw [HXD.out]; exact List.mem_cons.2 k.2⟩)) (fun _ _ _ k => k) fun _ => Nat.le_refl _) ha H0.out HXL.out hM)
              have HNQ : Hid (nonQ n L (setM M2 a x (some (0, false))) < nonQ n L M2) := Lib.hid (nonQ_open ha HXL.out hM)
              clear hM
              obtain ⟨M3, hM3⟩ : ∃ z, setM M2 a x (some (0, false)) = z := ⟨_, rfl⟩
              have HQ3 : Hid (M3 a x ≠ none) := Lib.hid (by rw [← hM3, setM_at]; simp)
              have HO2 : Hid (∀ e w', OpnP own2 wi kb n M2 a x e w' → e = .returned (.bool true) ∧ ∃ own3 KV3, (∀ b, b < wi.heap.size → own3 b = own2 b) ∧ Ch (fun z => own2 z ≠ .no) wi w' ∧ AR B own W g kb lb sb n ra rw F L KA KW KL Q0 c rc tg fr (fun s r => s = a ∧ r ∈ RG.drop (i + 1)) (fun p r q => p = a ∧ r = x ∧ q ∈ (fr a).drop 0) (fun r => if r = x then (fr a).length - 0 else 0) own3 F2 KV3 LV2 VA2 VW2 M3 Lf2 Ld2 PA2 RA2 PW2 RW2 w') := Lib.hid fun e w' hp => by
                obtain ⟨own3, KV3, h1, h2, h3, h4⟩ := HTR.out.open hp HAL.out
                rw [HM.out] at h1
                rw [hM3] at h4
                exact ⟨h1, own3, KV3, h2, h3, h4⟩
              rw [hM3] at HNQ
              clear hM3
              go_upto_region 6 with (go_at_call 41; (with_reducible refine (HOP.out).mono ?_); rintro e2 w2 hp; obtain ⟨rfl, own3, KV3, h1, h2, h3⟩ := HO2.out _ _ hp; have HO3 := Lib.hid h1; have HC3 := Lib.hid h2; have HT3 := Lib.hid h3; clear hp h1 h2 h3)
              have HNR3 := Lib.hid (HNR.out.ch HC3.out HO3.out fun b e k => k e)
              have hg3 := HT3.out.la.fv.lt
              have g1 := HT3.out.la.fv.cell (i := 1) (by omega)
              rw [HT3.out.fe 1 (by omega) (by omega), hF1] at g1
              have hsb3 := HT3.out.st.st.sl
              obtain ⟨pf, kf, f2, hvf⟩ := HT3.out.st.st.f a ha
              have HNF : Hid (NoR own3 w2 pf (fr a).length (lv (fr a))) := Lib.hid ⟨hvf, fun ad e => HT3.out.st.of _ ad _ kf (e ▸ f2)⟩
              clear hvf
              obtain ⟨FR, hFR⟩ : ∃ z, fr a = z := ⟨_, rfl⟩
              rw [hFR] at HT3 HNF f2
              have HFR := Lib.hid hFR
              have hfrl : FR.length ≤ 100000 := by rw [← hFR]; exact hfr.out a
              clear hFR
              go_upto_region 7 with (fail)
              go_loopw [43] (fun z wr => ∃ (k : Nat) (own3 : Nat → Ob) (F3 KV3 LV3 VA3 VW3 : Nat → Value) (Lf3 : Nat → KF) (Ld3 : Nat → Int → List Nat) (PA3 : List Nat) (RA3 : Nat → List Int) (PW3 : List Nat) (RW3 : Nat → List Int), z = .int .i64 k ∧ k ≤ FR.length ∧ Hid (AR B own W g kb lb sb n ra rw F L KA KW KL Q0 c rc tg fr (fun s r => s = a ∧ r ∈ RG.drop (i + 1)) (fun p r q => p = a ∧ r = x ∧ q ∈ FR.drop k) (fun r => if r = x then FR.length - k else 0) own3 F3 KV3 LV3 VA3 VW3 M3 Lf3 Ld3 PA3 RA3 PW3 RW3 wr ∧ NoR own3 wr (some ⟨gr, orr, none⟩) RG.length (iv fun j => RG.getD j 0) ∧ NoR own3 wr pf FR.length (lv FR))) (fun z _ => FR.length - (intOf z).toNat)
              case atStart => exact ⟨0, own3, F2, KV3, LV2, VA2, VW2, Lf2, Ld2, PA2, RA2, PW2, RW2, rfl, Nat.zero_le _, Lib.hid ⟨HT3.out, HNR3.out, HNF.out⟩⟩
              case round =>
                obtain ⟨wk, rfl⟩ : ∃ wk : World, wk = wr := ⟨_, rfl⟩
                obtain ⟨k, own4, F4, KV4, LV4, VA4, VW4, Lf4, Ld4, PA4, RA4, PW4, RW4, rfl, hk, HI⟩ := hrel
                by_cases hltk : k < FR.length
                · obtain ⟨gf, orf, ep, hgf, jr⟩ := HI.out.2.2.rv k hltk
                  obtain ⟨q, hq⟩ : ∃ q, FR[k] = q := ⟨_, rfl⟩
                  have elv : lv FR k = .int .i64 (q : Int) := by
                    show Value.int .i64 ((FR.getD k 0 : Nat) : Int) = _
                    rw [List.getD_eq_getElem?_getD, List.getElem?_eq_getElem hltk, hq]
                    rfl
                  rw [elv] at jr
                  subst ep
                  have HQM : Hid (q ∈ fr a) := Lib.hid (by rw [HFR.out, ← hq]; exact List.getElem_mem hltk)
                  have HQR : Hid (Rc c q) := Lib.hid ((hS.out.mem a q).1 HQM.out).1
                  obtain ⟨s, hs, hrs⟩ := hS.out.src x HQR.out
                  have HSS := Lib.hid hs
                  have HRS := Lib.hid hrs
                  have HQE := Lib.hid hq
                  have hsn : s < n := by rw [← hl]; exact hrs.lt
                  have HSC := Lib.hid (source_c (Lib.hid HI.out.1.la.fv) ((HI.out.1.fe 1 (by omega) (by omega)).trans hF1) (Lib.hid HI.out.1.st.st) hS hrc hl hn HQR.out hs)
                  have HMEM : Hid (∀ X, Below wk.heap.size wk X → AR B own W g kb lb sb n ra rw F L KA KW KL Q0 c rc tg fr (fun s r => s = a ∧ r ∈ RG.drop (i + 1)) (fun p r q => p = a ∧ r = x ∧ q ∈ FR.drop k) (fun r => if r = x then FR.length - k else 0) own4 F4 KV4 LV4 VA4 VW4 M3 Lf4 Ld4 PA4 RA4 PW4 RW4 X) := Lib.hid fun X hX => HI.out.1.mem (Ch.of hX) fun _ _ => rfl
                  have HLD : Hid (∀ X, Below wk.heap.size wk X → Calls Tryd.prog 42 #[.pointer (some ⟨g, 0, none⟩), .int .i64 s, .int .i64 x, .int .i64 a] X (LeadP B own4 X g lb n ra rw F4 Lf4 Ld4 PA4 RA4 PW4 RW4 c s x a)) := Lib.hid fun X hX => lead_c (L := L) (Lib.hid (HMEM.out X hX).la) ((HI.out.1.fe 1 (by omega) (by omega)).trans hF1) (Lib.hid (HMEM.out X hX).st) ((hrc.out s).2 HRS.out) hsn hn HX6.out (Nat.le_trans hB (HMEM.out X hX).ch.size) (by have := HI.out.1.al.bl s x; omega) (by have := HI.out.1.al.qa.len; omega) (by have := HI.out.1.al.ba s; omega) (by have := HI.out.1.al.qw.len; omega) (by have := HI.out.1.al.bw s; omega) (Lib.hid fun t ht => HI.out.1.lk s t ht) hLl (by have := nds_len c s; omega)
                  clear elv hq hs hrs
                  go_wp2_with (first | (go_at_call 43; (with_reducible refine (HSC.out).mono ?_); rintro e5 w5 ⟨rfl, hb5⟩; have HB5 := Lib.hid hb5; clear hb5) | (go_at_call 42; (with_reducible refine (HLD.out _ HB5.out).mono ?_); rintro e6 w6 hp; obtain ⟨v0, rfl⟩ : ∃ v0, e6 = .returned v0 := (by obtain ⟨v0, _, _, _, _, _, _, h, _⟩ := hp; exact ⟨v0, h⟩); have HP := Lib.hid hp; clear hp))
                  go_roundw
                  case rel =>
                    have hAL := (HMEM.out _ HB5.out).al
                    have hE : (fr a)[k]? = some q := by rw [HFR.out, List.getElem?_eq_getElem hltk, HQE.out]
                    rw [← HFR.out] at hAL
                    have hk2 : k < (fr a).length := by rw [HFR.out]; exact hltk
                    have hE2 : (fr a)[k] = q := by rw [List.getElem?_eq_getElem hk2] at hE; exact Option.some.inj hE
                    have hA2 := hAL.lead hLn.out HXL.out HQ3.out hk2 hE2 HSS.out hsn HRS.out
                    rw [HFR.out] at hA2
                    obtain ⟨vv, own5, F5, LV5, VA5, VW5, Lf5, Ld5, PA5, RA5, PW5, RW5, -, q1, q2, q3⟩ := (HMEM.out _ HB5.out).lead HP.out HXL.out hA2
                    have hs5 := HB5.out.size
                    exact ⟨k + 1, own5, F5, KV4, LV5, VA5, VW5, Lf5, Ld5, PA5, RA5, PW5, RW5, by go_num, by omega, Lib.hid ⟨q3, (HI.out.2.1.ch (Ch.of (S := fun _ => False) HB5.out) (fun _ _ => rfl) fun _ _ k => k).ch q2 q1 fun b e k => k e, (HI.out.2.2.ch (Ch.of (S := fun _ => False) HB5.out) (fun _ _ => rfl) fun _ _ k => k).ch q2 q1 fun b e k => k e⟩⟩
                  case measure => (simp [intOf]; try omega)
                · obtain rfl : k = FR.length := by omega
                  go_wp2
                  go_roundw
                  case rel =>
                    have hle := HI.out.1.al.qa.len
                    have h1 := HNQ.out
                    have h2 := HBN.out
                    have h3 : (nonQ n L M3 + 1) * (n + 1) ≤ nonQ n L M2 * (n + 1) := Nat.mul_le_mul_right _ h1
                    rw [Nat.add_mul, Nat.one_mul] at h3
                    exact ⟨i + 1, own4, F4, KV4, LV4, VA4, VW4, M3, Lf4, Ld4, PA4, RA4, PW4, RW4, by go_num, by omega, Lib.hid ⟨HI.out.1.to (HI.out.1.al.weak (fun s r k => .inl k) (fun s r k => HI.out.1.al.ar a r (.inr ⟨rfl, k.2⟩)) (fun p r q k => by rw [List.drop_length] at k; cases k.2.2) fun _ => Nat.zero_le _), by omega, HI.out.2.1⟩⟩
                  case measure => (simp [intOf]; try omega)
            · obtain ⟨v, hv⟩ : ∃ v, M2 a x = some v := by
                cases h : M2 a x with
                | none => exact absurd h hM
                | some v => exact ⟨v, rfl⟩
              have hv0 := (HTR.out.al.m0 a x v hv).1
              subst hv0
              have HM := Lib.hid hv
              have HMN := Lib.hid hM
              have HSM := Lib.hid (setM_same hv)
              have HO2 : Hid (∀ e w', OpnP own2 wi kb n M2 a x e w' → e = .returned (.bool false) ∧ ∃ own3 KV3, (∀ b, b < wi.heap.size → own3 b = own2 b) ∧ Ch (fun z => own2 z ≠ .no) wi w' ∧ AR B own W g kb lb sb n ra rw F L KA KW KL Q0 c rc tg fr (fun s r => s = a ∧ r ∈ RG.drop (i + 1)) (fun _ _ _ => False) (fun _ => 0) own3 F2 KV3 LV2 VA2 VW2 M2 Lf2 Ld2 PA2 RA2 PW2 RW2 w') := Lib.hid fun e w' hp => by
                obtain ⟨own3, KV3, h1, h2, h3, h4⟩ := HTR.out.open hp (by
                  rw [HSM.out]
                  exact HTR.out.al.weak (Ey := fun s r => s = a ∧ r ∈ RG.drop (i + 1)) (fun s r k => by
                    obtain ⟨rfl, k2⟩ := k
                    rw [HXD.out] at k2
                    rcases List.mem_cons.1 k2 with rfl | k2
                    · exact .inr (.inr HMN.out)
                    · exact .inl ⟨rfl, k2⟩) (fun s r k => HTR.out.al.ar a r (.inr ⟨rfl, by rw [HXD.out]; exact List.mem_cons.2 (.inr k.2)⟩)) (fun _ _ _ k => k) fun _ => Nat.le_refl _)
                rw [HM.out] at h1
                rw [HSM.out] at h4
                exact ⟨h1, own3, KV3, h2, h3, h4⟩
              clear hv hM
              go_wp2_with (go_at_call 41; (with_reducible refine (HOP.out).mono ?_); rintro e2 w2 hp; obtain ⟨rfl, own3, KV3, h1, h2, h3⟩ := HO2.out _ _ hp; have HO3 := Lib.hid h1; have HC3 := Lib.hid h2; have HT3 := Lib.hid h3; clear hp h1 h2 h3)
              go_roundw
              case rel => exact ⟨i + 1, own3, F2, KV3, LV2, VA2, VW2, M2, Lf2, Ld2, PA2, RA2, PW2, RW2, by go_num, by omega, Lib.hid ⟨HT3.out, HBN.out, HNR.out.ch HC3.out HO3.out fun b e k => k e⟩⟩
              case measure => (simp [intOf]; try omega)
        · obtain rfl : i = RG.length := by omega
          have HX : Hid (TOx (nonQ n L M2 * (n + 1) + PA2.length) wi) := Lib.hid ((HTO.out _ _).2 ⟨own2, F2, KV2, LV2, VA2, VW2, M2, Lf2, Ld2, PA2, RA2, PW2, RW2, HTR.out.to (HTR.out.al.weak (fun s r k => by have k2 := k.2; rw [List.drop_length] at k2; cases k2) (fun s r k => k.elim) (fun _ _ _ k => k) fun _ => Nat.le_refl _), rfl⟩)
          go_wp2
          go_roundw
          case rel =>
            exact ⟨_, HX.out⟩
          case measure =>
            have h1 := (leastN_spec (P := fun mu => TOx mu wi) HX.out).2 _ HX.out
            have h2 := HBN.out
            have h3 := HBL.out
            omega
end Go.Proofs.YtgdhgipofaaogaaDoor
