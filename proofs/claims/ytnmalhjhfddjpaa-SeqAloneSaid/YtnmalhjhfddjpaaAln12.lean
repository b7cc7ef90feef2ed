/- SeqAlone walked. -/
import Derived.Test.YtnmalhjhfddjpaaTwo
import Derived.Test.YtnmalhjhfddjpaaRst12
namespace Go.Proofs.Ytnmalhjhfddjpaa
set_option linter.unusedSimpArgs false
set_option linter.unusedVariables false
open Go Go.RowKit Go.ChangeMaps Go.MapKept Go.WideElems Go.Maps

theorem RA.wide {X : World} {L : Lay} {g : G} {N lo A hi h2 : Nat} (h : RA X L g N lo A hi) (hh : hi ≤ h2) (hx : h2 ≤ X.heap.size) : RA X L g N lo A h2 :=
  { h with rh := fun b e => ⟨Nat.lt_of_lt_of_le (h.rh b e).1 hh, (h.rh b e).2⟩, hi := hx, is := { h.is with ah := Nat.le_trans h.is.ah hh, th := fun k t ht => { h.is.th k t ht with tb := ⟨(h.is.th k t ht).tb.1, Nat.lt_of_lt_of_le (h.is.th k t ht).tb.2 hh⟩, rm := ⟨(h.is.th k t ht).rm.1, Nat.lt_of_lt_of_le (h.is.th k t ht).rm.2 hh⟩, dm := ⟨(h.is.th k t ht).dm.1, Nat.lt_of_lt_of_le (h.is.th k t ht).dm.2 hh⟩, cp := fun a e => ⟨((h.is.th k t ht).cp a e).1, Nat.lt_of_lt_of_le ((h.is.th k t ht).cp a e).2 hh⟩ } } }
theorem two_gap {W w1 X w2 : World} {La Lb : Lay} {ca cb : List (List Ic)} {ga gb : G} {A1 A2 : Nat} (h1 : RA w1 La ga 0 W.heap.size A1 w1.heap.size) (c1 : La.ts.map TL.code = ca) (b1 : Below W.heap.size W w1) (hX : Below w1.heap.size w1 X) (h2 : RA w2 Lb gb 0 X.heap.size A2 w2.heap.size) (c2 : Lb.ts.map TL.code = cb) (b2 : Below X.heap.size X w2) : Two W w2 La Lb ca cb ga gb 0 0 W.heap.size A1 X.heap.size A2 w2.heap.size :=
  ⟨((h1.below hX).below b2).wide hX.size b2.size, h2, c1, c2, Nat.le_refl _, (b1.trans (hX.mono b1.size)).trans (b2.mono (Nat.le_trans b1.size hX.size))⟩
theorem g0_same {cs : List (List Ic)} {c0 : List Ic} {m1 m2 : List Int} (h : cs[0]? = some c0) : (G0 cs.length m1).ts[0]? = (G0 [c0].length m2).ts[0]? := by
  have := (List.getElem?_eq_some_iff.1 h).1
  simp [G0, List.getElem?_replicate, this]
theorem two_len {L : Lay} {cs : List (List Ic)} (h : L.ts.map TL.code = cs) (hl : cs.length < 1000000) : L.ts.length < 1000000 := by
  have := congrArg List.length h
  simp at this
  omega
/-- A row of one code. -/
theorem codes_one {X Y : World} {cp : Option Addr} {cap : Nat} {c : List Ic} (hc : CodeAt X cp c) {m : Nat} (hm : Y.heap[m]? = some (.cells #[.slice cp c.length cap] 40 (0, 0))) (hb : Below X.heap.size X Y) : CodesAt Y (some ⟨m, 0, none⟩) [c] := fun i u hu => by
  have hi : i < 1 := by
    have := (List.getElem?_eq_some_iff.1 hu).1
    simpa using this
  obtain rfl : i = 0 := by omega
  obtain rfl : c = u := by simpa using hu
  exact ⟨m, 0, rfl, (Array.getElem?_eq_some_iff.1 hm).1, cp, cap, by rw [cell_of_row _ _ _ _ _ _ hm]; rfl, hc.stay hb⟩
theorem new_one {X : World} {cp : Option Addr} {cc cl : Nat} {c0 : List Ic} (hc : CodeAt X cp c0) (hcl : c0.length = cl) (h : cl ≤ 100) : Calls Try.prog 8 #[.slice (some ⟨X.heap.size, 0, none⟩) 1 1, .slice none 0 0] (X.alloc (.cells #[.slice cp cl cc] 40)) (NwP (X.alloc (.cells #[.slice cp cl cc] 40)) [c0] []) :=
  new_any (by simp) (by simp) (Lib.hid (codes_one (cap := cc) hc (by rw [hcl]; exact heap_alloc_new X _) ((Below.refl _ _).alloc (Nat.le_refl _) _))) (Lib.hid (fun c hc => by
    have : c = c0 := by simpa using hc
    rw [this, hcl]
    omega)) (by simp) (by simp) (Lib.hid (fun i u hu => by simp at hu))
section
variable {W : World} {p q pt : Option Addr} {n cap m mcap nt ct : Nat} {cs : List (List Ic)} {l : List Int} {mem : List Int}
set_option maxRecDepth 100000 in
set_option maxHeartbeats 4000000 in
theorem alone_sb (hs : Hid (∀ X, Below W.heap.size W X → Calls Try.prog 7 #[.slice p n cap, .slice q m mcap] X fun e w' => e = .returned (.bool false) ∧ X = w')) :
    Calls Try.prog 4 #[.slice p n cap, .slice q m mcap, .slice pt nt ct] W fun e w' => e = .returned (.bool true) ∧ Below W.heap.size W w' := by
  go_enter Try.func4, Try.ntmps4
  go_wp2_with (first
    | (go_at_call 6; ((with_reducible refine (awake_any _).mono ?_); rintro ea w1 ⟨rfl, hb1⟩; have HB1 := Lib.hid hb1; clear hb1))
    | (go_at_call 7; ((with_reducible refine (hs.out _ HB1.out).mono ?_); rintro es ws ⟨rfl, rfl⟩)))
  go_ret
  exact ⟨rfl, HB1.out⟩
set_option maxRecDepth 100000 in
set_option maxHeartbeats 4000000 in
theorem alone_0 (hs : Hid (∀ X, Below W.heap.size W X → Calls Try.prog 7 #[.slice p n cap, .slice q m mcap] X fun e w' => e = .returned (.bool true) ∧ X = w')) (h : n = 0) :
    Calls Try.prog 4 #[.slice p n cap, .slice q m mcap, .slice pt nt ct] W fun e w' => e = .returned (.bool true) ∧ Below W.heap.size W w' := by
  subst h
  go_enter Try.func4, Try.ntmps4
  go_wp2_with (first
    | (go_at_call 6; ((with_reducible refine (awake_any _).mono ?_); rintro ea w1 ⟨rfl, hb1⟩; have HB1 := Lib.hid hb1; clear hb1))
    | (go_at_call 7; ((with_reducible refine (hs.out _ HB1.out).mono ?_); rintro es ws ⟨rfl, rfl⟩)))
  go_ret
  exact ⟨rfl, HB1.out⟩
set_option maxRecDepth 100000 in
set_option maxHeartbeats 4000000 in
theorem alone_1 (hs : Hid (∀ X, Below W.heap.size W X → Calls Try.prog 7 #[.slice p n cap, .slice q m mcap] X fun e w' => e = .returned (.bool true) ∧ X = w')) (h0 : 0 < n) (h : 40 < nt) :
    Calls Try.prog 4 #[.slice p n cap, .slice q m mcap, .slice pt nt ct] W fun e w' => e = .returned (.bool true) ∧ Below W.heap.size W w' := by
  have d0 : ((n : Int) == 0) = false := by simp; omega
  have d1 : decide ((40 : Int) < (nt : Int)) = true := by simp; omega
  go_enter Try.func4, Try.ntmps4
  go_wp2_with (first
    | (go_at_call 6; ((with_reducible refine (awake_any _).mono ?_); rintro ea w1 ⟨rfl, hb1⟩; have HB1 := Lib.hid hb1; clear hb1))
    | (go_at_call 7; ((with_reducible refine (hs.out _ HB1.out).mono ?_); rintro es ws ⟨rfl, rfl⟩)))
  go_ret
  exact ⟨rfl, HB1.out⟩
set_option maxRecDepth 100000 in
set_option maxHeartbeats 8000000 in
theorem alone_in (hs : Hid (∀ X, Below W.heap.size W X → Calls Try.prog 7 #[.slice p n cap, .slice q m mcap] X fun e w' => e = .returned (.bool true) ∧ X = w')) (hn0 : 0 < n) (h0 : nt ≤ 40)
    (hn : Hid (∀ X, Below W.heap.size W X → Calls Try.prog 8 #[.slice p n cap, .slice q m mcap] X (NwP X cs mem))) (hcs : Hid (cs.length < 1000000)) {c0 : List Ic} (hc0 : Hid (cs[0]? = some c0)) {cl : Nat} (hcl : Hid (c0.length = cl)) (hcl1 : cl ≤ 100)
    {g o cc : Nat} {cp : Option Addr} (hp : p = some ⟨g, o, none⟩) (hg : g < W.heap.size) (hcell : Hid (W.cell? ⟨g, o, none⟩ = some (.slice cp cl cc))) (hcd : Hid (CodeAt W cp c0)) (hl : Hid (l.length = nt)) (hL : Hid (IntsAt W pt l)) :
    Calls Try.prog 4 #[.slice p n cap, .slice q m mcap, .slice pt nt ct] W fun e w' => e = .returned (.bool true) ∧ Below W.heap.size W w' := by
  subst hp
  have d0 : ((n : Int) == 0) = false := by simp; omega
  have d1 : decide ((40 : Int) < (nt : Int)) = false := by simp; omega
  have hn1 : (0 : Int) < (n : Int) := by omega
  go_enter Try.func4, Try.ntmps4
  go_wp2_with (first
    | (go_at_call 6; ((with_reducible refine (awake_any _).mono ?_); rintro ea w1 ⟨rfl, hb1⟩; have HB1 := Lib.hid hb1; clear hb1))
    | (go_at_call 7; ((with_reducible refine (hs.out _ HB1.out).mono ?_); rintro es ws ⟨rfl, rfl⟩)))
  clear d0 d1
  have hcw := (HB1.out.cell (p := ⟨g, o, none⟩) hg).trans hcell.out
  have hgw := Nat.lt_of_lt_of_le hg HB1.out.size
  have HCW : Hid (∀ Y, Below w1.heap.size w1 Y → g < Y.heap.size ∧ Y.cell? ⟨g, o, none⟩ = some (.slice cp cl cc)) := Lib.hid fun Y hY => ⟨Nat.lt_of_lt_of_le hgw hY.size, (hY.cell (p := ⟨g, o, none⟩) hgw).trans hcw⟩
  go_loop [9] (fun i => ∃ k : Nat, i = .int .i64 (k : Int) ∧ k ≤ cl ∧ Hid (AloneC (c0.take k))) (fun i => cl - (intOf i).toNat)
  case atStart => exact ⟨0, rfl, Nat.zero_le _, Lib.hid (fun x hx => by simp at hx)⟩
  case round =>
    obtain ⟨k, rfl, hk, HK⟩ := hrel
    by_cases hlt : k < cl
    · obtain ⟨x, hx⟩ : ∃ x, c0[k]? = some x := ⟨_, List.getElem?_eq_getElem (by rw [hcl.out]; exact hlt)⟩
      obtain ⟨g2, o2, rfl, hg2, hat, _⟩ := hcd.out k x hx
      have hk0 := (HB1.out.cell (p := ⟨g2, o2 + k * 7, none⟩) hg2).trans hat.k
      have hg2w := Nat.lt_of_lt_of_le hg2 HB1.out.size
      have hk2 : (k : Int) < (cl : Int) := by omega
      have hk3 : (0 : Int) ≤ k := by omega
      obtain ⟨kk, hkk⟩ : ∃ kk, x.k = kk := ⟨_, rfl⟩
      rw [hkk] at hk0
      have HX := Lib.hid (And.intro hx hkk)
      clear hx hat hkk
      by_cases e4 : kk = 4
      · subst e4
        go_wp2_with (fail)
        go_ret
        exact ⟨rfl, HB1.out⟩
      by_cases e5 : kk = 5
      · subst e5
        clear e4
        go_wp2_with (fail)
        go_ret
        exact ⟨rfl, HB1.out⟩
      by_cases e9 : kk = 9
      · subst e9
        clear e4 e5
        go_wp2_with (fail)
        go_ret
        exact ⟨rfl, HB1.out⟩
      by_cases e10 : kk = 10
      · subst e10
        clear e4 e5 e9
        go_wp2_with (fail)
        go_ret
        exact ⟨rfl, HB1.out⟩
      have HE : Hid (AloneC (c0.take (k + 1))) := Lib.hid (by
        intro y hy
        rw [List.take_add_one, HX.out.1] at hy
        rcases List.mem_append.1 hy with hy | hy
        · exact HK.out y hy
        · simp at hy
          rw [hy, HX.out.2]
          exact ⟨e4, e5, e9, e10⟩)
      have q4 : (kk == 4) = false := by simpa using e4
      have q5 : (kk == 5) = false := by simpa using e5
      have q9 : (kk == 9) = false := by simpa using e9
      have q10 : (kk == 10) = false := by simpa using e10
      clear e4 e5 e9 e10
      go_wp2_with (fail)
      go_round
      case rel => exact ⟨k + 1, by go_num, by omega, HE⟩
      case measure => simp [intOf]; omega
    · obtain rfl : k = cl := by omega
      have HA : Hid (AloneC c0) := Lib.hid (by (have := HK.out; rwa [List.take_of_length_le (by rw [hcl.out]; exact Nat.le_refl _)] at this))
      have HCD := Lib.hid (hcd.out.stay HB1.out)
      clear HK
      go_wp2_with (first
        | (go_at_call 8; ((with_reducible refine (hn.out _ HB1.out).mono ?_); rintro e2 w2 hp; obtain ⟨La, A1, rfl, ha, hca, hba⟩ := hp; have HNA := Lib.hid (And.intro ha (And.intro hca hba)); obtain ⟨gl, gc⟩ := HCW.out w2 hba; have HNB : Hid (Calls Try.prog 8 #[.slice (some ⟨w2.heap.size, 0, none⟩) 1 1, .slice none 0 0] (w2.alloc (.cells #[.slice cp k cc] 40)) (NwP (w2.alloc (.cells #[.slice cp k cc] 40)) [c0] [])) := Lib.hid (new_one (HCD.out.stay hba) hcl.out hcl1); clear ha hca hba))
        | (go_at_call 8; ((with_reducible refine HNB.out.mono ?_); rintro e3 w3 hp; obtain ⟨Lb, A2, rfl, hb, hcb, hbb⟩ := hp; have HTW := Lib.hid (two_gap HNA.out.1 HNA.out.2.1 HNA.out.2.2 ((Below.refl _ _).alloc (Nat.le_refl _) _) hb hcb hbb); clear hb hcb hbb)))
      obtain ⟨l2, hl2⟩ : ∃ l2, (w2.alloc (.cells #[.slice cp k cc] 40)).heap.size = l2 := ⟨_, rfl⟩
      rw [hl2] at HTW
      clear hl2 HNB
      go_loopw [13] (fun i wr => ∃ (j N : Nat) (ga gb : G), i = .int .i64 (j : Int) ∧ j ≤ nt ∧ N ≤ 30 * j ∧ Hid (ga.ts[0]? = gb.ts[0]?) ∧ Hid (Two w1 wr La Lb cs [c0] ga gb N N w1.heap.size A1 l2 A2 w3.heap.size)) (fun i _ => nt - (intOf i).toNat)
      case atStart => exact ⟨0, 0, _, _, rfl, Nat.zero_le _, Nat.le_refl _, Lib.hid (g0_same hc0.out), HTW⟩
      case round =>
        obtain ⟨wo, rfl⟩ : ∃ wo : World, wo = wr := ⟨_, rfl⟩
        obtain ⟨j, N, ga, gb, rfl, hj, hN, HG, HT⟩ := hrel
        clear HTW
        by_cases hjl : j < nt
        · obtain ⟨u, hu⟩ : ∃ u, l[j]? = some u := ⟨_, List.getElem?_eq_getElem (by rw [hl.out]; exact hjl)⟩
          obtain ⟨g4, o4, rfl, hg4, hc4⟩ := hL.out j u hu
          have hcw4 := (HB1.out.cell (p := ⟨g4, o4 + j, none⟩) hg4).trans hc4
          have hgw4 := Nat.lt_of_lt_of_le hg4 HB1.out.size
          have HCU : Hid (∀ Y, Below w1.heap.size w1 Y → g4 < Y.heap.size ∧ Y.cell? ⟨g4, o4 + j, none⟩ = some (.int .i64 u)) := Lib.hid fun Y hY => ⟨Nat.lt_of_lt_of_le hgw4 hY.size, (hY.cell (p := ⟨g4, o4 + j, none⟩) hgw4).trans hcw4⟩
          obtain ⟨y0, y1⟩ := HCU.out wo HT.out.bel
          have hj2 : (j : Int) < (nt : Int) := by omega
          have hj3 : (0 : Int) ≤ j := by omega
          obtain ⟨ga', ⟨a, b, c, d, fi⟩, hx⟩ : ∃ g' r, nextC cs u 30 ga = (g', r) := ⟨_, _, rfl⟩
          have HX := Lib.hid hx
          have HNX : Hid (Calls Try.prog 9 #[.pointer (some ⟨La.rb, 0, none⟩), .int .i64 u, .int .i64 30] wo (TwP w1 wo La Lb cs [c0] ga' gb (N + 30) N w1.heap.size A1 l2 A2 w3.heap.size a b c d)) := Lib.hid (tw_a HT hcs.out (by decide) (by show N + 30 < 1000000; omega) hx)
          clear hc4 hu hcw4 hx hg4
          by_cases hu0 : u = 0
          · subst hu0
            obtain ⟨gb', ⟨a9, b9, c9, d9, f9⟩, hx9⟩ : ∃ g' r, nextC [c0] 0 30 gb = (g', r) := ⟨_, _, rfl⟩
            have hal := next_alone hc0.out HA.out (f := 30) HG.out
            rw [HX.out, hx9] at hal
            obtain ⟨hts, hrr⟩ := hal
            simp only [Rs.mk.injEq] at hrr
            obtain ⟨rfl, rfl, rfl, rfl, rfl⟩ := hrr
            have HX9 := Lib.hid hx9
            obtain ⟨pc, hpc⟩ : ∃ pc, placeG ga' 0 = pc := ⟨_, rfl⟩
            have hpc2 : placeG gb' 0 = pc := by
              rw [← hpc]
              unfold placeG
              simp only [Int.le_refl, if_true, show (0 : Int).toNat = 0 from rfl, hts]
            have HTS := Lib.hid hts
            clear hts hx9
            go_wp2_with (first
              | (go_at_call 9; ((with_reducible refine HNX.out.mono ?_); rintro e4 w4 hp; obtain ⟨rfl, ht, hch⟩ := hp; have HT4 := Lib.hid (ht.alloc (.cells #[.int .i64 a, .int .i64 b, .int .i64 c] 32)); have HE4 : Hid (Eb (w4.alloc (.cells #[.int .i64 a, .int .i64 b, .int .i64 c] 32)) w4.heap.size (.int .i64 a) (.int .i64 b) (.int .i64 c)) := Lib.hid (Eb.new rfl _ _ _); have HM4 : Hid (w3.heap.size ≤ w4.heap.size) := Lib.hid ht.ord.2.2; obtain ⟨y04, y14⟩ := HCU.out w4 ht.bel; have HN5 : Hid (Calls Try.prog 9 #[.pointer (some ⟨Lb.rb, 0, none⟩), .int .i64 0, .int .i64 30] (w4.alloc (.cells #[.int .i64 a, .int .i64 b, .int .i64 c] 32)) (TwP w1 (w4.alloc (.cells #[.int .i64 a, .int .i64 b, .int .i64 c] 32)) La Lb cs [c0] ga' gb' (N + 30) (N + 30) w1.heap.size A1 l2 A2 w3.heap.size a b c d)) := Lib.hid (tw_b HT4 (by simp) (by decide) (by show N + 30 < 1000000; omega) HX9.out); clear ht hch))
              | (go_at_call 9; ((with_reducible refine HN5.out.mono ?_); rintro e5 w5 hp; obtain ⟨rfl, ht, hch⟩ := hp; have HT5 := Lib.hid (ht.alloc (.cells #[.int .i64 a, .int .i64 b, .int .i64 c] 32)); have HE5 := Lib.hid (eb_two hch HE4.out HM4.out); obtain ⟨el5, e50, e51, e52, _⟩ := HE5.out.facts; have HPA : Hid (Calls Try.prog 12 #[.pointer (some ⟨La.rb, 0, none⟩), .int .i64 0] (w5.alloc (.cells #[.int .i64 a, .int .i64 b, .int .i64 c] 32)) fun e w' => e = .returned (.int .i64 pc) ∧ (w5.alloc (.cells #[.int .i64 a, .int .i64 b, .int .i64 c] 32)) = w') := Lib.hid (hpc ▸ place_any (Lib.hid HT5.out.a) 0 (two_len HT5.out.ca hcs.out)); have HPB : Hid (Calls Try.prog 12 #[.pointer (some ⟨Lb.rb, 0, none⟩), .int .i64 0] (w5.alloc (.cells #[.int .i64 a, .int .i64 b, .int .i64 c] 32)) fun e w' => e = .returned (.int .i64 pc) ∧ (w5.alloc (.cells #[.int .i64 a, .int .i64 b, .int .i64 c] 32)) = w') := Lib.hid (hpc2 ▸ place_any (Lib.hid HT5.out.b) 0 (two_len HT5.out.cb (by simp))); clear ht hch))
              | (go_at_call 12; ((with_reducible refine HPA.out.mono ?_); rintro ep wp ⟨rfl, rfl⟩))
              | (go_at_call 12; ((with_reducible refine HPB.out.mono ?_); rintro ep wp ⟨rfl, rfl⟩)))
            refine ⟨⟨j + 1, N + 30, ga', gb', by go_num, by omega, by omega, HTS, HT5⟩, ?_⟩
            simp [intOf]
            omega
          · have hun : (u != 0) = true := by simpa using hu0
            have HTS : Hid (ga'.ts[0]? = gb.ts[0]?) := Lib.hid (by
              have := next_ts (cs := cs) (n := u) (f := 30) (g := ga) (j := 0) (fun e => hu0 e.symm)
              rw [HX.out] at this
              exact this.trans HG.out)
            clear hu0
            go_wp2_with (first
              | (go_at_call 9; ((with_reducible refine HNX.out.mono ?_); rintro e4 w4 hp; obtain ⟨rfl, ht, hch⟩ := hp; have HT4 := Lib.hid (ht.alloc (.cells #[.int .i64 a, .int .i64 b, .int .i64 c] 32)); obtain ⟨y04, y14⟩ := HCU.out w4 ht.bel; clear ht hch)))
            refine ⟨⟨j + 1, N + 30, ga', gb, by go_num, by omega, by omega, HTS, Lib.hid (HT4.out.mono (Nat.le_refl _) (by omega))⟩, ?_⟩
            simp [intOf]
            omega
        · go_wp2_with (fail)
          go_ret
          exact ⟨rfl, HB1.out.trans (HT.out.bel.mono HB1.out.size)⟩
end
end Go.Proofs.Ytnmalhjhfddjpaa
