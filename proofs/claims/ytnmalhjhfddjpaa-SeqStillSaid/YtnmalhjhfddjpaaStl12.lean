/- SeqStill walked. -/
import Derived.Test.YtnmalhjhfddjpaaTwo
import Derived.Test.YtnmalhjhfddjpaaRst12
namespace Go.Proofs.Ytnmalhjhfddjpaa
set_option linter.unusedSimpArgs false
set_option linter.unusedVariables false
open Go Go.RowKit Go.ChangeMaps Go.MapKept Go.WideElems Go.Maps

/-- A run stands in memory, and nothing that was there before was turned. -/
structure One (W X : World) (L : Lay) (cs : List (List Ic)) (g : G) (N lo A hi : Nat) : Prop where
  a : RA X L g N lo A hi
  ca : L.ts.map TL.code = cs
  lo : W.heap.size ≤ lo
  bel : Below W.heap.size W X
section
variable {W X Y : World} {L : Lay} {cs : List (List Ic)} {g g' : G} {N M lo A hi : Nat}
theorem One.stay (h : One W X L cs g N lo A hi) (hb : Below X.heap.size X Y) : One W Y L cs g N lo A hi := ⟨h.a.below hb, h.ca, h.lo, h.bel.trans (hb.mono h.bel.size)⟩
theorem One.drewN (h : One W X L cs g N lo A hi) (n : Nat) : One W (X.drewN n) L cs g N lo A hi := h.stay ⟨rfl, rfl, rfl, Nat.le_refl _, fun _ _ => rfl⟩
theorem One.mono (h : One W X L cs g N lo A hi) (hN : N ≤ M) : One W X L cs g M lo A hi := ⟨h.a.mono hN, h.ca, h.lo, h.bel⟩
theorem One.alloc (h : One W X L cs g N lo A hi) (o : Obj) : One W (X.alloc o) L cs g N lo A hi := h.stay ((Below.refl _ _).alloc (Nat.le_refl _) o)
theorem One.ord (h : One W X L cs g N lo A hi) : lo ≤ hi ∧ hi ≤ X.heap.size := by
  have h3 := h.a.is.rb
  have h4 := h.a.is.ah
  have h7 := h.a.hi
  omega
/-- A row of the caller's own, behind the run, grew. -/
theorem One.grown (h : One W X L cs g N lo A hi) {v : Value} {B : Nat} (hg : X.grownBy Y v.ownBlock) (hv : ∀ b, v.ownBlock = some b → B ≤ b) (hB : hi ≤ B) : One W Y L cs g N lo A hi := by
  have ho := h.ord
  have hl := h.lo
  have no : ∀ k, k < hi → some k ≠ v.ownBlock := fun k hk e => by have := hv k e.symm; omega
  exact ⟨h.a.stay hg.size fun k _ hk => hg.block k (by omega) (no k hk), h.ca, h.lo, h.bel.trans ⟨hg.os, hg.tape, hg.output, hg.size, fun k hk => hg.block k (by have := h.bel.size; omega) (no k (by omega))⟩⟩
/-- What a turn leaves. -/
def OnP (W X : World) (L : Lay) (cs : List (List Ic)) (g : G) (N lo A hi : Nat) (a b c d : Int) (e : Ending) (w' : World) : Prop := e = .returned (.tuple #[.agg #[.int .i64 a, .int .i64 b, .int .i64 c], .int .i64 d]) ∧ One W w' L cs g N lo A hi ∧ Ch (fun b => lo ≤ b ∧ b < hi) X w'
theorem on_a (h : Hid (One W X L cs g N lo A hi)) {n fuel : Int} (hl : cs.length < 1000000) (hf : fuel ≤ 1000000) (hM : N + fuel.toNat < 1000000) {a b c d : Int} {f : Bool} (e : nextC cs n fuel g = (g', ⟨a, b, c, d, f⟩)) :
    Calls Try.prog 9 #[.pointer (some ⟨L.rb, 0, none⟩), .int .i64 n, .int .i64 fuel] X (OnP W X L cs g' (N + fuel.toNat) lo A hi a b c d) :=
  (nx_is (Lib.hid h.out.a) (Lib.hid h.out.ca) hl hf hM e).mono fun e' w' ⟨h1, h3, h4⟩ => ⟨h1, ⟨h3, h.out.ca, h.out.lo, h.out.bel.trans (h4.below h.out.bel.size fun b hb hs => by have := h.out.lo; omega)⟩, h4⟩
theorem own_far {B e size n : Nat} {v : Value} {xs : List Value} (h : X.ownsRow B e size v n xs) (hc : Ch (fun b => lo ≤ b ∧ b < hi) X Y) (hB : hi ≤ B) : Y.ownsRow B e size v n xs := by
  refine ⟨h.1, ?_⟩
  rcases h.2 with h0 | ⟨q, cap, cur, rfl, hq, hg, rest⟩
  · exact .inl h0
  · exact .inr ⟨q, cap, cur, rfl, hq, (hc.block q (Array.getElem?_eq_some_iff.1 hg).1 (by omega)).trans hg, rest⟩
theorem own_below2 {B e size n : Nat} {v : Value} {xs : List Value} (h : X.ownsRow B e size v n xs) (hb : Below X.heap.size X Y) : Y.ownsRow B e size v n xs := by
  refine ⟨h.1, ?_⟩
  rcases h.2 with h0 | ⟨q, cap, cur, rfl, hq, hg, rest⟩
  · exact .inl h0
  · exact .inr ⟨q, cap, cur, rfl, hq, (hb.block q (Array.getElem?_eq_some_iff.1 hg).1).trans hg, rest⟩
theorem ints_far {p : Option Addr} {l : List Int} (h : IntsAt X p l) (hc : Ch (fun b => lo ≤ b ∧ b < hi) X Y) (hp : ∀ a, p = some a → hi ≤ a.block) : IntsAt Y p l := fun i u hu => by
  obtain ⟨g, o, h1, h2, h3⟩ := h i u hu
  have := hp _ h1
  exact ⟨g, o, h1, Nat.lt_of_lt_of_le h2 hc.size, (hc.cell h2 (by simp at this; omega)).trans h3⟩
theorem own_other {B e e2 size s2 n n2 : Nat} {v v2 : Value} {xs ys : List Value} (h : X.ownsRow B e size v n xs) (h2 : X.ownsRow B e2 s2 v2 n2 ys) (hne : e ≠ e2) (hg : X.grownBy Y v2.ownBlock) : Y.ownsRow B e size v n xs := by
  refine ⟨h.1, ?_⟩
  rcases h.2 with h0 | ⟨q, cap, cur, rfl, hq, hb, rest⟩
  · exact .inl h0
  · refine .inr ⟨q, cap, cur, rfl, hq, (hg.block q (Array.getElem?_eq_some_iff.1 hb).1 fun e0 => ?_).trans hb, rest⟩
    rcases h2.2 with ⟨rfl, _⟩ | ⟨r, cap2, cur2, rfl, _, hb2, _⟩
    · cases e0
    · have e1 : q = r := by simpa [Value.ownBlock] using e0
      rw [e1, hb2] at hb
      simp only [Option.some.injEq, Obj.cells.injEq] at hb
      exact hne hb.2.1.symm
theorem own_ge {B e size n : Nat} {v : Value} {xs : List Value} (h : X.ownsRow B e size v n xs) : ∀ b, v.ownBlock = some b → B ≤ b := fun b e0 => by
  rcases h.2 with ⟨rfl, _⟩ | ⟨r, cap2, cur2, rfl, hr, _⟩
  · cases e0
  · have e1 : r = b := by simpa [Value.ownBlock] using e0
    omega
theorem info_int : (Try.prog.info? 3).map (fun i => (i.zero, i.size, i.bytes)) = some (some (.int .i64 0), 1, 8) := by kernel_rfl
theorem one_int {i : Int} : ∀ u ∈ ([.int .i64 i] : List Value), u.oneCell' = true := by
  intro u hu
  simp at hu
  subst hu
  rfl
/-- Where so many threads stand, and what one register of each has. -/
def pls (g : G) (k : Nat) : List Value := (List.range k).map fun (j : Nat) => .int .i64 (placeG g j)
def rgs (g : G) (k : Nat) : List Value := (List.range k).map fun (j : Nat) => .int .i64 (regG g j 1)
theorem pls_succ (g : G) (k : Nat) : pls g (k + 1) = pls g k ++ [.int .i64 (placeG g k)] := by simp [pls, List.range_succ]
theorem rgs_succ (g : G) (k : Nat) : rgs g (k + 1) = rgs g k ++ [.int .i64 (regG g k 1)] := by simp [rgs, List.range_succ]
theorem pls_cell {B n k : Nat} {v : Value} (h : X.ownsRow B 3 1 v n (pls g n)) (hk : k < n) : ∃ b c, v = .slice (some ⟨b, 0, none⟩) n c ∧ b < X.heap.size ∧ X.cell? ⟨b, k, none⟩ = some (.int .i64 (placeG g k)) := by
  rcases h.2 with ⟨_, e⟩ | ⟨b, c, cur, hv, _, hg, _, _, _, ht⟩
  · omega
  · have := row_cell (B := B) (cap := c) hg ht k (.int .i64 (placeG g k)) (by simp [pls, List.getElem?_range hk])
    rw [Nat.zero_add] at this
    exact ⟨b, c, hv, (Array.getElem?_eq_some_iff.1 hg).1, this⟩
theorem rgs_cell {B n k : Nat} {v : Value} (h : X.ownsRow B 2 1 v n (rgs g n)) (hk : k < n) : ∃ b c, v = .slice (some ⟨b, 0, none⟩) n c ∧ b < X.heap.size ∧ X.cell? ⟨b, k, none⟩ = some (.int .i64 (regG g k 1)) := by
  rcases h.2 with ⟨_, e⟩ | ⟨b, c, cur, hv, _, hg, _, _, _, ht⟩
  · omega
  · have := row_cell (B := B) (cap := c) hg ht k (.int .i64 (regG g k 1)) (by simp [rgs, List.getElem?_range hk])
    rw [Nat.zero_add] at this
    exact ⟨b, c, hv, (Array.getElem?_eq_some_iff.1 hg).1, this⟩
end
section
variable {W : World} {p q pt : Option Addr} {n cap m mcap nt ct : Nat} {cs : List (List Ic)} {l : List (Int × Int)} {mem : List Int}
set_option maxRecDepth 100000 in
set_option maxHeartbeats 4000000 in
theorem still_sb (hs : Hid (∀ X, Below W.heap.size W X → Calls Try.prog 7 #[.slice p n cap, .slice q m mcap] X fun e w' => e = .returned (.bool false) ∧ X = w')) :
    Calls Try.prog 5 #[.slice p n cap, .slice q m mcap, .slice pt nt ct] W fun e w' => e = .returned (.bool true) ∧ Below W.heap.size W w' := by
  go_enter Try.func5, Try.ntmps5
  go_wp2_with (first
    | (go_at_call 6; ((with_reducible refine (awake_any _).mono ?_); rintro ea w1 ⟨rfl, hb1⟩; have HB1 := Lib.hid hb1; clear hb1))
    | (go_at_call 7; ((with_reducible refine (hs.out _ HB1.out).mono ?_); rintro es ws ⟨rfl, rfl⟩)))
  go_ret
  exact ⟨rfl, HB1.out⟩
set_option maxRecDepth 100000 in
set_option maxHeartbeats 4000000 in
theorem still_0 (hs : Hid (∀ X, Below W.heap.size W X → Calls Try.prog 7 #[.slice p n cap, .slice q m mcap] X fun e w' => e = .returned (.bool true) ∧ X = w')) (h : 40 < nt) :
    Calls Try.prog 5 #[.slice p n cap, .slice q m mcap, .slice pt nt ct] W fun e w' => e = .returned (.bool true) ∧ Below W.heap.size W w' := by
  have d1 : decide ((40 : Int) < (nt : Int)) = true := by simp; omega
  go_enter Try.func5, Try.ntmps5
  go_wp2_with (first
    | (go_at_call 6; ((with_reducible refine (awake_any _).mono ?_); rintro ea w1 ⟨rfl, hb1⟩; have HB1 := Lib.hid hb1; clear hb1))
    | (go_at_call 7; ((with_reducible refine (hs.out _ HB1.out).mono ?_); rintro es ws ⟨rfl, rfl⟩)))
  go_ret
  exact ⟨rfl, HB1.out⟩
set_option maxRecDepth 100000 in
set_option maxHeartbeats 8000000 in
theorem still_in (hs : Hid (∀ X, Below W.heap.size W X → Calls Try.prog 7 #[.slice p n cap, .slice q m mcap] X fun e w' => e = .returned (.bool true) ∧ X = w')) (h0 : nt ≤ 40)
    (hn : Hid (∀ X, Below W.heap.size W X → Calls Try.prog 8 #[.slice p n cap, .slice q m mcap] X (NwP X cs mem))) (hcn : Hid (cs.length = n)) (hn6 : n ≤ 6) (hl : Hid (l.length = nt)) (hL : Hid (TurnsAt W pt l)) (hI : Hid (∀ u ∈ l, In6 u.2)) :
    Calls Try.prog 5 #[.slice p n cap, .slice q m mcap, .slice pt nt ct] W fun e w' => e = .returned (.bool true) ∧ Below W.heap.size W w' := by
  have d1 : decide ((40 : Int) < (nt : Int)) = false := by simp; omega
  have HCL : Hid (cs.length < 1000000) := Lib.hid (by rw [hcn.out]; omega)
  obtain ⟨ip, hip, hip0, hip1, hip2⟩ := info_parts info_int
  obtain ⟨ir, hir, hir0, hir1, hir2⟩ := info_parts info_i64
  go_enter Try.func5, Try.ntmps5
  go_wp2_with (first
    | (go_at_call 6; ((with_reducible refine (awake_any _).mono ?_); rintro ea w1 ⟨rfl, hb1⟩; have HB1 := Lib.hid hb1; clear hb1))
    | (go_at_call 7; ((with_reducible refine (hs.out _ HB1.out).mono ?_); rintro es ws ⟨rfl, rfl⟩))
    | (go_at_call 8; ((with_reducible refine (hn.out _ HB1.out).mono ?_); rintro e2 w2 hp; obtain ⟨L, A, rfl, ha, hca, hba⟩ := hp; have HO := Lib.hid (One.mk ha hca (Nat.le_refl _) hba); clear ha hca hba)))
  clear d1
  go_loopw [10] (fun i wr => ∃ (k N : Nat) (g : G), i = .int .i64 (k : Int) ∧ k ≤ nt ∧ N ≤ 30 * k ∧ Hid (One w1 wr L cs g N w1.heap.size A w2.heap.size)) (fun i _ => nt - (intOf i).toNat)
  case atStart => exact ⟨0, 0, _, rfl, Nat.zero_le _, Nat.le_refl _, HO⟩
  case round =>
    obtain ⟨wo, rfl⟩ : ∃ wo : World, wo = wr := ⟨_, rfl⟩
    obtain ⟨k, N, g, rfl, hk, hN, HT⟩ := hrel
    clear HO
    by_cases hlt : k < nt
    · obtain ⟨⟨t, f⟩, hu⟩ : ∃ u, l[k]? = some u := ⟨_, List.getElem?_eq_getElem (by rw [hl.out]; exact hlt)⟩
      obtain ⟨gg, o, rfl, hg, hc, hc'⟩ := hL.out k (t, f) hu
      have hf6 := hI.out _ (List.mem_of_getElem? hu)
      have HF6 : Hid (-9223372036854775808 ≤ f ∧ f ≤ 9223372036854775807) := Lib.hid hf6
      have hcw1 := (HB1.out.cell (p := ⟨gg, o + k * 2, none⟩) hg).trans hc
      have hcw1' := (HB1.out.cell (p := ⟨gg, o + k * 2 + 1, none⟩) hg).trans hc'
      have hgw1 := Nat.lt_of_lt_of_le hg HB1.out.size
      have HCW : Hid (∀ Y, Below w1.heap.size w1 Y → gg < Y.heap.size ∧ Y.cell? ⟨gg, o + k * 2, none⟩ = some (.int .i64 t) ∧ Y.cell? ⟨gg, o + k * 2 + 1, none⟩ = some (.int .i64 f)) := Lib.hid fun Y hY => ⟨Nat.lt_of_lt_of_le hgw1 hY.size, (hY.cell (p := ⟨gg, o + k * 2, none⟩) hgw1).trans hcw1, (hY.cell (p := ⟨gg, o + k * 2 + 1, none⟩) hgw1).trans hcw1'⟩
      obtain ⟨q0, q1, q2⟩ := HCW.out wo HT.out.bel
      have hk2 : (k : Int) < (nt : Int) := by omega
      have hk3 : (0 : Int) ≤ k := by omega
      clear hc hc' hu hcw1 hcw1' hgw1 hf6 hg
      go_wp2_with (fail)
      obtain ⟨B, hB⟩ : ∃ B, wo.heap.size = B := ⟨_, rfl⟩
      have HBB0 : Hid (w2.heap.size ≤ B) := Lib.hid (by (have := HT.out.ord.2; omega))
      go_loopw [12, 13, 14] (fun pv rv i wr => ∃ j : Nat, i = .int .i64 (j : Int) ∧ j ≤ n ∧ Hid (One w1 wr L cs g N w1.heap.size A w2.heap.size) ∧ Hid (B ≤ wr.heap.size) ∧ Hid (wr.ownsRow B 3 1 pv j (pls g j)) ∧ Hid (wr.ownsRow B 2 1 rv j (rgs g j))) (fun _ _ i _ => n - (intOf i).toNat)
      case atStart => exact ⟨0, rfl, Nat.zero_le _, HT, Lib.hid (by rw [hB]; exact Nat.le_refl _), Lib.hid ⟨rfl, .inl ⟨rfl, rfl⟩⟩, Lib.hid ⟨rfl, .inl ⟨rfl, rfl⟩⟩⟩
      case round =>
        obtain ⟨wi, rfl⟩ : ∃ wi : World, wi = wr := ⟨_, rfl⟩
        obtain ⟨j, rfl, hj, HTi, HBi, HP, HR⟩ := hrel
        obtain ⟨pp, pc, rfl⟩ := own_form HP.out
        obtain ⟨rp, rc, rfl⟩ := own_form HR.out
        clear HT
        have hbi := HBi.out
        by_cases hjl : j < n
        · have hj2 : (j : Int) < (n : Int) := by omega
          have hj3 : (0 : Int) ≤ j := by omega
          obtain ⟨pj, hpj⟩ : ∃ pj, placeG g (j : Int) = pj := ⟨_, rfl⟩
          obtain ⟨rj, hrj⟩ : ∃ rj, regG g (j : Int) 1 = rj := ⟨_, rfl⟩
          have HPJ := Lib.hid (And.intro hpj hrj)
          have HTL : Hid (L.ts.length < 1000000) := Lib.hid (by (have := congrArg List.length HTi.out.ca; simp at this; have := HCL.out; omega))
          have HPLC : Hid (∀ X, One w1 X L cs g N w1.heap.size A w2.heap.size → Calls Try.prog 12 #[.pointer (some ⟨L.rb, 0, none⟩), .int .i64 (j : Int)] X fun e w' => e = .returned (.int .i64 pj) ∧ X = w') := Lib.hid fun X hX => hpj ▸ place_any (Lib.hid hX.a) j HTL.out
          have HRGC : Hid (∀ X, One w1 X L cs g N w1.heap.size A w2.heap.size → Calls Try.prog 13 #[.pointer (some ⟨L.rb, 0, none⟩), .int .i64 (j : Int), .int .i64 1] X fun e w' => e = .returned (.int .i64 rj) ∧ X = w') := Lib.hid fun X hX => hrj ▸ reg_any (Lib.hid hX.a) j (by unfold In6; decide) HTL.out
          clear hpj hrj
          go_wp2_with (first
            | (go_at_call 12; ((with_reducible refine (HPLC.out _ HTi.out).mono ?_); rintro ep wp ⟨rfl, rfl⟩))
            | (at_builtin; refine wpList_append_own _ rfl (.tmp 54) (.tmp 58) 24 rfl B 3 ip (.int .i64 0) 1 8 Try.underlying24 hip hip0 hip1 hip2 rfl (by decide) (.slice pp j pc) j (pls g j) rfl (HP.out.alloc _) ⟨wi.heap.size, 0, none⟩ 1 1 [.int .i64 pj] rfl rfl (World.news_of_block (heap_alloc_new _ _)) one_int (by unfold maxLen; omega) (by omega) (by simp; omega) ?_; intro v3 w3 hown3 hgrow3 _; have HT3 : Hid (One w1 w3 L cs g N w1.heap.size A w2.heap.size) := Lib.hid ((HTi.out.alloc _).grown hgrow3 (own_ge HP.out) HBB0.out); have HR3 := Lib.hid (own_other (HR.out.alloc _) (HP.out.alloc _) (by decide) hgrow3); have HP3 := Lib.hid hown3; have HS3 : Hid (B ≤ w3.heap.size) := Lib.hid (by have := hgrow3.size; simp at this; omega); have hb3 := HS3.out; obtain ⟨p3, c3, rfl⟩ := own_form hown3; clear hown3 hgrow3)
            | (go_at_call 13; ((with_reducible refine (HRGC.out _ HT3.out).mono ?_); rintro ep wp ⟨rfl, rfl⟩))
            | (at_builtin; refine wpList_append_own _ rfl (.tmp 60) (.tmp 64) 23 rfl B 2 ir (.int .i64 0) 1 8 Try.underlying23 hir hir0 hir1 hir2 rfl (by decide) (.slice rp j rc) j (rgs g j) rfl (HR3.out.alloc _) ⟨w3.heap.size, 0, none⟩ 1 1 [.int .i64 rj] rfl rfl (World.news_of_block (heap_alloc_new _ _)) one_int (by unfold maxLen; omega) (by omega) (by simp; omega) ?_; intro v4 w4 hown4 hgrow4 _; have HT4 : Hid (One w1 w4 L cs g N w1.heap.size A w2.heap.size) := Lib.hid ((HT3.out.alloc _).grown hgrow4 (own_ge HR3.out) HBB0.out); have HP4 := Lib.hid (own_other (HP3.out.alloc _) (HR3.out.alloc _) (by decide) hgrow4); have HR4 := Lib.hid hown4; have HS4 : Hid (B ≤ w4.heap.size) := Lib.hid (by have := hgrow4.size; simp at this; omega); obtain ⟨p4, c4, rfl⟩ := own_form hown4; clear hown4 hgrow4))
          refine ⟨⟨j + 1, by go_num, by omega, HT4, HS4, Lib.hid (by rw [pls_succ, HPJ.out.1]; exact HP4.out), Lib.hid (by rw [rgs_succ, HPJ.out.2]; exact HR4.out)⟩, ?_⟩
          simp [intOf]
          omega
        · obtain rfl : j = n := by omega
          have HMM : Hid (g.mem.length < 1000000) := Lib.hid (by (have := HTi.out.a.len; have := HTi.out.a.sm; omega))
          have HM1 : Hid (Calls Try.prog 11 #[.pointer (some ⟨L.rb, 0, none⟩)] wi (CpI wi g.mem.length g.mem)) := Lib.hid (memory_any (Lib.hid HTi.out.a))
          obtain ⟨F, hmin⟩ : ∃ F : Int, (if (30 : Int) < f then (30 : Int) else f) = F := ⟨_, rfl⟩
          have HF : Hid (F ≤ 30 ∧ (F ≤ 0 ↔ f ≤ 0)) := Lib.hid (by rw [← hmin]; split <;> omega)
          obtain ⟨g', ⟨a, b, c, d, fi⟩, hx⟩ : ∃ g' r, nextC cs t F g = (g', r) := ⟨_, _, rfl⟩
          have HX := Lib.hid hx
          have HNF : Hid (F ≤ 1000000 ∧ N + F.toNat < 1000000 ∧ N + F.toNat ≤ N + 30) := Lib.hid (by have := HF.out.1; omega)
          clear hx q0 q1 q2
          obtain ⟨q0, q1, q2⟩ := HCW.out wi HTi.out.bel
          go_upto_region 21 with (first
            | (go_at_call 11; ((with_reducible refine HM1.out.mono ?_); rintro em w5 hp; obtain ⟨p5, c5, rfl, y1, y2, y3, hb5⟩ := hp; have HT5 := Lib.hid (HTi.out.stay hb5); have HI5 := Lib.hid (ints_of_mem y2); have HG5 : Hid (∀ a, p5 = some a → w2.heap.size ≤ a.block) := Lib.hid (fun a e => by have := y3 a e; have := HBB0.out; omega); have HP5 := Lib.hid (own_below2 HP.out hb5); have HR5 := Lib.hid (own_below2 HR.out hb5); obtain ⟨q05, q15, q25⟩ := HCW.out w5 HT5.out.bel; have HNX : Hid (Calls Try.prog 9 #[.pointer (some ⟨L.rb, 0, none⟩), .int .i64 t, .int .i64 F] w5 (OnP w1 w5 L cs g' (N + F.toNat) w1.heap.size A w2.heap.size a b c d)) := Lib.hid (on_a HT5 HCL.out HNF.out.1 HNF.out.2.1 HX.out); clear y1 y2 y3 hb5))
            | (go_at_call 9; ((with_reducible refine HNX.out.mono ?_); rintro e6 w6 hp; obtain ⟨rfl, ht, hch⟩ := hp; have HT6 := Lib.hid (ht.alloc (.cells #[.int .i64 a, .int .i64 b, .int .i64 c] 32)); have HE6 : Hid (Eb (w6.alloc (.cells #[.int .i64 a, .int .i64 b, .int .i64 c] 32)) w6.heap.size (.int .i64 a) (.int .i64 b) (.int .i64 c)) := Lib.hid (Eb.new rfl _ _ _); have HI6 := Lib.hid ((ints_far HI5.out hch HG5.out).stay ((Below.refl _ _).alloc (Nat.le_refl _) (.cells #[.int .i64 a, .int .i64 b, .int .i64 c] 32))); have HP6 := Lib.hid ((own_far HP5.out hch HBB0.out).alloc (.cells #[.int .i64 a, .int .i64 b, .int .i64 c] 32)); have HR6 := Lib.hid ((own_far HR5.out hch HBB0.out).alloc (.cells #[.int .i64 a, .int .i64 b, .int .i64 c] 32)); have HM2 : Hid (Calls Try.prog 11 #[.pointer (some ⟨L.rb, 0, none⟩)] (w6.alloc (.cells #[.int .i64 a, .int .i64 b, .int .i64 c] 32)) (CpI (w6.alloc (.cells #[.int .i64 a, .int .i64 b, .int .i64 c] 32)) g'.mem.length g'.mem)) := Lib.hid (memory_any (Lib.hid HT6.out.a)); clear ht hch))
            | (go_at_call 11; ((with_reducible refine HM2.out.mono ?_); rintro em w8 hp; obtain ⟨p8, c8, rfl, y1, y2, y3, hb8⟩ := hp; have HT8 := Lib.hid (HT6.out.stay hb8); have HI8 := Lib.hid (ints_of_mem y2); have HI58 := Lib.hid (HI6.out.stay hb8); have HE8 := Lib.hid (eb_stay HE6.out hb8); have HP8 := Lib.hid (own_below2 HP6.out hb8); have HR8 := Lib.hid (own_below2 HR6.out hb8); obtain ⟨q08, q18, q28⟩ := HCW.out w8 HT8.out.bel; clear y1 y2 y3 hb8)))
          have HTL : Hid (L.ts.length < 1000000) := Lib.hid (by (have := congrArg List.length HT6.out.ca; simp at this; have := HCL.out; omega))
          have hNF := HNF.out.2.2
          by_cases hst : f ≤ 0 ∨ d = 2
          · obtain ⟨e1, e2, e3, e4, e5⟩ := still_g (cs := cs) (n := t) (f := F) (g := g) (by rw [HX.out]; exact hst.imp HF.out.2.2 id)
            rw [HX.out] at e1 e2 e3 e4 e5
            simp only at e1 e2 e3 e4 e5
            subst e1 e2 e3 e4
            have key : (d = 2 ∧ f ≤ 0) ∨ (d = 2 ∧ ¬ f ≤ 0) ∨ (d = 3 ∧ f ≤ 0) := by omega
            clear hst e5
            rcases key with ⟨rfl, hf0⟩ | ⟨rfl, hf0⟩ | ⟨rfl, hf0⟩
            case' inl => have df : decide (f ≤ 0) = true := by simpa using hf0
            case' inr.inl => have df : decide (f ≤ 0) = false := by simpa using hf0
            case' inr.inr => have df : decide (f ≤ 0) = true := by simpa using hf0
            all_goals
              clear hf0
              go_wp2_with (first
                | (go_at_call 11; ((with_reducible refine HM2.out.mono ?_); rintro em w8 hp; obtain ⟨p8, c8, rfl, y1, y2, y3, hb8⟩ := hp; have HT8 := Lib.hid (HT6.out.stay hb8); have HI8 := Lib.hid (ints_of_mem y2); have HI58 := Lib.hid (HI6.out.stay hb8); have HE8 := Lib.hid (eb_stay HE6.out hb8); have HP8 := Lib.hid (own_below2 HP6.out hb8); have HR8 := Lib.hid (own_below2 HR6.out hb8); obtain ⟨q08, q18, q28⟩ := HCW.out w8 HT8.out.bel; obtain ⟨e8l, e80, e81, e82, _⟩ := HE8.out.facts; clear y1 y2 y3 hb8))
                | (go_at_call 10; ((with_reducible refine (num_same HMM.out HI58.out HI8.out).mono ?_); rintro eu wu ⟨rfl, jn, rfl⟩)))
              go_loopw [20] (fun i wr => ∃ jj qq : Nat, i = .int .i64 (jj : Int) ∧ jj ≤ j ∧ Hid (wr = w8.drewN qq)) (fun i _ => j - (intOf i).toNat)
              case atStart => exact ⟨0, jn, rfl, Nat.zero_le _, Lib.hid rfl⟩
              case round =>
                obtain ⟨w9, rfl⟩ : ∃ w9 : World, w9 = wr := ⟨_, rfl⟩
                obtain ⟨jj, qq, rfl, hjn, HW⟩ := hrel
                by_cases hjj : jj < j
                · have HT9 : Hid (One w1 w9 L cs g' (N + F.toNat) w1.heap.size A w2.heap.size) := Lib.hid (by rw [HW.out]; exact HT8.out.drewN qq)
                  have HP9 : Hid (w9.ownsRow B 3 1 (.slice pp j pc) j (pls g' j)) := Lib.hid (by rw [HW.out]; exact own_below2 HP8.out ⟨rfl, rfl, rfl, Nat.le_refl _, fun _ _ => rfl⟩)
                  have HR9 : Hid (w9.ownsRow B 2 1 (.slice rp j rc) j (rgs g' j)) := Lib.hid (by rw [HW.out]; exact own_below2 HR8.out ⟨rfl, rfl, rfl, Nat.le_refl _, fun _ _ => rfl⟩)
                  obtain ⟨b1, cc1, e1, hb1, hc1⟩ := pls_cell HP9.out hjj
                  obtain ⟨b2, cc2, e2, hb2, hc2⟩ := rgs_cell HR9.out hjj
                  simp only [Value.slice.injEq, true_and] at e1 e2
                  obtain ⟨rfl, rfl⟩ := e1
                  obtain ⟨rfl, rfl⟩ := e2
                  have hjj2 : (jj : Int) < (j : Int) := by omega
                  have hjj3 : (0 : Int) ≤ jj := by omega
                  obtain ⟨x1, hx1⟩ : ∃ x, placeG g' (jj : Int) = x := ⟨_, rfl⟩
                  obtain ⟨x2, hx2⟩ : ∃ x, regG g' (jj : Int) 1 = x := ⟨_, rfl⟩
                  rw [hx1] at hc1
                  rw [hx2] at hc2
                  have HPLC : Hid (∀ X, One w1 X L cs g' (N + F.toNat) w1.heap.size A w2.heap.size → Calls Try.prog 12 #[.pointer (some ⟨L.rb, 0, none⟩), .int .i64 (jj : Int)] X fun e w' => e = .returned (.int .i64 x1) ∧ X = w') := Lib.hid fun X hX => (hx1) ▸ place_any (Lib.hid hX.a) jj HTL.out
                  have HRGC : Hid (∀ X, One w1 X L cs g' (N + F.toNat) w1.heap.size A w2.heap.size → Calls Try.prog 13 #[.pointer (some ⟨L.rb, 0, none⟩), .int .i64 (jj : Int), .int .i64 1] X fun e w' => e = .returned (.int .i64 x2) ∧ X = w') := Lib.hid fun X hX => (hx2) ▸ reg_any (Lib.hid hX.a) jj (by unfold In6; decide) HTL.out
                  clear hx1 hx2
                  go_wp2_with (fail)
                  go_quiet ((first
                    | (go_at_call 12; exact Calls.quiet_of_same ((HPLC.out _ (HT9.out.drewN _)).mono fun e w' ⟨a, b⟩ => ⟨a, b.symm⟩))
                    | (go_at_call 13; exact Calls.quiet_of_same ((HRGC.out _ (HT9.out.drewN _)).mono fun e w' ⟨a, b⟩ => ⟨a, b.symm⟩))))
                  go_wp2_with (fail)
                  refine ⟨⟨jj + 1, qq + nq, by go_num, by omega, Lib.hid (by rw [HW.out, World.drewN_drewN])⟩, ?_⟩
                  simp [intOf]
                  omega
                · obtain rfl : jj = j := by omega
                  go_wp2_with (fail)
                  refine ⟨⟨k + 1, N + F.toNat, g', by go_num, by omega, by omega, Lib.hid (by rw [HW.out]; exact HT8.out.drewN qq)⟩, ?_⟩
                  simp [intOf]
                  omega
          · have df : decide (f ≤ 0) = false := by simp; omega
            have dd : (d == 2) = false := by simp; omega
            clear hst
            go_wp2_with (first
              | (go_at_call 11; ((with_reducible refine HM2.out.mono ?_); rintro em w8 hp; obtain ⟨p8, c8, rfl, y1, y2, y3, hb8⟩ := hp; have HT8 := Lib.hid (HT6.out.stay hb8); have HI8 := Lib.hid (ints_of_mem y2); have HI58 := Lib.hid (HI6.out.stay hb8); have HE8 := Lib.hid (eb_stay HE6.out hb8); have HP8 := Lib.hid (own_below2 HP6.out hb8); have HR8 := Lib.hid (own_below2 HR6.out hb8); obtain ⟨q08, q18, q28⟩ := HCW.out w8 HT8.out.bel; obtain ⟨e8l, e80, e81, e82, _⟩ := HE8.out.facts; clear y1 y2 y3 hb8)))
            go_loopw [20] (fun i wr => ∃ jj qq : Nat, i = .int .i64 (jj : Int) ∧ jj ≤ j ∧ Hid (wr = w8.drewN qq)) (fun i _ => j - (intOf i).toNat)
            case atStart => exact ⟨0, 0, rfl, Nat.zero_le _, Lib.hid rfl⟩
            case round =>
              obtain ⟨w9, rfl⟩ : ∃ w9 : World, w9 = wr := ⟨_, rfl⟩
              obtain ⟨jj, qq, rfl, hjn, HW⟩ := hrel
              by_cases hjj : jj < j
              · have HT9 : Hid (One w1 w9 L cs g' (N + F.toNat) w1.heap.size A w2.heap.size) := Lib.hid (by rw [HW.out]; exact HT8.out.drewN qq)
                have HP9 : Hid (w9.ownsRow B 3 1 (.slice pp j pc) j (pls g j)) := Lib.hid (by rw [HW.out]; exact own_below2 HP8.out ⟨rfl, rfl, rfl, Nat.le_refl _, fun _ _ => rfl⟩)
                have HR9 : Hid (w9.ownsRow B 2 1 (.slice rp j rc) j (rgs g j)) := Lib.hid (by rw [HW.out]; exact own_below2 HR8.out ⟨rfl, rfl, rfl, Nat.le_refl _, fun _ _ => rfl⟩)
                obtain ⟨b1, cc1, e1, hb1, hc1⟩ := pls_cell HP9.out hjj
                obtain ⟨b2, cc2, e2, hb2, hc2⟩ := rgs_cell HR9.out hjj
                simp only [Value.slice.injEq, true_and] at e1 e2
                obtain ⟨rfl, rfl⟩ := e1
                obtain ⟨rfl, rfl⟩ := e2
                have hjj2 : (jj : Int) < (j : Int) := by omega
                have hjj3 : (0 : Int) ≤ jj := by omega
                obtain ⟨x1, hx1⟩ : ∃ x, placeG g (jj : Int) = x := ⟨_, rfl⟩
                obtain ⟨x2, hx2⟩ : ∃ x, regG g (jj : Int) 1 = x := ⟨_, rfl⟩
                rw [hx1] at hc1
                rw [hx2] at hc2
                by_cases hjt : (jj : Int) = t
                · have hne : ((jj : Int) != t) = false := by simp [hjt]
                  clear hx1 hx2 hjt
                  go_wp2_with (fail)
                  go_quiet (fail)
                  go_wp2_with (fail)
                  refine ⟨⟨jj + 1, qq + nq, by go_num, by omega, Lib.hid (by rw [HW.out, World.drewN_drewN])⟩, ?_⟩
                  simp [intOf]
                  omega
                · have hne : ((jj : Int) != t) = true := by simpa using hjt
                  obtain ⟨o1, o2⟩ := other_g (cs := cs) (n := t) (f := F) (g := g) hjj3 hjt
                  rw [HX.out] at o1 o2
                  have HPLC : Hid (∀ X, One w1 X L cs g' (N + F.toNat) w1.heap.size A w2.heap.size → Calls Try.prog 12 #[.pointer (some ⟨L.rb, 0, none⟩), .int .i64 (jj : Int)] X fun e w' => e = .returned (.int .i64 x1) ∧ X = w') := Lib.hid fun X hX => (o1.trans hx1) ▸ place_any (Lib.hid hX.a) jj HTL.out
                  have HRGC : Hid (∀ X, One w1 X L cs g' (N + F.toNat) w1.heap.size A w2.heap.size → Calls Try.prog 13 #[.pointer (some ⟨L.rb, 0, none⟩), .int .i64 (jj : Int), .int .i64 1] X fun e w' => e = .returned (.int .i64 x2) ∧ X = w') := Lib.hid fun X hX => ((o2 1).trans hx2) ▸ reg_any (Lib.hid hX.a) jj (by unfold In6; decide) HTL.out
                  clear hx1 hx2 o1 o2 hjt
                  go_wp2_with (fail)
                  go_quiet ((first
                    | (go_at_call 12; exact Calls.quiet_of_same ((HPLC.out _ (HT9.out.drewN _)).mono fun e w' ⟨a, b⟩ => ⟨a, b.symm⟩))
                    | (go_at_call 13; exact Calls.quiet_of_same ((HRGC.out _ (HT9.out.drewN _)).mono fun e w' ⟨a, b⟩ => ⟨a, b.symm⟩))))
                  go_wp2_with (fail)
                  refine ⟨⟨jj + 1, qq + nq, by go_num, by omega, Lib.hid (by rw [HW.out, World.drewN_drewN])⟩, ?_⟩
                  simp [intOf]
                  omega
              · obtain rfl : jj = j := by omega
                go_wp2_with (fail)
                refine ⟨⟨k + 1, N + F.toNat, g', by go_num, by omega, by omega, Lib.hid (by rw [HW.out]; exact HT8.out.drewN qq)⟩, ?_⟩
                simp [intOf]
                omega
    · obtain rfl : k = nt := by omega
      go_wp2_with (fail)
      go_ret
      exact ⟨rfl, HB1.out.trans (HT.out.bel.mono HB1.out.size)⟩
end
end Go.Proofs.Ytnmalhjhfddjpaa
