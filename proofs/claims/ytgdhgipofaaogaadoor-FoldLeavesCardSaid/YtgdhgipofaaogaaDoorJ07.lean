/- Lemmas for the laws of live (Ffo Fip Fcq Fcw Fkw Fsa Faw Right Rhs Rck): each says its own conditions. -/
import Derived.Test.YtgdhgipofaaogaaDoorJ06
import Derived.Test.YtgdhgipofaaogaaDoorJ05
import Derived.Test.YtgdhgipofaaogaaDoorJ02
import Derived.Test.YtgdhgipofaaogaaDoorJ01
import Derived.Deep.QuietTactic
import Derived.Deep.Cut
import Derived.BigQuiet
set_option linter.unusedSimpArgs false
set_option linter.unusedVariables false
namespace Go.Proofs.YtgdhgipofaaogaaDoor
open Go Go.RowKit Gm

theorem info_mf : (Tryd.prog.info? 100).map (fun i => (i.zero, i.size, i.bytes)) = some (some (.map none), 1, 8) := by kernel_rfl
theorem info_ml : (Tryd.prog.info? 101).map (fun i => (i.zero, i.size, i.bytes)) = some (some (.map none), 1, 8) := by kernel_rfl
theorem make_mf (m : Nat) (hm : m ≤ 10000001) (W : World) : (Instr.makeSlice 62 (.int .i64 m) (.int .i64 m)).run Tryd.prog W = .ok (.slice (some ⟨W.heap.size, 0, none⟩) m m) (W.alloc (.cells (rw_ m fun _ => .map none).toArray 100)) := make_of Tryd.underlying62 info_mf rfl m hm (by decide) W
theorem make_ml (m : Nat) (hm : m ≤ 10000001) (W : World) : (Instr.makeSlice 63 (.int .i64 m) (.int .i64 m)).run Tryd.prog W = .ok (.slice (some ⟨W.heap.size, 0, none⟩) m m) (W.alloc (.cells (rw_ m fun _ => .map none).toArray 101)) := make_of Tryd.underlying63 info_ml rfl m hm (by decide) W
def QofP (W : World) (m : Nat) (e : Ending) (w' : World) : Prop := ∃ rb, e = .returned (.agg #[.slice none 0 0, .slice (some ⟨rb, 0, none⟩) m m]) ∧ W.heap.size ≤ rb ∧ FV 64 w' rb m (fun _ => .slice none 0 0) ∧ Below W.heap.size W w'
set_option maxRecDepth 100000 in
set_option maxHeartbeats 1000000 in
theorem queueOf_c {W : World} {m : Nat} (hm : m ≤ 5000) : Calls Tryd.prog 38 #[.int .i64 m] W (QofP W m) := by
  have hmk := make_ii m (by omega)
  go_enter Tryd.func38, Tryd.ntmps38
  go_wp2
  have s1 : (W.alloc (.cells #[.slice none 0 0, .slice (some ⟨W.heap.size + 1, 0, none⟩) m m] 67)).heap.size = W.heap.size + 1 := World.size_alloc ..
  refine bodyPost_ret (results_cell_row (p := 2) (ty := 67) (by kernel_rfl) _ _ W.heap.size 67 _ (0, 0) _ (by rfl) ((heap_alloc_old _ _ (by rw [s1]; omega)).trans (heap_alloc_new _ _)) Tryd.underlying67 rfl (by kernel_rfl)) rfl ⟨W.heap.size + 1, rfl, by omega, FV.new s1.symm (by simp), ((Below.refl _ _).alloc (Nat.le_refl _) _).alloc (by rw [s1]; omega) _⟩
/-- What factsOf makes. -/
structure Fx (B : Nat) (X : World) (g kb lb sb ra rw n : Nat) (F : Nat → Value) (pc : Option Addr) (cap : Nat) (c : List Ic) (rc tg : Nat → Bool) (fr : Nat → List Nat) : Prop where
  fv : FV 69 X g 8 F
  f0 : F 0 = .slice pc n cap
  f1 : F 1 = .slice (some ⟨sb, 0, none⟩) n n
  f2 : F 2 = .slice (some ⟨kb, 0, none⟩) n n
  f3 : F 3 = .slice (some ⟨lb, 0, none⟩) n n
  f4 : F 4 = .slice none 0 0
  f5 : F 5 = .slice (some ⟨ra, 0, none⟩) n n
  f6 : F 6 = .slice none 0 0
  f7 : F 7 = .slice (some ⟨rw, 0, none⟩) n n
  kv : FV 100 X kb n (fun _ => .map none)
  lv : FV 101 X lb n (fun _ => .map none)
  av : FV 64 X ra n (fun _ => .slice none 0 0)
  wv : FV 64 X rw n (fun _ => .slice none 0 0)
  ne : ra ≠ rw
  lo : B ≤ g ∧ B ≤ kb ∧ B ≤ lb ∧ B ≤ sb ∧ B ≤ ra ∧ B ≤ rw
  st : StM X sb n c rc tg fr
  ts : ∃ cs f, X.heap[sb]? = some (.cells cs 75 f)
  stp : Stp c fr tg
  rci : ∀ p, rc p = true ↔ Rc c p
  frl : ∀ p, (fr p).length ≤ 2 * n
  sto : ∀ i p k cap, X.cell? ⟨sb, i, none⟩ = some (.slice (some p) k cap) → B ≤ p.block ∧ p.block < X.heap.size ∧ TyI X p.block
def FactsP (W : World) (c : List Ic) (n : Nat) (pc : Option Addr) (cap : Nat) (e : Ending) (w' : World) : Prop := ∃ g kb lb sb ra rw F rc tg fr, e = .returned (.pointer (some ⟨g, 0, none⟩)) ∧ Fx W.heap.size w' g kb lb sb ra rw n F pc cap c rc tg fr ∧ Below W.heap.size W w'
def StV (B : Nat) (c : List Ic) (n : Nat) (v : Value) (X : World) : Prop := ∃ (sb : Nat) (rc tg : Nat → Bool) (fr : Nat → List Nat), v = .slice (some ⟨sb, 0, none⟩) n n ∧ B ≤ sb ∧ StM X sb n c rc tg fr ∧ Stp c fr tg ∧ (∀ p, rc p = true ↔ Rc c p) ∧ (∀ p, (fr p).length ≤ 2 * n) ∧ (∀ i p k cap, X.cell? ⟨sb, i, none⟩ = some (.slice (some p) k cap) → B ≤ p.block ∧ p.block < X.heap.size ∧ TyI X p.block) ∧ ∃ cs f, X.heap[sb]? = some (.cells cs 75 f)
theorem StV.stay {B n : Nat} {c : List Ic} {v : Value} {X Y : World} (h : StV B c n v X) (hb : Below X.heap.size X Y) : StV B c n v Y := by
  obtain ⟨sb, rc, tg, fr, h1, h2, h3, h4, h5, h6, h7, cs, f, h8⟩ := h
  refine ⟨sb, rc, tg, fr, h1, h2, h3.stay hb, h4, h5, h6, fun i p k cap e => ?_, cs, f, (hb.block sb h3.sl).trans h8⟩
  rw [hb.cell (p := ⟨sb, i, none⟩) h3.sl] at e
  obtain ⟨e1, e2, e3⟩ := h7 i p k cap e
  exact ⟨e1, Nat.lt_of_lt_of_le e2 hb.size, e3.ch (S := fun _ => False) (Ch.of hb) id⟩
def QV (B n : Nat) (v : Value) (X : World) : Prop := ∃ rb, v = .agg #[.slice none 0 0, .slice (some ⟨rb, 0, none⟩) n n] ∧ B ≤ rb ∧ FV 64 X rb n (fun _ => .slice none 0 0)
def RwV (T : TypeId) (B n : Nat) (v : Value) (X : World) : Prop := ∃ kb, v = .slice (some ⟨kb, 0, none⟩) n n ∧ B ≤ kb ∧ FV T X kb n (fun _ => .map none)
/-- What build lays. -/
def BV (B : Nat) (c : List Ic) (n : Nat) (pc : Option Addr) (cap : Nat) (v : Value) (X : World) : Prop := ∃ v1 v2 v3 ra rw, v = .agg #[.slice pc n cap, v1, v2, v3, .slice none 0 0, .slice (some ⟨ra, 0, none⟩) n n, .slice none 0 0, .slice (some ⟨rw, 0, none⟩) n n] ∧ StV B c n v1 X ∧ RwV 100 B n v2 X ∧ RwV 101 B n v3 X ∧ ra ≠ rw ∧ QV B n (.agg #[.slice none 0 0, .slice (some ⟨ra, 0, none⟩) n n]) X ∧ QV B n (.agg #[.slice none 0 0, .slice (some ⟨rw, 0, none⟩) n n]) X
def FV2 (B : Nat) (c : List Ic) (n : Nat) (pc : Option Addr) (cap : Nat) (v : Value) (X : World) : Prop := ∃ g kb lb sb ra rw F rc tg fr, v = .pointer (some ⟨g, 0, none⟩) ∧ Fx B X g kb lb sb ra rw n F pc cap c rc tg fr
def PrF (B : Nat) (c : List Ic) (n : Nat) (pc : Option Addr) (cap : Nat) (k : Nat) (v : Value) (X : World) : Prop :=
  match k with
  | 0 => v = .slice pc n cap
  | 1 => v = .slice pc n cap
  | 2 => StV B c n v X
  | 3 => v = .int .i64 n
  | 4 => RwV 100 B n v X
  | 5 => v = .int .i64 n
  | 6 => RwV 101 B n v X
  | 7 => v = .int .i64 n
  | 8 => QV B n v X
  | 9 => v = .int .i64 n
  | 10 => QV B n v X
  | 11 => BV B c n pc cap v X
  | 12 => FV2 B c n pc cap v X
  | 13 => FV2 B c n pc cap v X
  | _ => True
theorem QV.stay {B n : Nat} {v : Value} {X Y : World} (h : QV B n v X) (hb : Below X.heap.size X Y) : QV B n v Y := by
  obtain ⟨rb, h1, h2, h3⟩ := h
  exact ⟨rb, h1, h2, h3.stay hb⟩
theorem RwV.stay {T : TypeId} {B n : Nat} {v : Value} {X Y : World} (h : RwV T B n v X) (hb : Below X.heap.size X Y) : RwV T B n v Y := by
  obtain ⟨rb, h1, h2, h3⟩ := h
  exact ⟨rb, h1, h2, h3.stay hb⟩
theorem Fx.stay {B : Nat} {X Y : World} {g kb lb sb ra rw n : Nat} {F : Nat → Value} {pc : Option Addr} {cap : Nat} {c : List Ic} {rc tg : Nat → Bool} {fr : Nat → List Nat} (h : Fx B X g kb lb sb ra rw n F pc cap c rc tg fr) (hb : Below X.heap.size X Y) : Fx B Y g kb lb sb ra rw n F pc cap c rc tg fr := by
  refine ⟨h.fv.stay hb, h.f0, h.f1, h.f2, h.f3, h.f4, h.f5, h.f6, h.f7, h.kv.stay hb, h.lv.stay hb, h.av.stay hb, h.wv.stay hb, h.ne, h.lo, h.st.stay hb, ?_, h.stp, h.rci, h.frl, fun i p k cap e => ?_⟩
  · obtain ⟨cs, f, e⟩ := h.ts
    exact ⟨cs, f, (hb.block sb h.st.sl).trans e⟩
  · rw [hb.cell (p := ⟨sb, i, none⟩) h.st.sl] at e
    obtain ⟨e1, e2, e3⟩ := h.sto i p k cap e
    exact ⟨e1, Nat.lt_of_lt_of_le e2 hb.size, e3.ch (S := fun _ => False) (Ch.of hb) id⟩
theorem PrF.stay {B : Nat} {c : List Ic} {n : Nat} {pc : Option Addr} {cap : Nat} {X Y : World} (hb : Below X.heap.size X Y) (j : Nat) (u : Value) (hj : j < 14) (h : PrF B c n pc cap j u X) : PrF B c n pc cap j u Y := by
  have hcase : j = 0 ∨ j = 1 ∨ j = 2 ∨ j = 3 ∨ j = 4 ∨ j = 5 ∨ j = 6 ∨ j = 7 ∨ j = 8 ∨ j = 9 ∨ j = 10 ∨ j = 11 ∨ j = 12 ∨ j = 13 := by omega
  rcases hcase with rfl | rfl | rfl | rfl | rfl | rfl | rfl | rfl | rfl | rfl | rfl | rfl | rfl | rfl
  · exact h
  · exact h
  · exact StV.stay h hb
  · exact h
  · exact RwV.stay h hb
  · exact h
  · exact RwV.stay h hb
  · exact h
  · exact QV.stay h hb
  · exact h
  · exact QV.stay h hb
  · obtain ⟨v1, v2, v3, ra, rw, e, h1, h2, h3, h4, h5, h6⟩ := h
    exact ⟨v1, v2, v3, ra, rw, e, h1.stay hb, h2.stay hb, h3.stay hb, h4, h5.stay hb, h6.stay hb⟩
  · obtain ⟨g, kb, lb, sb, ra, rw, F, rc, tg, fr, e, h⟩ := h
    exact ⟨g, kb, lb, sb, ra, rw, F, rc, tg, fr, e, h.stay hb⟩
  · obtain ⟨g, kb, lb, sb, ra, rw, F, rc, tg, fr, e, h⟩ := h
    exact ⟨g, kb, lb, sb, ra, rw, F, rc, tg, fr, e, h.stay hb⟩
def dstF (k : Nat) : Nat := if k = 13 then 2 else 6 + k
theorem dstF_inj {i k : Nat} (h : dstF i = dstF k) (hi : i < 14) (hk : k < 14) : i = k := by
  unfold dstF at h
  split at h <;> split at h <;> omega
theorem put14 {B : Nat} {c : List Ic} {n : Nat} {pc : Option Addr} {cap : Nat} {t0 : Array Value} {listed : Array Bool} {a : Act} {X Y : World} (h : InP 14 19 dstF (PrF B c n pc cap) t0 listed a X) (k d : Nat) (v : Value) (hk : k < 14) (hd : dstF k = d) (hb : Below X.heap.size X Y) (hv : PrF B c n pc cap k v Y) : InP 14 19 dstF (PrF B c n pc cap) t0 (listed.setIfInBounds k true) (a.put (some d) v) Y := by
  subst hd
  exact h.put hk (by unfold dstF; split <;> omega) (fun i hi e => dstF_inj e hi hk) (fun j u hj q => q.stay hb j u hj) hv
theorem none_yet14 : ∀ k, k < 14 → (Array.replicate 14 false).getD k false = false := by decide
/-- Both queues are apart. -/
def JF (n : Nat) (listed : Array Bool) (a : Act) : Prop := listed.getD 10 false = true → listed.getD 8 false = true ∧ ∃ ra rw, a.tmps.getD 14 undef = .agg #[.slice none 0 0, .slice (some ⟨ra, 0, none⟩) n n] ∧ a.tmps.getD 16 undef = .agg #[.slice none 0 0, .slice (some ⟨rw, 0, none⟩) n n] ∧ ra ≠ rw
theorem JF.put {n : Nat} {listed : Array Bool} {a : Act} (h : JF n listed a) (hs : a.tmps.size = 19) (k d : Nat) (v : Value) (hk : k ≠ 8) (hk2 : k ≠ 10) (hd : d ≠ 14) (hd2 : d ≠ 16) (hd3 : d < 19) : JF n (listed.setIfInBounds k true) (a.put (some d) v) := fun hl => by
  rcases getD_set listed k 10 hl with e | hl
  · exact absurd e.symm hk2
  · obtain ⟨h1, ra, rw, h2, h3, h4⟩ := h hl
    exact ⟨getD_set_old h1, ra, rw, by rw [getD_put a _ _ _ (by omega), if_neg (by omega)]; exact h2, by rw [getD_put a _ _ _ (by omega), if_neg (by omega)]; exact h3, h4⟩
theorem JF.at10 {n ra rb : Nat} {listed : Array Bool} {a : Act} (hs : a.tmps.size = 19) (h8 : listed.getD 8 false = true) (ea : a.tmps.getD 14 undef = .agg #[.slice none 0 0, .slice (some ⟨ra, 0, none⟩) n n]) (hne : ra ≠ rb) : JF n (listed.setIfInBounds 10 true) (a.put (some 16) (.agg #[.slice none 0 0, .slice (some ⟨rb, 0, none⟩) n n])) := fun _ =>
  ⟨getD_set_old h8, ra, rb, by rw [getD_put a _ _ _ (by omega), if_neg (by omega)]; exact ea, by rw [getD_put a _ _ _ (by omega), if_pos rfl], hne⟩
theorem JF.at8 {n : Nat} {listed : Array Bool} {a : Act} {v : Value} (h : JF n listed a) (hn : listed.getD 8 false = false) : JF n (listed.setIfInBounds 8 true) (a.put (some 14) v) := fun hl => by
  rcases getD_set listed 8 10 hl with e | hl
  · cases e
  · have h4 := (h hl).1
    rw [hn] at h4
    cases h4
theorem run_mk {P : Program} {o : Oper} {ev : Operand → Value} {t : TypeId} {x y : Operand} {n : Int} {v : Value} {w w' : World} (ho : o.op = .makeSlice t x y) (hx : ev x = .int .i64 n) (hy : ev y = .int .i64 n) (h : (Instr.makeSlice t (.int .i64 n) (.int .i64 n)).run P w = .ok v w') : (execOp ev o).run P w = .ok (.value v) w' := by
  unfold execOp
  rw [ho]
  simp [hx, hy, h, Result.andThen]
set_option maxRecDepth 100000 in
set_option maxHeartbeats 4000000 in
theorem facts_c {W : World} {n cap : Nat} {c : List Ic} {pc : Option Addr} (hK : Hid (Kinds W)) (hC : Hid (CodeAt W pc c)) (hl : c.length = n) (hn : n ≤ 5000) (hn0 : 0 < n) : Calls Tryd.prog 19 #[.slice pc n cap] W (FactsP W c n pc cap) := by
  go_enter Tryd.func19, Tryd.ntmps19
  go_upto_region 2 with (fail)
  refine name_act ?_
  intro a0 ha0
  have p0 : a0.tmps.getD 0 undef = .slice pc n cap := by (rw [ha0]; rfl)
  have p3 : a0.tmps.getD 3 undef = .int .i64 n := by (rw [ha0]; rfl)
  have q1 : a0.tmps.size = 19 := by (rw [ha0]; rfl)
  have q2 : a0.defers = [] := by (rw [ha0])
  clear ha0
  refine wp_region_any (by kernel_rfl) ?_
  refine wpAny_inv (fun listed a X => InP 14 19 dstF (PrF W.heap.size c n pc cap) a0.tmps listed a X ∧ Below W.heap.size W X ∧ JF n listed a) ?step ?fin _ _ _ _ ⟨⟨rfl, q1, q2, fun d _ => rfl, fun k hk hl => absurd ((none_yet14 k hk).symm.trans hl) (by simp)⟩, (Below.refl _ _).drew, fun hl => absurd ((none_yet14 10 (by decide)).symm.trans hl) (by simp)⟩ (by rfl) (by decide)
  case fin =>
    intro listed a X ⟨h1, h2, _⟩ hr
    have hl := all_came (by rw [h1.size]; rfl) hr (by decide +kernel) 13 (by decide)
    have h4 : FV2 W.heap.size c n pc cap (a.tmps.getD 2 undef) X := h1.new 13 (by decide) hl
    have h5 := h1.defs
    clear hr
    obtain ⟨g, kb, lb, sb, ra, rw, F, rc, tg, fr, t1, q3⟩ := h4
    have Z := Lib.hid (And.intro q3 h2)
    obtain ⟨tm, df⟩ := a
    simp only at t1 h5
    subst h5
    have h6 : tm[2]?.getD undef = .pointer (some ⟨g, 0, none⟩) := by (rw [← Array.getD_eq_getD_getElem?]; exact t1)
    clear h1 h2 hl t1 p0 p3 q1 q2 q3
    go_wp2
    go_ret
    exact ⟨g, kb, lb, sb, ra, rw, F, rc, tg, fr, by first | rfl | (simp [h6]; done), Z.out.1, Z.out.2⟩
  case step =>
    intro listed a X k ⟨h1, h2, h3⟩ hk
    have hlt : k < 14 := List.mem_range.1 (List.mem_filter.1 hk).1
    have hk2 := (List.mem_filter.1 hk).2
    have o0 : a.eval (.tmp 0) = .slice pc n cap := (h1.old 0 (by decide)).trans p0
    have o3 : a.eval (.tmp 3) = .int .i64 n := (h1.old 3 (by decide)).trans p3
    have hcase : k = 0 ∨ k = 1 ∨ k = 2 ∨ k = 3 ∨ k = 4 ∨ k = 5 ∨ k = 6 ∨ k = 7 ∨ k = 8 ∨ k = 9 ∨ k = 10 ∨ k = 11 ∨ k = 12 ∨ k = 13 := by omega
    rcases hcase with rfl | rfl | rfl | rfl | rfl | rfl | rfl | rfl | rfl | rfl | rfl | rfl | rfl | rfl
    · refine wpOp_of rfl rfl ?_
      exact wp_val (run_move (by first | exact .inl rfl | exact .inr rfl) o0) ⟨put14 h1 0 6 _ (by decide) rfl (Below.refl _ _) (rfl), h2, JF.put h3 h1.tsz 0 6 _ (by decide) (by decide) (by decide) (by decide) (by decide)⟩
    · refine wpOp_of rfl rfl ?_
      exact wp_val (run_move (by first | exact .inl rfl | exact .inr rfl) o0) ⟨put14 h1 1 7 _ (by decide) rfl (Below.refl _ _) (rfl), h2, JF.put h3 h1.tsz 1 7 _ (by decide) (by decide) (by decide) (by decide) (by decide)⟩
    · have hd1 : listed.getD 1 false = true := by simp [Region.binds] at hk2; simp only [Array.getD_eq_getD_getElem?]; simp [hk2]
      have e1 : a.eval (.tmp 7) = .slice pc n cap := h1.new 1 (by decide) hd1
      refine wpOp_of rfl rfl ?_
      refine wp_enter (f := 37) (args := #[a.eval (.tmp 7)]) ((Go.Conc.run_call_body rfl Tryd.func37 (by kernel_rfl) (by kernel_rfl)).trans (by simp)) ?_
      rw [e1]
      refine (steps_c (Lib.hid (hK.out.below h2)) (Lib.hid (hC.out.stay h2)) hl hn hn0).mono ?_
      rintro e w' ⟨sb, rc, tg, fr, rfl, q1, q2, q3, q4, q5, q6, q7, hb⟩
      have hb2 : Below X.heap.size X w' := hb
      exact ⟨_, rfl, ⟨put14 h1 2 8 _ (by decide) rfl hb2 ⟨sb, rc, tg, fr, rfl, Nat.le_trans h2.size q1, q2, q3, q4, q5, fun i p k cap e => ⟨Nat.le_trans h2.size (q6 i p k cap e).1, (q6 i p k cap e).2⟩, q7⟩, h2.trans (hb2.mono h2.size), JF.put h3 h1.tsz 2 8 _ (by decide) (by decide) (by decide) (by decide) (by decide)⟩⟩
    · refine wpOp_of rfl rfl ?_
      exact wp_val (run_move (by first | exact .inl rfl | exact .inr rfl) o3) ⟨put14 h1 3 9 _ (by decide) rfl (Below.refl _ _) (rfl), h2, JF.put h3 h1.tsz 3 9 _ (by decide) (by decide) (by decide) (by decide) (by decide)⟩
    · have hd3 : listed.getD 3 false = true := by simp [Region.binds] at hk2; simp only [Array.getD_eq_getD_getElem?]; simp [hk2]
      have e3 : a.eval (.tmp 9) = .int .i64 n := h1.new 3 (by decide) hd3
      have hb : Below X.heap.size X (X.alloc (.cells (rw_ n fun _ => .map none).toArray 100)) := (Below.refl _ _).alloc (Nat.le_refl _) _
      refine wpOp_val (w' := X.alloc (.cells (rw_ n fun _ => .map none).toArray 100)) (v := .slice (some ⟨X.heap.size, 0, none⟩) n n) (some 10) rfl rfl (by rfl) (run_mk rfl e3 e3 (make_mf n (by omega) X)) ?_
      exact ⟨put14 h1 4 10 _ (by decide) rfl hb ⟨X.heap.size, rfl, h2.size, FV.new rfl (by simp)⟩, h2.trans (hb.mono h2.size), JF.put h3 h1.tsz 4 10 _ (by decide) (by decide) (by decide) (by decide) (by decide)⟩
    · refine wpOp_of rfl rfl ?_
      exact wp_val (run_move (by first | exact .inl rfl | exact .inr rfl) o3) ⟨put14 h1 5 11 _ (by decide) rfl (Below.refl _ _) (rfl), h2, JF.put h3 h1.tsz 5 11 _ (by decide) (by decide) (by decide) (by decide) (by decide)⟩
    · have hd5 : listed.getD 5 false = true := by simp [Region.binds] at hk2; simp only [Array.getD_eq_getD_getElem?]; simp [hk2]
      have e5 : a.eval (.tmp 11) = .int .i64 n := h1.new 5 (by decide) hd5
      have hb : Below X.heap.size X (X.alloc (.cells (rw_ n fun _ => .map none).toArray 101)) := (Below.refl _ _).alloc (Nat.le_refl _) _
      refine wpOp_val (w' := X.alloc (.cells (rw_ n fun _ => .map none).toArray 101)) (v := .slice (some ⟨X.heap.size, 0, none⟩) n n) (some 12) rfl rfl (by rfl) (run_mk rfl e5 e5 (make_ml n (by omega) X)) ?_
      exact ⟨put14 h1 6 12 _ (by decide) rfl hb ⟨X.heap.size, rfl, h2.size, FV.new rfl (by simp)⟩, h2.trans (hb.mono h2.size), JF.put h3 h1.tsz 6 12 _ (by decide) (by decide) (by decide) (by decide) (by decide)⟩
    · refine wpOp_of rfl rfl ?_
      exact wp_val (run_move (by first | exact .inl rfl | exact .inr rfl) o3) ⟨put14 h1 7 13 _ (by decide) rfl (Below.refl _ _) (rfl), h2, JF.put h3 h1.tsz 7 13 _ (by decide) (by decide) (by decide) (by decide) (by decide)⟩
    · have hd7 : listed.getD 7 false = true := by simp [Region.binds] at hk2; simp only [Array.getD_eq_getD_getElem?]; simp [hk2]
      have e7 : a.eval (.tmp 13) = .int .i64 n := h1.new 7 (by decide) hd7
      have hnl : listed.getD 8 false = false := by
        have h := (mem_ready.1 hk).1
        rw [Array.getD_eq_getD_getElem?] at h ⊢
        rw [Array.getElem?_eq_getElem (by rw [h1.size]; omega)] at h ⊢
        exact h
      refine wpOp_of rfl rfl ?_
      refine wp_enter (f := 38) (args := #[a.eval (.tmp 13)]) ((Go.Conc.run_call_body rfl Tryd.func38 (by kernel_rfl) (by kernel_rfl)).trans (by simp)) ?_
      rw [e7]
      refine (queueOf_c hn).mono ?_
      rintro e w' ⟨rb, rfl, q1, q2, hb⟩
      refine ⟨_, rfl, put14 h1 8 14 _ (by decide) rfl hb ⟨rb, rfl, Nat.le_trans h2.size q1, q2⟩, h2.trans (hb.mono h2.size), JF.at8 h3 hnl⟩
    · refine wpOp_of rfl rfl ?_
      exact wp_val (run_move (by first | exact .inl rfl | exact .inr rfl) o3) ⟨put14 h1 9 15 _ (by decide) rfl (Below.refl _ _) (rfl), h2, JF.put h3 h1.tsz 9 15 _ (by decide) (by decide) (by decide) (by decide) (by decide)⟩
    · have hd9 : listed.getD 9 false = true := by simp [Region.binds] at hk2; simp only [Array.getD_eq_getD_getElem?]; simp [hk2]
      have hd8 : listed.getD 8 false = true := by simp [Region.binds] at hk2; simp only [Array.getD_eq_getD_getElem?]; simp [hk2]
      have e9 : a.eval (.tmp 15) = .int .i64 n := h1.new 9 (by decide) hd9
      obtain ⟨ra, ea, -, fa⟩ : QV W.heap.size n (a.tmps.getD 14 undef) X := h1.new 8 (by decide) hd8
      refine wpOp_of rfl rfl ?_
      refine wp_enter (f := 38) (args := #[a.eval (.tmp 15)]) ((Go.Conc.run_call_body rfl Tryd.func38 (by kernel_rfl) (by kernel_rfl)).trans (by simp)) ?_
      rw [e9]
      refine (queueOf_c hn).mono ?_
      rintro e w' ⟨rb, rfl, q1, q2, hb⟩
      refine ⟨_, rfl, put14 h1 10 16 _ (by decide) rfl hb ⟨rb, rfl, Nat.le_trans h2.size q1, q2⟩, h2.trans (hb.mono h2.size), JF.at10 h1.tsz hd8 ea (by have := fa.lt; omega)⟩
    · have hd0 : listed.getD 0 false = true := by simp [Region.binds] at hk2; simp only [Array.getD_eq_getD_getElem?]; simp [hk2]
      have hd2 : listed.getD 2 false = true := by simp [Region.binds] at hk2; simp only [Array.getD_eq_getD_getElem?]; simp [hk2]
      have hd4 : listed.getD 4 false = true := by simp [Region.binds] at hk2; simp only [Array.getD_eq_getD_getElem?]; simp [hk2]
      have hd6 : listed.getD 6 false = true := by simp [Region.binds] at hk2; simp only [Array.getD_eq_getD_getElem?]; simp [hk2]
      have hd8 : listed.getD 8 false = true := by simp [Region.binds] at hk2; simp only [Array.getD_eq_getD_getElem?]; simp [hk2]
      have hd10 : listed.getD 10 false = true := by simp [Region.binds] at hk2; simp only [Array.getD_eq_getD_getElem?]; simp [hk2]
      have e0 : a.eval (.tmp 6) = .slice pc n cap := h1.new 0 (by decide) hd0
      have g2 : StV W.heap.size c n (a.tmps.getD 8 undef) X := h1.new 2 (by decide) hd2
      have g4 : RwV 100 W.heap.size n (a.tmps.getD 10 undef) X := h1.new 4 (by decide) hd4
      have g6 : RwV 101 W.heap.size n (a.tmps.getD 12 undef) X := h1.new 6 (by decide) hd6
      have g8 : QV W.heap.size n (a.tmps.getD 14 undef) X := h1.new 8 (by decide) hd8
      have g10 : QV W.heap.size n (a.tmps.getD 16 undef) X := h1.new 10 (by decide) hd10
      obtain ⟨-, ra, rw, t1, t2, t3⟩ := h3 hd10
      rw [t1] at g8
      rw [t2] at g10
      have g2b := g2
      have g4b := g4
      have g6b := g6
      obtain ⟨sb, _, _, _, t5, -⟩ := g2
      obtain ⟨kb, t6, -⟩ := g4
      obtain ⟨lb, t7, -⟩ := g6
      have e2 : a.eval (.tmp 8) = .slice (some ⟨sb, 0, none⟩) n n := t5
      have e4 : a.eval (.tmp 10) = .slice (some ⟨kb, 0, none⟩) n n := t6
      have e6 : a.eval (.tmp 12) = .slice (some ⟨lb, 0, none⟩) n n := t7
      have e8 : a.eval (.tmp 14) = .agg #[.slice none 0 0, .slice (some ⟨ra, 0, none⟩) n n] := t1
      have e10 : a.eval (.tmp 16) = .agg #[.slice none 0 0, .slice (some ⟨rw, 0, none⟩) n n] := t2
      rw [t5] at g2b
      rw [t6] at g4b
      rw [t7] at g6b
      have t0 : a.tmps.getD 6 undef = .slice pc n cap := e0
      rw [Array.getD_eq_getD_getElem?] at t0 t1 t2 t5 t6 t7
      clear e0 e2 e4 e6 e8 e10
      refine wpOp_of rfl rfl ?_
      exact wp_val (v := .agg #[.slice pc n cap, .slice (some ⟨sb, 0, none⟩) n n, .slice (some ⟨kb, 0, none⟩) n n, .slice (some ⟨lb, 0, none⟩) n n, .slice none 0 0, .slice (some ⟨ra, 0, none⟩) n n, .slice none 0 0, .slice (some ⟨rw, 0, none⟩) n n]) (by unfold execOp; go_simp) ⟨put14 h1 11 17 _ (by decide) rfl (Below.refl _ _) ⟨_, _, _, ra, rw, rfl, g2b, g4b, g6b, t3, g8, g10⟩, h2, JF.put h3 h1.tsz 11 17 _ (by decide) (by decide) (by decide) (by decide) (by decide)⟩
    · have hd11 : listed.getD 11 false = true := by simp [Region.binds] at hk2; simp only [Array.getD_eq_getD_getElem?]; simp [hk2]
      obtain ⟨v1, v2, v3, ra, rw, t1, q1, q2, q3, q4, q5, q6⟩ : BV W.heap.size c n pc cap (a.tmps.getD 17 undef) X := h1.new 11 (by decide) hd11
      rw [Array.getD_eq_getD_getElem?] at t1
      obtain ⟨sb, rc, tg, fr, rfl, p1, p2, p3, p4, p5, p6, p7⟩ := q1
      obtain ⟨kb, rfl, k1, k2⟩ := q2
      obtain ⟨lb, rfl, l1, l2⟩ := q3
      obtain ⟨_, y1, a1, a2⟩ := q5
      cases y1
      obtain ⟨_, y1, w1, w2⟩ := q6
      cases y1
      have hb : Below X.heap.size X (X.alloc (.cells #[.slice pc n cap, .slice (some ⟨sb, 0, none⟩) n n, .slice (some ⟨kb, 0, none⟩) n n, .slice (some ⟨lb, 0, none⟩) n n, .slice none 0 0, .slice (some ⟨ra, 0, none⟩) n n, .slice none 0 0, .slice (some ⟨rw, 0, none⟩) n n] 69)) := (Below.refl _ _).alloc (Nat.le_refl _) _
      refine wpOp_val (w' := X.alloc (.cells #[.slice pc n cap, .slice (some ⟨sb, 0, none⟩) n n, .slice (some ⟨kb, 0, none⟩) n n, .slice (some ⟨lb, 0, none⟩) n n, .slice none 0 0, .slice (some ⟨ra, 0, none⟩) n n, .slice none 0 0, .slice (some ⟨rw, 0, none⟩) n n] 69)) (v := .pointer (some ⟨X.heap.size, 0, none⟩)) (some 18) rfl rfl (by rfl) (by unfold execOp; go_simp) ?_
      obtain ⟨F, hF⟩ : ∃ F : Nat → Value, F = fun i => (#[.slice pc n cap, .slice (some ⟨sb, 0, none⟩) n n, .slice (some ⟨kb, 0, none⟩) n n, .slice (some ⟨lb, 0, none⟩) n n, .slice none 0 0, .slice (some ⟨ra, 0, none⟩) n n, .slice none 0 0, .slice (some ⟨rw, 0, none⟩) n n] : Array Value).getD i undef := ⟨_, rfl⟩
      have hFx : Fx W.heap.size (X.alloc (.cells #[.slice pc n cap, .slice (some ⟨sb, 0, none⟩) n n, .slice (some ⟨kb, 0, none⟩) n n, .slice (some ⟨lb, 0, none⟩) n n, .slice none 0 0, .slice (some ⟨ra, 0, none⟩) n n, .slice none 0 0, .slice (some ⟨rw, 0, none⟩) n n] 69)) X.heap.size kb lb sb ra rw n F pc cap c rc tg fr := ⟨FV.new rfl (by rw [hF]; rfl), by rw [hF]; rfl, by rw [hF]; rfl, by rw [hF]; rfl, by rw [hF]; rfl, by rw [hF]; rfl, by rw [hF]; rfl, by rw [hF]; rfl, by rw [hF]; rfl, k2.stay hb, l2.stay hb, a2.stay hb, w2.stay hb, q4, ⟨h2.size, k1, l1, p1, a1, w1⟩, p2.stay hb, (by obtain ⟨cs, f, e⟩ := p7; exact ⟨cs, f, (hb.block sb p2.sl).trans e⟩), p3, p4, p5, fun i p k cap e => by
        rw [hb.cell (p := ⟨sb, i, none⟩) p2.sl] at e
        obtain ⟨e1, e2, e3⟩ := p6 i p k cap e
        exact ⟨e1, Nat.lt_of_lt_of_le e2 hb.size, e3.ch (S := fun _ => False) (Ch.of hb) id⟩⟩
      exact ⟨put14 h1 12 18 _ (by decide) rfl hb ⟨_, _, _, _, _, _, _, _, _, _, rfl, hFx⟩, h2.trans (hb.mono h2.size), JF.put h3 h1.tsz 12 18 _ (by decide) (by decide) (by decide) (by decide) (by decide)⟩
    · have hd12 : listed.getD 12 false = true := by simp [Region.binds] at hk2; simp only [Array.getD_eq_getD_getElem?]; simp [hk2]
      obtain ⟨g, kb, lb, sb, ra, rw, F, rc, tg, fr, t1, q1⟩ : FV2 W.heap.size c n pc cap (a.tmps.getD 18 undef) X := h1.new 12 (by decide) hd12
      have e12 : a.eval (.tmp 18) = .pointer (some ⟨g, 0, none⟩) := t1
      refine wpOp_of rfl rfl ?_
      exact wp_val (run_move (by first | exact .inl rfl | exact .inr rfl) e12) ⟨put14 h1 13 2 _ (by decide) rfl (Below.refl _ _) ⟨g, kb, lb, sb, ra, rw, F, rc, tg, fr, rfl, q1⟩, h2, JF.put h3 h1.tsz 13 2 _ (by decide) (by decide) (by decide) (by decide) (by decide)⟩
end Go.Proofs.YtgdhgipofaaogaaDoor
namespace Go.Proofs.YtgdhgipofaaogaaDoor
open Go Go.RowKit Gm Go.ChangeMaps

theorem ne_of_ty {X : World} {a b : Nat} {T T' : TypeId} {cs cs' : Array Value} {f f' : Nat × Nat} (h : X.heap[a]? = some (.cells cs T f)) (h' : X.heap[b]? = some (.cells cs' T' f')) (hne : T ≠ T') : a ≠ b := fun e => by
  subst e
  rw [h] at h'
  cases h'
  exact hne rfl
def ownF (g kb lb ra rw b : Nat) : Ob := if b = g then .f else if b = kb then .kb else if b = lb then .lb else if b = ra then .qr 4 else if b = rw then .qr 6 else .no
theorem ownF_no {g kb lb ra rw b : Nat} (h : b ≠ g ∧ b ≠ kb ∧ b ≠ lb ∧ b ≠ ra ∧ b ≠ rw) : ownF g kb lb ra rw b = .no := by
  unfold ownF
  rw [if_neg h.1, if_neg h.2.1, if_neg h.2.2.1, if_neg h.2.2.2.1, if_neg h.2.2.2.2]
/-- Before anything is asked: what waits to be asked for. -/
structure P0 (B : Nat) (own : Nat → Ob) (W : World) (g kb lb sb n ra rw : Nat) (F : Nat → Value) (c : List Ic) (rc tg : Nat → Bool) (fr : Nat → List Nat) (own' : Nat → Ob) (F' VA' : Nat → Value) (PA : List Nat) (RA : Nat → List Int) (X : World) : Prop where
  ow : ∀ b, b < W.heap.size → own' b = own b
  fe : ∀ i, i ≠ 4 → i ≠ 6 → F' i = F i
  la : LA B own' X g lb n ra rw F' (fun _ => .map none) VA' (fun _ => .slice none 0 0) (fun _ _ => none) (fun _ _ => []) PA RA [] (fun _ => [])
  km : KMm own' X kb n (fun _ => .map none) (fun _ _ => none)
  st : StO own' X sb n c rc tg fr
  qi : QI n PA RA
  ch : Ch (fun z => own z ≠ .no) W X
section
variable {B : Nat} {own own' : Nat → Ob} {W X Y : World} {g kb lb sb n ra rw a : Nat} {F F' VA' : Nat → Value} {c : List Ic} {rc tg : Nat → Bool} {fr : Nat → List Nat} {PA : List Nat} {RA : Nat → List Int} {r : Int} {e : Ending} {L : List Int} {KA KW KL : Nat} {Q0 : Nat → Int → Prop}
theorem Fx.p0 {pc : Option Addr} {cap : Nat} (h : Fx B X g kb lb sb ra rw n F pc cap c rc tg fr) (hB : B ≤ X.heap.size) : P0 B (ownF g kb lb ra rw) X g kb lb sb n ra rw F c rc tg fr (ownF g kb lb ra rw) F (fun _ => .slice none 0 0) [] (fun _ => []) X := by
  have t1 : 69 ≠ 100 := by decide
  have t2 : 69 ≠ 101 := by decide
  have t3 : 69 ≠ 64 := by decide
  have t4 : 100 ≠ 101 := by decide
  have t5 : 100 ≠ 64 := by decide
  have t6 : 101 ≠ 64 := by decide
  have n1 : kb ≠ g := ne_of_ty h.kv h.fv t1.symm
  have n2 : lb ≠ g := ne_of_ty h.lv h.fv t2.symm
  have n3 : ra ≠ g := ne_of_ty h.av h.fv t3.symm
  have n4 : rw ≠ g := ne_of_ty h.wv h.fv t3.symm
  have n5 : lb ≠ kb := ne_of_ty h.lv h.kv t4.symm
  have n6 : ra ≠ kb := ne_of_ty h.av h.kv t5.symm
  have n7 : rw ≠ kb := ne_of_ty h.wv h.kv t5.symm
  have n8 : ra ≠ lb := ne_of_ty h.av h.lv t6.symm
  have n9 : rw ≠ lb := ne_of_ty h.wv h.lv t6.symm
  have og : ownF g kb lb ra rw g = .f := if_pos rfl
  have ok : ownF g kb lb ra rw kb = .kb := by unfold ownF; rw [if_neg n1, if_pos rfl]
  have ol : ownF g kb lb ra rw lb = .lb := by unfold ownF; rw [if_neg n2, if_neg n5, if_pos rfl]
  have oa : ownF g kb lb ra rw ra = .qr 4 := by unfold ownF; rw [if_neg n3, if_neg n6, if_neg n8, if_pos rfl]
  have ow : ownF g kb lb ra rw rw = .qr 6 := by unfold ownF; rw [if_neg n4, if_neg n7, if_neg n9, if_neg h.ne.symm, if_pos rfl]
  have hno : ∀ b T cs f, X.heap[b]? = some (.cells cs T f) → T ≠ 69 → T ≠ 100 → T ≠ 101 → T ≠ 64 → ownF g kb lb ra rw b = .no := fun b T cs f hb h1 h2 h3 h4 => ownF_no ⟨ne_of_ty hb h.fv h1, ne_of_ty hb h.kv h2, ne_of_ty hb h.lv h3, ne_of_ty hb h.av h4, ne_of_ty hb h.wv h4⟩
  refine ⟨fun _ _ => rfl, fun _ _ _ => rfl, ⟨og, h.fv, h.f3, h.f5, h.f7, ⟨ol, h.lv, fun i _ => .inl ⟨rfl, fun _ => rfl⟩, fun i r _ => rfl⟩, ⟨oa, h.av, by rw [h.f4]; exact SR.nil _ _, fun z e => (by rw [h.f4] at e; cases e), fun i _ => SR.nil _ _, fun i z _ e => (by cases e)⟩, ⟨ow, h.wv, by rw [h.f6]; exact SR.nil _ _, fun z e => (by rw [h.f6] at e; cases e), fun i _ => SR.nil _ _, fun i z _ e => (by cases e)⟩⟩, ⟨ok, h.kv, fun i _ => .inl ⟨rfl, fun _ => rfl⟩⟩, ⟨h.st, ?_, fun i p k cap e => ?_⟩, ⟨List.nodup_nil, fun a => (by simp), fun a ha => (by cases ha)⟩, Ch.refl _ _⟩
  · obtain ⟨cs, f, hs⟩ := h.ts
    exact hno sb _ cs f hs (by decide) (by decide) (by decide) (by decide)
  · obtain ⟨-, e2, cs, f, hs⟩ := h.sto i p k cap e
    exact ⟨hno _ _ cs f hs (by decide) (by decide) (by decide) (by decide), e2⟩
/-- One more is to be asked for. -/
theorem P0.put (h : P0 B own W g kb lb sb n ra rw F c rc tg fr own' F' VA' PA RA X) (ha : a < n) (hp : PutP B own' X g 4 n ra F' VA' PA RA a r e Y) : ∃ (v : Value) (own2 : Nat → Ob) (F2 VA2 : Nat → Value), e = .returned v ∧ (∀ b, b < X.heap.size → own2 b = own' b) ∧ Ch (fun z => own' z ≠ .no) X Y ∧ P0 B own W g kb lb sb n ra rw F c rc tg fr own2 F2 VA2 (putP PA RA a) (putR RA a r) Y := by
  obtain ⟨v, own2, F2, VA2, rfl, ho, hf, hla, hc⟩ := h.la.putA hp
  have hno : ∀ b, LS own' b → own' b ≠ .no := fun b s e => LS.not e s (.inl rfl)
  refine ⟨v, own2, F2, VA2, rfl, ho, hc.mono fun b _ s => hno b s, fun b hb => ?_, fun i h4 h6 => (hf i h4 h6).trans (h.fe i h4 h6), hla, h.km.ch hc (fun b hb _ => ho b hb) fun b hb s => ?_, h.st.ch hc ho fun b hb s => hno b s hb, h.qi.put ha r, Ch.fresh h.ch hc fun b hb s => ?_⟩
  · rw [ho b (Nat.lt_of_lt_of_le hb h.ch.size)]; exact h.ow b hb
  · rcases hb with hb | ⟨i, hb⟩
    · exact LS.not hb s (.inr (.inl rfl))
    · exact LS.not hb s (.inr (.inr ⟨_, rfl⟩))
  · rw [← h.ow b hb]; exact hno b s
theorem P0.mem (h : P0 B own W g kb lb sb n ra rw F c rc tg fr own' F' VA' PA RA X) (hc : Ch (fun _ => False) X Y) : P0 B own W g kb lb sb n ra rw F c rc tg fr own' F' VA' PA RA Y := ⟨h.ow, h.fe, h.la.ch hc (fun _ _ => rfl) fun _ _ => id, h.km.ch hc (fun _ _ _ => rfl) fun _ _ => id, h.st.ch hc (fun _ _ => rfl) fun _ _ => id, h.qi, h.ch.trans (hc.mono fun _ _ k => k.elim)⟩
theorem P0.mem2 {own2 : Nat → Ob} (h : P0 B own W g kb lb sb n ra rw F c rc tg fr own' F' VA' PA RA X) (hc : Ch (fun _ => False) X Y) (ho : ∀ b, b < X.heap.size → own2 b = own' b) : P0 B own W g kb lb sb n ra rw F c rc tg fr own2 F' VA' PA RA Y := ⟨fun b hb => by rw [ho b (Nat.lt_of_lt_of_le hb h.ch.size)]; exact h.ow b hb, h.fe, h.la.ch hc ho fun _ _ => id, h.km.ch hc (fun b hb _ => ho b hb) fun _ _ => id, h.st.ch hc ho fun _ _ => id, h.qi, h.ch.trans (hc.mono fun _ _ k => k.elim)⟩
/-- The asking begins. -/
theorem P0.ar (h : P0 B own W g kb lb sb n ra rw F c rc tg fr own' F' VA' PA RA X) (hr : ∀ p r, r ∈ RA p → r ∈ L) (h3 : ∀ a, (RA a).length + 3 * L.length ≤ KA) (hW : L.length ≤ KW) (hf : ∀ p, (fr p).length ≤ 2 * n) (hKL : n * (2 * n) ≤ KL) (hQ : ∀ p r, Q0 p r → r ∈ RA p) :
    AR B own' X g kb lb sb n ra rw F' L KA KW KL Q0 c rc tg fr (fun _ _ => False) (fun _ _ _ => False) (fun _ => 0) own' F' (fun _ => .map none) (fun _ => .map none) VA' (fun _ => .slice none 0 0) (fun _ _ => none) (fun _ _ => none) (fun _ _ => []) PA RA [] (fun _ => []) X :=
  ⟨fun _ _ => .inl rfl, fun _ _ _ => rfl, h.la, h.km, h.st, .new h.qi hr h3 hW hf hKL hQ, fun i s k => absurd rfl k, Ch.refl _ _⟩
/-- The telling begins. -/
theorem AskP.tr (h : AskP B own W g kb lb sb n ra rw F L KA KW KL Q0 c rc tg fr e X) (hF2 : F 2 = .slice (some ⟨kb, 0, none⟩) n n) (hL0 : ∀ r, r ∈ L → 0 ≤ r) (hL6 : ∀ r, r ∈ L → In6 r) (hk : Okc c) {K : Nat} (hK : KW + 2 * (n * (2 * L.length)) ≤ K) :
    ∃ (v : Value) (own' : Nat → Ob) (F' KV' LV' VW' : Nat → Value) (M' : Km) (Lf' : Nat → KF) (Ld' : Nat → Int → List Nat) (PW' : List Nat) (RW' : Nat → List Int), e = .returned v ∧ (∀ b, b < W.heap.size → own' b = own b ∨ own' b = .no) ∧ (∀ i, i ≠ 4 → i ≠ 6 → F' i = F i) ∧ Ch (fun z => own z ≠ .no) W X ∧ (∀ s r, (Ld' s r).length ≤ KL) ∧ (∀ p r, Q0 p r → p ≠ 0 → M' p r ≠ none) ∧
      TR B own' X g kb lb sb n rw F' KV' LV' Lf' Ld' L K c rc tg fr (fun p r => M' p r ≠ none) (fun _ _ _ => False) own' F' VW' M' PW' RW' X := by
  obtain ⟨v, own', F', KV', LV', VA', VW', M', Lf', Ld', RA', PW', RW', rfl, h⟩ := h
  exact ⟨v, own', F', KV', LV', VW', M', Lf', Ld', PW', RW', rfl, h.ow, h.fe, h.ch, fun s r => by have := h.al.bl s r; omega, fun p r hq hp => h.al.all hq hp, ⟨fun _ _ => .inl rfl, fun _ _ => rfl, ⟨h.la.og, h.la.fv, (h.fe 2 (by omega) (by omega)).trans hF2, h.la.f3, h.la.f7, h.km, h.la.lm, h.la.qw⟩, h.st, h.al.tl hL0 hL6 hk hK, Ch.refl _ _⟩⟩
/-- What is known of what was asked for first. -/
structure KNa (c : List Ic) (Q0 : Nat → Int → Prop) (M : Km) : Prop where
  yes : ∀ p r n, Xv M p r = some n → Kn c p r n
  no : ∀ p r n, Q0 p r → Kn c p r n → Xv M p r = some n
  z : ∀ p r n, M p r = some (n, false) → n = 0
theorem TL.kna {Ld : Nat → Int → List Nat} {K : Nat} {M M0 : Km} {RW : Nat → List Int} (h : TL c fr tg (fun p r => M0 p r ≠ none) Ld L n K M [] RW (fun _ _ _ => False)) (hS : Stp c fr tg) (hk : Okc c) (hq : ∀ p r, Q0 p r → p ≠ 0 → M0 p r ≠ none) : KNa c Q0 M := by
  have hW : ∀ s r (p : Nat), ¬ (r ∈ RW s ∨ False) := fun s r p k => by
    rcases k with k | k
    · exact absurd ((h.qi.iff s).2 fun e => by rw [e] at k; cases k) (by simp)
    · exact k
  refine ⟨fun p r n hv => ?_, fun p r n hq0 hkn => ?_, h.un0⟩
  · have ht := Xv_told hv
    have hQ : M0 p r ≠ none := by
      by_cases e : M0 p r = none
      · have := h.ti.nq p r (fun k => k e)
        rw [this] at ht
        cases ht
      · exact e
    exact (h.ti.kn hS hk hW hQ (h.rt p r n ht)).1 hv
  · have hp : p ≠ 0 := fun e => by
      subst e
      obtain ⟨-, G, hG, hg⟩ := hkn
      rw [hG.1 r] at hg
      cases hg
    exact (h.ti.kn hS hk hW (hq p r hq0 hp) hkn.1).2 hkn
end
/-- All registers on which something hangs. -/
def rgs (c : List Ic) : List Int := (List.range c.length).flatMap fun q => nds c q
theorem rgs_in {c : List Ic} {q : Nat} {nd : Int} (h : nd ∈ nds c q) : nd ∈ rgs c := by
  have hq : q < c.length := by
    unfold nds at h
    cases e : c[q]? with
    | none => rw [e] at h; cases h
    | some x => exact (List.getElem?_eq_some_iff.1 e).1
  exact List.mem_flatMap.2 ⟨q, List.mem_range.2 hq, h⟩
theorem rgs_len (c : List Ic) : (rgs c).length ≤ 3 * c.length := by
  have key : ∀ m, ((List.range m).flatMap fun q => nds c q).length ≤ 3 * m := by
    intro m
    induction m with
    | zero => simp
    | succ m ih =>
      rw [List.range_succ, List.flatMap_append, List.length_append]
      have := nds_len c m
      simp only [List.flatMap_cons, List.flatMap_nil, List.append_nil]
      omega
  exact key _
theorem in6_m1 : In6 (-1) := by unfold In6; omega
theorem uses_ok {x : Ic} (h : Ok6 x) {z : Int} (hz : z ∈ usesM x) : 0 ≤ z ∧ In6 z := by
  unfold usesM at hz
  split at hz
  · unfold pos at hz
    obtain ⟨h1, h2⟩ := List.mem_filter.1 hz
    refine ⟨by simpa using h2, ?_⟩
    have h3 := mem_srt.1 h1
    simp only [List.mem_cons, List.not_mem_nil, or_false] at h3
    rcases h3 with rfl | rfl | rfl
    · split
      · exact h.2.2.1
      · exact in6_m1
    · unfold aTo
      split
      · exact h.2.2.2.1
      · exact in6_m1
    · unfold bTo
      split
      · exact h.2.2.2.2.1
      · exact in6_m1
  · cases hz
def C6 (c : List Ic) : Prop := ∀ (i : Nat) (x : Ic), c[i]? = some x → Ok6 x
theorem CodeAt.c6 {W : World} {p : Option Addr} {c : List Ic} (h : CodeAt W p c) : C6 c := fun i x hx => by
  obtain ⟨_, _, _, _, _, h6⟩ := h i x hx
  exact h6
theorem nds_ok {c : List Ic} (h : C6 c) {q : Nat} {nd : Int} (hn : nd ∈ nds c q) : 0 ≤ nd ∧ In6 nd := by
  unfold nds at hn
  cases e : c[q]? with
  | none => rw [e] at hn; cases hn
  | some x =>
    rw [e] at hn
    simp only at hn
    split at hn
    · exact uses_ok (h q x e) hn
    · cases hn
theorem rgs_ok {c : List Ic} (h : C6 c) {nd : Int} (hn : nd ∈ rgs c) : 0 ≤ nd ∧ In6 nd := by
  obtain ⟨q, -, hq⟩ := List.mem_flatMap.1 hn
  exact nds_ok h hq
theorem dfn_in6 {c : List Ic} (h : C6 c) (a : Nat) : In6 (dfn c a) := by
  unfold dfn
  cases e : c[a]? with
  | none => exact in6_m1
  | some x =>
    simp only
    unfold defM
    split
    · split
      · exact (h a x e).2.2.1
      · exact in6_m1
    · exact in6_m1
theorem cons_neg {c : List Ic} (hk : Okc c) {G : Nat → Int → Option Int} (hG : Cons c G) {r : Int} (hr : r < 0) {p : Nat} (hp : Rc c p) : ∀ m, G p r ≠ some m := by
  induction hp with
  | zero _ => intro m h; rw [hG.1 r] at h; cases h
  | @on i j hi hj ih =>
    intro m h
    have hlt := hi.lt
    have hx : c[i]? = some c[i] := List.getElem?_eq_getElem hlt
    have h1 := hG.2 i _ j hx hi hj r m h
    unfold bhF at h1
    split at h1
    · exact ih m h1
    · rename_i h4
      split at h1
      · rename_i h5
        have := (hk i _ hx).2.1 (by omega)
        omega
      · exact ih m h1
/-- Of a register below 0 nothing is known. -/
theorem kn_neg {c : List Ic} (hk : Okc c) {p : Nat} {r n : Int} (hr : r < 0) (h : Kn c p r n) : False := by
  obtain ⟨hp, G, hG, hg⟩ := h
  exact cons_neg hk hG hr hp n hg
end Go.Proofs.YtgdhgipofaaogaaDoor
namespace Go.Proofs.YtgdhgipofaaogaaDoor
open Go Go.RowKit Gm

def askN (c : List Ic) (q : Nat) : List Int := match c[q]? with | some x => if x.k = 1 ∨ x.k = 2 ∨ x.k = 3 ∨ x.k = 7 then usesM x else [] | none => []
theorem askN_at {c : List Ic} {q : Nat} {x : Ic} (hx : c[q]? = some x) : askN c q = if x.k = 1 ∨ x.k = 2 ∨ x.k = 3 ∨ x.k = 7 then usesM x else [] := by unfold askN; rw [hx]
theorem uses_len (x : Ic) : (usesM x).length ≤ 3 := by
  unfold usesM
  split
  · unfold pos
    exact Nat.le_trans (List.length_filter_le _ _) (srt_len3 _ _ _)
  · exact Nat.zero_le _
theorem askN_len (c : List Ic) (q : Nat) : (askN c q).length ≤ 3 := by
  unfold askN
  cases c[q]? with
  | none => exact Nat.zero_le _
  | some x =>
    simp only
    split
    · exact uses_len x
    · exact Nat.zero_le _
theorem nds_ask {c : List Ic} {q : Nat} {nd : Int} (h : nd ∈ nds c q) : nd ∈ askN c q := by
  unfold nds at h
  unfold askN
  cases e : c[q]? with
  | none => rw [e] at h; cases h
  | some x =>
    rw [e] at h
    simp only at h ⊢
    split at h
    · rename_i hk
      rw [if_pos (by omega)]
      exact h
    · cases h
theorem askN_lt {c : List Ic} {q : Nat} {nd : Int} (h : nd ∈ askN c q) : q < c.length := by
  unfold askN at h
  cases e : c[q]? with
  | none => rw [e] at h; cases h
  | some x => exact (List.getElem?_eq_some_iff.1 e).1
theorem askN_ok {c : List Ic} (h : C6 c) {q : Nat} {nd : Int} (hn : nd ∈ askN c q) : 0 ≤ nd ∧ In6 nd := by
  unfold askN at hn
  cases e : c[q]? with
  | none => rw [e] at hn; cases hn
  | some x =>
    rw [e] at hn
    simp only at hn
    split at hn
    · exact uses_ok (h q x e) hn
    · cases hn
def askL (c : List Ic) : List Int := (List.range c.length).flatMap fun q => askN c q
theorem askL_in {c : List Ic} {q : Nat} {nd : Int} (h : nd ∈ askN c q) : nd ∈ askL c := List.mem_flatMap.2 ⟨q, List.mem_range.2 (askN_lt h), h⟩
theorem askL_ok {c : List Ic} (h : C6 c) {nd : Int} (hn : nd ∈ askL c) : 0 ≤ nd ∧ In6 nd := by
  obtain ⟨q, -, hq⟩ := List.mem_flatMap.1 hn
  exact askN_ok h hq
theorem askL_len (c : List Ic) : (askL c).length ≤ 3 * c.length := by
  have key : ∀ m, ((List.range m).flatMap fun q => askN c q).length ≤ 3 * m := by
    intro m
    induction m with
    | zero => simp
    | succ m ih =>
      rw [List.range_succ, List.flatMap_append, List.length_append]
      have := askN_len c m
      simp only [List.flatMap_cons, List.flatMap_nil, List.append_nil]
      omega
  exact key _
/-- What waits to be asked for, as far as the places were gone through. -/
def RAt (c : List Ic) (i j : Nat) : Nat → List Int := fun p => if p < i then askN c p else if p = i then (askN c i).take j else []
theorem RAt_zero (c : List Ic) : RAt c 0 0 = fun _ => [] := by
  funext p
  unfold RAt
  rw [if_neg (by omega)]
  split <;> simp
theorem RAt_put {c : List Ic} {i j : Nat} {r : Int} (h : (askN c i)[j]? = some r) : putR (RAt c i j) i r = RAt c i (j + 1) := by
  funext p
  unfold putR RAt
  by_cases e : p = i
  · subst e
    rw [if_pos rfl, if_neg (by omega), if_pos rfl, if_neg (by omega), if_pos rfl, List.take_add_one, h]
    rfl
  · rw [if_neg e]
    by_cases h1 : p < i
    · rw [if_pos h1, if_pos h1]
    · rw [if_neg h1, if_neg e, if_neg h1, if_neg e]
theorem RAt_next {c : List Ic} {i : Nat} : RAt c i (askN c i).length = RAt c (i + 1) 0 := by
  funext p
  unfold RAt
  by_cases h1 : p < i
  · rw [if_pos h1, if_pos (by omega)]
  · by_cases e : p = i
    · subst e
      rw [if_neg (by omega), if_pos rfl, if_pos (by omega), List.take_length]
    · rw [if_neg h1, if_neg e, if_neg (by omega)]
      split <;> simp
theorem RAt_sub {c : List Ic} {i j p : Nat} {r : Int} (h : r ∈ RAt c i j p) : r ∈ askN c p := by
  unfold RAt at h
  split at h
  · exact h
  · split at h
    · rename_i e
      rw [e]
      exact List.mem_of_mem_take h
    · cases h
theorem RAt_len (c : List Ic) (i j p : Nat) : (RAt c i j p).length ≤ 3 := by
  unfold RAt
  split
  · exact askN_len c p
  · split
    · exact Nat.le_trans (by rw [List.length_take]; omega) (askN_len c i)
    · simp
/-- What an instruction becomes hangs on what it reads alone. -/
theorem oneM_eq {c : List Ic} (hk : Okc c) {i : Nat} {x : Ic} (hx : c[i]? = some x) {f g : Int → Option Int} (h : ∀ r, r < 0 ∨ r ∈ askN c i → f r = g r) (at_ : Nat) : oneM f x at_ = oneM g x at_ := by
  obtain ⟨h1, h2, h3⟩ := nds_in hx hk
  have hv : (x.k = 1 ∨ x.k = 2 ∨ x.k = 3) → vl f x = vl g x := fun hk3 => by
    have ha := h x.a (.inr (nds_ask (h1 hk3)))
    unfold vl
    rcases hk3 with e | e | e
    · rw [e]; simp [ha]
    · have hb := h x.b (.inr (nds_ask (h2 (.inl e))))
      rw [e]; simp [ha, hb]
    · have hb := h x.b (.inr (nds_ask (h2 (.inr e))))
      have hd := h x.d (.inr (nds_ask (h3 e)))
      rw [e]; simp [ha, hb, hd]
  by_cases k12 : x.k = 2 ∨ x.k = 1
  · unfold oneM
    rw [hv (by omega)]
    have n3 : ¬ x.k = 3 := by omega
    have n7 : ¬ x.k = 7 := by omega
    simp [n3, n7]
  · by_cases k3 : x.k = 3
    · have ha := h x.a (.inr (nds_ask (h1 (by omega))))
      unfold oneM
      rw [hv (by omega), ha]
    · by_cases k7 : x.k = 7
      · have ha : f x.a = g x.a := by
          by_cases hn : x.a < 0
          · exact h _ (.inl hn)
          · refine h _ (.inr ?_)
            rw [askN_at hx, if_pos (by omega)]
            unfold usesM
            rw [if_pos (by omega)]
            unfold pos
            refine List.mem_filter.2 ⟨mem_srt.2 ?_, by simpa using hn⟩
            have : aTo x x.k.toNat 4 = x.a := by
              unfold aTo
              rw [k7]
              exact if_pos (by decide)
            rw [this]
            simp
        unfold oneM
        rw [ha]
        simp [k12, k3]
      · unfold oneM
        simp [k12, k3, k7]
theorem cons_in6 {c : List Ic} (h6 : C6 c) {G : Nat → Int → Option Int} (hG : Cons c G) {p : Nat} (hp : Rc c p) : ∀ r m, G p r = some m → In6 m := by
  induction hp with
  | zero _ => intro r m h; rw [hG.1 r] at h; cases h
  | @on i j hi hj ih =>
    intro r m h
    have hlt := hi.lt
    have hx : c[i]? = some c[i] := List.getElem?_eq_getElem hlt
    have h1 := hG.2 i _ j hx hi hj r m h
    have hv : ∀ m, vl (G i) c[i] = some m → In6 m := fun m h => by
      unfold vl at h
      split at h
      · cases h; exact (h6 i _ hx).2.2.2.2.2.1
      split at h
      · exact ih _ _ h
      split at h
      · split at h
        · rename_i a b ha hb
          cases h
          exact ev_in6 (ih _ _ ha)
        · cases h
      split at h
      · split at h
        · split at h
          · exact ih _ _ h
          · exact ih _ _ h
        · split at h
          · split at h
            · cases h; rename_i hd hb _; first | exact ih _ _ hd | exact ih _ _ hb
            · cases h
          · cases h
      · cases h
    unfold bhF at h1
    split at h1
    · exact ih _ _ h1
    · split at h1
      · exact hv _ h1
      · exact ih _ _ h1
theorem kn_in6 {c : List Ic} (h6 : C6 c) {p : Nat} {r n : Int} (h : Kn c p r n) : In6 n := by
  obtain ⟨hp, G, hG, hg⟩ := h
  exact cons_in6 h6 hG hp r n hg
theorem vl_one {f g : Int → Option Int} (h : ∀ r a b, f r = some a → g r = some b → a = b) {x : Ic} {a b : Int} (ha : vl f x = some a) (hb : vl g x = some b) : a = b := by
  unfold vl at ha hb
  by_cases k0 : x.k = 0
  · rw [if_pos k0] at ha hb
    cases ha; cases hb; rfl
  rw [if_neg k0] at ha hb
  by_cases k1 : x.k = 1
  · rw [if_pos k1] at ha hb
    exact h _ _ _ ha hb
  rw [if_neg k1] at ha hb
  by_cases k2 : x.k = 2
  · rw [if_pos k2] at ha hb
    cases fa : f x.a with
    | none => rw [fa] at ha; cases ha
    | some u =>
      cases fb : f x.b with
      | none => rw [fa, fb] at ha; cases ha
      | some v =>
        cases ga : g x.a with
        | none => rw [ga] at hb; cases hb
        | some u' =>
          cases gb : g x.b with
          | none => rw [ga, gb] at hb; cases hb
          | some v' =>
            rw [fa, fb] at ha
            rw [ga, gb] at hb
            have e1 := h _ _ _ fa ga
            have e2 := h _ _ _ fb gb
            subst e1 e2
            cases ha; cases hb; rfl
  rw [if_neg k2] at ha hb
  by_cases k3 : x.k = 3
  · rw [if_pos k3] at ha hb
    cases fa : f x.a with
    | some u =>
      cases ga : g x.a with
      | some u' =>
        have e1 := h _ _ _ fa ga
        subst e1
        rw [fa] at ha
        rw [ga] at hb
        simp only at ha hb
        by_cases hu : u ≠ 0
        · rw [if_pos hu] at ha hb
          exact h _ _ _ ha hb
        · rw [if_neg hu] at ha hb
          exact h _ _ _ ha hb
      | none =>
        rw [fa] at ha
        rw [ga] at hb
        simp only at ha hb
        cases gb : g x.b with
        | none => rw [gb] at hb; simp at hb
        | some v =>
          cases gd : g x.d with
          | none => rw [gb, gd] at hb; simp at hb
          | some w =>
            rw [gb, gd] at hb
            by_cases hvw : v = w
            · subst hvw
              have hb : v = b := by simpa using hb
              subst hb
              by_cases hu : u = 0
              · simp [hu] at ha; exact h _ _ _ ha gd
              · simp [hu] at ha; exact h _ _ _ ha gb
            · exfalso
              simp at hb
              omega
    | none =>
      rw [fa] at ha
      simp only at ha
      cases fb : f x.b with
      | none => rw [fb] at ha; simp at ha
      | some v =>
        cases fd : f x.d with
        | none => rw [fb, fd] at ha; simp at ha
        | some w =>
          rw [fb, fd] at ha
          by_cases hvw : v = w
          · subst hvw
            have ha : v = a := by simpa using ha
            subst ha
            cases ga : g x.a with
            | some u =>
              rw [ga] at hb
              by_cases hu : u = 0
              · simp [hu] at hb; exact h _ _ _ fd hb
              · simp [hu] at hb; exact h _ _ _ fb hb
            | none =>
              rw [ga] at hb
              simp only at hb
              cases gb : g x.b with
              | none => rw [gb] at hb; simp at hb
              | some v' =>
                cases gd : g x.d with
                | none => rw [gb, gd] at hb; simp at hb
                | some w' =>
                  rw [gb, gd] at hb
                  have e1 := h _ _ _ fb gb
                  have e2 := h _ _ _ fd gd
                  subst e1 e2
                  simpa using hb
          · exfalso
            simp at ha
            omega
  · rw [if_neg k3] at ha
    cases ha
/-- One number alone is known. -/
theorem cons_one {c : List Ic} {G H : Nat → Int → Option Int} (hG : Cons c G) (hH : Cons c H) {p : Nat} (hp : Rc c p) : ∀ r m n, G p r = some m → H p r = some n → m = n := by
  induction hp with
  | zero _ => intro r m n h; rw [hG.1 r] at h; cases h
  | @on i j hi hj ih =>
    intro r m n h1 h2
    have hlt := hi.lt
    have hx : c[i]? = some c[i] := List.getElem?_eq_getElem hlt
    have h1 := hG.2 i _ j hx hi hj r m h1
    have h2 := hH.2 i _ j hx hi hj r n h2
    unfold bhF at h1 h2
    by_cases h4 : 4 < c[i].k
    · rw [if_pos h4] at h1 h2; exact ih _ _ _ h1 h2
    · rw [if_neg h4] at h1 h2
      by_cases hd : r = c[i].d
      · rw [if_pos hd] at h1 h2; exact vl_one ih h1 h2
      · rw [if_neg hd] at h1 h2; exact ih _ _ _ h1 h2
theorem kn_one {c : List Ic} {p : Nat} {r m n : Int} (h : Kn c p r m) (k : Kn c p r n) : m = n := by
  obtain ⟨hp, G, hG, hg⟩ := h
  obtain ⟨-, H, hH, hh⟩ := k
  exact cons_one hG hH hp r m n hg hh
theorem one_ok6 {f : Int → Option Int} {x : Ic} (hx : Ok6 x) (hf : ∀ r n, f r = some n → In6 n) {at_ : Nat} (ha : at_ ≤ 1000000) : Ok6 (oneM f x at_) := by
  have z : ∀ k : Int, 0 ≤ k → k ≤ 100 → In6 k := fun k h1 h2 => ⟨by omega, by omega⟩
  have hv : ∀ n, vl f x = some n → In6 n := fun n h => by
    unfold vl at h
    split at h
    · cases h; exact hx.2.2.2.2.2.1
    split at h
    · exact hf _ _ h
    split at h
    · split at h
      · rename_i a b ha hb
        cases h
        exact ev_in6 (hf _ _ ha)
      · cases h
    split at h
    · split at h
      · split at h
        · exact hf _ _ h
        · exact hf _ _ h
      · split at h
        · split at h
          · cases h; rename_i hd hb _; first | exact hf _ _ hd | exact hf _ _ hb
          · cases h
        · cases h
    · cases h
  have hg : In6 ((vl f x).getD 0) := by
    cases e : vl f x with
    | none => exact z 0 (by omega) (by omega)
    | some n => exact hv n e
  unfold oneM
  split
  · exact ⟨z _ (by simp) (by simp), z _ (by simp) (by simp), hx.2.2.1, z _ (by simp) (by simp), z _ (by simp) (by simp), hg, z _ (by simp) (by simp)⟩
  split
  · exact ⟨z _ (by simp) (by simp), z _ (by simp) (by simp), hx.2.2.1, hx.2.2.1, z _ (by simp) (by simp), z _ (by simp) (by simp), z _ (by simp) (by simp)⟩
  split
  · exact ⟨z _ (by simp) (by simp), z _ (by simp) (by simp), hx.2.2.1, z _ (by simp) (by simp), z _ (by simp) (by simp), hg, z _ (by simp) (by simp)⟩
  split
  · exact ⟨z _ (by simp) (by simp), z _ (by simp) (by simp), hx.2.2.1, hx.2.2.2.2.1, z _ (by simp) (by simp), z _ (by simp) (by simp), z _ (by simp) (by simp)⟩
  split
  · exact ⟨z _ (by simp) (by simp), z _ (by simp) (by simp), z _ (by simp) (by simp), z _ (by simp) (by simp), z _ (by simp) (by simp), z _ (by simp) (by simp), hx.2.2.2.2.2.2⟩
  split
  · exact ⟨z _ (by simp) (by simp), z _ (by simp) (by simp), z _ (by simp) (by simp), z _ (by simp) (by simp), z _ (by simp) (by simp), z _ (by simp) (by simp), ⟨by simp only; omega, by simp only; omega⟩⟩
  · exact hx
def z7 : Ic := ⟨0, 0, 0, 0, 0, 0, 0⟩
theorem z7_ok : Ok6 z7 := ⟨⟨by decide, by decide⟩, ⟨by decide, by decide⟩, ⟨by decide, by decide⟩, ⟨by decide, by decide⟩, ⟨by decide, by decide⟩, ⟨by decide, by decide⟩, ⟨by decide, by decide⟩⟩
/-- The code in which what is told stands. -/
def cdF (c : List Ic) (rc : Nat → Bool) (M : Km) (i : Nat) : Ic := match c[i]? with | some x => if rc i = true then oneM (Xv M i) x i else x | none => z7
theorem cdF_code {c : List Ic} {rc : Nat → Bool} {M : Km} (hk : Okc c) (hrc : ∀ p, rc p = true ↔ Rc c p) (h : KNa c (fun p r => r ∈ askN c p) M) : CodeR c c.length ((List.range c.length).map (cdF c rc M)) := by
  refine ⟨by simp, fun i x hi hx => ?_⟩
  classical
  obtain ⟨f, hf⟩ : ∃ f : Int → Option Int, ∀ r m, f r = some m ↔ Kn c i r m := by
    refine ⟨fun r => if h : ∃ m, Kn c i r m then some h.choose else none, fun r m => ?_⟩
    by_cases he : ∃ m, Kn c i r m
    · simp only [dif_pos he]
      constructor
      · intro h1
        cases h1
        exact he.choose_spec
      · intro h1
        rw [kn_one he.choose_spec h1]
    · simp only [dif_neg he]
      exact ⟨fun h1 => (by cases h1), fun h1 => absurd ⟨m, h1⟩ he⟩
  refine ⟨f, hf, fun hr => ?_, fun hr => ?_⟩
  · rw [List.getElem?_map, List.getElem?_range hi]
    show some (cdF c rc M i) = _
    unfold cdF
    rw [hx]
    simp only
    rw [if_pos ((hrc i).2 hr)]
    congr 1
    refine oneM_eq hk hx (fun r hr2 => ?_) i
    cases ef : f r with
    | some m =>
      have hkn := (hf r m).1 ef
      rcases hr2 with hr2 | hr2
      · exact (kn_neg hk hr2 hkn).elim
      · exact h.no i r _ hr2 hkn
    | none =>
      cases e : Xv M i r with
      | none => rfl
      | some m => rw [(hf r m).2 (h.yes i r m e)] at ef; cases ef
  · rw [List.getElem?_map, List.getElem?_range hi]
    show some (cdF c rc M i) = _
    unfold cdF
    rw [hx]
    simp only
    rw [if_neg fun k => hr ((hrc i).1 k)]
theorem cdF_ok6 {c : List Ic} {rc : Nat → Bool} {M : Km} {Q0 : Nat → Int → Prop} (h6 : C6 c) (h : KNa c Q0 M) (hc : c.length ≤ 1000000) (i : Nat) : Ok6 (cdF c rc M i) := by
  unfold cdF
  cases e : c[i]? with
  | none => exact z7_ok
  | some x =>
    simp only
    have hi := (List.getElem?_eq_some_iff.1 e).1
    split
    · exact one_ok6 (h6 i x e) (fun r n hv => kn_in6 h6 (h.yes i r n hv)) (by omega)
    · exact h6 i x e
/-- Instructions side by side, as cells. -/
def dF (f : Nat → Ic) (j : Nat) : Value := match j % 7 with
  | 0 => .int .i64 (f (j / 7)).k
  | 1 => .int .i64 (f (j / 7)).o
  | 2 => .int .i64 (f (j / 7)).d
  | 3 => .int .i64 (f (j / 7)).a
  | 4 => .int .i64 (f (j / 7)).b
  | 5 => .int .i64 (f (j / 7)).n
  | _ => .int .i64 (f (j / 7)).t
theorem dF_at (f : Nat → Ic) (i : Nat) : dF f (i * 7) = .int .i64 (f i).k ∧ dF f (i * 7 + 1) = .int .i64 (f i).o ∧ dF f (i * 7 + 2) = .int .i64 (f i).d ∧ dF f (i * 7 + 3) = .int .i64 (f i).a ∧ dF f (i * 7 + 4) = .int .i64 (f i).b ∧ dF f (i * 7 + 5) = .int .i64 (f i).n ∧ dF f (i * 7 + 6) = .int .i64 (f i).t := by
  refine ⟨?_, ?_, ?_, ?_, ?_, ?_, ?_⟩
  · unfold dF; rw [show i * 7 % 7 = 0 by omega, show i * 7 / 7 = i by omega]; rfl
  · unfold dF; rw [show (i * 7 + 1) % 7 = 1 by omega, show (i * 7 + 1) / 7 = i by omega]; rfl
  · unfold dF; rw [show (i * 7 + 2) % 7 = 2 by omega, show (i * 7 + 2) / 7 = i by omega]; rfl
  · unfold dF; rw [show (i * 7 + 3) % 7 = 3 by omega, show (i * 7 + 3) / 7 = i by omega]; rfl
  · unfold dF; rw [show (i * 7 + 4) % 7 = 4 by omega, show (i * 7 + 4) / 7 = i by omega]; rfl
  · unfold dF; rw [show (i * 7 + 5) % 7 = 5 by omega, show (i * 7 + 5) / 7 = i by omega]; rfl
  · unfold dF; rw [show (i * 7 + 6) % 7 = 6 by omega, show (i * 7 + 6) / 7 = i by omega]; rfl
theorem dF_set (f : Nat → Ic) (i : Nat) (y : Ic) : upd (upd (upd (upd (upd (upd (upd (dF f) (i * 7) (.int .i64 y.k)) (i * 7 + 1) (.int .i64 y.o)) (i * 7 + 2) (.int .i64 y.d)) (i * 7 + 3) (.int .i64 y.a)) (i * 7 + 4) (.int .i64 y.b)) (i * 7 + 5) (.int .i64 y.n)) (i * 7 + 6) (.int .i64 y.t) = dF (upd f i y) := by
  obtain ⟨e0, e1, e2, e3, e4, e5, e6⟩ := dF_at (upd f i y) i
  rw [upd_at] at e0 e1 e2 e3 e4 e5 e6
  funext j
  by_cases h : j / 7 = i
  · have h7 : j = i * 7 ∨ j = i * 7 + 1 ∨ j = i * 7 + 2 ∨ j = i * 7 + 3 ∨ j = i * 7 + 4 ∨ j = i * 7 + 5 ∨ j = i * 7 + 6 := by omega
    rcases h7 with rfl | rfl | rfl | rfl | rfl | rfl | rfl
    · rw [e0, upd_of (by omega), upd_of (by omega), upd_of (by omega), upd_of (by omega), upd_of (by omega), upd_of (by omega), upd_at]
    · rw [e1, upd_of (by omega), upd_of (by omega), upd_of (by omega), upd_of (by omega), upd_of (by omega), upd_at]
    · rw [e2, upd_of (by omega), upd_of (by omega), upd_of (by omega), upd_of (by omega), upd_at]
    · rw [e3, upd_of (by omega), upd_of (by omega), upd_of (by omega), upd_at]
    · rw [e4, upd_of (by omega), upd_of (by omega), upd_at]
    · rw [e5, upd_of (by omega), upd_at]
    · rw [e6, upd_at]
  · rw [upd_of (by omega), upd_of (by omega), upd_of (by omega), upd_of (by omega), upd_of (by omega), upd_of (by omega), upd_of (by omega)]
    unfold dF
    rw [upd_of h]
theorem FV.code {W : World} {b n : Nat} {f : Nat → Ic} (h : FV 53 W b (n * 7) (dF f)) (h6 : ∀ i, i < n → Ok6 (f i)) : CodeAt W (some ⟨b, 0, none⟩) ((List.range n).map f) := fun i x hx => by
  rw [List.getElem?_map] at hx
  by_cases hi : i < n
  · rw [List.getElem?_range hi] at hx
    have hx : f i = x := by simpa using hx
    subst hx
    obtain ⟨e0, e1, e2, e3, e4, e5, e6⟩ := dF_at f i
    refine ⟨b, 0, rfl, h.lt, ?_, h6 i hi⟩
    rw [Nat.zero_add]
    exact ⟨by rw [h.cell (by omega), e0], by rw [h.cell (by omega), e1], by rw [h.cell (by omega), e2], by rw [h.cell (by omega), e3], by rw [h.cell (by omega), e4], by rw [h.cell (by omega), e5], by rw [h.cell (by omega), e6]⟩
  · rw [List.getElem?_eq_none (by simp; omega)] at hx
    cases hx
end Go.Proofs.YtgdhgipofaaogaaDoor
namespace Go.Proofs.YtgdhgipofaaogaaDoor
open Go Go.RowKit Gm Go.ChangeMaps

def FcP (W : World) (c : List Ic) (n : Nat) (e : Ending) (w' : World) : Prop := ∃ (b : Nat) (D : List Ic), e = .returned (.slice (some ⟨b, 0, none⟩) n n) ∧ CodeAt w' (some ⟨b, 0, none⟩) D ∧ D.length = n ∧ CodeR c n D ∧ W.heap.size ≤ b ∧ Below W.heap.size W w'
theorem info_ic : (Tryd.prog.info? 53).map (fun i => (i.zero, i.size, i.bytes)) = some (some (.agg #[.int .i64 0, .int .i64 0, .int .i64 0, .int .i64 0, .int .i64 0, .int .i64 0, .int .i64 0]), 7, 56) := by kernel_rfl
theorem made_code (m : Nat) : madeCells (Value.agg #[.int .i64 0, .int .i64 0, .int .i64 0, .int .i64 0, .int .i64 0, .int .i64 0, .int .i64 0]).cells (m * 7) = (rw_ (m * 7) (dF fun _ => z7)).toArray := by
  unfold madeCells
  apply Array.ext_getElem?
  intro j
  by_cases h : j < m * 7
  · have h7 : j % 7 = 0 ∨ j % 7 = 1 ∨ j % 7 = 2 ∨ j % 7 = 3 ∨ j % 7 = 4 ∨ j % 7 = 5 ∨ j % 7 = 6 := by omega
    have hs : (Value.agg #[.int .i64 0, .int .i64 0, .int .i64 0, .int .i64 0, .int .i64 0, .int .i64 0, .int .i64 0]).cells = #[.int .i64 0, .int .i64 0, .int .i64 0, .int .i64 0, .int .i64 0, .int .i64 0, .int .i64 0] := by rfl
    rw [hs]
    rcases h7 with e | e | e | e | e | e | e <;> simp [rw_, h, dF, e, z7]
  · simp [rw_, h]
theorem make_code (m : Nat) (hm : m ≤ 10000) (W : World) : (Instr.makeSlice 28 (.int .i64 m) (.int .i64 m)).run Tryd.prog W = .ok (.slice (some ⟨W.heap.size, 0, none⟩) m m) (W.alloc (.cells (rw_ (m * 7) (dF fun _ => z7)).toArray 53)) := by
  obtain ⟨i0, h1, h2, h3, h4⟩ := info_parts info_ic
  have := run_makeSlice (P := Tryd.prog) W 28 53 i0 _ Tryd.underlying28 h1 h2 .i64 .i64 m m (by omega) (by omega) (Nat.le_trans (by rw [h3]; simp; omega) (show 100000 ≤ _ by decide)) (by rw [h4]; omega) (by omega)
  rw [this, h3]
  have e := made_code m
  simp only [Int.toNat_natCast]
  rw [e]
set_option maxRecDepth 100000 in
set_option maxHeartbeats 8000000 in
theorem code_c {W : World} {n cap : Nat} {c : List Ic} {pc : Option Addr} (hK : Hid (Kinds W)) (hC : Hid (CodeAt W pc c)) (hl : c.length = n) (hn : n ≤ 100) (hn0 : 0 < n) (hok : Hid (Okc c)) : Calls Tryd.prog 12 #[.slice pc n cap] W (FcP W c n) := by
  have hmk := make_code n (by omega)
  obtain ⟨gc, oc, epc, hgc, -⟩ := hC.out 0 c[0] (List.getElem?_eq_getElem (by omega))
  subst epc
  have HGC := Lib.hid hgc
  have HFA := Lib.hid (facts_c (cap := cap) hK hC hl (by omega) (by omega))
  have HC6 := Lib.hid hC.out.c6
  clear hgc
  go_enter Tryd.func12, Tryd.ntmps12
  go_upto_region 3 with (go_at_call 19; (with_reducible refine (HFA.out).mono ?_); rintro e2 w2 ⟨g, kb, lb, sb, ra, rw, F, rc, tg, fr, rfl, hfx, hb2⟩; have HFX := Lib.hid hfx; have HB2 := Lib.hid hb2; clear hfx hb2)
  have HP0 := Lib.hid (HFX.out.p0 HB2.out.size)
  have HOF : Hid (∀ b, b < W.heap.size → ownF g kb lb ra rw b = .no) := Lib.hid fun b hb => by
    have h2 := HFX.out.lo
    exact ownF_no ⟨by omega, by omega, by omega, by omega, by omega⟩
  have HBX : Hid (∀ own' F' VA' PA RA X, P0 W.heap.size (ownF g kb lb ra rw) w2 g kb lb sb n ra rw F c rc tg fr own' F' VA' PA RA X → Below W.heap.size W X) := Lib.hid fun own' F' VA' PA RA X h => HB2.out.trans (h.ch.below HB2.out.size fun b hb k => k (HOF.out b hb))
  go_loopw [15] (fun z wr => ∃ (i : Nat) (own1 : Nat → Ob) (F1 VA1 : Nat → Value) (PA1 : List Nat), z = .int .i64 i ∧ i ≤ n ∧ Hid (P0 W.heap.size (ownF g kb lb ra rw) w2 g kb lb sb n ra rw F c rc tg fr own1 F1 VA1 PA1 (RAt c i 0) wr)) (fun z _ => n - (intOf z).toNat)
  case atStart => exact ⟨0, ownF g kb lb ra rw, F, _, [], rfl, Nat.zero_le _, Lib.hid (by rw [RAt_zero]; exact HP0.out)⟩
  case round =>
    obtain ⟨wo, rfl⟩ : ∃ wo : World, wo = wr := ⟨_, rfl⟩
    obtain ⟨i, own1, F1, VA1, PA1, rfl, hi, HP1⟩ := hrel
    by_cases hlt : i < n
    · have HA := Lib.hid hlt
      have HB1 := Lib.hid (HBX.out _ _ _ _ _ _ HP1.out)
      obtain ⟨x, hx⟩ : ∃ x, c[i]? = some x := ⟨_, List.getElem?_eq_getElem (by omega)⟩
      have HX := Lib.hid hx
      obtain ⟨gc', oc', ep, hgc1, at7, h6⟩ := (hC.out.stay HB1.out) i x hx
      cases ep
      have HO6 := Lib.hid h6
      have k0 := at7.k
      have k1 := at7.o
      have k2 := at7.d
      have k3 := at7.a
      have k4 := at7.b
      have k5 := at7.n
      have k6 := at7.t
      clear at7 hx h6
      go_upto_region 5 with (fail)
      refine name_world ?_
      intro V1 hV1
      obtain ⟨m5, hm5⟩ : ∃ x, wo.heap.size = x := ⟨_, rfl⟩
      have HIB : Hid (Ib V1 m5 (.int .i64 x.k) (.int .i64 x.o) (.int .i64 x.d) (.int .i64 x.a) (.int .i64 x.b) (.int .i64 x.n) (.int .i64 x.t)) := Lib.hid (by rw [hV1]; exact Ib.new hm5.symm _ _ _ _ _ _ _)
      have HCV : Hid (Ch (fun _ => False) wo V1) := Lib.hid (by rw [hV1]; exact (Ch.refl (fun _ => False) wo).alloc _)
      have HPV := Lib.hid (HP1.out.mem HCV.out)
      have HKV : Hid (Kinds V1) := Lib.hid (hK.out.below (HBX.out _ _ _ _ _ _ HPV.out))
      obtain ⟨bm, y0, y1, y2, y3, y4, y5, y6, -⟩ := HIB.out.facts
      try rw [hm5]
      clear hV1 hm5 k0 k1 k2 k3 k4 k5 k6 hgc1
      by_cases e1 : x.k = 1
      · have HK4 : Hid (x.k = 1 ∨ x.k = 2 ∨ x.k = 3 ∨ x.k = 7) := Lib.hid (by omega)
        have g1 : (x.k == 1) = true := by simp [e1]
        clear e1
        have HNN : Hid (askN c i = usesM x) := Lib.hid (by rw [askN_at HX.out, if_pos HK4.out])
        have HUS := Lib.hid (uses_any x V1 (HKV.out))
        obtain ⟨N, hN⟩ : ∃ N, usesM x = N := ⟨_, rfl⟩
        rw [hN] at HUS HNN
        have hNl : N.length ≤ 3 := by rw [← hN]; exact uses_len x
        clear hN
        go_upto_region 11 with (go_at_call 25; (with_reducible refine (HUS.out).mono ?_); rintro e6 w6 ⟨v6, rfl, hr6, hb6⟩; obtain ⟨pn, kn, rfl, hrv6, hon6⟩ := RowP.rv hr6; have HB6 := Lib.hid hb6; have HRV6 := Lib.hid hrv6; have HON6 := Lib.hid hon6; clear hr6 hb6 hrv6 hon6)
        obtain ⟨ownA, hoA⟩ : ∃ o : Nat → Ob, o = fun b => if V1.heap.size ≤ b then Ob.no else own1 b := ⟨_, rfl⟩
        have HPA : Hid (P0 W.heap.size (ownF g kb lb ra rw) w2 g kb lb sb n ra rw F c rc tg fr ownA F1 VA1 PA1 (RAt c i 0) w6) := Lib.hid (HPV.out.mem2 (Ch.of HB6.out) fun b hb => by rw [hoA]; exact if_neg (by omega))
        have HNR : Hid (NoR ownA w6 pn N.length (iv fun j => N.getD j 0)) := Lib.hid ⟨HRV6.out, fun ad e => by
          obtain ⟨e1, e2, -⟩ := HON6.out ad e
          exact ⟨by rw [hoA]; exact if_pos e1, e2⟩⟩
        clear hoA
        go_loopw [30] (fun z wr => ∃ (j : Nat) (own2 : Nat → Ob) (F2 VA2 : Nat → Value) (PA2 : List Nat), z = .int .i64 j ∧ j ≤ N.length ∧ Hid (P0 W.heap.size (ownF g kb lb ra rw) w2 g kb lb sb n ra rw F c rc tg fr own2 F2 VA2 PA2 (RAt c i j) wr ∧ NoR own2 wr pn N.length (iv fun j => N.getD j 0))) (fun z _ => N.length - (intOf z).toNat)
        case atStart => exact ⟨0, ownA, F1, VA1, PA1, rfl, Nat.zero_le _, Lib.hid ⟨HPA.out, HNR.out⟩⟩
        case round =>
          obtain ⟨wj, rfl⟩ : ∃ wj : World, wj = wr := ⟨_, rfl⟩
          obtain ⟨j, own2, F2, VA2, PA2, rfl, hj, HI⟩ := hrel
          by_cases hltj : j < N.length
          · obtain ⟨gn, on, ep2, hgn, jr⟩ := HI.out.2.rv j hltj
            obtain ⟨z, hz⟩ : ∃ x, N[j] = x := ⟨_, rfl⟩
            have elv : iv (fun j => N.getD j 0) j = .int .i64 z := by
              show Value.int .i64 (N.getD j 0) = _
              rw [List.getD_eq_getElem?_getD, List.getElem?_eq_getElem hltj, hz]
              rfl
            rw [elv] at jr
            have HZ : Hid ((askN c i)[j]? = some z) := Lib.hid (by rw [HNN.out, List.getElem?_eq_getElem hltj, hz])
            subst ep2
            have HPJ := Lib.hid HI.out.1
            have hgj := HPJ.out.la.fv.lt
            have HPU : Hid (Calls Tryd.prog 20 #[.pointer (some ⟨g, 4, none⟩), .int .i64 i, .int .i64 z] wj (PutP W.heap.size own2 wj g 4 n ra F2 VA2 PA2 (RAt c i j) i z)) := Lib.hid (put_c (Lib.hid HPJ.out.la.fv) HPJ.out.la.f5 (by omega) (Lib.hid HPJ.out.la.qa) HPJ.out.la.og HA.out (by omega) (Nat.le_trans HB2.out.size HPJ.out.ch.size) (by have := HPJ.out.qi.len; omega) (by have := RAt_len c i j i; omega))
            clear elv hz
            go_wp2_with (go_at_call 20; (with_reducible refine (HPU.out).mono ?_); rintro e3 w3 hp; obtain ⟨v3, own3, F3, VA3, rfl, ho3, hc3, hp3⟩ := HPJ.out.put HA.out hp; have HP3 := Lib.hid hp3; have HO3 := Lib.hid ho3; have HC3 := Lib.hid hc3; clear hp hp3 ho3 hc3)
            go_roundw
            case rel => exact ⟨j + 1, own3, F3, VA3, _, by go_num, by omega, Lib.hid ⟨by rw [← RAt_put HZ.out]; exact HP3.out, HI.out.2.ch HC3.out HO3.out fun b e k => k e⟩⟩
            case measure => (simp [intOf]; try omega)
          · obtain rfl : j = N.length := by omega
            go_wp2
            go_roundw
            case rel => exact ⟨i + 1, own2, F2, VA2, PA2, by go_num, by omega, Lib.hid (by rw [← RAt_next, HNN.out]; exact HI.out.1)⟩
            case measure => (simp [intOf]; try omega)
      · by_cases e2 : x.k = 2
        · have HK4 : Hid (x.k = 1 ∨ x.k = 2 ∨ x.k = 3 ∨ x.k = 7) := Lib.hid (by omega)
          have g1 : (x.k == 1) = false := by simp [e1]
          have g2 : (x.k == 2) = true := by simp [e2]
          clear e1 e2
          have HNN : Hid (askN c i = usesM x) := Lib.hid (by rw [askN_at HX.out, if_pos HK4.out])
          have HUS := Lib.hid (uses_any x V1 (HKV.out))
          obtain ⟨N, hN⟩ : ∃ N, usesM x = N := ⟨_, rfl⟩
          rw [hN] at HUS HNN
          have hNl : N.length ≤ 3 := by rw [← hN]; exact uses_len x
          clear hN
          go_upto_region 11 with (go_at_call 25; (with_reducible refine (HUS.out).mono ?_); rintro e6 w6 ⟨v6, rfl, hr6, hb6⟩; obtain ⟨pn, kn, rfl, hrv6, hon6⟩ := RowP.rv hr6; have HB6 := Lib.hid hb6; have HRV6 := Lib.hid hrv6; have HON6 := Lib.hid hon6; clear hr6 hb6 hrv6 hon6)
          obtain ⟨ownA, hoA⟩ : ∃ o : Nat → Ob, o = fun b => if V1.heap.size ≤ b then Ob.no else own1 b := ⟨_, rfl⟩
          have HPA : Hid (P0 W.heap.size (ownF g kb lb ra rw) w2 g kb lb sb n ra rw F c rc tg fr ownA F1 VA1 PA1 (RAt c i 0) w6) := Lib.hid (HPV.out.mem2 (Ch.of HB6.out) fun b hb => by rw [hoA]; exact if_neg (by omega))
          have HNR : Hid (NoR ownA w6 pn N.length (iv fun j => N.getD j 0)) := Lib.hid ⟨HRV6.out, fun ad e => by
            obtain ⟨e1, e2, -⟩ := HON6.out ad e
            exact ⟨by rw [hoA]; exact if_pos e1, e2⟩⟩
          clear hoA
          go_loopw [30] (fun z wr => ∃ (j : Nat) (own2 : Nat → Ob) (F2 VA2 : Nat → Value) (PA2 : List Nat), z = .int .i64 j ∧ j ≤ N.length ∧ Hid (P0 W.heap.size (ownF g kb lb ra rw) w2 g kb lb sb n ra rw F c rc tg fr own2 F2 VA2 PA2 (RAt c i j) wr ∧ NoR own2 wr pn N.length (iv fun j => N.getD j 0))) (fun z _ => N.length - (intOf z).toNat)
          case atStart => exact ⟨0, ownA, F1, VA1, PA1, rfl, Nat.zero_le _, Lib.hid ⟨HPA.out, HNR.out⟩⟩
          case round =>
            obtain ⟨wj, rfl⟩ : ∃ wj : World, wj = wr := ⟨_, rfl⟩
            obtain ⟨j, own2, F2, VA2, PA2, rfl, hj, HI⟩ := hrel
            by_cases hltj : j < N.length
            · obtain ⟨gn, on, ep2, hgn, jr⟩ := HI.out.2.rv j hltj
              obtain ⟨z, hz⟩ : ∃ x, N[j] = x := ⟨_, rfl⟩
              have elv : iv (fun j => N.getD j 0) j = .int .i64 z := by
                show Value.int .i64 (N.getD j 0) = _
                rw [List.getD_eq_getElem?_getD, List.getElem?_eq_getElem hltj, hz]
                rfl
              rw [elv] at jr
              have HZ : Hid ((askN c i)[j]? = some z) := Lib.hid (by rw [HNN.out, List.getElem?_eq_getElem hltj, hz])
              subst ep2
              have HPJ := Lib.hid HI.out.1
              have hgj := HPJ.out.la.fv.lt
              have HPU : Hid (Calls Tryd.prog 20 #[.pointer (some ⟨g, 4, none⟩), .int .i64 i, .int .i64 z] wj (PutP W.heap.size own2 wj g 4 n ra F2 VA2 PA2 (RAt c i j) i z)) := Lib.hid (put_c (Lib.hid HPJ.out.la.fv) HPJ.out.la.f5 (by omega) (Lib.hid HPJ.out.la.qa) HPJ.out.la.og HA.out (by omega) (Nat.le_trans HB2.out.size HPJ.out.ch.size) (by have := HPJ.out.qi.len; omega) (by have := RAt_len c i j i; omega))
              clear elv hz
              go_wp2_with (go_at_call 20; (with_reducible refine (HPU.out).mono ?_); rintro e3 w3 hp; obtain ⟨v3, own3, F3, VA3, rfl, ho3, hc3, hp3⟩ := HPJ.out.put HA.out hp; have HP3 := Lib.hid hp3; have HO3 := Lib.hid ho3; have HC3 := Lib.hid hc3; clear hp hp3 ho3 hc3)
              go_roundw
              case rel => exact ⟨j + 1, own3, F3, VA3, _, by go_num, by omega, Lib.hid ⟨by rw [← RAt_put HZ.out]; exact HP3.out, HI.out.2.ch HC3.out HO3.out fun b e k => k e⟩⟩
              case measure => (simp [intOf]; try omega)
            · obtain rfl : j = N.length := by omega
              go_wp2
              go_roundw
              case rel => exact ⟨i + 1, own2, F2, VA2, PA2, by go_num, by omega, Lib.hid (by rw [← RAt_next, HNN.out]; exact HI.out.1)⟩
              case measure => (simp [intOf]; try omega)
        · by_cases e3 : x.k = 3
          · have HK4 : Hid (x.k = 1 ∨ x.k = 2 ∨ x.k = 3 ∨ x.k = 7) := Lib.hid (by omega)
            have g1 : (x.k == 1) = false := by simp [e1]
            have g2 : (x.k == 2) = false := by simp [e2]
            have g3 : (x.k == 3) = true := by simp [e3]
            clear e1 e2 e3
            have HNN : Hid (askN c i = usesM x) := Lib.hid (by rw [askN_at HX.out, if_pos HK4.out])
            have HUS := Lib.hid (uses_any x V1 (HKV.out))
            obtain ⟨N, hN⟩ : ∃ N, usesM x = N := ⟨_, rfl⟩
            rw [hN] at HUS HNN
            have hNl : N.length ≤ 3 := by rw [← hN]; exact uses_len x
            clear hN
            go_upto_region 11 with (go_at_call 25; (with_reducible refine (HUS.out).mono ?_); rintro e6 w6 ⟨v6, rfl, hr6, hb6⟩; obtain ⟨pn, kn, rfl, hrv6, hon6⟩ := RowP.rv hr6; have HB6 := Lib.hid hb6; have HRV6 := Lib.hid hrv6; have HON6 := Lib.hid hon6; clear hr6 hb6 hrv6 hon6)
            obtain ⟨ownA, hoA⟩ : ∃ o : Nat → Ob, o = fun b => if V1.heap.size ≤ b then Ob.no else own1 b := ⟨_, rfl⟩
            have HPA : Hid (P0 W.heap.size (ownF g kb lb ra rw) w2 g kb lb sb n ra rw F c rc tg fr ownA F1 VA1 PA1 (RAt c i 0) w6) := Lib.hid (HPV.out.mem2 (Ch.of HB6.out) fun b hb => by rw [hoA]; exact if_neg (by omega))
            have HNR : Hid (NoR ownA w6 pn N.length (iv fun j => N.getD j 0)) := Lib.hid ⟨HRV6.out, fun ad e => by
              obtain ⟨e1, e2, -⟩ := HON6.out ad e
              exact ⟨by rw [hoA]; exact if_pos e1, e2⟩⟩
            clear hoA
            go_loopw [30] (fun z wr => ∃ (j : Nat) (own2 : Nat → Ob) (F2 VA2 : Nat → Value) (PA2 : List Nat), z = .int .i64 j ∧ j ≤ N.length ∧ Hid (P0 W.heap.size (ownF g kb lb ra rw) w2 g kb lb sb n ra rw F c rc tg fr own2 F2 VA2 PA2 (RAt c i j) wr ∧ NoR own2 wr pn N.length (iv fun j => N.getD j 0))) (fun z _ => N.length - (intOf z).toNat)
            case atStart => exact ⟨0, ownA, F1, VA1, PA1, rfl, Nat.zero_le _, Lib.hid ⟨HPA.out, HNR.out⟩⟩
            case round =>
              obtain ⟨wj, rfl⟩ : ∃ wj : World, wj = wr := ⟨_, rfl⟩
              obtain ⟨j, own2, F2, VA2, PA2, rfl, hj, HI⟩ := hrel
              by_cases hltj : j < N.length
              · obtain ⟨gn, on, ep2, hgn, jr⟩ := HI.out.2.rv j hltj
                obtain ⟨z, hz⟩ : ∃ x, N[j] = x := ⟨_, rfl⟩
                have elv : iv (fun j => N.getD j 0) j = .int .i64 z := by
                  show Value.int .i64 (N.getD j 0) = _
                  rw [List.getD_eq_getElem?_getD, List.getElem?_eq_getElem hltj, hz]
                  rfl
                rw [elv] at jr
                have HZ : Hid ((askN c i)[j]? = some z) := Lib.hid (by rw [HNN.out, List.getElem?_eq_getElem hltj, hz])
                subst ep2
                have HPJ := Lib.hid HI.out.1
                have hgj := HPJ.out.la.fv.lt
                have HPU : Hid (Calls Tryd.prog 20 #[.pointer (some ⟨g, 4, none⟩), .int .i64 i, .int .i64 z] wj (PutP W.heap.size own2 wj g 4 n ra F2 VA2 PA2 (RAt c i j) i z)) := Lib.hid (put_c (Lib.hid HPJ.out.la.fv) HPJ.out.la.f5 (by omega) (Lib.hid HPJ.out.la.qa) HPJ.out.la.og HA.out (by omega) (Nat.le_trans HB2.out.size HPJ.out.ch.size) (by have := HPJ.out.qi.len; omega) (by have := RAt_len c i j i; omega))
                clear elv hz
                go_wp2_with (go_at_call 20; (with_reducible refine (HPU.out).mono ?_); rintro e3 w3 hp; obtain ⟨v3, own3, F3, VA3, rfl, ho3, hc3, hp3⟩ := HPJ.out.put HA.out hp; have HP3 := Lib.hid hp3; have HO3 := Lib.hid ho3; have HC3 := Lib.hid hc3; clear hp hp3 ho3 hc3)
                go_roundw
                case rel => exact ⟨j + 1, own3, F3, VA3, _, by go_num, by omega, Lib.hid ⟨by rw [← RAt_put HZ.out]; exact HP3.out, HI.out.2.ch HC3.out HO3.out fun b e k => k e⟩⟩
                case measure => (simp [intOf]; try omega)
              · obtain rfl : j = N.length := by omega
                go_wp2
                go_roundw
                case rel => exact ⟨i + 1, own2, F2, VA2, PA2, by go_num, by omega, Lib.hid (by rw [← RAt_next, HNN.out]; exact HI.out.1)⟩
                case measure => (simp [intOf]; try omega)
          · by_cases e7 : x.k = 7
            · have HK4 : Hid (x.k = 1 ∨ x.k = 2 ∨ x.k = 3 ∨ x.k = 7) := Lib.hid (by omega)
              have g1 : (x.k == 1) = false := by simp [e1]
              have g2 : (x.k == 2) = false := by simp [e2]
              have g3 : (x.k == 3) = false := by simp [e3]
              have g7 : (x.k == 7) = true := by simp [e7]
              clear e1 e2 e3 e7
              have HNN : Hid (askN c i = usesM x) := Lib.hid (by rw [askN_at HX.out, if_pos HK4.out])
              have HUS := Lib.hid (uses_any x V1 (HKV.out))
              obtain ⟨N, hN⟩ : ∃ N, usesM x = N := ⟨_, rfl⟩
              rw [hN] at HUS HNN
              have hNl : N.length ≤ 3 := by rw [← hN]; exact uses_len x
              clear hN
              go_upto_region 11 with (go_at_call 25; (with_reducible refine (HUS.out).mono ?_); rintro e6 w6 ⟨v6, rfl, hr6, hb6⟩; obtain ⟨pn, kn, rfl, hrv6, hon6⟩ := RowP.rv hr6; have HB6 := Lib.hid hb6; have HRV6 := Lib.hid hrv6; have HON6 := Lib.hid hon6; clear hr6 hb6 hrv6 hon6)
              obtain ⟨ownA, hoA⟩ : ∃ o : Nat → Ob, o = fun b => if V1.heap.size ≤ b then Ob.no else own1 b := ⟨_, rfl⟩
              have HPA : Hid (P0 W.heap.size (ownF g kb lb ra rw) w2 g kb lb sb n ra rw F c rc tg fr ownA F1 VA1 PA1 (RAt c i 0) w6) := Lib.hid (HPV.out.mem2 (Ch.of HB6.out) fun b hb => by rw [hoA]; exact if_neg (by omega))
              have HNR : Hid (NoR ownA w6 pn N.length (iv fun j => N.getD j 0)) := Lib.hid ⟨HRV6.out, fun ad e => by
                obtain ⟨e1, e2, -⟩ := HON6.out ad e
                exact ⟨by rw [hoA]; exact if_pos e1, e2⟩⟩
              clear hoA
              go_loopw [30] (fun z wr => ∃ (j : Nat) (own2 : Nat → Ob) (F2 VA2 : Nat → Value) (PA2 : List Nat), z = .int .i64 j ∧ j ≤ N.length ∧ Hid (P0 W.heap.size (ownF g kb lb ra rw) w2 g kb lb sb n ra rw F c rc tg fr own2 F2 VA2 PA2 (RAt c i j) wr ∧ NoR own2 wr pn N.length (iv fun j => N.getD j 0))) (fun z _ => N.length - (intOf z).toNat)
              case atStart => exact ⟨0, ownA, F1, VA1, PA1, rfl, Nat.zero_le _, Lib.hid ⟨HPA.out, HNR.out⟩⟩
              case round =>
                obtain ⟨wj, rfl⟩ : ∃ wj : World, wj = wr := ⟨_, rfl⟩
                obtain ⟨j, own2, F2, VA2, PA2, rfl, hj, HI⟩ := hrel
                by_cases hltj : j < N.length
                · obtain ⟨gn, on, ep2, hgn, jr⟩ := HI.out.2.rv j hltj
                  obtain ⟨z, hz⟩ : ∃ x, N[j] = x := ⟨_, rfl⟩
                  have elv : iv (fun j => N.getD j 0) j = .int .i64 z := by
                    show Value.int .i64 (N.getD j 0) = _
                    rw [List.getD_eq_getElem?_getD, List.getElem?_eq_getElem hltj, hz]
                    rfl
                  rw [elv] at jr
                  have HZ : Hid ((askN c i)[j]? = some z) := Lib.hid (by rw [HNN.out, List.getElem?_eq_getElem hltj, hz])
                  subst ep2
                  have HPJ := Lib.hid HI.out.1
                  have hgj := HPJ.out.la.fv.lt
                  have HPU : Hid (Calls Tryd.prog 20 #[.pointer (some ⟨g, 4, none⟩), .int .i64 i, .int .i64 z] wj (PutP W.heap.size own2 wj g 4 n ra F2 VA2 PA2 (RAt c i j) i z)) := Lib.hid (put_c (Lib.hid HPJ.out.la.fv) HPJ.out.la.f5 (by omega) (Lib.hid HPJ.out.la.qa) HPJ.out.la.og HA.out (by omega) (Nat.le_trans HB2.out.size HPJ.out.ch.size) (by have := HPJ.out.qi.len; omega) (by have := RAt_len c i j i; omega))
                  clear elv hz
                  go_wp2_with (go_at_call 20; (with_reducible refine (HPU.out).mono ?_); rintro e3 w3 hp; obtain ⟨v3, own3, F3, VA3, rfl, ho3, hc3, hp3⟩ := HPJ.out.put HA.out hp; have HP3 := Lib.hid hp3; have HO3 := Lib.hid ho3; have HC3 := Lib.hid hc3; clear hp hp3 ho3 hc3)
                  go_roundw
                  case rel => exact ⟨j + 1, own3, F3, VA3, _, by go_num, by omega, Lib.hid ⟨by rw [← RAt_put HZ.out]; exact HP3.out, HI.out.2.ch HC3.out HO3.out fun b e k => k e⟩⟩
                  case measure => (simp [intOf]; try omega)
                · obtain rfl : j = N.length := by omega
                  go_wp2
                  go_roundw
                  case rel => exact ⟨i + 1, own2, F2, VA2, PA2, by go_num, by omega, Lib.hid (by rw [← RAt_next, HNN.out]; exact HI.out.1)⟩
                  case measure => (simp [intOf]; try omega)
            · have g1 : (x.k == 1) = false := by simp [e1]
              have g2 : (x.k == 2) = false := by simp [e2]
              have g3 : (x.k == 3) = false := by simp [e3]
              have g7 : (x.k == 7) = false := by simp [e7]
              have HNN : Hid (askN c i = []) := Lib.hid (by rw [askN_at HX.out, if_neg (by omega)])
              clear e1 e2 e3 e7
              go_wp2
              go_roundw
              case rel => exact ⟨i + 1, own1, F1, VA1, PA1, by go_num, by omega, Lib.hid (by
                have h := RAt_next (c := c) (i := i)
                rw [HNN.out] at h
                rw [← h]
                exact HPV.out)⟩
              case measure => (simp [intOf]; try omega)
    · have hin : n = i := by omega
      subst hin
      obtain ⟨L, hL⟩ : ∃ L, askL c = L := ⟨_, rfl⟩
      have HLn : Hid (∀ b nd, nd ∈ nds c b → nd ∈ L) := Lib.hid fun b nd h => by rw [← hL]; exact askL_in (nds_ask h)
      have HLa : Hid (∀ b nd, nd ∈ askN c b → nd ∈ L) := Lib.hid fun b nd h => by rw [← hL]; exact askL_in h
      have HL0 : Hid (∀ r, r ∈ L → 0 ≤ r) := Lib.hid fun r h => by rw [← hL] at h; exact (askL_ok HC6.out h).1
      have HL6 : Hid (∀ r, r ∈ L → In6 r) := Lib.hid fun r h => by rw [← hL] at h; exact (askL_ok HC6.out h).2
      have hLl : L.length ≤ 300 := by
        have := askL_len c
        rw [← hL]
        omega
      clear hL
      have hnn : n * (2 * n) ≤ 100 * (2 * 100) := Nat.mul_le_mul hn (by omega)
      have hnL : n * (2 * L.length) ≤ 100 * (2 * 300) := Nat.mul_le_mul hn (by omega)
      have HB3 : Hid (W.heap.size ≤ wo.heap.size) := Lib.hid (Nat.le_trans HB2.out.size HP1.out.ch.size)
      have HAR := Lib.hid (HP1.out.ar (L := L) (KA := 3 * L.length + 3) (KW := L.length) (KL := n * (2 * n)) (Q0 := fun p r => r ∈ askN c p) (fun p r h => HLa.out p r (RAt_sub h)) (fun a => by have := RAt_len c n 0 a; omega) (Nat.le_refl _) HFX.out.frl (Nat.le_refl _) (fun p r h => by
        unfold RAt
        rw [if_pos (by have := askN_lt h; omega)]
        exact h))
      have HF31 : Hid (F1 1 = .slice (some ⟨sb, 0, none⟩) n n) := Lib.hid ((HP1.out.fe 1 (by omega) (by omega)).trans HFX.out.f1)
      have HF32 : Hid (F1 2 = .slice (some ⟨kb, 0, none⟩) n n) := Lib.hid ((HP1.out.fe 2 (by omega) (by omega)).trans HFX.out.f2)
      have HF30 : Hid (F1 0 = .slice (some ⟨gc, oc, none⟩) n cap) := Lib.hid ((HP1.out.fe 0 (by omega) (by omega)).trans HFX.out.f0)
      have HAS := Lib.hid (ask_c HAR HF31.out HF32.out hl (by omega) HB3.out (Lib.hid HFX.out.rci) (Lib.hid HFX.out.stp) HLn HL6 (by omega) (by omega) (by omega) (by omega) (Lib.hid fun p => by have := HFX.out.frl p; omega))
      go_upto_region 17 with (go_at_call 21; (with_reducible refine (HAS.out).mono ?_); rintro e4 w4 hp; obtain ⟨v4, own4, F4, KV4, LV4, VW4, M4, Lf4, Ld4, PW4, RW4, rfl, ho4, hf4, hc4, hl4, hq4, ht4⟩ := hp.tr (K := L.length + 2 * (n * (2 * L.length))) HF32.out HL0.out HL6.out hok.out (Nat.le_refl _); have HO4 := Lib.hid ho4; have HF4 := Lib.hid hf4; have HC4 := Lib.hid hc4; have HL4 := Lib.hid hl4; have HQ4 := Lib.hid hq4; have HT4 := Lib.hid ht4; clear hp ho4 hf4 hc4 hl4 hq4 ht4)
      have HOW : Hid (∀ b, b < W.heap.size → own1 b = .no) := Lib.hid fun b hb => by
        rw [HP1.out.ow b (Nat.lt_of_lt_of_le hb HB2.out.size)]
        exact HOF.out b hb
      have HOW4 : Hid (∀ b, b < W.heap.size → own4 b = .no) := Lib.hid fun b hb => by
        rcases HO4.out b (Nat.lt_of_lt_of_le hb HB3.out) with h | h
        · rw [h]; exact HOW.out b hb
        · exact h
      have HBW4 : Hid (Below W.heap.size W w4) := Lib.hid ((HBX.out _ _ _ _ _ _ HP1.out).trans (HC4.out.below HB3.out fun b hb h => h (HOW.out b hb)))
      have HCo : Hid (∀ ad, some (⟨gc, oc, none⟩ : Addr) = some ad → own4 ad.block = .no) := Lib.hid fun ad e => by
        cases e
        exact HOW4.out _ HGC.out
      have HTE := Lib.hid (tell_c HT4 ((HF4.out 0 (by omega) (by omega)).trans HF30.out) ((HF4.out 1 (by omega) (by omega)).trans HF31.out) (Lib.hid (hC.out.stay HBW4.out)) HCo hl (by omega) HBW4.out.size (Lib.hid HFX.out.rci) (Lib.hid HFX.out.stp) hok (by omega) (by omega) (Lib.hid fun s r => by have := HL4.out s r; omega) (Lib.hid fun b => by have := nds_len c b; omega) (Lib.hid fun b => dfn_in6 HC6.out b) (Lib.hid fun b nd h => (nds_ok HC6.out h).2))
      go_upto_region 18 with (go_at_call 22; (with_reducible refine (HTE.out).mono ?_); rintro e5 w5 hp; obtain ⟨v5, own5, F5, VW5, M5, RW5, rfl, ht5⟩ := hp; have HT5 := Lib.hid ht5; clear ht5)
      have HKN := Lib.hid (HT5.out.tl.kna HFX.out.stp hok.out HQ4.out)
      have HBW5 : Hid (Below W.heap.size W w5) := Lib.hid (HBW4.out.trans (HT5.out.ch.below HBW4.out.size fun b hb h => TS.no (HOW4.out b hb) h))
      have HFQ : Hid (FQ own5 w5 g kb sb n cap (some (⟨gc, oc, none⟩ : Addr)) F5 KV4 M5 c) := Lib.hid ⟨HT5.out.ta.fv, (HT5.out.fe 0 (by omega)).trans ((HF4.out 0 (by omega) (by omega)).trans HF30.out), (HT5.out.fe 1 (by omega)).trans ((HF4.out 1 (by omega) (by omega)).trans HF31.out), HT5.out.ta.f2, HT5.out.ta.km, hC.out.stay HBW5.out, hl, by omega, HT5.out.st.st.sl, fun i hi hr => HT5.out.st.st.d i hi ((HFX.out.rci i).2 hr)⟩
      have HSR : Hid (∀ i, i < n → w5.cell? ⟨sb, i * 5, none⟩ = some (.bool (rc i))) := Lib.hid HT5.out.st.st.r
      go_upto_region 20 with (fail)
      refine name_world ?_
      intro w7 hw7
      obtain ⟨b8, hb8⟩ : ∃ x, w5.heap.size = x := ⟨_, rfl⟩
      have HV7 : Hid (FV 53 w7 b8 (n * 7) (dF fun _ => z7)) := Lib.hid (by rw [hw7]; exact FV.new hb8.symm (by simp))
      have HB7 : Hid (Below w5.heap.size w5 w7) := Lib.hid (by rw [hw7]; exact (Below.refl _ _).alloc (Nat.le_refl _) _)
      have HB8 : Hid (w5.heap.size ≤ b8) := Lib.hid (by omega)
      try rw [hb8]
      clear hw7 hb8 hmk
      go_loopw [51] (fun z wr => ∃ (i : Nat) (f : Nat → Ic), z = .int .i64 i ∧ i ≤ n ∧ Hid (FV 53 wr b8 (n * 7) (dF f) ∧ (∀ j, j < i → f j = cdF c rc M5 j) ∧ Ch (fun z => z = b8) w7 wr)) (fun z _ => n - (intOf z).toNat)
      case atStart => exact ⟨0, _, rfl, Nat.zero_le _, Lib.hid ⟨HV7.out, fun j hj => absurd hj (Nat.not_lt_zero _), Ch.refl _ _⟩⟩
      case round =>
        obtain ⟨wi, rfl⟩ : ∃ wi : World, wi = wr := ⟨_, rfl⟩
        obtain ⟨i, f, rfl, hi2, HI⟩ := hrel
        have HBI : Hid (Below w5.heap.size w5 wi) := Lib.hid (HB7.out.trans (HI.out.2.2.below HB7.out.size fun b hb h => by have := HB8.out; omega))
        by_cases hlti : i < n
        · obtain ⟨x, hx⟩ : ∃ x, c[i]? = some x := ⟨_, List.getElem?_eq_getElem (by omega)⟩
          have HX := Lib.hid hx
          obtain ⟨gc', oc', ep, hgc1, at7, h6⟩ := ((hC.out.stay HBW5.out).stay HBI.out) i x hx
          cases ep
          have k0 := at7.k
          have k1 := at7.o
          have k2 := at7.d
          have k3 := at7.a
          have k4 := at7.b
          have k5 := at7.n
          have k6 := at7.t
          clear at7 hx h6
          go_upto_region 22 with (fail)
          refine name_world ?_
          intro V1 hV1
          obtain ⟨m5, hm5⟩ : ∃ x, wi.heap.size = x := ⟨_, rfl⟩
          have HIB : Hid (Ib V1 m5 (.int .i64 x.k) (.int .i64 x.o) (.int .i64 x.d) (.int .i64 x.a) (.int .i64 x.b) (.int .i64 x.n) (.int .i64 x.t)) := Lib.hid (by rw [hV1]; exact Ib.new hm5.symm _ _ _ _ _ _ _)
          have HCV : Hid (Below wi.heap.size wi V1) := Lib.hid (by rw [hV1]; exact (Below.refl _ _).alloc (Nat.le_refl _) _)
          have HVV := Lib.hid (HI.out.1.stay HCV.out)
          obtain ⟨bm, y0, y1, y2, y3, y4, y5, y6, -⟩ := HIB.out.facts
          have hb8l := HVV.out.lt
          have c0 := HVV.out.cell (i := i * 7) (by omega)
          have z0 := HVV.out.frozen (i * 7)
          have c1 := HVV.out.cell (i := i * 7 + 1) (by omega)
          have z1 := HVV.out.frozen (i * 7 + 1)
          have c2 := HVV.out.cell (i := i * 7 + 2) (by omega)
          have z2 := HVV.out.frozen (i * 7 + 2)
          have c3 := HVV.out.cell (i := i * 7 + 3) (by omega)
          have z3 := HVV.out.frozen (i * 7 + 3)
          have c4 := HVV.out.cell (i := i * 7 + 4) (by omega)
          have z4 := HVV.out.frozen (i * 7 + 4)
          have c5 := HVV.out.cell (i := i * 7 + 5) (by omega)
          have z5 := HVV.out.frozen (i * 7 + 5)
          have c6 := HVV.out.cell (i := i * 7 + 6) (by omega)
          have z6 := HVV.out.frozen (i * 7 + 6)
          try rw [hm5]
          clear hV1 hm5 k0 k1 k2 k3 k4 k5 k6 hgc1
          go_upto_region 23 with (fail)
          refine name_world ?_
          intro V2 hV2
          have HV2 : Hid (FV 53 V2 b8 (n * 7) (dF (upd f i x))) := Lib.hid (by
            rw [hV2, ← dF_set]
            exact ((((((HVV.out.set _ _).set _ _).set _ _).set _ _).set _ _).set _ _).set _ _)
          have HC2 : Hid (Ch (fun z => z = b8) V1 V2) := Lib.hid (by
            rw [hV2]
            exact (((((((Ch.refl (fun z => z = b8) V1).set (.inl rfl) _ _).set (.inl rfl) _ _).set (.inl rfl) _ _).set (.inl rfl) _ _).set (.inl rfl) _ _).set (.inl rfl) _ _).set (.inl rfl) _ _)
          have HC72 : Hid (Ch (fun z => z = b8) w7 V2) := Lib.hid ((HI.out.2.2.stepB HCV.out).trans HC2.out)
          have HB52 : Hid (Below w5.heap.size w5 V2) := Lib.hid (HB7.out.trans (HC72.out.below HB7.out.size fun b hb h => by have := HB8.out; omega))
          have HQ2 := Lib.hid (HFQ.out.stay HB52.out)
          have hg2 := HQ2.out.fv.lt
          have d1 := HQ2.out.fv.cell (i := 1) (by omega)
          rw [HQ2.out.f1] at d1
          have hsb2 := HQ2.out.sl
          have r2 := (HB52.out.cell (p := ⟨sb, _, none⟩) HFQ.out.sl).trans (HSR.out i hlti)
          clear hV2 y0 y1 y2 y3 y4 y5 y6 bm hb8l c0 c1 c2 c3 c4 c5 c6 z0 z1 z2 z3 z4 z5 z6
          cases hri : rc i with
          | true =>
            rw [hri] at r2
            have HRI := Lib.hid hri
            have HFO := Lib.hid (folded_c HQ2 hlti HX.out ((HFX.out.rci i).1 hri) hok.out)
            obtain ⟨y, hy⟩ : ∃ y, oneM (Xv M5 i) x i = y := ⟨_, rfl⟩
            rw [hy] at HFO
            have HY := Lib.hid hy
            clear hri hy
            go_wp2_with (go_at_call 26; (with_reducible refine (HFO.out).mono ?_); rintro e3 w3 ⟨rfl, hb3⟩; have HB3 := Lib.hid hb3; have HV3 := Lib.hid (HV2.out.stay hb3); have hb8l := HV3.out.lt; have c0 := HV3.out.cell (i := i * 7) (by omega); have z0 := HV3.out.frozen (i * 7); have c1 := HV3.out.cell (i := i * 7 + 1) (by omega); have z1 := HV3.out.frozen (i * 7 + 1); have c2 := HV3.out.cell (i := i * 7 + 2) (by omega); have z2 := HV3.out.frozen (i * 7 + 2); have c3 := HV3.out.cell (i := i * 7 + 3) (by omega); have z3 := HV3.out.frozen (i * 7 + 3); have c4 := HV3.out.cell (i := i * 7 + 4) (by omega); have z4 := HV3.out.frozen (i * 7 + 4); have c5 := HV3.out.cell (i := i * 7 + 5) (by omega); have z5 := HV3.out.frozen (i * 7 + 5); have c6 := HV3.out.cell (i := i * 7 + 6) (by omega); have z6 := HV3.out.frozen (i * 7 + 6); clear hb3)
            go_roundw
            case rel =>
              refine ⟨i + 1, upd (upd f i x) i y, by go_num, by omega, Lib.hid ⟨by
                rw [← dF_set]
                exact ((((((HV3.out.set _ _).set _ _).set _ _).set _ _).set _ _).set _ _).set _ _, fun j hj => ?_, (((((((HC72.out.stepB HB3.out).set (.inl rfl) _ _).set (.inl rfl) _ _).set (.inl rfl) _ _).set (.inl rfl) _ _).set (.inl rfl) _ _).set (.inl rfl) _ _).set (.inl rfl) _ _⟩⟩
              by_cases e : j = i
              · rw [e, upd_at]
                unfold cdF
                rw [HX.out]
                simp only
                rw [if_pos HRI.out, HY.out]
              · rw [upd_of e, upd_of e]
                exact HI.out.2.1 j (by omega)
            case measure => (simp [intOf]; try omega)
          | false =>
            rw [hri] at r2
            have HRI := Lib.hid hri
            clear hri
            go_wp2
            go_roundw
            case rel =>
              refine ⟨i + 1, upd f i x, by go_num, by omega, Lib.hid ⟨HV2.out, fun j hj => ?_, HC72.out⟩⟩
              by_cases e : j = i
              · rw [e, upd_at]
                unfold cdF
                rw [HX.out]
                simp only
                rw [if_neg (by rw [HRI.out]; simp)]
              · rw [upd_of e]
                exact HI.out.2.1 j (by omega)
            case measure => (simp [intOf]; try omega)
        · have hin : n = i := by omega
          subst hin
          have HEND : Hid (FcP W c n (.returned (.slice (some ⟨b8, 0, none⟩) n n)) wi) := Lib.hid (by
            have hf : FV 53 wi b8 (n * 7) (dF (cdF c rc M5)) := HI.out.1.to fun j hj => by
              unfold dF
              rw [HI.out.2.1 (j / 7) (by omega)]
            refine ⟨b8, (List.range n).map (cdF c rc M5), rfl, hf.code fun j hj => cdF_ok6 HC6.out HKN.out (by omega) j, by simp, ?_, Nat.le_trans HBW5.out.size HB8.out, HBW5.out.trans (HBI.out.mono HBW5.out.size)⟩
            have h := cdF_code hok.out HFX.out.rci HKN.out
            rw [hl] at h
            exact h)
          go_wp2
          go_ret
          exact HEND.out
end Go.Proofs.YtgdhgipofaaogaaDoor
namespace Go.Proofs.YtgdhgipofaaogaaDoor
open Go Go.RowKit Gm Go.ChangeMaps

theorem kmv_end {c : List Ic} {Q0 : Nat → Int → Prop} {M : Km} {W X : World} {a : Nat} {r : Int} (h : KNa c Q0 M) (hq : Q0 a r) (hb : Below W.heap.size W X) : KnP W c a r (.returned (.tuple #[.int .i64 (kmv M a r).1, .bool (kmv M a r).2])) X := by
  refine ⟨(kmv M a r).1, (kmv M a r).2, rfl, fun ht => ⟨a, rfl, h.yes a r _ (by rw [kmv_x, if_pos ht])⟩, fun hf => ⟨?_, fun q m e k => ?_⟩, hb⟩
  · unfold kmv at hf ⊢
    cases e : M a r with
    | none => rfl
    | some v =>
      obtain ⟨k, t⟩ := v
      rw [e] at hf
      have hf : t = false := hf
      subst hf
      exact h.z a r k e
  · have hq2 : q = a := by omega
    subst hq2
    have h1 := h.no q r m hq k
    rw [kmv_x, hf] at h1
    simp at h1
set_option maxRecDepth 100000 in
set_option maxHeartbeats 4000000 in
theorem known_c {W : World} {n cap : Nat} {c : List Ic} {pc : Option Addr} (hK : Hid (Kinds W)) (hC : Hid (CodeAt W pc c)) (hl : c.length = n) (hn : n ≤ 100) (hok : Hid (Okc c)) (at_ reg : Int) (hr6 : In6 reg) : Calls Tryd.prog 9 #[.slice pc n cap, .int .i64 at_, .int .i64 reg] W (KnP W c at_ reg) := by
  have HR6 := Lib.hid hr6
  clear hr6
  go_enter Tryd.func9, Tryd.ntmps9
  by_cases h0 : at_ < 0
  · have H0 := Lib.hid h0
    have h0b : decide (at_ < 0) = true := by simp [h0]
    go_wp2
    go_ret2
    exact ⟨0, false, rfl, fun h => (by cases h), fun _ => ⟨rfl, fun q m e => by have := H0.out; omega⟩, Below.refl _ _⟩
  · have h0b : decide (at_ < 0) = false := by simp [h0]
    by_cases h1 : (n : Int) ≤ at_
    · have H1 := Lib.hid h1
      have h1b : decide ((n : Int) ≤ at_) = true := by simp [h1]
      go_wp2
      go_ret2
      exact ⟨0, false, rfl, fun h => (by cases h), fun _ => ⟨rfl, fun q m e k => by have h2 := k.1.lt; have := H1.out; omega⟩, Below.refl _ _⟩
    · have h1b : decide ((n : Int) ≤ at_) = false := by simp [h1]
      by_cases h2 : reg < 0
      · have H2 := Lib.hid h2
        have h2b : decide (reg < 0) = true := by simp [h2]
        go_wp2
        go_ret2
        exact ⟨0, false, rfl, fun h => (by cases h), fun _ => ⟨rfl, fun q m e k => kn_neg hok.out H2.out k⟩, Below.refl _ _⟩
      · have h2b : decide (reg < 0) = false := by simp [h2]
        obtain ⟨a, ha0⟩ : ∃ a : Nat, at_ = a := ⟨at_.toNat, by omega⟩
        subst ha0
        have ha : a < n := by omega
        have HA := Lib.hid ha
        have HR0 : Hid (0 ≤ reg) := Lib.hid (by omega)
        have HFA := Lib.hid (facts_c (cap := cap) hK hC hl (by omega) (by omega))
        have HC6 := Lib.hid hC.out.c6
        go_upto_region 4 with (go_at_call 19; (with_reducible refine (HFA.out).mono ?_); rintro e2 w2 ⟨g, kb, lb, sb, ra, rw, F, rc, tg, fr, rfl, hfx, hb2⟩; have HFX := Lib.hid hfx; have HB2 := Lib.hid hb2; clear hfx hb2)
        have HP0 := Lib.hid (HFX.out.p0 HB2.out.size)
        have HPU : Hid (Calls Tryd.prog 20 #[.pointer (some ⟨g, 4, none⟩), .int .i64 a, .int .i64 reg] w2 (PutP W.heap.size (ownF g kb lb ra rw) w2 g 4 n ra F (fun _ => .slice none 0 0) [] (fun _ => []) a reg)) := Lib.hid (put_c (Lib.hid HP0.out.la.fv) HP0.out.la.f5 (by omega) (Lib.hid HP0.out.la.qa) HP0.out.la.og ha (by omega) HB2.out.size (by simp) (by simp))
        have hg2 := HP0.out.la.fv.lt
        go_upto_region 5 with (go_at_call 20; (with_reducible refine (HPU.out).mono ?_); rintro e3 w3 hp; obtain ⟨v3, own3, F3, VA3, rfl, -, -, hp3⟩ := HP0.out.put HA.out hp; have HP3 := Lib.hid hp3; clear hp hp3)
        obtain ⟨L, hL⟩ : ∃ L, reg :: rgs c = L := ⟨_, rfl⟩
        have HLr : Hid (reg ∈ L) := Lib.hid (by rw [← hL]; exact List.mem_cons.2 (.inl rfl))
        have HLn : Hid (∀ b nd, nd ∈ nds c b → nd ∈ L) := Lib.hid fun b nd h => by rw [← hL]; exact List.mem_cons.2 (.inr (rgs_in h))
        have HL0 : Hid (∀ r, r ∈ L → 0 ≤ r) := Lib.hid fun r h => by
          rw [← hL] at h
          rcases List.mem_cons.1 h with rfl | h
          · exact HR0.out
          · exact (rgs_ok HC6.out h).1
        have HL6 : Hid (∀ r, r ∈ L → In6 r) := Lib.hid fun r h => by
          rw [← hL] at h
          rcases List.mem_cons.1 h with rfl | h
          · exact HR6.out
          · exact (rgs_ok HC6.out h).2
        have hLl : L.length ≤ 301 := by
          have := rgs_len c
          rw [← hL, List.length_cons]
          omega
        clear hL
        have hnn : n * (2 * n) ≤ 100 * (2 * 100) := Nat.mul_le_mul hn (by omega)
        have hnL : n * (2 * L.length) ≤ 100 * (2 * 301) := Nat.mul_le_mul hn (by omega)
        have HB3 : Hid (W.heap.size ≤ w3.heap.size) := Lib.hid (Nat.le_trans HB2.out.size HP3.out.ch.size)
        have HAR := Lib.hid (HP3.out.ar (L := L) (KA := 3 * L.length + 1) (KW := L.length) (KL := n * (2 * n)) (Q0 := fun p r => p = a ∧ r = reg) (fun p r h => by
          rcases putR_mem.1 h with h | ⟨-, rfl⟩
          · cases h
          · exact HLr.out) (fun i => by
          have : (putR (fun _ => []) a reg i).length ≤ 1 := by unfold putR; split <;> simp
          omega) (Nat.le_refl _) HFX.out.frl (Nat.le_refl _) (fun p r h => putR_mem.2 (.inr h)))
        have HF31 : Hid (F3 1 = .slice (some ⟨sb, 0, none⟩) n n) := Lib.hid ((HP3.out.fe 1 (by omega) (by omega)).trans HFX.out.f1)
        have HF32 : Hid (F3 2 = .slice (some ⟨kb, 0, none⟩) n n) := Lib.hid ((HP3.out.fe 2 (by omega) (by omega)).trans HFX.out.f2)
        have HF30 : Hid (F3 0 = .slice pc n cap) := Lib.hid ((HP3.out.fe 0 (by omega) (by omega)).trans HFX.out.f0)
        have HAS := Lib.hid (ask_c HAR HF31.out HF32.out hl (by omega) HB3.out (Lib.hid HFX.out.rci) (Lib.hid HFX.out.stp) HLn HL6 (by omega) (by omega) (by omega) (by omega) (Lib.hid fun p => by have := HFX.out.frl p; omega))
        go_upto_region 6 with (go_at_call 21; (with_reducible refine (HAS.out).mono ?_); rintro e4 w4 hp; obtain ⟨v4, own4, F4, KV4, LV4, VW4, M4, Lf4, Ld4, PW4, RW4, rfl, ho4, hf4, hc4, hl4, hq4, ht4⟩ := hp.tr (K := L.length + 2 * (n * (2 * L.length))) HF32.out HL0.out HL6.out hok.out (Nat.le_refl _); have HO4 := Lib.hid ho4; have HF4 := Lib.hid hf4; have HC4 := Lib.hid hc4; have HL4 := Lib.hid hl4; have HQ4 := Lib.hid hq4; have HT4 := Lib.hid ht4; clear hp ho4 hf4 hc4 hl4 hq4 ht4)
        have HOW : Hid (∀ b, b < W.heap.size → own3 b = .no) := Lib.hid fun b hb => by
          have h1 := HB2.out.size
          rw [HP3.out.ow b (Nat.lt_of_lt_of_le hb h1)]
          have h2 := HFX.out.lo
          exact ownF_no ⟨by omega, by omega, by omega, by omega, by omega⟩
        have HOW4 : Hid (∀ b, b < W.heap.size → own4 b = .no) := Lib.hid fun b hb => by
          rcases HO4.out b (Nat.lt_of_lt_of_le hb HB3.out) with h | h
          · rw [h]; exact HOW.out b hb
          · exact h
        have HBW4 : Hid (Below W.heap.size W w4) := Lib.hid ((HB2.out.trans (HP3.out.ch.below HB2.out.size fun b hb h => h (by have h2 := HFX.out.lo; exact ownF_no ⟨by omega, by omega, by omega, by omega, by omega⟩))).trans (HC4.out.below HB3.out fun b hb h => h (HOW.out b hb)))
        have HCo : Hid (∀ ad, pc = some ad → own4 ad.block = .no) := Lib.hid fun ad e => by
          obtain ⟨g', o', e2, hg, -⟩ := hC.out 0 c[0] (List.getElem?_eq_getElem (by omega))
          rw [e] at e2
          cases e2
          exact HOW4.out _ hg
        have HTE := Lib.hid (tell_c HT4 ((HF4.out 0 (by omega) (by omega)).trans HF30.out) ((HF4.out 1 (by omega) (by omega)).trans HF31.out) (Lib.hid (hC.out.stay HBW4.out)) HCo hl (by omega) HBW4.out.size (Lib.hid HFX.out.rci) (Lib.hid HFX.out.stp) hok (by omega) (by omega) (Lib.hid fun s r => by have := HL4.out s r; omega) (Lib.hid fun b => by have := nds_len c b; omega) (Lib.hid fun b => dfn_in6 HC6.out b) (Lib.hid fun b nd h => (nds_ok HC6.out h).2))
        go_upto_region 7 with (go_at_call 22; go_loud ((with_reducible refine (HTE.out).mono ?_); rintro e5 w5 hp; obtain ⟨v5, own5, F5, VW5, M5, RW5, rfl, ht5⟩ := hp; have HT5 := Lib.hid ht5; clear ht5))
        have HKN := Lib.hid (HT5.out.tl.kna HFX.out.stp hok.out HQ4.out)
        have HBW5 : Hid (Below W.heap.size W w5) := Lib.hid (HBW4.out.trans (HT5.out.ch.below HBW4.out.size fun b hb h => TS.no (HOW4.out b hb) h))
        have HAH := Lib.hid (ahead_c (Lib.hid HT5.out.ta.fv) HT5.out.ta.f2 (Lib.hid HT5.out.ta.km) ha (by omega) HR6.out)
        go_wp2_with (go_at_call 23; (with_reducible refine (HAH.out).mono ?_); rintro e6 w6 ⟨rfl, hb6⟩; have HB6 := Lib.hid hb6; clear hb6)
        go_ret2
        exact kmv_end HKN.out ⟨rfl, rfl⟩ (HBW5.out.trans (HB6.out.mono HBW5.out.size))
end Go.Proofs.YtgdhgipofaaogaaDoor
namespace Go.Proofs.YtgdhgipofaaogaaDoor
open Go Go.RowKit Gm

set_option maxRecDepth 100000 in
set_option maxHeartbeats 4000000 in
theorem same_c {W : World} {p q : Option Addr} {cp cq : Nat} {c : List Ic} (hp : Hid (CodeAt W p c)) (hq : Hid (CodeAt W q c)) (hn : c.length ≤ 1000000) : Calls Tryd.prog 11 #[.slice p c.length cp, .slice q c.length cq] W fun e w' => e = .returned (.bool true) ∧ Below W.heap.size W w' := by
  go_enter Tryd.func11, Tryd.ntmps11
  go_wp2
  go_loopw [5] (fun a wr => ∃ j : Nat, a = .int .i64 j ∧ j ≤ c.length ∧ Hid (Below W.heap.size W wr)) (fun a _ => c.length - (intOf a).toNat)
  case atStart => exact ⟨0, rfl, Nat.zero_le _, Lib.hid (Below.refl _ _)⟩
  case round =>
    obtain ⟨wo, rfl⟩ : ∃ wo : World, wo = wr := ⟨_, rfl⟩
    obtain ⟨j, rfl, hj, HR⟩ := hrel
    by_cases hlt : j < c.length
    · obtain ⟨x, hx⟩ : ∃ x, c[j]? = some x := ⟨_, List.getElem?_eq_getElem hlt⟩
      obtain ⟨g, o, e1, hg, h7, -⟩ := (hp.out.stay HR.out) j x hx
      obtain ⟨g', o', e2, hg', h7', -⟩ := (hq.out.stay HR.out) j x hx
      subst e1
      subst e2
      have k0 := h7.k
      have k1 := h7.o
      have k2 := h7.d
      have k3 := h7.a
      have k4 := h7.b
      have k5 := h7.n
      have k6 := h7.t
      have q0 := h7'.k
      have q1 := h7'.o
      have q2 := h7'.d
      have q3 := h7'.a
      have q4 := h7'.b
      have q5 := h7'.n
      have q6 := h7'.t
      clear h7 h7' hx
      go_upto_region 6 with (fail)
      go_quiet (fail)
      go_wp2
      go_roundw
      case rel => exact ⟨j + 1, by go_num, by omega, Lib.hid (below_like HR.out rfl rfl rfl rfl)⟩
      case measure => (simp [intOf]; try omega)
    · obtain rfl : j = c.length := by omega
      go_wp2
      go_ret
      exact ⟨rfl, HR.out⟩
end Go.Proofs.YtgdhgipofaaogaaDoor
namespace Go.Proofs.YtgdhgipofaaogaaDoor
open Go Go.RowKit Gm

def A0 : List Ic := [⟨0, 0, 0, 0, 0, 2, 0⟩, ⟨2, 2, 1, 0, 0, 0, 0⟩, ⟨7, 0, 0, 1, 0, 0, 3⟩, ⟨13, 0, 0, 0, 0, 0, 0⟩]
def D0 : List Ic := [⟨0, 0, 0, 0, 0, 2, 0⟩, ⟨0, 0, 1, 0, 0, 4, 0⟩, ⟨6, 0, 0, 0, 0, 0, 3⟩, ⟨13, 0, 0, 0, 0, 0, 0⟩]
theorem A0_o : outs A0 0 = [1] ∧ outs A0 1 = [2] ∧ outs A0 2 = [3] ∧ outs A0 3 = [] := by decide
theorem D0_o : outs D0 0 = [1] ∧ outs D0 1 = [2] ∧ outs D0 2 = [3] ∧ outs D0 3 = [] := by decide
theorem A0_ok : Okc A0 := fun i x hx => by
  match i with
  | 0 => cases hx; decide
  | 1 => cases hx; decide
  | 2 => cases hx; decide
  | 3 => cases hx; decide
  | i + 4 => cases hx
theorem D0_ok : Okc D0 := fun i x hx => by
  match i with
  | 0 => cases hx; decide
  | 1 => cases hx; decide
  | 2 => cases hx; decide
  | 3 => cases hx; decide
  | i + 4 => cases hx
theorem ev4 : ev 2 2 2 = 4 := by unfold ev; simp [wrap64]
def gE (p : Nat) (r : Int) : Option Int := if p = 1 ∧ r = 0 then some 2 else if p = 2 ∧ r = 0 then some 2 else if p = 2 ∧ r = 1 then some 4 else none
theorem gE_cases {p : Nat} {r n : Int} (h : gE p r = some n) : (p = 1 ∧ r = 0 ∧ n = 2) ∨ (p = 2 ∧ r = 0 ∧ n = 2) ∨ (p = 2 ∧ r = 1 ∧ n = 4) := by
  unfold gE at h
  split at h
  · rename_i h1; cases h; exact .inl ⟨h1.1, h1.2, rfl⟩
  split at h
  · rename_i h1; cases h; exact .inr (.inl ⟨h1.1, h1.2, rfl⟩)
  split at h
  · rename_i h1; cases h; exact .inr (.inr ⟨h1.1, h1.2, rfl⟩)
  · cases h
theorem A0_cons : Cons A0 gE := by
  refine ⟨fun r => by unfold gE; simp, fun i x j hx _ hj r n hg => ?_⟩
  rcases gE_cases hg with ⟨rfl, rfl, rfl⟩ | ⟨rfl, rfl, rfl⟩ | ⟨rfl, rfl, rfl⟩
  · match i with
    | 0 => cases hx; decide
    | 1 => rw [A0_o.2.1] at hj; simp at hj
    | 2 => rw [A0_o.2.2.1] at hj; simp at hj
    | 3 => rw [A0_o.2.2.2] at hj; simp at hj
    | i + 4 => cases hx
  · match i with
    | 0 => rw [A0_o.1] at hj; simp at hj
    | 1 => cases hx; decide
    | 2 => rw [A0_o.2.2.1] at hj; simp at hj
    | 3 => rw [A0_o.2.2.2] at hj; simp at hj
    | i + 4 => cases hx
  · match i with
    | 0 => rw [A0_o.1] at hj; simp at hj
    | 1 =>
      cases hx
      have e : gE 1 0 = some 2 := by decide
      unfold bhF vl
      simp [e, ev4]
    | 2 => rw [A0_o.2.2.1] at hj; simp at hj
    | 3 => rw [A0_o.2.2.2] at hj; simp at hj
    | i + 4 => cases hx
theorem D0_cons : Cons D0 gE := by
  refine ⟨fun r => by unfold gE; simp, fun i x j hx _ hj r n hg => ?_⟩
  rcases gE_cases hg with ⟨rfl, rfl, rfl⟩ | ⟨rfl, rfl, rfl⟩ | ⟨rfl, rfl, rfl⟩
  · match i with
    | 0 => cases hx; decide
    | 1 => rw [D0_o.2.1] at hj; simp at hj
    | 2 => rw [D0_o.2.2.1] at hj; simp at hj
    | 3 => rw [D0_o.2.2.2] at hj; simp at hj
    | i + 4 => cases hx
  · match i with
    | 0 => rw [D0_o.1] at hj; simp at hj
    | 1 => cases hx; decide
    | 2 => rw [D0_o.2.2.1] at hj; simp at hj
    | 3 => rw [D0_o.2.2.2] at hj; simp at hj
    | i + 4 => cases hx
  · match i with
    | 0 => rw [D0_o.1] at hj; simp at hj
    | 1 => cases hx; decide
    | 2 => rw [D0_o.2.2.1] at hj; simp at hj
    | 3 => rw [D0_o.2.2.2] at hj; simp at hj
    | i + 4 => cases hx
theorem A0_r : Rc A0 0 ∧ Rc A0 1 ∧ Rc A0 2 ∧ Rc A0 3 := by
  have h0 : Rc A0 0 := .zero (by decide)
  have h1 : Rc A0 1 := .on h0 (by rw [A0_o.1]; simp)
  have h2 : Rc A0 2 := .on h1 (by rw [A0_o.2.1]; simp)
  exact ⟨h0, h1, h2, .on h2 (by rw [A0_o.2.2.1]; simp)⟩
theorem D0_kn : Kn D0 2 1 4 := by
  have h0 : Rc D0 0 := .zero (by decide)
  have h1 : Rc D0 1 := .on h0 (by rw [D0_o.1]; simp)
  exact ⟨.on h1 (by rw [D0_o.2.1]; simp), gE, D0_cons, by decide⟩
theorem code_A0 {D : List Ic} (h : CodeR A0 4 D) : D = D0 := by
  obtain ⟨hl, h⟩ := h
  obtain ⟨r0, r1, r2, r3⟩ := A0_r
  apply List.ext_getElem?
  intro i
  match i with
  | 0 =>
    obtain ⟨f, -, h1, -⟩ := h 0 _ (by omega) rfl
    rw [h1 r0]
    unfold oneM
    rfl
  | 1 =>
    obtain ⟨f, hf, h1, -⟩ := h 1 _ (by omega) rfl
    have e0 : f 0 = some 2 := (hf 0 2).2 ⟨r1, gE, A0_cons, by decide⟩
    rw [h1 r1]
    unfold oneM vl
    simp [e0, ev4, D0]
  | 2 =>
    obtain ⟨f, hf, h1, -⟩ := h 2 _ (by omega) rfl
    have e1 : f 1 = some 4 := (hf 1 4).2 ⟨r2, gE, A0_cons, by decide⟩
    rw [h1 r2]
    unfold oneM
    simp [e1, D0]
  | 3 =>
    obtain ⟨f, -, h1, -⟩ := h 3 _ (by omega) rfl
    rw [h1 r3]
    unfold oneM
    rfl
  | i + 4 => rw [List.getElem?_eq_none (by omega), List.getElem?_eq_none (by simp [D0])]
theorem KnP.is {W X : World} {c : List Ic} {at_ r m : Int} {p : Nat} {e : Ending} (h : KnP W c at_ r e X) (hp : at_ = p) (hk : Kn c p r m) : e = .returned (.tuple #[.int .i64 m, .bool true]) ∧ Below W.heap.size W X := by
  obtain ⟨n, b, rfl, h1, h2, hb⟩ := h
  cases b with
  | true =>
    obtain ⟨q, hq, k⟩ := h1 rfl
    have : q = p := by omega
    subst this
    rw [kn_one k hk]
    exact ⟨rfl, hb⟩
  | false => exact absurd hk ((h2 rfl).2 p m hp)
theorem KnP.not {W X : World} {c : List Ic} {at_ r : Int} {e : Ending} (h : KnP W c at_ r e X) (hk : ∀ (p : Nat) m, at_ = p → ¬ Kn c p r m) : e = .returned (.tuple #[.int .i64 0, .bool false]) ∧ Below W.heap.size W X := by
  obtain ⟨n, b, rfl, h1, h2, hb⟩ := h
  cases b with
  | true =>
    obtain ⟨q, hq, k⟩ := h1 rfl
    exact absurd k (hk q n hq)
  | false => rw [(h2 rfl).1]; exact ⟨rfl, hb⟩
theorem lit_code {W : World} {c : List Ic} {cs : Array Value} (h : cs.toList = rw_ (c.length * 7) (dF fun i => c.getD i z7)) (h6 : ∀ i, i < c.length → Ok6 (c.getD i z7)) : CodeAt (W.alloc (.cells cs 53)) (some ⟨W.heap.size, 0, none⟩) c := by
  have h1 : FV 53 (W.alloc (.cells cs 53)) W.heap.size (c.length * 7) (dF fun i => c.getD i z7) := FV.new rfl h
  have h2 := h1.code h6
  have e : (List.range c.length).map (fun i => c.getD i z7) = c := by
    apply List.ext_getElem?
    intro i
    rw [List.getElem?_map]
    by_cases hi : i < c.length
    · rw [List.getElem?_range hi]
      simp [List.getD_eq_getElem?_getD, hi]
    · rw [List.getElem?_eq_none (by simp; omega), List.getElem?_eq_none (by omega)]
      rfl
  rw [e] at h2
  exact h2
theorem A0_6 : ∀ i, i < A0.length → Ok6 (A0.getD i z7) := by
  unfold Ok6 In6
  decide
theorem D0_6 : ∀ i, i < D0.length → Ok6 (D0.getD i z7) := by
  unfold Ok6 In6
  decide
set_option maxRecDepth 100000 in
set_option maxHeartbeats 4000000 in
theorem fawake_c {W : World} (hK : Hid (Kinds W)) : Calls Tryd.prog 7 #[] W fun e w' => e = .returned (.bool true) ∧ Below W.heap.size W w' := by
  go_enter Tryd.func7, Tryd.ntmps7
  have HCO : Hid (Calls Tryd.prog 12 #[.slice (some ⟨W.heap.size, 0, none⟩) 4 4] (W.alloc (.cells #[.int .i64 0, .int .i64 0, .int .i64 0, .int .i64 0, .int .i64 0, .int .i64 2, .int .i64 0, .int .i64 2, .int .i64 2, .int .i64 1, .int .i64 0, .int .i64 0, .int .i64 0, .int .i64 0, .int .i64 7, .int .i64 0, .int .i64 0, .int .i64 1, .int .i64 0, .int .i64 0, .int .i64 3, .int .i64 13, .int .i64 0, .int .i64 0, .int .i64 0, .int .i64 0, .int .i64 0, .int .i64 0] 53)) (FcP (W.alloc (.cells #[.int .i64 0, .int .i64 0, .int .i64 0, .int .i64 0, .int .i64 0, .int .i64 2, .int .i64 0, .int .i64 2, .int .i64 2, .int .i64 1, .int .i64 0, .int .i64 0, .int .i64 0, .int .i64 0, .int .i64 7, .int .i64 0, .int .i64 0, .int .i64 1, .int .i64 0, .int .i64 0, .int .i64 3, .int .i64 13, .int .i64 0, .int .i64 0, .int .i64 0, .int .i64 0, .int .i64 0, .int .i64 0] 53)) A0 4)) := Lib.hid (code_c (Lib.hid (hK.out.below (below1 _ _))) (Lib.hid (lit_code rfl A0_6)) rfl (by omega) (by omega) (Lib.hid A0_ok))
  have HBA : Hid (Below W.heap.size W (W.alloc (.cells #[.int .i64 0, .int .i64 0, .int .i64 0, .int .i64 0, .int .i64 0, .int .i64 2, .int .i64 0, .int .i64 2, .int .i64 2, .int .i64 1, .int .i64 0, .int .i64 0, .int .i64 0, .int .i64 0, .int .i64 7, .int .i64 0, .int .i64 0, .int .i64 1, .int .i64 0, .int .i64 0, .int .i64 3, .int .i64 13, .int .i64 0, .int .i64 0, .int .i64 0, .int .i64 0, .int .i64 0, .int .i64 0] 53))) := Lib.hid (below1 _ _)
  go_upto_region 2 with (go_at_call 12; (with_reducible refine (HCO.out).mono ?_); rintro e2 w2 ⟨b, D, rfl, hc2, hl2, hr2, hb, hb2⟩; obtain rfl := code_A0 hr2; have HC2 := Lib.hid hc2; have HB2 : Hid (Below W.heap.size W w2) := Lib.hid (HBA.out.trans (hb2.mono HBA.out.size)); clear hc2 hl2 hr2 hb hb2)
  have HK1 : Hid (Calls Tryd.prog 9 #[.slice (some ⟨b, 0, none⟩) 4 4, .int .i64 2, .int .i64 1] w2 fun e w' => e = .returned (.tuple #[.int .i64 4, .bool true]) ∧ Below w2.heap.size w2 w') := Lib.hid ((known_c (n := 4) (Lib.hid (hK.out.below HB2.out)) HC2 rfl (by omega) (Lib.hid D0_ok) 2 1 (by unfold In6; omega)).mono fun e w' h => h.is (p := 2) rfl D0_kn)
  have HK2 : Hid (∀ X, Below w2.heap.size w2 X → Calls Tryd.prog 9 #[.slice (some ⟨b, 0, none⟩) 4 4, .int .i64 0, .int .i64 1] X fun e w' => e = .returned (.tuple #[.int .i64 0, .bool false]) ∧ Below X.heap.size X w') := Lib.hid fun X hX => (known_c (n := 4) (Lib.hid (hK.out.below (HB2.out.trans (hX.mono HB2.out.size)))) (Lib.hid (HC2.out.stay hX)) rfl (by omega) (Lib.hid D0_ok) 0 1 (by unfold In6; omega)).mono fun e w' h => h.not fun p m hp k => by
    have : p = 0 := by omega
    subst this
    obtain ⟨-, G, hG, hg⟩ := k
    rw [hG.1] at hg
    cases hg
  go_upto_region 3 with (go_at_call 9; (with_reducible refine (HK1.out).mono ?_); rintro e3 w3 ⟨rfl, hb3⟩; have HB3 := Lib.hid hb3; clear hb3)
  go_upto_region 4 with (go_at_call 9; (with_reducible refine (HK2.out _ HB3.out).mono ?_); rintro e4 w4 ⟨rfl, hb4⟩; have HB4 : Hid (Below w2.heap.size w2 w4) := Lib.hid (HB3.out.trans (hb4.mono HB3.out.size)); clear hb4)
  have HSA : Hid (Calls Tryd.prog 11 #[.slice (some ⟨b, 0, none⟩) 4 4, .slice (some ⟨w4.heap.size, 0, none⟩) 4 4] (w4.alloc (.cells #[.int .i64 0, .int .i64 0, .int .i64 0, .int .i64 0, .int .i64 0, .int .i64 2, .int .i64 0, .int .i64 0, .int .i64 0, .int .i64 1, .int .i64 0, .int .i64 0, .int .i64 4, .int .i64 0, .int .i64 6, .int .i64 0, .int .i64 0, .int .i64 0, .int .i64 0, .int .i64 0, .int .i64 3, .int .i64 13, .int .i64 0, .int .i64 0, .int .i64 0, .int .i64 0, .int .i64 0, .int .i64 0] 53)) fun e w' => e = .returned (.bool true) ∧ Below w4.heap.size w4 w') := Lib.hid ((same_c (c := D0) (cp := 4) (cq := 4) (Lib.hid ((HC2.out.stay HB4.out).stay (below1 _ _))) (Lib.hid (lit_code rfl D0_6)) (by decide)).mono fun e w' ⟨h1, h2⟩ => ⟨h1, (below1 _ _).trans (h2.mono (below1 _ _).size)⟩)
  go_wp2_with (go_at_call 11; (with_reducible refine (HSA.out).mono ?_); rintro e5 w5 ⟨rfl, hb5⟩; have HB5 := Lib.hid hb5; clear hb5)
  go_ret
  have h1 : Below w2.heap.size w2 w5 := HB4.out.trans (HB5.out.mono HB4.out.size)
  exact ⟨rfl, HB2.out.trans (h1.mono HB2.out.size)⟩
end Go.Proofs.YtgdhgipofaaogaaDoor
namespace Go.Proofs.YtgdhgipofaaogaaDoor
open Go Go.RowKit
/-- Whether what stands in a part's field may. -/
def fitsB (x : Ic) (p regs locks many : Int) : Bool :=
  if p = 1 then decide (0 ≤ x.d) && decide (x.d < regs)
  else if p = 2 then decide (0 ≤ x.a) && decide (x.a < regs)
  else if p = 3 then (x.a == -1) || (decide (0 ≤ x.a) && decide (x.a < regs))
  else if p = 4 then decide (0 ≤ x.b) && decide (x.b < regs)
  else if p = 5 then decide (0 ≤ x.o) && decide (x.o ≤ 18)
  else if p = 7 then decide (0 ≤ x.n) && decide (x.n ≤ 65535)
  else if p = 8 then decide (0 ≤ x.n) && decide (x.n < locks)
  else if p = 9 then (x.n == 1) || (x.n == 2)
  else if p = 10 then decide (0 ≤ x.t) && decide (x.t < many)
  else true
/-- An instruction with 0 in a part's field. -/
def outP (x : Ic) (p : Int) : Ic :=
  if p = 1 then { x with d := 0 } else if p = 2 then { x with a := 0 } else if p = 3 then { x with a := 0 } else if p = 4 then { x with b := 0 } else if p = 5 then { x with o := 0 }
  else if p = 6 then { x with n := 0 } else if p = 7 then { x with n := 0 } else if p = 8 then { x with n := 0 } else if p = 9 then { x with n := 0 } else if p = 10 then { x with t := 0 } else x
def fitTo (x : Ic) (kk : Nat) (regs locks many : Int) (j : Nat) : Bool := (List.range j).all fun i => fitsB x (prt kk i) regs locks many
def outTo (x : Ic) (kk j : Nat) : Ic := (List.range j).foldl (fun y i => outP y (prt kk i)) x
def bareB (x : Ic) (k : Int) : Bool := x.k == k && x.o == 0 && x.d == 0 && x.a == 0 && x.b == 0 && x.n == 0 && x.t == 0
def rightB (x : Ic) (regs locks many : Int) : Bool := if 0 ≤ x.k ∧ x.k ≤ 13 then fitTo x x.k.toNat regs locks many 4 && bareB (outTo x x.k.toNat 4) x.k else false

end Go.Proofs.YtgdhgipofaaogaaDoor
namespace Go.Proofs.YtgdhgipofaaogaaDoor
open Go Go.RowKit
def hasC (s : ByteArray) (c : UInt8) : Bool := s.data.toList.contains c
theorem at_list (s : ByteArray) (i : Nat) (h : i < s.size) : s.data.toList[i]? = some (s[i]'h) := by
  rw [List.getElem?_eq_getElem (by simpa using h)]
  rfl
theorem rhas_any (s : ByteArray) (c : UInt8) (w : World) (hm : s.size ≤ 9223372036854775807) : Calls Tryd.prog 35 #[.string s, .int .u8 c.toNat] w fun e w' => e = .returned (.bool (hasC s c)) ∧ w = w' := by
  go_enter Tryd.func35, Tryd.ntmps35
  go_wp2
  go_loop [5] (fun i => ∃ k : Nat, i = .int .i64 k ∧ k ≤ s.size ∧ Hid (∀ j (h : j < s.size), j < k → (s[j]'h) ≠ c)) (fun i => s.size - (intOf i).toNat)
  case atStart => exact ⟨0, rfl, Nat.zero_le _, Lib.hid (fun j _ h => absurd h (by omega))⟩
  case round =>
    obtain ⟨k, rfl, hk, HN⟩ := hrel
    by_cases hlt : k < s.size
    · by_cases hc : (s[k]'hlt) = c
      · have hb : (((s[k]'hlt).toNat : Int) == (c.toNat : Int)) = true := by rw [hc]; simp
        have HR : Hid (hasC s c = true) := Lib.hid (by unfold hasC; rw [List.contains_iff_mem]; exact List.mem_of_getElem? (i := k) (by rw [at_list s k hlt, hc]))
        clear hc
        go_wp2
        go_ret
        exact ⟨ret_bool (by rw [HR.out]), rfl⟩
      · have hb : (((s[k]'hlt).toNat : Int) == (c.toNat : Int)) = false := by
          rw [beq_eq_false_iff_ne]
          intro h
          exact hc (UInt8.toNat_inj.1 (by omega))
        have HN2 : Hid (∀ j (h : j < s.size), j < k + 1 → (s[j]'h) ≠ c) := Lib.hid (fun j h hj => by
          by_cases e : j = k
          · subst e
            exact hc
          · exact HN.out j h (by omega))
        clear hc
        go_wp2
        go_round
        case rel => exact ⟨k + 1, by go_num, by omega, HN2⟩
        case measure => simp [intOf]; omega
    · have HR : Hid (hasC s c = false) := Lib.hid (by
        unfold hasC
        rw [Bool.eq_false_iff]
        intro h
        rw [List.contains_iff_mem] at h
        obtain ⟨j, hj, e⟩ := List.getElem_of_mem h
        have hj2 : j < s.size := hj
        exact HN.out j hj2 (by omega) e)
      go_wp2
      go_ret
      exact ⟨ret_bool (by rw [HR.out]), rfl⟩
theorem rhas_is {s : ByteArray} (c : UInt8) {n : Int} {b : Bool} (h : hasC s c = b) (hn : (c.toNat : Int) = n) (hm : s.size ≤ 9223372036854775807) (w : World) : Calls Tryd.prog 35 #[.string s, .int .u8 n] w fun e w' => e = .returned (.bool b) ∧ w = w' := h ▸ hn ▸ rhas_any s c w hm

theorem fld_size (k : Int) : (fldZ k).size ≤ 4 := by
  unfold fldZ
  split
  · rename_i h
    have : ∀ k, k < 14 → (fld k).size ≤ 4 := by decide
    exact this _ (by omega)
  · exact Nat.zero_le _
end Go.Proofs.YtgdhgipofaaogaaDoor
namespace Go.Proofs.YtgdhgipofaaogaaDoor
open Go Go.RowKit
def regB (n regs : Int) (own none : Bool) : Bool := if own then (decide (0 ≤ n) && decide (n < regs)) || (none && n == -1) else n == 0
theorem reg0 (n regs : Int) (none : Bool) (w : World) : Calls Tryd.prog 34 #[.int .i64 n, .int .i64 regs, .bool false, .bool none] w fun e w' => e = .returned (.bool (n == 0)) ∧ w = w' := by
  go_enter Tryd.func34, Tryd.ntmps34
  go_wp2
  go_ret
  exact ⟨rfl, rfl⟩
theorem reg1 (n regs : Int) (none : Bool) (w : World) : Calls Tryd.prog 34 #[.int .i64 n, .int .i64 regs, .bool true, .bool none] w fun e w' => e = .returned (.bool ((decide (0 ≤ n) && decide (n < regs)) || (none && n == -1))) ∧ w = w' := by
  cases h0 : decide (0 ≤ n) <;> cases h1 : decide (n < regs) <;> cases none <;> cases h2 : (n == -1)
  all_goals
    simp only [Bool.false_and, Bool.and_false, Bool.true_and, Bool.false_or, Bool.true_or, Bool.and_true, Bool.or_true, Bool.or_false]
    go_enter Tryd.func34, Tryd.ntmps34
    go_wp2
    go_ret
    exact ⟨rfl, rfl⟩
theorem rreg_is {n regs : Int} {own none b : Bool} (h : regB n regs own none = b) (w : World) : Calls Tryd.prog 34 #[.int .i64 n, .int .i64 regs, .bool own, .bool none] w fun e w' => e = .returned (.bool b) ∧ w = w' := by
  subst h
  cases own
  · exact reg0 n regs none w
  · exact reg1 n regs none w
theorem rreg_is' {n regs : Int} {own none b : Bool} (h : regB n regs own none = b) (w : World) : Calls Tryd.prog 34 #[.int .i64 n, .int .i64 regs, .bool own, .bool none] w fun e w' => e = .returned (.bool b) ∧ w' = w := (rreg_is h w).mono fun _ _ ⟨h1, h2⟩ => ⟨h1, h2.symm⟩
theorem rhas_is' {s : ByteArray} (c : UInt8) {n : Int} {b : Bool} (h : hasC s c = b) (hn : (c.toNat : Int) = n) (hm : s.size ≤ 9223372036854775807) (w : World) : Calls Tryd.prog 35 #[.string s, .int .u8 n] w fun e w' => e = .returned (.bool b) ∧ w' = w := (rhas_is c h hn hm w).mono fun _ _ ⟨h1, h2⟩ => ⟨h1, h2.symm⟩
def numK (k n locks : Int) : Bool := if k = 4 ∨ k = 5 then decide (0 ≤ n) && decide (n ≤ 65535) else if k = 9 ∨ k = 10 then decide (0 ≤ n) && decide (n < locks) else if k = 12 then (n == 1) || (n == 2) else true
theorem num_4 (k o d a b n t locks : Int) (w : World) (q4 : (k == 4) = true) : Calls Tryd.prog 36 #[.agg #[.int .i64 k, .int .i64 o, .int .i64 d, .int .i64 a, .int .i64 b, .int .i64 n, .int .i64 t], .int .i64 locks] w fun e w' => e = .returned (.bool (decide (0 ≤ n) && decide (n ≤ 65535))) ∧ Below w.heap.size w w' := by
  cases h0 : decide (0 ≤ n) <;> cases h1 : decide (n ≤ 65535)
  all_goals
    simp only [Bool.false_and, Bool.and_false, Bool.true_and, Bool.false_or, Bool.true_or, Bool.or_true]
    go_enter Tryd.func36, Tryd.ntmps36
    go_wp2
    go_ret
    exact ⟨rfl, below1 _ _⟩
theorem num_5 (k o d a b n t locks : Int) (w : World) (q4 : (k == 4) = false) (q5 : (k == 5) = true) : Calls Tryd.prog 36 #[.agg #[.int .i64 k, .int .i64 o, .int .i64 d, .int .i64 a, .int .i64 b, .int .i64 n, .int .i64 t], .int .i64 locks] w fun e w' => e = .returned (.bool (decide (0 ≤ n) && decide (n ≤ 65535))) ∧ Below w.heap.size w w' := by
  cases h0 : decide (0 ≤ n) <;> cases h1 : decide (n ≤ 65535)
  all_goals
    simp only [Bool.false_and, Bool.and_false, Bool.true_and, Bool.false_or, Bool.true_or, Bool.or_true]
    go_enter Tryd.func36, Tryd.ntmps36
    go_wp2
    go_ret
    exact ⟨rfl, below1 _ _⟩
theorem num_9 (k o d a b n t locks : Int) (w : World) (q4 : (k == 4) = false) (q5 : (k == 5) = false) (q9 : (k == 9) = true) : Calls Tryd.prog 36 #[.agg #[.int .i64 k, .int .i64 o, .int .i64 d, .int .i64 a, .int .i64 b, .int .i64 n, .int .i64 t], .int .i64 locks] w fun e w' => e = .returned (.bool (decide (0 ≤ n) && decide (n < locks))) ∧ Below w.heap.size w w' := by
  cases h0 : decide (0 ≤ n) <;> cases h1 : decide (n < locks)
  all_goals
    simp only [Bool.false_and, Bool.and_false, Bool.true_and, Bool.false_or, Bool.true_or, Bool.or_true]
    go_enter Tryd.func36, Tryd.ntmps36
    go_wp2
    go_ret
    exact ⟨rfl, below1 _ _⟩
theorem num_10 (k o d a b n t locks : Int) (w : World) (q4 : (k == 4) = false) (q5 : (k == 5) = false) (q9 : (k == 9) = false) (q10 : (k == 10) = true) : Calls Tryd.prog 36 #[.agg #[.int .i64 k, .int .i64 o, .int .i64 d, .int .i64 a, .int .i64 b, .int .i64 n, .int .i64 t], .int .i64 locks] w fun e w' => e = .returned (.bool (decide (0 ≤ n) && decide (n < locks))) ∧ Below w.heap.size w w' := by
  cases h0 : decide (0 ≤ n) <;> cases h1 : decide (n < locks)
  all_goals
    simp only [Bool.false_and, Bool.and_false, Bool.true_and, Bool.false_or, Bool.true_or, Bool.or_true]
    go_enter Tryd.func36, Tryd.ntmps36
    go_wp2
    go_ret
    exact ⟨rfl, below1 _ _⟩
theorem num_12 (k o d a b n t locks : Int) (w : World) (q4 : (k == 4) = false) (q5 : (k == 5) = false) (q9 : (k == 9) = false) (q10 : (k == 10) = false) (q12 : (k == 12) = true) : Calls Tryd.prog 36 #[.agg #[.int .i64 k, .int .i64 o, .int .i64 d, .int .i64 a, .int .i64 b, .int .i64 n, .int .i64 t], .int .i64 locks] w fun e w' => e = .returned (.bool ((n == 1) || (n == 2))) ∧ Below w.heap.size w w' := by
  cases h0 : (n == 1) <;> cases h1 : (n == 2)
  all_goals
    simp only [Bool.false_and, Bool.and_false, Bool.true_and, Bool.false_or, Bool.true_or, Bool.or_true]
    go_enter Tryd.func36, Tryd.ntmps36
    go_wp2
    go_ret
    exact ⟨rfl, below1 _ _⟩
theorem num_on (k o d a b n t locks : Int) (w : World) (q4 : (k == 4) = false) (q5 : (k == 5) = false) (q9 : (k == 9) = false) (q10 : (k == 10) = false) (q12 : (k == 12) = false) : Calls Tryd.prog 36 #[.agg #[.int .i64 k, .int .i64 o, .int .i64 d, .int .i64 a, .int .i64 b, .int .i64 n, .int .i64 t], .int .i64 locks] w fun e w' => e = .returned (.bool (true)) ∧ Below w.heap.size w w' := by
  go_enter Tryd.func36, Tryd.ntmps36
  go_wp2
  go_ret
  exact ⟨rfl, below1 _ _⟩
theorem num_any (k o d a b n t locks : Int) (w : World) : Calls Tryd.prog 36 #[.agg #[.int .i64 k, .int .i64 o, .int .i64 d, .int .i64 a, .int .i64 b, .int .i64 n, .int .i64 t], .int .i64 locks] w fun e w' => e = .returned (.bool (numK k n locks)) ∧ Below w.heap.size w w' := by
  have qf : ∀ n : Int, k ≠ n → (k == n) = false := fun n h => by simpa using h
  have qt : ∀ n : Int, k = n → (k == n) = true := fun n h => by simpa using h
  unfold numK
  by_cases h4 : k = 4
  · rw [if_pos (.inl h4)]
    exact num_4 _ _ _ _ _ _ _ locks w (qt _ h4)
  by_cases h5 : k = 5
  · rw [if_pos (.inr h5)]
    exact num_5 _ _ _ _ _ _ _ locks w (qf _ h4) (qt _ h5)
  rw [if_neg (by omega)]
  by_cases h9 : k = 9
  · rw [if_pos (.inl h9)]
    exact num_9 _ _ _ _ _ _ _ locks w (qf _ h4) (qf _ h5) (qt _ h9)
  by_cases h10 : k = 10
  · rw [if_pos (.inr h10)]
    exact num_10 _ _ _ _ _ _ _ locks w (qf _ h4) (qf _ h5) (qf _ h9) (qt _ h10)
  rw [if_neg (by omega)]
  by_cases h12 : k = 12
  · rw [if_pos h12]
    exact num_12 _ _ _ _ _ _ _ locks w (qf _ h4) (qf _ h5) (qf _ h9) (qf _ h10) (qt _ h12)
  rw [if_neg h12]
  exact num_on _ _ _ _ _ _ _ locks w (qf _ h4) (qf _ h5) (qf _ h9) (qf _ h10) (qf _ h12)
/-- Whether an instruction of a code of so many may be. -/
def OneK (x : Ic) (size regs locks : Int) (f : ByteArray) (nn : Bool) : Prop :=
  regB x.d regs (hasC f 68) false = true ∧ regB x.a regs (hasC f 65) nn = true ∧ regB x.b regs (hasC f 66) false = true ∧ (hasC f 79 = true ∨ x.o = 0) ∧ 0 ≤ x.o ∧ x.o ≤ 18 ∧ (hasC f 78 = true ∨ x.n = 0) ∧ (hasC f 84 = true ∨ x.t = 0) ∧ numK x.k x.n locks = true ∧ 0 ≤ x.t ∧ x.t < size
def OneR (w : World) (P : Prop) (e : Ending) (w' : World) : Prop := ∃ b : Bool, e = .returned (.bool b) ∧ (b = true ↔ P) ∧ Below w.heap.size w w'
set_option maxRecDepth 100000 in
set_option maxHeartbeats 4000000 in
theorem one_un (x : Ic) (size regs locks : Int) (w : World) (h : ¬ (0 ≤ x.k ∧ x.k ≤ 13)) : Calls Tryd.prog 18 #[.agg #[.int .i64 x.k, .int .i64 x.o, .int .i64 x.d, .int .i64 x.a, .int .i64 x.b, .int .i64 x.n, .int .i64 x.t], .int .i64 size, .int .i64 regs, .int .i64 locks] w fun e w' => e = .returned (.bool false) ∧ Below w.heap.size w w' := by
  have hfs := fld_size x.k
  have hq : ∀ W, Calls Tryd.prog 33 #[.int .i64 x.k] W fun e w' => e = .returned (.string (fldZ x.k)) ∧ Below W.heap.size W w' := fun W => rfields_any x.k W
  obtain ⟨f, hf⟩ : ∃ f, fldZ x.k = f := ⟨_, rfl⟩
  rw [hf] at hfs hq
  have HQ := Lib.hid hq
  have HF := Lib.hid hfs
  clear hfs hq
  have he : f.toList.isEmpty = true := by
    rw [← hf]
    unfold fldZ
    rw [if_neg h, ByteArray.toList_eq]
    rfl
  have q4 : (x.k == 4) = false := by simp; omega
  have q5 : (x.k == 5) = false := by simp; omega
  clear h hf
  go_enter Tryd.func18, Tryd.ntmps18
  go_wp2_with (go_at_call 33; (with_reducible refine (HQ.out _).mono ?_); rintro e1 w1 ⟨rfl, hb1⟩; have HB1 := Lib.hid (below_ch (below1 _ _) hb1); have HX1 := Lib.hid ((Ib.new rfl _ _ _ _ _ _ _).stay hb1); have hz1 : w.heap.size ≤ w1.heap.size := HB1.out.size; obtain ⟨bx1, y0, y1, y2, y3, y4, y5, y6, -⟩ := HX1.out.facts; clear hb1)
  go_quiet (fail)
  go_wp2
  go_ret
  exact ⟨rfl, below_drewN HB1.out _⟩
set_option maxRecDepth 100000 in
set_option maxHeartbeats 8000000 in
theorem one_kn (x : Ic) (size regs locks : Int) (w : World) (h : 0 ≤ x.k ∧ x.k ≤ 13) (b4 b5 : Bool) (q4 : (x.k == 4) = b4) (q5 : (x.k == 5) = b5) : Calls Tryd.prog 18 #[.agg #[.int .i64 x.k, .int .i64 x.o, .int .i64 x.d, .int .i64 x.a, .int .i64 x.b, .int .i64 x.n, .int .i64 x.t], .int .i64 size, .int .i64 regs, .int .i64 locks] w (OneR w (OneK x size regs locks (fldZ x.k) (b4 || b5))) := by
  have hfs := fld_size x.k
  have hq : ∀ W, Calls Tryd.prog 33 #[.int .i64 x.k] W fun e w' => e = .returned (.string (fldZ x.k)) ∧ Below W.heap.size W w' := fun W => rfields_any x.k W
  obtain ⟨f, hf⟩ : ∃ f, fldZ x.k = f := ⟨_, rfl⟩
  rw [hf] at hfs hq ⊢
  have HQ := Lib.hid hq
  have HF := Lib.hid hfs
  clear hfs hq
  have he : f.toList.isEmpty = false := by
    rw [← hf]
    unfold fldZ
    rw [if_pos h, ByteArray.toList_eq]
    have : ∀ k, k < 14 → (fld k).data.toList.isEmpty = false := by decide
    exact this _ (by omega)
  clear hf h
  obtain ⟨P, hP⟩ : ∃ P, OneK x size regs locks f (b4 || b5) = P := ⟨_, rfl⟩
  rw [hP]
  have HP := Lib.hid hP
  obtain ⟨nn, hnn⟩ : ∃ nn, (b4 || b5) = nn := ⟨_, rfl⟩
  have HNN := Lib.hid hnn
  obtain ⟨cD, hD⟩ : ∃ b, hasC f 68 = b := ⟨_, rfl⟩
  obtain ⟨cA, hA⟩ : ∃ b, hasC f 65 = b := ⟨_, rfl⟩
  obtain ⟨cB, hBb⟩ : ∃ b, hasC f 66 = b := ⟨_, rfl⟩
  obtain ⟨cO, hO⟩ : ∃ b, hasC f 79 = b := ⟨_, rfl⟩
  obtain ⟨cN, hN⟩ : ∃ b, hasC f 78 = b := ⟨_, rfl⟩
  obtain ⟨cT, hT⟩ : ∃ b, hasC f 84 = b := ⟨_, rfl⟩
  obtain ⟨rD, hrD⟩ : ∃ b, regB x.d regs cD false = b := ⟨_, rfl⟩
  obtain ⟨rA, hrA⟩ : ∃ b, regB x.a regs cA nn = b := ⟨_, rfl⟩
  obtain ⟨rB, hrB⟩ : ∃ b, regB x.b regs cB false = b := ⟨_, rfl⟩
  have HPE : Hid (P = (rD = true ∧ rA = true ∧ rB = true ∧ (cO = true ∨ x.o = 0) ∧ 0 ≤ x.o ∧ x.o ≤ 18 ∧ (cN = true ∨ x.n = 0) ∧ (cT = true ∨ x.t = 0) ∧ numK x.k x.n locks = true ∧ 0 ≤ x.t ∧ x.t < size)) := Lib.hid (by
    rw [← hP]
    unfold OneK
    rw [hnn, hD, hA, hBb, hO, hN, hT, hrD, hrA, hrB])
  have HD := Lib.hid hD
  have HA := Lib.hid hA
  have HBb := Lib.hid hBb
  have HO := Lib.hid hO
  have HN := Lib.hid hN
  have HT := Lib.hid hT
  have HRD := Lib.hid hrD
  have HRA := Lib.hid hrA
  have HRB := Lib.hid hrB
  clear hP hnn hD hA hBb hO hN hT hrD hrA hrB HP
  go_enter Tryd.func18, Tryd.ntmps18
  go_upto_region 2 with (go_at_call 33; (with_reducible refine (HQ.out _).mono ?_); rintro e1 w1 ⟨rfl, hb1⟩; have HB1 := Lib.hid (below_ch (below1 _ _) hb1); have HX1 := Lib.hid ((Ib.new rfl _ _ _ _ _ _ _).stay hb1); have hz1 : w.heap.size ≤ w1.heap.size := HB1.out.size; obtain ⟨bx1, y0, y1, y2, y3, y4, y5, y6, -⟩ := HX1.out.facts; clear hb1)
  go_cut [10] from 14 (fun v X => v = .bool nn ∧ X = w1)
  case first =>
    cases b4 <;> cases b5
    all_goals
      go_wp2
      go_meet
      exact ⟨by rw [← HNN.out]; rfl, rfl⟩
  obtain ⟨rfl, rfl⟩ := hcut
  clear q4 q5
  have HF2 : f.size ≤ 9223372036854775807 := by have := HF.out; omega
  have K68 : Hid (∀ W : World, Calls Tryd.prog 35 #[.string f, .int .u8 68] W fun e w' => e = .returned (.bool cD) ∧ w' = W) := Lib.hid (fun W => rhas_is' 68 HD.out (by decide) HF2 W)
  have K65 : Hid (∀ W : World, Calls Tryd.prog 35 #[.string f, .int .u8 65] W fun e w' => e = .returned (.bool cA) ∧ w' = W) := Lib.hid (fun W => rhas_is' 65 HA.out (by decide) HF2 W)
  have K66 : Hid (∀ W : World, Calls Tryd.prog 35 #[.string f, .int .u8 66] W fun e w' => e = .returned (.bool cB) ∧ w' = W) := Lib.hid (fun W => rhas_is' 66 HBb.out (by decide) HF2 W)
  have KD : Hid (∀ W : World, Calls Tryd.prog 34 #[.int .i64 x.d, .int .i64 regs, .bool cD, .bool false] W fun e w' => e = .returned (.bool rD) ∧ w' = W) := Lib.hid (fun W => rreg_is' HRD.out W)
  have KA : Hid (∀ W : World, Calls Tryd.prog 34 #[.int .i64 x.a, .int .i64 regs, .bool cA, .bool nn] W fun e w' => e = .returned (.bool rA) ∧ w' = W) := Lib.hid (fun W => rreg_is' HRA.out W)
  have KB : Hid (∀ W : World, Calls Tryd.prog 34 #[.int .i64 x.b, .int .i64 regs, .bool cB, .bool false] W fun e w' => e = .returned (.bool rB) ∧ w' = W) := Lib.hid (fun W => rreg_is' HRB.out W)
  have K79 : Hid (∀ W : World, Calls Tryd.prog 35 #[.string f, .int .u8 79] W fun e w' => e = .returned (.bool cO) ∧ W = w') := Lib.hid (fun W => rhas_is 79 HO.out (by decide) HF2 W)
  have K78 : Hid (∀ W : World, Calls Tryd.prog 35 #[.string f, .int .u8 78] W fun e w' => e = .returned (.bool cN) ∧ W = w') := Lib.hid (fun W => rhas_is 78 HN.out (by decide) HF2 W)
  have K84 : Hid (∀ W : World, Calls Tryd.prog 35 #[.string f, .int .u8 84] W fun e w' => e = .returned (.bool cT) ∧ W = w') := Lib.hid (fun W => rhas_is 84 HT.out (by decide) HF2 W)
  clear HF2
  cases rD
  · go_wp2_with (fail)
    refine wp_region_quiet_lit (by kernel_rfl) (by kernel_rfl) ?_
    repeat (any_goals (first | go_big_quiet_step (((first | (go_at_call 35; first | with_reducible exact Calls.quiet_of_same (K68.out _) | with_reducible exact Calls.quiet_of_same (K65.out _) | with_reducible exact Calls.quiet_of_same (K66.out _)) | (go_at_call 34; first | with_reducible exact Calls.quiet_of_same (KD.out _) | with_reducible exact Calls.quiet_of_same (KA.out _) | with_reducible exact Calls.quiet_of_same (KB.out _))))) | quiet_step (((first | (go_at_call 35; first | with_reducible exact Calls.quiet_of_same (K68.out _) | with_reducible exact Calls.quiet_of_same (K65.out _) | with_reducible exact Calls.quiet_of_same (K66.out _)) | (go_at_call 34; first | with_reducible exact Calls.quiet_of_same (KD.out _) | with_reducible exact Calls.quiet_of_same (KA.out _) | with_reducible exact Calls.quiet_of_same (KB.out _)))))))
    refine wpQuiet_nil ?_
    intro _ hw'
    obtain ⟨nq, hw''⟩ := hw'
    subst hw''
    all_goals
      go_wp2_with (first
        | (go_at_call 35; (with_reducible refine (K79.out _).mono ?_); rintro e2 w2 ⟨rfl, rfl⟩)
        | (go_at_call 35; (with_reducible refine (K78.out _).mono ?_); rintro e2 w2 ⟨rfl, rfl⟩)
        | (go_at_call 35; (with_reducible refine (K84.out _).mono ?_); rintro e2 w2 ⟨rfl, rfl⟩)
        | (go_at_call 36; (with_reducible refine (num_any _ _ _ _ _ _ _ _ _).mono ?_); rintro e3 w3 ⟨rfl, hb3⟩; have HB3 := Lib.hid (below_ch (below_drewN HB1.out _) hb3); have HX3 := Lib.hid (HX1.out.stay (below_ch (below_drewN (Below.refl _ _) _) hb3)); obtain ⟨bx3, z0, z1, z2, z3, z4, z5, z6, -⟩ := HX3.out.facts; clear hb3))
    all_goals
      go_ret
      refine ⟨_, rfl, ?_, ?_⟩
      · rw [HPE.out]
        first
          | (simp_all; done)
          | (simp_all; omega)
      · first
          | exact below_drewN HB1.out _
          | exact HB3.out
  · cases rA
    · go_wp2_with (fail)
      refine wp_region_quiet_lit (by kernel_rfl) (by kernel_rfl) ?_
      repeat (any_goals (first | go_big_quiet_step (((first | (go_at_call 35; first | with_reducible exact Calls.quiet_of_same (K68.out _) | with_reducible exact Calls.quiet_of_same (K65.out _) | with_reducible exact Calls.quiet_of_same (K66.out _)) | (go_at_call 34; first | with_reducible exact Calls.quiet_of_same (KD.out _) | with_reducible exact Calls.quiet_of_same (KA.out _) | with_reducible exact Calls.quiet_of_same (KB.out _))))) | quiet_step (((first | (go_at_call 35; first | with_reducible exact Calls.quiet_of_same (K68.out _) | with_reducible exact Calls.quiet_of_same (K65.out _) | with_reducible exact Calls.quiet_of_same (K66.out _)) | (go_at_call 34; first | with_reducible exact Calls.quiet_of_same (KD.out _) | with_reducible exact Calls.quiet_of_same (KA.out _) | with_reducible exact Calls.quiet_of_same (KB.out _)))))))
      refine wpQuiet_nil ?_
      intro _ hw'
      obtain ⟨nq, hw''⟩ := hw'
      subst hw''
      all_goals
        go_wp2_with (first
          | (go_at_call 35; (with_reducible refine (K79.out _).mono ?_); rintro e2 w2 ⟨rfl, rfl⟩)
          | (go_at_call 35; (with_reducible refine (K78.out _).mono ?_); rintro e2 w2 ⟨rfl, rfl⟩)
          | (go_at_call 35; (with_reducible refine (K84.out _).mono ?_); rintro e2 w2 ⟨rfl, rfl⟩)
          | (go_at_call 36; (with_reducible refine (num_any _ _ _ _ _ _ _ _ _).mono ?_); rintro e3 w3 ⟨rfl, hb3⟩; have HB3 := Lib.hid (below_ch (below_drewN HB1.out _) hb3); have HX3 := Lib.hid (HX1.out.stay (below_ch (below_drewN (Below.refl _ _) _) hb3)); obtain ⟨bx3, z0, z1, z2, z3, z4, z5, z6, -⟩ := HX3.out.facts; clear hb3))
      all_goals
        go_ret
        refine ⟨_, rfl, ?_, ?_⟩
        · rw [HPE.out]
          first
            | (simp_all; done)
            | (simp_all; omega)
        · first
            | exact below_drewN HB1.out _
            | exact HB3.out
    · cases rB
      · go_wp2_with (fail)
        refine wp_region_quiet_lit (by kernel_rfl) (by kernel_rfl) ?_
        repeat (any_goals (first | go_big_quiet_step (((first | (go_at_call 35; first | with_reducible exact Calls.quiet_of_same (K68.out _) | with_reducible exact Calls.quiet_of_same (K65.out _) | with_reducible exact Calls.quiet_of_same (K66.out _)) | (go_at_call 34; first | with_reducible exact Calls.quiet_of_same (KD.out _) | with_reducible exact Calls.quiet_of_same (KA.out _) | with_reducible exact Calls.quiet_of_same (KB.out _))))) | quiet_step (((first | (go_at_call 35; first | with_reducible exact Calls.quiet_of_same (K68.out _) | with_reducible exact Calls.quiet_of_same (K65.out _) | with_reducible exact Calls.quiet_of_same (K66.out _)) | (go_at_call 34; first | with_reducible exact Calls.quiet_of_same (KD.out _) | with_reducible exact Calls.quiet_of_same (KA.out _) | with_reducible exact Calls.quiet_of_same (KB.out _)))))))
        refine wpQuiet_nil ?_
        intro _ hw'
        obtain ⟨nq, hw''⟩ := hw'
        subst hw''
        all_goals
          go_wp2_with (first
            | (go_at_call 35; (with_reducible refine (K79.out _).mono ?_); rintro e2 w2 ⟨rfl, rfl⟩)
            | (go_at_call 35; (with_reducible refine (K78.out _).mono ?_); rintro e2 w2 ⟨rfl, rfl⟩)
            | (go_at_call 35; (with_reducible refine (K84.out _).mono ?_); rintro e2 w2 ⟨rfl, rfl⟩)
            | (go_at_call 36; (with_reducible refine (num_any _ _ _ _ _ _ _ _ _).mono ?_); rintro e3 w3 ⟨rfl, hb3⟩; have HB3 := Lib.hid (below_ch (below_drewN HB1.out _) hb3); have HX3 := Lib.hid (HX1.out.stay (below_ch (below_drewN (Below.refl _ _) _) hb3)); obtain ⟨bx3, z0, z1, z2, z3, z4, z5, z6, -⟩ := HX3.out.facts; clear hb3))
        all_goals
          go_ret
          refine ⟨_, rfl, ?_, ?_⟩
          · rw [HPE.out]
            first
              | (simp_all; done)
              | (simp_all; omega)
          · first
              | exact below_drewN HB1.out _
              | exact HB3.out
      · go_wp2_with (fail)
        refine wp_region_quiet_lit (by kernel_rfl) (by kernel_rfl) ?_
        repeat (any_goals (first | go_big_quiet_step (((first | (go_at_call 35; first | with_reducible exact Calls.quiet_of_same (K68.out _) | with_reducible exact Calls.quiet_of_same (K65.out _) | with_reducible exact Calls.quiet_of_same (K66.out _)) | (go_at_call 34; first | with_reducible exact Calls.quiet_of_same (KD.out _) | with_reducible exact Calls.quiet_of_same (KA.out _) | with_reducible exact Calls.quiet_of_same (KB.out _))))) | quiet_step (((first | (go_at_call 35; first | with_reducible exact Calls.quiet_of_same (K68.out _) | with_reducible exact Calls.quiet_of_same (K65.out _) | with_reducible exact Calls.quiet_of_same (K66.out _)) | (go_at_call 34; first | with_reducible exact Calls.quiet_of_same (KD.out _) | with_reducible exact Calls.quiet_of_same (KA.out _) | with_reducible exact Calls.quiet_of_same (KB.out _)))))))
        refine wpQuiet_nil ?_
        intro _ hw'
        obtain ⟨nq, hw''⟩ := hw'
        subst hw''
        all_goals
          go_wp2_with (first
            | (go_at_call 35; (with_reducible refine (K79.out _).mono ?_); rintro e2 w2 ⟨rfl, rfl⟩)
            | (go_at_call 35; (with_reducible refine (K78.out _).mono ?_); rintro e2 w2 ⟨rfl, rfl⟩)
            | (go_at_call 35; (with_reducible refine (K84.out _).mono ?_); rintro e2 w2 ⟨rfl, rfl⟩)
            | (go_at_call 36; (with_reducible refine (num_any _ _ _ _ _ _ _ _ _).mono ?_); rintro e3 w3 ⟨rfl, hb3⟩; have HB3 := Lib.hid (below_ch (below_drewN HB1.out _) hb3); have HX3 := Lib.hid (HX1.out.stay (below_ch (below_drewN (Below.refl _ _) _) hb3)); obtain ⟨bx3, z0, z1, z2, z3, z4, z5, z6, -⟩ := HX3.out.facts; clear hb3))
        all_goals
          go_ret
          refine ⟨_, rfl, ?_, ?_⟩
          · rw [HPE.out]
            first
              | (simp_all; done)
              | (simp_all; omega)
          · first
              | exact below_drewN HB1.out _
              | exact HB3.out
end Go.Proofs.YtgdhgipofaaogaaDoor
