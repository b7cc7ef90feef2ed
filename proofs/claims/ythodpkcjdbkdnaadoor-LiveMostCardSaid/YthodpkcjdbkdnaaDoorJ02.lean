/- Lemmas for the laws of live (Grn Gpm Glw Gpc Lkm Lbt Lpc Lst Lpd Gwi Lnd Lha Len Lgd Lne Lgo Lcm Lgm): each says its own conditions. -/
import Derived.Test.YthodpkcjdbkdnaaDoorJ01
import Derived.Sort.Grow
import Derived.IntWalk
import Derived.StillTailTactics
import Derived.BigQuiet
import Derived.Deep.QuietTactic
import Derived.Maps.OwnSet
import Derived.Maps.RangeWalk
import Derived.Laws.Bits64b
import Derived.Laws.BitsAllLaws
import Derived.Lib.Hide
import Derived.Laws.BitsLemmas
import Derived.WalkLawsBesides
import Derived.WalkSpells
import Derived.LoopTactic
import Derived.RegionTactic
import Derived.ChangeAlike
import Derived.BigRegion
import Derived.Deep.CutRange
import Derived.Deep.CutBlock
import Derived.Deep.RegionHeld3
import Derived.Deep.RegionLaw
import Derived.Deep.AppendLies
import Derived.Shelf.Spec.TrailingZeros
set_option linter.unusedSimpArgs false
set_option linter.unusedVariables false
namespace Go.Proofs.YthodpkcjdbkdnaaDoor
open Go Go.RowKit Gm
theorem inn_take {n j : Nat} {l : List Int} {z : Int} (h : l[j]? = some z) : inn n (l.take (j + 1)) = inn n (l.take j) ++ (if outB n z then [] else [z]) := by
  unfold inn
  rw [List.take_add_one, h, List.filter_append]
  cases hz : outB n z <;> simp [hz]
set_option maxRecDepth 100000 in
set_option maxHeartbeats 4000000 in
theorem refnext_any {W : World} {p : Option Addr} {cap : Nat} {c : List Ic} (hc : Hid (CodeAt W p c)) (hn : c.length ≤ 1000000) {i : Nat} {x : Ic} (hx : Hid (c[i]? = some x)) :
    Calls Tryd.prog 21 #[.slice p c.length cap, .int .i64 i] W (RowP W (inn c.length (nextM x i))) := by
  have hi : i < c.length := (List.getElem?_eq_some_iff.1 hx.out).1
  obtain ⟨g, o7, rfl, hg, hat7, hok⟩ := hc.out i x hx.out
  have k0 := hat7.k
  have k1 := hat7.o
  have k2 := hat7.d
  have k3 := hat7.a
  have k4 := hat7.b
  have k5 := hat7.n
  have k6 := hat7.t
  clear hat7 hok
  obtain ⟨i0, hi0, hz0, hz1, hz2⟩ := info_parts info_int
  go_enter Tryd.func21, Tryd.ntmps21
  go_wp2_with (go_at_call 40; ((with_reducible refine (rnext_any x i _ (by omega) (by omega)).mono ?_); rintro e6 w6 ⟨v6, rfl, hr6, hb6⟩; have HR6 := Lib.hid hr6; have HB6 := Lib.hid hb6; clear hr6 hb6))
  have hlen := nextM_len x i
  obtain ⟨l, hl⟩ : ∃ l, nextM x i = l := ⟨_, rfl⟩
  rw [hl] at HR6 hlen
  have HL := Lib.hid hl
  clear hl k0 k1 k2 k3 k4 k5 k6
  obtain ⟨q, cq, e6, -⟩ := HR6.out.gv.open
  have HE6 := Lib.hid e6
  rw [e6]
  clear e6
  go_loopw [6, 7] (fun a b wr => ∃ (j : Nat), b = .int .i64 j ∧ j ≤ l.length ∧ Hid (Below w6.heap.size w6 wr ∧ Rw w6.heap.size wr a (inn c.length (l.take j)))) (fun _ b _ => l.length - (intOf b).toNat)
  case atStart => exact ⟨0, rfl, Nat.zero_le _, Lib.hid ⟨Below.refl _ _, Rw.nil _ _⟩⟩
  case round =>
    obtain ⟨wo, rfl⟩ : ∃ wo : World, wo = wr := ⟨_, rfl⟩
    obtain ⟨j, rfl, hj, HY⟩ := hrel
    obtain ⟨qo, co, eo, -⟩ := HY.out.2.gv.open
    subst eo
    by_cases hlt : j < l.length
    · obtain ⟨z, hz⟩ : ∃ z, l[j]? = some z := ⟨_, List.getElem?_eq_getElem hlt⟩
      have h6 := (HR6.out.stay HY.out.1).gv.open
      rw [HE6.out] at h6
      obtain ⟨q', c', e', h6⟩ := h6
      cases e'
      obtain ⟨g6, rfl, -, -, -, -, -, hcell⟩ := h6.resolve_left (fun e => by omega)
      have iz := hcell j hlt
      simp only [iv, List.getD_eq_getElem?_getD, hz, Option.getD_some] at iz
      clear hcell h6
      have hin := inn_take (n := c.length) hz
      have hlo : (inn c.length (l.take j)).length ≤ 2 := by
        unfold inn
        exact Nat.le_trans (List.length_filter_le _ _) (by rw [List.length_take]; omega)
      obtain ⟨L, hL⟩ : ∃ L, inn c.length (l.take j) = L := ⟨_, rfl⟩
      rw [hL] at hin hlo HY ⊢
      by_cases h0 : 0 ≤ z
      · by_cases h1 : z < c.length
        · have hno : outB c.length z = false := by simp [outB, h0, h1]
          rw [hno] at hin
          have HIN := Lib.hid hin
          have HV := Lib.hid HY.out.2
          have hsz := HY.out.1.size
          clear hin hz hL hno
          go_wp2_with (at_builtin; refine wpList_append_own_at _ rfl _ _ 36 rfl w6.heap.size 3 i0 (.int .i64 0) 1 8 Tryd.underlying36 hi0 hz0 hz1 hz2 rfl (by decide) (.slice qo L.length co) L.length (L.map (Value.int .i64)) rfl (World.ownsRow.alloc HV.out _) ⟨wo.heap.size, 0, none⟩ 1 1 [.int .i64 z] rfl rfl (cell_one_new _ _ _) (fun u hu => by simp at hu; subst hu; rfl) (by unfold maxLen; omega) (by omega) (by simp; omega) ?_; intro v8 w8 hown hgrow _ hats; have HG8 := Lib.hid hown; have HW8 := Lib.hid hgrow; clear hown hgrow hats)
          go_roundw
          case rel => exact ⟨j + 1, by go_num, by omega, Lib.hid ⟨(HY.out.1.alloc hsz _).grown HW8.out (by simp; omega) (fun e h => (World.ownsRow.lt HV.out e h).1), by
            rw [HIN.out]
            have := HG8.out
            unfold Rw
            simpa using this⟩⟩
          case measure => (simp [intOf]; try omega)
        · have hno : outB c.length z = true := by simp [outB]; omega
          rw [hno] at hin
          have HIN := Lib.hid hin
          clear hin hz hL hno
          go_wp2
          go_roundw
          case rel => exact ⟨j + 1, by go_num, by omega, Lib.hid ⟨HY.out.1, by rw [HIN.out]; simpa using HY.out.2⟩⟩
          case measure => (simp [intOf]; try omega)
      · have hno : outB c.length z = true := by simp [outB]; omega
        rw [hno] at hin
        have HIN := Lib.hid hin
        clear hin hz hL hno
        go_wp2
        go_roundw
        case rel => exact ⟨j + 1, by go_num, by omega, Lib.hid ⟨HY.out.1, by rw [HIN.out]; simpa using HY.out.2⟩⟩
        case measure => (simp [intOf]; try omega)
    · obtain rfl : j = l.length := by omega
      go_wp2
      go_ret
      refine ⟨_, rfl, ?_, HB6.out.trans (HY.out.1.mono HB6.out.size)⟩
      rw [HL.out]
      have := HY.out.2
      rw [List.take_length] at this
      simpa [List.take_length] using this.mono HB6.out.size
end Go.Proofs.YthodpkcjdbkdnaaDoor
namespace Go.Proofs.YthodpkcjdbkdnaaDoor
open Gm
/-- A code's ways, which places are come to, what is above what, what is in which loop. -/
def Ed (c : List Ic) (i j : Nat) : Prop := j ∈ outs c i
open Classical
end Go.Proofs.YthodpkcjdbkdnaaDoor
namespace Go.Proofs.YthodpkcjdbkdnaaDoor
open Go Go.RowKit
set_option maxRecDepth 100000 in
set_option maxHeartbeats 2000000 in
theorem ints_any {W : World} {p q : Option Addr} {cp cq : Nat} {l k : List Nat} (hp : Hid (RV W p l.length (lv l))) (hq : Hid (RV W q k.length (lv k))) (hl : l.length ≤ 1000000) :
    Calls Tryd.prog 23 #[.slice p l.length cp, .slice q k.length cq] W fun e w' => ∃ b, e = .returned (.bool b) ∧ (b = true ↔ l = k) ∧ Below W.heap.size W w' := by
  by_cases hlk : l.length = k.length
  · rw [← hlk] at hq ⊢
    have HLK := Lib.hid hlk
    clear hlk
    go_enter Tryd.func23, Tryd.ntmps23
    go_wp2
    go_loopw [5] (fun a wr => ∃ j : Nat, a = .int .i64 j ∧ j ≤ l.length ∧ Hid (Below W.heap.size W wr ∧ ∀ i, i < j → l.getD i 0 = k.getD i 0)) (fun a _ => l.length - (intOf a).toNat)
    case atStart => exact ⟨0, rfl, Nat.zero_le _, Lib.hid ⟨Below.refl _ _, fun i h => absurd h (Nat.not_lt_zero _)⟩⟩
    case round =>
      obtain ⟨wo, rfl⟩ : ∃ wo : World, wo = wr := ⟨_, rfl⟩
      obtain ⟨j, rfl, hj, HR⟩ := hrel
      by_cases hlt : j < l.length
      · obtain ⟨g, o, rfl, -, i1⟩ := (hp.out.stay HR.out.1) j hlt
        obtain ⟨g', o', rfl, -, i2⟩ := (hq.out.stay HR.out.1) j hlt
        simp only [lv] at i1 i2
        by_cases he : l.getD j 0 = k.getD j 0
        · rw [← he] at i2
          obtain ⟨z, hz⟩ : ∃ z, l.getD j 0 = z := ⟨_, rfl⟩
          rw [hz] at i1 i2
          have HE := Lib.hid he
          clear he hz
          go_wp2
          go_quiet (fail)
          go_wp2
          go_roundw
          case rel => exact ⟨j + 1, by go_num, by omega, Lib.hid ⟨below_like HR.out.1 rfl rfl rfl rfl, fun i hi => by
            by_cases e : i = j
            · rw [e]; exact HE.out
            · exact HR.out.2 i (by omega)⟩⟩
          case measure => (simp [intOf]; try omega)
        · have hn : ¬ ((l.getD j 0 : Nat) : Int) = ((k.getD j 0 : Nat) : Int) := fun e => he (by omega)
          have HE := Lib.hid he
          obtain ⟨z, hz⟩ : ∃ z, l.getD j 0 = z := ⟨_, rfl⟩
          obtain ⟨z', hz'⟩ : ∃ z, k.getD j 0 = z := ⟨_, rfl⟩
          rw [hz] at i1 hn
          rw [hz'] at i2 hn
          clear he hz hz'
          go_wp2
          go_quiet (fail)
          go_wp2
          go_ret
          exact ⟨_, rfl, ⟨fun e => (by cases e), fun e => absurd (by rw [e]) HE.out⟩, below_like HR.out.1 rfl rfl rfl rfl⟩
      · obtain rfl : j = l.length := by omega
        go_wp2
        go_ret
        exact ⟨_, rfl, ⟨fun _ => List.ext_getElem HLK.out fun i h1 h2 => by
          have := HR.out.2 i h1
          rw [List.getD_eq_getElem?_getD, List.getD_eq_getElem?_getD, List.getElem?_eq_getElem h1, List.getElem?_eq_getElem h2] at this
          exact this, fun _ => rfl⟩, HR.out.1⟩
  · have hn : ¬ ((l.length : Int) = (k.length : Int)) := by omega
    have HLK := Lib.hid hlk
    clear hlk
    go_enter Tryd.func23, Tryd.ntmps23
    go_wp2
    go_ret
    exact ⟨_, rfl, ⟨fun e => (by cases e), fun e => absurd (by rw [e]) HLK.out⟩, Below.refl _ _⟩
/-- A row of numbers that is read. -/
def RowIn (W : World) (v : Value) (l : List Nat) : Prop := ∃ p cap, v = .slice p l.length cap ∧ RV W p l.length (lv l)
theorem RowIn.stay {W X : World} {v : Value} {l : List Nat} (h : RowIn W v l) (hb : Below W.heap.size W X) : RowIn X v l := by
  obtain ⟨p, cap, e, h⟩ := h
  exact ⟨p, cap, e, h.stay hb⟩
end Go.Proofs.YthodpkcjdbkdnaaDoor
namespace Go.Proofs.YthodpkcjdbkdnaaDoor
open Go Go.RowKit Gm
theorem up_len (n : Nat) : ∀ (l : List Nat) (b : Nat), l.Pairwise (fun x y => x < y) → (∀ x, x ∈ l → b ≤ x ∧ x < n) → l.length ≤ n - b := by
  intro l
  induction l with
  | nil => exact fun b _ _ => Nat.zero_le _
  | cons a l ih =>
    intro b hp hm
    have h1 := List.pairwise_cons.1 hp
    have h2 := hm a (by simp)
    have := ih (a + 1) h1.2 fun x hx => ⟨h1.1 x hx, (hm x (by simp [hx])).2⟩
    rw [List.length_cons]
    omega
/-- Two rising rows of the same numbers are one. -/
theorem up_same {l k : List Nat} (hl : l.Pairwise (fun x y => x < y)) (hk : k.Pairwise (fun x y => x < y)) (h : ∀ t, t ∈ l ↔ t ∈ k) : l = k := by
  induction l generalizing k with
  | nil =>
    cases k with
    | nil => rfl
    | cons b k => exact absurd ((h b).2 (by simp)) (by simp)
  | cons a l ih =>
    cases k with
    | nil => exact absurd ((h a).1 (by simp)) (by simp)
    | cons b k =>
      obtain ⟨a1, a2⟩ := List.pairwise_cons.1 hl
      obtain ⟨b1, b2⟩ := List.pairwise_cons.1 hk
      have hab : a = b := by
        rcases List.mem_cons.1 ((h a).1 (by simp)) with e | e
        · exact e
        · rcases List.mem_cons.1 ((h b).2 (by simp)) with e2 | e2
          · exact e2.symm
          · have := b1 a e
            have := a1 b e2
            omega
      subst hab
      rw [ih a2 b2 fun t => ?_]
      constructor
      · intro ht
        rcases List.mem_cons.1 ((h t).1 (by simp [ht])) with e | e
        · have := a1 t ht; omega
        · exact e
      · intro ht
        rcases List.mem_cons.1 ((h t).2 (by simp [ht])) with e | e
        · have := b1 t ht; omega
        · exact e
/-- A row of truths of something. -/
def BR (W : World) (v : Value) (n : Nat) (T : Nat → Prop) : Prop := ∃ q cap g, v = .slice q n cap ∧ RV W q n (bv g) ∧ ∀ j, j < n → (g j = true ↔ T j)
theorem BR.stay {W X : World} {v : Value} {n : Nat} {T : Nat → Prop} (h : BR W v n T) (hb : Below W.heap.size W X) : BR X v n T := by
  obtain ⟨q, cap, g, e, h, t⟩ := h
  exact ⟨q, cap, g, e, h.stay hb, t⟩
/-- A rising row of the numbers of which something holds. -/
def NR (W : World) (v : Value) (T : Nat → Prop) : Prop := ∃ l, RowIn W v l ∧ l.length ≤ 1000000 ∧ l.Pairwise (fun x y => x < y) ∧ ∀ t, t ∈ l ↔ T t
theorem NR.stay {W X : World} {v : Value} {T : Nat → Prop} (h : NR W v T) (hb : Below W.heap.size W X) : NR X v T := by
  obtain ⟨l, h1, h2⟩ := h
  exact ⟨l, h1.stay hb, h2⟩
/-- Rows of such. -/
def Rows2 (W : World) (v : Value) (m : Nat) (R : World → Nat → Value → Prop) : Prop := ∃ p cap S, v = .slice p m cap ∧ RV W p m S ∧ ∀ i, i < m → R W i (S i)
theorem Rows2.stay {W X : World} {v : Value} {m : Nat} {R : World → Nat → Value → Prop} (h : Rows2 W v m R) (hb : Below W.heap.size W X) (hR : ∀ i u, R W i u → R X i u) : Rows2 X v m R := by
  obtain ⟨p, cap, S, e, h1, h2⟩ := h
  exact ⟨p, cap, S, e, h1.stay hb, fun i hi => hR i _ (h2 i hi)⟩
end Go.Proofs.YthodpkcjdbkdnaaDoor
namespace Go.Proofs.YthodpkcjdbkdnaaDoor
open Go Go.RowKit Go.ChangeMaps Go.MapKept Go.WideElems Go.Maps
theorem In6.wf {n : Int} (h : In6 n) : (Lit.int .i64 n).wf = true := by
  unfold In6 at h
  simp [Lit.wf, IntKind.min, IntKind.max, IntKind.signed, IntKind.bits] <;> omega
/-- A thing is read as what it is. -/
def Rdv (v : Value) : Option (DataW Value × List MemPlace) := some (.held v, [])
abbrev KF : Type := Int → Option Value
def KF.upd (f : KF) (s : Int) (v : Value) : KF := fun t => if t = s then some v else f t
def KF.del (f : KF) (s : Int) : KF := fun t => if t = s then none else f t
/-- Block b is a map that knows f, of at most n numbers. -/
def KM (K : TypeId) (W : World) (b n : Nat) (f : KF) : Prop := ∃ D : DataW Value, W.ownsMap Tryd.prog K Rdv b n D ∧ ∀ (s : Int) (z : DataW Value), D.atKey (.int .i64 s) z = match f s with | some v => .held v | none => z
section
variable {W X : World} {b n : Nat} {f : KF} {K : TypeId}
theorem KM.made (K : TypeId) (W : World) : KM K (W.alloc (.map #[] 0)) W.heap.size 0 (fun _ => none) := ⟨.map [], World.ownsMap_made W _ _ Rdv, fun _ _ => rfl⟩
theorem KM.lt (h : KM K W b n f) : b < W.heap.size := by
  obtain ⟨D, h1, _⟩ := h
  exact h1.lt
theorem KM.same (h : KM K W b n f) (e : X.heap[b]? = W.heap[b]?) : KM K X b n f := by
  obtain ⟨D, ⟨es, clock, hb, r⟩, h2⟩ := h
  exact ⟨D, ⟨es, clock, e.trans hb, r⟩, h2⟩
theorem KM.mono (h : KM K W b n f) {m : Nat} (hm : n ≤ m) : KM K W b m f := by
  obtain ⟨D, h1, h2⟩ := h
  exact ⟨D, h1.mono hm, h2⟩
theorem KM.nocells (h : KM K W b n f) {m : Nat} {cs : Array Value} {T : TypeId} {fr : Nat × Nat} (hm : W.heap[m]? = some (.cells cs T fr)) : b ≠ m := by
  rintro rfl
  obtain ⟨D, ⟨es, clock, hb, _⟩, _⟩ := h
  rw [hm] at hb
  cases hb
theorem KM.look_ok (h : KM K W b n f) (hk : Keyed Tryd.prog K) {t e : TypeId} (ht : Tryd.prog.underlying t = some (.map K e)) {zv : Value} (hz : (zeroValue e).run Tryd.prog W = .ok zv W) {s : Int} (hs : keyOf Tryd.prog K (.int .i64 s) = some (.int .i64 s)) (c : Bool) :
    (Instr.lookup t (.map (some b)) (.int .i64 s) c).run Tryd.prog W = .ok (if c then .tuple #[(f s).getD zv, .bool (f s).isSome] else (f s).getD zv) W := by
  obtain ⟨D, ⟨es, clock, hb, F, _, rfl⟩, h2⟩ := h
  rcases Maps.fit_look c hk ht hz hb F hs with ⟨hrun, _, hat⟩ | ⟨e0, y, _, _, hrun, hRv, hat, _⟩
  · have e1 : f s = none := by
      have h3 := h2 s (.held (.int .i64 0))
      have h4 := h2 s (.held (.int .i64 1))
      rw [hat] at h3 h4
      cases hf : f s with
      | none => rfl
      | some u =>
        rw [hf] at h3 h4
        simp only at h3 h4
        rw [← h4] at h3
        simp at h3
    rw [hrun, e1]
    rfl
  · have h3 := h2 s (.held (.int .i64 0))
    have h4 := h2 s (.held (.int .i64 1))
    rw [hat] at h3 h4
    have hy : y = (.held e0.val, []) := by
      simpa [Rdv] using hRv.symm
    subst hy
    simp only at h3 h4
    cases hf : f s with
    | none =>
      rw [hf] at h3 h4
      simp only at h3 h4
      rw [h3] at h4
      simp at h4
    | some u =>
      rw [hf] at h3
      simp only [DataW.held.injEq] at h3
      rw [hrun, h3]
      rfl
theorem KM.put_ {D : DataW Value} {s : Int} {v : Value} (hm : IsMap D) (h2 : ∀ (t : Int) (z : DataW Value), D.atKey (.int .i64 t) z = match f t with | some v => .held v | none => z) (t : Int) (z : DataW Value) :
    (D.put (.int .i64 s) (.held v)).atKey (.int .i64 t) z = match f.upd s v t with | some v => .held v | none => z := by
  by_cases e : t = s
  · subst e
    rw [atKey_put_same hm (show WideAt.IsKeyLit (.int .i64 t) from trivial)]
    simp [KF.upd]
  · rw [atKey_put_other (by simpa using e), h2]
    simp [KF.upd, e]
theorem KM.del_ {D : DataW Value} {s : Int} (h2 : ∀ (t : Int) (z : DataW Value), D.atKey (.int .i64 t) z = match f t with | some v => .held v | none => z) (t : Int) (z : DataW Value) :
    (D.del (.int .i64 s)).atKey (.int .i64 t) z = match f.del s t with | some v => .held v | none => z := by
  by_cases e : t = s
  · subst e
    rw [atKey_del_same]
    simp [KF.del]
  · rw [atKey_del_other (by simpa using e), h2]
    simp [KF.del, e]
theorem KM.run_put (h : KM K W b n f) (hk : Keyed Tryd.prog K) {t e : TypeId} (ht : Tryd.prog.underlying t = some (.map K e)) (hn : n < maxLen) {s : Int} (hs : keyOf Tryd.prog K (.int .i64 s) = some (.int .i64 s)) (val : Value) :
    ∃ w', (Instr.mapUpdate t (.map (some b)) (.int .i64 s) val).run Tryd.prog W = .ok () w' ∧ KM K w' b (n + 1) (f.upd s val) ∧ W.grownBy w' (some b) := by
  obtain ⟨D, h1, h2⟩ := h
  obtain ⟨w', hrun, r1, r2⟩ := h1.update hk ht hn hs (val := val) rfl
  exact ⟨w', hrun, ⟨_, r1, KM.put_ h1.isMap h2⟩, r2⟩
theorem KM.run_del (h : KM K W b n f) (hk : Keyed Tryd.prog K) {t e : TypeId} (ht : Tryd.prog.underlying t = some (.map K e)) {s : Int} (hs : keyOf Tryd.prog K (.int .i64 s) = some (.int .i64 s)) (ty : TypeId) :
    ∃ w', (Builtin.delete_ #[t, K] ty #[.map (some b), .int .i64 s]).run Tryd.prog W = .ok (.tuple #[]) w' ∧ KM K w' b n (f.del s) ∧ W.grownBy w' (some b) := by
  obtain ⟨D, h1, h2⟩ := h
  obtain ⟨w', hrun, r1, r2⟩ := h1.drop hk ht hs ty
  exact ⟨w', hrun, ⟨_, r1, KM.del_ h2⟩, r2.grown⟩
/-- An entry is put: as an operation of a walk. -/
theorem wpList_putK {ops : Array Oper} {rest : List Oper} {o : Oper} {a : Act} {Q : Exit → Act → World → Prop} {w : World} {t e : TypeId}
    (hg : o.guard = none) (m x v : Operand) (hop : o.op = Op.mapUpdate t m x v) (hk : Keyed Tryd.prog K) (ht : Tryd.prog.underlying t = some (.map K e)) (b n : Nat) (f : KF) (hm : a.eval m = .map (some b)) (h : KM K w b n f) (hn : n < maxLen)
    (s : Int) (val : Value) (hx : a.eval x = .int .i64 s) (hv : a.eval v = val) (hs : keyOf Tryd.prog K (.int .i64 s) = some (.int .i64 s))
    (hK : ∀ w', KM K w' b (n + 1) (f.upd s val) → w.grownBy w' (some b) → wpList Tryd.prog ops Q rest (a.put o.dst undef) w') : wpList Tryd.prog ops Q (o :: rest) a w := by
  obtain ⟨D, h1, h2⟩ := h
  exact wpList_mapUpdate_own w hg m x v _ hop K e hk ht Rdv b n D hm h1 hn (.int .i64 s) val _ hx hv hs _ _ rfl fun w' g1 g2 => hK w' ⟨_, g1, KM.put_ h1.isMap h2⟩ g2
/-- An entry is struck. -/
theorem wpList_strikeK {ops : Array Oper} {rest : List Oper} {o : Oper} {a : Act} {Q : Exit → Act → World → Prop} {w : World} {t e : TypeId}
    (hg : o.guard = none) (m x : Operand) (hop : o.op = Op.call { callee := Callee.builtin Builtin.delete, args := #[m, x], argTypes := #[t, K] }) (hk : Keyed Tryd.prog K) (ht : Tryd.prog.underlying t = some (.map K e)) (b n : Nat) (f : KF) (hm : a.eval m = .map (some b)) (h : KM K w b n f)
    (s : Int) (hx : a.eval x = .int .i64 s) (hs : keyOf Tryd.prog K (.int .i64 s) = some (.int .i64 s))
    (hK : ∀ w', KM K w' b n (f.del s) → w.grownBy w' (some b) → wpList Tryd.prog ops Q rest (a.put o.dst (.tuple #[])) w') : wpList Tryd.prog ops Q (o :: rest) a w := by
  obtain ⟨D, h1, h2⟩ := h
  exact wpList_delete_own w hg m x _ _ hop e hk ht Rdv b n D hm h1 (.int .i64 s) _ hx hs fun w' g1 g2 => hK w' ⟨_, g1, KM.del_ h2⟩ g2.grown
end
theorem keyedI : Keyed Tryd.prog 3 := int_keyed Tryd.underlying3
theorem keyI {n : Int} (h : In6 n) : keyOf Tryd.prog 3 (.int .i64 n) = some (.int .i64 n) := keyOf_int_mk Tryd.underlying3 (In6.wf h)
theorem at_none {D : DataW Value} {s : Int} {f : KF} (h : ∀ (s : Int) (z : DataW Value), D.atKey (.int .i64 s) z = match f s with | some v => .held v | none => z) (hn : ∀ z, D.atKey (.int .i64 s) z = z) : f s = none := by
  have h3 := h s (.held (.int .i64 0))
  have h4 := h s (.held (.int .i64 1))
  rw [hn] at h3 h4
  cases hf : f s with
  | none => rfl
  | some u =>
    rw [hf] at h3 h4
    simp only at h3 h4
    rw [← h4] at h3
    simp at h3
theorem at_some {D d : DataW Value} {s : Int} {f : KF} (h : ∀ (s : Int) (z : DataW Value), D.atKey (.int .i64 s) z = match f s with | some v => .held v | none => z) (hn : ∀ z, D.atKey (.int .i64 s) z = d) : ∃ v, f s = some v ∧ d = .held v := by
  have h3 := h s (.held (.int .i64 0))
  have h4 := h s (.held (.int .i64 1))
  rw [hn] at h3 h4
  cases hf : f s with
  | none =>
    rw [hf] at h3 h4
    simp only at h3 h4
    rw [h3] at h4
    simp at h4
  | some u =>
    rw [hf] at h3
    exact ⟨u, rfl, h3⟩
/-- Each entry of a map is known. -/
theorem KM.entry {W : World} {b n : Nat} {f : KF} {es : Array MapEntry} {clock : Nat} (F : Fit Tryd.prog 3 Rdv es clock)
    (h2 : ∀ (s : Int) (z : DataW Value), (DataW.map ((es.toList.map (rg Tryd.prog 3 Rdv)).foldr DataW.insert [])).atKey (.int .i64 s) z = match f s with | some v => .held v | none => z) {x : MapEntry} (hx : x ∈ es.toList) :
    ∃ s, x.key = .int .i64 s ∧ (rg Tryd.prog 3 Rdv x).1 = .int .i64 s ∧ f s = some x.val := by
  obtain ⟨y, hy⟩ := F.reads x hx
  obtain ⟨s, h3, h4, _⟩ := Maps.keyOf_int_inv Tryd.underlying3 (rd_key hy)
  obtain ⟨z, hz, hzd⟩ := rd_val hy
  have hrg := Go.WideElems.rg_of (P := Tryd.prog) (k := 3) (R := Rdv) (x := x) (y := y) hy
  have he : (rg Tryd.prog 3 Rdv x).1 = .int .i64 s := by
    rw [hrg]
    exact h4
  have hz1 : z.1 = .held x.val := by
    have : some ((.held x.val : DataW Value), ([] : List MemPlace)) = some z := hz
    cases this
    rfl
  obtain ⟨v, hv, hd⟩ := at_some (s := s) h2 (d := .held x.val) fun zd => by
    have h5 := Go.WideShapes.atKey_sorted (es.toList.map (rg Tryd.prog 3 Rdv)) (Go.Maps.fit_rising (P := Tryd.prog) keyedI F) (.int .i64 s) trivial
    exact (h5.2 (rg Tryd.prog 3 Rdv x) (List.mem_map.2 ⟨x, hx, rfl⟩) he zd).trans ((congrArg Prod.snd hrg).trans (hzd.trans hz1))
  cases hd
  exact ⟨s, h3, he, hv⟩
/-- One key alone: one entry at most. -/
theorem KM.tight {W : World} {b n : Nat} {f : KF} (h : KM 3 W b n f) {k : Int} (hf : ∀ s, s ≠ k → f s = none) : KM 3 W b 1 f := by
  obtain ⟨D, ⟨es, clock, hb, F, hn, rfl⟩, h2⟩ := h
  refine ⟨_, ⟨es, clock, hb, F, ?_, rfl⟩, h2⟩
  have key : ∀ x ∈ es.toList, x.key = .int .i64 k := fun x hx => by
    obtain ⟨s, h3, -, h5⟩ := KM.entry (W := W) (b := b) (n := n) F h2 hx
    by_cases e : s = k
    · rw [h3, e]
    · rw [hf s e] at h5; cases h5
  have hp := ((stamped_iff es clock).1 F.stamped).2.2
  rw [← Array.length_toList]
  cases hl : es.toList with
  | nil => simp
  | cons x r =>
    cases r with
    | nil => simp
    | cons y r =>
      rw [hl] at hp key
      exact absurd ((key x (by simp)).trans (key y (by simp)).symm) ((List.pairwise_cons.1 hp).1 y (by simp))
/-- 'for k, v := range m' under way: who is still to come. -/
def KR (W : World) (b r n : Nat) (f : KF) (left : Int → Bool) (cnt : Nat) : Prop :=
  ∃ (D : DataW Value) (L : Lit → Bool), W.ranges Tryd.prog 3 Rdv b r n D L cnt ∧ (∀ (s : Int) (z : DataW Value), D.atKey (.int .i64 s) z = match f s with | some v => .held v | none => z) ∧ ∀ s, L (.int .i64 s) = left s
section
variable {W X : World} {b r n cnt : Nat} {f : KF} {left : Int → Bool}
theorem KR.km (h : KR W b r n f left cnt) : KM 3 W b n f := by
  obtain ⟨D, L, h1, h2, _⟩ := h
  exact ⟨D, h1.owns, h2⟩
theorem KR.left_eq (h : KR W b r n f left cnt) : W.rangeLeft b r = cnt := by
  obtain ⟨D, L, h1, _⟩ := h
  exact h1.left_eq
theorem KR.ne (h : KR W b r n f left cnt) : r ≠ b := by
  obtain ⟨D, L, h1, _⟩ := h
  exact h1.ne
theorem KR.lt (h : KR W b r n f left cnt) : r < W.heap.size := by
  obtain ⟨D, L, h1, _⟩ := h
  exact h1.lt
theorem KR.ch {S : Nat → Prop} (h : KR W b r n f left cnt) (hc : Ch S W X) (hb : ¬ S b) (hr : ¬ S r) : KR X b r n f left cnt := by
  have hbl := h.km.lt
  have hrl := h.lt
  obtain ⟨D, L, ⟨es, clock, since, seen, c0, h0, F, hs, hD, h1, rest⟩, h2⟩ := h
  exact ⟨D, L, ⟨es, clock, since, seen, c0, (hc.block b hbl hb).trans h0, F, hs, hD, (hc.block r hrl hr).trans h1, rest⟩, h2⟩
end
theorem wpList_rangeK {ops : Array Oper} {rest : List Oper} {o : Oper} {a : Act} {Q : Exit → Act → World → Prop} {w : World} {t e : TypeId}
    (hg : o.guard = none) (m : Operand) (hop : o.op = Op.range t m) (ht : Tryd.prog.underlying t = some (.map 3 e)) (b n : Nat) (f : KF) (hm : a.eval m = .map (some b)) (h : KM 3 w b n f)
    (hK : ∀ w' cnt, KR w' b w.heap.size n f (fun s => (f s).isSome) cnt → w.grownBy w' none → w'.heap.size = w.heap.size + 1 → wpList Tryd.prog ops Q rest (a.put o.dst (.pointer (some ⟨w.heap.size, 0, none⟩))) w') : wpList Tryd.prog ops Q (o :: rest) a w := by
  obtain ⟨D, h1, h2⟩ := h
  refine wpList_range_own w hg m t hop 3 e keyedI ht Rdv b n D hm h1 fun w' g1 g2 g3 => hK w' _ ⟨D, _, g1, h2, fun s => ?_⟩ g2 g3
  cases hh : Maps.has D (.int .i64 s) with
  | false => simp only [at_none h2 (fun z => atKey_of_not_has hh z)]; rfl
  | true =>
    show true = (f s).isSome
    cases hf : f s with
    | some v => rfl
    | none =>
      obtain ⟨es, rfl, hp, hl⟩ := h1.entries keyedI
      rw [has_eq] at hh
      obtain ⟨p, hp1, hp2⟩ := List.any_eq_true.1 hh
      have hpk := WideAt.sameKey_eq hp2
      have hat : ∀ z, (DataW.map es).atKey (.int .i64 s) z = p.2 := fun z => WideAt.atKey_mem z trivial hp (by rw [← hpk]; exact hp1)
      obtain ⟨v, hv, _⟩ := at_some h2 hat
      rw [hf] at hv
      cases hv
theorem wpList_nextK {ops : Array Oper} {rest : List Oper} {o : Oper} {a : Act} {Q : Exit → Act → World → Prop} {w : World} (hg : o.guard = none) (it : Operand) (hop : o.op = Op.next it false) (b r n : Nat) (f : KF) (left : Int → Bool) (cnt : Nat)
    (hit : a.eval it = .pointer (some ⟨r, 0, none⟩)) (h : KR w b r n f left cnt)
    (hDone : (∀ s, left s = false) → wpList Tryd.prog ops Q rest (a.put o.dst (.tuple #[.bool false])) w)
    (hMore : ∀ (s : Int) (v : Value) (w' : World) (cnt' : Nat), left s = true → f s = some v → KR w' b r n f (fun t => left t && !decide (t = s)) cnt' → cnt' < cnt → w.grownBy w' (some r) → w'.heap.size = w.heap.size →
      (Instr.entry (.pointer (some ⟨r, 0, none⟩))).run Tryd.prog w' = .ok (.tuple #[.int .i64 s, v]) w' → wpList Tryd.prog ops Q rest (a.put o.dst (.tuple #[.bool true, .int .i64 s, v])) w') :
    wpList Tryd.prog ops Q (o :: rest) a w := by
  obtain ⟨D, L, h1, h2, h3⟩ := h
  refine wpList_next_ranges w hg it hop 3 keyedI Rdv (Value.int .i64) (id : Value → Value) (fun key kl hkey => by obtain ⟨x, rfl, _⟩ := Maps.keyOf_int_inv Tryd.underlying3 hkey; exact ⟨x, rfl⟩) (fun v y hv => ⟨v, rfl⟩) b r n D L cnt hit h1 (fun _ hl => hDone fun s => by rw [← h3]; exact hl _) ?_
  intro x c kl y w' cnt' hkey hlk hv hat hrg hlt hgr hsz hen
  obtain ⟨x', ex, rfl, _⟩ := Maps.keyOf_int_inv Tryd.underlying3 hkey
  cases ex
  have hy : y.1 = .held c := by
    have : some ((.held c : DataW Value), ([] : List MemPlace)) = some y := hv
    cases this
    rfl
  obtain ⟨v, hv2, hd⟩ := at_some h2 hat
  rw [hy] at hd
  cases hd
  refine hMore x c w' cnt' (by rw [← h3]; exact hlk) hv2 ⟨D, _, hrg, h2, fun s => ?_⟩ hlt hgr hsz hen
  show (L (.int .i64 s) && !Lit.sameKey (.int .i64 s) (.int .i64 x)) = (left s && !decide (s = x))
  rw [h3]
  have e1 : Lit.sameKey (.int .i64 s) (.int .i64 x) = decide (s = x) := by
    unfold Lit.sameKey
    by_cases e : s = x
    · subst e
      simp
    · simp [e]
  rw [e1]
theorem zeroU (W : World) : (zeroValue 87).run Tryd.prog W = .ok (.int .u64 0) W := by kernel_rfl
end Go.Proofs.YthodpkcjdbkdnaaDoor
namespace Go.Proofs.YthodpkcjdbkdnaaDoor
open Go

/-- What is in a, and not in b. -/
def dif (a b : Nat) : Nat := a &&& (18446744073709551615 - b)
theorem dif_bit {a b : Nat} (ha : a < 18446744073709551616) (hb : b < 18446744073709551616) (j : Nat) : (dif a b).testBit j = (a.testBit j && !b.testBit j) := by
  unfold dif
  have e : 18446744073709551615 - b = 2 ^ 64 - (b + 1) := by omega
  rw [Nat.testBit_and, e, Nat.testBit_two_pow_sub_succ (by omega)]
  by_cases h : j < 64
  · simp [h]
  · have : a.testBit j = false := Nat.testBit_lt_two_pow (Nat.lt_of_lt_of_le ha (by
      have := Nat.pow_le_pow_right (n := 2) (by omega) (show 64 ≤ j by omega)
      omega))
    simp [this]
theorem dif_lt {a b : Nat} (ha : a < 18446744073709551616) : dif a b < 18446744073709551616 := Nat.lt_of_le_of_lt Nat.and_le_left ha
theorem or_lt {a b : Nat} (ha : a < 18446744073709551616) (hb : b < 18446744073709551616) : a ||| b < 18446744073709551616 := Nat.or_lt_two_pow (n := 64) ha hb
theorem bit_small {m j : Nat} (hm : m < 18446744073709551616) (h : m.testBit j = true) : j < 64 := by
  refine Classical.byContradiction fun hn => ?_
  rw [Nat.testBit_lt_two_pow (Nat.lt_of_lt_of_le hm (by
      have := Nat.pow_le_pow_right (n := 2) (by omega) (show 64 ≤ j by omega)
      omega))] at h
  cases h
theorem zero_of_bits {m : Nat} (h : ∀ j, m.testBit j = false) : m = 0 := Nat.eq_of_testBit_eq fun j => by rw [h j, Nat.zero_testBit]
theorem pow_lt64 {j : Nat} (h : j < 64) : 2 ^ j < 18446744073709551616 := Nat.pow_lt_pow_right (a := 2) (n := 64) (by omega) h
/-- A register of a mask. -/
def Bt (m : Nat) (r : Int) : Prop := 0 ≤ r ∧ m.testBit r.toNat = true
theorem bt_zero (r : Int) : ¬ Bt 0 r := fun h => by simp [Bt] at h
theorem bt_or {a b : Nat} {r : Int} : Bt (a ||| b) r ↔ Bt a r ∨ Bt b r := by
  unfold Bt
  rw [Nat.testBit_or]
  simp [← and_or_left]
theorem bt_dif {a b : Nat} (ha : a < 18446744073709551616) (hb : b < 18446744073709551616) {r : Int} : Bt (dif a b) r ↔ Bt a r ∧ ¬ Bt b r := by
  unfold Bt
  rw [dif_bit ha hb]
  simp only [Bool.and_eq_true, Bool.not_eq_true', not_and, Bool.not_eq_true]
  constructor
  · rintro ⟨h1, h2, h3⟩; exact ⟨⟨h1, h2⟩, fun _ => h3⟩
  · rintro ⟨⟨h1, h2⟩, h3⟩; exact ⟨h1, h2, h3 h1⟩
theorem bt_pow {r t : Int} (hr : 0 ≤ r) : Bt (2 ^ r.toNat) t ↔ t = r := by
  unfold Bt
  rw [Nat.testBit_two_pow]
  simp only [decide_eq_true_eq]
  omega
theorem bt_small {m : Nat} {r : Int} (hm : m < 18446744073709551616) (h : Bt m r) : r < 64 := by
  have := bit_small hm h.2
  have := h.1
  omega
theorem bt_ext {a b : Nat} (h : ∀ r, Bt a r ↔ Bt b r) : a = b := Nat.eq_of_testBit_eq fun j => by
  have := h (j : Int)
  unfold Bt at this
  simp only [Int.natCast_nonneg, true_and, Int.toNat_natCast] at this
  cases h1 : a.testBit j <;> cases h2 : b.testBit j <;> simp_all
theorem bt_none {m : Nat} (h : ∀ r, ¬ Bt m r) : m = 0 := bt_ext fun r => ⟨fun k => absurd k (h r), fun k => absurd k (bt_zero r)⟩
/-- One more, one less. -/
def putM (m : Nat) (r : Int) : Nat := if r < 0 then m else m ||| 2 ^ r.toNat
def dropM (m : Nat) (r : Int) : Nat := if r < 0 then m else dif m (2 ^ r.toNat)
theorem putM_lt {m : Nat} {r : Int} (hm : m < 18446744073709551616) (hr : r < 64) : putM m r < 18446744073709551616 := by
  unfold putM
  split
  · exact hm
  · exact or_lt hm (pow_lt64 (by omega))
theorem dropM_lt {m : Nat} {r : Int} (hm : m < 18446744073709551616) : dropM m r < 18446744073709551616 := by
  unfold dropM
  split
  · exact hm
  · exact dif_lt hm
theorem bt_put {m : Nat} {r t : Int} : Bt (putM m r) t ↔ Bt m t ∨ (t = r ∧ 0 ≤ r) := by
  unfold putM
  split
  · constructor
    · exact .inl
    · rintro (h | ⟨_, h⟩)
      · exact h
      · omega
  · rw [bt_or, bt_pow (by omega)]
    constructor
    · rintro (h | h)
      · exact .inl h
      · exact .inr ⟨h, by omega⟩
    · rintro (h | h)
      · exact .inl h
      · exact .inr h.1
theorem bt_drop {m : Nat} {r t : Int} (hm : m < 18446744073709551616) (hr : r < 64) : Bt (dropM m r) t ↔ Bt m t ∧ t ≠ r := by
  unfold dropM
  split
  · constructor
    · intro h; exact ⟨h, fun e => by have := h.1; omega⟩
    · exact fun h => h.1
  · rw [bt_dif hm (pow_lt64 (by omega)), bt_pow (by omega)]
/-- The registers of a mask, rising. -/
def rowM (m : Nat) : List Int := ((List.range 64).filter fun j => m.testBit j).map fun j : Nat => (j : Int)
theorem rowM_mem {m : Nat} (hm : m < 18446744073709551616) {r : Int} : r ∈ rowM m ↔ Bt m r := by
  unfold rowM Bt
  simp only [List.mem_map, List.mem_filter, List.mem_range]
  constructor
  · rintro ⟨j, ⟨h1, h2⟩, rfl⟩
    exact ⟨by omega, h2⟩
  · rintro ⟨h1, h2⟩
    exact ⟨r.toNat, ⟨bit_small hm h2, h2⟩, by omega⟩
theorem rowM_up (m : Nat) : (rowM m).Pairwise (· < ·) := by
  unfold rowM
  rw [List.pairwise_map]
  exact (List.Pairwise.sublist List.filter_sublist List.pairwise_lt_range).imp fun h => by omega
theorem rowM_len (m : Nat) : (rowM m).length ≤ 64 := by
  unfold rowM
  rw [List.length_map]
  exact Nat.le_trans (List.length_filter_le _ _) (by simp)
theorem rowM_zero : rowM 0 = [] := by
  unfold rowM
  simp
/-- How many bits there are, of the first n. -/
def cnt (m n : Nat) : Nat := ((List.range n).filter fun j => m.testBit j).length
theorem cnt_row (m : Nat) : cnt m 64 = (rowM m).length := by simp [cnt, rowM]
theorem cnt_succ (m n : Nat) : cnt m (n + 1) = cnt m n + (m.testBit n).toNat := by
  unfold cnt
  rw [List.range_succ, List.filter_append, List.length_append]
  cases h : m.testBit n <;> simp [h]
theorem cnt_same {m k n : Nat} (h : ∀ j, j < n → m.testBit j = k.testBit j) : cnt m n = cnt k n := by
  unfold cnt
  congr 1
  exact List.filter_congr fun j hj => h j (List.mem_range.1 hj)
theorem cnt_one {m k n j : Nat} (hj : j < n) (h1 : m.testBit j = false) (h2 : k.testBit j = true) (h : ∀ i, i ≠ j → k.testBit i = m.testBit i) : cnt k n = cnt m n + 1 := by
  induction n with
  | zero => omega
  | succ n ih =>
    rw [cnt_succ, cnt_succ]
    by_cases e : j = n
    · subst e
      rw [cnt_same fun i hi => h i (by omega), h1, h2]
      rfl
    · rw [ih (by omega), h n fun e2 => e e2.symm]
      omega
theorem len_put {m : Nat} {r : Int} (h0 : 0 ≤ r) (hr : r < 64) (hn : ¬ Bt m r) : (rowM (putM m r)).length = (rowM m).length + 1 := by
  rw [← cnt_row, ← cnt_row]
  have e : putM m r = m ||| 2 ^ r.toNat := if_neg (by omega)
  have hb : m.testBit r.toNat = false := by
    cases hh : m.testBit r.toNat with
    | false => rfl
    | true => exact absurd ⟨h0, hh⟩ hn
  refine cnt_one (j := r.toNat) (by omega) hb ?_ fun i hi => ?_
  · rw [e, Nat.testBit_or, Nat.testBit_two_pow_self]; simp
  · rw [e, Nat.testBit_or, Nat.testBit_two_pow_of_ne fun e2 => hi e2.symm]; simp
theorem put_same {m : Nat} {r : Int} (h : Bt m r ∨ r < 0) : putM m r = m := bt_ext fun t => by
  rw [bt_put]
  constructor
  · rintro (k | ⟨rfl, k⟩)
    · exact k
    · exact h.resolve_right (by omega)
  · exact .inl
theorem drop_same {m : Nat} {r : Int} (hm : m < 18446744073709551616) (hr : r < 64) (h : ¬ Bt m r) : dropM m r = m := bt_ext fun t => by
  rw [bt_drop hm hr]
  constructor
  · exact fun k => k.1
  · intro k; exact ⟨k, fun e => h (e ▸ k)⟩
theorem drop_put {m : Nat} {r : Int} (hm : m < 18446744073709551616) (hr : r < 64) (h : Bt m r) : putM (dropM m r) r = m := bt_ext fun t => by
  rw [bt_put, bt_drop hm hr]
  constructor
  · rintro (k | ⟨rfl, _⟩)
    · exact k.1
    · exact h
  · intro k
    by_cases e : t = r
    · exact .inr ⟨e, h.1⟩
    · exact .inl ⟨k, e⟩
theorem len_drop {m : Nat} {r : Int} (hm : m < 18446744073709551616) (hr : r < 64) (h : Bt m r) : (rowM m).length = (rowM (dropM m r)).length + 1 := by
  have := len_put (m := dropM m r) h.1 hr (fun k => ((bt_drop hm hr).1 k).2 rfl)
  rwa [drop_put hm hr h] at this
/-- The same bits are the same mask; the mask is none where it is just that bit. -/
theorem drop_zero {m : Nat} {r : Int} (h0 : 0 ≤ r) (hr : r < 64) (he : m = 2 ^ r.toNat) : dropM m r = 0 := bt_none fun t h => by
  have hm : m < 18446744073709551616 := by rw [he]; exact pow_lt64 (by omega)
  rw [bt_drop hm hr, he, bt_pow h0] at h
  exact h.2 h.1
theorem drop_more {m : Nat} {r : Int} (hm : m < 18446744073709551616) (h0 : 0 ≤ r) (hr : r < 64) (h : Bt m r) (he : m ≠ 2 ^ r.toNat) : dropM m r ≠ 0 := fun e => he (by
  have := drop_put hm hr h
  rw [e] at this
  rw [← this]
  unfold putM
  rw [if_neg (by omega)]
  simp)
theorem put_ne {m : Nat} {r : Int} (h0 : 0 ≤ r) : putM m r ≠ 0 := fun e => by
  have h : Bt (putM m r) r := bt_put.2 (.inr ⟨rfl, h0⟩)
  rw [e] at h
  exact bt_zero r h
end Go.Proofs.YthodpkcjdbkdnaaDoor
namespace Go.Proofs.YthodpkcjdbkdnaaDoor
open Go Go.RowKit

theorem and_two (a b c d : Nat) (ha : a < 256) (hc : c < 256) : (a + 256 * b) &&& (c + 256 * d) = (a &&& c) + 256 * (b &&& d) := by
  have hac : a &&& c < 2 ^ 8 := Nat.and_lt_two_pow _ hc
  rw [Nat.add_comm a, Nat.add_comm c, Nat.add_comm (a &&& c)]
  refine Nat.eq_of_testBit_eq fun j => ?_
  rw [Nat.testBit_and, Nat.testBit_two_pow_mul_add (i := 8) b ha, Nat.testBit_two_pow_mul_add (i := 8) d hc, Nat.testBit_two_pow_mul_add (i := 8) (b &&& d) hac]
  split
  · rw [Nat.testBit_and]
  · rw [Nat.testBit_and]
/-- A mask of k bytes; the value of k bytes; a byte. -/
def Mk (c : Nat) : Nat → Nat
  | 0 => 0
  | k + 1 => c + 256 * Mk c k
def Vb (f : Nat → Nat) : Nat → Nat
  | 0 => 0
  | k + 1 => f 0 + 256 * Vb (fun i => f (i + 1)) k
def byt (x i : Nat) : Nat := x / 256 ^ i % 256
theorem byt_zero (x : Nat) : byt x 0 = x % 256 := by simp [byt]
theorem byt_succ (x i : Nat) : byt (x / 256) i = byt x (i + 1) := by
  unfold byt
  rw [Nat.div_div_eq_div_mul, Nat.pow_succ, Nat.mul_comm]
theorem byt_lt (x i : Nat) : byt x i < 256 := Nat.mod_lt _ (by omega)
theorem vb_congr {f g : Nat → Nat} {k : Nat} (h : ∀ i, i < k → f i = g i) : Vb f k = Vb g k := by
  induction k generalizing f g with
  | zero => rfl
  | succ k ih =>
    show f 0 + 256 * Vb _ k = g 0 + 256 * Vb _ k
    rw [h 0 (by omega), ih fun i hi => h (i + 1) (by omega)]
theorem vb_byt {f : Nat → Nat} {k i : Nat} (h : ∀ i, f i < 256) (hi : i < k) : byt (Vb f k) i = f i := by
  induction k generalizing f i with
  | zero => omega
  | succ k ih =>
    have h0 := h 0
    cases i with
    | zero =>
      rw [byt_zero]
      show (f 0 + 256 * _) % 256 = _
      omega
    | succ i =>
      rw [← byt_succ]
      have : Vb f (k + 1) / 256 = Vb (fun i => f (i + 1)) k := by
        show (f 0 + 256 * _) / 256 = _
        omega
      rw [this, ih (fun i => h (i + 1)) (by omega)]
theorem vb_all (x k : Nat) (hx : x < 256 ^ k) : Vb (byt x) k = x := by
  induction k generalizing x with
  | zero =>
    have : x = 0 := by simpa using hx
    subst this
    rfl
  | succ k ih =>
    show byt x 0 + 256 * Vb (fun i => byt x (i + 1)) k = x
    have h1 : Vb (fun i => byt x (i + 1)) k = x / 256 := by
      rw [← ih (x / 256) (by rw [Nat.pow_succ] at hx; omega)]
      exact vb_congr fun i _ => (byt_succ x i).symm
    rw [h1, byt_zero]
    omega
theorem vb_lt {f : Nat → Nat} (h : ∀ i, f i < 256) (k : Nat) : Vb f k < 256 ^ k := by
  induction k generalizing f with
  | zero => simp [Vb]
  | succ k ih =>
    have := ih (f := fun i => f (i + 1)) fun i => h (i + 1)
    have h0 := h 0
    show f 0 + 256 * _ < _
    rw [Nat.pow_succ]
    omega
def s1 (b : Nat) : Nat := (b / 2 &&& 85) + (b &&& 85)
def s2 (b : Nat) : Nat := (b / 4 &&& 51) + (b &&& 51)
def s3 (b : Nat) : Nat := (b / 16 + b) &&& 15
theorem d1 : ∀ b : Fin 256, ∀ c : Fin 2, (b.val / 2 + 128 * c.val) &&& 85 = b.val / 2 &&& 85 := by decide +kernel
theorem d2 : ∀ b : Fin 256, ∀ c : Fin 4, (b.val / 4 + 64 * c.val) &&& 51 = b.val / 4 &&& 51 := by decide +kernel
theorem d3 : ∀ b : Fin 256, ∀ c : Fin 16, b.val / 16 ≤ 4 → b.val % 16 ≤ 4 → c.val ≤ 4 → (b.val / 16 + 16 * c.val + b.val) &&& 15 = (b.val / 16 + b.val) &&& 15 := by decide +kernel
theorem s1_lt : ∀ b : Fin 256, s1 b.val < 256 := by decide +kernel
theorem s2_nib : ∀ b : Fin 256, s2 (s1 b.val) / 16 ≤ 4 ∧ s2 (s1 b.val) % 16 ≤ 4 := by decide +kernel
theorem s3_le : ∀ b : Fin 256, s3 b.val ≤ 15 := by decide +kernel
def p8 (b : Nat) : Nat := s3 (s2 (s1 b))
theorem p8_is : ∀ b : Fin 256, p8 b.val = (b.val.testBit 0).toNat + (b.val.testBit 1).toNat + (b.val.testBit 2).toNat + (b.val.testBit 3).toNat + (b.val.testBit 4).toNat + (b.val.testBit 5).toNat + (b.val.testBit 6).toNat + (b.val.testBit 7).toNat := by decide +kernel
theorem p8_le : ∀ b : Fin 256, p8 b.val ≤ 8 := by decide +kernel
theorem f1 (k x : Nat) : (x / 2 &&& Mk 85 k) + (x &&& Mk 85 k) = Vb (fun i => s1 (byt x i)) k := by
  induction k generalizing x with
  | zero => simp [Mk, Vb]
  | succ k ih =>
    have hb : x % 256 < 256 := Nat.mod_lt _ (by omega)
    have e1 : x = x % 256 + 256 * (x / 256) := by omega
    have e2 : x / 2 = (x % 256 / 2 + 128 * (x / 256 % 2)) + 256 * (x / 256 / 2) := by omega
    have h1 : x &&& Mk 85 (k + 1) = (x % 256 &&& 85) + 256 * (x / 256 &&& Mk 85 k) := by
      conv => lhs; rw [e1]
      exact and_two _ _ _ _ hb (by omega)
    have h2 : x / 2 &&& Mk 85 (k + 1) = ((x % 256 / 2) &&& 85) + 256 * (x / 256 / 2 &&& Mk 85 k) := by
      rw [e2]
      show (_ + 256 * _) &&& (85 + 256 * _) = _
      rw [and_two _ _ _ _ (by omega) (by omega), d1 ⟨x % 256, hb⟩ ⟨x / 256 % 2, by omega⟩]
    have h3 := ih (x / 256)
    show _ = s1 (byt x 0) + 256 * Vb (fun i => s1 (byt x (i + 1))) k
    rw [h1, h2, byt_zero]
    have h4 : Vb (fun i => s1 (byt x (i + 1))) k = Vb (fun i => s1 (byt (x / 256) i)) k := vb_congr fun i _ => by rw [byt_succ]
    rw [h4, ← h3]
    unfold s1
    omega
theorem f2 (k x : Nat) : (x / 4 &&& Mk 51 k) + (x &&& Mk 51 k) = Vb (fun i => s2 (byt x i)) k := by
  induction k generalizing x with
  | zero => simp [Mk, Vb]
  | succ k ih =>
    have hb : x % 256 < 256 := Nat.mod_lt _ (by omega)
    have e1 : x = x % 256 + 256 * (x / 256) := by omega
    have e2 : x / 4 = (x % 256 / 4 + 64 * (x / 256 % 4)) + 256 * (x / 256 / 4) := by omega
    have h1 : x &&& Mk 51 (k + 1) = (x % 256 &&& 51) + 256 * (x / 256 &&& Mk 51 k) := by
      conv => lhs; rw [e1]
      exact and_two _ _ _ _ hb (by omega)
    have h2 : x / 4 &&& Mk 51 (k + 1) = ((x % 256 / 4) &&& 51) + 256 * (x / 256 / 4 &&& Mk 51 k) := by
      rw [e2]
      show (_ + 256 * _) &&& (51 + 256 * _) = _
      rw [and_two _ _ _ _ (by omega) (by omega), d2 ⟨x % 256, hb⟩ ⟨x / 256 % 4, by omega⟩]
    have h3 := ih (x / 256)
    show _ = s2 (byt x 0) + 256 * Vb (fun i => s2 (byt x (i + 1))) k
    rw [h1, h2, byt_zero]
    have h4 : Vb (fun i => s2 (byt x (i + 1))) k = Vb (fun i => s2 (byt (x / 256) i)) k := vb_congr fun i _ => by rw [byt_succ]
    rw [h4, ← h3]
    unfold s2
    omega
theorem f3 (k : Nat) (f : Nat → Nat) (h : ∀ i, f i / 16 ≤ 4 ∧ f i % 16 ≤ 4) : (Vb f k / 16 + Vb f k) &&& Mk 15 k = Vb (fun i => s3 (f i)) k := by
  induction k generalizing f with
  | zero => simp [Mk, Vb]
  | succ k ih =>
    obtain ⟨a1, a2⟩ := h 0
    obtain ⟨y, hy⟩ : ∃ y, Vb (fun i => f (i + 1)) k = y := ⟨_, rfl⟩
    have hyc : y % 16 ≤ 4 := by
      cases k with
      | zero => rw [← hy]; simp [Vb]
      | succ k =>
        have : y = f 1 + 256 * Vb (fun i => f (i + 2)) k := hy.symm
        have := (h 1).2
        omega
    have h3 := ih (fun i => f (i + 1)) fun i => h (i + 1)
    rw [hy] at h3
    show ((f 0 + 256 * Vb (fun i => f (i + 1)) k) / 16 + (f 0 + 256 * Vb (fun i => f (i + 1)) k)) &&& (15 + 256 * Mk 15 k) = s3 (f 0) + 256 * Vb (fun i => s3 (f (i + 1))) k
    rw [hy, ← h3]
    have e : (f 0 + 256 * y) / 16 + (f 0 + 256 * y) = (f 0 / 16 + 16 * (y % 16) + f 0) + 256 * (y / 16 + y) := by omega
    rw [e, and_two _ _ _ _ (by omega) (by omega), d3 ⟨f 0, by omega⟩ ⟨y % 16, by omega⟩ a1 a2 hyc]
    rfl
theorem byt_bit (x i j : Nat) (hj : j < 8) : (byt x i).testBit j = x.testBit (8 * i + j) := by
  unfold byt
  have e : 256 ^ i = 2 ^ (8 * i) := by rw [show (256 : Nat) = 2 ^ 8 by rfl, ← Nat.pow_mul]
  rw [e, show (256 : Nat) = 2 ^ 8 by rfl, Nat.testBit_mod_two_pow, Nat.testBit_div_two_pow]
  simp [hj]
  rw [Nat.add_comm]
theorem cnt_byte (x i : Nat) : cnt x (8 * i + 8) = cnt x (8 * i) + p8 (byt x i) := by
  have h := p8_is ⟨byt x i, byt_lt x i⟩
  simp only at h
  have z0 := byt_bit x i 0 (by omega)
  rw [Nat.add_zero] at z0
  rw [h, z0, byt_bit x i 1 (by omega), byt_bit x i 2 (by omega), byt_bit x i 3 (by omega), byt_bit x i 4 (by omega), byt_bit x i 5 (by omega), byt_bit x i 6 (by omega), byt_bit x i 7 (by omega)]
  rw [show 8 * i + 8 = (8 * i + 7) + 1 by omega, cnt_succ, cnt_succ x (8 * i + 6), cnt_succ x (8 * i + 5), cnt_succ x (8 * i + 4), cnt_succ x (8 * i + 3), cnt_succ x (8 * i + 2), cnt_succ x (8 * i + 1), cnt_succ x (8 * i)]
  omega
theorem cnt_all (x : Nat) : (rowM x).length = p8 (byt x 0) + p8 (byt x 1) + p8 (byt x 2) + p8 (byt x 3) + p8 (byt x 4) + p8 (byt x 5) + p8 (byt x 6) + p8 (byt x 7) := by
  rw [← cnt_row]
  have e0 := cnt_byte x 0
  have e1 := cnt_byte x 1
  have e2 := cnt_byte x 2
  have e3 := cnt_byte x 3
  have e4 := cnt_byte x 4
  have e5 := cnt_byte x 5
  have e6 := cnt_byte x 6
  have e7 := cnt_byte x 7
  have z : cnt x 0 = 0 := rfl
  simp only [Nat.mul_zero, Nat.mul_one, Nat.zero_add, Nat.reduceMul, Nat.reduceAdd] at e0 e1 e2 e3 e4 e5 e6 e7
  omega
theorem fold_sum (c a0 a1 a2 a3 a4 a5 a6 a7 : Nat) (h0 : a0 ≤ 8) (h1 : a1 ≤ 8) (h2 : a2 ≤ 8) (h3 : a3 ≤ 8) (h4 : a4 ≤ 8) (h5 : a5 ≤ 8) (h6 : a6 ≤ 8) (h7 : a7 ≤ 8) (hc : c = a0 + 256 * (a1 + 256 * (a2 + 256 * (a3 + 256 * (a4 + 256 * (a5 + 256 * (a6 + 256 * (a7 + 256 * 0)))))))) :
    (c + c / 256 + (c + c / 256) / 65536 + (c + c / 256 + (c + c / 256) / 65536) / 4294967296) % 128 = a0 + a1 + a2 + a3 + a4 + a5 + a6 + a7 := by
  obtain ⟨t4, k4⟩ : ∃ t, a4 + 256 * (a5 + 256 * (a6 + 256 * (a7 + 256 * 0))) = t := ⟨_, rfl⟩
  obtain ⟨t1, k1⟩ : ∃ t, a1 + 256 * (a2 + 256 * (a3 + 256 * t4)) = t := ⟨_, rfl⟩
  rw [k4, k1] at hc
  have e1 : c / 256 = t1 := by omega
  rw [e1]
  obtain ⟨d, hd⟩ : ∃ d, c + t1 = d := ⟨_, rfl⟩
  rw [hd]
  have e3 : d / 65536 = (a2 + a3) + 256 * ((a3 + a4) + 256 * ((a4 + a5) + 256 * ((a5 + a6) + 256 * ((a6 + a7) + 256 * a7)))) := by
    have e2 : d = (a0 + a1) + 256 * (a1 + a2) + 65536 * ((a2 + a3) + 256 * ((a3 + a4) + 256 * ((a4 + a5) + 256 * ((a5 + a6) + 256 * ((a6 + a7) + 256 * a7))))) := by omega
    rw [e2, Nat.add_mul_div_left _ _ (by omega), Nat.div_eq_of_lt (by omega), Nat.zero_add]
  obtain ⟨g, hg⟩ : ∃ g, d + d / 65536 = g := ⟨_, rfl⟩
  rw [hg]
  have e4 : g = ((a0 + a1 + a2 + a3) + 256 * ((a1 + a2 + a3 + a4) + 256 * ((a2 + a3 + a4 + a5) + 256 * (a3 + a4 + a5 + a6)))) + 4294967296 * ((a4 + a5 + a6 + a7) + 256 * ((a5 + a6 + a7) + 256 * ((a6 + a7) + 256 * a7))) := by omega
  have e5 : g / 4294967296 = (a4 + a5 + a6 + a7) + 256 * ((a5 + a6 + a7) + 256 * ((a6 + a7) + 256 * a7)) := by
    rw [e4, Nat.add_mul_div_left _ _ (by omega), Nat.div_eq_of_lt (by omega), Nat.zero_add]
  have e6 : g + g / 4294967296 = (a0 + a1 + a2 + a3 + a4 + a5 + a6 + a7) + 128 * (2 * ((a1 + a2 + a3 + a4) + 256 * ((a2 + a3 + a4 + a5) + 256 * (a3 + a4 + a5 + a6))) + 33554432 * ((a4 + a5 + a6 + a7) + 256 * ((a5 + a6 + a7) + 256 * ((a6 + a7) + 256 * a7))) + 2 * ((a5 + a6 + a7) + 256 * ((a6 + a7) + 256 * a7))) := by
    rw [e5, e4]
    omega
  rw [e6, Nat.add_mul_mod_self_left]
  exact Nat.mod_eq_of_lt (by omega)
/-- The whole. -/
theorem ones_nat (x : Nat) (hx : x < 18446744073709551616) : ∃ a b c : Nat, (x / 2 &&& 6148914691236517205) + (x &&& 6148914691236517205) = a ∧ a < 18446744073709551616 ∧ (a / 4 &&& 3689348814741910323) + (a &&& 3689348814741910323) = b ∧ b < 18446744073709551616 ∧ b / 16 + b < 18446744073709551616 ∧
    (b / 16 + b) &&& 1085102592571150095 = c ∧ c < 1000000000000000000 ∧ (c + c / 256 + (c + c / 256) / 65536 + (c + c / 256 + (c + c / 256) / 65536) / 4294967296) % 128 = (rowM x).length := by
  have m0 : Mk 85 8 = 6148914691236517205 := rfl
  have m1 : Mk 51 8 = 3689348814741910323 := rfl
  have m2 : Mk 15 8 = 1085102592571150095 := rfl
  have h1 := f1 8 x
  rw [m0] at h1
  have l1 : ∀ i, s1 (byt x i) < 256 := fun i => s1_lt ⟨byt x i, byt_lt x i⟩
  have q1 := vb_lt l1 8
  have h2 := f2 8 (Vb (fun i => s1 (byt x i)) 8)
  have h2e : Vb (fun i => s2 (byt (Vb (fun i => s1 (byt x i)) 8) i)) 8 = Vb (fun i => s2 (s1 (byt x i))) 8 := vb_congr fun i hi => by rw [vb_byt l1 hi]
  rw [m1, h2e] at h2
  have n2 : ∀ i, s2 (s1 (byt x i)) / 16 ≤ 4 ∧ s2 (s1 (byt x i)) % 16 ≤ 4 := fun i => s2_nib ⟨byt x i, byt_lt x i⟩
  have l2 : ∀ i, s2 (s1 (byt x i)) < 256 := fun i => by have := n2 i; omega
  have q2 := vb_lt l2 8
  have h3 := f3 8 (fun i => s2 (s1 (byt x i))) n2
  rw [m2] at h3
  have l3 : ∀ i, p8 (byt x i) ≤ 8 := fun i => p8_le ⟨byt x i, byt_lt x i⟩
  have b0 := l3 0
  have b1 := l3 1
  have b2 := l3 2
  have b3 := l3 3
  have b4 := l3 4
  have b5 := l3 5
  have b6 := l3 6
  have b7 := l3 7
  have hc : Vb (fun i => s3 (s2 (s1 (byt x i)))) 8 = p8 (byt x 0) + 256 * (p8 (byt x 1) + 256 * (p8 (byt x 2) + 256 * (p8 (byt x 3) + 256 * (p8 (byt x 4) + 256 * (p8 (byt x 5) + 256 * (p8 (byt x 6) + 256 * (p8 (byt x 7) + 256 * 0))))))) := rfl
  have hb7 : Vb (fun i => s2 (s1 (byt x i))) 8 < 5000000000000000000 := by
    have e : Vb (fun i => s2 (s1 (byt x i))) 8 = s2 (s1 (byt x 0)) + 256 * (s2 (s1 (byt x 1)) + 256 * (s2 (s1 (byt x 2)) + 256 * (s2 (s1 (byt x 3)) + 256 * (s2 (s1 (byt x 4)) + 256 * (s2 (s1 (byt x 5)) + 256 * (s2 (s1 (byt x 6)) + 256 * (s2 (s1 (byt x 7)) + 256 * 0))))))) := rfl
    have k0 := l2 0
    have k1 := l2 1
    have k2 := l2 2
    have k3 := l2 3
    have k4 := l2 4
    have k5 := l2 5
    have k6 := l2 6
    have k7 := n2 7
    omega
  have hc' : Vb (fun i => s3 (s2 (s1 (byt x i)))) 8 < 1000000000000000000 := by rw [hc]; omega
  have hd := fun c => fold_sum c _ _ _ _ _ _ _ _ b0 b1 b2 b3 b4 b5 b6 b7
  have q1' : Vb (fun i => s1 (byt x i)) 8 < 18446744073709551616 := Nat.lt_of_lt_of_le q1 (by decide)
  obtain ⟨a, ha⟩ : ∃ a, Vb (fun i => s1 (byt x i)) 8 = a := ⟨_, rfl⟩
  obtain ⟨b, hb⟩ : ∃ b, Vb (fun i => s2 (s1 (byt x i))) 8 = b := ⟨_, rfl⟩
  obtain ⟨c, hcc⟩ : ∃ c, Vb (fun i => s3 (s2 (s1 (byt x i)))) 8 = c := ⟨_, rfl⟩
  rw [ha] at h1 h2 q1'
  rw [hb] at h2 h3 hb7
  rw [hcc] at h3 hc'
  have h8 := hd c (hcc.symm.trans hc)
  rw [← cnt_all] at h8
  exact ⟨a, b, c, h1, q1', h2, Nat.lt_of_lt_of_le hb7 (by decide), (by clear h1 h2 h3 h8 hd hc; omega), h3, hc', h8⟩
theorem wrapU {a : Nat} (h : a < 18446744073709551616) : IntKind.u64.wrap (a : Int) = (a : Int) := by rw [IntKind.wrap_u64]; omega
theorem low7 (v : Nat) (hv : v < 9223372036854775808) : bits BinOp.and IntKind.i64 (wrap64 (v : Int)) 127 = ((v % 128 : Nat) : Int) := by
  have h1 : wrap64 (v : Int) = (v : Int) := by unfold wrap64; omega
  rw [h1]
  have h2 := (bits_nat .i64 63 (by decide) (fun n h0 h1 => by rw [IntKind.wrap_i64]; omega) v 127 (by omega) (by decide)).1
  have h3 : v &&& 127 = v % 128 := Nat.and_two_pow_sub_one_eq_mod v 7
  rw [h3] at h2
  exact h2
set_option maxHeartbeats 1000000 in
theorem ones_c (x : Nat) (hx : x < 18446744073709551616) (W : World) : Calls Tryd.prog 53 #[.int .u64 x] W fun e w' => e = .returned (.int .i64 (rowM x).length) ∧ w' = W := by
  obtain ⟨a, b, c, h1, h2, h3, h4, h5, h6, h7, h8⟩ := ones_nat x hx
  go_enter Tryd.func53, Tryd.ntmps53
  go_wp2
  go_ret
  refine ⟨congrArg Ending.returned (congrArg (Value.int IntKind.i64) ?_), rfl⟩
  have d2 : ∀ y : Nat, (y : Int) / 2 = ((y / 2 : Nat) : Int) := fun y => by omega
  have d4 : ∀ y : Nat, (y : Int) / 4 = ((y / 4 : Nat) : Int) := fun y => by omega
  have d16 : ∀ y : Nat, (y : Int) / 16 = ((y / 16 : Nat) : Int) := fun y => by omega
  have d8 : ∀ y : Nat, (y : Int) / 256 = ((y / 256 : Nat) : Int) := fun y => by omega
  have d6 : ∀ y : Nat, (y : Int) / 65536 = ((y / 65536 : Nat) : Int) := fun y => by omega
  have d32 : ∀ y : Nat, (y : Int) / 4294967296 = ((y / 4294967296 : Nat) : Int) := fun y => by omega
  have b0 : ∀ y : Nat, y < 18446744073709551616 → bits .and .u64 (y : Int) 6148914691236517205 = ((y &&& 6148914691236517205 : Nat) : Int) := fun y hy => bits_and_u64_nat y 6148914691236517205 hy (by decide)
  have b1 : ∀ y : Nat, y < 18446744073709551616 → bits .and .u64 (y : Int) 3689348814741910323 = ((y &&& 3689348814741910323 : Nat) : Int) := fun y hy => bits_and_u64_nat y 3689348814741910323 hy (by decide)
  have b2 : ∀ y : Nat, y < 18446744073709551616 → bits .and .u64 (y : Int) 1085102592571150095 = ((y &&& 1085102592571150095 : Nat) : Int) := fun y hy => bits_and_u64_nat y 1085102592571150095 hy (by decide)
  have E1 : IntKind.u64.wrap (bits BinOp.and IntKind.u64 ((x : Int) / 2) 6148914691236517205 + bits BinOp.and IntKind.u64 (x : Int) 6148914691236517205) = (a : Int) := by
    rw [d2, b0 (x / 2) (by omega), b0 x hx, ← Int.natCast_add, h1, wrapU h2]
  rw [E1]
  have E2 : IntKind.u64.wrap (bits BinOp.and IntKind.u64 ((a : Int) / 4) 3689348814741910323 + bits BinOp.and IntKind.u64 (a : Int) 3689348814741910323) = (b : Int) := by
    rw [d4, b1 (a / 4) (by omega), b1 a h2, ← Int.natCast_add, h3, wrapU h4]
  rw [E2]
  have E3 : bits BinOp.and IntKind.u64 (IntKind.u64.wrap ((b : Int) / 16 + (b : Int))) 1085102592571150095 = (c : Int) := by
    rw [d16, ← Int.natCast_add, wrapU h5, b2 _ h5, h6]
  rw [E3, d8, ← Int.natCast_add]
  obtain ⟨d, hd⟩ : ∃ d, c + c / 256 = d := ⟨_, rfl⟩
  rw [hd] at h8 ⊢
  have hd1 : d < 2000000000000000000 := by omega
  rw [wrapU (by omega), d6, ← Int.natCast_add]
  obtain ⟨g, hg⟩ : ∃ g, d + d / 65536 = g := ⟨_, rfl⟩
  rw [hg] at h8 ⊢
  have hg1 : g < 3000000000000000000 := by omega
  rw [wrapU (by omega), d32, ← Int.natCast_add, wrapU (by omega), low7 _ (by omega), h8]
end Go.Proofs.YthodpkcjdbkdnaaDoor
namespace Go.Proofs.YthodpkcjdbkdnaaDoor
open Go Go.RowKit

/-- A mask as a map. -/
def SF (m : Nat) : KF := fun k => if k = 0 ∧ m ≠ 0 then some (.int .u64 m) else none
structure ST (X : World) (b m : Nat) : Prop where
  km : KM 3 X b 1 (SF m)
  lt : m < 18446744073709551616
theorem sf_zero {m : Nat} (h : m ≠ 0) : SF m 0 = some (.int .u64 m) := if_pos ⟨rfl, h⟩
theorem sf_none : SF 0 = fun _ => none := by funext k; exact if_neg (fun h => h.2 rfl)
theorem sf_other {m : Nat} {k : Int} (h : k ≠ 0) : SF m k = none := if_neg (fun e => h e.1)
theorem sf_get (m : Nat) : (SF m 0).getD (.int .u64 0) = .int .u64 m := by
  by_cases h : m = 0
  · subst h
    rw [sf_none]
    rfl
  · rw [sf_zero h]
    rfl
theorem sf_upd {m m' : Nat} (h : m' ≠ 0) : (SF m).upd 0 (.int .u64 m') = SF m' := by
  funext k
  unfold KF.upd
  by_cases e : k = 0
  · rw [if_pos e, e, sf_zero h]
  · rw [if_neg e, sf_other e, sf_other e]
theorem sf_del {m : Nat} {v : Value} : ((SF m).upd 0 v).del 0 = SF 0 := by
  funext k
  unfold KF.del KF.upd
  rw [sf_none]
  by_cases e : k = 0
  · rw [if_pos e]
  · rw [if_neg e, if_neg e, sf_other e]
section
variable {W X Y : World} {b m : Nat}
theorem ST.bl (h : ST X b m) : b < X.heap.size := h.km.lt
theorem ST.same (h : ST X b m) (e : Y.heap[b]? = X.heap[b]?) : ST Y b m := ⟨h.km.same e, h.lt⟩
theorem ST.ch {S : Nat → Prop} (h : ST X b m) (hc : Ch S X Y) (hn : ¬ S b) : ST Y b m := h.same (hc.block b h.bl hn)
theorem ST.stay (h : ST X b m) (hb : Below X.heap.size X Y) : ST Y b m := h.same (hb.block b h.bl)
theorem ST.made (W : World) : ST (W.alloc (.map #[] 0)) W.heap.size 0 := ⟨by
  rw [sf_none]
  exact (KM.made 3 W).mono (Nat.zero_le _), by decide⟩
theorem ST.nocells (h : ST X b m) {q : Nat} {cs : Array Value} {T : TypeId} {fr : Nat × Nat} (hm : X.heap[q]? = some (.cells cs T fr)) : b ≠ q := h.km.nocells hm
theorem key0 : keyOf Tryd.prog 3 (.int .i64 0) = some (.int .i64 0) := keyI (by unfold In6; omega)
theorem ST.look (h : ST X b m) : (Instr.lookup 64 (.map (some b)) (.int .i64 0) false).run Tryd.prog X = .ok (.int .u64 m) X := by
  have := h.km.look_ok keyedI Tryd.underlying64 (zeroU X) key0 false
  rw [sf_get] at this
  exact this
theorem ST.look2 (h : ST X b m) : (Instr.lookup 63 (.map (some b)) (.int .i64 0) false).run Tryd.prog X = .ok (.int .u64 m) X := by
  have := h.km.look_ok keyedI Tryd.underlying63 (zeroU X) key0 false
  rw [sf_get] at this
  exact this
theorem ST.of_put {X : World} {u : Nat} (hk : KM 3 X b 2 ((SF m).upd 0 (.int .u64 (u : Int)))) {m' : Nat} (e : u = m') (h0 : m' ≠ 0) (hl : m' < 18446744073709551616) : ST X b m' := by
  subst e
  rw [sf_upd h0] at hk
  exact ⟨hk.tight fun s hs => sf_other hs, hl⟩
end
end Go.Proofs.YthodpkcjdbkdnaaDoor
namespace Go.Proofs.YthodpkcjdbkdnaaDoor
open Go Go.RowKit

theorem and_pow (m j : Nat) : m &&& 2 ^ j = if m.testBit j then 2 ^ j else 0 := Nat.eq_of_testBit_eq fun i => by
  rw [Nat.testBit_and, Nat.testBit_two_pow]
  by_cases e : j = i
  · subst e
    cases h : m.testBit j <;> simp
  · cases h : m.testBit j <;> simp [e]
/-- What put and drop leave. -/
def SetPost (W : World) (b m' : Nat) (P : Int → Prop) (e : Ending) (w' : World) : Prop := ∃ n : Int, e = .returned (.int .i64 n) ∧ P n ∧ ST w' b m' ∧ Ch (fun z => z = b) W w'
set_option maxRecDepth 100000 in
set_option maxHeartbeats 2000000 in
theorem put_c {W : World} {b m : Nat} (h : Hid (ST W b m)) (r : Int) (hr : r < 64) : Calls Tryd.prog 48 #[.map (some b), .int .i64 r] W (SetPost W b (putM m r) fun n => ((rowM (putM m r)).length : Int) = (rowM m).length + n) := by
  by_cases h0 : r < 0
  · go_enter Tryd.func48, Tryd.ntmps48
    go_wp2
    go_ret
    rw [put_same (.inr h0)]
    exact ⟨0, rfl, by omega, h.out, Ch.refl _ _⟩
  · obtain ⟨q, rfl⟩ : ∃ q : Nat, r = (q : Int) := ⟨r.toNat, by omega⟩
    have hml := h.out.lt
    have hq : q < 64 := by omega
    have hpow := pow_lt64 hq
    have hl := h.out.look
    obtain ⟨P, hP⟩ : ∃ P : Nat, 2 ^ q = P := ⟨_, rfl⟩
    have h1 : (q : Int).tmod 64 = q := by rw [Int.tmod_eq_emod_of_nonneg (by omega)]; omega
    have h2 : (q : Int).tdiv 64 = 0 := by rw [Int.tdiv_eq_ediv_of_nonneg (by omega)]; omega
    rw [hP] at hpow
    have h3' : IntKind.u64.wrap (2 ^ q) = ((P : Nat) : Int) := by
      rw [IntKind.wrap_u64, show (2 : Int) ^ q = ((P : Nat) : Int) by rw [← hP]; simp]
      omega
    go_enter Tryd.func48, Tryd.ntmps48
    have hP0 : 0 < P := by rw [← hP]; exact Nat.two_pow_pos q
    have hor := bits_or_u64_nat m P hml hpow
    have hand := bits_and_u64_nat m P hml hpow
    have hpm : putM m (q : Int) = m ||| P := by
      unfold putM
      rw [if_neg h0, Int.toNat_natCast, hP]
    have HPM := Lib.hid hpm
    rw [← hP, and_pow, hP] at hand
    have HP := Lib.hid hP
    clear hpm hP
    by_cases hb : m.testBit q
    · rw [if_pos hb] at hand
      have HB := Lib.hid hb
      clear hb hor
      go_wp2
      go_ret
      rw [put_same (.inl ⟨by omega, by rw [Int.toNat_natCast]; exact HB.out⟩)]
      exact ⟨0, rfl, by omega, h.out, Ch.refl _ _⟩
    · rw [if_neg hb] at hand
      have HB := Lib.hid hb
      obtain ⟨N, hN⟩ : ∃ N, m ||| P = N := ⟨_, rfl⟩
      rw [hN] at hor HPM
      clear hb
      go_wp2_with (at_mapUpdate; refine wpList_putK rfl (.tmp 18) (.tmp 20) (.tmp 23) rfl keyedI Tryd.underlying64 b 1 (SF m) rfl h.out.km (by decide) 0 (.int .u64 N) rfl rfl key0 ?_; intro w4 hk4 hg4; have HW4 := Lib.hid (And.intro hk4 hg4); clear hk4 hg4)
      go_ret
      refine ⟨1, rfl, ?_, ?_, (Ch.refl _ _).grown HW4.out.2 (fun z e => .inl (by cases e; rfl))⟩
      · have := len_put (m := m) (r := (q : Int)) (by omega) hr fun k => HB.out (by simpa using k.2)
        omega
      · rw [HPM.out]
        exact ST.of_put HW4.out.1 rfl (by rw [← HPM.out]; exact put_ne (by omega)) (by rw [← hN]; exact or_lt hml hpow)
theorem ST.drewN {W : World} {b m : Nat} (h : ST W b m) (n : Nat) : ST (W.drewN n) b m := h.same rfl
set_option maxRecDepth 100000 in
set_option maxHeartbeats 2000000 in
theorem drop_c {W : World} {b m : Nat} (h : Hid (ST W b m)) (r : Int) (hr : r < 64) : Calls Tryd.prog 54 #[.map (some b), .int .i64 r] W (SetPost W b (dropM m r) fun n => ((rowM m).length : Int) = (rowM (dropM m r)).length + n) := by
  by_cases h0 : r < 0
  · go_enter Tryd.func54, Tryd.ntmps54
    go_wp2
    go_ret
    have e : dropM m r = m := if_pos h0
    rw [e]
    exact ⟨0, rfl, by omega, h.out, Ch.refl _ _⟩
  · obtain ⟨q, rfl⟩ : ∃ q : Nat, r = (q : Int) := ⟨r.toNat, by omega⟩
    have hml := h.out.lt
    have hq : q < 64 := by omega
    have hpow := pow_lt64 hq
    have hl := fun n => (h.out.drewN n).look
    obtain ⟨P, hP⟩ : ∃ P : Nat, 2 ^ q = P := ⟨_, rfl⟩
    have h1 : (q : Int).tmod 64 = q := by rw [Int.tmod_eq_emod_of_nonneg (by omega)]; omega
    have h2 : (q : Int).tdiv 64 = 0 := by rw [Int.tdiv_eq_ediv_of_nonneg (by omega)]; omega
    rw [hP] at hpow
    have h3' : IntKind.u64.wrap (2 ^ q) = ((P : Nat) : Int) := by
      rw [IntKind.wrap_u64, show (2 : Int) ^ q = ((P : Nat) : Int) by rw [← hP]; simp]
      omega
    have hP0 : 0 < P := by rw [← hP]; exact Nat.two_pow_pos q
    have hand := bits_and_u64_nat m P hml hpow
    have hnot : bits .andNot .u64 (m : Int) (P : Int) = ((dif m P : Nat) : Int) := u64_andNot_nat m P hml hpow
    have hpm : dropM m (q : Int) = dif m P := by
      unfold dropM
      rw [if_neg h0, Int.toNat_natCast, hP]
    have HPM := Lib.hid hpm
    rw [← hP, and_pow, hP] at hand
    have HP := Lib.hid hP
    clear hpm hP
    go_enter Tryd.func54, Tryd.ntmps54
    go_upto_region 3 with (fail)
    go_quiet (fail)
    go_upto_region 4 with (fail)
    refine name_world ?_
    intro V hV
    have HV : Hid (ST V b m) := Lib.hid (by rw [hV]; exact h.out.drewN _)
    have HC : Hid (Ch (fun z => z = b) W V) := Lib.hid (by rw [hV]; exact (Ch.refl _ _).drewN _)
    clear hV hl
    by_cases hb : m.testBit q
    · rw [if_pos hb] at hand
      have HB := Lib.hid hb
      have hbt : Bt m (q : Int) := ⟨by omega, by rw [Int.toNat_natCast]; exact hb⟩
      have HBT := Lib.hid hbt
      obtain ⟨N, hN⟩ : ∃ N, dif m P = N := ⟨_, rfl⟩
      rw [hN] at hnot HPM
      have HN := Lib.hid hN
      clear hb hbt hN
      have HL := Lib.hid (len_drop hml hr HBT.out)
      by_cases hmp : m = P
      · subst hmp
        go_wp2_with (first
          | (at_mapUpdate; refine wpList_putK rfl (.tmp 20) (.tmp 22) (.tmp 25) rfl keyedI Tryd.underlying64 b 1 (SF m) rfl HV.out.km (by decide) 0 (.int .u64 N) rfl rfl key0 ?_; intro w4 hk4 hg4; have HW4 := Lib.hid (And.intro hk4 hg4); clear hk4 hg4)
          | (at_delete; refine wpList_strikeK rfl (.tmp 29) (.tmp 31) rfl keyedI Tryd.underlying64 b 2 _ rfl HW4.out.1 0 rfl key0 ?_; intro w5 hk5 hg5; have HW5 := Lib.hid (And.intro hk5 hg5); clear hk5 hg5))
        go_ret
        have e0 : dropM m (q : Int) = 0 := drop_zero (by omega) hr (by rw [Int.toNat_natCast, HP.out])
        refine ⟨1, rfl, by have := HL.out; omega, ?_, (HC.out.grown HW4.out.2 (fun z e => .inl (by cases e; rfl))).grown HW5.out.2 (fun z e => .inl (by cases e; rfl))⟩
        have hk := HW5.out.1
        rw [sf_del] at hk
        rw [e0]
        exact ⟨hk.tight fun s hs => sf_other hs, by decide⟩
      · have HM := Lib.hid hmp
        have hmpi : ¬ (m : Int) = P := by omega
        clear hmp
        go_wp2_with (first
          | (at_mapUpdate; refine wpList_putK rfl (.tmp 20) (.tmp 22) (.tmp 25) rfl keyedI Tryd.underlying64 b 1 (SF m) rfl HV.out.km (by decide) 0 (.int .u64 N) rfl rfl key0 ?_; intro w4 hk4 hg4; have HW4 := Lib.hid (And.intro hk4 hg4); clear hk4 hg4))
        go_ret
        refine ⟨1, rfl, by have := HL.out; omega, ?_, HC.out.grown HW4.out.2 (fun z e => .inl (by cases e; rfl))⟩
        rw [HPM.out]
        exact ST.of_put HW4.out.1 rfl (by rw [← HPM.out]; exact drop_more hml (by omega) hr HBT.out (by rw [Int.toNat_natCast, HP.out]; exact HM.out)) (by rw [← HN.out]; exact dif_lt hml)
    · rw [if_neg hb] at hand
      have HB := Lib.hid hb
      clear hb hnot
      go_wp2
      go_ret
      rw [drop_same hml hr fun k => HB.out (by simpa using k.2)]
      exact ⟨0, rfl, by omega, HV.out, HC.out⟩
end Go.Proofs.YthodpkcjdbkdnaaDoor
namespace Go.Proofs.YthodpkcjdbkdnaaDoor
open Go Go.RowKit Gm
theorem next_c {W : World} {p : Option Addr} {cap : Nat} {c : List Ic} (hc : Hid (CodeAt W p c)) (hn : c.length ≤ 1000000) {i : Nat} (hi : i < c.length) :
    Calls Tryd.prog 21 #[.slice p c.length cap, .int .i64 i] W fun e w' => ∃ v, e = .returned v ∧ GV 3 W.heap.size w' v (outs c i).length (lv (outs c i)) ∧ Below W.heap.size W w' := by
  have hx : c[i]? = some c[i] := List.getElem?_eq_getElem hi
  refine (refnext_any hc hn (Lib.hid hx)).mono ?_
  rintro e w' ⟨v, rfl, hr, hb⟩
  refine ⟨v, rfl, ?_, hb⟩
  rw [inn_outs hx] at hr
  have := hr.gv
  rw [List.length_map] at this
  exact this.to fun j hj => by simp [iv, lv, hj]
theorem nodup_len {n : Nat} {L : List Nat} (hd : L.Nodup) (hl : ∀ x, x ∈ L → x < n) : L.length ≤ n := by
  have hp : (L.mergeSort fun x y => decide (x ≤ y)).Perm L := List.mergeSort_perm _ _
  have hs : (L.mergeSort fun x y => decide (x ≤ y)).Pairwise fun x y => decide (x ≤ y) = true := List.pairwise_mergeSort (fun a b c h1 h2 => by simp at h1 h2 ⊢; omega) (fun a b => by simp; omega) _
  have hlt : (L.mergeSort fun x y => decide (x ≤ y)).Pairwise fun x y => x < y := (hs.and (hp.nodup_iff.2 hd)).imp fun ⟨a, b⟩ => by
    simp at a
    omega
  have := up_len n _ 0 hlt fun x hx => ⟨Nat.zero_le _, hl x (hp.mem_iff.1 hx)⟩
  rw [hp.length_eq] at this
  omega
/-- In memory. -/
structure Sw (W X : World) (b n : Nat) (g : Nat → Bool) (v : Value) (L : List Nat) : Prop where
  bel : Below W.heap.size W X
  fv : FV 4 X b n (bv g)
  gv : GV 3 (b + 1) X v L.length (lv L)
  hb : W.heap.size ≤ b
section
variable {W X Y : World} {b n : Nat} {g : Nat → Bool} {v : Value} {L : List Nat}
theorem Sw.like (h : Sw W X b n g v L) (e : Y.heap = X.heap) (e1 : Y.os = X.os) (e2 : Y.tape = X.tape) (e3 : Y.output = X.output) : Sw W Y b n g v L :=
  ⟨below_like h.bel e e1 e2 e3, h.fv.of_heap (by rw [e]), h.gv.of_heap fun _ _ => by rw [e], h.hb⟩
theorem Sw.stay (h : Sw W X b n g v L) (hb : Below X.heap.size X Y) : Sw W Y b n g v L := ⟨h.bel.trans (hb.mono h.bel.size), h.fv.stay hb, h.gv.stay hb, h.hb⟩
theorem Sw.set (h : Sw W X b n g v L) (i : Nat) (x : Bool) : Sw W (X.setCell ⟨b, i, none⟩ (.bool x)) b n (upd g i x) v L :=
  ⟨h.bel.setCell (p := ⟨b, i, none⟩) h.hb _, bv_upd g i x ▸ h.fv.set i (.bool x), h.gv.setO (fun e => by have := (h.gv.lt _ e).1; omega) _ _, h.hb⟩
theorem Sw.app (h : Sw W X b n g v L) {v' : Value} {z : Nat} (hz : Apd X Y v v') (hg : GV 3 (b + 1) Y v' (L.length + 1) (upd (lv L) L.length (.int .i64 (z : Int)))) : Sw W Y b n g v' (L ++ [z]) := by
  have hS : ∀ k, v.ownBlock = some k → b + 1 ≤ k := fun k e => (h.gv.lt k e).1
  refine ⟨h.bel.trans (hz.1.below h.bel.size fun k hk e => by have := hS k e; have := h.hb; omega), h.fv.ch hz.1 fun e => by (have := hS _ e; omega), ?_, h.hb⟩
  rw [List.length_append]
  exact hg.to fun i hi => lv_snoc hi
end
end Go.Proofs.YthodpkcjdbkdnaaDoor
namespace Go.Proofs.YthodpkcjdbkdnaaDoor
open Gm

/-- A register is needed ahead of a place. -/
inductive Nd (c : List Ic) (r : Int) : Nat → Prop
  | use {i : Nat} {x : Ic} (hx : c[i]? = some x) (hr : r ∈ usesM x) : Nd c r i
  | on {i j : Nat} {x : Ic} (hx : c[i]? = some x) (hd : defM x ≠ r) (hj : j ∈ outs c i) (h : Nd c r j) : Nd c r i
/-- .. behind it. -/
def Bh (c : List Ic) (r : Int) (i : Nat) : Prop := ∃ j, j ∈ outs c i ∧ Nd c r j
/-- A register that is read or written. -/
def Rg (c : List Ic) (r : Int) : Prop := ∃ (i : Nat) (x : Ic), c[i]? = some x ∧ (r ∈ usesM x ∨ (defM x = r ∧ 0 ≤ r))
section
variable {c : List Ic} {r : Int} {i s : Nat} {x : Ic}
theorem Nd.iff (hx : c[i]? = some x) : Nd c r i ↔ r ∈ usesM x ∨ (defM x ≠ r ∧ Bh c r i) := by
  constructor
  · intro h
    cases h with
    | use hy hr => rw [hx] at hy; cases hy; exact .inl hr
    | on hy hd hj h => rw [hx] at hy; cases hy; exact .inr ⟨hd, _, hj, h⟩
  · rintro (h | ⟨hd, j, hj, h⟩)
    · exact .use hx h
    · exact .on hx hd hj h
theorem Nd.lt (h : Nd c r i) : i < c.length := by
  cases h with
  | use hx _ => exact (List.getElem?_eq_some_iff.1 hx).1
  | on hx _ _ _ => exact (List.getElem?_eq_some_iff.1 hx).1
theorem Nd.rg (h : Nd c r i) : Rg c r := by
  induction h with
  | use hx hr => exact ⟨_, _, hx, .inl hr⟩
  | on _ _ _ _ ih => exact ih
theorem Bh.rg (h : Bh c r i) : Rg c r := by
  obtain ⟨_, _, h⟩ := h
  exact h.rg
/-- The least that is so: a set with what is read in it, and all that leads into it over what doesn't write. -/
theorem Nd.least {P : Nat → Prop} (h : Nd c r i) (hu : ∀ i x, c[i]? = some x → r ∈ usesM x → P i) (ho : ∀ i x j, c[i]? = some x → defM x ≠ r → j ∈ outs c i → P j → P i) : P i := by
  induction h with
  | use hx hr => exact hu _ _ hx hr
  | on hx hd hj _ ih => exact ho _ _ _ hx hd hj ih
end
/-- What is seen, and what is to be gone on from. -/
structure Sn (c : List Ic) (r : Int) (s : Nat) (g : Nat → Bool) (L : List Nat) : Prop where
  nd : L.Nodup
  lt : ∀ x, x ∈ L → x < c.length
  g : ∀ x, g x = true ↔ x ∈ L
  im : ∀ x, x ∈ L → Nd c r x → Nd c r s
  fst : s ∈ L
/-- The first ones are done. -/
def Sd (c : List Ic) (r : Int) (L : List Nat) (i : Nat) : Prop := ∀ j z, j < i → L[j]? = some z → ∀ x, c[z]? = some x → r ∉ usesM x ∧ (defM x = r ∨ ∀ y, y ∈ outs c z → y ∈ L)
/-- .. and of the next one the first ones. -/
def Sd1 (L O : List Nat) (k : Nat) : Prop := ∀ q y, q < k → O[q]? = some y → y ∈ L
section
variable {c : List Ic} {r : Int} {s i : Nat} {g : Nat → Bool} {L : List Nat}
theorem Sn.new (hs : s < c.length) : Sn c r s (upd (fun _ => false) s true) [s] := ⟨by simp, fun x hx => by simp at hx; omega, fun x => by
  by_cases e : x = s
  · rw [e, upd_at]; simp
  · rw [upd_of e]; simp [e], fun x hx h => by
  have : x = s := by simpa using hx
  exact this ▸ h, by simp⟩
theorem Sn.add (h : Sn c r s g L) {z y : Nat} {x : Ic} (hz : z ∈ L) (hx : c[z]? = some x) (hd : defM x ≠ r) (hy : y ∈ outs c z) (hn : y ∉ L) : Sn c r s (upd g y true) (L ++ [y]) := by
  refine ⟨?_, fun z hz => ?_, fun z => ?_, fun z hz' hN => ?_, List.mem_append.2 (.inl h.fst)⟩
  · rw [List.nodup_append]
    refine ⟨h.nd, by simp, fun a ha b hb => ?_⟩
    have : b = y := by simpa using hb
    rw [this]
    exact fun e => hn (e ▸ ha)
  · rcases List.mem_append.1 hz with hz | hz
    · exact h.lt z hz
    · have : z = y := by simpa using hz
      rw [this]
      exact (outs_lt hy).2
  · by_cases e : z = y
    · rw [e, upd_at]
      simp
    · rw [upd_of e, h.g]
      simp [e]
  · rcases List.mem_append.1 hz' with hz' | hz'
    · exact h.im z hz' hN
    · have : z = y := by simpa using hz'
      rw [this] at hN
      exact h.im _ hz (.on hx hd hy hN)
theorem Sd.more (h : Sd c r L i) (hi : i ≤ L.length) (y : Nat) : Sd c r (L ++ [y]) i := fun j z hj hz x hx => by
  rw [List.getElem?_append_left (by omega)] at hz
  obtain ⟨h1, h2⟩ := h j z hj hz x hx
  exact ⟨h1, h2.imp id fun k y' hy => List.mem_append.2 (.inl (k y' hy))⟩
theorem Sd1.yes {O : List Nat} {k y : Nat} (h : Sd1 L O k) (hy : O[k]? = some y) : Sd1 (L ++ [y]) O (k + 1) := fun q z hq hz => by
  by_cases e : q = k
  · rw [e, hy] at hz
    cases hz
    simp
  · exact List.mem_append.2 (.inl (h q z (by omega) hz))
theorem Sd1.no {O : List Nat} {k y : Nat} (h : Sd1 L O k) (hy : O[k]? = some y) (hn : y ∈ L) : Sd1 L O (k + 1) := fun q z hq hz => by
  by_cases e : q = k
  · rw [e, hy] at hz
    cases hz
    exact hn
  · exact h q z (by omega) hz
theorem Sd.stop {z : Nat} {x : Ic} (h : Sd c r L i) (hz : L[i]? = some z) (hx : c[z]? = some x) (hu : r ∉ usesM x) (hd : defM x = r) : Sd c r L (i + 1) := fun j z' hj hz' x' hx' => by
  by_cases e : j = i
  · rw [e, hz] at hz'
    cases hz'
    rw [hx] at hx'
    cases hx'
    exact ⟨hu, .inl hd⟩
  · exact h j z' (by omega) hz' x' hx'
theorem Sd.next {z : Nat} {x : Ic} (h : Sd c r L i) (hz : L[i]? = some z) (hx : c[z]? = some x) (hu : r ∉ usesM x) (h1 : Sd1 L (outs c z) (outs c z).length) : Sd c r L (i + 1) := fun j z' hj hz' x' hx' => by
  by_cases e : j = i
  · rw [e, hz] at hz'
    cases hz'
    rw [hx] at hx'
    cases hx'
    refine ⟨hu, .inr fun y hy => ?_⟩
    obtain ⟨q, hq, e2⟩ := List.mem_iff_getElem.1 hy
    exact h1 q y hq (by rw [List.getElem?_eq_getElem hq, e2])
  · exact h j z' (by omega) hz' x' hx'
theorem Sn.found (h : Sn c r s g L) {z : Nat} {x : Ic} (hz : z ∈ L) (hx : c[z]? = some x) (hu : r ∈ usesM x) : Nd c r s := h.im z hz (.use hx hu)
theorem Sn.never (h : Sn c r s g L) (hd : Sd c r L L.length) : ¬ Nd c r s := fun k => by
  have hS : ∀ z x, z ∈ L → c[z]? = some x → r ∉ usesM x ∧ (defM x = r ∨ ∀ y, y ∈ outs c z → y ∈ L) := fun z x hz hx => by
    obtain ⟨j, hj, e⟩ := List.mem_iff_getElem.1 hz
    exact hd j z hj (by rw [List.getElem?_eq_getElem hj, e]) x hx
  have : s ∉ L := k.least (P := fun z => z ∉ L) (fun i x hx hu hm => (hS i x hm hx).1 hu) (fun i x j hx hdf hj hP hm => by
    rcases (hS i x hm hx).2 with e | e
    · exact hdf e
    · exact hP (e j hj))
  exact this h.fst
end
end Go.Proofs.YthodpkcjdbkdnaaDoor
namespace Go.Proofs.YthodpkcjdbkdnaaDoor
open Go Go.RowKit Gm

/-- Numbers in a list, as values. -/
def ivl (l : List Int) : Nat → Value := fun i => .int .i64 (l.getD i 0)
theorem ivl_in {l : List Int} {j : Nat} (h : j < l.length) : l.getD j 0 ∈ l := by
  rw [List.getD_eq_getElem?_getD, List.getElem?_eq_getElem h]
  exact List.getElem_mem h
theorem ivl_of {l : List Int} {n : Int} (h : n ∈ l) : ∃ j, j < l.length ∧ l.getD j 0 = n := by
  obtain ⟨j, hj, e⟩ := List.mem_iff_getElem.1 h
  exact ⟨j, hj, by rw [List.getD_eq_getElem?_getD, List.getElem?_eq_getElem hj]; exact e⟩
set_option maxRecDepth 100000 in
set_option maxHeartbeats 2000000 in
theorem rhas_c {W : World} {p : Option Addr} {cp : Nat} {l : List Int} (hp : Hid (RV W p l.length (ivl l))) (hl : l.length ≤ 1000000) (n : Int) :
    Calls Tryd.prog 29 #[.slice p l.length cp, .int .i64 n] W fun e w' => e = .returned (.bool (decide (n ∈ l))) ∧ Below W.heap.size W w' := by
  obtain ⟨ans, hans⟩ : ∃ b, decide (n ∈ l) = b := ⟨_, rfl⟩
  rw [hans]
  have HA := Lib.hid hans
  clear hans
  go_enter Tryd.func29, Tryd.ntmps29
  go_wp2
  go_loopw [5] (fun a wr => ∃ j : Nat, a = .int .i64 j ∧ j ≤ l.length ∧ Hid (Below W.heap.size W wr ∧ ∀ i, i < j → l.getD i 0 ≠ n)) (fun a _ => l.length - (intOf a).toNat)
  case atStart => exact ⟨0, rfl, Nat.zero_le _, Lib.hid ⟨Below.refl _ _, fun i h => absurd h (Nat.not_lt_zero _)⟩⟩
  case round =>
    obtain ⟨wo, rfl⟩ : ∃ wo : World, wo = wr := ⟨_, rfl⟩
    obtain ⟨j, rfl, hj, HR⟩ := hrel
    by_cases hlt : j < l.length
    · obtain ⟨g, o, rfl, -, i1⟩ := (hp.out.stay HR.out.1) j hlt
      simp only [ivl] at i1
      have hin := ivl_in hlt
      obtain ⟨z, hz⟩ : ∃ z, l.getD j 0 = z := ⟨_, rfl⟩
      rw [hz] at i1 hin
      by_cases he : z = n
      · subst he
        obtain rfl : ans = true := by rw [← HA.out]; exact decide_eq_true hin
        clear hz hin
        go_wp2
        go_ret
        exact ⟨rfl, below_like HR.out.1 rfl rfl rfl rfl⟩
      · have HE : Hid (l.getD j 0 ≠ n) := Lib.hid (by rw [hz]; exact he)
        clear hz hin
        go_wp2
        go_roundw
        case rel => exact ⟨j + 1, by go_num, by omega, Lib.hid ⟨below_like HR.out.1 rfl rfl rfl rfl, fun i hi => by
          by_cases e : i = j
          · rw [e]; exact HE.out
          · exact HR.out.2 i (by omega)⟩⟩
        case measure => (simp [intOf]; try omega)
    · obtain rfl : j = l.length := by omega
      obtain rfl : ans = false := by
        rw [← HA.out]
        refine decide_eq_false fun hm => ?_
        obtain ⟨j, hj, e⟩ := ivl_of hm
        exact HR.out.2 j hj e
      go_wp2
      go_ret
      exact ⟨rfl, HR.out.1⟩
set_option maxRecDepth 100000 in
set_option maxHeartbeats 2000000 in
theorem lhas_c {W : World} {p : Option Addr} {cp : Nat} {l : List Int} (hp : Hid (RV W p l.length (ivl l))) (hl : l.length ≤ 1000000) (n : Int) :
    Calls Tryd.prog 20 #[.slice p l.length cp, .int .i64 n] W fun e w' => e = .returned (.bool (decide (n ∈ l))) ∧ Below W.heap.size W w' := by
  obtain ⟨ans, hans⟩ : ∃ b, decide (n ∈ l) = b := ⟨_, rfl⟩
  rw [hans]
  have HA := Lib.hid hans
  clear hans
  go_enter Tryd.func20, Tryd.ntmps20
  go_wp2
  go_loopw [5] (fun a wr => ∃ j : Nat, a = .int .i64 j ∧ j ≤ l.length ∧ Hid (Below W.heap.size W wr ∧ ∀ i, i < j → l.getD i 0 ≠ n)) (fun a _ => l.length - (intOf a).toNat)
  case atStart => exact ⟨0, rfl, Nat.zero_le _, Lib.hid ⟨Below.refl _ _, fun i h => absurd h (Nat.not_lt_zero _)⟩⟩
  case round =>
    obtain ⟨wo, rfl⟩ : ∃ wo : World, wo = wr := ⟨_, rfl⟩
    obtain ⟨j, rfl, hj, HR⟩ := hrel
    by_cases hlt : j < l.length
    · obtain ⟨g, o, rfl, -, i1⟩ := (hp.out.stay HR.out.1) j hlt
      simp only [ivl] at i1
      have hin := ivl_in hlt
      obtain ⟨z, hz⟩ : ∃ z, l.getD j 0 = z := ⟨_, rfl⟩
      rw [hz] at i1 hin
      by_cases he : z = n
      · subst he
        obtain rfl : ans = true := by rw [← HA.out]; exact decide_eq_true hin
        clear hz hin
        go_wp2
        go_ret
        exact ⟨rfl, below_like HR.out.1 rfl rfl rfl rfl⟩
      · have HE : Hid (l.getD j 0 ≠ n) := Lib.hid (by rw [hz]; exact he)
        clear hz hin
        go_wp2
        go_roundw
        case rel => exact ⟨j + 1, by go_num, by omega, Lib.hid ⟨below_like HR.out.1 rfl rfl rfl rfl, fun i hi => by
          by_cases e : i = j
          · rw [e]; exact HE.out
          · exact HR.out.2 i (by omega)⟩⟩
        case measure => (simp [intOf]; try omega)
    · obtain rfl : j = l.length := by omega
      obtain rfl : ans = false := by
        rw [← HA.out]
        refine decide_eq_false fun hm => ?_
        obtain ⟨j, hj, e⟩ := ivl_of hm
        exact HR.out.2 j hj e
      go_wp2
      go_ret
      exact ⟨rfl, HR.out.1⟩
end Go.Proofs.YthodpkcjdbkdnaaDoor
namespace Go.Proofs.YthodpkcjdbkdnaaDoor
open Go Go.RowKit

/-- Both tables. -/
structure En (w : World) : Prop where
  kinds : Kinds w
  tab : TabAt 1 Lib.deBruijn64tab w
  tsize : 1 < w.heap.size
/-- What no call may write. -/
def Gl (z : Nat) : Prop := z = 0 ∨ z = 1
theorem En.ch {S : Nat → Prop} {w w' : World} (h : En w) (hc : Ch S w w') (hn : ∀ z, Gl z → ¬ S z) : En w' := by
  have n0 := hn _ (.inl rfl)
  have n1 := hn _ (.inr rfl)
  have ks := h.kinds.size
  exact ⟨⟨Nat.lt_of_lt_of_le ks hc.size, fun k hk => (hc.cell ks n0).trans (h.kinds.name k hk), fun k j hk hj => (hc.cell ks n0).trans (h.kinds.part k j hk hj), fun k hk => (hc.cell ks n0).trans (h.kinds.keep k hk), fun k hk => (hc.cell ks n0).trans (h.kinds.ends k hk)⟩,
    fun j hj => (hc.cell h.tsize n1).trans (h.tab j hj), Nat.lt_of_lt_of_le h.tsize hc.size⟩
theorem En.below {w w' : World} (h : En w) (hb : Below w.heap.size w w') : En w' := h.ch (S := fun _ => False) ⟨hb.os, hb.tape, hb.output, hb.size, fun k hk _ => hb.block k hk⟩ fun _ _ => id
theorem En.same {w w' : World} (h : En w) (e : w'.heap = w.heap) (e1 : w'.os = w.os) (e2 : w'.tape = w.tape) (e3 : w'.output = w.output) : En w' := h.below (below_like (Below.refl _ _) e e1 e2 e3)
theorem cell_nomap {W : World} {b : Nat} {es : Array MapEntry} {c : Nat} (h : W.heap[b]? = some (.map es c)) (o : Nat) : W.cell? ⟨b, o, none⟩ = none := by
  unfold World.cell?
  rw [h]
theorem KM.not_gl {K : TypeId} {W : World} {b n : Nat} {f : KF} (h : KM K W b n f) (E : En W) : ¬ Gl b := by
  obtain ⟨D, ⟨es, clock, hb, _⟩, _⟩ := h
  rintro (rfl | rfl)
  · have h1 := E.kinds.name 0 (by omega)
    rw [cell_nomap hb] at h1
    cases h1
  · have h1 := E.tab 0 (by decide)
    rw [cell_nomap hb] at h1
    cases h1
theorem ST.not_gl {W : World} {b m : Nat} (h : ST W b m) (E : En W) : ¬ Gl b := h.km.not_gl E
theorem En.gl_lt {W : World} (E : En W) {z : Nat} (h : Gl z) : z < W.heap.size := by
  rcases h with rfl | rfl
  · exact E.kinds.size
  · exact E.tsize
/-- One set was written. -/
theorem En.set {W X : World} {b m : Nat} (E : En W) (h : ST W b m) (hc : Ch (fun z => z = b) W X) : En X := E.ch hc fun z hz e => h.not_gl E (e ▸ hz)
/-- An instruction's registers are small. -/
def Sm1 (x : Ic) : Prop := x.d < 64 ∧ x.a < 64 ∧ x.b < 64
def Sm (c : List Ic) : Prop := ∀ (i : Nat) (x : Ic), c[i]? = some x → Sm1 x
theorem uses_sm {x : Ic} (h : Sm1 x) {r : Int} (hr : r ∈ usesM x) : 0 ≤ r ∧ r < 64 := by
  obtain ⟨h1, h2, h3⟩ := h
  unfold usesM at hr
  split at hr
  · unfold pos at hr
    rw [List.mem_filter, mem_srt] at hr
    obtain ⟨hm, hp⟩ := hr
    have hp' : 0 ≤ r := by simp at hp; omega
    refine ⟨hp', ?_⟩
    simp only [List.mem_cons, List.not_mem_nil, or_false] at hm
    rcases hm with e | e | e
    · split at e <;> omega
    · unfold aTo at e
      split at e <;> omega
    · unfold bTo at e
      split at e <;> omega
  · cases hr
theorem def_sm {x : Ic} (h : Sm1 x) : defM x < 64 := by
  obtain ⟨h1, h2, h3⟩ := h
  unfold defM
  split
  · split <;> omega
  · omega
theorem fold_lt {l : List Int} {m : Nat} (hm : m < 18446744073709551616) (h : ∀ r, r ∈ l → r < 64) : l.foldl putM m < 18446744073709551616 := by
  induction l generalizing m with
  | nil => exact hm
  | cons a l ih => exact ih (putM_lt hm (h a (by simp))) fun r hr => h r (by simp [hr])
theorem fold_bt {l : List Int} {m : Nat} {t : Int} : Bt (l.foldl putM m) t ↔ Bt m t ∨ (t ∈ l ∧ 0 ≤ t) := by
  induction l generalizing m with
  | nil => simp
  | cons a l ih =>
    show Bt (l.foldl putM (putM m a)) t ↔ _
    rw [ih, bt_put]
    constructor
    · rintro ((k | ⟨rfl, k⟩) | ⟨k, k2⟩)
      · exact .inl k
      · exact .inr ⟨by simp, k⟩
      · exact .inr ⟨by simp [k], k2⟩
    · rintro (k | ⟨k, k2⟩)
      · exact .inl (.inl k)
      · rcases List.mem_cons.1 k with e | e
        · exact .inl (.inr ⟨e, by omega⟩)
        · exact .inr ⟨e, k2⟩
/-- What is needed ahead of an instruction, by what is needed behind it. -/
def upM (x : Ic) (m : Nat) : Nat := (usesM x).foldl putM (dropM m (defM x))
theorem upM_lt {x : Ic} {m : Nat} (h : Sm1 x) (hm : m < 18446744073709551616) : upM x m < 18446744073709551616 := fold_lt (dropM_lt hm) fun r hr => (uses_sm h hr).2
theorem upM_bt {x : Ic} {m : Nat} (h : Sm1 x) (hm : m < 18446744073709551616) {t : Int} : Bt (upM x m) t ↔ t ∈ usesM x ∨ (defM x ≠ t ∧ Bt m t) := by
  unfold upM
  rw [fold_bt, bt_drop hm (def_sm h)]
  constructor
  · rintro (⟨k, k2⟩ | ⟨k, _⟩)
    · exact .inr ⟨fun e => k2 e.symm, k⟩
    · exact .inl k
  · rintro (k | ⟨k, k2⟩)
    · exact .inr ⟨k, (uses_sm h k).1⟩
    · exact .inl ⟨k2, fun e => k e.symm⟩
end Go.Proofs.YthodpkcjdbkdnaaDoor
namespace Go.Proofs.YthodpkcjdbkdnaaDoor
open Go Go.RowKit Go.Sort Go.Lib

theorem lout_gives {bx : Nat} {p : Option Addr} {n cap : Nat} (x : Int) (W : World) (hb : W.cell? ⟨bx, 0, none⟩ = some (.slice p n cap)) : FnGives Tryd.prog 74 #[.pointer (some ⟨bx, 0, none⟩)] #[.int .i64 x] (.bool (outB n x)) W := by
  show Calls Tryd.prog 74 #[.int .i64 x, .pointer (some ⟨bx, 0, none⟩)] W _
  obtain ⟨r, hr⟩ : ∃ r, outB n x = r := ⟨_, rfl⟩
  rw [hr]
  have HR := Lib.hid hr
  clear hr
  by_cases h : x < 0
  · have hd : decide (x < 0) = true := by simpa using h
    have e : r = true := by rw [← HR.out]; simp [outB, h]
    subst e
    clear h
    go_enter Tryd.func74, Tryd.ntmps74
    go_wp2
    go_ret
    exact ⟨rfl, 0, rfl⟩
  · have hd : decide (x < 0) = false := by simpa using h
    have e : r = decide ((n : Int) ≤ x) := by rw [← HR.out]; simp [outB, h]
    subst e
    have h' : 0 ≤ x := by omega
    clear h
    go_enter Tryd.func74, Tryd.ntmps74
    go_wp2
    go_ret
    exact ⟨rfl, 0, rfl⟩
theorem heap_sortWorld {α : Type} [Inhabited α] (enc : α → Value) (w : World) (blk off n : Nat) (dk : Array α) (os : Array Obj) {k : Nat} (hk : k < w.heap.size) (hne : k ≠ blk) : (sortWorld enc w blk off n dk os).heap[k]? = w.heap[k]? := by
  unfold sortWorld
  have hk' : k < (putRow enc (Sort.ahead w n) blk off dk).heap.size := by
    simp only [putRow, mapBlock, Array.size_modify]
    exact hk
  rw [Sort.heap_grow_old _ _ hk']
  simp only [putRow, mapBlock, Array.getElem?_modify]
  rw [if_neg (fun h => hne h.symm)]
  rfl
theorem ldelete_own {B bx : Nat} {w : World} {v : Value} {l : List Int} {p : Option Addr} {n cap : Nat} {T : TypeId} (h : Rw B w v l) (hl : l.length ≤ 1000000) (hb : w.heap[bx]? = some (.cells #[.slice p n cap] T (0, 0))) (hne : v.ownBlock ≠ some bx) :
    Calls Tryd.prog 56 #[v, .func (.func 74) #[] #[.pointer (some ⟨bx, 0, none⟩)]] w (InsP B w v (inn n l)) := by
  rcases h.2 with ⟨rfl, h0⟩ | ⟨g, c0, cur, rfl, hBg, hg, hnc, hcm, hcs, ht⟩
  · have hl0 : l = [] := List.eq_nil_of_length_eq_zero h0
    subst hl0
    have hcon : Calls Tryd.prog 72 #[.slice none 0 0, .func (.func 74) #[] #[.pointer (some ⟨bx, 0, none⟩)]] w fun e w' => e = .returned (.int .i64 (-1)) ∧ w = w' := by
      clear h hl hb hne h0
      go_enter Tryd.func72, Tryd.ntmps72
      go_wp2
      go_loop [8] (fun i => i = .int .i64 0) (fun _ => 0)
      case atStart => rfl
      case round =>
        subst hrel
        go_wp2
        go_ret
        exact ⟨rfl, rfl⟩
    have HC := Lib.hid hcon
    have HN : Hid (Rw B w (.slice none 0 0) (inn n [])) := Lib.hid h
    clear hcon h hl hb hne h0
    go_enter Tryd.func56, Tryd.ntmps56
    go_wp2_with (go_at_call 72; ((with_reducible refine (HC.out).mono ?_); rintro e w' ⟨rfl, rfl⟩))
    go_ret
    exact ⟨_, rfl, HN.out, Fr.refl _ _⟩
  · rw [Nat.mul_one] at ht hcs
    have hgx : bx ≠ g := fun e => hne (by rw [e]; rfl)
    have hH : Holds (Value.int .i64) w g 0 l.toArray := fun j hj => by
      have hj' : j < l.length := by simpa using hj
      refine ⟨?_, frozen_of_row w g _ _ _ hg⟩
      rw [Nat.zero_add, cell_of_row w g j _ _ _ hg]
      have h1 := congrArg (·[j]?) ht
      simp only [List.getElem?_take, List.getElem?_map] at h1
      rw [if_pos hj', List.getElem?_eq_getElem hj'] at h1
      simp only [Option.map_some] at h1
      rw [← Array.getElem?_toList, h1]
      simp [hj']
    have eg : ∀ args w, (callFunc 74 args).run Tryd.prog w = .ok (.enter 74 args) w := enters_of Tryd.func74 (by kernel_rfl) rfl
    have hbx : bx < w.heap.size := (Array.getElem?_eq_some_iff.1 hb).1
    have hcell : w.cell? ⟨bx, 0, none⟩ = some (.slice p n cap) := by rw [cell_of_row _ _ _ _ _ _ hb]; rfl
    have hcon := Tryd.slices_DeleteFunc (Value.int .i64) (fun _ => rfl) (outB n) 74 #[.pointer (some ⟨bx, 0, none⟩)] eg 0 Tryd.zeroValue3 g 0 c0 l.toArray w
      (fun W x hW => lout_gives x W ((hW.cell (p := ⟨bx, 0, none⟩) hbx).trans hcell))
      (fun n os dk x _ => lout_gives x _ ((World.cell?_of_block (a := ⟨bx, 0, none⟩) (heap_sortWorld _ w g 0 n dk os hbx hgx)).trans hcell)) hH (by simp; omega) (by simpa using hnc)
    have e1 : l.toArray.size = l.length := by simp
    simp only [e1] at hcon
    rw [show (List.filter (fun x => !outB n x) l) = inn n l from rfl] at hcon
    have hlen : (inn n l).length ≤ l.length := List.length_filter_le _ _
    have hys : (inn n l ++ List.replicate (l.length - (inn n l).length) 0).length = l.toArray.size := by
      rw [List.length_append, List.length_replicate, e1]
      omega
    refine hcon.mono ?_
    rintro e w' ⟨rfl, q, rfl⟩
    have hb := putRow_eq_setCells (Value.int .i64) w g 0 l.toArray (inn n l ++ List.replicate (l.length - (inn n l).length) 0) q hH hys
    obtain ⟨c2, g2, s2, k2⟩ := heap_setCells_same g 3 ((inn n l ++ List.replicate (l.length - (inn n l).length) 0).map (Value.int .i64)) 0 (w.drewN q) cur hg
    refine ⟨_, rfl, ?_, ?_⟩
    · rw [hb]
      refine ⟨by simp, .inr ⟨g, c0, c2, rfl, hBg, g2, by omega, hcm, by omega, ?_⟩⟩
      rw [Nat.mul_one]
      apply List.ext_getElem?
      intro j
      rw [List.getElem?_take]
      by_cases hj : j < (inn n l).length
      · rw [if_pos hj, Array.getElem?_toList, k2 j (by omega), if_pos ⟨by omega, by rw [List.length_map, hys, e1]; omega⟩, Nat.sub_zero, List.map_append, List.getElem?_append_left (by simpa using hj)]
      · rw [if_neg hj, List.getElem?_eq_none (by simpa using hj)]
    · rw [hb]
      exact Fr.trans (Fr.drewN (Fr.refl (some g) w) q) (grown_setCells g _ _ _)
end Go.Proofs.YthodpkcjdbkdnaaDoor
namespace Go.Proofs.YthodpkcjdbkdnaaDoor
open Go Go.RowKit Gm

/-- What is seen and what is to be gone on from, in memory. -/
structure Nm (W X : World) (b n : Nat) (g : Nat → Bool) (v : Value) (L : List Nat) : Prop where
  bel : Below W.heap.size W X
  fv : FV 4 X b n (bv g)
  gv : GV 3 (b + 1) X v L.length (lv L)
  hb : W.heap.size ≤ b
section
variable {W X Y : World} {b n : Nat} {g : Nat → Bool} {v : Value} {L : List Nat}
theorem Nm.like (h : Nm W X b n g v L) (e : Y.heap = X.heap) (e1 : Y.os = X.os) (e2 : Y.tape = X.tape) (e3 : Y.output = X.output) : Nm W Y b n g v L :=
  ⟨below_like h.bel e e1 e2 e3, h.fv.of_heap (by rw [e]), h.gv.of_heap fun _ _ => by rw [e], h.hb⟩
theorem Nm.stay (h : Nm W X b n g v L) (hb : Below X.heap.size X Y) : Nm W Y b n g v L := ⟨h.bel.trans (hb.mono h.bel.size), h.fv.stay hb, h.gv.stay hb, h.hb⟩
theorem Nm.set (h : Nm W X b n g v L) (i : Nat) (x : Bool) : Nm W (X.setCell ⟨b, i, none⟩ (.bool x)) b n (upd g i x) v L :=
  ⟨h.bel.setCell (p := ⟨b, i, none⟩) h.hb _, bv_upd g i x ▸ h.fv.set i (.bool x), h.gv.setO (fun e => by have := (h.gv.lt _ e).1; omega) _ _, h.hb⟩
theorem Nm.app (h : Nm W X b n g v L) {v' : Value} {z : Nat} (hz : Apd X Y v v') (hg : GV 3 (b + 1) Y v' (L.length + 1) (upd (lv L) L.length (.int .i64 (z : Int)))) : Nm W Y b n g v' (L ++ [z]) := by
  have hS : ∀ k, v.ownBlock = some k → b + 1 ≤ k := fun k e => (h.gv.lt k e).1
  refine ⟨h.bel.trans (hz.1.below h.bel.size fun k hk e => by have := hS k e; have := h.hb; omega), h.fv.ch hz.1 fun e => by (have := hS _ e; omega), ?_, h.hb⟩
  rw [List.length_append]
  exact hg.to fun i hi => lv_snoc hi
end
theorem uses_len (x : Ic) : (usesM x).length ≤ 3 := by
  unfold usesM
  split
  · exact Nat.le_trans (List.length_filter_le _ _) (Nat.le_trans (srt_len _) (by simp))
  · simp
set_option maxRecDepth 100000 in
set_option maxHeartbeats 8000000 in
theorem needed_c {W : World} {p : Option Addr} {cap : Nat} {c : List Ic} (hc : Hid (CodeAt W p c)) (hn : c.length ≤ 1000000) {s : Nat} (hs : s < c.length) (r : Int) :
    Calls Tryd.prog 32 #[.slice p c.length cap, .int .i64 r, .int .i64 s] W fun e w' => ∃ t, e = .returned (.bool t) ∧ (t = true ↔ Nd c r s) ∧ Below W.heap.size W w' := by
  have hmk := make_b c.length (by omega)
  go_enter Tryd.func32, Tryd.ntmps32
  go_upto_region 3 with (fail)
  refine name_world ?_
  intro V hV
  obtain ⟨b, hb⟩ : ∃ b, W.heap.size = b := ⟨_, rfl⟩
  have HV : Hid (Nm W V b c.length (fun _ => false) (.slice (some ⟨b + 1, 0, none⟩) 1 1) [s]) := Lib.hid (by
    have h1 : Below W.heap.size W V := by rw [hV]; exact ((Below.refl _ _).alloc (Nat.le_refl _) _).alloc (by simp) _
    refine ⟨h1, ?_, ?_, by omega⟩
    · rw [hV, ← hb]; exact (FV.new (W := W) (T := 4) (F := bv fun _ => false) rfl (by simp; rfl)).alloc _
    · have := gv_one (T := 3) (B := b + 1) (X := W.alloc (.cells (rw_ c.length fun _ => .bool false).toArray 4)) (.int .i64 (s : Int)) (by simp; omega) (lv [s]) rfl rfl
      rw [hV, ← hb]
      rw [← hb] at this
      simpa using this)
  try rw [hb]
  have ib := HV.out.fv.cell hs
  have fb := HV.out.fv.frozen s
  simp only [bv] at ib
  have HA : Hid (Nm W (V.setCell ⟨b, s, none⟩ (.bool true)) b c.length (upd (fun _ => false) s true) (.slice (some ⟨b + 1, 0, none⟩) 1 1) [s]) := Lib.hid (HV.out.set s true)
  have HK : Hid (Sn c r s (upd (fun _ => false) s true) [s]) := Lib.hid (Sn.new hs)
  clear hV hb hmk
  go_wp2
  go_loopw [8, 9] (fun a8 a9 wr => ∃ (i : Nat) (g : Nat → Bool) (L : List Nat) (q : Option Addr) (cq : Nat), a8 = .slice q L.length cq ∧ a9 = .int .i64 i ∧ i ≤ L.length ∧ Hid (Nm W wr b c.length g (.slice q L.length cq) L ∧ Sn c r s g L ∧ Sd c r L i)) (fun _ a9 _ => c.length - (intOf a9).toNat)
  case atStart => exact ⟨0, _, [s], some ⟨b + 1, 0, none⟩, 1, rfl, rfl, Nat.zero_le _, Lib.hid ⟨HA.out, HK.out, fun j x h => absurd h (Nat.not_lt_zero _)⟩⟩
  case round =>
    clear HA HK HV ib fb
    obtain ⟨wo, rfl⟩ : ∃ wo : World, wo = wr := ⟨_, rfl⟩
    obtain ⟨i, g, L, q, cq, rfl, rfl, hi, HR⟩ := hrel
    have hLn := nodup_len HR.out.2.1.nd HR.out.2.1.lt
    by_cases hlt : i < L.length
    · obtain ⟨z, hz⟩ : ∃ z, L[i]? = some z := ⟨_, List.getElem?_eq_getElem hlt⟩
      have hzm : z ∈ L := List.mem_of_getElem? hz
      have hzn := HR.out.2.1.lt z hzm
      obtain ⟨x, hx⟩ : ∃ x, c[z]? = some x := ⟨_, List.getElem?_eq_getElem hzn⟩
      obtain ⟨q', c', e', hq⟩ := HR.out.1.gv.open
      cases e'
      obtain ⟨gl, rfl, hown, hgl, -, -, -, hcell⟩ := hq.resolve_left (fun e => by omega)
      have il := hcell i hlt
      have ilv : lv L i = .int .i64 (z : Int) := by simp [lv, hz]
      rw [ilv] at il
      obtain ⟨gc, oc, ep, hgc, hat7, hok⟩ := (hc.out.stay HR.out.1.bel) z x hx
      have k0 := hat7.k
      have k1 := hat7.o
      have k2 := hat7.d
      have k3 := hat7.a
      have k4 := hat7.b
      have k5 := hat7.n
      have k6 := hat7.t
      have HX := Lib.hid (And.intro hz (And.intro hx (And.intro hzm hgl)))
      have HEP := Lib.hid ep
      subst ep
      clear hat7 hok ilv hcell hq hz hx
      have HUS : Hid (∀ w, Calls Tryd.prog 18 #[.agg #[.int .i64 x.k, .int .i64 x.o, .int .i64 x.d, .int .i64 x.a, .int .i64 x.b, .int .i64 x.n, .int .i64 x.t]] w (RowP w (usesM x))) := Lib.hid fun w => ruses_is x w
      have HDF : Hid (∀ w, Calls Tryd.prog 19 #[.agg #[.int .i64 x.k, .int .i64 x.o, .int .i64 x.d, .int .i64 x.a, .int .i64 x.b, .int .i64 x.n, .int .i64 x.t]] w fun e w' => e = .returned (.int .i64 (defM x)) ∧ Below w.heap.size w w') := Lib.hid fun w => rdef_any x w
      have hul := uses_len x
      obtain ⟨u, hu⟩ : ∃ u, usesM x = u := ⟨_, rfl⟩
      obtain ⟨dm, hdm⟩ : ∃ d, defM x = d := ⟨_, rfl⟩
      rw [hu] at HUS hul
      rw [hdm] at HDF
      have HU := Lib.hid hu
      have HDM := Lib.hid hdm
      clear hu hdm
      go_upto_region 8 with (fail)
      refine name_world ?_
      intro V1 hV1
      obtain ⟨m, hm⟩ : ∃ m, wo.heap.size = m := ⟨_, rfl⟩
      have HI : Hid (Ib V1 m (.int .i64 x.k) (.int .i64 x.o) (.int .i64 x.d) (.int .i64 x.a) (.int .i64 x.b) (.int .i64 x.n) (.int .i64 x.t)) := Lib.hid (by rw [hV1]; exact Ib.new hm.symm _ _ _ _ _ _ _)
      have HB1 : Hid (Below wo.heap.size wo V1) := Lib.hid (by rw [hV1]; exact below1 _ _)
      have HN1 : Hid (Nm W V1 b c.length g (.slice (some ⟨gl, 0, none⟩) L.length cq) L) := Lib.hid (HR.out.1.stay HB1.out)
      have hs1 := HB1.out.size
      obtain ⟨bm, y0, y1, y2, y3, y4, y5, y6, -⟩ := HI.out.facts
      try rw [hm]
      clear hV1 k0 k1 k2 k3 k4 k5 k6
      obtain ⟨d, hd⟩ : ∃ d, decide (r ∈ u) = d := ⟨_, rfl⟩
      have HD := Lib.hid hd
      clear hd
      go_upto_region 8 with (fail)
      have HIL := Lib.hid il
      clear il
      cases d with
      | true =>
        go_wp2_with (first
          | (go_at_call 18; (with_reducible refine (HUS.out _).mono ?_); rintro e2 w2 ⟨v2, rfl, hr2, hb2⟩; obtain ⟨q2, c2, rfl, hv2, -⟩ := GV.rv hr2.gv; have HV2 : Hid (RV w2 q2 u.length (ivl u)) := Lib.hid hv2; have HB2 := Lib.hid hb2; clear hr2 hb2 hv2)
          | (go_at_call 29; (with_reducible refine (rhas_c HV2 (by omega) r).mono ?_); rintro e3 w3 ⟨rfl, hb3⟩; rw [HD.out]; have HB3 := Lib.hid hb3; clear hb3))
        go_ret
        have hrm : r ∈ u := of_decide_eq_true HD.out
        rw [← HU.out] at hrm
        exact ⟨true, rfl, ⟨fun _ => HR.out.2.1.found HX.out.2.2.1 HX.out.2.1 hrm, fun _ => rfl⟩, HN1.out.bel.trans ((HB2.out.trans (HB3.out.mono HB2.out.size)).mono HN1.out.bel.size)⟩
      | false =>
        have hnu : r ∉ u := of_decide_eq_false HD.out
        have HNU : Hid (r ∉ usesM x) := Lib.hid (by rw [HU.out]; exact hnu)
        clear hnu
        by_cases hdr : dm = r
        · have hde : (dm == r) = true := by simp [hdr]
          have HS : Hid (Sd c r L (i + 1)) := Lib.hid (HR.out.2.2.stop HX.out.1 HX.out.2.1 HNU.out (HDM.out.trans hdr))
          clear hdr
          go_upto_region 10 with (first
            | (go_at_call 18; (with_reducible refine (HUS.out _).mono ?_); rintro e2 w2 ⟨v2, rfl, hr2, hb2⟩; obtain ⟨q2, c2, rfl, hv2, -⟩ := GV.rv hr2.gv; have HV2 : Hid (RV w2 q2 u.length (ivl u)) := Lib.hid hv2; have HB2 := Lib.hid hb2; clear hr2 hb2 hv2)
            | (go_at_call 29; (with_reducible refine (rhas_c HV2 (by omega) r).mono ?_); rintro e3 w3 ⟨rfl, hb3⟩; rw [HD.out]; have HB3 := Lib.hid (HB2.out.trans (hb3.mono HB2.out.size)); clear hb3))
          have HI3 := Lib.hid (HI.out.stay HB3.out)
          obtain ⟨bm3, z0, z1, z2, z3, z4, z5, z6, -⟩ := HI3.out.facts
          go_wp2_with (go_at_call 19; (with_reducible refine (HDF.out _).mono ?_); rintro e4 w4 ⟨rfl, hb4⟩; have HB4 := Lib.hid (HB3.out.trans (hb4.mono HB3.out.size)); clear hb4)
          go_roundw
          case rel => exact ⟨i + 1, g, L, _, cq, rfl, by go_num, by omega, Lib.hid ⟨(HN1.out.stay HB4.out).like rfl rfl rfl rfl, HR.out.2.1, HS.out⟩⟩
          case measure => (simp [intOf]; try omega)
        · have hde : (dm == r) = false := by simp [hdr]
          have HND : Hid (defM x ≠ r) := Lib.hid (by rw [HDM.out]; exact hdr)
          clear hdr
          go_upto_region 10 with (first
            | (go_at_call 18; (with_reducible refine (HUS.out _).mono ?_); rintro e2 w2 ⟨v2, rfl, hr2, hb2⟩; obtain ⟨q2, c2, rfl, hv2, -⟩ := GV.rv hr2.gv; have HV2 : Hid (RV w2 q2 u.length (ivl u)) := Lib.hid hv2; have HB2 := Lib.hid hb2; clear hr2 hb2 hv2)
            | (go_at_call 29; (with_reducible refine (rhas_c HV2 (by omega) r).mono ?_); rintro e3 w3 ⟨rfl, hb3⟩; rw [HD.out]; have HB3 := Lib.hid (HB2.out.trans (hb3.mono HB2.out.size)); clear hb3))
          have HI3 := Lib.hid (HI.out.stay HB3.out)
          obtain ⟨bm3, z0, z1, z2, z3, z4, z5, z6, -⟩ := HI3.out.facts
          go_upto_region 11 with (go_at_call 19; (with_reducible refine (HDF.out _).mono ?_); rintro e4 w4 ⟨rfl, hb4⟩; have HB4 := Lib.hid (HB3.out.trans (hb4.mono HB3.out.size)); clear hb4)
          have HN4 := Lib.hid (HN1.out.stay HB4.out)
          clear y0 y1 y2 y3 y4 y5 y6 z0 z1 z2 z3 z4 z5 z6
          have hs4 := HB4.out.size
          have hgl4 : gl < w4.heap.size := by have := HX.out.2.2.2; omega
          have il4 := ((HB1.out.trans (HB4.out.mono hs1)).cell (p := ⟨gl, i, none⟩) HX.out.2.2.2).trans HIL.out
          have HNx := Lib.hid (next_c (cap := cap) (Lib.hid (hc.out.stay HN4.out.bel)) hn hzn)
          obtain ⟨O, hO⟩ : ∃ O, outs c z = O := ⟨_, rfl⟩
          have hOl : O.length ≤ 2 := hO ▸ outs_len c z
          rw [hO] at HNx
          have HO := Lib.hid hO
          clear hO
          go_upto_region 12 with (go_at_call 21; ((with_reducible refine HNx.out.mono ?_); rintro e5 w5 ⟨v5, rfl, hg5, hb5⟩; obtain ⟨q5, c5, rfl, -⟩ := hg5.open; have H5 := Lib.hid (And.intro hg5 hb5); clear hg5 hb5))
          have HS5 := Lib.hid (HN4.out.stay H5.out.2)
          have hbo := HR.out.1.fv.lt
          have h5s := H5.out.2.size
          clear il4
          go_wp2
          go_loopw [8, 12] (fun a8 a11 wr => ∃ (k : Nat) (g : Nat → Bool) (L : List Nat) (q : Option Addr) (cq : Nat), a8 = .slice q L.length cq ∧ a11 = .int .i64 k ∧ k ≤ O.length ∧ Hid ((∀ gb, (Value.slice q L.length cq).ownBlock = some gb → gb < wo.heap.size ∨ w5.heap.size ≤ gb) ∧ Ch (fun z => z < wo.heap.size) w5 wr) ∧ Hid (i < L.length ∧ L[i]? = some z ∧ Nm W wr b c.length g (.slice q L.length cq) L ∧ Sn c r s g L ∧ Sd c r L i ∧ Sd1 L O k)) (fun _ a11 _ => O.length - (intOf a11).toNat)
          case atStart => exact ⟨0, g, L, some ⟨gl, 0, none⟩, cq, rfl, rfl, Nat.zero_le _, Lib.hid ⟨fun gb e => .inl (by cases e; exact HX.out.2.2.2), Ch.refl _ _⟩, Lib.hid ⟨hlt, HX.out.1, HS5.out, HR.out.2.1, HR.out.2.2, fun q y h => absurd h (Nat.not_lt_zero _)⟩⟩
          case round =>
            obtain ⟨wi, rfl⟩ : ∃ wo : World, wo = wr := ⟨_, rfl⟩
            obtain ⟨k, g, L, q, cq, rfl, rfl, hk, HM, HK⟩ := hrel
            have hLn := nodup_len HK.out.2.2.2.1.nd HK.out.2.2.2.1.lt
            by_cases hkl : k < O.length
            · obtain ⟨y, hy⟩ : ∃ y, O[k]? = some y := ⟨_, List.getElem?_eq_getElem hkl⟩
              have hym : y ∈ outs c z := by rw [HO.out]; exact List.mem_of_getElem? hy
              have hyn := (outs_lt hym).2
              obtain ⟨q', c', e', hq⟩ := H5.out.1.open
              cases e'
              obtain ⟨g5, rfl, -, hg5, hg5o, -, -, hcell⟩ := hq.resolve_left (fun e => by omega)
              have hc5 := hcell k hkl
              have ilv : lv O k = .int .i64 (y : Int) := by simp [lv, hy]
              rw [ilv] at hc5
              have iO := (HM.out.2.cell (o := k) hg5 (by omega)).trans hc5
              have iG := HK.out.2.2.1.fv.cell hyn
              simp only [bv] at iG
              have fG := HK.out.2.2.1.fv.frozen y
              clear ilv hcell hq hc5
              cases hgy : g y with
              | true =>
                rw [hgy] at iG
                have HDD := Lib.hid (HK.out.2.2.2.2.2.no hy ((HK.out.2.2.2.1.g y).1 hgy))
                clear hgy hy
                go_wp2
                go_roundw
                case rel => exact ⟨k + 1, g, L, q, cq, rfl, by go_num, by omega, Lib.hid ⟨HM.out.1, HM.out.2.like rfl rfl rfl rfl⟩, Lib.hid ⟨HK.out.1, HK.out.2.1, HK.out.2.2.1.like rfl rfl rfl rfl, HK.out.2.2.2.1, HK.out.2.2.2.2.1, HDD.out⟩⟩
                case measure => (simp [intOf]; try omega)
              | false =>
                rw [hgy] at iG
                have hyL : y ∉ L := fun h => by have := (HK.out.2.2.2.1.g y).2 h; rw [hgy] at this; cases this
                have HDD := Lib.hid (HK.out.2.2.2.2.2.yes hy)
                have HDn := Lib.hid (HK.out.2.2.2.2.1.more (Nat.le_of_lt HK.out.1) y)
                have HW2 := Lib.hid (HK.out.2.2.2.1.add (List.mem_of_getElem? HK.out.2.1) HX.out.2.1 HND.out hym hyL)
                have HL2 : Hid (i < (L ++ [y]).length ∧ (L ++ [y])[i]? = some z) := Lib.hid ⟨by simp; have := HK.out.1; omega, by rw [List.getElem?_append_left HK.out.1]; exact HK.out.2.1⟩
                clear hgy hy
                go_upto_region 17 with (fail)
                refine name_world ?_
                intro W6 hW6
                have HS6 : Hid (Nm W W6 b c.length (upd g y true) (.slice q L.length cq) L) := Lib.hid (by rw [hW6]; exact HK.out.2.2.1.set y true)
                have hbw : b < wo.heap.size := hbo
                have HM6 : Hid (Ch (fun z => z < wo.heap.size) w5 W6) := Lib.hid (by rw [hW6]; exact HM.out.2.set (.inl hbw) y _)
                have iO6 : W6.cell? ⟨g5, 0 + k, none⟩ = some (.int .i64 (y : Int)) := by
                  rw [hW6, Nat.zero_add, cs_other (by omega)]
                  exact iO
                rw [Nat.zero_add] at iO6
                have hsb : b + 1 ≤ W6.heap.size := HS6.out.fv.lt
                obtain ⟨i0, hi0, hz0, hz1, hz2⟩ := info_parts info_int
                clear hW6 iO iG fG
                go_wp2_with (at_builtin; refine wpList_append_own_at _ rfl _ _ 36 rfl (b + 1) 3 i0 (.int .i64 0) 1 8 Tryd.underlying36 hi0 hz0 hz1 hz2 rfl (by decide) (.slice q L.length cq) L.length (rw_ L.length (lv L)) rfl (World.ownsRow.alloc HS6.out.gv _) ⟨W6.heap.size, 0, none⟩ 1 1 [.int .i64 (y : Int)] rfl rfl (cell_one_new _ _ _) (fun u hu => by simp at hu; subst hu; rfl) (by unfold maxLen; omega) (by omega) (by simp; omega) ?_; intro v8 w8 hown hgrow _ hats; have HG8 : Hid (GV 3 (b + 1) w8 v8 (L.length + 1) (upd (lv L) L.length (.int .i64 (y : Int)))) := Lib.hid (GV.more hown); have HA8 : Hid (Apd W6 w8 (.slice q L.length cq) v8) := Lib.hid (apd_of hgrow hats); clear hown hgrow hats)
                obtain ⟨q8, cp8, rfl, -⟩ := HG8.out.open
                go_roundw
                case rel =>
                  have hs6 := HM6.out.size
                  refine ⟨k + 1, _, L ++ [y], q8, cp8, by rw [List.length_append]; rfl, by go_num, by omega, Lib.hid ⟨fun gb e => ?_, HM6.out.fresh HA8.out.1 fun z hz e => ?_⟩, Lib.hid ⟨HL2.out.1, HL2.out.2, by have := HS6.out.app HA8.out HG8.out; rw [List.length_append]; exact this, HW2.out, HDn.out, HDD.out⟩⟩
                  · rcases HA8.out.2 with h | ⟨g', h, h2⟩
                    · exact HM.out.1 gb (h.symm.trans (by rw [List.length_append] at e; exact e))
                    · rw [List.length_append] at e
                      rw [show (Value.slice q8 (L.length + [y].length) cp8).ownBlock = some g' from h] at e
                      cases e
                      exact .inr (by omega)
                  · have := HM.out.1 z e
                    omega
                case measure => (simp [intOf]; try omega)
            · obtain rfl : k = O.length := by omega
              have HDn := Lib.hid (HK.out.2.2.2.2.1.next HK.out.2.1 HX.out.2.1 HNU.out (by rw [HO.out]; exact HK.out.2.2.2.2.2))
              have hiL := HK.out.1
              go_wp2
              go_roundw
              case rel => exact ⟨i + 1, g, L, q, cq, rfl, by go_num, by omega, Lib.hid ⟨HK.out.2.2.1, HK.out.2.2.2.1, HDn.out⟩⟩
              case measure => (simp [intOf]; try omega)
    · obtain rfl : i = L.length := by omega
      go_wp2
      go_ret
      exact ⟨false, rfl, ⟨fun e => (by cases e), fun h => absurd h (HR.out.2.1.never HR.out.2.2)⟩, HR.out.1.bel⟩
end Go.Proofs.YthodpkcjdbkdnaaDoor
namespace Go.Proofs.YthodpkcjdbkdnaaDoor
open Go Go.RowKit Gm

/-- How many come to a place from the first ones. -/
def cmz (c : List Ic) (k : Nat) (i : Nat) : Nat := ((List.range k).flatMap (outs c)).count i
def cmq (c : List Ic) (k q : Nat) (i : Nat) : Nat := cmz c k i + ((outs c k).take q).count i
theorem cmq_zero (c : List Ic) (k : Nat) : cmq c k 0 = cmz c k := by
  funext i
  simp [cmq]
theorem cmq_full (c : List Ic) (k : Nat) : cmq c k (outs c k).length = cmz c (k + 1) := by
  funext i
  unfold cmq cmz
  rw [List.take_length, List.range_succ, List.flatMap_append, List.count_append]
  simp
theorem cmq_next {c : List Ic} {k q j : Nat} (h : (outs c k)[q]? = some j) : cmq c k (q + 1) = upd (cmq c k q) j (cmq c k q j + 1) := by
  funext i
  show cmz c k i + _ = if i = j then cmz c k j + _ + 1 else cmz c k i + _
  rw [List.take_add_one, h, List.count_append]
  by_cases e : i = j
  · subst e
    simp [Nat.add_assoc]
  · rw [if_neg e]
    have : List.count i (some j).toList = 0 := by
      rw [List.count_eq_zero]
      simpa using e
    omega
theorem cmz_le (c : List Ic) (k i : Nat) : cmz c k i ≤ 2 * k := by
  unfold cmz
  refine Nat.le_trans List.count_le_length ?_
  induction k with
  | zero => simp
  | succ k ih =>
    rw [List.range_succ, List.flatMap_append, List.length_append]
    have := outs_len c k
    have e : (List.flatMap (outs c) [k]).length = (outs c k).length := by simp
    omega
theorem cmq_le (c : List Ic) (k q i : Nat) : cmq c k q i ≤ 2 * k + 2 := by
  unfold cmq
  have h1 := cmz_le c k i
  have h2 : ((outs c k).take q).count i ≤ (outs c k).length := Nat.le_trans List.count_le_length (by simp; omega)
  have := outs_len c k
  omega
theorem nv_upd2 (f : Nat → Nat) (i x : Nat) : upd (fun i => (f i : Int)) i (x : Int) = fun j => ((upd f i x j : Nat) : Int) := by
  funext j
  unfold upd
  split <;> rfl
/-- What goes makes, in memory: k rows are told. -/
structure Gs (W X : World) (c : List Ic) (b1 b2 B k : Nat) (F : Nat → Value) (K : Nat → Nat) : Prop where
  bel : Below W.heap.size W X
  f1 : FV 36 X b1 c.length F
  f2 : FV 3 X b2 c.length (iv fun i => (K i : Int))
  rw : ∀ i, i < k → GV 3 B X (F i) (outs c i).length (lv (outs c i))
  hb1 : W.heap.size ≤ b1 ∧ W.heap.size ≤ b2 ∧ b1 ≠ b2 ∧ b1 < B ∧ b2 < B
section
variable {W X Y : World} {c : List Ic} {b1 b2 B k : Nat} {F : Nat → Value} {K : Nat → Nat}
theorem Gs.stay (h : Gs W X c b1 b2 B k F K) (hb : Below X.heap.size X Y) : Gs W Y c b1 b2 B k F K := ⟨h.bel.trans (hb.mono h.bel.size), h.f1.stay hb, h.f2.stay hb, fun i hi => (h.rw i hi).stay hb, h.hb1⟩
theorem Gs.like (h : Gs W X c b1 b2 B k F K) (e : Y.heap = X.heap) (e1 : Y.os = X.os) (e2 : Y.tape = X.tape) (e3 : Y.output = X.output) : Gs W Y c b1 b2 B k F K := h.stay (below_like (Below.refl _ _) e e1 e2 e3)
theorem Gs.row (h : Gs W X c b1 b2 B k F K) {v : Value} (hg : GV 3 B X v (outs c k).length (lv (outs c k))) : Gs W (X.setCell ⟨b1, k, none⟩ v) c b1 b2 B (k + 1) (upd F k v) K := by
  refine ⟨h.bel.setCell (p := ⟨b1, k, none⟩) h.hb1.1 _, h.f1.set k v, h.f2.setO h.hb1.2.2.1.symm k v, fun i hi => ?_, h.hb1⟩
  by_cases e : i = k
  · subst e
    rw [upd_at]
    exact hg.setO (fun e => by have := (hg.lt _ e).1; have := h.hb1; omega) _ _
  · rw [upd_of e]
    have hg := h.rw i (by omega)
    exact hg.setO (fun e => by have := (hg.lt _ e).1; have := h.hb1; omega) _ _
theorem Gs.come (h : Gs W X c b1 b2 B k F K) (j n : Nat) : Gs W (X.setCell ⟨b2, j, none⟩ (.int .i64 (n : Int))) c b1 b2 B k F (upd K j n) := by
  refine ⟨h.bel.setCell (p := ⟨b2, j, none⟩) h.hb1.2.1 _, h.f1.setO h.hb1.2.2.1 _ _, ?_, fun i hi => (h.rw i hi).setO (fun e => by have := ((h.rw i hi).lt _ e).1; have := h.hb1; omega) _ _, h.hb1⟩
  have := h.f2.set j (.int .i64 (n : Int))
  rw [iv_upd, nv_upd2] at this
  exact this
end
def oII (n : Nat) : Obj := .cells (rw_ n fun _ => .slice none 0 0).toArray 36
def oI (n : Nat) : Obj := .cells (rw_ n fun _ => .int .i64 0).toArray 3
theorem cmz_zero (c : List Ic) : cmz c 0 = fun _ => 0 := by
  funext i
  simp [cmz]
/-- Both rows are made, in either order. -/
def Gs0 (W : World) (c : List Ic) (p : Option Addr) (cap b1 b2 B : Nat) (wx : World) : Prop := Gs W wx c b1 b2 B 0 (fun _ => .slice none 0 0) (cmz c 0) ∧ wx.heap[W.heap.size]? = some (.cells #[.slice p c.length cap] 44 (0, 0)) ∧ B ≤ wx.heap.size ∧ W.heap.size < b1 ∧ W.heap.size < b2
theorem gs0_a (W : World) (c : List Ic) (p : Option Addr) (cap : Nat) : Gs0 W c p cap (W.heap.size + 1) (W.heap.size + 1 + 1) (W.heap.size + 3) (((W.alloc (.cells #[.slice p c.length cap] 44)).alloc (oII c.length)).alloc (oI c.length)) := by
  have h0 := heap_alloc_new W (.cells #[.slice p c.length cap] 44)
  obtain ⟨V, hV⟩ : ∃ V, W.alloc (.cells #[.slice p c.length cap] 44) = V := ⟨_, rfl⟩
  have hs : V.heap.size = W.heap.size + 1 := by rw [← hV]; simp
  have hb : Below W.heap.size W V := by rw [← hV]; exact below1 _ _
  rw [hV] at h0 ⊢
  have f1 : FV 36 (V.alloc (oII c.length)) (W.heap.size + 1) c.length fun _ => .slice none 0 0 := FV.new hs.symm (by simp)
  have f2 : FV 3 ((V.alloc (oII c.length)).alloc (oI c.length)) (W.heap.size + 1 + 1) c.length fun _ => .int .i64 0 := FV.new (by simp [hs]) (by simp)
  refine ⟨⟨hb.trans (((Below.refl _ _).alloc (by omega) _).alloc (by simp; omega) _), f1.alloc _, ?_, fun i hi => absurd hi (Nat.not_lt_zero _), by omega⟩, ?_, by simp [hs], by omega, by omega⟩
  · rw [cmz_zero]
    exact f2
  · exact ((Below.heap_alloc _ _ _ (by simp; omega)).trans (Below.heap_alloc _ _ _ (by omega))).trans h0
theorem gs0_b (W : World) (c : List Ic) (p : Option Addr) (cap : Nat) : Gs0 W c p cap (W.heap.size + 1 + 1) (W.heap.size + 1) (W.heap.size + 3) (((W.alloc (.cells #[.slice p c.length cap] 44)).alloc (oI c.length)).alloc (oII c.length)) := by
  have h0 := heap_alloc_new W (.cells #[.slice p c.length cap] 44)
  obtain ⟨V, hV⟩ : ∃ V, W.alloc (.cells #[.slice p c.length cap] 44) = V := ⟨_, rfl⟩
  have hs : V.heap.size = W.heap.size + 1 := by rw [← hV]; simp
  have hb : Below W.heap.size W V := by rw [← hV]; exact below1 _ _
  rw [hV] at h0 ⊢
  have f1 : FV 3 (V.alloc (oI c.length)) (W.heap.size + 1) c.length fun _ => .int .i64 0 := FV.new hs.symm (by simp)
  have f2 : FV 36 ((V.alloc (oI c.length)).alloc (oII c.length)) (W.heap.size + 1 + 1) c.length fun _ => .slice none 0 0 := FV.new (by simp [hs]) (by simp)
  refine ⟨⟨hb.trans (((Below.refl _ _).alloc (by omega) _).alloc (by simp; omega) _), f2, ?_, fun i hi => absurd hi (Nat.not_lt_zero _), by omega⟩, ?_, by simp [hs], by omega, by omega⟩
  · rw [cmz_zero]
    exact f1.alloc _
  · exact ((Below.heap_alloc _ _ _ (by simp; omega)).trans (Below.heap_alloc _ _ _ (by omega))).trans h0
theorem Gs0.like {W : World} {c : List Ic} {p : Option Addr} {cap b1 b2 B : Nat} {X Y : World} (h : Gs0 W c p cap b1 b2 B X) (e : Y.heap = X.heap) (e1 : Y.os = X.os) (e2 : Y.tape = X.tape) (e3 : Y.output = X.output) : Gs0 W c p cap b1 b2 B Y := ⟨h.1.like e e1 e2 e3, by rw [e]; exact h.2.1, by rw [e]; exact h.2.2.1, h.2.2.2⟩
def GoesP (W : World) (c : List Ic) (e : Ending) (w' : World) : Prop := ∃ b1 b2 B F, e = .returned (.tuple #[.slice (some ⟨b1, 0, none⟩) c.length c.length, .slice (some ⟨b2, 0, none⟩) c.length c.length]) ∧ Gs W w' c b1 b2 B c.length F (cmz c c.length) ∧ B ≤ w'.heap.size
set_option maxRecDepth 100000 in
set_option maxHeartbeats 8000000 in
theorem goes_c {W : World} {p : Option Addr} {cap : Nat} {c : List Ic} (hc : Hid (CodeAt W p c)) (E : Hid (En W)) (hn : c.length ≤ 100000) : Calls Tryd.prog 64 #[.slice p c.length cap] W (GoesP W c) := by
  have hmk := make_ii c.length (by omega)
  have hmi := make_i c.length (by omega)
  go_enter Tryd.func64, Tryd.ntmps64
  go_upto_region 1 with (fail)
  go_cut [2, 3] from 9 (fun a2 a3 wx => ∃ b1 b2 B, a2 = .slice (some ⟨b1, 0, none⟩) c.length c.length ∧ a3 = .slice (some ⟨b2, 0, none⟩) c.length c.length ∧ Hid (Gs0 W c p cap b1 b2 B wx))
  case first =>
    go_region
    all_goals go_wp2_with fail
    all_goals go_meet
    all_goals first
      | exact ⟨_, _, _, rfl, rfl, Lib.hid ((gs0_a W c p cap).like rfl rfl rfl rfl)⟩
      | exact ⟨_, _, _, rfl, rfl, Lib.hid ((gs0_b W c p cap).like rfl rfl rfl rfl)⟩
  case rest =>
    clear hmk hmi
    obtain ⟨b1, b2, B, rfl, rfl, H0⟩ := hcut
    obtain ⟨bx, hbx⟩ : ∃ bx, W.heap.size = bx := ⟨_, rfl⟩
    have hX0 := H0.out.2.1
    rw [hbx] at hX0
    have HX0 := Lib.hid hX0
    have hxl : bx < wc.heap.size := (Array.getElem?_eq_some_iff.1 hX0).1
    have cx : wc.cell? ⟨bx, 0, none⟩ = some (.slice p c.length cap) := by rw [cell_of_row _ _ _ _ _ _ hX0]; rfl
    have hbb : bx ≠ b1 ∧ bx ≠ b2 ∧ bx < B := by have := H0.out.2.2.2; have := H0.out.1.hb1; omega
    have HBX := Lib.hid hbx
    have hBs : B ≤ wc.heap.size := H0.out.2.2.1
    rw [hbx]
    clear hX0 hbx
    have HE := Lib.hid (E.out.below H0.out.1.bel)
    go_wp2
    go_loopw [18] (fun a wr => ∃ (k : Nat) (F : Nat → Value), a = .int .i64 k ∧ k ≤ c.length ∧ Hid (Gs W wr c b1 b2 B k F (cmz c k) ∧ wr.heap[bx]? = some (.cells #[.slice p c.length cap] 44 (0, 0)) ∧ B ≤ wr.heap.size)) (fun a _ => c.length - (intOf a).toNat)
    case atStart => exact ⟨0, _, rfl, Nat.zero_le _, Lib.hid ⟨H0.out.1, HX0.out, hBs⟩⟩
    case round =>
      obtain ⟨wo, rfl⟩ : ∃ wo : World, wo = wr := ⟨_, rfl⟩
      obtain ⟨k, F, rfl, hk, HR⟩ := hrel
      clear cx hxl HX0 HE
      by_cases hlt : k < c.length
      · obtain ⟨x, hx⟩ : ∃ x, c[k]? = some x := ⟨_, List.getElem?_eq_getElem hlt⟩
        obtain ⟨gc, oc, ep, hgc, hat7, hok⟩ := (hc.out.stay HR.out.1.bel) k x hx
        have k0 := hat7.k
        have k1 := hat7.o
        have k2 := hat7.d
        have k3 := hat7.a
        have k4 := hat7.b
        have k5 := hat7.n
        have k6 := hat7.t
        have HXK := Lib.hid hx
        have HEP := Lib.hid ep
        subst ep
        clear hat7 hok hx
        go_upto_region 6 with (fail)
        refine name_world ?_
        intro V1 hV1
        obtain ⟨m, hm⟩ : ∃ m, wo.heap.size = m := ⟨_, rfl⟩
        have HI : Hid (Ib V1 m (.int .i64 x.k) (.int .i64 x.o) (.int .i64 x.d) (.int .i64 x.a) (.int .i64 x.b) (.int .i64 x.n) (.int .i64 x.t)) := Lib.hid (by rw [hV1]; exact Ib.new hm.symm _ _ _ _ _ _ _)
        have HB1 : Hid (Below wo.heap.size wo V1) := Lib.hid (by rw [hV1]; exact below1 _ _)
        have HG1 := Lib.hid (HR.out.1.stay HB1.out)
        have HX1 := Lib.hid ((HB1.out.block bx (Array.getElem?_eq_some_iff.1 HR.out.2.1).1).trans HR.out.2.1)
        have HE1 : Hid (En V1) := Lib.hid (E.out.below HG1.out.bel)
        have hs1 : V1.heap.size = m + 1 := by rw [hV1, ← hm]; simp
        have hBm : B ≤ m := by rw [← hm]; exact HR.out.2.2
        try rw [hm]
        clear hV1 k0 k1 k2 k3 k4 k5 k6
        obtain ⟨bm, y0, y1, y2, y3, y4, y5, y6, -⟩ := HI.out.facts
        go_upto_region 7 with (first
          | (go_at_call 75; (with_reducible refine (next_any x k _ (by omega) (by omega) HE1.out.kinds).mono ?_); rintro e6 w6 ⟨v6, rfl, hr6, hb6⟩; have HR6 := Lib.hid hr6; have HB6 := Lib.hid hb6; have HX6 := Lib.hid ((hb6.block bx (by omega)).trans HX1.out); have HO6 : Hid (∀ g, v6.ownBlock = some g → V1.heap.size ≤ g ∧ g < w6.heap.size) := Lib.hid (fun g e => hr6.gv.lt g e); clear hr6 hb6)
          | (go_at_call 56; (with_reducible refine (ldelete_own HR6.out (Nat.le_trans (nextM_len x k) (by omega)) HX6.out (fun e => by have := HO6.out _ e; omega)).mono ?_); rintro e7 w7 ⟨v7, rfl, hr7, hg7⟩; have hb7 : Below V1.heap.size V1 w7 := HB6.out.grown hg7 HB6.out.size (fun b e => (HO6.out b e).1); have HG7 := Lib.hid (HG1.out.stay hb7); have HR7 : Hid (GV 3 V1.heap.size w7 v7 (outs c k).length (lv (outs c k))) := Lib.hid (Rw.lv (by rw [← inn_outs HXK.out]; exact hr7)); have HB7 := Lib.hid hb7; have i1 := HG7.out.f1.cell hlt; have j1 := HG7.out.f1.frozen k; clear hr7 hb7 hg7; obtain ⟨q7, c7, rfl, -⟩ := HR7.out.open))
        refine name_world ?_
        intro V8 hV8
        have HG8 : Hid (Gs W V8 c b1 b2 B (k + 1) (upd F k (.slice q7 (outs c k).length c7)) (cmq c k 0)) := Lib.hid (by
          rw [hV8, cmq_zero]
          exact HG7.out.row (HR7.out.mono (by omega)))
        have hx8 : V8.heap[bx]? = w7.heap[bx]? := by
          rw [hV8]
          exact heap_setCell_other w7 ⟨b1, k, none⟩ bx _ hbb.1
        have HX8 := Lib.hid (hx8.trans ((HB7.out.block bx (by omega)).trans HX1.out))
        have hs8 : B ≤ V8.heap.size := by
          have := HB7.out.size
          have e : V8.heap.size = w7.heap.size := by rw [hV8]; simp [World.setCell]
          omega
        have HL := Lib.hid (outs_len c k)
        clear hx8 hV8 i1 j1 y0 y1 y2 y3 y4 y5 y6 bm hs1 hBm hm
        have i8 := HG8.out.f1.cell hlt
        rw [upd_at] at i8
        obtain ⟨O, hO⟩ : ∃ O, outs c k = O := ⟨_, rfl⟩
        have HO := Lib.hid hO
        have hol := outs_len c k
        rw [hO] at hol
        simp only [hO] at i8 ⊢
        clear hO
        go_upto_region 8 with (fail)
        clear i8
        go_loopw [36] (fun a wr => ∃ (q : Nat), a = .int .i64 q ∧ q ≤ O.length ∧ Hid (Gs W wr c b1 b2 B (k + 1) (upd F k (.slice q7 (outs c k).length c7)) (cmq c k q) ∧ wr.heap[bx]? = V8.heap[bx]? ∧ B ≤ wr.heap.size)) (fun a _ => O.length - (intOf a).toNat)
        case atStart => exact ⟨0, rfl, Nat.zero_le _, Lib.hid ⟨HG8.out, rfl, hs8⟩⟩
        case round =>
          obtain ⟨wi, rfl⟩ : ∃ wo : World, wo = wr := ⟨_, rfl⟩
          obtain ⟨q, rfl, hq, HQ⟩ := hrel
          by_cases hql : q < O.length
          · obtain ⟨j, hj⟩ : ∃ j, O[q]? = some j := ⟨_, List.getElem?_eq_getElem hql⟩
            have hjc : (outs c k)[q]? = some j := by rw [HO.out]; exact hj
            have hjn := (outs_lt (List.mem_of_getElem? hjc)).2
            have hrow := HQ.out.1.rw k (by omega)
            rw [upd_at] at hrow
            obtain ⟨q', c', e', hqq⟩ := hrow.open
            have hlo : (outs c k).length = O.length := by rw [HO.out]
            injection e' with e1 e2 e3
            obtain ⟨gl, egl, hown, hgl, hgB, -, -, hcell⟩ := hqq.resolve_left (fun e => by omega)
            have il := hcell q (by omega)
            have ilv : lv (outs c k) q = .int .i64 (j : Int) := by simp [lv, hjc]
            rw [ilv] at il
            have eq7 : q7 = some ⟨gl, 0, none⟩ := e1.trans egl
            have i2 := HQ.out.1.f2.cell hjn
            have f2 := HQ.out.1.f2.frozen j
            simp only [iv] at i2
            have hb2 := cmq_le c k q j
            obtain ⟨N, hN⟩ : ∃ N, cmq c k q j = N := ⟨_, rfl⟩
            rw [hN] at i2 hb2
            have HN : Hid (∀ X : World, Gs W X c b1 b2 B (k + 1) (upd F k (.slice q7 (outs c k).length c7)) (cmq c k q) → Gs W (X.setCell ⟨b2, j, none⟩ (.int .i64 ((N + 1 : Nat) : Int))) c b1 b2 B (k + 1) (upd F k (.slice q7 (outs c k).length c7)) (cmq c k (q + 1))) := Lib.hid fun X hX => by
              have h2 := cmq_next hjc
              rw [hN] at h2
              rw [h2]
              exact hX.come j (N + 1)
            have HE7 := Lib.hid eq7
            subst eq7
            clear hrow hqq hcell ilv hjc hN e1 e2 e3 egl hlo hj
            go_wp2
            go_roundw
            case rel =>
              refine ⟨q + 1, by go_num, by omega, Lib.hid ⟨(HN.out _ HQ.out.1).like rfl rfl rfl rfl, ?_, ?_⟩⟩
              · exact (heap_setCell_other wi ⟨b2, j, none⟩ bx _ hbb.2.1).trans HQ.out.2.1
              · have := HQ.out.2.2
                simpa [World.setCell] using this
            case measure => (simp [intOf]; try omega)
          · obtain rfl : q = O.length := by omega
            go_wp2
            go_roundw
            case rel =>
              refine ⟨k + 1, upd F k (.slice q7 (outs c k).length c7), by go_num, by omega, Lib.hid ⟨?_, HQ.out.2.1.trans HX8.out, HQ.out.2.2⟩⟩
              have := HQ.out.1
              rw [show O.length = (outs c k).length by rw [HO.out], cmq_full] at this
              exact this
            case measure => (simp [intOf]; try omega)
      · obtain rfl : k = c.length := by omega
        go_wp2
        go_ret2
        exact ⟨b1, b2, B, F, rfl, HR.out.1, HR.out.2.2⟩
end Go.Proofs.YthodpkcjdbkdnaaDoor
namespace Go.Proofs.YthodpkcjdbkdnaaDoor
open Gm

theorem cmz_succ (c : List Ic) (k i : Nat) : cmz c (k + 1) i = cmz c k i + (outs c k).count i := by
  unfold cmz
  rw [List.range_succ, List.flatMap_append, List.count_append]
  simp
theorem cmz_mono (c : List Ic) {k n i : Nat} (h : k ≤ n) : cmz c k i ≤ cmz c n i := by
  induction n with
  | zero => rw [show k = 0 by omega]; exact Nat.le_refl _
  | succ n ih =>
    by_cases e : k = n + 1
    · rw [e]; exact Nat.le_refl _
    · have := ih (by omega)
      rw [cmz_succ]
      omega
theorem cmz_one {c : List Ic} {n i a : Nat} (ha : a < n) (h : i ∈ outs c a) : 1 ≤ cmz c n i := by
  have h1 := cmz_mono c (k := a + 1) (n := n) (i := i) (by omega)
  rw [cmz_succ] at h1
  have := List.count_pos_iff.2 h
  omega
theorem cmz_two {c : List Ic} {n i a b : Nat} (hab : a < b) (hb : b < n) (h : i ∈ outs c a) (k : i ∈ outs c b) : 2 ≤ cmz c n i := by
  have h1 := cmz_mono c (k := b + 1) (n := n) (i := i) (by omega)
  rw [cmz_succ] at h1
  have := List.count_pos_iff.2 k
  have := cmz_one (n := b) hab h
  omega
/-- The first k places are cut into K stretches, from fs to es; of: which one. -/
structure Cuts (c : List Ic) (k K : Nat) (fs es of : Nat → Nat) : Prop where
  pos : 0 < k → 0 < K
  K0 : k = 0 → K = 0
  Kle : K ≤ k
  f0 : 0 < K → fs 0 = 0
  nxt : ∀ s, s + 1 < K → fs (s + 1) = es s + 1
  le : ∀ s, s < K → fs s ≤ es s ∧ es s < k
  last : 0 < K → es (K - 1) + 1 = k
  ofl : ∀ i, i < k → of i < K ∧ fs (of i) ≤ i ∧ i ≤ es (of i)
  inn : ∀ s i, s < K → fs s < i → i ≤ es s → outs c (i - 1) = [i] ∧ cmz c c.length i = 1
section
variable {c : List Ic} {k K : Nat} {fs es of : Nat → Nat}
theorem Cuts.zero (c : List Ic) (fs es of : Nat → Nat) : Cuts c 0 0 fs es of := ⟨fun h => h, fun _ => rfl, Nat.le_refl _, fun h => absurd h (by omega), fun _ h => absurd h (by omega), fun _ h => absurd h (by omega), fun h => absurd h (by omega), fun _ h => absurd h (by omega), fun _ _ h => absurd h (by omega)⟩
theorem Cuts.new (h : Cuts c k K fs es of) : Cuts c (k + 1) (K + 1) (upd fs K k) (upd es K k) (upd of k K) := by
  have hl : 0 < K → es (K - 1) + 1 = k := h.last
  refine ⟨by omega, by omega, by have := h.Kle; omega, fun _ => ?_, fun s hs => ?_, fun s hs => ?_, fun _ => ?_, fun i hi => ?_, fun s i hs h1 h2 => ?_⟩
  · by_cases e : K = 0
    · subst e
      rw [upd_at]
      refine Classical.byContradiction fun hk => ?_
      have := h.pos (by omega)
      omega
    · rw [upd_of fun e2 => e e2.symm]
      exact h.f0 (by omega)
  · by_cases e : s + 1 = K
    · subst e
      rw [upd_at, upd_of (by omega)]
      have := hl (by omega)
      simp only [Nat.add_sub_cancel] at this
      omega
    · rw [upd_of e, upd_of (by omega)]
      exact h.nxt s (by omega)
  · by_cases e : s = K
    · subst e
      rw [upd_at, upd_at]
      omega
    · rw [upd_of e, upd_of e]
      have := h.le s (by omega)
      omega
  · rw [Nat.add_sub_cancel, upd_at]
  · by_cases e : i = k
    · subst e
      rw [upd_at, upd_at, upd_at]
      omega
    · rw [upd_of e]
      have := h.ofl i (by omega)
      rw [upd_of (by omega), upd_of (by omega)]
      omega
  · by_cases e : s = K
    · subst e
      rw [upd_at] at h1 h2
      omega
    · rw [upd_of e] at h1 h2
      exact h.inn s i (by omega) h1 h2
theorem Cuts.ext (h : Cuts c k K fs es of) (hk : 0 < k) (h1 : outs c (k - 1) = [k]) (h2 : cmz c c.length k = 1) : Cuts c (k + 1) K fs (upd es (K - 1) k) (upd of k (K - 1)) := by
  have hK := h.pos hk
  have hl := h.last hK
  refine ⟨fun _ => hK, by omega, by have := h.Kle; omega, h.f0, fun s hs => ?_, fun s hs => ?_, fun _ => ?_, fun i hi => ?_, fun s i hs h3 h4 => ?_⟩
  · rw [upd_of (by omega)]
    exact h.nxt s hs
  · by_cases e : s = K - 1
    · subst e
      rw [upd_at]
      have := h.le (K - 1) (by omega)
      omega
    · rw [upd_of e]
      have := h.le s hs
      omega
  · rw [upd_at]
  · by_cases e : i = k
    · subst e
      rw [upd_at, upd_at]
      have := h.le (K - 1) (by omega)
      omega
    · rw [upd_of e]
      have h5 := h.ofl i (by omega)
      refine ⟨h5.1, h5.2.1, ?_⟩
      by_cases e2 : of i = K - 1
      · rw [e2, upd_at]; omega
      · rw [upd_of e2]; exact h5.2.2
  · by_cases e : s = K - 1
    · subst e
      rw [upd_at] at h4
      by_cases e2 : i = k
      · subst e2
        exact ⟨h1, h2⟩
      · exact h.inn _ i hs h3 (by omega)
    · rw [upd_of e] at h4
      exact h.inn s i hs h3 h4
theorem Cuts.order (h : Cuts c k K fs es of) {s t : Nat} (hst : s < t) (ht : t < K) : es s < fs t := by
  induction t with
  | zero => omega
  | succ t ih =>
    have h1 := h.nxt t ht
    by_cases e : s = t
    · subst e; omega
    · have := ih (by omega) (by omega)
      have := h.le t (by omega)
      omega
theorem Cuts.one (h : Cuts c k K fs es of) {s t i : Nat} (hs : s < K) (ht : t < K) (h1 : fs s ≤ i) (h2 : i ≤ es s) (h3 : fs t ≤ i) (h4 : i ≤ es t) : s = t := by
  rcases Nat.lt_trichotomy s t with e | e | e
  · have := h.order e ht; omega
  · exact e
  · have := h.order e hs; omega
theorem Cuts.of_fs (h : Cuts c k K fs es of) {t : Nat} (ht : t < K) : of (fs t) = t := by
  have h1 := h.le t ht
  have h2 := h.ofl (fs t) (by omega)
  exact h.one h2.1 ht h2.2.1 h2.2.2 (Nat.le_refl _) h1.1
/-- Where a stretch leads to, one begins. -/
theorem Cuts.starts (h : Cuts c c.length K fs es of) {s j : Nat} (hs : s < K) (hj : j ∈ outs c (es s)) : fs (of j) = j := by
  have hjl := (outs_lt hj).2
  have h1 := h.ofl j hjl
  refine Classical.byContradiction fun hn => ?_
  obtain ⟨h2, h3⟩ := h.inn (of j) j h1.1 (by omega) h1.2.2
  have hjm : j ∈ outs c (j - 1) := by rw [h2]; simp
  have he := h.le s hs
  have e1 : es s = j - 1 := by
    rcases Nat.lt_trichotomy (es s) (j - 1) with e | e | e
    · have := cmz_two (n := c.length) e (by omega) hj hjm; omega
    · exact e
    · have := cmz_two (n := c.length) e he.2 hjm hj; omega
  have h4 := h.one hs h1.1 (i := j - 1) (by omega) (by omega) (by omega) (by omega)
  rw [h4] at e1
  omega
end
/-- The whole: stretches, with those to which each leads, and from which it is come to. -/
structure Cu (c : List Ic) (K : Nat) (fs es : Nat → Nat) (gt gf : Nat → List Nat) : Prop where
  cuts : ∃ of, Cuts c c.length K fs es of
  gto : ∀ s, s < K → ∀ t, t ∈ gt s ↔ t < K ∧ fs t ∈ outs c (es s)
  gfr : ∀ t, t < K → ∀ s, s ∈ gf t ↔ s < K ∧ t ∈ gt s
  tol : ∀ s, s < K → (gt s).length ≤ 2
  frl : ∀ t, t < K → (gf t).length ≤ 2 * K
theorem to_of {c : List Ic} {K : Nat} {fs es of : Nat → Nat} (h : Cuts c c.length K fs es of) {s : Nat} (hs : s < K) (t : Nat) : t ∈ (outs c (es s)).map of ↔ t < K ∧ fs t ∈ outs c (es s) := by
  rw [List.mem_map]
  constructor
  · rintro ⟨j, hj, rfl⟩
    exact ⟨(h.ofl j (outs_lt hj).2).1, by rw [h.starts hs hj]; exact hj⟩
  · rintro ⟨ht, hj⟩
    exact ⟨fs t, hj, h.of_fs ht⟩
end Go.Proofs.YthodpkcjdbkdnaaDoor
namespace Go.Proofs.YthodpkcjdbkdnaaDoor
open Gm

/-- Needed ahead of a place, within a stretch that ends ahead of e, with T what is so behind it. -/
inductive FlP (c : List Ic) (r : Int) (T : Prop) (e : Nat) : Nat → Prop
  | fin (h : T) : FlP c r T e e
  | use {i : Nat} {x : Ic} (hi : i < e) (hx : c[i]? = some x) (hr : r ∈ usesM x) : FlP c r T e i
  | on {i : Nat} {x : Ic} (hi : i < e) (hx : c[i]? = some x) (hd : defM x ≠ r) (h : FlP c r T e (i + 1)) : FlP c r T e i
section
variable {c : List Ic} {r : Int} {T : Prop} {e i : Nat}
theorem FlP.iff (hi : i < e) {x : Ic} (hx : c[i]? = some x) : FlP c r T e i ↔ r ∈ usesM x ∨ (defM x ≠ r ∧ FlP c r T e (i + 1)) := by
  constructor
  · intro h
    cases h with
    | fin => omega
    | use _ hy hr => rw [hx] at hy; cases hy; exact .inl hr
    | on _ hy hd h => rw [hx] at hy; cases hy; exact .inr ⟨hd, h⟩
  · rintro (h | ⟨h, k⟩)
    · exact .use hi hx h
    · exact .on hi hx h k
theorem FlP.at_end : FlP c r T e e ↔ T := by
  constructor
  · intro h
    cases h with
    | fin h => exact h
    | use hi => omega
    | on hi => omega
  · exact .fin
theorem FlP.split (h : FlP c r T e i) : FlP c r False e i ∨ (T ∧ ∀ k x, i ≤ k → k < e → c[k]? = some x → defM x ≠ r) := by
  induction h with
  | fin h => exact .inr ⟨h, fun k x h1 h2 => by omega⟩
  | use hi hx hr => exact .inl (.use hi hx hr)
  | on hi hx hd _ ih =>
    rcases ih with ih | ⟨ht, ih⟩
    · exact .inl (.on hi hx hd ih)
    · refine .inr ⟨ht, fun k x h1 h2 hk => ?_⟩
      rename_i i' x' _
      by_cases e : k = i'
      · subst e
        rw [hx] at hk
        cases hk
        exact hd
      · exact ih k x (by omega) h2 hk
end
/-- How much may still come. -/
def potL (A : Nat → Nat) (K : Nat) : Nat := ((List.range K).map fun q => 64 - (rowM (A q)).length).sum
theorem potL_succ (A : Nat → Nat) (K : Nat) : potL A (K + 1) = potL A K + (64 - (rowM (A K)).length) := by
  unfold potL
  rw [List.range_succ, List.map_append, List.sum_append]
  simp
theorem potL_le (A : Nat → Nat) (K : Nat) : potL A K ≤ 64 * K := by
  induction K with
  | zero => simp [potL]
  | succ K ih => rw [potL_succ]; omega
theorem potL_same {A A' : Nat → Nat} {K : Nat} (h : ∀ i, i < K → A i = A' i) : potL A K = potL A' K := by
  unfold potL
  congr 1
  exact List.map_congr_left fun i hi => by rw [h i (List.mem_range.1 hi)]
theorem potL_less {A : Nat → Nat} {K q m : Nat} (hq : q < K) (hm : (rowM (A q)).length < (rowM m).length) : potL (upd A q m) K + 1 ≤ potL A K := by
  have hl := rowM_len m
  induction K with
  | zero => omega
  | succ K ih =>
    rw [potL_succ, potL_succ]
    by_cases e : q = K
    · subst e
      rw [upd_at, potL_same (A := upd A q m) (A' := A) fun i hi => upd_of (by omega)]
      omega
    · have := ih (by omega)
      rw [upd_of (fun h => e h.symm)]
      omega
theorem row_more {a f : Nat} (ha : a < 18446744073709551616) (hf : f < 18446744073709551616) (h0 : f ≠ 0) (hd : ∀ r, Bt f r → ¬ Bt a r) : (rowM a).length < (rowM (a ||| f)).length := by
  have hex : ∃ r, Bt f r := Classical.byContradiction fun h => h0 (bt_none fun r hr => h ⟨r, hr⟩)
  obtain ⟨r, hr⟩ := hex
  have h1 : ∀ k : Nat, cnt a k ≤ cnt (a ||| f) k := fun k => by
    induction k with
    | zero => exact Nat.le_refl _
    | succ k ih =>
      rw [cnt_succ, cnt_succ, Nat.testBit_or]
      cases a.testBit k <;> cases f.testBit k <;> simp <;> omega
  have h2 : ∀ k : Nat, r.toNat < k → cnt a k + 1 ≤ cnt (a ||| f) k := fun k hk => by
    induction k with
    | zero => omega
    | succ k ih =>
      rw [cnt_succ, cnt_succ, Nat.testBit_or]
      by_cases e : r.toNat = k
      · subst e
        have h3 := h1 r.toNat
        have h4 : a.testBit r.toNat = false := by
          cases hh : a.testBit r.toNat with
          | false => rfl
          | true => exact absurd ⟨hr.1, hh⟩ (hd r hr)
        rw [h4, hr.2]
        simp
        omega
      · have := ih (by omega)
        cases a.testBit k <;> cases f.testBit k <;> simp <;> omega
  have := h2 64 (by have := bt_small hf hr; have := hr.1; omega)
  rw [cnt_row, cnt_row] at this
  omega
/-- Growing: what is needed of stretches so far, and which ones wait; of the one that is gone on from, the first ones are done. -/
structure Gi (K : Nat) (gf : Nat → List Nat) (Wm A0 A : Nat → Nat) (wait : List Nat) (s i m : Nat) : Prop where
  mask : ∀ t, t < K → A t < 18446744073709551616
  wmask : ∀ t, t < K → Wm t < 18446744073709551616
  sound : ∀ P : Nat → Int → Prop, (∀ t r, t < K → Bt (A0 t) r → P t r) → (∀ t q r, t < K → q ∈ gf t → P t r → ¬ Bt (Wm q) r → P q r) → ∀ t r, t < K → Bt (A t) r → P t r
  up : ∀ t r, t < K → Bt (A0 t) r → Bt (A t) r
  cl : ∀ t, t < K → t ∉ wait → t ≠ s → ∀ q, q ∈ gf t → ∀ r, Bt (A t) r → Bt (A q) r ∨ Bt (Wm q) r
  cs : ∀ q, q ∈ (gf s).take i → ∀ r, Bt m r → Bt (A q) r ∨ Bt (Wm q) r
  sK : s < K
  sm : A s = m
  lt : ∀ t, t ∈ wait → t < K
  gl : ∀ t q, t < K → q ∈ gf t → q < K
/-- Ahead of the next one. -/
structure Go1 (K : Nat) (gf : Nat → List Nat) (Wm A0 A : Nat → Nat) (wait : List Nat) : Prop where
  mask : ∀ t, t < K → A t < 18446744073709551616
  wmask : ∀ t, t < K → Wm t < 18446744073709551616
  sound : ∀ P : Nat → Int → Prop, (∀ t r, t < K → Bt (A0 t) r → P t r) → (∀ t q r, t < K → q ∈ gf t → P t r → ¬ Bt (Wm q) r → P q r) → ∀ t r, t < K → Bt (A t) r → P t r
  up : ∀ t r, t < K → Bt (A0 t) r → Bt (A t) r
  cl : ∀ t, t < K → t ∉ wait → ∀ q, q ∈ gf t → ∀ r, Bt (A t) r → Bt (A q) r ∨ Bt (Wm q) r
  lt : ∀ t, t ∈ wait → t < K
  gl : ∀ t q, t < K → q ∈ gf t → q < K
section
variable {K : Nat} {gf : Nat → List Nat} {Wm A0 A : Nat → Nat} {wait : List Nat} {s i m q : Nat}
theorem Go1.pop (h : Go1 K gf Wm A0 A (wait ++ [s])) : Gi K gf Wm A0 A wait s 0 (A s) :=
  ⟨h.mask, h.wmask, h.sound, h.up, fun t ht hw hs => h.cl t ht fun hm => by
    rcases List.mem_append.1 hm with hm | hm
    · exact hw hm
    · exact hs (by simpa using hm), fun q hq => by simp at hq, h.lt s (by simp), rfl, fun t ht => h.lt t (by simp [ht]), h.gl⟩
theorem Gi.full (h : Gi K gf Wm A0 A wait s (gf s).length m) : Go1 K gf Wm A0 A wait :=
  ⟨h.mask, h.wmask, h.sound, h.up, fun t ht hw q hq r hr => by
    by_cases e : t = s
    · subst e
      rw [h.sm] at hr
      exact h.cs q (by rw [List.take_length]; exact hq) r hr
    · exact h.cl t ht hw e q hq r hr, h.lt, h.gl⟩
theorem Gi.no (h : Gi K gf Wm A0 A wait s i m) (hq : (gf s)[i]? = some q) (h0 : dif m (A q ||| Wm q) = 0) : Gi K gf Wm A0 A wait s (i + 1) m := by
  have hqK := h.gl s q h.sK (List.mem_of_getElem? hq)
  refine { h with cs := fun q' hq' r hr => ?_ }
  rw [List.take_add_one, hq, List.mem_append] at hq'
  rcases hq' with hq' | hq'
  · exact h.cs q' hq' r hr
  · have e : q' = q := by simpa using hq'
    subst e
    have hml : m < 18446744073709551616 := h.sm ▸ h.mask s h.sK
    refine bt_or.1 (Classical.byContradiction fun hn => ?_)
    have : Bt (dif m (A q' ||| Wm q')) r := (bt_dif hml (or_lt (h.mask q' hqK) (h.wmask q' hqK))).2 ⟨hr, hn⟩
    rw [h0] at this
    exact bt_zero r this
theorem Gi.yes (h : Gi K gf Wm A0 A wait s i m) (hq : (gf s)[i]? = some q) {f : Nat} (hf : dif m (A q ||| Wm q) = f) (h0 : f ≠ 0) :
    Gi K gf Wm A0 (upd A q (A q ||| f)) (wait ++ [q]) s (i + 1) m ∧ potL (upd A q (A q ||| f)) K + 1 ≤ potL A K := by
  have hqm := List.mem_of_getElem? hq
  have hqK := h.gl s q h.sK hqm
  have hml : m < 18446744073709551616 := h.sm ▸ h.mask s h.sK
  have hol := or_lt (h.mask q hqK) (h.wmask q hqK)
  have hfl : f < 18446744073709551616 := hf ▸ dif_lt hml
  have hfb : ∀ r, Bt f r ↔ Bt m r ∧ ¬ (Bt (A q) r ∨ Bt (Wm q) r) := fun r => by rw [← hf, bt_dif hml hol, bt_or]
  have hqs : q ≠ s := fun e => h0 (bt_none fun r hr => by
    have := (hfb r).1 hr
    rw [e, h.sm] at this
    exact this.2 (.inl this.1))
  have mono : ∀ t r, Bt (A t) r → Bt (upd A q (A q ||| f) t) r := fun t r hr => by
    by_cases e : t = q
    · subst e; rw [upd_at]; exact bt_or.2 (.inl hr)
    · rw [upd_of e]; exact hr
  refine ⟨⟨fun t ht => ?_, h.wmask, fun P h1 h2 t r ht hr => ?_, fun t r ht hr => mono t r (h.up t r ht hr), fun t ht hw hs q' hq' r hr => ?_, fun q' hq' r hr => ?_, h.sK, by rw [upd_of fun e => hqs e.symm]; exact h.sm, fun t ht => ?_, h.gl⟩, ?_⟩
  · by_cases e : t = q
    · subst e; rw [upd_at]; exact or_lt (h.mask _ ht) hfl
    · rw [upd_of e]; exact h.mask t ht
  · by_cases e : t = q
    · subst e
      rw [upd_at, bt_or] at hr
      rcases hr with hr | hr
      · exact h.sound P h1 h2 _ r ht hr
      · have h3 := (hfb r).1 hr
        exact h2 s _ r h.sK hqm (h.sound P h1 h2 s r h.sK (h.sm ▸ h3.1)) fun k => h3.2 (.inr k)
    · rw [upd_of e] at hr
      exact h.sound P h1 h2 t r ht hr
  · have htq : t ≠ q := fun e => hw (by simp [e])
    rw [upd_of htq] at hr
    rcases h.cl t ht (fun k => hw (by simp [k])) hs q' hq' r hr with k | k
    · exact .inl (mono q' r k)
    · exact .inr k
  · rw [List.take_add_one, hq, List.mem_append] at hq'
    rcases hq' with hq' | hq'
    · rcases h.cs q' hq' r hr with k | k
      · exact .inl (mono q' r k)
      · exact .inr k
    · have e : q' = q := by simpa using hq'
      subst e
      by_cases k : Bt (A q') r ∨ Bt (Wm q') r
      · exact k.imp (mono q' r) id
      · exact .inl (by rw [upd_at]; exact bt_or.2 (.inr ((hfb r).2 ⟨hr, k⟩)))
  · rcases List.mem_append.1 ht with ht | ht
    · exact h.lt t ht
    · have : t = q := by simpa using ht
      rw [this]; exact hqK
  · exact potL_less hqK (row_more (h.mask q hqK) hfl h0 fun r hr k => ((hfb r).1 hr).2 (.inl k))
end
/-- What the stretches' own masks are. -/
structure Own0 (c : List Ic) (K : Nat) (fs es : Nat → Nat) (A0 Wm : Nat → Nat) : Prop where
  a0 : ∀ s r, s < K → (Bt (A0 s) r ↔ FlP c r False (es s + 1) (fs s))
  wm : ∀ s r, s < K → (Bt (Wm s) r ↔ ∃ i x, fs s ≤ i ∧ i ≤ es s ∧ c[i]? = some x ∧ defM x = r ∧ 0 ≤ r)
theorem nd_pos {c : List Ic} {r : Int} {i : Nat} (hs : Sm c) (h : Nd c r i) : 0 ≤ r := by
  obtain ⟨j, x, hx, hr⟩ := h.rg
  rcases hr with hr | hr
  · exact (uses_sm (hs j x hx) hr).1
  · exact hr.2
section
variable {c : List Ic} {K : Nat} {fs es : Nat → Nat} {gt gf : Nat → List Nat} {s : Nat} {r : Int}
/-- Within a stretch. -/
theorem Cu.step (h : Cu c K fs es gt gf) (hs : s < K) {i : Nat} (h1 : fs s ≤ i) (h2 : i < es s) : outs c i = [i + 1] := by
  obtain ⟨of, hc⟩ := h.cuts
  have := (hc.inn s (i + 1) hs (by omega) (by omega)).1
  simpa using this
theorem Cu.le (h : Cu c K fs es gt gf) (hs : s < K) : fs s ≤ es s ∧ es s < c.length := by
  obtain ⟨of, hc⟩ := h.cuts
  exact hc.le s hs
theorem Cu.bh_in (h : Cu c K fs es gt gf) (hs : s < K) {i : Nat} (h1 : fs s ≤ i) (h2 : i < es s) : Bh c r i ↔ Nd c r (i + 1) := by
  unfold Bh
  rw [h.step hs h1 h2]
  simp
theorem Cu.fl_nd (h : Cu c K fs es gt gf) (hs : s < K) (d : Nat) : ∀ i, es s + 1 - i = d → fs s ≤ i → i ≤ es s → (FlP c r (Bh c r (es s)) (es s + 1) i ↔ Nd c r i) := by
  have hle := h.le hs
  induction d with
  | zero => intro i h1 h2 h3; omega
  | succ d ih =>
    intro i h1 h2 h3
    obtain ⟨x, hx⟩ : ∃ x, c[i]? = some x := ⟨_, List.getElem?_eq_getElem (by omega)⟩
    rw [FlP.iff (by omega) hx, Nd.iff hx]
    by_cases e : i = es s
    · subst e
      rw [FlP.at_end]
    · rw [ih (i + 1) (by omega) (by omega) (by omega), h.bh_in hs h2 (by omega)]
/-- Where nothing is needed but what the fixed end says. -/
theorem need_iff (h : Cu c K fs es gt gf) (hsm : Sm c) {A0 Wm A : Nat → Nat} (ho : Own0 c K fs es A0 Wm) (hg : Go1 K gf Wm A0 A []) (hs : s < K) : Bt (A s) r ↔ Nd c r (fs s) := by
  constructor
  · intro hb
    refine hg.sound (fun t r => Nd c r (fs t)) (fun t r ht hr => ?_) (fun t q r ht hq hn hw => ?_) s r hs hb
    · have hle := h.le ht
      have key : ∀ d i, es t + 1 - i = d → fs t ≤ i → i ≤ es t → FlP c r False (es t + 1) i → Nd c r i := by
        intro d
        induction d with
        | zero => intro i h1 h2 h3; omega
        | succ d ih =>
          intro i h1 h2 h3 hf
          obtain ⟨x, hx⟩ : ∃ x, c[i]? = some x := ⟨_, List.getElem?_eq_getElem (by omega)⟩
          rw [FlP.iff (by omega) hx] at hf
          rw [Nd.iff hx]
          rcases hf with hf | ⟨hd, hf⟩
          · exact .inl hf
          · by_cases e : i = es t
            · subst e
              rw [FlP.at_end] at hf
              exact hf.elim
            · exact .inr ⟨hd, (h.bh_in ht h2 (by omega)).2 (ih (i + 1) (by omega) (by omega) (by omega) hf)⟩
      exact key _ (fs t) rfl (Nat.le_refl _) hle.1 ((ho.a0 t r ht).1 hr)
    · have hqt := (h.gfr t ht q).1 hq
      have hle := h.le hqt.1
      have hto := (h.gto q hqt.1 t).1 hqt.2
      have hbh : Bh c r (es q) := ⟨_, hto.2, hn⟩
      have hnw : ∀ i x, fs q ≤ i → i ≤ es q → c[i]? = some x → defM x ≠ r := fun i x h1 h2 hx e => hw ((ho.wm q r hqt.1).2 ⟨i, x, h1, h2, hx, e, nd_pos hsm hn⟩)
      have key : ∀ d i, es q + 1 - i = d → fs q ≤ i → i ≤ es q → Nd c r i := by
        intro d
        induction d with
        | zero => intro i h1 h2 h3; omega
        | succ d ih =>
          intro i h1 h2 h3
          obtain ⟨x, hx⟩ : ∃ x, c[i]? = some x := ⟨_, List.getElem?_eq_getElem (by omega)⟩
          rw [Nd.iff hx]
          refine .inr ⟨hnw i x h2 h3 hx, ?_⟩
          by_cases e : i = es q
          · subst e; exact hbh
          · exact (h.bh_in hqt.1 h2 (by omega)).2 (ih (i + 1) (by omega) (by omega) (by omega))
      exact key _ (fs q) rfl (Nat.le_refl _) hle.1
  · intro hn
    have hfl : ∀ t, t < K → FlP c r (∃ u, u ∈ gt t ∧ Bt (A u) r) (es t + 1) (fs t) → Bt (A t) r := fun t ht hf => by
      rcases hf.split with hf | ⟨⟨u, hu, hb⟩, hnw⟩
      · exact hg.up t r ht ((ho.a0 t r ht).2 hf)
      · have huK := ((h.gto t ht u).1 hu).1
        rcases hg.cl u huK (by simp) t ((h.gfr u huK t).2 ⟨ht, hu⟩) r hb with k | k
        · exact k
        · obtain ⟨i, x, h1, h2, hx, hd, _⟩ := (ho.wm t r ht).1 k
          exact absurd hd (hnw i x h1 (by omega) hx)
    have key := hn.least (P := fun i => ∀ t, t < K → fs t ≤ i → i ≤ es t → FlP c r (∃ u, u ∈ gt t ∧ Bt (A u) r) (es t + 1) i)
      (fun i x hx hr t ht h1 h2 => .use (by omega) hx hr)
      (fun i x j hx hd hj hP t ht h1 h2 => by
        by_cases e : i = es t
        · subst e
          refine .on (by omega) hx hd (.fin ?_)
          obtain ⟨of, hc⟩ := h.cuts
          have h3 := hc.starts ht hj
          have h4 := (hc.ofl j (outs_lt hj).2)
          refine ⟨of j, (h.gto t ht _).2 ⟨h4.1, by rw [h3]; exact hj⟩, hfl _ h4.1 ?_⟩
          have := hP (of j) h4.1 h4.2.1 h4.2.2
          rwa [h3]
        · rw [h.step ht h1 (by omega)] at hj
          have e2 : j = i + 1 := by simpa using hj
          subst e2
          exact .on (by omega) hx hd (hP t ht (by omega) (by omega)))
    exact hfl s hs (key s hs (Nat.le_refl _) (h.le hs).1)
/-- .. and behind a stretch. -/
theorem behind_iff (h : Cu c K fs es gt gf) {A : Nat → Nat} (hA : ∀ t r, t < K → (Bt (A t) r ↔ Nd c r (fs t))) (hs : s < K) : (∃ t, t ∈ gt s ∧ Bt (A t) r) ↔ Bh c r (es s) := by
  constructor
  · rintro ⟨t, ht, hb⟩
    obtain ⟨h1, h2⟩ := (h.gto s hs t).1 ht
    exact ⟨_, h2, (hA t r h1).1 hb⟩
  · rintro ⟨j, hj, hn⟩
    obtain ⟨of, hc⟩ := h.cuts
    have h3 := hc.starts hs hj
    have h4 := hc.ofl j (outs_lt hj).2
    exact ⟨of j, (h.gto s hs _).2 ⟨h4.1, by rw [h3]; exact hj⟩, (hA _ r h4.1).2 (by rw [h3]; exact hn)⟩
end
end Go.Proofs.YthodpkcjdbkdnaaDoor
