/- Codes, words and turns, opened cell by cell. -/
import Derived.Test.YtnmalhjhfddjpaaSaw
import Derived.Test.YtnmalhjhfddjpaaRows
import Derived.ProofKit
import Derived.OpenShut
import Derived.Deep.Strs
import Derived.SizedLaws
namespace Go.Proofs.Ytnmalhjhfddjpaa
set_option linter.unusedSimpArgs false
set_option linter.unusedVariables false
open Go Go.ChangeShapes Go.WideShapes Go.ChangeAt Go.RowKit Go.Deep

theorem seven {α : Type} {l : List α} (h : l.length = 7) : ∃ a b c d e f g, l = [a, b, c, d, e, f, g] := by
  match l, h with
  | [a, b, c, d, e, f, g], _ => exact ⟨a, b, c, d, e, f, g, rfl⟩
theorem two_of {α : Type} {l : List α} (h : l.length = 2) : ∃ a b, l = [a, b] := by
  match l, h with
  | [a, b], _ => exact ⟨a, b, rfl⟩
theorem one_of {α : Type} {l : List α} (h : l.length = 1) : ∃ a, l = [a] := by
  match l, h with
  | [a], _ => exact ⟨a, rfl⟩
theorem cell_in {w : World} {a : Addr} {v : Value} (h : w.cell? a = some v) : a.block < w.heap.size := by
  unfold World.cell? at h
  split at h
  · rename_i e
    exact (Array.getElem?_eq_some_iff.1 e).1
  · cases h
theorem in6_of {n : Int} (h : (Lit.int .i64 n).wf = true) : In6 n := bounds_i64 h
theorem c_ins : Try.prog.cellsOf 42 = 7 := by kernel_rfl
theorem c_int : Try.prog.cellsOf 3 = 1 := by kernel_rfl
theorem c_i64 : Try.prog.cellsOf 2 = 1 := by kernel_rfl
theorem c_code : Try.prog.cellsOf 40 = 1 := by kernel_rfl
theorem c_turn : Try.prog.cellsOf 46 = 2 := by kernel_rfl
theorem c_ints : Try.prog.cellsOf 24 = 1 := by kernel_rfl
set_option maxRecDepth 100000 in
theorem ins_of {H : Type} {enc : TypeId × Value → H} {W : World} {b0 : Nat} {sp : Nat → Bool} {held : Bool} {fuel : Nat} {cs : List Value} {y : DataW H × List MemPlace} (h : DataW.trod enc Try.prog W b0 sp held fuel 42 cs = some y) :
    ∃ x : Ic, cs = [.int .i64 x.k, .int .i64 x.o, .int .i64 x.d, .int .i64 x.a, .int .i64 x.b, .int .i64 x.n, .int .i64 x.t] ∧ Ok6 x := by
  obtain ⟨xs, n, _, rfl, hl, hlen, hf⟩ := DataW.trod_struct Try.underlying42 h
  rw [c_ins] at hl
  obtain ⟨c0, c1, c2, c3, c4, c5, c6, rfl⟩ := seven hl
  obtain ⟨y0, y1, y2, y3, y4, y5, y6, rfl⟩ := seven hlen
  have g0 := hf 0 _ rfl
  have g1 := hf 1 _ rfl
  have g2 := hf 2 _ rfl
  have g3 := hf 3 _ rfl
  have g4 := hf 4 _ rfl
  have g5 := hf 5 _ rfl
  have g6 := hf 6 _ rfl
  simp [c_int, c_i64] at g0 g1 g2 g3 g4 g5 g6
  obtain ⟨k, e0, _, w0⟩ := DataW.trod_int Try.underlying3 g0
  obtain ⟨o, e1, _, w1⟩ := DataW.trod_int Try.underlying3 g1
  obtain ⟨d, e2, _, w2⟩ := DataW.trod_int Try.underlying3 g2
  obtain ⟨a, e3, _, w3⟩ := DataW.trod_int Try.underlying3 g3
  obtain ⟨b, e4, _, w4⟩ := DataW.trod_int Try.underlying3 g4
  obtain ⟨n, e5, _, w5⟩ := DataW.trod_int Try.underlying2 g5
  obtain ⟨t, e6, _, w6⟩ := DataW.trod_int Try.underlying3 g6
  simp at e0 e1 e2 e3 e4 e5 e6
  subst e0 e1 e2 e3 e4 e5 e6
  exact ⟨⟨k, o, d, a, b, n, t⟩, rfl, in6_of w0, in6_of w1, in6_of w2, in6_of w3, in6_of w4, in6_of w5, in6_of w6⟩
/-- A row of things of one cell or more, opened thing by thing. -/
theorem row_of {H : Type} {enc : TypeId × Value → H} {W : World} {sp : Nat → Bool} {held : Bool} {fuel : Nat} {t e : TypeId} (ht : Try.prog.underlying t = some (.slice e)) {z : Nat} (hz : Try.prog.cellsOf e = z) (z0 : 0 < z) {cs : List Value} {y : DataW H × List MemPlace} (h : DataW.trod enc Try.prog W 0 sp held fuel t cs = some y)
    {α : Type} [Inhabited α] (Rd : List Value → α → Prop) (hr : ∀ f cs' y', DataW.trod enc Try.prog W 0 sp held f e cs' = some y' → ∃ x, Rd cs' x) :
    ∃ p n c, cs = [.slice p n c] ∧ n ≤ maxLen ∧ ∃ l : List α, l.length = n ∧ ∀ (i : Nat) x, l[i]? = some x → ∃ g o, p = some ⟨g, o, none⟩ ∧ g < W.heap.size ∧ ∃ cs' : List Value, cs'.length = z ∧ (∀ j, j < z → W.cell? ⟨g, o + i * z + j, none⟩ = cs'[j]?) ∧ Rd cs' x := by
  rcases open_slice ht h with ⟨hcs, _⟩ | ⟨a, len, cap, m, k, D, Pl, hcs, _, hl, hcap, hm, hx, hcell⟩
  · exact ⟨none, 0, 0, hcs, Nat.zero_le _, [], rfl, fun i x hx => by simp at hx⟩
  · refine ⟨some a, len, cap, hcs, Nat.le_trans hl hcap, ?_⟩
    have hlm : len ≤ m := by
      rw [hm]
      split <;> omega
    obtain ⟨b, off, spot⟩ := a
    rw [hz] at hcell
    have key : ∀ i, i < len → ∃ x : α, spot = none ∧ b < W.heap.size ∧ ∃ cs' : List Value, cs'.length = z ∧ (∀ j, j < z → W.cell? ⟨b, off + i * z + j, none⟩ = cs'[j]?) ∧ Rd cs' x := by
      intro i hi
      obtain ⟨cs', hc, htr⟩ := hcell i (by omega)
      obtain ⟨_, hlen, hcc⟩ := World.cells?_some hc
      obtain ⟨x, hxx⟩ := hr _ _ _ htr
      obtain ⟨v0, hv0⟩ : ∃ v0, cs'[0]? = some v0 := ⟨_, List.getElem?_eq_getElem (by omega)⟩
      have hspot : spot = none := by
        obtain ⟨cs0, hc0, ht0⟩ := hcell 0 (by omega)
        obtain ⟨_, hl0, hcc0⟩ := World.cells?_some hc0
        obtain ⟨u0, hu0⟩ : ∃ u0, cs0[0]? = some u0 := ⟨_, List.getElem?_eq_getElem (by omega)⟩
        have := (hcc0 0 (by omega)).trans hu0
        simpa [Addr.add] using World.cell?_spot this
      subst hspot
      have e : ∀ j, j < z → W.cell? ⟨b, off + i * z + j, none⟩ = cs'[j]? := fun j hj => by
        have := hcc j hj
        rw [Deep.add_add, add_plain] at this
        rw [← this]
        simp [Nat.add_assoc]
      exact ⟨x, rfl, cell_in ((e 0 z0).trans hv0), cs', hlen, e, hxx⟩
    have hall : ∀ i, ∃ x : α, i < len → spot = none ∧ b < W.heap.size ∧ ∃ cs' : List Value, cs'.length = z ∧ (∀ j, j < z → W.cell? ⟨b, off + i * z + j, none⟩ = cs'[j]?) ∧ Rd cs' x := fun i => by
      by_cases hi : i < len
      · obtain ⟨x, hx⟩ := key i hi
        exact ⟨x, fun _ => hx⟩
      · exact ⟨default, fun h => absurd h hi⟩
    let f : Nat → α := fun i => Classical.choose (hall i)
    refine ⟨(List.range len).map f, by simp, fun i x hx => ?_⟩
    have hi : i < len := by
      have := (List.getElem?_eq_some_iff.1 hx).1
      simpa using this
    have hfx : f i = x := by
      rw [List.getElem?_map, List.getElem?_range hi] at hx
      simpa using hx
    obtain ⟨hsp, hb, hat⟩ := Classical.choose_spec (hall i) hi
    exact ⟨b, off, by rw [hsp], hb, hfx ▸ hat⟩
theorem code_of {H : Type} {enc : TypeId × Value → H} {W : World} {sp : Nat → Bool} {held : Bool} {fuel : Nat} {cs : List Value} {y : DataW H × List MemPlace} (h : DataW.trod enc Try.prog W 0 sp held fuel 40 cs = some y) : ∃ p c cap, cs = [.slice p (List.length (α := Ic) c) cap] ∧ CodeAt W p c := by
  haveI : Inhabited Ic := ⟨⟨0, 0, 0, 0, 0, 0, 0⟩⟩
  obtain ⟨p, n, cap, rfl, _, l, hl, hc⟩ := row_of Try.underlying40 c_ins (by decide) h (fun cs' (x : Ic) => cs' = [.int .i64 x.k, .int .i64 x.o, .int .i64 x.d, .int .i64 x.a, .int .i64 x.b, .int .i64 x.n, .int .i64 x.t] ∧ Ok6 x) (fun f cs' y' h' => ins_of h')
  refine ⟨p, l, cap, by rw [hl], fun i x hx => ?_⟩
  obtain ⟨g, o, h1, h2, cs', _, h4, rfl, h6⟩ := hc i x hx
  exact ⟨g, o, h1, h2, ⟨h4 0 (by decide), h4 1 (by decide), h4 2 (by decide), h4 3 (by decide), h4 4 (by decide), h4 5 (by decide), h4 6 (by decide)⟩, h6⟩
/-- A row of codes. -/
theorem open_codes {H : Type} {enc : TypeId × Value → H} {W : World} {a0 : Option Addr} {n c : Nat} {d : DataW H} {ps : List MemPlace} (h : DataW.Trod enc Try.prog W 0 (fun _ => true) true 22 (.slice a0 n c) d ps) : ∃ l : List (List Ic), l.length = n ∧ n ≤ maxLen ∧ CodesAt W a0 l := by
  obtain ⟨fuel, hf⟩ := h
  obtain ⟨p, n', c', he, hmx, l, hl, hc⟩ := row_of Try.underlying22 c_code (by decide) hf (fun cs' (x : List Ic) => ∃ p cap, cs' = [.slice p x.length cap] ∧ CodeAt W p x) (fun f cs' y' h' => by
    obtain ⟨p, c, cap, h1, h2⟩ := code_of h'
    exact ⟨c, p, cap, h1, h2⟩)
  simp [Value.cells] at he
  obtain ⟨rfl, rfl, rfl⟩ := he
  refine ⟨l, hl, hmx, fun i x hx => ?_⟩
  obtain ⟨g, o, h1, h2, cs', _, h4, cp, cap, rfl, h6⟩ := hc i x hx
  exact ⟨g, o, h1, h2, cp, cap, by have := h4 0 (by decide); rw [Nat.mul_one, Nat.add_zero] at this; exact this, h6⟩
/-- A row of numbers. -/
theorem open_i64s {H : Type} {enc : TypeId × Value → H} {W : World} {a0 : Option Addr} {n c : Nat} {d : DataW H} {ps : List MemPlace} (h : DataW.Trod enc Try.prog W 0 (fun _ => true) true 23 (.slice a0 n c) d ps) : ∃ l : List Int, l.length = n ∧ n ≤ maxLen ∧ IntsAt W a0 l := by
  obtain ⟨fuel, hf⟩ := h
  obtain ⟨p, n', c', he, hmx, l, hl, hc⟩ := row_of Try.underlying23 c_i64 (by decide) hf (fun cs' (x : Int) => cs' = [.int .i64 x]) (fun f cs' y' h' => by
    obtain ⟨k, e0, _, _⟩ := DataW.trod_int Try.underlying2 h'
    exact ⟨k, e0⟩)
  simp [Value.cells] at he
  obtain ⟨rfl, rfl, rfl⟩ := he
  refine ⟨l, hl, hmx, fun i x hx => ?_⟩
  obtain ⟨g, o, h1, h2, cs', _, h4, rfl⟩ := hc i x hx
  exact ⟨g, o, h1, h2, by have := h4 0 (by decide); rw [Nat.mul_one, Nat.add_zero] at this; exact this⟩
theorem ints_of {H : Type} {enc : TypeId × Value → H} {W : World} {sp : Nat → Bool} {held : Bool} {fuel : Nat} {cs : List Value} {y : DataW H × List MemPlace} (hf : DataW.trod enc Try.prog W 0 sp held fuel 24 cs = some y) : ∃ p n c, cs = [.slice p n c] ∧ n ≤ maxLen ∧ ∃ l : List Int, l.length = n ∧ IntsAt W p l := by
  obtain ⟨p, n', c', he, hmx, l, hl, hc⟩ := row_of Try.underlying24 c_int (by decide) hf (fun cs' (x : Int) => cs' = [.int .i64 x]) (fun f cs' y' h' => by
    obtain ⟨k, e0, _, _⟩ := DataW.trod_int Try.underlying3 h'
    exact ⟨k, e0⟩)
  refine ⟨p, n', c', he, hmx, l, hl, fun i x hx => ?_⟩
  obtain ⟨g, o, h1, h2, cs', _, h4, rfl⟩ := hc i x hx
  exact ⟨g, o, h1, h2, by have := h4 0 (by decide); rw [Nat.mul_one, Nat.add_zero] at this; exact this⟩
theorem open_ints_ {H : Type} {enc : TypeId × Value → H} {W : World} {a0 : Option Addr} {n c : Nat} {d : DataW H} {ps : List MemPlace} (h : DataW.Trod enc Try.prog W 0 (fun _ => true) true 24 (.slice a0 n c) d ps) : ∃ l : List Int, l.length = n ∧ n ≤ maxLen ∧ IntsAt W a0 l := by
  obtain ⟨fuel, hf⟩ := h
  obtain ⟨p, n', c', he, hmx, l, hl, hc⟩ := ints_of hf
  simp [Value.cells] at he
  obtain ⟨rfl, rfl, rfl⟩ := he
  exact ⟨l, hl, hmx, hc⟩
/-- Turns in memory. -/
def TurnsAt (w : World) (p : Option Addr) (l : List (Int × Int)) : Prop := ∀ (i : Nat) u, l[i]? = some u → ∃ g o, p = some ⟨g, o, none⟩ ∧ g < w.heap.size ∧ w.cell? ⟨g, o + i * 2, none⟩ = some (.int .i64 u.1) ∧ w.cell? ⟨g, o + i * 2 + 1, none⟩ = some (.int .i64 u.2)
theorem TurnsAt.stay {W W' : World} {p : Option Addr} {l : List (Int × Int)} (h : TurnsAt W p l) (hb : Below W.heap.size W W') : TurnsAt W' p l := fun i c hc => by
  obtain ⟨g, o, h1, h2, h3, h4⟩ := h i c hc
  exact ⟨g, o, h1, Nat.lt_of_lt_of_le h2 hb.size, (hb.cell (p := ⟨g, o + i * 2, none⟩) h2).trans h3, (hb.cell (p := ⟨g, o + i * 2 + 1, none⟩) h2).trans h4⟩
theorem open_turns {H : Type} {enc : TypeId × Value → H} {W : World} {a0 : Option Addr} {n c : Nat} {d : DataW H} {ps : List MemPlace} (h : DataW.Trod enc Try.prog W 0 (fun _ => true) true 44 (.slice a0 n c) d ps) : ∃ l : List (Int × Int), l.length = n ∧ n ≤ maxLen ∧ TurnsAt W a0 l ∧ ∀ u ∈ l, In6 u.2 := by
  obtain ⟨fuel, hf⟩ := h
  obtain ⟨p, n', c', he, hmx, l, hl, hc⟩ := row_of Try.underlying44 c_turn (by decide) hf (fun cs' (x : Int × Int) => cs' = [.int .i64 x.1, .int .i64 x.2] ∧ In6 x.2) (fun f cs' y' h' => by
    obtain ⟨z0, z1, k2, _, hl2, g3, g4⟩ := trod_struct2 Try.underlying46 h'
    rw [c_turn] at hl2
    obtain ⟨c0, c1, rfl⟩ := two_of hl2
    simp [c_int] at g3 g4
    obtain ⟨a, e3, _, _⟩ := DataW.trod_int Try.underlying3 g3
    obtain ⟨b, e4, _, w4⟩ := DataW.trod_int Try.underlying3 g4
    simp at e3 e4
    subst e3 e4
    exact ⟨(a, b), rfl, in6_of w4⟩)
  simp [Value.cells] at he
  obtain ⟨rfl, rfl, rfl⟩ := he
  refine ⟨l, hl, hmx, fun i x hx => ?_, fun u hu => ?_⟩
  · obtain ⟨g, o, h1, h2, cs', _, h4, rfl, _⟩ := hc i x hx
    exact ⟨g, o, h1, h2, h4 0 (by decide), h4 1 (by decide)⟩
  · obtain ⟨i, hi⟩ := List.getElem?_of_mem hu
    obtain ⟨_, _, _, _, _, _, _, _, h6⟩ := hc i u hi
    exact h6
theorem four_of {α : Type} {l : List α} (h : l.length = 4) : ∃ a b c d, l = [a, b, c, d] := by
  match l, h with
  | [a, b, c, d], _ => exact ⟨a, b, c, d, rfl⟩
theorem rest_of {H : Type} {enc : TypeId × Value → H} {W : World} {sp : Nat → Bool} {held : Bool} {fuel : Nat} {cs : List Value} {y : DataW H × List MemPlace} (h : DataW.trod enc Try.prog W 0 sp held fuel 26 cs = some y) :
    ∃ p n c t f m, cs = [.slice p n c, .int .i64 t, .int .i64 f, .int .i64 m] ∧ n ≤ maxLen ∧ ∃ l : List Int, l.length = n ∧ IntsAt W p l := by
  obtain ⟨xs, n, _, rfl, hl, hlen, hf⟩ := DataW.trod_struct Try.underlying26 h
  have c4 : Try.prog.cellsOf 26 = 4 := by kernel_rfl
  rw [c4] at hl
  obtain ⟨c0, c1, c2, c3, rfl⟩ := four_of hl
  obtain ⟨y0, y1, y2, y3, rfl⟩ := four_of hlen
  have g0 := hf 0 _ rfl
  have g1 := hf 1 _ rfl
  have g2 := hf 2 _ rfl
  have g3 := hf 3 _ rfl
  simp [c_int, c_ints] at g0 g1 g2 g3
  obtain ⟨p, q, c, e0, hmx, l, hll, hi⟩ := ints_of g0
  obtain ⟨t, e1, _, w1⟩ := DataW.trod_int Try.underlying3 g1
  obtain ⟨f, e2, _, w2⟩ := DataW.trod_int Try.underlying3 g2
  obtain ⟨m, e3, _, w3⟩ := DataW.trod_int Try.underlying3 g3
  simp at e0 e1 e2 e3
  subst e0 e1 e2 e3
  exact ⟨p, q, c, t, f, m, rfl, hmx, l, hll, hi⟩
/-- What SeqRests is handed besides. -/
theorem open_rest {H : Type} {enc : TypeId × Value → H} {W : World} {v : Value} {b1 : Nat} {r : Reach} (hv : Value.okWide Try.prog W r b1 26 v) {d : DataW H} {ps : List MemPlace} (h : DataW.Trod enc Try.prog W 0 (fun _ => true) true 26 v d ps) :
    ∃ p n c t f m, v = .agg #[.slice p n c, .int .i64 t, .int .i64 f, .int .i64 m] ∧ n ≤ maxLen ∧ ∃ l : List Int, l.length = n ∧ IntsAt W p l := by
  obtain ⟨cs, rfl, hsz⟩ := okWide_struct Try.underlying26 hv
  obtain ⟨fuel, hf⟩ := h
  obtain ⟨p, n, c, t, f, m, hx, h1, h2⟩ := rest_of hf
  refine ⟨p, n, c, t, f, m, ?_, h1, h2⟩
  have e : cs.toList = [.slice p n c, .int .i64 t, .int .i64 f, .int .i64 m] := by simpa [Value.cells] using hx
  rw [← Array.toArray_toList (xs := cs), e]
end Go.Proofs.Ytnmalhjhfddjpaa
