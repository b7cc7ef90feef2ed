/- Two runs side by side. -/
import Derived.Test.YtnmalhjhfddjpaaOpS
import Derived.Test.YtnmalhjhfddjpaaSqm
import Derived.Deep.RegionHeld3
namespace Go.Proofs.Ytnmalhjhfddjpaa
set_option linter.unusedSimpArgs false
set_option linter.unusedVariables false
open Go Go.RowKit Go.ChangeMaps Go.MapKept Go.WideElems Go.Maps

/-- Two runs stand in memory, one behind the other, and nothing that was there before was turned. -/
structure Two (W X : World) (La Lb : Lay) (ca cb : List (List Ic)) (ga gb : G) (Na Nb l1 A1 l2 A2 h2 : Nat) : Prop where
  a : RA X La ga Na l1 A1 l2
  b : RA X Lb gb Nb l2 A2 h2
  ca : La.ts.map TL.code = ca
  cb : Lb.ts.map TL.code = cb
  lo : W.heap.size ≤ l1
  bel : Below W.heap.size W X
section
variable {W X Y : World} {La Lb : Lay} {ca cb : List (List Ic)} {ga gb g' : G} {Na Nb M l1 A1 l2 A2 h2 : Nat}
theorem Two.ord (h : Two W X La Lb ca cb ga gb Na Nb l1 A1 l2 A2 h2) : l1 ≤ l2 ∧ l2 ≤ h2 ∧ h2 ≤ X.heap.size := by
  have h3 := h.a.is.rb
  have h4 := h.a.is.ah
  have h5 := h.b.is.rb
  have h6 := h.b.is.ah
  have h7 := h.b.hi
  omega
theorem Two.stay (h : Two W X La Lb ca cb ga gb Na Nb l1 A1 l2 A2 h2) (hb : Below X.heap.size X Y) : Two W Y La Lb ca cb ga gb Na Nb l1 A1 l2 A2 h2 :=
  ⟨h.a.below hb, h.b.below hb, h.ca, h.cb, h.lo, h.bel.trans (hb.mono h.bel.size)⟩
theorem Two.drewN (h : Two W X La Lb ca cb ga gb Na Nb l1 A1 l2 A2 h2) (n : Nat) : Two W (X.drewN n) La Lb ca cb ga gb Na Nb l1 A1 l2 A2 h2 := h.stay ⟨rfl, rfl, rfl, Nat.le_refl _, fun _ _ => rfl⟩
theorem Two.drew (h : Two W X La Lb ca cb ga gb Na Nb l1 A1 l2 A2 h2) : Two W X.drew La Lb ca cb ga gb Na Nb l1 A1 l2 A2 h2 := h.stay ⟨rfl, rfl, rfl, Nat.le_refl _, fun _ _ => rfl⟩
theorem Two.mono (h : Two W X La Lb ca cb ga gb Na Nb l1 A1 l2 A2 h2) (hN : Na ≤ M) (hN2 : Nb ≤ M) : Two W X La Lb ca cb ga gb M M l1 A1 l2 A2 h2 := ⟨h.a.mono hN, h.b.mono hN2, h.ca, h.cb, h.lo, h.bel⟩
theorem Two.alloc (h : Two W X La Lb ca cb ga gb Na Nb l1 A1 l2 A2 h2) (o : Obj) : Two W (X.alloc o) La Lb ca cb ga gb Na Nb l1 A1 l2 A2 h2 := h.stay ((Below.refl _ _).alloc (Nat.le_refl _) o)
/-- A block of the caller's own, behind both, is written. -/
theorem Two.set (h : Two W X La Lb ca cb ga gb Na Nb l1 A1 l2 A2 h2) {m : Nat} (hm : h2 ≤ m) (o : Nat) (v : Value) : Two W (X.setCell ⟨m, o, none⟩ v) La Lb ca cb ga gb Na Nb l1 A1 l2 A2 h2 := by
  have ho := h.ord
  have hs : ∀ k, k ≠ m → (X.setCell ⟨m, o, none⟩ v).heap[k]? = X.heap[k]? := fun k hk => heap_setCell_other X ⟨m, o, none⟩ k v hk
  have hz : X.heap.size ≤ (X.setCell ⟨m, o, none⟩ v).heap.size := by simp [World.setCell]
  have hl := h.lo
  exact ⟨h.a.stay hz fun k _ hk => hs k (by omega), h.b.stay hz fun k _ hk => hs k (by omega), h.ca, h.cb, h.lo, h.bel.trans ⟨rfl, rfl, rfl, hz, fun k hk => hs k (by omega)⟩⟩
/-- The first one was turned. -/
theorem Two.turnA (h : Two W X La Lb ca cb ga gb Na Nb l1 A1 l2 A2 h2) (hr : RA Y La g' M l1 A1 l2) (hc : Ch (fun b => l1 ≤ b ∧ b < l2) X Y) : Two W Y La Lb ca cb g' gb M Nb l1 A1 l2 A2 h2 :=
  ⟨hr, h.b.stay hc.size fun k hk hl => hc.block k (Nat.lt_of_lt_of_le hl h.b.hi) (by omega), h.ca, h.cb, h.lo, h.bel.trans (hc.below h.bel.size fun b hb hs => by have := h.lo; omega)⟩
theorem Two.turnB (h : Two W X La Lb ca cb ga gb Na Nb l1 A1 l2 A2 h2) (hr : RA Y Lb g' M l2 A2 h2) (hc : Ch (fun b => l2 ≤ b ∧ b < h2) X Y) : Two W Y La Lb ca cb ga g' Na M l1 A1 l2 A2 h2 :=
  ⟨h.a.stay hc.size fun k hk hl => hc.block k (Nat.lt_of_lt_of_le hl h.a.hi) (by omega), hr, h.ca, h.cb, h.lo, h.bel.trans (hc.below h.bel.size fun b hb hs => by have := h.lo; have := h.ord; omega)⟩
/-- What a turn in one of both leaves. -/
def TwP (W X : World) (La Lb : Lay) (ca cb : List (List Ic)) (ga gb : G) (Na Nb l1 A1 l2 A2 h2 : Nat) (a b c d : Int) (e : Ending) (w' : World) : Prop := e = .returned (.tuple #[.agg #[.int .i64 a, .int .i64 b, .int .i64 c], .int .i64 d]) ∧ Two W w' La Lb ca cb ga gb Na Nb l1 A1 l2 A2 h2 ∧ Ch (fun b => l1 ≤ b ∧ b < h2) X w'
theorem tw_a (h : Hid (Two W X La Lb ca cb ga gb Na Nb l1 A1 l2 A2 h2)) {n fuel : Int} (hl : ca.length < 1000000) (hf : fuel ≤ 1000000) (hM : Na + fuel.toNat < 1000000) {a b c d : Int} {f : Bool} (e : nextC ca n fuel ga = (g', ⟨a, b, c, d, f⟩)) :
    Calls Try.prog 9 #[.pointer (some ⟨La.rb, 0, none⟩), .int .i64 n, .int .i64 fuel] X (TwP W X La Lb ca cb g' gb (Na + fuel.toNat) Nb l1 A1 l2 A2 h2 a b c d) :=
  (nx_is (Lib.hid h.out.a) (Lib.hid h.out.ca) hl hf hM e).mono fun e' w' ⟨h1, h3, h4⟩ => ⟨h1, h.out.turnA h3 h4, h4.mono fun b hb => ⟨hb.1, by have := h.out.ord; omega⟩⟩
theorem tw_b (h : Hid (Two W X La Lb ca cb ga gb Na Nb l1 A1 l2 A2 h2)) {n fuel : Int} (hl : cb.length < 1000000) (hf : fuel ≤ 1000000) (hM : Nb + fuel.toNat < 1000000) {a b c d : Int} {f : Bool} (e : nextC cb n fuel gb = (g', ⟨a, b, c, d, f⟩)) :
    Calls Try.prog 9 #[.pointer (some ⟨Lb.rb, 0, none⟩), .int .i64 n, .int .i64 fuel] X (TwP W X La Lb ca cb ga g' Na (Nb + fuel.toNat) l1 A1 l2 A2 h2 a b c d) :=
  (nx_is (Lib.hid h.out.b) (Lib.hid h.out.cb) hl hf hM e).mono fun e' w' ⟨h1, h3, h4⟩ => ⟨h1, h.out.turnB h3 h4, h4.mono fun b hb => ⟨by have := h.out.ord; omega, hb.2⟩⟩
end
/-- A block of the caller's own, behind both runs. -/
theorem eb_two {X Y : World} {l1 h2 m : Nat} {a b c : Value} (hc : Ch (fun b => l1 ≤ b ∧ b < h2) X Y) (hE : Eb X m a b c) (hm : h2 ≤ m) : Eb Y m a b c := (hc.block m hE.facts.1 (by omega)).trans hE
end Go.Proofs.Ytnmalhjhfddjpaa
