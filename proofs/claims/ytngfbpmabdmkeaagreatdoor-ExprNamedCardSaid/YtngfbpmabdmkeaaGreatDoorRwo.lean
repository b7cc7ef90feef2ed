/- The document's own words of a text, by how they end. -/
import Derived.Test.YtngfbpmabdmkeaaGreatDoorRwords
import Derived.Test.YtngfbpmabdmkeaaGreatDoorTokAt
namespace Go.Proofs.YtngfbpmabdmkeaaGreatDoor
open Go Go.RowKit
/-- Words that are there: a row of so many. -/
def OkEnd (T : TypeId) (B : Nat) (W : List Wd) (e : Ending) (w' : World) : Prop :=
  ∃ g cap, e = .returned (.tuple #[.slice (some ⟨g, 0, none⟩) W.length cap, .int .i64 0, .int .i64 0]) ∧ w'.ownsRow B T 4 (.slice (some ⟨g, 0, none⟩) W.length cap) W.length (cellsW W)
theorem rwords_ok (s : ByteArray) (w : World) (hs : s.size ≤ 16384) (W : List Wd) (hS : Hid (Sc numO s.data.toList 0 W none)) :
    Calls Tryz.prog 13 #[.string s] w fun e w' => OkEnd 37 w.heap.size W e w' ∧ Below w.heap.size w w' :=
  (rwords_any s w hs W none hS).mono fun e w' ⟨h1, h2⟩ => by
    obtain ⟨v, e1, e2⟩ := h1
    obtain ⟨g, cap, e3, _⟩ := e2.form (hS.out.some_words rfl)
    subst e3
    exact ⟨⟨g, cap, e1, e2⟩, h2⟩
theorem rwords_err (s : ByteArray) (w : World) (hs : s.size ≤ 16384) (W : List Wd) (e0 : Int) (a0 : Nat) (hS : Hid (Sc numO s.data.toList 0 W (some (e0, a0)))) :
    Calls Tryz.prog 13 #[.string s] w fun e w' => e = .returned (.tuple #[.slice none 0 0, .int .i64 e0, .int .i64 a0]) ∧ Below w.heap.size w w' :=
  rwords_any s w hs W _ hS
end Go.Proofs.YtngfbpmabdmkeaaGreatDoor
