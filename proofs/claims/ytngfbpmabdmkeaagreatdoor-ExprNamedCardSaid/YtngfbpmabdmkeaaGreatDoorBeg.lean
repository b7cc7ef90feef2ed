/- The map of what begins things: its entries, in whatever order they were laid; a look-up in it. -/
import Derived.Test.YtngfbpmabdmkeaaGreatDoorMeth
import Derived.Laws.StructEq
import Derived.MapKept
namespace Go.Proofs.YtngfbpmabdmkeaaGreatDoor
open Go Go.RowKit

theorem fields_opn : Tryz.prog.fieldsOf 146 = #[{ name := "kind", type := 3, offset := 0, embedded := false, tag := "", pkgPath := "paling/expr", byteOffset := 0 }, { name := "text", type := 9, offset := 1, embedded := false, tag := "", pkgPath := "paling/expr", byteOffset := 8 }] := by kernel_rfl

theorem opn_eq (w : World) (a b : Int) (s t : ByteArray) : (Op.equal 146 (opnV a s) (opnV b t)).run Tryz.prog w = .ok (a == b && s.toList == t.toList) w := by
  show (Op.equalIn 10000 _ _ _).run _ _ = _
  rw [run_equalIn_struct w 9999 146 _ _ (by kernel_rfl) (by kernel_rfl), fields_opn]
  simp [Op.eqFields, part, Tryz.isAgg3, Tryz.isAgg9, run_equalIn_int _ 9998 3 .i64 .i64 _ _ Tryz.underlying3, run_equalIn_string _ 9998 9 _ _ Tryz.underlying9]
  by_cases h : a = b <;> by_cases h2 : s.toList = t.toList <;> simp [h, h2]

theorem opn_check' (w : World) (em : Bool) (n : Nat) (a : Int) (s : ByteArray) : (Instr.checkKey em (n + 2) 146 (opnV a s)).run Tryz.prog w = .ok () w := by
  simp only [Instr.checkKey, Sem.run_bind, run_underlying Tryz.underlying146, Result.andThen_ok]
  simp [part, Instr.checkKey, Tryz.isAgg3, Tryz.isAgg9, run_underlying Tryz.underlying3, run_underlying Tryz.underlying9]
theorem opn_check (w : World) (em : Bool) (a : Int) (s : ByteArray) : (Instr.checkKey em 10000 146 (opnV a s)).run Tryz.prog w = .ok () w := opn_check' w em 9998 a s

theorem toList_inj {a b : ByteArray} (h : a.toList = b.toList) : a = b := by
  rw [ByteArray.toList_eq, ByteArray.toList_eq] at h
  obtain ⟨⟨x⟩⟩ := a
  obtain ⟨⟨y⟩⟩ := b
  simp at h
  rw [h]

/-- The first entry with a key. -/
theorem find_asking (w : World) (k : Int) (t : ByteArray) : ∀ (es : List MapEntry) (i : Nat), (∀ e ∈ es, ∃ k' t', e.key = opnV k' t') →
    ∃ r, (Instr.findAsking 146 (opnV k t) es i).run Tryz.prog w = .ok r w ∧ (r = none → ∀ e ∈ es, e.key ≠ opnV k t) ∧ (∀ n v, r = some (n, v) → ∃ e ∈ es, e.key = opnV k t ∧ e.val = v)
  | [], i, _ => ⟨none, by simp [Instr.findAsking], by simp, by simp⟩
  | e :: es, i, h => by
    obtain ⟨k', t', he⟩ := h e (by simp)
    simp only [Instr.findAsking, Sem.run_bind, he, opn_eq, Result.andThen_ok]
    by_cases hb : (k == k' && t.toList == t'.toList) = true
    · refine ⟨some (i, e.val), by rw [hb]; simp, by simp, fun n v hv => ?_⟩
      simp at hb hv
      refine ⟨e, by simp, ?_, hv.2⟩
      rw [he, hb.1, toList_inj hb.2]
    · obtain ⟨r, h1, h2, h3⟩ := find_asking w k t es (i + 1) (fun x hx => h x (by simp [hx]))
      refine ⟨r, by simp only [hb]; simpa using h1, fun hr x hx => ?_, fun n v hv => ?_⟩
      · rcases List.mem_cons.1 hx with rfl | hx
        · rw [he]
          rintro e'
          simp at e'
          apply hb
          simp [e'.1, e'.2]
        · exact h2 hr x hx
      · obtain ⟨x, hx, h4⟩ := h3 n v hv
        exact ⟨x, by simp [hx], h4⟩

theorem find_key (w : World) (k : Int) (t : ByteArray) (es : List MapEntry) (h : ∀ e ∈ es, ∃ k' t', e.key = opnV k' t') :
    ∃ r, (Instr.findKey 146 (opnV k t) es).run Tryz.prog w = .ok r w ∧ (r = none → ∀ e ∈ es, e.key ≠ opnV k t) ∧ (∀ n v, r = some (n, v) → ∃ e ∈ es, e.key = opnV k t ∧ e.val = v) := by
  cases es with
  | nil => exact ⟨none, by simp [Instr.findKey, Instr.findNow, run_underlying Tryz.underlying146], by simp, by simp⟩
  | cons e es =>
    obtain ⟨k', t', he⟩ := h e (by simp)
    have := find_asking w k t (e :: es) 0 h
    simpa [Instr.findKey, Instr.findNow, Instr.sameNow, he, run_underlying Tryz.underlying146] using this

/-- What begins things: keys, and the functions that go on. -/
def bkey : Nat → Value
  | 0 => opnV 2 ⟨#[45]⟩
  | 1 => opnV 2 ⟨#[33]⟩
  | 2 => opnV 2 ⟨#[40]⟩
  | 3 => opnV 1 ⟨#[]⟩
  | 4 => opnV 0 ⟨#[116, 114, 117, 101]⟩
  | 5 => opnV 0 ⟨#[102, 97, 108, 115, 101]⟩
  | _ => opnV 0 ⟨#[]⟩
def bfn : Nat → Nat
  | 0 => 92
  | 1 => 94
  | 2 => 95
  | 3 => 97
  | 4 => 100
  | 5 => 101
  | _ => 102
def bval (bx j : Nat) : Value := .func (.func (bfn j)) #[] #[.pointer (some ⟨bx, 0, none⟩)]
theorem bkey_form (j : Nat) : ∃ k t, bkey j = opnV k t := by
  unfold bkey
  split <;> exact ⟨_, _, rfl⟩
theorem bkey_inj : ∀ i j, i < 7 → j < 7 → bkey i = bkey j → i = j := by
  intro i j hi hj h
  match i, j, hi, hj with
  | 0, 0, _, _ | 1, 1, _, _ | 2, 2, _, _ | 3, 3, _, _ | 4, 4, _, _ | 5, 5, _, _ | 6, 6, _, _ => rfl
  | 0, 1, _, _ | 0, 2, _, _ | 0, 3, _, _ | 0, 4, _, _ | 0, 5, _, _ | 0, 6, _, _
  | 1, 0, _, _ | 1, 2, _, _ | 1, 3, _, _ | 1, 4, _, _ | 1, 5, _, _ | 1, 6, _, _
  | 2, 0, _, _ | 2, 1, _, _ | 2, 3, _, _ | 2, 4, _, _ | 2, 5, _, _ | 2, 6, _, _
  | 3, 0, _, _ | 3, 1, _, _ | 3, 2, _, _ | 3, 4, _, _ | 3, 5, _, _ | 3, 6, _, _
  | 4, 0, _, _ | 4, 1, _, _ | 4, 2, _, _ | 4, 3, _, _ | 4, 5, _, _ | 4, 6, _, _
  | 5, 0, _, _ | 5, 1, _, _ | 5, 2, _, _ | 5, 3, _, _ | 5, 4, _, _ | 5, 6, _, _
  | 6, 0, _, _ | 6, 1, _, _ | 6, 2, _, _ | 6, 3, _, _ | 6, 4, _, _ | 6, 5, _, _ => simp [bkey] at h
  | i + 7, _, hi, _ => exact absurd hi (by omega)
  | _, j + 7, _, hj => exact absurd hj (by omega)

/-- The entries that are laid: those of the numbers for which S holds. -/
def BegEs (S : Nat → Prop) (bx : Nat) (es : Array MapEntry) : Prop :=
  (∀ e ∈ es.toList, ∃ j, j < 7 ∧ S j ∧ e.key = bkey j ∧ e.val = bval bx j) ∧ (∀ j, j < 7 → S j → ∃ e ∈ es.toList, e.key = bkey j)
theorem BegEs.form {S : Nat → Prop} {bx : Nat} {es : Array MapEntry} (h : BegEs S bx es) : ∀ e ∈ es.toList, ∃ k' t', e.key = opnV k' t' := by
  intro e he
  obtain ⟨j, _, _, h1, _⟩ := h.1 e he
  obtain ⟨k, t, h2⟩ := bkey_form j
  exact ⟨k, t, h1.trans h2⟩
def BegMap (W : World) (mb bx : Nat) : Prop := ∃ es clock, W.heap[mb]? = some (.map es clock) ∧ BegEs (fun _ => True) bx es

theorem look_yes {W : World} {mb bx : Nat} (h : BegMap W mb bx) {k : Int} {t : ByteArray} (j : Nat) (hj : j < 7) (hk : bkey j = opnV k t) :
    (Instr.lookup 122 (.map (some mb)) (opnV k t) true).run Tryz.prog W = .ok (.tuple #[bval bx j, .bool true]) W := by
  obtain ⟨es, clock, hb, hE⟩ := h
  obtain ⟨r, h1, h2, h3⟩ := find_key W k t es.toList hE.form
  simp only [Instr.lookup, Sem.run_bind, run_underlying Tryz.underlying122, Result.andThen_ok]
  cases r with
  | none =>
    obtain ⟨e, he, hek⟩ := hE.2 j hj trivial
    exact absurd (hek.trans hk) (h2 rfl e he)
  | some nv =>
    obtain ⟨n, v⟩ := nv
    obtain ⟨e, he, h4, h5⟩ := h3 n v rfl
    obtain ⟨j', hj', _, h6, h7⟩ := hE.1 e he
    obtain rfl : j' = j := bkey_inj j' j hj' hj (by rw [← h6, h4, hk])
    simp [Go.MapKept.run_getObj_map hb, opn_check, h1, ← h5, h7]
theorem look_no {W : World} {mb bx : Nat} (h : BegMap W mb bx) {k : Int} {t : ByteArray} (hk : ∀ j, j < 7 → bkey j ≠ opnV k t) :
    (Instr.lookup 122 (.map (some mb)) (opnV k t) true).run Tryz.prog W = .ok (.tuple #[.nilFunc, .bool false]) W := by
  obtain ⟨es, clock, hb, hE⟩ := h
  obtain ⟨r, h1, h2, h3⟩ := find_key W k t es.toList hE.form
  simp only [Instr.lookup, Sem.run_bind, run_underlying Tryz.underlying122, Result.andThen_ok]
  cases r with
  | none =>
    simp [Go.MapKept.run_getObj_map hb, opn_check, h1, Tryz.zeroValue147]
  | some nv =>
    obtain ⟨n, v⟩ := nv
    obtain ⟨e, he, h4, h5⟩ := h3 n v rfl
    obtain ⟨j', hj', _, h6, h7⟩ := hE.1 e he
    exact absurd (h6.symm.trans h4) (hk j' hj')
theorem BegMap.kept {W X : World} {mb bx : Nat} (h : BegMap W mb bx) (hb : ∀ k, k < W.heap.size → k = mb → X.heap[k]? = W.heap[k]?) : BegMap X mb bx := by
  obtain ⟨es, clock, h1, h2⟩ := h
  exact ⟨es, clock, (hb mb (Array.getElem?_eq_some_iff.1 h1).1 rfl).trans h1, h2⟩
end Go.Proofs.YtngfbpmabdmkeaaGreatDoor
