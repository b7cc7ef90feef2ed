/- Are two expressions the same, but for their places; of how many things one is made: plain mathematics. -/
import Derived.Test.YtngfbpmabdmkeaaGreatDoorGram
namespace Go.Proofs.YtngfbpmabdmkeaaGreatDoor

mutual
/-- Are two expressions the same, but for their places. -/
def Ex.eqv : Ex → Ex → Bool
  | .mk k o n t ks _, .mk k' o' n' t' ks' _ => (k == k') && (o == o') && (n == n') && (t == t') && Ex.eqvL ks ks'
def Ex.eqvL : List Ex → List Ex → Bool
  | [], [] => true
  | x :: r, y :: q => Ex.eqv x y && Ex.eqvL r q
  | _, _ => false
end
theorem eqv_parts (x y : Ex) : x.eqv y = ((x.k == y.k) && (x.op == y.op) && (x.n == y.n) && (x.nm == y.nm) && Ex.eqvL x.ks y.ks) := by
  cases x; cases y; simp only [Ex.eqv, Ex.k, Ex.op, Ex.n, Ex.nm, Ex.ks]
theorem eqvL_len : ∀ l m : List Ex, l.length ≠ m.length → Ex.eqvL l m = false
  | [], [], h => absurd rfl h
  | [], _ :: _, _ => by simp [Ex.eqvL]
  | _ :: _, [], _ => by simp [Ex.eqvL]
  | x :: r, y :: q, h => by
    have := eqvL_len r q (by simpa using h)
    simp [Ex.eqvL, this]
theorem eqvL_step {l m : List Ex} {i : Nat} {x y : Ex} (hx : l[i]? = some x) (hy : m[i]? = some y) : Ex.eqvL (l.drop i) (m.drop i) = (x.eqv y && Ex.eqvL (l.drop (i + 1)) (m.drop (i + 1))) := by
  obtain ⟨h1, rfl⟩ := List.getElem?_eq_some_iff.1 hx
  obtain ⟨h2, rfl⟩ := List.getElem?_eq_some_iff.1 hy
  rw [List.drop_eq_getElem_cons h1, List.drop_eq_getElem_cons h2]
  simp only [Ex.eqvL]
mutual
/-- Of how many things an expression is made. -/
def Ex.cnt : Ex → Nat
  | .mk _ _ _ _ ks _ => 1 + Ex.cntL ks
def Ex.cntL : List Ex → Nat
  | [] => 0
  | x :: r => Ex.cnt x + Ex.cntL r
end
theorem cnt_pos (x : Ex) : 1 ≤ x.cnt := by cases x; simp only [Ex.cnt]; omega
theorem cntL_mem : ∀ {l : List Ex} {x : Ex}, x ∈ l → x.cnt ≤ Ex.cntL l
  | y :: r, x, h => by
    simp only [Ex.cntL]
    rcases List.mem_cons.1 h with rfl | h
    · omega
    · have := cntL_mem h
      omega
theorem cntL_len : ∀ l : List Ex, l.length ≤ Ex.cntL l
  | [] => Nat.le_refl _
  | x :: r => by
    have := cntL_len r
    have := cnt_pos x
    simp only [Ex.cntL, List.length_cons]
    omega
theorem kid_lt {x y : Ex} {i : Nat} (h : x.ks[i]? = some y) : y.cnt < x.cnt := by
  have := cntL_mem (List.mem_of_getElem? h)
  cases x
  simp only [Ex.cnt, Ex.ks] at this ⊢
  omega
theorem ks_lt (x : Ex) : x.ks.length < x.cnt := by
  have := cntL_len x.ks
  cases x
  simp only [Ex.cnt, Ex.ks] at this ⊢
  omega
end Go.Proofs.YtngfbpmabdmkeaaGreatDoor
