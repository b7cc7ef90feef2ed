/- The document's own fields, Has, add, Uses, Def, Next of any instruction. -/
import Derived.Test.YtjjjdghkeogljaaDoorNxt
import Derived.Test.YtjjjdghkeogljaaDoorRnI
namespace Go.Proofs.YtjjjdghkeogljaaDoor
set_option linter.unusedSimpArgs false
set_option linter.unusedVariables false
open Go Go.RowKit

def fldL : List ByteArray := [⟨#[68, 78]⟩, ⟨#[68, 65]⟩, ⟨#[68, 79, 65, 66]⟩, ⟨#[68, 65, 66]⟩, ⟨#[68, 65, 78]⟩, ⟨#[65, 66, 78]⟩, ⟨#[84]⟩, ⟨#[65, 84]⟩, ⟨#[46]⟩, ⟨#[78]⟩, ⟨#[78]⟩, ⟨#[65]⟩, ⟨#[78]⟩, ⟨#[46]⟩]
def fld (k : Nat) : ByteArray := fldL.getD k ByteArray.empty
def fldZ (k : Int) : ByteArray := if 0 ≤ k ∧ k ≤ 13 then fld k.toNat else ⟨#[]⟩
def rfields_c : Array Value := #[.string ⟨#[68, 78]⟩, .string ⟨#[68, 65]⟩, .string ⟨#[68, 79, 65, 66]⟩, .string ⟨#[68, 65, 66]⟩, .string ⟨#[68, 65, 78]⟩, .string ⟨#[65, 66, 78]⟩, .string ⟨#[84]⟩, .string ⟨#[65, 84]⟩, .string ⟨#[46]⟩, .string ⟨#[78]⟩, .string ⟨#[78]⟩, .string ⟨#[65]⟩, .string ⟨#[78]⟩, .string ⟨#[46]⟩]
theorem rfields_at (k : Nat) (h : k < 14) : rfields_c[k]? = some (.string (fld k)) := by
  match k, h with
  | 0, _ => rfl
  | 1, _ => rfl
  | 2, _ => rfl
  | 3, _ => rfl
  | 4, _ => rfl
  | 5, _ => rfl
  | 6, _ => rfl
  | 7, _ => rfl
  | 8, _ => rfl
  | 9, _ => rfl
  | 10, _ => rfl
  | 11, _ => rfl
  | 12, _ => rfl
  | 13, _ => rfl
  | k + 14, h => exact absurd h (by omega)
set_option maxRecDepth 100000 in
theorem rfields_in (k : Int) (f : ByteArray) (w : World) (h0 : 0 ≤ k) (h1 : k ≤ 13) (hf : fld k.toNat = f) : Calls Tryd.prog 25 #[.int .i64 k] w fun e w' => e = .returned (.string f) ∧ Below w.heap.size w w' := by
  have hc : (w.alloc (.cells #[.string ⟨#[68, 78]⟩, .string ⟨#[68, 65]⟩, .string ⟨#[68, 79, 65, 66]⟩, .string ⟨#[68, 65, 66]⟩, .string ⟨#[68, 65, 78]⟩, .string ⟨#[65, 66, 78]⟩, .string ⟨#[84]⟩, .string ⟨#[65, 84]⟩, .string ⟨#[46]⟩, .string ⟨#[78]⟩, .string ⟨#[78]⟩, .string ⟨#[65]⟩, .string ⟨#[78]⟩, .string ⟨#[46]⟩] 9)).cell? ⟨w.heap.size, k.toNat, none⟩ = some (.string f) := by
    rw [← hf, ← rfields_at k.toNat (by omega)]
    exact cell_of_row _ _ k.toNat rfields_c 9 (0, 0) (heap_alloc_new w _)
  have hk : k < 14 := by omega
  clear hf
  go_enter Tryd.func25, Tryd.ntmps25
  go_wp2
  go_ret
  exact ⟨rfl, below1 _ _⟩
theorem rfields_lo (k : Int) (w : World) (h : k < 0) : Calls Tryd.prog 25 #[.int .i64 k] w fun e w' => e = .returned (.string ⟨#[]⟩) ∧ Below w.heap.size w w' := by
  have hd : decide (k < 0) = true := by simpa using h
  go_enter Tryd.func25, Tryd.ntmps25
  go_wp2
  go_ret
  exact ⟨rfl, below1 _ _⟩
theorem rfields_hi (k : Int) (w : World) (h : 13 < k) : Calls Tryd.prog 25 #[.int .i64 k] w fun e w' => e = .returned (.string ⟨#[]⟩) ∧ Below w.heap.size w w' := by
  have hd : decide (k < 0) = false := by simp; omega
  have hd2 : decide (14 ≤ k) = true := by simp; omega
  go_enter Tryd.func25, Tryd.ntmps25
  go_wp2
  go_ret
  exact ⟨rfl, below1 _ _⟩
theorem rfields_any (k : Int) (w : World) : Calls Tryd.prog 25 #[.int .i64 k] w fun e w' => e = .returned (.string (fldZ k)) ∧ Below w.heap.size w w' := by
  unfold fldZ
  by_cases h : 0 ≤ k ∧ k ≤ 13
  · rw [if_pos h]
    exact rfields_in k _ w h.1 h.2 rfl
  · rw [if_neg h]
    by_cases h0 : k < 0
    · exact rfields_lo k w h0
    · exact rfields_hi k w (by omega)
def rsgn_c : Array Value := #[.string ⟨#[43]⟩, .string ⟨#[45]⟩, .string ⟨#[42]⟩, .string ⟨#[47]⟩, .string ⟨#[37]⟩, .string ⟨#[38]⟩, .string ⟨#[124]⟩, .string ⟨#[94]⟩, .string ⟨#[60, 60]⟩, .string ⟨#[62, 62]⟩, .string ⟨#[61, 61]⟩, .string ⟨#[33, 61]⟩, .string ⟨#[60]⟩, .string ⟨#[60, 61]⟩, .string ⟨#[62]⟩, .string ⟨#[62, 61]⟩, .string ⟨#[]⟩, .string ⟨#[38, 38]⟩, .string ⟨#[124, 124]⟩]
theorem rsgn_at (k : Nat) (h : k < 19) : rsgn_c[k]? = some (.string (sgn k)) := by
  match k, h with
  | 0, _ => rfl
  | 1, _ => rfl
  | 2, _ => rfl
  | 3, _ => rfl
  | 4, _ => rfl
  | 5, _ => rfl
  | 6, _ => rfl
  | 7, _ => rfl
  | 8, _ => rfl
  | 9, _ => rfl
  | 10, _ => rfl
  | 11, _ => rfl
  | 12, _ => rfl
  | 13, _ => rfl
  | 14, _ => rfl
  | 15, _ => rfl
  | 16, _ => rfl
  | 17, _ => rfl
  | 18, _ => rfl
  | k + 19, h => exact absurd h (by omega)
set_option maxRecDepth 100000 in
theorem rsgn_in (k : Int) (f : ByteArray) (w : World) (h0 : 0 ≤ k) (h1 : k ≤ 18) (hf : sgn k.toNat = f) : Calls Tryd.prog 32 #[.int .i64 k] w fun e w' => e = .returned (.string f) ∧ Below w.heap.size w w' := by
  have hc : (w.alloc (.cells #[.string ⟨#[43]⟩, .string ⟨#[45]⟩, .string ⟨#[42]⟩, .string ⟨#[47]⟩, .string ⟨#[37]⟩, .string ⟨#[38]⟩, .string ⟨#[124]⟩, .string ⟨#[94]⟩, .string ⟨#[60, 60]⟩, .string ⟨#[62, 62]⟩, .string ⟨#[61, 61]⟩, .string ⟨#[33, 61]⟩, .string ⟨#[60]⟩, .string ⟨#[60, 61]⟩, .string ⟨#[62]⟩, .string ⟨#[62, 61]⟩, .string ⟨#[]⟩, .string ⟨#[38, 38]⟩, .string ⟨#[124, 124]⟩] 9)).cell? ⟨w.heap.size, k.toNat, none⟩ = some (.string f) := by
    rw [← hf, ← rsgn_at k.toNat (by omega)]
    exact cell_of_row _ _ k.toNat rsgn_c 9 (0, 0) (heap_alloc_new w _)
  have hk : k < 19 := by omega
  clear hf
  go_enter Tryd.func32, Tryd.ntmps32
  go_wp2
  go_ret
  exact ⟨rfl, below1 _ _⟩
theorem rsgn_lo (k : Int) (w : World) (h : k < 0) : Calls Tryd.prog 32 #[.int .i64 k] w fun e w' => e = .returned (.string ⟨#[]⟩) ∧ Below w.heap.size w w' := by
  have hd : decide (k < 0) = true := by simpa using h
  go_enter Tryd.func32, Tryd.ntmps32
  go_wp2
  go_ret
  exact ⟨rfl, below1 _ _⟩
theorem rsgn_hi (k : Int) (w : World) (h : 18 < k) : Calls Tryd.prog 32 #[.int .i64 k] w fun e w' => e = .returned (.string ⟨#[]⟩) ∧ Below w.heap.size w w' := by
  have hd : decide (k < 0) = false := by simp; omega
  have hd2 : decide (19 ≤ k) = true := by simp; omega
  go_enter Tryd.func32, Tryd.ntmps32
  go_wp2
  go_ret
  exact ⟨rfl, below1 _ _⟩
theorem rsgn_any (k : Int) (w : World) : Calls Tryd.prog 32 #[.int .i64 k] w fun e w' => e = .returned (.string (sgnZ k)) ∧ Below w.heap.size w w' := by
  unfold sgnZ
  by_cases h : 0 ≤ k ∧ k ≤ 18
  · rw [if_pos h]
    exact rsgn_in k _ w h.1 h.2 rfl
  · rw [if_neg h]
    by_cases h0 : k < 0
    · exact rsgn_lo k w h0
    · exact rsgn_hi k w (by omega)

/-- Has a text a byte? -/
def hasC (s : ByteArray) (c : UInt8) : Bool := s.data.toList.contains c
theorem at_list (s : ByteArray) (i : Nat) (h : i < s.size) : s.data.toList[i]? = some (s[i]'h) := by
  rw [List.getElem?_eq_getElem (by simpa using h)]
  rfl
theorem rhas_any (s : ByteArray) (c : UInt8) (w : World) (hm : s.size ≤ 9223372036854775807) : Calls Tryd.prog 27 #[.string s, .int .u8 c.toNat] w fun e w' => e = .returned (.bool (hasC s c)) ∧ w = w' := by
  go_enter Tryd.func27, Tryd.ntmps27
  go_wp2
  go_loop [5] (fun i => ∃ k : Nat, i = .int .i64 k ∧ k ≤ s.size ∧ Hid (∀ j (h : j < s.size), j < k → (s[j]'h) ≠ c)) (fun i => s.size - (intOf i).toNat)
  case atStart => exact ⟨0, rfl, Nat.zero_le _, Lib.hid (fun j _ h => absurd h (by omega))⟩
  case round =>
    obtain ⟨k, rfl, hk, HN⟩ := hrel
    by_cases hlt : k < s.size
    · by_cases hc : (s[k]'hlt) = c
      · have hb : (((s[k]'hlt).toNat : Int) == (c.toNat : Int)) = true := by rw [hc]; simp
        have HR : Hid (hasC s c = true) := Lib.hid (by unfold hasC; rw [List.contains_iff_mem]; exact List.mem_of_getElem? (i := k) (by rw [at_list s k hlt, hc]))
        clear hc
        go_wp2
        go_ret
        exact ⟨ret_bool (by rw [HR.out]), rfl⟩
      · have hb : (((s[k]'hlt).toNat : Int) == (c.toNat : Int)) = false := by
          rw [beq_eq_false_iff_ne]
          intro h
          exact hc (UInt8.toNat_inj.1 (by omega))
        have HN2 : Hid (∀ j (h : j < s.size), j < k + 1 → (s[j]'h) ≠ c) := Lib.hid (fun j h hj => by
          by_cases e : j = k
          · subst e
            exact hc
          · exact HN.out j h (by omega))
        clear hc
        go_wp2
        go_round
        case rel => exact ⟨k + 1, by go_num, by omega, HN2⟩
        case measure => simp [intOf]; omega
    · have HR : Hid (hasC s c = false) := Lib.hid (by
        unfold hasC
        rw [Bool.eq_false_iff]
        intro h
        rw [List.contains_iff_mem] at h
        obtain ⟨j, hj, e⟩ := List.getElem_of_mem h
        have hj2 : j < s.size := hj
        exact HN.out j hj2 (by omega) e)
      go_wp2
      go_ret
      exact ⟨ret_bool (by rw [HR.out]), rfl⟩
theorem rhas_is {s : ByteArray} (c : UInt8) {n : Int} {b : Bool} (h : hasC s c = b) (hn : (c.toNat : Int) = n) (hm : s.size ≤ 9223372036854775807) (w : World) : Calls Tryd.prog 27 #[.string s, .int .u8 n] w fun e w' => e = .returned (.bool b) ∧ w = w' := h ▸ hn ▸ rhas_any s c w hm

/-- One number more behind an own row. -/
theorem wpList_app1 {ops : Array Oper} {rest : List Oper} {o : Oper} {a : Act} {Q : Exit → Act → World → Prop} {w : World} (hgd : o.guard = none) (s x : Operand)
    (ho : o.op = .call { callee := .builtin .append, args := #[s, x], argTypes := #[26, 26] })
    {B : Nat} {v : Value} {l : List Int} {g : Nat} {n : Int} (hs : a.eval s = v) (h : Rw B w v l) (hx : a.eval x = .slice (some ⟨g, 0, none⟩) 1 1) (hg : w.heap[g]? = some (.cells #[.int .i64 n] 3 (0, 0))) (hl : l.length ≤ 1000000) (hB : B ≤ w.heap.size)
    (K : ∀ v' w', Rw B w' v' (l ++ [n]) → w.grownBy w' v.ownBlock → wpList Tryd.prog ops Q rest (a.put o.dst v') w') : wpList Tryd.prog ops Q (o :: rest) a w := by
  obtain ⟨i0, hi, hz0, hz1, hz2⟩ := info_parts (show (Tryd.prog.info? 3).map (fun i => (i.zero, i.size, i.bytes)) = some (some (.int .i64 0), 1, 8) by kernel_rfl)
  refine wpList_append_own _ hgd s x 26 ho B 3 i0 (.int .i64 0) 1 8 Tryd.underlying26 hi hz0 hz1 hz2 rfl (by decide) v l.length _ hs h ⟨g, 0, none⟩ 1 1 [.int .i64 n] hx rfl (fun j u hu => ?_) (fun u hu => by simp at hu; subst hu; rfl) (by unfold maxLen; omega) (by omega) hB (fun v' w' h1 h2 _ => K v' w' ?_ h2)
  · rw [addr_off, Nat.zero_add, cell_of_row w g j _ _ _ hg]
    simpa using hu
  · unfold Rw
    rw [List.length_append, List.map_append]
    exact h1

theorem addF_len (n : Int) (l : List Int) (a : List Int × Bool) : (l.foldl (addS n) a).1.length ≤ a.1.length + 2 * l.length := by
  induction l generalizing a with
  | nil => simp
  | cons y r ih =>
    rw [List.foldl_cons]
    have := ih (addS n a y)
    have h2 : (addS n a y).1.length ≤ a.1.length + 2 := by
      unfold addS
      simp only
      split <;> split <;> simp
    simp only [List.length_cons]
    omega
theorem radd_neg {B : Nat} {w : World} {v : Value} {l : List Int} (n : Int) (h : Hid (Rw B w v l)) (hn : n < 0) :
    Calls Tryd.prog 26 #[v, .int .i64 n] w fun e w' => e = .returned v ∧ w = w' := by
  go_enter Tryd.func26, Tryd.ntmps26
  go_wp2
  go_ret
  exact ⟨rfl, rfl⟩
theorem addS_eq (n x : Int) (oo : List Int) (ib : Bool) {d q : Bool} (hd : decide (n ≤ x) = d) (hq : (x == n) = q) : addS n (oo, ib) x = (if q then (if d && !ib then oo ++ [n] else oo) else (if d && !ib then oo ++ [n] else oo) ++ [x], ib || (d && !ib)) := by
  unfold addS
  rw [hd]
  cases q
  · have : ¬ x = n := by simpa using hq
    simp [this]
  · have : x = n := by simpa using hq
    simp [this]
def AddP (B : Nat) (w : World) (l : List Int) (e : Ending) (w' : World) : Prop := ∃ v', e = .returned v' ∧ Rw B w' v' l ∧ Below w.heap.size w w'
set_option maxRecDepth 100000 in
set_option maxHeartbeats 4000000 in
theorem radd_pos {B : Nat} {w : World} {v : Value} {l : List Int} (p : Option Addr) (c : Nat) (n : Int) (hv : v = .slice p l.length c) (hc : ∀ j x, l[j]? = some x → ∃ g, p = some ⟨g, 0, none⟩ ∧ g < w.heap.size ∧ w.cell? ⟨g, j, none⟩ = some (.int .i64 x)) (hn : 0 ≤ n) (hl : l.length ≤ 400000) (hB : B ≤ w.heap.size) :
    Calls Tryd.prog 26 #[v, .int .i64 n] w (AddP B w (addR l n)) := by
  subst hv
  have HC := Lib.hid hc
  have hn0 : decide (n < 0) = false := by simp; omega
  clear hc
  go_enter Tryd.func26, Tryd.ntmps26
  go_wp2
  go_loopw [5, 6, 7] (fun o f i wr => ∃ (k : Nat) (v5 : Value) (ib : Bool), v5 = o ∧ f = .bool ib ∧ i = .int .i64 k ∧ k ≤ l.length ∧ Hid (∃ oo, addF n (l.take k) = (oo, ib) ∧ Rw w.heap.size wr v5 oo) ∧ Hid (Below w.heap.size w wr)) (fun _ _ i _ => l.length - (intOf i).toNat)
  case atStart => exact ⟨0, _, false, rfl, rfl, rfl, Nat.zero_le _, Lib.hid ⟨[], rfl, Rw.nil _ _⟩, Lib.hid (Below.refl _ _)⟩
  case round =>
    obtain ⟨k, v5, ib, rfl, rfl, rfl, hk, HO, HB⟩ := hrel
    obtain ⟨oo, ho, hr⟩ := HO.out
    have HE := Lib.hid ho
    have HR := Lib.hid hr
    have hol : oo.length ≤ 900000 := by
      have h2 := addF_len n (l.take k) ([], false)
      have h3 : (addF n (l.take k)).1.length ≤ 0 + 2 * (l.take k).length := h2
      rw [ho, List.length_take] at h3
      simp only at h3
      omega
    clear ho hr HO
    have hBB : w.heap.size ≤ wr.heap.size := HB.out.size
    by_cases hlt : k < l.length
    · obtain ⟨x, hx⟩ : ∃ x, l[k]? = some x := ⟨_, List.getElem?_eq_getElem hlt⟩
      obtain ⟨g, rfl, hg, hcx⟩ := HC.out k x hx
      have hcx2 : wr.cell? ⟨g, k, none⟩ = some (.int .i64 x) := (HB.out.cell (p := ⟨g, k, none⟩) hg).trans hcx
      have hgw : g < wr.heap.size := by omega
      have HX : Hid (addF n (l.take (k + 1)) = addS n (oo, ib) x) := Lib.hid (by rw [addF_take n l k x hx, HE.out])
      have hkz : (k : Int) < l.length := by omega
      have hk0 : (0 : Int) ≤ k := by omega
      clear hx hcx
      cases hd : decide (n ≤ x) <;> cases ib <;> cases hq : (x == n)
      all_goals
        have hq2 : (x != n) = !(x == n) := rfl
        rw [hq] at hq2
        simp only [Bool.not_true, Bool.not_false] at hq2
        have HD := Lib.hid hd
        have HQ := Lib.hid hq
        go_wp2_with (first
          | (at_builtin; refine wpList_app1 rfl (.tmp 27) (.tmp 29) rfl rfl (HR.out.alloc _) rfl (heap_alloc_new _ _) (by omega) (by simp; omega) ?_; intro v6 w6 hr6 hg6; have HR6 := Lib.hid hr6; have HG6 := Lib.hid hg6; have hz6 := hg6.size; simp at hz6; have hc6 : w6.cell? ⟨g, k, none⟩ = some (.int .i64 x) := (((HB.out.alloc hBB _).grown hg6 (by simp; omega) (fun j hj => (World.ownsRow.lt HR.out j hj).1)).cell (p := ⟨g, k, none⟩) hg).trans ((HB.out.cell (p := ⟨g, k, none⟩) hg).symm.trans hcx2); clear hr6 hg6)
          | (at_builtin; refine wpList_app1 rfl (.tmp 37) (.tmp 42) rfl rfl (HR6.out.alloc _) rfl (heap_alloc_new _ _) (by simp; omega) (by simp; omega) ?_; intro v7 w7 hr7 hg7; have HR7 := Lib.hid hr7; have HG7 := Lib.hid hg7; clear hr7 hg7)
          | (at_builtin; refine wpList_app1 rfl (.tmp 37) (.tmp 42) rfl rfl (HR.out.alloc _) rfl (heap_alloc_new _ _) (by omega) (by simp; omega) ?_; intro v7 w7 hr7 hg7; have HR7 := Lib.hid hr7; have HG7 := Lib.hid hg7; clear hr7 hg7))
        skip
      · go_roundw
        case rel => exact ⟨k + 1, v7, false, rfl, rfl, by go_num, by omega, Lib.hid ⟨oo ++ [x], by rw [HX.out, addS_eq n x oo _ HD.out HQ.out]; rfl, HR7.out⟩, Lib.hid ((HB.out.alloc hBB _).grown HG7.out (by simp; omega) (fun j hj => (World.ownsRow.lt HR.out j hj).1))⟩
        case measure => simp [intOf]; omega
      · go_roundw
        case rel => exact ⟨k + 1, v5, false, rfl, rfl, by go_num, by omega, Lib.hid ⟨oo, by rw [HX.out, addS_eq n x oo _ HD.out HQ.out]; rfl, HR.out⟩, Lib.hid (HB.out)⟩
        case measure => simp [intOf]; omega
      · go_roundw
        case rel => exact ⟨k + 1, v7, true, rfl, rfl, by go_num, by omega, Lib.hid ⟨oo ++ [x], by rw [HX.out, addS_eq n x oo _ HD.out HQ.out]; rfl, HR7.out⟩, Lib.hid ((HB.out.alloc hBB _).grown HG7.out (by simp; omega) (fun j hj => (World.ownsRow.lt HR.out j hj).1))⟩
        case measure => simp [intOf]; omega
      · go_roundw
        case rel => exact ⟨k + 1, v5, true, rfl, rfl, by go_num, by omega, Lib.hid ⟨oo, by rw [HX.out, addS_eq n x oo _ HD.out HQ.out]; rfl, HR.out⟩, Lib.hid (HB.out)⟩
        case measure => simp [intOf]; omega
      · go_roundw
        case rel => exact ⟨k + 1, v7, true, rfl, rfl, by go_num, by omega, Lib.hid ⟨oo ++ [n] ++ [x], by rw [HX.out, addS_eq n x oo _ HD.out HQ.out]; rfl, HR7.out⟩, Lib.hid ((((HB.out.alloc hBB _).grown HG6.out (by simp; omega) (fun j hj => (World.ownsRow.lt HR.out j hj).1)).alloc (by omega) _).grown HG7.out (by simp; omega) (fun j hj => (World.ownsRow.lt HR6.out j hj).1))⟩
        case measure => simp [intOf]; omega
      · go_roundw
        case rel => exact ⟨k + 1, v6, true, rfl, rfl, by go_num, by omega, Lib.hid ⟨oo ++ [n], by rw [HX.out, addS_eq n x oo _ HD.out HQ.out]; rfl, HR6.out⟩, Lib.hid ((HB.out.alloc hBB _).grown HG6.out (by simp; omega) (fun j hj => (World.ownsRow.lt HR.out j hj).1))⟩
        case measure => simp [intOf]; omega
      · go_roundw
        case rel => exact ⟨k + 1, v7, true, rfl, rfl, by go_num, by omega, Lib.hid ⟨oo ++ [x], by rw [HX.out, addS_eq n x oo _ HD.out HQ.out]; rfl, HR7.out⟩, Lib.hid ((HB.out.alloc hBB _).grown HG7.out (by simp; omega) (fun j hj => (World.ownsRow.lt HR.out j hj).1))⟩
        case measure => simp [intOf]; omega
      · go_roundw
        case rel => exact ⟨k + 1, v5, true, rfl, rfl, by go_num, by omega, Lib.hid ⟨oo, by rw [HX.out, addS_eq n x oo _ HD.out HQ.out]; rfl, HR.out⟩, Lib.hid (HB.out)⟩
        case measure => simp [intOf]; omega
    · obtain rfl : k = l.length := by omega
      have HA : Hid (addR l n = if ib then oo else oo ++ [n]) := Lib.hid (by
        have e := HE.out
        rw [List.take_length] at e
        unfold addR
        rw [if_neg (by omega), e])
      cases ib
      · go_wp2_with (at_builtin; refine wpList_app1 rfl (.tmp 46) (.tmp 48) rfl rfl (HR.out.alloc _) rfl (heap_alloc_new _ _) (by omega) (by simp; omega) ?_; intro v8 w8 hr8 hg8; have HR8 := Lib.hid hr8; have HG8 := Lib.hid hg8; clear hr8 hg8)
        go_ret
        refine ⟨v8, rfl, ?_, (HB.out.alloc hBB _).grown HG8.out (by simp; omega) (fun j hj => (World.ownsRow.lt HR.out j hj).1)⟩
        rw [HA.out]
        exact HR8.out.mono hB
      · go_wp2
        go_ret
        refine ⟨v5, rfl, ?_, HB.out⟩
        rw [HA.out]
        exact HR.out.mono hB
/-- The document's add, of any row and number. -/
theorem radd_any {B : Nat} {w : World} {v : Value} {l : List Int} (n : Int) (h : Rw B w v l) (hl : l.length ≤ 400000) (hB : B ≤ w.heap.size) : Calls Tryd.prog 26 #[v, .int .i64 n] w (AddP B w (addR l n)) := by
  by_cases hn : n < 0
  · refine (radd_neg n (Lib.hid h) hn).mono ?_
    rintro e w' ⟨rfl, rfl⟩
    refine ⟨v, rfl, ?_, Below.refl _ _⟩
    unfold addR
    rw [if_pos hn]
    exact h
  · rcases h.open with ⟨rfl, rfl⟩ | ⟨g, c, rfl, _, hg, _, hc⟩
    · exact radd_pos none 0 n rfl (fun j x hx => by simp at hx) (by omega) hl hB
    · exact radd_pos (some ⟨g, 0, none⟩) c n rfl (fun j x hx => ⟨g, rfl, hg, hc j x hx⟩) (by omega) hl hB
end Go.Proofs.YtjjjdghkeogljaaDoor
