/- The document's own Digits of any number, and Number of any text. -/
import Derived.Test.YtngfbpmabdmkeaaGreatDoorBackB
import Derived.WalkLawsBesides
import Derived.WalkSpells
namespace Go.Proofs.YtngfbpmabdmkeaaGreatDoor
open Go Go.RowKit Go.WideShapes

def tens : ByteArray := ⟨#[48, 49, 50, 51, 52, 53, 54, 55, 56, 57]⟩
theorem tens_at {d : Nat} (h : d < 10) : (tens.extract d (d + 1)).data.toList = [UInt8.ofNat (48 + d)] := by
  have hd : d = 0 ∨ d = 1 ∨ d = 2 ∨ d = 3 ∨ d = 4 ∨ d = 5 ∨ d = 6 ∨ d = 7 ∨ d = 8 ∨ d = 9 := by omega
  rcases hd with rfl | rfl | rfl | rfl | rfl | rfl | rfl | rfl | rfl | rfl <;> rfl
theorem cat_list (a b : ByteArray) : (a ++ b).data.toList = a.data.toList ++ b.data.toList := by
  rw [ByteArray.data_append, Array.toList_append]
theorem size_list (a : ByteArray) : a.size = a.data.toList.length := rfl

/-- What was shown of N so far stands in t, u is still to be shown. -/
def Shown (N u : Nat) (t : ByteArray) : Prop := Lib.decDigits N = Lib.decDigits u ++ t.data.toList

theorem Shown.size {N u : Nat} {t : ByteArray} (h : Shown N u t) (hN : N ≤ 9223372036854775808) : t.size ≤ 19 := by
  have h1 := congrArg List.length h
  have h2 := dec_len 18 N (by omega)
  rw [List.length_append, ← size_list] at h1
  omega
theorem Shown.step {N u : Nat} {t : ByteArray} (h : Shown N u t) (hu : ¬ u < 10) : Shown N (u / 10) (tens.extract (u % 10) (u % 10 + 1) ++ t) := by
  unfold Shown at h ⊢
  rw [h, dec_step hu, cat_list, tens_at (Nat.mod_lt _ (by decide)), List.append_assoc]
theorem Shown.last {N u : Nat} {t : ByteArray} (h : Shown N u t) (hu : u < 10) : (tens.extract (u % 10) (u % 10 + 1) ++ t).data.toList = Lib.decDigits N := by
  unfold Shown at h
  rw [h, dec_small hu, cat_list, tens_at (Nat.mod_lt _ (by decide)), Nat.mod_eq_of_lt hu]

set_option maxRecDepth 100000 in
theorem rdig_pos (n : Nat) (w : World) (hn : (n : Int) ≤ 9223372036854775807) : Calls Tryz.prog 22 #[.int .i64 n] w fun e w' => e = .returned (.string (dig n)) ∧ w = w' := by
  go_enter Tryz.func22, Tryz.ntmps22
  go_wp2
  go_loop [0, 3] (fun x s => ∃ (u : Nat) (t : ByteArray), x = .int .i64 u ∧ s = .string t ∧ (u : Int) ≤ 9223372036854775807 ∧ Shown n u t) (fun x _ => (intOf x).toNat)
  case atStart => exact ⟨n, ⟨#[]⟩, rfl, rfl, hn, by unfold Shown; exact (List.append_nil _).symm⟩
  case round =>
    obtain ⟨u, t, rfl, rfl, hu, hsh⟩ := hrel
    have hts := hsh.size (by omega)
    by_cases hz : u < 10
    · have h0 : ((u : Int) / 10 == 0) = true := by simp; omega
      go_wp2
      go_ret
      refine ⟨congrArg (fun s => Ending.returned (Value.string s)) (bytes_inj ?_), rfl⟩
      rw [dig_nat]
      exact hsh.last hz
    · have h0 : ((u : Int) / 10 == 0) = false := by simp; omega
      go_wp2
      go_round
      case rel => exact ⟨u / 10, _, by go_num, rfl, by omega, hsh.step hz⟩
      case measure => simp [intOf]; omega

theorem neg_parts {u : Nat} : (-(u : Int)).tmod 10 = -((u % 10 : Nat) : Int) ∧ (-(u : Int)).tdiv 10 = -((u / 10 : Nat) : Int) := by
  have h1 := Int.neg_tmod (u : Int) 10
  have h2 := Int.neg_tdiv (u : Int) 10
  have h3 : (u : Int).tmod 10 = (u : Int) % 10 := Int.tmod_eq_emod_of_nonneg (by omega)
  have h4 : (u : Int).tdiv 10 = (u : Int) / 10 := Int.tdiv_eq_ediv_of_nonneg (by omega)
  rw [h3] at h1
  rw [h4] at h2
  exact ⟨h1, h2⟩

set_option maxRecDepth 100000 in
theorem rdig_neg (n : Int) (N : Nat) (hN : Hid (n = -(N : Int))) (w : World) (hn : n < 0) (hb : -9223372036854775808 ≤ n) : Calls Tryz.prog 22 #[.int .i64 n] w fun e w' => e = .returned (.string (dig n)) ∧ w = w' := by
  go_enter Tryz.func22, Tryz.ntmps22
  go_wp2
  go_loop [0, 3] (fun x s => ∃ (v : Int) (u : Nat) (t : ByteArray), x = .int .i64 v ∧ s = .string t ∧ v < 0 ∧ -9223372036854775808 ≤ v ∧ Hid (v = -(u : Int)) ∧ Shown N u t) (fun x _ => (-(intOf x)).toNat)
  case atStart => exact ⟨n, N, ⟨#[]⟩, rfl, rfl, hn, hb, hN, by unfold Shown; exact (List.append_nil _).symm⟩
  case round =>
    obtain ⟨v, u, t, rfl, rfl, hv, hv2, HV, hsh⟩ := hrel
    have hts := hsh.size (by have := hN.out; omega)
    have hp := @neg_parts u
    rw [← HV.out] at hp
    have HP := Lib.hid hp
    clear hp
    have hm0 : -9 ≤ v.tmod 10 := by have := HP.out.1; omega
    by_cases hz : u < 10
    · have h0 : (v.tdiv 10 == 0) = true := by have := HP.out.2; simp; omega
      have hm1 : v.tmod 10 < 0 := by have := HP.out.1; have := HV.out; omega
      go_wp2
      go_ret
      refine ⟨congrArg (fun s => Ending.returned (Value.string s)) (bytes_inj ?_), rfl⟩
      rw [dig_neg hn, cat_list]
      have e1 : (-v.tmod 10).toNat = u % 10 := by have := HP.out.1; omega
      have e2 : (-v.tmod 10 + 1).toNat = u % 10 + 1 := by have := HP.out.1; omega
      have e3 : n.natAbs = N := by have := hN.out; omega
      rw [e1, e2, e3]
      show [45] ++ (tens.extract (u % 10) (u % 10 + 1) ++ t).data.toList = _
      rw [hsh.last hz]
      rfl
    · have h0 : (v.tdiv 10 == 0) = false := by have := HP.out.2; simp; omega
      by_cases hr : u % 10 = 0
      · have hm1 : v.tmod 10 = 0 := by have := HP.out.1; omega
        have HR := Lib.hid hr
        clear hr
        go_wp2
        go_round
        case rel =>
          refine ⟨v.tdiv 10, u / 10, _, rfl, rfl, by have := HP.out.2; omega, by have := HP.out.2; have := HV.out; omega, Lib.hid HP.out.2, ?_⟩
          have h1 := hsh.step hz
          rw [HR.out] at h1
          exact h1
        case measure => have := HP.out.2; have := HV.out; simp [intOf]; omega
      · have hm1 : v.tmod 10 < 0 := by have := HP.out.1; omega
        have HR := Lib.hid hr
        clear hr
        go_wp2
        go_round
        case rel =>
          refine ⟨v.tdiv 10, u / 10, _, rfl, rfl, by have := HP.out.2; omega, by have := HP.out.2; have := HV.out; omega, Lib.hid HP.out.2, ?_⟩
          have h1 := hsh.step hz
          have e1 : (-v.tmod 10).toNat = u % 10 := by have := HP.out.1; omega
          have e2 : (-v.tmod 10 + 1).toNat = u % 10 + 1 := by have := HP.out.1; omega
          rw [e1, e2]
          exact h1
        case measure => have := HP.out.2; have := HV.out; simp [intOf]; omega

/-- The document's Digits, of any number. -/
theorem rdigits_any (n : Int) (w : World) (h0 : -9223372036854775808 ≤ n) (h1 : n ≤ 9223372036854775807) : Calls Tryz.prog 22 #[.int .i64 n] w fun e w' => e = .returned (.string (dig n)) ∧ w = w' := by
  by_cases h : n < 0
  · exact rdig_neg n n.natAbs (Lib.hid (by omega)) w h h0
  · obtain ⟨u, rfl⟩ := Int.eq_ofNat_of_zero_le (show 0 ≤ n by omega)
    exact rdig_pos u w h1

/-- What digits spell, behind what was spelt so far. -/
def rGo (acc : Int) : List UInt8 → Option Int
  | [] => some acc
  | c :: r => if (c.toNat : Int) < 48 ∨ 57 < (c.toNat : Int) ∨ (9223372036854775807 - ((c.toNat : Int) - 48)) / 10 < acc then none else rGo (10 * acc + ((c.toNat : Int) - 48)) r
/-- The document's Number of a text. -/
def rNum (s : ByteArray) : Int × Bool :=
  if s.size = 0 ∨ 19 < s.size then (0, false)
  else match rGo 0 s.data.toList with
    | none => (0, false)
    | some n => (n, (dig n).toList == s.toList)

theorem drop_at (s : ByteArray) (k : Nat) (h : k < s.size) : s.data.toList.drop k = s[k] :: s.data.toList.drop (k + 1) := by
  rw [List.drop_eq_getElem_cons (by simpa using h)]
  rfl

theorem rnumber_bad (s : ByteArray) (w : World) (he : s.toList.isEmpty = true) : Calls Tryz.prog 33 #[.string s] w fun e w' => e = .returned (.tuple #[.int .i64 0, .bool false]) ∧ w = w' := by
  go_enter Tryz.func33, Tryz.ntmps33
  go_wp2
  go_ret2
  exact ⟨rfl, rfl⟩
theorem rnumber_long (s : ByteArray) (w : World) (he : s.toList.isEmpty = false) (hl : 19 < s.size) (hm : s.size ≤ 9223372036854775807) : Calls Tryz.prog 33 #[.string s] w fun e w' => e = .returned (.tuple #[.int .i64 0, .bool false]) ∧ w = w' := by
  go_enter Tryz.func33, Tryz.ntmps33
  go_wp2
  go_ret2
  exact ⟨rfl, rfl⟩

theorem rGo_bad {acc : Int} {c : UInt8} {r : List UInt8} (h : (c.toNat : Int) < 48 ∨ 57 < (c.toNat : Int) ∨ (9223372036854775807 - ((c.toNat : Int) - 48)) / 10 < acc) : rGo acc (c :: r) = none := by rw [rGo, if_pos h]
theorem rGo_step {acc : Int} {c : UInt8} {r : List UInt8} (h : ¬ ((c.toNat : Int) < 48 ∨ 57 < (c.toNat : Int) ∨ (9223372036854775807 - ((c.toNat : Int) - 48)) / 10 < acc)) : rGo acc (c :: r) = rGo (10 * acc + ((c.toNat : Int) - 48)) r := by rw [rGo, if_neg h]

def RN (m : Option Int) (s : ByteArray) (e : Ending) : Prop :=
  e = .returned (.tuple #[.int .i64 (match m with | none => 0 | some n => n), .bool (match m with | none => false | some n => (dig n).toList == s.toList)])

set_option maxRecDepth 100000 in
set_option maxHeartbeats 1000000 in
theorem rnumber_good (s : ByteArray) (w : World) (he : s.toList.isEmpty = false) (hl : s.size ≤ 19) : Calls Tryz.prog 33 #[.string s] w fun e w' => RN (rGo 0 s.data.toList) s e ∧ w = w' := by
  go_enter Tryz.func33, Tryz.ntmps33
  go_wp2
  go_loop [4, 5] (fun n i => ∃ (k : Nat) (acc : Int), k ≤ s.size ∧ i = .int .i64 k ∧ n = .int .i64 acc ∧ 0 ≤ acc ∧ acc ≤ 9223372036854775807 ∧ Hid (rGo acc (s.data.toList.drop k) = rGo 0 s.data.toList)) (fun _ i => s.size - (intOf i).toNat)
  case atStart => exact ⟨0, 0, Nat.zero_le _, rfl, rfl, by omega, by omega, Lib.hid rfl⟩
  case round =>
    obtain ⟨k, acc, hk, rfl, rfl, ha0, ha1, HG⟩ := hrel
    by_cases hlt : k < s.size
    · obtain ⟨c, hc⟩ : ∃ c, c = s[k] := ⟨_, rfl⟩
      have hd := drop_at s k hlt
      rw [← hc] at hd
      have HD := Lib.hid hd
      clear hd
      have hb : c.toNat < 256 := UInt8.toNat_lt c
      by_cases h1 : (c.toNat : Int) < 48
      · have e0 : RN none s (.returned (.tuple #[.int .i64 0, .bool false])) := rfl
        have HE : Hid (rGo 0 s.data.toList = none) := Lib.hid (by rw [← HG.out, HD.out]; exact rGo_bad (Or.inl h1))
        rw [hc] at h1 hb
        clear hc HD
        go_wp2
        go_ret2
        exact ⟨by rw [HE.out]; exact e0, rfl⟩
      · by_cases h2 : 57 < (c.toNat : Int)
        · have e0 : RN none s (.returned (.tuple #[.int .i64 0, .bool false])) := rfl
          have HE : Hid (rGo 0 s.data.toList = none) := Lib.hid (by rw [← HG.out, HD.out]; exact rGo_bad (Or.inr (Or.inl h2)))
          rw [hc] at h1 h2 hb
          clear hc HD
          go_wp2
          go_ret2
          exact ⟨by rw [HE.out]; exact e0, rfl⟩
        · by_cases h3 : (9223372036854775807 - ((c.toNat : Int) - 48)) / 10 < acc
          · have e0 : RN none s (.returned (.tuple #[.int .i64 0, .bool false])) := rfl
            have HE : Hid (rGo 0 s.data.toList = none) := Lib.hid (by rw [← HG.out, HD.out]; exact rGo_bad (Or.inr (Or.inr h3)))
            rw [hc] at h1 h2 h3 hb
            clear hc HD
            go_wp2
            go_ret2
            exact ⟨by rw [HE.out]; exact e0, rfl⟩
          · have HE : Hid (rGo (10 * acc + ((c.toNat : Int) - 48)) (s.data.toList.drop (k + 1)) = rGo 0 s.data.toList) := Lib.hid (by rw [← HG.out, HD.out, rGo_step (by omega)])
            rw [hc] at h1 h2 h3 hb HE
            clear hc HD
            go_wp2
            go_round
            case rel => exact ⟨k + 1, _, by omega, by go_num, rfl, by omega, by omega, HE⟩
            case measure => simp [intOf]; omega
    · have e0 : s.data.toList.drop k = [] := List.drop_eq_nil_of_le (by show s.data.toList.length ≤ k; rw [← size_list]; omega)
      have HE : Hid (rGo 0 s.data.toList = some acc) := Lib.hid (by rw [← HG.out, e0, rGo])
      clear e0
      obtain ⟨d, hd⟩ : ∃ d, d = dig acc := ⟨_, rfl⟩
      have hdig : ∀ W : World, Calls Tryz.prog 22 #[.int .i64 acc] W fun e w' => e = .returned (.string d) ∧ W = w' := by rw [hd]; exact fun W => rdigits_any acc W (by omega) ha1
      have HD := Lib.hid hdig
      have HH := Lib.hid hd
      clear hdig hd
      go_wp2_with (go_at_call 22; refine (HD.out _).mono ?_; rintro e w' ⟨rfl, rfl⟩)
      go_ret2
      exact ⟨by rw [HE.out, HH.out]; rfl, rfl⟩

/-- The document's Number, of any text. -/
theorem rnumber_any (s : ByteArray) (w : World) (hm : s.size ≤ 9223372036854775807) : Calls Tryz.prog 33 #[.string s] w fun e w' => e = .returned (.tuple #[.int .i64 (rNum s).1, .bool (rNum s).2]) ∧ w = w' := by
  cases he : s.toList.isEmpty
  · have hne : ¬ s.size = 0 := by
      intro h0
      rw [ByteArray.toList_eq] at he
      have : s.data.toList = [] := List.eq_nil_of_length_eq_zero (by rw [← size_list]; exact h0)
      rw [this] at he
      cases he
    by_cases hl : 19 < s.size
    · have e1 : rNum s = (0, false) := if_pos (Or.inr hl)
      rw [e1]
      exact rnumber_long s w he hl hm
    · have e1 : rNum s = match rGo 0 s.data.toList with
          | none => (0, false)
          | some n => (n, (dig n).toList == s.toList) := if_neg (by omega)
      refine (rnumber_good s w he (by omega)).mono fun e w' ⟨h1, h2⟩ => ⟨?_, h2⟩
      rw [h1, e1]
      cases rGo 0 s.data.toList <;> rfl
  · have h0 : s.size = 0 := by
      rw [ByteArray.toList_eq, List.isEmpty_iff] at he
      rw [size_list, he]
      rfl
    have e1 : rNum s = (0, false) := if_pos (Or.inl h0)
    rw [e1]
    exact rnumber_bad s w he

theorem go_dec (u : Nat) : ∀ r, u ≤ 9223372036854775807 → rGo 0 (Lib.decDigits u ++ r) = rGo (u : Int) r := by
  induction u using Nat.strongRecOn with
  | _ u ih =>
    intro r hu
    by_cases h : u < 10
    · rw [dec_small h, List.singleton_append, rGo_step (by rw [byte_of h]; omega), byte_of h]
      congr 1
      omega
    · have hd : u % 10 < 10 := Nat.mod_lt _ (by decide)
      rw [dec_step h, List.append_assoc, ih (u / 10) (by omega) _ (by omega), List.singleton_append, rGo_step (by rw [byte_of hd]; omega), byte_of hd]
      congr 1
      omega

theorem rGo_bd (l : List UInt8) : ∀ acc n : Int, 0 ≤ acc → acc ≤ 9223372036854775807 → rGo acc l = some n → 0 ≤ n ∧ n ≤ 9223372036854775807 := by
  induction l with
  | nil =>
    intro acc n h0 h1 h
    rw [rGo] at h
    cases h
    exact ⟨h0, h1⟩
  | cons c r ih =>
    intro acc n h0 h1 h
    by_cases hb : (c.toNat : Int) < 48 ∨ 57 < (c.toNat : Int) ∨ (9223372036854775807 - ((c.toNat : Int) - 48)) / 10 < acc
    · rw [rGo_bad hb] at h
      cases h
    · rw [rGo_step hb] at h
      exact ih _ n (by omega) (by omega) h

theorem eq_of_lists {a b : ByteArray} (h : (a.toList == b.toList) = true) : a = b := by
  rw [ByteArray.toList_eq, ByteArray.toList_eq] at h
  exact bytes_inj (eq_of_beq h)

/-- Both answer alike. -/
theorem same_num (s : ByteArray) : (∃ v, numM s = (v, true) ∧ rNum s = (v, true)) ∨ (∃ v, numM s = (0, false) ∧ rNum s = (v, false)) := by
  by_cases hr : (rNum s).2 = true
  · left
    by_cases hs : s.size = 0 ∨ 19 < s.size
    · rw [show rNum s = (0, false) from if_pos hs] at hr
      cases hr
    · have e1 : rNum s = match rGo 0 s.data.toList with
          | none => (0, false)
          | some n => (n, (dig n).toList == s.toList) := if_neg hs
      cases hg : rGo 0 s.data.toList with
      | none =>
        rw [e1, hg] at hr
        cases hr
      | some n =>
        rw [e1, hg] at hr
        simp only at hr
        have hb := rGo_bd _ _ _ (by omega) (by omega) hg
        have he := eq_of_lists hr
        refine ⟨n, ?_, ?_⟩
        · rw [← he]
          exact num_dig hb.1 hb.2
        · rw [e1, hg]
          simp only [hr]
  · have hr2 : (rNum s).2 = false := by simpa using hr
    right
    refine ⟨(rNum s).1, ?_, by rw [← hr2]⟩
    unfold numM
    by_cases hl : 19 < s.size
    · rw [if_pos hl]
    · rw [if_neg hl]
      rcases hp : Lib.parseIntB 64 s.data.toList with v | _ | _
      · simp only
        by_cases hv : v < 0
        · rw [if_pos hv]
        · rw [if_neg hv]
          by_cases ht : ((dig v).toList == s.toList) = true
          · exfalso
            have he := eq_of_lists ht
            obtain ⟨b1, b2⟩ := Lib.parseIntB_bounds hp
            have b3 : v ≤ 9223372036854775807 := by simp at b2; omega
            obtain ⟨u, rfl⟩ := Int.eq_ofNat_of_zero_le (show 0 ≤ v by omega)
            have hsd : s.data.toList = Lib.decDigits u := by rw [← he, dig_nat]
            have hg := go_dec u [] (by omega)
            rw [List.append_nil, ← hsd] at hg
            obtain ⟨c, r, hc, _⟩ := dec_head u
            have hz : s.size = r.length + 1 := by rw [size_list, hsd, hc]; rfl
            have hs0 : ¬ (s.size = 0 ∨ 19 < s.size) := by omega
            apply hr
            unfold rNum
            rw [if_neg hs0, hg]
            simp only [rGo]
            exact ht
          · rw [if_neg ht]
      · rfl
      · rfl
end Go.Proofs.YtngfbpmabdmkeaaGreatDoor
