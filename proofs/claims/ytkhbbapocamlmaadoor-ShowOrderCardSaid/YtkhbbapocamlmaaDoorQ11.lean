/- Joined texts: Rwords Rwo: lemmas for the law; each says its own conditions. -/
import Derived.Test.YtkhbbapocamlmaaDoorQ10
import Derived.Deep.RegionHeld3
import Derived.Test.YtkhbbapocamlmaaDoorQ01
set_option linter.unusedSimpArgs false
set_option linter.unusedVariables false
namespace Go.Proofs.YtkhbbapocamlmaaDoor
open Go Go.RowKit

theorem infoW : (Tryd.prog.info? 57).map (fun i => (i.zero, i.size, i.bytes)) = some (some (.agg #[.int .i64 0, .string ⟨#[]⟩, .int .i64 0, .int .i64 0]), 4, 40) := by kernel_rfl

theorem span_part {l : List UInt8} {i : Nat} {x : UInt8} (h : i < spanL l) (hx : l[i]? = some x) : isPart x = true := take_all isPart l i x h hx
theorem while_end {α : Type} (p : α → Bool) : ∀ (l : List α) (x : α), l[(l.takeWhile p).length]? = some x → p x = false
  | [], x, h => by simp at h
  | c :: r, x, h => by
    rw [List.takeWhile_cons] at h
    split at h
    · exact while_end p r x (by simpa using h)
    · rename_i hc
      simp at h
      rw [← h]
      simpa using hc

theorem rletter_is {c : UInt8} {b : Bool} (h : isLetter c = b) (w : World) : Calls Tryd.prog 34 #[.int .u8 c.toNat] w fun e w' => e = .returned (.bool b) ∧ w = w' := by
  rw [← h, ← letterR_byte]
  exact rletter_any _ w
theorem rdigit_is {c : UInt8} {b : Bool} (h : isDigit c = b) (w : World) : Calls Tryd.prog 35 #[.int .u8 c.toNat] w fun e w' => e = .returned (.bool b) ∧ w = w' := by
  rw [← h, ← digitR_byte]
  exact rdigit_any _ w

/-- How a call ends, of words Wf and an error Rf. -/
def RwordsEnd (B : Nat) (Wf : List Wd) (Rf : Option (Int × Nat)) (e : Ending) (w' : World) : Prop :=
  match Rf with
  | none => ∃ v, e = .returned (.tuple #[v, .int .i64 0, .int .i64 0]) ∧ w'.ownsRow B 57 4 v Wf.length (cellsW Wf)
  | some (e0, a0) => e = .returned (.tuple #[.slice none 0 0, .int .i64 e0, .int .i64 a0])

theorem blanks_eq (c : UInt8) : hasB (⟨#[32, 9, 10, 13]⟩ : ByteArray).data.toList c = isBlank c := by
  rw [Bool.eq_iff_iff]
  simp [hasB, isBlank, or_assoc]
theorem blank_in {c : UInt8} {b : Bool} (h : isBlank c = b) (w : World) : Calls Tryd.prog 33 #[.string ⟨#[32, 9, 10, 13]⟩, .int .u8 c.toNat] w fun e w' => e = .returned (.bool b) ∧ w = w' :=
  in_is ((blanks_eq c).trans h) (by decide) w

theorem own_ne_new {w : World} {B e size n : Nat} {v : Value} {xs : List Value} (h : w.ownsRow B e size v n xs) : v.ownBlock ≠ some w.heap.size := fun h2 => by
  have := (h.lt _ h2).2
  omega
theorem own_set {w : World} {B e size n b : Nat} {v : Value} {xs : List Value} (h : w.ownsRow B e size v n xs) (hne : v.ownBlock ≠ some b) (i : Nat) (u : Value) : (w.setCell ⟨b, i, none⟩ u).ownsRow B e size v n xs := by
  refine ⟨h.1, ?_⟩
  rcases h.2 with h0 | ⟨g, cap, cur, rfl, hB, hg, rest⟩
  · exact .inl h0
  · exact .inr ⟨g, cap, cur, rfl, hB, (Below.heap_setCell w ⟨b, i, none⟩ u g (fun e => hne (by rw [e]; rfl))).trans hg, rest⟩
theorem below_two {B b i j : Nat} {w w1 : World} (h : Below B w w1) (hb : B ≤ b) (x0 x1 : Value) : Below B w ((w1.setCell ⟨b, i, none⟩ x0).setCell ⟨b, j, none⟩ x1) :=
  (h.setCell (p := ⟨b, i, none⟩) hb x0).setCell (p := ⟨b, j, none⟩) hb x1

theorem span_facts (s : ByteArray) (k m J : Nat) (hm : spanL (s.data.toList.drop k) = m) (hJ : J = k + m) : (∀ j (h : j < s.size), k ≤ j → j < J → isPart (s[j]'h) = true) ∧ ∀ h : J < s.size, isPart (s[J]'h) = false := by
  subst hJ
  refine ⟨fun j h hj1 hj2 => ?_, fun h => ?_⟩
  · have hx := list_at s k (j - k) (by omega)
    have e : k + (j - k) = j := by omega
    simp only [e] at hx
    exact span_part (by omega) hx
  · have hx := list_at s k m h
    refine while_end isPart (s.data.toList.drop k) _ ?_
    show (s.data.toList.drop k)[spanL (s.data.toList.drop k)]? = _
    rw [hm]
    exact hx
theorem ext_drop (s : ByteArray) (k m J : Nat) (hJ : J = k + m) : s.extract k J = ⟨((s.data.toList.drop k).take m).toArray⟩ := by
  rw [Lib.extract_eq, hJ, Nat.add_sub_cancel_left]
theorem ext_size (s : ByteArray) (k J : Nat) : (s.extract k J).size = min J s.size - k := by rw [ByteArray.size_extract]

theorem rnum_is {X : ByteArray} {v : Int} {b : Bool} (h : rNum X = (v, b)) (w : World) (hm : X.size ≤ 9223372036854775807) : Calls Tryd.prog 36 #[.string X] w fun e w' => e = .returned (.tuple #[.int .i64 v, .bool b]) ∧ w = w' := by
  have := rnumber_any X w hm
  rw [h] at this
  exact this
theorem rnum_some {l : List UInt8} {v : Int} (h : numO l = some v) : rNum ⟨l.toArray⟩ = (v, true) := by
  have h1 := numO_some h
  rcases same_num ⟨l.toArray⟩ with ⟨v', e1, e2⟩ | ⟨v', e1, e2⟩
  · rw [h1] at e1
    rw [e2, (Prod.mk.inj e1).1]
  · rw [h1] at e1
    cases e1
theorem rnum_none {l : List UInt8} (h : numO l = none) : ∃ v, rNum ⟨l.toArray⟩ = (v, false) := by
  obtain ⟨v, h1⟩ := numO_none h
  rcases same_num ⟨l.toArray⟩ with ⟨v', e1, e2⟩ | ⟨v', e1, e2⟩
  · rw [h1] at e1
    cases e1
  · exact ⟨_, e2⟩
theorem rsign_at (s Y : ByteArray) (k n : Nat) (hp : k < s.size) (hm : s.size ≤ 16384) (hn : sgnLen (s.data.toList.drop k) = n) (hY : Y = ⟨((s.data.toList.drop k).take n).toArray⟩) (w : World) :
    Calls Tryd.prog 37 #[.string (s.extract k s.size)] w fun e w' => e = .returned (.string Y) ∧ Below w.heap.size w w' := by
  have h := rsgn2_any (s.extract k s.size) w (by rw [rest_size]; omega) (by rw [rest_size]; omega)
  rw [take_ext, rest_list, hn, ← hY] at h
  exact h

set_option maxRecDepth 100000 in
set_option maxHeartbeats 4000000 in
theorem rwords_any (s : ByteArray) (w : World) (hs : s.size ≤ 16384) (Wf : List Wd) (Rf : Option (Int × Nat)) (hS : Hid (Sc numO s.data.toList 0 Wf Rf)) :
    Calls Tryd.prog 16 #[.string s] w fun e w' => RwordsEnd w.heap.size Wf Rf e w' ∧ Below w.heap.size w w' := by
  obtain ⟨i0, hi, hz0, hz1, hz2⟩ := info_parts infoW
  go_enter Tryd.func16, Tryd.ntmps16
  go_wp2
  go_loopw [5, 6] (fun v q wr => ∃ (k : Nat) (acc ws : List Wd), q = .int .i64 k ∧ k ≤ s.size ∧ wr.ownsRow w.heap.size 57 4 v acc.length (cellsW acc) ∧ Below w.heap.size w wr ∧ acc.length ≤ k ∧
      Hid (Sc numO (s.data.toList.drop k) k ws Rf ∧ acc ++ ws = Wf)) (fun _ q _ => s.size - (intOf q).toNat)
  case atStart => exact ⟨0, [], Wf, rfl, Nat.zero_le _, ⟨rfl, .inl ⟨rfl, rfl⟩⟩, Below.refl _ _, Nat.le_refl _, Lib.hid ⟨hS.out, rfl⟩⟩
  case round =>
    obtain ⟨k, acc, ws, rfl, hk, hown, hbw, hal, HI⟩ := hrel
    by_cases hp : k < s.size
    · have hne := drop_ne s k hp
      have hdl := drop_len s k
      obtain ⟨q, hq⟩ : ∃ q, s.data.toList.drop k = (s[k]'hp) :: q := by
        have h0 := list_at s k 0 hp
        obtain ⟨c, r, hc⟩ := List.exists_cons_of_ne_nil hne
        rw [hc] at h0 ⊢
        simp only [Nat.add_zero, List.getElem?_cons_zero, Option.some.injEq] at h0
        exact ⟨r, by rw [h0]⟩
      by_cases hb : isBlank (s[k]'hp) = true
      · have HB := Lib.hid hb
        have ht : tok numO (s.data.toList.drop k) = .gap 1 := by rw [hq]; simp only [tok, hb, if_true]
        have HI2 : Hid (Sc numO (s.data.toList.drop (k + 1)) (k + 1) ws Rf ∧ acc ++ ws = Wf) := Lib.hid ⟨by have := HI.out.1.gap_inv hne ht; rwa [List.drop_drop] at this, HI.out.2⟩
        clear hb ht hne hdl hq
        go_wp2_with (go_at_call 33; with_reducible refine (blank_in HB.out _).mono ?_; rintro e' w' ⟨rfl, rfl⟩)
        go_roundw
        case rel => exact ⟨k + 1, acc, ws, by go_num, by omega, hown, hbw, by omega, HI2⟩
        case measure => simp [intOf]; omega
      · have HB : Hid (isBlank (s[k]'hp) = false) := Lib.hid (by simpa using hb)
        by_cases hnt : (s[k]'hp) = 47 ∧ q.head? = some 47
        · obtain ⟨hc47, hq47⟩ := hnt
          have h47 : (((s[k]'hp).toNat : Int) == 47) = true := by rw [hc47]; rfl
          have hk1 : k + 1 < s.size := by
            have h1 := congrArg List.length hq
            rw [hdl, List.length_cons] at h1
            have h2 : 0 < q.length := by
              cases q with
              | nil => cases hq47
              | cons a b => simp
            omega
          have h471 : (((s[k + 1]'hk1).toNat : Int) == 47) = true := by
            have h1 := list_at s k 1 hk1
            rw [hq] at h1
            have h2 : some (s[k + 1]'hk1) = some 47 := by
              rw [← h1, ← hq47]
              cases q <;> rfl
            rw [Option.some.inj h2]
            rfl
          obtain ⟨m, hm⟩ : ∃ m, noteL (s.data.toList.drop k) = m := ⟨_, rfl⟩
          have ht : tok numO (s.data.toList.drop k) = .gap m := by
            rw [← hm, hq]
            simp only [tok]
            rw [if_neg hb, if_pos ⟨hc47, hq47⟩]
          obtain ⟨hm1, hm2⟩ := tok_gap hne ht
          have hm3 : k + m ≤ s.size := by omega
          have HI2 : Hid (Sc numO (s.data.toList.drop (k + m)) (k + m) ws Rf ∧ acc ++ ws = Wf) := Lib.hid ⟨by have := HI.out.1.gap_inv hne ht; rwa [List.drop_drop] at this, HI.out.2⟩
          have HN : Hid ((∀ j (h : j < s.size), k ≤ j → j < k + m → (((s[j]'h).toNat : Int) == 10) = false) ∧ ∀ h : k + m < s.size, (((s[k + m]'h).toNat : Int) == 10) = true) := by
            refine Lib.hid ⟨fun j h hj1 hj2 => ?_, fun h => ?_⟩
            · have hx := list_at s k (j - k) (by omega)
              have e : k + (j - k) = j := by omega
              simp only [e] at hx
              have h1 := take_all _ _ (j - k) _ (by have := hm; unfold noteL at this; rw [this]; omega) hx
              rw [beq_eq_false_iff_ne]
              intro h2
              have h3 : (s[j]'h) = 10 := UInt8.toNat_inj.1 (by show _ = 10; omega)
              rw [h3] at h1
              cases h1
            · have hx := list_at s k m h
              have h10 : s[k + m] = 10 := note_end (by rw [hm]; exact hx)
              rw [h10]
              rfl
          clear hb hc47 hq47 ht hne hdl hq hm hm2
          go_wp2_with (go_at_call 33; with_reducible refine (blank_in HB.out _).mono ?_; rintro e' w' ⟨rfl, rfl⟩)
          obtain ⟨wo, hwo⟩ : ∃ wo : World, wo = wr := ⟨_, rfl⟩
          subst hwo
          go_loop [6] (fun i => ∃ j : Nat, i = .int .i64 j ∧ k ≤ j ∧ j ≤ k + m) (fun i => k + m - (intOf i).toNat)
          case atStart => exact ⟨k, rfl, Nat.le_refl _, by omega⟩
          case round =>
            obtain ⟨j, rfl, hj1, hj2⟩ := hrel
            by_cases hj : j < k + m
            · have hjs : j < s.size := by omega
              have h10 := HN.out.1 j hjs hj1 hj
              have hne10 : (((s[j]'hjs).toNat : Int) != 10) = true := by simp [bne, h10]
              go_wp2
              go_round
              case rel => exact ⟨j + 1, by go_num, by omega, by omega⟩
              case measure => simp [intOf]; omega
            · obtain rfl : j = k + m := by omega
              by_cases hje : k + m < s.size
              · have h10 := HN.out.2 hje
                have hne10 : (((s[k + m]'hje).toNat : Int) != 10) = false := by simp [bne, h10]
                go_wp2
                go_roundw
                case rel => exact ⟨k + m, acc, ws, by go_num, by omega, hown, hbw, by omega, HI2⟩
                case measure => simp [intOf]; omega
              · go_wp2
                go_roundw
                case rel => exact ⟨k + m, acc, ws, by go_num, by omega, hown, hbw, by omega, HI2⟩
                case measure => simp [intOf]; omega
        · obtain ⟨m, hm⟩ : ∃ m, spanL (s.data.toList.drop k) = m := ⟨_, rfl⟩
          obtain ⟨J, hJ⟩ : ∃ J, J = k + m := ⟨_, rfl⟩
          have hml : m ≤ s.size - k := by rw [← hm, ← hdl]; exact span_le _
          have hJk : k ≤ J := by omega
          have hJs : J ≤ s.size := by omega
          have HP : Hid ((∀ j (h : j < s.size), k ≤ j → j < J → isPart (s[j]'h) = true) ∧ ∀ h : J < s.size, isPart (s[J]'h) = false) := Lib.hid (span_facts s k m J hm hJ)
          clear hml
          by_cases hlet : isLetter (s[k]'hp) = true
          · have HL := Lib.hid hlet
            have h47 : (((s[k]'hp).toNat : Int) == 47) = false := by
              rw [beq_eq_false_iff_ne]
              intro h
              have h2 : (s[k]'hp) = 47 := UInt8.toNat_inj.1 (by show _ = 47; omega)
              rw [h2] at hlet
              exact absurd hlet (by decide)
            by_cases h24 : 24 < m
            · have ht : tok numO (s.data.toList.drop k) = .bad 2 := by
                rw [← hm] at h24
                rw [hq] at h24 ⊢
                simp only [tok]
                rw [if_neg hb, if_neg hnt, if_pos hlet, if_pos h24]
              obtain ⟨e1, e2⟩ := HI.out.1.bad_inv hne ht
              have HR := Lib.hid e2
              have hJ24 : k + 24 < J := by omega
              clear hb hnt hlet h24 ht hne hdl hq hm e1 e2 hJ
              go_wp2_with (go_at_call 33; with_reducible refine (blank_in HB.out _).mono ?_; rintro e' w' ⟨rfl, rfl⟩)
              obtain ⟨wo, hwo⟩ : ∃ wo : World, wo = wr := ⟨_, rfl⟩
              subst hwo
              go_loop [8] (fun n => ∃ j : Nat, n = .int .i64 j ∧ k ≤ j ∧ j ≤ J) (fun n => J - (intOf n).toNat)
              case atStart => exact ⟨k, rfl, Nat.le_refl _, by omega⟩
              case round =>
                obtain ⟨j, rfl, hj1, hj2⟩ := hrel
                by_cases hj : j < J
                · have hjs : j < s.size := by omega
                  have hpt := HP.out.1 j hjs hj1 hj
                  cases hl : isLetter (s[j]'hjs)
                  · have HL1 := Lib.hid hl
                    have HD1 : Hid (isDigit (s[j]'hjs) = true) := Lib.hid (by unfold isPart at hpt; rw [hl] at hpt; simpa using hpt)
                    clear hl hpt
                    go_wp2_with (first | (go_at_call 34; with_reducible refine (rletter_is HL1.out _).mono ?_; rintro e' w' ⟨rfl, rfl⟩) | (go_at_call 35; with_reducible refine (rdigit_is HD1.out _).mono ?_; rintro e' w' ⟨rfl, rfl⟩))
                    go_round
                    case rel => exact ⟨j + 1, by go_num, by omega, by omega⟩
                    case measure => simp [intOf]; omega
                  · have HL1 := Lib.hid hl
                    clear hl hpt
                    go_wp2_with (first | (go_at_call 34; with_reducible refine (rletter_is HL1.out _).mono ?_; rintro e' w' ⟨rfl, rfl⟩))
                    go_round
                    case rel => exact ⟨j + 1, by go_num, by omega, by omega⟩
                    case measure => simp [intOf]; omega
                · obtain rfl : j = J := by omega
                  by_cases hje : j < s.size
                  · have hpt := HP.out.2 hje
                    have HL1 : Hid (isLetter (s[j]'hje) = false) := Lib.hid (by unfold isPart at hpt; simp at hpt; exact hpt.1)
                    have HD1 : Hid (isDigit (s[j]'hje) = false) := Lib.hid (by unfold isPart at hpt; simp at hpt; exact hpt.2)
                    clear hpt
                    go_wp2_with (first | (go_at_call 34; with_reducible refine (rletter_is HL1.out _).mono ?_; rintro e' w' ⟨rfl, rfl⟩) | (go_at_call 35; with_reducible refine (rdigit_is HD1.out _).mono ?_; rintro e' w' ⟨rfl, rfl⟩) | (go_at_call 34; with_reducible refine (rletter_is HL.out _).mono ?_; rintro e' w' ⟨rfl, rfl⟩))
                    go_ret3
                    exact ⟨by rw [HR.out]; rfl, hbw.alloc hbw.size _⟩
                  · go_wp2_with (first | (go_at_call 34; with_reducible refine (rletter_is HL.out _).mono ?_; rintro e' w' ⟨rfl, rfl⟩))
                    go_ret3
                    exact ⟨by rw [HR.out]; rfl, hbw.alloc hbw.size _⟩

            · have ht : tok numO (s.data.toList.drop k) = .word 0 m 0 := by
                rw [← hm] at h24
                rw [← hm, hq]
                rw [hq] at h24
                simp only [tok]
                rw [if_neg hb, if_neg hnt, if_pos hlet, if_neg h24]
              obtain ⟨ws2, hw2, hsc2⟩ := HI.out.1.word_inv hne ht
              rw [List.drop_drop] at hsc2
              have HI2 : Hid (Sc numO (s.data.toList.drop J) J ws2 Rf ∧ (acc ++ [⟨0, (s.data.toList.drop k).take m, 0, k⟩]) ++ ws2 = Wf) := Lib.hid ⟨by rw [hJ]; exact hsc2, by rw [← HI.out.2, hw2]; simp⟩
              have hJ24 : J ≤ k + 24 := by omega
              have hJ1 : k + 1 ≤ J := by have := tok_word hne ht; omega
              have HX := Lib.hid (ext_drop s k m J hJ)
              clear hb hnt hlet h24 ht hne hdl hq hm hw2 hsc2 hJ
              go_wp2_with (go_at_call 33; with_reducible refine (blank_in HB.out _).mono ?_; rintro e' w' ⟨rfl, rfl⟩)
              obtain ⟨wo, hwo⟩ : ∃ wo : World, wo = wr := ⟨_, rfl⟩
              subst hwo
              go_loop [8] (fun n => ∃ j : Nat, n = .int .i64 j ∧ k ≤ j ∧ j ≤ J) (fun n => J - (intOf n).toNat)
              case atStart => exact ⟨k, rfl, Nat.le_refl _, by omega⟩
              case round =>
                obtain ⟨j, rfl, hj1, hj2⟩ := hrel
                by_cases hj : j < J
                · have hjs : j < s.size := by omega
                  have hpt := HP.out.1 j hjs hj1 hj
                  cases hl : isLetter (s[j]'hjs)
                  · have HL1 := Lib.hid hl
                    have HD1 : Hid (isDigit (s[j]'hjs) = true) := Lib.hid (by unfold isPart at hpt; rw [hl] at hpt; simpa using hpt)
                    clear hl hpt
                    go_wp2_with (first | (go_at_call 34; with_reducible refine (rletter_is HL1.out _).mono ?_; rintro e' w' ⟨rfl, rfl⟩) | (go_at_call 35; with_reducible refine (rdigit_is HD1.out _).mono ?_; rintro e' w' ⟨rfl, rfl⟩))
                    go_round
                    case rel => exact ⟨j + 1, by go_num, by omega, by omega⟩
                    case measure => simp [intOf]; omega
                  · have HL1 := Lib.hid hl
                    clear hl hpt
                    go_wp2_with (first | (go_at_call 34; with_reducible refine (rletter_is HL1.out _).mono ?_; rintro e' w' ⟨rfl, rfl⟩))
                    go_round
                    case rel => exact ⟨j + 1, by go_num, by omega, by omega⟩
                    case measure => simp [intOf]; omega
                · obtain rfl : j = J := by omega
                  by_cases hje : j < s.size
                  · have hpt := HP.out.2 hje
                    have HL1 : Hid (isLetter (s[j]'hje) = false) := Lib.hid (by unfold isPart at hpt; simp at hpt; exact hpt.1)
                    have HD1 : Hid (isDigit (s[j]'hje) = false) := Lib.hid (by unfold isPart at hpt; simp at hpt; exact hpt.2)
                    clear hpt
                    go_wp2_with (first | (go_at_call 34; with_reducible refine (rletter_is HL1.out _).mono ?_; rintro e' w' ⟨rfl, rfl⟩) | (go_at_call 35; with_reducible refine (rdigit_is HD1.out _).mono ?_; rintro e' w' ⟨rfl, rfl⟩) | (go_at_call 34; with_reducible refine (rletter_is HL.out _).mono ?_; rintro e' w' ⟨rfl, rfl⟩) | (at_builtin; go_must (refine wpList_append_own _ rfl (.tmp 117) (.tmp 119) 47 rfl w.heap.size 57 i0 _ 4 40 Tryd.underlying47 hi hz0 hz1 hz2 rfl (by decide) _ _ _ rfl ((hown.alloc _).alloc _) ⟨_, 0, none⟩ 1 1 [.int .i64 0, .string (s.extract k j), .int .i64 0, .int .i64 k] rfl rfl (cell_four_at _ _ _ _ _ _ _ (by simp)) (four_one _ _ _ _) (by unfold maxLen; omega) (by omega) (by have := hbw.size; simp; omega) ?_; intro v4 w4 hown4 hgrow4 _)))
                    go_roundw
                    case rel =>
                      refine ⟨j, acc ++ [⟨0, (s.data.toList.drop k).take m, 0, k⟩], ws2, rfl, by omega, ?_, ?_, ?_, HI2⟩
                      · rw [cellsW_snoc, List.length_append]
                        have e : wcells ⟨0, (s.data.toList.drop k).take m, 0, k⟩ = [.int .i64 0, .string (s.extract k j), .int .i64 0, .int .i64 k] := by rw [HX.out]; rfl
                        rw [e]
                        exact hown4
                      · exact ((hbw.alloc hbw.size _).alloc (by have := hbw.size; simp; omega) _).grown hgrow4 (by have := hbw.size; simp; omega) (fun j hj => (hown.lt j hj).1)
                      · rw [List.length_append]
                        show acc.length + 1 ≤ _
                        omega
                    case measure => simp [intOf]; omega
                  · go_wp2_with (first | (go_at_call 34; with_reducible refine (rletter_is HL.out _).mono ?_; rintro e' w' ⟨rfl, rfl⟩) | (at_builtin; go_must (refine wpList_append_own _ rfl (.tmp 117) (.tmp 119) 47 rfl w.heap.size 57 i0 _ 4 40 Tryd.underlying47 hi hz0 hz1 hz2 rfl (by decide) _ _ _ rfl ((hown.alloc _).alloc _) ⟨_, 0, none⟩ 1 1 [.int .i64 0, .string (s.extract k j), .int .i64 0, .int .i64 k] rfl rfl (cell_four_at _ _ _ _ _ _ _ (by simp)) (four_one _ _ _ _) (by unfold maxLen; omega) (by omega) (by have := hbw.size; simp; omega) ?_; intro v4 w4 hown4 hgrow4 _)))
                    go_roundw
                    case rel =>
                      refine ⟨j, acc ++ [⟨0, (s.data.toList.drop k).take m, 0, k⟩], ws2, rfl, by omega, ?_, ?_, ?_, HI2⟩
                      · rw [cellsW_snoc, List.length_append]
                        have e : wcells ⟨0, (s.data.toList.drop k).take m, 0, k⟩ = [.int .i64 0, .string (s.extract k j), .int .i64 0, .int .i64 k] := by rw [HX.out]; rfl
                        rw [e]
                        exact hown4
                      · exact ((hbw.alloc hbw.size _).alloc (by have := hbw.size; simp; omega) _).grown hgrow4 (by have := hbw.size; simp; omega) (fun j hj => (hown.lt j hj).1)
                      · rw [List.length_append]
                        show acc.length + 1 ≤ _
                        omega
                    case measure => simp [intOf]; omega
          · have HL : Hid (isLetter (s[k]'hp) = false) := Lib.hid (by simpa using hlet)
            by_cases hdig : isDigit (s[k]'hp) = true
            · have HD := Lib.hid hdig
              have h47 : (((s[k]'hp).toNat : Int) == 47) = false := by
                rw [beq_eq_false_iff_ne]
                intro h
                have h2 : (s[k]'hp) = 47 := UInt8.toNat_inj.1 (by show _ = 47; omega)
                rw [h2] at hdig
                exact absurd hdig (by decide)
              cases hnum : numO ((s.data.toList.drop k).take m) with
              | none =>
                have ht : tok numO (s.data.toList.drop k) = .bad 10 := by
                  rw [← hm] at hnum
                  rw [hq] at hnum ⊢
                  simp only [tok]
                  rw [if_neg hb, if_neg hnt, if_neg hlet, if_pos hdig, hnum]
                obtain ⟨e1, e2⟩ := HI.out.1.bad_inv hne ht
                have HR := Lib.hid e2
                have HX := Lib.hid (ext_drop s k m J hJ)
                obtain ⟨v, hv⟩ := rnum_none hnum
                have HV : Hid (rNum (s.extract k J) = (v, false)) := Lib.hid (by rw [HX.out]; exact hv)
                clear hb hnt hlet hdig ht hne hdl hq hm e1 e2 hJ hnum hv
                go_wp2_with (go_at_call 33; with_reducible refine (blank_in HB.out _).mono ?_; rintro e' w' ⟨rfl, rfl⟩)
                obtain ⟨wo, hwo⟩ : ∃ wo : World, wo = wr := ⟨_, rfl⟩
                subst hwo
                go_loop [8] (fun n => ∃ j : Nat, n = .int .i64 j ∧ k ≤ j ∧ j ≤ J) (fun n => J - (intOf n).toNat)
                case atStart => exact ⟨k, rfl, Nat.le_refl _, by omega⟩
                case round =>
                  obtain ⟨j, rfl, hj1, hj2⟩ := hrel
                  by_cases hj : j < J
                  · have hjs : j < s.size := by omega
                    have hpt := HP.out.1 j hjs hj1 hj
                    cases hl : isLetter (s[j]'hjs)
                    · have HL1 := Lib.hid hl
                      have HD1 : Hid (isDigit (s[j]'hjs) = true) := Lib.hid (by unfold isPart at hpt; rw [hl] at hpt; simpa using hpt)
                      clear hl hpt
                      go_wp2_with (first | (go_at_call 34; with_reducible refine (rletter_is HL1.out _).mono ?_; rintro e' w' ⟨rfl, rfl⟩) | (go_at_call 35; with_reducible refine (rdigit_is HD1.out _).mono ?_; rintro e' w' ⟨rfl, rfl⟩))
                      go_round
                      case rel => exact ⟨j + 1, by go_num, by omega, by omega⟩
                      case measure => simp [intOf]; omega
                    · have HL1 := Lib.hid hl
                      clear hl hpt
                      go_wp2_with (first | (go_at_call 34; with_reducible refine (rletter_is HL1.out _).mono ?_; rintro e' w' ⟨rfl, rfl⟩))
                      go_round
                      case rel => exact ⟨j + 1, by go_num, by omega, by omega⟩
                      case measure => simp [intOf]; omega
                  · obtain rfl : j = J := by omega
                    by_cases hje : j < s.size
                    · have hpt := HP.out.2 hje
                      have HL1 : Hid (isLetter (s[j]'hje) = false) := Lib.hid (by unfold isPart at hpt; simp at hpt; exact hpt.1)
                      have HD1 : Hid (isDigit (s[j]'hje) = false) := Lib.hid (by unfold isPart at hpt; simp at hpt; exact hpt.2)
                      clear hpt
                      go_wp2_with (first | (go_at_call 34; with_reducible refine (rletter_is HL1.out _).mono ?_; rintro e' w' ⟨rfl, rfl⟩) | (go_at_call 35; with_reducible refine (rdigit_is HD1.out _).mono ?_; rintro e' w' ⟨rfl, rfl⟩) | (go_at_call 34; with_reducible refine (rletter_is HL.out _).mono ?_; rintro e' w' ⟨rfl, rfl⟩) | (go_at_call 35; with_reducible refine (rdigit_is HD.out _).mono ?_; rintro e' w' ⟨rfl, rfl⟩) | (go_at_call 36; refine (rnum_is HV.out _ (by rw [ext_size]; omega)).mono ?_; rintro e' w' ⟨rfl, rfl⟩))
                      go_ret3
                      exact ⟨by rw [HR.out]; rfl, hbw.alloc hbw.size _⟩
                    · go_wp2_with (first | (go_at_call 34; with_reducible refine (rletter_is HL.out _).mono ?_; rintro e' w' ⟨rfl, rfl⟩) | (go_at_call 35; with_reducible refine (rdigit_is HD.out _).mono ?_; rintro e' w' ⟨rfl, rfl⟩) | (go_at_call 36; refine (rnum_is HV.out _ (by rw [ext_size]; omega)).mono ?_; rintro e' w' ⟨rfl, rfl⟩))
                      go_ret3
                      exact ⟨by rw [HR.out]; rfl, hbw.alloc hbw.size _⟩

              | some v =>
                have ht : tok numO (s.data.toList.drop k) = .word 1 m v := by
                  rw [← hm] at hnum
                  rw [← hm, hq]
                  rw [hq] at hnum
                  simp only [tok]
                  rw [if_neg hb, if_neg hnt, if_neg hlet, if_pos hdig, hnum]
                obtain ⟨ws2, hw2, hsc2⟩ := HI.out.1.word_inv hne ht
                rw [List.drop_drop] at hsc2
                have HI2 : Hid (Sc numO (s.data.toList.drop J) J ws2 Rf ∧ (acc ++ [⟨1, (s.data.toList.drop k).take m, v, k⟩]) ++ ws2 = Wf) := Lib.hid ⟨by rw [hJ]; exact hsc2, by rw [← HI.out.2, hw2]; simp⟩
                have hJ1 : k + 1 ≤ J := by have := tok_word hne ht; omega
                have HX := Lib.hid (ext_drop s k m J hJ)
                have HV : Hid (rNum (s.extract k J) = (v, true)) := Lib.hid (by rw [HX.out]; exact rnum_some hnum)
                clear hb hnt hlet hdig ht hne hdl hq hm hw2 hsc2 hJ hnum
                go_wp2_with (go_at_call 33; with_reducible refine (blank_in HB.out _).mono ?_; rintro e' w' ⟨rfl, rfl⟩)
                obtain ⟨wo, hwo⟩ : ∃ wo : World, wo = wr := ⟨_, rfl⟩
                subst hwo
                go_loop [8] (fun n => ∃ j : Nat, n = .int .i64 j ∧ k ≤ j ∧ j ≤ J) (fun n => J - (intOf n).toNat)
                case atStart => exact ⟨k, rfl, Nat.le_refl _, by omega⟩
                case round =>
                  obtain ⟨j, rfl, hj1, hj2⟩ := hrel
                  by_cases hj : j < J
                  · have hjs : j < s.size := by omega
                    have hpt := HP.out.1 j hjs hj1 hj
                    cases hl : isLetter (s[j]'hjs)
                    · have HL1 := Lib.hid hl
                      have HD1 : Hid (isDigit (s[j]'hjs) = true) := Lib.hid (by unfold isPart at hpt; rw [hl] at hpt; simpa using hpt)
                      clear hl hpt
                      go_wp2_with (first | (go_at_call 34; with_reducible refine (rletter_is HL1.out _).mono ?_; rintro e' w' ⟨rfl, rfl⟩) | (go_at_call 35; with_reducible refine (rdigit_is HD1.out _).mono ?_; rintro e' w' ⟨rfl, rfl⟩))
                      go_round
                      case rel => exact ⟨j + 1, by go_num, by omega, by omega⟩
                      case measure => simp [intOf]; omega
                    · have HL1 := Lib.hid hl
                      clear hl hpt
                      go_wp2_with (first | (go_at_call 34; with_reducible refine (rletter_is HL1.out _).mono ?_; rintro e' w' ⟨rfl, rfl⟩))
                      go_round
                      case rel => exact ⟨j + 1, by go_num, by omega, by omega⟩
                      case measure => simp [intOf]; omega
                  · obtain rfl : j = J := by omega
                    by_cases hje : j < s.size
                    · have hpt := HP.out.2 hje
                      have HL1 : Hid (isLetter (s[j]'hje) = false) := Lib.hid (by unfold isPart at hpt; simp at hpt; exact hpt.1)
                      have HD1 : Hid (isDigit (s[j]'hje) = false) := Lib.hid (by unfold isPart at hpt; simp at hpt; exact hpt.2)
                      clear hpt
                      go_wp2_with (first | (go_at_call 34; with_reducible refine (rletter_is HL1.out _).mono ?_; rintro e' w' ⟨rfl, rfl⟩) | (go_at_call 35; with_reducible refine (rdigit_is HD1.out _).mono ?_; rintro e' w' ⟨rfl, rfl⟩) | (go_at_call 34; with_reducible refine (rletter_is HL.out _).mono ?_; rintro e' w' ⟨rfl, rfl⟩) | (go_at_call 35; with_reducible refine (rdigit_is HD.out _).mono ?_; rintro e' w' ⟨rfl, rfl⟩) | (go_at_call 36; refine (rnum_is HV.out _ (by rw [ext_size]; omega)).mono ?_; rintro e' w' ⟨rfl, rfl⟩) | (at_builtin; go_must (refine wpList_append_own _ rfl (.tmp 117) (.tmp 119) 47 rfl w.heap.size 57 i0 _ 4 40 Tryd.underlying47 hi hz0 hz1 hz2 rfl (by decide) _ _ _ rfl ((hown.alloc _).alloc _) ⟨_, 0, none⟩ 1 1 [.int .i64 1, .string (s.extract k j), .int .i64 v, .int .i64 k] rfl rfl (cell_four_at _ _ _ _ _ _ _ (by simp)) (four_one _ _ _ _) (by unfold maxLen; omega) (by omega) (by have := hbw.size; simp; omega) ?_; intro v4 w4 hown4 hgrow4 _)))
                      go_roundw
                      case rel =>
                        refine ⟨j, acc ++ [⟨1, (s.data.toList.drop k).take m, v, k⟩], ws2, rfl, by omega, ?_, ?_, ?_, HI2⟩
                        · rw [cellsW_snoc, List.length_append]
                          have e : wcells ⟨1, (s.data.toList.drop k).take m, v, k⟩ = [.int .i64 1, .string (s.extract k j), .int .i64 v, .int .i64 k] := by rw [HX.out]; rfl
                          rw [e]
                          exact hown4
                        · exact ((hbw.alloc hbw.size _).alloc (by have := hbw.size; simp; omega) _).grown hgrow4 (by have := hbw.size; simp; omega) (fun j hj => (hown.lt j hj).1)
                        · rw [List.length_append]
                          show acc.length + 1 ≤ _
                          omega
                      case measure => simp [intOf]; omega
                    · go_wp2_with (first | (go_at_call 34; with_reducible refine (rletter_is HL.out _).mono ?_; rintro e' w' ⟨rfl, rfl⟩) | (go_at_call 35; with_reducible refine (rdigit_is HD.out _).mono ?_; rintro e' w' ⟨rfl, rfl⟩) | (go_at_call 36; refine (rnum_is HV.out _ (by rw [ext_size]; omega)).mono ?_; rintro e' w' ⟨rfl, rfl⟩) | (at_builtin; go_must (refine wpList_append_own _ rfl (.tmp 117) (.tmp 119) 47 rfl w.heap.size 57 i0 _ 4 40 Tryd.underlying47 hi hz0 hz1 hz2 rfl (by decide) _ _ _ rfl ((hown.alloc _).alloc _) ⟨_, 0, none⟩ 1 1 [.int .i64 1, .string (s.extract k j), .int .i64 v, .int .i64 k] rfl rfl (cell_four_at _ _ _ _ _ _ _ (by simp)) (four_one _ _ _ _) (by unfold maxLen; omega) (by omega) (by have := hbw.size; simp; omega) ?_; intro v4 w4 hown4 hgrow4 _)))
                      go_roundw
                      case rel =>
                        refine ⟨j, acc ++ [⟨1, (s.data.toList.drop k).take m, v, k⟩], ws2, rfl, by omega, ?_, ?_, ?_, HI2⟩
                        · rw [cellsW_snoc, List.length_append]
                          have e : wcells ⟨1, (s.data.toList.drop k).take m, v, k⟩ = [.int .i64 1, .string (s.extract k j), .int .i64 v, .int .i64 k] := by rw [HX.out]; rfl
                          rw [e]
                          exact hown4
                        · exact ((hbw.alloc hbw.size _).alloc (by have := hbw.size; simp; omega) _).grown hgrow4 (by have := hbw.size; simp; omega) (fun j hj => (hown.lt j hj).1)
                        · rw [List.length_append]
                          show acc.length + 1 ≤ _
                          omega
                      case measure => simp [intOf]; omega
            · have HD : Hid (isDigit (s[k]'hp) = false) := Lib.hid (by simpa using hdig)
              obtain ⟨n, hn⟩ : ∃ n, sgnLen (s.data.toList.drop k) = n := ⟨_, rfl⟩
              obtain ⟨Y, hY⟩ : ∃ Y : ByteArray, Y = ⟨((s.data.toList.drop k).take n).toArray⟩ := ⟨_, rfl⟩
              by_cases hn0 : n = 0
              · have ht : tok numO (s.data.toList.drop k) = .bad 10 := by
                  rw [hn0, hq] at hn
                  rw [hq]
                  simp only [tok]
                  rw [if_neg hb, if_neg hnt, if_neg hlet, if_neg hdig, if_pos hn]
                have h47 : (((s[k]'hp).toNat : Int) == 47) = false := by
                  rw [beq_eq_false_iff_ne]
                  intro h
                  have h2 : (s[k]'hp) = 47 := UInt8.toNat_inj.1 (by show _ = 47; omega)
                  rw [hq, h2, hn0] at hn
                  cases q <;> simp [sgnLen, pairL, oneL] at hn
                obtain ⟨e1, e2⟩ := HI.out.1.bad_inv hne ht
                have HR := Lib.hid e2
                have HN := Lib.hid hn
                have HY := Lib.hid hY
                have hE : Y.toList.isEmpty = true := by rw [ByteArray.toList_eq, hY, hn0]; rfl
                clear hb hnt hlet hdig ht hne hdl hq hm e1 e2 hJ hn hY hn0
                go_wp2_with (go_at_call 33; with_reducible refine (blank_in HB.out _).mono ?_; rintro e' w' ⟨rfl, rfl⟩)
                obtain ⟨wo, hwo⟩ : ∃ wo : World, wo = wr := ⟨_, rfl⟩
                subst hwo
                go_loop [8] (fun n => ∃ j : Nat, n = .int .i64 j ∧ k ≤ j ∧ j ≤ J) (fun n => J - (intOf n).toNat)
                case atStart => exact ⟨k, rfl, Nat.le_refl _, by omega⟩
                case round =>
                  obtain ⟨j, rfl, hj1, hj2⟩ := hrel
                  by_cases hj : j < J
                  · have hjs : j < s.size := by omega
                    have hpt := HP.out.1 j hjs hj1 hj
                    cases hl : isLetter (s[j]'hjs)
                    · have HL1 := Lib.hid hl
                      have HD1 : Hid (isDigit (s[j]'hjs) = true) := Lib.hid (by unfold isPart at hpt; rw [hl] at hpt; simpa using hpt)
                      clear hl hpt
                      go_wp2_with (first | (go_at_call 34; with_reducible refine (rletter_is HL1.out _).mono ?_; rintro e' w' ⟨rfl, rfl⟩) | (go_at_call 35; with_reducible refine (rdigit_is HD1.out _).mono ?_; rintro e' w' ⟨rfl, rfl⟩))
                      go_round
                      case rel => exact ⟨j + 1, by go_num, by omega, by omega⟩
                      case measure => simp [intOf]; omega
                    · have HL1 := Lib.hid hl
                      clear hl hpt
                      go_wp2_with (first | (go_at_call 34; with_reducible refine (rletter_is HL1.out _).mono ?_; rintro e' w' ⟨rfl, rfl⟩))
                      go_round
                      case rel => exact ⟨j + 1, by go_num, by omega, by omega⟩
                      case measure => simp [intOf]; omega
                  · obtain rfl : j = J := by omega
                    by_cases hje : j < s.size
                    · have hpt := HP.out.2 hje
                      have HL1 : Hid (isLetter (s[j]'hje) = false) := Lib.hid (by unfold isPart at hpt; simp at hpt; exact hpt.1)
                      have HD1 : Hid (isDigit (s[j]'hje) = false) := Lib.hid (by unfold isPart at hpt; simp at hpt; exact hpt.2)
                      clear hpt
                      go_wp2_with (first | (go_at_call 34; with_reducible refine (rletter_is HL1.out _).mono ?_; rintro e' w' ⟨rfl, rfl⟩) | (go_at_call 35; with_reducible refine (rdigit_is HD1.out _).mono ?_; rintro e' w' ⟨rfl, rfl⟩) | (go_at_call 34; with_reducible refine (rletter_is HL.out _).mono ?_; rintro e' w' ⟨rfl, rfl⟩) | (go_at_call 35; with_reducible refine (rdigit_is HD.out _).mono ?_; rintro e' w' ⟨rfl, rfl⟩) | (go_at_call 37; with_reducible refine (rsign_at s Y k n hp hs HN.out HY.out _).mono ?_; rintro e' w1 ⟨rfl, hb1⟩; obtain ⟨hc1, hf1⟩ := bcell hb1; have hbw1 := hbw.trans ((below_after hb1).mono hbw.size); have hne := own_ne_new hown; have hzz : wo.heap.size < w1.heap.size := by have := hb1.size; simp at this; omega))
                      go_ret3
                      exact ⟨by rw [HR.out]; rfl, below_two hbw1 hbw.size _ _⟩
                    · go_wp2_with (first | (go_at_call 34; with_reducible refine (rletter_is HL.out _).mono ?_; rintro e' w' ⟨rfl, rfl⟩) | (go_at_call 35; with_reducible refine (rdigit_is HD.out _).mono ?_; rintro e' w' ⟨rfl, rfl⟩) | (go_at_call 37; with_reducible refine (rsign_at s Y k n hp hs HN.out HY.out _).mono ?_; rintro e' w1 ⟨rfl, hb1⟩; obtain ⟨hc1, hf1⟩ := bcell hb1; have hbw1 := hbw.trans ((below_after hb1).mono hbw.size); have hne := own_ne_new hown; have hzz : wo.heap.size < w1.heap.size := by have := hb1.size; simp at this; omega))
                      go_ret3
                      exact ⟨by rw [HR.out]; rfl, below_two hbw1 hbw.size _ _⟩

              · by_cases hslash : (s[k]'hp) = 47
                · by_cases hend : k + 1 < s.size
                  · have h47 : (((s[k]'hp).toNat : Int) == 47) = true := by rw [hslash]; rfl
                    have h471 : (((s[k + 1]'hend).toNat : Int) == 47) = false := by
                      rw [beq_eq_false_iff_ne]
                      intro h
                      have h2 : (s[k + 1]'hend) = 47 := UInt8.toNat_inj.1 (by show _ = 47; omega)
                      have h1 := list_at s k 1 hend
                      rw [hq, h2] at h1
                      refine hnt ⟨hslash, ?_⟩
                      rw [← h1]
                      cases q <;> rfl
                    have ht : tok numO (s.data.toList.drop k) = .word 2 n 0 := by
                      rw [← hn] at hn0
                      rw [← hn, hq]
                      rw [hq] at hn0
                      simp only [tok]
                      rw [if_neg hb, if_neg hnt, if_neg hlet, if_neg hdig, if_neg hn0]
                    obtain ⟨ws2, hw2, hsc2⟩ := HI.out.1.word_inv hne ht
                    rw [List.drop_drop] at hsc2
                    have HI2 : Hid (Sc numO (s.data.toList.drop (k + n)) (k + n) ws2 Rf ∧ (acc ++ [⟨2, (s.data.toList.drop k).take n, 0, k⟩]) ++ ws2 = Wf) := Lib.hid ⟨hsc2, by rw [← HI.out.2, hw2]; simp⟩
                    have hn1 := tok_word hne ht
                    have HN := Lib.hid hn
                    have HY := Lib.hid hY
                    have hYs : Y.size = n := by
                      rw [hY]
                      show ((s.data.toList.drop k).take n).toArray.size = n
                      rw [List.size_toArray, List.length_take]
                      omega
                    have hE : Y.toList.isEmpty = false := by
                      rw [ByteArray.toList_eq, List.isEmpty_eq_false_iff]
                      intro h
                      have h1 : Y.size = 0 := by
                        show Y.data.toList.length = 0
                        rw [h]
                        rfl
                      omega
                    have hY1 : Y.size ≤ n := by omega
                    have hY2 : n ≤ Y.size := by omega
                    have hn3 : k + n ≤ s.size := by omega
                    have hn4 : 1 ≤ n := hn1.1
                    clear hb hnt hlet hdig ht hne hdl hq hm hw2 hsc2 hJ hn hY hn0 hn1 hYs hslash
                    go_wp2_with (go_at_call 33; with_reducible refine (blank_in HB.out _).mono ?_; rintro e' w' ⟨rfl, rfl⟩)
                    obtain ⟨wo, hwo⟩ : ∃ wo : World, wo = wr := ⟨_, rfl⟩
                    subst hwo
                    go_loop [8] (fun n => ∃ j : Nat, n = .int .i64 j ∧ k ≤ j ∧ j ≤ J) (fun n => J - (intOf n).toNat)
                    case atStart => exact ⟨k, rfl, Nat.le_refl _, by omega⟩
                    case round =>
                      obtain ⟨j, rfl, hj1, hj2⟩ := hrel
                      by_cases hj : j < J
                      · have hjs : j < s.size := by omega
                        have hpt := HP.out.1 j hjs hj1 hj
                        cases hl : isLetter (s[j]'hjs)
                        · have HL1 := Lib.hid hl
                          have HD1 : Hid (isDigit (s[j]'hjs) = true) := Lib.hid (by unfold isPart at hpt; rw [hl] at hpt; simpa using hpt)
                          clear hl hpt
                          go_wp2_with (first | (go_at_call 34; with_reducible refine (rletter_is HL1.out _).mono ?_; rintro e' w' ⟨rfl, rfl⟩) | (go_at_call 35; with_reducible refine (rdigit_is HD1.out _).mono ?_; rintro e' w' ⟨rfl, rfl⟩))
                          go_round
                          case rel => exact ⟨j + 1, by go_num, by omega, by omega⟩
                          case measure => simp [intOf]; omega
                        · have HL1 := Lib.hid hl
                          clear hl hpt
                          go_wp2_with (first | (go_at_call 34; with_reducible refine (rletter_is HL1.out _).mono ?_; rintro e' w' ⟨rfl, rfl⟩))
                          go_round
                          case rel => exact ⟨j + 1, by go_num, by omega, by omega⟩
                          case measure => simp [intOf]; omega
                      · obtain rfl : j = J := by omega
                        by_cases hje : j < s.size
                        · have hpt := HP.out.2 hje
                          have HL1 : Hid (isLetter (s[j]'hje) = false) := Lib.hid (by unfold isPart at hpt; simp at hpt; exact hpt.1)
                          have HD1 : Hid (isDigit (s[j]'hje) = false) := Lib.hid (by unfold isPart at hpt; simp at hpt; exact hpt.2)
                          clear hpt
                          go_wp2_with (first | (go_at_call 34; with_reducible refine (rletter_is HL1.out _).mono ?_; rintro e' w' ⟨rfl, rfl⟩) | (go_at_call 35; with_reducible refine (rdigit_is HD1.out _).mono ?_; rintro e' w' ⟨rfl, rfl⟩) | (go_at_call 34; with_reducible refine (rletter_is HL.out _).mono ?_; rintro e' w' ⟨rfl, rfl⟩) | (go_at_call 35; with_reducible refine (rdigit_is HD.out _).mono ?_; rintro e' w' ⟨rfl, rfl⟩) | (go_at_call 37; with_reducible refine (rsign_at s Y k n hp hs HN.out HY.out _).mono ?_; rintro e' w1 ⟨rfl, hb1⟩; obtain ⟨hc1, hf1⟩ := bcell hb1; have hbw1 := hbw.trans ((below_after hb1).mono hbw.size); have hne := own_ne_new hown; have hzz : wo.heap.size < w1.heap.size := by have := hb1.size; simp at this; omega) | (at_builtin; go_must (refine wpList_append_own _ rfl (.tmp 117) (.tmp 119) 47 rfl w.heap.size 57 i0 _ 4 40 Tryd.underlying47 hi hz0 hz1 hz2 rfl (by decide) _ _ _ rfl ((own_set (own_set (own_below (hown.alloc _) hb1) hne _ _) hne _ _).alloc _) ⟨_, 0, none⟩ 1 1 [.int .i64 2, .string Y, .int .i64 0, .int .i64 k] rfl rfl (cell_four_at _ _ _ _ _ _ _ (by simp)) (four_one _ _ _ _) (by unfold maxLen; omega) (by omega) (by have := hbw.size; simp; omega) ?_; intro v4 w4 hown4 hgrow4 _)))
                          go_roundw
                          case rel =>
                            refine ⟨k + n, acc ++ [⟨2, (s.data.toList.drop k).take n, 0, k⟩], ws2, ?_, by omega, ?_, ?_, ?_, HI2⟩
                            · rw [show Y.size = n by omega]
                              go_num
                            · rw [cellsW_snoc, List.length_append]
                              have e : wcells ⟨2, (s.data.toList.drop k).take n, 0, k⟩ = [.int .i64 2, .string Y, .int .i64 0, .int .i64 k] := by rw [HY.out]; rfl
                              rw [e]
                              exact hown4
                            · exact ((below_two hbw1 hbw.size _ _).alloc (by have := hbw1.size; simp; omega) _).grown hgrow4 (by have := hbw1.size; simp; omega) (fun j hj => (hown.lt j hj).1)
                            · rw [List.length_append]
                              show acc.length + 1 ≤ _
                              omega
                          case measure => simp [intOf]; omega
                        · go_wp2_with (first | (go_at_call 34; with_reducible refine (rletter_is HL.out _).mono ?_; rintro e' w' ⟨rfl, rfl⟩) | (go_at_call 35; with_reducible refine (rdigit_is HD.out _).mono ?_; rintro e' w' ⟨rfl, rfl⟩) | (go_at_call 37; with_reducible refine (rsign_at s Y k n hp hs HN.out HY.out _).mono ?_; rintro e' w1 ⟨rfl, hb1⟩; obtain ⟨hc1, hf1⟩ := bcell hb1; have hbw1 := hbw.trans ((below_after hb1).mono hbw.size); have hne := own_ne_new hown; have hzz : wo.heap.size < w1.heap.size := by have := hb1.size; simp at this; omega) | (at_builtin; go_must (refine wpList_append_own _ rfl (.tmp 117) (.tmp 119) 47 rfl w.heap.size 57 i0 _ 4 40 Tryd.underlying47 hi hz0 hz1 hz2 rfl (by decide) _ _ _ rfl ((own_set (own_set (own_below (hown.alloc _) hb1) hne _ _) hne _ _).alloc _) ⟨_, 0, none⟩ 1 1 [.int .i64 2, .string Y, .int .i64 0, .int .i64 k] rfl rfl (cell_four_at _ _ _ _ _ _ _ (by simp)) (four_one _ _ _ _) (by unfold maxLen; omega) (by omega) (by have := hbw.size; simp; omega) ?_; intro v4 w4 hown4 hgrow4 _)))
                          go_roundw
                          case rel =>
                            refine ⟨k + n, acc ++ [⟨2, (s.data.toList.drop k).take n, 0, k⟩], ws2, ?_, by omega, ?_, ?_, ?_, HI2⟩
                            · rw [show Y.size = n by omega]
                              go_num
                            · rw [cellsW_snoc, List.length_append]
                              have e : wcells ⟨2, (s.data.toList.drop k).take n, 0, k⟩ = [.int .i64 2, .string Y, .int .i64 0, .int .i64 k] := by rw [HY.out]; rfl
                              rw [e]
                              exact hown4
                            · exact ((below_two hbw1 hbw.size _ _).alloc (by have := hbw1.size; simp; omega) _).grown hgrow4 (by have := hbw1.size; simp; omega) (fun j hj => (hown.lt j hj).1)
                            · rw [List.length_append]
                              show acc.length + 1 ≤ _
                              omega
                          case measure => simp [intOf]; omega

                  · have h47 : (((s[k]'hp).toNat : Int) == 47) = true := by rw [hslash]; rfl
                    have ht : tok numO (s.data.toList.drop k) = .word 2 n 0 := by
                      rw [← hn] at hn0
                      rw [← hn, hq]
                      rw [hq] at hn0
                      simp only [tok]
                      rw [if_neg hb, if_neg hnt, if_neg hlet, if_neg hdig, if_neg hn0]
                    obtain ⟨ws2, hw2, hsc2⟩ := HI.out.1.word_inv hne ht
                    rw [List.drop_drop] at hsc2
                    have HI2 : Hid (Sc numO (s.data.toList.drop (k + n)) (k + n) ws2 Rf ∧ (acc ++ [⟨2, (s.data.toList.drop k).take n, 0, k⟩]) ++ ws2 = Wf) := Lib.hid ⟨hsc2, by rw [← HI.out.2, hw2]; simp⟩
                    have hn1 := tok_word hne ht
                    have HN := Lib.hid hn
                    have HY := Lib.hid hY
                    have hYs : Y.size = n := by
                      rw [hY]
                      show ((s.data.toList.drop k).take n).toArray.size = n
                      rw [List.size_toArray, List.length_take]
                      omega
                    have hE : Y.toList.isEmpty = false := by
                      rw [ByteArray.toList_eq, List.isEmpty_eq_false_iff]
                      intro h
                      have h1 : Y.size = 0 := by
                        show Y.data.toList.length = 0
                        rw [h]
                        rfl
                      omega
                    have hY1 : Y.size ≤ n := by omega
                    have hY2 : n ≤ Y.size := by omega
                    have hn3 : k + n ≤ s.size := by omega
                    have hn4 : 1 ≤ n := hn1.1
                    clear hb hnt hlet hdig ht hne hdl hq hm hw2 hsc2 hJ hn hY hn0 hn1 hYs hslash
                    go_wp2_with (go_at_call 33; with_reducible refine (blank_in HB.out _).mono ?_; rintro e' w' ⟨rfl, rfl⟩)
                    obtain ⟨wo, hwo⟩ : ∃ wo : World, wo = wr := ⟨_, rfl⟩
                    subst hwo
                    go_loop [8] (fun n => ∃ j : Nat, n = .int .i64 j ∧ k ≤ j ∧ j ≤ J) (fun n => J - (intOf n).toNat)
                    case atStart => exact ⟨k, rfl, Nat.le_refl _, by omega⟩
                    case round =>
                      obtain ⟨j, rfl, hj1, hj2⟩ := hrel
                      by_cases hj : j < J
                      · have hjs : j < s.size := by omega
                        have hpt := HP.out.1 j hjs hj1 hj
                        cases hl : isLetter (s[j]'hjs)
                        · have HL1 := Lib.hid hl
                          have HD1 : Hid (isDigit (s[j]'hjs) = true) := Lib.hid (by unfold isPart at hpt; rw [hl] at hpt; simpa using hpt)
                          clear hl hpt
                          go_wp2_with (first | (go_at_call 34; with_reducible refine (rletter_is HL1.out _).mono ?_; rintro e' w' ⟨rfl, rfl⟩) | (go_at_call 35; with_reducible refine (rdigit_is HD1.out _).mono ?_; rintro e' w' ⟨rfl, rfl⟩))
                          go_round
                          case rel => exact ⟨j + 1, by go_num, by omega, by omega⟩
                          case measure => simp [intOf]; omega
                        · have HL1 := Lib.hid hl
                          clear hl hpt
                          go_wp2_with (first | (go_at_call 34; with_reducible refine (rletter_is HL1.out _).mono ?_; rintro e' w' ⟨rfl, rfl⟩))
                          go_round
                          case rel => exact ⟨j + 1, by go_num, by omega, by omega⟩
                          case measure => simp [intOf]; omega
                      · obtain rfl : j = J := by omega
                        by_cases hje : j < s.size
                        · have hpt := HP.out.2 hje
                          have HL1 : Hid (isLetter (s[j]'hje) = false) := Lib.hid (by unfold isPart at hpt; simp at hpt; exact hpt.1)
                          have HD1 : Hid (isDigit (s[j]'hje) = false) := Lib.hid (by unfold isPart at hpt; simp at hpt; exact hpt.2)
                          clear hpt
                          go_wp2_with (first | (go_at_call 34; with_reducible refine (rletter_is HL1.out _).mono ?_; rintro e' w' ⟨rfl, rfl⟩) | (go_at_call 35; with_reducible refine (rdigit_is HD1.out _).mono ?_; rintro e' w' ⟨rfl, rfl⟩) | (go_at_call 34; with_reducible refine (rletter_is HL.out _).mono ?_; rintro e' w' ⟨rfl, rfl⟩) | (go_at_call 35; with_reducible refine (rdigit_is HD.out _).mono ?_; rintro e' w' ⟨rfl, rfl⟩) | (go_at_call 37; with_reducible refine (rsign_at s Y k n hp hs HN.out HY.out _).mono ?_; rintro e' w1 ⟨rfl, hb1⟩; obtain ⟨hc1, hf1⟩ := bcell hb1; have hbw1 := hbw.trans ((below_after hb1).mono hbw.size); have hne := own_ne_new hown; have hzz : wo.heap.size < w1.heap.size := by have := hb1.size; simp at this; omega) | (at_builtin; go_must (refine wpList_append_own _ rfl (.tmp 117) (.tmp 119) 47 rfl w.heap.size 57 i0 _ 4 40 Tryd.underlying47 hi hz0 hz1 hz2 rfl (by decide) _ _ _ rfl ((own_set (own_set (own_below (hown.alloc _) hb1) hne _ _) hne _ _).alloc _) ⟨_, 0, none⟩ 1 1 [.int .i64 2, .string Y, .int .i64 0, .int .i64 k] rfl rfl (cell_four_at _ _ _ _ _ _ _ (by simp)) (four_one _ _ _ _) (by unfold maxLen; omega) (by omega) (by have := hbw.size; simp; omega) ?_; intro v4 w4 hown4 hgrow4 _)))
                          go_roundw
                          case rel =>
                            refine ⟨k + n, acc ++ [⟨2, (s.data.toList.drop k).take n, 0, k⟩], ws2, ?_, by omega, ?_, ?_, ?_, HI2⟩
                            · rw [show Y.size = n by omega]
                              go_num
                            · rw [cellsW_snoc, List.length_append]
                              have e : wcells ⟨2, (s.data.toList.drop k).take n, 0, k⟩ = [.int .i64 2, .string Y, .int .i64 0, .int .i64 k] := by rw [HY.out]; rfl
                              rw [e]
                              exact hown4
                            · exact ((below_two hbw1 hbw.size _ _).alloc (by have := hbw1.size; simp; omega) _).grown hgrow4 (by have := hbw1.size; simp; omega) (fun j hj => (hown.lt j hj).1)
                            · rw [List.length_append]
                              show acc.length + 1 ≤ _
                              omega
                          case measure => simp [intOf]; omega
                        · go_wp2_with (first | (go_at_call 34; with_reducible refine (rletter_is HL.out _).mono ?_; rintro e' w' ⟨rfl, rfl⟩) | (go_at_call 35; with_reducible refine (rdigit_is HD.out _).mono ?_; rintro e' w' ⟨rfl, rfl⟩) | (go_at_call 37; with_reducible refine (rsign_at s Y k n hp hs HN.out HY.out _).mono ?_; rintro e' w1 ⟨rfl, hb1⟩; obtain ⟨hc1, hf1⟩ := bcell hb1; have hbw1 := hbw.trans ((below_after hb1).mono hbw.size); have hne := own_ne_new hown; have hzz : wo.heap.size < w1.heap.size := by have := hb1.size; simp at this; omega) | (at_builtin; go_must (refine wpList_append_own _ rfl (.tmp 117) (.tmp 119) 47 rfl w.heap.size 57 i0 _ 4 40 Tryd.underlying47 hi hz0 hz1 hz2 rfl (by decide) _ _ _ rfl ((own_set (own_set (own_below (hown.alloc _) hb1) hne _ _) hne _ _).alloc _) ⟨_, 0, none⟩ 1 1 [.int .i64 2, .string Y, .int .i64 0, .int .i64 k] rfl rfl (cell_four_at _ _ _ _ _ _ _ (by simp)) (four_one _ _ _ _) (by unfold maxLen; omega) (by omega) (by have := hbw.size; simp; omega) ?_; intro v4 w4 hown4 hgrow4 _)))
                          go_roundw
                          case rel =>
                            refine ⟨k + n, acc ++ [⟨2, (s.data.toList.drop k).take n, 0, k⟩], ws2, ?_, by omega, ?_, ?_, ?_, HI2⟩
                            · rw [show Y.size = n by omega]
                              go_num
                            · rw [cellsW_snoc, List.length_append]
                              have e : wcells ⟨2, (s.data.toList.drop k).take n, 0, k⟩ = [.int .i64 2, .string Y, .int .i64 0, .int .i64 k] := by rw [HY.out]; rfl
                              rw [e]
                              exact hown4
                            · exact ((below_two hbw1 hbw.size _ _).alloc (by have := hbw1.size; simp; omega) _).grown hgrow4 (by have := hbw1.size; simp; omega) (fun j hj => (hown.lt j hj).1)
                            · rw [List.length_append]
                              show acc.length + 1 ≤ _
                              omega
                          case measure => simp [intOf]; omega

                · have h47 : (((s[k]'hp).toNat : Int) == 47) = false := by
                    rw [beq_eq_false_iff_ne]
                    intro h
                    exact hslash (UInt8.toNat_inj.1 (by show _ = 47; omega))
                  have ht : tok numO (s.data.toList.drop k) = .word 2 n 0 := by
                    rw [← hn] at hn0
                    rw [← hn, hq]
                    rw [hq] at hn0
                    simp only [tok]
                    rw [if_neg hb, if_neg hnt, if_neg hlet, if_neg hdig, if_neg hn0]
                  obtain ⟨ws2, hw2, hsc2⟩ := HI.out.1.word_inv hne ht
                  rw [List.drop_drop] at hsc2
                  have HI2 : Hid (Sc numO (s.data.toList.drop (k + n)) (k + n) ws2 Rf ∧ (acc ++ [⟨2, (s.data.toList.drop k).take n, 0, k⟩]) ++ ws2 = Wf) := Lib.hid ⟨hsc2, by rw [← HI.out.2, hw2]; simp⟩
                  have hn1 := tok_word hne ht
                  have HN := Lib.hid hn
                  have HY := Lib.hid hY
                  have hYs : Y.size = n := by
                    rw [hY]
                    show ((s.data.toList.drop k).take n).toArray.size = n
                    rw [List.size_toArray, List.length_take]
                    omega
                  have hE : Y.toList.isEmpty = false := by
                    rw [ByteArray.toList_eq, List.isEmpty_eq_false_iff]
                    intro h
                    have h1 : Y.size = 0 := by
                      show Y.data.toList.length = 0
                      rw [h]
                      rfl
                    omega
                  have hY1 : Y.size ≤ n := by omega
                  have hY2 : n ≤ Y.size := by omega
                  have hn3 : k + n ≤ s.size := by omega
                  have hn4 : 1 ≤ n := hn1.1
                  clear hb hnt hlet hdig ht hne hdl hq hm hw2 hsc2 hJ hn hY hn0 hn1 hYs hslash
                  go_wp2_with (go_at_call 33; with_reducible refine (blank_in HB.out _).mono ?_; rintro e' w' ⟨rfl, rfl⟩)
                  obtain ⟨wo, hwo⟩ : ∃ wo : World, wo = wr := ⟨_, rfl⟩
                  subst hwo
                  go_loop [8] (fun n => ∃ j : Nat, n = .int .i64 j ∧ k ≤ j ∧ j ≤ J) (fun n => J - (intOf n).toNat)
                  case atStart => exact ⟨k, rfl, Nat.le_refl _, by omega⟩
                  case round =>
                    obtain ⟨j, rfl, hj1, hj2⟩ := hrel
                    by_cases hj : j < J
                    · have hjs : j < s.size := by omega
                      have hpt := HP.out.1 j hjs hj1 hj
                      cases hl : isLetter (s[j]'hjs)
                      · have HL1 := Lib.hid hl
                        have HD1 : Hid (isDigit (s[j]'hjs) = true) := Lib.hid (by unfold isPart at hpt; rw [hl] at hpt; simpa using hpt)
                        clear hl hpt
                        go_wp2_with (first | (go_at_call 34; with_reducible refine (rletter_is HL1.out _).mono ?_; rintro e' w' ⟨rfl, rfl⟩) | (go_at_call 35; with_reducible refine (rdigit_is HD1.out _).mono ?_; rintro e' w' ⟨rfl, rfl⟩))
                        go_round
                        case rel => exact ⟨j + 1, by go_num, by omega, by omega⟩
                        case measure => simp [intOf]; omega
                      · have HL1 := Lib.hid hl
                        clear hl hpt
                        go_wp2_with (first | (go_at_call 34; with_reducible refine (rletter_is HL1.out _).mono ?_; rintro e' w' ⟨rfl, rfl⟩))
                        go_round
                        case rel => exact ⟨j + 1, by go_num, by omega, by omega⟩
                        case measure => simp [intOf]; omega
                    · obtain rfl : j = J := by omega
                      by_cases hje : j < s.size
                      · have hpt := HP.out.2 hje
                        have HL1 : Hid (isLetter (s[j]'hje) = false) := Lib.hid (by unfold isPart at hpt; simp at hpt; exact hpt.1)
                        have HD1 : Hid (isDigit (s[j]'hje) = false) := Lib.hid (by unfold isPart at hpt; simp at hpt; exact hpt.2)
                        clear hpt
                        go_wp2_with (first | (go_at_call 34; with_reducible refine (rletter_is HL1.out _).mono ?_; rintro e' w' ⟨rfl, rfl⟩) | (go_at_call 35; with_reducible refine (rdigit_is HD1.out _).mono ?_; rintro e' w' ⟨rfl, rfl⟩) | (go_at_call 34; with_reducible refine (rletter_is HL.out _).mono ?_; rintro e' w' ⟨rfl, rfl⟩) | (go_at_call 35; with_reducible refine (rdigit_is HD.out _).mono ?_; rintro e' w' ⟨rfl, rfl⟩) | (go_at_call 37; with_reducible refine (rsign_at s Y k n hp hs HN.out HY.out _).mono ?_; rintro e' w1 ⟨rfl, hb1⟩; obtain ⟨hc1, hf1⟩ := bcell hb1; have hbw1 := hbw.trans ((below_after hb1).mono hbw.size); have hne := own_ne_new hown; have hzz : wo.heap.size < w1.heap.size := by have := hb1.size; simp at this; omega) | (at_builtin; go_must (refine wpList_append_own _ rfl (.tmp 117) (.tmp 119) 47 rfl w.heap.size 57 i0 _ 4 40 Tryd.underlying47 hi hz0 hz1 hz2 rfl (by decide) _ _ _ rfl ((own_set (own_set (own_below (hown.alloc _) hb1) hne _ _) hne _ _).alloc _) ⟨_, 0, none⟩ 1 1 [.int .i64 2, .string Y, .int .i64 0, .int .i64 k] rfl rfl (cell_four_at _ _ _ _ _ _ _ (by simp)) (four_one _ _ _ _) (by unfold maxLen; omega) (by omega) (by have := hbw.size; simp; omega) ?_; intro v4 w4 hown4 hgrow4 _)))
                        go_roundw
                        case rel =>
                          refine ⟨k + n, acc ++ [⟨2, (s.data.toList.drop k).take n, 0, k⟩], ws2, ?_, by omega, ?_, ?_, ?_, HI2⟩
                          · rw [show Y.size = n by omega]
                            go_num
                          · rw [cellsW_snoc, List.length_append]
                            have e : wcells ⟨2, (s.data.toList.drop k).take n, 0, k⟩ = [.int .i64 2, .string Y, .int .i64 0, .int .i64 k] := by rw [HY.out]; rfl
                            rw [e]
                            exact hown4
                          · exact ((below_two hbw1 hbw.size _ _).alloc (by have := hbw1.size; simp; omega) _).grown hgrow4 (by have := hbw1.size; simp; omega) (fun j hj => (hown.lt j hj).1)
                          · rw [List.length_append]
                            show acc.length + 1 ≤ _
                            omega
                        case measure => simp [intOf]; omega
                      · go_wp2_with (first | (go_at_call 34; with_reducible refine (rletter_is HL.out _).mono ?_; rintro e' w' ⟨rfl, rfl⟩) | (go_at_call 35; with_reducible refine (rdigit_is HD.out _).mono ?_; rintro e' w' ⟨rfl, rfl⟩) | (go_at_call 37; with_reducible refine (rsign_at s Y k n hp hs HN.out HY.out _).mono ?_; rintro e' w1 ⟨rfl, hb1⟩; obtain ⟨hc1, hf1⟩ := bcell hb1; have hbw1 := hbw.trans ((below_after hb1).mono hbw.size); have hne := own_ne_new hown; have hzz : wo.heap.size < w1.heap.size := by have := hb1.size; simp at this; omega) | (at_builtin; go_must (refine wpList_append_own _ rfl (.tmp 117) (.tmp 119) 47 rfl w.heap.size 57 i0 _ 4 40 Tryd.underlying47 hi hz0 hz1 hz2 rfl (by decide) _ _ _ rfl ((own_set (own_set (own_below (hown.alloc _) hb1) hne _ _) hne _ _).alloc _) ⟨_, 0, none⟩ 1 1 [.int .i64 2, .string Y, .int .i64 0, .int .i64 k] rfl rfl (cell_four_at _ _ _ _ _ _ _ (by simp)) (four_one _ _ _ _) (by unfold maxLen; omega) (by omega) (by have := hbw.size; simp; omega) ?_; intro v4 w4 hown4 hgrow4 _)))
                        go_roundw
                        case rel =>
                          refine ⟨k + n, acc ++ [⟨2, (s.data.toList.drop k).take n, 0, k⟩], ws2, ?_, by omega, ?_, ?_, ?_, HI2⟩
                          · rw [show Y.size = n by omega]
                            go_num
                          · rw [cellsW_snoc, List.length_append]
                            have e : wcells ⟨2, (s.data.toList.drop k).take n, 0, k⟩ = [.int .i64 2, .string Y, .int .i64 0, .int .i64 k] := by rw [HY.out]; rfl
                            rw [e]
                            exact hown4
                          · exact ((below_two hbw1 hbw.size _ _).alloc (by have := hbw1.size; simp; omega) _).grown hgrow4 (by have := hbw1.size; simp; omega) (fun j hj => (hown.lt j hj).1)
                          · rw [List.length_append]
                            show acc.length + 1 ≤ _
                            omega
                        case measure => simp [intOf]; omega

    · have HE : Hid ((∃ ws', ws' = ws ∧ ws = [⟨3, [], 0, s.size⟩]) ∧ Rf = none) := by
        have h1 := HI.out.1
        rw [show s.data.toList.drop k = [] from List.drop_eq_nil_of_le (by show s.size ≤ k; omega)] at h1
        obtain ⟨e1, e2⟩ := h1.nil_inv
        exact Lib.hid ⟨⟨ws, rfl, by rw [e1, show k = s.size by omega]⟩, e2⟩
      go_wp2_with (first
        | (at_builtin; go_must (refine wpList_append_own _ rfl (.tmp 122) (.tmp 126) 47 rfl w.heap.size 57 i0 _ 4 40 Tryd.underlying47 hi hz0 hz1 hz2 rfl (by decide) _ _ _ rfl (hown.alloc _) ⟨_, 0, none⟩ 1 1 [.int .i64 3, .string ⟨#[]⟩, .int .i64 0, .int .i64 s.size] rfl rfl (cell_four_at _ _ _ _ _ _ _ (by simp)) (four_one _ _ _ _) (by unfold maxLen; omega) (by omega) (by have := hbw.size; simp; omega) ?_; intro v4 w4 hown4 hgrow4 _)))
      go_ret3
      refine ⟨?_, (hbw.alloc hbw.size _).grown hgrow4 (by have := hbw.size; simp; omega) (fun j hj => (hown.lt j hj).1)⟩
      obtain ⟨⟨ws', _, e1⟩, e2⟩ := HE.out
      have e3 := HI.out.2
      rw [e1] at e3
      rw [e2, ← e3]
      refine ⟨_, rfl, ?_⟩
      rw [cellsW_snoc, List.length_append]
      exact hown4
end Go.Proofs.YtkhbbapocamlmaaDoor
namespace Go.Proofs.YtkhbbapocamlmaaDoor
open Go Go.RowKit
/-- Words that are there: a row of so many. -/
def OkEnd (T : TypeId) (B : Nat) (W : List Wd) (e : Ending) (w' : World) : Prop :=
  ∃ g cap, e = .returned (.tuple #[.slice (some ⟨g, 0, none⟩) W.length cap, .int .i64 0, .int .i64 0]) ∧ w'.ownsRow B T 4 (.slice (some ⟨g, 0, none⟩) W.length cap) W.length (cellsW W)
theorem rwords_ok (s : ByteArray) (w : World) (hs : s.size ≤ 16384) (W : List Wd) (hS : Hid (Sc numO s.data.toList 0 W none)) :
    Calls Tryd.prog 16 #[.string s] w fun e w' => OkEnd 57 w.heap.size W e w' ∧ Below w.heap.size w w' :=
  (rwords_any s w hs W none hS).mono fun e w' ⟨h1, h2⟩ => by
    obtain ⟨v, e1, e2⟩ := h1
    obtain ⟨g, cap, e3, _⟩ := e2.form (hS.out.some_words rfl)
    subst e3
    exact ⟨⟨g, cap, e1, e2⟩, h2⟩
theorem rwords_err (s : ByteArray) (w : World) (hs : s.size ≤ 16384) (W : List Wd) (e0 : Int) (a0 : Nat) (hS : Hid (Sc numO s.data.toList 0 W (some (e0, a0)))) :
    Calls Tryd.prog 16 #[.string s] w fun e w' => e = .returned (.tuple #[.slice none 0 0, .int .i64 e0, .int .i64 a0]) ∧ Below w.heap.size w w' :=
  rwords_any s w hs W _ hS
end Go.Proofs.YtkhbbapocamlmaaDoor
