/- lex.Words of any text of at most 16384 bytes: its words, or its error. -/
import Derived.Test.YtngfbpmabdmkeaaGreatDoorRow
import Derived.Deep.DeepMust
namespace Go.Proofs.YtngfbpmabdmkeaaGreatDoor
open Go Go.RowKit

theorem clone_any (s : ByteArray) (w : World) (h : s.size ≤ 281474976710656) : Calls Tryz.prog 29 #[.string s] w fun e w' => e = .returned (.string s) ∧ Below w.heap.size w w' := by
  go_enter Tryz.func29, Tryz.ntmps29
  go_wp2_with (go_at_call 58; refine (Tryz.stringslite_Clone _ _ h).mono ?_; rintro e' w1 ⟨rfl, hb1⟩)
  go_ret
  exact ⟨rfl, hb1⟩

theorem rest_size (s : ByteArray) (p : Nat) : (s.extract p s.size).size = s.size - p := by rw [ByteArray.size_extract]; omega
theorem rest_list (s : ByteArray) (p : Nat) : (s.extract p s.size).data.toList = s.data.toList.drop p := Lib.extract_to_end s p
theorem rest_head (s : ByteArray) (p : Nat) (hp : p < s.size) (h : 0 < (s.extract p s.size).size) : (s.extract p s.size)[0]'h = s[p]'hp := by
  have h1 := at_list (s.extract p s.size) 0 h
  rw [rest_list, List.getElem?_drop, Nat.add_zero, at_list s p hp] at h1
  exact (Option.some.inj h1).symm
theorem drop_ne (s : ByteArray) (p : Nat) (hp : p < s.size) : s.data.toList.drop p ≠ [] := by
  intro h
  have := congrArg List.length h
  rw [List.length_drop] at this
  simp at this
  have e : s.data.size = s.size := rfl
  omega
theorem drop_len (s : ByteArray) (p : Nat) : (s.data.toList.drop p).length = s.size - p := by rw [List.length_drop]; rfl

theorem gap_at (s : ByteArray) (p n : Nat) (hp : p < s.size) (hg : gapN (s.data.toList.drop p) = n) (w : World) :
    Calls Tryz.prog 52 #[.int .i32 (Utf8.decode s p).1, .string (s.extract p s.size)] w fun e w' => e = .returned (.int .i64 n) ∧ Below w.heap.size w w' := by
  have h0 : 0 < (s.extract p s.size).size := by rw [rest_size]; omega
  exact gap_any _ _ n w h0 (by rw [rest_head s p hp h0]; exact decode_rn s p hp) (by rw [rest_list]; exact hg)
theorem read_at (s X : ByteArray) (p n : Nat) (k v : Int) (hp : p < s.size) (hm : s.size ≤ 16384) (ht : tok numO (s.data.toList.drop p) = .word k n v) (hX : X = ⟨((s.data.toList.drop p).take n).toArray⟩) (w : World) (L : Laid w) :
    Calls Tryz.prog 53 #[.int .i32 (Utf8.decode s p).1, .string (s.extract p s.size)] w fun e w' => e = .returned (.tuple #[wordV k X v 0, .int .i64 0]) ∧ Below w.heap.size w w' := by
  have h0 : 0 < (s.extract p s.size).size := by rw [rest_size]; omega
  have := read_word (s.extract p s.size) _ n k v w L h0 (by rw [rest_size]; omega) (by rw [rest_head s p hp h0]; exact decode_rn s p hp) (by rw [rest_list]; exact ht)
  rw [take_ext, rest_list, ← hX] at this
  exact this
theorem read_err (s : ByteArray) (p : Nat) (e0 : Int) (hp : p < s.size) (hm : s.size ≤ 16384) (ht : tok numO (s.data.toList.drop p) = .bad e0) (w : World) (L : Laid w) :
    Calls Tryz.prog 53 #[.int .i32 (Utf8.decode s p).1, .string (s.extract p s.size)] w fun e w' => e = .returned (.tuple #[wordV 0 ⟨#[]⟩ 0 0, .int .i64 e0]) ∧ Below w.heap.size w w' := by
  have h0 : 0 < (s.extract p s.size).size := by rw [rest_size]; omega
  exact read_bad (s.extract p s.size) _ e0 w L h0 (by rw [rest_size]; omega) (by rw [rest_head s p hp h0]; exact decode_rn s p hp) (by rw [rest_list]; exact ht)

theorem tok_code {l : List UInt8} {e : Int} (h : tok numO l = .bad e) : e = 2 ∨ e = 10 := by
  cases l with
  | nil => simp [tok] at h
  | cons c r =>
    simp only [tok] at h
    repeat' split at h
    all_goals first
      | cases h; done
      | (injection h with h1; omega)
/-- A word's bytes are ASCII, a gap ends at an ASCII byte, or at the text's end: a range over the text comes there. -/
theorem list_at (s : ByteArray) (p i : Nat) (h : p + i < s.size) : (s.data.toList.drop p)[i]? = some (s[p + i]'h) := by rw [List.getElem?_drop, at_list s (p + i) h]
theorem take_all {α : Type} (p : α → Bool) : ∀ (l : List α) (i : Nat) (x : α), i < (l.takeWhile p).length → l[i]? = some x → p x = true
  | [], i, x, h, _ => by simp at h
  | c :: r, i, x, h, hx => by
    rw [List.takeWhile_cons] at h
    split at h
    · rename_i hc
      cases i with
      | zero =>
        simp at hx
        rw [← hx]
        exact hc
      | succ i => exact take_all p r i x (by simpa using h) (by simpa using hx)
    · simp at h
theorem span_ascii {l : List UInt8} {i : Nat} {x : UInt8} (h : i < spanL l) (hx : l[i]? = some x) : x.toNat < 128 := part_ascii (take_all isPart l i x h hx)
theorem sgn_ascii {l : List UInt8} {i : Nat} {x : UInt8} (h : i < sgnLen l) (hx : l[i]? = some x) : x.toNat < 128 := by
  match l with
  | [] => simp [sgnLen] at h
  | [a] =>
    simp only [sgnLen] at h
    split at h
    · rename_i hc
      obtain rfl : i = 0 := by omega
      simp at hx
      subst hx
      simp [oneL] at hc
      rcases hc with rfl | rfl | rfl | rfl | rfl | rfl | rfl | rfl | rfl | rfl | rfl | rfl | rfl | rfl | rfl | rfl | rfl | rfl | rfl | rfl <;> decide
    · omega
  | a :: b :: r =>
    simp only [sgnLen] at h
    split at h
    · rename_i hc
      simp [pairL] at hc
      rcases (show i = 0 ∨ i = 1 by omega) with rfl | rfl
      · simp at hx
        subst hx
        rcases hc with ⟨rfl, rfl⟩ | ⟨rfl, rfl⟩ | ⟨rfl, rfl⟩ | ⟨rfl, rfl⟩ | ⟨rfl, rfl⟩ | ⟨rfl, rfl⟩ | ⟨rfl, rfl⟩ | ⟨rfl, rfl⟩ <;> decide
      · simp at hx
        subst hx
        rcases hc with ⟨rfl, rfl⟩ | ⟨rfl, rfl⟩ | ⟨rfl, rfl⟩ | ⟨rfl, rfl⟩ | ⟨rfl, rfl⟩ | ⟨rfl, rfl⟩ | ⟨rfl, rfl⟩ | ⟨rfl, rfl⟩ <;> decide
    · split at h
      · rename_i hc
        obtain rfl : i = 0 := by omega
        simp at hx
        subst hx
        simp [oneL] at hc
        rcases hc with rfl | rfl | rfl | rfl | rfl | rfl | rfl | rfl | rfl | rfl | rfl | rfl | rfl | rfl | rfl | rfl | rfl | rfl | rfl | rfl <;> decide
      · omega
theorem word_ascii {l : List UInt8} {n : Nat} {k v : Int} (ht : tok numO l = .word k n v) {i : Nat} {x : UInt8} (h : i < n) (hx : l[i]? = some x) : x.toNat < 128 := by
  cases l with
  | nil => simp at hx
  | cons c r =>
    simp only [tok] at ht
    split at ht
    · cases ht
    split at ht
    · cases ht
    split at ht
    · split at ht
      · cases ht
      · injection ht with e1 e2 e3
        exact span_ascii (by omega) hx
    · split at ht
      · split at ht
        · injection ht with e1 e2 e3
          exact span_ascii (by omega) hx
        · cases ht
      · split at ht
        · cases ht
        · injection ht with e1 e2 e3
          exact sgn_ascii (by omega) hx
theorem comes_word (s : ByteArray) (p n : Nat) (k v : Int) (hp : p < s.size) (ht : tok numO (s.data.toList.drop p) = .word k n v) : Comes s p (p + n) := by
  obtain ⟨h1, h2⟩ := tok_word (drop_ne s p hp) ht
  rw [drop_len] at h2
  refine Comes.ascii s (p + n) (by omega) n p rfl fun i h hi1 hi2 => ?_
  have hx := list_at s p (i - p) (by omega)
  have e : p + (i - p) = i := by omega
  simp only [e] at hx
  exact word_ascii ht (by omega) hx

theorem note_end {l : List UInt8} {x : UInt8} (hx : l[noteL l]? = some x) : x = 10 := by
  unfold noteL at hx
  induction l with
  | nil => simp at hx
  | cons c r ih =>
    rw [List.takeWhile_cons] at hx
    split at hx
    · exact ih (by simpa using hx)
    · rename_i hc
      simp at hx hc
      rw [← hx]
      exact hc
theorem comes_gap (s : ByteArray) (p n : Nat) (hp : p < s.size) (ht : tok numO (s.data.toList.drop p) = .gap n) : Comes s p (p + n) := by
  obtain ⟨h1, h2⟩ := tok_gap (drop_ne s p hp) ht
  have h3 := drop_len s p
  by_cases hb : isBlank s[p] = true
  · have hh := list_at s p 0 hp
    obtain ⟨c, r, hc⟩ := List.exists_cons_of_ne_nil (drop_ne s p hp)
    rw [hc] at ht hh
    simp only [Nat.add_zero, List.getElem?_cons_zero, Option.some.injEq] at hh
    subst hh
    simp only [tok, hb, if_true] at ht
    injection ht with ht
    subst ht
    refine Comes.ascii s (p + 1) (by omega) 1 p rfl fun i h hi1 hi2 => ?_
    obtain rfl : i = p := by omega
    have hb2 : s[i].toNat = 32 ∨ s[i].toNat = 9 ∨ s[i].toNat = 10 ∨ s[i].toNat = 13 := by
      simp [isBlank, ← UInt8.toNat_inj] at hb
      omega
    omega
  · have hn : n = noteL (s.data.toList.drop p) := by
      have hh := list_at s p 0 hp
      obtain ⟨c, r, hc⟩ := List.exists_cons_of_ne_nil (drop_ne s p hp)
      rw [hc] at ht hh ⊢
      simp only [Nat.add_zero, List.getElem?_cons_zero, Option.some.injEq] at hh
      subst hh
      simp only [tok] at ht
      rw [if_neg hb] at ht
      split at ht
      · injection ht with ht
        exact ht.symm
      · split at ht
        · split at ht <;> cases ht
        · split at ht
          · split at ht <;> cases ht
          · split at ht <;> cases ht
    refine Comes.stop s (p + n) (by omega) (fun h => ?_) n p (Nat.le_refl _) (by omega)
    have hx := list_at s p n h
    have h10 : s[p + n] = 10 := by
      subst hn
      exact note_end hx
    rw [h10]
    decide

/-- The word that was just made stands where it stood, behind the append of a copy of it. -/
theorem word_kept {w w4 : World} {B e size n : Nat} {v : Value} {xs : List Value} {a b c d : Value} {T : TypeId} {o : Obj} (h : w.ownsRow B e size v n xs) (hg : ((w.alloc (.cells #[a, b, c, d] T)).alloc o).grownBy w4 v.ownBlock) : w4.cell? ⟨w.heap.size, 1, none⟩ = some b := by
  have hne : some w.heap.size ≠ v.ownBlock := fun h2 => by have := (h.lt _ h2.symm).2; omega
  have hb := hg.block w.heap.size (by simp; omega) hne
  rw [cell_of_row w4 w.heap.size 1 #[a, b, c, d] T (0, 0) (hb.trans ((Below.heap_alloc _ _ _ (by simp)).trans (heap_alloc_new w _)))]
  rfl

theorem iter_kept {w w4 : World} {B e size n : Nat} {v : Value} {xs : List Value} {o o2 : Obj} {k : Nat} {s : ByteArray} {p : Nat} (h : w.ownsRow B e size v n xs) (hg : ((w.alloc o).alloc o2).grownBy w4 v.ownBlock) (hk : w.heap[k]? = some (.stringIter s p)) : w4.heap[k]? = some (.stringIter s p) := by
  have hlt : k < w.heap.size := (Array.getElem?_eq_some_iff.1 hk).1
  exact (hg.block k (by simp; omega) (own_ne_iter h hk)).trans ((Below.heap_alloc _ _ _ (by simp; omega)).trans ((Below.heap_alloc _ _ _ hlt).trans hk))

/-- How a call ends, of words Wf and an error Rf. -/
def WordsEnd (B : Nat) (Wf : List Wd) (Rf : Option (Int × Nat)) (e : Ending) (w' : World) : Prop :=
  match Rf with
  | none => ∃ v, e = .returned (.tuple #[v, .int .i64 0, .int .i64 0]) ∧ w'.ownsRow B 68 4 v Wf.length (cellsW Wf)
  | some (e0, a0) => e = .returned (.tuple #[.slice none 0 0, .int .i64 e0, .int .i64 a0])

set_option maxRecDepth 100000 in
set_option maxHeartbeats 2000000 in
theorem words_any (s : ByteArray) (w : World) (L : Hid (Laid w)) (hs : s.size ≤ 16384) (Wf : List Wd) (Rf : Option (Int × Nat)) (hS : Hid (Sc numO s.data.toList 0 Wf Rf)) :
    Calls Tryz.prog 25 #[.string s] w fun e w' => WordsEnd w.heap.size Wf Rf e w' ∧ Below w.heap.size w w' := by
  obtain ⟨i0, hi, hz0, hz1, hz2⟩ := info_parts infoWord
  go_enter Tryz.func25, Tryz.ntmps25
  go_wp2_with (go_at_call 29; refine (clone_any _ _ (by omega)).mono ?_; rintro e' w1 ⟨rfl, hb1⟩)
  have hI0 : w.heap.size ≤ w1.heap.size := hb1.size
  go_loopw [5, 6] (fun v q wr => ∃ (pos k : Nat) (acc ws : List Wd), q = .int .i64 k ∧ Comes s pos k ∧ k ≤ s.size ∧ wr.heap[w1.heap.size]? = some (.stringIter s pos) ∧ wr.ownsRow w.heap.size 68 4 v acc.length (cellsW acc) ∧ Below w.heap.size w wr ∧ acc.length ≤ k ∧
      Hid (Sc numO (s.data.toList.drop k) k ws Rf ∧ acc ++ ws = Wf)) (fun _ _ wr => s.size - wr.iterPos w1.heap.size)
  case atStart => exact ⟨0, 0, [], Wf, rfl, .here _, Nat.zero_le _, World.iter_heap w1 s 0, ⟨rfl, .inl ⟨rfl, rfl⟩⟩, hb1.alloc hI0 _, Nat.le_refl _, Lib.hid ⟨hS.out, rfl⟩⟩
  case round =>
    obtain ⟨pos, k, acc, ws, rfl, hco, hk, hit, hown, hbw, hal, HI⟩ := hrel
    have HC := Lib.hid hco
    clear hco
    by_cases hp : pos < s.size
    · have hnx : ∀ ty, (Instr.next (.pointer (some ⟨w1.heap.size, 0, none⟩)) true ty).run Tryz.prog wr = _ := fun ty => Lib.run_next_any_at wr w1.heap.size s pos ty hit hp
      have hit2 := Lib.iterAt_heap wr w1.heap.size s pos (pos + (Utf8.decode s pos).2) hit
      have hbw2 := Lib.below_iterAt hbw (k := w1.heap.size) hI0 s (pos + (Utf8.decode s pos).2)
      have hown2 := own_iterAt hown hit (pos + (Utf8.decode s pos).2)
      have hwd := decode_pos s pos hp
      have hws := decode_stop s pos s.size hp hp (fun h => absurd h (Nat.lt_irrefl _))
      by_cases hpk : pos < k
      · have HC2 := Lib.hid (HC.out.step hpk)
        go_wp2
        go_roundw
        case rel => exact ⟨_, k, acc, ws, rfl, HC2.out, hk, hit2, hown2, hbw2, hal, HI⟩
        case measure =>
          simp only [World.iterPos, hit2, hit]
          omega
      · obtain rfl : k = pos := by have := HC.out.le; omega
        obtain ⟨W, hW⟩ : ∃ W, wr.iterAt w1.heap.size s (k + (Utf8.decode s k).2) = W := ⟨_, rfl⟩
        rw [hW] at hnx hit2 hbw2 hown2
        have hIT : w1.heap.size < W.heap.size := (Array.getElem?_eq_some_iff.1 hit2).1
        have HIT := Lib.hid hit
        clear hit hbw hown hW hpk
        have hne := drop_ne s k hp
        have hdl := drop_len s k
        have LL := Lib.hid (L.out.below hbw2)
        cases ht : tok numO (s.data.toList.drop k) with
        | gap n =>
          obtain ⟨hn1, hn2⟩ := tok_gap hne ht
          have hn3 : n ≤ s.size - k := by omega
          have HG := Lib.hid (gap_of_tok hne ht)
          have HC2 := Lib.hid ((comes_gap s k n hp ht).step (by omega))
          have HI2 : Hid (Sc numO (s.data.toList.drop (k + n)) (k + n) ws Rf ∧ acc ++ ws = Wf) := Lib.hid ⟨by have := HI.out.1.gap_inv hne ht; rwa [List.drop_drop] at this, HI.out.2⟩
          clear ht hne hdl hn2 HC
          go_wp2_with (go_at_call 52; with_reducible refine (gap_at s k n hp HG.out _).mono ?_; rintro e' w2 ⟨rfl, hb2⟩)
          have hit3 := (hb2.block w1.heap.size hIT).trans hit2
          go_roundw
          case rel => exact ⟨_, k + n, acc, ws, by go_num, HC2.out, by omega, hit3, own_below hown2 hb2, hbw2.trans (hb2.mono hbw2.size), by omega, HI2⟩
          case measure =>
            simp only [World.iterPos, hit3, HIT.out]
            omega
        | bad e0 =>
          have HG := Lib.hid (nogap_of_tok hne (fun n h => by rw [ht] at h; cases h))
          have HT := Lib.hid ht
          obtain ⟨e1, e2⟩ := HI.out.1.bad_inv hne ht
          have HR := Lib.hid e2
          have he0 : (e0 != 0) = true := by rcases tok_code ht with rfl | rfl <;> rfl
          clear ht hne hdl e1 e2
          go_wp2_with (first
            | (go_at_call 52; with_reducible refine (gap_at s k 0 hp HG.out _).mono ?_; rintro e' w2 ⟨rfl, hb2⟩; have LL2 := Lib.hid (LL.out.below hb2))
            | (go_at_call 53; with_reducible refine (read_err s k e0 hp hs HT.out _ LL2.out).mono ?_; rintro e' w3 ⟨rfl, hb3⟩))
          go_ret3
          refine ⟨by rw [HR.out]; rfl, ?_⟩
          have hb4 := hbw2.trans ((hb2.trans (hb3.mono hb2.size)).mono hbw2.size)
          exact hb4.alloc hb4.size _
        | word kd n v =>
          obtain ⟨hn1, hn2⟩ := tok_word hne ht
          have hn3 : n ≤ s.size - k := by omega
          have HG := Lib.hid (nogap_of_tok hne (fun n h => by rw [ht] at h; cases h))
          obtain ⟨X, hX⟩ : ∃ X : ByteArray, X = ⟨((s.data.toList.drop k).take n).toArray⟩ := ⟨_, rfl⟩
          have hXs : X.size = n := by
            rw [hX]
            show ((s.data.toList.drop k).take n).toArray.size = n
            rw [List.size_toArray, List.length_take]
            omega
          have HT := Lib.hid ht
          have HX := Lib.hid hX
          have hXn : X.size ≤ n ∧ n ≤ X.size := by omega
          have HC2 := Lib.hid ((comes_word s k n kd v hp ht).step (by omega))
          obtain ⟨ws2, hw2, hsc2⟩ := HI.out.1.word_inv hne ht
          rw [List.drop_drop] at hsc2
          have HI2 : Hid (Sc numO (s.data.toList.drop (k + n)) (k + n) ws2 Rf ∧ (acc ++ [⟨kd, (s.data.toList.drop k).take n, v, k⟩]) ++ ws2 = Wf) := Lib.hid ⟨hsc2, by rw [← HI.out.2, hw2]; simp⟩
          clear ht hne hdl hn2 HC hX hXs hw2 hsc2
          obtain ⟨hXn1, hXn2⟩ := hXn
          go_wp2_with (first
            | (go_at_call 52; with_reducible refine (gap_at s k 0 hp HG.out _).mono ?_; rintro e' w2 ⟨rfl, hb2⟩; have LL2 := Lib.hid (LL.out.below hb2))
            | (go_at_call 53; with_reducible refine (read_at s X k n kd v hp hs HT.out HX.out _ LL2.out).mono ?_; rintro e' w3 ⟨rfl, hb3⟩; have hown3 := own_below (own_below hown2 hb2) hb3; have hbw3 := hbw2.trans ((hb2.trans (hb3.mono hb2.size)).mono hbw2.size))
            | (at_builtin; go_must (refine wpList_append_own _ rfl (.tmp 50) (.tmp 52) 63 rfl w.heap.size 68 i0 _ 4 40 Tryz.underlying63 hi hz0 hz1 hz2 rfl (by decide) _ _ _ rfl ((hown3.alloc _).alloc _) ⟨_, 0, none⟩ 1 1 [.int .i64 kd, .string X, .int .i64 v, .int .i64 k] rfl rfl (cell_four_at _ _ _ _ _ _ _ (by simp)) (four_one _ _ _ _) (by unfold maxLen; omega) (by omega) (by have := hbw3.size; simp; omega) ?_; intro v4 w4 hown4 hgrow4 _; have hcw := word_kept hown3 hgrow4)))
          have hit4 := iter_kept hown3 hgrow4 (((hb2.trans (hb3.mono hb2.size)).block w1.heap.size hIT).trans hit2)
          go_roundw
          case rel =>
            refine ⟨_, k + n, acc ++ [⟨kd, (s.data.toList.drop k).take n, v, k⟩], ws2, ?_, HC2.out, by omega, hit4, ?_, ?_, ?_, HI2⟩
            · rw [show X.size = n by omega]
              go_num
            · rw [cellsW_snoc, List.length_append]
              have e : wcells ⟨kd, (s.data.toList.drop k).take n, v, k⟩ = [.int .i64 kd, .string X, .int .i64 v, .int .i64 k] := by rw [HX.out]; rfl
              rw [e]
              exact hown4
            · exact ((hbw3.alloc hbw3.size _).alloc (by have := hbw3.size; simp; omega) _).grown hgrow4 (by have := hbw3.size; simp; omega) (fun j hj => (hown3.lt j hj).1)
            · rw [List.length_append]
              show acc.length + 1 ≤ _
              omega
          case measure =>
            simp only [World.iterPos, hit4, HIT.out]
            omega
    · have hnx : ∀ ty, (Instr.next (.pointer (some ⟨w1.heap.size, 0, none⟩)) true ty).run Tryz.prog wr = _ := fun ty => Lib.run_next_end_at wr w1.heap.size s pos ty hit hp
      have hks : k = s.size ∧ pos = k := by have := HC.out.le; omega
      have HE : Hid ((∃ ws', ws' = ws ∧ ws = [⟨3, [], 0, s.size⟩]) ∧ Rf = none) := by
        have h1 := HI.out.1
        rw [show s.data.toList.drop k = [] from List.drop_eq_nil_of_le (by rw [hks.1]; exact Nat.le_refl _)] at h1
        obtain ⟨e1, e2⟩ := h1.nil_inv
        exact Lib.hid ⟨⟨ws, rfl, by rw [e1, hks.1]⟩, e2⟩
      clear hks
      go_wp2_with (first
        | (at_builtin; go_must (refine wpList_append_own _ rfl (.tmp 59) (.tmp 63) 63 rfl w.heap.size 68 i0 _ 4 40 Tryz.underlying63 hi hz0 hz1 hz2 rfl (by decide) _ _ _ rfl (hown.alloc _) ⟨_, 0, none⟩ 1 1 [.int .i64 3, .string ⟨#[]⟩, .int .i64 0, .int .i64 s.size] rfl rfl (cell_four_at _ _ _ _ _ _ _ (by simp)) (four_one _ _ _ _) (by unfold maxLen; omega) (by omega) (by have := hbw.size; simp; omega) ?_; intro v4 w4 hown4 hgrow4 _)))
      go_ret3
      refine ⟨?_, (hbw.alloc hbw.size _).grown hgrow4 (by have := hbw.size; simp; omega) (fun j hj => (hown.lt j hj).1)⟩
      obtain ⟨⟨ws', _, e1⟩, e2⟩ := HE.out
      have e3 := HI.out.2
      rw [e1] at e3
      rw [e2, ← e3]
      refine ⟨_, rfl, ?_⟩
      rw [cellsW_snoc, List.length_append]
      exact hown4
end Go.Proofs.YtngfbpmabdmkeaaGreatDoor
