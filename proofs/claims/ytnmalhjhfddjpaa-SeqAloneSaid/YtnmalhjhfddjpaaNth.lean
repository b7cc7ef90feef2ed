/- What each kind does, as a map; a thread at its beginning. -/
import Derived.Test.YtnmalhjhfddjpaaCln
import Derived.Deep.CutRange
import Derived.Deep.CutBlock
namespace Go.Proofs.Ytnmalhjhfddjpaa
set_option linter.unusedSimpArgs false
set_option linter.unusedVariables false
open Go Go.RowKit Go.ChangeMaps Go.MapKept Go.WideElems Go.Maps

/-- A map of what each kind does was made. -/
def KnP (W : World) (tb : Nat) (e : Ending) (w' : World) : Prop := ∃ dm, e = .returned (.map (some dm)) ∧ DM w' dm tb ∧ W.heap.size ≤ dm ∧ dm < w'.heap.size ∧ Below W.heap.size W w'
set_option maxRecDepth 100000 in
set_option maxHeartbeats 4000000 in
theorem kinds_any (tb : Nat) (W : World) : Calls Try.prog 21 #[.pointer (some ⟨tb, 0, none⟩)] W (KnP W tb) := by
  have hmm := @run_makeMap Try.prog
  have hM0 := KM.made 3 W
  have hB0 : Below W.heap.size W (W.alloc (.map #[] 0)) := (Below.refl _ _).alloc (Nat.le_refl _) _
  go_enter Try.func21, Try.ntmps21
  go_wp2_with (first
    | (refine wpList_insertK rfl (.tmp 3) (.const (.int .i64 0)) (.tmp 5) rfl keyedI Try.underlying58 W.heap.size 0 _ rfl hM0 (by decide) 0 (.func (.func 24) #[.pointer (some ⟨tb, 0, none⟩)] #[]) rfl rfl (keyI (by unfold In6; omega)) ?_; intro w1 hM1 hG1; have hB1 := hB0.grown hG1 hB0.size (by intro q hq; cases hq; exact Nat.le_refl _); clear hM0 hG1 hB0)
    | (refine wpList_insertK rfl (.tmp 3) (.const (.int .i64 1)) (.tmp 7) rfl keyedI Try.underlying58 W.heap.size 1 _ rfl hM1 (by decide) 1 (.func (.func 25) #[.pointer (some ⟨tb, 0, none⟩)] #[]) rfl rfl (keyI (by unfold In6; omega)) ?_; intro w2 hM2 hG2; have hB2 := hB1.grown hG2 hB1.size (by intro q hq; cases hq; exact Nat.le_refl _); clear hM1 hG2 hB1)
    | (refine wpList_insertK rfl (.tmp 3) (.const (.int .i64 2)) (.tmp 9) rfl keyedI Try.underlying58 W.heap.size 2 _ rfl hM2 (by decide) 2 (.func (.func 26) #[.pointer (some ⟨tb, 0, none⟩)] #[]) rfl rfl (keyI (by unfold In6; omega)) ?_; intro w3 hM3 hG3; have hB3 := hB2.grown hG3 hB2.size (by intro q hq; cases hq; exact Nat.le_refl _); clear hM2 hG3 hB2)
    | (refine wpList_insertK rfl (.tmp 3) (.const (.int .i64 3)) (.tmp 11) rfl keyedI Try.underlying58 W.heap.size 3 _ rfl hM3 (by decide) 3 (.func (.func 27) #[.pointer (some ⟨tb, 0, none⟩)] #[]) rfl rfl (keyI (by unfold In6; omega)) ?_; intro w4 hM4 hG4; have hB4 := hB3.grown hG4 hB3.size (by intro q hq; cases hq; exact Nat.le_refl _); clear hM3 hG4 hB3)
    | (refine wpList_insertK rfl (.tmp 3) (.const (.int .i64 4)) (.tmp 13) rfl keyedI Try.underlying58 W.heap.size 4 _ rfl hM4 (by decide) 4 (.func (.func 28) #[.pointer (some ⟨tb, 0, none⟩)] #[]) rfl rfl (keyI (by unfold In6; omega)) ?_; intro w5 hM5 hG5; have hB5 := hB4.grown hG5 hB4.size (by intro q hq; cases hq; exact Nat.le_refl _); clear hM4 hG5 hB4)
    | (refine wpList_insertK rfl (.tmp 3) (.const (.int .i64 5)) (.tmp 15) rfl keyedI Try.underlying58 W.heap.size 5 _ rfl hM5 (by decide) 5 (.func (.func 29) #[.pointer (some ⟨tb, 0, none⟩)] #[]) rfl rfl (keyI (by unfold In6; omega)) ?_; intro w6 hM6 hG6; have hB6 := hB5.grown hG6 hB5.size (by intro q hq; cases hq; exact Nat.le_refl _); clear hM5 hG6 hB5)
    | (refine wpList_insertK rfl (.tmp 3) (.const (.int .i64 6)) (.tmp 17) rfl keyedI Try.underlying58 W.heap.size 6 _ rfl hM6 (by decide) 6 (.func (.func 30) #[.pointer (some ⟨tb, 0, none⟩)] #[]) rfl rfl (keyI (by unfold In6; omega)) ?_; intro w7 hM7 hG7; have hB7 := hB6.grown hG7 hB6.size (by intro q hq; cases hq; exact Nat.le_refl _); clear hM6 hG7 hB6)
    | (refine wpList_insertK rfl (.tmp 3) (.const (.int .i64 7)) (.tmp 19) rfl keyedI Try.underlying58 W.heap.size 7 _ rfl hM7 (by decide) 7 (.func (.func 31) #[.pointer (some ⟨tb, 0, none⟩)] #[]) rfl rfl (keyI (by unfold In6; omega)) ?_; intro w8 hM8 hG8; have hB8 := hB7.grown hG8 hB7.size (by intro q hq; cases hq; exact Nat.le_refl _); clear hM7 hG8 hB7)
    | (refine wpList_insertK rfl (.tmp 3) (.const (.int .i64 8)) (.tmp 21) rfl keyedI Try.underlying58 W.heap.size 8 _ rfl hM8 (by decide) 8 (.func (.func 23) #[.pointer (some ⟨tb, 0, none⟩)] #[]) rfl rfl (keyI (by unfold In6; omega)) ?_; intro w9 hM9 hG9; have hB9 := hB8.grown hG9 hB8.size (by intro q hq; cases hq; exact Nat.le_refl _); clear hM8 hG9 hB8)
    | (refine wpList_insertK rfl (.tmp 3) (.const (.int .i64 9)) (.tmp 23) rfl keyedI Try.underlying58 W.heap.size 9 _ rfl hM9 (by decide) 9 (.func (.func 32) #[.pointer (some ⟨tb, 0, none⟩)] #[]) rfl rfl (keyI (by unfold In6; omega)) ?_; intro w10 hM10 hG10; have hB10 := hB9.grown hG10 hB9.size (by intro q hq; cases hq; exact Nat.le_refl _); clear hM9 hG10 hB9)
    | (refine wpList_insertK rfl (.tmp 3) (.const (.int .i64 10)) (.tmp 25) rfl keyedI Try.underlying58 W.heap.size 10 _ rfl hM10 (by decide) 10 (.func (.func 33) #[.pointer (some ⟨tb, 0, none⟩)] #[]) rfl rfl (keyI (by unfold In6; omega)) ?_; intro w11 hM11 hG11; have hB11 := hB10.grown hG11 hB10.size (by intro q hq; cases hq; exact Nat.le_refl _); clear hM10 hG11 hB10)
    | (refine wpList_insertK rfl (.tmp 3) (.const (.int .i64 11)) (.tmp 27) rfl keyedI Try.underlying58 W.heap.size 11 _ rfl hM11 (by decide) 11 (.func (.func 34) #[.pointer (some ⟨tb, 0, none⟩)] #[]) rfl rfl (keyI (by unfold In6; omega)) ?_; intro w12 hM12 hG12; have hB12 := hB11.grown hG12 hB11.size (by intro q hq; cases hq; exact Nat.le_refl _); clear hM11 hG12 hB11)
    | (refine wpList_insertK rfl (.tmp 3) (.const (.int .i64 12)) (.tmp 29) rfl keyedI Try.underlying58 W.heap.size 12 _ rfl hM12 (by decide) 12 (.func (.func 35) #[.pointer (some ⟨tb, 0, none⟩)] #[]) rfl rfl (keyI (by unfold In6; omega)) ?_; intro w13 hM13 hG13; have hB13 := hB12.grown hG13 hB12.size (by intro q hq; cases hq; exact Nat.le_refl _); clear hM12 hG13 hB12)
    | (refine wpList_insertK rfl (.tmp 3) (.const (.int .i64 13)) (.tmp 31) rfl keyedI Try.underlying58 W.heap.size 13 _ rfl hM13 (by decide) 13 (.func (.func 36) #[.pointer (some ⟨tb, 0, none⟩)] #[]) rfl rfl (keyI (by unfold In6; omega)) ?_; intro w14 hM14 hG14; have hB14 := hB13.grown hG14 hB13.size (by intro q hq; cases hq; exact Nat.le_refl _); clear hM13 hG14 hB13))
  go_ret
  refine ⟨_, rfl, ⟨_, _, hM14, fun q => ?_⟩, Nat.le_refl _, hM14.lt, hB14⟩
  by_cases h : 0 ≤ q ∧ q ≤ 13
  · have hq : q = 0 ∨ q = 1 ∨ q = 2 ∨ q = 3 ∨ q = 4 ∨ q = 5 ∨ q = 6 ∨ q = 7 ∨ q = 8 ∨ q = 9 ∨ q = 10 ∨ q = 11 ∨ q = 12 ∨ q = 13 := by omega
    rcases hq with rfl | rfl | rfl | rfl | rfl | rfl | rfl | rfl | rfl | rfl | rfl | rfl | rfl | rfl <;> simp [KF.upd, kindF]
  · have e : kindF q = none := by
      unfold kindF
      repeat rw [if_neg (by omega)]
    rw [e]
    unfold KF.upd
    repeat rw [if_neg (by omega)]
    rfl

structure TL where
  tb : Nat
  rm : Nat
  dm : Nat
  cp : Option Addr
  cc : Nat
  code : List Ic
/-- A thread of a run, as it stands by itself. -/
structure TP (W : World) (rb k : Nat) (t : TL) (pc : Int) (over : Bool) (regs : Int → Int) (N : Nat) : Prop where
  thr : Tb W t.tb (.pointer (some ⟨rb, 0, none⟩)) (.int .i64 (k : Int)) (.slice t.cp t.code.length t.cc) (.map (some t.dm)) (.map (some t.rm)) (.int .i64 pc) (.bool over)
  doe : DM W t.dm t.tb
  reg : RM W t.rm N regs
  cod : CodeAt W t.cp t.code
  sm : t.code.length < 1000000
/-- It lies from B on, and below C, each thing by itself. -/
structure TI (t : TL) (B C : Nat) : Prop where
  tb : B ≤ t.tb ∧ t.tb < C
  rm : B ≤ t.rm ∧ t.rm < C
  dm : B ≤ t.dm ∧ t.dm < C
  cp : ∀ a, t.cp = some a → B ≤ a.block ∧ a.block < C
  tr : t.tb ≠ t.rm
  td : t.tb ≠ t.dm
  rd : t.rm ≠ t.dm
  ct : ∀ a, t.cp = some a → a.block ≠ t.tb ∧ a.block ≠ t.rm
theorem TP.same {W X : World} {rb k : Nat} {t : TL} {pc : Int} {over : Bool} {regs : Int → Int} {N B C : Nat} (h : TP W rb k t pc over regs N) (hi : TI t B C) (hs : W.heap.size ≤ X.heap.size) (hb : ∀ q, q < W.heap.size → B ≤ q → q < C → X.heap[q]? = W.heap[q]?) : TP X rb k t pc over regs N :=
  ⟨(hb _ h.thr.facts.1 hi.tb.1 hi.tb.2).trans h.thr, h.doe.same (hb _ h.doe.lt hi.dm.1 hi.dm.2), h.reg.same (hb _ h.reg.lt hi.rm.1 hi.rm.2), h.cod.same hs fun a e hl => hb _ hl (hi.cp a e).1 (hi.cp a e).2, h.sm⟩
/-- A thread was made. -/
def NtP (W : World) (rb k : Nat) (c : List Ic) (e : Ending) (w' : World) : Prop := ∃ t : TL, e = .returned (.pointer (some ⟨t.tb, 0, none⟩)) ∧ t.code = c ∧ TP w' rb k t 0 false (fun _ => 0) 0 ∧ TI t W.heap.size w'.heap.size ∧ Below W.heap.size W w'
set_option maxRecDepth 100000 in
set_option maxHeartbeats 4000000 in
theorem newThread_any {W : World} {rb k : Nat} {p : Option Addr} {n cap : Nat} {c : List Ic} (hl : c.length = n) (hn : n < 1000000) (hc : Hid (CodeAt W p c)) : Calls Try.prog 16 #[.pointer (some ⟨rb, 0, none⟩), .int .i64 (k : Int), .slice p n cap] W (NtP W rb k c) := by
  have HL := Lib.hid hl
  have HCl : Hid (Calls Try.prog 20 #[.slice p n cap] W (CpC W n c)) := Lib.hid (clone_code hl (by omega) hc)
  clear hl
  have hmm := @run_makeMap Try.prog
  go_enter Try.func16, Try.ntmps16
  go_upto_region 2 with (go_at_call 20; ((with_reducible refine (HCl.out.mono ?_)); rintro e1 w1 hp1; obtain ⟨cp, cc, rfl, h1, h2, h3, h4⟩ := hp1; have HP1 := Lib.hid (And.intro h1 (And.intro h2 (And.intro h3 h4))); have HS1 : Hid (W.heap.size ≤ w1.heap.size) := Lib.hid h4.size; clear h1 h2 h3 h4))
  refine name_world ?_
  intro W2 hW2
  have hB2 : Below w1.heap.size w1 W2 := by rw [hW2]; exact ((Below.refl _ _).alloc (Nat.le_refl _) _).alloc (by simp) _
  have HT2 : Hid (Tb W2 (w1.heap.size + 1) (.pointer (some ⟨rb, 0, none⟩)) (.int .i64 (k : Int)) (.slice cp n cc) (.map none) (.map (some w1.heap.size)) (.int .i64 0) (.bool false)) := Lib.hid (by rw [hW2]; exact heap_alloc2_new w1 _ _)
  have HM2 : Hid (KM 3 W2 w1.heap.size 0 (fun _ => none)) := Lib.hid (by rw [hW2]; exact (KM.made 3 w1).same (Below.heap_alloc _ _ _ (by simp)))
  have HZ2 : Hid (W2.heap.size = w1.heap.size + 2) := Lib.hid (by rw [hW2]; simp)
  have HB2 := Lib.hid hB2
  clear hW2 hB2
  obtain ⟨m, hm⟩ : ∃ m, w1.heap.size = m := ⟨_, rfl⟩
  rw [hm] at HT2 HM2 HZ2 ⊢
  have HM := Lib.hid hm
  clear hm
  go_wp2_with (go_at_call 21; ((with_reducible refine ((kinds_any (m + 1) _).mono ?_)); rintro e3 w3 hp3; obtain ⟨dm, rfl, hd3, hl3, hu3, hb3⟩ := hp3; have HD3 := Lib.hid (And.intro hd3 (And.intro hl3 (And.intro hu3 hb3))); have HT3 : Hid (Tb w3 (m + 1) (.pointer (some ⟨rb, 0, none⟩)) (.int .i64 (k : Int)) (.slice cp n cc) (.map none) (.map (some m)) (.int .i64 0) (.bool false)) := Lib.hid ((hb3.block _ (by rw [HZ2.out]; omega)).trans HT2.out); obtain ⟨tl, t0, t1, t2, t3, t4, t5, t6, f3, f5, f6⟩ := HT3.out.facts; clear hd3 hl3 hu3 hb3))
  go_ret
  obtain ⟨h1, h2, h3, h4⟩ := HP1.out
  obtain ⟨hd3, hl3, hu3, hb3⟩ := HD3.out
  have hz := HZ2.out
  have hs1 := HS1.out
  have hm := HM.out
  have hlen : c.length = n := HL.out
  rw [hz] at hl3
  have hsz : (w3.setCell ⟨m + 1, 3, none⟩ (.map (some dm))).heap.size = w3.heap.size := by simp [World.setCell]
  have hz3 := hb3.size
  have hset : ∀ q, q ≠ m + 1 → (w3.setCell ⟨m + 1, 3, none⟩ (.map (some dm))).heap[q]? = w3.heap[q]? := fun q hq => heap_setCell_other w3 ⟨m + 1, 3, none⟩ q _ hq
  have hbl : ∀ q, q < W2.heap.size → q ≠ m + 1 → (w3.setCell ⟨m + 1, 3, none⟩ (.map (some dm))).heap[q]? = W2.heap[q]? := fun q hq hn => (hset q hn).trans (hb3.block q hq)
  have hB : Below w1.heap.size w1 (w3.setCell ⟨m + 1, 3, none⟩ (.map (some dm))) := by
    have h5 : Below w1.heap.size W2 w3 := hb3.mono (by omega)
    exact (HB2.out.trans h5).setCell (p := ⟨m + 1, 3, none⟩) (by simp; omega) _
  have hct := h2.stay hB
  refine ⟨⟨m + 1, m, dm, cp, cc, c⟩, rfl, rfl, ⟨?_, ?_, ?_, hct, by show c.length < 1000000; omega⟩, ⟨⟨by simp; omega, by simp only [hsz]; omega⟩, ⟨by simp; omega, by simp only [hsz]; omega⟩, ⟨by simp; omega, by simp only [hsz]; omega⟩, fun a e => ?_, by simp, by simp; omega, by simp; omega, fun a e => ?_⟩, ?_⟩
  · show Tb _ (m + 1) _ _ (.slice cp c.length cc) _ _ _ _
    rw [hlen]
    exact HT3.out.set3 _
  · exact hd3.same (hset dm (by omega))
  · exact ⟨_, HM2.out.same (hbl m (by omega) (by omega)), fun q => .inl ⟨rfl, rfl⟩⟩
  · have := h3 a e
    rw [hsz]
    omega
  · have := h3 a e
    constructor <;> (simp; omega)
  · exact h4.trans (hB.mono h4.size)
end Go.Proofs.Ytnmalhjhfddjpaa
