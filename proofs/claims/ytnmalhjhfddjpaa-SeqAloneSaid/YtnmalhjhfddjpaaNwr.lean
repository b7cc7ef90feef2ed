/- seq.New. -/
import Derived.Test.YtnmalhjhfddjpaaNwa
import Derived.Deep.RegionHeld3
import Derived.Deep.RegionLaw
namespace Go.Proofs.Ytnmalhjhfddjpaa
set_option linter.unusedSimpArgs false
set_option linter.unusedVariables false
open Go Go.RowKit Go.ChangeMaps Go.MapKept Go.WideElems Go.Maps

/-- What a new run is. -/
def NwP (W : World) (cs : List (List Ic)) (mem : List Int) (e : Ending) (w' : World) : Prop := ∃ L A, e = .returned (.pointer (some ⟨L.rb, 0, none⟩)) ∧ RA w' L (G0 cs.length mem) 0 W.heap.size A w'.heap.size ∧ L.ts.map TL.code = cs ∧ Below W.heap.size W w'
/-- So far it was made. -/
def NwR (W : World) (cs : List (List Ic)) (mem : List Int) (rb A k : Nat) (wr : World) : Prop := ∃ L : Lay, L.rb = rb ∧ L.ts.length = k ∧ RA wr L (G0 L.ts.length mem) 0 W.heap.size A wr.heap.size ∧ L.ts.map TL.code = cs.take k ∧ Below W.heap.size W wr
theorem NwR.next {W wo w4 w9 : World} {cs : List (List Ic)} {mem : List Int} {B k ct gg cap6 : Nat} {L : Lay} {pt : Option Addr} {t : TL} {c : List Ic} (h : RA wo L (G0 L.ts.length mem) 0 W.heap.size (B + 2) wo.heap.size) (hv : L.tv = .slice pt k ct ∧ L.rb = B + 1 ∧ L.ts.length = k) (hcd : L.ts.map TL.code = cs.take k ∧ cs[k]? = some c) (hbw : Below W.heap.size W wo)
    (h4 : t.code = c ∧ TP w4 (B + 1) k t 0 false (fun _ => 0) 0 ∧ TI t wo.heap.size w4.heap.size ∧ Below wo.heap.size wo w4) {o : Obj}
    (h9 : w9.ownsRow (B + 2) 55 1 (.slice (some ⟨gg, 0, none⟩) (k + 1) cap6) (k + 1) (ptrs L.ts ++ [.pointer (some ⟨t.tb, 0, none⟩)]) ∧ (w4.alloc o).grownBy w9 (Value.slice pt k ct).ownBlock ∧ ((Value.slice pt k ct).ownBlock = some gg ∨ gg = (w4.alloc o).heap.size) ∧ gg < w9.heap.size) :
    NwR W cs mem (B + 1) (B + 2) (k + 1) (w9.setCell ⟨B + 1, 0, none⟩ (.slice (some ⟨gg, 0, none⟩) (k + 1) cap6)) := by
  obtain ⟨hv1, hv2, hv3⟩ := hv
  obtain ⟨a1, a2, a3, a4⟩ := h4
  obtain ⟨b1, b2, b3, b4⟩ := h9
  have hz := b2.size
  have hz4 : (w4.alloc o).heap.size = w4.heap.size + 1 := by simp
  have hzs : (w9.setCell ⟨B + 1, 0, none⟩ (.slice (some ⟨gg, 0, none⟩) (k + 1) cap6)).heap.size = w9.heap.size := by simp [World.setCell]
  have hset : ∀ q, q ≠ B + 1 → (w9.setCell ⟨B + 1, 0, none⟩ (.slice (some ⟨gg, 0, none⟩) (k + 1) cap6)).heap[q]? = w9.heap[q]? := fun q hq => heap_setCell_other w9 ⟨B + 1, 0, none⟩ q _ hq
  have h1 := h.is.rb
  have hhi := h.hi
  have hle := h.is.ah
  have hgB : B + 2 ≤ gg := by
    rcases b1.2 with ⟨e, _⟩ | ⟨q, _, _, e, hq, _⟩
    · cases e
    · have : gg = q := by
        simp at e
        exact e.1
      omega
  have ow : ∀ b, (Value.slice pt k ct).ownBlock = some b → B + 2 ≤ b := fun b e => by
    rcases h.row.2 with ⟨e0, _⟩ | ⟨q, _, _, e0, hq, _⟩
    · rw [hv1] at e0
      rw [e0] at e
      cases e
    · rw [hv1] at e0
      rw [e0] at e
      have : q = b := by simpa [Value.ownBlock] using e
      omega
  have hrb9 : Rb w9 (B + 1) L.tv (.slice L.mp L.mn L.mc) (.map (some L.om)) := by
    have r0 := h.run
    rw [hv2] at r0
    have l0 := r0.facts.1
    have r1 : w4.heap[B + 1]? = _ := (a4.block _ l0).trans r0
    have l1 := Nat.lt_of_lt_of_le l0 a4.size
    exact (b2.block (B + 1) (by omega) fun e => by have := ow _ e.symm; omega).trans ((Below.heap_alloc w4 o _ l1).trans r1)
  have hadd := RA.add (Y := w9.setCell ⟨B + 1, 0, none⟩ (.slice (some ⟨gg, 0, none⟩) (k + 1) cap6)) h a4 (t := t) (by rw [hv2, hv3]; exact a2) a3 (by omega)
    (fun q hq hn1 hn2 => by
      rw [hv2] at hn1
      rw [hset q hn1, b2.block q (by omega) (fun e => hn2 (by rw [hv1]; exact e.symm))]
      exact Below.heap_alloc w4 o q hq)
    (v' := .slice (some ⟨gg, 0, none⟩) (k + 1) cap6) (by rw [hv2]; exact heap_setCell_same w9 (B + 1) 0 _ _ _ hrb9) (g := gg) (cap := cap6) (by rw [hv3])
    (by
      rw [hv3]
      unfold ptrs
      rw [List.map_append]
      exact own_at b1 fun b e hB => hset b (by omega))
    (by
      rw [hv1]
      rcases b3 with e | e
      · exact .inl e
      · exact .inr (by omega))
    (by omega)
  have hB : Below W.heap.size W (w9.setCell ⟨B + 1, 0, none⟩ (.slice (some ⟨gg, 0, none⟩) (k + 1) cap6)) := by
    refine ⟨b2.os.trans (a4.os.trans hbw.os), b2.tape.trans (a4.tape.trans hbw.tape), b2.output.trans (a4.output.trans hbw.output), by have := hbw.size; have := a4.size; omega, fun q hq => ?_⟩
    have := hbw.size
    have := a4.size
    rw [hset q (by omega), b2.block q (by omega) (fun e => by have := ow _ e.symm; omega), Below.heap_alloc w4 o q (by omega), a4.block q (by omega)]
    exact hbw.block q hq
  refine ⟨{ L with tv := .slice (some ⟨gg, 0, none⟩) (k + 1) cap6, ts := L.ts ++ [t] }, hv2, by simp [hv3], ?_, ?_, hB⟩
  · have e : (L.ts ++ [t]).length = L.ts.length + 1 := by simp
    show RA _ { L with tv := _, ts := L.ts ++ [t] } (G0 (L.ts ++ [t]).length mem) 0 _ _ _
    rw [e]
    exact hadd
  · simp only [List.map_append, List.map_cons, List.map_nil, hcd.1, a1]
    rw [List.take_add_one, hcd.2]
    rfl
theorem info_pt : (Try.prog.info? 55).map (fun i => (i.zero, i.size, i.bytes)) = some (some (.pointer none), 1, 8) := by kernel_rfl
theorem one_ptr {a : Option Addr} : ∀ u ∈ ([.pointer a] : List Value), u.oneCell' = true := by
  intro u hu
  simp at hu
  subst hu
  rfl
set_option maxRecDepth 100000 in
set_option maxHeartbeats 8000000 in
theorem new_any {W : World} {p : Option Addr} {n cap : Nat} {cs : List (List Ic)} (hl : cs.length = n) (hn : n ≤ 1000) (hc : Hid (CodesAt W p cs)) (hcl : Hid (∀ c ∈ cs, c.length < 1000000)) {q : Option Addr} {m mcap : Nat} {mem : List Int} (hm : mem.length = m) (hm2 : m < 1000000) (hmm : Hid (IntsAt W q mem)) :
    Calls Try.prog 8 #[.slice p n cap, .slice q m mcap] W (NwP W cs mem) := by
  obtain ⟨i0, hinf, hz0, hz1, hz2⟩ := info_parts info_pt
  have HL := Lib.hid hl
  have HM := Lib.hid hm
  have HCl : Hid (Calls Try.prog 15 #[.slice q m mcap] W (CpI W m mem)) := Lib.hid (clone_i64 hm (by omega) (Lib.hid fun i u hu => by
    obtain ⟨b, o, h1, _, h3⟩ := hmm.out i u hu
    exact ⟨b, o, h1, h3⟩))
  clear hl hm
  have hmk := @run_makeMap Try.prog
  go_enter Try.func8, Try.ntmps8
  go_upto_region 2 with (go_at_call 15; ((with_reducible refine HCl.out.mono ?_); rintro e1 w1 hp1; obtain ⟨mp, mc, rfl, h1, h2, h3, h4⟩ := hp1; have HP1 := Lib.hid (And.intro h1 (And.intro h2 (And.intro h3 h4))); clear h1 h2 h3 h4))
  clear hmk
  obtain ⟨B, hB⟩ : ∃ B, w1.heap.size = B := ⟨_, rfl⟩
  refine name_world ?_
  intro W2 hW2
  have HN2 : Hid (NwR W cs mem (B + 1) (B + 2) 0 W2) := by
    obtain ⟨h1, h2, h3, h4⟩ := HP1.out
    have hb : Below w1.heap.size w1 W2 := by rw [hW2]; exact ((Below.refl _ _).alloc (Nat.le_refl _) _).alloc (by simp) _
    have hs : W2.heap.size = B + 2 := by rw [hW2, ← hB]; simp
    have hle := h4.size
    refine Lib.hid ⟨⟨B + 1, B, .slice none 0 0, mp, m, mc, []⟩, rfl, rfl, ⟨?_, ?_, h2.same hb.size fun a _ hl => hb.block _ hl, HM.out, hm2, rfl, fun k t x ht => (by simp at ht), ⟨rfl, .inl ⟨rfl, rfl⟩⟩, fun b e => (by cases e), ⟨⟨by simp; omega, by simp⟩, ⟨by simp; omega, by simp⟩, fun a e => (by have := h3 a e; omega), by simp, fun a e => (by have := h3 a e; simp; omega), by omega, fun k t ht => (by simp at ht), fun j k t u ht => (by simp at ht)⟩, Nat.le_refl _⟩, rfl, h4.trans (hb.mono h4.size)⟩
    · show Rb W2 (B + 1) (.slice none 0 0) (.slice mp m mc) (.map (some B))
      rw [hW2, ← hB]
      exact heap_alloc2_new w1 _ _
    · show OM W2 B 0 _
      rw [hW2, ← hB]
      exact ⟨_, (KM.made 2 w1).same (Below.heap_alloc _ _ _ (by simp)), fun q => .inl ⟨rfl, rfl⟩⟩
  rw [hB]
  clear hW2 hB HP1
  go_wp2_with (fail)
  go_loopw [15] (fun i wr => ∃ k : Nat, i = .int .i64 (k : Int) ∧ k ≤ n ∧ Hid (NwR W cs mem (B + 1) (B + 2) k wr)) (fun i _ => n - (intOf i).toNat)
  case atStart => exact ⟨0, rfl, Nat.zero_le _, HN2⟩
  case round =>
    obtain ⟨wo, rfl⟩ : ∃ wo : World, wo = wr := ⟨_, rfl⟩
    obtain ⟨k, rfl, hk, HR⟩ := hrel
    clear HN2
    by_cases hlt : k < n
    · obtain ⟨L, hrb, hlk, hRA, hcd, hBw⟩ := HR.out
      obtain ⟨c, hck⟩ : ∃ c, cs[k]? = some c := ⟨_, List.getElem?_eq_getElem (by rw [HL.out]; exact hlt)⟩
      obtain ⟨g, o, rfl, hg, cp, cap2, hcell, hcode⟩ := hc.out k c hck
      have hcell2 : wo.cell? ⟨g, o + k, none⟩ = some (.slice cp c.length cap2) := (hBw.cell (p := ⟨g, o + k, none⟩) hg).trans hcell
      have hgw : g < wo.heap.size := Nat.lt_of_lt_of_le hg hBw.size
      have hcl2 : c.length < 1000000 := hcl.out c (List.mem_of_getElem? hck)
      obtain ⟨cl, hcl3⟩ : ∃ cl, c.length = cl := ⟨_, rfl⟩
      obtain ⟨pt, ct, hv⟩ := own_form hRA.row
      obtain ⟨rl, r0, r1, r2, f0⟩ := hRA.run.facts
      rw [hv, hlk, hrb] at r0
      rw [hrb] at f0 rl
      have HNT : Hid (∀ X, Below wo.heap.size wo X → Calls Try.prog 16 #[.pointer (some ⟨B + 1, 0, none⟩), .int .i64 (k : Int), .slice cp cl cap2] X (NtP X (B + 1) k c)) := Lib.hid fun X hX => newThread_any hcl3 (by omega) (Lib.hid ((hcode.stay hBw).stay hX))
      have HOW : Hid (wo.ownsRow (B + 2) 55 1 (.slice pt k ct) k (ptrs L.ts)) := Lib.hid (by have := hRA.row; rw [hv, hlk] at this; exact this)
      have HNE : Hid ((Value.slice pt k ct).ownBlock ≠ some (B + 1)) := Lib.hid (by
        intro e
        rcases HOW.out.2 with ⟨e0, _⟩ | ⟨q2, _, _, e0, hq, _⟩
        · rw [e0] at e
          cases e
        · rw [e0] at e
          have : q2 = B + 1 := by simpa [Value.ownBlock] using e
          omega)
      rw [hcl3] at hcell2
      have HLR : Hid (∀ b, (Value.slice pt k ct).ownBlock = some b → b < wo.heap.size) := Lib.hid fun b e => (hRA.rh b (by rw [hv, hlk]; exact e)).1
      have HRA := Lib.hid hRA
      have HV : Hid (L.tv = .slice pt k ct ∧ L.rb = B + 1 ∧ L.ts.length = k) := Lib.hid ⟨by rw [hv, hlk], hrb, hlk⟩
      have HCD : Hid (L.ts.map TL.code = cs.take k ∧ cs[k]? = some c) := Lib.hid ⟨hcd, hck⟩
      have HBW := Lib.hid hBw
      have HBS : Hid (B + 2 ≤ wo.heap.size) := Lib.hid (Nat.le_trans hRA.is.ah hRA.hi)
      have hk2 : (k : Int) < (n : Int) := by omega
      have hk3 : (0 : Int) ≤ k := by omega
      clear HR hrb hlk hRA hcd hBw hck hcell hcode hv hcl2 hcl3 r1 r2
      go_upto_region 5 with (fail)
      go_region_law (first
          | (go_simp; go_at_call 16; ((with_reducible refine (HNT.out _ ((Below.refl _ _).drew)).mono ?_); rintro e4 w4 hp4; obtain ⟨t, rfl, htc, htp, hti, hb4⟩ := hp4; have hb4' : Below wo.heap.size wo w4 := ⟨hb4.os, hb4.tape, hb4.output, hb4.size, hb4.block⟩; have HT4 : Hid (t.code = c ∧ TP w4 (B + 1) k t 0 false (fun _ => 0) 0 ∧ TI t wo.heap.size w4.heap.size ∧ Below wo.heap.size wo w4) := Lib.hid ⟨htc, htp, hti, hb4'⟩; have HO4 := Lib.hid (own_at HOW.out (X := w4) (fun b e hq => hb4'.block b (HLR.out b e))); have r04 := (hb4'.cell (p := ⟨B + 1, 0, none⟩) rl).trans r0; have f04 := (hb4'.frozen (p := ⟨B + 1, 0, none⟩) rl).trans f0; have rl4 : B + 1 < w4.heap.size := block_lt_of_cell r04; have hs4 : B + 2 ≤ w4.heap.size := Nat.le_trans HBS.out hb4'.size; clear htc htp hti hb4 hb4'))
          | (refine step_append_lies _ (by rfl) _ _ _ (by rfl) (B + 2) 55 i0 _ 1 8 Try.underlying52 hinf hz0 hz1 hz2 rfl (by decide) (.slice pt k ct) k (ptrs L.ts) (by rfl) (HO4.out.alloc _) ⟨_, 0, none⟩ 1 1 [.pointer (some ⟨t.tb, 0, none⟩)] (by rfl) (by rfl) (World.news_of_block (heap_alloc_new _ _)) one_ptr (by decide) (by unfold maxLen; omega) (by omega) (by simp; omega) _ rfl ?_; intro gg cap6 w9 hown9 hgrow9 hor9 hlt9; have r09 : w9.cell? ⟨B + 1, 0, none⟩ = some (.slice pt k ct) := (World.cell?_of_block (a := ⟨B + 1, 0, none⟩) (hgrow9.block (B + 1) (by simp; omega) (fun e => HNE.out e.symm))).trans ((World.cell?_of_block (a := ⟨B + 1, 0, none⟩) (Below.heap_alloc _ _ (B + 1) (by omega))).trans r04); have f09 : w9.frozen? ⟨B + 1, 0, none⟩ = false := (World.frozen?_of_block (a := ⟨B + 1, 0, none⟩) (hgrow9.block (B + 1) (by simp; omega) (fun e => HNE.out e.symm))).trans ((World.frozen?_of_block (a := ⟨B + 1, 0, none⟩) (Below.heap_alloc _ _ (B + 1) (by omega))).trans f04); have rl9 : B + 1 < w9.heap.size := block_lt_of_cell r09; have H9 := Lib.hid (And.intro hown9 (And.intro hgrow9 (And.intro hor9 hlt9))); clear hown9 hgrow9 hor9 hlt9))
      all_goals
        have HN := Lib.hid (NwR.next HRA.out HV.out HCD.out HBW.out HT4.out H9.out)
        clear H9 HT4 HO4 r04 f04 rl4 hs4 r09 f09 rl9
        go_wp2
        go_roundw
        case rel => exact ⟨k + 1, by go_num, by omega, HN⟩
        case measure => simp [intOf]; omega
    · obtain rfl : k = n := by omega
      obtain ⟨L, hrb, hlk, hRA, hcd, hBw⟩ := HR.out
      have HF : Hid (NwP W cs mem (.returned (.pointer (some ⟨B + 1, 0, none⟩))) wo) := Lib.hid ⟨L, B + 2, by rw [hrb], by (have e := HL.out; rw [hlk] at hRA; rw [e]; exact hRA), by rw [hcd, List.take_of_length_le (by rw [HL.out]; exact Nat.le_refl _)], hBw⟩
      clear hrb hlk hRA hcd hBw HR
      go_wp2_with (fail)
      go_ret
      exact HF.out
end Go.Proofs.Ytnmalhjhfddjpaa
