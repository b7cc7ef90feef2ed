/- What graph's ways.nearest keeps in memory. -/
import Derived.Test.YtacgfjcdfgdpjaaDoorGfr
import Derived.Test.YtacgfjcdfgdpjaaDoorGg
namespace Go.Proofs.YtacgfjcdfgdpjaaDoor
set_option linter.unusedSimpArgs false
set_option linter.unusedVariables false
open Go Go.RowKit Gm

/-- Whose each block is. -/
structure Tk (own : Nat → Nat) (h : Nat) (k : Kn) (bl bw ba bf b9 b3 : Nat) : Prop where
  ks : own k.s = 1
  ku : own k.u = 1
  kb : own k.b = 1
  kk : own k.kb = 6
  l : own bl = 2
  w : own bw = 4
  a : own ba = 3
  f : own bf = 3
  n : own b9 = 5
  t : own b3 = 5
  h1 : h ≤ k.s
  h2 : h ≤ k.u
  h3 : h ≤ k.b
  h4 : h ≤ bl
  h5 : h ≤ bw
/-- Rows that wait. -/
structure Wt (own : Nat → Nat) (h : Nat) (X : World) (bw m : Nat) (F : Nat → Value) (wl : Nat → List Nat) : Prop where
  fv : FV 34 X bw m F
  w4 : own bw = 4
  rw : ∀ x, x < m → GV 3 h X (F x) (wl x).length (lv (wl x))
  tg : ∀ x, x < m → Tg own (F x) (10 + x)
section
variable {own own' : Nat → Nat} {h bw m ba bf b9 b3 : Nat} {X Y : World} {F : Nat → Value} {wl : Nat → List Nat} {S : Nat → Prop} {y : Wm}
theorem Sr.ch (hs : Sr X ba bf b9 b3 y) (hc : Ch S X Y) (h1 : ¬ S ba) (h2 : ¬ S bf) (h3 : ¬ S b9) (h4 : ¬ S b3) : Sr Y ba bf b9 b3 y := by
  obtain ⟨A, a1, a2⟩ := hs.al
  exact ⟨(hc.block _ hs.facts.1 h3).trans hs.x9, (hc.block _ hs.facts.2.2.1 h4).trans hs.x3, hs.fi.ch hc h2, A, a1.ch hc h1, a2⟩
theorem Wt.ch (hw : Wt own h X bw m F wl) (hc : Ch S X Y) (hn : ∀ b, b < X.heap.size → S b → own b ≠ 4 ∧ own b < 10) (he : ∀ b, b < X.heap.size → own' b = own b) : Wt own' h Y bw m F wl :=
  ⟨hw.fv.ch hc fun e => (hn _ hw.fv.lt e).1 hw.w4, by rw [he _ hw.fv.lt]; exact hw.w4, fun x hx => (hw.rw x hx).ch hc fun g e hS => by
    have h1 := hw.tg x hx g e
    have h2 := (hn g ((hw.rw x hx).lt g e).2 hS).2
    omega, fun x hx g e => by rw [he g ((hw.rw x hx).lt g e).2]; exact hw.tg x hx g e⟩
theorem Wt.like (hw : Wt own h X bw m F wl) (e : Y.heap = X.heap) : Wt own h Y bw m F wl := ⟨hw.fv.of_heap (by rw [e]), hw.w4, fun x hx => (hw.rw x hx).of_heap fun _ _ => by rw [e], hw.tg⟩
theorem Sr.like (hs : Sr X ba bf b9 b3 y) (e : Y.heap = X.heap) : Sr Y ba bf b9 b3 y := by
  obtain ⟨A, a1, a2⟩ := hs.al
  exact ⟨by rw [e]; exact hs.x9, by rw [e]; exact hs.x3, hs.fi.of_heap (by rw [e]), A, a1.of_heap (by rw [e]), a2⟩
/-- A row has one more. -/
theorem Wt.app {Z : World} {v' : Value} {x u : Nat} (hw : Wt own h X bw m F wl) (hx : x < m) (hz : Apd X Z (F x) v') (hg : GV 3 h Z v' ((wl x).length + 1) (upd (lv (wl x)) (wl x).length (.int .i64 (u : Int)))) :
    Wt (tag own X.heap.size (10 + x)) h (Z.setCell ⟨bw, x, none⟩ v') bw m (upd F x v') (upd wl x (wl x ++ [u])) := by
  have he : ∀ b, b < X.heap.size → tag own X.heap.size (10 + x) b = own b := fun b hb => tag_lt hb
  have hbw : ¬ (F x).ownBlock = some bw := fun e => by have := hw.tg x hx _ e; have := hw.w4; omega
  have tv : Tg (tag own X.heap.size (10 + x)) v' (10 + x) := (hw.tg x hx).new (fun g e => ((hw.rw x hx).lt g e).2) hz.2
  have w4' : tag own X.heap.size (10 + x) bw = 4 := by rw [he _ hw.fv.lt]; exact hw.w4
  refine ⟨(hw.fv.ch hz.1 hbw).set x v', w4', fun z hz' => ?_, fun z hz' => ?_⟩
  · by_cases e : z = x
    · subst e
      rw [upd_at, upd_at]
      have hlen : (wl z ++ [u]).length = (wl z).length + 1 := by simp
      rw [hlen]
      refine (hg.setO (fun e => ?_) _ _).to fun i hi => ?_
      · have := tv _ e; omega
      · by_cases e2 : i = (wl z).length
        · rw [e2, upd_at]
          simp [lv]
        · rw [upd_of e2]
          simp only [lv]
          rw [List.getD_eq_getElem?_getD, List.getD_eq_getElem?_getD, List.getElem?_append_left (by omega)]
    · rw [upd_of e, upd_of e]
      refine ((hw.rw z hz').ch hz.1 fun g e2 e3 => ?_).setO (fun e2 => ?_) _ _
      · have h1 := hw.tg z hz' g e2
        have h2 := hw.tg x hx g e3
        omega
      · have := hw.tg z hz' _ e2
        have := hw.w4
        omega
  · by_cases e : z = x
    · subst e; rw [upd_at]; exact tv
    · rw [upd_of e]
      exact (hw.tg z hz').old fun g e2 => ((hw.rw z hz').lt g e2).2
/-- A row is emptied. -/
theorem Wt.nil (hw : Wt own h X bw m F wl) (x : Nat) : Wt own h (X.setCell ⟨bw, x, none⟩ (.slice none 0 0)) bw m (upd F x (.slice none 0 0)) (upd wl x []) := by
  refine ⟨hw.fv.set x _, hw.w4, fun z hz => ?_, fun z hz => ?_⟩
  · by_cases e : z = x
    · subst e; rw [upd_at, upd_at]; exact GV.nil _ _ _ _
    · rw [upd_of e, upd_of e]
      exact (hw.rw z hz).setO (fun e2 => by have := hw.tg z hz _ e2; have := hw.w4; omega) _ _
  · by_cases e : z = x
    · subst e; rw [upd_at]; intro g e2; cases e2
    · rw [upd_of e]; exact hw.tg z hz
end
/-- All that it keeps. -/
structure Nq (W X : World) (own : Nat → Nat) (k : Kn) (bl bw ba bf b9 b3 : Nat) (y : Wm) (t : Nat) (s lf : Nat → Nat) (wl : Nat → List Nat) : Prop where
  bel : Below W.heap.size W X
  tk : Tk own W.heap.size k bl bw ba bf b9 b3
  cm : ∃ up bs, Cm X k y.m y.par s t up bs
  l : FV 3 X bl y.m (iv fun i => lf i)
  wt : ∃ F, Wt own W.heap.size X bw y.m F wl
  sr : Sr X ba bf b9 b3 y
section
variable {W X Y : World} {own own' : Nat → Nat} {k : Kn} {bl bw ba bf b9 b3 : Nat} {y : Wm} {t : Nat} {s lf : Nat → Nat} {wl : Nat → List Nat}
theorem Tk.out (h : Tk own W.heap.size k bl bw ba bf b9 b3) {S : Nat → Prop} {τ : Nat} (hS : ∀ b, S b → own b = τ) (h1 : τ ≠ 1) (h6 : τ ≠ 6) : ∀ b, k.Own b → ¬ S b := by
  rintro b (rfl | rfl | rfl | rfl) e
  · exact h6 ((hS _ e).symm.trans h.kk)
  · exact h1 ((hS _ e).symm.trans h.ks)
  · exact h1 ((hS _ e).symm.trans h.ku)
  · exact h1 ((hS _ e).symm.trans h.kb)
theorem Nq.like (h : Nq W X own k bl bw ba bf b9 b3 y t s lf wl) (e : Y.heap = X.heap) (e1 : Y.os = X.os) (e2 : Y.tape = X.tape) (e3 : Y.output = X.output) : Nq W Y own k bl bw ba bf b9 b3 y t s lf wl := by
  obtain ⟨up, bs, hc⟩ := h.cm
  obtain ⟨F, hw⟩ := h.wt
  exact ⟨below_like h.bel e e1 e2 e3, h.tk, ⟨up, bs, hc.kl.like e, hc.clb⟩, h.l.of_heap (by rw [e]), ⟨F, hw.like e⟩, h.sr.like e⟩
/-- Behind a look-up. -/
theorem Nq.found {bs : Nat → Nat} {up' : Nat → Option Nat} (h : Nq W X own k bl bw ba bf b9 b3 y t s lf wl) (hc : Ch (fun b => b = k.u ∨ b = k.b) X Y) (hm : Cm Y k y.m y.par s t up' bs) : Nq W Y own k bl bw ba bf b9 b3 y t s lf wl := by
  have hS : ∀ b, (b = k.u ∨ b = k.b) → own b = 1 := by
    rintro b (rfl | rfl)
    · exact h.tk.ku
    · exact h.tk.kb
  obtain ⟨F, hw⟩ := h.wt
  refine ⟨h.bel.trans (hc.below h.bel.size fun b hb e => ?_), h.tk, ⟨_, _, hm⟩, h.l.ch hc fun e => ?_, ⟨F, hw.ch hc (fun b _ e => ?_) fun _ _ => rfl⟩, h.sr.ch hc (fun e => ?_) (fun e => ?_) (fun e => ?_) (fun e => ?_)⟩
  · have h2 := h.tk.h2
    have h3 := h.tk.h3
    rcases e with rfl | rfl <;> omega
  · have := hS _ e; have := h.tk.l; omega
  · have := hS _ e; omega
  · have := hS _ e; have := h.tk.a; omega
  · have := hS _ e; have := h.tk.f; omega
  · have := hS _ e; have := h.tk.n; omega
  · have := hS _ e; have := h.tk.t; omega
/-- A cell of the climb's own is written. -/
theorem Nq.putK (h : Nq W X own k bl bw ba bf b9 b3 y t s lf wl) {b i : Nat} {v : Value} {t' : Nat} {s' : Nat → Nat} {up' : Nat → Option Nat} {bs' : Nat → Nat} (hb : b = k.s ∨ b = k.u) (hm : Cm (X.setCell ⟨b, i, none⟩ v) k y.m y.par s' t' up' bs') : Nq W (X.setCell ⟨b, i, none⟩ v) own k bl bw ba bf b9 b3 y t' s' lf wl := by
  have ob : own b = 1 := by
    rcases hb with rfl | rfl
    · exact h.tk.ks
    · exact h.tk.ku
  have hbB : W.heap.size ≤ b := by
    rcases hb with rfl | rfl
    · exact h.tk.h1
    · exact h.tk.h2
  have hc : Ch (fun c => c = b) X (X.setCell ⟨b, i, none⟩ v) := (Ch.refl (fun c => c = b) X).set (b := b) (.inl rfl) i v
  obtain ⟨F, hw⟩ := h.wt
  refine ⟨h.bel.setCell (p := ⟨b, i, none⟩) hbB _, h.tk, ⟨_, _, hm⟩, h.l.ch hc fun e => ?_, ⟨F, hw.ch hc (fun c _ e => ?_) fun _ _ => rfl⟩, h.sr.ch hc (fun e => ?_) (fun e => ?_) (fun e => ?_) (fun e => ?_)⟩
  · have := h.tk.l; rw [e, ob] at this; omega
  · rw [e, ob]; omega
  · have := h.tk.a; rw [e, ob] at this; omega
  · have := h.tk.f; rw [e, ob] at this; omega
  · have := h.tk.n; rw [e, ob] at this; omega
  · have := h.tk.t; rw [e, ob] at this; omega
/-- One is laid. -/
theorem Nq.putL (h : Nq W X own k bl bw ba bf b9 b3 y t s lf wl) (i x : Nat) : Nq W (X.setCell ⟨bl, i, none⟩ (.int .i64 (x : Int))) own k bl bw ba bf b9 b3 y t s (upd lf i x) wl := by
  have hc : Ch (fun c => c = bl) X (X.setCell ⟨bl, i, none⟩ (.int .i64 (x : Int))) := (Ch.refl (fun c => c = bl) X).set (b := bl) (.inl rfl) i _
  have hS : ∀ b, b = bl → own b = 2 := fun b e => by rw [e]; exact h.tk.l
  obtain ⟨F, hw⟩ := h.wt
  obtain ⟨up, bs, hm⟩ := h.cm
  refine ⟨h.bel.setCell (p := ⟨bl, i, none⟩) h.tk.h4 _, h.tk, ⟨up, bs, hm.kl.ch hc (h.tk.out hS (by decide) (by decide)), hm.clb⟩, ?_, ⟨F, hw.ch hc (fun c _ e => ?_) fun _ _ => rfl⟩, h.sr.ch hc (fun e => ?_) (fun e => ?_) (fun e => ?_) (fun e => ?_)⟩
  · have := h.l.set i (.int .i64 (x : Int))
    rw [iv_upd, nv_upd] at this
    exact this
  · rw [hS c e]; omega
  · have := hS _ e; have := h.tk.a; omega
  · have := hS _ e; have := h.tk.f; omega
  · have := hS _ e; have := h.tk.n; omega
  · have := hS _ e; have := h.tk.t; omega
/-- A row is emptied. -/
theorem Nq.nil (h : Nq W X own k bl bw ba bf b9 b3 y t s lf wl) (x : Nat) : Nq W (X.setCell ⟨bw, x, none⟩ (.slice none 0 0)) own k bl bw ba bf b9 b3 y t s lf (upd wl x []) := by
  have hc : Ch (fun c => c = bw) X (X.setCell ⟨bw, x, none⟩ (.slice none 0 0)) := (Ch.refl (fun c => c = bw) X).set (b := bw) (.inl rfl) x _
  have hS : ∀ b, b = bw → own b = 4 := fun b e => by rw [e]; exact h.tk.w
  obtain ⟨F, hw⟩ := h.wt
  obtain ⟨up, bs, hm⟩ := h.cm
  refine ⟨h.bel.setCell (p := ⟨bw, x, none⟩) h.tk.h5 _, h.tk, ⟨up, bs, hm.kl.ch hc (h.tk.out hS (by decide) (by decide)), hm.clb⟩, h.l.ch hc fun e => ?_, ⟨_, hw.nil x⟩, h.sr.ch hc (fun e => ?_) (fun e => ?_) (fun e => ?_) (fun e => ?_)⟩
  · have := hS _ e; have := h.tk.l; omega
  · have := hS _ e; have := h.tk.a; omega
  · have := hS _ e; have := h.tk.f; omega
  · have := hS _ e; have := h.tk.n; omega
  · have := hS _ e; have := h.tk.t; omega
/-- One more waits. -/
theorem Nq.app {Z : World} {F : Nat → Value} {v' : Value} {x u : Nat} (h : Nq W X own k bl bw ba bf b9 b3 y t s lf wl) (hw : Wt own W.heap.size X bw y.m F wl) (hx : x < y.m) (hz : Apd X Z (F x) v') (hg : GV 3 W.heap.size Z v' ((wl x).length + 1) (upd (lv (wl x)) (wl x).length (.int .i64 (u : Int)))) :
    Nq W (Z.setCell ⟨bw, x, none⟩ v') (tag own X.heap.size (10 + x)) k bl bw ba bf b9 b3 y t s lf (upd wl x (wl x ++ [u])) := by
  have hS1 : ∀ b, (F x).ownBlock = some b → own b = 10 + x := hw.tg x hx
  have hxz := hz.1.size
  have hc : Ch (fun c => (F x).ownBlock = some c ∨ c = bw) X (Z.setCell ⟨bw, x, none⟩ v') := (hz.1.mono fun b _ e => .inl e).set (b := bw) (.inl (.inr rfl)) x v'
  have hS : ∀ b, ((F x).ownBlock = some b ∨ b = bw) → own b = 10 + x ∨ own b = 4 := fun b e => e.imp (hS1 b) fun e => by rw [e]; exact h.tk.w
  obtain ⟨up, bs, hm⟩ := h.cm
  have lt := hm.kl.lt
  have tl : ∀ b, b < X.heap.size → tag own X.heap.size (10 + x) b = own b := fun b hb => tag_lt hb
  have no : ∀ b, (own b = 1 ∨ own b = 2 ∨ own b = 3 ∨ own b = 5 ∨ own b = 6) → ¬ ((F x).ownBlock = some b ∨ b = bw) := fun b h1 e => by have := hS b e; omega
  have tk := h.tk
  refine ⟨h.bel.trans (hc.below h.bel.size fun b hb e => ?_), ⟨by rw [tl _ (lt _ (.inr (.inl rfl)))]; exact tk.ks, by rw [tl _ (lt _ (.inr (.inr (.inl rfl))))]; exact tk.ku, by rw [tl _ (lt _ (.inr (.inr (.inr rfl))))]; exact tk.kb, by rw [tl _ (lt _ (.inl rfl))]; exact tk.kk, by rw [tl _ h.l.lt]; exact tk.l, by rw [tl _ hw.fv.lt]; exact tk.w, ?_, by rw [tl _ h.sr.fi.lt]; exact tk.f, by rw [tl _ h.sr.facts.1]; exact tk.n, by rw [tl _ h.sr.facts.2.2.1]; exact tk.t, tk.h1, tk.h2, tk.h3, tk.h4, tk.h5⟩, ⟨up, bs, hm.kl.ch hc ?_, hm.clb⟩, h.l.ch hc (no _ (.inr (.inl tk.l))), ⟨_, hw.app hx hz hg⟩, h.sr.ch hc (no _ (.inr (.inr (.inl tk.a)))) (no _ (.inr (.inr (.inl tk.f)))) (no _ (.inr (.inr (.inr (.inl tk.n))))) (no _ (.inr (.inr (.inr (.inl tk.t)))))⟩
  · rcases e with e | rfl
    · have := ((hw.rw x hx).lt b e).1; omega
    · have := tk.h5; omega
  · obtain ⟨A, a1, _⟩ := h.sr.al
    rw [tl _ a1.lt]; exact tk.a
  · rintro b (rfl | rfl | rfl | rfl)
    · exact no _ (.inr (.inr (.inr (.inr tk.kk))))
    · exact no _ (.inl tk.ks)
    · exact no _ (.inl tk.ku)
    · exact no _ (.inl tk.kb)
end
end Go.Proofs.YtacgfjcdfgdpjaaDoor
