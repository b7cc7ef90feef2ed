/- The nearest one above each number: graph's ways.nearest. -/
import Derived.Test.YtacgfjcdfgdpjaaDoorGnq
namespace Go.Proofs.YtacgfjcdfgdpjaaDoor
set_option linter.unusedSimpArgs false
set_option linter.unusedVariables false
open Go Go.RowKit Gm

/-- What is near, of any ways. -/
def Idoms (y : Wm) (I : Nat → Option Nat) : Prop := (0 < y.m → I 0 = none) ∧ ∀ v, 0 < v → v < y.m → ∃ i, I v = some i ∧ Idom y.E v i
def NearP (W : World) (y : Wm) (e : Ending) (w' : World) : Prop := ∃ bl I, e = .returned (.slice (some ⟨bl, 0, none⟩) y.m y.m) ∧ FV 3 w' bl y.m (iv fun v => ov (I v)) ∧ Idoms y I ∧ W.heap.size ≤ bl ∧ Below W.heap.size W w'
theorem src_edge {c : List Ic} {y : Wm} (h : Wf c y) {v at_ : Nat} (hv : v < y.m) : at_ ∈ y.src (y.pl v) ↔ ∃ u, y.num at_ = some u ∧ y.E u v := by
  unfold Wm.src Wm.P
  rw [List.mem_filter, List.mem_range]
  constructor
  · rintro ⟨h1, h2⟩
    cases hu : y.num at_ with
    | none => rw [hu] at h2; cases h2
    | some u =>
      rw [hu] at h2
      exact ⟨u, rfl, (h.nb.num _ _ hu).1, hv, by simpa using h2⟩
  · rintro ⟨u, h1, h2⟩
    have h3 := h.nb.num _ _ h1
    refine ⟨?_, ?_⟩
    · rw [h.nb.n, ← h3.2]; exact (h.nb.pl u h3.1).1
    · rw [h1]; simpa using h2.2.2
theorem tk_new {h : Nat} {k : Kn} {bl bw ba bf b9 b3 z : Nat} (ks : h ≤ k.s ∧ k.s < z) (ku : h ≤ k.u ∧ k.u < z) (kb : h ≤ k.b ∧ k.b < z) (kk : k.kb < z) (nk : k.s ≠ k.kb ∧ k.u ≠ k.kb ∧ k.b ≠ k.kb) (a : z ≤ ba ∧ ba < bl) (f : z ≤ bf ∧ bf < bl) (n : z ≤ b9 ∧ b9 < bl) (t : z ≤ b3 ∧ b3 < bl) (nn : b9 ≠ ba ∧ b9 ≠ bf ∧ b3 ≠ ba ∧ b3 ≠ bf) (w : bl < bw) :
    ∃ own, Tk own h k bl bw ba bf b9 b3 := by
  refine ⟨fun b => if b = k.s ∨ b = k.u ∨ b = k.b then 1 else if b = k.kb then 6 else if b = bl then 2 else if b = bw then 4 else if b = ba ∨ b = bf then 3 else 5, ?_, ?_, ?_, ?_, ?_, ?_, ?_, ?_, ?_, ?_, ks.1, ku.1, kb.1, by omega, by omega⟩
  · simp
  · simp
  · simp
  · show (if k.kb = k.s ∨ k.kb = k.u ∨ k.kb = k.b then 1 else if k.kb = k.kb then 6 else _) = 6
    rw [if_neg (by omega), if_pos rfl]
  · show (if bl = k.s ∨ bl = k.u ∨ bl = k.b then 1 else if bl = k.kb then 6 else if bl = bl then 2 else _) = 2
    rw [if_neg (by omega), if_neg (by omega), if_pos rfl]
  · show (if bw = k.s ∨ bw = k.u ∨ bw = k.b then 1 else if bw = k.kb then 6 else if bw = bl then 2 else if bw = bw then 4 else _) = 4
    rw [if_neg (by omega), if_neg (by omega), if_neg (by omega), if_pos rfl]
  · show (if ba = k.s ∨ ba = k.u ∨ ba = k.b then 1 else if ba = k.kb then 6 else if ba = bl then 2 else if ba = bw then 4 else if ba = ba ∨ ba = bf then 3 else 5) = 3
    rw [if_neg (by omega), if_neg (by omega), if_neg (by omega), if_neg (by omega), if_pos (.inl rfl)]
  · show (if bf = k.s ∨ bf = k.u ∨ bf = k.b then 1 else if bf = k.kb then 6 else if bf = bl then 2 else if bf = bw then 4 else if bf = ba ∨ bf = bf then 3 else 5) = 3
    rw [if_neg (by omega), if_neg (by omega), if_neg (by omega), if_neg (by omega), if_pos (.inr rfl)]
  · show (if b9 = k.s ∨ b9 = k.u ∨ b9 = k.b then 1 else if b9 = k.kb then 6 else if b9 = bl then 2 else if b9 = bw then 4 else if b9 = ba ∨ b9 = bf then 3 else 5) = 5
    rw [if_neg (by omega), if_neg (by omega), if_neg (by omega), if_neg (by omega), if_neg (by omega)]
  · show (if b3 = k.s ∨ b3 = k.u ∨ b3 = k.b then 1 else if b3 = k.kb then 6 else if b3 = bl then 2 else if b3 = bw then 4 else if b3 = ba ∨ b3 = bf then 3 else 5) = 5
    rw [if_neg (by omega), if_neg (by omega), if_neg (by omega), if_neg (by omega), if_neg (by omega)]
theorem fv_nils (X : World) (m : Nat) : FV 34 (X.alloc (.cells (rw_ m fun _ => .slice none 0 0).toArray 34)) X.heap.size m (fun _ => .slice none 0 0) := FV.new rfl (by simp)
/-- One looked at: the lowest of both. -/
theorem low_step {m x v u yy sy : Nat} {E : Nat → Nat → Prop} {par s : Nat → Nat} (hx : x ≤ v) (hd : x = v ∨ ∃ u, E u v ∧ Val par s v u x) (hi : ∀ u, u ≤ v → s u = u) (he : E u v) (hf : FindR m par (fun i => if i = v then x else s i) (v + 1) u yy) (hs : (if yy = v then x else s yy) = sy) :
    min x sy ≤ v ∧ (min x sy = v ∨ ∃ u, E u v ∧ Val par s v u (min x sy)) ∧ ∃ z, Val par s v u z ∧ min x sy ≤ z := by
  obtain ⟨h1, h2, h3⟩ := hf
  by_cases hlt : v < u
  · obtain ⟨a, b, c⟩ := h3 (by omega)
    rw [if_neg (by omega)] at hs
    have hv : Val par s v u sy := by
      unfold Val
      rw [if_pos hlt]
      refine ⟨yy, a, by omega, fun z hz hz2 => ?_, hs.symm⟩
      have := c z hz (by omega)
      (try simp only at this)
      rw [if_neg (by omega), if_neg (by omega)] at this
      exact this
    refine ⟨by omega, ?_, sy, hv, by omega⟩
    by_cases e : x ≤ sy
    · rw [Nat.min_eq_left e]; exact hd
    · rw [Nat.min_eq_right (by omega)]; exact .inr ⟨u, he, hv⟩
  · have e := h2 (by omega)
    subst e
    by_cases e : yy = v
    · rw [if_pos e] at hs
      subst hs
      rw [Nat.min_self]
      refine ⟨hx, hd, v, ?_, hx⟩
      unfold Val
      rw [if_neg hlt, e]
    · rw [if_neg e, hi yy (by omega)] at hs
      subst hs
      have hv : Val par s v yy yy := by
        unfold Val
        rw [if_neg hlt]
      refine ⟨by omega, ?_, yy, hv, by omega⟩
      by_cases e : x ≤ yy
      · rw [Nat.min_eq_left e]; exact hd
      · rw [Nat.min_eq_right (by omega)]; exact .inr ⟨yy, he, hv⟩
theorem nq_low {W X : World} {own : Nat → Nat} {k : Kn} {bl bw ba bf b9 b3 v x : Nat} {y : Wm} {s lf : Nat → Nat} {wl : Nat → List Nat} (h : Nq W X own k bl bw ba bf b9 b3 y (v + 1) (fun i => if i = v then x else s i) lf wl) (x' : Nat) :
    Nq W (X.setCell ⟨k.s, v, none⟩ (.int .i64 (x' : Int))) own k bl bw ba bf b9 b3 y (v + 1) (fun i => if i = v then x' else s i) lf wl := by
  obtain ⟨up, bs, hm⟩ := h.cm
  have e : upd (fun i => if i = v then x else s i) v x' = fun i => if i = v then x' else s i := by
    funext i
    unfold upd
    by_cases e : i = v
    · rw [if_pos e, if_pos e]
    · rw [if_neg e, if_neg e]
      exact if_neg e
  refine h.putK (up' := up) (bs' := bs) (.inl rfl) ⟨?_, hm.clb.sem fun z hz => by (try simp only); rw [if_neg (by omega), if_neg (by omega)]⟩
  have := hm.kl.setS v (x' : Int)
  rw [nv_upd, e] at this
  exact this
/-- What is known when the ones before are looked at. -/
structure Lk (y : Wm) (s : Nat → Nat) (v x j : Nat) (L : List Nat) : Prop where
  le : x ≤ v
  one : x = v ∨ ∃ u, y.E u v ∧ Val y.par s v u x
  all : ∀ q at_, q < j → L[q]? = some at_ → ∀ u, y.num at_ = some u → ∃ z, Val y.par s v u z ∧ x ≤ z
theorem Lk.more {y : Wm} {s : Nat → Nat} {v x j at_ u yy sy : Nat} {L : List Nat} (h : Lk y s v x j L) (hi : ∀ u, u ≤ v → s u = u) (hat : L[j]? = some at_) (hu : y.num at_ = some u) (he : y.E u v) (hf : FindR y.m y.par (fun i => if i = v then x else s i) (v + 1) u yy) (hs : (if yy = v then x else s yy) = sy) : Lk y s v (min x sy) (j + 1) L := by
  obtain ⟨a, b, c⟩ := low_step h.le h.one hi he hf hs
  refine ⟨a, b, fun q at' hq hat' u' hu' => ?_⟩
  by_cases e : q = j
  · subst e
    rw [hat] at hat'
    cases hat'
    rw [hu] at hu'
    cases hu'
    exact c
  · obtain ⟨z, h1, h2⟩ := h.all q at' (by omega) hat' u' hu'
    exact ⟨z, h1, by omega⟩
/-- All are looked at: it's the lowest of all. -/
theorem Lk.full {c : List Ic} {y : Wm} {s : Nat → Nat} {v x : Nat} {L : List Nat} (hF : Wf c y) (h0 : 0 < v) (hv : v < y.m) (hL : y.src (y.pl v) = L) (S : Semi y.m y.E s (v + 1)) (h : Lk y s v x L.length L) : Semi y.m y.E (fun i => if i = v then x else s i) v := by
  have hl : ∀ u, y.E u v → ∃ z, Val y.par s v u z ∧ x ≤ z := fun u he => by
    have hn := (hF.nb.pl u he.1).2
    have hm := (src_edge hF hv).2 ⟨u, hn, he⟩
    rw [hL] at hm
    obtain ⟨q, hq, e⟩ := List.mem_iff_getElem.1 hm
    exact h.all q _ hq (by rw [List.getElem?_eq_getElem hq, e]) u hn
  refine hF.dfs.semi_of hv h0 S ?_ hl
  refine h.one.resolve_left fun e => ?_
  obtain ⟨z, h1, h2⟩ := hl _ (hF.dfs.par_e v h0 hv)
  have := hF.dfs.par_lt v h0 hv
  unfold Val at h1
  rw [if_neg (by omega)] at h1
  omega
section
variable {W X : World} {own : Nat → Nat} {k : Kn} {bl bw ba bf b9 b3 t : Nat} {y : Wm} {s lf : Nat → Nat} {wl : Nat → List Nat}
/-- The climb behind an append. -/
theorem cm_apd {Z : World} {v v' : Value} {x : Nat} {up : Nat → Option Nat} {bs : Nat → Nat} (tk : Tk own W.heap.size k bl bw ba bf b9 b3) (hm : Cm X k y.m y.par s t up bs) (ht : Tg own v (10 + x)) (hz : Apd X Z v v') : Cm Z k y.m y.par s t up bs :=
  ⟨hm.kl.ch hz.1 fun b hb e => tk.out (S := fun b => v.ownBlock = some b) (τ := 10 + x) (fun b e => ht b e) (by omega) (by omega) b hb e, hm.clb⟩
/-- One more is hung up. -/
theorem Nq.link (h : Nq W X own k bl bw ba bf b9 b3 y (t + 1) s lf wl) (hp : ∀ v, 0 < v → v < y.m → y.par v < v) (h0 : 0 < t) (ht : t < y.m) : Nq W (X.setCell ⟨k.u, t, none⟩ (.int .i64 (y.par t : Int))) own k bl bw ba bf b9 b3 y t s lf wl := by
  obtain ⟨up, bs, hm⟩ := h.cm
  refine h.putK (up' := upd up t (some (y.par t))) (bs' := bs) (.inr rfl) ⟨?_, hm.clb.link hp h0 ht fun x => by unfold upd; rfl⟩
  have := hm.kl.setU t (ov (some (y.par t)))
  rw [ov_upd] at this
  exact this
end
theorem fv_apd {X Z : World} {own : Nat → Nat} {T : TypeId} {bw m x : Nat} {F : Nat → Value} {v v' : Value} (h : FV T X bw m F) (h4 : own bw = 4) (ht : Tg own v (10 + x)) (hz : Apd X Z v v') : FV T Z bw m F := h.ch hz.1 fun e => by have := ht _ e; omega
theorem src_most (y : Wm) (i : Nat) : (y.src i).length ≤ y.n := by
  unfold Wm.src
  exact Nat.le_trans (List.length_filter_le _ _) (by simp)
theorem fr_par {c : List Ic} {y : Wm} (h : Nb c y) {v : Nat} (h0 : 0 < v) (hv : v < y.m) : ov (y.fr v) = (y.par v : Int) := by
  obtain ⟨p, e, _⟩ := h.fr v h0 hv
  unfold Wm.par
  rw [e]
  rfl
set_option maxRecDepth 100000 in
set_option maxHeartbeats 8000000 in
theorem near_some {W : World} {own : Nat → Nat} {B : Nat} {d : Wv} {y : Wm} {c : List Ic} (hW : Hid (Ws W own B d y y.m y.m y.m)) (hF : Hid (Wf c y)) (hn : y.n ≤ 1000000) : Calls Tryd.prog 28 #[.pointer (some ⟨d.a, 0, none⟩)] W (NearP W y) := by
  have hS : Hid (Sok y) := Lib.hid hF.out.nb.sok
  have hmn := hS.out.mn
  have hpos := hF.out.nb.pos
  have hmk := make_i y.m (by omega)
  have hmk2 := make_ii y.m (by omega)
  obtain ⟨l, c0, c1, c2, c3, -⟩ := hW.out.facts
  obtain ⟨p0, q0, e0, -⟩ := hW.out.pla.open
  rw [e0] at c0
  have HE0 := Lib.hid e0
  clear e0
  go_enter Tryd.func28, Tryd.ntmps28
  go_upto_region 4 with (first
    | (go_at_call 41; ((with_reducible refine (newClimb_any y.m _ (by omega)).mono ?_); rintro e1 w1 ⟨k, rfl, hk1, hb1, g1, g2, g3, g4⟩; have HK1 := Lib.hid (And.intro hk1 (And.intro hb1 (And.intro g1 (And.intro g2 (And.intro g3 g4))))); obtain ⟨l', c0', c1', c2', c3', -⟩ := (hW.out.stay hb1).facts; rw [HE0.out] at c0'; have HW1 := Lib.hid (hW.out.stay hb1); clear hk1 hb1 g1 g2 g3 g4))
    | (go_at_call 23; ((with_reducible refine (sources_any HW1 hS hn).mono ?_); rintro e2 w2 ⟨ba, bf, b9, b3, rfl, hs2, hb2, g1, g2, g3, g4⟩; have HS2 := Lib.hid (And.intro hs2 (And.intro hb2 (And.intro g1 (And.intro g2 (And.intro g3 g4))))); obtain ⟨l'', c0'', c1'', c2'', c3'', -⟩ := (HW1.out.stay hb2).facts; rw [HE0.out] at c0''; clear hs2 hb2 g1 g2 g3 g4)))
  refine name_world ?_
  intro W3 hW3
  obtain ⟨bl, hbl⟩ : ∃ bl, w2.heap.size = bl := ⟨_, rfl⟩
  obtain ⟨own, HO⟩ : ∃ own, Hid (Tk own W.heap.size k bl (bl + 1) ba bf b9 b3) := by
    obtain ⟨h1, h2, h3, h4, h5, h6⟩ := HK1.out
    obtain ⟨s1, s2, s3, s4, s5, s6⟩ := HS2.out
    have lk := h1.lt
    obtain ⟨A, a1, _⟩ := s1.al
    have := lk _ (.inl rfl)
    have := lk _ (.inr (.inl rfl))
    have := lk _ (.inr (.inr (.inl rfl)))
    have := lk _ (.inr (.inr (.inr rfl)))
    have f1 := s1.facts
    have f2 := s1.fi.lt
    have f3 := a1.lt
    obtain ⟨o, ho⟩ := tk_new (h := W.heap.size) (k := k) (bl := bl) (bw := bl + 1) (ba := ba) (bf := bf) (b9 := b9) (b3 := b3) (z := w1.heap.size) ⟨by omega, by omega⟩ ⟨by omega, by omega⟩ ⟨by omega, by omega⟩ (by omega) h1.ne ⟨by omega, by omega⟩ ⟨by omega, by omega⟩ ⟨by omega, by omega⟩ ⟨by omega, by omega⟩ ⟨(two_types a1 s1.x9 (by decide)).symm, (two_types s1.fi s1.x9 (by decide)).symm, (two_types a1 s1.x3 (by decide)).symm, (two_types s1.fi s1.x3 (by decide)).symm⟩ (by omega)
    exact ⟨o, Lib.hid ho⟩
  have HB3 : Hid (Below w2.heap.size w2 W3) := Lib.hid (by rw [hW3]; exact ((Below.refl _ _).alloc (Nat.le_refl _) _).alloc (by simp) _)
  have HQ : Hid (Nq W W3 own k bl (bl + 1) ba bf b9 b3 y (y.m - 1 + 1) (fun i => i) (fun _ => 0) (fun _ => [])) := Lib.hid (by
    have hb13 : Below w1.heap.size w1 W3 := below_ch HS2.out.2.1 HB3.out
    refine ⟨HK1.out.2.1.trans (hb13.mono HK1.out.2.1.size), HO.out, ⟨fun _ => none, fun i => i, HK1.out.1.stay hb13, ⟨fun u h1 h2 => ⟨rfl, rfl⟩, fun u h1 h2 => by omega⟩⟩, ?_, ⟨fun _ => .slice none 0 0, ?_, HO.out.w, fun x hx => GV.nil _ _ _ _, fun x hx g e => (by cases e)⟩, HS2.out.1.stay HB3.out⟩
    · rw [hW3, ← hbl]; exact (fv_zero w2 y.m).alloc _
    · rw [hW3, ← hbl]
      have := fv_nils (w2.alloc (.cells (rw_ y.m fun _ => .int .i64 0).toArray 3)) y.m
      simpa using this)
  have HR : Hid (Nr y.m y.E y.par (y.m - 1) (fun i => i) (fun _ => 0) (fun _ => [])) := Lib.hid (Nr.start hpos (fun _ _ => rfl) fun _ => rfl)
  have HM1 : Hid (((y.m - 1 : Nat) : Int) = (y.m : Int) - 1) := Lib.hid (by omega)
  rw [hbl]
  clear hW3 hbl HB3 HK1 HS2 HW1 HO
  go_wp2
  go_loopw [7] (fun a wr => ∃ (v : Nat) (own : Nat → Nat) (s lf : Nat → Nat) (wl : Nat → List Nat), a = .int .i64 v ∧ v < y.m ∧ Hid (Nq W wr own k bl (bl + 1) ba bf b9 b3 y (v + 1) s lf wl ∧ Nr y.m y.E y.par v s lf wl ∧ ∀ x, (wl x).length + v ≤ y.m)) (fun a _ => (intOf a).toNat)
  case atStart => exact ⟨y.m - 1, own, _, _, _, by rw [HM1.out], by omega, Lib.hid ⟨HQ.out, HR.out, fun x => by simp only [List.length_nil]; omega⟩⟩
  case round =>
    clear HQ HR HM1 l c0 c1 c2 c3 l' c0' c1' c2' c3' l'' c0'' c1'' c2'' c3''
    obtain ⟨wo, rfl⟩ : ∃ wo : World, wo = wr := ⟨_, rfl⟩
    obtain ⟨v, own, s, lf, wl, rfl, hv, HR⟩ := hrel
    by_cases h0 : 0 < v
    · obtain ⟨l, c0, c1, c2, c3, -⟩ := (hW.out.stay HR.out.1.bel).facts
      rw [HE0.out] at c0
      obtain ⟨p0', q0', e0', hp0⟩ := (hW.out.stay HR.out.1.bel).pla.open
      rw [HE0.out] at e0'
      cases e0'
      have hp0 := hp0.resolve_left (fun e => by omega)
      obtain ⟨g0, rfl, -, hg0l, -, -, -, hg0c⟩ := hp0
      have i0 := hg0c v hv
      simp only [iv] at i0
      have hpl := (hF.out.nb.pl v hv).1
      have hyn := hF.out.nb.n
      have hplm : y.pl v < y.n := by omega
      clear hg0c hpl hyn
      obtain ⟨L, hLe⟩ : ∃ L, y.src (y.pl v) = L := ⟨_, rfl⟩
      have hLn : L.length ≤ y.n := hLe ▸ src_most y (y.pl v)
      have HLE := Lib.hid hLe
      have HFr : Hid (Calls Tryd.prog 39 #[.int .i64 (y.pl v : Int), .pointer (some ⟨b9, 0, none⟩), .pointer (some ⟨b3, 0, none⟩)] wo (FromP wo ba (y.F (y.pl v)) L)) := Lib.hid (hLe ▸ from_any (Lib.hid HR.out.1.sr) hn hplm)
      clear hLe
      obtain ⟨o, ho⟩ : ∃ o, y.F (y.pl v) = o := ⟨_, rfl⟩
      have HOe := Lib.hid ho
      rw [ho] at HFr
      clear ho
      go_wp2_with (go_at_call 39; ((with_reducible refine HFr.out.mono ?_); rintro e4 w4 ⟨pL, cL, rfl, hL, qL, rfl⟩; have HL := Lib.hid hL; clear hL))
      clear l c0 c1 c2 c3 i0
      go_loopw [52] (fun a wr => ∃ (j x : Nat), a = .int .i64 j ∧ j ≤ L.length ∧ Hid (Lk y s v x j L ∧ Nq W wr own k bl (bl + 1) ba bf b9 b3 y (v + 1) (fun i => if i = v then x else s i) lf wl)) (fun a _ => L.length - (intOf a).toNat)
      case atStart =>
        refine ⟨0, v, rfl, Nat.zero_le _, Lib.hid ⟨⟨Nat.le_refl _, .inl rfl, fun q at_ hq => absurd hq (Nat.not_lt_zero _)⟩, ?_⟩⟩
        have e : (fun i => if i = v then v else s i) = s := by
          funext i
          by_cases e : i = v
          · rw [if_pos e, e]; exact (HR.out.2.1.idn v (Nat.le_refl _)).symm
          · rw [if_neg e]
        rw [e]
        exact HR.out.1.like rfl rfl rfl rfl
      case round =>
        obtain ⟨wi, rfl⟩ : ∃ wo : World, wo = wr := ⟨_, rfl⟩
        obtain ⟨j, x, rfl, hj, HX⟩ := hrel
        by_cases hlt : j < L.length
        · obtain ⟨at_, hat⟩ : ∃ at_, L[j]? = some at_ := ⟨_, List.getElem?_eq_getElem hlt⟩
          obtain ⟨u, hu, huv⟩ := (src_edge hF.out hv).1 (by rw [HLE.out]; exact List.mem_of_getElem? hat)
          have hrow := HX.out.2.sr.row (q := j) hplm (by rw [HLE.out]; exact hat)
          rw [HOe.out] at hrow
          obtain ⟨lba, irow⟩ := hrow
          have hpL := HL.out j hlt
          subst hpL
          have hum := huv.1
          have hatn : at_ < y.n := by
            have := hF.out.nb.num _ _ hu
            rw [hF.out.nb.n, ← this.2]
            exact (hF.out.nb.pl u this.1).1
          obtain ⟨l, c0, c1, c2, c3, -⟩ := (hW.out.stay HX.out.2.bel).facts
          have iN := (hW.out.stay HX.out.2.bel).num.cell hatn
          simp only [iv, hu, ov] at iN
          obtain ⟨up, bs, hcm⟩ := HX.out.2.cm
          have HCM := Lib.hid hcm
          have HCMd : Hid (Cm wi.drew k y.m y.par (fun i => if i = v then x else s i) (v + 1) up bs) := Lib.hid ⟨hcm.kl.like rfl, hcm.clb⟩
          obtain ⟨lk, k0, k1, k2, -⟩ := hcm.kl.facts
          have isv := hcm.kl.sem.cell hv
          have fsv := hcm.kl.sem.frozen v
          simp only [iv, if_true] at isv
          have HU := Lib.hid (And.intro hat (And.intro hu huv))
          have hPar : Hid (∀ v, 0 < v → v < y.m → y.par v < v) := Lib.hid hF.out.nb.par_lt
          clear hat hu huv hcm
          go_upto_region 10 with (fail)
          have isvd : wi.drew.cell? ⟨k.s, v, none⟩ = some (.int .i64 (x : Int)) := isv
          refine wp_region_held_drew (S := fun w' => w'.cell? ⟨k.kb, 0, none⟩ = some (.slice (some ⟨k.s, 0, none⟩) y.m y.m) ∧ w'.cell? ⟨d.a, 1, none⟩ = some (.slice (some ⟨d.bN, 0, none⟩) y.n y.n) ∧ w'.cell? ⟨d.bN, at_, none⟩ = some (.int .i64 (u : Int))) (by kernel_rfl) ⟨k0, c1, iN⟩ (fun hHeld => ?_)
          refine wpAnyH_take (i := 0) (v := ?_) rfl (by kernel_rfl) (by kernel_rfl) (by kernel_rfl) (fun _ _ _ h => h) (Or.inl ⟨by rfl, ?_⟩) (by assumption) ?_
          rotate_left
          focus (intro w hSw; (try dsimp only at hSw); go_simp; try (with_reducible rfl))
          try simp only [Act.put, List.setIfInBounds_toArray, List.set_cons_zero, List.set_cons_succ]
          refine wpAnyH_take (i := 1) (v := ?_) rfl (by kernel_rfl) (by kernel_rfl) (by kernel_rfl) (fun _ _ _ h => h) (Or.inl ⟨by rfl, ?_⟩) (by assumption) ?_
          rotate_left
          focus (intro w hSw; (try dsimp only at hSw); go_simp; try (with_reducible rfl))
          try simp only [Act.put, List.setIfInBounds_toArray, List.set_cons_zero, List.set_cons_succ]
          refine wpAnyH_take (i := 2) (v := ?_) rfl (by kernel_rfl) (by kernel_rfl) (by kernel_rfl) (fun _ _ _ h => h) (Or.inl ⟨by rfl, ?_⟩) (by assumption) ?_
          rotate_left
          focus (intro w hSw; (try dsimp only at hSw); go_simp; try (with_reducible rfl))
          try simp only [Act.put, List.setIfInBounds_toArray, List.set_cons_zero, List.set_cons_succ]
          refine wpAnyH_take (i := 3) (v := ?_) rfl (by kernel_rfl) (by kernel_rfl) (by kernel_rfl) (fun _ _ _ h => h) (Or.inl ⟨by rfl, ?_⟩) (by assumption) ?_
          rotate_left
          focus (intro w hSw; (try dsimp only at hSw); go_simp; try (with_reducible rfl))
          try simp only [Act.put, List.setIfInBounds_toArray, List.set_cons_zero, List.set_cons_succ]
          refine wpAnyH_take (i := 4) (v := ?_) rfl (by kernel_rfl) (by kernel_rfl) (by kernel_rfl) (fun _ _ _ h => h) (Or.inl ⟨by rfl, ?_⟩) (by assumption) ?_
          rotate_left
          focus (intro w hSw; (try dsimp only at hSw); go_simp; try (with_reducible rfl))
          try simp only [Act.put, List.setIfInBounds_toArray, List.set_cons_zero, List.set_cons_succ]
          refine wpAnyH_take (i := 5) (v := ?_) rfl (by kernel_rfl) (by kernel_rfl) (by kernel_rfl) (fun _ _ _ h => h) (Or.inl ⟨by rfl, ?_⟩) (by assumption) ?_
          rotate_left
          focus (intro w hSw; (try dsimp only at hSw); go_simp; try (with_reducible rfl))
          try simp only [Act.put, List.setIfInBounds_toArray, List.set_cons_zero, List.set_cons_succ]
          refine wpAnyH_take (i := 6) (v := ?_) rfl (by kernel_rfl) (by kernel_rfl) (by kernel_rfl) (fun _ _ _ h => h) (Or.inl ⟨by rfl, ?_⟩) (by assumption) ?_
          rotate_left
          focus (intro w hSw; (try dsimp only at hSw); go_simp; try (with_reducible rfl))
          try simp only [Act.put, List.setIfInBounds_toArray, List.set_cons_zero, List.set_cons_succ]
          refine wpAnyH_take (i := 7) (v := ?_) rfl (by kernel_rfl) (by kernel_rfl) (by kernel_rfl) (fun _ _ _ h => h) (Or.inl ⟨by rfl, ?_⟩) (by assumption) ?_
          rotate_left
          focus (intro w hSw; (try dsimp only at hSw); go_simp; try (with_reducible rfl))
          try simp only [Act.put, List.setIfInBounds_toArray, List.set_cons_zero, List.set_cons_succ]
          refine wpAnyH_take (i := 8) (v := ?_) rfl (by kernel_rfl) (by kernel_rfl) (by kernel_rfl) (fun _ _ _ h => h) (Or.inl ⟨by rfl, ?_⟩) (by assumption) ?_
          rotate_left
          focus (intro w hSw; (try dsimp only at hSw); go_simp; try (with_reducible rfl))
          try simp only [Act.put, List.setIfInBounds_toArray, List.set_cons_zero, List.set_cons_succ]
          refine wpAnyH_take (i := 9) (v := ?_) rfl (by kernel_rfl) (by kernel_rfl) (by kernel_rfl) (fun _ _ _ h => h) (Or.inl ⟨by rfl, ?_⟩) (by assumption) ?_
          rotate_left
          focus (intro w hSw; (try dsimp only at hSw); go_simp; try (with_reducible rfl))
          try simp only [Act.put, List.setIfInBounds_toArray, List.set_cons_zero, List.set_cons_succ]
          refine wpAnyH_take (i := 10) (v := ?_) rfl (by kernel_rfl) (by kernel_rfl) (by kernel_rfl) (fun _ _ _ h => h) (Or.inl ⟨by rfl, ?_⟩) (by assumption) ?_
          rotate_left
          focus (intro w hSw; (try dsimp only at hSw); go_simp; try (with_reducible rfl))
          try simp only [Act.put, List.setIfInBounds_toArray, List.set_cons_zero, List.set_cons_succ]
          refine wpAnyH_take (i := 12) (v := ?_) rfl (by kernel_rfl) (by kernel_rfl) (by kernel_rfl) (fun _ _ _ h => h) (Or.inl ⟨by rfl, ?_⟩) (by assumption) ?_
          rotate_left
          focus (intro w hSw; (try dsimp only at hSw); go_simp; try (with_reducible rfl))
          try simp only [Act.put, List.setIfInBounds_toArray, List.set_cons_zero, List.set_cons_succ]
          refine wpAnyH_take (i := 13) (v := ?_) rfl (by kernel_rfl) (by kernel_rfl) (by kernel_rfl) (fun _ _ _ h => h) (Or.inl ⟨by rfl, ?_⟩) (by assumption) ?_
          rotate_left
          focus (intro w hSw; (try dsimp only at hSw); go_simp; try (with_reducible rfl))
          try simp only [Act.put, List.setIfInBounds_toArray, List.set_cons_zero, List.set_cons_succ]
          refine wpAnyH_take (i := 14) (v := ?_) rfl (by kernel_rfl) (by kernel_rfl) (by kernel_rfl) (fun _ _ _ h => h) (Or.inl ⟨by rfl, ?_⟩) (by assumption) ?_
          rotate_left
          focus (intro w hSw; (try dsimp only at hSw); go_simp; try (with_reducible rfl))
          try simp only [Act.put, List.setIfInBounds_toArray, List.set_cons_zero, List.set_cons_succ]
          refine wpAnyH_take (i := 15) (v := ?_) rfl (by kernel_rfl) (by kernel_rfl) (by kernel_rfl) (fun _ _ _ h => h) (Or.inl ⟨by rfl, ?_⟩) (by assumption) ?_
          rotate_left
          focus (intro w hSw; (try dsimp only at hSw); go_simp; try (with_reducible rfl))
          try simp only [Act.put, List.setIfInBounds_toArray, List.set_cons_zero, List.set_cons_succ]
          refine wpAnyH_take (i := 16) (v := ?_) rfl (by kernel_rfl) (by kernel_rfl) (by kernel_rfl) (fun _ _ _ h => h) (Or.inl ⟨by rfl, ?_⟩) (by assumption) ?_
          rotate_left
          focus (intro w hSw; (try dsimp only at hSw); go_simp; try (with_reducible rfl))
          try simp only [Act.put, List.setIfInBounds_toArray, List.set_cons_zero, List.set_cons_succ]
          refine wpAnyH_take (i := 17) (v := ?_) rfl (by kernel_rfl) (by kernel_rfl) (by kernel_rfl) (fun _ _ _ h => h) (Or.inl ⟨by rfl, ?_⟩) (by assumption) ?_
          rotate_left
          focus (intro w hSw; (try dsimp only at hSw); go_simp; try (with_reducible rfl))
          try simp only [Act.put, List.setIfInBounds_toArray, List.set_cons_zero, List.set_cons_succ]
          refine wpAnyH_take (i := 18) (v := ?_) rfl (by kernel_rfl) (by kernel_rfl) (by kernel_rfl) (fun _ _ _ h => h) (Or.inl ⟨by rfl, ?_⟩) (by assumption) ?_
          rotate_left
          focus (intro w hSw; (try dsimp only at hSw); go_simp; try (with_reducible rfl))
          try simp only [Act.put, List.setIfInBounds_toArray, List.set_cons_zero, List.set_cons_succ]
          refine wpAnyH_take (i := 19) (v := ?_) rfl (by kernel_rfl) (by kernel_rfl) (by kernel_rfl) (fun _ _ _ h => h) (Or.inl ⟨by rfl, ?_⟩) (by assumption) ?_
          rotate_left
          focus (intro w hSw; (try dsimp only at hSw); go_simp; try (with_reducible rfl))
          try simp only [Act.put, List.setIfInBounds_toArray, List.set_cons_zero, List.set_cons_succ]
          refine wpAnyH_take (i := 20) (v := ?_) rfl (by kernel_rfl) (by kernel_rfl) (by kernel_rfl) (fun _ _ _ h => h) (Or.inl ⟨by rfl, ?_⟩) (by assumption) ?_
          rotate_left
          focus (intro w hSw; (try dsimp only at hSw); go_simp; try (with_reducible rfl))
          try simp only [Act.put, List.setIfInBounds_toArray, List.set_cons_zero, List.set_cons_succ]
          refine wpAnyH_take (i := 21) (v := ?_) rfl (by kernel_rfl) (by kernel_rfl) (by kernel_rfl) (fun _ _ _ h => h) (Or.inl ⟨by rfl, ?_⟩) (by assumption) ?_
          rotate_left
          focus (intro w hSw; (try dsimp only at hSw); go_simp; try (with_reducible rfl))
          try simp only [Act.put, List.setIfInBounds_toArray, List.set_cons_zero, List.set_cons_succ]
          refine wpAnyH_take (i := 22) (v := ?_) rfl (by kernel_rfl) (by kernel_rfl) (by kernel_rfl) (fun _ _ _ h => h) (Or.inl ⟨by rfl, ?_⟩) (by assumption) ?_
          rotate_left
          focus (intro w hSw; (try dsimp only at hSw); go_simp; try (with_reducible rfl))
          try simp only [Act.put, List.setIfInBounds_toArray, List.set_cons_zero, List.set_cons_succ]
          refine wpAnyH_take (i := 23) (v := ?_) rfl (by kernel_rfl) (by kernel_rfl) (by kernel_rfl) (fun _ _ _ h => h) (Or.inl ⟨by rfl, ?_⟩) (by assumption) ?_
          rotate_left
          focus (intro w hSw; (try dsimp only at hSw); go_simp; try (with_reducible rfl))
          try simp only [Act.put, List.setIfInBounds_toArray, List.set_cons_zero, List.set_cons_succ]
          refine wpAnyH_ready (rs := [11, 24]) (by kernel_rfl) (by simp) ?_
          refine AllReadyH.cons rfl (fun K hK => ?_) ?_
          · go_simp
            refine hK.out _ _ hHeld (fun hHeld => ?_)
            clear hK K
            try simp only [Act.put, List.setIfInBounds_toArray, List.set_cons_zero, List.set_cons_succ]
            refine wpAnyH_ready (rs := [24]) (by kernel_rfl) (by simp) ?_
            refine AllReadyH.cons rfl (fun K hK => ?_) ?_
            · go_simp
              (go_at_call 42; ((first | (with_reducible refine (find_any HCMd hPar u hum (by omega)).mono ?_) | (with_reducible refine (find_any HCM hPar u hum (by omega)).mono ?_)); rintro e5 w5 ⟨yy, up5, bs5, rfl, hm5, hf5, hc5⟩; have hq5 := (HX.out.2.like (Y := wi.drew) rfl rfl rfl rfl).found (bs := bs5) (up' := up5) hc5 hm5; obtain ⟨l5, c05, c15, c25, c35, -⟩ := (hW.out.stay hq5.bel).facts; have iN5 := (hW.out.stay hq5.bel).num.cell hatn; simp only [iv, HU.out.2.1, ov] at iN5; obtain ⟨lk5, k05, k15, k25, -⟩ := hm5.kl.facts; have isv5 := hm5.kl.sem.cell hv; simp only [iv, if_true] at isv5; have fsv5 := hm5.kl.sem.frozen v; have hy5 := hf5.1; have isy5 := hm5.kl.sem.cell hy5; simp only [iv] at isy5; obtain ⟨sy, hsy⟩ : ∃ sy, (if yy = v then x else s yy) = sy := ⟨_, rfl⟩; rw [hsy] at isy5; have HF5 := Lib.hid (And.intro (HX.out.1.more HR.out.2.1.idn HU.out.1 HU.out.2.1 HU.out.2.2 hf5 hsy) (nq_low hq5 (min x sy))); rw [show (((min x sy : Nat)) : Int) = min (x : Int) (sy : Int) by omega] at HF5; clear hsy hm5 hf5 hc5 hq5))
              try go_simp
              refine hK.out _ _ ⟨k05, c15, iN5⟩ (fun hHeld => ?_)
              clear hK K
              try simp only [Act.put, List.setIfInBounds_toArray, List.set_cons_zero, List.set_cons_succ]
              refine wpAnyH_take (i := 25) (v := ?_) rfl (by kernel_rfl) (by kernel_rfl) (by kernel_rfl) (fun _ _ _ h => h) (Or.inl ⟨by rfl, ?_⟩) (by assumption) ?_
              rotate_left
              focus (intro w hSw; (try dsimp only at hSw); go_simp; try (with_reducible rfl))
              try simp only [Act.put, List.setIfInBounds_toArray, List.set_cons_zero, List.set_cons_succ]
              refine wpAnyH_ready (rs := [26]) (by kernel_rfl) (by simp) ?_
              refine AllReadyH.cons rfl (fun K hK => ?_) ?_
              · go_simp
                refine hK.out _ _ hHeld (fun hHeld => ?_)
                clear hK K
                try simp only [Act.put, List.setIfInBounds_toArray, List.set_cons_zero, List.set_cons_succ]
                refine wpAnyH_ready (rs := [27]) (by kernel_rfl) (by simp) ?_
                refine AllReadyH.cons rfl (fun K hK => ?_) ?_
                · go_simp
                  refine hK.out _ _ hHeld (fun hHeld => ?_)
                  clear hK K
                  try simp only [Act.put, List.setIfInBounds_toArray, List.set_cons_zero, List.set_cons_succ]
                  refine wpAnyH_take (i := 28) (v := ?_) rfl (by kernel_rfl) (by kernel_rfl) (by kernel_rfl) (fun _ _ _ h => h) (Or.inl ⟨by rfl, ?_⟩) (by assumption) ?_
                  rotate_left
                  focus (intro w hSw; (try dsimp only at hSw); go_simp; try (with_reducible rfl))
                  try simp only [Act.put, List.setIfInBounds_toArray, List.set_cons_zero, List.set_cons_succ]
                  refine wpAnyH_ready (rs := [29]) (by kernel_rfl) (by simp) ?_
                  refine AllReadyH.cons rfl (fun K hK => ?_) ?_
                  · go_simp
                    refine hK.out _ _ ?_ (fun hHeld => ?_)
                    · obtain ⟨-, hq⟩ := HF5.out
                      obtain ⟨up6, bs6, hm6⟩ := hq.cm
                      have iN6 := (hW.out.stay hq.bel).num.cell hatn
                      simp only [iv, HU.out.2.1, ov] at iN6
                      exact ⟨hm6.kl.facts.2.1, (hW.out.stay hq.bel).facts.2.2.1, iN6⟩
                    clear hK K
                    try simp only [Act.put, List.setIfInBounds_toArray, List.set_cons_zero, List.set_cons_succ]
                    refine wpAnyH_done (by kernel_rfl) ?_ _
                    go_wp2
                    go_roundw
                    case rel => exact ⟨j + 1, min x sy, by go_num, by omega, Lib.hid ⟨HF5.out.1, HF5.out.2.like rfl rfl rfl rfl⟩⟩
                    case measure => (simp [intOf]; try omega)
                  · exact AllReadyH.nil
                · exact AllReadyH.nil
              · exact AllReadyH.nil
            · exact AllReadyH.nil
          refine AllReadyH.cons rfl (fun K hK => ?_) ?_
          · go_simp
            (go_at_call 42; ((first | (with_reducible refine (find_any HCMd hPar u hum (by omega)).mono ?_) | (with_reducible refine (find_any HCM hPar u hum (by omega)).mono ?_)); rintro e5 w5 ⟨yy, up5, bs5, rfl, hm5, hf5, hc5⟩; have hq5 := (HX.out.2.like (Y := wi.drew) rfl rfl rfl rfl).found (bs := bs5) (up' := up5) hc5 hm5; obtain ⟨l5, c05, c15, c25, c35, -⟩ := (hW.out.stay hq5.bel).facts; have iN5 := (hW.out.stay hq5.bel).num.cell hatn; simp only [iv, HU.out.2.1, ov] at iN5; obtain ⟨lk5, k05, k15, k25, -⟩ := hm5.kl.facts; have isv5 := hm5.kl.sem.cell hv; simp only [iv, if_true] at isv5; have fsv5 := hm5.kl.sem.frozen v; have hy5 := hf5.1; have isy5 := hm5.kl.sem.cell hy5; simp only [iv] at isy5; obtain ⟨sy, hsy⟩ : ∃ sy, (if yy = v then x else s yy) = sy := ⟨_, rfl⟩; rw [hsy] at isy5; have HF5 := Lib.hid (And.intro (HX.out.1.more HR.out.2.1.idn HU.out.1 HU.out.2.1 HU.out.2.2 hf5 hsy) (nq_low hq5 (min x sy))); rw [show (((min x sy : Nat)) : Int) = min (x : Int) (sy : Int) by omega] at HF5; clear hsy hm5 hf5 hc5 hq5))
            try go_simp
            refine hK.out _ _ ⟨k05, c15, iN5⟩ (fun hHeld => ?_)
            clear hK K
            try simp only [Act.put, List.setIfInBounds_toArray, List.set_cons_zero, List.set_cons_succ]
            refine wpAnyH_take (i := 25) (v := ?_) rfl (by kernel_rfl) (by kernel_rfl) (by kernel_rfl) (fun _ _ _ h => h) (Or.inl ⟨by rfl, ?_⟩) (by assumption) ?_
            rotate_left
            focus (intro w hSw; (try dsimp only at hSw); go_simp; try (with_reducible rfl))
            try simp only [Act.put, List.setIfInBounds_toArray, List.set_cons_zero, List.set_cons_succ]
            refine wpAnyH_ready (rs := [11, 26]) (by kernel_rfl) (by simp) ?_
            refine AllReadyH.cons rfl (fun K hK => ?_) ?_
            · go_simp
              refine hK.out _ _ hHeld (fun hHeld => ?_)
              clear hK K
              try simp only [Act.put, List.setIfInBounds_toArray, List.set_cons_zero, List.set_cons_succ]
              refine wpAnyH_ready (rs := [26]) (by kernel_rfl) (by simp) ?_
              refine AllReadyH.cons rfl (fun K hK => ?_) ?_
              · go_simp
                refine hK.out _ _ hHeld (fun hHeld => ?_)
                clear hK K
                try simp only [Act.put, List.setIfInBounds_toArray, List.set_cons_zero, List.set_cons_succ]
                refine wpAnyH_ready (rs := [27]) (by kernel_rfl) (by simp) ?_
                refine AllReadyH.cons rfl (fun K hK => ?_) ?_
                · go_simp
                  refine hK.out _ _ hHeld (fun hHeld => ?_)
                  clear hK K
                  try simp only [Act.put, List.setIfInBounds_toArray, List.set_cons_zero, List.set_cons_succ]
                  refine wpAnyH_take (i := 28) (v := ?_) rfl (by kernel_rfl) (by kernel_rfl) (by kernel_rfl) (fun _ _ _ h => h) (Or.inl ⟨by rfl, ?_⟩) (by assumption) ?_
                  rotate_left
                  focus (intro w hSw; (try dsimp only at hSw); go_simp; try (with_reducible rfl))
                  try simp only [Act.put, List.setIfInBounds_toArray, List.set_cons_zero, List.set_cons_succ]
                  refine wpAnyH_ready (rs := [29]) (by kernel_rfl) (by simp) ?_
                  refine AllReadyH.cons rfl (fun K hK => ?_) ?_
                  · go_simp
                    refine hK.out _ _ ?_ (fun hHeld => ?_)
                    · obtain ⟨-, hq⟩ := HF5.out
                      obtain ⟨up6, bs6, hm6⟩ := hq.cm
                      have iN6 := (hW.out.stay hq.bel).num.cell hatn
                      simp only [iv, HU.out.2.1, ov] at iN6
                      exact ⟨hm6.kl.facts.2.1, (hW.out.stay hq.bel).facts.2.2.1, iN6⟩
                    clear hK K
                    try simp only [Act.put, List.setIfInBounds_toArray, List.set_cons_zero, List.set_cons_succ]
                    refine wpAnyH_done (by kernel_rfl) ?_ _
                    go_wp2
                    go_roundw
                    case rel => exact ⟨j + 1, min x sy, by go_num, by omega, Lib.hid ⟨HF5.out.1, HF5.out.2.like rfl rfl rfl rfl⟩⟩
                    case measure => (simp [intOf]; try omega)
                  · exact AllReadyH.nil
                · exact AllReadyH.nil
              · exact AllReadyH.nil
            refine AllReadyH.cons rfl (fun K hK => ?_) ?_
            · go_simp
              refine hK.out _ _ hHeld (fun hHeld => ?_)
              clear hK K
              try simp only [Act.put, List.setIfInBounds_toArray, List.set_cons_zero, List.set_cons_succ]
              refine wpAnyH_ready (rs := [11]) (by kernel_rfl) (by simp) ?_
              refine AllReadyH.cons rfl (fun K hK => ?_) ?_
              · go_simp
                refine hK.out _ _ hHeld (fun hHeld => ?_)
                clear hK K
                try simp only [Act.put, List.setIfInBounds_toArray, List.set_cons_zero, List.set_cons_succ]
                refine wpAnyH_ready (rs := [27]) (by kernel_rfl) (by simp) ?_
                refine AllReadyH.cons rfl (fun K hK => ?_) ?_
                · go_simp
                  refine hK.out _ _ hHeld (fun hHeld => ?_)
                  clear hK K
                  try simp only [Act.put, List.setIfInBounds_toArray, List.set_cons_zero, List.set_cons_succ]
                  refine wpAnyH_take (i := 28) (v := ?_) rfl (by kernel_rfl) (by kernel_rfl) (by kernel_rfl) (fun _ _ _ h => h) (Or.inl ⟨by rfl, ?_⟩) (by assumption) ?_
                  rotate_left
                  focus (intro w hSw; (try dsimp only at hSw); go_simp; try (with_reducible rfl))
                  try simp only [Act.put, List.setIfInBounds_toArray, List.set_cons_zero, List.set_cons_succ]
                  refine wpAnyH_ready (rs := [29]) (by kernel_rfl) (by simp) ?_
                  refine AllReadyH.cons rfl (fun K hK => ?_) ?_
                  · go_simp
                    refine hK.out _ _ ?_ (fun hHeld => ?_)
                    · obtain ⟨-, hq⟩ := HF5.out
                      obtain ⟨up6, bs6, hm6⟩ := hq.cm
                      have iN6 := (hW.out.stay hq.bel).num.cell hatn
                      simp only [iv, HU.out.2.1, ov] at iN6
                      exact ⟨hm6.kl.facts.2.1, (hW.out.stay hq.bel).facts.2.2.1, iN6⟩
                    clear hK K
                    try simp only [Act.put, List.setIfInBounds_toArray, List.set_cons_zero, List.set_cons_succ]
                    refine wpAnyH_done (by kernel_rfl) ?_ _
                    go_wp2
                    go_roundw
                    case rel => exact ⟨j + 1, min x sy, by go_num, by omega, Lib.hid ⟨HF5.out.1, HF5.out.2.like rfl rfl rfl rfl⟩⟩
                    case measure => (simp [intOf]; try omega)
                  · exact AllReadyH.nil
                · exact AllReadyH.nil
              · exact AllReadyH.nil
            · exact AllReadyH.nil
          · exact AllReadyH.nil
        · obtain rfl : j = L.length := by omega
          have HS := Lib.hid (HX.out.1.full hF.out h0 hv HLE.out HR.out.2.1.semi)
          have HNm := Lib.hid (HR.out.2.1.mid hF.out.dfs h0 hv HS.out)
          have hxm : x < y.m := by have := HX.out.1.le; omega
          obtain ⟨up, bs, hm⟩ := HX.out.2.cm
          obtain ⟨lk, k0, k1, k2, -⟩ := hm.kl.facts
          have isv := hm.kl.sem.cell hv
          simp only [iv, if_true] at isv
          obtain ⟨F, hw⟩ := HX.out.2.wt
          have iw := hw.fv.cell hxm
          have fw := hw.fv.frozen x
          have lw := hw.fv.lt
          have hFr := hw.rw x hxm
          have hFt := hw.tg x hxm
          obtain ⟨pF, cF, eF, -⟩ := hFr.open
          rw [eF] at iw hFr hFt
          have HWt := Lib.hid (And.intro hw (And.intro eF (And.intro hFr hFt)))
          have HM := Lib.hid hm
          have hwlx := HR.out.2.2 x
          have hbs := HX.out.2.bel.size
          have hbs2 : wi.drew.heap.size = wi.heap.size := rfl
          clear hw eF hFr hFt hm
          obtain ⟨j0, hj0, hy0, hy1, hy2⟩ := info_parts info_int
          go_upto_region 12 with (fail)
          have k0d : wi.drew.cell? ⟨k.kb, 0, none⟩ = some (.slice (some ⟨k.s, 0, none⟩) y.m y.m) := k0
          have isvd : wi.drew.cell? ⟨k.s, v, none⟩ = some (.int .i64 (x : Int)) := isv
          have iwd : wi.drew.cell? ⟨bl + 1, x, none⟩ = some (.slice pF (wl x).length cF) := iw
          have kbl : k.kb < wi.drew.heap.size ∧ k.s < wi.drew.heap.size ∧ bl + 1 < wi.drew.heap.size := ⟨lk, HM.out.kl.sem.lt, lw⟩
          have iwa : ∀ p, (wi.drew.alloc p).cell? ⟨bl + 1, x, none⟩ = some (.slice pF (wl x).length cF) := fun p => (ca_old kbl.2.2 p).trans iwd
          refine wp_region_held_drew (S := fun w' => w'.cell? ⟨k.kb, 0, none⟩ = some (.slice (some ⟨k.s, 0, none⟩) y.m y.m) ∧ w'.cell? ⟨k.s, v, none⟩ = some (.int .i64 (x : Int))) (by kernel_rfl) ⟨k0d, isvd⟩ (fun hHeld => ?_)
          refine wpAnyH_take (i := 0) (v := ?_) rfl (by kernel_rfl) (by kernel_rfl) (by kernel_rfl) (fun _ _ _ h => h) (Or.inl ⟨by rfl, ?_⟩) (by assumption) ?_
          rotate_left
          focus (intro w hSw; (try dsimp only at hSw); go_simp; try (with_reducible rfl))
          try simp only [Act.put, List.setIfInBounds_toArray, List.set_cons_zero, List.set_cons_succ]
          refine wpAnyH_take (i := 1) (v := ?_) rfl (by kernel_rfl) (by kernel_rfl) (by kernel_rfl) (fun _ _ _ h => h) (Or.inl ⟨by rfl, ?_⟩) (by assumption) ?_
          rotate_left
          focus (intro w hSw; (try dsimp only at hSw); go_simp; try (with_reducible rfl))
          try simp only [Act.put, List.setIfInBounds_toArray, List.set_cons_zero, List.set_cons_succ]
          refine wpAnyH_take (i := 2) (v := ?_) rfl (by kernel_rfl) (by kernel_rfl) (by kernel_rfl) (fun _ _ _ h => h) (Or.inl ⟨by rfl, ?_⟩) (by assumption) ?_
          rotate_left
          focus (intro w hSw; (try dsimp only at hSw); go_simp; try (with_reducible rfl))
          try simp only [Act.put, List.setIfInBounds_toArray, List.set_cons_zero, List.set_cons_succ]
          refine wpAnyH_take (i := 3) (v := ?_) rfl (by kernel_rfl) (by kernel_rfl) (by kernel_rfl) (fun _ _ _ h => h) (Or.inl ⟨by rfl, ?_⟩) (by assumption) ?_
          rotate_left
          focus (intro w hSw; (try dsimp only at hSw); go_simp; try (with_reducible rfl))
          try simp only [Act.put, List.setIfInBounds_toArray, List.set_cons_zero, List.set_cons_succ]
          refine wpAnyH_take (i := 4) (v := ?_) rfl (by kernel_rfl) (by kernel_rfl) (by kernel_rfl) (fun _ _ _ h => h) (Or.inl ⟨by rfl, ?_⟩) (by assumption) ?_
          rotate_left
          focus (intro w hSw; (try dsimp only at hSw); go_simp; try (with_reducible rfl))
          try simp only [Act.put, List.setIfInBounds_toArray, List.set_cons_zero, List.set_cons_succ]
          refine wpAnyH_take (i := 5) (v := ?_) rfl (by kernel_rfl) (by kernel_rfl) (by kernel_rfl) (fun _ _ _ h => h) (Or.inl ⟨by rfl, ?_⟩) (by assumption) ?_
          rotate_left
          focus (intro w hSw; (try dsimp only at hSw); go_simp; try (with_reducible rfl))
          try simp only [Act.put, List.setIfInBounds_toArray, List.set_cons_zero, List.set_cons_succ]
          refine wpAnyH_take (i := 6) (v := ?_) rfl (by kernel_rfl) (by kernel_rfl) (by kernel_rfl) (fun _ _ _ h => h) (Or.inl ⟨by rfl, ?_⟩) (by assumption) ?_
          rotate_left
          focus (intro w hSw; (try dsimp only at hSw); go_simp; try (with_reducible rfl))
          try simp only [Act.put, List.setIfInBounds_toArray, List.set_cons_zero, List.set_cons_succ]
          refine wpAnyH_take (i := 7) (v := ?_) rfl (by kernel_rfl) (by kernel_rfl) (by kernel_rfl) (fun _ _ _ h => h) (Or.inl ⟨by rfl, ?_⟩) (by assumption) ?_
          rotate_left
          focus (intro w hSw; (try dsimp only at hSw); go_simp; try (with_reducible rfl))
          try simp only [Act.put, List.setIfInBounds_toArray, List.set_cons_zero, List.set_cons_succ]
          refine wpAnyH_take (i := 8) (v := ?_) rfl (by kernel_rfl) (by kernel_rfl) (by kernel_rfl) (fun _ _ _ h => h) (Or.inl ⟨by rfl, ?_⟩) (by assumption) ?_
          rotate_left
          focus (intro w hSw; (try dsimp only at hSw); go_simp; try (with_reducible rfl))
          try simp only [Act.put, List.setIfInBounds_toArray, List.set_cons_zero, List.set_cons_succ]
          refine wpAnyH_take (i := 9) (v := ?_) rfl (by kernel_rfl) (by kernel_rfl) (by kernel_rfl) (fun _ _ _ h => h) (Or.inl ⟨by rfl, ?_⟩) (by assumption) ?_
          rotate_left
          focus (intro w hSw; (try dsimp only at hSw); go_simp; try (with_reducible rfl))
          try simp only [Act.put, List.setIfInBounds_toArray, List.set_cons_zero, List.set_cons_succ]
          refine wpAnyH_take (i := 10) (v := ?_) rfl (by kernel_rfl) (by kernel_rfl) (by kernel_rfl) (fun _ _ _ h => h) (Or.inl ⟨by rfl, ?_⟩) (by assumption) ?_
          rotate_left
          focus (intro w hSw; (try dsimp only at hSw); go_simp; try (with_reducible rfl))
          try simp only [Act.put, List.setIfInBounds_toArray, List.set_cons_zero, List.set_cons_succ]
          refine wpAnyH_take (i := 11) (v := ?_) rfl (by kernel_rfl) (by kernel_rfl) (by kernel_rfl) (fun _ _ _ h => h) (Or.inl ⟨by rfl, ?_⟩) (by assumption) ?_
          rotate_left
          focus (intro w hSw; (try dsimp only at hSw); go_simp; try (with_reducible rfl))
          try simp only [Act.put, List.setIfInBounds_toArray, List.set_cons_zero, List.set_cons_succ]
          refine wpAnyH_take (i := 12) (v := ?_) rfl (by kernel_rfl) (by kernel_rfl) (by kernel_rfl) (fun _ _ _ h => h) (Or.inl ⟨by rfl, ?_⟩) (by assumption) ?_
          rotate_left
          focus (intro w hSw; (try dsimp only at hSw); go_simp; try (with_reducible rfl))
          try simp only [Act.put, List.setIfInBounds_toArray, List.set_cons_zero, List.set_cons_succ]
          refine wpAnyH_take (i := 13) (v := ?_) rfl (by kernel_rfl) (by kernel_rfl) (by kernel_rfl) (fun _ _ _ h => h) (Or.inl ⟨by rfl, ?_⟩) (by assumption) ?_
          rotate_left
          focus (intro w hSw; (try dsimp only at hSw); go_simp; try (with_reducible rfl))
          try simp only [Act.put, List.setIfInBounds_toArray, List.set_cons_zero, List.set_cons_succ]
          refine wpAnyH_take (i := 14) (v := ?_) rfl (by kernel_rfl) (by kernel_rfl) (by kernel_rfl) (fun _ _ _ h => h) (Or.inl ⟨by rfl, ?_⟩) (by assumption) ?_
          rotate_left
          focus (intro w hSw; (try dsimp only at hSw); go_simp; try (with_reducible rfl))
          try simp only [Act.put, List.setIfInBounds_toArray, List.set_cons_zero, List.set_cons_succ]
          refine wpAnyH_take (i := 15) (v := ?_) rfl (by kernel_rfl) (by kernel_rfl) (by kernel_rfl) (fun _ _ _ h => h) (Or.inl ⟨by rfl, ?_⟩) (by assumption) ?_
          rotate_left
          focus (intro w hSw; (try dsimp only at hSw); go_simp; try (with_reducible rfl))
          try simp only [Act.put, List.setIfInBounds_toArray, List.set_cons_zero, List.set_cons_succ]
          refine wpAnyH_take (i := 16) (v := ?_) rfl (by kernel_rfl) (by kernel_rfl) (by kernel_rfl) (fun _ _ _ h => h) (Or.inl ⟨by rfl, ?_⟩) (by assumption) ?_
          rotate_left
          focus (intro w hSw; (try dsimp only at hSw); go_simp; try (with_reducible rfl))
          try simp only [Act.put, List.setIfInBounds_toArray, List.set_cons_zero, List.set_cons_succ]
          refine wpAnyH_take (i := 18) (v := ?_) rfl (by kernel_rfl) (by kernel_rfl) (by kernel_rfl) (fun _ _ _ h => h) (Or.inl ⟨by rfl, ?_⟩) (by assumption) ?_
          rotate_left
          focus (intro w hSw; (try dsimp only at hSw); go_simp; try (with_reducible rfl))
          try simp only [Act.put, List.setIfInBounds_toArray, List.set_cons_zero, List.set_cons_succ]
          refine wpAnyH_ready (rs := [17, 19]) (by kernel_rfl) (by simp) ?_
          refine AllReadyH.cons rfl (fun K hK => ?_) ?_
          · go_simp
            refine hK.out _ _ hHeld (fun hHeld => ?_)
            clear hK K
            try simp only [Act.put, List.setIfInBounds_toArray, List.set_cons_zero, List.set_cons_succ]
            refine wpAnyH_ready (rs := [19]) (by kernel_rfl) (by simp) ?_
            refine AllReadyH.cons rfl (fun K hK => ?_) ?_
            · go_simp
              refine hK.out _ _ ⟨(ca_old kbl.1 _).trans k0d, (ca_old kbl.2.1 _).trans isvd⟩ (fun hHeld => ?_)
              clear hK K
              try simp only [Act.put, List.setIfInBounds_toArray, List.set_cons_zero, List.set_cons_succ]
              refine wpAnyH_ready (rs := [20]) (by kernel_rfl) (by simp) ?_
              refine AllReadyH.cons rfl (fun K hK => ?_) ?_
              · refine step_append_lies _ (by rfl) _ _ _ (by rfl) W.heap.size 3 j0 _ 1 8 Tryd.underlying34 hj0 hy0 hy1 hy2 rfl (by decide) (.slice pF (wl x).length cF) (wl x).length (rw_ (wl x).length (lv (wl x))) (by rfl) (World.ownsRow.alloc (HWt.out.2.2.1.of_heap fun _ _ => rfl) _) ⟨_, 0, none⟩ 1 1 [.int .i64 (v : Int)] (by rfl) (by rfl) (World.news_of_block (heap_alloc_new _ _)) (fun u hu => by simp at hu; subst hu; rfl) (by decide) (by unfold maxLen; omega) (by omega) (by simp; omega) _ rfl ?_; intro gg cap8 w8 hown8 hgrow8 hor8 hlt8
                have HA8 : Apd wi.drew w8 (.slice pF (wl x).length cF) (.slice (some ⟨gg, 0, none⟩) ((wl x).length + 1) cap8) := apd_of hgrow8 (hor8.elim (fun h => .inl h.symm) (fun h => .inr (congrArg some h)))
                have HG8 : GV 3 W.heap.size w8 (.slice (some ⟨gg, 0, none⟩) ((wl x).length + 1) cap8) ((wl x).length + 1) (upd (lv (wl x)) (wl x).length (.int .i64 (v : Int))) := GV.more hown8
                have hm8 := cm_apd HX.out.2.tk (Cm.mk (HM.out.kl.like (X := wi.drew) rfl) HM.out.clb) HWt.out.2.2.2 HA8
                have hv8 := fv_apd (HWt.out.1.like (Y := wi.drew) rfl).fv HWt.out.1.w4 HWt.out.2.2.2 HA8
                have hf8 := hv8.frozen x
                have hc8 := hv8.cell hxm
                rw [HWt.out.2.1] at hc8
                have hq8 := (HX.out.2.like (Y := wi.drew) rfl rfl rfl rfl).app (HWt.out.1.like (Y := wi.drew) rfl) hxm (by rw [HWt.out.2.1]; exact HA8) HG8
                have HQ8 := Lib.hid hq8
                obtain ⟨lk8, k08, -⟩ := hm8.kl.facts
                have isv8 := hm8.kl.sem.cell hv
                simp only [iv, if_true] at isv8
                clear hv8 hq8 hm8 HA8 HG8 hown8 hgrow8 hor8 hlt8
                refine hK.out _ _ ⟨k08, isv8⟩ (fun hHeld => ?_)
                clear hK K
                try simp only [Act.put, List.setIfInBounds_toArray, List.set_cons_zero, List.set_cons_succ]
                refine wpAnyH_take (i := 21) (v := ?_) rfl (by kernel_rfl) (by kernel_rfl) (by kernel_rfl) (fun _ _ _ h => h) (Or.inl ⟨by rfl, ?_⟩) (by assumption) ?_
                rotate_left
                focus (intro w hSw; (try dsimp only at hSw); go_simp; try (with_reducible rfl))
                try simp only [Act.put, List.setIfInBounds_toArray, List.set_cons_zero, List.set_cons_succ]
                refine wpAnyH_ready (rs := [22]) (by kernel_rfl) (by simp) ?_
                refine AllReadyH.cons rfl (fun K hK => ?_) ?_
                · go_simp
                  refine hK.out _ _ ?_ (fun hHeld => ?_)
                  · obtain ⟨up9, bs9, hm9⟩ := HQ8.out.cm
                    have is9 := hm9.kl.sem.cell hv
                    simp only [iv, if_true] at is9
                    exact ⟨hm9.kl.facts.2.1, is9⟩
                  clear hK K
                  refine wpAnyH_done (by kernel_rfl) ?_ _
                  obtain ⟨W9, hW9⟩ : ∃ W9, w8.setCell ⟨bl + 1, x, none⟩ (.slice (some ⟨gg, 0, none⟩) ((wl x).length + 1) cap8) = W9 := ⟨_, rfl⟩
                  rw [hW9] at HQ8 ⊢
                  clear hHeld hf8 hc8 k08 isv8 lk8 hW9
                  obtain ⟨l, c0, c1, c2, c3, -⟩ := (hW.out.stay HQ8.out.bel).facts
                  obtain ⟨p2, q2, e2, hp2⟩ := (hW.out.stay HQ8.out.bel).fro.open
                  rw [e2] at c2
                  have hp2 := hp2.resolve_left (fun e => by omega)
                  obtain ⟨g2, rfl, -, hg2l, -, -, -, hg2c⟩ := hp2
                  have i2 := hg2c v hv
                  simp only [iv, fr_par hF.out.nb h0 hv] at i2
                  have hpv := hF.out.dfs.par_lt v h0 hv
                  obtain ⟨p, hpe⟩ : ∃ p, y.par v = p := ⟨_, rfl⟩
                  rw [hpe] at i2 hpv
                  have hpm : p < y.m := by omega
                  have HPe := Lib.hid hpe
                  obtain ⟨up9, bs9, hm9⟩ := HQ8.out.cm
                  obtain ⟨lk9, k09, k19, k29, -⟩ := hm9.kl.facts
                  have fu9 := hm9.kl.up.frozen v
                  have cu9 := hm9.kl.up.cell hv
                  simp only [iv] at cu9
                  have HQ10 := Lib.hid (HQ8.out.link (fun v h1 h2 => hF.out.dfs.par_lt v h1 h2) h0 hv)
                  rw [hpe] at HQ10
                  clear hg2c e2 hpe hm9
                  obtain ⟨W10, hW10⟩ : ∃ W10, W9.setCell ⟨k.u, v, none⟩ (.int .i64 (p : Int)) = W10 := ⟨_, rfl⟩
                  rw [hW10] at HQ10
                  obtain ⟨own9, s9, wl9, HP⟩ : ∃ own9 s9 wl9, Hid (Nq W W10 own9 k bl (bl + 1) ba bf b9 b3 y v s9 lf wl9 ∧ Nm y.m y.E y.par v s9 lf wl9 0 ∧ ∀ z, (wl9 z).length + (v - 1) ≤ y.m) := ⟨_, _, _, Lib.hid ⟨HQ10.out, HNm.out, fun z => by
                    have := HR.out.2.2 z
                    unfold upd
                    by_cases e : z = x
                    · subst e; rw [if_pos rfl, List.length_append]; simp; omega
                    · rw [if_neg e]; omega⟩⟩
                  obtain ⟨F9, hw9⟩ := HP.out.1.wt
                  have iw9 := hw9.fv.cell hpm
                  have hg9 := hw9.rw p hpm
                  have ht9 := hw9.tg p hpm
                  obtain ⟨p9, q9, e9, -⟩ := hg9.open
                  rw [e9] at iw9 hg9 ht9
                  have hWL := HP.out.2.2 p
                  obtain ⟨WL, hWLe⟩ : ∃ WL, wl9 p = WL := ⟨_, rfl⟩
                  rw [hWLe] at iw9 hg9 hWL e9
                  have HWL := Lib.hid hWLe
                  have HG9 := Lib.hid (And.intro hg9 ht9)
                  clear hw9 hg9 ht9 e9 hWLe HQ10
                  go_upto_region 15 with (fail)
                  try rw [hW10]
                  clear hW10 cu9 fu9 k09 k19 k29 lk9 i2 hg2l c0 c1 c2 c3 l HNm HQ8 HM HWt HS HX iwa iwd isvd k0d kbl iw fw lw isv k0 k1 k2 lk hbs hbs2 hwlx
                  go_wp2
                  go_loopw [127] (fun a wr => ∃ (i : Nat) (lf : Nat → Nat), a = .int .i64 i ∧ i ≤ WL.length ∧ Hid (Nq W wr own9 k bl (bl + 1) ba bf b9 b3 y v s9 lf wl9 ∧ Nm y.m y.E y.par v s9 lf wl9 i ∧ GV 3 W.heap.size wr (.slice p9 WL.length q9) WL.length (lv WL))) (fun a _ => WL.length - (intOf a).toNat)
                  case atStart => exact ⟨0, lf, rfl, Nat.zero_le _, Lib.hid ⟨HP.out.1, HP.out.2.1, HG9.out.1⟩⟩
                  case round =>
                    obtain ⟨wq, rfl⟩ : ∃ wo : World, wo = wr := ⟨_, rfl⟩
                    obtain ⟨i, lf, rfl, hi, HY⟩ := hrel
                    by_cases hlt : i < WL.length
                    · obtain ⟨u, hu⟩ : ∃ u, WL[i]? = some u := ⟨_, List.getElem?_eq_getElem hlt⟩
                      obtain ⟨hvu, hum, hsu⟩ := HY.out.2.1.wt p u (by rw [HWL.out]; exact List.mem_of_getElem? hu)
                      obtain ⟨pg, qg, eg, hgo⟩ := HY.out.2.2.open
                      cases eg
                      have hgo := hgo.resolve_left (fun e => by have := e.2; omega)
                      obtain ⟨g9, rfl, hog, hg9l, -, -, -, hg9c⟩ := hgo
                      have ir := hg9c i hlt
                      have elv : lv WL i = .int .i64 (u : Int) := by simp only [lv, List.getD_eq_getElem?_getD, hu, Option.getD_some]
                      rw [elv] at ir
                      clear hg9c elv
                      have il := HY.out.1.l.cell hum
                      have fl := HY.out.1.l.frozen u
                      simp only [iv] at il
                      have HQa := Lib.hid (HY.out.1.putL u p)
                      have HGa : Hid (GV 3 W.heap.size (wq.setCell ⟨bl, u, none⟩ (.int .i64 (p : Int))) (.slice (some ⟨g9, 0, none⟩) WL.length q9) WL.length (lv WL)) := Lib.hid (HY.out.2.2.setO (fun e => by have h1 := HG9.out.2 _ e; have h2 := HP.out.1.tk.l; omega) _ _)
                      obtain ⟨upa, bsa, hma⟩ := HQa.out.cm
                      have HCA := Lib.hid hma
                      have hPar : Hid (∀ v, 0 < v → v < y.m → y.par v < v) := Lib.hid hF.out.nb.par_lt
                      have HU := Lib.hid hu
                      clear hma hu
                      go_upto_region 20 with (go_at_call 42; ((with_reducible refine (find_any HCA hPar u hum (by omega)).mono ?_); rintro e5 w5 ⟨yy, up5, bs5, rfl, hm5, hf5, hc5⟩; have hq5 := HQa.out.found (bs := bs5) (up' := up5) hc5 hm5; have HG5 := Lib.hid (HGa.out.ch hc5 (fun g e hS => by have h1 := HG9.out.2 _ e; have h2 := HP.out.1.tk.ku; have h3 := HP.out.1.tk.kb; rcases hS with rfl | rfl <;> omega)); obtain ⟨lk5, k05, k15, k25, -⟩ := hm5.kl.facts; have hy5 := hf5.1; have isy5 := hm5.kl.sem.cell hy5; simp only [iv] at isy5; have il5 := hq5.l.cell hum; simp only [iv] at il5; have fl5 := hq5.l.frozen u; have HF5 := Lib.hid hf5; have HQ5 := Lib.hid hq5; clear hm5 hf5 hc5 hq5))
                      have stp : ∀ lf', (∀ z, lf' z = if z = u then (if s9 yy < p then yy else p) else lf z) → Nm y.m y.E y.par v s9 lf' wl9 (i + 1) := fun lf' h => HY.out.2.1.step hF.out.dfs h0 hv (by rw [HPe.out, HWL.out]; exact HU.out) HF5.out (fun z => by rw [HPe.out]; exact h z)
                      have HST := Lib.hid stp
                      clear stp
                      by_cases hc : s9 yy < p
                      · go_wp2
                        go_roundw
                        case rel => exact ⟨i + 1, _, by go_num, by omega, Lib.hid ⟨HQ5.out.putL u yy, HST.out _ (fun z => by unfold upd; by_cases e : z = u <;> simp [e, hc]), HG5.out.setO (fun e => by have h1 := HG9.out.2 _ e; have h2 := HP.out.1.tk.l; omega) _ _⟩⟩
                        case measure => (simp [intOf]; try omega)
                      · go_wp2
                        go_roundw
                        case rel => exact ⟨i + 1, _, by go_num, by omega, Lib.hid ⟨HQ5.out, HST.out _ (fun z => by unfold upd; by_cases e : z = u <;> simp [e, hc]), HG5.out⟩⟩
                        case measure => (simp [intOf]; try omega)
                    · obtain rfl : i = WL.length := by omega
                      have iz := HY.out.1.wt.choose_spec.fv.cell hpm
                      have fz := HY.out.1.wt.choose_spec.fv.frozen p
                      have hvv : v - 1 + 1 = v := by omega
                      have hN : Nm y.m y.E y.par (v - 1 + 1) s9 lf wl9 (wl9 (y.par (v - 1 + 1))).length := by rw [hvv, HPe.out, HWL.out]; exact HY.out.2.1
                      have HE := Lib.hid hN.end
                      rw [hvv, HPe.out] at HE
                      clear hN
                      go_wp2
                      go_roundw
                      case rel => exact ⟨v - 1, own9, s9, lf, _, by go_num, by omega, Lib.hid ⟨by rw [show v - 1 + 1 = v by omega]; exact HY.out.1.nil p, HE.out, fun z => by
                        have := HP.out.2.2 z
                        by_cases e : z = p
                        · rw [if_pos e]; simp; omega
                        · rw [if_neg e]; exact this⟩⟩
                      case measure => (simp [intOf]; try omega)
                · exact AllReadyH.nil
              · exact AllReadyH.nil
            · exact AllReadyH.nil
          refine AllReadyH.cons rfl (fun K hK => ?_) ?_
          · go_simp
            refine hK.out _ _ ⟨(ca_old kbl.1 _).trans k0d, (ca_old kbl.2.1 _).trans isvd⟩ (fun hHeld => ?_)
            clear hK K
            try simp only [Act.put, List.setIfInBounds_toArray, List.set_cons_zero, List.set_cons_succ]
            refine wpAnyH_ready (rs := [17]) (by kernel_rfl) (by simp) ?_
            refine AllReadyH.cons rfl (fun K hK => ?_) ?_
            · go_simp
              refine hK.out _ _ hHeld (fun hHeld => ?_)
              clear hK K
              try simp only [Act.put, List.setIfInBounds_toArray, List.set_cons_zero, List.set_cons_succ]
              refine wpAnyH_ready (rs := [20]) (by kernel_rfl) (by simp) ?_
              refine AllReadyH.cons rfl (fun K hK => ?_) ?_
              · refine step_append_lies _ (by rfl) _ _ _ (by rfl) W.heap.size 3 j0 _ 1 8 Tryd.underlying34 hj0 hy0 hy1 hy2 rfl (by decide) (.slice pF (wl x).length cF) (wl x).length (rw_ (wl x).length (lv (wl x))) (by rfl) (World.ownsRow.alloc (HWt.out.2.2.1.of_heap fun _ _ => rfl) _) ⟨_, 0, none⟩ 1 1 [.int .i64 (v : Int)] (by rfl) (by rfl) (World.news_of_block (heap_alloc_new _ _)) (fun u hu => by simp at hu; subst hu; rfl) (by decide) (by unfold maxLen; omega) (by omega) (by simp; omega) _ rfl ?_; intro gg cap8 w8 hown8 hgrow8 hor8 hlt8
                have HA8 : Apd wi.drew w8 (.slice pF (wl x).length cF) (.slice (some ⟨gg, 0, none⟩) ((wl x).length + 1) cap8) := apd_of hgrow8 (hor8.elim (fun h => .inl h.symm) (fun h => .inr (congrArg some h)))
                have HG8 : GV 3 W.heap.size w8 (.slice (some ⟨gg, 0, none⟩) ((wl x).length + 1) cap8) ((wl x).length + 1) (upd (lv (wl x)) (wl x).length (.int .i64 (v : Int))) := GV.more hown8
                have hm8 := cm_apd HX.out.2.tk (Cm.mk (HM.out.kl.like (X := wi.drew) rfl) HM.out.clb) HWt.out.2.2.2 HA8
                have hv8 := fv_apd (HWt.out.1.like (Y := wi.drew) rfl).fv HWt.out.1.w4 HWt.out.2.2.2 HA8
                have hf8 := hv8.frozen x
                have hc8 := hv8.cell hxm
                rw [HWt.out.2.1] at hc8
                have hq8 := (HX.out.2.like (Y := wi.drew) rfl rfl rfl rfl).app (HWt.out.1.like (Y := wi.drew) rfl) hxm (by rw [HWt.out.2.1]; exact HA8) HG8
                have HQ8 := Lib.hid hq8
                obtain ⟨lk8, k08, -⟩ := hm8.kl.facts
                have isv8 := hm8.kl.sem.cell hv
                simp only [iv, if_true] at isv8
                clear hv8 hq8 hm8 HA8 HG8 hown8 hgrow8 hor8 hlt8
                refine hK.out _ _ ⟨k08, isv8⟩ (fun hHeld => ?_)
                clear hK K
                try simp only [Act.put, List.setIfInBounds_toArray, List.set_cons_zero, List.set_cons_succ]
                refine wpAnyH_take (i := 21) (v := ?_) rfl (by kernel_rfl) (by kernel_rfl) (by kernel_rfl) (fun _ _ _ h => h) (Or.inl ⟨by rfl, ?_⟩) (by assumption) ?_
                rotate_left
                focus (intro w hSw; (try dsimp only at hSw); go_simp; try (with_reducible rfl))
                try simp only [Act.put, List.setIfInBounds_toArray, List.set_cons_zero, List.set_cons_succ]
                refine wpAnyH_ready (rs := [22]) (by kernel_rfl) (by simp) ?_
                refine AllReadyH.cons rfl (fun K hK => ?_) ?_
                · go_simp
                  refine hK.out _ _ ?_ (fun hHeld => ?_)
                  · obtain ⟨up9, bs9, hm9⟩ := HQ8.out.cm
                    have is9 := hm9.kl.sem.cell hv
                    simp only [iv, if_true] at is9
                    exact ⟨hm9.kl.facts.2.1, is9⟩
                  clear hK K
                  refine wpAnyH_done (by kernel_rfl) ?_ _
                  obtain ⟨W9, hW9⟩ : ∃ W9, w8.setCell ⟨bl + 1, x, none⟩ (.slice (some ⟨gg, 0, none⟩) ((wl x).length + 1) cap8) = W9 := ⟨_, rfl⟩
                  rw [hW9] at HQ8 ⊢
                  clear hHeld hf8 hc8 k08 isv8 lk8 hW9
                  obtain ⟨l, c0, c1, c2, c3, -⟩ := (hW.out.stay HQ8.out.bel).facts
                  obtain ⟨p2, q2, e2, hp2⟩ := (hW.out.stay HQ8.out.bel).fro.open
                  rw [e2] at c2
                  have hp2 := hp2.resolve_left (fun e => by omega)
                  obtain ⟨g2, rfl, -, hg2l, -, -, -, hg2c⟩ := hp2
                  have i2 := hg2c v hv
                  simp only [iv, fr_par hF.out.nb h0 hv] at i2
                  have hpv := hF.out.dfs.par_lt v h0 hv
                  obtain ⟨p, hpe⟩ : ∃ p, y.par v = p := ⟨_, rfl⟩
                  rw [hpe] at i2 hpv
                  have hpm : p < y.m := by omega
                  have HPe := Lib.hid hpe
                  obtain ⟨up9, bs9, hm9⟩ := HQ8.out.cm
                  obtain ⟨lk9, k09, k19, k29, -⟩ := hm9.kl.facts
                  have fu9 := hm9.kl.up.frozen v
                  have cu9 := hm9.kl.up.cell hv
                  simp only [iv] at cu9
                  have HQ10 := Lib.hid (HQ8.out.link (fun v h1 h2 => hF.out.dfs.par_lt v h1 h2) h0 hv)
                  rw [hpe] at HQ10
                  clear hg2c e2 hpe hm9
                  obtain ⟨W10, hW10⟩ : ∃ W10, W9.setCell ⟨k.u, v, none⟩ (.int .i64 (p : Int)) = W10 := ⟨_, rfl⟩
                  rw [hW10] at HQ10
                  obtain ⟨own9, s9, wl9, HP⟩ : ∃ own9 s9 wl9, Hid (Nq W W10 own9 k bl (bl + 1) ba bf b9 b3 y v s9 lf wl9 ∧ Nm y.m y.E y.par v s9 lf wl9 0 ∧ ∀ z, (wl9 z).length + (v - 1) ≤ y.m) := ⟨_, _, _, Lib.hid ⟨HQ10.out, HNm.out, fun z => by
                    have := HR.out.2.2 z
                    unfold upd
                    by_cases e : z = x
                    · subst e; rw [if_pos rfl, List.length_append]; simp; omega
                    · rw [if_neg e]; omega⟩⟩
                  obtain ⟨F9, hw9⟩ := HP.out.1.wt
                  have iw9 := hw9.fv.cell hpm
                  have hg9 := hw9.rw p hpm
                  have ht9 := hw9.tg p hpm
                  obtain ⟨p9, q9, e9, -⟩ := hg9.open
                  rw [e9] at iw9 hg9 ht9
                  have hWL := HP.out.2.2 p
                  obtain ⟨WL, hWLe⟩ : ∃ WL, wl9 p = WL := ⟨_, rfl⟩
                  rw [hWLe] at iw9 hg9 hWL e9
                  have HWL := Lib.hid hWLe
                  have HG9 := Lib.hid (And.intro hg9 ht9)
                  clear hw9 hg9 ht9 e9 hWLe HQ10
                  go_upto_region 15 with (fail)
                  try rw [hW10]
                  clear hW10 cu9 fu9 k09 k19 k29 lk9 i2 hg2l c0 c1 c2 c3 l HNm HQ8 HM HWt HS HX iwa iwd isvd k0d kbl iw fw lw isv k0 k1 k2 lk hbs hbs2 hwlx
                  go_wp2
                  go_loopw [127] (fun a wr => ∃ (i : Nat) (lf : Nat → Nat), a = .int .i64 i ∧ i ≤ WL.length ∧ Hid (Nq W wr own9 k bl (bl + 1) ba bf b9 b3 y v s9 lf wl9 ∧ Nm y.m y.E y.par v s9 lf wl9 i ∧ GV 3 W.heap.size wr (.slice p9 WL.length q9) WL.length (lv WL))) (fun a _ => WL.length - (intOf a).toNat)
                  case atStart => exact ⟨0, lf, rfl, Nat.zero_le _, Lib.hid ⟨HP.out.1, HP.out.2.1, HG9.out.1⟩⟩
                  case round =>
                    obtain ⟨wq, rfl⟩ : ∃ wo : World, wo = wr := ⟨_, rfl⟩
                    obtain ⟨i, lf, rfl, hi, HY⟩ := hrel
                    by_cases hlt : i < WL.length
                    · obtain ⟨u, hu⟩ : ∃ u, WL[i]? = some u := ⟨_, List.getElem?_eq_getElem hlt⟩
                      obtain ⟨hvu, hum, hsu⟩ := HY.out.2.1.wt p u (by rw [HWL.out]; exact List.mem_of_getElem? hu)
                      obtain ⟨pg, qg, eg, hgo⟩ := HY.out.2.2.open
                      cases eg
                      have hgo := hgo.resolve_left (fun e => by have := e.2; omega)
                      obtain ⟨g9, rfl, hog, hg9l, -, -, -, hg9c⟩ := hgo
                      have ir := hg9c i hlt
                      have elv : lv WL i = .int .i64 (u : Int) := by simp only [lv, List.getD_eq_getElem?_getD, hu, Option.getD_some]
                      rw [elv] at ir
                      clear hg9c elv
                      have il := HY.out.1.l.cell hum
                      have fl := HY.out.1.l.frozen u
                      simp only [iv] at il
                      have HQa := Lib.hid (HY.out.1.putL u p)
                      have HGa : Hid (GV 3 W.heap.size (wq.setCell ⟨bl, u, none⟩ (.int .i64 (p : Int))) (.slice (some ⟨g9, 0, none⟩) WL.length q9) WL.length (lv WL)) := Lib.hid (HY.out.2.2.setO (fun e => by have h1 := HG9.out.2 _ e; have h2 := HP.out.1.tk.l; omega) _ _)
                      obtain ⟨upa, bsa, hma⟩ := HQa.out.cm
                      have HCA := Lib.hid hma
                      have hPar : Hid (∀ v, 0 < v → v < y.m → y.par v < v) := Lib.hid hF.out.nb.par_lt
                      have HU := Lib.hid hu
                      clear hma hu
                      go_upto_region 20 with (go_at_call 42; ((with_reducible refine (find_any HCA hPar u hum (by omega)).mono ?_); rintro e5 w5 ⟨yy, up5, bs5, rfl, hm5, hf5, hc5⟩; have hq5 := HQa.out.found (bs := bs5) (up' := up5) hc5 hm5; have HG5 := Lib.hid (HGa.out.ch hc5 (fun g e hS => by have h1 := HG9.out.2 _ e; have h2 := HP.out.1.tk.ku; have h3 := HP.out.1.tk.kb; rcases hS with rfl | rfl <;> omega)); obtain ⟨lk5, k05, k15, k25, -⟩ := hm5.kl.facts; have hy5 := hf5.1; have isy5 := hm5.kl.sem.cell hy5; simp only [iv] at isy5; have il5 := hq5.l.cell hum; simp only [iv] at il5; have fl5 := hq5.l.frozen u; have HF5 := Lib.hid hf5; have HQ5 := Lib.hid hq5; clear hm5 hf5 hc5 hq5))
                      have stp : ∀ lf', (∀ z, lf' z = if z = u then (if s9 yy < p then yy else p) else lf z) → Nm y.m y.E y.par v s9 lf' wl9 (i + 1) := fun lf' h => HY.out.2.1.step hF.out.dfs h0 hv (by rw [HPe.out, HWL.out]; exact HU.out) HF5.out (fun z => by rw [HPe.out]; exact h z)
                      have HST := Lib.hid stp
                      clear stp
                      by_cases hc : s9 yy < p
                      · go_wp2
                        go_roundw
                        case rel => exact ⟨i + 1, _, by go_num, by omega, Lib.hid ⟨HQ5.out.putL u yy, HST.out _ (fun z => by unfold upd; by_cases e : z = u <;> simp [e, hc]), HG5.out.setO (fun e => by have h1 := HG9.out.2 _ e; have h2 := HP.out.1.tk.l; omega) _ _⟩⟩
                        case measure => (simp [intOf]; try omega)
                      · go_wp2
                        go_roundw
                        case rel => exact ⟨i + 1, _, by go_num, by omega, Lib.hid ⟨HQ5.out, HST.out _ (fun z => by unfold upd; by_cases e : z = u <;> simp [e, hc]), HG5.out⟩⟩
                        case measure => (simp [intOf]; try omega)
                    · obtain rfl : i = WL.length := by omega
                      have iz := HY.out.1.wt.choose_spec.fv.cell hpm
                      have fz := HY.out.1.wt.choose_spec.fv.frozen p
                      have hvv : v - 1 + 1 = v := by omega
                      have hN : Nm y.m y.E y.par (v - 1 + 1) s9 lf wl9 (wl9 (y.par (v - 1 + 1))).length := by rw [hvv, HPe.out, HWL.out]; exact HY.out.2.1
                      have HE := Lib.hid hN.end
                      rw [hvv, HPe.out] at HE
                      clear hN
                      go_wp2
                      go_roundw
                      case rel => exact ⟨v - 1, own9, s9, lf, _, by go_num, by omega, Lib.hid ⟨by rw [show v - 1 + 1 = v by omega]; exact HY.out.1.nil p, HE.out, fun z => by
                        have := HP.out.2.2 z
                        by_cases e : z = p
                        · rw [if_pos e]; simp; omega
                        · rw [if_neg e]; exact this⟩⟩
                      case measure => (simp [intOf]; try omega)
                · exact AllReadyH.nil
              · exact AllReadyH.nil
            · exact AllReadyH.nil
          · exact AllReadyH.nil
    · have hv0 : v = 0 := by omega
      subst hv0
      obtain ⟨up, bs, hm⟩ := HR.out.1.cm
      have HNear : Hid (∀ v, 0 < v → v < y.m → (lf v = s v ∧ Idom y.E v (s v)) ∨ (lf v ≠ s v ∧ 0 < lf v ∧ lf v < v ∧ ∀ i, Idom y.E (lf v) i → Idom y.E v i)) := Lib.hid fun v h1 h2 => HR.out.2.1.near hF.out.dfs h1 h2
      have H4 : Hid (Below W.heap.size W wo ∧ FV 3 wo bl y.m (iv fun i => lf i) ∧ FV 3 wo k.s y.m (iv fun i => s i) ∧ wo.cell? ⟨k.kb, 0, none⟩ = some (.slice (some ⟨k.s, 0, none⟩) y.m y.m)) := Lib.hid ⟨HR.out.1.bel, HR.out.1.l, hm.kl.sem, hm.kl.facts.2.1⟩
      have HT : Hid (bl ≠ k.s ∧ bl ≠ k.kb ∧ W.heap.size ≤ bl) := by
        have tk := HR.out.1.tk
        have h1 := tk.l
        have h2 := tk.ks
        have h3 := tk.kk
        exact Lib.hid ⟨fun e => by rw [e] at h1; omega, fun e => by rw [e] at h1; omega, tk.h4⟩
      clear hm HR
      go_wp2
      go_loopw [157] (fun a wr => ∃ (j : Nat) (g : Nat → Int) (I : Nat → Option Nat), a = .int .i64 j ∧ j ≤ y.m ∧ Hid ((Below W.heap.size W wr ∧ FV 3 wr bl y.m (iv g) ∧ FV 3 wr k.s y.m (iv fun i => s i) ∧ wr.cell? ⟨k.kb, 0, none⟩ = some (.slice (some ⟨k.s, 0, none⟩) y.m y.m)) ∧ (∀ z, j ≤ z → g z = lf z) ∧ (∀ z, z < j → g z = ov (I z)) ∧ (0 < j → I 0 = none) ∧ ∀ z, 0 < z → z < j → ∃ i, I z = some i ∧ Idom y.E z i)) (fun a _ => y.m - (intOf a).toNat)
      case atStart => exact ⟨0, fun i => lf i, fun _ => none, rfl, Nat.zero_le _, Lib.hid ⟨H4.out, fun _ _ => rfl, fun z h => absurd h (Nat.not_lt_zero _), fun h => absurd h (Nat.lt_irrefl _), fun z h1 h2 => absurd h2 (Nat.not_lt_zero _)⟩⟩
      case round =>
        obtain ⟨wq, rfl⟩ : ∃ wo : World, wo = wr := ⟨_, rfl⟩
        obtain ⟨j, g, I, rfl, hj, HY⟩ := hrel
        by_cases hlt : j < y.m
        · have hlm : y.m ≤ 1000000 := by omega
          have il := HY.out.1.2.1.cell hlt
          have fl := HY.out.1.2.1.frozen j
          by_cases hj0 : j = 0
          · subst hj0
            simp only [iv] at il
            have HN : Hid (FV 3 (wq.setCell ⟨bl, 0, none⟩ (.int .i64 (-1))) bl y.m (iv (upd g 0 (-1)))) := Lib.hid (iv_upd g 0 (-1) ▸ HY.out.1.2.1.set 0 (.int .i64 (-1)))
            go_wp2
            go_roundw
            case rel =>
              refine ⟨1, upd g 0 (-1), fun _ => none, by go_num, by omega, Lib.hid ⟨⟨HY.out.1.1.setCell (p := ⟨bl, 0, none⟩) HT.out.2.2 _, HN.out, HY.out.1.2.2.1.setO HT.out.1.symm _ _, (cs_other HT.out.2.1.symm _ _).trans HY.out.1.2.2.2⟩, fun z hz => ?_, fun z hz => ?_, fun _ => rfl, fun z h1 h2 => by omega⟩⟩
              · rw [upd_of (by omega)]; exact HY.out.2.1 z (Nat.zero_le _)
              · have : z = 0 := by omega
                subst this
                rw [upd_at]; rfl
            case measure => (simp [intOf]; try omega)
          · have hj1 : 0 < j := by omega
            have hjI : ¬ ((j : Int) = 0) := by omega
            have is := HY.out.1.2.2.1.cell hlt
            have kb := HY.out.1.2.2.2
            simp only [iv, HY.out.2.1 j (Nat.le_refl _)] at il is
            by_cases hc : lf j = s j
            · have HI : Hid (Idom y.E j (s j)) := Lib.hid ((HNear.out j hj1 hlt).elim (fun h => h.2) (fun h => absurd hc h.1))
              rw [hc] at il
              go_upto_region 29 with (fail)
              go_quiet (fail)
              go_wp2
              go_roundw
              case rel =>
                refine ⟨j + 1, g, upd I j (some (s j)), by go_num, by omega, Lib.hid ⟨⟨below_like HY.out.1.1 rfl rfl rfl rfl, HY.out.1.2.1.of_heap rfl, HY.out.1.2.2.1.of_heap rfl, HY.out.1.2.2.2⟩, fun z hz => HY.out.2.1 z (by omega), fun z hz => ?_, fun _ => by rw [upd_of (by omega)]; exact HY.out.2.2.2.1 hj1, fun z h1 h2 => ?_⟩⟩
                · by_cases e : z = j
                  · rw [e, upd_at, HY.out.2.1 j (Nat.le_refl _), hc]; rfl
                  · rw [upd_of e]; exact HY.out.2.2.1 z (by omega)
                · by_cases e : z = j
                  · rw [e, upd_at]; exact ⟨_, rfl, HI.out⟩
                  · rw [upd_of e]; exact HY.out.2.2.2.2 z h1 (by omega)
              case measure => (simp [intOf]; try omega)
            · obtain ⟨-, hq0, hqj, hqI⟩ := (HNear.out j hj1 hlt).resolve_left (fun h => hc h.1)
              obtain ⟨i, hIq, hdi⟩ := HY.out.2.2.2.2 (lf j) hq0 hqj
              have iq := HY.out.1.2.1.cell (i := lf j) (by omega)
              simp only [iv, HY.out.2.2.1 (lf j) hqj, hIq, ov] at iq
              have HI := Lib.hid (hqI i hdi)
              have hcI : ¬ ((lf j : Int) = (s j : Int)) := by omega
              have hqm : lf j < y.m := by omega
              have HN : Hid (∀ X : World, X.heap = wq.heap → X.os = wq.os → X.tape = wq.tape → X.output = wq.output → Below W.heap.size W (X.setCell ⟨bl, j, none⟩ (.int .i64 (i : Int))) ∧ FV 3 (X.setCell ⟨bl, j, none⟩ (.int .i64 (i : Int))) bl y.m (iv (upd g j i)) ∧ FV 3 (X.setCell ⟨bl, j, none⟩ (.int .i64 (i : Int))) k.s y.m (iv fun i => s i) ∧ (X.setCell ⟨bl, j, none⟩ (.int .i64 (i : Int))).cell? ⟨k.kb, 0, none⟩ = some (.slice (some ⟨k.s, 0, none⟩) y.m y.m)) := Lib.hid fun X e e1 e2 e3 => ⟨(below_like HY.out.1.1 e e1 e2 e3).setCell (p := ⟨bl, j, none⟩) HT.out.2.2 _, iv_upd g j i ▸ (HY.out.1.2.1.of_heap (X := X) (by rw [e])).set j (.int .i64 (i : Int)), (HY.out.1.2.2.1.of_heap (X := X) (by rw [e])).setO HT.out.1.symm _ _, (cs_other HT.out.2.1.symm _ _).trans ((World.cell?_of_block (a := ⟨k.kb, 0, none⟩) (by rw [e])).trans HY.out.1.2.2.2)⟩
              clear hqI hdi hIq
              go_upto_region 29 with (fail)
              go_quiet (fail)
              go_wp2
              go_roundw
              case rel =>
                refine ⟨j + 1, upd g j i, upd I j (some i), by go_num, by omega, Lib.hid ⟨HN.out _ rfl rfl rfl rfl, fun z hz => ?_, fun z hz => ?_, fun _ => by rw [upd_of (by omega)]; exact HY.out.2.2.2.1 hj1, fun z h1 h2 => ?_⟩⟩
                · rw [upd_of (by omega)]; exact HY.out.2.1 z (by omega)
                · by_cases e : z = j
                  · rw [e, upd_at, upd_at]; rfl
                  · rw [upd_of e, upd_of e]; exact HY.out.2.2.1 z (by omega)
                · by_cases e : z = j
                  · rw [e, upd_at]; exact ⟨_, rfl, HI.out⟩
                  · rw [upd_of e]; exact HY.out.2.2.2.2 z h1 (by omega)
              case measure => (simp [intOf]; try omega)
        · obtain rfl : j = y.m := by omega
          go_wp2
          go_ret
          exact ⟨bl, I, rfl, HY.out.1.2.1.to fun z hz => by rw [iv, iv, HY.out.2.2.1 z hz], ⟨HY.out.2.2.2.1, HY.out.2.2.2.2⟩, HT.out.2.2, HY.out.1.1⟩
end Go.Proofs.YtacgfjcdfgdpjaaDoor
