/- A code is walked depth first: graph.waysOf. -/
import Derived.Test.YtacgfjcdfgdpjaaDoorGe
import Derived.Test.YtacgfjcdfgdpjaaDoorGrp
import Derived.Deep.LoopGhost
import Derived.Deep.QuietTactic
import Derived.BigQuiet
namespace Go.Proofs.YtacgfjcdfgdpjaaDoor
set_option linter.unusedSimpArgs false
set_option linter.unusedVariables false
open Go Go.RowKit Gm

theorem outs_len (c : List Ic) (i : Nat) : (outs c i).length ≤ 2 := by
  unfold outs
  split
  · simp
  · rw [List.length_map]
    exact Nat.le_trans (List.length_filter_le _ _) (nextM_len _ _)
/-- A walk in memory. -/
structure Wg (W wr : World) (c : List Ic) (own : Nat → Nat) (d : Wv) (y : Wm) (bg : Nat) (vw : Value) (G st : Nat → Nat) (k : Nat) : Prop where
  ws : Ws wr own W.heap.size d y y.m y.m y.m
  gon : FV 3 wr bg c.length (iv fun v => G v)
  gB : W.heap.size ≤ bg
  g5 : own bg = 5
  wai : GV 3 W.heap.size wr vw k (iv fun i => st i)
  w6 : Tg own vw 6
  bel : Below W.heap.size W wr
/-- The ways of a code, in memory. -/
def WaysP (W : World) (c : List Ic) (e : Ending) (w' : World) : Prop := ∃ own d y, e = .returned (.pointer (some ⟨d.a, 0, none⟩)) ∧ Ws w' own W.heap.size d y y.m y.m y.m ∧ y.n = c.length ∧ (c = [] → y.m = 0) ∧ (c ≠ [] → Wf c y) ∧ Below W.heap.size W w'
/-- No ways yet. -/
def wm0 (n : Nat) : Wm := ⟨n, 0, fun _ => 0, fun _ => none, fun _ => none, fun _ => []⟩
theorem ws_new {W X : World} {own : Nat → Nat} {bN a n : Nat} (hN : FV 3 X bN n (iv fun _ => -1)) (hb : X.heap[a]? = some (.cells #[.slice none 0 0, .slice (some ⟨bN, 0, none⟩) n n, .slice none 0 0, .slice none 0 0] 42 (0, 0))) (h1 : W.heap.size ≤ bN) (h2 : W.heap.size ≤ a) (o1 : own bN = 1) (o2 : own a = 8) :
    Ws X own W.heap.size ⟨a, bN, .slice none 0 0, .slice none 0 0, .slice none 0 0, fun _ => .slice none 0 0⟩ (wm0 n) 0 0 0 :=
  ⟨hb, hN, GV.nil _ _ _ _, GV.nil _ _ _ _, GV.nil _ _ _ _, fun v hv => absurd hv (Nat.not_lt_zero v), h2, h1, o2, o1, fun g e => (by cases e), fun g e => (by cases e), fun g e => (by cases e), fun v hv => absurd hv (Nat.not_lt_zero v)⟩
theorem rep_minus (n : Nat) (hn : n ≤ 1000000) (W : World) : Calls Tryd.prog 36 #[.slice (some ⟨W.heap.size, 0, none⟩) 1 1, .int .i64 n] (W.alloc (.cells #[.int .i64 (-1)] 3)) (RepP (W.alloc (.cells #[.int .i64 (-1)] 3)) n (-1)) :=
  repeat_any n hn (by simp) (by rw [cell_of_row _ _ _ _ _ _ (heap_alloc_new W _)]; rfl)
set_option maxRecDepth 100000 in
set_option maxHeartbeats 1000000 in
theorem ways_none {W : World} (p : Option Addr) (cap n : Nat) (hn : n ≤ 1000000) (h0 : ((n : Int) == 0) = true) : Calls Tryd.prog 21 #[.slice p n cap] W (WaysP W []) := by
  have HN : Hid (n = 0) := Lib.hid (by simpa using h0)
  go_enter Tryd.func21, Tryd.ntmps21
  go_wp2
  go_step3
  go_wp2_with (go_at_call 36; ((with_reducible refine (rep_minus n hn _).mono ?_); rintro e w1 ⟨b, rfl, hf, hb, hle⟩; have HF := Lib.hid hf; have HB := Lib.hid hb; have HL := Lib.hid hle; clear hf hb hle))
  try rw [Exit.noGoto_ret]
  go_ret
  have hle := HL.out
  simp at hle
  refine ⟨fun b' => if b' = b then 1 else if b' = w1.heap.size then 8 else 9, ⟨w1.heap.size, b, .slice none 0 0, .slice none 0 0, .slice none 0 0, fun _ => .slice none 0 0⟩, wm0 n, rfl, ws_new (HF.out.alloc _) (heap_alloc_new w1 _) (by omega) (by have := HB.out.size; simp at this; omega) (if_pos rfl) (by rw [if_neg (by have := HF.out.lt; omega), if_pos rfl]), HN.out, fun _ => rfl, fun h => absurd rfl h, ?_⟩
  exact (below_ch (below1 W _) HB.out).alloc (by have := HB.out.size; simp at this; omega) _
theorem Wg.like {W X Y : World} {c : List Ic} {own : Nat → Nat} {d : Wv} {y : Wm} {bg : Nat} {vw : Value} {G st : Nat → Nat} {k : Nat} (h : Wg W X c own d y bg vw G st k) (e : Y.heap = X.heap) (e1 : Y.os = X.os) (e2 : Y.tape = X.tape) (e3 : Y.output = X.output) : Wg W Y c own d y bg vw G st k :=
  ⟨h.ws.like e, h.gon.of_heap (by rw [e]), h.gB, h.g5, h.wai.of_heap fun _ _ => by rw [e], h.w6, below_like h.bel e e1 e2 e3⟩
theorem gv_one {T : TypeId} {X : World} {B : Nat} (x : Value) (hB : B ≤ X.heap.size) (F : Nat → Value) (hF : F 0 = x) (hx : x.cells = #[x]) : GV T B (X.alloc (.cells #[x] T)) (.slice (some ⟨X.heap.size, 0, none⟩) 1 1) 1 F :=
  ⟨by simp [rw_], .inr ⟨X.heap.size, 1, #[x], rfl, hB, heap_alloc_new X _, Nat.le_refl _, by unfold maxLen; omega, rfl, by simp [rw_, hF]⟩⟩
section
variable {W X Y : World} {c : List Ic} {own : Nat → Nat} {d : Wv} {y : Wm} {bg : Nat} {vw : Value} {G st : Nat → Nat} {k : Nat}
/-- What is gone of one is put. -/
theorem Wg.setG (h : Wg W X c own d y bg vw G st k) (i x : Nat) : Wg W (X.setCell ⟨bg, i, none⟩ (.int .i64 (x : Int))) c own d y bg vw (upd G i x) st k := by
  refine ⟨h.ws.ch (S := fun b => b = bg) ((Ch.refl (fun b => b = bg) X).set (b := bg) (.inl rfl) _ _) (fun b _ e hm => ?_) (fun _ _ => rfl), ?_, h.gB, h.g5, h.wai.setO (fun e => ?_) _ _, h.w6, h.bel.setCell (p := ⟨bg, i, none⟩) h.gB _⟩
  · subst e
    have := hm.2
    have := h.g5
    omega
  · have := h.gon.set i (.int .i64 (x : Int))
    rw [iv_upd, nv_upd] at this
    exact this
  · have := h.w6 _ e
    have := h.g5
    omega
/-- One more waits. -/
theorem Wg.push {own' : Nat → Nat} {d' : Wv} {y' : Wm} {vw' : Value} {m : Nat} (h : Wg W X c own d y bg vw G st k) (hs : Ws Y own' W.heap.size d' y' y'.m y'.m y'.m) (h3 : ∀ b, b < X.heap.size → own' b = own b) (hc : Ch (mine own W.heap.size) X Y) {Z : World} (hz : Apd Y Z vw vw') (hg : GV 3 W.heap.size Z vw' (k + 1) (upd (iv fun i => st i) k (.int .i64 (m : Int)))) :
    Wg W Z c (tag own' Y.heap.size 6) d' y' bg vw' G (upd st k m) (k + 1) := by
  have hxy := hc.size
  have hbg := h.gon.lt
  have hoY : ∀ b, b < X.heap.size → tag own' Y.heap.size 6 b = own b := fun b hb => by rw [tag_lt (by omega), h3 b hb]
  have nm : ∀ b, b < Y.heap.size → vw.ownBlock = some b → ¬ mine own' W.heap.size b := fun b hb e hm => by
    have h1 := h.w6 b e
    have h2 := (h.wai.lt b e).2
    have := hm.2
    rw [h3 b h2, h1] at this
    omega
  refine ⟨hs.ch hz.1 nm (fun b hb => tag_lt hb), (h.gon.ch hc fun hm => ?_).ch hz.1 (fun e => ?_), h.gB, by rw [hoY bg hbg]; exact h.g5, ?_, ?_, ?_⟩
  · have := hm.2
    have := h.g5
    omega
  · have := h.w6 _ e
    have := h.g5
    omega
  · rw [iv_upd, nv_upd] at hg
    exact hg
  · intro g e
    rcases hz.2 with h1 | ⟨g', h1, h2⟩
    · rw [h1] at e
      rw [hoY g (h.wai.lt g e).2]
      exact h.w6 g e
    · rw [h1] at e
      cases e
      exact tag_ge h2
  · exact h.bel.trans (((hc.mono (T := fun b => W.heap.size ≤ b) fun b _ hm => hm.1).trans (hz.1.mono fun b _ e => (by
      by_cases hbx : b < X.heap.size
      · exact (h.wai.lt b e).1
      · have := h.bel.size; omega))).below (by have := h.bel.size; omega) fun b hb hm => by omega)
/-- The last one waits no more. -/
theorem Wg.pop {p : Option Addr} {cap : Nat} (h : Wg W X c own d y bg (.slice p (k + 1) cap) G st (k + 1)) : Wg W X c own d y bg (.slice p k cap) G st k :=
  ⟨h.ws, h.gon, h.gB, h.g5, h.wai.cut (Nat.le_succ k), fun g e => h.w6 g (by cases p <;> exact e), h.bel⟩
end
set_option maxRecDepth 100000 in
set_option maxHeartbeats 4000000 in
theorem ways_some {W : World} {c : List Ic} (p : Option Addr) (cap : Nat) (hn : c.length ≤ 1000000) (h0 : ((c.length : Int) == 0) = false) (hc : Hid (CodeAt W p c)) (T : Hid (Kinds W)) : Calls Tryd.prog 21 #[.slice p c.length cap] W (WaysP W c) := by
  have hmk := make_i c.length (by omega)
  have hpos : 0 < c.length := by
    have : ¬ (c.length : Int) = 0 := by simpa using h0
    omega
  go_enter Tryd.func21, Tryd.ntmps21
  go_wp2
  go_step3
  go_upto_region 5 with (go_at_call 36; ((with_reducible refine (rep_minus c.length hn _).mono ?_); rintro e w1 ⟨b, rfl, hf, hb, hle⟩; have HF := Lib.hid hf; have HB := Lib.hid hb; have HL := Lib.hid hle; clear hf hb hle))
  refine name_world ?_
  intro W2 hW2
  obtain ⟨a, ha⟩ : ∃ a, w1.heap.size = a := ⟨_, rfl⟩
  have hle := HL.out
  have hbs := HB.out.size
  have hbl := HF.out.lt
  simp only [World.alloc, Array.size_push] at hle hbs
  obtain ⟨own0, hO1, hO8, hO5⟩ : ∃ own0 : Nat → Nat, own0 b = 1 ∧ own0 a = 8 ∧ own0 (a + 1) = 5 := ⟨fun x => if x = b then 1 else if x = a then 8 else if x = a + 1 then 5 else 9, if_pos rfl, by show (if a = b then 1 else if a = a then 8 else _) = 8; rw [if_neg (by omega), if_pos rfl], by show (if a + 1 = b then 1 else if a + 1 = a then 8 else if a + 1 = a + 1 then 5 else 9) = 5; rw [if_neg (by omega), if_neg (by omega), if_pos rfl]⟩
  have HO5 := Lib.hid hO5
  have HS2 : Hid (Ws W2 own0 W.heap.size ⟨a, b, .slice none 0 0, .slice none 0 0, .slice none 0 0, fun _ => .slice none 0 0⟩ (wm0 c.length) 0 0 0) := Lib.hid (by
    rw [hW2]
    refine ws_new ((HF.out.alloc _).alloc _) ?_ (by omega) (by omega) hO1 hO8
    rw [← ha]
    exact (Below.heap_alloc _ _ _ (by simp)).trans (heap_alloc_new w1 _))
  have HG2 : Hid (FV 3 W2 (a + 1) c.length (iv fun _ => 0)) := Lib.hid (by rw [hW2]; exact FV.new (by simp [ha]) (by simp; rfl))
  have HB2 : Hid (Below W.heap.size W W2) := Lib.hid (by rw [hW2]; exact ((below_ch (below1 W _) HB.out).alloc (by omega) _).alloc (by simp; omega) _)
  have HZ2 : Hid (W2.heap.size = a + 2 ∧ W.heap.size ≤ a ∧ b < a) := Lib.hid ⟨by rw [hW2]; simp [ha], by omega, by omega⟩
  have HC2 : Hid (Calls Tryd.prog 37 #[.pointer (some ⟨a, 0, none⟩), .slice p c.length cap, .int .i64 0, .int .i64 (-1)] W2 (ComeP W2 own0 W.heap.size ⟨a, b, .slice none 0 0, .slice none 0 0, .slice none 0 0, fun _ => .slice none 0 0⟩ (wm0 c.length) c 0 none)) :=
    Lib.hid (come_any HS2 HB2 hc (Lib.hid rfl) T (by simp [wm0]) hn hpos none)
  rw [ha]
  clear hO1 hO8 hO5 hW2 ha hle hbs hbl HF HB HL
  go_wp2_with (go_at_call 37; ((with_reducible refine HC2.out.mono ?_); rintro e w3 hp; obtain ⟨d', own', rfl, hs3, hd3, ho3, ho4, hc3⟩ := hp; have H3 := Lib.hid (And.intro hs3 (And.intro hd3 (And.intro ho3 (And.intro ho4 hc3)))); clear hs3 hd3 ho3 ho4 hc3))
  go_step3
  go_wp2
  obtain ⟨hs3, hd3, ho3, ho4, hc3⟩ := H3.out
  have h3s := hc3.size
  obtain ⟨hz2, hz3, hz4⟩ := HZ2.out
  have HD0 : Hid (Dg c ((wm0 c.length).more c 0 none) (fun _ => 0) 1 (fun _ => 0)) := Lib.hid (Dg.start hpos rfl rfl (fun _ => rfl) (fun _ => rfl) rfl)
  have HW0 : Hid (Wg W (w3.alloc (.cells #[.int .i64 ((wm0 c.length).m : Int)] 3)) c (tag own' w3.heap.size 6) d' ((wm0 c.length).more c 0 none) (a + 1) (.slice (some ⟨w3.heap.size, 0, none⟩) 1 1) (fun _ => 0) (fun _ => 0) 1) := Lib.hid (by
    refine ⟨(hs3.tags fun b hb => tag_lt hb).stay (below1 _ _), ((HG2.out.ch hc3 fun hm => ?_).alloc _).to fun i _ => rfl, by omega, ?_, gv_one _ (by omega) _ rfl rfl, fun g e => ?_, (HB2.out.trans (hc3.below HB2.out.size fun b hb hm => by have := hm.1; omega)).alloc (by omega) _⟩
    · have := hm.2
      rw [HO5.out] at this
      omega
    · rw [tag_lt (by omega), ho3 _ (by omega)]; exact HO5.out
    · cases e; exact tag_ge (Nat.le_refl _))
  have HDA : Hid (d'.a = a) := Lib.hid hd3
  have hbase : W.heap.size ≤ a := HZ2.out.2.1
  clear hs3 hd3 ho3 ho4 hc3 h3s hz2 hz3 hz4 H3 HC2 HS2 HG2
  go_loopg [5] (2 * c.length) (fun gk v5 wr => ∃ (own : Nat → Nat) (d : Wv) (y : Wm) (pw : Option Addr) (cpw : Nat) (G st : Nat → Nat) (k : Nat), v5 = .slice pw k cpw ∧ d.a = a ∧ Hid (gk + 2 * y.m = 2 * c.length + 1 + k) ∧ Hid (Wg W wr c own d y (a + 1) (.slice pw k cpw) G st k ∧ Dg c y G k st))
  case atStart => exact ⟨_, d', _, _, _, _, _, _, rfl, HDA.out, Lib.hid rfl, Lib.hid ⟨HW0.out, HD0.out⟩⟩
  case round =>
    clear HD0 HW0
    obtain ⟨wo, rfl⟩ : ∃ wo : World, wo = wr := ⟨_, rfl⟩
    obtain ⟨gO, rfl⟩ : ∃ gO, gO = gk := ⟨_, rfl⟩
    obtain ⟨own, d, y, pw, cpw, G, st, k, rfl, hda, HK, HR⟩ := hrel
    rcases k with - | k
    · go_wp2
      try rw [Exit.noGoto_ret]
      go_ret
      exact ⟨own, d, y, by rw [hda]; rfl, HR.out.1.ws, HR.out.2.nb.n, fun e => by rw [e] at hpos; exact absurd hpos (Nat.lt_irrefl _), fun _ => HR.out.2.end, HR.out.1.bel⟩
    · have hym := HR.out.2.nb.le
      have hlm := HR.out.2.stm k (by omega)
      obtain ⟨pp', cap', hpe, hpo⟩ := HR.out.1.wai.open
      cases hpe
      have hpo := hpo.resolve_left (fun e => by omega)
      obtain ⟨gw, rfl, -, hgwl, -, hpcap, -, hpc⟩ := hpo
      have ip := hpc k (by omega)
      simp only [iv] at ip
      obtain ⟨last, hlast⟩ : ∃ last, st k = last := ⟨_, rfl⟩
      rw [hlast] at hlm ip
      have HL := Lib.hid hlast
      have hkl : k ≤ last := hlast ▸ HR.out.2.ge k (by omega)
      have hln : last < c.length := by omega
      have HI : Hid ((((k + 1 : Nat) : Int) - 1).toNat = k) := Lib.hid (by omega)
      clear hlast hpc
      go_wp2
      go_loopg [5, 7] ((y.ot last).length - G last) (fun gi v5 _ wi => ∃ G, v5 = .slice (some ⟨gw, 0, none⟩) (k + 1) cpw ∧ Hid (gi + G last = (y.ot last).length) ∧ Hid (Wg W wi c own d y (a + 1) (.slice (some ⟨gw, 0, none⟩) (k + 1) cpw) G st (k + 1) ∧ Dg c y G (k + 1) st))
      case atStart => exact ⟨G, rfl, Lib.hid (by have := HR.out.2.gle last hlm; omega), Lib.hid HR.out⟩
      case round =>
        obtain ⟨wi', rfl⟩ : ∃ wi' : World, wi' = wr := ⟨_, rfl⟩
        obtain ⟨gi, rfl⟩ : ∃ gi, gi = gk := ⟨_, rfl⟩
        clear HR ip
        obtain ⟨G, rfl, HGI, HR⟩ := hrel
        obtain ⟨l, c0, c1, c2, c3, f0, f2, f3⟩ := HR.out.1.ws.facts
        rw [hda] at l c0 c1 c2 c3
        have hyn := HR.out.2.nb.n
        rw [hyn] at c1
        obtain ⟨p3, q3, e3, h3⟩ := HR.out.1.ws.tor.open
        have h3 := h3.resolve_left (fun e => by omega)
        obtain ⟨g3, rfl, -, hg3l, -, -, -, h3c⟩ := h3
        rw [e3] at c3
        have i3 := h3c last hlm
        obtain ⟨pr, qr, er, hr⟩ := (HR.out.1.ws.row last hlm).open
        rw [er] at i3
        have ig := HR.out.1.gon.cell hln
        simp only [iv] at ig
        have fg := HR.out.1.gon.frozen last
        obtain ⟨gl, hgl⟩ : ∃ gl, G last = gl := ⟨_, rfl⟩
        obtain ⟨len, hlen⟩ : ∃ len, (y.ot last).length = len := ⟨_, rfl⟩
        have hle := HR.out.2.gle last hlm
        have hl2 : (y.ot last).length ≤ 2 := by rw [HR.out.2.nb.ot last hlm]; exact outs_len _ _
        rw [hgl] at ig hle
        rw [hlen] at i3 hr hle hl2
        have HGL := Lib.hid (And.intro hgl hlen)
        clear hgl hlen hyn e3 er h3c
        by_cases hlt : gl < len
        · have hq : decide (gl < len) = true := by simpa using hlt
          have hr := hr.resolve_left (fun e => by omega)
          obtain ⟨gr, rfl, -, hgrl, -, -, -, hrc⟩ := hr
          have ir := hrc gl hlt
          obtain ⟨at_, hat⟩ : ∃ at_, (y.ot last)[gl]? = some at_ := ⟨_, List.getElem?_eq_getElem (by rw [HGL.out.2]; exact hlt)⟩
          have hatn : at_ < c.length := by
            have := List.mem_of_getElem? hat
            rw [HR.out.2.nb.ot last hlm] at this
            exact (outs_lt this).2
          have elv : lv (y.ot last) gl = .int .i64 (at_ : Int) := by simp only [lv, List.getD_eq_getElem?_getD, hat]; rfl
          rw [elv] at ir
          have iN := HR.out.1.ws.num.cell (i := at_) (by rw [HR.out.2.nb.n]; exact hatn)
          simp only [iv] at iN
          have hnN : d.bN ≠ a + 1 := fun e => by have h1 := HR.out.1.g5; have h2 := HR.out.1.ws.t1; rw [e] at h2; omega
          have hna : a ≠ a + 1 := by omega
          have lN := HR.out.1.ws.num.lt
          have lG := HR.out.1.gon.lt
          have HAT := Lib.hid hat
          clear hat elv hrc
          obtain ⟨o, ho⟩ : ∃ o, y.num at_ = o := ⟨_, rfl⟩
          rw [ho] at iN
          have HO := Lib.hid ho
          clear ho
          rcases o with - | w
          · simp only [ov] at iN
            go_wp2
            go_quiet (fail)
            go_wp2
            go_quiet (fail)
            go_upto_region 12 with (fail)
            refine name_world ?_
            intro W6 hW6
            have HW6 : Hid (Wg W W6 c own d y (a + 1) (.slice (some ⟨gw, 0, none⟩) (k + 1) cpw) (upd G last (G last + 1)) st (k + 1)) := Lib.hid (by
              rw [hW6]
              refine Wg.like (X := wi'.setCell ⟨a + 1, last, none⟩ (.int .i64 ((gl + 1 : Nat) : Int))) ?_ rfl rfl rfl rfl
              rw [HGL.out.1]
              exact HR.out.1.setG last (gl + 1))
            have HD6 : Hid (Dg c (y.more c at_ (some last)) (upd G last (G last + 1)) (k + 1 + 1) (upd st (k + 1) y.m)) := Lib.hid (HR.out.2.push (by omega) (by rw [Nat.add_sub_cancel]; exact HL.out) (by rw [HGL.out.1]; exact HAT.out) HO.out)
            have HCm : Hid (Calls Tryd.prog 37 #[.pointer (some ⟨a, 0, none⟩), .slice p c.length cap, .int .i64 at_, .int .i64 last] W6 (ComeP W6 own W.heap.size d y c at_ (some last))) := Lib.hid (by
              have := come_any (cap := cap) (Lib.hid HW6.out.ws) (Lib.hid HW6.out.bel) hc (Lib.hid HR.out.2.nb.n) T (by omega) hn hatn (some last)
              rw [hda] at this
              exact this)
            obtain ⟨i0, hi, hz0, hz1, hz2⟩ := info_parts info_int
            clear hW6 l c0 c1 c2 c3 f0 f2 f3 i3 ig fg ir iN lN lG hg3l hgrl hr hgwl
            go_wp2_with (first
              | (go_at_call 37; ((with_reducible refine HCm.out.mono ?_); rintro e7 w7 hp7; obtain ⟨d7, own7, rfl, hs7, hd7, ho7, ho8, hc7⟩ := hp7; have H7 := Lib.hid (And.intro hs7 (And.intro hd7 (And.intro ho7 (And.intro ho8 hc7)))); have HV7 : Hid (GV 3 W.heap.size w7 (.slice (some ⟨gw, 0, none⟩) (k + 1) cpw) (k + 1) (iv fun i => st i)) := Lib.hid (HW6.out.wai.ch hc7 (fun g e hm => by have h1 := HW6.out.w6 g e; have h2 := hm.2; omega)); have hz7 : W.heap.size ≤ w7.heap.size := (by have h1 := hc7.size; have h2 := HW6.out.bel.size; omega); clear hs7 hd7 ho7 ho8 hc7))
              | (at_builtin; refine wpList_append_own_at _ rfl _ _ 34 rfl W.heap.size 3 i0 (.int .i64 0) 1 8 Tryd.underlying34 hi hz0 hz1 hz2 rfl (by decide) (.slice (some ⟨gw, 0, none⟩) (k + 1) cpw) (k + 1) (rw_ (k + 1) (iv fun i => st i)) rfl (World.ownsRow.alloc HV7.out _) ⟨w7.heap.size, 0, none⟩ 1 1 [.int .i64 (y.m : Int)] rfl rfl (cell_one_new _ _ _) (fun u hu => by simp at hu; subst hu; rfl) (by unfold maxLen; omega) (by omega) (by simp; omega) ?_; intro v8 w8 hown hgrow _ hats; have HG8 : Hid (GV 3 W.heap.size w8 v8 (k + 1 + 1) (upd (iv fun i => st i) (k + 1) (.int .i64 (y.m : Int)))) := Lib.hid (GV.more hown); have HA8 : Hid (Apd w7 w8 (.slice (some ⟨gw, 0, none⟩) (k + 1) cpw) v8) := Lib.hid (apd_of hgrow hats); clear hown hgrow hats))
            obtain ⟨q8, cp8, rfl, -⟩ := HG8.out.open
            go_roundg (gO - 1)
            case rel =>
              obtain ⟨hs7, hd7, ho7, ho8, hc7⟩ := H7.out
              have h1 := HK.out
              exact ⟨_, d7, y.more c at_ (some last), q8, cp8, _, _, k + 1 + 1, rfl, hd7.trans hda, Lib.hid (by show gO - 1 + 2 * (y.m + 1) = _; omega), Lib.hid ⟨HW6.out.push hs7 ho7 hc7 HA8.out HG8.out, HD6.out⟩⟩
            case measure => have := HK.out; omega
          · simp only [ov] at iN
            have ne1 : ((w : Int) == -1) = false := by simp
            have HW6 : Hid (Wg W (wi'.setCell ⟨a + 1, last, none⟩ (.int .i64 ((gl + 1 : Nat) : Int))) c own d y (a + 1) (.slice (some ⟨gw, 0, none⟩) (k + 1) cpw) (upd G last (G last + 1)) st (k + 1)) := Lib.hid (by rw [HGL.out.1]; exact HR.out.1.setG last (gl + 1))
            have HD6 : Hid (Dg c y (upd G last (G last + 1)) (k + 1) st) := Lib.hid (HR.out.2.skip (by omega) (by rw [Nat.add_sub_cancel]; exact HL.out) (by rw [HGL.out.1]; exact HAT.out) HO.out)
            go_wp2
            go_quiet (fail)
            go_wp2
            go_quiet (fail)
            go_wp2
            go_roundg (gi - 1)
            case rel => exact ⟨_, rfl, Lib.hid (by have h1 := HGI.out; have h2 := HGL.out; rw [upd_at]; omega), Lib.hid ⟨HW6.out.like rfl rfl rfl rfl, HD6.out⟩⟩
            case measure => have h1 := HGI.out; have h2 := HGL.out; omega
        · have hq : decide (gl < len) = false := by simpa using hlt
          have heq : gl = len := by omega
          clear hlt
          go_wp2
          go_quiet (fail)
          go_wp2
          go_roundg (gO - 1)
          case rel =>
            have hk1 := HK.out
            exact ⟨own, d, y, some ⟨gw, 0, none⟩, cpw, G, st, k, rfl, hda, Lib.hid (by omega), Lib.hid ⟨HR.out.1.pop.like rfl rfl rfl rfl, HR.out.2.pop (by rw [HL.out, HGL.out.1, HGL.out.2]; exact heq)⟩⟩
          case measure => have := HK.out; omega
/-- graph.waysOf, of any code. -/
theorem ways_any {W : World} {c : List Ic} (p : Option Addr) (cap : Nat) (hn : c.length ≤ 1000000) (hc : Hid (CodeAt W p c)) (T : Hid (Kinds W)) : Calls Tryd.prog 21 #[.slice p c.length cap] W (WaysP W c) := by
  by_cases h : c.length = 0
  · have e : c = [] := List.eq_nil_of_length_eq_zero h
    have := ways_none (W := W) p cap c.length hn (by simpa using h)
    rw [← e] at this
    exact this
  · exact ways_some p cap hn (by simpa using h) hc T
end Go.Proofs.YtacgfjcdfgdpjaaDoor
