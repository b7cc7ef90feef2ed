/- The document's own ways without a place: palingref14.without; its Reach. -/
import Derived.Test.YtacgfjcdfgdpjaaDoorGax
namespace Go.Proofs.YtacgfjcdfgdpjaaDoor
set_option linter.unusedSimpArgs false
set_option linter.unusedVariables false
open Go Go.RowKit Gm

theorem next_c {W : World} {p : Option Addr} {cap : Nat} {c : List Ic} (hc : Hid (CodeAt W p c)) (hn : c.length ≤ 1000000) {i : Nat} (hi : i < c.length) :
    Calls Tryd.prog 27 #[.slice p c.length cap, .int .i64 i] W fun e w' => ∃ v, e = .returned v ∧ GV 3 W.heap.size w' v (outs c i).length (lv (outs c i)) ∧ Below W.heap.size W w' := by
  have hx : c[i]? = some c[i] := List.getElem?_eq_getElem hi
  refine (refnext_any hc hn (Lib.hid hx)).mono ?_
  rintro e w' ⟨v, rfl, hr, hb⟩
  refine ⟨v, rfl, ?_, hb⟩
  rw [inn_outs hx] at hr
  have := hr.gv
  rw [List.length_map] at this
  exact this.to fun j hj => by simp [iv, lv, hj]
/-- What is seen, and what is to be gone on from. -/
structure Wk (c : List Ic) (A : Nat → Prop) (s : Nat) (g : Nat → Bool) (L : List Nat) : Prop where
  nd : L.Nodup
  lt : ∀ x, x ∈ L → x < c.length
  g : ∀ x, g x = true ↔ x ∈ L
  way : ∀ x, x ∈ L → Gm.Way (Ed c) A s x
  fst : s ∈ L
theorem nodup_len {n : Nat} {L : List Nat} (hd : L.Nodup) (hl : ∀ x, x ∈ L → x < n) : L.length ≤ n := by
  have hp : (L.mergeSort fun x y => decide (x ≤ y)).Perm L := List.mergeSort_perm _ _
  have hs : (L.mergeSort fun x y => decide (x ≤ y)).Pairwise fun x y => decide (x ≤ y) = true := List.pairwise_mergeSort (fun a b c h1 h2 => by simp at h1 h2 ⊢; omega) (fun a b => by simp; omega) _
  have hlt : (L.mergeSort fun x y => decide (x ≤ y)).Pairwise fun x y => x < y := (hs.and (hp.nodup_iff.2 hd)).imp fun ⟨a, b⟩ => by
    simp at a
    omega
  have := up_len n _ 0 hlt fun x hx => ⟨Nat.zero_le _, hl x (hp.mem_iff.1 hx)⟩
  rw [hp.length_eq] at this
  omega
/-- All that the first ones lead to is seen. -/
def Dn (c : List Ic) (A : Nat → Prop) (L : List Nat) (i : Nat) : Prop := ∀ j x, j < i → L[j]? = some x → ∀ y, y ∈ outs c x → A y → y ∈ L
/-- .. and of the next one the first ones. -/
def Dn1 (A : Nat → Prop) (L O : List Nat) (k : Nat) : Prop := ∀ q y, q < k → O[q]? = some y → A y → y ∈ L
section
variable {c : List Ic} {A : Nat → Prop} {s : Nat} {g : Nat → Bool} {L : List Nat}
theorem Wk.add (h : Wk c A s g L) {x y : Nat} (hx : x ∈ L) (hy : y ∈ outs c x) (hA : A y) (hn : y ∉ L) : Wk c A s (upd g y true) (L ++ [y]) := by
  refine ⟨?_, fun z hz => ?_, fun z => ?_, fun z hz => ?_, List.mem_append.2 (.inl h.fst)⟩
  · rw [List.nodup_append]
    refine ⟨h.nd, by simp, fun a ha b hb => ?_⟩
    have : b = y := by simpa using hb
    rw [this]
    exact fun e => hn (e ▸ ha)
  · rcases List.mem_append.1 hz with hz | hz
    · exact h.lt z hz
    · have : z = y := by simpa using hz
      rw [this]
      exact (outs_lt hy).2
  · by_cases e : z = y
    · rw [e, upd_at]
      simp
    · rw [upd_of e, h.g]
      simp [e]
  · rcases List.mem_append.1 hz with hz | hz
    · exact h.way z hz
    · have : z = y := by simpa using hz
      rw [this]
      exact (h.way x hx).snoc hy hA
theorem Dn.more {i : Nat} (h : Dn c A L i) (hi : i ≤ L.length) (y : Nat) : Dn c A (L ++ [y]) i := fun j x hj hx z hz hA => by
  rw [List.getElem?_append_left (by omega)] at hx
  exact List.mem_append.2 (.inl (h j x hj hx z hz hA))
theorem Dn1.yes {O : List Nat} {k y : Nat} (h : Dn1 A L O k) (hy : O[k]? = some y) : Dn1 A (L ++ [y]) O (k + 1) := fun q z hq hz hA => by
  by_cases e : q = k
  · rw [e, hy] at hz
    cases hz
    simp
  · exact List.mem_append.2 (.inl (h q z (by omega) hz hA))
theorem Dn1.no {O : List Nat} {k y : Nat} (h : Dn1 A L O k) (hy : O[k]? = some y) (hn : A y → y ∈ L) : Dn1 A L O (k + 1) := fun q z hq hz hA => by
  by_cases e : q = k
  · rw [e, hy] at hz
    cases hz
    exact hn hA
  · exact h q z (by omega) hz hA
theorem Dn.next {i x : Nat} (h : Dn c A L i) (hx : L[i]? = some x) (h1 : Dn1 A L (outs c x) (outs c x).length) : Dn c A L (i + 1) := fun j z hj hz y hy hA => by
  by_cases e : j = i
  · rw [e, hx] at hz
    cases hz
    obtain ⟨q, hq, e2⟩ := List.mem_iff_getElem.1 hy
    exact h1 q y hq (by rw [List.getElem?_eq_getElem hq, e2]) hA
  · exact h j z (by omega) hz y hy hA
theorem Wk.full (h : Wk c A s g L) (hd : Dn c A L L.length) (z : Nat) : g z = true ↔ Gm.Way (Ed c) A s z := by
  rw [h.g]
  refine ⟨h.way z, fun k => k.closed (S := fun z => z ∈ L) h.fst fun x y hx _ e hA => ?_⟩
  obtain ⟨j, hj, e2⟩ := List.mem_iff_getElem.1 hx
  exact hd j x hj (by rw [List.getElem?_eq_getElem hj, e2]) y e hA
end
/-- In memory. -/
structure Sw (W X : World) (b n : Nat) (g : Nat → Bool) (v : Value) (L : List Nat) : Prop where
  bel : Below W.heap.size W X
  fv : FV 4 X b n (bv g)
  gv : GV 3 (b + 1) X v L.length (lv L)
  hb : W.heap.size ≤ b
section
variable {W X Y : World} {b n : Nat} {g : Nat → Bool} {v : Value} {L : List Nat}
theorem Sw.like (h : Sw W X b n g v L) (e : Y.heap = X.heap) (e1 : Y.os = X.os) (e2 : Y.tape = X.tape) (e3 : Y.output = X.output) : Sw W Y b n g v L :=
  ⟨below_like h.bel e e1 e2 e3, h.fv.of_heap (by rw [e]), h.gv.of_heap fun _ _ => by rw [e], h.hb⟩
theorem Sw.stay (h : Sw W X b n g v L) (hb : Below X.heap.size X Y) : Sw W Y b n g v L := ⟨h.bel.trans (hb.mono h.bel.size), h.fv.stay hb, h.gv.stay hb, h.hb⟩
theorem Sw.set (h : Sw W X b n g v L) (i : Nat) (x : Bool) : Sw W (X.setCell ⟨b, i, none⟩ (.bool x)) b n (upd g i x) v L :=
  ⟨h.bel.setCell (p := ⟨b, i, none⟩) h.hb _, bv_upd g i x ▸ h.fv.set i (.bool x), h.gv.setO (fun e => by have := (h.gv.lt _ e).1; omega) _ _, h.hb⟩
theorem Sw.app (h : Sw W X b n g v L) {v' : Value} {z : Nat} (hz : Apd X Y v v') (hg : GV 3 (b + 1) Y v' (L.length + 1) (upd (lv L) L.length (.int .i64 (z : Int)))) : Sw W Y b n g v' (L ++ [z]) := by
  have hS : ∀ k, v.ownBlock = some k → b + 1 ≤ k := fun k e => (h.gv.lt k e).1
  refine ⟨h.bel.trans (hz.1.below h.bel.size fun k hk e => by have := hS k e; have := h.hb; omega), h.fv.ch hz.1 fun e => by (have := hS _ e; omega), ?_, h.hb⟩
  rw [List.length_append]
  exact hg.to fun i hi => lv_snoc hi
end
set_option maxRecDepth 100000 in
set_option maxHeartbeats 8000000 in
theorem without_any {W : World} {p : Option Addr} {cap : Nat} {c : List Ic} (hc : Hid (CodeAt W p c)) (hn : c.length ≤ 1000000) (s : Nat) (hs : s ≤ 1000000) (nt : Int) :
    Calls Tryd.prog 22 #[.slice p c.length cap, .int .i64 s, .int .i64 nt] W fun e w' => ∃ v, e = .returned v ∧ BR w' v c.length (fun z => s < c.length ∧ (s : Int) ≠ nt ∧ Gm.Way (Ed c) (fun z => (z : Int) ≠ nt) s z) ∧ (∀ a k q, v = .slice (some a) k q → W.heap.size ≤ a.block) ∧ Below W.heap.size W w' := by
  have hmk := make_b c.length (by omega)
  by_cases hbad : s < c.length ∧ (s : Int) ≠ nt
  · obtain ⟨hsn, hst⟩ := hbad
    have hst' : ¬ (s : Int) = nt := hst
    have HST := Lib.hid hst
    have d1 : ((s : Int) == nt) = false := by simp [hst']
    have d2 : ¬ c.length ≤ s := by omega
    have d3 : ¬ (s : Int) < 0 := by omega
    clear hst
    go_enter Tryd.func22, Tryd.ntmps22
    go_upto_region 5 with (fail)
    refine name_world ?_
    intro V hV
    obtain ⟨b, hb⟩ : ∃ b, W.heap.size = b := ⟨_, rfl⟩
    have HV : Hid (Sw W V b c.length (fun _ => false) (.slice (some ⟨b + 1, 0, none⟩) 1 1) [s]) := Lib.hid (by
      have h1 : Below W.heap.size W V := by rw [hV]; exact ((Below.refl _ _).alloc (Nat.le_refl _) _).alloc (by simp) _
      refine ⟨h1, ?_, ?_, by omega⟩
      · rw [hV, ← hb]; exact (FV.new (W := W) (T := 4) (F := bv fun _ => false) rfl (by simp; rfl)).alloc _
      · have := gv_one (T := 3) (B := b + 1) (X := W.alloc (.cells (rw_ c.length fun _ => .bool false).toArray 4)) (.int .i64 (s : Int)) (by simp; omega) (lv [s]) rfl rfl
        rw [hV, ← hb]
        rw [← hb] at this
        simpa using this)
    try rw [hb]
    have ib := HV.out.fv.cell hsn
    have fb := HV.out.fv.frozen s
    simp only [bv] at ib
    have HA : Hid (Sw W (V.setCell ⟨b, s, none⟩ (.bool true)) b c.length (upd (fun _ => false) s true) (.slice (some ⟨b + 1, 0, none⟩) 1 1) [s]) := Lib.hid (HV.out.set s true)
    have HK : Hid (Wk c (fun z => (z : Int) ≠ nt) s (upd (fun _ => false) s true) [s]) := Lib.hid ⟨by simp, fun x hx => by simp at hx; omega, fun x => by
      by_cases e : x = s
      · rw [e, upd_at]; simp
      · rw [upd_of e]; simp [e], fun x hx => by
      have : x = s := by simpa using hx
      rw [this]
      exact .one HST.out, by simp⟩
    clear hV hb
    go_wp2
    go_loopw [8, 9] (fun a8 a9 wr => ∃ (i : Nat) (g : Nat → Bool) (L : List Nat) (q : Option Addr) (cq : Nat), a8 = .slice q L.length cq ∧ a9 = .int .i64 i ∧ i ≤ L.length ∧ Hid (Sw W wr b c.length g (.slice q L.length cq) L ∧ Wk c (fun z => (z : Int) ≠ nt) s g L ∧ Dn c (fun z => (z : Int) ≠ nt) L i)) (fun _ a9 _ => c.length - (intOf a9).toNat)
    case atStart => exact ⟨0, _, [s], some ⟨b + 1, 0, none⟩, 1, rfl, rfl, Nat.zero_le _, Lib.hid ⟨HA.out, HK.out, fun j x h => absurd h (Nat.not_lt_zero _)⟩⟩
    case round =>
      clear HA HK HV ib fb
      obtain ⟨wo, rfl⟩ : ∃ wo : World, wo = wr := ⟨_, rfl⟩
      obtain ⟨i, g, L, q, cq, rfl, rfl, hi, HR⟩ := hrel
      have hLn := nodup_len HR.out.2.1.nd HR.out.2.1.lt
      by_cases hlt : i < L.length
      · obtain ⟨x, hx⟩ : ∃ x, L[i]? = some x := ⟨_, List.getElem?_eq_getElem hlt⟩
        have hxm : x ∈ L := List.mem_of_getElem? hx
        have hxn := HR.out.2.1.lt x hxm
        obtain ⟨q', c', e', hq⟩ := HR.out.1.gv.open
        cases e'
        obtain ⟨gl, rfl, hown, hgl, -, -, -, hcell⟩ := hq.resolve_left (fun e => by omega)
        have il := hcell i hlt
        have ilv : lv L i = .int .i64 (x : Int) := by simp [lv, hx]
        rw [ilv] at il
        have HNx := Lib.hid (next_c (cap := cap) (Lib.hid (hc.out.stay HR.out.1.bel)) hn hxn)
        have HX := Lib.hid (And.intro hx (And.intro hxm hgl))
        clear ilv hcell hq hx
        obtain ⟨O, hO⟩ : ∃ O, outs c x = O := ⟨_, rfl⟩
        have hOl : O.length ≤ 2 := hO ▸ outs_len c x
        rw [hO] at HNx
        have HO := Lib.hid hO
        clear hO
        go_upto_region 10 with (go_at_call 27; ((with_reducible refine HNx.out.mono ?_); rintro e5 w5 ⟨v5, rfl, hg5, hb5⟩; obtain ⟨q5, c5, rfl, -⟩ := hg5.open; have H5 := Lib.hid (And.intro hg5 hb5); clear hg5 hb5))
        have HS5 := Lib.hid (HR.out.1.stay H5.out.2)
        have hbo := HR.out.1.fv.lt
        have h5s := H5.out.2.size
        go_wp2
        go_loopw [8, 11] (fun a8 a11 wr => ∃ (k : Nat) (g : Nat → Bool) (L : List Nat) (q : Option Addr) (cq : Nat), a8 = .slice q L.length cq ∧ a11 = .int .i64 k ∧ k ≤ O.length ∧ Hid ((∀ gb, (Value.slice q L.length cq).ownBlock = some gb → gb < wo.heap.size ∨ w5.heap.size ≤ gb) ∧ Ch (fun z => z < wo.heap.size) w5 wr) ∧ Hid (i < L.length ∧ L[i]? = some x ∧ Sw W wr b c.length g (.slice q L.length cq) L ∧ Wk c (fun z => (z : Int) ≠ nt) s g L ∧ Dn c (fun z => (z : Int) ≠ nt) L i ∧ Dn1 (fun z => (z : Int) ≠ nt) L O k)) (fun _ a11 _ => O.length - (intOf a11).toNat)
        case atStart => exact ⟨0, g, L, some ⟨gl, 0, none⟩, cq, rfl, rfl, Nat.zero_le _, Lib.hid ⟨fun gb e => .inl (by cases e; exact HX.out.2.2), Ch.refl _ _⟩, Lib.hid ⟨hlt, HX.out.1, HS5.out, HR.out.2.1, HR.out.2.2, fun q y h => absurd h (Nat.not_lt_zero _)⟩⟩
        case round =>
          obtain ⟨wi, rfl⟩ : ∃ wo : World, wo = wr := ⟨_, rfl⟩
          obtain ⟨k, g, L, q, cq, rfl, rfl, hk, HM, HK⟩ := hrel
          have hLn := nodup_len HK.out.2.2.2.1.nd HK.out.2.2.2.1.lt
          by_cases hkl : k < O.length
          · obtain ⟨y, hy⟩ : ∃ y, O[k]? = some y := ⟨_, List.getElem?_eq_getElem hkl⟩
            have hym : y ∈ outs c x := by rw [HO.out]; exact List.mem_of_getElem? hy
            have hyn := (outs_lt hym).2
            obtain ⟨q', c', e', hq⟩ := H5.out.1.open
            cases e'
            obtain ⟨g5, rfl, -, hg5, hg5o, -, -, hcell⟩ := hq.resolve_left (fun e => by omega)
            have hc5 := hcell k hkl
            have ilv : lv O k = .int .i64 (y : Int) := by simp [lv, hy]
            rw [ilv] at hc5
            have iO := (HM.out.2.cell (o := k) hg5 (by omega)).trans hc5
            have iG := HK.out.2.2.1.fv.cell hyn
            simp only [bv] at iG
            have fG := HK.out.2.2.1.fv.frozen y
            clear ilv hcell hq hc5
            cases hgy : g y with
            | true =>
              rw [hgy] at iG
              have HD := Lib.hid (HK.out.2.2.2.2.2.no hy fun _ => (HK.out.2.2.2.1.g y).1 hgy)
              clear hgy hy
              go_wp2
              go_roundw
              case rel => exact ⟨k + 1, g, L, q, cq, rfl, by go_num, by omega, Lib.hid ⟨HM.out.1, HM.out.2.like rfl rfl rfl rfl⟩, Lib.hid ⟨HK.out.1, HK.out.2.1, HK.out.2.2.1.like rfl rfl rfl rfl, HK.out.2.2.2.1, HK.out.2.2.2.2.1, HD.out⟩⟩
              case measure => (simp [intOf]; try omega)
            | false =>
              rw [hgy] at iG
              by_cases hyt : (y : Int) = nt
              · have hne : ((y : Int) != nt) = false := by simp [hyt]
                have HD := Lib.hid (HK.out.2.2.2.2.2.no hy fun h => absurd hyt h)
                clear hgy hy hyt
                go_wp2
                go_roundw
                case rel => exact ⟨k + 1, g, L, q, cq, rfl, by go_num, by omega, Lib.hid ⟨HM.out.1, HM.out.2.like rfl rfl rfl rfl⟩, Lib.hid ⟨HK.out.1, HK.out.2.1, HK.out.2.2.1.like rfl rfl rfl rfl, HK.out.2.2.2.1, HK.out.2.2.2.2.1, HD.out⟩⟩
                case measure => (simp [intOf]; try omega)
              · have hne : ((y : Int) != nt) = true := by simp [hyt]
                have hyL : y ∉ L := fun h => by have := (HK.out.2.2.2.1.g y).2 h; rw [hgy] at this; cases this
                have HD := Lib.hid (HK.out.2.2.2.2.2.yes hy)
                have HDn := Lib.hid (HK.out.2.2.2.2.1.more (Nat.le_of_lt HK.out.1) y)
                have HW2 := Lib.hid (HK.out.2.2.2.1.add (List.mem_of_getElem? HK.out.2.1) hym hyt hyL)
                have HL2 : Hid (i < (L ++ [y]).length ∧ (L ++ [y])[i]? = some x) := Lib.hid ⟨by simp; have := HK.out.1; omega, by rw [List.getElem?_append_left HK.out.1]; exact HK.out.2.1⟩
                have hdn1 : Hid (¬ (y : Int) = nt) := Lib.hid hyt
                clear hgy hy
                go_upto_region 15 with (fail)
                refine name_world ?_
                intro W6 hW6
                have HS6 : Hid (Sw W W6 b c.length (upd g y true) (.slice q L.length cq) L) := Lib.hid (by rw [hW6]; exact HK.out.2.2.1.set y true)
                have hbw : b < wo.heap.size := hbo
                have HM6 : Hid (Ch (fun z => z < wo.heap.size) w5 W6) := Lib.hid (by rw [hW6]; exact HM.out.2.set (.inl hbw) y _)
                have iO6 : W6.cell? ⟨g5, 0 + k, none⟩ = some (.int .i64 (y : Int)) := by
                  rw [hW6, Nat.zero_add, cs_other (by omega)]
                  exact iO
                rw [Nat.zero_add] at iO6
                have hsb : b + 1 ≤ W6.heap.size := HS6.out.fv.lt
                obtain ⟨i0, hi0, hz0, hz1, hz2⟩ := info_parts info_int
                clear hW6 iO iG fG
                go_wp2_with (at_builtin; refine wpList_append_own_at _ rfl _ _ 34 rfl (b + 1) 3 i0 (.int .i64 0) 1 8 Tryd.underlying34 hi0 hz0 hz1 hz2 rfl (by decide) (.slice q L.length cq) L.length (rw_ L.length (lv L)) rfl (World.ownsRow.alloc HS6.out.gv _) ⟨W6.heap.size, 0, none⟩ 1 1 [.int .i64 (y : Int)] rfl rfl (cell_one_new _ _ _) (fun u hu => by simp at hu; subst hu; rfl) (by unfold maxLen; omega) (by omega) (by simp; omega) ?_; intro v8 w8 hown hgrow _ hats; have HG8 : Hid (GV 3 (b + 1) w8 v8 (L.length + 1) (upd (lv L) L.length (.int .i64 (y : Int)))) := Lib.hid (GV.more hown); have HA8 : Hid (Apd W6 w8 (.slice q L.length cq) v8) := Lib.hid (apd_of hgrow hats); clear hown hgrow hats)
                obtain ⟨q8, cp8, rfl, -⟩ := HG8.out.open
                go_roundw
                case rel =>
                  have hs6 := HM6.out.size
                  refine ⟨k + 1, _, L ++ [y], q8, cp8, by rw [List.length_append]; rfl, by go_num, by omega, Lib.hid ⟨fun gb e => ?_, HM6.out.fresh HA8.out.1 fun z hz e => ?_⟩, Lib.hid ⟨HL2.out.1, HL2.out.2, by have := HS6.out.app HA8.out HG8.out; rw [List.length_append]; exact this, HW2.out, HDn.out, HD.out⟩⟩
                  · rcases HA8.out.2 with h | ⟨g', h, h2⟩
                    · exact HM.out.1 gb (h.symm.trans (by rw [List.length_append] at e; exact e))
                    · rw [List.length_append] at e
                      rw [show (Value.slice q8 (L.length + [y].length) cp8).ownBlock = some g' from h] at e
                      cases e
                      exact .inr (by omega)
                  · have := HM.out.1 z e
                    omega
                case measure => (simp [intOf]; try omega)
          · obtain rfl : k = O.length := by omega
            have HDn := Lib.hid (HK.out.2.2.2.2.1.next HK.out.2.1 (by rw [HO.out]; exact HK.out.2.2.2.2.2))
            have hiL := HK.out.1
            go_wp2
            go_roundw
            case rel => exact ⟨i + 1, g, L, q, cq, rfl, by go_num, by omega, Lib.hid ⟨HK.out.2.2.1, HK.out.2.2.2.1, HDn.out⟩⟩
            case measure => (simp [intOf]; try omega)
      · obtain rfl : i = L.length := by omega
        go_wp2
        go_ret
        exact ⟨_, rfl, ⟨_, _, g, rfl, HR.out.1.fv.rv, fun j _ => (HR.out.2.1.full HR.out.2.2 j).trans ⟨fun h => ⟨hsn, HST.out, h⟩, fun h => h.2.2⟩⟩, fun a k q e => by cases e; exact HR.out.1.hb, HR.out.1.bel⟩
  · have HB := Lib.hid hbad
    by_cases hsn : s < c.length
    · have hst : (s : Int) = nt := Classical.byContradiction fun e => hbad ⟨hsn, e⟩
      clear hbad
      subst hst
      go_enter Tryd.func22, Tryd.ntmps22
      go_wp2
      go_ret
      exact ⟨_, rfl, ⟨_, _, fun _ => false, rfl, (FV.new (W := W) (T := 4) (F := bv fun _ => false) rfl (by simp; rfl)).rv, fun j _ => ⟨fun e => (by cases e), fun e => absurd rfl e.2.1⟩⟩, fun a k q e => (by cases e; exact Nat.le_refl _), below1 W _⟩
    · clear hbad
      go_enter Tryd.func22, Tryd.ntmps22
      go_wp2
      go_ret
      exact ⟨_, rfl, ⟨_, _, fun _ => false, rfl, (FV.new (W := W) (T := 4) (F := bv fun _ => false) rfl (by simp; rfl)).rv, fun j _ => ⟨fun e => (by cases e), fun e => absurd e.1 hsn⟩⟩, fun a k q e => (by cases e; exact Nat.le_refl _), below1 W _⟩
end Go.Proofs.YtacgfjcdfgdpjaaDoor
