/- Lemmas for the laws of live (Ffr Eval Call Reval Ffv Ltr Ffa Ffb Ffk Fop Ffc Fro): each says its own conditions. -/
import Derived.Test.YtgdhgipofaaogaaDoorJ01
import Derived.Lib.Hide
import Derived.Deep.RegionHeld3
import Derived.Test.YtgdhgipofaaogaaDoorProg
import Derived.WalkKit
import Derived.WalkLawsBesides
import Derived.WalkSpells
import Derived.WalkSmall
import Derived.OrdersIn
import Derived.OrdersHeld
import Derived.RangeFuncCalls
import Derived.Maps.AppendAt
import Derived.ArgAppend
set_option linter.unusedSimpArgs false
set_option linter.unusedVariables false
namespace Go.Proofs.YtgdhgipofaaogaaDoor
open Go Go.RowKit Gm

def k2c (p : Int × Int) : List Value := [.int .i64 p.1, .int .i64 p.2]
/-- A row of what is known, wherever it lies. -/
def RK (W : World) (v : Value) (l : Kl) : Prop := ∃ p cap, v = .slice p l.length cap ∧ ∀ i q, l[i]? = some q → ∃ g o, p = some ⟨g, o, none⟩ ∧ g < W.heap.size ∧ W.cell? ⟨g, o + i * 2, none⟩ = some (.int .i64 q.1) ∧ W.cell? ⟨g, o + i * 2 + 1, none⟩ = some (.int .i64 q.2)
theorem RK.stay {W X : World} {v : Value} {l : Kl} (h : RK W v l) (hb : Below W.heap.size W X) : RK X v l := by
  obtain ⟨p, cap, e, h⟩ := h
  refine ⟨p, cap, e, fun i q hq => ?_⟩
  obtain ⟨g, o, h1, h2, h3, h4⟩ := h i q hq
  exact ⟨g, o, h1, Nat.lt_of_lt_of_le h2 hb.size, (hb.cell (p := ⟨g, _, none⟩) h2).trans h3, (hb.cell (p := ⟨g, _, none⟩) h2).trans h4⟩
theorem RK.nil (W : World) : RK W (.slice none 0 0) [] := ⟨none, 0, rfl, fun i q h => by simp at h⟩
/-- .. in memory of its own. -/
def R2 (B : Nat) (W : World) (v : Value) (L : Kl) : Prop := W.ownsRow B 103 2 v L.length (L.flatMap k2c)
theorem k2c_get : ∀ (L : Kl) (i : Nat) (x : Int × Int), L[i]? = some x → (L.flatMap k2c)[i * 2]? = some (.int .i64 x.1) ∧ (L.flatMap k2c)[i * 2 + 1]? = some (.int .i64 x.2)
  | [], _, _, h => by simp at h
  | y :: L, 0, x, h => by
    have : y = x := by simpa using h
    subst this
    exact ⟨rfl, rfl⟩
  | y :: L, i + 1, x, h => by
    have := k2c_get L i x (by simpa using h)
    rw [show (i + 1) * 2 = i * 2 + 2 by omega]
    exact this
section
variable {B : Nat} {W X : World} {v : Value} {L : Kl}
theorem R2.nil (B : Nat) (W : World) : R2 B W (.slice none 0 0) [] := World.ownsRow_nil W B _ _
theorem R2.lt (h : R2 B W v L) : ∀ g, v.ownBlock = some g → B ≤ g ∧ g < W.heap.size := World.ownsRow.lt h
theorem R2.rk (h : R2 B W v L) : RK W v L := by
  rcases h.2 with ⟨rfl, h0⟩ | ⟨g, cap, cur, rfl, hB, hg, hc, _, _, ht⟩
  · refine ⟨none, 0, by rw [h0], fun i x hx => ?_⟩
    have := (List.getElem?_eq_some_iff.1 hx).1
    omega
  · refine ⟨_, cap, rfl, fun i x hx => ⟨g, 0, rfl, (Array.getElem?_eq_some_iff.1 hg).1, ?_⟩⟩
    have hi := (List.getElem?_eq_some_iff.1 hx).1
    obtain ⟨h1, h2⟩ := k2c_get L i x hx
    have key : ∀ j u, (L.flatMap k2c)[j]? = some u → j < L.length * 2 → W.cell? ⟨g, j, none⟩ = some u := fun j u hu hj => by
      rw [cell_of_row W g j cur _ _ hg]
      have h1 := congrArg (·[j]?) ht
      simp only [List.getElem?_take] at h1
      rw [if_pos hj, hu] at h1
      simpa using h1
    rw [Nat.zero_add]
    exact ⟨key _ _ h1 (by omega), key _ _ h2 (by omega)⟩
theorem R2.of_heap (h : R2 B W v L) (e : ∀ g, v.ownBlock = some g → X.heap[g]? = W.heap[g]?) : R2 B X v L := by
  refine ⟨h.1, ?_⟩
  rcases h.2 with h0 | ⟨g, cap, cur, rfl, hB, hg, r⟩
  · exact .inl h0
  · exact .inr ⟨g, cap, cur, rfl, hB, (e g rfl).trans hg, r⟩
theorem R2.stay (h : R2 B W v L) (hb : Below W.heap.size W X) : R2 B X v L := h.of_heap fun g e => hb.block g (h.lt g e).2
theorem R2.mono {B' : Nat} (h : R2 B W v L) (hb : B' ≤ B) : R2 B' W v L := by
  refine ⟨h.1, ?_⟩
  rcases h.2 with h0 | ⟨g, cap, cur, hv, hB, r⟩
  · exact .inl h0
  · exact .inr ⟨g, cap, cur, hv, Nat.le_trans hb hB, r⟩
theorem R2.more {x : Int × Int} (h : W.ownsRow B 103 2 v (L.length + 1) (L.flatMap k2c ++ k2c x)) : R2 B W v (L ++ [x]) := by
  unfold R2
  rw [List.length_append, List.flatMap_append, List.flatMap_singleton]
  exact h
theorem R2.open (h : R2 B W v L) : ∃ q cq, v = .slice q L.length cq := by
  obtain ⟨q, cq, e, -⟩ := h.rk
  exact ⟨q, cq, e⟩
end
theorem info_k : (Tryd.prog.info? 103).map (fun i => (i.zero, i.size, i.bytes)) = some (some (.agg #[.int .i64 0, .int .i64 0]), 2, 16) := by kernel_rfl
/-- What get tells. -/
def GetP (W : World) (l : Kl) (r : Int) (e : Ending) (w' : World) : Prop := ∃ n b, e = .returned (.tuple #[.int .i64 n, .bool b]) ∧ gt l r = (if b = true then some n else none) ∧ (b = false → n = 0) ∧ w' = W
set_option maxRecDepth 100000 in
set_option maxHeartbeats 2000000 in
theorem get_c {W : World} {v : Value} {l : Kl} (hq : Hid (RK W v l)) (hl : l.length ≤ 1000000) (r : Int) : Calls Tryd.prog 24 #[v, .int .i64 r] W (GetP W l r) := by
  obtain ⟨p, cap, ev, hrow⟩ := hq.out
  subst ev
  have HR := Lib.hid hrow
  clear hrow
  go_enter Tryd.func24, Tryd.ntmps24
  go_wp2
  go_loop [6] (fun a => ∃ j : Nat, a = .int .i64 j ∧ j ≤ l.length ∧ Hid (SK l r j)) (fun a => l.length - (intOf a).toNat)
  case atStart => exact ⟨0, rfl, Nat.zero_le _, Lib.hid (SK.zero _ _)⟩
  case round =>
    obtain ⟨j, rfl, hj, HK⟩ := hrel
    by_cases hlt : j < l.length
    · obtain ⟨q, hxq⟩ : ∃ q, l[j]? = some q := ⟨_, List.getElem?_eq_getElem hlt⟩
      obtain ⟨g, o, rfl, -, i0, i1⟩ := HR.out j q hxq
      have HXQ := Lib.hid hxq
      clear hxq
      by_cases he : q.1 = r
      · have hb : (q.1 == r) = true := by simp [he]
        go_wp2
        go_ret2
        exact ⟨q.2, true, rfl, gt_hit HK.out HXQ.out he, fun h => (by cases h), rfl⟩
      · have hb : (q.1 == r) = false := by simp [he]
        clear i1
        go_wp2
        go_round
        case rel => exact ⟨j + 1, by go_num, by omega, Lib.hid (HK.out.next HXQ.out he)⟩
        case measure => (simp [intOf]; try omega)
    · obtain rfl : j = l.length := by omega
      go_wp2
      go_ret2
      exact ⟨0, false, rfl, gt_miss HK.out, fun _ => rfl, rfl⟩
/-- What hands back a row of its own. -/
def RowK (W : World) (L : Kl) (e : Ending) (w' : World) : Prop := ∃ v, e = .returned v ∧ R2 W.heap.size w' v L ∧ Below W.heap.size W w'
theorem filter_next {f : Int × Int → Bool} {l : Kl} {i : Nat} {q : Int × Int} (h : l[i]? = some q) : (l.take (i + 1)).filter f = (l.take i).filter f ++ if f q then [q] else [] := by
  rw [List.take_add_one, h, List.filter_append]
  cases h : f q <;> simp [h]
theorem filter_len {f : Int × Int → Bool} {l : Kl} (i : Nat) : ((l.take i).filter f).length ≤ i := Nat.le_trans (List.length_filter_le _ _) (by rw [List.length_take]; omega)
set_option maxRecDepth 100000 in
set_option maxHeartbeats 4000000 in
theorem without_c {W : World} {v : Value} {l : Kl} (hq : Hid (RK W v l)) (hl : l.length ≤ 100000) (r : Int) : Calls Tryd.prog 56 #[v, .int .i64 r] W (RowK W (wo l r)) := by
  obtain ⟨i0, hi0, hz0, hz1, hz2⟩ := info_parts info_k
  obtain ⟨p, cap, ev, hrow⟩ := hq.out
  subst ev
  have HR := Lib.hid hrow
  clear hrow
  go_enter Tryd.func56, Tryd.ntmps56
  go_upto_region 3 with (fail)
  go_loopw [5, 6] (fun a5 a6 wr => ∃ (j : Nat) (v : Value) (D : Kl), a5 = v ∧ a6 = .int .i64 j ∧ j ≤ l.length ∧ Hid (Below W.heap.size W wr ∧ R2 W.heap.size wr v D ∧ D = wo (l.take j) r)) (fun _ a6 _ => l.length - (intOf a6).toNat)
  case atStart => exact ⟨0, _, [], rfl, rfl, Nat.zero_le _, Lib.hid ⟨Below.refl _ _, R2.nil _ _, rfl⟩⟩
  case round =>
    obtain ⟨wi, rfl⟩ : ∃ wo : World, wo = wr := ⟨_, rfl⟩
    obtain ⟨j, v, D, rfl, rfl, hj, HJ⟩ := hrel
    have HDL : Hid (D.length ≤ j) := Lib.hid (by rw [HJ.out.2.2]; exact filter_len j)
    by_cases hlt : j < l.length
    · obtain ⟨q, cq, ev⟩ := HJ.out.2.1.open
      subst ev
      obtain ⟨x, hx⟩ : ∃ x, l[j]? = some x := ⟨_, List.getElem?_eq_getElem hlt⟩
      obtain ⟨g, o, rfl, hg, i1, i2⟩ := HR.out j x hx
      have i1 := (HJ.out.1.cell (p := ⟨g, _, none⟩) hg).trans i1
      have i2 := (HJ.out.1.cell (p := ⟨g, _, none⟩) hg).trans i2
      have HX := Lib.hid hx
      have hVi : W.heap.size ≤ wi.heap.size := HJ.out.1.size
      clear hx hg
      by_cases he : x.1 = r
      · have hb : (x.1 != r) = false := by simp [he]
        clear i2
        go_wp2
        go_roundw
        case rel => exact ⟨j + 1, _, D, rfl, by go_num, by omega, Lib.hid ⟨HJ.out.1, HJ.out.2.1, by rw [HJ.out.2.2]; unfold wo; rw [filter_next HX.out]; simp [he]⟩⟩
        case measure => (simp [intOf]; try omega)
      · have hb : (x.1 != r) = true := by simp [he]
        go_wp2_with (at_builtin; refine wpList_append_own_at _ rfl _ _ 54 rfl W.heap.size 103 i0 _ 2 16 Tryd.underlying54 hi0 hz0 hz1 hz2 rfl (by decide) (.slice q D.length cq) D.length (D.flatMap k2c) rfl (World.ownsRow.alloc HJ.out.2.1 _) ⟨wi.heap.size, 0, none⟩ 1 1 (k2c x) rfl rfl ?c1 ?c2 ?c3 ?c4 ?c5 ?_)
        case c1 => first | exact World.news_of_block (heap_alloc_new _ _) | (intro j u h; exact h)
        case c2 => intro y hy; simp [k2c] at hy; rcases hy with rfl | rfl <;> rfl
        case c3 => have := HDL.out; unfold maxLen; omega
        case c4 => have := HDL.out; omega
        case c5 => have := HDL.out; first | omega | (simp; omega)
        intro v4 w4 hown hgrow _ hats
        have HG := Lib.hid (R2.more (x := x) hown)
        have HB4 : Hid (Below W.heap.size W w4) := Lib.hid ((HJ.out.1.alloc (by omega) _).grown hgrow (by simp; omega) fun z e => (HJ.out.2.1.lt z e).1)
        have HD : Hid (D ++ [x] = wo (l.take (j + 1)) r) := Lib.hid (by rw [HJ.out.2.2]; unfold wo; rw [filter_next HX.out]; simp [he])
        clear hown hgrow hats
        go_wp2
        go_roundw
        case rel => exact ⟨j + 1, v4, _, rfl, by go_num, by omega, Lib.hid ⟨HB4.out, HG.out, HD.out⟩⟩
        case measure => (simp [intOf]; try omega)
    · obtain rfl : j = l.length := by omega
      go_wp2
      go_ret
      have hD : D = wo l r := by rw [HJ.out.2.2, List.take_length]
      exact ⟨_, rfl, hD ▸ HJ.out.2.1, HJ.out.1⟩
set_option maxRecDepth 100000 in
set_option maxHeartbeats 4000000 in
theorem meet_c {W : World} {v u : Value} {a b : Kl} (ha : Hid (RK W v a)) (hb : Hid (RK W u b)) (hl : a.length ≤ 100000) (hm : b.length ≤ 100000) : Calls Tryd.prog 32 #[v, u] W (RowK W (mt a b)) := by
  obtain ⟨i0, hi0, hz0, hz1, hz2⟩ := info_parts info_k
  obtain ⟨p, cap, ev, hrow⟩ := ha.out
  subst ev
  have HR := Lib.hid hrow
  clear hrow
  go_enter Tryd.func32, Tryd.ntmps32
  go_upto_region 3 with (fail)
  go_loopw [5, 6] (fun a5 a6 wr => ∃ (j : Nat) (v : Value) (D : Kl), a5 = v ∧ a6 = .int .i64 j ∧ j ≤ a.length ∧ Hid (Below W.heap.size W wr ∧ R2 W.heap.size wr v D ∧ D = mt (a.take j) b)) (fun _ a6 _ => a.length - (intOf a6).toNat)
  case atStart => exact ⟨0, _, [], rfl, rfl, Nat.zero_le _, Lib.hid ⟨Below.refl _ _, R2.nil _ _, rfl⟩⟩
  case round =>
    obtain ⟨wi, rfl⟩ : ∃ wo : World, wo = wr := ⟨_, rfl⟩
    obtain ⟨j, v, D, rfl, rfl, hj, HJ⟩ := hrel
    have HDL : Hid (D.length ≤ j) := Lib.hid (by rw [HJ.out.2.2]; exact filter_len j)
    by_cases hlt : j < a.length
    · obtain ⟨q, cq, ev⟩ := HJ.out.2.1.open
      subst ev
      obtain ⟨x, hx⟩ : ∃ x, a[j]? = some x := ⟨_, List.getElem?_eq_getElem hlt⟩
      obtain ⟨g, o, rfl, hg, i1, i2⟩ := HR.out j x hx
      have i1 := (HJ.out.1.cell (p := ⟨g, _, none⟩) hg).trans i1
      have i2 := (HJ.out.1.cell (p := ⟨g, _, none⟩) hg).trans i2
      have HX := Lib.hid hx
      have hVi : W.heap.size ≤ wi.heap.size := HJ.out.1.size
      have HGT := Lib.hid (get_c (Lib.hid (hb.out.stay HJ.out.1)) (by omega) x.1)
      clear hx hg
      go_upto_region 6 with (go_at_call 24; (go_loud ((with_reducible refine HGT.out.mono ?_); rintro e3 w3 ⟨n, t, rfl, hgt, h0, rfl⟩; have HV := Lib.hid (And.intro hgt h0); clear hgt h0)))
      obtain ⟨wi, rfl⟩ : ∃ wo : World, wo = w3 := ⟨_, rfl⟩
      by_cases he : gt b x.1 = some x.2
      · obtain rfl : t = true := by
          have := HV.out.1
          rw [he] at this
          cases t with
          | true => rfl
          | false => simp at this
        obtain rfl : n = x.2 := by
          have := HV.out.1
          rw [he] at this
          simpa using this.symm
        go_wp2_with (at_builtin; refine wpList_append_own_at _ rfl _ _ 54 rfl W.heap.size 103 i0 _ 2 16 Tryd.underlying54 hi0 hz0 hz1 hz2 rfl (by decide) (.slice q D.length cq) D.length (D.flatMap k2c) rfl (World.ownsRow.alloc HJ.out.2.1 _) ⟨wi.heap.size, 0, none⟩ 1 1 (k2c x) rfl rfl ?c1 ?c2 ?c3 ?c4 ?c5 ?_)
        case c1 => first | exact World.news_of_block (heap_alloc_new _ _) | (intro j u h; exact h)
        case c2 => intro y hy; simp [k2c] at hy; rcases hy with rfl | rfl <;> rfl
        case c3 => have := HDL.out; unfold maxLen; omega
        case c4 => have := HDL.out; omega
        case c5 => have := HDL.out; first | omega | (simp; omega)
        intro v4 w4 hown hgrow _ hats
        have HG := Lib.hid (R2.more (x := x) hown)
        have HB4 : Hid (Below W.heap.size W w4) := Lib.hid ((HJ.out.1.alloc (by omega) _).grown hgrow (by simp; omega) fun z e => (HJ.out.2.1.lt z e).1)
        have HD : Hid (D ++ [x] = mt (a.take (j + 1)) b) := Lib.hid (by rw [HJ.out.2.2]; unfold mt; rw [filter_next HX.out]; simp [he])
        clear hown hgrow hats
        go_wp2
        go_roundw
        case rel => exact ⟨j + 1, v4, _, rfl, by go_num, by omega, Lib.hid ⟨HB4.out, HG.out, HD.out⟩⟩
        case measure => (simp [intOf]; try omega)
      · have HD : Hid (D = mt (a.take (j + 1)) b) := Lib.hid (by rw [HJ.out.2.2]; unfold mt; rw [filter_next HX.out]; simp [he])
        cases t with
        | false =>
          clear i1 i2
          go_wp2
          go_roundw
          case rel => exact ⟨j + 1, _, D, rfl, by go_num, by omega, Lib.hid ⟨HJ.out.1, HJ.out.2.1, HD.out⟩⟩
          case measure => (simp [intOf]; try omega)
        | true =>
          have hne : (n == x.2) = false := by
            have h := HV.out.1
            simp only [if_true] at h
            simp
            intro k
            exact he (by rw [h, k])
          go_wp2
          go_roundw
          case rel => exact ⟨j + 1, _, D, rfl, by go_num, by omega, Lib.hid ⟨HJ.out.1, HJ.out.2.1, HD.out⟩⟩
          case measure => (simp [intOf]; try omega)
    · obtain rfl : j = a.length := by omega
      go_wp2
      go_ret
      have hD : D = mt a b := by rw [HJ.out.2.2, List.take_length]
      exact ⟨_, rfl, hD ▸ HJ.out.2.1, HJ.out.1⟩
end Go.Proofs.YtgdhgipofaaogaaDoor
namespace Go.Proofs.YtgdhgipofaaogaaDoor
open Go Go.RowKit Go.Maps
theorem do_hit (b g : Nat) (o x y r : Int) (w : World)
    (hrun : (Instr.lookup 139 (.map (some b)) (.int .i64 o) true).run Tryd.prog w = .ok (.tuple #[.func (.func g) #[] #[], .bool true]) w)
    (hcf : (callFunc g #[.int .i64 x, .int .i64 y]).run Tryd.prog w = .ok (.enter g #[.int .i64 x, .int .i64 y]) w)
    (hg : Calls Tryd.prog g #[.int .i64 x, .int .i64 y] w fun e w' => e = .returned (.int .i64 r) ∧ w = w') :
    Calls Tryd.prog 81 #[.map (some b), .int .i64 o, .int .i64 x, .int .i64 y] w fun e w' => e = .returned (.int .i64 r) ∧ w = w' := by
  go_enter Tryd.func81, Tryd.ntmps81
  go_wp2_with (refine hg.mono ?_; rintro e w' ⟨rfl, rfl⟩)
  go_ret
  exact ⟨rfl, rfl⟩
theorem do_miss (b : Nat) (o x y : Int) (w : World)
    (hrun : (Instr.lookup 139 (.map (some b)) (.int .i64 o) true).run Tryd.prog w = .ok (.tuple #[.nilFunc, .bool false]) w) :
    Calls Tryd.prog 81 #[.map (some b), .int .i64 o, .int .i64 x, .int .i64 y] w fun e w' => e = .returned (.int .i64 0) ∧ w = w' := by
  go_enter Tryd.func81, Tryd.ntmps81
  go_wp2
  go_ret
  exact ⟨rfl, rfl⟩
theorem keyed : Keyed Tryd.prog 3 := int_keyed Tryd.underlying3
theorem zero_fn (w : World) : (zeroValue 141).run Tryd.prog w = .ok .nilFunc w := by kernel_rfl
def sumD : DataW Unit := ((((((DataW.map [] : DataW Unit).put (.int .i64 0) (.lit (.int .i64 82))).put (.int .i64 1) (.lit (.int .i64 83))).put (.int .i64 2) (.lit (.int .i64 84))).put (.int .i64 3) (.lit (.int .i64 85))).put (.int .i64 4) (.lit (.int .i64 87)))
/-- The literal of this family, laid in a new block; what the call of 'do' then answers is handed on. -/
theorem sum_walk (o a b : Int) (w : World) (r : Int)
    (hdo : ∀ W : World, W.ownsMap Tryd.prog 3 fnElem w.heap.size 5 sumD → Calls Tryd.prog 81 #[.map (some w.heap.size), .int .i64 o, .int .i64 a, .int .i64 b] W fun e w' => e = .returned (.int .i64 r) ∧ W = w') :
    Calls Tryd.prog 69 #[.int .i64 o, .int .i64 a, .int .i64 b] w fun e w' => e = .returned (.int .i64 r) ∧ Below w.heap.size w w' := by
  have hmm := @run_makeMap Tryd.prog
  have hM0 := World.ownsMap_made w Tryd.prog 3 fnElem
  have hB0 : Below w.heap.size w (w.alloc (.map #[] 0)) := (Below.refl _ _).alloc (Nat.le_refl _) _
  go_enter Tryd.func69, Tryd.ntmps69
  go_wp2_with (first
    | (go_at_call 81; refine (hdo _ (by assumption)).mono ?_; rintro e w' ⟨rfl, rfl⟩)
    | (refine wpList_insert_own _ rfl _ (.const (.int .i64 0)) (.func 82) 139 rfl 3 141 keyed Tryd.underlying139 fnElem w.heap.size 0 _ rfl hM0 (by decide) _ _ (.int .i64 0) rfl rfl (keyOf_int_mk Tryd.underlying3 (by decide)) _ _ (fnElem_mk 82) ?_; intro w1 hM1 hg1; have hB1 := hB0.grown hg1 hB0.size (fun j hj => by cases hj; exact Nat.le_refl _); clear hM0 hg1 hB0)
    | (refine wpList_insert_own _ rfl _ (.const (.int .i64 1)) (.func 83) 139 rfl 3 141 keyed Tryd.underlying139 fnElem w.heap.size 1 _ rfl hM1 (by decide) _ _ (.int .i64 1) rfl rfl (keyOf_int_mk Tryd.underlying3 (by decide)) _ _ (fnElem_mk 83) ?_; intro w2 hM2 hg2; have hB2 := hB1.grown hg2 hB1.size (fun j hj => by cases hj; exact Nat.le_refl _); clear hM1 hg2 hB1)
    | (refine wpList_insert_own _ rfl _ (.const (.int .i64 2)) (.func 84) 139 rfl 3 141 keyed Tryd.underlying139 fnElem w.heap.size 2 _ rfl hM2 (by decide) _ _ (.int .i64 2) rfl rfl (keyOf_int_mk Tryd.underlying3 (by decide)) _ _ (fnElem_mk 84) ?_; intro w3 hM3 hg3; have hB3 := hB2.grown hg3 hB2.size (fun j hj => by cases hj; exact Nat.le_refl _); clear hM2 hg3 hB2)
    | (refine wpList_insert_own _ rfl _ (.const (.int .i64 3)) (.func 85) 139 rfl 3 141 keyed Tryd.underlying139 fnElem w.heap.size 3 _ rfl hM3 (by decide) _ _ (.int .i64 3) rfl rfl (keyOf_int_mk Tryd.underlying3 (by decide)) _ _ (fnElem_mk 85) ?_; intro w4 hM4 hg4; have hB4 := hB3.grown hg4 hB3.size (fun j hj => by cases hj; exact Nat.le_refl _); clear hM3 hg4 hB3)
    | (refine wpList_insert_own _ rfl _ (.const (.int .i64 4)) (.func 87) 139 rfl 3 141 keyed Tryd.underlying139 fnElem w.heap.size 4 _ rfl hM4 (by decide) _ _ (.int .i64 4) rfl rfl (keyOf_int_mk Tryd.underlying3 (by decide)) _ _ (fnElem_mk 87) ?_; intro w5 hM5 hg5; have hB5 := hB4.grown hg5 hB4.size (fun j hj => by cases hj; exact Nat.le_refl _); clear hM4 hg5 hB4))
  go_ret
  exact ⟨rfl, hB5⟩
theorem sum_0 (a b : Int) (w : World) : Calls Tryd.prog 69 #[.int .i64 0, .int .i64 a, .int .i64 b] w fun e w' => e = .returned (.int .i64 (wrap64 (a + b))) ∧ Below w.heap.size w w' :=
  sum_walk 0 a b w _ fun W h => do_hit _ _ _ _ _ _ _ ((look_fn h keyed Tryd.underlying139 (zero_fn _) (keyOf_int_mk Tryd.underlying3 (by decide))).1 82 rfl) (by kernel_rfl) (f0_any a b W)
theorem sum_1 (a b : Int) (w : World) : Calls Tryd.prog 69 #[.int .i64 1, .int .i64 a, .int .i64 b] w fun e w' => e = .returned (.int .i64 (wrap64 (a - b))) ∧ Below w.heap.size w w' :=
  sum_walk 1 a b w _ fun W h => do_hit _ _ _ _ _ _ _ ((look_fn h keyed Tryd.underlying139 (zero_fn _) (keyOf_int_mk Tryd.underlying3 (by decide))).1 83 rfl) (by kernel_rfl) (f1_any a b W)
theorem sum_2 (a b : Int) (w : World) : Calls Tryd.prog 69 #[.int .i64 2, .int .i64 a, .int .i64 b] w fun e w' => e = .returned (.int .i64 (wrap64 (a * b))) ∧ Below w.heap.size w w' :=
  sum_walk 2 a b w _ fun W h => do_hit _ _ _ _ _ _ _ ((look_fn h keyed Tryd.underlying139 (zero_fn _) (keyOf_int_mk Tryd.underlying3 (by decide))).1 84 rfl) (by kernel_rfl) (f2_any a b W)
theorem sum_3 (a b : Int) (w : World) : Calls Tryd.prog 69 #[.int .i64 3, .int .i64 a, .int .i64 b] w fun e w' => e = .returned (.int .i64 (qt a b)) ∧ Below w.heap.size w w' :=
  sum_walk 3 a b w _ fun W h => do_hit _ _ _ _ _ _ _ ((look_fn h keyed Tryd.underlying139 (zero_fn _) (keyOf_int_mk Tryd.underlying3 (by decide))).1 85 rfl) (by kernel_rfl) (f3_any a b W)
theorem sum_4 (a b : Int) (w : World) : Calls Tryd.prog 69 #[.int .i64 4, .int .i64 a, .int .i64 b] w fun e w' => e = .returned (.int .i64 (wrap64 (a - wrap64 (b * qt a b)))) ∧ Below w.heap.size w w' :=
  sum_walk 4 a b w _ fun W h => do_hit _ _ _ _ _ _ _ ((look_fn h keyed Tryd.underlying139 (zero_fn _) (keyOf_int_mk Tryd.underlying3 (by decide))).1 87 rfl) (by kernel_rfl) (f4_any a b W)
theorem sum_none (o a b : Int) (w : World) (hw : (Lit.int .i64 o).wf = true) (h0 : o ≠ 0) (h1 : o ≠ 1) (h2 : o ≠ 2) (h3 : o ≠ 3) (h4 : o ≠ 4) : Calls Tryd.prog 69 #[.int .i64 o, .int .i64 a, .int .i64 b] w fun e w' => e = .returned (.int .i64 0) ∧ Below w.heap.size w w' :=
  sum_walk o a b w _ fun W h => do_miss _ _ _ _ _ ((look_fn h keyed Tryd.underlying139 (zero_fn _) (keyOf_int_mk Tryd.underlying3 hw)).2 fun d => by
    unfold sumD
    rw [atKey_put_other (by intro h; cases h; contradiction)]
    rw [atKey_put_other (by intro h; cases h; contradiction)]
    rw [atKey_put_other (by intro h; cases h; contradiction)]
    rw [atKey_put_other (by intro h; cases h; contradiction)]
    rw [atKey_put_other (by intro h; cases h; contradiction)]
    rfl)
def bitwiseD : DataW Unit := ((((((DataW.map [] : DataW Unit).put (.int .i64 5) (.lit (.int .i64 88))).put (.int .i64 6) (.lit (.int .i64 89))).put (.int .i64 7) (.lit (.int .i64 90))).put (.int .i64 8) (.lit (.int .i64 91))).put (.int .i64 9) (.lit (.int .i64 93)))
/-- The literal of this family, laid in a new block; what the call of 'do' then answers is handed on. -/
theorem bitwise_walk (o a b : Int) (w : World) (r : Int)
    (hdo : ∀ W : World, W.ownsMap Tryd.prog 3 fnElem w.heap.size 5 bitwiseD → Calls Tryd.prog 81 #[.map (some w.heap.size), .int .i64 o, .int .i64 a, .int .i64 b] W fun e w' => e = .returned (.int .i64 r) ∧ W = w') :
    Calls Tryd.prog 70 #[.int .i64 o, .int .i64 a, .int .i64 b] w fun e w' => e = .returned (.int .i64 r) ∧ Below w.heap.size w w' := by
  have hmm := @run_makeMap Tryd.prog
  have hM0 := World.ownsMap_made w Tryd.prog 3 fnElem
  have hB0 : Below w.heap.size w (w.alloc (.map #[] 0)) := (Below.refl _ _).alloc (Nat.le_refl _) _
  go_enter Tryd.func70, Tryd.ntmps70
  go_wp2_with (first
    | (go_at_call 81; refine (hdo _ (by assumption)).mono ?_; rintro e w' ⟨rfl, rfl⟩)
    | (refine wpList_insert_own _ rfl _ (.const (.int .i64 5)) (.func 88) 139 rfl 3 141 keyed Tryd.underlying139 fnElem w.heap.size 0 _ rfl hM0 (by decide) _ _ (.int .i64 5) rfl rfl (keyOf_int_mk Tryd.underlying3 (by decide)) _ _ (fnElem_mk 88) ?_; intro w1 hM1 hg1; have hB1 := hB0.grown hg1 hB0.size (fun j hj => by cases hj; exact Nat.le_refl _); clear hM0 hg1 hB0)
    | (refine wpList_insert_own _ rfl _ (.const (.int .i64 6)) (.func 89) 139 rfl 3 141 keyed Tryd.underlying139 fnElem w.heap.size 1 _ rfl hM1 (by decide) _ _ (.int .i64 6) rfl rfl (keyOf_int_mk Tryd.underlying3 (by decide)) _ _ (fnElem_mk 89) ?_; intro w2 hM2 hg2; have hB2 := hB1.grown hg2 hB1.size (fun j hj => by cases hj; exact Nat.le_refl _); clear hM1 hg2 hB1)
    | (refine wpList_insert_own _ rfl _ (.const (.int .i64 7)) (.func 90) 139 rfl 3 141 keyed Tryd.underlying139 fnElem w.heap.size 2 _ rfl hM2 (by decide) _ _ (.int .i64 7) rfl rfl (keyOf_int_mk Tryd.underlying3 (by decide)) _ _ (fnElem_mk 90) ?_; intro w3 hM3 hg3; have hB3 := hB2.grown hg3 hB2.size (fun j hj => by cases hj; exact Nat.le_refl _); clear hM2 hg3 hB2)
    | (refine wpList_insert_own _ rfl _ (.const (.int .i64 8)) (.func 91) 139 rfl 3 141 keyed Tryd.underlying139 fnElem w.heap.size 3 _ rfl hM3 (by decide) _ _ (.int .i64 8) rfl rfl (keyOf_int_mk Tryd.underlying3 (by decide)) _ _ (fnElem_mk 91) ?_; intro w4 hM4 hg4; have hB4 := hB3.grown hg4 hB3.size (fun j hj => by cases hj; exact Nat.le_refl _); clear hM3 hg4 hB3)
    | (refine wpList_insert_own _ rfl _ (.const (.int .i64 9)) (.func 93) 139 rfl 3 141 keyed Tryd.underlying139 fnElem w.heap.size 4 _ rfl hM4 (by decide) _ _ (.int .i64 9) rfl rfl (keyOf_int_mk Tryd.underlying3 (by decide)) _ _ (fnElem_mk 93) ?_; intro w5 hM5 hg5; have hB5 := hB4.grown hg5 hB4.size (fun j hj => by cases hj; exact Nat.le_refl _); clear hM4 hg5 hB4))
  go_ret
  exact ⟨rfl, hB5⟩
theorem bitwise_5 (a b : Int) (w : World) : Calls Tryd.prog 70 #[.int .i64 5, .int .i64 a, .int .i64 b] w fun e w' => e = .returned (.int .i64 (bits .and .i64 a b)) ∧ Below w.heap.size w w' :=
  bitwise_walk 5 a b w _ fun W h => do_hit _ _ _ _ _ _ _ ((look_fn h keyed Tryd.underlying139 (zero_fn _) (keyOf_int_mk Tryd.underlying3 (by decide))).1 88 rfl) (by kernel_rfl) (f5_any a b W)
theorem bitwise_6 (a b : Int) (w : World) : Calls Tryd.prog 70 #[.int .i64 6, .int .i64 a, .int .i64 b] w fun e w' => e = .returned (.int .i64 (bits .or .i64 a b)) ∧ Below w.heap.size w w' :=
  bitwise_walk 6 a b w _ fun W h => do_hit _ _ _ _ _ _ _ ((look_fn h keyed Tryd.underlying139 (zero_fn _) (keyOf_int_mk Tryd.underlying3 (by decide))).1 89 rfl) (by kernel_rfl) (f6_any a b W)
theorem bitwise_7 (a b : Int) (w : World) : Calls Tryd.prog 70 #[.int .i64 7, .int .i64 a, .int .i64 b] w fun e w' => e = .returned (.int .i64 (bits .xor .i64 a b)) ∧ Below w.heap.size w w' :=
  bitwise_walk 7 a b w _ fun W h => do_hit _ _ _ _ _ _ _ ((look_fn h keyed Tryd.underlying139 (zero_fn _) (keyOf_int_mk Tryd.underlying3 (by decide))).1 90 rfl) (by kernel_rfl) (f7_any a b W)
theorem bitwise_8 (a b : Int) (w : World) : Calls Tryd.prog 70 #[.int .i64 8, .int .i64 a, .int .i64 b] w fun e w' => e = .returned (.int .i64 (wrap64 (a * 2 ^ (b % 64).toNat))) ∧ Below w.heap.size w w' :=
  bitwise_walk 8 a b w _ fun W h => do_hit _ _ _ _ _ _ _ ((look_fn h keyed Tryd.underlying139 (zero_fn _) (keyOf_int_mk Tryd.underlying3 (by decide))).1 91 rfl) (by kernel_rfl) (f8_any a b W)
theorem bitwise_9 (a b : Int) (w : World) : Calls Tryd.prog 70 #[.int .i64 9, .int .i64 a, .int .i64 b] w fun e w' => e = .returned (.int .i64 (a / 2 ^ (b % 64).toNat)) ∧ Below w.heap.size w w' :=
  bitwise_walk 9 a b w _ fun W h => do_hit _ _ _ _ _ _ _ ((look_fn h keyed Tryd.underlying139 (zero_fn _) (keyOf_int_mk Tryd.underlying3 (by decide))).1 93 rfl) (by kernel_rfl) (f9_any a b W)
theorem bitwise_none (o a b : Int) (w : World) (hw : (Lit.int .i64 o).wf = true) (h5 : o ≠ 5) (h6 : o ≠ 6) (h7 : o ≠ 7) (h8 : o ≠ 8) (h9 : o ≠ 9) : Calls Tryd.prog 70 #[.int .i64 o, .int .i64 a, .int .i64 b] w fun e w' => e = .returned (.int .i64 0) ∧ Below w.heap.size w w' :=
  bitwise_walk o a b w _ fun W h => do_miss _ _ _ _ _ ((look_fn h keyed Tryd.underlying139 (zero_fn _) (keyOf_int_mk Tryd.underlying3 hw)).2 fun d => by
    unfold bitwiseD
    rw [atKey_put_other (by intro h; cases h; contradiction)]
    rw [atKey_put_other (by intro h; cases h; contradiction)]
    rw [atKey_put_other (by intro h; cases h; contradiction)]
    rw [atKey_put_other (by intro h; cases h; contradiction)]
    rw [atKey_put_other (by intro h; cases h; contradiction)]
    rfl)
def orderD : DataW Unit := ((((((((DataW.map [] : DataW Unit).put (.int .i64 10) (.lit (.int .i64 94))).put (.int .i64 11) (.lit (.int .i64 96))).put (.int .i64 12) (.lit (.int .i64 97))).put (.int .i64 13) (.lit (.int .i64 98))).put (.int .i64 14) (.lit (.int .i64 99))).put (.int .i64 15) (.lit (.int .i64 100))).put (.int .i64 16) (.lit (.int .i64 101)))
/-- The literal of this family, laid in a new block; what the call of 'do' then answers is handed on. -/
theorem order_walk (o a b : Int) (w : World) (r : Int)
    (hdo : ∀ W : World, W.ownsMap Tryd.prog 3 fnElem w.heap.size 7 orderD → Calls Tryd.prog 81 #[.map (some w.heap.size), .int .i64 o, .int .i64 a, .int .i64 b] W fun e w' => e = .returned (.int .i64 r) ∧ W = w') :
    Calls Tryd.prog 71 #[.int .i64 o, .int .i64 a, .int .i64 b] w fun e w' => e = .returned (.int .i64 r) ∧ Below w.heap.size w w' := by
  have hmm := @run_makeMap Tryd.prog
  have hM0 := World.ownsMap_made w Tryd.prog 3 fnElem
  have hB0 : Below w.heap.size w (w.alloc (.map #[] 0)) := (Below.refl _ _).alloc (Nat.le_refl _) _
  go_enter Tryd.func71, Tryd.ntmps71
  go_wp2_with (first
    | (go_at_call 81; refine (hdo _ (by assumption)).mono ?_; rintro e w' ⟨rfl, rfl⟩)
    | (refine wpList_insert_own _ rfl _ (.const (.int .i64 10)) (.func 94) 139 rfl 3 141 keyed Tryd.underlying139 fnElem w.heap.size 0 _ rfl hM0 (by decide) _ _ (.int .i64 10) rfl rfl (keyOf_int_mk Tryd.underlying3 (by decide)) _ _ (fnElem_mk 94) ?_; intro w1 hM1 hg1; have hB1 := hB0.grown hg1 hB0.size (fun j hj => by cases hj; exact Nat.le_refl _); clear hM0 hg1 hB0)
    | (refine wpList_insert_own _ rfl _ (.const (.int .i64 11)) (.func 96) 139 rfl 3 141 keyed Tryd.underlying139 fnElem w.heap.size 1 _ rfl hM1 (by decide) _ _ (.int .i64 11) rfl rfl (keyOf_int_mk Tryd.underlying3 (by decide)) _ _ (fnElem_mk 96) ?_; intro w2 hM2 hg2; have hB2 := hB1.grown hg2 hB1.size (fun j hj => by cases hj; exact Nat.le_refl _); clear hM1 hg2 hB1)
    | (refine wpList_insert_own _ rfl _ (.const (.int .i64 12)) (.func 97) 139 rfl 3 141 keyed Tryd.underlying139 fnElem w.heap.size 2 _ rfl hM2 (by decide) _ _ (.int .i64 12) rfl rfl (keyOf_int_mk Tryd.underlying3 (by decide)) _ _ (fnElem_mk 97) ?_; intro w3 hM3 hg3; have hB3 := hB2.grown hg3 hB2.size (fun j hj => by cases hj; exact Nat.le_refl _); clear hM2 hg3 hB2)
    | (refine wpList_insert_own _ rfl _ (.const (.int .i64 13)) (.func 98) 139 rfl 3 141 keyed Tryd.underlying139 fnElem w.heap.size 3 _ rfl hM3 (by decide) _ _ (.int .i64 13) rfl rfl (keyOf_int_mk Tryd.underlying3 (by decide)) _ _ (fnElem_mk 98) ?_; intro w4 hM4 hg4; have hB4 := hB3.grown hg4 hB3.size (fun j hj => by cases hj; exact Nat.le_refl _); clear hM3 hg4 hB3)
    | (refine wpList_insert_own _ rfl _ (.const (.int .i64 14)) (.func 99) 139 rfl 3 141 keyed Tryd.underlying139 fnElem w.heap.size 4 _ rfl hM4 (by decide) _ _ (.int .i64 14) rfl rfl (keyOf_int_mk Tryd.underlying3 (by decide)) _ _ (fnElem_mk 99) ?_; intro w5 hM5 hg5; have hB5 := hB4.grown hg5 hB4.size (fun j hj => by cases hj; exact Nat.le_refl _); clear hM4 hg5 hB4)
    | (refine wpList_insert_own _ rfl _ (.const (.int .i64 15)) (.func 100) 139 rfl 3 141 keyed Tryd.underlying139 fnElem w.heap.size 5 _ rfl hM5 (by decide) _ _ (.int .i64 15) rfl rfl (keyOf_int_mk Tryd.underlying3 (by decide)) _ _ (fnElem_mk 100) ?_; intro w6 hM6 hg6; have hB6 := hB5.grown hg6 hB5.size (fun j hj => by cases hj; exact Nat.le_refl _); clear hM5 hg6 hB5)
    | (refine wpList_insert_own _ rfl _ (.const (.int .i64 16)) (.func 101) 139 rfl 3 141 keyed Tryd.underlying139 fnElem w.heap.size 6 _ rfl hM6 (by decide) _ _ (.int .i64 16) rfl rfl (keyOf_int_mk Tryd.underlying3 (by decide)) _ _ (fnElem_mk 101) ?_; intro w7 hM7 hg7; have hB7 := hB6.grown hg7 hB6.size (fun j hj => by cases hj; exact Nat.le_refl _); clear hM6 hg7 hB6))
  go_ret
  exact ⟨rfl, hB7⟩
theorem order_10 (a b : Int) (w : World) : Calls Tryd.prog 71 #[.int .i64 10, .int .i64 a, .int .i64 b] w fun e w' => e = .returned (.int .i64 (tr (a == b))) ∧ Below w.heap.size w w' :=
  order_walk 10 a b w _ fun W h => do_hit _ _ _ _ _ _ _ ((look_fn h keyed Tryd.underlying139 (zero_fn _) (keyOf_int_mk Tryd.underlying3 (by decide))).1 94 rfl) (by kernel_rfl) (f10_any a b W)
theorem order_11 (a b : Int) (w : World) : Calls Tryd.prog 71 #[.int .i64 11, .int .i64 a, .int .i64 b] w fun e w' => e = .returned (.int .i64 (tr (a != b))) ∧ Below w.heap.size w w' :=
  order_walk 11 a b w _ fun W h => do_hit _ _ _ _ _ _ _ ((look_fn h keyed Tryd.underlying139 (zero_fn _) (keyOf_int_mk Tryd.underlying3 (by decide))).1 96 rfl) (by kernel_rfl) (f11_any a b W)
theorem order_12 (a b : Int) (w : World) : Calls Tryd.prog 71 #[.int .i64 12, .int .i64 a, .int .i64 b] w fun e w' => e = .returned (.int .i64 (tr (decide (a < b)))) ∧ Below w.heap.size w w' :=
  order_walk 12 a b w _ fun W h => do_hit _ _ _ _ _ _ _ ((look_fn h keyed Tryd.underlying139 (zero_fn _) (keyOf_int_mk Tryd.underlying3 (by decide))).1 97 rfl) (by kernel_rfl) (f12_any a b W)
theorem order_13 (a b : Int) (w : World) : Calls Tryd.prog 71 #[.int .i64 13, .int .i64 a, .int .i64 b] w fun e w' => e = .returned (.int .i64 (tr (decide (a ≤ b)))) ∧ Below w.heap.size w w' :=
  order_walk 13 a b w _ fun W h => do_hit _ _ _ _ _ _ _ ((look_fn h keyed Tryd.underlying139 (zero_fn _) (keyOf_int_mk Tryd.underlying3 (by decide))).1 98 rfl) (by kernel_rfl) (f13_any a b W)
theorem order_14 (a b : Int) (w : World) : Calls Tryd.prog 71 #[.int .i64 14, .int .i64 a, .int .i64 b] w fun e w' => e = .returned (.int .i64 (tr (decide (b < a)))) ∧ Below w.heap.size w w' :=
  order_walk 14 a b w _ fun W h => do_hit _ _ _ _ _ _ _ ((look_fn h keyed Tryd.underlying139 (zero_fn _) (keyOf_int_mk Tryd.underlying3 (by decide))).1 99 rfl) (by kernel_rfl) (f14_any a b W)
theorem order_15 (a b : Int) (w : World) : Calls Tryd.prog 71 #[.int .i64 15, .int .i64 a, .int .i64 b] w fun e w' => e = .returned (.int .i64 (tr (decide (b ≤ a)))) ∧ Below w.heap.size w w' :=
  order_walk 15 a b w _ fun W h => do_hit _ _ _ _ _ _ _ ((look_fn h keyed Tryd.underlying139 (zero_fn _) (keyOf_int_mk Tryd.underlying3 (by decide))).1 100 rfl) (by kernel_rfl) (f15_any a b W)
theorem order_16 (a b : Int) (w : World) : Calls Tryd.prog 71 #[.int .i64 16, .int .i64 a, .int .i64 b] w fun e w' => e = .returned (.int .i64 (tr (decide (IntKind.u64.wrap a < IntKind.u64.wrap b)))) ∧ Below w.heap.size w w' :=
  order_walk 16 a b w _ fun W h => do_hit _ _ _ _ _ _ _ ((look_fn h keyed Tryd.underlying139 (zero_fn _) (keyOf_int_mk Tryd.underlying3 (by decide))).1 101 rfl) (by kernel_rfl) (f16_any a b W)
theorem order_none (o a b : Int) (w : World) (hw : (Lit.int .i64 o).wf = true) (h10 : o ≠ 10) (h11 : o ≠ 11) (h12 : o ≠ 12) (h13 : o ≠ 13) (h14 : o ≠ 14) (h15 : o ≠ 15) (h16 : o ≠ 16) : Calls Tryd.prog 71 #[.int .i64 o, .int .i64 a, .int .i64 b] w fun e w' => e = .returned (.int .i64 0) ∧ Below w.heap.size w w' :=
  order_walk o a b w _ fun W h => do_miss _ _ _ _ _ ((look_fn h keyed Tryd.underlying139 (zero_fn _) (keyOf_int_mk Tryd.underlying3 hw)).2 fun d => by
    unfold orderD
    rw [atKey_put_other (by intro h; cases h; contradiction)]
    rw [atKey_put_other (by intro h; cases h; contradiction)]
    rw [atKey_put_other (by intro h; cases h; contradiction)]
    rw [atKey_put_other (by intro h; cases h; contradiction)]
    rw [atKey_put_other (by intro h; cases h; contradiction)]
    rw [atKey_put_other (by intro h; cases h; contradiction)]
    rw [atKey_put_other (by intro h; cases h; contradiction)]
    rfl)
def bothD : DataW Unit := (((DataW.map [] : DataW Unit).put (.int .i64 17) (.lit (.int .i64 102))).put (.int .i64 18) (.lit (.int .i64 103)))
/-- The literal of this family, laid in a new block; what the call of 'do' then answers is handed on. -/
theorem both_walk (o a b : Int) (w : World) (r : Int)
    (hdo : ∀ W : World, W.ownsMap Tryd.prog 3 fnElem w.heap.size 2 bothD → Calls Tryd.prog 81 #[.map (some w.heap.size), .int .i64 o, .int .i64 a, .int .i64 b] W fun e w' => e = .returned (.int .i64 r) ∧ W = w') :
    Calls Tryd.prog 72 #[.int .i64 o, .int .i64 a, .int .i64 b] w fun e w' => e = .returned (.int .i64 r) ∧ Below w.heap.size w w' := by
  have hmm := @run_makeMap Tryd.prog
  have hM0 := World.ownsMap_made w Tryd.prog 3 fnElem
  have hB0 : Below w.heap.size w (w.alloc (.map #[] 0)) := (Below.refl _ _).alloc (Nat.le_refl _) _
  go_enter Tryd.func72, Tryd.ntmps72
  go_wp2_with (first
    | (go_at_call 81; refine (hdo _ (by assumption)).mono ?_; rintro e w' ⟨rfl, rfl⟩)
    | (refine wpList_insert_own _ rfl _ (.const (.int .i64 17)) (.func 102) 139 rfl 3 141 keyed Tryd.underlying139 fnElem w.heap.size 0 _ rfl hM0 (by decide) _ _ (.int .i64 17) rfl rfl (keyOf_int_mk Tryd.underlying3 (by decide)) _ _ (fnElem_mk 102) ?_; intro w1 hM1 hg1; have hB1 := hB0.grown hg1 hB0.size (fun j hj => by cases hj; exact Nat.le_refl _); clear hM0 hg1 hB0)
    | (refine wpList_insert_own _ rfl _ (.const (.int .i64 18)) (.func 103) 139 rfl 3 141 keyed Tryd.underlying139 fnElem w.heap.size 1 _ rfl hM1 (by decide) _ _ (.int .i64 18) rfl rfl (keyOf_int_mk Tryd.underlying3 (by decide)) _ _ (fnElem_mk 103) ?_; intro w2 hM2 hg2; have hB2 := hB1.grown hg2 hB1.size (fun j hj => by cases hj; exact Nat.le_refl _); clear hM1 hg2 hB1))
  go_ret
  exact ⟨rfl, hB2⟩
theorem both_17 (a b : Int) (w : World) : Calls Tryd.prog 72 #[.int .i64 17, .int .i64 a, .int .i64 b] w fun e w' => e = .returned (.int .i64 (tr (a != 0 && b != 0))) ∧ Below w.heap.size w w' :=
  both_walk 17 a b w _ fun W h => do_hit _ _ _ _ _ _ _ ((look_fn h keyed Tryd.underlying139 (zero_fn _) (keyOf_int_mk Tryd.underlying3 (by decide))).1 102 rfl) (by kernel_rfl) (f17_any a b W)
theorem both_18 (a b : Int) (w : World) : Calls Tryd.prog 72 #[.int .i64 18, .int .i64 a, .int .i64 b] w fun e w' => e = .returned (.int .i64 (tr (a != 0 || b != 0))) ∧ Below w.heap.size w w' :=
  both_walk 18 a b w _ fun W h => do_hit _ _ _ _ _ _ _ ((look_fn h keyed Tryd.underlying139 (zero_fn _) (keyOf_int_mk Tryd.underlying3 (by decide))).1 103 rfl) (by kernel_rfl) (f18_any a b W)
theorem both_none (o a b : Int) (w : World) (hw : (Lit.int .i64 o).wf = true) (h17 : o ≠ 17) (h18 : o ≠ 18) : Calls Tryd.prog 72 #[.int .i64 o, .int .i64 a, .int .i64 b] w fun e w' => e = .returned (.int .i64 0) ∧ Below w.heap.size w w' :=
  both_walk o a b w _ fun W h => do_miss _ _ _ _ _ ((look_fn h keyed Tryd.underlying139 (zero_fn _) (keyOf_int_mk Tryd.underlying3 hw)).2 fun d => by
    unfold bothD
    rw [atKey_put_other (by intro h; cases h; contradiction)]
    rw [atKey_put_other (by intro h; cases h; contradiction)]
    rfl)
theorem eval_sum (o a b r : Int) (w : World) (h5 : o < 5) (h : Calls Tryd.prog 69 #[.int .i64 o, .int .i64 a, .int .i64 b] w fun e w' => e = .returned (.int .i64 r) ∧ Below w.heap.size w w') :
    Calls Tryd.prog 62 #[.int .i64 o, .int .i64 a, .int .i64 b] w fun e w' => e = .returned (.int .i64 r) ∧ Below w.heap.size w w' := by
  go_enter Tryd.func62, Tryd.ntmps62
  go_wp2_with (go_at_call 69; refine h.mono ?_; rintro e w' ⟨rfl, hB⟩)
  go_ret
  exact ⟨rfl, hB⟩
theorem eval_bitwise (o a b r : Int) (w : World) (h5 : 5 ≤ o) (h10 : o < 10) (h : Calls Tryd.prog 70 #[.int .i64 o, .int .i64 a, .int .i64 b] w fun e w' => e = .returned (.int .i64 r) ∧ Below w.heap.size w w') :
    Calls Tryd.prog 62 #[.int .i64 o, .int .i64 a, .int .i64 b] w fun e w' => e = .returned (.int .i64 r) ∧ Below w.heap.size w w' := by
  go_enter Tryd.func62, Tryd.ntmps62
  go_wp2_with (go_at_call 70; refine h.mono ?_; rintro e w' ⟨rfl, hB⟩)
  go_ret
  exact ⟨rfl, hB⟩
theorem eval_order (o a b r : Int) (w : World) (h5 : 5 ≤ o) (h10 : 10 ≤ o) (h17 : o < 17) (h : Calls Tryd.prog 71 #[.int .i64 o, .int .i64 a, .int .i64 b] w fun e w' => e = .returned (.int .i64 r) ∧ Below w.heap.size w w') :
    Calls Tryd.prog 62 #[.int .i64 o, .int .i64 a, .int .i64 b] w fun e w' => e = .returned (.int .i64 r) ∧ Below w.heap.size w w' := by
  go_enter Tryd.func62, Tryd.ntmps62
  go_wp2_with (go_at_call 71; refine h.mono ?_; rintro e w' ⟨rfl, hB⟩)
  go_ret
  exact ⟨rfl, hB⟩
theorem eval_both (o a b r : Int) (w : World) (h5 : 5 ≤ o) (h10 : 10 ≤ o) (h17 : 17 ≤ o) (h : Calls Tryd.prog 72 #[.int .i64 o, .int .i64 a, .int .i64 b] w fun e w' => e = .returned (.int .i64 r) ∧ Below w.heap.size w w') :
    Calls Tryd.prog 62 #[.int .i64 o, .int .i64 a, .int .i64 b] w fun e w' => e = .returned (.int .i64 r) ∧ Below w.heap.size w w' := by
  go_enter Tryd.func62, Tryd.ntmps62
  go_wp2_with (go_at_call 72; refine h.mono ?_; rintro e w' ⟨rfl, hB⟩)
  go_ret
  exact ⟨rfl, hB⟩
/-- calc.Eval, of any operator. -/
theorem eval_any (o a b : Int) (w : World) (hw : (Lit.int .i64 o).wf = true) : Calls Tryd.prog 62 #[.int .i64 o, .int .i64 a, .int .i64 b] w fun e w' => e = .returned (.int .i64 (ev o a b)) ∧ Below w.heap.size w w' := by
  by_cases h0 : o = 0
  · subst h0
    exact eval_sum 0 a b _ w (by omega) (sum_0 a b w)
  by_cases h1 : o = 1
  · subst h1
    exact eval_sum 1 a b _ w (by omega) (sum_1 a b w)
  by_cases h2 : o = 2
  · subst h2
    exact eval_sum 2 a b _ w (by omega) (sum_2 a b w)
  by_cases h3 : o = 3
  · subst h3
    exact eval_sum 3 a b _ w (by omega) (sum_3 a b w)
  by_cases h4 : o = 4
  · subst h4
    exact eval_sum 4 a b _ w (by omega) (sum_4 a b w)
  by_cases h5 : o = 5
  · subst h5
    exact eval_bitwise 5 a b _ w (by omega) (by omega) (bitwise_5 a b w)
  by_cases h6 : o = 6
  · subst h6
    exact eval_bitwise 6 a b _ w (by omega) (by omega) (bitwise_6 a b w)
  by_cases h7 : o = 7
  · subst h7
    exact eval_bitwise 7 a b _ w (by omega) (by omega) (bitwise_7 a b w)
  by_cases h8 : o = 8
  · subst h8
    exact eval_bitwise 8 a b _ w (by omega) (by omega) (bitwise_8 a b w)
  by_cases h9 : o = 9
  · subst h9
    exact eval_bitwise 9 a b _ w (by omega) (by omega) (bitwise_9 a b w)
  by_cases h10 : o = 10
  · subst h10
    exact eval_order 10 a b _ w (by omega) (by omega) (by omega) (order_10 a b w)
  by_cases h11 : o = 11
  · subst h11
    exact eval_order 11 a b _ w (by omega) (by omega) (by omega) (order_11 a b w)
  by_cases h12 : o = 12
  · subst h12
    exact eval_order 12 a b _ w (by omega) (by omega) (by omega) (order_12 a b w)
  by_cases h13 : o = 13
  · subst h13
    exact eval_order 13 a b _ w (by omega) (by omega) (by omega) (order_13 a b w)
  by_cases h14 : o = 14
  · subst h14
    exact eval_order 14 a b _ w (by omega) (by omega) (by omega) (order_14 a b w)
  by_cases h15 : o = 15
  · subst h15
    exact eval_order 15 a b _ w (by omega) (by omega) (by omega) (order_15 a b w)
  by_cases h16 : o = 16
  · subst h16
    exact eval_order 16 a b _ w (by omega) (by omega) (by omega) (order_16 a b w)
  by_cases h17 : o = 17
  · subst h17
    exact eval_both 17 a b _ w (by omega) (by omega) (by omega) (both_17 a b w)
  by_cases h18 : o = 18
  · subst h18
    exact eval_both 18 a b _ w (by omega) (by omega) (by omega) (both_18 a b w)
  have hz : ev o a b = 0 := by simp [ev, h0, h1, h2, h3, h4, h5, h6, h7, h8, h9, h10, h11, h12, h13, h14, h15, h16, h17, h18]
  rw [hz]
  by_cases k5 : o < 5
  · exact eval_sum o a b 0 w k5 (sum_none o a b w hw h0 h1 h2 h3 h4)
  by_cases k10 : o < 10
  · exact eval_bitwise o a b 0 w (by omega) k10 (bitwise_none o a b w hw h5 h6 h7 h8 h9)
  by_cases k17 : o < 17
  · exact eval_order o a b 0 w (by omega) (by omega) k17 (order_none o a b w hw h10 h11 h12 h13 h14 h15 h16)
  exact eval_both o a b 0 w (by omega) (by omega) (by omega) (both_none o a b w hw h17 h18)
end Go.Proofs.YtgdhgipofaaogaaDoor
namespace Go.Proofs.YtgdhgipofaaogaaDoor
open Go Go.RowKit
theorem bd_of {a : Int} (h : (Lit.int .i64 a).wf = true) : -9223372036854775808 ≤ a ∧ a ≤ 9223372036854775807 := by
  simp [Lit.wf, IntKind.min, IntKind.max, IntKind.bits, IntKind.signed] at h
  omega
theorem wf_of {a : Int} (h0 : -9223372036854775808 ≤ a) (h1 : a ≤ 9223372036854775807) : (Lit.int .i64 a).wf = true := by
  simp [Lit.wf, IntKind.min, IntKind.max, IntKind.bits, IntKind.signed]
  omega
theorem wrap_id {a : Int} (h0 : -9223372036854775808 ≤ a) (h1 : a ≤ 9223372036854775807) : wrap64 a = a := by unfold wrap64; omega
theorem wrap_bd (a : Int) : -9223372036854775808 ≤ wrap64 a ∧ wrap64 a ≤ 9223372036854775807 := by unfold wrap64; omega
end Go.Proofs.YtgdhgipofaaogaaDoor
namespace Go.Proofs.YtgdhgipofaaogaaDoor
open Go Go.RowKit
theorem rone_t (w : World) : Calls Tryd.prog 80 #[.bool true] w fun e w' => e = .returned (.int .i64 1) ∧ w = w' := by
  go_enter Tryd.func80, Tryd.ntmps80
  go_wp2
  go_ret
  exact ⟨rfl, rfl⟩
theorem rone_f (w : World) : Calls Tryd.prog 80 #[.bool false] w fun e w' => e = .returned (.int .i64 0) ∧ w = w' := by
  go_enter Tryd.func80, Tryd.ntmps80
  go_wp2
  go_ret
  exact ⟨rfl, rfl⟩
theorem rone_any (t : Bool) (w : World) : Calls Tryd.prog 80 #[.bool t] w fun e w' => e = .returned (.int .i64 (tr t)) ∧ w = w' := by
  cases t
  · exact rone_f w
  · exact rone_t w
theorem rdiv_zero (a : Int) (w : World) : Calls Tryd.prog 78 #[.int .i64 a, .int .i64 0] w fun e w' => e = .returned (.int .i64 0) ∧ w = w' := by
  go_enter Tryd.func78, Tryd.ntmps78
  go_wp2
  go_ret
  exact ⟨rfl, rfl⟩
theorem rdiv_neg (a : Int) (w : World) : Calls Tryd.prog 78 #[.int .i64 a, .int .i64 (-1)] w fun e w' => e = .returned (.int .i64 (wrap64 (-a))) ∧ w = w' := by
  go_enter Tryd.func78, Tryd.ntmps78
  go_wp2
  go_ret
  exact ⟨rfl, rfl⟩
theorem rdiv_some (a b : Int) (w : World) (h0 : (b == 0) = false) (h1 : (b == -1) = false) (k0 : ¬ b = 0) : Calls Tryd.prog 78 #[.int .i64 a, .int .i64 b] w fun e w' => e = .returned (.int .i64 (wrap64 (a.tdiv b))) ∧ w = w' := by
  go_enter Tryd.func78, Tryd.ntmps78
  go_wp2
  go_ret
  exact ⟨rfl, rfl⟩
theorem rdiv_any (a b : Int) (w : World) : Calls Tryd.prog 78 #[.int .i64 a, .int .i64 b] w fun e w' => e = .returned (.int .i64 (qt a b)) ∧ w = w' := by
  by_cases h : b = 0
  · subst h
    exact rdiv_zero a w
  · have e1 : qt a b = wrap64 (a.tdiv b) := if_neg h
    rw [e1]
    by_cases h1 : b = -1
    · subst h1
      have e2 : a.tdiv (-1) = -a := by rw [Int.tdiv_neg, Int.tdiv_one]
      rw [e2]
      exact rdiv_neg a w
    · exact rdiv_some a b w (by simp [h]) (by simp [h1]) h
theorem places_eq (b : Int) : wrap64 ((IntKind.u64.wrap b).tmod 64) = b % 64 := by
  rw [IntKind.wrap_u64, Int.tmod_eq_emod_of_nonneg (by omega)]
  unfold wrap64
  omega
theorem pow2_succ (k : Nat) : (2 : Int) ^ (k + 1) = 2 ^ k * 2 := Int.pow_succ ..
theorem pow2_pos (k : Nat) : (0 : Int) < 2 ^ k := Int.pow_pos (by decide)
theorem shl_step (a : Int) (k : Nat) : wrap64 (wrap64 (a * 2 ^ k) * 2) = wrap64 (a * 2 ^ (k + 1)) := by
  rw [pow2_succ, ← Int.mul_assoc]
  generalize a * 2 ^ k = t
  unfold wrap64
  omega
theorem shr_step (a : Int) (k : Nat) : a / 2 ^ k / 2 = a / 2 ^ (k + 1) := by
  rw [pow2_succ]
  exact Int.ediv_ediv_of_nonneg (Int.le_of_lt (pow2_pos k))
theorem tdiv2_neg {x : Int} (h : x < 0) : x.tdiv 2 = -((-x) / 2) := by
  have h1 := Int.neg_tdiv (-x) 2
  have h2 : (-x).tdiv 2 = (-x) / 2 := Int.tdiv_eq_ediv_of_nonneg (by omega)
  rw [Int.neg_neg, h2] at h1
  exact h1
theorem tmod2_neg {x : Int} (h : x < 0) : x.tmod 2 = -((-x) % 2) := by
  have h1 := Int.neg_tmod (-x) 2
  have h2 : (-x).tmod 2 = (-x) % 2 := Int.tmod_eq_emod_of_nonneg (by omega)
  rw [Int.neg_neg, h2] at h1
  exact h1
theorem rshl_any (a b n : Int) (w : World) (wa : wrap64 a = a) (n0 : 0 ≤ n) (n1 : n ≤ 63) (hn : wrap64 ((IntKind.u64.wrap b).tmod 64) = n) : Calls Tryd.prog 79 #[.int .i64 a, .int .i64 b, .bool true] w fun e w' => e = .returned (.int .i64 (wrap64 (a * 2 ^ n.toNat))) ∧ w = w' := by
  have WA := Lib.hid wa
  clear wa
  go_enter Tryd.func79, Tryd.ntmps79
  go_wp2
  rw [hn]
  clear hn
  go_loop [0, 8] (fun x i => ∃ (k : Nat) (y : Int), (k : Int) ≤ n ∧ i = .int .i64 k ∧ x = .int .i64 y ∧ y = wrap64 (a * 2 ^ k)) (fun _ i => n.toNat - (intOf i).toNat)
  case atStart => exact ⟨0, a, by omega, rfl, rfl, by rw [Int.pow_zero, Int.mul_one]; exact WA.out.symm⟩
  case round =>
    obtain ⟨k, y, hk, rfl, rfl, hy⟩ := hrel
    have HY := Lib.hid hy
    clear hy
    by_cases hlt : (k : Int) < n
    · go_wp2
      go_round
      case rel => exact ⟨k + 1, _, by omega, by go_num, rfl, by rw [HY.out, shl_step]⟩
      case measure => simp [intOf]; omega
    · go_wp2
      go_ret
      have e : k = n.toNat := by omega
      exact ⟨ret_int (by rw [HY.out, e]), rfl⟩
theorem rshr_any (a b n : Int) (w : World) (a0 : -9223372036854775808 ≤ a) (a1 : a ≤ 9223372036854775807) (n0 : 0 ≤ n) (n1 : n ≤ 63) (hn : wrap64 ((IntKind.u64.wrap b).tmod 64) = n) : Calls Tryd.prog 79 #[.int .i64 a, .int .i64 b, .bool false] w fun e w' => e = .returned (.int .i64 (a / 2 ^ n.toNat)) ∧ w = w' := by
  go_enter Tryd.func79, Tryd.ntmps79
  go_wp2
  rw [hn]
  clear hn
  go_loop [0, 8] (fun x i => ∃ (k : Nat) (y : Int), (k : Int) ≤ n ∧ i = .int .i64 k ∧ x = .int .i64 y ∧ y = a / 2 ^ k ∧ -9223372036854775808 ≤ y ∧ y ≤ 9223372036854775807) (fun _ i => n.toNat - (intOf i).toNat)
  case atStart => exact ⟨0, a, by omega, rfl, rfl, by rw [Int.pow_zero, Int.ediv_one], a0, a1⟩
  case round =>
    obtain ⟨k, y, hk, rfl, rfl, hy, y0, y1⟩ := hrel
    have HY := Lib.hid hy
    clear hy
    by_cases hlt : (k : Int) < n
    · by_cases hp : 0 ≤ y
      · go_wp2
        go_round
        case rel => exact ⟨k + 1, y / 2, by omega, by go_num, by first | rfl | go_num, by rw [HY.out, shr_step], by omega, by omega⟩
        case measure => simp [intOf]; omega
      · have hneg : y < 0 := by omega
        have ht := tdiv2_neg hneg
        have hm := tmod2_neg hneg
        have HT := Lib.hid ht
        by_cases ho : (y.tmod 2 != 0) = true
        · have HO := Lib.hid (show y % 2 = 1 by simp [hm] at ho; omega)
          clear ht hm
          go_wp2
          go_round
          case rel => exact ⟨k + 1, y / 2, by omega, by go_num, congrArg (Value.int .i64) (by have := HT.out; have := HO.out; first | omega | (unfold wrap64; omega)), by rw [HY.out, shr_step], by omega, by omega⟩
          case measure => simp [intOf]; omega
        · have ho2 : (y.tmod 2 != 0) = false := by simpa using ho
          have HO := Lib.hid (show y % 2 = 0 by simp [hm] at ho; omega)
          clear ht hm ho
          go_wp2
          go_round
          case rel => exact ⟨k + 1, y / 2, by omega, by go_num, congrArg (Value.int .i64) (by have := HT.out; have := HO.out; first | omega | (unfold wrap64; omega)), by rw [HY.out, shr_step], by omega, by omega⟩
          case measure => simp [intOf]; omega
    · go_wp2
      go_ret
      have e : k = n.toNat := by omega
      exact ⟨ret_int (by rw [HY.out, e]), rfl⟩
theorem reval_0 (a b : Int) (w : World) : Calls Tryd.prog 67 #[.int .i64 0, .int .i64 a, .int .i64 b] w fun e w' => e = .returned (.int .i64 (wrap64 (a + b))) ∧ w = w' := by
  go_enter Tryd.func67, Tryd.ntmps67
  go_wp2
  go_ret
  exact ⟨rfl, rfl⟩
theorem reval_1 (a b : Int) (w : World) : Calls Tryd.prog 67 #[.int .i64 1, .int .i64 a, .int .i64 b] w fun e w' => e = .returned (.int .i64 (wrap64 (a - b))) ∧ w = w' := by
  go_enter Tryd.func67, Tryd.ntmps67
  go_wp2
  go_ret
  exact ⟨rfl, rfl⟩
theorem reval_2 (a b : Int) (w : World) : Calls Tryd.prog 67 #[.int .i64 2, .int .i64 a, .int .i64 b] w fun e w' => e = .returned (.int .i64 (wrap64 (a * b))) ∧ w = w' := by
  go_enter Tryd.func67, Tryd.ntmps67
  go_wp2
  go_ret
  exact ⟨rfl, rfl⟩
theorem reval_3 (a b : Int) (w : World) : Calls Tryd.prog 67 #[.int .i64 3, .int .i64 a, .int .i64 b] w fun e w' => e = .returned (.int .i64 (qt a b)) ∧ w = w' := by
  go_enter Tryd.func67, Tryd.ntmps67
  go_wp2_with (go_at_call 78; refine (rdiv_any _ _ _).mono ?_; rintro e w' ⟨rfl, rfl⟩)
  go_ret
  exact ⟨rfl, rfl⟩
theorem reval_4 (a b : Int) (w : World) : Calls Tryd.prog 67 #[.int .i64 4, .int .i64 a, .int .i64 b] w fun e w' => e = .returned (.int .i64 (wrap64 (a - wrap64 (b * qt a b)))) ∧ w = w' := by
  go_enter Tryd.func67, Tryd.ntmps67
  go_wp2_with (go_at_call 78; refine (rdiv_any _ _ _).mono ?_; rintro e w' ⟨rfl, rfl⟩)
  go_ret
  exact ⟨rfl, rfl⟩
theorem reval_5 (a b : Int) (w : World) : Calls Tryd.prog 67 #[.int .i64 5, .int .i64 a, .int .i64 b] w fun e w' => e = .returned (.int .i64 (bits .and .i64 a b)) ∧ w = w' := by
  go_enter Tryd.func67, Tryd.ntmps67
  go_wp2
  go_ret
  exact ⟨rfl, rfl⟩
theorem reval_6 (a b : Int) (w : World) : Calls Tryd.prog 67 #[.int .i64 6, .int .i64 a, .int .i64 b] w fun e w' => e = .returned (.int .i64 (bits .or .i64 a b)) ∧ w = w' := by
  go_enter Tryd.func67, Tryd.ntmps67
  go_wp2
  go_ret
  exact ⟨rfl, rfl⟩
theorem reval_7 (a b : Int) (w : World) : Calls Tryd.prog 67 #[.int .i64 7, .int .i64 a, .int .i64 b] w fun e w' => e = .returned (.int .i64 (bits .xor .i64 a b)) ∧ w = w' := by
  go_enter Tryd.func67, Tryd.ntmps67
  go_wp2
  go_ret
  exact ⟨rfl, rfl⟩
theorem reval_8 (a b : Int) (a0 : -9223372036854775808 ≤ a) (a1 : a ≤ 9223372036854775807) (w : World) : Calls Tryd.prog 67 #[.int .i64 8, .int .i64 a, .int .i64 b] w fun e w' => e = .returned (.int .i64 (wrap64 (a * 2 ^ (b % 64).toNat))) ∧ w = w' := by
  go_enter Tryd.func67, Tryd.ntmps67
  go_wp2_with (go_at_call 79; refine (rshl_any a b (b % 64) _ (wrap_id a0 a1) (by omega) (by omega) (places_eq b)).mono ?_; rintro e w' ⟨rfl, rfl⟩)
  go_ret
  exact ⟨rfl, rfl⟩
theorem reval_9 (a b : Int) (a0 : -9223372036854775808 ≤ a) (a1 : a ≤ 9223372036854775807) (w : World) : Calls Tryd.prog 67 #[.int .i64 9, .int .i64 a, .int .i64 b] w fun e w' => e = .returned (.int .i64 (a / 2 ^ (b % 64).toNat)) ∧ w = w' := by
  go_enter Tryd.func67, Tryd.ntmps67
  go_wp2_with (go_at_call 79; refine (rshr_any a b (b % 64) _ a0 a1 (by omega) (by omega) (places_eq b)).mono ?_; rintro e w' ⟨rfl, rfl⟩)
  go_ret
  exact ⟨rfl, rfl⟩
theorem reval_10 (a b : Int) (w : World) : Calls Tryd.prog 67 #[.int .i64 10, .int .i64 a, .int .i64 b] w fun e w' => e = .returned (.int .i64 (tr (a == b))) ∧ w = w' := by
  go_enter Tryd.func67, Tryd.ntmps67
  go_wp2_with (go_at_call 80; refine (rone_any _ _).mono ?_; rintro e w' ⟨rfl, rfl⟩)
  go_ret
  exact ⟨rfl, rfl⟩
theorem reval_11 (a b : Int) (w : World) : Calls Tryd.prog 67 #[.int .i64 11, .int .i64 a, .int .i64 b] w fun e w' => e = .returned (.int .i64 (tr (a != b))) ∧ w = w' := by
  go_enter Tryd.func67, Tryd.ntmps67
  go_wp2_with (go_at_call 80; refine (rone_any _ _).mono ?_; rintro e w' ⟨rfl, rfl⟩)
  go_ret
  exact ⟨rfl, rfl⟩
theorem reval_12 (a b : Int) (w : World) : Calls Tryd.prog 67 #[.int .i64 12, .int .i64 a, .int .i64 b] w fun e w' => e = .returned (.int .i64 (tr (decide (a < b)))) ∧ w = w' := by
  go_enter Tryd.func67, Tryd.ntmps67
  go_wp2_with (go_at_call 80; refine (rone_any _ _).mono ?_; rintro e w' ⟨rfl, rfl⟩)
  go_ret
  exact ⟨rfl, rfl⟩
theorem reval_13 (a b : Int) (w : World) : Calls Tryd.prog 67 #[.int .i64 13, .int .i64 a, .int .i64 b] w fun e w' => e = .returned (.int .i64 (tr (decide (a ≤ b)))) ∧ w = w' := by
  go_enter Tryd.func67, Tryd.ntmps67
  go_wp2_with (go_at_call 80; refine (rone_any _ _).mono ?_; rintro e w' ⟨rfl, rfl⟩)
  go_ret
  exact ⟨rfl, rfl⟩
theorem reval_14 (a b : Int) (w : World) : Calls Tryd.prog 67 #[.int .i64 14, .int .i64 a, .int .i64 b] w fun e w' => e = .returned (.int .i64 (tr (decide (b < a)))) ∧ w = w' := by
  go_enter Tryd.func67, Tryd.ntmps67
  go_wp2_with (go_at_call 80; refine (rone_any _ _).mono ?_; rintro e w' ⟨rfl, rfl⟩)
  go_ret
  exact ⟨rfl, rfl⟩
theorem reval_15 (a b : Int) (w : World) : Calls Tryd.prog 67 #[.int .i64 15, .int .i64 a, .int .i64 b] w fun e w' => e = .returned (.int .i64 (tr (decide (b ≤ a)))) ∧ w = w' := by
  go_enter Tryd.func67, Tryd.ntmps67
  go_wp2_with (go_at_call 80; refine (rone_any _ _).mono ?_; rintro e w' ⟨rfl, rfl⟩)
  go_ret
  exact ⟨rfl, rfl⟩
theorem reval_16 (a b : Int) (w : World) : Calls Tryd.prog 67 #[.int .i64 16, .int .i64 a, .int .i64 b] w fun e w' => e = .returned (.int .i64 (tr (decide (IntKind.u64.wrap a < IntKind.u64.wrap b)))) ∧ w = w' := by
  go_enter Tryd.func67, Tryd.ntmps67
  go_wp2_with (go_at_call 80; refine (rone_any _ _).mono ?_; rintro e w' ⟨rfl, rfl⟩)
  go_ret
  exact ⟨rfl, rfl⟩
theorem reval_17 (a b : Int) (w : World) : Calls Tryd.prog 67 #[.int .i64 17, .int .i64 a, .int .i64 b] w fun e w' => e = .returned (.int .i64 (tr (a != 0 && b != 0))) ∧ w = w' := by
  go_enter Tryd.func67, Tryd.ntmps67
  go_wp2_with (go_at_call 80; refine (rone_any _ _).mono ?_; rintro e w' ⟨rfl, rfl⟩)
  all_goals go_ret
  all_goals refine ⟨?_, rfl⟩
  all_goals apply ret_int
  all_goals first | rfl | simp_all [tr]
theorem reval_18 (a b : Int) (w : World) : Calls Tryd.prog 67 #[.int .i64 18, .int .i64 a, .int .i64 b] w fun e w' => e = .returned (.int .i64 (tr (a != 0 || b != 0))) ∧ w = w' := by
  go_enter Tryd.func67, Tryd.ntmps67
  go_wp2_with (go_at_call 80; refine (rone_any _ _).mono ?_; rintro e w' ⟨rfl, rfl⟩)
  all_goals go_ret
  all_goals refine ⟨?_, rfl⟩
  all_goals apply ret_int
  all_goals first | rfl | simp_all [tr]
theorem reval_none (o a b : Int) (h0 : (o == 0) = false) (h1 : (o == 1) = false) (h2 : (o == 2) = false) (h3 : (o == 3) = false) (h4 : (o == 4) = false) (h5 : (o == 5) = false) (h6 : (o == 6) = false) (h7 : (o == 7) = false) (h8 : (o == 8) = false) (h9 : (o == 9) = false) (h10 : (o == 10) = false) (h11 : (o == 11) = false) (h12 : (o == 12) = false) (h13 : (o == 13) = false) (h14 : (o == 14) = false) (h15 : (o == 15) = false) (h16 : (o == 16) = false) (h17 : (o == 17) = false) (h18 : (o == 18) = false) (w : World) : Calls Tryd.prog 67 #[.int .i64 o, .int .i64 a, .int .i64 b] w fun e w' => e = .returned (.int .i64 0) ∧ w = w' := by
  go_enter Tryd.func67, Tryd.ntmps67
  go_wp2
  go_ret
  exact ⟨rfl, rfl⟩
/-- The document's Eval, of any operator. -/
theorem reval_any (o a b : Int) (a0 : -9223372036854775808 ≤ a) (a1 : a ≤ 9223372036854775807) (w : World) : Calls Tryd.prog 67 #[.int .i64 o, .int .i64 a, .int .i64 b] w fun e w' => e = .returned (.int .i64 (ev o a b)) ∧ w = w' := by
  by_cases h0 : o = 0
  · subst h0
    exact reval_0 a b w
  by_cases h1 : o = 1
  · subst h1
    exact reval_1 a b w
  by_cases h2 : o = 2
  · subst h2
    exact reval_2 a b w
  by_cases h3 : o = 3
  · subst h3
    exact reval_3 a b w
  by_cases h4 : o = 4
  · subst h4
    exact reval_4 a b w
  by_cases h5 : o = 5
  · subst h5
    exact reval_5 a b w
  by_cases h6 : o = 6
  · subst h6
    exact reval_6 a b w
  by_cases h7 : o = 7
  · subst h7
    exact reval_7 a b w
  by_cases h8 : o = 8
  · subst h8
    exact reval_8 a b a0 a1 w
  by_cases h9 : o = 9
  · subst h9
    exact reval_9 a b a0 a1 w
  by_cases h10 : o = 10
  · subst h10
    exact reval_10 a b w
  by_cases h11 : o = 11
  · subst h11
    exact reval_11 a b w
  by_cases h12 : o = 12
  · subst h12
    exact reval_12 a b w
  by_cases h13 : o = 13
  · subst h13
    exact reval_13 a b w
  by_cases h14 : o = 14
  · subst h14
    exact reval_14 a b w
  by_cases h15 : o = 15
  · subst h15
    exact reval_15 a b w
  by_cases h16 : o = 16
  · subst h16
    exact reval_16 a b w
  by_cases h17 : o = 17
  · subst h17
    exact reval_17 a b w
  by_cases h18 : o = 18
  · subst h18
    exact reval_18 a b w
  have hz : ev o a b = 0 := by simp [ev, h0, h1, h2, h3, h4, h5, h6, h7, h8, h9, h10, h11, h12, h13, h14, h15, h16, h17, h18]
  rw [hz]
  exact reval_none o a b (by simp [h0]) (by simp [h1]) (by simp [h2]) (by simp [h3]) (by simp [h4]) (by simp [h5]) (by simp [h6]) (by simp [h7]) (by simp [h8]) (by simp [h9]) (by simp [h10]) (by simp [h11]) (by simp [h12]) (by simp [h13]) (by simp [h14]) (by simp [h15]) (by simp [h16]) (by simp [h17]) (by simp [h18]) w
end Go.Proofs.YtgdhgipofaaogaaDoor
namespace Go.Proofs.YtgdhgipofaaogaaDoor
open Go Go.RowKit Gm

/-- All numbers fit. -/
def Rk6 (l : Kl) : Prop := ∀ q, q ∈ l → In6 q.2
theorem get6 {l : Kl} {r n : Int} {b : Bool} (h6 : Rk6 l) (h : gt l r = (if b = true then some n else none)) (h0 : b = false → n = 0) : In6 n := by
  cases b with
  | true => exact h6 (r, n) (gt_mem (by simpa using h))
  | false => rw [h0 rfl]; simp [In6]
/-- What value tells. -/
def ValP (W : World) (l : Kl) (x : Ic) (e : Ending) (w' : World) : Prop := ∃ n b, e = .returned (.tuple #[.int .i64 n, .bool b]) ∧ vl (gt l) x = (if b = true then some n else none) ∧ Below W.heap.size W w'
set_option maxRecDepth 100000 in
set_option maxHeartbeats 4000000 in
theorem value_c {W : World} {v : Value} {l : Kl} (hq : Hid (RK W v l)) (hl : l.length ≤ 100000) (h6 : Hid (Rk6 l)) (x : Ic) : Calls Tryd.prog 51 #[v, .agg #[.int .i64 x.k, .int .i64 x.o, .int .i64 x.d, .int .i64 x.a, .int .i64 x.b, .int .i64 x.n, .int .i64 x.t]] W (ValP W l x) := by
  go_enter Tryd.func51, Tryd.ntmps51
  go_upto_region 1 with (fail)
  refine name_world ?_
  intro V1 hV1
  obtain ⟨m, hm⟩ : ∃ m, W.heap.size = m := ⟨_, rfl⟩
  have HI : Hid (Ib V1 m (.int .i64 x.k) (.int .i64 x.o) (.int .i64 x.d) (.int .i64 x.a) (.int .i64 x.b) (.int .i64 x.n) (.int .i64 x.t)) := Lib.hid (by rw [hV1]; exact Ib.new hm.symm _ _ _ _ _ _ _)
  have HB1 : Hid (Below W.heap.size W V1) := Lib.hid (by rw [hV1]; exact below1 _ _)
  obtain ⟨bm, y0, y1, y2, y3, y4, y5, y6, -⟩ := HI.out.facts
  try rw [hm]
  clear hV1
  have HRK := Lib.hid (hq.out.stay HB1.out)
  have HG : Hid (∀ r, Calls Tryd.prog 24 #[v, .int .i64 r] V1 (GetP V1 l r)) := Lib.hid fun r => get_c HRK (by omega) r
  go_upto_region 2 with (go_at_call 24; (with_reducible refine (HG.out _).mono ?_); rintro e2 w2 ⟨a, ba, rfl, ga, za, rfl⟩; have HA := Lib.hid (And.intro ga (get6 h6.out ga za)); clear ga za)
  go_upto_region 3 with (go_at_call 24; (with_reducible refine (HG.out _).mono ?_); rintro e3 w3 ⟨b, bb, rfl, gb, zb, rfl⟩; have HB := Lib.hid gb; clear gb zb)
  go_upto_region 4 with (go_at_call 24; (with_reducible refine (HG.out _).mono ?_); rintro e4 w4 ⟨d, bd, rfl, gd, zd, rfl⟩; have HD := Lib.hid gd; clear gd zd)
  clear HG
  by_cases k0 : x.k = 0
  · rw [k0] at y0
    go_wp2
    go_ret2
    exact ⟨_, _, rfl, by unfold vl; simp [k0], HB1.out⟩
  have e0 : (x.k == 0) = false := by simp [k0]
  by_cases k1 : x.k = 1
  · rw [k1] at y0
    go_wp2
    go_ret2
    exact ⟨_, _, rfl, by unfold vl; simp [k1, HA.out.1], HB1.out⟩
  have e1 : (x.k == 1) = false := by simp [k1]
  by_cases k2 : x.k = 2
  · rw [k2] at y0
    have HEV : Hid (∀ w, Calls Tryd.prog 67 #[.int .i64 x.o, .int .i64 a, .int .i64 b] w fun e w' => e = .returned (.int .i64 (ev x.o a b)) ∧ w = w') := Lib.hid fun w => reval_any x.o a b HA.out.2.1 HA.out.2.2 w
    cases ba with
    | false =>
      go_wp2_with (go_at_call 67; (with_reducible refine (HEV.out _).mono ?_); rintro e5 w5 ⟨rfl, rfl⟩)
      go_ret2
      exact ⟨_, _, rfl, by unfold vl; simp [k2, HA.out.1], HB1.out⟩
    | true =>
      go_wp2_with (go_at_call 67; (with_reducible refine (HEV.out _).mono ?_); rintro e5 w5 ⟨rfl, rfl⟩)
      go_ret2
      exact ⟨_, _, rfl, by unfold vl; cases bb <;> simp [k2, HA.out.1, HB.out], HB1.out⟩
  have e2 : (x.k == 2) = false := by simp [k2]
  by_cases k3 : x.k = 3
  · rw [k3] at y0
    cases ba with
    | true =>
      by_cases a0 : a = 0
      · have ea : (a != 0) = false := by simp [a0]
        go_wp2
        go_ret2
        exact ⟨_, _, rfl, by unfold vl; simp [k3, HA.out.1, HD.out, a0], HB1.out⟩
      · have ea : (a != 0) = true := by simp [a0]
        go_wp2
        go_ret2
        exact ⟨_, _, rfl, by unfold vl; simp [k3, HA.out.1, HB.out, a0], HB1.out⟩
    | false =>
      cases bd with
      | false =>
        go_wp2
        go_ret2
        exact ⟨_, _, rfl, by unfold vl; simp [k3, HA.out.1, HD.out], HB1.out⟩
      | true =>
        cases bb with
        | false =>
          go_wp2
          go_ret2
          exact ⟨_, _, rfl, by unfold vl; simp [k3, HA.out.1, HD.out, HB.out], HB1.out⟩
        | true =>
          go_wp2
          go_ret2
          exact ⟨_, _, rfl, by unfold vl; simp [k3, HA.out.1, HD.out, HB.out], HB1.out⟩
  have e3 : (x.k == 3) = false := by simp [k3]
  go_wp2
  go_ret2
  exact ⟨0, false, rfl, by unfold vl; simp [k0, k1, k2, k3], HB1.out⟩
def BehP (W : World) (v : Value) (l : Kl) (x : Ic) (e : Ending) (w' : World) : Prop := ∃ v', e = .returned v' ∧ RK w' v' (bhL l x) ∧ (v' = v ∨ ∀ g, v'.ownBlock = some g → W.heap.size ≤ g) ∧ Below W.heap.size W w'
set_option maxRecDepth 100000 in
set_option maxHeartbeats 4000000 in
theorem refbehind_c {W : World} {v : Value} {l : Kl} (hq : Hid (RK W v l)) (hl : l.length ≤ 10000) (h6 : Hid (Rk6 l)) (x : Ic) : Calls Tryd.prog 30 #[v, .agg #[.int .i64 x.k, .int .i64 x.o, .int .i64 x.d, .int .i64 x.a, .int .i64 x.b, .int .i64 x.n, .int .i64 x.t]] W (BehP W v l x) := by
  obtain ⟨i0, hi0, hz0, hz1, hz2⟩ := info_parts info_k
  go_enter Tryd.func30, Tryd.ntmps30
  go_upto_region 1 with (fail)
  refine name_world ?_
  intro V1 hV1
  obtain ⟨m, hm⟩ : ∃ m, W.heap.size = m := ⟨_, rfl⟩
  have HI : Hid (Ib V1 m (.int .i64 x.k) (.int .i64 x.o) (.int .i64 x.d) (.int .i64 x.a) (.int .i64 x.b) (.int .i64 x.n) (.int .i64 x.t)) := Lib.hid (by rw [hV1]; exact Ib.new hm.symm _ _ _ _ _ _ _)
  have HB1 : Hid (Below W.heap.size W V1) := Lib.hid (by rw [hV1]; exact below1 _ _)
  obtain ⟨bm, y0, y1, y2, y3, y4, y5, y6, -⟩ := HI.out.facts
  try rw [hm]
  clear hV1
  by_cases hk : 4 < x.k
  · have hbe : bhL l x = l := by unfold bhL; rw [if_pos hk]
    go_wp2
    go_ret
    exact ⟨v, rfl, by rw [hbe]; exact hq.out.stay HB1.out, .inl rfl, HB1.out⟩
  · have hbe : bhL l x = wo l x.d ++ (match vl (gt l) x with | some n => [(x.d, n)] | none => []) := by unfold bhL; rw [if_neg hk]; rfl
    have HBE := Lib.hid hbe
    clear hbe
    have HVL := Lib.hid (value_c (Lib.hid (hq.out.stay HB1.out)) (by omega) h6 x)
    go_upto_region 4 with (go_at_call 51; (with_reducible refine HVL.out.mono ?_); rintro e2 w2 ⟨n, b, rfl, hv, hb2⟩; have HV := Lib.hid hv; have HB2 := Lib.hid (HB1.out.trans (hb2.mono HB1.out.size)); have HI2 := Lib.hid (HI.out.stay hb2); clear hv hb2)
    clear y0 y1 y2 y3 y4 y5 y6 bm
    obtain ⟨bm, y0, y1, y2, y3, y4, y5, y6, -⟩ := HI2.out.facts
    have HWO := Lib.hid (without_c (Lib.hid (hq.out.stay HB2.out)) (by omega) x.d)
    go_upto_region 5 with (go_at_call 56; (with_reducible refine HWO.out.mono ?_); rintro e3 w3 ⟨v3, rfl, hr3, hb3⟩; have HR3 := Lib.hid hr3; have HB3 := Lib.hid (HB2.out.trans (hb3.mono HB2.out.size)); have HI3 := Lib.hid (HI2.out.stay hb3); have HS3 := Lib.hid hb3.size; clear hr3 hb3)
    clear y0 y1 y2 y3 y4 y5 y6 bm
    obtain ⟨bm, y0, y1, y2, y3, y4, y5, y6, -⟩ := HI3.out.facts
    cases b with
    | false =>
      go_wp2
      go_ret
      refine ⟨v3, rfl, ?_, .inr fun g e => Nat.le_trans HB2.out.size (HR3.out.lt g e).1, HB3.out⟩
      rw [HBE.out, HV.out]
      simpa using HR3.out.rk
    | true =>
      obtain ⟨L, hL⟩ : ∃ L, wo l x.d = L := ⟨_, rfl⟩
      have hLl : L.length ≤ 10000 := by rw [← hL]; exact Nat.le_trans (List.length_filter_le _ _) hl
      rw [hL] at HR3 HBE
      clear hL
      obtain ⟨q, cq, ev3⟩ := HR3.out.open
      subst ev3
      have hs2 := HB2.out.size
      have hs3 := HS3.out
      go_wp2_with (at_builtin; refine wpList_append_own_at _ rfl _ _ 54 rfl w2.heap.size 103 i0 _ 2 16 Tryd.underlying54 hi0 hz0 hz1 hz2 rfl (by decide) (.slice q L.length cq) L.length (L.flatMap k2c) rfl (World.ownsRow.alloc HR3.out _) ⟨w3.heap.size, 0, none⟩ 1 1 (k2c (x.d, n)) rfl rfl ?c1 ?c2 ?c3 ?c4 ?c5 ?_)
      case c1 => first | exact World.news_of_block (heap_alloc_new _ _) | (intro j u h; exact h)
      case c2 => intro y hy; simp [k2c] at hy; rcases hy with rfl | rfl <;> rfl
      case c3 => unfold maxLen; omega
      case c4 => omega
      case c5 => first | omega | (simp; omega)
      intro v4 w4 hown hgrow _ hats
      have HG := Lib.hid (R2.more (x := (x.d, n)) hown)
      have HB4 : Hid (Below W.heap.size W w4) := Lib.hid ((HB3.out.alloc (by omega) _).grown hgrow (by simp; omega) fun z e => Nat.le_trans hs2 (HR3.out.lt z e).1)
      clear hown hgrow hats
      go_wp2
      go_ret
      refine ⟨v4, rfl, ?_, .inr fun g e => Nat.le_trans hs2 (HG.out.lt g e).1, HB4.out⟩
      rw [HBE.out, HV.out]
      exact HG.out.rk
end Go.Proofs.YtgdhgipofaaogaaDoor
namespace Go.Proofs.YtgdhgipofaaogaaDoor
open Go Go.RowKit
/-- No way out but the end. -/
def Nr (Q : Exit → Act → World → Prop) : Exit → Act → World → Prop := fun e a w => e = .normal ∧ Q .normal a w
theorem nr_out {Q : Exit → Act → World → Prop} : ¬ LetsOut (Nr Q) := fun h => by
  unfold LetsOut Nr at h
  obtain ⟨_, _, h, _⟩ := h
  cases h
def noDefer (ops : Array Oper) : Bool := ops.toList.all fun o => match o.op with | .defer _ => false | _ => true
theorem noDefer_spec {ops : Array Oper} (h : noDefer ops = true) {i : Nat} {o : Oper} (hi : ops[i]? = some o) (c : Call) : o.op ≠ .defer c := fun e => by
  unfold noDefer at h
  have hm : o ∈ ops.toList := by
    rw [← Array.getElem?_toList] at hi
    exact List.mem_of_getElem? hi
  have := List.all_eq_true.1 h o hm
  rw [e] at this
  cases this
theorem opIn_of {P : Program} {ops : Array Oper} {Q : Exit → Act → World → Prop} {l n i : Nat} {K K' : Act → World → Prop} {a : Act} {w : World} (hd : noDefer ops = true) (hK : ∀ a w, K a w → K' a w) (h : wpOp P ops (Nr Q) i K a w) : wpOpIn (Fence.wide.inRound l) n P ops Q i K' a w := by
  unfold wpOp at h
  unfold wpOpIn
  cases ho : ops[i]? with
  | none => rw [ho] at h; exact hK _ _ h
  | some o =>
    rw [ho] at h
    simp only at h ⊢
    by_cases hw : Region.wanted o (yielded ops a.tmps) = true
    · rw [if_pos hw] at h ⊢
      rcases h with h | ⟨-, h⟩
      · refine ⟨fun _ _ => trivial, ?_⟩
        rw [Oper.semAt_eq _ _ _ (noDefer_spec hd ho)]
        unfold Oper.wp at h
        generalize (execOp a.eval o).run P w = r at *
        cases r with
        | ok x w' =>
          cases x with
          | value v => exact hK _ _ h
          | skip => exact hK _ _ h
          | defer d => exact hK _ _ h
          | enter f args =>
            refine ⟨fun hh => absurd (show false = true from hh) (by decide), CallsIn.inRound l (callsIn_wide.2 (Calls.mono h fun e w'' he => ?_))⟩
            cases e with
            | returned v => exact hK _ _ he
            | panicked c => exact absurd he.1 (by simp)
            | outgrown => exact absurd he nr_out
          | row row args => exact ⟨fun hh => absurd (show false = true from hh) (by decide), fun c cs _ => by
              obtain ⟨v, w'', r, s⟩ := h c cs
              exact ⟨v, w'', hK _ _ r, stepsIn_wide.2 s⟩⟩
          | round _ _ _ _ _ => exact False.elim h
          | _ => exact False.elim h
        | halt x w' =>
          cases x with
          | panic v => exact absurd (show Exit.panic _ = Exit.normal from h.1) (by simp)
          | _ => exact False.elim h
      · exact absurd h nr_out
    · rw [if_neg hw] at h ⊢
      exact ⟨fun _ _ => trivial, hK _ _ h⟩
theorem anyIn_of {P : Program} {md : Region.Mode} {ops : Array Oper} {Q : Exit → Act → World → Prop} {l n : Nat} (hd : noDefer ops = true) : ∀ (fuel : Nat) (listed : Array Bool) (a : Act) (w : World), wpAny P md ops (Nr Q) fuel listed a w → wpAnyIn (Fence.wide.inRound l) n P md ops Q fuel listed a w
  | 0, _, _, _, h => ⟨h.1, h.2.2⟩
  | fuel + 1, _, _, _, h => ⟨fun e => (h.1 e).2, fun i hi => opIn_of hd (fun a w h => anyIn_of hd fuel _ a w h) (h.2 i hi)⟩
/-- A region within a round, held to S. -/
theorem region_round {P : Program} {id : Nat} {ops : Array Oper} {Q : Exit → Act → World → Prop} {a : Act} {w : World} {l n : Nat} (S : World → Prop) (hm : P.follows .mixedOrders = true) (hd : noDefer ops = true)
    (h : wpAnyH P .any ops (Nr Q) S ops.size (Array.replicate ops.size false) a w.drew) : (Code.region id ops true).wpIn (Fence.wide.inRound l) n P Q a w :=
  wpIn_region_any hm (anyIn_of hd _ _ _ _ (wpAny_of_held _ _ _ _ h))
/-- .. outside of rounds. -/
theorem region_held1 {P : Program} {id : Nat} {ops : Array Oper} {Q : Exit → Act → World → Prop} {a : Act} {w : World} (S : World → Prop) (hm : P.follows .mixedOrders = true)
    (h : wpAnyH P .any ops (Nr Q) S ops.size (Array.replicate ops.size false) a w.drew) : (Code.region id ops true).wp P Q a w :=
  Code.wp_mono (fun e a w h => by obtain ⟨rfl, h⟩ := h; exact h) (wp_region_held hm h)
theorem takeH {P : Program} {ops : Array Oper} {Q : Exit → Act → World → Prop} {md : Region.Mode} {S : World → Prop} {i : Nat} {oi : Oper} {v : Value} {fuel : Nat} {listed : Array Bool} {a : Act} {w : World} (d : Option Tmp) (hi : ops[i]? = some oi) (hd : oi.dst = d)
    (hs : Region.noSelect ops = true) (hf : Region.free md ops listed i = true) (hr : (Region.ready md ops listed).contains i = true) (hy : YieldsIf P ops S oi v a) (hS : S w)
    (h : wpAnyH P md ops (Nr Q) S fuel (listed.setIfInBounds i true) (a.put d v) w) : wpAnyH P md ops (Nr Q) S (fuel + 1) listed a w := by
  subst hd
  exact wpAnyH_take hi hs hf hr (fun _ _ _ h => absurd h.1 (by simp)) hy hS h
theorem wpOp_call {P : Program} {ops : Array Oper} {Q : Exit → Act → World → Prop} {K : Act → World → Prop} {a : Act} {w : World} {i : Nat} {o : Oper} (d : Option Tmp) (hi : ops[i]? = some o) (hd : o.dst = d) (hw : Region.wanted o (yielded ops a.tmps) = true) {f : Nat} {args : Array Value} (hr : (execOp a.eval o).run P w = .ok (.enter f args) w) {R : Ending → World → Prop} (hc : Calls P f args w R)
    (hK : ∀ e w', R e w' → ∃ v, e = .returned v ∧ K (a.put d v) w') : wpOp P ops Q i K a w := by
  subst hd
  unfold wpOp
  rw [hi]
  simp only
  rw [if_pos hw]
  refine .inl ?_
  unfold Oper.wp
  rw [hr]
  refine Calls.mono hc fun e w' h => ?_
  obtain ⟨v, rfl, h2⟩ := hK e w' h
  exact h2
end Go.Proofs.YtgdhgipofaaogaaDoor
namespace Go.Proofs.YtgdhgipofaaogaaDoor
open Go Go.RowKit Gm

def slen : Option Value → Nat
  | some (.slice _ n _) => n
  | _ => 0
def isT : Option Value → Bool
  | some (.bool t) => t
  | _ => false
def bo : Value → Nat
  | .bool true => 1
  | _ => 0
/-- How much can be found yet, as memory has it. -/
def mW (b n : Nat) (w : World) : Nat := ((List.range n).map fun i => if isT (w.cell? ⟨b, i * 2, none⟩) = true then slen (w.cell? ⟨b, i * 2 + 1, none⟩) else n + 1).sum
def Fs (I : Nat → Bool) (V : Nat → Value) : Nat → Value := fun j => if j % 2 = 0 then .bool (I (j / 2)) else V (j / 2)
theorem Fs_0 (I : Nat → Bool) (V : Nat → Value) (i : Nat) : Fs I V (i * 2) = .bool (I i) := by
  unfold Fs
  rw [if_pos (by omega), show i * 2 / 2 = i by omega]
theorem Fs_1 (I : Nat → Bool) (V : Nat → Value) (i : Nat) : Fs I V (i * 2 + 1) = V i := by
  unfold Fs
  rw [if_neg (by omega), show (i * 2 + 1) / 2 = i by omega]
theorem Fs_set (I : Nat → Bool) (V : Nat → Value) (j : Nat) (v : Value) : upd (upd (Fs I V) (j * 2) (.bool true)) (j * 2 + 1) v = Fs (upd I j true) (upd V j v) := by
  funext q
  by_cases e1 : q = j * 2 + 1
  · rw [e1, upd_at, Fs_1, upd_at]
  · rw [upd_of e1]
    by_cases e0 : q = j * 2
    · rw [e0, upd_at, Fs_0, upd_at]
    · rw [upd_of e0]
      unfold Fs
      rw [upd_of (show q / 2 ≠ j by omega), upd_of (show q / 2 ≠ j by omega)]
theorem below_drew1 (W : World) : Below W.heap.size W W.drew := below_like (Below.refl _ _) rfl rfl rfl rfl
theorem below_set {B : Nat} {W X : World} (h : Below B W X) {m : Nat} (hm : B ≤ m) (o : Nat) (v : Value) : Below B W (X.setCell ⟨m, o, none⟩ v) :=
  ⟨h.os, h.tape, h.output, by simp [World.setCell]; exact h.size, fun k hk => by rw [heap_setCell_other X ⟨m, o, none⟩ k v (by show k ≠ m; omega)]; exact h.block k hk⟩
theorem RK.of_heap {W X : World} {v : Value} {l : Kl} (h : RK W v l) (hs : W.heap.size ≤ X.heap.size) (e : ∀ g, v.ownBlock = some g → g < W.heap.size → X.heap[g]? = W.heap[g]?) : RK X v l := by
  obtain ⟨p, cap, rfl, h⟩ := h
  refine ⟨p, cap, rfl, fun i q hq => ?_⟩
  obtain ⟨g, o, rfl, h2, h3, h4⟩ := h i q hq
  have hg := e g rfl h2
  have hc : ∀ j, X.cell? ⟨g, j, none⟩ = W.cell? ⟨g, j, none⟩ := fun j => by
    unfold World.cell?
    simp only [hg]
  exact ⟨g, o, rfl, Nat.lt_of_lt_of_le h2 hs, (hc _).trans h3, (hc _).trans h4⟩
/-- The rows that All holds: truths, and what is known, side by side. -/
structure AS (W wr : World) (b n : Nat) (I : Nat → Bool) (V : Nat → Value) (L : Nat → Kl) : Prop where
  bel : Below W.heap.size W wr
  bW : W.heap.size ≤ b
  fv : FV 56 wr b (n * 2) (Fs I V)
  rk : ∀ i, i < n → RK wr (V i) (L i)
  ne : ∀ i g, i < n → (V i).ownBlock = some g → g ≠ b
section
variable {W wr X : World} {b n j : Nat} {I : Nat → Bool} {V : Nat → Value} {L : Nat → Kl} {v : Value} {l : Kl}
theorem AS.stay (h : AS W wr b n I V L) (hb : Below wr.heap.size wr X) : AS W X b n I V L := ⟨h.bel.trans (hb.mono h.bel.size), h.bW, h.fv.stay hb, fun i hi => (h.rk i hi).stay hb, h.ne⟩
theorem AS.like (h : AS W wr b n I V L) (e : X.heap = wr.heap) (e1 : X.os = wr.os) (e2 : X.tape = wr.tape) (e3 : X.output = wr.output) : AS W X b n I V L := h.stay (below_like (Below.refl _ _) e e1 e2 e3)
theorem AS.put (h : AS W wr b n I V L) (hr : RK wr v l) (hn : v.ownBlock ≠ some b) : AS W ((wr.setCell ⟨b, j * 2, none⟩ (.bool true)).setCell ⟨b, j * 2 + 1, none⟩ v) b n (upd I j true) (upd V j v) (upd L j l) := by
  have hs : wr.heap.size ≤ ((wr.setCell ⟨b, j * 2, none⟩ (.bool true)).setCell ⟨b, j * 2 + 1, none⟩ v).heap.size := by simp [World.setCell]
  have ho : ∀ g, g ≠ b → ((wr.setCell ⟨b, j * 2, none⟩ (.bool true)).setCell ⟨b, j * 2 + 1, none⟩ v).heap[g]? = wr.heap[g]? := fun g hg => by
    rw [heap_setCell_other _ ⟨b, j * 2 + 1, none⟩ g v hg, heap_setCell_other _ ⟨b, j * 2, none⟩ g _ hg]
  refine ⟨below_set (below_set h.bel h.bW _ _) h.bW _ _, h.bW, ?_, fun i hi => ?_, fun i g hi hg => ?_⟩
  · rw [← Fs_set]
    exact (h.fv.set _ _).set _ _
  · by_cases e : i = j
    · subst e
      rw [upd_at, upd_at]
      exact hr.of_heap hs fun g hg _ => ho g fun e => hn (by rw [hg, e])
    · rw [upd_of e, upd_of e]
      exact (h.rk i hi).of_heap hs fun g hg _ => ho g (h.ne i g hi hg)
  · by_cases e : i = j
    · subst e
      rw [upd_at] at hg
      exact fun e => hn (by rw [hg, e])
    · rw [upd_of e] at hg
      exact h.ne i g hi hg
theorem AS.mW (h : AS W wr b n I V L) : mW b n wr = msr n I L := by
  unfold Go.Proofs.YtgdhgipofaaogaaDoor.mW msr
  congr 1
  refine List.map_congr_left fun i hi => ?_
  have hi := List.mem_range.1 hi
  rw [h.fv.cell (i := i * 2) (by omega), h.fv.cell (i := i * 2 + 1) (by omega), Fs_0, Fs_1]
  obtain ⟨p, cap, e, -⟩ := h.rk i hi
  rw [e]
  rfl
end
theorem info_s : (Tryd.prog.info? 56).map (fun i => (i.zero, i.size, i.bytes)) = some (some (.agg #[.bool false, .slice none 0 0]), 2, 32) := by kernel_rfl
theorem made_two (m : Nat) : madeCells #[.bool false, .slice none 0 0] (m * 2) = (rw_ (m * 2) (Fs (fun _ => false) fun _ => .slice none 0 0)).toArray := by
  unfold madeCells
  apply Array.ext_getElem?
  intro j
  by_cases h : j < m * 2
  · have h' : j < m * 2 := h
    rcases Nat.mod_two_eq_zero_or_one j with e | e
    · simp [rw_, h, h', Fs, e]
    · simp [rw_, h, h', Fs, e]
  · have h' : ¬ j < m * 2 := h
    simp [rw_, h, h']
theorem make_s (m : Nat) (hm : m ≤ 1000000) (W : World) : (Instr.makeSlice 50 (.int .i64 m) (.int .i64 m)).run Tryd.prog W = .ok (.slice (some ⟨W.heap.size, 0, none⟩) m m) (W.alloc (.cells (rw_ (m * 2) (Fs (fun _ => false) fun _ => .slice none 0 0)).toArray 56)) := by
  obtain ⟨i0, h1, h2, h3, h4⟩ := info_parts info_s
  have hbm : (i0.bytes : Int) * m ≤ 281474976710656 := by
    rw [h4]
    omega
  have := run_makeSlice (P := Tryd.prog) W 50 56 i0 (.agg #[.bool false, .slice none 0 0]) Tryd.underlying50 h1 h2 .i64 .i64 m m (by omega) (by omega) (Nat.le_trans (by rw [h3]; simp; omega) (show 2000000 ≤ _ by decide)) hbm (by omega)
  rw [this, h3]
  show Result.ok _ (W.alloc (.cells (madeCells #[.bool false, .slice none 0 0] (((m : Int).toNat) * 2)) _)) = _
  rw [Int.toNat_natCast, made_two]
end Go.Proofs.YtgdhgipofaaogaaDoor
namespace Go.Proofs.YtgdhgipofaaogaaDoor
open Go Go.RowKit Gm

/-- What All hands back. -/
def AllP (W : World) (c : List Ic) (e : Ending) (w' : World) : Prop := ∃ b I V L, e = .returned (.slice (some ⟨b, 0, none⟩) c.length c.length) ∧ AS W w' b c.length I V L ∧ (0 < c.length → FI c I L ∧ Dn c I L c.length)
set_option maxRecDepth 100000 in
set_option maxHeartbeats 8000000 in
theorem all_c {W : World} {p : Option Addr} {cap : Nat} {c : List Ic} (hc : Hid (CodeAt W p c)) (hn : c.length ≤ 5000) : Calls Tryd.prog 17 #[.slice p c.length cap] W (AllP W c) := by
  have hmk := make_s c.length (by omega)
  go_enter Tryd.func17, Tryd.ntmps17
  go_upto_region 2 with (fail)
  refine name_world ?_
  intro V1 hV1
  obtain ⟨b, hb⟩ : ∃ b, W.heap.size = b := ⟨_, rfl⟩
  have HA0 : Hid (AS W V1 b c.length (fun _ => false) (fun _ => .slice none 0 0) (fun _ => [])) := Lib.hid (by
    rw [hV1, ← hb]
    exact ⟨below1 _ _, Nat.le_refl _, FV.new rfl (by simp), fun i hi => RK.nil _, fun i g hi h => by cases h⟩)
  try rw [hb]
  clear hV1 hmk
  by_cases h0 : c.length = 0
  · have H00 := Lib.hid h0
    have he : ((c.length : Int) == 0) = true := by simp [h0]
    go_wp2
    go_ret
    exact ⟨b, _, _, _, rfl, HA0.out, fun h => absurd H00.out (Nat.ne_of_gt h)⟩
  · have he : ((c.length : Int) == 0) = false := by rw [beq_eq_false_iff_ne]; omega
    have hc0 : 0 < c.length := by omega
    have z0 := HA0.out.fv.cell (i := 0) (by omega)
    have hbl0 := HA0.out.fv.lt
    have f0 := HA0.out.fv.frozen 0
    go_upto_region 6 with (fail)
    refine name_world ?_
    intro V2 hV2
    have HA1 : Hid (AS W V2 b c.length (fun i => decide (i = 0)) (fun _ => .slice none 0 0) (fun _ => [])) := Lib.hid (by
      rw [hV2]
      refine ⟨below_set HA0.out.bel HA0.out.bW _ _, HA0.out.bW, ?_, fun i hi => RK.nil _, fun i g hi h => by cases h⟩
      have h1 := HA0.out.fv.set 0 (.bool true)
      refine h1.to fun q hq => ?_
      by_cases e : q = 0
      · rw [e, upd_at]; rfl
      · rw [upd_of e]
        unfold Fs
        by_cases e2 : q % 2 = 0
        · rw [if_pos e2, if_pos e2]
          show Value.bool false = Value.bool (decide (q / 2 = 0))
          rw [decide_eq_false (by omega)]
        · rw [if_neg e2, if_neg e2])
    clear hV2 z0 hbl0 f0 HA0
    have HF1 := Lib.hid (FI.new hc0)
    go_loopw [4] (fun a4 wr => ∃ (more : Bool) (I : Nat → Bool) (V : Nat → Value) (L : Nat → Kl), a4 = .bool more ∧ Hid (AS W wr b c.length I V L ∧ FI c I L ∧ (more = false → Dn c I L c.length))) (fun a4 wr => mW b c.length wr * 2 + bo a4)
    case atStart => exact ⟨true, _, _, _, rfl, Lib.hid ⟨HA1.out, HF1.out, fun h => by cases h⟩⟩
    case round =>
      obtain ⟨wo, rfl⟩ : ∃ wo : World, wo = wr := ⟨_, rfl⟩
      obtain ⟨more, I0, V0, L0, rfl, HR⟩ := hrel
      cases more with
      | false =>
        have HDN := Lib.hid (HR.out.2.2 rfl)
        go_wp2
        go_ret
        exact ⟨b, I0, V0, L0, rfl, HR.out.1, fun _ => ⟨HR.out.2.1, HDN.out⟩⟩
      | true =>
        obtain ⟨M0, hM0⟩ : ∃ M, msr c.length I0 L0 = M := ⟨_, rfl⟩
        have HM0 := Lib.hid hM0
        clear hM0
        go_upto_region 9 with (fail)
        go_loopw [4, 5] (fun a4 a5 wr => ∃ (more : Bool) (i : Nat) (I : Nat → Bool) (V : Nat → Value) (L : Nat → Kl), a4 = .bool more ∧ a5 = .int .i64 i ∧ i ≤ c.length ∧ Hid (AS W wr b c.length I V L ∧ FI c I L ∧ (more = true → msr c.length I L < M0) ∧ (more = false → msr c.length I L ≤ M0 ∧ Dn c I L i))) (fun _ a5 _ => c.length - (intOf a5).toNat)
        case atStart => exact ⟨false, 0, I0, V0, L0, rfl, rfl, Nat.zero_le _, Lib.hid ⟨HR.out.1.like rfl rfl rfl rfl, HR.out.2.1, fun h => (by cases h), fun _ => ⟨Nat.le_of_eq HM0.out, fun q h => absurd h (Nat.not_lt_zero _)⟩⟩⟩
        case round =>
          obtain ⟨w4, rfl⟩ : ∃ wo : World, wo = wr := ⟨_, rfl⟩
          obtain ⟨more, i, I, V, L, rfl, rfl, hi, HJ⟩ := hrel
          by_cases hlt : i < c.length
          · have c0 := HJ.out.1.fv.cell (i := i * 2) (by omega)
            rw [Fs_0] at c0
            have hbl := HJ.out.1.fv.lt
            cases hI : I i with
            | false =>
              rw [hI] at c0
              have HII := Lib.hid hI
              clear hI hbl
              go_wp2
              go_roundw
              case rel => exact ⟨more, i + 1, I, V, L, rfl, by go_num, by omega, Lib.hid ⟨HJ.out.1.like rfl rfl rfl rfl, HJ.out.2.1, HJ.out.2.2.1, fun h => ⟨(HJ.out.2.2.2 h).1, fun q hq hIq => by
                by_cases e : q = i
                · rw [e, HII.out] at hIq; cases hIq
                · exact (HJ.out.2.2.2 h).2 q (by omega) hIq⟩⟩⟩
              case measure => (simp [intOf]; try omega)
            | true =>
              rw [hI] at c0
              have HII := Lib.hid hI
              clear hI
              have c1 := HJ.out.1.fv.cell (i := i * 2 + 1) (by omega)
              rw [Fs_1] at c1
              obtain ⟨pv, cv, eV, -⟩ := HJ.out.1.rk i hlt
              rw [eV] at c1
              have HVR : Hid (RK w4 (.slice pv (L i).length cv) (L i)) := Lib.hid (by rw [← eV]; exact HJ.out.1.rk i hlt)
              have HVN : Hid (∀ g, (Value.slice pv (L i).length cv).ownBlock = some g → g ≠ b) := Lib.hid fun g hg => HJ.out.1.ne i g hlt (by rw [eV]; exact hg)
              have hLl := HJ.out.2.1.len i
              obtain ⟨x, hx⟩ : ∃ x, c[i]? = some x := ⟨_, List.getElem?_eq_getElem hlt⟩
              obtain ⟨gc, oc, ep, hgc, hat7, hok⟩ := (hc.out.stay HJ.out.1.bel) i x hx
              have HX := Lib.hid hx
              have k0 := hat7.k
              have k1 := hat7.o
              have k2 := hat7.d
              have k3 := hat7.a
              have k4 := hat7.b
              have k5 := hat7.n
              have k6 := hat7.t
              have HN6 : Hid (In6 x.n) := Lib.hid hok.2.2.2.2.2.1
              have HNX : Hid (∀ w, Below w4.heap.size w4 w → Calls Tryd.prog 31 #[.slice p c.length cap, .int .i64 i] w fun e w' => ∃ v, e = .returned v ∧ GV 3 w.heap.size w' v (outs c i).length (lv (outs c i)) ∧ Below w.heap.size w w') := Lib.hid fun w hw => next_c (Lib.hid (hc.out.stay (HJ.out.1.bel.trans (hw.mono HJ.out.1.bel.size)))) (by omega) hlt
              subst ep
              clear hat7 hok hx eV
              have HOT := Lib.hid (HJ.out.2.1.ot HX.out HN6.out HII.out)
              have HBE : Hid (∀ w, Below w4.heap.size w4 w → Calls Tryd.prog 30 #[.slice pv (L i).length cv, .agg #[.int .i64 x.k, .int .i64 x.o, .int .i64 x.d, .int .i64 x.a, .int .i64 x.b, .int .i64 x.n, .int .i64 x.t]] w (BehP w (.slice pv (L i).length cv) (L i) x)) := Lib.hid fun w hw => refbehind_c (Lib.hid (HVR.out.stay hw)) (by omega) (Lib.hid (HJ.out.2.1.v6 i)) x
              obtain ⟨l, hl⟩ : ∃ l, bhL (L i) x = l := ⟨_, rfl⟩
              have HL := Lib.hid hl
              rw [hl] at HOT
              go_upto_region 12 with (fail)
              refine region_held1 (fun w' => Below w4.heap.size w4 w') (by kernel_rfl) ?_
              show wpAnyH _ _ _ _ _ 11 _ _ _
              refine takeH (i := 0) (v := .slice (some ⟨b, 0, none⟩) c.length c.length) (some 34) rfl rfl (by kernel_rfl) (by kernel_rfl) (by kernel_rfl) (Or.inl ⟨by rfl, ?_⟩) (below_drew1 _) ?_
              · intro y1 hS1
                go_simp
              simp only [Act.put, List.setIfInBounds_toArray, List.set_cons_zero, List.set_cons_succ]
              refine takeH (i := 1) (v := .int .i64 (i : Int)) (some 35) rfl rfl (by kernel_rfl) (by kernel_rfl) (by kernel_rfl) (Or.inl ⟨by rfl, ?_⟩) (below_drew1 _) ?_
              · intro y1 hS1
                go_simp
              simp only [Act.put, List.setIfInBounds_toArray, List.set_cons_zero, List.set_cons_succ]
              refine takeH (i := 2) (v := .pointer (some ⟨b, i * 2, none⟩)) (some 36) rfl rfl (by kernel_rfl) (by kernel_rfl) (by kernel_rfl) (Or.inl ⟨by rfl, ?_⟩) (below_drew1 _) ?_
              · intro y1 hS1
                go_simp
              simp only [Act.put, List.setIfInBounds_toArray, List.set_cons_zero, List.set_cons_succ]
              refine takeH (i := 3) (v := .pointer (some ⟨b, i * 2 + 1, none⟩)) (some 37) rfl rfl (by kernel_rfl) (by kernel_rfl) (by kernel_rfl) (Or.inl ⟨by rfl, ?_⟩) (below_drew1 _) ?_
              · intro y1 hS1
                go_simp
              simp only [Act.put, List.setIfInBounds_toArray, List.set_cons_zero, List.set_cons_succ]
              refine takeH (i := 4) (v := .slice pv (L i).length cv) (some 38) rfl rfl (by kernel_rfl) (by kernel_rfl) (by kernel_rfl) (Or.inl ⟨by rfl, ?_⟩) (below_drew1 _) ?_
              · intro y1 hS1
                have c1 := (hS1.cell (p := ⟨b, _, none⟩) hbl).trans c1
                go_simp
              simp only [Act.put, List.setIfInBounds_toArray, List.set_cons_zero, List.set_cons_succ]
              refine takeH (i := 5) (v := .slice (some ⟨gc, oc, none⟩) c.length cap) (some 39) rfl rfl (by kernel_rfl) (by kernel_rfl) (by kernel_rfl) (Or.inl ⟨by rfl, ?_⟩) (below_drew1 _) ?_
              · intro y1 hS1
                go_simp
              simp only [Act.put, List.setIfInBounds_toArray, List.set_cons_zero, List.set_cons_succ]
              refine takeH (i := 6) (v := .int .i64 (i : Int)) (some 40) rfl rfl (by kernel_rfl) (by kernel_rfl) (by kernel_rfl) (Or.inl ⟨by rfl, ?_⟩) (below_drew1 _) ?_
              · intro y1 hS1
                go_simp
              simp only [Act.put, List.setIfInBounds_toArray, List.set_cons_zero, List.set_cons_succ]
              refine takeH (i := 7) (v := .pointer (some ⟨gc, oc + i * 7, none⟩)) (some 41) rfl rfl (by kernel_rfl) (by kernel_rfl) (by kernel_rfl) (Or.inl ⟨by rfl, ?_⟩) (below_drew1 _) ?_
              · intro y1 hS1
                go_simp
              simp only [Act.put, List.setIfInBounds_toArray, List.set_cons_zero, List.set_cons_succ]
              refine takeH (i := 8) (v := .agg #[.int .i64 x.k, .int .i64 x.o, .int .i64 x.d, .int .i64 x.a, .int .i64 x.b, .int .i64 x.n, .int .i64 x.t]) (some 42) rfl rfl (by kernel_rfl) (by kernel_rfl) (by kernel_rfl) (Or.inl ⟨by rfl, ?_⟩) (below_drew1 _) ?_
              · intro y1 hS1
                have k0 := (hS1.cell (p := ⟨gc, _, none⟩) hgc).trans k0
                have k1 := (hS1.cell (p := ⟨gc, _, none⟩) hgc).trans k1
                have k2 := (hS1.cell (p := ⟨gc, _, none⟩) hgc).trans k2
                have k3 := (hS1.cell (p := ⟨gc, _, none⟩) hgc).trans k3
                have k4 := (hS1.cell (p := ⟨gc, _, none⟩) hgc).trans k4
                have k5 := (hS1.cell (p := ⟨gc, _, none⟩) hgc).trans k5
                have k6 := (hS1.cell (p := ⟨gc, _, none⟩) hgc).trans k6
                go_simp
              simp only [Act.put, List.setIfInBounds_toArray, List.set_cons_zero, List.set_cons_succ]
              refine wpAnyH_all (rs := [9]) (by kernel_rfl) (by simp) ?_
              intro i8 hi8
              obtain rfl : i8 = 9 := by simpa using hi8
              refine wpOp_call (some 43) rfl rfl (by rfl) (f := 30) (args := #[.slice pv (L i).length cv, .agg #[.int .i64 x.k, .int .i64 x.o, .int .i64 x.d, .int .i64 x.a, .int .i64 x.b, .int .i64 x.n, .int .i64 x.t]]) (by go_simp) (HBE.out _ (below_drew1 _)) ?_
              rintro e5 w5 ⟨v5, rfl, hr5, hn5, hb5⟩
              have HB5 : Hid (Below w4.heap.size w4 w5) := Lib.hid ((below_drew1 _).trans hb5)
              have HR5 := Lib.hid hr5
              have HN5 : Hid (v5.ownBlock ≠ some b) := Lib.hid fun e => by
                rcases hn5 with h | h
                · rw [h] at e; exact HVN.out _ e rfl
                · have h1 := h b e; have h2 : b < w4.drew.heap.size := hbl; omega
              clear hr5 hn5 hb5
              refine ⟨_, rfl, HB5.out, ?_⟩
              simp only [Act.put, List.setIfInBounds_toArray, List.set_cons_zero, List.set_cons_succ]
              refine takeH (i := 10) (v := v5) (some 6) rfl rfl (by kernel_rfl) (by kernel_rfl) (by kernel_rfl) (Or.inl ⟨by rfl, ?_⟩) HB5.out ?_
              · intro y1 hS1
                go_simp
              simp only [Act.put, List.setIfInBounds_toArray, List.set_cons_zero, List.set_cons_succ]
              refine wpAnyH_done (by kernel_rfl) ?_ _
              refine ⟨rfl, ?_⟩
              rw [hl] at HR5
              clear hl k0 k1 k2 k3 k4 k5 k6 c0 c1 HBE
              have hll : l.length ≤ c.length := keys_len HOT.out.nd HOT.out.ks
              obtain ⟨ql, cl, el, -⟩ := HR5.out
              subst el
              go_upto_region 14 with (go_at_call 31; (with_reducible refine (HNX.out _ HB5.out).mono ?_); rintro e6 w6 ⟨v6, rfl, hv6, hb6⟩; have hbb6 := HB5.out.trans (hb6.mono HB5.out.size); obtain ⟨q6, c6, rfl, hr6, hn6⟩ := GV.rv hv6; have HV6 := Lib.hid (And.intro hr6 hn6); have HR6 := Lib.hid (HR5.out.stay hb6); have HB6 := Lib.hid hbb6; have HS5 := Lib.hid HB5.out.size; clear hv6 hb6 hbb6 hr6 hn6)
              obtain ⟨O, hO⟩ : ∃ O, outs c i = O := ⟨_, rfl⟩
              have HO := Lib.hid hO
              have hOl : O.length ≤ 2 := hO ▸ outs_len c i
              simp only [hO] at HV6 ⊢
              clear hO HNX
              have HRO : Hid (∀ X, Ch (fun z => z = b) w6 X → RV X q6 O.length (lv O)) := Lib.hid fun X hX q hq => by
                obtain ⟨g, o, e, h1, h2⟩ := HV6.out.1 q hq
                have hne : g ≠ b := fun e2 => by
                  have h3 : w5.heap.size ≤ g := (HV6.out.2 _ e).1
                  have h4 := HS5.out
                  omega
                exact ⟨g, o, e, Nat.lt_of_lt_of_le h1 hX.size, (hX.cell (b := g) (o := o + q) h1 hne).trans h2⟩
              have HRL : Hid (∀ X, Ch (fun z => z = b) w6 X → RK X (.slice ql l.length cl) l) := Lib.hid fun X hX => HR6.out.of_heap hX.size fun g hg hgl => hX.block g hgl fun e => HN5.out (by rw [hg, e])
              go_upto_region 15 with (fail)
              go_loopw [4, 8] (fun a4 a8 wr => ∃ (more : Bool) (k : Nat) (I : Nat → Bool) (V : Nat → Value) (L : Nat → Kl), a4 = .bool more ∧ a8 = .int .i64 k ∧ k ≤ O.length ∧ Hid (AS W wr b c.length I V L ∧ FI c I L ∧ I i = true ∧ (more = true → msr c.length I L < M0) ∧ (more = false → msr c.length I L ≤ M0 ∧ Dn c I L i ∧ l = bhL (L i) x ∧ ∀ q y, q < k → O[q]? = some y → Cl c I L i y)) ∧ Hid (Ch (fun z => z = b) w6 wr)) (fun _ a8 _ => O.length - (intOf a8).toNat)
              case atStart => exact ⟨more, 0, I, V, L, rfl, rfl, Nat.zero_le _, Lib.hid ⟨(HJ.out.1.stay HB6.out).like rfl rfl rfl rfl, HJ.out.2.1, HII.out, HJ.out.2.2.1, fun h => ⟨(HJ.out.2.2.2 h).1, (HJ.out.2.2.2 h).2, HL.out.symm, fun q y h => absurd h (Nat.not_lt_zero _)⟩⟩, Lib.hid ((Ch.refl _ _).like rfl rfl rfl rfl)⟩
              case round =>
                obtain ⟨w7, rfl⟩ : ∃ wo : World, wo = wr := ⟨_, rfl⟩
                obtain ⟨more, k, I, V, L, rfl, rfl, hk, HK, HC⟩ := hrel
                by_cases hkO : k < O.length
                · obtain ⟨y, hy⟩ : ∃ y, O[k]? = some y := ⟨_, List.getElem?_eq_getElem hkO⟩
                  have HYO : Hid (y ∈ outs c i) := Lib.hid (by rw [HO.out]; exact List.mem_of_getElem? hy)
                  have hyn : y < c.length := (outs_lt HYO.out).2
                  obtain ⟨g6, o6, rfl, hg6, iO⟩ := HRO.out _ HC.out k hkO
                  have eO : lv O k = .int .i64 (y : Int) := by simp [lv, hy]
                  rw [eO] at iO
                  have HY := Lib.hid hy
                  clear hy eO
                  have hbl := HK.out.1.fv.lt
                  have c0 := HK.out.1.fv.cell (i := y * 2) (by omega)
                  have c1 := HK.out.1.fv.cell (i := y * 2 + 1) (by omega)
                  rw [Fs_0] at c0
                  rw [Fs_1] at c1
                  obtain ⟨pv, cv, eV, -⟩ := HK.out.1.rk y hyn
                  rw [eV] at c1
                  have HVR : Hid (RK w7 (.slice pv (L y).length cv) (L y)) := Lib.hid (by rw [← eV]; exact HK.out.1.rk y hyn)
                  have hLl := HK.out.2.1.len y
                  clear eV
                  cases hIy : I y with
                  | false =>
                    rw [hIy] at c0
                    have HIY := Lib.hid hIy
                    clear hIy
                    go_upto_region 18 with (fail)
                    refine name_world ?_
                    intro V8 hV8
                    obtain ⟨m8, hm8⟩ : ∃ m, w7.heap.size = m := ⟨_, rfl⟩
                    have hb8 : Below w7.heap.size w7 V8 := by rw [hV8]; exact below1 _ _
                    have d0 : V8.cell? ⟨m8, 0, none⟩ = some (.bool false) := by rw [hV8, ← hm8, cell_of_row _ _ _ _ _ _ (heap_alloc_new _ _)]; rfl
                    have iO := (hb8.cell (p := ⟨g6, _, none⟩) hg6).trans iO
                    have HA8 := Lib.hid (HK.out.1.stay hb8)
                    have HC8 : Hid (Ch (fun z => z = b) w6 V8) := Lib.hid (HC.out.stepB hb8)
                    have z0 := HA8.out.fv.frozen (y * 2)
                    have z1 := HA8.out.fv.frozen (y * 2 + 1)
                    have x0 := HA8.out.fv.cell (i := y * 2) (by omega)
                    have x1 := HA8.out.fv.cell (i := y * 2 + 1) (by omega)
                    have hbl8 := HA8.out.fv.lt
                    try rw [hm8]
                    clear hV8 hb8 c0 c1
                    have HF9 := Lib.hid (HK.out.2.1.step HX.out HK.out.2.2.1 HYO.out HOT.out (.inl HIY.out))
                    have HM9 := Lib.hid (HK.out.2.1.less HYO.out HOT.out (.inl HIY.out))
                    have hin : inL I L y l = l := by unfold inL; rw [HIY.out]; rfl
                    have HA9 := Lib.hid (AS.put (j := y) HA8.out (HRL.out _ HC8.out) HN5.out)
                    have HI9 : Hid (upd I y true i = true) := Lib.hid (by
                      by_cases e : i = y
                      · rw [e, upd_at]
                      · rw [upd_of e]; exact HK.out.2.2.1)
                    rw [hin] at HF9 HM9
                    clear hin
                    go_wp2
                    go_roundw
                    case rel => exact ⟨true, k + 1, _, _, _, rfl, by go_num, by omega, Lib.hid ⟨HA9.out.like rfl rfl rfl rfl, HF9.out, HI9.out, fun _ => by
                      have := HM9.out
                      cases more with
                      | true => exact Nat.lt_trans this (HK.out.2.2.2.1 rfl)
                      | false => exact Nat.lt_of_lt_of_le this (HK.out.2.2.2.2 rfl).1, fun h => by cases h⟩, Lib.hid (((HC8.out.set (.inl rfl) _ _).set (.inl rfl) _ _).like rfl rfl rfl rfl)⟩
                    case measure => (simp [intOf]; try omega)
                  | true =>
                    rw [hIy] at c0
                    have HIY := Lib.hid hIy
                    clear hIy
                    go_upto_region 18 with (fail)
                    refine name_world ?_
                    intro V8 hV8
                    obtain ⟨m8, hm8⟩ : ∃ m, w7.heap.size = m := ⟨_, rfl⟩
                    have hb8 : Below w7.heap.size w7 V8 := by rw [hV8]; exact below1 _ _
                    have d0 : V8.cell? ⟨m8, 0, none⟩ = some (.bool true) := by rw [hV8, ← hm8, cell_of_row _ _ _ _ _ _ (heap_alloc_new _ _)]; rfl
                    have d1 : V8.cell? ⟨m8, 1, none⟩ = some (.slice pv (L y).length cv) := by rw [hV8, ← hm8, cell_of_row _ _ _ _ _ _ (heap_alloc_new _ _)]; rfl
                    have hm8l : m8 < V8.heap.size := by rw [hV8, ← hm8]; simp
                    have HA8 := Lib.hid (HK.out.1.stay hb8)
                    have HC8 : Hid (Ch (fun z => z = b) w6 V8) := Lib.hid (HC.out.stepB hb8)
                    have HMT := Lib.hid (meet_c (Lib.hid (HVR.out.stay hb8)) (Lib.hid (HRL.out _ HC8.out)) (by omega) (by omega))
                    have iO := (hb8.cell (p := ⟨g6, _, none⟩) hg6).trans iO
                    have hg8 := Nat.lt_of_lt_of_le hg6 hb8.size
                    try rw [hm8]
                    clear hV8 hb8 c0 c1
                    go_upto_region 21 with (go_at_call 32; (with_reducible refine HMT.out.mono ?_); rintro e9 w9 ⟨v9, rfl, hr9, hb9⟩; have HR9 := Lib.hid hr9; have HB9 := Lib.hid hb9; clear hr9 hb9)
                    have d0 := (HB9.out.cell (p := ⟨m8, 0, none⟩) hm8l).trans d0
                    have d1 := (HB9.out.cell (p := ⟨m8, 1, none⟩) hm8l).trans d1
                    have iO := (HB9.out.cell (p := ⟨g6, _, none⟩) hg8).trans iO
                    have HA10 := Lib.hid (HA8.out.stay HB9.out)
                    have HC10 : Hid (Ch (fun z => z = b) w6 w9) := Lib.hid (HC8.out.stepB HB9.out)
                    have HN9 : Hid (v9.ownBlock ≠ some b) := Lib.hid fun e => by
                      have h1 := (HR9.out.lt b e).1
                      have h2 := HA8.out.fv.lt
                      omega
                    obtain ⟨q9, c9, ev9⟩ := HR9.out.open
                    subst ev9
                    obtain ⟨M, hM⟩ : ∃ M, mt (L y) l = M := ⟨_, rfl⟩
                    have HM := Lib.hid hM
                    rw [hM] at HR9 HN9 ⊢
                    have hMl : M.length ≤ (L y).length := by rw [← hM]; exact (mt_sub _ _).length_le
                    clear hM
                    by_cases hless : M.length < (L y).length
                    · have HNE : Hid ((inL I L y l).length < (L y).length) := Lib.hid (by unfold inL; rw [HIY.out, if_pos rfl, HM.out]; exact hless)
                      have z0 := HA10.out.fv.frozen (y * 2)
                      have z1 := HA10.out.fv.frozen (y * 2 + 1)
                      have x0 := HA10.out.fv.cell (i := y * 2) (by omega)
                      have x1 := HA10.out.fv.cell (i := y * 2 + 1) (by omega)
                      have hbl10 := HA10.out.fv.lt
                      have HF9 := Lib.hid (HK.out.2.1.step HX.out HK.out.2.2.1 HYO.out HOT.out (.inr HNE.out))
                      have HM9 := Lib.hid (HK.out.2.1.less HYO.out HOT.out (.inr HNE.out))
                      have hin : inL I L y l = M := by unfold inL; rw [HIY.out]; rw [if_pos rfl, HM.out]
                      have HA9 := Lib.hid (AS.put (j := y) HA10.out HR9.out.rk HN9.out)
                      have HI9 : Hid (upd I y true i = true) := Lib.hid (by
                        by_cases e : i = y
                        · rw [e, upd_at]
                        · rw [upd_of e]; exact HK.out.2.2.1)
                      rw [hin] at HF9 HM9
                      clear hin
                      go_wp2
                      go_roundw
                      case rel => exact ⟨true, k + 1, _, _, _, rfl, by go_num, by omega, Lib.hid ⟨HA9.out.like rfl rfl rfl rfl, HF9.out, HI9.out, fun _ => by
                        have := HM9.out
                        cases more with
                        | true => exact Nat.lt_trans this (HK.out.2.2.2.1 rfl)
                        | false => exact Nat.lt_of_lt_of_le this (HK.out.2.2.2.2 rfl).1, fun h => by cases h⟩, Lib.hid (((HC10.out.set (.inl rfl) _ _).set (.inl rfl) _ _).like rfl rfl rfl rfl)⟩
                      case measure => (simp [intOf]; try omega)
                    · have HCL : Hid (more = false → Cl c I L i y) := Lib.hid fun h => by
                        have hl := (HK.out.2.2.2.2 h).2.2.1
                        refine FI.closed HX.out HIY.out ?_
                        rw [← hl]
                        unfold inL
                        rw [HIY.out, if_pos rfl, HM.out]
                        exact hless
                      go_wp2
                      go_roundw
                      case rel => exact ⟨more, k + 1, I, V, L, rfl, by go_num, by omega, Lib.hid ⟨HA10.out.like rfl rfl rfl rfl, HK.out.2.1, HK.out.2.2.1, HK.out.2.2.2.1, fun h => ⟨(HK.out.2.2.2.2 h).1, (HK.out.2.2.2.2 h).2.1, (HK.out.2.2.2.2 h).2.2.1, fun q z hq hz => by
                        by_cases e : q = k
                        · subst e
                          rw [HY.out] at hz
                          cases hz
                          exact HCL.out h
                        · exact (HK.out.2.2.2.2 h).2.2.2 q z (by omega) hz⟩⟩, Lib.hid (HC10.out.like rfl rfl rfl rfl)⟩
                      case measure => (simp [intOf]; try omega)
                · obtain rfl : k = O.length := by omega
                  go_wp2
                  go_roundw
                  case rel => exact ⟨more, i + 1, I, V, L, rfl, by go_num, by omega, Lib.hid ⟨HK.out.1.like rfl rfl rfl rfl, HK.out.2.1, HK.out.2.2.2.1, fun h => ⟨(HK.out.2.2.2.2 h).1, fun q hq hIq j hj => by
                    by_cases e : q = i
                    · subst e
                      rw [HO.out] at hj
                      obtain ⟨z, hz, e2⟩ := List.mem_iff_getElem.1 hj
                      exact (HK.out.2.2.2.2 h).2.2.2 z j hz (by rw [List.getElem?_eq_getElem hz, e2])
                    · exact (HK.out.2.2.2.2 h).2.1 q (by omega) hIq j hj⟩⟩⟩
                  case measure => (simp [intOf]; try omega)
          · obtain rfl : i = c.length := by omega
            have e1 := HJ.out.1.mW
            have e2 := HR.out.1.mW
            rw [HM0.out] at e2
            have h3 := HJ.out.2.2.1
            have h4 := fun h => (HJ.out.2.2.2 h).1
            have HE := Lib.hid (And.intro (And.intro e1 e2) (And.intro h3 h4))
            clear e1 e2 h3 h4
            go_wp2
            go_roundw
            case rel => exact ⟨more, I, V, L, rfl, Lib.hid ⟨HJ.out.1.like rfl rfl rfl rfl, HJ.out.2.1, fun h => (HJ.out.2.2.2 h).2⟩⟩
            case measure =>
              show mW b c.length w4 * 2 + bo (.bool more) < mW b c.length wo * 2 + bo (.bool true)
              rw [HE.out.1.1, HE.out.1.2]
              cases more with
              | true => have := HE.out.2.1 rfl; simp only [bo]; omega
              | false => have := HE.out.2.2 rfl; simp only [bo]; omega
end Go.Proofs.YtgdhgipofaaogaaDoor
namespace Go.Proofs.YtgdhgipofaaogaaDoor
open Go Go.RowKit Gm

/-- What an instruction becomes. -/
def oneM (f : Int → Option Int) (x : Ic) (at_ : Nat) : Ic :=
  if (x.k = 2 ∨ x.k = 1) ∧ (vl f x).isSome = true then ⟨0, 0, x.d, 0, 0, (vl f x).getD 0, 0⟩
  else if x.k = 3 ∧ f x.a = some 0 then ⟨1, 0, x.d, x.d, 0, 0, 0⟩
  else if x.k = 3 ∧ (f x.a).isSome = true ∧ (vl f x).isSome = true then ⟨0, 0, x.d, 0, 0, (vl f x).getD 0, 0⟩
  else if x.k = 3 ∧ (f x.a).isSome = true then ⟨1, 0, x.d, x.b, 0, 0, 0⟩
  else if x.k = 7 ∧ f x.a = some 0 then ⟨6, 0, 0, 0, 0, 0, x.t⟩
  else if x.k = 7 ∧ (f x.a).isSome = true then ⟨6, 0, 0, 0, 0, 0, (at_ : Int) + 1⟩
  else x
/-- An instruction is handed back. -/
def OneP (W : World) (y : Ic) (e : Ending) (w' : World) : Prop := e = .returned (.agg #[.int .i64 y.k, .int .i64 y.o, .int .i64 y.d, .int .i64 y.a, .int .i64 y.b, .int .i64 y.n, .int .i64 y.t]) ∧ Below W.heap.size W w'
theorem run_ib {n : Nat} {X : World} {v0 v1 v2 v3 v4 v5 v6 : Value} (h : Ib X n v0 v1 v2 v3 v4 v5 v6) {fn : Func} {p : Tmp} (hfn : fn.results = #[.cell p 53]) (tmps : Array Value) (hp : tmps.getD p undef = .pointer (some ⟨n, 0, none⟩)) :
    (results fn tmps).run Tryd.prog X = .ok (.agg #[v0, v1, v2, v3, v4, v5, v6]) X := by
  have hp' : tmps[p]?.getD undef = .pointer (some ⟨n, 0, none⟩) := by simpa using hp
  simp [results, hfn, hp', asAddr, run_loadVar_row X n 53 53 _ (0, 0) _ h Tryd.underlying53 rfl (by kernel_rfl)]
/-- A number that is known there, or none. -/
def KnP (W : World) (c : List Ic) (at_ r : Int) (e : Ending) (w' : World) : Prop := ∃ n b, e = .returned (.tuple #[.int .i64 n, .bool b]) ∧ (b = true → ∃ p : Nat, at_ = p ∧ Kn c p r n) ∧ (b = false → n = 0 ∧ ∀ (p : Nat) m, at_ = p → ¬ Kn c p r m) ∧ Below W.heap.size W w'
set_option maxRecDepth 100000 in
set_option maxHeartbeats 4000000 in
theorem refknown_c {W : World} {p : Option Addr} {cap : Nat} {c : List Ic} (hc : Hid (CodeAt W p c)) (hn : c.length ≤ 5000) (at_ r : Int) : Calls Tryd.prog 10 #[.slice p c.length cap, .int .i64 at_, .int .i64 r] W (KnP W c at_ r) := by
  go_enter Tryd.func10, Tryd.ntmps10
  by_cases h0 : at_ < 0
  · have H0 := Lib.hid h0
    go_wp2
    go_ret2
    exact ⟨0, false, rfl, fun h => (by cases h), fun _ => ⟨rfl, fun q m e => by have := H0.out; omega⟩, Below.refl _ _⟩
  · by_cases h1 : (c.length : Int) ≤ at_
    · have H1 := Lib.hid h1
      go_wp2
      go_ret2
      exact ⟨0, false, rfl, fun h => (by cases h), fun _ => ⟨rfl, fun q m e k => by have h2 := k.1.lt; have := H1.out; omega⟩, Below.refl _ _⟩
    · obtain ⟨a, rfl⟩ : ∃ a : Nat, at_ = a := ⟨at_.toNat, by omega⟩
      have hlt : a < c.length := by omega
      have HAL := Lib.hid (all_c (cap := cap) hc hn)
      go_upto_region 3 with (fail)
      go_wp2_with (first
        | (go_at_call 17; (with_reducible refine HAL.out.mono ?_); rintro e2 w2 ⟨b, I, V, L, rfl, ha, hf⟩; have HA := Lib.hid ha; have HF := Lib.hid (hf (by omega)); have c1 := ha.fv.cell (i := a * 2 + 1) (by omega); rw [Fs_1] at c1; obtain ⟨pv, cv, eV, -⟩ := ha.rk a hlt; rw [eV] at c1; have HVR : Hid (RK w2 (.slice pv (L a).length cv) (L a)) := Lib.hid (by rw [← eV]; exact ha.rk a hlt); have HGT := Lib.hid (get_c HVR (by have := (hf (by omega)).1.len a; omega) r); clear eV ha hf)
        | (go_at_call 24; (with_reducible refine HGT.out.mono ?_); rintro e3 w3 ⟨n, t, rfl, hg, hz, rfl⟩; have HG := Lib.hid (And.intro hg hz); clear hg hz))
      go_ret2
      refine ⟨n, t, rfl, fun ht => ⟨a, rfl, ?_⟩, fun ht => ⟨HG.out.2 ht, fun q m e k => ?_⟩, HA.out.bel⟩
      · rw [← HF.out.1.kn HF.out.2, HG.out.1, if_pos ht]
      · have hq : q = a := by omega
        rw [hq, ← HF.out.1.kn HF.out.2, HG.out.1, ht] at k
        simp at k
set_option maxRecDepth 100000 in
set_option maxHeartbeats 4000000 in
theorem refone_c {W : World} {v : Value} {l : Kl} (hq : Hid (RK W v l)) (hl : l.length ≤ 10000) (h6 : Hid (Rk6 l)) (x : Ic) (at_ : Nat) (ha : at_ ≤ 1000000) : Calls Tryd.prog 27 #[v, .agg #[.int .i64 x.k, .int .i64 x.o, .int .i64 x.d, .int .i64 x.a, .int .i64 x.b, .int .i64 x.n, .int .i64 x.t], .int .i64 at_] W (OneP W (oneM (gt l) x at_)) := by
  go_enter Tryd.func27, Tryd.ntmps27
  go_upto_region 1 with (fail)
  refine name_world ?_
  intro V1 hV1
  obtain ⟨m, hm⟩ : ∃ m, W.heap.size = m := ⟨_, rfl⟩
  have HI : Hid (Ib V1 m (.int .i64 x.k) (.int .i64 x.o) (.int .i64 x.d) (.int .i64 x.a) (.int .i64 x.b) (.int .i64 x.n) (.int .i64 x.t)) := Lib.hid (by rw [hV1]; exact (Ib.new hm.symm _ _ _ _ _ _ _).alloc _)
  have HZ : Hid (Ib V1 (m + 1) (.int .i64 0) (.int .i64 0) (.int .i64 0) (.int .i64 0) (.int .i64 0) (.int .i64 0) (.int .i64 0)) := Lib.hid (by rw [hV1]; exact Ib.new (by simp; omega) _ _ _ _ _ _ _)
  have HB1 : Hid (Below W.heap.size W V1) := Lib.hid (by rw [hV1]; exact below2 _ _ _)
  have hWm : W.heap.size ≤ m + 1 := by omega
  try rw [hm]
  obtain ⟨bm, y0, y1, y2, y3, y4, y5, y6, -⟩ := HI.out.facts
  clear hV1
  have HVL := Lib.hid (value_c (Lib.hid (hq.out.stay HB1.out)) (by omega) h6 x)
  go_upto_region 2 with (go_at_call 51; (with_reducible refine HVL.out.mono ?_); rintro e2 w2 ⟨n, b, rfl, hv, hb2⟩; have HV := Lib.hid hv; have HB2 := Lib.hid (HB1.out.trans (hb2.mono HB1.out.size)); have HI2 := Lib.hid (HI.out.stay hb2); have HZ2 := Lib.hid (HZ.out.stay hb2); clear hv hb2)
  clear y0 y1 y2 y3 y4 y5 y6 bm
  obtain ⟨bm, y0, y1, y2, y3, y4, y5, y6, -⟩ := HI2.out.facts
  obtain ⟨bz, z0, z1, z2, z3, z4, z5, z6, f0, f1, f2, f3, f4, f5, f6⟩ := HZ2.out.facts
  have HGT : Hid (∀ r, Calls Tryd.prog 24 #[v, .int .i64 r] w2 (GetP w2 l r)) := Lib.hid fun r => get_c (Lib.hid (hq.out.stay HB2.out)) (by omega) r
  go_upto_region 3 with (go_at_call 24; (with_reducible refine (HGT.out _).mono ?_); rintro e3 w3 ⟨a, t, rfl, ga, za, rfl⟩; have HA := Lib.hid ga; clear ga za)
  clear HGT
  by_cases k2 : x.k = 2
  · rw [k2] at y0
    cases b with
    | true =>
      have E : Hid (oneM (gt l) x at_ = ⟨0, 0, x.d, 0, 0, n, 0⟩) := Lib.hid (by unfold oneM; simp [k2, HV.out])
      go_wp2
      exact bodyPost_ret (run_ib (HZ2.out.all _ _ _ _ _ _ _) rfl _ rfl) rfl ⟨(by first | (rw [E.out]; done) | (rw [E.out]; simp [k2, HV.out])), below_set (below_set (below_set (below_set (below_set (below_set (below_set HB2.out hWm _ _) hWm _ _) hWm _ _) hWm _ _) hWm _ _) hWm _ _) hWm _ _⟩
    | false =>
      have E : Hid (oneM (gt l) x at_ = x) := Lib.hid (by unfold oneM; simp [k2, HV.out])
      go_wp2
      exact bodyPost_ret (run_ib (HZ2.out.all _ _ _ _ _ _ _) rfl _ rfl) rfl ⟨(by first | (rw [E.out]; done) | (rw [E.out]; simp [k2, HV.out])), below_set (below_set (below_set (below_set (below_set (below_set (below_set HB2.out hWm _ _) hWm _ _) hWm _ _) hWm _ _) hWm _ _) hWm _ _) hWm _ _⟩
  have e2 : (x.k == 2) = false := by simp [k2]
  by_cases k1 : x.k = 1
  · rw [k1] at y0
    cases b with
    | true =>
      have E : Hid (oneM (gt l) x at_ = ⟨0, 0, x.d, 0, 0, n, 0⟩) := Lib.hid (by unfold oneM; simp [k1, HV.out])
      go_wp2
      exact bodyPost_ret (run_ib (HZ2.out.all _ _ _ _ _ _ _) rfl _ rfl) rfl ⟨(by first | (rw [E.out]; done) | (rw [E.out]; simp [k1, HV.out])), below_set (below_set (below_set (below_set (below_set (below_set (below_set HB2.out hWm _ _) hWm _ _) hWm _ _) hWm _ _) hWm _ _) hWm _ _) hWm _ _⟩
    | false =>
      have E : Hid (oneM (gt l) x at_ = x) := Lib.hid (by unfold oneM; simp [k1, HV.out])
      go_wp2
      exact bodyPost_ret (run_ib (HZ2.out.all _ _ _ _ _ _ _) rfl _ rfl) rfl ⟨(by first | (rw [E.out]; done) | (rw [E.out]; simp [k1, HV.out])), below_set (below_set (below_set (below_set (below_set (below_set (below_set HB2.out hWm _ _) hWm _ _) hWm _ _) hWm _ _) hWm _ _) hWm _ _) hWm _ _⟩
  have e1 : (x.k == 1) = false := by simp [k1]
  by_cases k3 : x.k = 3
  · rw [k3] at y0
    cases t with
    | false =>
      have E : Hid (oneM (gt l) x at_ = x) := Lib.hid (by unfold oneM; simp [k3, HA.out])
      go_wp2
      exact bodyPost_ret (run_ib (HZ2.out.all _ _ _ _ _ _ _) rfl _ rfl) rfl ⟨(by first | (rw [E.out]; done) | (rw [E.out]; simp [k3, HA.out])), below_set (below_set (below_set (below_set (below_set (below_set (below_set HB2.out hWm _ _) hWm _ _) hWm _ _) hWm _ _) hWm _ _) hWm _ _) hWm _ _⟩
    | true =>
      by_cases a0 : a = 0
      · have ea : (a == 0) = true := by simp [a0]
        have E : Hid (oneM (gt l) x at_ = ⟨1, 0, x.d, x.d, 0, 0, 0⟩) := Lib.hid (by unfold oneM; simp [k3, HA.out, a0])
        go_wp2
        exact bodyPost_ret (run_ib (HZ2.out.all _ _ _ _ _ _ _) rfl _ rfl) rfl ⟨(by first | (rw [E.out]; done) | (rw [E.out]; simp [k3, HA.out, a0])), below_set (below_set (below_set (below_set (below_set (below_set (below_set HB2.out hWm _ _) hWm _ _) hWm _ _) hWm _ _) hWm _ _) hWm _ _) hWm _ _⟩
      · have ea : (a == 0) = false := by simp [a0]
        cases b with
        | true =>
          have E : Hid (oneM (gt l) x at_ = ⟨0, 0, x.d, 0, 0, n, 0⟩) := Lib.hid (by unfold oneM; simp [k3, HA.out, a0, HV.out])
          go_wp2
          exact bodyPost_ret (run_ib (HZ2.out.all _ _ _ _ _ _ _) rfl _ rfl) rfl ⟨(by first | (rw [E.out]; done) | (rw [E.out]; simp [k3, HA.out, a0, HV.out])), below_set (below_set (below_set (below_set (below_set (below_set (below_set HB2.out hWm _ _) hWm _ _) hWm _ _) hWm _ _) hWm _ _) hWm _ _) hWm _ _⟩
        | false =>
          have E : Hid (oneM (gt l) x at_ = ⟨1, 0, x.d, x.b, 0, 0, 0⟩) := Lib.hid (by unfold oneM; simp [k3, HA.out, a0, HV.out])
          go_wp2
          exact bodyPost_ret (run_ib (HZ2.out.all _ _ _ _ _ _ _) rfl _ rfl) rfl ⟨(by first | (rw [E.out]; done) | (rw [E.out]; simp [k3, HA.out, a0, HV.out])), below_set (below_set (below_set (below_set (below_set (below_set (below_set HB2.out hWm _ _) hWm _ _) hWm _ _) hWm _ _) hWm _ _) hWm _ _) hWm _ _⟩
  have e3 : (x.k == 3) = false := by simp [k3]
  by_cases k7 : x.k = 7
  · rw [k7] at y0
    cases t with
    | false =>
      have E : Hid (oneM (gt l) x at_ = x) := Lib.hid (by unfold oneM; simp [k7, HA.out])
      go_wp2
      exact bodyPost_ret (run_ib (HZ2.out.all _ _ _ _ _ _ _) rfl _ rfl) rfl ⟨(by first | (rw [E.out]; done) | (rw [E.out]; simp [k7, HA.out])), below_set (below_set (below_set (below_set (below_set (below_set (below_set HB2.out hWm _ _) hWm _ _) hWm _ _) hWm _ _) hWm _ _) hWm _ _) hWm _ _⟩
    | true =>
      by_cases a0 : a = 0
      · have ea : (a == 0) = true := by simp [a0]
        have E : Hid (oneM (gt l) x at_ = ⟨6, 0, 0, 0, 0, 0, x.t⟩) := Lib.hid (by unfold oneM; simp [k7, HA.out, a0])
        go_wp2
        exact bodyPost_ret (run_ib (HZ2.out.all _ _ _ _ _ _ _) rfl _ rfl) rfl ⟨(by first | (rw [E.out]; done) | (rw [E.out]; simp [k7, HA.out, a0])), below_set (below_set (below_set (below_set (below_set (below_set (below_set HB2.out hWm _ _) hWm _ _) hWm _ _) hWm _ _) hWm _ _) hWm _ _) hWm _ _⟩
      · have ea : (a == 0) = false := by simp [a0]
        have E : Hid (oneM (gt l) x at_ = ⟨6, 0, 0, 0, 0, 0, (at_ : Int) + 1⟩) := Lib.hid (by unfold oneM; simp [k7, HA.out, a0])
        go_wp2
        exact bodyPost_ret (run_ib (HZ2.out.all _ _ _ _ _ _ _) rfl _ rfl) rfl ⟨(by first | (rw [E.out]; done) | (rw [E.out]; simp [k7, HA.out, a0])), below_set (below_set (below_set (below_set (below_set (below_set (below_set HB2.out hWm _ _) hWm _ _) hWm _ _) hWm _ _) hWm _ _) hWm _ _) hWm _ _⟩
  have e7 : (x.k == 7) = false := by simp [k7]
  have E : Hid (oneM (gt l) x at_ = x) := Lib.hid (by unfold oneM; simp [k1, k2, k3, k7])
  go_wp2
  exact bodyPost_ret (run_ib (HZ2.out.all _ _ _ _ _ _ _) rfl _ rfl) rfl ⟨(by first | (rw [E.out]; done) | (rw [E.out]; simp [k1, k2, k3, k7])), below_set (below_set (below_set (below_set (below_set (below_set (below_set HB2.out hWm _ _) hWm _ _) hWm _ _) hWm _ _) hWm _ _) hWm _ _) hWm _ _⟩
end Go.Proofs.YtgdhgipofaaogaaDoor
namespace Go.Proofs.YtgdhgipofaaogaaDoor
open Go Go.RowKit

theorem wpOp_val {P : Program} {ops : Array Oper} {Q : Exit → Act → World → Prop} {K : Act → World → Prop} {a : Act} {w w' : World} {i : Nat} {o : Oper} {v : Value} (d : Option Tmp) (hi : ops[i]? = some o) (hd : o.dst = d) (hw : Region.wanted o (yielded ops a.tmps) = true) (hr : (execOp a.eval o).run P w = .ok (.value v) w') (h : K (a.put d v) w') : wpOp P ops Q i K a w := by
  subst hd
  unfold wpOp
  rw [hi]
  simp only
  rw [if_pos hw]
  refine .inl ?_
  unfold Oper.wp
  rw [hr]
  exact h
theorem wpOp_skip {P : Program} {ops : Array Oper} {Q : Exit → Act → World → Prop} {K : Act → World → Prop} {a : Act} {w w' : World} {i : Nat} {o : Oper} (d : Option Tmp) (hi : ops[i]? = some o) (hd : o.dst = d) (hw : Region.wanted o (yielded ops a.tmps) = true) (hr : (execOp a.eval o).run P w = .ok .skip w') (h : K (a.put d undef) w') : wpOp P ops Q i K a w := by
  subst hd
  unfold wpOp
  rw [hi]
  simp only
  rw [if_pos hw]
  refine .inl ?_
  unfold Oper.wp
  rw [hr]
  unfold Oper.upon
  exact h
theorem wpOp_app {P : Program} {ops : Array Oper} {Q : Exit → Act → World → Prop} {K : Act → World → Prop} {a : Act} {w : World} {j : Nat} {o : Oper} (d : Option Tmp) (hj : ops[j]? = some o) (hd : o.dst = d) (hw : Region.wanted o (yielded ops a.tmps) = true) (s x : Operand) (t : TypeId)
    (ho : o.op = .call { callee := .builtin .append, args := #[s, x], argTypes := #[t, t] })
    (base : Nat) (e : TypeId) (i : TypeInfo) (z : Value) (size bytes : Nat) (ht : P.underlying t = some (.slice e)) (hi : P.info? e = some i) (hz : i.zero = some z)
    (hsize : i.size = size) (hby : i.bytes = bytes) (hzs : z.cells.size = size) (hsz : 0 < size)
    (v : Value) (n : Nat) (xs : List Value) (hs : a.eval s = v) (hown : w.ownsRow base e size v n xs)
    (ad : Addr) (m c : Nat) (news : List Value) (hx : a.eval x = .slice (some ad) m c) (hl : news.length = m * size) (hnews : ∀ j u, news[j]? = some u → w.cell? (ad.add j) = some u) (h1 : ∀ u ∈ news, u.oneCell' = true)
    (h63 : n + m ≤ maxLen) (hbytes : (n + m) * bytes ≤ 140737488355328) (hbase : base ≤ w.heap.size)
    (h : ∀ v' w', w'.ownsRow base e size v' (n + m) (xs ++ news) → w.grownBy w' v.ownBlock → K (a.put d v') w') : wpOp P ops Q j K a w := by
  subst hd
  obtain ⟨v', w', hr, h2, h3, _, _⟩ := run_append_own_at (P := P) w base t o.type e i z size bytes ht hi hz hsize hby hzs hsz v n xs hown ad m c news hl hnews h1 h63 hbytes hbase
  unfold wpOp
  rw [hj]
  simp only
  rw [if_pos hw]
  refine .inl ?_
  unfold Oper.wp execOp
  simp only [ho, resolve, invoke, builtin, Sem.run_bind, Sem.run_pure, Result.andThen_ok, List.map_toArray, List.map_cons, List.map_nil, hs, hx, hr]
  exact h v' w' h2 h3
end Go.Proofs.YtgdhgipofaaogaaDoor
namespace Go.Proofs.YtgdhgipofaaogaaDoor
open Go Go.RowKit Gm

/-- A row of instructions in memory of its own. -/
def ict (x : Ic) : List Value := [.int .i64 x.k, .int .i64 x.o, .int .i64 x.d, .int .i64 x.a, .int .i64 x.b, .int .i64 x.n, .int .i64 x.t]
def R7 (B : Nat) (W : World) (v : Value) (L : List Ic) : Prop := W.ownsRow B 53 7 v L.length (L.flatMap ict)
theorem ict_get : ∀ (L : List Ic) (i j : Nat) (x : Ic) (u : Value), L[i]? = some x → (ict x)[j]? = some u → (L.flatMap ict)[i * 7 + j]? = some u
  | [], _, _, _, _, h, _ => by simp at h
  | y :: L, 0, j, x, u, h, hu => by
    have : y = x := by simpa using h
    subst this
    rw [List.flatMap_cons, List.getElem?_append_left (by have := (List.getElem?_eq_some_iff.1 hu).1; omega)]
    simpa using hu
  | y :: L, i + 1, j, x, u, h, hu => by
    have := ict_get L i j x u (by simpa using h) hu
    rw [List.flatMap_cons, List.getElem?_append_right (by simp [ict]; omega)]
    rw [show (i + 1) * 7 + j - (ict y).length = i * 7 + j by simp [ict]; omega]
    exact this
section
variable {B : Nat} {W X : World} {v : Value} {L : List Ic}
theorem R7.nil (B : Nat) (W : World) : R7 B W (.slice none 0 0) [] := World.ownsRow_nil W B _ _
theorem R7.lt (h : R7 B W v L) : ∀ g, v.ownBlock = some g → B ≤ g ∧ g < W.heap.size := World.ownsRow.lt h
theorem R7.open (h : R7 B W v L) : ∃ p cap, v = .slice p L.length cap ∧ ∀ i x, L[i]? = some x → ∃ g, p = some ⟨g, 0, none⟩ ∧ g < W.heap.size ∧ At7 W g (0 + i * 7) x := by
  rcases h.2 with ⟨rfl, h0⟩ | ⟨g, cap, cur, rfl, hB, hg, hc, _, _, ht⟩
  · refine ⟨none, 0, by rw [h0], fun i x hx => ?_⟩
    have := (List.getElem?_eq_some_iff.1 hx).1
    omega
  · refine ⟨_, cap, rfl, fun i x hx => ⟨g, rfl, (Array.getElem?_eq_some_iff.1 hg).1, ?_⟩⟩
    have hi := (List.getElem?_eq_some_iff.1 hx).1
    have key : ∀ j u, j < 7 → (ict x)[j]? = some u → W.cell? ⟨g, 0 + i * 7 + j, none⟩ = some u := fun j u hj hu => by
      rw [Nat.zero_add, cell_of_row W g _ cur _ _ hg]
      have h1 := congrArg (·[i * 7 + j]?) ht
      simp only [List.getElem?_take] at h1
      rw [if_pos (by omega), ict_get L i j x u hx hu] at h1
      simpa using h1
    exact ⟨key 0 _ (by omega) rfl, key 1 _ (by omega) rfl, key 2 _ (by omega) rfl, key 3 _ (by omega) rfl, key 4 _ (by omega) rfl, key 5 _ (by omega) rfl, key 6 _ (by omega) rfl⟩
theorem R7.code (h : R7 B W v L) (hok : ∀ x, x ∈ L → Ok6 x) : ∃ p cap, v = .slice p L.length cap ∧ CodeAt W p L := by
  obtain ⟨p, cap, e, h1⟩ := h.open
  refine ⟨p, cap, e, fun i x hx => ?_⟩
  obtain ⟨g, e1, h2, h3⟩ := h1 i x hx
  exact ⟨g, 0, e1, h2, h3, hok x (List.mem_of_getElem? hx)⟩
theorem R7.of_heap (h : R7 B W v L) (e : ∀ g, v.ownBlock = some g → X.heap[g]? = W.heap[g]?) : R7 B X v L := by
  refine ⟨h.1, ?_⟩
  rcases h.2 with h0 | ⟨g, cap, cur, rfl, hB, hg, r⟩
  · exact .inl h0
  · exact .inr ⟨g, cap, cur, rfl, hB, (e g rfl).trans hg, r⟩
theorem R7.stay (h : R7 B W v L) (hb : Below W.heap.size W X) : R7 B X v L := h.of_heap fun g e => hb.block g (h.lt g e).2
theorem R7.more {x : Ic} (h : W.ownsRow B 53 7 v (L.length + 1) (L.flatMap ict ++ ict x)) : R7 B W v (L ++ [x]) := by
  unfold R7
  rw [List.length_append, List.flatMap_append, List.flatMap_singleton]
  exact h
end
theorem info_ins : (Tryd.prog.info? 53).map (fun i => (i.zero, i.size, i.bytes)) = some (some (.agg #[.int .i64 0, .int .i64 0, .int .i64 0, .int .i64 0, .int .i64 0, .int .i64 0, .int .i64 0]), 7, 56) := by kernel_rfl
theorem R7.mono {B B' : Nat} {W : World} {v : Value} {L : List Ic} (h : R7 B W v L) (hb : B' ≤ B) : R7 B' W v L := by
  refine ⟨h.1, ?_⟩
  rcases h.2 with h0 | ⟨g, cap, cur, hv, hB, r⟩
  · exact .inl h0
  · exact .inr ⟨g, cap, cur, hv, Nat.le_trans hb hB, r⟩
/-- A code in which what is known stands. -/
def CodeR (c : List Ic) (n : Nat) (D : List Ic) : Prop := D.length = n ∧ ∀ i x, i < n → c[i]? = some x → ∃ f : Int → Option Int, (∀ r m, f r = some m ↔ Kn c i r m) ∧ (Rc c i → D[i]? = some (oneM f x i)) ∧ (¬ Rc c i → D[i]? = some x)
theorem kn_fun {c : List Ic} {i : Nat} {f g : Int → Option Int} (hf : ∀ r m, f r = some m ↔ Kn c i r m) (hg : ∀ r m, g r = some m ↔ Kn c i r m) : f = g := by
  funext r
  cases hr : f r with
  | some m => exact ((hg r m).2 ((hf r m).1 hr)).symm
  | none =>
    cases hs : g r with
    | none => rfl
    | some m => rw [(hf r m).2 ((hg r m).1 hs)] at hr; cases hr
theorem CodeR.one {c D E : List Ic} (h : CodeR c c.length D) (k : CodeR c c.length E) : D = E := by
  apply List.ext_getElem?
  intro i
  by_cases hi : i < c.length
  · have hx : c[i]? = some c[i] := List.getElem?_eq_getElem hi
    obtain ⟨f, hf, a1, a2⟩ := h.2 i _ hi hx
    obtain ⟨g, hg, b1, b2⟩ := k.2 i _ hi hx
    obtain rfl := kn_fun hf hg
    by_cases hr : Rc c i
    · rw [a1 hr, b1 hr]
    · rw [a2 hr, b2 hr]
  · rw [List.getElem?_eq_none (by rw [h.1]; omega), List.getElem?_eq_none (by rw [k.1]; omega)]
theorem CodeR.zero (c : List Ic) : CodeR c 0 [] := ⟨rfl, fun _ _ h => absurd h (Nat.not_lt_zero _)⟩
theorem CodeR.next {c D : List Ic} {i : Nat} {x y : Ic} {f : Int → Option Int} (h : CodeR c i D) (hx : c[i]? = some x) (hf : ∀ r m, f r = some m ↔ Kn c i r m) (h1 : Rc c i → y = oneM f x i) (h2 : ¬ Rc c i → y = x) : CodeR c (i + 1) (D ++ [y]) := by
  refine ⟨by rw [List.length_append, h.1]; rfl, fun j z hj hz => ?_⟩
  by_cases e : j = i
  · subst e
    rw [hx] at hz
    cases hz
    have hg : (D ++ [y])[j]? = some y := by rw [List.getElem?_append_right (by rw [h.1]; omega), h.1]; simp
    exact ⟨f, hf, fun r => by rw [hg, h1 r], fun r => by rw [hg, h2 r]⟩
  · obtain ⟨g, hg, a1, a2⟩ := h.2 j z (by omega) hz
    rw [List.getElem?_append_left (by rw [h.1]; omega)]
    exact ⟨g, hg, a1, a2⟩
/-- What Code hands back. -/
def RefC (W : World) (c : List Ic) (e : Ending) (w' : World) : Prop := ∃ v D, e = .returned v ∧ R7 W.heap.size w' v D ∧ CodeR c c.length D ∧ Below W.heap.size W w'
set_option maxRecDepth 100000 in
set_option maxHeartbeats 8000000 in
theorem refcode_c {W : World} {p : Option Addr} {cap : Nat} {c : List Ic} (hc : Hid (CodeAt W p c)) (hn : c.length ≤ 5000) : Calls Tryd.prog 13 #[.slice p c.length cap] W (RefC W c) := by
  obtain ⟨i0, hi0, hz0, hz1, hz2⟩ := info_parts info_ins
  have HAL := Lib.hid (all_c (cap := cap) hc hn)
  go_enter Tryd.func13, Tryd.ntmps13
  go_upto_region 2 with (go_at_call 17; (with_reducible refine HAL.out.mono ?_); rintro e2 w2 ⟨b, I, V, L, rfl, ha, hf⟩; have HA := Lib.hid ha; have HF := Lib.hid hf; clear ha hf)
  clear HAL
  go_upto_region 4 with (fail)
  go_loopw [4, 5] (fun a4 a5 wr => ∃ (i : Nat) (v : Value) (D : List Ic), a4 = v ∧ a5 = .int .i64 i ∧ i ≤ c.length ∧ Hid (Below w2.heap.size w2 wr ∧ R7 w2.heap.size wr v D ∧ CodeR c i D)) (fun _ a5 _ => c.length - (intOf a5).toNat)
  case atStart => exact ⟨0, _, [], rfl, rfl, Nat.zero_le _, Lib.hid ⟨below_like (Below.refl _ _) rfl rfl rfl rfl, R7.nil _ _, CodeR.zero c⟩⟩
  case round =>
    obtain ⟨wo, rfl⟩ : ∃ wo : World, wo = wr := ⟨_, rfl⟩
    obtain ⟨i, v, D, rfl, rfl, hi, HR⟩ := hrel
    have HDL : Hid (D.length = i) := Lib.hid HR.out.2.2.1
    by_cases hlt : i < c.length
    · obtain ⟨q, cq, ev, -⟩ := HR.out.2.1.open
      subst ev
      have HF0 := Lib.hid (HF.out (by omega))
      have HAo := Lib.hid (HA.out.stay HR.out.1)
      have c0 := HAo.out.fv.cell (i := i * 2) (by omega)
      rw [Fs_0] at c0
      have hbl := HAo.out.fv.lt
      obtain ⟨x, hx⟩ : ∃ x, c[i]? = some x := ⟨_, List.getElem?_eq_getElem hlt⟩
      obtain ⟨gc, oc, ep, hgcW, hat0, -⟩ := hc.out i x hx
      have hat7 := hat0.stay hgcW HAo.out.bel
      have hgc := Nat.lt_of_lt_of_le hgcW HAo.out.bel.size
      have hneb : ¬ (Value.slice q D.length cq).ownBlock = some b := fun e => by have h1 := (HR.out.2.1.lt b e).1; have h2 := HA.out.fv.lt; omega
      have hnec : ¬ (Value.slice q D.length cq).ownBlock = some gc := fun e => by have h1 := (HR.out.2.1.lt gc e).1; have h2 := HA.out.bel.size; omega
      have HX := Lib.hid hx
      have k0 := hat7.k
      have k1 := hat7.o
      have k2 := hat7.d
      have k3 := hat7.a
      have k4 := hat7.b
      have k5 := hat7.n
      have k6 := hat7.t
      subst ep
      have hVo : w2.heap.size ≤ wo.heap.size := HR.out.1.size
      clear hat7 hx
      cases hI : I i with
      | false =>
        rw [hI] at c0
        have HNR : Hid (¬ Rc c i) := Lib.hid fun h => by have := (HF0.out.1.rc_iff HF0.out.2 i).2 h; rw [hI] at this; cases this
        clear hI
        go_wp2_with (at_builtin; refine wpList_append_own_at _ rfl _ _ 28 rfl w2.heap.size 53 i0 _ 7 56 Tryd.underlying28 hi0 hz0 hz1 hz2 rfl (by decide) (.slice q D.length cq) D.length (D.flatMap ict) rfl (World.ownsRow.alloc HR.out.2.1 _) ⟨wo.heap.size, 0, none⟩ 1 1 (ict x) rfl rfl ?c1 ?c2 ?c3 ?c4 ?c5 ?_)
        case c1 => first | exact World.news_of_block (heap_alloc_new _ _) | (intro j u h; exact h)
        case c2 => intro y hy; simp [ict] at hy; rcases hy with rfl | rfl | rfl | rfl | rfl | rfl | rfl <;> rfl
        case c3 => have := HDL.out; unfold maxLen; omega
        case c4 => have := HDL.out; omega
        case c5 => have := HDL.out; first | omega | (simp; omega)
        intro v4 w4 hown hgrow _ hats
        have HG4 := Lib.hid (R7.more (x := x) hown)
        have HB4 : Hid (Below w2.heap.size w2 w4) := Lib.hid ((HR.out.1.alloc (by omega) _).grown hgrow (by simp; omega) fun z e => (HR.out.2.1.lt z e).1)
        have HN : Hid (CodeR c (i + 1) (D ++ [x])) := Lib.hid (HR.out.2.2.next HX.out (f := gt (L i)) (fun r m => HF0.out.1.kn HF0.out.2 i r m) (fun h => absurd h HNR.out) fun _ => rfl)
        clear hown hgrow hats
        go_wp2
        go_roundw
        case rel => exact ⟨i + 1, v4, _, rfl, by go_num, by omega, Lib.hid ⟨HB4.out, HG4.out, HN.out⟩⟩
        case measure => (simp [intOf]; try omega)
      | true =>
        rw [hI] at c0
        have HRC : Hid (Rc c i) := Lib.hid (HF0.out.1.rc i hI)
        clear hI
        have c1 := HAo.out.fv.cell (i := i * 2 + 1) (by omega)
        rw [Fs_1] at c1
        obtain ⟨pv, cv, eV, -⟩ := HAo.out.rk i hlt
        rw [eV] at c1
        have hLl := HF0.out.1.len i
        have HVR : Hid (RK wo.drew (.slice pv (L i).length cv) (L i)) := Lib.hid (by rw [← eV]; exact (HAo.out.rk i hlt).stay (below_drew1 _))
        have HON := Lib.hid (refone_c HVR (by omega) (Lib.hid (HF0.out.1.v6 i)) x i (by omega))
        have HRd : Hid (Below w2.heap.size w2 wo.drew ∧ R7 w2.heap.size wo.drew (.slice q D.length cq) D) := Lib.hid ⟨HR.out.1.trans ((below_drew1 _).mono HR.out.1.size), HR.out.2.1.stay (below_drew1 _)⟩
        have HN : Hid (CodeR c (i + 1) (D ++ [oneM (gt (L i)) x i])) := Lib.hid (HR.out.2.2.next HX.out (f := gt (L i)) (fun r m => HF0.out.1.kn HF0.out.2 i r m) (fun _ => rfl) fun h => absurd HRC.out h)
        obtain ⟨y, hy⟩ : ∃ y, oneM (gt (L i)) x i = y := ⟨_, rfl⟩
        rw [hy] at HN HON
        clear eV hy
        go_upto_region 7 with (fail)
        refine region_held1 (fun w' => Ch (fun z => (Value.slice q D.length cq).ownBlock = some z) wo w') (by kernel_rfl) ?_
        show wpAnyH _ _ _ _ _ 15 _ _ _
        refine takeH (i := 0) (v := .slice q D.length cq) (some 19) rfl rfl (by kernel_rfl) (by kernel_rfl) (by kernel_rfl) (Or.inl ⟨by rfl, ?_⟩) (Ch.of (below_drew1 _)) ?_
        · intro y1 hS1
          go_simp
        simp only [Act.put, List.setIfInBounds_toArray, List.set_cons_zero, List.set_cons_succ]
        refine takeH (i := 1) (v := .slice (some ⟨b, 0, none⟩) c.length c.length) (some 20) rfl rfl (by kernel_rfl) (by kernel_rfl) (by kernel_rfl) (Or.inl ⟨by rfl, ?_⟩) (Ch.of (below_drew1 _)) ?_
        · intro y1 hS1
          go_simp
        simp only [Act.put, List.setIfInBounds_toArray, List.set_cons_zero, List.set_cons_succ]
        refine takeH (i := 2) (v := .int .i64 (i : Int)) (some 21) rfl rfl (by kernel_rfl) (by kernel_rfl) (by kernel_rfl) (Or.inl ⟨by rfl, ?_⟩) (Ch.of (below_drew1 _)) ?_
        · intro y1 hS1
          go_simp
        simp only [Act.put, List.setIfInBounds_toArray, List.set_cons_zero, List.set_cons_succ]
        refine takeH (i := 3) (v := .pointer (some ⟨b, i * 2, none⟩)) (some 22) rfl rfl (by kernel_rfl) (by kernel_rfl) (by kernel_rfl) (Or.inl ⟨by rfl, ?_⟩) (Ch.of (below_drew1 _)) ?_
        · intro y1 hS1
          go_simp
        simp only [Act.put, List.setIfInBounds_toArray, List.set_cons_zero, List.set_cons_succ]
        refine takeH (i := 4) (v := .pointer (some ⟨b, i * 2 + 1, none⟩)) (some 23) rfl rfl (by kernel_rfl) (by kernel_rfl) (by kernel_rfl) (Or.inl ⟨by rfl, ?_⟩) (Ch.of (below_drew1 _)) ?_
        · intro y1 hS1
          go_simp
        simp only [Act.put, List.setIfInBounds_toArray, List.set_cons_zero, List.set_cons_succ]
        refine takeH (i := 5) (v := .slice pv (L i).length cv) (some 24) rfl rfl (by kernel_rfl) (by kernel_rfl) (by kernel_rfl) (Or.inl ⟨by rfl, ?_⟩) (Ch.of (below_drew1 _)) ?_
        · intro y1 hS1
          have c1 := (hS1.cell (b := b) hbl hneb).trans c1
          go_simp
        simp only [Act.put, List.setIfInBounds_toArray, List.set_cons_zero, List.set_cons_succ]
        refine takeH (i := 6) (v := .slice (some ⟨gc, oc, none⟩) c.length cap) (some 25) rfl rfl (by kernel_rfl) (by kernel_rfl) (by kernel_rfl) (Or.inl ⟨by rfl, ?_⟩) (Ch.of (below_drew1 _)) ?_
        · intro y1 hS1
          go_simp
        simp only [Act.put, List.setIfInBounds_toArray, List.set_cons_zero, List.set_cons_succ]
        refine takeH (i := 7) (v := .int .i64 (i : Int)) (some 26) rfl rfl (by kernel_rfl) (by kernel_rfl) (by kernel_rfl) (Or.inl ⟨by rfl, ?_⟩) (Ch.of (below_drew1 _)) ?_
        · intro y1 hS1
          go_simp
        simp only [Act.put, List.setIfInBounds_toArray, List.set_cons_zero, List.set_cons_succ]
        refine takeH (i := 8) (v := .pointer (some ⟨gc, oc + i * 7, none⟩)) (some 27) rfl rfl (by kernel_rfl) (by kernel_rfl) (by kernel_rfl) (Or.inl ⟨by rfl, ?_⟩) (Ch.of (below_drew1 _)) ?_
        · intro y1 hS1
          go_simp
        simp only [Act.put, List.setIfInBounds_toArray, List.set_cons_zero, List.set_cons_succ]
        refine takeH (i := 9) (v := .agg #[.int .i64 x.k, .int .i64 x.o, .int .i64 x.d, .int .i64 x.a, .int .i64 x.b, .int .i64 x.n, .int .i64 x.t]) (some 28) rfl rfl (by kernel_rfl) (by kernel_rfl) (by kernel_rfl) (Or.inl ⟨by rfl, ?_⟩) (Ch.of (below_drew1 _)) ?_
        · intro y1 hS1
          have k0 := (hS1.cell (b := gc) hgc hnec).trans k0
          have k1 := (hS1.cell (b := gc) hgc hnec).trans k1
          have k2 := (hS1.cell (b := gc) hgc hnec).trans k2
          have k3 := (hS1.cell (b := gc) hgc hnec).trans k3
          have k4 := (hS1.cell (b := gc) hgc hnec).trans k4
          have k5 := (hS1.cell (b := gc) hgc hnec).trans k5
          have k6 := (hS1.cell (b := gc) hgc hnec).trans k6
          go_simp
        simp only [Act.put, List.setIfInBounds_toArray, List.set_cons_zero, List.set_cons_succ]
        refine takeH (i := 10) (v := .int .i64 (i : Int)) (some 29) rfl rfl (by kernel_rfl) (by kernel_rfl) (by kernel_rfl) (Or.inl ⟨by rfl, ?_⟩) (Ch.of (below_drew1 _)) ?_
        · intro y1 hS1
          go_simp
        simp only [Act.put, List.setIfInBounds_toArray, List.set_cons_zero, List.set_cons_succ]
        refine wpAnyH_all (rs := [11]) (by kernel_rfl) (by simp) ?_
        intro i8 hi8
        obtain rfl : i8 = 11 := by simpa using hi8
        refine wpOp_call (some 30) rfl rfl (by rfl) (f := 27) (args := #[.slice pv (L i).length cv, .agg #[.int .i64 x.k, .int .i64 x.o, .int .i64 x.d, .int .i64 x.a, .int .i64 x.b, .int .i64 x.n, .int .i64 x.t], .int .i64 i]) (by go_simp) HON.out ?_
        rintro e5 w5 ⟨rfl, hb5⟩
        have HR5 := Lib.hid (HRd.out.2.stay hb5)
        have hb5o : Below wo.heap.size wo w5 := (below_drew1 _).trans hb5
        have HB5 : Hid (Below w2.heap.size w2 w5) := Lib.hid (HR.out.1.trans (hb5o.mono HR.out.1.size))
        have HBo5 := Lib.hid hb5o
        have hs5 := HB5.out.size
        clear hb5 hb5o
        refine ⟨_, rfl, Ch.of HBo5.out, ?_⟩
        simp only [Act.put, List.setIfInBounds_toArray, List.set_cons_zero, List.set_cons_succ]
        refine wpAnyH_all (rs := [12]) (by kernel_rfl) (by simp) ?_
        intro i9 hi9
        obtain rfl : i9 = 12 := by simpa using hi9
        refine wpOp_val (w' := w5.alloc (.cells #[.int .i64 y.k, .int .i64 y.o, .int .i64 y.d, .int .i64 y.a, .int .i64 y.b, .int .i64 y.n, .int .i64 y.t] 53)) (v := .slice (some ⟨w5.heap.size, 0, none⟩) 1 1) (some 31) rfl rfl (by rfl) (by go_simp) ?_
        refine ⟨(Ch.of HBo5.out).alloc _, ?_⟩
        simp only [Act.put, List.setIfInBounds_toArray, List.set_cons_zero, List.set_cons_succ]
        refine wpAnyH_all (rs := [13]) (by kernel_rfl) (by simp) ?_
        intro i10 hi10
        obtain rfl : i10 = 13 := by simpa using hi10
        refine wpOp_app (some 32) rfl rfl (by rfl) _ _ 28 rfl w2.heap.size 53 i0 _ 7 56 Tryd.underlying28 hi0 hz0 hz1 hz2 rfl (by decide) (.slice q D.length cq) D.length (D.flatMap ict) rfl (World.ownsRow.alloc HR5.out _) ⟨w5.heap.size, 0, none⟩ 1 1 (ict y) rfl rfl ?c1 ?c2 ?c3 ?c4 ?c5 ?_
        case c1 => exact World.news_of_block (heap_alloc_new _ _)
        case c2 => intro y hy; simp [ict] at hy; rcases hy with rfl | rfl | rfl | rfl | rfl | rfl | rfl <;> rfl
        case c3 => have := HDL.out; unfold maxLen; omega
        case c4 => have := HDL.out; omega
        case c5 => simp; omega
        intro v4 w4 hown hgrow
        have HG4 := Lib.hid (R7.more (x := y) hown)
        have hrg := HR5.out.lt
        have HB4 : Hid (Below w2.heap.size w2 w4) := Lib.hid ((HB5.out.alloc (by omega) _).grown hgrow (by simp; omega) fun z e => (HR5.out.lt z e).1)
        have HBo4 : Hid (Ch (fun z => (Value.slice q D.length cq).ownBlock = some z) wo w4) := Lib.hid (((Ch.of HBo5.out).alloc _).grown hgrow fun z e => .inl e)
        clear hown hgrow hrg
        refine ⟨HBo4.out, ?_⟩
        simp only [Act.put, List.setIfInBounds_toArray, List.set_cons_zero, List.set_cons_succ]
        refine takeH (i := 14) (v := v4) (some 4) rfl rfl (by kernel_rfl) (by kernel_rfl) (by kernel_rfl) (Or.inl ⟨by rfl, ?_⟩) HBo4.out ?_
        · intro y1 hS1
          go_simp
        simp only [Act.put, List.setIfInBounds_toArray, List.set_cons_zero, List.set_cons_succ]
        refine wpAnyH_done (by kernel_rfl) ?_ _
        refine ⟨rfl, ?_⟩
        go_wp2
        go_roundw
        case rel => exact ⟨i + 1, v4, _, rfl, by go_num, by omega, Lib.hid ⟨HB4.out, HG4.out, HN.out⟩⟩
        case measure => (simp [intOf]; try omega)
    · obtain rfl : i = c.length := by omega
      go_wp2
      go_ret
      exact ⟨_, D, rfl, HR.out.2.1.mono HA.out.bel.size, HR.out.2.2, HA.out.bel.trans (HR.out.1.mono HA.out.bel.size)⟩
end Go.Proofs.YtgdhgipofaaogaaDoor
namespace Go.Proofs.YtgdhgipofaaogaaDoor
open Go Go.RowKit Gm

def iw (l : List Int) : List Value := l.map (Value.int .i64)
/-- A row of ints of one's own, from any cell of its block on. -/
def SR (B : Nat) (W : World) (v : Value) (l : List Int) : Prop := (v = .slice none 0 0 ∧ l = []) ∨ ∃ g o cap cur, v = .slice (some ⟨g, o, none⟩) l.length cap ∧ B ≤ g ∧ W.heap[g]? = some (.cells cur 3 (0, 0)) ∧ o + cap ≤ cur.size ∧ l.length ≤ cap ∧ ∀ i u, (iw l)[i]? = some u → cur[o + i]? = some u
section
variable {B : Nat} {W X : World} {v : Value} {l : List Int} {x : Int}
theorem SR.nil (B : Nat) (W : World) : SR B W (.slice none 0 0) [] := .inl ⟨rfl, rfl⟩
theorem SR.form (h : SR B W v l) : ∃ p cap, v = .slice p l.length cap := by
  rcases h with ⟨rfl, rfl⟩ | ⟨g, o, cap, cur, rfl, -⟩
  · exact ⟨none, 0, rfl⟩
  · exact ⟨_, cap, rfl⟩
theorem SR.rv (h : SR B W v l) : ∃ p cap, v = .slice p l.length cap ∧ RV W p l.length (iv fun i => l.getD i 0) := by
  rcases h with ⟨rfl, rfl⟩ | ⟨g, o, cap, cur, rfl, hB, hg, h1, h2, h3⟩
  · exact ⟨none, 0, rfl, fun i hi => absurd hi (Nat.not_lt_zero _)⟩
  · refine ⟨_, cap, rfl, fun i hi => ⟨g, o, rfl, (Array.getElem?_eq_some_iff.1 hg).1, ?_⟩⟩
    rw [cell_of_row W g _ cur _ _ hg]
    refine h3 i _ ?_
    unfold iw
    rw [List.getElem?_map, List.getElem?_eq_getElem hi]
    simp [iv, List.getD_eq_getElem?_getD, hi]
theorem SR.lt (h : SR B W v l) : ∀ g, v.ownBlock = some g → B ≤ g ∧ g < W.heap.size := fun g e => by
  rcases h with ⟨rfl, -⟩ | ⟨g', o, cap, cur, rfl, hB, hg, -⟩
  · cases e
  · obtain rfl : g' = g := by simpa [Value.ownBlock] using e
    exact ⟨hB, (Array.getElem?_eq_some_iff.1 hg).1⟩
theorem SR.of_heap (h : SR B W v l) (e : ∀ g, v.ownBlock = some g → X.heap[g]? = W.heap[g]?) : SR B X v l := by
  rcases h with h | ⟨g, o, cap, cur, rfl, hB, hg, r⟩
  · exact .inl h
  · exact .inr ⟨g, o, cap, cur, rfl, hB, (e g rfl).trans hg, r⟩
theorem SR.stay (h : SR B W v l) (hb : Below W.heap.size W X) : SR B X v l := h.of_heap fun g e => hb.block g (h.lt g e).2
theorem SR.ch {S : Nat → Prop} (h : SR B W v l) (hc : Ch S W X) (hn : ∀ g, v.ownBlock = some g → ¬ S g) : SR B X v l := h.of_heap fun g e => hc.block g (h.lt g e).2 (hn g e)
theorem SR.of_own {B' : Nat} {T : TypeId} (hT : T = 3) (h : W.ownsRow B' T 1 v l.length (iw l)) (hB : B ≤ B') : SR B W v l := by
  subst hT
  rcases h.2 with ⟨rfl, h0⟩ | ⟨g, cap, cur, rfl, hg1, hg, h1, -, h2, h3⟩
  · exact .inl ⟨rfl, List.eq_nil_of_length_eq_zero h0⟩
  · refine .inr ⟨g, 0, cap, cur, rfl, Nat.le_trans hB hg1, hg, by omega, h1, fun i u hu => ?_⟩
    rw [← h3, List.getElem?_take] at hu
    split at hu
    · rw [Nat.zero_add]; simpa using hu
    · cases hu
/-- Cut at the front. -/
theorem SR.tail {p : Option Addr} {cap : Nat} (h : SR B W (.slice p (x :: l).length cap) (x :: l)) : ∃ g o, p = some ⟨g, o, none⟩ ∧ (x :: l).length ≤ cap ∧ SR B W (.slice (some ⟨g, o + 1, none⟩) l.length (cap - 1)) l ∧ W.cell? ⟨g, o, none⟩ = some (.int .i64 x) ∧ g < W.heap.size := by
  rcases h with ⟨-, h⟩ | ⟨g, o, cap', cur, e, hB, hg, h1, h2, h3⟩
  · cases h
  · cases e
    refine ⟨g, o, rfl, h2, .inr ⟨g, o + 1, cap - 1, cur, rfl, hB, hg, ?_, ?_, fun i u hu => ?_⟩, ?_, (Array.getElem?_eq_some_iff.1 hg).1⟩
    · simp only [List.length_cons] at h2; omega
    · simp only [List.length_cons] at h2; omega
    · rw [show o + 1 + i = o + (i + 1) by omega]
      exact h3 (i + 1) u (by simpa [iw] using hu)
    · rw [cell_of_row W g _ cur _ _ hg]
      exact h3 0 _ (by simp [iw])
end
/-- Grown behind. -/
theorem run_append_sr {B : Nat} {W : World} {v : Value} {l : List Int} {x : Int} (t ty : TypeId) (ht : Tryd.prog.underlying t = some (.slice 3)) (h : SR B W v l) (hB : B ≤ W.heap.size) (hl : l.length ≤ 10000000) (a : Addr) (c : Nat) (ha : W.cell? (a.add 0) = some (.int .i64 x)) :
    ∃ v' w', (Builtin.append_ #[t, t] ty #[v, .slice (some a) 1 c]).run Tryd.prog W = .ok v' w' ∧ SR B w' v' (l ++ [x]) ∧ W.grownBy w' v.ownBlock ∧ (v'.ownBlock = v.ownBlock ∨ ∃ g, v'.ownBlock = some g ∧ W.heap.size ≤ g) := by
  obtain ⟨i0, hi, hz, hs, hby⟩ := info_parts info_int
  have hnews : ∀ (j : Nat) (u : Value), [Value.int .i64 x][j]? = some u → W.cell? (a.add j) = some u := fun j u hj => by
    match j, hj with
    | 0, hj => simp at hj; subst hj; exact ha
  rcases h with ⟨rfl, rfl⟩ | ⟨g, o, cap, cur, rfl, hg1, hg, h1, h2, h3⟩
  · obtain ⟨v', w', hr, ho, hgr, -, hat⟩ := run_append_own_at (P := Tryd.prog) W B t ty 3 i0 _ 1 8 ht hi hz hs hby rfl (by decide) (.slice none 0 0) 0 [] (World.ownsRow_nil W B _ _) a 1 c [.int .i64 x] rfl hnews (by simp [Value.oneCell']) (by unfold maxLen; omega) (by omega) hB
    exact ⟨v', w', hr, .of_own rfl (by simpa [iw] using ho) (Nat.le_refl _), hgr, hat.imp id fun e => ⟨_, e, Nat.le_refl _⟩⟩
  · by_cases hroom : l.length + 1 ≤ cap
    · have hlen : ∀ j, j < [Value.int .i64 x].length → j = 0 := fun j hj => by simpa using hj
      have hin : o + l.length < cur.size := by omega
      have hr := run_append_room_cells (P := Tryd.prog) W t ty 3 i0 ht hi g o l.length cap a 1 c [.int .i64 x] (by rw [hs]; rfl) hnews (by simp [Value.oneCell']) hroom
        (fun j hj => by rw [hlen j hj, hs, Nat.mul_one, Nat.add_zero, cell_of_row W g _ cur _ _ hg, Array.getElem?_eq_getElem hin]; rfl)
        (fun j hj => frozen_of_row W g _ cur _ hg)
      rw [hs, Nat.mul_one] at hr
      have hset := heap_setCell_same W g (o + l.length) cur 3 (.int .i64 x) hg
      refine ⟨_, _, hr, .inr ⟨g, o, cap, cur.setIfInBounds (o + l.length) (.int .i64 x), by simp, hg1, ?_, by simpa using h1, by simpa using hroom, fun i u hu => ?_⟩, ?_, .inl rfl⟩
      · simpa [World.setCells] using hset
      · by_cases e : i = l.length
        · subst e
          have : u = .int .i64 x := by simpa [iw] using hu.symm
          rw [this, Array.getElem?_setIfInBounds, if_pos rfl, if_pos hin]
        · have hlt : i < l.length := by
            have := (List.getElem?_eq_some_iff.1 hu).1
            simp [iw] at this
            omega
          rw [Array.getElem?_setIfInBounds, if_neg (by omega)]
          refine h3 i u ?_
          unfold iw at hu ⊢
          rw [List.map_append, List.getElem?_append_left (by simpa using hlt)] at hu
          exact hu
      · refine ⟨rfl, rfl, rfl, by simp [World.setCells, World.setCell], fun k hk hne => ?_⟩
        show (W.setCell ⟨g, o + l.length, none⟩ (.int .i64 x)).heap[k]? = W.heap[k]?
        exact heap_setCell_other W ⟨g, o + l.length, none⟩ k _ fun e => hne (by rw [e]; rfl)
    · obtain ⟨v', w', hr, ho, hgr⟩ := run_append_arg_grows (P := Tryd.prog) W t ty 3 i0 _ 1 8 ht hi hz hs hby rfl (by decide) ⟨g, o, none⟩ l.length cap (iw l) (by simp [iw]) (fun j u hj => by
        have ea : (⟨g, o, none⟩ : Addr).add j = ⟨g, o + j, none⟩ := Addr.add_lit g o j
        rw [ea, cell_of_row W g _ cur _ _ hg]
        exact h3 j u hj) a 1 c [.int .i64 x] rfl hnews (by omega) (by unfold maxLen; omega) (by omega)
      have hSR : SR W.heap.size w' v' (l ++ [x]) := .of_own rfl (by simpa [iw] using ho) (Nat.le_refl _)
      have hS2 : SR B w' v' (l ++ [x]) := .of_own rfl (by simpa [iw] using ho) hB
      refine ⟨v', w', hr, hS2, ⟨hgr.os, hgr.tape, hgr.output, hgr.size, fun k hk _ => hgr.block k hk (by simp)⟩, .inr ?_⟩
      obtain ⟨p, cp, e⟩ := hSR.form
      rcases hSR with ⟨-, h0⟩ | ⟨g', o', cap', cur', e', hg', -⟩
      · simp at h0
      · exact ⟨g', by rw [e']; rfl, hg'⟩
end Go.Proofs.YtgdhgipofaaogaaDoor
