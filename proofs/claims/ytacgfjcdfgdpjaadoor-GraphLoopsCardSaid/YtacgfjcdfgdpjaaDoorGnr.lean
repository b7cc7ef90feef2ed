/- Rows of numbers in memory that the call made itself. -/
import Derived.Test.YtacgfjcdfgdpjaaDoorGib
import Derived.Test.YtacgfjcdfgdpjaaDoorIcm
import Derived.Test.YtacgfjcdfgdpjaaDoorShelf
import Derived.Lib.RowBridge
import Derived.Deep.Draws
import Derived.OwnWalk
import Derived.Deep.AppendLies
namespace Go.Proofs.YtacgfjcdfgdpjaaDoor
set_option linter.unusedSimpArgs false
set_option linter.unusedVariables false
open Go Go.RowKit Go.Sort Go.Lib

/-- A row of numbers that the call made itself. -/
def Rw (B : Nat) (w : World) (v : Value) (l : List Int) : Prop := w.ownsRow B 3 1 v l.length (l.map (Value.int .i64))

theorem Rw.nil (B : Nat) (w : World) : Rw B w (.slice none 0 0) [] := World.ownsRow_nil w B _ _
theorem Rw.stay {B : Nat} {W W' : World} {v : Value} {l : List Int} (h : Rw B W v l) (hb : Below W.heap.size W W') : Rw B W' v l := by
  refine ⟨h.1, ?_⟩
  rcases h.2 with h0 | ⟨g, cap, cur, hv, hB, hg, rest⟩
  · exact .inl h0
  · exact .inr ⟨g, cap, cur, hv, hB, (hb.block g (Array.getElem?_eq_some_iff.1 hg).1).trans hg, rest⟩
theorem Rw.grown {B : Nat} {W W' : World} {v : Value} {l : List Int} {row : Option Nat} (h : Rw B W v l) (hg : W.grownBy W' row) (hne : v.ownBlock = none ∨ v.ownBlock ≠ row) : Rw B W' v l := World.ownsRow.kept h hg hne
theorem Rw.mono {B B' : Nat} {W : World} {v : Value} {l : List Int} (h : Rw B W v l) (hb : B' ≤ B) : Rw B' W v l := by
  refine ⟨h.1, ?_⟩
  rcases h.2 with h0 | ⟨g, cap, cur, hv, hB, hg, rest⟩
  · exact .inl h0
  · exact .inr ⟨g, cap, cur, hv, Nat.le_trans hb hB, hg, rest⟩
/-- What it is, cell by cell. -/
theorem Rw.open {B : Nat} {W : World} {v : Value} {l : List Int} (h : Rw B W v l) : (v = .slice none 0 0 ∧ l = []) ∨ ∃ g cap, v = .slice (some ⟨g, 0, none⟩) l.length cap ∧ B ≤ g ∧ g < W.heap.size ∧ l.length ≤ cap ∧ ∀ j x, l[j]? = some x → W.cell? ⟨g, j, none⟩ = some (.int .i64 x) := by
  rcases h.2 with ⟨h0, hl⟩ | ⟨g, cap, cur, hv, hB, hg, hc, _, _, ht⟩
  · exact .inl ⟨h0, List.eq_nil_of_length_eq_zero hl⟩
  · refine .inr ⟨g, cap, hv, hB, (Array.getElem?_eq_some_iff.1 hg).1, hc, fun j x hx => ?_⟩
    rw [cell_of_row W g j cur _ _ hg]
    have hj : j < l.length := (List.getElem?_eq_some_iff.1 hx).1
    have h1 := congrArg (·[j]?) ht
    simp only [List.getElem?_take, List.getElem?_map, hx] at h1
    rw [if_pos (by omega)] at h1
    simpa using h1

theorem heap_setCells_same (b : Nat) (T : TypeId) : ∀ (vs : List Value) (o : Nat) (w : World) (cs : Array Value), w.heap[b]? = some (.cells cs T (0, 0)) →
    ∃ cs', (w.setCells b o vs).heap[b]? = some (.cells cs' T (0, 0)) ∧ cs'.size = cs.size ∧ ∀ j, j < cs.size → cs'[j]? = if o ≤ j ∧ j < o + vs.length then vs[j - o]? else cs[j]?
  | [], o, w, cs, h => ⟨cs, h, rfl, fun j hj => by rw [if_neg (fun hh => by have h2 := hh.2; simp only [List.length_nil] at h2; omega)]⟩
  | v :: r, o, w, cs, h => by
    obtain ⟨cs', h1, h2, h3⟩ := heap_setCells_same b T r (o + 1) (w.setCell ⟨b, o, none⟩ v) (cs.setIfInBounds o v) (heap_setCell_same w b o cs T v h)
    refine ⟨cs', h1, by simpa using h2, fun j hj => ?_⟩
    rw [h3 j (by simpa using hj)]
    by_cases e : j = o
    · subst e
      rw [if_neg (by omega), if_pos (by simp)]
      simp [Array.getElem?_setIfInBounds, hj]
    · by_cases e2 : o + 1 ≤ j ∧ j < o + 1 + r.length
      · rw [if_pos e2, if_pos (by simp; omega)]
        have e3 : j - o = (j - (o + 1)) + 1 := by omega
        rw [e3, List.getElem?_cons_succ]
      · rw [if_neg e2, if_neg (by simp; omega)]
        rw [Array.getElem?_setIfInBounds_ne (fun h => e h.symm)]
theorem grown_setCells (b : Nat) : ∀ (vs : List Value) (o : Nat) (w : World), w.grownBy (w.setCells b o vs) (some b)
  | [], _, w => Fr.refl (some b) w
  | v :: r, o, w => Fr.trans (Fr.set (Fr.refl (some b) w) (.inl rfl) o v) (grown_setCells b r (o + 1) (w.setCell ⟨b, o, none⟩ v))

theorem row_with {cur' : Array Value} {L : List Value} {n i : Nat} {x : Value} (hL : L.length = n) (hi : i ≤ n) (hs : n + 1 ≤ cur'.size)
    (hc : ∀ j, j < n + 1 → cur'[j]? = if j < i then L[j]? else if j = i then some x else L[j - 1]?) : cur'.toList.take (n + 1) = L.take i ++ x :: L.drop i := by
  apply List.ext_getElem?
  intro j
  rw [List.getElem?_take]
  by_cases hj : j < n + 1
  · rw [if_pos hj]
    have := hc j hj
    rw [← Array.getElem?_toList] at this
    rw [this]
    have hlt : (L.take i).length = i := by rw [List.length_take]; omega
    by_cases h1 : j < i
    · rw [if_pos h1, List.getElem?_append_left (by omega), List.getElem?_take, if_pos h1]
    · rw [if_neg h1, List.getElem?_append_right (by omega), hlt]
      by_cases h2 : j = i
      · rw [if_pos h2, h2]
        simp
      · rw [if_neg h2]
        have e : j - i = (j - i - 1) + 1 := by omega
        rw [e, List.getElem?_cons_succ, List.getElem?_drop]
        congr 1
        omega
  · rw [if_neg hj, List.getElem?_eq_none]
    rw [List.length_append, List.length_cons, List.length_take, List.length_drop]
    omega

theorem search_own {B : Nat} {w : World} {v : Value} {l : List Int} (x : Int) (h : Rw B w v l) (hs : Up l) (hl : l.length ≤ 1000000) :
    Calls Tryd.prog 75 #[v, .int .i64 x] w fun e w' => e = .returned (.tuple #[.int .i64 ((l.countP (· < x) : Nat) : Int), .bool (l.contains x)]) ∧ ∃ q, w' = w.drewN q := by
  rcases h.open with ⟨rfl, rfl⟩ | ⟨g, cap, rfl, _, _, _, hc⟩
  · refine (Tryd.slices_BinarySearch_int_empty none 0 x w).mono ?_
    rintro e w' ⟨rfl, rfl⟩
    exact ⟨rfl, 0, rfl⟩
  · have := Tryd.slices_BinarySearch_int g 0 l.length cap l x w (Nat.le_refl _) (by omega) (fun j hj => by
      rw [Nat.zero_add, hc j l[j] (List.getElem?_eq_getElem hj)]
      simp [List.getD, hj]) (by rw [List.take_length]; exact up_le hs)
    rw [List.take_length] at this
    exact this

theorem shape_of {w : World} {b : Nat} {cs : Array Value} {T : TypeId} (h : w.heap[b]? = some (.cells cs T (0, 0))) : w.shape? b = some (T, cs.size) := by
  simp [World.shape?, h]

theorem addr_off (g i j : Nat) : (⟨g, i, none⟩ : Addr).add j = ⟨g, i + j, none⟩ := by
  unfold Addr.add
  split <;> simp_all
theorem size_grown (L : List Value) (n K : Nat) (h : L.length = n) (hge : n ≤ K) : (L.toArray ++ Builtin.zeroCells (Value.int .i64 0).cells (K - n)).size = K * 1 := by
  rw [Array.size_append, size_zeroCells]
  have : (Value.int .i64 0).cells.size = 1 := rfl
  rw [this, List.size_toArray, h]
  omega
/-- What an insertion leaves. -/
def InsP (B : Nat) (w : World) (v : Value) (l : List Int) (e : Ending) (w' : World) : Prop := ∃ v', e = .returned v' ∧ Rw B w' v' l ∧ w.grownBy w' v.ownBlock
theorem insert_own {B : Nat} {w : World} {v : Value} {l : List Int} (i : Nat) (x : Int) (vb : Nat) (h : Rw B w v l) (hi : i ≤ l.length) (hl : l.length ≤ 1000000) (hx : w.heap[vb]? = some (.cells #[.int .i64 x] 3 (0, 0))) (hne : v.ownBlock ≠ some vb) (hB : B ≤ w.heap.size) :
    Calls Tryd.prog 76 #[v, .int .i64 (i : Int), .slice (some ⟨vb, 0, none⟩) 1 1] w (InsP B w v (l.take i ++ x :: l.drop i)) := by
  have hlen : (l.take i ++ x :: l.drop i).length = l.length + 1 := by
    rw [List.length_append, List.length_cons, List.length_take, List.length_drop]
    omega
  have hmap : (l.take i ++ x :: l.drop i).map (Value.int .i64) = (l.map (Value.int .i64)).take i ++ Value.int .i64 x :: (l.map (Value.int .i64)).drop i := by simp [List.map_take, List.map_drop]
  have hxc : ∀ (j : Nat) (u : Value), [Value.int .i64 x][j]? = some u → w.cell? ⟨vb, 0 + j, none⟩ = some u := by
    intro j u hu
    rw [Nat.zero_add, cell_of_row w vb j _ _ _ hx]
    simpa using hu
  have h1v : ∀ u ∈ [Value.int .i64 x], u.oneCell' = true := fun u hu => by simp at hu; subst hu; rfl
  have h1c : ∀ u ∈ l.map (Value.int .i64), u.oneCell' = true := fun u hu => by
    obtain ⟨y, _, rfl⟩ := List.mem_map.1 hu
    rfl
  have hcl : (l.map (Value.int .i64)).length = l.length := List.length_map _
  rcases h.2 with ⟨rfl, h0⟩ | ⟨g, cap, cur, rfl, hBg, hg, hnc, hcm, hcs, ht⟩
  · obtain rfl := List.eq_nil_of_length_eq_zero h0
    obtain rfl : i = 0 := by simpa using hi
    refine (Tryd.slices_Insert_int_end_grow none 0 0 vb 0 1 1 [] [.int .i64 x] w (by omega) (by omega) (by omega) (by omega) rfl rfl (fun _ => rfl) (fun a ha => by cases ha) hxc h1v).mono ?_
    rintro e w' ⟨rfl, rfl⟩
    have hge := grownCap_ge w (0 + 1) 0 3
    have hcm := grownCap_le_maxLen w (0 + 1) 0 3 (by decide)
    refine ⟨_, rfl, ⟨rfl, .inr ⟨w.heap.size, _, _, rfl, hB, heap_alloc_new w.drew _, hge, hcm, ?_, ?_⟩⟩, ⟨rfl, rfl, rfl, by simp, fun k hk _ => Below.heap_alloc w.drew _ k hk⟩⟩
    · exact size_grown _ _ _ rfl hge
    · simp
  · rw [Nat.mul_one] at ht hcs
    have hcc : ∀ (j : Nat) (u : Value), (l.map (Value.int .i64))[j]? = some u → w.cell? ⟨g, 0 + j, none⟩ = some u := by
      intro j u hu
      rw [Nat.zero_add, cell_of_row w g j _ _ _ hg]
      rw [← ht, List.getElem?_take] at hu
      split at hu
      · simpa using hu
      · cases hu
    have hsp : ∀ j, j < cap → (w.cell? ⟨g, 0 + j, none⟩).isSome = true := fun j hj => by
      rw [Nat.zero_add, cell_of_row w g j _ _ _ hg, Array.getElem?_eq_getElem (by omega)]
      rfl
    have hfz : ∀ j, w.frozen? ⟨g, j, none⟩ = false := fun j => frozen_of_row w g j _ _ hg
    have hcur : ∀ j, j < l.length → cur[j]? = (l.map (Value.int .i64))[j]? := fun j hj => by
      rw [← ht, List.getElem?_take, if_pos hj, Array.getElem?_toList]
    by_cases hroom : l.length + 1 ≤ cap
    · by_cases hlt : i < l.length
      · refine (Tryd.slices_Insert_int_shift g 0 l.length cap i vb 0 1 1 (l.map (Value.int .i64)) [.int .i64 x] w hlt (by omega) hroom (by unfold maxLen at hcm; omega) (fun e => hne (by rw [e]; rfl)) hcl rfl hcc (fun j hj => hsp j (by omega)) (fun j _ => by rw [Nat.zero_add]; exact hfz j) hxc h1c h1v _ _ _ _ (shape_of hx) (shape_of hg) (by omega) (frozen_of_row w vb _ _ _ hx) (frozen_of_row w vb _ _ _ hx)).mono ?_
        rintro e w' ⟨rfl, rfl⟩
        obtain ⟨c1, g1, s1, k1⟩ := heap_setCells_same g 3 ((l.map (Value.int .i64)).drop i) (0 + (i + 1)) w.drew cur hg
        obtain ⟨c2, g2, s2, k2⟩ := heap_setCells_same g 3 [.int .i64 x] (0 + i) _ c1 g1
        refine ⟨_, rfl, ⟨by simp, .inr ⟨g, cap, c2, by rw [hlen], hBg, g2, by omega, hcm, by omega, ?_⟩⟩, ?_⟩
        · rw [hlen, Nat.mul_one, hmap]
          refine row_with hcl (by omega) (by omega) (fun j hj => ?_)
          rw [k2 j (by omega)]
          by_cases e1 : j = i
          · subst e1
            rw [if_pos (by simp), if_neg (by omega), if_pos rfl]
            simp
          · rw [if_neg (by simp; omega), k1 j (by omega)]
            by_cases e2 : j < i
            · rw [if_neg (by omega), if_pos e2]
              exact hcur j (by omega)
            · rw [if_pos (by rw [List.length_drop, hcl]; omega), if_neg e2, if_neg e1, List.getElem?_drop]
              congr 1
              omega
        · exact Fr.trans (Fr.trans (Fr.drew (Fr.refl (some g) w)) (grown_setCells g _ _ _)) (grown_setCells g _ _ _)
      · obtain rfl : i = l.length := by omega
        refine (Tryd.slices_Insert_int_end_room g 0 l.length cap vb 0 1 1 [.int .i64 x] w (by omega) hroom (by unfold maxLen at hcm; omega) rfl (fun j hj => by rw [Nat.add_assoc]; exact hsp (l.length + j) (by omega)) (fun j _ => by rw [Nat.add_assoc, Nat.zero_add]; exact hfz _) hxc h1v).mono ?_
        rintro e w' ⟨rfl, rfl⟩
        obtain ⟨c2, g2, s2, k2⟩ := heap_setCells_same g 3 [.int .i64 x] (0 + l.length) _ cur hg
        refine ⟨_, rfl, ⟨by simp, .inr ⟨g, cap, c2, by rw [hlen], hBg, g2, by omega, hcm, by omega, ?_⟩⟩, grown_setCells g _ _ _⟩
        rw [hlen, Nat.mul_one, hmap]
        refine row_with hcl (by omega) (by omega) (fun j hj => ?_)
        rw [k2 j (by omega)]
        by_cases e1 : j = l.length
        · subst e1
          rw [if_pos (by simp), if_neg (by omega), if_pos rfl]
          simp
        · rw [if_neg (by simp; omega), if_pos (by omega)]
          exact hcur j (by omega)
    · by_cases hlt : i < l.length
      · refine (Tryd.slices_Insert_int_grow g 0 l.length cap i vb 0 1 1 (l.map (Value.int .i64)) [.int .i64 x] w hlt (by omega) hnc (by omega) (by omega) hcl rfl hcc hxc h1c h1v).mono ?_
        rintro e w' ⟨rfl, rfl⟩
        have hge := grownCap_ge w (l.length + 1) cap 3
        have hcm := grownCap_le_maxLen w (l.length + 1) cap 3 (by unfold maxLen; omega)
        obtain ⟨K, hK⟩ : ∃ K, grownCap w (l.length + 1) cap 3 = K := ⟨_, rfl⟩
        rw [hK] at hge hcm ⊢
        obtain ⟨c0, hc0⟩ : ∃ c0, (((l.map (Value.int .i64)).take i).toArray ++ Builtin.zeroCells (Value.int .i64 0).cells (l.length + 1 - i) ++ Builtin.zeroCells (Value.int .i64 0).cells (K - (l.length + 1))) = c0 := ⟨_, rfl⟩
        have hsz : c0.size = K := by
          rw [← hc0]
          simp only [Array.size_append, List.size_toArray, size_zeroCells, List.length_take, hcl]
          simp [Value.cells]
          omega
        have hc0a : ∀ j, j < i → c0[j]? = (l.map (Value.int .i64))[j]? := by
          intro j hj
          rw [← hc0, Array.append_assoc, Array.getElem?_append_left (by simp; omega)]
          simp [hj]
        rw [hc0]
        have g0 : (w.alloc (.cells c0 3)).heap[w.heap.size]? = some (.cells c0 3 (0, 0)) := heap_alloc_new w _
        obtain ⟨c1, g1, s1, k1⟩ := heap_setCells_same w.heap.size 3 [.int .i64 x] i (w.alloc (.cells c0 3)).drew c0 g0
        obtain ⟨c2, g2, s2, k2⟩ := heap_setCells_same w.heap.size 3 ((l.map (Value.int .i64)).drop i) (i + 1) (((w.alloc (.cells c0 3)).drew.setCells w.heap.size i [.int .i64 x]).drew) c1 g1
        refine ⟨_, rfl, ⟨by simp, .inr ⟨w.heap.size, K, c2, by rw [hlen], hB, g2, by omega, hcm, by omega, ?_⟩⟩, ?_⟩
        · rw [hlen, Nat.mul_one, hmap]
          refine row_with hcl (by omega) (by omega) (fun j hj => ?_)
          rw [k2 j (by omega)]
          by_cases e2 : j < i
          · rw [if_neg (by omega), k1 j (by omega), if_neg (by simp; omega), if_pos e2]
            exact hc0a j e2
          · by_cases e1 : j = i
            · subst e1
              rw [if_neg (by omega), k1 j (by omega), if_pos (by simp), if_neg (by omega), if_pos rfl]
              simp
            · rw [if_pos (by rw [List.length_drop, hcl]; omega), if_neg e2, if_neg e1, List.getElem?_drop]
              congr 1
              omega
        · have k0 : w.grownBy (w.alloc (.cells c0 3)) none := World.grownBy_alloc w _ none
          have k3 : Fr (some w.heap.size) (w.alloc (.cells c0 3)) ((((w.alloc (.cells c0 3)).drew.setCells w.heap.size i [.int .i64 x]).drew).setCells w.heap.size (i + 1) ((l.map (Value.int .i64)).drop i)) :=
            Fr.trans (Fr.drew (Fr.trans (Fr.drew (Fr.refl _ _)) (grown_setCells _ _ _ _))) (grown_setCells _ _ _ _)
          have k4 := Fr.fresh k0 k3 (Nat.le_refl _)
          exact ⟨World.grownBy.os k4, World.grownBy.tape k4, World.grownBy.output k4, World.grownBy.size k4, fun k hk _ => World.grownBy.block k4 k hk (by simp)⟩
      · obtain rfl : i = l.length := by omega
        refine (Tryd.slices_Insert_int_end_grow (some ⟨g, 0, none⟩) l.length cap vb 0 1 1 (l.map (Value.int .i64)) [.int .i64 x] w (by omega) hnc (by omega) (by omega) hcl rfl (fun hn => by cases hn) (fun a ha j u hu => by cases ha; rw [addr_off]; exact hcc j u hu) hxc h1v).mono ?_
        rintro e w' ⟨rfl, rfl⟩
        have hge := grownCap_ge w (l.length + 1) cap 3
        have hcm := grownCap_le_maxLen w (l.length + 1) cap 3 (by unfold maxLen; omega)
        refine ⟨_, rfl, ⟨by simp, .inr ⟨w.heap.size, _, _, by rw [hlen], hB, heap_alloc_new w.drew _, by omega, hcm, ?_, ?_⟩⟩, ⟨rfl, rfl, rfl, by simp, fun k hk _ => Below.heap_alloc w.drew _ k hk⟩⟩
        · exact size_grown _ _ _ (by simp) hge
        · rw [hlen, Nat.mul_one, hmap]
          simp [List.take_append, List.take_of_length_le]
end Go.Proofs.YtacgfjcdfgdpjaaDoor
