/- A loop's places, rising: graph's Loops' function. -/
import Derived.Test.YtacgfjcdfgdpjaaDoorGdo
import Derived.Sort.Grow
import Derived.IntWalk
import Derived.StillTailTactics
import Derived.BigQuiet
import Derived.Deep.QuietTactic
namespace Go.Proofs.YtacgfjcdfgdpjaaDoor
set_option linter.unusedSimpArgs false
set_option linter.unusedVariables false
open Go Go.RowKit Gm

/-- Rows of numbers sorted. -/
theorem sort_gv {X : World} {B g cap : Nat} {zs : List Nat} (hg : Hid (GV 3 B X (.slice (some ⟨g, 0, none⟩) zs.length cap) zs.length (lv zs))) (hl : zs.length ≤ 1000000) :
    Calls Tryd.prog 34 #[.slice (some ⟨g, 0, none⟩) zs.length cap] X fun e w' => e = .returned (.tuple #[]) ∧ ∃ ns : List Nat, ns.Perm zs ∧ ns.Pairwise (fun a b => a ≤ b) ∧ RV w' (some ⟨g, 0, none⟩) zs.length (lv ns) ∧ Ch (fun b => b = g) X w' := by
  obtain ⟨p, cq, e, h⟩ := hg.out.open
  cases e
  rcases h with ⟨h, _⟩ | ⟨g', h, _, hlt, hB, hc, hfz, hcell⟩
  · cases h
  cases h
  have hH : Go.Sort.Holds (Value.int .i64) X g 0 (zs.map Int.ofNat).toArray := fun j hj => by
    have hj' : j < zs.length := by simpa using hj
    refine ⟨?_, by rw [Nat.zero_add]; exact hfz j⟩
    rw [Nat.zero_add, hcell j hj']
    simp [lv, hj']
  have hlen : (zs.map Int.ofNat).length = zs.length := by simp
  have hs := Tryd.slices_Sort_int g 0 cap (zs.map Int.ofNat) X hH hlt (by rw [hlen]; omega)
  rw [hlen] at hs
  refine hs.mono ?_
  rintro e w' ⟨rfl, n, os, rfl⟩
  obtain ⟨S, hS⟩ : ∃ S, ((zs.map Int.ofNat).mergeSort fun x y => decide (x ≤ y)) = S := ⟨_, rfl⟩
  have hperm : S.Perm (zs.map Int.ofNat) := hS ▸ List.mergeSort_perm _ _
  have hsort : S.Pairwise fun x y => decide (x ≤ y) = true := hS ▸ List.pairwise_mergeSort (fun a b c h1 h2 => by simp at h1 h2 ⊢; omega) (fun a b => by simp; omega) _
  rw [hS]
  have hmem : ∀ x, x ∈ S → 0 ≤ x := fun x hx => by
    obtain ⟨k, _, rfl⟩ := List.mem_map.1 (hperm.mem_iff.1 hx)
    exact Int.natCast_nonneg k
  have hSl : S.length = zs.length := by rw [hperm.length_eq, hlen]
  refine ⟨rfl, S.map Int.toNat, ?_, ?_, ?_, ?_⟩
  · have := hperm.map Int.toNat
    rw [List.map_map] at this
    simpa [Function.comp_def] using this
  · refine List.pairwise_map.2 (hsort.imp_of_mem fun {a b} ha hb h => ?_)
    have := hmem a ha
    have := hmem b hb
    simp at h
    omega
  · intro i hi
    have hput : (Go.Sort.putRow (Value.int .i64) (Go.Sort.ahead X n) g 0 S.toArray).heap.size = X.heap.size := by simp [Go.Sort.ahead]
    refine ⟨g, 0, rfl, by rw [Go.Sort.size_grow, hput]; omega, ?_⟩
    rw [Go.Sort.cell?_grow _ _ _ (by rw [hput]; exact hlt)]
    have hiS : i < S.length := by omega
    rw [Go.Sort.cell?_putRow (Value.int .i64) (Go.Sort.ahead X n) g 0 (zs.map Int.ofNat).toArray S.toArray hH (by simp [hSl]) i (by simpa using hiS)]
    have h1 : (0 : Int) ≤ S[i] := hmem _ (List.getElem_mem hiS)
    simp [lv, hiS]
    omega
  · refine ⟨rfl, rfl, rfl, by rw [Go.Sort.size_grow]; simp [Go.Sort.ahead], fun k hk hn => ?_⟩
    rw [Go.Sort.heap_grow_old _ _ (by simp [Go.Sort.ahead]; exact hk)]
    show (X.heap.modify g _)[k]? = X.heap[k]?
    rw [Array.getElem?_modify, if_neg (fun e => hn e.symm)]
/-- A rising row of numbers. -/
def RL (T : Nat → Nat → Prop) (i B : Nat) (X : World) (v : Value) : Prop := ∃ (p : Option Addr) (cap : Nat) (zs : List Nat), v = .slice p zs.length cap ∧ RV X p zs.length (lv zs) ∧ (∀ a, p = some a → B ≤ a.block) ∧ zs.Pairwise (fun a b => a < b) ∧ ∀ t, t ∈ zs ↔ T i t
theorem keeps_rl (T : Nat → Nat → Prop) : Keeps (RL T) := fun _ _ _ _ _ h hc => by
  obtain ⟨p, cap, zs, e, h1, h2, h3⟩ := h
  exact ⟨p, cap, zs, e, h1.ch hc fun a ha e2 => by have := h2 a ha; omega, h2, h3⟩
/-- What stands under h, as it stands in the row. -/
theorem seg_is {m : Nat} {ar : Nat → Option Nat} {f s P pl : Nat → Nat} (R : Row m ar f s) (hP : ∀ v, v < m → P (f v) = pl v) {h : Nat} (hh : h < m) (t : Nat) : t ∈ (List.range (s h)).map (fun k => P (f h + k)) ↔ ∃ v, v < m ∧ Und ar h v ∧ pl v = t := by
  constructor
  · intro hm
    obtain ⟨k, hk, rfl⟩ := List.mem_map.1 hm
    have hk := List.mem_range.1 hk
    obtain ⟨v, h1, h2, h3⟩ := R.at _ h rfl hh (f h + k) (by omega) (by omega)
    exact ⟨v, h1, h2, by rw [← h3, hP v h1]⟩
  · rintro ⟨v, h1, h2, rfl⟩
    have h3 := R.und h2 h1
    have h4 := R.pos h1
    refine List.mem_map.2 ⟨f v - f h, List.mem_range.2 (by omega), ?_⟩
    rw [show f h + (f v - f h) = f v by omega, hP v h1]
theorem seg_nodup {m : Nat} {ar : Nat → Option Nat} {f s P pl : Nat → Nat} (R : Row m ar f s) (hP : ∀ v, v < m → P (f v) = pl v) (hi : ∀ u v, u < m → v < m → pl u = pl v → u = v) {h : Nat} (hh : h < m) : ((List.range (s h)).map (fun k => P (f h + k))).Nodup := by
  refine List.pairwise_map.2 (List.nodup_range.imp_of_mem fun {a b} ha hb hn => ?_)
  have ha := List.mem_range.1 ha
  have hb := List.mem_range.1 hb
  intro e
  obtain ⟨u, u1, u2, u3⟩ := R.at _ h rfl hh (f h + a) (by omega) (by omega)
  obtain ⟨v, v1, v2, v3⟩ := R.at _ h rfl hh (f h + b) (by omega) (by omega)
  rw [← u3, ← v3, hP u u1, hP v v1] at e
  have := hi u v u1 v1 e
  subst this
  omega
set_option maxRecDepth 100000 in
set_option maxHeartbeats 4000000 in
theorem loop1_any {W : World} {p1 p2 p3 bt bz bp cq i m : Nat} {q : Option Addr} {f s P pl : Nat → Nat} {ar : Nat → Option Nat} {l : List Nat}
    (hP : Hid (W.cell? ⟨p1, 0, none⟩ = some (.slice (some ⟨bt, 0, none⟩) m m) ∧ W.cell? ⟨p1, 1, none⟩ = some (.slice (some ⟨bz, 0, none⟩) m m) ∧ W.cell? ⟨p2, 0, none⟩ = some (.slice q l.length cq) ∧ W.cell? ⟨p3, 0, none⟩ = some (.slice (some ⟨bp, 0, none⟩) m m)))
    (hf : Hid (FV 3 W bt m (iv fun i => f i))) (hs : Hid (FV 3 W bz m (iv fun i => s i))) (hp : Hid (FV 3 W bp m (iv fun i => P i))) (hl : Hid (RV W q l.length (lv l))) (hR : Hid (Row m ar f s)) (hlm : Hid (∀ h, h ∈ l → h < m)) (hpl : Hid (∀ v, v < m → P (f v) = pl v)) (hinj : Hid (∀ u v, u < m → v < m → pl u = pl v → u = v)) (hm : m ≤ 1000000) (hll : l.length ≤ 1000000) (hi : i < l.length) :
    Calls Tryd.prog 33 #[.int .i64 i, .pointer (some ⟨p1, 0, none⟩), .pointer (some ⟨p2, 0, none⟩), .pointer (some ⟨p3, 0, none⟩)] W (RowQ (RL fun i t => ∃ v, v < m ∧ Und ar (l.getD i 0) v ∧ pl v = t) i W) := by
  obtain ⟨e1, e1b, e2, e3⟩ := hP.out
  obtain ⟨g, o, rfl, -, il⟩ := hl.out i hi
  obtain ⟨h, hh⟩ : ∃ h, l.getD i 0 = h := ⟨_, rfl⟩
  have hhm : h < m := hlm.out h (by rw [← hh, List.getD_eq_getElem?_getD, List.getElem?_eq_getElem hi]; exact List.getElem_mem hi)
  have ilv : lv l i = .int .i64 (h : Int) := by rw [← hh]; rfl
  rw [ilv] at il
  have HH := Lib.hid hh
  clear ilv hh
  have if0 := hf.out.cell hhm
  have is0 := hs.out.cell hhm
  simp only [iv] at if0 is0
  have hend := hR.out.in_all h hhm
  have hpos := hR.out.pos hhm
  have HSeg : Hid (∀ t, t ∈ (List.range (s h)).map (fun k => P (f h + k)) ↔ ∃ v, v < m ∧ Und ar h v ∧ pl v = t) := Lib.hid (seg_is hR.out hpl.out hhm)
  have HNd : Hid (((List.range (s h)).map (fun k => P (f h + k))).Nodup) := Lib.hid (seg_nodup hR.out hpl.out hinj.out hhm)
  have HRv : Hid (RV W (some ⟨bp, f h, none⟩) (s h) (lv ((List.range (s h)).map (fun k => P (f h + k))))) := Lib.hid fun k hk => by
    refine ⟨bp, f h, rfl, hp.out.lt, ?_⟩
    rw [hp.out.cell (by omega)]
    simp [lv, iv, hk]
  obtain ⟨zs, hzs⟩ : ∃ zs, (List.range (s h)).map (fun k => P (f h + k)) = zs := ⟨_, rfl⟩
  have hzl : zs.length = s h := by rw [← hzs]; simp
  rw [hzs] at HSeg HNd HRv
  clear hzs
  obtain ⟨F, hF⟩ : ∃ F, f h = F := ⟨_, rfl⟩
  obtain ⟨Z, hZ⟩ : ∃ Z, s h = Z := ⟨_, rfl⟩
  rw [hF] at if0 hend HRv
  rw [hZ] at is0 hend hpos HRv hzl
  clear hF hZ
  have w1 : IntKind.i64.wrap ((F : Int) + (Z : Int)) = (F : Int) + (Z : Int) := IntWalk.i64_in _ (by omega)
  go_enter Tryd.func33, Tryd.ntmps33
  go_upto_region 1 with (fail)
  go_quiet (fail)
  go_upto_region 2 with (fail)
  refine name_world ?_
  intro W1 hW1
  have hb1 : Below W.heap.size W W1 := by rw [hW1]; exact below_drewN (Below.refl _ W) _
  have hc1 : ∀ a, W1.cell? a = W.cell? a := fun a => by rw [hW1]; rfl
  rw [← hc1] at e1 e1b e2 e3 il if0 is0
  have HRv1 : Hid (RV W1.drew (some ⟨bp, F, none⟩) Z (lv zs)) := Lib.hid (HRv.out.stay (below_drew hb1))
  have HB1 := Lib.hid hb1
  have hone : Hid (∀ j, j < Z → (lv zs j).oneCell' = true) := Lib.hid fun _ _ => rfl
  clear hW1 hb1 hc1
  have s1 : 0 ≤ (F : Int) + (Z : Int) := by omega
  have s1' : (F : Int) + (Z : Int) ≤ (m : Int) := by omega
  have s2 : F ≤ ((F : Int) + (Z : Int)).toNat := by omega
  have s3 : ((F : Int) + (Z : Int)).toNat - F = Z := by omega
  have s4 : ¬ m = F := by omega
  go_still_tail 13, (by kernel_rfl)
  obtain ⟨W2, hW2⟩ : ∃ W2, W1.drew = W2 := ⟨_, rfl⟩
  change wpList _ _ _ _ _ W1.drew
  rw [hW2] at HRv1 ⊢
  have HB2 : Hid (Below W.heap.size W W2) := Lib.hid (hW2 ▸ below_drew HB1.out)
  clear hW2
  have hzl' : Z ≤ 10000000 := by omega
  subst hzl
  go_upto_region 3 with (go_at_call 26; ((with_reducible refine (own_any HRv1 hone.out hzl').mono ?_); rintro e5 w5 ⟨v5, rfl, hg5, hb5⟩; obtain ⟨q5, c5, rfl, hq5⟩ := hg5.open; have H5 := Lib.hid (And.intro hg5 hb5); have HQ5 := Lib.hid hq5; clear hg5 hb5 hq5))
  obtain ⟨g5, rfl⟩ : ∃ g5, q5 = some ⟨g5, 0, none⟩ := by
    rcases HQ5.out with ⟨_, h0⟩ | ⟨g5, h0, _⟩
    · omega
    · exact ⟨g5, h0⟩
  have HSo := Lib.hid (sort_gv (Lib.hid H5.out.1) (by omega))
  go_wp2_with (go_at_call 34; ((with_reducible refine HSo.out.mono ?_); rintro e6 w6 ⟨rfl, ns, h1, h2, h3, h4⟩; have H6 := Lib.hid (And.intro h1 (And.intro h2 (And.intro h3 h4))); clear h1 h2 h3 h4))
  go_ret
  obtain ⟨h1, h2, h3, h4⟩ := H6.out
  have hl5 := h1.length_eq
  have hB5 : W2.heap.size ≤ g5 := (H5.out.1.lt g5 rfl).1
  refine ⟨some ⟨g5, 0, none⟩, zs.length, c5, rfl, ⟨some ⟨g5, 0, none⟩, c5, ns, by rw [hl5], by rw [hl5]; exact h3, ?_, ?_, fun t => ?_⟩, ?_⟩
  · intro a e; cases e
    have := HB2.out.size
    show W.heap.size ≤ g5
    omega
  · have hnd := h1.nodup_iff.2 HNd.out
    exact (h2.and hnd).imp fun ⟨a, b⟩ => by omega
  · rw [h1.mem_iff, HSeg.out t]
    show _ ↔ ∃ v, v < m ∧ Und ar (l.getD i 0) v ∧ pl v = t
    rw [HH.out]
  · exact HB2.out.trans ((H5.out.2.mono HB2.out.size).trans (h4.below (Nat.le_trans HB2.out.size H5.out.2.size) fun b hb e => by have := HB2.out.size; omega))
end Go.Proofs.YtacgfjcdfgdpjaaDoor
