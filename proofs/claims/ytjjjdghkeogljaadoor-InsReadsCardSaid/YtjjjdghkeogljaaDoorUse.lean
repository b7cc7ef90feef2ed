/- The registers that an instruction reads, and where it may go: ins.Uses, ins.Def, ins.Next. -/
import Derived.Test.YtjjjdghkeogljaaDoorGat
import Derived.Test.YtjjjdghkeogljaaDoorRight
import Derived.Deep.QuietTactic
import Derived.BigQuiet
namespace Go.Proofs.YtjjjdghkeogljaaDoor
set_option linter.unusedSimpArgs false
set_option linter.unusedVariables false
open Go Go.RowKit Go.Sort Go.Lib

theorem neg_gives (x : Int) (W : World) : FnGives Tryd.prog 24 #[] #[.int .i64 x] (.bool (decide (x < 0))) W := by
  show Calls Tryd.prog 24 #[.int .i64 x] W _
  go_enter Tryd.func24, Tryd.ntmps24
  go_wp2
  go_ret
  exact ⟨rfl, 0, rfl⟩
/-- What a cut leaves: those that are not below 0. -/
def pos (l : List Int) : List Int := l.filter fun x => !decide (x < 0)
theorem delete_own {B : Nat} {w : World} {v : Value} {l : List Int} (h : Rw B w v l) (hn : l ≠ []) (hl : l.length ≤ 1000000) :
    Calls Tryd.prog 22 #[v, .func (.func 24) #[] #[]] w (InsP B w v (pos l)) := by
  rcases h.2 with ⟨rfl, h0⟩ | ⟨g, cap, cur, rfl, hBg, hg, hnc, hcm, hcs, ht⟩
  · exact absurd (List.eq_nil_of_length_eq_zero h0) hn
  · rw [Nat.mul_one] at ht hcs
    have hH : Holds (Value.int .i64) w g 0 l.toArray := fun j hj => by
      have hj' : j < l.length := by simpa using hj
      refine ⟨?_, frozen_of_row w g _ _ _ hg⟩
      rw [Nat.zero_add, cell_of_row w g j _ _ _ hg]
      have h1 := congrArg (·[j]?) ht
      simp only [List.getElem?_take, List.getElem?_map] at h1
      rw [if_pos hj', List.getElem?_eq_getElem hj'] at h1
      simp only [Option.map_some] at h1
      rw [← Array.getElem?_toList, h1]
      simp [hj']
    have eg : ∀ args w, (callFunc 24 args).run Tryd.prog w = .ok (.enter 24 args) w := enters_of Tryd.func24 (by kernel_rfl) rfl
    have hcon := Tryd.slices_DeleteFunc (Value.int .i64) (fun _ => rfl) (fun x => decide (x < 0)) 24 #[] eg 0 Tryd.zeroValue3 g 0 cap l.toArray w (fun W x _ => neg_gives x W) (fun n os dk x _ => neg_gives x _) hH (by simp; omega) (by simpa using hnc)
    have e1 : l.toArray.size = l.length := by simp
    simp only [e1] at hcon
    rw [show (List.filter (fun x => !decide (x < 0)) l) = pos l from rfl] at hcon
    have hlen : (pos l).length ≤ l.length := List.length_filter_le _ _
    have hys : (pos l ++ List.replicate (l.length - (pos l).length) 0).length = l.toArray.size := by
      rw [List.length_append, List.length_replicate, e1]
      omega
    refine hcon.mono ?_
    rintro e w' ⟨rfl, q, rfl⟩
    have hb := putRow_eq_setCells (Value.int .i64) w g 0 l.toArray (pos l ++ List.replicate (l.length - (pos l).length) 0) q hH hys
    obtain ⟨c2, g2, s2, k2⟩ := heap_setCells_same g 3 ((pos l ++ List.replicate (l.length - (pos l).length) 0).map (Value.int .i64)) 0 (w.drewN q) cur hg
    refine ⟨_, rfl, ?_, ?_⟩
    · rw [hb]
      refine ⟨by simp, .inr ⟨g, cap, c2, rfl, hBg, g2, by omega, hcm, by omega, ?_⟩⟩
      rw [Nat.mul_one]
      apply List.ext_getElem?
      intro j
      rw [List.getElem?_take]
      by_cases hj : j < (pos l).length
      · rw [if_pos hj, Array.getElem?_toList, k2 j (by omega), if_pos ⟨by omega, by rw [List.length_map, hys, e1]; omega⟩, Nat.sub_zero, List.map_append, List.getElem?_append_left (by simpa using hj)]
      · rw [if_neg hj, List.getElem?_eq_none (by simpa using hj)]
    · rw [hb]
      exact Fr.trans (Fr.drewN (Fr.refl (some g) w) q) (grown_setCells g _ _ _)

/-- What is in A, and in B, of the parts ahead of one. -/
def aTo (x : Ic) (kk j : Nat) : Int := if (List.range j).any (fun i => prt kk i == 2 || prt kk i == 3) then x.a else -1
def bTo (x : Ic) (kk j : Nat) : Int := if (List.range j).any (fun i => prt kk i == 4) then x.b else -1
theorem aTo_yes {x : Ic} {kk j : Nat} (h : (prt kk j == 2 || prt kk j == 3) = true) : aTo x kk (j + 1) = x.a := by
  unfold aTo
  rw [List.range_succ, List.any_append, if_pos (by simp [h])]
theorem aTo_no {x : Ic} {kk j : Nat} (h : (prt kk j == 2 || prt kk j == 3) = false) : aTo x kk (j + 1) = aTo x kk j := by
  unfold aTo
  rw [List.range_succ, List.any_append]
  simp [h]
theorem bTo_yes {x : Ic} {kk j : Nat} (h : (prt kk j == 4) = true) : bTo x kk (j + 1) = x.b := by
  unfold bTo
  rw [List.range_succ, List.any_append, if_pos (by simp [h])]
theorem bTo_no {x : Ic} {kk j : Nat} (h : (prt kk j == 4) = false) : bTo x kk (j + 1) = bTo x kk j := by
  unfold bTo
  rw [List.range_succ, List.any_append]
  simp [h]
/-- The registers that are read, rising. -/
def usesM (x : Ic) : List Int := if 0 ≤ x.k ∧ x.k ≤ 13 then pos (srt [if kps x.k.toNat then x.d else -1, aTo x x.k.toNat 4, bTo x x.k.toNat 4]) else []

theorem rowp_nil {w w' : World} (h : Below w.heap.size w w') : RowP w [] (.returned (.slice none 0 0)) w' := ⟨_, rfl, Rw.nil _ _, h⟩

set_option maxRecDepth 100000 in
theorem uses_un (x : Ic) (w : World) (h : x.k < 0 ∨ 13 < x.k) : Calls Tryd.prog 9 #[.agg #[.int .i64 x.k, .int .i64 x.o, .int .i64 x.d, .int .i64 x.a, .int .i64 x.b, .int .i64 x.n, .int .i64 x.t]] w (RowP w []) := by
  have H := Lib.hid h
  clear h
  go_enter Tryd.func9, Tryd.ntmps9
  go_wp2_with (go_at_call 21; (with_reducible refine (kn_f _ _ H.out).mono ?_); rintro e w' ⟨rfl, rfl⟩)
  go_ret
  exact rowp_nil (below1 _ _)

set_option maxRecDepth 100000 in
set_option maxHeartbeats 1000000 in
theorem uses_kn (x : Ic) (w : World) (hk0 : 0 ≤ x.k) (hk1 : x.k ≤ 13) (T : Hid (Kinds w)) (kb : Bool) (hkb : kps x.k.toNat = kb) (d : Int) (hd : Hid ((if kb then x.d else -1) = d)) : Calls Tryd.prog 9 #[.agg #[.int .i64 x.k, .int .i64 x.o, .int .i64 x.d, .int .i64 x.a, .int .i64 x.b, .int .i64 x.n, .int .i64 x.t]] w (RowP w (pos (srt [d, aTo x x.k.toNat 4, bTo x x.k.toNat 4]))) := by
  have hk : x.k.toNat < 14 := by omega
  have c0 := T.out.part x.k.toNat 0 hk (by omega)
  have c1 := T.out.part x.k.toNat 1 hk (by omega)
  have c2 := T.out.part x.k.toNat 2 hk (by omega)
  have c3 := T.out.part x.k.toNat 3 hk (by omega)
  have ck := T.out.keep x.k.toNat hk
  rw [hkb] at ck
  have hsz := T.out.size
  clear hkb
  go_enter Tryd.func9, Tryd.ntmps9
  go_wp2_with (go_at_call 21; (with_reducible refine (kn_t _ _ (by omega) (by omega)).mono ?_); rintro e w' ⟨rfl, rfl⟩)
  clear c0 c1 c2 c3
  go_loop [4, 5, 7, 17] (fun a b _ i => ∃ (j : Nat) (a0 b0 : Int), i = .int .i64 j ∧ a = .int .i64 a0 ∧ b = .int .i64 b0 ∧ j ≤ 4 ∧ Hid (aTo x x.k.toNat j = a0 ∧ bTo x x.k.toNat j = b0)) (fun _ _ _ i => 4 - (intOf i).toNat)
  case atStart => exact ⟨0, -1, -1, rfl, rfl, rfl, by omega, Lib.hid ⟨rfl, rfl⟩⟩
  case round =>
    obtain ⟨j, a0, b0, rfl, rfl, rfl, hj, HE⟩ := hrel
    by_cases hlt : j < 4
    · clear hsz ck
      have hi := idx4 (prt x.k.toNat) j hlt
      obtain ⟨p, hp⟩ : ∃ p, prt x.k.toNat j = p := ⟨_, rfl⟩
      rw [hp] at hi
      have HP := Lib.hid hp
      clear hp
      by_cases h2 : p = 2
      · have HA : Hid (aTo x x.k.toNat (j + 1) = x.a ∧ bTo x x.k.toNat (j + 1) = b0) := Lib.hid ⟨aTo_yes (by rw [HP.out, h2]; rfl), by rw [bTo_no (by rw [HP.out, h2]; rfl)]; exact HE.out.2⟩
        clear HP HE
        subst h2
        go_wp2
        go_round
        case rel => exact ⟨j + 1, x.a, b0, by go_num, rfl, rfl, by omega, HA⟩
        case measure => simp [intOf]; omega
      · by_cases h3 : p = 3
        · have HA : Hid (aTo x x.k.toNat (j + 1) = x.a ∧ bTo x x.k.toNat (j + 1) = b0) := Lib.hid ⟨aTo_yes (by rw [HP.out, h3]; rfl), by rw [bTo_no (by rw [HP.out, h3]; rfl)]; exact HE.out.2⟩
          clear HP HE h2
          subst h3
          go_wp2
          go_round
          case rel => exact ⟨j + 1, x.a, b0, by go_num, rfl, rfl, by omega, HA⟩
          case measure => simp [intOf]; omega
        · by_cases h4 : p = 4
          · have HA : Hid (aTo x x.k.toNat (j + 1) = a0 ∧ bTo x x.k.toNat (j + 1) = x.b) := Lib.hid ⟨by rw [aTo_no (by rw [HP.out, h4]; rfl)]; exact HE.out.1, bTo_yes (by rw [HP.out, h4]; rfl)⟩
            clear HP HE h2 h3
            subst h4
            go_wp2
            go_round
            case rel => exact ⟨j + 1, a0, x.b, by go_num, rfl, rfl, by omega, HA⟩
            case measure => simp [intOf]; omega
          · have HA : Hid (aTo x x.k.toNat (j + 1) = a0 ∧ bTo x x.k.toNat (j + 1) = b0) := Lib.hid ⟨by rw [aTo_no (by rw [HP.out]; simp [h2, h3])]; exact HE.out.1, by rw [bTo_no (by rw [HP.out]; simp [h4])]; exact HE.out.2⟩
            have q2 : (p == 2) = false := by simpa using h2
            have q3 : (p == 3) = false := by simpa using h3
            have q4 : (p == 4) = false := by simpa using h4
            clear HP HE h2 h3 h4
            go_wp2
            go_round
            case rel => exact ⟨j + 1, a0, b0, by go_num, rfl, rfl, by omega, HA⟩
            case measure => simp [intOf]; omega
    · obtain rfl : j = 4 := by omega
      have HZ : Hid (srt [d, a0, b0] ≠ [] ∧ (srt [d, a0, b0]).length ≤ 1000000) := Lib.hid ⟨(fun e => by
        have := (mem_srt (l := [d, a0, b0]) (x := d)).2 (List.mem_cons_self ..)
        rw [e] at this
        cases this), Nat.le_trans (srt_len _) (by simp)⟩
      cases kb
      all_goals
        have hd2 := hd.out
        simp at hd2
        subst hd2
        go_wp2_with (first
          | (go_at_call 23; refine (gather_any [_, a0, b0] _ _ _ (Ga.new _ [_, a0, b0] _ (by simp) _ _ rfl) (by simp)).mono ?_; rintro e1 w1 ⟨v1, rfl, hr1, hb1⟩; have HR1 := Lib.hid hr1; have HB1 := Lib.hid hb1; clear hr1 hb1)
          | (go_at_call 22; refine (delete_own HR1.out HZ.out.1 HZ.out.2).mono ?_; rintro e2 w2 ⟨v2, rfl, hr2, hg2⟩; have HR2 := Lib.hid hr2; have HG2 := Lib.hid hg2; clear hr2 hg2))
        go_ret
        have hb := HB1.out.size
        simp at hb
        rw [HE.out.1, HE.out.2]
        refine ⟨v2, rfl, Rw.mono HR2.out (by simp; omega), ?_⟩
        have hq := below_ch (below2 w _ _) HB1.out
        refine hq.grown HG2.out ?_ (fun j hj => ?_)
        · omega
        · have := (World.ownsRow.lt HR1.out j hj).1
          simp at this
          omega

/-- ins.Uses, of any instruction. -/
theorem uses_any (x : Ic) (w : World) (T : Kinds w) : Calls Tryd.prog 9 #[.agg #[.int .i64 x.k, .int .i64 x.o, .int .i64 x.d, .int .i64 x.a, .int .i64 x.b, .int .i64 x.n, .int .i64 x.t]] w (RowP w (usesM x)) := by
  by_cases h : 0 ≤ x.k ∧ x.k ≤ 13
  · have e : usesM x = pos (srt [if kps x.k.toNat then x.d else -1, aTo x x.k.toNat 4, bTo x x.k.toNat 4]) := if_pos h
    rw [e]
    exact uses_kn x w h.1 h.2 (Lib.hid T) _ rfl _ (Lib.hid rfl)
  · have e : usesM x = [] := if_neg h
    rw [e]
    exact uses_un x w (by omega)
end Go.Proofs.YtjjjdghkeogljaaDoor
