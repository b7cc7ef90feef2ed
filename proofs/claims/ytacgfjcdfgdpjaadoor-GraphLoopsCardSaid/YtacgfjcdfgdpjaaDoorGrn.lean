/- The document's own next ones: palingref14.Next. -/
import Derived.Test.YtacgfjcdfgdpjaaDoorGnn
import Derived.Test.YtacgfjcdfgdpjaaDoorGrf
namespace Go.Proofs.YtacgfjcdfgdpjaaDoor
set_option linter.unusedSimpArgs false
set_option linter.unusedVariables false
open Go Go.RowKit Gm

theorem inn_take {n j : Nat} {l : List Int} {z : Int} (h : l[j]? = some z) : inn n (l.take (j + 1)) = inn n (l.take j) ++ (if outB n z then [] else [z]) := by
  unfold inn
  rw [List.take_add_one, h, List.filter_append]
  cases hz : outB n z <;> simp [hz]
set_option maxRecDepth 100000 in
set_option maxHeartbeats 4000000 in
theorem refnext_any {W : World} {p : Option Addr} {cap : Nat} {c : List Ic} (hc : Hid (CodeAt W p c)) (hn : c.length ≤ 1000000) {i : Nat} {x : Ic} (hx : Hid (c[i]? = some x)) :
    Calls Tryd.prog 27 #[.slice p c.length cap, .int .i64 i] W (RowP W (inn c.length (nextM x i))) := by
  have hi : i < c.length := (List.getElem?_eq_some_iff.1 hx.out).1
  obtain ⟨g, o7, rfl, hg, hat7, hok⟩ := hc.out i x hx.out
  have k0 := hat7.k
  have k1 := hat7.o
  have k2 := hat7.d
  have k3 := hat7.a
  have k4 := hat7.b
  have k5 := hat7.n
  have k6 := hat7.t
  clear hat7 hok
  obtain ⟨i0, hi0, hz0, hz1, hz2⟩ := info_parts info_int
  go_enter Tryd.func27, Tryd.ntmps27
  go_wp2_with (go_at_call 40; ((with_reducible refine (rnext_any x i _ (by omega) (by omega)).mono ?_); rintro e6 w6 ⟨v6, rfl, hr6, hb6⟩; have HR6 := Lib.hid hr6; have HB6 := Lib.hid hb6; clear hr6 hb6))
  have hlen := nextM_len x i
  obtain ⟨l, hl⟩ : ∃ l, nextM x i = l := ⟨_, rfl⟩
  rw [hl] at HR6 hlen
  have HL := Lib.hid hl
  clear hl k0 k1 k2 k3 k4 k5 k6
  obtain ⟨q, cq, e6, -⟩ := HR6.out.gv.open
  have HE6 := Lib.hid e6
  rw [e6]
  clear e6
  go_loopw [6, 7] (fun a b wr => ∃ (j : Nat), b = .int .i64 j ∧ j ≤ l.length ∧ Hid (Below w6.heap.size w6 wr ∧ Rw w6.heap.size wr a (inn c.length (l.take j)))) (fun _ b _ => l.length - (intOf b).toNat)
  case atStart => exact ⟨0, rfl, Nat.zero_le _, Lib.hid ⟨Below.refl _ _, Rw.nil _ _⟩⟩
  case round =>
    obtain ⟨wo, rfl⟩ : ∃ wo : World, wo = wr := ⟨_, rfl⟩
    obtain ⟨j, rfl, hj, HY⟩ := hrel
    obtain ⟨qo, co, eo, -⟩ := HY.out.2.gv.open
    subst eo
    by_cases hlt : j < l.length
    · obtain ⟨z, hz⟩ : ∃ z, l[j]? = some z := ⟨_, List.getElem?_eq_getElem hlt⟩
      have h6 := (HR6.out.stay HY.out.1).gv.open
      rw [HE6.out] at h6
      obtain ⟨q', c', e', h6⟩ := h6
      cases e'
      obtain ⟨g6, rfl, -, -, -, -, -, hcell⟩ := h6.resolve_left (fun e => by omega)
      have iz := hcell j hlt
      simp only [iv, List.getD_eq_getElem?_getD, hz, Option.getD_some] at iz
      clear hcell h6
      have hin := inn_take (n := c.length) hz
      have hlo : (inn c.length (l.take j)).length ≤ 2 := by
        unfold inn
        exact Nat.le_trans (List.length_filter_le _ _) (by rw [List.length_take]; omega)
      obtain ⟨L, hL⟩ : ∃ L, inn c.length (l.take j) = L := ⟨_, rfl⟩
      rw [hL] at hin hlo HY ⊢
      by_cases h0 : 0 ≤ z
      · by_cases h1 : z < c.length
        · have hno : outB c.length z = false := by simp [outB, h0, h1]
          rw [hno] at hin
          have HIN := Lib.hid hin
          have HV := Lib.hid HY.out.2
          have hsz := HY.out.1.size
          clear hin hz hL hno
          go_wp2_with (at_builtin; refine wpList_append_own_at _ rfl _ _ 34 rfl w6.heap.size 3 i0 (.int .i64 0) 1 8 Tryd.underlying34 hi0 hz0 hz1 hz2 rfl (by decide) (.slice qo L.length co) L.length (L.map (Value.int .i64)) rfl (World.ownsRow.alloc HV.out _) ⟨wo.heap.size, 0, none⟩ 1 1 [.int .i64 z] rfl rfl (cell_one_new _ _ _) (fun u hu => by simp at hu; subst hu; rfl) (by unfold maxLen; omega) (by omega) (by simp; omega) ?_; intro v8 w8 hown hgrow _ hats; have HG8 := Lib.hid hown; have HW8 := Lib.hid hgrow; clear hown hgrow hats)
          go_roundw
          case rel => exact ⟨j + 1, by go_num, by omega, Lib.hid ⟨(HY.out.1.alloc hsz _).grown HW8.out (by simp; omega) (fun e h => (World.ownsRow.lt HV.out e h).1), by
            rw [HIN.out]
            have := HG8.out
            unfold Rw
            simpa using this⟩⟩
          case measure => (simp [intOf]; try omega)
        · have hno : outB c.length z = true := by simp [outB]; omega
          rw [hno] at hin
          have HIN := Lib.hid hin
          clear hin hz hL hno
          go_wp2
          go_roundw
          case rel => exact ⟨j + 1, by go_num, by omega, Lib.hid ⟨HY.out.1, by rw [HIN.out]; simpa using HY.out.2⟩⟩
          case measure => (simp [intOf]; try omega)
      · have hno : outB c.length z = true := by simp [outB]; omega
        rw [hno] at hin
        have HIN := Lib.hid hin
        clear hin hz hL hno
        go_wp2
        go_roundw
        case rel => exact ⟨j + 1, by go_num, by omega, Lib.hid ⟨HY.out.1, by rw [HIN.out]; simpa using HY.out.2⟩⟩
        case measure => (simp [intOf]; try omega)
    · obtain rfl : j = l.length := by omega
      go_wp2
      go_ret
      refine ⟨_, rfl, ?_, HB6.out.trans (HY.out.1.mono HB6.out.size)⟩
      rw [HL.out]
      have := HY.out.2
      rw [List.take_length] at this
      simpa [List.take_length] using this.mono HB6.out.size
end Go.Proofs.YtacgfjcdfgdpjaaDoor
