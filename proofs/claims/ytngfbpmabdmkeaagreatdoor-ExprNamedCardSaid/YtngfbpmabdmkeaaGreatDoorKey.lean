/- Which names mean something of their own: lex.keys, lex.Key, and the document's Key. -/
import Derived.Test.YtngfbpmabdmkeaaGreatDoorNumB
import Derived.Test.YtngfbpmabdmkeaaGreatDoorOps
import Derived.Test.YtngfbpmabdmkeaaGreatDoorMaps
import Derived.Test.YtngfbpmabdmkeaaGreatDoorSgn
import Derived.Maps.OwnSet
import Derived.StringKeys
import Derived.LoopTactic
namespace Go.Proofs.YtngfbpmabdmkeaaGreatDoor
open Go Go.RowKit Go.Maps Go.WideMaps

theorem keyedS : Keyed Tryz.prog 9 := string_keyed Tryz.underlying9
theorem zero_unit (w : World) : (zeroValue 74).run Tryz.prog w = .ok (.agg #[]) w := by kernel_rfl
def keyD : DataW Unit := setOf (.agg []) (keyL.map Lit.string)

set_option maxRecDepth 100000 in
theorem keys_any (w : World) : Calls Tryz.prog 140 #[] w fun e w' => e = .returned (.map (some w.heap.size)) ∧ w'.ownsMap Tryz.prog 9 unitElem w.heap.size 16 keyD ∧ Below w.heap.size w w' := by
  have hmm := @run_makeMap Tryz.prog
  have hM0 := World.ownsMap_made w Tryz.prog 9 (unitElem (H := Unit))
  have hB0 : Below w.heap.size w (w.alloc (.map #[] 0)) := (Below.refl _ _).alloc (Nat.le_refl _) _
  go_enter Tryz.func140, Tryz.ntmps140
  go_wp2_with (first
    | (refine wpList_insert_own _ rfl _ (.const (.string ⟨#[112, 117, 98, 108, 105, 99]⟩)) (.tmp 2) 69 rfl 9 74 keyedS Tryz.underlying69 unitElem w.heap.size 0 _ rfl hM0 (by decide) _ (.agg #[]) (.string [112, 117, 98, 108, 105, 99]) rfl rfl (keyOf_string_mk Tryz.underlying9 (by decide)) _ _ unitElem_mk ?_; intro w1 hM1 hg1; have hB1 := hB0.grown hg1 hB0.size (fun j hj => by cases hj; exact Nat.le_refl _); clear hM0 hg1 hB0)
    | (refine wpList_insert_own _ rfl _ (.const (.string ⟨#[115, 101, 99, 114, 101, 116]⟩)) (.tmp 3) 69 rfl 9 74 keyedS Tryz.underlying69 unitElem w.heap.size 1 _ rfl hM1 (by decide) _ (.agg #[]) (.string [115, 101, 99, 114, 101, 116]) rfl rfl (keyOf_string_mk Tryz.underlying9 (by decide)) _ _ unitElem_mk ?_; intro w2 hM2 hg2; have hB2 := hB1.grown hg2 hB1.size (fun j hj => by cases hj; exact Nat.le_refl _); clear hM1 hg2 hB1)
    | (refine wpList_insert_own _ rfl _ (.const (.string ⟨#[105, 110, 116]⟩)) (.tmp 4) 69 rfl 9 74 keyedS Tryz.underlying69 unitElem w.heap.size 2 _ rfl hM2 (by decide) _ (.agg #[]) (.string [105, 110, 116]) rfl rfl (keyOf_string_mk Tryz.underlying9 (by decide)) _ _ unitElem_mk ?_; intro w3 hM3 hg3; have hB3 := hB2.grown hg3 hB2.size (fun j hj => by cases hj; exact Nat.le_refl _); clear hM2 hg3 hB2)
    | (refine wpList_insert_own _ rfl _ (.const (.string ⟨#[98, 111, 111, 108]⟩)) (.tmp 5) 69 rfl 9 74 keyedS Tryz.underlying69 unitElem w.heap.size 3 _ rfl hM3 (by decide) _ (.agg #[]) (.string [98, 111, 111, 108]) rfl rfl (keyOf_string_mk Tryz.underlying9 (by decide)) _ _ unitElem_mk ?_; intro w4 hM4 hg4; have hB4 := hB3.grown hg4 hB3.size (fun j hj => by cases hj; exact Nat.le_refl _); clear hM3 hg4 hB3)
    | (refine wpList_insert_own _ rfl _ (.const (.string ⟨#[98, 121]⟩)) (.tmp 6) 69 rfl 9 74 keyedS Tryz.underlying69 unitElem w.heap.size 4 _ rfl hM4 (by decide) _ (.agg #[]) (.string [98, 121]) rfl rfl (keyOf_string_mk Tryz.underlying9 (by decide)) _ _ unitElem_mk ?_; intro w5 hM5 hg5; have hB5 := hB4.grown hg5 hB4.size (fun j hj => by cases hj; exact Nat.le_refl _); clear hM4 hg5 hB4)
    | (refine wpList_insert_own _ rfl _ (.const (.string ⟨#[108, 111, 99, 107]⟩)) (.tmp 7) 69 rfl 9 74 keyedS Tryz.underlying69 unitElem w.heap.size 5 _ rfl hM5 (by decide) _ (.agg #[]) (.string [108, 111, 99, 107]) rfl rfl (keyOf_string_mk Tryz.underlying9 (by decide)) _ _ unitElem_mk ?_; intro w6 hM6 hg6; have hB6 := hB5.grown hg6 hB5.size (fun j hj => by cases hj; exact Nat.le_refl _); clear hM5 hg6 hB5)
    | (refine wpList_insert_own _ rfl _ (.const (.string ⟨#[102, 117, 110, 99]⟩)) (.tmp 8) 69 rfl 9 74 keyedS Tryz.underlying69 unitElem w.heap.size 6 _ rfl hM6 (by decide) _ (.agg #[]) (.string [102, 117, 110, 99]) rfl rfl (keyOf_string_mk Tryz.underlying9 (by decide)) _ _ unitElem_mk ?_; intro w7 hM7 hg7; have hB7 := hB6.grown hg7 hB6.size (fun j hj => by cases hj; exact Nat.le_refl _); clear hM6 hg7 hB6)
    | (refine wpList_insert_own _ rfl _ (.const (.string ⟨#[114, 101, 116, 117, 114, 110]⟩)) (.tmp 9) 69 rfl 9 74 keyedS Tryz.underlying69 unitElem w.heap.size 7 _ rfl hM7 (by decide) _ (.agg #[]) (.string [114, 101, 116, 117, 114, 110]) rfl rfl (keyOf_string_mk Tryz.underlying9 (by decide)) _ _ unitElem_mk ?_; intro w8 hM8 hg8; have hB8 := hB7.grown hg8 hB7.size (fun j hj => by cases hj; exact Nat.le_refl _); clear hM7 hg8 hB7)
    | (refine wpList_insert_own _ rfl _ (.const (.string ⟨#[116, 104, 114, 101, 97, 100]⟩)) (.tmp 10) 69 rfl 9 74 keyedS Tryz.underlying69 unitElem w.heap.size 8 _ rfl hM8 (by decide) _ (.agg #[]) (.string [116, 104, 114, 101, 97, 100]) rfl rfl (keyOf_string_mk Tryz.underlying9 (by decide)) _ _ unitElem_mk ?_; intro w9 hM9 hg9; have hB9 := hB8.grown hg9 hB8.size (fun j hj => by cases hj; exact Nat.le_refl _); clear hM8 hg9 hB8)
    | (refine wpList_insert_own _ rfl _ (.const (.string ⟨#[118, 97, 114]⟩)) (.tmp 11) 69 rfl 9 74 keyedS Tryz.underlying69 unitElem w.heap.size 9 _ rfl hM9 (by decide) _ (.agg #[]) (.string [118, 97, 114]) rfl rfl (keyOf_string_mk Tryz.underlying9 (by decide)) _ _ unitElem_mk ?_; intro w10 hM10 hg10; have hB10 := hB9.grown hg10 hB9.size (fun j hj => by cases hj; exact Nat.le_refl _); clear hM9 hg10 hB9)
    | (refine wpList_insert_own _ rfl _ (.const (.string ⟨#[105, 102]⟩)) (.tmp 12) 69 rfl 9 74 keyedS Tryz.underlying69 unitElem w.heap.size 10 _ rfl hM10 (by decide) _ (.agg #[]) (.string [105, 102]) rfl rfl (keyOf_string_mk Tryz.underlying9 (by decide)) _ _ unitElem_mk ?_; intro w11 hM11 hg11; have hB11 := hB10.grown hg11 hB10.size (fun j hj => by cases hj; exact Nat.le_refl _); clear hM10 hg11 hB10)
    | (refine wpList_insert_own _ rfl _ (.const (.string ⟨#[101, 108, 115, 101]⟩)) (.tmp 13) 69 rfl 9 74 keyedS Tryz.underlying69 unitElem w.heap.size 11 _ rfl hM11 (by decide) _ (.agg #[]) (.string [101, 108, 115, 101]) rfl rfl (keyOf_string_mk Tryz.underlying9 (by decide)) _ _ unitElem_mk ?_; intro w12 hM12 hg12; have hB12 := hB11.grown hg12 hB11.size (fun j hj => by cases hj; exact Nat.le_refl _); clear hM11 hg12 hB11)
    | (refine wpList_insert_own _ rfl _ (.const (.string ⟨#[119, 104, 105, 108, 101]⟩)) (.tmp 14) 69 rfl 9 74 keyedS Tryz.underlying69 unitElem w.heap.size 12 _ rfl hM12 (by decide) _ (.agg #[]) (.string [119, 104, 105, 108, 101]) rfl rfl (keyOf_string_mk Tryz.underlying9 (by decide)) _ _ unitElem_mk ?_; intro w13 hM13 hg13; have hB13 := hB12.grown hg13 hB12.size (fun j hj => by cases hj; exact Nat.le_refl _); clear hM12 hg13 hB12)
    | (refine wpList_insert_own _ rfl _ (.const (.string ⟨#[111, 117, 116]⟩)) (.tmp 15) 69 rfl 9 74 keyedS Tryz.underlying69 unitElem w.heap.size 13 _ rfl hM13 (by decide) _ (.agg #[]) (.string [111, 117, 116]) rfl rfl (keyOf_string_mk Tryz.underlying9 (by decide)) _ _ unitElem_mk ?_; intro w14 hM14 hg14; have hB14 := hB13.grown hg14 hB13.size (fun j hj => by cases hj; exact Nat.le_refl _); clear hM13 hg14 hB13)
    | (refine wpList_insert_own _ rfl _ (.const (.string ⟨#[116, 114, 117, 101]⟩)) (.tmp 16) 69 rfl 9 74 keyedS Tryz.underlying69 unitElem w.heap.size 14 _ rfl hM14 (by decide) _ (.agg #[]) (.string [116, 114, 117, 101]) rfl rfl (keyOf_string_mk Tryz.underlying9 (by decide)) _ _ unitElem_mk ?_; intro w15 hM15 hg15; have hB15 := hB14.grown hg15 hB14.size (fun j hj => by cases hj; exact Nat.le_refl _); clear hM14 hg15 hB14)
    | (refine wpList_insert_own _ rfl _ (.const (.string ⟨#[102, 97, 108, 115, 101]⟩)) (.tmp 17) 69 rfl 9 74 keyedS Tryz.underlying69 unitElem w.heap.size 15 _ rfl hM15 (by decide) _ (.agg #[]) (.string [102, 97, 108, 115, 101]) rfl rfl (keyOf_string_mk Tryz.underlying9 (by decide)) _ _ unitElem_mk ?_; intro w16 hM16 hg16; have hB16 := hB15.grown hg16 hB15.size (fun j hj => by cases hj; exact Nat.le_refl _); clear hM15 hg16 hB15))
  go_ret
  exact ⟨rfl, hM16, hB16⟩

theorem has_key (l : List UInt8) : Maps.has keyD (.string l) = keyB l := by
  unfold keyD
  rw [has_setOf _ _ _ (by
    intro x hx
    obtain ⟨k, _, rfl⟩ := List.mem_map.1 hx
    trivial)]
  rw [List.any_map]
  rfl

set_option maxRecDepth 100000 in
theorem key_any (s : ByteArray) (w : World) (hs : s.size ≤ maxLen) : Calls Tryz.prog 121 #[.string s] w fun e w' => e = .returned (.bool (keyB s.data.toList)) ∧ Below w.heap.size w w' := by
  have HK := Lib.hid (has_key s.data.toList)
  go_enter Tryz.func121, Tryz.ntmps121
  go_wp2_with (first
    | (go_at_call 140; refine (keys_any _).mono ?_; rintro e' w1 ⟨rfl, hM1, hB1⟩)
    | (at_lookup; refine wpList_lookup_own_unit _ rfl _ _ 69 rfl 9 74 keyedS Tryz.underlying69 (zero_unit _) w.heap.size 16 keyD rfl hM1 _ _ rfl (keyOf_string_mk Tryz.underlying9 hs) ?_))
  go_ret
  exact ⟨ret_bool (by rw [HK.out]), hB1.alloc hB1.size _⟩

def keyP (k : Nat) : ByteArray := ⟨(keyL.getD k []).toArray⟩
def keysC : Array Value := #[.string ⟨#[112, 117, 98, 108, 105, 99]⟩, .string ⟨#[115, 101, 99, 114, 101, 116]⟩, .string ⟨#[105, 110, 116]⟩, .string ⟨#[98, 111, 111, 108]⟩, .string ⟨#[98, 121]⟩, .string ⟨#[108, 111, 99, 107]⟩, .string ⟨#[102, 117, 110, 99]⟩, .string ⟨#[114, 101, 116, 117, 114, 110]⟩, .string ⟨#[116, 104, 114, 101, 97, 100]⟩, .string ⟨#[118, 97, 114]⟩, .string ⟨#[105, 102]⟩, .string ⟨#[101, 108, 115, 101]⟩, .string ⟨#[119, 104, 105, 108, 101]⟩, .string ⟨#[111, 117, 116]⟩, .string ⟨#[116, 114, 117, 101]⟩, .string ⟨#[102, 97, 108, 115, 101]⟩]
theorem keys_at (k : Nat) (h : k < 16) : keysC[k]? = some (.string (keyP k)) := by
  match k, h with
  | 0, _ => rfl
  | 1, _ => rfl
  | 2, _ => rfl
  | 3, _ => rfl
  | 4, _ => rfl
  | 5, _ => rfl
  | 6, _ => rfl
  | 7, _ => rfl
  | 8, _ => rfl
  | 9, _ => rfl
  | 10, _ => rfl
  | 11, _ => rfl
  | 12, _ => rfl
  | 13, _ => rfl
  | 14, _ => rfl
  | 15, _ => rfl
  | k + 16, h => exact absurd h (by omega)
def NoKey (s : ByteArray) (k : Nat) : Prop := ∀ j, j < k → ((keyP j).toList == s.toList) = false
theorem NoKey.step {s : ByteArray} {k : Nat} (h : NoKey s k) (h2 : ((keyP k).toList == s.toList) = false) : NoKey s (k + 1) := by
  intro j hj
  by_cases e : j = k
  · subst e
    exact h2
  · exact h j (by omega)
theorem key_yes {s : ByteArray} {k : Nat} (hk : k < 16) (h : ((keyP k).toList == s.toList) = true) : keyB s.data.toList = true := by
  unfold keyB
  rw [List.any_eq_true]
  have hk2 : k < keyL.length := hk
  refine ⟨keyL[k], List.getElem_mem hk2, ?_⟩
  rw [ByteArray.toList_eq, ByteArray.toList_eq] at h
  have e : (keyP k).data.toList = keyL[k] := by
    show keyL.getD k [] = _
    rw [List.getD_eq_getElem?_getD, List.getElem?_eq_getElem hk2]
    rfl
  rw [e] at h
  exact h
theorem key_no {s : ByteArray} (h : NoKey s 16) : keyB s.data.toList = false := by
  unfold keyB
  rw [List.any_eq_false]
  intro x hx
  obtain ⟨k, hk, rfl⟩ := List.getElem_of_mem hx
  have h1 := h k hk
  rw [ByteArray.toList_eq, ByteArray.toList_eq] at h1
  have e : (keyP k).data.toList = keyL[k] := by
    show keyL.getD k [] = _
    rw [List.getD_eq_getElem?_getD, List.getElem?_eq_getElem hk]
    rfl
  rw [e] at h1
  simpa using h1

set_option maxRecDepth 100000 in
theorem rkey_any (s : ByteArray) (w : World) : Calls Tryz.prog 14 #[.string s] w fun e w' => e = .returned (.bool (keyB s.data.toList)) ∧ Below w.heap.size w w' := by
  go_enter Tryz.func14, Tryz.ntmps14
  go_wp2
  go_loopw [4] (fun i wr => ∃ k : Nat, i = .int .i64 k ∧ k ≤ 16 ∧ wr = (w.alloc (.cells keysC 9)) ∧ Hid (NoKey s k)) (fun i _ => 16 - (intOf i).toNat)
  case atStart => exact ⟨0, rfl, by omega, rfl, Lib.hid (fun j h => absurd h (by omega))⟩
  case round =>
    obtain ⟨k, rfl, hk, rfl, HU⟩ := hrel
    by_cases hlt : k < 16
    · obtain ⟨P, hP⟩ : ∃ P, P = keyP k := ⟨_, rfl⟩
      have hcell : (w.alloc (.cells keysC 9)).cell? ⟨w.heap.size, k, none⟩ = some (.string P) := by
        rw [hP, ← keys_at k hlt]
        exact cell_of_row _ _ k keysC 9 (0, 0) (heap_alloc_new w _)
      have HP := Lib.hid hP
      clear hP
      have hk2 : (k : Int) < 16 := by omega
      have hk0 : (0 : Int) ≤ k := by omega
      cases he : (P.toList == s.toList)
      · go_wp2
        go_roundw
        case rel => exact ⟨k + 1, by go_num, by omega, (by first | rfl | trivial), Lib.hid (HU.out.step (by rw [← HP.out]; exact he))⟩
        case measure => simp [intOf]; omega
      · have HR := Lib.hid (key_yes hlt (by rw [← HP.out]; exact he))
        go_wp2
        go_ret
        exact ⟨ret_bool (by rw [HR.out]), (Below.refl _ _).alloc (Nat.le_refl _) _⟩
    · obtain rfl : k = 16 := by omega
      have HR := Lib.hid (key_no HU.out)
      go_wp2
      go_ret
      exact ⟨ret_bool (by rw [HR.out]), (Below.refl _ _).alloc (Nat.le_refl _) _⟩
end Go.Proofs.YtngfbpmabdmkeaaGreatDoor
