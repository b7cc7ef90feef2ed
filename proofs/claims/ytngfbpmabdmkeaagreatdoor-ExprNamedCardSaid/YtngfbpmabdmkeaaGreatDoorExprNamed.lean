/- ExprNamed comes out true for every text: no condition but what the card itself says of the listed variables. -/
import Derived.Test.YtngfbpmabdmkeaaGreatDoorPD
import Derived.Test.YtngfbpmabdmkeaaGreatDoorRwo
import Derived.Test.YtngfbpmabdmkeaaGreatDoorRnumB
import Derived.Test.YtngfbpmabdmkeaaGreatDoorLaid
import Derived.Test.YtngfbpmabdmkeaaGreatDoorTie
import Derived.Test.YtngfbpmabdmkeaaGreatDoorCards
import Derived.SevenTiedAt
import Derived.Carry
import Derived.Test.YtngfbpmabdmkeaaGreatDoorPC
import Derived.Test.YtngfbpmabdmkeaaGreatDoorPA
import Derived.Test.YtngfbpmabdmkeaaGreatDoorTot

namespace Go.Proofs.YtngfbpmabdmkeaaGreatDoor
open Go

theorem foldl_pre : ∀ (m acc : List (List UInt8)), acc <+: m.foldl addN acc
  | [], acc => List.prefix_refl _
  | t :: m, acc => by
    rw [List.foldl_cons]
    refine List.IsPrefix.trans ?_ (foldl_pre m _)
    unfold addN
    split
    · exact List.prefix_refl _
    · exact List.prefix_append _ _
theorem ddp_pre (l m : List (List UInt8)) : ddp l <+: ddp (l ++ m) := by
  unfold ddp
  rw [List.foldl_append]
  exact foldl_pre m _
theorem ddp_snoc (l : List (List UInt8)) (t : List UInt8) : ddp (l ++ [t]) = addN (ddp l) t := by
  unfold ddp
  rw [List.foldl_append]
  rfl
theorem nmW_append (a b : List Wd) : nmW (a ++ b) = nmW a ++ nmW b := by simp [nmW]
/-- How many names there are among the first i words. -/
def cntN (ws : List Wd) (i : Nat) : Nat := (ddp (nmW (ws.take i))).length
theorem take_pre (ws : List Wd) (i : Nat) : (ddp (nmW ws)).take (cntN ws i) = ddp (nmW (ws.take i)) := by
  have h : ddp (nmW (ws.take i)) <+: ddp (nmW ws) := by
    have e : nmW ws = nmW (ws.take i) ++ nmW (ws.drop i) := by rw [← nmW_append, List.take_append_drop]
    rw [e]
    exact ddp_pre _ _
  exact (List.prefix_iff_eq_take.1 h).symm
theorem cntN_le (ws : List Wd) (i : Nat) : cntN ws i ≤ (ddp (nmW ws)).length := by
  have := congrArg List.length (take_pre ws i)
  rw [List.length_take] at this
  unfold cntN at *
  omega
theorem nmW_len (ts : List Wd) : (nmW ts).length ≤ ts.length := by
  unfold nmW
  rw [List.length_map]
  exact List.length_filter_le _ _
theorem cntN_few (ws : List Wd) (i : Nat) : cntN ws i ≤ ws.length := by
  have h1 := addN_len (nmW (ws.take i)) []
  have h2 := nmW_len (ws.take i)
  have h3 : (ws.take i).length ≤ ws.length := by rw [List.length_take]; omega
  unfold cntN ddp
  simp at h1
  omega
theorem cntN_zero (ws : List Wd) : cntN ws 0 = 0 := by simp [cntN, nmW, ddp]
theorem cntN_all (ws : List Wd) : cntN ws ws.length = (ddp (nmW ws)).length := by simp [cntN]
theorem take_one {ws : List Wd} {i : Nat} {w : Wd} (h : ws[i]? = some w) : ws.take (i + 1) = ws.take i ++ [w] := by
  rw [List.take_add_one, h]
  rfl
theorem cntN_not {ws : List Wd} {i : Nat} {w : Wd} (h : ws[i]? = some w) (hn : w.k ≠ 0 ∨ keyB w.t = true) : cntN ws (i + 1) = cntN ws i := by
  unfold cntN
  rw [take_one h, nmW_append]
  have : nmW [w] = [] := by
    rcases hn with hn | hn
    · rw [nmW_not hn]; rfl
    · rw [nmW_key hn]; rfl
  rw [this, List.append_nil]
/-- Whether a name isn't among the first k names. -/
def fresh (N : List (List UInt8)) (t : List UInt8) (k : Nat) : Bool := decide (t ∉ N.take k)
theorem fresh_zero (N : List (List UInt8)) (t : List UInt8) : fresh N t 0 = true := by simp [fresh]
theorem fresh_next {N : List (List UInt8)} {t u : List UInt8} {k : Nat} (h : N[k]? = some u) : fresh N t (k + 1) = (fresh N t k && decide (u ≠ t)) := by
  unfold fresh
  rw [List.take_add_one, h]
  by_cases h1 : t ∈ N.take k
  · simp [h1]
  · by_cases h2 : u = t
    · simp [h2]
    · have h3 : ¬ t = u := fun e => h2 e.symm
      simp [h1, h2, h3]
theorem cntN_old {ws : List Wd} {i : Nat} {w : Wd} (h : ws[i]? = some w) (h0 : w.k = 0) (hk : keyB w.t = false) (hf : fresh (ddp (nmW ws)) w.t (cntN ws i) = false) : cntN ws (i + 1) = cntN ws i := by
  unfold fresh at hf
  rw [take_pre] at hf
  have hm : w.t ∈ ddp (nmW (ws.take i)) := by simpa using hf
  have e : nmW [w] = [w.t] := by rw [nmW_name h0 hk]; rfl
  unfold cntN
  rw [take_one h, nmW_append, e, ddp_snoc, addN, if_pos hm]
theorem cntN_new {ws : List Wd} {i : Nat} {w : Wd} (h : ws[i]? = some w) (h0 : w.k = 0) (hk : keyB w.t = false) (hf : fresh (ddp (nmW ws)) w.t (cntN ws i) = true) : cntN ws (i + 1) = cntN ws i + 1 ∧ (ddp (nmW ws))[cntN ws i]? = some w.t := by
  unfold fresh at hf
  rw [take_pre] at hf
  have hm : w.t ∉ ddp (nmW (ws.take i)) := by simpa using hf
  have e : nmW [w] = [w.t] := by rw [nmW_name h0 hk]; rfl
  have e2 : ddp (nmW (ws.take (i + 1))) = ddp (nmW (ws.take i)) ++ [w.t] := by rw [take_one h, nmW_append, e, ddp_snoc, addN, if_neg hm]
  have e3 : cntN ws (i + 1) = cntN ws i + 1 := by
    unfold cntN
    rw [e2]
    simp
  refine ⟨e3, ?_⟩
  have e4 := take_pre ws (i + 1)
  rw [e2, e3] at e4
  have e5 := congrArg (fun l => l[cntN ws i]?) e4
  simp only [List.getElem?_take, Nat.lt_succ_self, if_true] at e5
  rw [e5]
  have : cntN ws i = (ddp (nmW (ws.take i))).length := rfl
  rw [this]
  simp
/-- What is parsed of all words has their names. -/
theorem OfR.names {l : List UInt8} {x : Ex} (h : OfR l (.ok x)) : ∃ ws, Sc numO l 0 ws none ∧ x.nms = nmW ws := by
  cases h with
  | @ok ws ts d e hS hP hd =>
    refine ⟨ws, hS, ?_⟩
    have h1 : nmW ws = x.nms ++ nmW (d :: ts) := hP.nm (Int.le_refl _)
    obtain ⟨ws0, e, rfl, he, h0⟩ := hS.ends rfl
    obtain ⟨rfl, rfl⟩ := end_alone h0 hP.suf hd
    rw [h1, nmW_not (by rw [hd]; decide)]
    simp [nmW]
theorem OfR.words {l : List UInt8} {c : Int} {a : Nat} (h : OfR l (.bad c a)) : (∃ ws, Sc numO l 0 ws none) ∨ ∃ ws c' a', Sc numO l 0 ws (some (c', a')) := by
  cases h with
  | lex h => exact .inr ⟨_, _, _, h⟩
  | bad h _ => exact .inl ⟨_, h⟩
  | stray h _ _ => exact .inl ⟨_, h⟩
end Go.Proofs.YtngfbpmabdmkeaaGreatDoor
namespace Go.Proofs.YtngfbpmabdmkeaaGreatDoor
namespace ExprNamed
open Go Go.ChangeShapes Go.WideShapes Go.ChangeAt Go.WideMaps Go.WideElems Go.RowKit Go.Sort
open Go.ChangeMaps (open_string shut_string)


theorem shorts0 : Shorts (.mk 0 0 0 [] [] 0) := .mk (by decide) (by simp)
theorem names_at (x : Ex) (p : Option Addr) (m c : Nat) (hm : Hid (m = x.ks.length)) (h9 : x.cnt < 1000000000) (hs : Shorts x) (N : List (List UInt8)) (hN : N = ddp x.nms) (w : World) (hx : IsEx 0 w x (.slice p m c)) :
    Calls Tryz.prog 12 #[.agg #[.int .i64 x.k, .int .i64 x.op, .int .i64 x.n, .string (bstr x.nm), .slice p m c, .int .i64 x.a]] w fun e w' =>
      ∃ q c', e = .returned (.slice q N.length c') ∧ w'.ownsRow w.heap.size 9 1 (.slice q N.length c') N.length (N.map strV) ∧ Below w.heap.size w w' :=
  (names_any x p m c hm h9 hs w hx).mono fun e w' ⟨q, k, c', h1, h2, h3⟩ => by
    subst hN
    have : k = (ddp x.nms).length := by
      rcases h2.2 with ⟨h, h0⟩ | ⟨g, cap, cur, hv, _⟩
      · cases h; exact h0.symm
      · cases hv; rfl
    subst this
    exact ⟨q, c', h1, h2, h3⟩
theorem names_zero (w : World) : Calls Tryz.prog 12 #[.agg #[.int .i64 0, .int .i64 0, .int .i64 0, .string ⟨#[]⟩, .slice none 0 0, .int .i64 0]] w fun e w' => (∃ q c', e = .returned (.slice q 0 c')) ∧ Below w.heap.size w w' :=
  (names_at (.mk 0 0 0 [] [] 0) none 0 0 (Lib.hid rfl) (by decide) shorts0 [] rfl w .leaf).mono fun e w' ⟨q, c', h1, _, h3⟩ => ⟨⟨q, c', h1⟩, h3⟩
theorem rkey_is {s : ByteArray} {b : Bool} (h : keyB s.data.toList = b) (w : World) : Calls Tryz.prog 14 #[.string s] w fun e w' => e = .returned (.bool b) ∧ Below w.heap.size w w' := h ▸ rkey_any s w
theorem name_ne {ws : List Wd} {i : Nat} {w : Wd} (h : ws[i]? = some w) (h0 : w.k = 0) (hk : keyB w.t = false) : 0 < (ddp (nmW ws)).length := by
  cases hf : fresh (ddp (nmW ws)) w.t (cntN ws i) with
  | true =>
    have := (List.getElem?_eq_some_iff.1 (cntN_new h h0 hk hf).2).1
    omega
  | false =>
    unfold fresh at hf
    have hm : w.t ∈ (ddp (nmW ws)).take (cntN ws i) := by simpa using hf
    exact List.length_pos_of_mem (List.mem_of_mem_take hm)
theorem own_head {w : World} {B e size n c : Nat} {q : Option Addr} {xs : List Value} (h : w.ownsRow B e size (.slice q n c) n xs) (h0 : 0 < n) : ∃ g, q = some ⟨g, 0, none⟩ ∧ g < w.heap.size := by
  obtain ⟨g, cap, h1, _, h2⟩ := h.form h0
  cases h1
  exact ⟨g, rfl, h2⟩
theorem bt_list (u : List UInt8) : (bstr u).toList = u := by (rw [ByteArray.toList_eq]; rfl)
theorem str_cell {w : World} {B g cap k : Nat} {N : List (List UInt8)} {u : List UInt8} (h : w.ownsRow B 9 1 (.slice (some ⟨g, 0, none⟩) N.length cap) N.length (N.map strV)) (hk : N[k]? = some u) : w.cell? ⟨g, k, none⟩ = some (.string (bstr u)) := by
  have hl : k < N.length := (List.getElem?_eq_some_iff.1 hk).1
  refine (h.cellAt k (by simpa using hl)).trans ?_
  rw [List.getElem?_map, hk]
  rfl
set_option maxRecDepth 100000 in
set_option maxHeartbeats 4000000 in
theorem walk (s : ByteArray) (_ : s.size ≤ maxLen) (W : World) (L0 : Laid W) : Calls Tryz.prog 4 #[.string s] W fun e w' => e = .returned (.bool true) ∧ Below W.heap.size W w' := by
  have L := Lib.hid L0
  clear L0
  go_enter Tryz.func4, Tryz.ntmps4
  by_cases h : 2000 < s.size
  · go_wp2_with (go_at_call 9; (with_reducible refine (awake_any _ L).mono ?_); rintro e' w1 ⟨rfl, hb1⟩)
    go_ret
    exact ⟨rfl, by (refine Fr.below ?_; (repeat (first | (with_reducible exact Fr.refl _ _) | (with_reducible refine Fr.alloc ?_ _) | (with_reducible refine Fr.drewN ?_ _) | (with_reducible refine Fr.drew ?_) | (with_reducible refine Fr.set ?_ ?_ _ _; rotate_left; first | exact .inl rfl | (right; simp; done) | (right; simp; omega) | (right; omega)) | (with_reducible refine Fr.step ?_ (by assumption)) | (with_reducible refine Fr.stepB ?_ (by assumption)))))⟩
  have hs : s.size ≤ 16384 := by omega
  obtain ⟨r, hr⟩ := OfR.total s.data.toList
  have HR := Lib.hid hr
  cases r with
  | bad c n =>
    have hc0 : c ≠ 0 := by (have := hr.at_le.2; omega)
    rcases hr.words with ⟨ws, hS⟩ | ⟨ws, c', a', hS⟩
    · have HS := Lib.hid hS
      clear hr hS
      go_wp2_with (first
        | (go_at_call 9; (with_reducible refine (awake_any _ L).mono ?_); rintro e' w1 ⟨rfl, hb1⟩)
        | (go_at_call 10; (with_reducible refine (of_bad s hs c n _ (L.out.below (by (refine Fr.below ?_; (repeat (first | (with_reducible exact Fr.refl _ _) | (with_reducible refine Fr.alloc ?_ _) | (with_reducible refine Fr.drewN ?_ _) | (with_reducible refine Fr.drew ?_) | (with_reducible refine Fr.set ?_ ?_ _ _; rotate_left; first | exact .inl rfl | (right; simp; done) | (right; simp; omega) | (right; omega)) | (with_reducible refine Fr.step ?_ (by assumption)) | (with_reducible refine Fr.stepB ?_ (by assumption))))))) HR.out).mono ?_); rintro e2 w2 ⟨rfl, hb2⟩; have hz2 := hb2.size; (try simp at hz2))
        | (go_at_call 12; (with_reducible refine (names_zero _).mono ?_); rintro e3 w3 ⟨⟨q, c3, rfl⟩, hb3⟩; have hz3 := hb3.size; (try simp at hz3))
        | (go_at_call 13; (with_reducible refine (rwords_ok s _ hs ws HS).mono ?_); rintro e4 w4 ⟨⟨gw, cw, rfl, hO4⟩, hb4⟩; have hz4 := hb4.size; (try simp at hz4)))
      go_ret
      exact ⟨by first | rfl | simp, by (refine Fr.below ?_; (repeat (first | (with_reducible exact Fr.refl _ _) | (with_reducible refine Fr.alloc ?_ _) | (with_reducible refine Fr.drewN ?_ _) | (with_reducible refine Fr.drew ?_) | (with_reducible refine Fr.set ?_ ?_ _ _; rotate_left; first | exact .inl rfl | (right; simp; done) | (right; simp; omega) | (right; omega)) | (with_reducible refine Fr.step ?_ (by assumption)) | (with_reducible refine Fr.stepB ?_ (by assumption)))))⟩
    · have HS := Lib.hid hS
      clear hr hS
      go_wp2_with (first
        | (go_at_call 9; (with_reducible refine (awake_any _ L).mono ?_); rintro e' w1 ⟨rfl, hb1⟩)
        | (go_at_call 10; (with_reducible refine (of_bad s hs c n _ (L.out.below (by (refine Fr.below ?_; (repeat (first | (with_reducible exact Fr.refl _ _) | (with_reducible refine Fr.alloc ?_ _) | (with_reducible refine Fr.drewN ?_ _) | (with_reducible refine Fr.drew ?_) | (with_reducible refine Fr.set ?_ ?_ _ _; rotate_left; first | exact .inl rfl | (right; simp; done) | (right; simp; omega) | (right; omega)) | (with_reducible refine Fr.step ?_ (by assumption)) | (with_reducible refine Fr.stepB ?_ (by assumption))))))) HR.out).mono ?_); rintro e2 w2 ⟨rfl, hb2⟩; have hz2 := hb2.size; (try simp at hz2))
        | (go_at_call 12; (with_reducible refine (names_zero _).mono ?_); rintro e3 w3 ⟨⟨q, c3, rfl⟩, hb3⟩; have hz3 := hb3.size; (try simp at hz3))
        | (go_at_call 13; (with_reducible refine (rwords_err s _ hs ws c' a' HS).mono ?_); rintro e4 w4 ⟨rfl, hb4⟩; have hz4 := hb4.size; (try simp at hz4)))
      go_ret
      exact ⟨by first | rfl | simp, by (refine Fr.below ?_; (repeat (first | (with_reducible exact Fr.refl _ _) | (with_reducible refine Fr.alloc ?_ _) | (with_reducible refine Fr.drewN ?_ _) | (with_reducible refine Fr.drew ?_) | (with_reducible refine Fr.set ?_ ?_ _ _; rotate_left; first | exact .inl rfl | (right; simp; done) | (right; simp; omega) | (right; omega)) | (with_reducible refine Fr.step ?_ (by assumption)) | (with_reducible refine Fr.stepB ?_ (by assumption)))))⟩
  | ok x1 =>
    have hF1 := hr.facts
    have hsl : s.data.toList.length = s.size := Array.length_toList
    have hcn : x1.cnt < 1000000000 := by (have := hF1.2.1; omega)
    have hsh := Lib.hid hF1.1.shorts
    obtain ⟨ws, hS, hnm⟩ := hr.names
    obtain ⟨NN, hNN⟩ : ∃ NN, NN = ddp x1.nms := ⟨_, rfl⟩
    have hNW := Lib.hid (show NN = ddp (nmW ws) by rw [hNN, hnm])
    have hwl : ws.length ≤ 20000 := by (have := hS.few rfl; omega)
    have HS := Lib.hid hS
    have HNN := Lib.hid hNN
    clear hr hS hnm hF1 hsl hNN
    go_wp2_with (first
        | (go_at_call 9; (with_reducible refine (awake_any _ L).mono ?_); rintro e' w1 ⟨rfl, hb1⟩)
        | (go_at_call 10; (with_reducible refine (of_ok s hs x1 x1.ks.length rfl _ (L.out.below (by (refine Fr.below ?_; (repeat (first | (with_reducible exact Fr.refl _ _) | (with_reducible refine Fr.alloc ?_ _) | (with_reducible refine Fr.drewN ?_ _) | (with_reducible refine Fr.drew ?_) | (with_reducible refine Fr.set ?_ ?_ _ _; rotate_left; first | exact .inl rfl | (right; simp; done) | (right; simp; omega) | (right; omega)) | (with_reducible refine Fr.step ?_ (by assumption)) | (with_reducible refine Fr.stepB ?_ (by assumption))))))) HR.out).mono ?_); rintro e2 w2 ⟨p1, c1, rfl, hx1, hb2⟩; have hz2 := hb2.size; (try simp at hz2))
        | (go_at_call 12; (with_reducible refine (names_at x1 p1 x1.ks.length c1 (Lib.hid rfl) hcn hsh.out NN HNN.out _ (hx1.alloc _)).mono ?_); rintro e3 w3 ⟨q, c3, rfl, hO3, hb3⟩; have hz3 := hb3.size; (try simp at hz3))
        | (go_at_call 13; (with_reducible refine (rwords_ok s _ hs ws HS).mono ?_); rintro e4 w4 ⟨⟨gw, cw, rfl, hO4⟩, hb4⟩; have hz4 := hb4.size; (try simp at hz4)))
    have hB4 : Below W.heap.size W w4 := by (refine Fr.below ?_; (repeat (first | (with_reducible exact Fr.refl _ _) | (with_reducible refine Fr.alloc ?_ _) | (with_reducible refine Fr.drewN ?_ _) | (with_reducible refine Fr.drew ?_) | (with_reducible refine Fr.set ?_ ?_ _ _; rotate_left; first | exact .inl rfl | (right; simp; done) | (right; simp; omega) | (right; omega)) | (with_reducible refine Fr.step ?_ (by assumption)) | (with_reducible refine Fr.stepB ?_ (by assumption)))))
    have hN4 := own_below hO3 hb4
    have hgw := (hO4.lt gw rfl).2
    clear hx1 hb1 hb2 hb3 hb4 hz2 hz3 hz4 hO3 hcn hsh HNN HR HS L hs h
    go_loopw [11, 12] (fun a b wr => ∃ n i : Nat, a = .int .i64 n ∧ b = .int .i64 i ∧ i ≤ ws.length ∧ Below w4.heap.size w4 wr ∧ Hid (n = cntN ws i)) (fun _ b _ => ws.length - (intOf b).toNat)
    case atStart => exact ⟨0, 0, rfl, rfl, Nat.zero_le _, Below.refl _ _, Lib.hid (cntN_zero ws).symm⟩
    case round =>
      obtain ⟨n, i, rfl, rfl, hi, hbw, HN⟩ := hrel
      have hnl : n ≤ NN.length := by (rw [HN.out, hNW.out]; exact cntN_le ws i)
      have hn2 : n ≤ 20000 := by (have := cntN_few ws i; rw [HN.out]; omega)
      by_cases hlt : i < ws.length
      · obtain ⟨x, hx⟩ : ∃ x, ws[i]? = some x := ⟨_, List.getElem?_eq_getElem hlt⟩
        obtain ⟨c0, c1, _, _⟩ := row_at hO4 hx
        rw [← hbw.cell (p := ⟨gw, _, none⟩) hgw] at c0 c1
        have hgr : gw < wr.heap.size := Nat.lt_of_lt_of_le hgw hbw.size
        have hi0 : (0 : Int) ≤ (i : Int) := Int.natCast_nonneg _
        have hi1 : (i : Int) < (ws.length : Int) := by omega
        have HX := Lib.hid hx
        clear hx
        by_cases hk0 : x.k = 0
        · have hk1 : (x.k != 0) = false := by simp [hk0]
          have HK0 := Lib.hid hk0
          clear hk0
          cases hky : keyB x.t with
          | true =>
            have HK : Hid (keyB (⟨x.t.toArray⟩ : ByteArray).data.toList = true) := Lib.hid (by simpa using hky)
            have HC : Hid (n = cntN ws (i + 1)) := Lib.hid (by rw [cntN_not HX.out (.inr hky), HN.out])
            clear hky
            go_wp2_with (go_at_call 14; (with_reducible refine (rkey_is HK.out _).mono ?_); rintro e5 w5 ⟨rfl, hb5⟩)
            go_roundw
            case rel => exact ⟨n, i + 1, rfl, by go_num, by omega, hbw.trans ((show Below wr.heap.size wr w5 by (refine Fr.below ?_; (repeat (first | (with_reducible exact Fr.refl _ _) | (with_reducible refine Fr.alloc ?_ _) | (with_reducible refine Fr.drewN ?_ _) | (with_reducible refine Fr.drew ?_) | (with_reducible refine Fr.set ?_ ?_ _ _; rotate_left; first | exact .inl rfl | (right; simp; done) | (right; simp; omega) | (right; omega)) | (with_reducible refine Fr.step ?_ (by assumption)) | (with_reducible refine Fr.stepB ?_ (by assumption)))))).mono hbw.size), HC⟩
            case measure => simp [intOf]; omega
          | false =>
            have HK : Hid (keyB (⟨x.t.toArray⟩ : ByteArray).data.toList = false) := Lib.hid (by simpa using hky)
            have HKY := Lib.hid hky
            obtain ⟨gn, rfl, hgn⟩ := own_head hN4 (by rw [hNW.out]; exact name_ne HX.out HK0.out hky)
            clear hky
            go_wp2_with (go_at_call 14; (with_reducible refine (rkey_is HK.out _).mono ?_); rintro e5 w5 ⟨rfl, hb5⟩; have c1b := (hb5.cell (p := ⟨gw, i * 4 + 1, none⟩) hgr).trans c1)
            have hb45 : Below w4.heap.size w4 w5 := hbw.trans ((show Below wr.heap.size wr w5 by (refine Fr.below ?_; (repeat (first | (with_reducible exact Fr.refl _ _) | (with_reducible refine Fr.alloc ?_ _) | (with_reducible refine Fr.drewN ?_ _) | (with_reducible refine Fr.drew ?_) | (with_reducible refine Fr.set ?_ ?_ _ _; rotate_left; first | exact .inl rfl | (right; simp; done) | (right; simp; omega) | (right; omega)) | (with_reducible refine Fr.step ?_ (by assumption)) | (with_reducible refine Fr.stepB ?_ (by assumption)))))).mono hbw.size)
            have hNs : ∀ k u, NN[k]? = some u → w5.cell? ⟨gn, k, none⟩ = some (.string (bstr u)) := fun k u hu => (hb45.cell (p := ⟨gn, k, none⟩) hgn).trans (str_cell hN4 hu)
            have HNS := Lib.hid hNs
            clear hNs c0 c1 hb5 hbw hk1
            go_loopw [13, 14] (fun a b wr2 => ∃ k j : Nat, b = .int .i64 k ∧ k ≤ n ∧ a = .bool (fresh NN x.t k) ∧ wr2 = w5.drewN j) (fun _ b _ => n - (intOf b).toNat)
            case atStart => exact ⟨0, 0, rfl, Nat.zero_le _, by rw [fresh_zero], rfl⟩
            case round =>
              obtain ⟨k, j, rfl, hk, rfl, rfl⟩ := hrel
              have hk00 : (0 : Int) ≤ (k : Int) := Int.natCast_nonneg _
              by_cases hkn : k < n
              · have hkl : (k : Int) < (NN.length : Int) := by omega
                obtain ⟨u, hu⟩ : ∃ u, NN[k]? = some u := ⟨_, List.getElem?_eq_getElem (by omega)⟩
                have cN : w5.cell? ⟨gn, k, none⟩ = some (.string (bstr u)) := HNS.out k u hu
                have HF := Lib.hid (fresh_next (t := x.t) hu)
                clear hu
                cases hf : fresh NN x.t k with
                | true =>
                  rw [hf] at HF
                  by_cases hut : u = x.t
                  · have hne : ((bstr u).toList == x.t) = true := by (rw [bt_list]; simp [hut])
                    have HF2 : Hid (fresh NN x.t (k + 1) = false) := Lib.hid (by rw [HF.out]; simp [hut])
                    have HUT := Lib.hid hut
                    clear hut HF
                    go_wp2
                    go_quiet (fail)
                    go_wp2
                    go_roundw
                    case rel => exact ⟨k + 1, _, by go_num, by omega, by first | (rw [HF2.out]; done) | (rw [HF2.out]; rfl) | (rw [HF2.out]; simp [hne]; done) | (rw [HF2.out]; simp [bt_list, HUT.out]), rfl⟩
                    case measure => simp [intOf]; omega
                  · have hne : ((bstr u).toList == x.t) = false := by (rw [bt_list]; simp [hut])
                    have HF2 : Hid (fresh NN x.t (k + 1) = true) := Lib.hid (by rw [HF.out]; simp [hut])
                    have HUT := Lib.hid hut
                    clear hut HF
                    go_wp2
                    go_quiet (fail)
                    go_wp2
                    go_roundw
                    case rel => exact ⟨k + 1, _, by go_num, by omega, by first | (rw [HF2.out]; done) | (rw [HF2.out]; rfl) | (rw [HF2.out]; simp [hne]; done) | (rw [HF2.out]; simp [bt_list, HUT.out]), rfl⟩
                    case measure => simp [intOf]; omega
                | false =>
                  rw [hf] at HF
                  go_wp2
                  go_quiet (fail)
                  go_wp2
                  go_roundw
                  case rel => exact ⟨k + 1, _, by go_num, by omega, by rw [HF.out]; rfl, rfl⟩
                  case measure => simp [intOf]; omega
              · obtain rfl : k = n := by omega
                cases hf : fresh NN x.t k with
                | true =>
                  have hnew := cntN_new HX.out HK0.out HKY.out (by rw [← HN.out, ← hNW.out]; exact hf)
                  rw [← HN.out, ← hNW.out] at hnew
                  have hkl : k < NN.length := (List.getElem?_eq_some_iff.1 hnew.2).1
                  have hge : decide ((NN.length : Int) ≤ (k : Int)) = false := by simp; omega
                  have hki : (k : Int) < (NN.length : Int) := by omega
                  have cN : w5.cell? ⟨gn, k, none⟩ = some (.string (bstr x.t)) := HNS.out k x.t hnew.2
                  have hne : ((bstr x.t).toList == x.t) = true := by (rw [bt_list]; simp)
                  have HC := Lib.hid hnew.1
                  clear hnew
                  go_wp2
                  go_quiet (fail)
                  go_wp2
                  exact ⟨⟨k + 1, i + 1, by first | rfl | go_num | (push_cast; rfl), by first | rfl | go_num | (push_cast; rfl), by omega, hb45.trans ((show Below w5.heap.size w5 _ by (refine Fr.below ?_; (repeat (first | (with_reducible exact Fr.refl _ _) | (with_reducible refine Fr.alloc ?_ _) | (with_reducible refine Fr.drewN ?_ _) | (with_reducible refine Fr.drew ?_) | (with_reducible refine Fr.set ?_ ?_ _ _; rotate_left; first | exact .inl rfl | (right; simp; done) | (right; simp; omega) | (right; omega)) | (with_reducible refine Fr.step ?_ (by assumption)) | (with_reducible refine Fr.stepB ?_ (by assumption)))))).mono hb45.size), Lib.hid HC.out.symm⟩, by simp [intOf]; omega⟩
                | false =>
                  have hold := cntN_old HX.out HK0.out HKY.out (by rw [← HN.out, ← hNW.out]; exact hf)
                  have HC : Hid (k = cntN ws (i + 1)) := Lib.hid (by rw [hold, HN.out])
                  clear hold
                  go_wp2
                  go_quiet (fail)
                  go_wp2
                  exact ⟨⟨k, i + 1, rfl, by first | rfl | go_num | (push_cast; rfl), by omega, hb45.trans ((show Below w5.heap.size w5 _ by (refine Fr.below ?_; (repeat (first | (with_reducible exact Fr.refl _ _) | (with_reducible refine Fr.alloc ?_ _) | (with_reducible refine Fr.drewN ?_ _) | (with_reducible refine Fr.drew ?_) | (with_reducible refine Fr.set ?_ ?_ _ _; rotate_left; first | exact .inl rfl | (right; simp; done) | (right; simp; omega) | (right; omega)) | (with_reducible refine Fr.step ?_ (by assumption)) | (with_reducible refine Fr.stepB ?_ (by assumption)))))).mono hb45.size), HC⟩, by simp [intOf]; omega⟩
        · have hk1 : (x.k != 0) = true := by simp [hk0]
          have HC : Hid (n = cntN ws (i + 1)) := Lib.hid (by rw [cntN_not HX.out (.inl hk0), HN.out])
          clear hk0
          go_wp2
          go_roundw
          case rel => exact ⟨n, i + 1, rfl, by go_num, by omega, by first | exact hbw | (exact hbw.drew) | (exact below_drewN hbw _), HC⟩
          case measure => simp [intOf]; omega
      · obtain rfl : i = ws.length := by omega
        have HE : n = NN.length := by rw [HN.out, hNW.out, cntN_all]
        subst HE
        go_wp2
        go_ret
        exact ⟨by first | rfl | simp, hB4.trans (hbw.mono hB4.size)⟩

set_option maxRecDepth 100000 in
theorem lifted (os : Os) (started : os.Started) (H : Type) (enc : TypeId × Value → H) :
    ReturnsInHanded {} Tryz.checked os 4 .any (fun w args => (Rows.exprNamedSpec.pre enc Tryz.prog Tryz.f4 [] false w args ∧ laidMetH Tryz.prog laidL w) ∧ sizedMet enc Tryz.prog Tryz.f4 (OpenSpec.ofChange Rows.exprNamedSpec) false w args)
      (Rows.exprNamedSpec.post enc Tryz.prog Tryz.f4 false true false false) := by
  refine returnsInHanded_of_change_and (C := Tryz.checked) (X := fun w _ => laidMetH Tryz.prog laidL w) (fun _ _ _ hh h => h.of_heap hh) own started (by kernel_rfl) Tryz.func4
    (ChangeSpec.witness_shaped (enc := enc) (C := Tryz.checked) (os := os) (X := fun w _ => laidMetH Tryz.prog laidL w) false (World.doorLaid Tryz.prog 400 os) #[.string ByteArray.empty] 8 rfl (World.shaped_of_RefB (by kernel_rfl) (by kernel_rfl)) (by kernel_rfl) (by kernel_rfl) (by kernel_rfl) (door_met os _)) ?_
  intro W base args ds gs before hval0 hW _ _ hL _
  have hval : ∀ (j : Nat) t v, Tryz.f4.params[j]? = some t → args[j]? = some v → Value.okWide Tryz.prog W .any base t v := hval0
  have hW' := hW
  obtain ⟨p, q, hA0, hV, rfl, hfz, hnd⟩ := hW
  have hA : DataW.TrodAll enc Tryz.prog W 0 (fun _ => true) true Tryz.f4.params.toList args.toList ds p := hA0
  rw [Tryz.params4] at hA hval
  obtain ⟨v0, d0, rfl, rfl, h0⟩ := trodAll_one hA
  obtain ⟨rfl, rfl⟩ := trodVars_none hV
  obtain ⟨s, rfl, rfl, rfl, wx0⟩ := open_string Tryz.underlying9 (hval 0 9 _ rfl rfl) h0
  have hLaid := of_laid hL
  clear hA0 hval0
  simp only [List.append_nil] at hW'
  refine (walk s wx0 W hLaid).mono fun e W' ⟨he, hb⟩ => ?_
  subst he
  exact ⟨_, rfl, _, _, _, [], [], [], hW', trodAll_mk1 (shut_bool Tryz.underlying4 _), trodAll_mk1 (shut_string Tryz.underlying9 wx0), rfl, hb.frame _, fun h => by cases h⟩

theorem said : Rows.ExprNamedSaid :=
  OpenClaim.holds_of_wide 4 Tryz.f4 rfl rfl rfl rfl rfl rfl rfl ⟨rfl, rfl, rfl, rfl, rfl⟩ rfl rfl rfl rfl rfl (by kernel_rfl) Tryz.func4 (by kernel_rfl)
    (of_decide_eq_true (by kernel_rfl)) (by unfold Func.isWrapper; first | (rw [if_pos (by decide +kernel)]; kernel_rfl) | (rw [if_neg (by decide +kernel)]; exact ⟨rfl, rfl⟩))
    (fun os started H enc _ => lifted os started H enc)
end ExprNamed

theorem exprNamed_card_holds : Rows.ExprNamedCardSaid :=
  Claim7.holds_tied_plain_at .later [] _ true _ true
    ExprNamed.said (fun _ h => by cases h) (by kernel_rfl) (fun _ h => by cases h) exprNamed_row_tie rfl ⟨rfl, rfl⟩ (by kernel_rfl) rfl
    (fun f fn hf hfn => by
      obtain rfl : f = 4 := Option.some.inj ((show Tryz.prog.funcNamed "paling/palinglaw03.ExprNamed" = some 4 by kernel_rfl).symm.trans hf) |>.symm
      obtain rfl : fn = Tryz.f4 := (Option.some.inj (Tryz.func4.symm.trans hfn)).symm
      exact ⟨by kernel_rfl, fun j t ht => by
        rw [Tryz.params4] at ht
        have hm : t ∈ [9] := by simpa using Array.mem_of_getElem? ht
        have hall : ([9].all fun u => !Tryz.prog.wantsStandIn u) = true := by kernel_rfl
        exact (show Tryz.prog.wantsStandIn t = false by simpa using List.all_eq_true.1 hall t hm)⟩)
    (by kernel_rfl)
#print axioms exprNamed_card_holds
end Go.Proofs.YtngfbpmabdmkeaaGreatDoor
