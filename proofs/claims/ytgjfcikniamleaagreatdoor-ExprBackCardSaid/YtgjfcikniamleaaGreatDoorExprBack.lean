/- ExprBack comes out true for every two texts: no condition but what the card itself says of the listed variables. -/
import Derived.Test.YtgjfcikniamleaaGreatDoorPD
import Derived.Test.YtgjfcikniamleaaGreatDoorLaid
import Derived.Test.YtgjfcikniamleaaGreatDoorTie
import Derived.Test.YtgjfcikniamleaaGreatDoorCards
import Derived.SevenTiedAt
import Derived.Carry
import Derived.Test.YtgjfcikniamleaaGreatDoorNewR
import Derived.Conc.Own4

namespace Go.Proofs.YtgjfcikniamleaaGreatDoor
open Go

theorem wpOp_w {P : Program} {ops : Array Oper} {Q : Exit → Act → World → Prop} {i : Nat} {K : Act → World → Prop} {a : Act} {w : World} {o : Oper} (ho : ops[i]? = some o) (hg : Region.wanted o (yielded ops a.tmps) = true) (h : o.wp P a w K Q) : wpOp P ops Q i K a w := by
  unfold wpOp
  rw [ho]
  simp only [hg, if_true]
  exact .inl h
theorem wpOp_s {P : Program} {ops : Array Oper} {Q : Exit → Act → World → Prop} {i : Nat} {K : Act → World → Prop} {a : Act} {w : World} {o : Oper} (ho : ops[i]? = some o) (hg : Region.wanted o (yielded ops a.tmps) = false) (h : K (a.put o.dst undef) w) : wpOp P ops Q i K a w := by
  unfold wpOp
  rw [ho]
  simp only [hg]
  exact h
theorem wanted_at {ops : Array Oper} {tmps : Array Value} {o oj : Oper} {j d : Nat} {b c : Bool} (hg : o.guard = some (j, b)) (hj : ops[j]? = some oj) (hd : oj.dst = some d) (hv : tmps.getD d undef = .bool c) : Region.wanted o (yielded ops tmps) = (c == b) := by
  have h2 : tmps[d]? = some (.bool c) := by
    rw [Array.getD_eq_getD_getElem?] at hv
    cases h : tmps[d]? with
    | none => rw [h] at hv; cases hv
    | some v => rw [h] at hv; exact congrArg some hv
  unfold Region.wanted yielded
  rw [hg]
  simp only [hj, hd, Option.bind_some, h2]
  cases c <;> cases b <;> rfl

structure Ins (n sz : Nat) (dst : Nat → Nat) (vs : List (Option Value)) (t0 : Array Value) (listed : Array Bool) (a : Act) : Prop where
  size : listed.size = n
  tsz : a.tmps.size = sz
  defs : a.defers = []
  old : ∀ d, (∀ k, k < n → dst k ≠ d) → a.tmps.getD d undef = t0.getD d undef
  new : ∀ k v, k < n → vs[k]? = some (some v) → listed.getD k false = true → a.tmps.getD (dst k) undef = v
section
variable {n sz : Nat} {dst : Nat → Nat} {vs : List (Option Value)} {t0 : Array Value} {listed : Array Bool} {a : Act}
theorem Ins.put (h : Ins n sz dst vs t0 listed a) {k : Nat} {v : Value} (hk : k < n) (hlt : dst k < sz) (inj : ∀ i, i < n → dst i = dst k → i = k) (hv : ∀ u, vs[k]? = some (some u) → u = v) : Ins n sz dst vs t0 (listed.setIfInBounds k true) (a.put (some (dst k)) v) where
  size := by simpa using h.size
  tsz := by simpa [Act.put] using h.tsz
  defs := h.defs
  old := fun d hd => by
    rw [getD_put a _ _ _ (by rw [h.tsz]; exact hlt), if_neg (fun e => hd k hk e.symm)]
    exact h.old d hd
  new := fun j u hj hu hl => by
    rw [getD_put a _ _ _ (by rw [h.tsz]; exact hlt)]
    by_cases e : dst j = dst k
    · obtain rfl := inj j hj e
      rw [if_pos rfl]
      exact (hv u hu).symm
    · rw [if_neg e]
      rcases getD_set listed k j hl with rfl | hl
      · exact absurd rfl e
      · exact h.new j u hj hu hl
end
/-- Nothing is left, once none may come. -/
theorem all_came {md : Region.Mode} {ops : Array Oper} {listed : Array Bool} (hs : listed.size = ops.size) (hr : Region.ready md ops listed = [])
    (hb0 : ((List.range ops.size).all fun k => match ops[k]? with | some o => o.after.all (fun e => decide (e.on < k)) | none => true) = true) : ∀ k, k < ops.size → listed.getD k false = true := by
  have hb : ∀ (k : Nat) (o : Oper), ops[k]? = some o → ∀ e ∈ o.after, e.on < k := by
    intro k o ho e he
    have h1 := List.all_eq_true.1 hb0 k (List.mem_range.2 (Array.getElem?_eq_some_iff.1 ho).1)
    rw [ho] at h1
    have h2 := Array.all_eq_true_iff_forall_mem.1 h1 e he
    simpa using h2
  intro k
  induction k using Nat.strongRecOn with
  | _ k ih =>
    intro hk
    cases hc : listed.getD k false with
    | true => rfl
    | false =>
      exfalso
      have hn : k ∈ Region.ready md ops listed := by
        rw [mem_ready]
        refine ⟨?_, ops[k], Array.getElem?_eq_getElem hk, fun e he hbd => ?_⟩
        · rw [Array.getD_eq_getD_getElem?] at hc ⊢
          rw [Array.getElem?_eq_getElem (by omega)] at hc ⊢
          exact hc
        · have h1 := hb k _ (Array.getElem?_eq_getElem hk) e he
          have h2 := ih e.on h1 (by omega)
          rw [Array.getD_eq_getD_getElem?] at h2 ⊢
          rw [Array.getElem?_eq_getElem (by omega)] at h2 ⊢
          exact h2
      rw [hr] at hn
      cases hn
section
variable {P : Program} {o : Oper} {a : Act} {w : World} {K : Act → World → Prop} {Q : Exit → Act → World → Prop}
theorem wp_val {v : Value} (h : (execOp a.eval o).run P w = .ok (.value v) w) (hk : K (a.put o.dst v) w) : o.wp P a w K Q := by
  unfold Oper.wp
  rw [h]
  exact hk
theorem wp_enter {f : FuncId} {args : Array Value} (h : (execOp a.eval o).run P w = .ok (.enter f args) w) (hc : Calls P f args w fun e w' => ∃ v, e = .returned v ∧ K (a.put o.dst v) w') : o.wp P a w K Q := by
  unfold Oper.wp
  rw [h]
  refine Calls.mono hc fun e w' ⟨v, he, hk⟩ => ?_
  subst he
  exact hk
theorem run_move {ev : Operand → Value} {s : Operand} {v : Value} (ho : o.op = .move s ∨ o.op = .assign s) (h : ev s = v) : (execOp ev o).run P w = .ok (.value v) w := by
  subst h
  rcases ho with ho | ho
  · unfold execOp
    rw [ho]
    rfl
  · unfold execOp
    rw [ho]
    rfl
theorem run_pick {ev : Operand → Value} {c x y : Operand} {b : Bool} {v : Value} (ho : o.op = .pick c x y) (h : ev c = .bool b) (hv : (if b then ev x else ev y) = v) : (execOp ev o).run P w = .ok (.value v) w := by
  subst hv
  unfold execOp
  rw [ho]
  simp [h, asBool]
theorem run_load {ev : Operand → Value} {t : TypeId} {s : Operand} {ad : Addr} {v : Value} (ho : o.op = .load t s) (h : ev s = .pointer (some ad)) (hv : (loadVar t ad).run P w = .ok v w) : (execOp ev o).run P w = .ok (.value v) w := by
  unfold execOp
  rw [ho]
  simp [h, Instr.loadAt, Instr.sureAddr, hv, Result.andThen]
theorem run_bin {ev : Operand → Value} {b : BinOp} {t r : TypeId} {x y : Operand} {vx vy v : Value} (ho : o.op = .binOp b t x y r) (hx : ev x = vx) (hy : ev y = vy) (h : (do eqGuard b t x y vx vy; binOp b t vx vy : Sem Value).run P w = .ok v w) : (execOp ev o).run P w = .ok (.value v) w := by
  subst hx
  subst hy
  unfold execOp
  rw [ho]
  show ((do eqGuard b t x y (ev x) (ev y); binOp b t (ev x) (ev y) : Sem Value) >>= fun v => pure (Next.value v) : Sem Next).run P w = _
  rw [Sem.run_bind, h]
  rfl
theorem name_act {C : Code} (h : ∀ b, b = a → C.wp P Q b w) : C.wp P Q a w := h a rfl
end
end Go.Proofs.YtgjfcikniamleaaGreatDoor
namespace Go.Proofs.YtgjfcikniamleaaGreatDoor
namespace ExprBack
open Go Go.ChangeShapes Go.WideShapes Go.ChangeAt Go.WideMaps Go.WideElems Go.RowKit Go.Sort
open Go.ChangeMaps (open_string shut_string)


def dstK (k : Nat) : Nat := if k = 27 then 4 else 55 + k
theorem dstK_inj {i k : Nat} (h : dstK i = dstK k) (hi : i < 28) (hk : k < 28) : i = k := by
  unfold dstK at h
  split at h <;> split at h <;> omega
theorem put28 {vs : List (Option Value)} {t0 : Array Value} {listed : Array Bool} {a : Act} (h : Ins 28 82 dstK vs t0 listed a) (k d : Nat) (v : Value) (hk : k < 28) (hd : dstK k = d) (hv : vs[k]? = some (some v)) : Ins 28 82 dstK vs t0 (listed.setIfInBounds k true) (a.put (some d) v) := by
  subst hd
  exact h.put hk (by unfold dstK; split <;> omega) (fun i hi e => dstK_inj e hi hk) (fun u hu => by rw [hv] at hu; cases hu; rfl)
theorem skip28 {vs : List (Option Value)} {t0 : Array Value} {listed : Array Bool} {a : Act} (h : Ins 28 82 dstK vs t0 listed a) (k d : Nat) (v : Value) (hk : k < 28) (hd : dstK k = d) (hv : vs[k]? = some none) : Ins 28 82 dstK vs t0 (listed.setIfInBounds k true) (a.put (some d) v) := by
  subst hd
  exact h.put hk (by unfold dstK; split <;> omega) (fun i hi e => dstK_inj e hi hk) (fun u hu => by rw [hv] at hu; cases hu)
theorem none_yet : ∀ k, k < 28 → (Array.replicate 28 false).getD k false = false := by decide
set_option maxRecDepth 100000 in
set_option maxHeartbeats 1500000 in
theorem walk (s : ByteArray) (_ : s.size ≤ maxLen) (t : ByteArray) (_ : t.size ≤ maxLen) (W : World) (L0 : Laid W) : Calls Tryz.prog 3 #[.string s, .string t] W fun e w' => e = .returned (.bool true) ∧ Below W.heap.size W w' := by
  have L := Lib.hid L0
  clear L0
  go_enter Tryz.func3, Tryz.ntmps3
  by_cases h : 2000 < s.size
  · go_wp2_with (go_at_call 7; (with_reducible refine (awake_any _ L).mono ?_); rintro e' w1 ⟨rfl, hb1⟩)
    go_ret
    exact ⟨rfl, by (refine Fr.below ?_; (repeat (first | (with_reducible exact Fr.refl _ _) | (with_reducible refine Fr.alloc ?_ _) | (with_reducible refine Fr.drewN ?_ _) | (with_reducible refine Fr.drew ?_) | (with_reducible refine Fr.set ?_ ?_ _ _; rotate_left; first | exact .inl rfl | (right; simp; done) | (right; simp; omega) | (right; omega)) | (with_reducible refine Fr.step ?_ (by assumption)) | (with_reducible refine Fr.stepB ?_ (by assumption)))))⟩
  by_cases h' : 2000 < t.size
  · go_wp2_with (go_at_call 7; (with_reducible refine (awake_any _ L).mono ?_); rintro e' w1 ⟨rfl, hb1⟩)
    go_ret
    exact ⟨rfl, by (refine Fr.below ?_; (repeat (first | (with_reducible exact Fr.refl _ _) | (with_reducible refine Fr.alloc ?_ _) | (with_reducible refine Fr.drewN ?_ _) | (with_reducible refine Fr.drew ?_) | (with_reducible refine Fr.set ?_ ?_ _ _; rotate_left; first | exact .inl rfl | (right; simp; done) | (right; simp; omega) | (right; omega)) | (with_reducible refine Fr.step ?_ (by assumption)) | (with_reducible refine Fr.stepB ?_ (by assumption)))))⟩
  have hs : s.size ≤ 16384 := by omega
  have ht : t.size ≤ 16384 := by omega
  obtain ⟨r, hr⟩ := OfR.total s.data.toList
  cases r with
  | bad c n =>
    have hc := hr.at_le
    have hc0 : c ≠ 0 := by omega
    have hn1 : (n : Int) ≤ s.size := by (have := hc.1; rw [Array.length_toList] at this; have e : s.size = s.data.size := rfl; omega)
    have hn0 : (0 : Int) ≤ n := by omega
    have HR := Lib.hid hr
    clear hr hc
    go_wp2_with (first
      | (go_at_call 7; (with_reducible refine (awake_any _ L).mono ?_); rintro e' w1 ⟨rfl, hb1⟩)
      | (go_at_call 8; (with_reducible refine (of_bad s hs c n _ (L.out.below (by (refine Fr.below ?_; (repeat (first | (with_reducible exact Fr.refl _ _) | (with_reducible refine Fr.alloc ?_ _) | (with_reducible refine Fr.drewN ?_ _) | (with_reducible refine Fr.drew ?_) | (with_reducible refine Fr.set ?_ ?_ _ _; rotate_left; first | exact .inl rfl | (right; simp; done) | (right; simp; omega) | (right; omega)) | (with_reducible refine Fr.step ?_ (by assumption)) | (with_reducible refine Fr.stepB ?_ (by assumption))))))) HR.out).mono ?_); rintro e2 w2 ⟨rfl, hb2⟩; have hz2 := hb2.size; (try simp at hz2)))
    go_ret
    exact ⟨by first | rfl | simp, by (refine Fr.below ?_; (repeat (first | (with_reducible exact Fr.refl _ _) | (with_reducible refine Fr.alloc ?_ _) | (with_reducible refine Fr.drewN ?_ _) | (with_reducible refine Fr.drew ?_) | (with_reducible refine Fr.set ?_ ?_ _ _; rotate_left; first | exact .inl rfl | (right; simp; done) | (right; simp; omega) | (right; omega)) | (with_reducible refine Fr.step ?_ (by assumption)) | (with_reducible refine Fr.stepB ?_ (by assumption)))))⟩
  | ok x1 =>
    have hF1 := hr.facts
    have hl1 : s.data.toList.length ≤ 20000 := by (rw [Array.length_toList]; have e : s.size = s.data.size := rfl; omega)
    obtain ⟨T, hT⟩ : ∃ T, T = x1.txt := ⟨_, rfl⟩
    obtain ⟨x2, he12, hr2⟩ := hr.again
    have HR := Lib.hid hr
    have hTl : (bstr T).size ≤ 16384 := by (rw [bs_size, hT]; have h5 := hF1.2.2; have e : s.data.toList.length = s.size := Array.length_toList; omega)
    have HT := Lib.hid hT
    have HE := Lib.hid he12
    have hl2 : (bstr T).data.toList.length ≤ 20000 := by (rw [Array.length_toList]; have e : (bstr T).size = (bstr T).data.size := rfl; omega)
    have HT2 := Lib.hid (show T = x2.txt by (rw [hT]; exact eqv_txt x1 x2 he12))
    have hcn1 : x1.cnt < 100000 := by (have := hF1.2.1; omega)
    have HR2 := Lib.hid (show OfR (bstr T).data.toList (.ok x2) by (rw [hT]; exact hr2))
    obtain ⟨r3, hr3⟩ := OfR.total t.data.toList
    cases r3 with
    | bad c3 n3 =>
      have hc3 : c3 ≠ 0 := by (have := hr3.at_le.2; omega)
      have HR3 := Lib.hid hr3
      clear hr hr2 hT he12 hF1 hr3
      go_wp2_with (first
        | (go_at_call 7; (with_reducible refine (awake_any _ L).mono ?_); rintro e' w1 ⟨rfl, hb1⟩)
        | (go_at_call 8; (with_reducible refine (of_ok s hs x1 x1.ks.length rfl _ (L.out.below (by (refine Fr.below ?_; (repeat (first | (with_reducible exact Fr.refl _ _) | (with_reducible refine Fr.alloc ?_ _) | (with_reducible refine Fr.drewN ?_ _) | (with_reducible refine Fr.drew ?_) | (with_reducible refine Fr.set ?_ ?_ _ _; rotate_left; first | exact .inl rfl | (right; simp; done) | (right; simp; omega) | (right; omega)) | (with_reducible refine Fr.step ?_ (by assumption)) | (with_reducible refine Fr.stepB ?_ (by assumption))))))) HR.out).mono ?_); rintro e2 w2 ⟨p1, c1, rfl, hx1, hb2⟩; have hz2 := hb2.size; (try simp at hz2))
        | (go_at_call 9; (with_reducible refine (show_of HR.out hl1 x1.ks.length rfl T HT.out p1 c1 _ (hx1.alloc _) (L.out.below (by (refine Fr.below ?_; (repeat (first | (with_reducible exact Fr.refl _ _) | (with_reducible refine Fr.alloc ?_ _) | (with_reducible refine Fr.drewN ?_ _) | (with_reducible refine Fr.drew ?_) | (with_reducible refine Fr.set ?_ ?_ _ _; rotate_left; first | exact .inl rfl | (right; simp; done) | (right; simp; omega) | (right; omega)) | (with_reducible refine Fr.step ?_ (by assumption)) | (with_reducible refine Fr.stepB ?_ (by assumption)))))))).mono ?_); rintro e3 w3 ⟨rfl, hb3⟩; have hz3 := hb3.size; (try simp at hz3))
        | (go_at_call 8; (with_reducible refine (of_ok (bstr T) hTl x2 x2.ks.length rfl _ (L.out.below (by (refine Fr.below ?_; (repeat (first | (with_reducible exact Fr.refl _ _) | (with_reducible refine Fr.alloc ?_ _) | (with_reducible refine Fr.drewN ?_ _) | (with_reducible refine Fr.drew ?_) | (with_reducible refine Fr.set ?_ ?_ _ _; rotate_left; first | exact .inl rfl | (right; simp; done) | (right; simp; omega) | (right; omega)) | (with_reducible refine Fr.step ?_ (by assumption)) | (with_reducible refine Fr.stepB ?_ (by assumption))))))) HR2.out).mono ?_); rintro e4 w4 ⟨p2, c2, rfl, hx2, hb4⟩; have hz4 := hb4.size; (try simp at hz4))
        | (go_at_call 8; (with_reducible refine (of_bad t ht c3 n3 _ (L.out.below (by (refine Fr.below ?_; (repeat (first | (with_reducible exact Fr.refl _ _) | (with_reducible refine Fr.alloc ?_ _) | (with_reducible refine Fr.drewN ?_ _) | (with_reducible refine Fr.drew ?_) | (with_reducible refine Fr.set ?_ ?_ _ _; rotate_left; first | exact .inl rfl | (right; simp; done) | (right; simp; omega) | (right; omega)) | (with_reducible refine Fr.step ?_ (by assumption)) | (with_reducible refine Fr.stepB ?_ (by assumption))))))) HR3.out).mono ?_); rintro e5 w5 ⟨rfl, hb5⟩; have hz5 := hb5.size; (try simp at hz5)))
      refine name_world ?_
      intro W6 hW6
      have B6 : Blk W6 w2.heap.size (.int .i64 x1.k) (.int .i64 x1.op) (.int .i64 x1.n) (.string (bstr x1.nm)) (.slice p1 x1.ks.length c1) (.int .i64 x1.a) := by (rw [hW6]; exact ((((((Blk.new rfl _ _ _ _ _ _).stay hb3).stay hb4).alloc _).stay hb5).alloc _))
      have B9 : Blk W6 w4.heap.size (.int .i64 x2.k) (.int .i64 x2.op) (.int .i64 x2.n) (.string (bstr x2.nm)) (.slice p2 x2.ks.length c2) (.int .i64 x2.a) := by (rw [hW6]; exact (((Blk.new rfl _ _ _ _ _ _).stay hb5).alloc _))
      have X1 : IsEx 0 W6 x1 (.slice p1 x1.ks.length c1) := by (rw [hW6]; exact (((((hx1.alloc _).stay hb3).stay hb4).alloc _).stay hb5).alloc _)
      have X2 : IsEx 0 W6 x2 (.slice p2 x2.ks.length c2) := by (rw [hW6]; exact ((hx2.alloc _).stay hb5).alloc _)
      have hB6 : Below W.heap.size W W6 := by (rw [hW6]; (refine Fr.below ?_; (repeat (first | (with_reducible exact Fr.refl _ _) | (with_reducible refine Fr.alloc ?_ _) | (with_reducible refine Fr.drewN ?_ _) | (with_reducible refine Fr.drew ?_) | (with_reducible refine Fr.set ?_ ?_ _ _; rotate_left; first | exact .inl rfl | (right; simp; done) | (right; simp; omega) | (right; omega)) | (with_reducible refine Fr.step ?_ (by assumption)) | (with_reducible refine Fr.stepB ?_ (by assumption))))))
      have L6 := Lib.hid (L.out.below hB6)
      clear hW6 hb1 hb2 hb3 hb4 hb5 hx1 hx2 hz2 hz3 hz4 hz5
      refine name_act ?_
      intro a0 ha0
      have p6 : a0.tmps.getD 6 undef = .pointer (some ⟨w2.heap.size, 0, none⟩) := by (rw [ha0]; rfl)
      have p9 : a0.tmps.getD 9 undef = .pointer (some ⟨w4.heap.size, 0, none⟩) := by (rw [ha0]; rfl)
      have p10 : a0.tmps.getD 10 undef = .int .i64 0 := by (rw [ha0]; rfl)
      have p12 : a0.tmps.getD 12 undef = .pointer (some ⟨w5.heap.size, 0, none⟩) := by (rw [ha0]; rfl)
      have p13 : a0.tmps.getD 13 undef = .int .i64 c3 := by (rw [ha0]; rfl)
      have q1 : a0.tmps.size = 82 := by (rw [ha0]; rfl)
      have q2 : a0.defers = [] := by (rw [ha0])
      clear ha0
      obtain ⟨VS, hVS⟩ : ∃ VS : List (Option Value), VS = [some (.int .i64 0), some (.bool true), some (.bool true), some (.agg #[.int .i64 x1.k, .int .i64 x1.op, .int .i64 x1.n, .string (bstr x1.nm), .slice p1 x1.ks.length c1, .int .i64 x1.a]), some (.agg #[.int .i64 x2.k, .int .i64 x2.op, .int .i64 x2.n, .string (bstr x2.nm), .slice p2 x2.ks.length c2, .int .i64 x2.a]), some (.bool true), some (.bool true), some (.bool true), some (.agg #[.int .i64 x2.k, .int .i64 x2.op, .int .i64 x2.n, .string (bstr x2.nm), .slice p2 x2.ks.length c2, .int .i64 x2.a]), some (.string (bstr T)), some (.agg #[.int .i64 x1.k, .int .i64 x1.op, .int .i64 x1.n, .string (bstr x1.nm), .slice p1 x1.ks.length c1, .int .i64 x1.a]), some (.string (bstr T)), some (.bool true), some (.bool true), some (.bool true), some (.int .i64 c3), some (.bool true), some (.bool true), none, none, none, none, none, none, none, some (.bool true), some (.bool true), some (.bool true)] := ⟨_, rfl⟩
      refine wp_region_any (by kernel_rfl) ?_
      refine wpAny_inv (fun listed a X => Ins 28 82 dstK VS a0.tmps listed a ∧ Below W6.heap.size W6 X) ?step ?fin _ _ _ _ ⟨⟨rfl, q1, q2, fun d _ => rfl, fun k v hk _ hl => absurd ((none_yet k hk).symm.trans hl) (by simp)⟩, (Below.refl _ _).drew⟩ (by rfl) (by decide)
      case fin =>
        intro listed a X ⟨h1, h2⟩ hr
        have hl := all_came (by rw [h1.size]; rfl) hr (by decide +kernel) 27 (by decide)
        have h4 : a.tmps.getD 4 undef = .bool true := h1.new 27 (.bool true) (by decide) (by rw [hVS]; rfl) hl
        have h5 := h1.defs
        clear hr
        have Z := Lib.hid (hB6.trans (h2.mono hB6.size))
        obtain ⟨tm, df⟩ := a
        simp only at h4 h5
        subst h5
        have h6 : tm[4]?.getD undef = .bool true := by (rw [← Array.getD_eq_getD_getElem?]; exact h4)
        clear h1 h2 hl h4 hVS p6 p9 p10 p12 p13 q1 q2 X1 X2 B6 B9 hB6
        go_wp2
        go_ret
        exact ⟨by first | rfl | (simp [h6]; done), Z.out⟩
      case step =>
        intro listed a X k ⟨h1, h2⟩ hk
        have hlt : k < 28 := List.mem_range.1 (List.mem_filter.1 hk).1
        have hk2 := (List.mem_filter.1 hk).2
        have o6 : a.eval (.tmp 6) = .pointer (some ⟨w2.heap.size, 0, none⟩) := (h1.old 6 (by decide)).trans p6
        have o9 : a.eval (.tmp 9) = .pointer (some ⟨w4.heap.size, 0, none⟩) := (h1.old 9 (by decide)).trans p9
        have o10 : a.eval (.tmp 10) = .int .i64 0 := (h1.old 10 (by decide)).trans p10
        have o12 : a.eval (.tmp 12) = .pointer (some ⟨w5.heap.size, 0, none⟩) := (h1.old 12 (by decide)).trans p12
        have o13 : a.eval (.tmp 13) = .int .i64 c3 := (h1.old 13 (by decide)).trans p13
        have l6 := run_loadVar_row (P := Tryz.prog) X w2.heap.size 25 25 _ (0, 0) _ (B6.stay h2) Tryz.underlying25 rfl (by kernel_rfl)
        have l9 := run_loadVar_row (P := Tryz.prog) X w4.heap.size 25 25 _ (0, 0) _ (B9.stay h2) Tryz.underlying25 rfl (by kernel_rfl)
        have hcase : k = 0 ∨ k = 1 ∨ k = 2 ∨ k = 3 ∨ k = 4 ∨ k = 5 ∨ k = 6 ∨ k = 7 ∨ k = 8 ∨ k = 9 ∨ k = 10 ∨ k = 11 ∨ k = 12 ∨ k = 13 ∨ k = 14 ∨ k = 15 ∨ k = 16 ∨ k = 17 ∨ k = 18 ∨ k = 19 ∨ k = 20 ∨ k = 21 ∨ k = 22 ∨ k = 23 ∨ k = 24 ∨ k = 25 ∨ k = 26 ∨ k = 27 := by omega
        rcases hcase with rfl | rfl | rfl | rfl | rfl | rfl | rfl | rfl | rfl | rfl | rfl | rfl | rfl | rfl | rfl | rfl | rfl | rfl | rfl | rfl | rfl | rfl | rfl | rfl | rfl | rfl | rfl | rfl
        · refine wpOp_of rfl rfl ?_
          exact wp_val (run_move (by first | exact .inl rfl | exact .inr rfl) o10) ⟨put28 h1 0 55 _ (by decide) rfl (by rw [hVS]; rfl), h2⟩
        · have hd0 : listed.getD 0 false = true := by simp [Region.binds] at hk2; simp only [Array.getD_eq_getD_getElem?]; simp [hk2]
          have g0 : a.tmps.getD 55 undef = .int .i64 0 := h1.new 0 _ (by decide) (by rw [hVS]; rfl) hd0
          have e0 : a.eval (.tmp 55) = .int .i64 0 := g0
          refine wpOp_of rfl rfl ?_
          exact wp_val (v := .bool true) (run_bin rfl e0 rfl (by go_simp)) ⟨put28 h1 1 56 _ (by decide) rfl (by rw [hVS]; rfl), h2⟩
        · have hd1 : listed.getD 1 false = true := by simp [Region.binds] at hk2; simp only [Array.getD_eq_getD_getElem?]; simp [hk2]
          have g1 : a.tmps.getD 56 undef = .bool true := h1.new 1 _ (by decide) (by rw [hVS]; rfl) hd1
          have e1 : a.eval (.tmp 56) = .bool true := g1
          refine wpOp_of rfl rfl ?_
          exact wp_val (run_move (by first | exact .inl rfl | exact .inr rfl) e1) ⟨put28 h1 2 57 _ (by decide) rfl (by rw [hVS]; rfl), h2⟩
        · have hd2 : listed.getD 2 false = true := by simp [Region.binds] at hk2; simp only [Array.getD_eq_getD_getElem?]; simp [hk2]
          have g2 : a.tmps.getD 57 undef = .bool true := h1.new 2 _ (by decide) (by rw [hVS]; rfl) hd2
          have e2 : a.eval (.tmp 57) = .bool true := g2
          refine wpOp_w rfl (by rw [wanted_at rfl rfl rfl g2]; rfl) ?_
          exact wp_val (run_load rfl o6 l6) ⟨put28 h1 3 58 _ (by decide) rfl (by rw [hVS]; rfl), h2⟩
        · have hd2 : listed.getD 2 false = true := by simp [Region.binds] at hk2; simp only [Array.getD_eq_getD_getElem?]; simp [hk2]
          have g2 : a.tmps.getD 57 undef = .bool true := h1.new 2 _ (by decide) (by rw [hVS]; rfl) hd2
          have e2 : a.eval (.tmp 57) = .bool true := g2
          refine wpOp_w rfl (by rw [wanted_at rfl rfl rfl g2]; rfl) ?_
          exact wp_val (run_load rfl o9 l9) ⟨put28 h1 4 59 _ (by decide) rfl (by rw [hVS]; rfl), h2⟩
        · have hd2 : listed.getD 2 false = true := by simp [Region.binds] at hk2; simp only [Array.getD_eq_getD_getElem?]; simp [hk2]
          have g2 : a.tmps.getD 57 undef = .bool true := h1.new 2 _ (by decide) (by rw [hVS]; rfl) hd2
          have e2 : a.eval (.tmp 57) = .bool true := g2
          have hd3 : listed.getD 3 false = true := by simp [Region.binds] at hk2; simp only [Array.getD_eq_getD_getElem?]; simp [hk2]
          have g3 : a.tmps.getD 58 undef = .agg #[.int .i64 x1.k, .int .i64 x1.op, .int .i64 x1.n, .string (bstr x1.nm), .slice p1 x1.ks.length c1, .int .i64 x1.a] := h1.new 3 _ (by decide) (by rw [hVS]; rfl) hd3
          have e3 : a.eval (.tmp 58) = .agg #[.int .i64 x1.k, .int .i64 x1.op, .int .i64 x1.n, .string (bstr x1.nm), .slice p1 x1.ks.length c1, .int .i64 x1.a] := g3
          have hd4 : listed.getD 4 false = true := by simp [Region.binds] at hk2; simp only [Array.getD_eq_getD_getElem?]; simp [hk2]
          have g4 : a.tmps.getD 59 undef = .agg #[.int .i64 x2.k, .int .i64 x2.op, .int .i64 x2.n, .string (bstr x2.nm), .slice p2 x2.ks.length c2, .int .i64 x2.a] := h1.new 4 _ (by decide) (by rw [hVS]; rfl) hd4
          have e4 : a.eval (.tmp 59) = .agg #[.int .i64 x2.k, .int .i64 x2.op, .int .i64 x2.n, .string (bstr x2.nm), .slice p2 x2.ks.length c2, .int .i64 x2.a] := g4
          refine wpOp_w rfl (by rw [wanted_at rfl rfl rfl g2]; rfl) ?_
          refine wp_enter (f := 10) (args := #[a.eval (.tmp 58), a.eval (.tmp 59)]) ((Go.Conc.run_call_body rfl Tryz.func10 (by kernel_rfl) (by kernel_rfl)).trans (by simp)) ?_
          rw [e3, e4]
          refine (sameR_any 100000 x1 x2 _ _ X ⟨by omega, by omega⟩ (X1.stay h2) (X2.stay h2)).mono ?_
          rintro e w' ⟨rfl, hb⟩
          exact ⟨.bool true, by first | rfl | (rw [HE.out]), put28 h1 5 60 _ (by decide) rfl (by rw [hVS]; rfl), h2.trans (hb.mono h2.size)⟩
        · have hd2 : listed.getD 2 false = true := by simp [Region.binds] at hk2; simp only [Array.getD_eq_getD_getElem?]; simp [hk2]
          have g2 : a.tmps.getD 57 undef = .bool true := h1.new 2 _ (by decide) (by rw [hVS]; rfl) hd2
          have e2 : a.eval (.tmp 57) = .bool true := g2
          have hd5 : listed.getD 5 false = true := by simp [Region.binds] at hk2; simp only [Array.getD_eq_getD_getElem?]; simp [hk2]
          have g5 : a.tmps.getD 60 undef = .bool true := h1.new 5 _ (by decide) (by rw [hVS]; rfl) hd5
          have e5 : a.eval (.tmp 60) = .bool true := g5
          refine wpOp_of rfl rfl ?_
          exact wp_val (v := .bool true) (run_pick rfl e2 (by first | rfl | exact e5)) ⟨put28 h1 6 61 _ (by decide) rfl (by rw [hVS]; rfl), h2⟩
        · have hd6 : listed.getD 6 false = true := by simp [Region.binds] at hk2; simp only [Array.getD_eq_getD_getElem?]; simp [hk2]
          have g6 : a.tmps.getD 61 undef = .bool true := h1.new 6 _ (by decide) (by rw [hVS]; rfl) hd6
          have e6 : a.eval (.tmp 61) = .bool true := g6
          refine wpOp_of rfl rfl ?_
          exact wp_val (run_move (by first | exact .inl rfl | exact .inr rfl) e6) ⟨put28 h1 7 62 _ (by decide) rfl (by rw [hVS]; rfl), h2⟩
        · have hd7 : listed.getD 7 false = true := by simp [Region.binds] at hk2; simp only [Array.getD_eq_getD_getElem?]; simp [hk2]
          have g7 : a.tmps.getD 62 undef = .bool true := h1.new 7 _ (by decide) (by rw [hVS]; rfl) hd7
          have e7 : a.eval (.tmp 62) = .bool true := g7
          refine wpOp_w rfl (by rw [wanted_at rfl rfl rfl g7]; rfl) ?_
          exact wp_val (run_load rfl o9 l9) ⟨put28 h1 8 63 _ (by decide) rfl (by rw [hVS]; rfl), h2⟩
        · have hd7 : listed.getD 7 false = true := by simp [Region.binds] at hk2; simp only [Array.getD_eq_getD_getElem?]; simp [hk2]
          have g7 : a.tmps.getD 62 undef = .bool true := h1.new 7 _ (by decide) (by rw [hVS]; rfl) hd7
          have e7 : a.eval (.tmp 62) = .bool true := g7
          have hd8 : listed.getD 8 false = true := by simp [Region.binds] at hk2; simp only [Array.getD_eq_getD_getElem?]; simp [hk2]
          have g8 : a.tmps.getD 63 undef = .agg #[.int .i64 x2.k, .int .i64 x2.op, .int .i64 x2.n, .string (bstr x2.nm), .slice p2 x2.ks.length c2, .int .i64 x2.a] := h1.new 8 _ (by decide) (by rw [hVS]; rfl) hd8
          have e8 : a.eval (.tmp 63) = .agg #[.int .i64 x2.k, .int .i64 x2.op, .int .i64 x2.n, .string (bstr x2.nm), .slice p2 x2.ks.length c2, .int .i64 x2.a] := g8
          refine wpOp_w rfl (by rw [wanted_at rfl rfl rfl g7]; rfl) ?_
          refine wp_enter (f := 9) (args := #[a.eval (.tmp 63)]) ((Go.Conc.run_call_body rfl Tryz.func9 (by kernel_rfl) (by kernel_rfl)).trans (by simp)) ?_
          rw [e8]
          refine (show_of HR2.out hl2 x2.ks.length rfl T HT2.out p2 c2 X (X2.stay h2) (L6.out.below h2)).mono ?_
          rintro e w' ⟨rfl, hb⟩
          exact ⟨.string (bstr T), by first | rfl | (rw [← HT2.out]), put28 h1 9 64 _ (by decide) rfl (by rw [hVS]; rfl), h2.trans (hb.mono h2.size)⟩
        · have hd7 : listed.getD 7 false = true := by simp [Region.binds] at hk2; simp only [Array.getD_eq_getD_getElem?]; simp [hk2]
          have g7 : a.tmps.getD 62 undef = .bool true := h1.new 7 _ (by decide) (by rw [hVS]; rfl) hd7
          have e7 : a.eval (.tmp 62) = .bool true := g7
          refine wpOp_w rfl (by rw [wanted_at rfl rfl rfl g7]; rfl) ?_
          exact wp_val (run_load rfl o6 l6) ⟨put28 h1 10 65 _ (by decide) rfl (by rw [hVS]; rfl), h2⟩
        · have hd7 : listed.getD 7 false = true := by simp [Region.binds] at hk2; simp only [Array.getD_eq_getD_getElem?]; simp [hk2]
          have g7 : a.tmps.getD 62 undef = .bool true := h1.new 7 _ (by decide) (by rw [hVS]; rfl) hd7
          have e7 : a.eval (.tmp 62) = .bool true := g7
          have hd10 : listed.getD 10 false = true := by simp [Region.binds] at hk2; simp only [Array.getD_eq_getD_getElem?]; simp [hk2]
          have g10 : a.tmps.getD 65 undef = .agg #[.int .i64 x1.k, .int .i64 x1.op, .int .i64 x1.n, .string (bstr x1.nm), .slice p1 x1.ks.length c1, .int .i64 x1.a] := h1.new 10 _ (by decide) (by rw [hVS]; rfl) hd10
          have e10 : a.eval (.tmp 65) = .agg #[.int .i64 x1.k, .int .i64 x1.op, .int .i64 x1.n, .string (bstr x1.nm), .slice p1 x1.ks.length c1, .int .i64 x1.a] := g10
          refine wpOp_w rfl (by rw [wanted_at rfl rfl rfl g7]; rfl) ?_
          refine wp_enter (f := 9) (args := #[a.eval (.tmp 65)]) ((Go.Conc.run_call_body rfl Tryz.func9 (by kernel_rfl) (by kernel_rfl)).trans (by simp)) ?_
          rw [e10]
          refine (show_of HR.out hl1 x1.ks.length rfl T HT.out p1 c1 X (X1.stay h2) (L6.out.below h2)).mono ?_
          rintro e w' ⟨rfl, hb⟩
          exact ⟨.string (bstr T), by first | rfl | (rfl), put28 h1 11 66 _ (by decide) rfl (by rw [hVS]; rfl), h2.trans (hb.mono h2.size)⟩
        · have hd7 : listed.getD 7 false = true := by simp [Region.binds] at hk2; simp only [Array.getD_eq_getD_getElem?]; simp [hk2]
          have g7 : a.tmps.getD 62 undef = .bool true := h1.new 7 _ (by decide) (by rw [hVS]; rfl) hd7
          have e7 : a.eval (.tmp 62) = .bool true := g7
          have hd9 : listed.getD 9 false = true := by simp [Region.binds] at hk2; simp only [Array.getD_eq_getD_getElem?]; simp [hk2]
          have g9 : a.tmps.getD 64 undef = .string (bstr T) := h1.new 9 _ (by decide) (by rw [hVS]; rfl) hd9
          have e9 : a.eval (.tmp 64) = .string (bstr T) := g9
          have hd11 : listed.getD 11 false = true := by simp [Region.binds] at hk2; simp only [Array.getD_eq_getD_getElem?]; simp [hk2]
          have g11 : a.tmps.getD 66 undef = .string (bstr T) := h1.new 11 _ (by decide) (by rw [hVS]; rfl) hd11
          have e11 : a.eval (.tmp 66) = .string (bstr T) := g11
          refine wpOp_w rfl (by rw [wanted_at rfl rfl rfl g7]; rfl) ?_
          exact wp_val (v := .bool true) (run_bin rfl e9 e11 (by go_simp)) ⟨put28 h1 12 67 _ (by decide) rfl (by rw [hVS]; rfl), h2⟩
        · have hd7 : listed.getD 7 false = true := by simp [Region.binds] at hk2; simp only [Array.getD_eq_getD_getElem?]; simp [hk2]
          have g7 : a.tmps.getD 62 undef = .bool true := h1.new 7 _ (by decide) (by rw [hVS]; rfl) hd7
          have e7 : a.eval (.tmp 62) = .bool true := g7
          have hd12 : listed.getD 12 false = true := by simp [Region.binds] at hk2; simp only [Array.getD_eq_getD_getElem?]; simp [hk2]
          have g12 : a.tmps.getD 67 undef = .bool true := h1.new 12 _ (by decide) (by rw [hVS]; rfl) hd12
          have e12 : a.eval (.tmp 67) = .bool true := g12
          refine wpOp_of rfl rfl ?_
          exact wp_val (v := .bool true) (run_pick rfl e7 (by first | rfl | exact e12)) ⟨put28 h1 13 68 _ (by decide) rfl (by rw [hVS]; rfl), h2⟩
        · have hd13 : listed.getD 13 false = true := by simp [Region.binds] at hk2; simp only [Array.getD_eq_getD_getElem?]; simp [hk2]
          have g13 : a.tmps.getD 68 undef = .bool true := h1.new 13 _ (by decide) (by rw [hVS]; rfl) hd13
          have e13 : a.eval (.tmp 68) = .bool true := g13
          refine wpOp_of rfl rfl ?_
          exact wp_val (run_move (by first | exact .inl rfl | exact .inr rfl) e13) ⟨put28 h1 14 69 _ (by decide) rfl (by rw [hVS]; rfl), h2⟩
        · have hd14 : listed.getD 14 false = true := by simp [Region.binds] at hk2; simp only [Array.getD_eq_getD_getElem?]; simp [hk2]
          have g14 : a.tmps.getD 69 undef = .bool true := h1.new 14 _ (by decide) (by rw [hVS]; rfl) hd14
          have e14 : a.eval (.tmp 69) = .bool true := g14
          refine wpOp_w rfl (by rw [wanted_at rfl rfl rfl g14]; rfl) ?_
          exact wp_val (run_move (by first | exact .inl rfl | exact .inr rfl) o13) ⟨put28 h1 15 70 _ (by decide) rfl (by rw [hVS]; rfl), h2⟩
        · have hd14 : listed.getD 14 false = true := by simp [Region.binds] at hk2; simp only [Array.getD_eq_getD_getElem?]; simp [hk2]
          have g14 : a.tmps.getD 69 undef = .bool true := h1.new 14 _ (by decide) (by rw [hVS]; rfl) hd14
          have e14 : a.eval (.tmp 69) = .bool true := g14
          have hd15 : listed.getD 15 false = true := by simp [Region.binds] at hk2; simp only [Array.getD_eq_getD_getElem?]; simp [hk2]
          have g15 : a.tmps.getD 70 undef = .int .i64 c3 := h1.new 15 _ (by decide) (by rw [hVS]; rfl) hd15
          have e15 : a.eval (.tmp 70) = .int .i64 c3 := g15
          refine wpOp_w rfl (by rw [wanted_at rfl rfl rfl g14]; rfl) ?_
          exact wp_val (v := .bool true) (run_bin rfl e15 rfl (by go_simp)) ⟨put28 h1 16 71 _ (by decide) rfl (by rw [hVS]; rfl), h2⟩
        · have hd14 : listed.getD 14 false = true := by simp [Region.binds] at hk2; simp only [Array.getD_eq_getD_getElem?]; simp [hk2]
          have g14 : a.tmps.getD 69 undef = .bool true := h1.new 14 _ (by decide) (by rw [hVS]; rfl) hd14
          have e14 : a.eval (.tmp 69) = .bool true := g14
          have hd16 : listed.getD 16 false = true := by simp [Region.binds] at hk2; simp only [Array.getD_eq_getD_getElem?]; simp [hk2]
          have g16 : a.tmps.getD 71 undef = .bool true := h1.new 16 _ (by decide) (by rw [hVS]; rfl) hd16
          have e16 : a.eval (.tmp 71) = .bool true := g16
          refine wpOp_w rfl (by rw [wanted_at rfl rfl rfl g14]; rfl) ?_
          exact wp_val (run_move (by first | exact .inl rfl | exact .inr rfl) e16) ⟨put28 h1 17 72 _ (by decide) rfl (by rw [hVS]; rfl), h2⟩
        · have hd17 : listed.getD 17 false = true := by simp [Region.binds] at hk2; simp only [Array.getD_eq_getD_getElem?]; simp [hk2]
          have g17 : a.tmps.getD 72 undef = .bool true := h1.new 17 _ (by decide) (by rw [hVS]; rfl) hd17
          have e17 : a.eval (.tmp 72) = .bool true := g17
          refine wpOp_s rfl (by rw [wanted_at rfl rfl rfl g17]; rfl) ?_
          exact ⟨skip28 h1 18 73 _ (by decide) rfl (by rw [hVS]; rfl), h2⟩
        · have hd17 : listed.getD 17 false = true := by simp [Region.binds] at hk2; simp only [Array.getD_eq_getD_getElem?]; simp [hk2]
          have g17 : a.tmps.getD 72 undef = .bool true := h1.new 17 _ (by decide) (by rw [hVS]; rfl) hd17
          have e17 : a.eval (.tmp 72) = .bool true := g17
          refine wpOp_s rfl (by rw [wanted_at rfl rfl rfl g17]; rfl) ?_
          exact ⟨skip28 h1 19 74 _ (by decide) rfl (by rw [hVS]; rfl), h2⟩
        · have hd17 : listed.getD 17 false = true := by simp [Region.binds] at hk2; simp only [Array.getD_eq_getD_getElem?]; simp [hk2]
          have g17 : a.tmps.getD 72 undef = .bool true := h1.new 17 _ (by decide) (by rw [hVS]; rfl) hd17
          have e17 : a.eval (.tmp 72) = .bool true := g17
          refine wpOp_s rfl (by rw [wanted_at rfl rfl rfl g17]; rfl) ?_
          exact ⟨skip28 h1 20 75 _ (by decide) rfl (by rw [hVS]; rfl), h2⟩
        · have hd17 : listed.getD 17 false = true := by simp [Region.binds] at hk2; simp only [Array.getD_eq_getD_getElem?]; simp [hk2]
          have g17 : a.tmps.getD 72 undef = .bool true := h1.new 17 _ (by decide) (by rw [hVS]; rfl) hd17
          have e17 : a.eval (.tmp 72) = .bool true := g17
          refine wpOp_s rfl (by rw [wanted_at rfl rfl rfl g17]; rfl) ?_
          exact ⟨skip28 h1 21 76 _ (by decide) rfl (by rw [hVS]; rfl), h2⟩
        · have hd17 : listed.getD 17 false = true := by simp [Region.binds] at hk2; simp only [Array.getD_eq_getD_getElem?]; simp [hk2]
          have g17 : a.tmps.getD 72 undef = .bool true := h1.new 17 _ (by decide) (by rw [hVS]; rfl) hd17
          have e17 : a.eval (.tmp 72) = .bool true := g17
          refine wpOp_s rfl (by rw [wanted_at rfl rfl rfl g17]; rfl) ?_
          exact ⟨skip28 h1 22 77 _ (by decide) rfl (by rw [hVS]; rfl), h2⟩
        · have hd17 : listed.getD 17 false = true := by simp [Region.binds] at hk2; simp only [Array.getD_eq_getD_getElem?]; simp [hk2]
          have g17 : a.tmps.getD 72 undef = .bool true := h1.new 17 _ (by decide) (by rw [hVS]; rfl) hd17
          have e17 : a.eval (.tmp 72) = .bool true := g17
          refine wpOp_s rfl (by rw [wanted_at rfl rfl rfl g17]; rfl) ?_
          exact ⟨skip28 h1 23 78 _ (by decide) rfl (by rw [hVS]; rfl), h2⟩
        · have hd17 : listed.getD 17 false = true := by simp [Region.binds] at hk2; simp only [Array.getD_eq_getD_getElem?]; simp [hk2]
          have g17 : a.tmps.getD 72 undef = .bool true := h1.new 17 _ (by decide) (by rw [hVS]; rfl) hd17
          have e17 : a.eval (.tmp 72) = .bool true := g17
          refine wpOp_s rfl (by rw [wanted_at rfl rfl rfl g17]; rfl) ?_
          exact ⟨skip28 h1 24 79 _ (by decide) rfl (by rw [hVS]; rfl), h2⟩
        · have hd14 : listed.getD 14 false = true := by simp [Region.binds] at hk2; simp only [Array.getD_eq_getD_getElem?]; simp [hk2]
          have g14 : a.tmps.getD 69 undef = .bool true := h1.new 14 _ (by decide) (by rw [hVS]; rfl) hd14
          have e14 : a.eval (.tmp 69) = .bool true := g14
          have hd17 : listed.getD 17 false = true := by simp [Region.binds] at hk2; simp only [Array.getD_eq_getD_getElem?]; simp [hk2]
          have g17 : a.tmps.getD 72 undef = .bool true := h1.new 17 _ (by decide) (by rw [hVS]; rfl) hd17
          have e17 : a.eval (.tmp 72) = .bool true := g17
          refine wpOp_w rfl (by rw [wanted_at rfl rfl rfl g14]; rfl) ?_
          exact wp_val (v := .bool true) (run_pick rfl e17 rfl) ⟨put28 h1 25 80 _ (by decide) rfl (by rw [hVS]; rfl), h2⟩
        · have hd14 : listed.getD 14 false = true := by simp [Region.binds] at hk2; simp only [Array.getD_eq_getD_getElem?]; simp [hk2]
          have g14 : a.tmps.getD 69 undef = .bool true := h1.new 14 _ (by decide) (by rw [hVS]; rfl) hd14
          have e14 : a.eval (.tmp 69) = .bool true := g14
          have hd25 : listed.getD 25 false = true := by simp [Region.binds] at hk2; simp only [Array.getD_eq_getD_getElem?]; simp [hk2]
          have g25 : a.tmps.getD 80 undef = .bool true := h1.new 25 _ (by decide) (by rw [hVS]; rfl) hd25
          have e25 : a.eval (.tmp 80) = .bool true := g25
          refine wpOp_of rfl rfl ?_
          exact wp_val (v := .bool true) (run_pick rfl e14 (by first | rfl | exact e25)) ⟨put28 h1 26 81 _ (by decide) rfl (by rw [hVS]; rfl), h2⟩
        · have hd26 : listed.getD 26 false = true := by simp [Region.binds] at hk2; simp only [Array.getD_eq_getD_getElem?]; simp [hk2]
          have g26 : a.tmps.getD 81 undef = .bool true := h1.new 26 _ (by decide) (by rw [hVS]; rfl) hd26
          have e26 : a.eval (.tmp 81) = .bool true := g26
          refine wpOp_of rfl rfl ?_
          exact wp_val (run_move (by first | exact .inl rfl | exact .inr rfl) e26) ⟨put28 h1 27 4 _ (by decide) rfl (by rw [hVS]; rfl), h2⟩
    | ok x3 =>
      obtain ⟨R, hR⟩ : ∃ R, R = x1.eqv x3 := ⟨_, rfl⟩
      have HX := Lib.hid hR
      have HR3 := Lib.hid hr3
      clear hr hr2 hT he12 hF1 hr3 hR
      go_wp2_with (first
        | (go_at_call 7; (with_reducible refine (awake_any _ L).mono ?_); rintro e' w1 ⟨rfl, hb1⟩)
        | (go_at_call 8; (with_reducible refine (of_ok s hs x1 x1.ks.length rfl _ (L.out.below (by (refine Fr.below ?_; (repeat (first | (with_reducible exact Fr.refl _ _) | (with_reducible refine Fr.alloc ?_ _) | (with_reducible refine Fr.drewN ?_ _) | (with_reducible refine Fr.drew ?_) | (with_reducible refine Fr.set ?_ ?_ _ _; rotate_left; first | exact .inl rfl | (right; simp; done) | (right; simp; omega) | (right; omega)) | (with_reducible refine Fr.step ?_ (by assumption)) | (with_reducible refine Fr.stepB ?_ (by assumption))))))) HR.out).mono ?_); rintro e2 w2 ⟨p1, c1, rfl, hx1, hb2⟩; have hz2 := hb2.size; (try simp at hz2))
        | (go_at_call 9; (with_reducible refine (show_of HR.out hl1 x1.ks.length rfl T HT.out p1 c1 _ (hx1.alloc _) (L.out.below (by (refine Fr.below ?_; (repeat (first | (with_reducible exact Fr.refl _ _) | (with_reducible refine Fr.alloc ?_ _) | (with_reducible refine Fr.drewN ?_ _) | (with_reducible refine Fr.drew ?_) | (with_reducible refine Fr.set ?_ ?_ _ _; rotate_left; first | exact .inl rfl | (right; simp; done) | (right; simp; omega) | (right; omega)) | (with_reducible refine Fr.step ?_ (by assumption)) | (with_reducible refine Fr.stepB ?_ (by assumption)))))))).mono ?_); rintro e3 w3 ⟨rfl, hb3⟩; have hz3 := hb3.size; (try simp at hz3))
        | (go_at_call 8; (with_reducible refine (of_ok (bstr T) hTl x2 x2.ks.length rfl _ (L.out.below (by (refine Fr.below ?_; (repeat (first | (with_reducible exact Fr.refl _ _) | (with_reducible refine Fr.alloc ?_ _) | (with_reducible refine Fr.drewN ?_ _) | (with_reducible refine Fr.drew ?_) | (with_reducible refine Fr.set ?_ ?_ _ _; rotate_left; first | exact .inl rfl | (right; simp; done) | (right; simp; omega) | (right; omega)) | (with_reducible refine Fr.step ?_ (by assumption)) | (with_reducible refine Fr.stepB ?_ (by assumption))))))) HR2.out).mono ?_); rintro e4 w4 ⟨p2, c2, rfl, hx2, hb4⟩; have hz4 := hb4.size; (try simp at hz4))
        | (go_at_call 8; (with_reducible refine (of_ok t ht x3 x3.ks.length rfl _ (L.out.below (by (refine Fr.below ?_; (repeat (first | (with_reducible exact Fr.refl _ _) | (with_reducible refine Fr.alloc ?_ _) | (with_reducible refine Fr.drewN ?_ _) | (with_reducible refine Fr.drew ?_) | (with_reducible refine Fr.set ?_ ?_ _ _; rotate_left; first | exact .inl rfl | (right; simp; done) | (right; simp; omega) | (right; omega)) | (with_reducible refine Fr.step ?_ (by assumption)) | (with_reducible refine Fr.stepB ?_ (by assumption))))))) HR3.out).mono ?_); rintro e5 w5 ⟨p3, c5, rfl, hx3, hb5⟩; have hz5 := hb5.size; (try simp at hz5)))
      refine name_world ?_
      intro W6 hW6
      have B6 : Blk W6 w2.heap.size (.int .i64 x1.k) (.int .i64 x1.op) (.int .i64 x1.n) (.string (bstr x1.nm)) (.slice p1 x1.ks.length c1) (.int .i64 x1.a) := by (rw [hW6]; exact ((((((Blk.new rfl _ _ _ _ _ _).stay hb3).stay hb4).alloc _).stay hb5).alloc _))
      have B9 : Blk W6 w4.heap.size (.int .i64 x2.k) (.int .i64 x2.op) (.int .i64 x2.n) (.string (bstr x2.nm)) (.slice p2 x2.ks.length c2) (.int .i64 x2.a) := by (rw [hW6]; exact (((Blk.new rfl _ _ _ _ _ _).stay hb5).alloc _))
      have B12 : Blk W6 w5.heap.size (.int .i64 x3.k) (.int .i64 x3.op) (.int .i64 x3.n) (.string (bstr x3.nm)) (.slice p3 x3.ks.length c5) (.int .i64 x3.a) := by (rw [hW6]; exact (Blk.new rfl _ _ _ _ _ _))
      have X1 : IsEx 0 W6 x1 (.slice p1 x1.ks.length c1) := by (rw [hW6]; exact (((((hx1.alloc _).stay hb3).stay hb4).alloc _).stay hb5).alloc _)
      have X2 : IsEx 0 W6 x2 (.slice p2 x2.ks.length c2) := by (rw [hW6]; exact ((hx2.alloc _).stay hb5).alloc _)
      have X3 : IsEx 0 W6 x3 (.slice p3 x3.ks.length c5) := by (rw [hW6]; exact hx3.alloc _)
      have hB6 : Below W.heap.size W W6 := by (rw [hW6]; (refine Fr.below ?_; (repeat (first | (with_reducible exact Fr.refl _ _) | (with_reducible refine Fr.alloc ?_ _) | (with_reducible refine Fr.drewN ?_ _) | (with_reducible refine Fr.drew ?_) | (with_reducible refine Fr.set ?_ ?_ _ _; rotate_left; first | exact .inl rfl | (right; simp; done) | (right; simp; omega) | (right; omega)) | (with_reducible refine Fr.step ?_ (by assumption)) | (with_reducible refine Fr.stepB ?_ (by assumption))))))
      have L6 := Lib.hid (L.out.below hB6)
      clear hW6 hb1 hb2 hb3 hb4 hb5 hx1 hx2 hx3 hz2 hz3 hz4 hz5
      refine name_act ?_
      intro a0 ha0
      have p6 : a0.tmps.getD 6 undef = .pointer (some ⟨w2.heap.size, 0, none⟩) := by (rw [ha0]; rfl)
      have p9 : a0.tmps.getD 9 undef = .pointer (some ⟨w4.heap.size, 0, none⟩) := by (rw [ha0]; rfl)
      have p10 : a0.tmps.getD 10 undef = .int .i64 0 := by (rw [ha0]; rfl)
      have p12 : a0.tmps.getD 12 undef = .pointer (some ⟨w5.heap.size, 0, none⟩) := by (rw [ha0]; rfl)
      have p13 : a0.tmps.getD 13 undef = .int .i64 0 := by (rw [ha0]; rfl)
      have q1 : a0.tmps.size = 82 := by (rw [ha0]; rfl)
      have q2 : a0.defers = [] := by (rw [ha0])
      clear ha0
      obtain ⟨VS, hVS⟩ : ∃ VS : List (Option Value), VS = [some (.int .i64 0), some (.bool true), some (.bool true), some (.agg #[.int .i64 x1.k, .int .i64 x1.op, .int .i64 x1.n, .string (bstr x1.nm), .slice p1 x1.ks.length c1, .int .i64 x1.a]), some (.agg #[.int .i64 x2.k, .int .i64 x2.op, .int .i64 x2.n, .string (bstr x2.nm), .slice p2 x2.ks.length c2, .int .i64 x2.a]), some (.bool true), some (.bool true), some (.bool true), some (.agg #[.int .i64 x2.k, .int .i64 x2.op, .int .i64 x2.n, .string (bstr x2.nm), .slice p2 x2.ks.length c2, .int .i64 x2.a]), some (.string (bstr T)), some (.agg #[.int .i64 x1.k, .int .i64 x1.op, .int .i64 x1.n, .string (bstr x1.nm), .slice p1 x1.ks.length c1, .int .i64 x1.a]), some (.string (bstr T)), some (.bool true), some (.bool true), some (.bool true), some (.int .i64 0), some (.bool false), some (.bool false), some (.agg #[.int .i64 x1.k, .int .i64 x1.op, .int .i64 x1.n, .string (bstr x1.nm), .slice p1 x1.ks.length c1, .int .i64 x1.a]), some (.agg #[.int .i64 x3.k, .int .i64 x3.op, .int .i64 x3.n, .string (bstr x3.nm), .slice p3 x3.ks.length c5, .int .i64 x3.a]), some (.bool R), some (.agg #[.int .i64 x1.k, .int .i64 x1.op, .int .i64 x1.n, .string (bstr x1.nm), .slice p1 x1.ks.length c1, .int .i64 x1.a]), some (.agg #[.int .i64 x3.k, .int .i64 x3.op, .int .i64 x3.n, .string (bstr x3.nm), .slice p3 x3.ks.length c5, .int .i64 x3.a]), some (.bool R), some (.bool true), some (.bool true), some (.bool true), some (.bool true)] := ⟨_, rfl⟩
      refine wp_region_any (by kernel_rfl) ?_
      refine wpAny_inv (fun listed a X => Ins 28 82 dstK VS a0.tmps listed a ∧ Below W6.heap.size W6 X) ?step ?fin _ _ _ _ ⟨⟨rfl, q1, q2, fun d _ => rfl, fun k v hk _ hl => absurd ((none_yet k hk).symm.trans hl) (by simp)⟩, (Below.refl _ _).drew⟩ (by rfl) (by decide)
      case fin =>
        intro listed a X ⟨h1, h2⟩ hr
        have hl := all_came (by rw [h1.size]; rfl) hr (by decide +kernel) 27 (by decide)
        have h4 : a.tmps.getD 4 undef = .bool true := h1.new 27 (.bool true) (by decide) (by rw [hVS]; rfl) hl
        have h5 := h1.defs
        clear hr
        have Z := Lib.hid (hB6.trans (h2.mono hB6.size))
        obtain ⟨tm, df⟩ := a
        simp only at h4 h5
        subst h5
        have h6 : tm[4]?.getD undef = .bool true := by (rw [← Array.getD_eq_getD_getElem?]; exact h4)
        clear h1 h2 hl h4 hVS p6 p9 p10 p12 p13 q1 q2 X1 X2 X3 B6 B9 B12 hB6
        go_wp2
        go_ret
        exact ⟨by first | rfl | (simp [h6]; done), Z.out⟩
      case step =>
        intro listed a X k ⟨h1, h2⟩ hk
        have hlt : k < 28 := List.mem_range.1 (List.mem_filter.1 hk).1
        have hk2 := (List.mem_filter.1 hk).2
        have o6 : a.eval (.tmp 6) = .pointer (some ⟨w2.heap.size, 0, none⟩) := (h1.old 6 (by decide)).trans p6
        have o9 : a.eval (.tmp 9) = .pointer (some ⟨w4.heap.size, 0, none⟩) := (h1.old 9 (by decide)).trans p9
        have o10 : a.eval (.tmp 10) = .int .i64 0 := (h1.old 10 (by decide)).trans p10
        have o12 : a.eval (.tmp 12) = .pointer (some ⟨w5.heap.size, 0, none⟩) := (h1.old 12 (by decide)).trans p12
        have o13 : a.eval (.tmp 13) = .int .i64 0 := (h1.old 13 (by decide)).trans p13
        have l6 := run_loadVar_row (P := Tryz.prog) X w2.heap.size 25 25 _ (0, 0) _ (B6.stay h2) Tryz.underlying25 rfl (by kernel_rfl)
        have l9 := run_loadVar_row (P := Tryz.prog) X w4.heap.size 25 25 _ (0, 0) _ (B9.stay h2) Tryz.underlying25 rfl (by kernel_rfl)
        have l12 := run_loadVar_row (P := Tryz.prog) X w5.heap.size 25 25 _ (0, 0) _ (B12.stay h2) Tryz.underlying25 rfl (by kernel_rfl)
        have hcase : k = 0 ∨ k = 1 ∨ k = 2 ∨ k = 3 ∨ k = 4 ∨ k = 5 ∨ k = 6 ∨ k = 7 ∨ k = 8 ∨ k = 9 ∨ k = 10 ∨ k = 11 ∨ k = 12 ∨ k = 13 ∨ k = 14 ∨ k = 15 ∨ k = 16 ∨ k = 17 ∨ k = 18 ∨ k = 19 ∨ k = 20 ∨ k = 21 ∨ k = 22 ∨ k = 23 ∨ k = 24 ∨ k = 25 ∨ k = 26 ∨ k = 27 := by omega
        rcases hcase with rfl | rfl | rfl | rfl | rfl | rfl | rfl | rfl | rfl | rfl | rfl | rfl | rfl | rfl | rfl | rfl | rfl | rfl | rfl | rfl | rfl | rfl | rfl | rfl | rfl | rfl | rfl | rfl
        · refine wpOp_of rfl rfl ?_
          exact wp_val (run_move (by first | exact .inl rfl | exact .inr rfl) o10) ⟨put28 h1 0 55 _ (by decide) rfl (by rw [hVS]; rfl), h2⟩
        · have hd0 : listed.getD 0 false = true := by simp [Region.binds] at hk2; simp only [Array.getD_eq_getD_getElem?]; simp [hk2]
          have g0 : a.tmps.getD 55 undef = .int .i64 0 := h1.new 0 _ (by decide) (by rw [hVS]; rfl) hd0
          have e0 : a.eval (.tmp 55) = .int .i64 0 := g0
          refine wpOp_of rfl rfl ?_
          exact wp_val (v := .bool true) (run_bin rfl e0 rfl (by go_simp)) ⟨put28 h1 1 56 _ (by decide) rfl (by rw [hVS]; rfl), h2⟩
        · have hd1 : listed.getD 1 false = true := by simp [Region.binds] at hk2; simp only [Array.getD_eq_getD_getElem?]; simp [hk2]
          have g1 : a.tmps.getD 56 undef = .bool true := h1.new 1 _ (by decide) (by rw [hVS]; rfl) hd1
          have e1 : a.eval (.tmp 56) = .bool true := g1
          refine wpOp_of rfl rfl ?_
          exact wp_val (run_move (by first | exact .inl rfl | exact .inr rfl) e1) ⟨put28 h1 2 57 _ (by decide) rfl (by rw [hVS]; rfl), h2⟩
        · have hd2 : listed.getD 2 false = true := by simp [Region.binds] at hk2; simp only [Array.getD_eq_getD_getElem?]; simp [hk2]
          have g2 : a.tmps.getD 57 undef = .bool true := h1.new 2 _ (by decide) (by rw [hVS]; rfl) hd2
          have e2 : a.eval (.tmp 57) = .bool true := g2
          refine wpOp_w rfl (by rw [wanted_at rfl rfl rfl g2]; rfl) ?_
          exact wp_val (run_load rfl o6 l6) ⟨put28 h1 3 58 _ (by decide) rfl (by rw [hVS]; rfl), h2⟩
        · have hd2 : listed.getD 2 false = true := by simp [Region.binds] at hk2; simp only [Array.getD_eq_getD_getElem?]; simp [hk2]
          have g2 : a.tmps.getD 57 undef = .bool true := h1.new 2 _ (by decide) (by rw [hVS]; rfl) hd2
          have e2 : a.eval (.tmp 57) = .bool true := g2
          refine wpOp_w rfl (by rw [wanted_at rfl rfl rfl g2]; rfl) ?_
          exact wp_val (run_load rfl o9 l9) ⟨put28 h1 4 59 _ (by decide) rfl (by rw [hVS]; rfl), h2⟩
        · have hd2 : listed.getD 2 false = true := by simp [Region.binds] at hk2; simp only [Array.getD_eq_getD_getElem?]; simp [hk2]
          have g2 : a.tmps.getD 57 undef = .bool true := h1.new 2 _ (by decide) (by rw [hVS]; rfl) hd2
          have e2 : a.eval (.tmp 57) = .bool true := g2
          have hd3 : listed.getD 3 false = true := by simp [Region.binds] at hk2; simp only [Array.getD_eq_getD_getElem?]; simp [hk2]
          have g3 : a.tmps.getD 58 undef = .agg #[.int .i64 x1.k, .int .i64 x1.op, .int .i64 x1.n, .string (bstr x1.nm), .slice p1 x1.ks.length c1, .int .i64 x1.a] := h1.new 3 _ (by decide) (by rw [hVS]; rfl) hd3
          have e3 : a.eval (.tmp 58) = .agg #[.int .i64 x1.k, .int .i64 x1.op, .int .i64 x1.n, .string (bstr x1.nm), .slice p1 x1.ks.length c1, .int .i64 x1.a] := g3
          have hd4 : listed.getD 4 false = true := by simp [Region.binds] at hk2; simp only [Array.getD_eq_getD_getElem?]; simp [hk2]
          have g4 : a.tmps.getD 59 undef = .agg #[.int .i64 x2.k, .int .i64 x2.op, .int .i64 x2.n, .string (bstr x2.nm), .slice p2 x2.ks.length c2, .int .i64 x2.a] := h1.new 4 _ (by decide) (by rw [hVS]; rfl) hd4
          have e4 : a.eval (.tmp 59) = .agg #[.int .i64 x2.k, .int .i64 x2.op, .int .i64 x2.n, .string (bstr x2.nm), .slice p2 x2.ks.length c2, .int .i64 x2.a] := g4
          refine wpOp_w rfl (by rw [wanted_at rfl rfl rfl g2]; rfl) ?_
          refine wp_enter (f := 10) (args := #[a.eval (.tmp 58), a.eval (.tmp 59)]) ((Go.Conc.run_call_body rfl Tryz.func10 (by kernel_rfl) (by kernel_rfl)).trans (by simp)) ?_
          rw [e3, e4]
          refine (sameR_any 100000 x1 x2 _ _ X ⟨by omega, by omega⟩ (X1.stay h2) (X2.stay h2)).mono ?_
          rintro e w' ⟨rfl, hb⟩
          exact ⟨.bool true, by first | rfl | (rw [HE.out]), put28 h1 5 60 _ (by decide) rfl (by rw [hVS]; rfl), h2.trans (hb.mono h2.size)⟩
        · have hd2 : listed.getD 2 false = true := by simp [Region.binds] at hk2; simp only [Array.getD_eq_getD_getElem?]; simp [hk2]
          have g2 : a.tmps.getD 57 undef = .bool true := h1.new 2 _ (by decide) (by rw [hVS]; rfl) hd2
          have e2 : a.eval (.tmp 57) = .bool true := g2
          have hd5 : listed.getD 5 false = true := by simp [Region.binds] at hk2; simp only [Array.getD_eq_getD_getElem?]; simp [hk2]
          have g5 : a.tmps.getD 60 undef = .bool true := h1.new 5 _ (by decide) (by rw [hVS]; rfl) hd5
          have e5 : a.eval (.tmp 60) = .bool true := g5
          refine wpOp_of rfl rfl ?_
          exact wp_val (v := .bool true) (run_pick rfl e2 (by first | rfl | exact e5)) ⟨put28 h1 6 61 _ (by decide) rfl (by rw [hVS]; rfl), h2⟩
        · have hd6 : listed.getD 6 false = true := by simp [Region.binds] at hk2; simp only [Array.getD_eq_getD_getElem?]; simp [hk2]
          have g6 : a.tmps.getD 61 undef = .bool true := h1.new 6 _ (by decide) (by rw [hVS]; rfl) hd6
          have e6 : a.eval (.tmp 61) = .bool true := g6
          refine wpOp_of rfl rfl ?_
          exact wp_val (run_move (by first | exact .inl rfl | exact .inr rfl) e6) ⟨put28 h1 7 62 _ (by decide) rfl (by rw [hVS]; rfl), h2⟩
        · have hd7 : listed.getD 7 false = true := by simp [Region.binds] at hk2; simp only [Array.getD_eq_getD_getElem?]; simp [hk2]
          have g7 : a.tmps.getD 62 undef = .bool true := h1.new 7 _ (by decide) (by rw [hVS]; rfl) hd7
          have e7 : a.eval (.tmp 62) = .bool true := g7
          refine wpOp_w rfl (by rw [wanted_at rfl rfl rfl g7]; rfl) ?_
          exact wp_val (run_load rfl o9 l9) ⟨put28 h1 8 63 _ (by decide) rfl (by rw [hVS]; rfl), h2⟩
        · have hd7 : listed.getD 7 false = true := by simp [Region.binds] at hk2; simp only [Array.getD_eq_getD_getElem?]; simp [hk2]
          have g7 : a.tmps.getD 62 undef = .bool true := h1.new 7 _ (by decide) (by rw [hVS]; rfl) hd7
          have e7 : a.eval (.tmp 62) = .bool true := g7
          have hd8 : listed.getD 8 false = true := by simp [Region.binds] at hk2; simp only [Array.getD_eq_getD_getElem?]; simp [hk2]
          have g8 : a.tmps.getD 63 undef = .agg #[.int .i64 x2.k, .int .i64 x2.op, .int .i64 x2.n, .string (bstr x2.nm), .slice p2 x2.ks.length c2, .int .i64 x2.a] := h1.new 8 _ (by decide) (by rw [hVS]; rfl) hd8
          have e8 : a.eval (.tmp 63) = .agg #[.int .i64 x2.k, .int .i64 x2.op, .int .i64 x2.n, .string (bstr x2.nm), .slice p2 x2.ks.length c2, .int .i64 x2.a] := g8
          refine wpOp_w rfl (by rw [wanted_at rfl rfl rfl g7]; rfl) ?_
          refine wp_enter (f := 9) (args := #[a.eval (.tmp 63)]) ((Go.Conc.run_call_body rfl Tryz.func9 (by kernel_rfl) (by kernel_rfl)).trans (by simp)) ?_
          rw [e8]
          refine (show_of HR2.out hl2 x2.ks.length rfl T HT2.out p2 c2 X (X2.stay h2) (L6.out.below h2)).mono ?_
          rintro e w' ⟨rfl, hb⟩
          exact ⟨.string (bstr T), by first | rfl | (rw [← HT2.out]), put28 h1 9 64 _ (by decide) rfl (by rw [hVS]; rfl), h2.trans (hb.mono h2.size)⟩
        · have hd7 : listed.getD 7 false = true := by simp [Region.binds] at hk2; simp only [Array.getD_eq_getD_getElem?]; simp [hk2]
          have g7 : a.tmps.getD 62 undef = .bool true := h1.new 7 _ (by decide) (by rw [hVS]; rfl) hd7
          have e7 : a.eval (.tmp 62) = .bool true := g7
          refine wpOp_w rfl (by rw [wanted_at rfl rfl rfl g7]; rfl) ?_
          exact wp_val (run_load rfl o6 l6) ⟨put28 h1 10 65 _ (by decide) rfl (by rw [hVS]; rfl), h2⟩
        · have hd7 : listed.getD 7 false = true := by simp [Region.binds] at hk2; simp only [Array.getD_eq_getD_getElem?]; simp [hk2]
          have g7 : a.tmps.getD 62 undef = .bool true := h1.new 7 _ (by decide) (by rw [hVS]; rfl) hd7
          have e7 : a.eval (.tmp 62) = .bool true := g7
          have hd10 : listed.getD 10 false = true := by simp [Region.binds] at hk2; simp only [Array.getD_eq_getD_getElem?]; simp [hk2]
          have g10 : a.tmps.getD 65 undef = .agg #[.int .i64 x1.k, .int .i64 x1.op, .int .i64 x1.n, .string (bstr x1.nm), .slice p1 x1.ks.length c1, .int .i64 x1.a] := h1.new 10 _ (by decide) (by rw [hVS]; rfl) hd10
          have e10 : a.eval (.tmp 65) = .agg #[.int .i64 x1.k, .int .i64 x1.op, .int .i64 x1.n, .string (bstr x1.nm), .slice p1 x1.ks.length c1, .int .i64 x1.a] := g10
          refine wpOp_w rfl (by rw [wanted_at rfl rfl rfl g7]; rfl) ?_
          refine wp_enter (f := 9) (args := #[a.eval (.tmp 65)]) ((Go.Conc.run_call_body rfl Tryz.func9 (by kernel_rfl) (by kernel_rfl)).trans (by simp)) ?_
          rw [e10]
          refine (show_of HR.out hl1 x1.ks.length rfl T HT.out p1 c1 X (X1.stay h2) (L6.out.below h2)).mono ?_
          rintro e w' ⟨rfl, hb⟩
          exact ⟨.string (bstr T), by first | rfl | (rfl), put28 h1 11 66 _ (by decide) rfl (by rw [hVS]; rfl), h2.trans (hb.mono h2.size)⟩
        · have hd7 : listed.getD 7 false = true := by simp [Region.binds] at hk2; simp only [Array.getD_eq_getD_getElem?]; simp [hk2]
          have g7 : a.tmps.getD 62 undef = .bool true := h1.new 7 _ (by decide) (by rw [hVS]; rfl) hd7
          have e7 : a.eval (.tmp 62) = .bool true := g7
          have hd9 : listed.getD 9 false = true := by simp [Region.binds] at hk2; simp only [Array.getD_eq_getD_getElem?]; simp [hk2]
          have g9 : a.tmps.getD 64 undef = .string (bstr T) := h1.new 9 _ (by decide) (by rw [hVS]; rfl) hd9
          have e9 : a.eval (.tmp 64) = .string (bstr T) := g9
          have hd11 : listed.getD 11 false = true := by simp [Region.binds] at hk2; simp only [Array.getD_eq_getD_getElem?]; simp [hk2]
          have g11 : a.tmps.getD 66 undef = .string (bstr T) := h1.new 11 _ (by decide) (by rw [hVS]; rfl) hd11
          have e11 : a.eval (.tmp 66) = .string (bstr T) := g11
          refine wpOp_w rfl (by rw [wanted_at rfl rfl rfl g7]; rfl) ?_
          exact wp_val (v := .bool true) (run_bin rfl e9 e11 (by go_simp)) ⟨put28 h1 12 67 _ (by decide) rfl (by rw [hVS]; rfl), h2⟩
        · have hd7 : listed.getD 7 false = true := by simp [Region.binds] at hk2; simp only [Array.getD_eq_getD_getElem?]; simp [hk2]
          have g7 : a.tmps.getD 62 undef = .bool true := h1.new 7 _ (by decide) (by rw [hVS]; rfl) hd7
          have e7 : a.eval (.tmp 62) = .bool true := g7
          have hd12 : listed.getD 12 false = true := by simp [Region.binds] at hk2; simp only [Array.getD_eq_getD_getElem?]; simp [hk2]
          have g12 : a.tmps.getD 67 undef = .bool true := h1.new 12 _ (by decide) (by rw [hVS]; rfl) hd12
          have e12 : a.eval (.tmp 67) = .bool true := g12
          refine wpOp_of rfl rfl ?_
          exact wp_val (v := .bool true) (run_pick rfl e7 (by first | rfl | exact e12)) ⟨put28 h1 13 68 _ (by decide) rfl (by rw [hVS]; rfl), h2⟩
        · have hd13 : listed.getD 13 false = true := by simp [Region.binds] at hk2; simp only [Array.getD_eq_getD_getElem?]; simp [hk2]
          have g13 : a.tmps.getD 68 undef = .bool true := h1.new 13 _ (by decide) (by rw [hVS]; rfl) hd13
          have e13 : a.eval (.tmp 68) = .bool true := g13
          refine wpOp_of rfl rfl ?_
          exact wp_val (run_move (by first | exact .inl rfl | exact .inr rfl) e13) ⟨put28 h1 14 69 _ (by decide) rfl (by rw [hVS]; rfl), h2⟩
        · have hd14 : listed.getD 14 false = true := by simp [Region.binds] at hk2; simp only [Array.getD_eq_getD_getElem?]; simp [hk2]
          have g14 : a.tmps.getD 69 undef = .bool true := h1.new 14 _ (by decide) (by rw [hVS]; rfl) hd14
          have e14 : a.eval (.tmp 69) = .bool true := g14
          refine wpOp_w rfl (by rw [wanted_at rfl rfl rfl g14]; rfl) ?_
          exact wp_val (run_move (by first | exact .inl rfl | exact .inr rfl) o13) ⟨put28 h1 15 70 _ (by decide) rfl (by rw [hVS]; rfl), h2⟩
        · have hd14 : listed.getD 14 false = true := by simp [Region.binds] at hk2; simp only [Array.getD_eq_getD_getElem?]; simp [hk2]
          have g14 : a.tmps.getD 69 undef = .bool true := h1.new 14 _ (by decide) (by rw [hVS]; rfl) hd14
          have e14 : a.eval (.tmp 69) = .bool true := g14
          have hd15 : listed.getD 15 false = true := by simp [Region.binds] at hk2; simp only [Array.getD_eq_getD_getElem?]; simp [hk2]
          have g15 : a.tmps.getD 70 undef = .int .i64 0 := h1.new 15 _ (by decide) (by rw [hVS]; rfl) hd15
          have e15 : a.eval (.tmp 70) = .int .i64 0 := g15
          refine wpOp_w rfl (by rw [wanted_at rfl rfl rfl g14]; rfl) ?_
          exact wp_val (v := .bool false) (run_bin rfl e15 rfl (by go_simp)) ⟨put28 h1 16 71 _ (by decide) rfl (by rw [hVS]; rfl), h2⟩
        · have hd14 : listed.getD 14 false = true := by simp [Region.binds] at hk2; simp only [Array.getD_eq_getD_getElem?]; simp [hk2]
          have g14 : a.tmps.getD 69 undef = .bool true := h1.new 14 _ (by decide) (by rw [hVS]; rfl) hd14
          have e14 : a.eval (.tmp 69) = .bool true := g14
          have hd16 : listed.getD 16 false = true := by simp [Region.binds] at hk2; simp only [Array.getD_eq_getD_getElem?]; simp [hk2]
          have g16 : a.tmps.getD 71 undef = .bool false := h1.new 16 _ (by decide) (by rw [hVS]; rfl) hd16
          have e16 : a.eval (.tmp 71) = .bool false := g16
          refine wpOp_w rfl (by rw [wanted_at rfl rfl rfl g14]; rfl) ?_
          exact wp_val (run_move (by first | exact .inl rfl | exact .inr rfl) e16) ⟨put28 h1 17 72 _ (by decide) rfl (by rw [hVS]; rfl), h2⟩
        · have hd17 : listed.getD 17 false = true := by simp [Region.binds] at hk2; simp only [Array.getD_eq_getD_getElem?]; simp [hk2]
          have g17 : a.tmps.getD 72 undef = .bool false := h1.new 17 _ (by decide) (by rw [hVS]; rfl) hd17
          have e17 : a.eval (.tmp 72) = .bool false := g17
          refine wpOp_w rfl (by rw [wanted_at rfl rfl rfl g17]; rfl) ?_
          exact wp_val (run_load rfl o6 l6) ⟨put28 h1 18 73 _ (by decide) rfl (by rw [hVS]; rfl), h2⟩
        · have hd17 : listed.getD 17 false = true := by simp [Region.binds] at hk2; simp only [Array.getD_eq_getD_getElem?]; simp [hk2]
          have g17 : a.tmps.getD 72 undef = .bool false := h1.new 17 _ (by decide) (by rw [hVS]; rfl) hd17
          have e17 : a.eval (.tmp 72) = .bool false := g17
          refine wpOp_w rfl (by rw [wanted_at rfl rfl rfl g17]; rfl) ?_
          exact wp_val (run_load rfl o12 l12) ⟨put28 h1 19 74 _ (by decide) rfl (by rw [hVS]; rfl), h2⟩
        · have hd17 : listed.getD 17 false = true := by simp [Region.binds] at hk2; simp only [Array.getD_eq_getD_getElem?]; simp [hk2]
          have g17 : a.tmps.getD 72 undef = .bool false := h1.new 17 _ (by decide) (by rw [hVS]; rfl) hd17
          have e17 : a.eval (.tmp 72) = .bool false := g17
          have hd18 : listed.getD 18 false = true := by simp [Region.binds] at hk2; simp only [Array.getD_eq_getD_getElem?]; simp [hk2]
          have g18 : a.tmps.getD 73 undef = .agg #[.int .i64 x1.k, .int .i64 x1.op, .int .i64 x1.n, .string (bstr x1.nm), .slice p1 x1.ks.length c1, .int .i64 x1.a] := h1.new 18 _ (by decide) (by rw [hVS]; rfl) hd18
          have e18 : a.eval (.tmp 73) = .agg #[.int .i64 x1.k, .int .i64 x1.op, .int .i64 x1.n, .string (bstr x1.nm), .slice p1 x1.ks.length c1, .int .i64 x1.a] := g18
          have hd19 : listed.getD 19 false = true := by simp [Region.binds] at hk2; simp only [Array.getD_eq_getD_getElem?]; simp [hk2]
          have g19 : a.tmps.getD 74 undef = .agg #[.int .i64 x3.k, .int .i64 x3.op, .int .i64 x3.n, .string (bstr x3.nm), .slice p3 x3.ks.length c5, .int .i64 x3.a] := h1.new 19 _ (by decide) (by rw [hVS]; rfl) hd19
          have e19 : a.eval (.tmp 74) = .agg #[.int .i64 x3.k, .int .i64 x3.op, .int .i64 x3.n, .string (bstr x3.nm), .slice p3 x3.ks.length c5, .int .i64 x3.a] := g19
          refine wpOp_w rfl (by rw [wanted_at rfl rfl rfl g17]; rfl) ?_
          refine wp_enter (f := 11) (args := #[a.eval (.tmp 73), a.eval (.tmp 74)]) ((Go.Conc.run_call_body rfl Tryz.func11 (by kernel_rfl) (by kernel_rfl)).trans (by simp)) ?_
          rw [e18, e19]
          refine (same_any 100000 x1 x3 p1 p3 c1 c5 X ⟨by omega, by omega⟩ (X1.stay h2) (X3.stay h2)).mono ?_
          rintro e w' ⟨rfl, hb⟩
          exact ⟨.bool R, by first | rfl | (rw [← HX.out]), put28 h1 20 75 _ (by decide) rfl (by rw [hVS]; rfl), h2.trans (hb.mono h2.size)⟩
        · have hd17 : listed.getD 17 false = true := by simp [Region.binds] at hk2; simp only [Array.getD_eq_getD_getElem?]; simp [hk2]
          have g17 : a.tmps.getD 72 undef = .bool false := h1.new 17 _ (by decide) (by rw [hVS]; rfl) hd17
          have e17 : a.eval (.tmp 72) = .bool false := g17
          refine wpOp_w rfl (by rw [wanted_at rfl rfl rfl g17]; rfl) ?_
          exact wp_val (run_load rfl o6 l6) ⟨put28 h1 21 76 _ (by decide) rfl (by rw [hVS]; rfl), h2⟩
        · have hd17 : listed.getD 17 false = true := by simp [Region.binds] at hk2; simp only [Array.getD_eq_getD_getElem?]; simp [hk2]
          have g17 : a.tmps.getD 72 undef = .bool false := h1.new 17 _ (by decide) (by rw [hVS]; rfl) hd17
          have e17 : a.eval (.tmp 72) = .bool false := g17
          refine wpOp_w rfl (by rw [wanted_at rfl rfl rfl g17]; rfl) ?_
          exact wp_val (run_load rfl o12 l12) ⟨put28 h1 22 77 _ (by decide) rfl (by rw [hVS]; rfl), h2⟩
        · have hd17 : listed.getD 17 false = true := by simp [Region.binds] at hk2; simp only [Array.getD_eq_getD_getElem?]; simp [hk2]
          have g17 : a.tmps.getD 72 undef = .bool false := h1.new 17 _ (by decide) (by rw [hVS]; rfl) hd17
          have e17 : a.eval (.tmp 72) = .bool false := g17
          have hd21 : listed.getD 21 false = true := by simp [Region.binds] at hk2; simp only [Array.getD_eq_getD_getElem?]; simp [hk2]
          have g21 : a.tmps.getD 76 undef = .agg #[.int .i64 x1.k, .int .i64 x1.op, .int .i64 x1.n, .string (bstr x1.nm), .slice p1 x1.ks.length c1, .int .i64 x1.a] := h1.new 21 _ (by decide) (by rw [hVS]; rfl) hd21
          have e21 : a.eval (.tmp 76) = .agg #[.int .i64 x1.k, .int .i64 x1.op, .int .i64 x1.n, .string (bstr x1.nm), .slice p1 x1.ks.length c1, .int .i64 x1.a] := g21
          have hd22 : listed.getD 22 false = true := by simp [Region.binds] at hk2; simp only [Array.getD_eq_getD_getElem?]; simp [hk2]
          have g22 : a.tmps.getD 77 undef = .agg #[.int .i64 x3.k, .int .i64 x3.op, .int .i64 x3.n, .string (bstr x3.nm), .slice p3 x3.ks.length c5, .int .i64 x3.a] := h1.new 22 _ (by decide) (by rw [hVS]; rfl) hd22
          have e22 : a.eval (.tmp 77) = .agg #[.int .i64 x3.k, .int .i64 x3.op, .int .i64 x3.n, .string (bstr x3.nm), .slice p3 x3.ks.length c5, .int .i64 x3.a] := g22
          refine wpOp_w rfl (by rw [wanted_at rfl rfl rfl g17]; rfl) ?_
          refine wp_enter (f := 10) (args := #[a.eval (.tmp 76), a.eval (.tmp 77)]) ((Go.Conc.run_call_body rfl Tryz.func10 (by kernel_rfl) (by kernel_rfl)).trans (by simp)) ?_
          rw [e21, e22]
          refine (sameR_any 100000 x1 x3 _ _ X ⟨by omega, by omega⟩ (X1.stay h2) (X3.stay h2)).mono ?_
          rintro e w' ⟨rfl, hb⟩
          exact ⟨.bool R, by first | rfl | (rw [← HX.out]), put28 h1 23 78 _ (by decide) rfl (by rw [hVS]; rfl), h2.trans (hb.mono h2.size)⟩
        · have hd17 : listed.getD 17 false = true := by simp [Region.binds] at hk2; simp only [Array.getD_eq_getD_getElem?]; simp [hk2]
          have g17 : a.tmps.getD 72 undef = .bool false := h1.new 17 _ (by decide) (by rw [hVS]; rfl) hd17
          have e17 : a.eval (.tmp 72) = .bool false := g17
          have hd20 : listed.getD 20 false = true := by simp [Region.binds] at hk2; simp only [Array.getD_eq_getD_getElem?]; simp [hk2]
          have g20 : a.tmps.getD 75 undef = .bool R := h1.new 20 _ (by decide) (by rw [hVS]; rfl) hd20
          have e20 : a.eval (.tmp 75) = .bool R := g20
          have hd23 : listed.getD 23 false = true := by simp [Region.binds] at hk2; simp only [Array.getD_eq_getD_getElem?]; simp [hk2]
          have g23 : a.tmps.getD 78 undef = .bool R := h1.new 23 _ (by decide) (by rw [hVS]; rfl) hd23
          have e23 : a.eval (.tmp 78) = .bool R := g23
          refine wpOp_w rfl (by rw [wanted_at rfl rfl rfl g17]; rfl) ?_
          exact wp_val (v := .bool true) (run_bin rfl e20 e23 (by go_simp)) ⟨put28 h1 24 79 _ (by decide) rfl (by rw [hVS]; rfl), h2⟩
        · have hd14 : listed.getD 14 false = true := by simp [Region.binds] at hk2; simp only [Array.getD_eq_getD_getElem?]; simp [hk2]
          have g14 : a.tmps.getD 69 undef = .bool true := h1.new 14 _ (by decide) (by rw [hVS]; rfl) hd14
          have e14 : a.eval (.tmp 69) = .bool true := g14
          have hd17 : listed.getD 17 false = true := by simp [Region.binds] at hk2; simp only [Array.getD_eq_getD_getElem?]; simp [hk2]
          have g17 : a.tmps.getD 72 undef = .bool false := h1.new 17 _ (by decide) (by rw [hVS]; rfl) hd17
          have e17 : a.eval (.tmp 72) = .bool false := g17
          have hd24 : listed.getD 24 false = true := by simp [Region.binds] at hk2; simp only [Array.getD_eq_getD_getElem?]; simp [hk2]
          have g24 : a.tmps.getD 79 undef = .bool true := h1.new 24 _ (by decide) (by rw [hVS]; rfl) hd24
          have e24 : a.eval (.tmp 79) = .bool true := g24
          refine wpOp_w rfl (by rw [wanted_at rfl rfl rfl g14]; rfl) ?_
          exact wp_val (v := .bool true) (run_pick rfl e17 (by first | rfl | exact e24)) ⟨put28 h1 25 80 _ (by decide) rfl (by rw [hVS]; rfl), h2⟩
        · have hd14 : listed.getD 14 false = true := by simp [Region.binds] at hk2; simp only [Array.getD_eq_getD_getElem?]; simp [hk2]
          have g14 : a.tmps.getD 69 undef = .bool true := h1.new 14 _ (by decide) (by rw [hVS]; rfl) hd14
          have e14 : a.eval (.tmp 69) = .bool true := g14
          have hd25 : listed.getD 25 false = true := by simp [Region.binds] at hk2; simp only [Array.getD_eq_getD_getElem?]; simp [hk2]
          have g25 : a.tmps.getD 80 undef = .bool true := h1.new 25 _ (by decide) (by rw [hVS]; rfl) hd25
          have e25 : a.eval (.tmp 80) = .bool true := g25
          refine wpOp_of rfl rfl ?_
          exact wp_val (v := .bool true) (run_pick rfl e14 (by first | rfl | exact e25)) ⟨put28 h1 26 81 _ (by decide) rfl (by rw [hVS]; rfl), h2⟩
        · have hd26 : listed.getD 26 false = true := by simp [Region.binds] at hk2; simp only [Array.getD_eq_getD_getElem?]; simp [hk2]
          have g26 : a.tmps.getD 81 undef = .bool true := h1.new 26 _ (by decide) (by rw [hVS]; rfl) hd26
          have e26 : a.eval (.tmp 81) = .bool true := g26
          refine wpOp_of rfl rfl ?_
          exact wp_val (run_move (by first | exact .inl rfl | exact .inr rfl) e26) ⟨put28 h1 27 4 _ (by decide) rfl (by rw [hVS]; rfl), h2⟩

set_option maxRecDepth 100000 in
theorem lifted (os : Os) (started : os.Started) (H : Type) (enc : TypeId × Value → H) :
    ReturnsInHanded {} Tryz.checked os 3 .any (fun w args => (Rows.exprBackSpec.pre enc Tryz.prog Tryz.f3 [] false w args ∧ laidMetH Tryz.prog laidL w) ∧ sizedMet enc Tryz.prog Tryz.f3 (OpenSpec.ofChange Rows.exprBackSpec) false w args)
      (Rows.exprBackSpec.post enc Tryz.prog Tryz.f3 false true false false) := by
  refine returnsInHanded_of_change_and (C := Tryz.checked) (X := fun w _ => laidMetH Tryz.prog laidL w) (fun _ _ _ hh h => h.of_heap hh) own started (by kernel_rfl) Tryz.func3
    (ChangeSpec.witness_shaped (enc := enc) (C := Tryz.checked) (os := os) (X := fun w _ => laidMetH Tryz.prog laidL w) false (World.doorLaid Tryz.prog 400 os) #[.string ByteArray.empty, .string ByteArray.empty] 8 rfl (World.shaped_of_RefB (by kernel_rfl) (by kernel_rfl)) (by kernel_rfl) (by kernel_rfl) (by kernel_rfl) (door_met os _)) ?_
  intro W base args ds gs before hval0 hW _ _ hL _
  have hval : ∀ (j : Nat) t v, Tryz.f3.params[j]? = some t → args[j]? = some v → Value.okWide Tryz.prog W .any base t v := hval0
  have hW' := hW
  obtain ⟨p, q, hA0, hV, rfl, hfz, hnd⟩ := hW
  have hA : DataW.TrodAll enc Tryz.prog W 0 (fun _ => true) true Tryz.f3.params.toList args.toList ds p := hA0
  rw [Tryz.params3] at hA hval
  obtain ⟨v0, v1, d0, d1, p0, p1, rfl, rfl, rfl, h0, h1⟩ := trodAll_two hA
  obtain ⟨rfl, rfl⟩ := trodVars_none hV
  obtain ⟨s, rfl, rfl, rfl, wx0⟩ := open_string Tryz.underlying9 (hval 0 9 _ rfl rfl) h0
  obtain ⟨t, rfl, rfl, rfl, wx1⟩ := open_string Tryz.underlying9 (hval 1 9 _ rfl rfl) h1
  have hLaid := of_laid hL
  clear hA0 hval0
  simp only [List.append_nil] at hW'
  refine (walk s wx0 t wx1 W hLaid).mono fun e W' ⟨he, hb⟩ => ?_
  subst he
  exact ⟨_, rfl, _, _, _, [], [], [], hW', trodAll_mk1 (shut_bool Tryz.underlying4 _), trodAll_mk2 (shut_string Tryz.underlying9 wx0) (shut_string Tryz.underlying9 wx1), rfl, hb.frame _, fun h => by cases h⟩

theorem said : Rows.ExprBackSaid :=
  OpenClaim.holds_of_wide 3 Tryz.f3 rfl rfl rfl rfl rfl rfl rfl ⟨rfl, rfl, rfl, rfl, rfl⟩ rfl rfl rfl rfl rfl (by kernel_rfl) Tryz.func3 (by kernel_rfl)
    (of_decide_eq_true (by kernel_rfl)) (by unfold Func.isWrapper; first | (rw [if_pos (by decide +kernel)]; kernel_rfl) | (rw [if_neg (by decide +kernel)]; exact ⟨rfl, rfl⟩))
    (fun os started H enc _ => lifted os started H enc)
end ExprBack

theorem exprBack_card_holds : Rows.ExprBackCardSaid :=
  Claim7.holds_tied_plain_at .later [] _ true _ true
    ExprBack.said (fun _ h => by cases h) (by kernel_rfl) (fun _ h => by cases h) exprBack_row_tie rfl ⟨rfl, rfl⟩ (by kernel_rfl) rfl
    (fun f fn hf hfn => by
      obtain rfl : f = 3 := Option.some.inj ((show Tryz.prog.funcNamed "paling/palinglaw03.ExprBack" = some 3 by kernel_rfl).symm.trans hf) |>.symm
      obtain rfl : fn = Tryz.f3 := (Option.some.inj (Tryz.func3.symm.trans hfn)).symm
      exact ⟨by kernel_rfl, fun j t ht => by
        rw [Tryz.params3] at ht
        have hm : t ∈ [9, 9] := by simpa using Array.mem_of_getElem? ht
        have hall : ([9, 9].all fun u => !Tryz.prog.wantsStandIn u) = true := by kernel_rfl
        exact (show Tryz.prog.wantsStandIn t = false by simpa using List.all_eq_true.1 hall t hm)⟩)
    (by kernel_rfl)
#print axioms exprBack_card_holds
end Go.Proofs.YtgjfcikniamleaaGreatDoor
