/- Joined texts: Lv Rat Na Rl RxT Rt Sme Ag Tt Tl: lemmas for the law; each says its own conditions. -/
import Derived.Test.YtbmmjomcjlpnlaaQ11
import Derived.Test.YtbmmjomcjlpnlaaQ10
import Derived.Laws.AppendOwn
import Derived.Laws.AppendOwnNone
import Derived.Laws.StructEq
import Derived.BigQuiet
import Derived.Test.YtbmmjomcjlpnlaaQ01
set_option linter.unusedSimpArgs false
set_option linter.unusedVariables false
set_option maxRecDepth 100000
set_option maxHeartbeats 8000000
open Go.Lib (hid)
namespace Go.Proofs.Ytbmmjomcjlpnlaa
open Go Go.RowKit
structure LocOk (F : TF) (L : List ByteArray) : Prop where
 kd : ∀ x ∈ L,kindN (F x.data.toList) = 4
 sz : ∀ x ∈ L,x.size ≤ 140737488355328
 nd : (L.map fun x => x.data.toList).Nodup
theorem LocOk.nil (F : TF) : LocOk F []:=⟨by simp,by simp,by simp⟩
theorem LocOk.snoc {F : TF} {L : List ByteArray} (h : LocOk F L) {t : ByteArray} (ht : t.size ≤ 140737488355328) (hF : F t.data.toList = none) (tr sc : Bool) : LocOk (F.upd t.data.toList (.lo tr sc)) (L ++ [t]):=by
 have hne : ∀ x ∈ L,x.data.toList ≠ t.data.toList:=fun x hx e => by
  have:=h.kd x hx
  rw [e,hF] at this
  cases this
 refine ⟨fun x hx => ?_,fun x hx => ?_,?_⟩
 · rcases List.mem_append.1 hx with hx | hx
   · unfold TF.upd
     rw [if_neg (hne x hx)]
     exact h.kd x hx
   · obtain rfl : x = t:=by simpa using hx
     unfold TF.upd
     rw [if_pos rfl]
     rfl
 · rcases List.mem_append.1 hx with hx | hx
   · exact h.sz x hx
   · obtain rfl : x = t:=by simpa using hx
     exact ht
 · rw [List.map_append,List.nodup_append]
   refine ⟨h.nd,by simp,?_⟩
   intro a ha b hb e
   obtain ⟨x,hx,rfl⟩:=List.mem_map.1 ha
   simp only [List.map_cons,List.map_nil,List.mem_singleton] at hb
   exact hne x hx (e.trans hb)
theorem dels_ne {k : List UInt8} : ∀ (M : List ByteArray) (F : TF),(∀ x ∈ M,x.data.toList ≠ k) → (F.dels M) k = F k
 | [],_,_ => rfl
 | x :: r,F,h => by
  show ((F.del x.data.toList).dels r) k = F k
  rw [dels_ne r _ (fun y hy => h y (List.mem_cons_of_mem _ hy))]
  unfold TF.del
  rw [if_neg (fun e => h x List.mem_cons_self e.symm)]
theorem LocOk.dels {F : TF} {A M : List ByteArray} (h : LocOk F (A ++ M)) : LocOk (F.dels M) A:=by
 have hn:=h.nd
 rw [List.map_append,List.nodup_append] at hn
 refine ⟨fun x hx => ?_,fun x hx => h.sz x (List.mem_append_left _ hx),hn.1⟩
 rw [dels_ne M F (fun y hy e => hn.2.2 _ (List.mem_map.2 ⟨x,hx,rfl⟩) _ (List.mem_map.2 ⟨y,hy,rfl⟩) e.symm)]
 exact h.kd x (List.mem_append_left _ hx)
section
variable {B : Nat} {W : World} {s n : Nat} {F : TF} {L : List ByteArray} {bl : List Nat} {m lv bv : Value}
def LetP (B : Nat) (W w' : World) (s n : Nat) (F : TF) (L : List ByteArray) (bl : List Nat) (m lv bv : Value) (t : ByteArray) (tr sc : Bool) (r : Int) : Prop :=
 ∃ n' F' L' m' lv',Scp B w' s n' F' L' bl m' lv' bv ∧ Below B W w' ∧ Apx W w' s m lv bv m' lv' bv ∧ n' ≤ n + 1 ∧
  ((r = 12 ∧ F' = F ∧ L' = L ∧ (bl = [] ∨ t.data.toList = [] ∨ ¬ kindN (F t.data.toList) = 0)) ∨ (r = 0 ∧ t.data.toList ≠ [] ∧ F t.data.toList = none ∧ F' = F.upd t.data.toList (.lo tr sc) ∧ L' = L ++ [t]))
theorem leave_eq {b0 : List Nat} {l g : Nat} (h : Hid (Scp B W s n F L (b0 ++ [l]) m (.slice (some ⟨g,0,none⟩) L.length l) bv)) (hl : L.length = l) (hb : b0.length ≤ 1000000) :
 Calls Try.prog 11 #[.pointer (some ⟨s,0,none⟩)] W fun e w' => e = .returned (.tuple #[]) ∧ ∃ lv' bv',Scp B w' s n F L b0 m lv' bv' ∧ Below B W w' ∧ Apx W w' s m (.slice (some ⟨g,0,none⟩) L.length l) bv m lv' bv':=by
 obtain ⟨mm,p',c',q,d,rfl,e1',rfl⟩:=h.out.forms
 cases e1'
 have heq:=eql_ptr_some ⟨s,0,none⟩ W
 obtain ⟨k,hk⟩ : ∃ k,b0.length = k:=⟨_,rfl⟩
 have hrow:=h.out.bk
 have hfa:=h.out.facts
 rw [List.length_append,List.length_singleton,hk] at hrow hfa
 rw [hl] at hfa
 obtain ⟨gb,rfl,hgb,hcb,hkd,hrow0⟩:=row_last hrow hk
 obtain ⟨sl,⟨c0,c1,c2⟩,f0,f1,f2⟩:=hfa
 have hk1 : ¬ ((k : Int) + 1) = 0:=by omega
 have hkb : (((k : Int) + 1) == 0) = false:=by simpa using hk1
 have HK : Hid (b0.length = k ∧ L.length = l):=hid ⟨hk,hl⟩
 have HS : Hid (Scp B W s n F L (b0 ++ [l]) (.map mm) (.slice (some ⟨g,0,none⟩) l l) (.slice (some ⟨gb,0,none⟩) (k + 1) d)):=hid (by (have:=h.out;rw [hl,List.length_append,List.length_singleton,hk] at this;exact this))
 have HLO : Hid (W.ownsRow B 9 1 (.slice (some ⟨g,0,none⟩) l l) l (L.map Value.string)):=hid (by (have:=HS.out.lo;rwa [hl] at this))
 obtain ⟨hgl,hlc,hcm,_⟩:=own_str HLO.out
 have HR3:=hid hrow0
 rw [hk] at hb
 rw [hl]
 clear hrow hrow0 hk hl h
 have e1 : (k : Int) + 1 - 1 = (k : Int):=by omega
 go_enter Try.func11,Try.ntmps11
 go_upto_region 4 with (fail)
 go_loopw [36] (fun iv wr => iv = .int .i64 0 ∧ wr = W) (fun _ _ => 0)
 case atStart => exact ⟨rfl,rfl⟩
 case round =>
  obtain ⟨rfl,rfl⟩:=hrel
  go_upto_region 8 with (fail)
  have hsg : s ≠ g:=fun e => by
   have h1:=own_ne HLO.out HS.out.blk (by decide)
   exact h1 (by rw [e];rfl)
  have HSG:=hid hsg
  go_region_law (first
   | (go_simp;go_at_call 31;(with_reducible refine (del_rows (B:=B) (own_below HLO.out ((Below.refl wr.heap.size wr).drew)) HK.out.2 (Nat.le_refl _)).mono ?_);rintro e2 w3 ⟨rfl,ho3,hf3⟩;have HO3:=hid ho3;have HF3 : Hid (Fr2 g g wr w3):=hid hf3;have hs3 : w3.heap[s]? = some (.cells #[.map mm,.slice (some ⟨g,0,none⟩) l l,.slice (some ⟨gb,0,none⟩) (k + 1) d] 89 (0,0)):=(HF3.out.2 s sl HSG.out HSG.out).trans HS.out.blk;have HS3:=hid hs3;have c13 : w3.cell? ⟨s,1,none⟩ = some (.slice (some ⟨g,0,none⟩) l l):=cell_of_row _ _ _ _ _ _ hs3;have c23 : w3.cell? ⟨s,2,none⟩ = some (.slice (some ⟨gb,0,none⟩) (k + 1) d):=cell_of_row _ _ _ _ _ _ hs3;have f13:=frozen_of_row w3 s 1 _ _ hs3;have f23:=frozen_of_row w3 s 2 _ _ hs3;have sl3 : s < w3.heap.size:=(Array.getElem?_eq_some_iff.1 hs3).1;clear ho3 hf3 hs3))
  all_goals go_wp2
  all_goals go_end0
  all_goals
   have hsX:=heap_setCell_same (w3.setCell ⟨s,1,none⟩ (.slice (some ⟨g,0,none⟩) l l)) s 2 _ _ (.slice (some ⟨gb,0,none⟩) k d) (heap_setCell_same w3 s 1 _ _ (.slice (some ⟨g,0,none⟩) l l) HS3.out)
   have hfr : Fr2 s (rowB (.slice (some ⟨g,0,none⟩) l l) s) wr ((w3.setCell ⟨s,1,none⟩ (.slice (some ⟨g,0,none⟩) l l)).setCell ⟨s,2,none⟩ (.slice (some ⟨gb,0,none⟩) k d)):=((Fr2.wk HF3.out s).set (.inl rfl) 1 _).set (.inl rfl) 2 _
   have hlo:=own_setN (own_setN HO3.out (own_ne HO3.out HS3.out (by decide)) 1 (.slice (some ⟨g,0,none⟩) l l)) (own_ne HO3.out HS3.out (by decide)) 2 (.slice (some ⟨gb,0,none⟩) k d)
   have hbk:=own_turn HS.out HLO.out HR3.out (by decide) (by decide) hfr
   have et : L.take l = L:=List.take_of_length_le (by rw [HK.out.2];exact Nat.le_refl _)
   rw [et] at hlo
   obtain ⟨h1,h2⟩:=HS.out.turn (L':=L) (bl':=b0) HLO.out (.inl rfl) hfr hsX (by rw [HK.out.2];exact hlo) (by rw [HK.out.1];exact hbk)
   exact ⟨rfl,_,_,h1,h2,fun g' hg' ha' => ⟨hfr.2 g' hg' ha'.1 (rowB_ne ha'.1 ha'.2.2.1),ha'.1,ha'.2.1,ha'.2.2.1,ha'.2.2.2⟩⟩
theorem leave_any {b0 : List Nat} {A M : List ByteArray} (h : Hid (Scp B W s n F (A ++ M) (b0 ++ [A.length]) m lv bv)) (hk : LocOk F (A ++ M)) (hb : b0.length ≤ 1000000) (hL : (A ++ M).length ≤ 1000000) :
 Calls Try.prog 11 #[.pointer (some ⟨s,0,none⟩)] W fun e w' => e = .returned (.tuple #[]) ∧ ∃ lv' bv',Scp B w' s n (F.dels M) A b0 m lv' bv' ∧ Below B W w' ∧ Apx W w' s m lv bv m lv' bv':=by
 by_cases h0 : (A ++ M).length = 0
 · have hA : A = []:=by
    cases A with
    | nil => rfl
    | cons x r => simp at h0
   have hM : M = []:=by
    cases M with
    | nil => rfl
    | cons x r => simp at h0
   subst hA
   subst hM
   exact leave_nil h hb
 obtain ⟨g,c,elv,hg,_⟩:=row_some h.out.lo (show 0 < (A ++ M).length by omega)
 have hlc : (A ++ M).length ≤ c:=by
  have ho:=h.out.lo
  rw [elv] at ho
  exact (own_str ho).2.1
 have hmm : ∃ b,m = .map (some b):=by
  rcases h.out.mp with ⟨_,hn⟩ | ⟨b,hb,_⟩
  · exfalso
    cases hAM : A ++ M with
    | nil => exact h0 (by rw [hAM];rfl)
    | cons x r =>
     have:=hk.kd x (by rw [hAM];exact List.mem_cons_self)
     rw [hn] at this
     cases this
  · exact ⟨b,hb⟩
 obtain ⟨b,hmb⟩:=hmm
 have hlen : (A ++ M).length = A.length + M.length:=List.length_append
 by_cases hac : A.length < c
 · subst elv
   subst hmb
   have h1:=leave_some (a:=A.length) h hb (by omega) hL hk.sz hac
   rw [List.drop_left,List.take_left] at h1
   exact h1.mono fun e w' ⟨he,bv',h2,h3,_,h4⟩ => ⟨he,_,bv',h2,h3,h4⟩
 · have hM : M = []:=List.eq_nil_of_length_eq_zero (by omega)
   subst hM
   have hc : c = A.length:=by
    rw [hlen] at hlc
    simp only [List.length_nil] at hlc
    omega
   subst hc
   subst elv
   have hh : Hid (Scp B W s n F A (b0 ++ [A.length]) m (.slice (some ⟨g,0,none⟩) A.length A.length) bv):=hid (by
    have:=h.out
    rw [List.append_nil] at this
    exact this)
   have h1:=leave_eq hh rfl hb
   exact h1.mono fun e w' ⟨he,lv',bv',h2,h3,h4⟩ => ⟨he,lv',bv',h2,h3,by rw [List.append_nil];exact h4⟩
end
end Go.Proofs.Ytbmmjomcjlpnlaa
namespace Go.Proofs.Ytbmmjomcjlpnlaa
open Go Go.RowKit
theorem first_le : ∀ (l : List (ByteArray × Int)) (f : IF) (t : List UInt8) (m0 : Int),f t = some m0 → ∃ m,(l.foldl fstep f) t = some m ∧ m ≤ m0
 | [],f,t,m0,h => ⟨m0,h,Int.le_refl _⟩
 | x :: r,f,t,m0,h => by
  show ∃ m,(r.foldl fstep (fstep f x)) t = some m ∧ m ≤ m0
  by_cases e : t = x.1.data.toList
  · subst e
    by_cases hx : x.2 < m0
    · obtain ⟨m,h1,h2⟩:=first_le r (fstep f x) x.1.data.toList x.2 (by simp [fstep,h,hx,IF.upd])
      exact ⟨m,h1,by omega⟩
    · exact first_le r (fstep f x) x.1.data.toList m0 (by simp [fstep,h,hx])
  · refine first_le r (fstep f x) t m0 ?_
    unfold fstep
    cases hf : f x.1.data.toList with
    | none => simp [IF.upd,e,h]
    | some a =>
     by_cases ha : x.2 < a
     · simp [ha,IF.upd,e,h]
     · simp [ha,h]
theorem first_in : ∀ (l : List (ByteArray × Int)) (f : IF) (x : ByteArray × Int),x ∈ l → ∃ m,(l.foldl fstep f) x.1.data.toList = some m ∧ m ≤ x.2
 | y :: r,f,x,hx => by
  show ∃ m,(r.foldl fstep (fstep f y)) x.1.data.toList = some m ∧ m ≤ x.2
  rcases List.mem_cons.1 hx with rfl | hx
  · cases hf : f x.1.data.toList with
    | none => exact first_le r _ _ x.2 (by simp [fstep,hf,IF.upd])
    | some a =>
     by_cases ha : x.2 < a
     · exact first_le r _ _ x.2 (by simp [fstep,hf,ha,IF.upd])
     · obtain ⟨m,h1,h2⟩:=first_le r (fstep f x) x.1.data.toList a (by simp [fstep,hf,ha])
       exact ⟨m,h1,by omega⟩
  · exact first_in r _ x hx
theorem first_of : ∀ (l : List (ByteArray × Int)) (f : IF) (t : List UInt8) (m : Int),(l.foldl fstep f) t = some m → f t = some m ∨ ∃ x ∈ l,x.1.data.toList = t ∧ x.2 = m
 | [],f,t,m,h => .inl h
 | x :: r,f,t,m,h => by
  rcases first_of r (fstep f x) t m h with h1 | ⟨y,hy,h2⟩
  · by_cases e : t = x.1.data.toList
    · subst e
      cases hf : f x.1.data.toList with
      | none =>
       simp [fstep,hf,IF.upd] at h1
       exact .inr ⟨x,List.mem_cons_self,rfl,h1⟩
      | some a =>
       by_cases ha : x.2 < a
       · simp [fstep,hf,ha,IF.upd] at h1
         exact .inr ⟨x,List.mem_cons_self,rfl,h1⟩
       · simp [fstep,hf,ha] at h1
         exact .inl (by rw [h1])
    · left
      unfold fstep at h1
      cases hf : f x.1.data.toList with
      | none => simpa [hf,IF.upd,e] using h1
      | some a =>
       by_cases ha : x.2 < a
       · simpa [hf,ha,IF.upd,e] using h1
       · simpa [hf,ha] using h1
  · exact .inr ⟨y,List.mem_cons_of_mem _ hy,h2⟩
def AgainA (l : List (ByteArray × Int)) (x : ByteArray × Int) : Prop:=∃ y ∈ l,x.1.data.toList = y.1.data.toList ∧ y.2 < x.2
theorem first_again {l : List (ByteArray × Int)} {x : ByteArray × Int} (hx : x ∈ l) : (firstF l x.1.data.toList).getD 0 < x.2 ↔ AgainA l x:=by
 obtain ⟨m,h1,h2⟩:=first_in l (fun _ => none) x hx
 have e : firstF l x.1.data.toList = some m:=h1
 rw [e]
 show m < x.2 ↔ _
 constructor
 · intro h
   rcases first_of l (fun _ => none) _ m h1 with h3 | ⟨y,hy,h4,h5⟩
   · cases h3
   · exact ⟨y,hy,h4.symm,by omega⟩
 · rintro ⟨y,hy,h4,h5⟩
   obtain ⟨m',h6,h7⟩:=first_in l (fun _ => none) y hy
   rw [← h4] at h6
   rw [h1] at h6
   cases h6
   omega
open Classical in
theorem row_eq (x : ByteArray × Int) (hx : 0 ≤ x.2) : ∀ (l : List (ByteArray × Int)) (a : Int),l.foldl (stepA x) a = if AgainA l x ∧ (a < 0 ∨ x.2 < a) then x.2 else a
 | [],a => by
  rw [if_neg]
  · rfl
  · rintro ⟨⟨y,hy,_⟩,_⟩
    cases hy
 | y :: r,a => by
  show r.foldl (stepA x) (stepA x a y) = _
  rw [row_eq x hx r]
  by_cases h : x.1.data.toList = y.1.data.toList ∧ y.2 < x.2 ∧ (a < 0 ∨ x.2 < a)
  · have e : stepA x a y = x.2:=if_pos h
    rw [e,if_neg (by omega),if_pos ⟨⟨y,List.mem_cons_self,h.1,h.2.1⟩,h.2.2⟩]
  · have e : stepA x a y = a:=if_neg h
    rw [e]
    by_cases h2 : AgainA r x ∧ (a < 0 ∨ x.2 < a)
    · obtain ⟨⟨z,hz,h3⟩,h4⟩:=h2
      rw [if_pos ⟨⟨z,hz,h3⟩,h4⟩,if_pos ⟨⟨z,List.mem_cons_of_mem _ hz,h3⟩,h4⟩]
    · rw [if_neg h2,if_neg]
      rintro ⟨⟨z,hz,h3,h4⟩,h5⟩
      rcases List.mem_cons.1 hz with rfl | hz
      · exact h ⟨h3,h4,h5⟩
      · exact h2 ⟨⟨z,hz,h3,h4⟩,h5⟩
theorem ref_sim (l : List (ByteArray × Int)) (hl : ∀ x ∈ l,0 ≤ x.2) : ∀ (M : List (ByteArray × Int)) (a : Int) (st : Int × Bool),(∀ x ∈ M,x ∈ l) → ((st.2 = false ∧ a = -1) ∨ (st.2 = true ∧ a = st.1 ∧ 0 ≤ a)) →
 (((M.foldl (lstep (firstF l)) st).2 = false ∧ M.foldl (rowA l) a = -1) ∨ ((M.foldl (lstep (firstF l)) st).2 = true ∧ M.foldl (rowA l) a = (M.foldl (lstep (firstF l)) st).1 ∧ 0 ≤ M.foldl (rowA l) a))
 | [],_,_,_,h => h
 | x :: r,a,st,hM,h => by
  have hx:=hM x List.mem_cons_self
  have h0:=hl x hx
  refine ref_sim l hl r (rowA l a x) (lstep (firstF l) st x) (fun y hy => hM y (List.mem_cons_of_mem _ hy)) ?_
  have e1 : rowA l a x = _:=row_eq x h0 l a
  rw [e1]
  unfold lstep
  have hfa:=first_again (l:=l) hx
  by_cases hA : AgainA l x
  · have hf:=hfa.2 hA
    rcases h with ⟨h1,h2⟩ | ⟨h1,h2,h3⟩
    · rw [if_pos ⟨hf,.inl h1⟩,if_pos ⟨hA,.inl (by omega)⟩]
      exact .inr ⟨rfl,rfl,h0⟩
    · by_cases hlt : x.2 < a
      · rw [if_pos ⟨hf,.inr (by omega)⟩,if_pos ⟨hA,.inr hlt⟩]
        exact .inr ⟨rfl,rfl,h0⟩
      · rw [if_neg (by
         rintro ⟨_,h4 | h4⟩
         · rw [h1] at h4
           cases h4
         · omega),if_neg (by rintro ⟨_,h4⟩;omega)]
        exact .inr ⟨h1,h2,h3⟩
  · rw [if_neg (fun h4 => hA (hfa.1 h4.1)),if_neg (fun h4 => hA h4.1)]
    exact h
theorem ref_twice {l : List (ByteArray × Int)} (hl : ∀ x ∈ l,0 ≤ x.2) : ((twiceF l).2 = false ∧ refA l = -1) ∨ ((twiceF l).2 = true ∧ refA l = (twiceF l).1 ∧ 0 ≤ refA l) :=
 ref_sim l hl l (-1) (0,false) (fun _ h => h) (.inl ⟨rfl,rfl⟩)
def AtP (p : Pg) : Prop:=(∀ y ∈ p.gs,0 ≤ y.a) ∧ (∀ y ∈ p.ls,0 ≤ y.a) ∧ ∀ y ∈ p.fs,0 ≤ y.a
theorem AtP.things {p : Pg} (h : AtP p) : ∀ x ∈ thingsL p,0 ≤ x.2:=by
 intro x hx
 unfold thingsL at hx
 rcases List.mem_append.1 hx with hx | hx
 · rcases List.mem_append.1 hx with hx | hx
   · obtain ⟨y,hy,rfl⟩:=List.mem_map.1 hx
     exact h.1 y hy
   · obtain ⟨y,hy,rfl⟩:=List.mem_map.1 hx
     exact h.2.1 y hy
 · obtain ⟨y,hy,rfl⟩:=List.mem_map.1 hx
   exact h.2.2 y hy
theorem mem_snoc {α : Type} {l : List α} {x y : α} (h : y ∈ l ++ [x]) : y ∈ l ∨ y = x:=by
 rcases List.mem_append.1 h with h | h
 · exact .inl h
 · exact .inr (by simpa using h)
theorem thing_at (n : Nat) (p : Pg) (s : RS) (h : AtP p) : AtP (thingF n p s).1:=by
 unfold thingF
 dsimp only
 split
 · split
   · refine ⟨h.1,fun y hy => ?_,h.2.2⟩
     rcases mem_snoc hy with hy | rfl
     · exact h.2.1 y hy
     · exact Int.natCast_nonneg _
   · exact h
 · split
   · split
     · refine ⟨h.1,h.2.1,fun y hy => ?_⟩
       rcases mem_snoc hy with hy | rfl
       · exact h.2.2 y hy
       · exact Int.natCast_nonneg _
     · exact h
   · split
     · split
       · exact h
       · exact h
     · split
       · refine ⟨fun y hy => ?_,h.2⟩
         rcases mem_snoc hy with hy | rfl
         · exact h.1 y hy
         · exact Int.natCast_nonneg _
       · exact h
theorem whole_at (n : Nat) : ∀ (m : Nat) (p : Pg) (s : RS),AtP p → AtP (wholeF n m p s).1
 | 0,_,_,h => h
 | m + 1,p,s,h => by
  unfold wholeF
  dsimp only
  split
  · exact whole_at n m _ _ (thing_at n p s h)
  · exact h
theorem par_at (ws : List Wd) : AtP (parF ws).1:=whole_at _ _ _ _ ⟨by simp,by simp,by simp⟩
open GX
theorem sc_sorted {num : List UInt8 → Option Int} {l : List UInt8} {a : Nat} {W : List Wd} {r : Option (Int × Nat)} (h : Sc num l a W r) : W.Pairwise (fun x y => x.a < y.a) ∧ ∀ w ∈ W,a ≤ w.a:=by
 induction h with
 | done a => exact ⟨by simp,by simp⟩
 | bad l a e hl ht => exact ⟨by simp,by simp⟩
 | gap l a n ws r hl ht hs ih => exact ⟨ih.1,fun w hw => by (have:=ih.2 w hw;omega)⟩
 | word l a n k v ws r hl ht hs ih =>
  have h1:=tok_word hl ht
  refine ⟨List.pairwise_cons.2 ⟨fun w hw => ?_,ih.1⟩,fun w hw => ?_⟩
  · have:=ih.2 w hw
    show a < w.a
    omega
  · rcases List.mem_cons.1 hw with rfl | hw
    · exact Nat.le_refl _
    · have:=ih.2 w hw
      omega
def ats (p : Pg) : List Int:=p.gs.map (·.a) ++ (p.ls.map (·.a) ++ p.fs.map (·.a))
def NaP (p : Pg) (ss : List Wd) : Prop:=(ats p).Nodup ∧ ∀ a ∈ ats p,∀ w ∈ ss,a < (w.a : Int)
theorem NaP.mono {p q : Pg} {ss t' : List Wd} (h : NaP p ss) (e : ats q = ats p) (ht : t' <:+ ss) : NaP q t':=by
 unfold NaP
 rw [e]
 exact ⟨h.1,fun a ha w hw => h.2 a ha w (ht.subset hw)⟩
theorem NaP.ins {p q : Pg} {ss t' : List Wd} {w : Wd} (h : NaP p ss) (hp : (ats q).Perm ((w.a : Int) :: ats p)) (hw : w ∈ ss) (ht : t' <:+ ss) (hlt : ∀ v ∈ t',w.a < v.a) : NaP q t':=by
 refine ⟨hp.nodup_iff.2 (List.nodup_cons.2 ⟨fun ha => ?_,h.1⟩),fun a ha v hv => ?_⟩
 · have:=h.2 _ ha w hw
   omega
 · rcases List.mem_cons.1 (hp.subset ha) with rfl | ha
   · have:=hlt v hv
     omega
   · exact h.2 a ha v (ht.subset hv)
theorem name_w {tt u : List Wd} {q : List UInt8 × Nat} (hf : (RS.ok tt).fin) (h : nameF (.ok tt) = (q,.ok u)) : ∃ w,tt = w :: u ∧ q.2 = w.a:=by
 obtain ⟨w,r,rfl⟩:=(hf tt rfl).ne
 rw [nameF_cons] at h
 by_cases hk : w.k ≠ 0 ∨ keyB w.t = true
 · rw [if_pos hk] at h
   cases h
 · rw [if_neg hk] at h
   cases h
   exact ⟨w,rfl,rfl⟩
theorem func_na (n : Nat) {x : Wd} {tt : List Wd} (hft : (RS.ok tt).fin) (hn : 3 * tt.length + 2 ≤ n) {t' : List Wd} (ht : (funcF n (.ok (x :: tt))).2 = .ok t') : ∃ w u,tt = w :: u ∧ (funcF n (.ok (x :: tt))).1.a = w.a ∧ t' <:+ u:=by
 obtain ⟨⟨⟨nm,a⟩,τ1⟩,h1⟩ : ∃ q,nameF (.ok tt) = q:=⟨_,rfl⟩
 obtain ⟨⟨lp,τ2⟩,h2⟩ : ∃ q,paramsF τ1 = q:=⟨_,rfl⟩
 obtain ⟨⟨⟨tr,sc⟩,τ3⟩,h3⟩ : ∃ q,kindF τ2 = q:=⟨_,rfl⟩
 obtain ⟨τ4,h4⟩ : ∃ q,τ3.need [123] = q:=⟨_,rfl⟩
 obtain ⟨⟨lb,τ5⟩,h5⟩ : ∃ q,stmtsF n 1 kReturn τ4 = q:=⟨_,rfl⟩
 obtain ⟨τ6,h6⟩ : ∃ q,τ5.need kReturn = q:=⟨_,rfl⟩
 obtain ⟨⟨ex,τ7⟩,h7⟩ : ∃ q,exF τ6 = q:=⟨_,rfl⟩
 obtain ⟨τ8,h8⟩ : ∃ q,τ7.need [59] = q:=⟨_,rfl⟩
 obtain ⟨τ9,h9⟩ : ∃ q,τ8.need [125] = q:=⟨_,rfl⟩
 have eF : funcF n (.ok (x :: tt)) = (⟨a,nm,lp,tr,sc,lb,ex⟩,τ9):=by simp only [funcF,RS.adv,h1,h2,h3,h4,h5,h6,h7,h8,h9]
 rw [eF] at ht ⊢
 have k2:=params_sb τ1
 have k3:=kind_sb τ2
 have k4:=need_sb [123] τ3
 have l1 : Le τ1 (.ok tt):=by (have:=name_le hft;rwa [h1] at this)
 have l2 : Le τ2 (.ok tt):=by (have:=params_le l1.2;rw [h2] at this;exact this.trans l1)
 have l3 : Le τ3 (.ok tt):=by (have:=kind_le l2.2;rw [h3] at this;exact this.trans l2)
 have l4 : Le τ4 (.ok tt):=by (have:=need_le l3.2 [123];rw [h4] at this;exact this.trans l3)
 have k5:=(rd_all n).2.2 1 kReturn τ4 l4.2 (by (have h44 : τ4.len ≤ tt.length:=l4.1;omega))
 have k6:=need_sb kReturn τ5
 have k7:=ex_sb τ6
 have k8:=need_sb [59] τ7
 have k9:=need_sb [125] τ8
 rw [h2] at k2
 rw [h3] at k3
 rw [h4] at k4
 rw [h5] at k5
 rw [h6] at k6
 rw [h7] at k7
 rw [h8] at k8
 rw [h9] at k9
 obtain ⟨u8,e8,s8⟩:=k9 t' ht
 obtain ⟨u7,e7,s7⟩:=k8 u8 e8
 obtain ⟨u6,e6,s6⟩:=k7.1 u7 e7
 obtain ⟨u5,e5,s5⟩:=k6 u6 e6
 obtain ⟨u4,e4,s4⟩:=k5.1 u5 e5
 obtain ⟨u3,e3,s3⟩:=k4 u4 e4
 obtain ⟨u2,e2,s2⟩:=k3 u3 e3
 obtain ⟨u1,e1,s1⟩:=k2 u2 e2
 subst e1
 obtain ⟨w,hw,ha⟩:=name_w hft h1
 refine ⟨w,u1,hw,?_,s8.trans (s7.trans (s6.trans (s5.trans (s4.trans (s3.trans (s2.trans s1))))))⟩
 show (a : Int) = w.a
 rw [show a = w.a from ha]
theorem glob_na (n : Nat) {s : RS} (hf : (kindF (limF n 32 s)).2.fin) {t' : List Wd} (ht : (globF n s).2 = .ok t') : ∃ w u,(kindF (limF n 32 s)).2 = .ok (w :: u) ∧ (globF n s).1.a = w.a ∧ t' <:+ u:=by
 obtain ⟨⟨q,τ2⟩,h2⟩ : ∃ q,nameF (kindF (limF n 32 s)).2 = q:=⟨_,rfl⟩
 have k3 : Sb (if (nameF (kindF (limF n 32 s)).2).2.is [91] then (let q:=lenF (nameF (kindF (limF n 32 s)).2).2.adv;(q.1,q.2.need [93])) else ((0 : Int),(nameF (kindF (limF n 32 s)).2).2)).2 (nameF (kindF (limF n 32 s)).2).2 :=
  if_sb (c:=(nameF (kindF (limF n 32 s)).2).2.is [91]) (z:=(0 : Int)) (s:=(let q:=lenF (nameF (kindF (limF n 32 s)).2).2.adv;(q.1,q.2.need [93]))) ((need_sb [93] _).trans ((lenF_sb _).trans (adv_sb _))) (.refl _)
 obtain ⟨l,hl⟩ : ∃ l,(if (nameF (kindF (limF n 32 s)).2).2.is [91] then (let q:=lenF (nameF (kindF (limF n 32 s)).2).2.adv;(q.1,q.2.need [93])) else ((0 : Int),(nameF (kindF (limF n 32 s)).2).2)) = l:=⟨_,rfl⟩
 rw [hl] at k3
 have k4:=if_sb (c:=l.2.is kBy) (z:=([] : List UInt8)) (s:=(let q:=nameF l.2.adv;(q.1.1,q.2))) ((name_sb l.2.adv).1.trans ((adv_sb _).trans k3)) k3
 have k5:=(need_sb [59] _).trans k4
 have e : (globF n s).2 = RS.need [59] (if l.2.is kBy then (let q:=nameF l.2.adv;(q.1.1,q.2)) else ([],l.2)).2:=by
  rw [← hl]
  rfl
 rw [e] at ht
 obtain ⟨u,hu,hs⟩:=k5 t' ht
 rw [h2] at hu
 simp only at hu
 subst hu
 have ea : (globF n s).1.a = ((nameF (kindF (limF n 32 s)).2).1.2 : Int):=rfl
 cases hk : (kindF (limF n 32 s)).2 with
 | bad c a =>
  rw [hk] at h2
  cases h2
 | ok tt =>
  rw [hk] at h2 hf
  obtain ⟨w,hw,ha⟩:=name_w hf h2
  refine ⟨w,u,by rw [hw],?_,hs⟩
  rw [ea,hk,h2]
  show (q.2 : Int) = w.a
  rw [ha]
theorem perm_g (p : Pg) (y : Gl) : (ats { p with gs:=p.gs ++ [y] }).Perm (y.a :: ats p):=by
 unfold ats
 simp only [List.map_append,List.map_cons,List.map_nil,List.append_assoc,List.singleton_append]
 exact List.perm_middle
theorem perm_l (p : Pg) (y : Lk) : (ats { p with ls:=p.ls ++ [y] }).Perm (y.a :: ats p):=by
 unfold ats
 simp only [List.map_append,List.map_cons,List.map_nil,List.append_assoc,List.singleton_append]
 exact (List.Perm.append_left _ List.perm_middle).trans List.perm_middle
theorem perm_f (p : Pg) (y : Fn) : (ats { p with fs:=p.fs ++ [y] }).Perm (y.a :: ats p):=by
 unfold ats
 simp only [List.map_append,List.map_cons,List.map_nil]
 have e : p.gs.map (·.a) ++ (p.ls.map (·.a) ++ (p.fs.map (·.a) ++ [y.a])) = (p.gs.map (·.a) ++ (p.ls.map (·.a) ++ p.fs.map (·.a))) ++ [y.a]:=by simp
 rw [e]
 exact List.perm_append_singleton _ _
theorem thing_na {n : Nat} {p : Pg} {x : Wd} {tt : List Wd} (hf : (RS.ok (x :: tt)).fin) (hx : x.k ≠ 3) (hn : 3 * tt.length + 2 ≤ n) (hS : (x :: tt).Pairwise (fun x y => x.a < y.a)) (hG : NaP p (x :: tt)) {t' : List Wd} (ht : (thingF n p (.ok (x :: tt))).2 = .ok t') : NaP (thingF n p (.ok (x :: tt))).1 t' ∧ t' <:+ tt:=by
 have hft : (RS.ok tt).fin:=(adv_le hf hx).1.2
 have sub : ∀ s : RS,Sb s (.ok tt) → s = .ok t' → t' <:+ tt:=fun s hs e => by
  obtain ⟨u,hu,h2⟩:=hs t' e
  cases hu
  exact h2
 have ins : ∀ (q : Pg) (y : Int) (w : Wd) (u : List Wd),(ats q).Perm (y :: ats p) → y = w.a → (w :: u) <:+ (x :: tt) → t' <:+ u → NaP q t':=fun q y w u hp ey hu ht' => by
  subst ey
  have hp2:=hS.sublist hu.sublist
  exact hG.ins hp (hu.subset List.mem_cons_self) (ht'.trans ((List.suffix_cons _ _).trans hu)) (fun v hv => (List.pairwise_cons.1 hp2).1 v (ht'.subset hv))
 cases b1 : (RS.ok (x :: tt)).is kLock with
 | true =>
  rcases limF_cases p.ls.length 8 x tt with e | e
  · have eT : thingF n p (.ok (x :: tt)) = ({ p with ls:=p.ls ++ [⟨(nameF (.ok tt)).1.2,(nameF (.ok tt)).1.1⟩] },(nameF (.ok tt)).2.need [59]):=by simp [thingF,b1,e,RS.good,RS.adv]
    rw [eT] at ht ⊢
    obtain ⟨u,hu,hs⟩:=need_sb [59] (nameF (.ok tt)).2 t' ht
    obtain ⟨⟨q,τ⟩,hq⟩ : ∃ q,nameF (.ok tt) = q:=⟨_,rfl⟩
    have hu' : τ = .ok u:=by (rw [hq] at hu;exact hu)
    subst hu'
    obtain ⟨w,hw,ha⟩:=name_w hft hq
    refine ⟨ins _ _ w u (perm_l p _) ?_ (by (rw [← hw];exact List.suffix_cons _ _)) hs,sub _ ((need_sb _ _).trans (name_sb _).1) ht⟩
    rw [hq]
    show (q.2 : Int) = w.a
    rw [ha]
  · have eT : thingF n p (.ok (x :: tt)) = (p,.bad 2 x.a):=by simp [thingF,b1,e,RS.good]
    rw [eT] at ht
    cases ht
 | false =>
  cases b2 : (RS.ok (x :: tt)).is kFunc with
  | true =>
   rcases limF_cases p.fs.length 16 x tt with e | e
   · have eT : thingF n p (.ok (x :: tt)) = ({ p with fs:=p.fs ++ [(funcF n (.ok (x :: tt))).1] },(funcF n (.ok (x :: tt))).2):=by simp [thingF,b1,b2,e,RS.good]
     rw [eT] at ht ⊢
     obtain ⟨w,u,hw,ha,hs⟩:=func_na n hft hn ht
     exact ⟨ins _ _ w u (perm_f p _) ha (by (rw [← hw];exact List.suffix_cons _ _)) hs,by (rw [hw];exact hs.trans (List.suffix_cons _ _))⟩
   · have eT : thingF n p (.ok (x :: tt)) = (p,.bad 2 x.a):=by simp [thingF,b1,b2,e,RS.good]
     rw [eT] at ht
     cases ht
  | false =>
   cases b3 : (RS.ok (x :: tt)).is kThread with
   | true =>
    rcases limF_cases p.ths.length 4 x tt with e | e
    · have eT : thingF n p (.ok (x :: tt)) = ({ p with ths:=p.ths ++ [(blockF n 0 (.ok tt)).1] },(blockF n 0 (.ok tt)).2):=by simp [thingF,b1,b2,b3,e,RS.good,RS.adv]
      rw [eT] at ht ⊢
      have kb:=(rd_all n).2.1 0 (.ok tt) hft hn
      have hs:=sub _ kb.1 ht
      exact ⟨hG.mono rfl (hs.trans (List.suffix_cons _ _)),hs⟩
    · have eT : thingF n p (.ok (x :: tt)) = (p,.bad 2 x.a):=by simp [thingF,b1,b2,b3,e,RS.good]
      rw [eT] at ht
      cases ht
   | false =>
    cases b4 : ((RS.ok (x :: tt)).is kPublic || (RS.ok (x :: tt)).is kSecret) with
    | true =>
     have eT : thingF n p (.ok (x :: tt)) = ({ p with gs:=p.gs ++ [(globF p.gs.length (.ok (x :: tt))).1] },(globF p.gs.length (.ok (x :: tt))).2):=by simp [thingF,b1,b2,b3,b4]
     rw [eT] at ht ⊢
     have hk : Sb (eithF kPublic kSecret (limF p.gs.length 32 (.ok (x :: tt)))).2 (.ok tt):=by
      rcases limF_cases p.gs.length 32 x tt with e | e
      · rw [e]
        unfold eithF
        cases b5 : (RS.ok (x :: tt)).is kSecret with
        | true => simp only [if_true];exact .refl _
        | false =>
         simp only [Bool.false_eq_true,if_false]
         rw [b5,Bool.or_false] at b4
         unfold RS.need
         rw [if_pos b4]
         exact .refl _
      · rw [e]
        exact .bad _ _ _
     have hlf : (limF p.gs.length 32 (.ok (x :: tt))).fin:=by
      rcases limF_cases p.gs.length 32 x tt with e | e
      · rw [e]
        exact hf
      · rw [e]
        exact bad_fin _ _
     obtain ⟨w,u,hw,ha,hs⟩:=glob_na p.gs.length (kind_le hlf).2 ht
     have k1 : Sb (kindF (limF p.gs.length 32 (.ok (x :: tt)))).2 (.ok tt):=(eith_sb kInt kBool _).trans hk
     obtain ⟨u2,hu2,hs2⟩:=k1 (w :: u) hw
     cases hu2
     exact ⟨ins _ _ w u (perm_g p _) ha (hs2.trans (List.suffix_cons _ _)) hs,sub _ (glob_sb _ hk) ht⟩
    | false =>
     have eT : thingF n p (.ok (x :: tt)) = (p,(RS.ok (x :: tt)).fail 11):=by simp [thingF,b1,b2,b3,b4]
     rw [eT] at ht
     cases ht
theorem whole_na (n : Nat) : ∀ (m : Nat) (p : Pg) (tt : List Wd),(RS.ok tt).fin → 3 * tt.length ≤ n + 1 → tt.Pairwise (fun x y => x.a < y.a) → NaP p tt → ∀ q t',wholeF n m p (.ok tt) = (q,.ok t') → NaP q t'
 | 0,p,tt,_,_,_,hG,q,t',h => by
  have : wholeF n 0 p (.ok tt) = (p,.ok tt):=rfl
  rw [this] at h
  cases h
  exact hG
 | m + 1,p,tt,hf,hn,hS,hG,q,t',h => by
  obtain ⟨x,r,rfl⟩:=(hf tt rfl).ne
  by_cases hx : x.k = 3
  · have e : wholeF n (m + 1) p (.ok (x :: r)) = (p,.ok (x :: r)):=by simp [wholeF,RS.hd,hx]
    rw [e] at h
    cases h
    exact hG
  · have e : wholeF n (m + 1) p (.ok (x :: r)) = wholeF n m (thingF n p (.ok (x :: r))).1 (thingF n p (.ok (x :: r))).2:=by simp [wholeF,RS.hd,RS.good,hx]
    rw [e] at h
    have hlen : 3 * r.length + 2 ≤ n:=by (simp only [List.length_cons] at hn;omega)
    have hle:=thing_le n p hf hx
    cases hq : (thingF n p (.ok (x :: r))).2 with
    | ok t2 =>
     have hg:=thing_na hf hx hlen hS hG hq
     rw [hq] at h hle
     have h2 : t2.length ≤ r.length:=hg.2.length_le
     exact whole_na n m _ t2 hle.2 (by omega) (hS.sublist (hg.2.trans (List.suffix_cons _ _)).sublist) hg.1 q t' h
    | bad c a =>
     rw [hq] at h
     have e2 : wholeF n m (thingF n p (.ok (x :: r))).1 (.bad c a) = ((thingF n p (.ok (x :: r))).1,.bad c a):=by
      cases m with
      | zero => rfl
      | succ m => simp [wholeF,RS.good]
     rw [e2] at h
     cases h
theorem par_na {s : ByteArray} {ws t : List Wd} {p : Pg} (hS : Sc numO s.data.toList 0 ws none) (hp : parF ws = (p,.ok t)) : (ats p).Nodup :=
 (whole_na (3 * ws.length + 2) (ws.length + 1) ⟨[],[],[],[]⟩ ws (fun _ e => by cases e;exact hS.fin rfl) (by omega) (sc_sorted hS).1 ⟨by simp [ats],by simp [ats]⟩ p t hp).1
theorem r4_parse9 (s : ByteArray) (w : World) :
 Calls Try.prog 7 #[.string s] w fun e w' => Below w.heap.size w w' ∧ ∃ z0 n0 c0 z1 n1 c1 z2 n2 c2 z3 n3 c3 c a,e = .returned (.tuple #[.agg #[.slice z0 n0 c0,.slice z1 n1 c1,.slice z2 n2 c2,.slice z3 n3 c3],.int .i64 c,.int .i64 a]) ∧
  (c ≠ 0 ∨ (c = 0 ∧ ∃ p rf rt,ShP p ∧ AtP p ∧ (ats p).Nodup ∧ PRows w.heap.size w' p (.slice z0 n0 c0) (.slice z1 n1 c1) (.slice z2 n2 c2) (.slice z3 n3 c3) rf rt)) :=
 (r4_parse_any s w).mono fun e w' ⟨hb,v0,v1,v2,v3,c,a,he,h⟩ => by
  rcases h with ⟨hc,rfl,rfl,rfl,rfl⟩ | ⟨hc,hs,ws,p,t,rf,rt,hS,hp,R⟩
  · exact ⟨hb,_,_,_,_,_,_,_,_,_,_,_,_,c,a,he,.inl hc⟩
  · have hG:=GX.par_good hS hs hp
    have hN:=par_nice hS hs hp
    have hA : AtP p:=by (have:=par_at ws;rw [hp] at this;exact this)
    obtain ⟨z0,c0,rfl⟩:=own_form R.g
    obtain ⟨z1,c1,rfl⟩:=own_form R.l
    obtain ⟨z2,c2,rfl⟩:=own_form R.f
    obtain ⟨z3,c3,rfl⟩:=own_form R.t
    exact ⟨hb,_,_,_,_,_,_,_,_,_,_,_,_,c,a,he,.inr ⟨hc,p,rf,rt,shp_of hG hN,hA,par_na hS hp,R⟩⟩
theorem results_s1 {X : World} {n : Nat} {v0 v1 v2 v3 lv : Value} {d : Int} {fn : Func} {p : Tmp} (hfn : fn.results = #[.cell p 38]) (tmps : Array Value) (hp : tmps.getD p undef = .pointer (some ⟨n,0,none⟩)) (h : ZSb X n v0 v1 v2 v3 d lv) :
 (results fn tmps).run Try.prog X = .ok (.agg #[v0,v1,v2,v3,.int .i64 d,lv]) X:=by
 have hp' : tmps[p]?.getD undef = .pointer (some ⟨n,0,none⟩):=by simpa using hp
 simp [results,hfn,hp',asAddr,run_loadVar_row X n 38 38 _ (0,0) _ h Try.underlying38 rfl (by kernel_rfl)]
theorem lc_one {s : ByteArray} {tr sc : Bool} {i : Int} : ∀ u ∈ ([.string s,.bool tr,.bool sc,.int .i64 i] : List Value),u.oneCell' = true:=by
 intro u hu
 simp at hu
 rcases hu with rfl | rfl | rfl | rfl <;> rfl
def keptL (ls : List Lc) (d : Nat) : List Lc:=ls.filter fun x => decide (x.dp < d)
theorem keptL_yes {ls : List Lc} {d i : Nat} {x : Lc} (hx : ls[i]? = some x) (h : x.dp < d) : keptL (ls.take (i + 1)) d = keptL (ls.take i) d ++ [x]:=by
 rw [List.take_add_one,hx]
 simp [keptL,List.filter_append,h]
theorem keptL_no {ls : List Lc} {d i : Nat} {x : Lc} (hx : ls[i]? = some x) (h : ¬ x.dp < d) : keptL (ls.take (i + 1)) d = keptL (ls.take i) d:=by
 rw [List.take_add_one,hx]
 simp [keptL,List.filter_append]
 omega
theorem keptL_len (ls : List Lc) (d i : Nat) : (keptL (ls.take i) d).length ≤ i:=Nat.le_trans (List.length_filter_le _ _) (List.length_take_le _ _)
def LvR (B : Nat) (w' : World) (v0 v1 v2 v3 : Value) (d : Nat) (ls : List Lc) (e : Ending) : Prop :=
 ∃ z n k,e = .returned (.agg #[v0,v1,v2,v3,.int .i64 ((d - 1 : Nat) : Int),.slice z n k]) ∧ w'.ownsRow B 53 4 (.slice z n k) (if d = 0 then ls else keptL ls d).length ((if d = 0 then ls else keptL ls d).flatMap lcCells)
theorem rleave_any {W : World} {B2 : Nat} {ls : List Lc} {z0 z1 z2 z3 zl : Option Addr} {n0 n1 n2 n3 nl k0 k1 k2 k3 kl d : Nat} (hd : d ≤ 1000000) (hl : Hid (W.ownsRow B2 53 4 (.slice zl nl kl) ls.length (ls.flatMap lcCells))) (hll : ls.length ≤ 1000000) :
 Calls Try.prog 12 #[.agg #[.slice z0 n0 k0,.slice z1 n1 k1,.slice z2 n2 k2,.slice z3 n3 k3,.int .i64 d,.slice zl nl kl]] W fun e w' => Below W.heap.size W w' ∧ LvR 0 w' (.slice z0 n0 k0) (.slice z1 n1 k1) (.slice z2 n2 k2) (.slice z3 n3 k3) d ls e:=by
 obtain ⟨i0,hinf,hzi0,hzi1,hzi2⟩:=info_parts infoLc
 have enl : ls.length = nl:=own_len hl.out
 have HN:=hid enl
 have HR0 : Hid (W.ownsRow B2 53 4 (.slice zl nl kl) nl (ls.flatMap lcCells)):=hid (by (have:=hl.out;rwa [enl] at this))
 have hnl : nl ≤ 1000000:=by (rw [← enl];exact hll)
 clear enl hl hll
 obtain ⟨bs,hbs⟩ : ∃ n,W.heap.size = n:=⟨_,rfl⟩
 have HBS:=hid hbs
 go_enter Try.func12,Try.ntmps12
 go_upto_region 1 with (fail)
 refine name_world ?_
 intro W1 hW1
 have HB1 : Hid (Below W.heap.size W W1):=hid (by (rw [hW1];exact (below_of_alloc _ _).alloc (by simp) _))
 have HM1 : Hid (ZSb W1 bs (.slice z0 n0 k0) (.slice z1 n1 k1) (.slice z2 n2 k2) (.slice z3 n3 k3) d (.slice zl nl kl)):=hid (by (rw [hW1,← hbs];exact (ZSb.new rfl).alloc _))
 have HZ1 : Hid (ZSb W1 (bs + 1) (.slice none 0 0) (.slice none 0 0) (.slice none 0 0) (.slice none 0 0) 0 (.slice none 0 0)):=hid (by (rw [hW1];exact ZSb.new (by simp [hbs])))
 have HS0:=hid (own_below HR0.out HB1.out)
 try simp only [hbs]
 clear hW1 hbs HR0
 obtain ⟨sl,⟨m0,m1,m2,m3,m4,m5⟩,mf0,mf1,mf2,mf3,mf4,mf5⟩:=HM1.out.facts
 obtain ⟨zl',⟨y0,y1,y2,y3,y4,y5⟩,yf0,yf1,yf2,yf3,yf4,yf5⟩:=HZ1.out.facts
 have hne : bs ≠ bs + 1:=by omega
 by_cases hd0 : d = 0
 · subst hd0
   go_wp2
   refine bodyPost_ret (results_s1 rfl _ rfl HZ1.out.all) rfl ⟨?_,zl,nl,kl,rfl,?_⟩
   · have hge : W.heap.size ≤ bs + 1:=by (rw [HBS.out];exact Nat.le_succ _)
     exact ((((((HB1.out.setCell hge _).setCell hge _).setCell hge _).setCell hge _).setCell hge _).setCell hge _)
   · rw [if_pos rfl,HN.out]
     have hno:=own_ne HS0.out HZ1.out (by decide)
     exact own_base (own_setN (own_setN (own_setN (own_setN (own_setN (own_setN HS0.out hno _ _) hno _ _) hno _ _) hno _ _) hno _ _) hno _ _) (Nat.zero_le _)
 have hdb : ((d : Int) == 0) = false:=by (have : ¬ (d : Int) = 0:=by omega);simpa using this
 have hdn : ¬ (d : Int) = 0:=by omega
 go_upto_region 5 with (fail)
 clear m0 m1 m2 m3 m4 m5 mf0 mf1 mf2 mf3 mf4 mf5 y0 y1 y2 y3 y4 y5 yf0 yf1 yf2 yf3 yf4 yf5
 go_loopw [3,4] (fun tv iv wr => ∃ (i : Nat) (v : Value),tv = v ∧ iv = .int .i64 i ∧ i ≤ nl ∧ Below W1.heap.size W1 wr ∧ wr.ownsRow W1.heap.size 53 4 v (keptL (ls.take i) d).length ((keptL (ls.take i) d).flatMap lcCells)) (fun _ iv _ => nl - (intOf iv).toNat)
 case atStart => exact ⟨0,_,rfl,rfl,Nat.zero_le _,Below.refl _ _,World.ownsRow_nil _ _ _ _⟩
 case round =>
  obtain ⟨i,v,rfl,rfl,hi,hbr,hown⟩:=hrel
  have HBR:=hid hbr
  have HOW:=hid hown
  have HM:=hid (HM1.out.stay hbr)
  obtain ⟨sl',⟨m0,m1,m2,m3,m4,m5⟩,mf0,mf1,mf2,mf3,mf4,mf5⟩:=HM.out.facts
  by_cases hin : i < nl
  · obtain ⟨x,hx⟩ : ∃ x,ls[i]? = some x:=⟨_,List.getElem?_eq_getElem (by (have:=HN.out;omega))⟩
    obtain ⟨gx,cx,ez,hgx,_⟩:=row_some HS0.out (show 0 < nl by omega)
    cases ez
    have hrw:=own_below HS0.out hbr
    have d0:=plain_cell (K:=4) (f:=lcCells) (fun _ => rfl) hrw hx (j:=0) (u:=.string x.nm) rfl
    have d1:=plain_cell (K:=4) (f:=lcCells) (fun _ => rfl) hrw hx (j:=1) (u:=.bool x.tr) rfl
    have d2:=plain_cell (K:=4) (f:=lcCells) (fun _ => rfl) hrw hx (j:=2) (u:=.bool x.sc) rfl
    have d3:=plain_cell (K:=4) (f:=lcCells) (fun _ => rfl) hrw hx (j:=3) (u:=.int .i64 x.dp) rfl
    simp only [Nat.add_zero] at d0
    have hgw : gx < wr.heap.size:=Nat.lt_of_lt_of_le hgx hbr.size
    have hlt : (i : Int) < (nl : Int):=by omega
    have hi0 : (0 : Int) ≤ (i : Int):=Int.natCast_nonneg _
    have HX:=hid hx
    have hcnt:=keptL_len ls d i
    have hBW2 : W1.heap.size ≤ wr.heap.size:=hbr.size
    clear hrw hx hbr hown mf0 mf1 mf2 mf3 mf4 mf5 m0 m1 m2 m3
    by_cases hq : x.dp < d
    · have hqi : (x.dp : Int) < (d : Int):=by omega
      have HQ:=hid hq
      clear hq
      go_upto_region 7 with (fail)
      refine wp_region_quiet_lit (by kernel_rfl) (by kernel_rfl) ?_
      repeat (any_goals (first | go_big_quiet_step (fail) | quiet_step (fail)))
      refine wpQuiet_nil ?_
      intro _ hw'
      obtain ⟨nq,hw''⟩:=hw'
      subst hw''
      have f0 : (wr.drewN nq).cell? ⟨gx,i * 4,none⟩ = some (.string x.nm):=d0
      have f1 : (wr.drewN nq).cell? ⟨gx,i * 4 + 1,none⟩ = some (.bool x.tr):=d1
      have f2 : (wr.drewN nq).cell? ⟨gx,i * 4 + 2,none⟩ = some (.bool x.sc):=d2
      have f3 : (wr.drewN nq).cell? ⟨gx,i * 4 + 3,none⟩ = some (.int .i64 x.dp):=d3
      have f5 : (wr.drewN nq).cell? ⟨bs,5,none⟩ = some (.slice (some ⟨gx,0,none⟩) nl kl):=m5
      have HO2 : Hid ((wr.drewN nq).ownsRow W1.heap.size 53 4 u3 (keptL (ls.take i) d).length ((keptL (ls.take i) d).flatMap lcCells)):=hid (own_below HOW.out (below_drewN (Below.refl _ _) nq))
      have hsz : (wr.drewN nq).heap.size = wr.heap.size:=rfl
      clear d0 d1 d2 d3 m4 m5
      obtain ⟨W2,hW2⟩ : ∃ X,X = wr.drewN nq:=⟨_,rfl⟩
      rw [← hW2] at f0 f1 f2 f3 f5 HO2 hsz ⊢
      have HB2 : Hid (Below W1.heap.size W1 W2):=hid (by (rw [hW2];exact below_drewN HBR.out nq))
      have hgw2 : gx < W2.heap.size:=by (rw [hsz];exact hgw)
      have hbs2 : bs < W2.heap.size:=by (rw [hsz];exact sl')
      have hBW3 : W1.heap.size ≤ W2.heap.size:=by (rw [hsz];exact hBW2)
      clear hW2 hsz hBW2
      go_wp2_with (at_builtin;go_must (refine wpList_append_own _ rfl (.tmp 25) (.tmp 31) 36 rfl W1.heap.size 53 i0 _ 4 32 Try.underlying36 hinf hzi0 hzi1 hzi2 rfl (by decide) _ _ _ rfl (HO2.out.alloc _) ⟨_,0,none⟩ 1 1 [.string x.nm,.bool x.tr,.bool x.sc,.int .i64 x.dp] rfl rfl (World.news_of_block (heap_alloc_new _ _)) lc_one (by unfold maxLen;omega) (by omega) (by simp;omega) ?_;intro v4 w4 hown4 hgrow4 _;have HO4:=hid hown4;have HG4:=hid hgrow4;clear hown4 hgrow4))
      go_roundw
      case rel =>
       refine ⟨i + 1,_,rfl,by go_num,by omega,(HB2.out.alloc (by omega) _).grown HG4.out (by simp;omega) (own_memN HOW.out),?_⟩
       rw [keptL_yes HX.out HQ.out,List.length_append,List.flatMap_append]
       exact HO4.out
      case measure =>
       simp [intOf]
       omega
    · have hqi : ¬ (x.dp : Int) < (d : Int):=by omega
      have HQ:=hid hq
      clear hq
      go_upto_region 7 with (fail)
      refine wp_region_quiet_lit (by kernel_rfl) (by kernel_rfl) ?_
      repeat (any_goals (first | go_big_quiet_step (fail) | quiet_step (fail)))
      refine wpQuiet_nil ?_
      intro _ hw'
      obtain ⟨nq,hw''⟩:=hw'
      subst hw''
      go_wp2
      refine ⟨⟨i + 1,_,rfl,by go_num,by omega,below_drewN HBR.out nq,?_⟩,?_⟩
      · rw [keptL_no HX.out HQ.out]
        exact own_below HOW.out (below_drewN (Below.refl _ _) nq)
      · simp [intOf]
        omega
  · have hlt : ¬ (i : Int) < (nl : Int):=by omega
    obtain rfl : nl = i:=by omega
    have et : ls.take nl = ls:=by (rw [← HN.out];exact List.take_length)
    rw [et] at HOW
    have HZ:=hid (HZ1.out.stay HBR.out)
    obtain ⟨zl2,⟨y0,y1,y2,y3,y4,y5⟩,yf0,yf1,yf2,yf3,yf4,yf5⟩:=HZ.out.facts
    have HBW : Hid (Below W.heap.size W wr):=hid (below_ch HB1.out HBR.out)
    obtain ⟨zv,kv,rfl⟩:=own_form HOW.out
    have e1 : (d : Int) - 1 = ((d - 1 : Nat) : Int):=by omega
    have hge : W.heap.size ≤ bs + 1:=by (rw [HBS.out];exact Nat.le_succ _)
    clear et hbr hown
    have hlW : bs + 1 < W1.heap.size:=(Array.getElem?_eq_some_iff.1 HZ1.out).1
    have ab : (Value.slice zv (keptL ls d).length kv).ownBlock ≠ some bs:=fun h => by (have:=own_memN HOW.out bs h;omega)
    have ac : (Value.slice zv (keptL ls d).length kv).ownBlock ≠ some (bs + 1):=fun h => by (have:=own_memN HOW.out (bs + 1) h;omega)
    have hgs : W.heap.size ≤ bs:=by (rw [HBS.out];exact Nat.le_refl _)
    go_wp2
    refine bodyPost_ret (results_s1 rfl _ rfl ((HZ.out.setO hne.symm 5 _).setO hne.symm 4 _).all) rfl ⟨?_,zv,_,kv,rfl,?_⟩
    · exact ((((((((HBW.out.setCell hgs _).setCell hgs _).setCell hge _).setCell hge _).setCell hge _).setCell hge _).setCell hge _).setCell hge _)
    · rw [if_neg hd0]
      exact own_base (own_setN (own_setN (own_setN (own_setN (own_setN (own_setN (own_setN (own_setN HOW.out ab _ _) ab _ _) ac _ _) ac _ _) ac _ _) ac _ _) ac _ _) ac _ _) (Nat.zero_le _)
def lcTy (ls : List Lc) (t : List UInt8) : Bool × Bool:=match findK (fun y => y.nm.data.toList) t 0 ls with
 | some q => (q.1.tr,q.1.sc)
 | none => (false,false)
def rTy (p : Pg) (ls : List Lc) (t : List UInt8) : Bool × Bool :=
 if 0 ≤ (rGl p.gs t).2 then ((rGl p.gs t).1.tr,(rGl p.gs t).1.sc) else if rKd p ls t = 4 then lcTy ls t else (false,false)
theorem ZBlk.stay {X Y : World} {n : Nat} {tr sc : Bool} (h : ZBlk X n tr sc) (hf : Below X.heap.size X Y) : ZBlk Y n tr sc:=(hf.block n (Array.getElem?_eq_some_iff.1 h).1).trans h
theorem rLo_at {ls : List Lc} {t : List UInt8} (h : 0 ≤ rLo ls t) : ∃ (i : Nat) (x : Lc),rLo ls t = (i : Int) ∧ ls[i]? = some x ∧ lcTy ls t = (x.tr,x.sc):=by
 unfold rLo at h ⊢
 unfold lcTy
 cases hq : findK (fun y : Lc => y.nm.data.toList) t 0 ls with
 | none =>
  rw [hq] at h
  exact absurd h (by decide)
 | some q =>
  obtain ⟨i,h1,h2,_⟩:=findK_some hq
  exact ⟨i,q.1,by (show (q.2 : Int) = _;omega),h2,rfl⟩
theorem rKd_four {p : Pg} {ls : List Lc} {t : List UInt8} (h : rKd p ls t = 4) : 0 ≤ rLo ls t:=by
 unfold rKd at h
 by_cases c1 : 0 ≤ (rGl p.gs t).2
 · rw [if_pos c1] at h
   exact absurd h (by decide)
 rw [if_neg c1] at h
 by_cases c2 : 0 ≤ rLk p.ls t
 · rw [if_pos c2] at h
   exact absurd h (by decide)
 rw [if_neg c2] at h
 by_cases c3 : 0 ≤ (rFn p.fs t).2
 · rw [if_pos c3] at h
   exact absurd h (by decide)
 rw [if_neg c3] at h
 by_cases c4 : 0 ≤ rLo ls t
 · exact c4
 · rw [if_neg c4] at h
   exact absurd h (by decide)
theorem rtype_any {W : World} {B B2 : Nat} {ls : List Lc} {p : Pg} {v0 v1 v2 v3 : Value} {rf : List (Fn × FV)} {rt : List (List Stm × Value)} (R : Hid (PRows B W p v0 v1 v2 v3 rf rt)) (d : Int) {zl : Option Addr} {nl kl : Nat} (hl : Hid (W.ownsRow B2 53 4 (.slice zl nl kl) ls.length (ls.flatMap lcCells))) (hll : ls.length ≤ 1000000) (hp : p.gs.length ≤ 1000 ∧ p.ls.length ≤ 1000 ∧ p.fs.length ≤ 1000) (t : ByteArray) :
 Calls Try.prog 37 #[.agg #[v0,v1,v2,v3,.int .i64 d,.slice zl nl kl],.string t] W fun e w' => Below W.heap.size W w' ∧ e = .returned (.agg #[.bool (rTy p ls t.data.toList).1,.bool (rTy p ls t.data.toList).2]):=by
 obtain ⟨z0,n0,k0,rfl⟩ : ∃ z n k,v0 = .slice z n k:=(own_form R.out.g).elim fun z h => h.elim fun k h => ⟨z,_,k,h⟩
 obtain ⟨z1,n1,k1,rfl⟩ : ∃ z n k,v1 = .slice z n k:=(own_form R.out.l).elim fun z h => h.elim fun k h => ⟨z,_,k,h⟩
 obtain ⟨z2,n2,k2,rfl⟩ : ∃ z n k,v2 = .slice z n k:=(own_form R.out.f).elim fun z h => h.elim fun k h => ⟨z,_,k,h⟩
 obtain ⟨z3,n3,k3,rfl⟩ : ∃ z n k,v3 = .slice z n k:=(own_form R.out.t).elim fun z h => h.elim fun k h => ⟨z,_,k,h⟩
 obtain ⟨g,ng,eg⟩ : ∃ g ng,rGl p.gs t.data.toList = (g,ng):=⟨_,_,rfl⟩
 obtain ⟨kd,ekd⟩ : ∃ kd,rKd p ls t.data.toList = kd:=⟨_,rfl⟩
 obtain ⟨no,eo⟩ : ∃ no,rLo ls t.data.toList = no:=⟨_,rfl⟩
 have CG : Hid (∀ X,Below W.heap.size W X → Calls Try.prog 35 #[.agg #[.slice z0 n0 k0,.slice z1 n1 k1,.slice z2 n2 k2,.slice z3 n3 k3,.int .i64 d,.slice zl nl kl],.string t] X fun e w' => Below X.heap.size X w' ∧ e = .returned (.tuple #[glVal g,.int .i64 ng])):=hid fun X hX => by
  have h:=rglob_any (hid (R.out.stay hX)) d zl nl kl t hp.1
  rw [eg] at h
  exact h
 have CK : Hid (∀ X,Below W.heap.size W X → Calls Try.prog 34 #[.agg #[.slice z0 n0 k0,.slice z1 n1 k1,.slice z2 n2 k2,.slice z3 n3 k3,.int .i64 d,.slice zl nl kl],.string t] X fun e w' => Below X.heap.size X w' ∧ e = .returned (.int .i64 kd)):=hid fun X hX => by
  have h:=rkind_any (hid (R.out.stay hX)) d (hid (own_below hl.out hX)) hll hp t
  rw [ekd] at h
  exact h
 have CO : Hid (∀ X,Below W.heap.size W X → Calls Try.prog 60 #[.agg #[.slice z0 n0 k0,.slice z1 n1 k1,.slice z2 n2 k2,.slice z3 n3 k3,.int .i64 d,.slice zl nl kl],.string t] X fun e w' => Below X.heap.size X w' ∧ e = .returned (.int .i64 no)):=hid fun X hX => by
  have h:=rloc_any (hid (R.out.stay hX)) d (hid (own_below hl.out hX)) hll t
  rw [eo] at h
  exact h
 have enl : ls.length = nl:=own_len hl.out
 have HR0 : Hid (W.ownsRow B2 53 4 (.slice zl nl kl) nl (ls.flatMap lcCells)):=hid (by (have:=hl.out;rwa [enl] at this))
 have H4 : Hid (kd = 4 → ∃ (i : Nat) (x : Lc),no = (i : Int) ∧ ls[i]? = some x ∧ lcTy ls t.data.toList = (x.tr,x.sc) ∧ i < nl):=hid fun h => by
  have h0:=rKd_four (ekd.trans h)
  obtain ⟨i,x,h1,h2,h3⟩:=rLo_at h0
  exact ⟨i,x,eo.symm.trans h1,h2,h3,by (rw [← enl];exact (List.getElem?_eq_some_iff.1 h2).1)⟩
 obtain ⟨r,hr⟩ : ∃ r,rTy p ls t.data.toList = r:=⟨_,rfl⟩
 rw [hr]
 have HRR : Hid (r = if 0 ≤ ng then (g.tr,g.sc) else if kd = 4 then lcTy ls t.data.toList else (false,false)):=hid (by (rw [← hr];unfold rTy;rw [eg,ekd]))
 clear eg ekd eo R hl hll hp hr enl
 go_enter Try.func37,Try.ntmps37
 go_upto_region 1 with (fail)
 refine name_world ?_
 intro W1 hW1
 obtain ⟨bs,ebs⟩ : ∃ n,W.heap.size = n:=⟨_,rfl⟩
 have HB1 : Hid (Below W.heap.size W W1):=hid (by (rw [hW1];exact (below_of_alloc _ _).alloc (by simp) _))
 have HS1 : Hid (ZSb W1 bs (.slice z0 n0 k0) (.slice z1 n1 k1) (.slice z2 n2 k2) (.slice z3 n3 k3) d (.slice zl nl kl)):=hid (by (rw [hW1,← ebs];exact (ZSb.new rfl).alloc _))
 have HT1 : Hid (ZBlk W1 (bs + 1) false false):=hid (by (rw [hW1];exact ZBlk.new (by simp [ebs])))
 have HBS:=hid ebs
 try simp only [ebs]
 clear hW1 ebs
 obtain ⟨sl,⟨m0,m1,m2,m3,m4,m5⟩,_⟩:=HS1.out.facts
 go_upto_region 2 with (go_at_call 35;refine (CG.out _ HB1.out).mono ?_;rintro e1 w1 ⟨hb1,rfl⟩;have HC1:=hid hb1;clear hb1;simp only [glVal])
 refine name_world ?_
 intro W2 hW2
 have HQ2 : Hid (Below W1.heap.size W1 W2):=hid (by (rw [hW2];exact below_ch HC1.out (below_of_alloc _ _)))
 have HG2 : Hid (GBlk W2 w1.heap.size g.a (bstr g.nm) g.tr g.sc g.len (bstr g.by_)):=hid (by (rw [hW2];exact GBlk.new rfl))
 have HB2 : Hid (Below W.heap.size W W2):=hid (below_ch HB1.out HQ2.out)
 have HS2:=hid (HS1.out.stay HQ2.out)
 have HT2:=hid (HT1.out.stay HQ2.out)
 obtain ⟨gb,egb⟩ : ∃ n,w1.heap.size = n:=⟨_,rfl⟩
 rw [egb] at HG2
 try simp only [egb]
 clear hW2 m0 m1 m2 m3 m4 m5 sl egb HC1
 obtain ⟨sl,⟨m0,m1,m2,m3,m4,m5⟩,_⟩:=HS2.out.facts
 have hge : W.heap.size ≤ bs + 1:=by (rw [HBS.out];exact Nat.le_succ _)
 by_cases c1 : 0 ≤ ng
 · have C1:=hid c1
   obtain ⟨gl,⟨g0,g1,g2,g3,g4,g5⟩,_⟩:=HG2.out.facts
   obtain ⟨tl,⟨y0,y1⟩,yf0,yf1⟩:=HT2.out.facts
   go_wp2
   refine bodyPost_ret (results_zt rfl _ rfl HT2.out.all) rfl ⟨(HB2.out.setCell hge _).setCell hge _,?_⟩
   rw [HRR.out,if_pos C1.out]
 have C1:=hid c1
 go_upto_region 4 with (fail)
 by_cases c2 : kd = 4
 · obtain ⟨i,x,rfl,hx,hty,hin⟩:=H4.out c2
   subst c2
   have HTY:=hid hty
   have HX:=hid hx
   clear hx hty
   go_upto_region 5 with (go_at_call 34;refine (CK.out _ HB2.out).mono ?_;rintro e2 w2 ⟨hb2,rfl⟩;have HB3:=hid (below_ch HB2.out hb2);have HS3:=hid (HS2.out.stay hb2);have HT3:=hid (HT2.out.stay hb2);clear hb2)
   have hl0 : 0 < nl:=by omega
   obtain ⟨gx,cx,ez,hgx,_⟩:=row_some HR0.out hl0
   cases ez
   have HB3d : Hid (Below W.heap.size W w2.drew):=hid HB3.out.drew
   have HS3d:=hid (HS3.out.stay ((Below.refl w2.heap.size w2).drew))
   have HT3d:=hid (HT3.out.stay ((Below.refl w2.heap.size w2).drew))
   clear m0 m1 m2 m3 m4 m5 sl
   obtain ⟨sl,⟨m0,m1,m2,m3,m4,m5⟩,_⟩:=HS3d.out.facts
   have hlt : (i : Int) < (nl : Int):=by omega
   have hi0 : (0 : Int) ≤ (i : Int):=Int.natCast_nonneg _
   go_region_law (go_simp;go_at_call 60;(with_reducible refine (CO.out _ HB3d.out).mono ?_);rintro e3 w3 ⟨hb3,rfl⟩;have HB4:=hid (below_ch HB3d.out hb3);have HS4:=hid (HS3d.out.stay hb3);have HT4:=hid (HT3d.out.stay hb3);have s5 : w3.cell? ⟨bs,5,none⟩ = some (.slice (some ⟨gx,0,none⟩) nl kl):=HS4.out.facts.2.1.2.2.2.2.2;have e1 : w3.cell? ⟨gx,i * 4 + 1,none⟩ = some (.bool x.tr):=plain_cell (K:=4) (f:=lcCells) (fun _ => rfl) (own_below HR0.out HB4.out) HX.out (j:=1) rfl;have e2 : w3.cell? ⟨gx,i * 4 + 2,none⟩ = some (.bool x.sc):=plain_cell (K:=4) (f:=lcCells) (fun _ => rfl) (own_below HR0.out HB4.out) HX.out (j:=2) rfl;have hgw : gx < w3.heap.size:=Nat.lt_of_lt_of_le hgx HB4.out.size;obtain ⟨tl,⟨y0,y1⟩,yf0,yf1⟩:=HT4.out.facts;have sl4:=HS4.out.facts.1;clear hb3)
   all_goals go_wp2
   all_goals refine bodyPost_ret (results_zt rfl _ rfl HT4.out.all) rfl ⟨(HB4.out.setCell hge _).setCell hge _,?_⟩
   all_goals (rw [HRR.out,if_neg (by have:=C1.out;omega)];simp [HTY.out])
 · have C2:=hid c2
   have hkb : (kd == 4) = false:=by simpa using c2
   go_upto_region 6 with (go_at_call 34;refine (CK.out _ HB2.out).mono ?_;rintro e2 w2 ⟨hb2,rfl⟩;have HB3:=hid (below_ch HB2.out hb2);have HT3:=hid (HT2.out.stay hb2);clear hb2)
   obtain ⟨tl,⟨y0,y1⟩,yf0,yf1⟩:=HT3.out.facts
   go_wp2
   refine bodyPost_ret (results_zt rfl _ rfl HT3.out.all) rfl ⟨(HB3.out.setCell hge _).setCell hge _,?_⟩
   rw [HRR.out,if_neg (by have:=C1.out;omega),if_neg C2.out]
theorem wpList_rows {P : Program} {w : World} {ops : Array Oper} {rest : List Oper} {o : Oper} {a : Act} {Q : Exit → Act → World → Prop} (hgd : o.guard = none) (s x : Operand) (t : TypeId)
 (ho : o.op = .call { callee:=.builtin .append,args:=#[s,x],argTypes:=#[t,t] })
 (base base2 : Nat) (e : TypeId) (i : TypeInfo) (z : Value) (size bytes : Nat) (ht : P.underlying t = some (.slice e)) (hi : P.info? e = some i) (hz : i.zero = some z)
 (hsize : i.size = size) (hby : i.bytes = bytes) (hzs : z.cells.size = size) (hsz : 0 < size)
 (v : Value) (n : Nat) (xs : List Value) (hs : a.eval s = v) (hown : w.ownsRow base e size v n xs)
 (v2 : Value) (m : Nat) (ys : List Value) (hx : a.eval x = v2) (hown2 : w.ownsRow base2 e size v2 m ys) (h1 : ∀ u ∈ ys,u.oneCell' = true)
 (hbd : n + m ≤ 1000000) (hby2 : bytes ≤ 1000) (hbase : base ≤ w.heap.size)
 (h : ∀ z' c' k w',k = n + m → w'.ownsRow base e size (.slice z' k c') k (xs ++ ys) → w.grownBy w' v.ownBlock → wpList P ops Q rest (a.put o.dst (.slice z' k c')) w') : wpList P ops Q (o :: rest) a w:=by
 rcases hown2.2 with ⟨rfl,rfl⟩ | ⟨g,cap,cur,rfl,_⟩
 · have hy : ys = []:=List.eq_nil_of_length_eq_zero (by simpa using hown2.1)
   subst hy
   obtain ⟨p,c,rfl⟩:=own_form hown
   refine wpList_append_own_none hgd s x t ho base e i size ht hi _ n xs hs hown hx ?_
   exact h p c _ w rfl (by simpa using hown) ⟨rfl,rfl,rfl,Nat.le_refl _,fun _ _ _ => rfl⟩
 · have hb : (n + m) * bytes ≤ 1000000 * 1000:=Nat.mul_le_mul hbd hby2
   refine wpList_append_own w hgd s x t ho base e i z size bytes ht hi hz hsize hby hzs hsz v n xs hs hown ⟨g,0,none⟩ m cap ys hx hown2.1 (hown2.cells (g:=g) rfl) h1 (by unfold maxLen;omega) (by omega) hbase ?_
   intro v' w' h2 h3 _
   obtain ⟨p,c,rfl⟩:=own_form h2
   exact h p c _ w' rfl h2 h3
theorem results_s2 {X : World} {n : Nat} {v0 v1 v2 v3 lv u : Value} {d : Int} {fn : Func} {p q : Tmp} (hfn : fn.results = #[.cell p 38,.tmp q]) (tmps : Array Value) (hp : tmps.getD p undef = .pointer (some ⟨n,0,none⟩)) (hq : tmps.getD q undef = u) (h : ZSb X n v0 v1 v2 v3 d lv) :
 (results fn tmps).run Try.prog X = .ok (.tuple #[.agg #[v0,v1,v2,v3,.int .i64 d,lv],u]) X:=by
 have hp' : tmps[p]?.getD undef = .pointer (some ⟨n,0,none⟩):=by simpa using hp
 have hq' : tmps[q]?.getD undef = u:=by simpa using hq
 simp [results,hfn,hp',hq',asAddr,run_loadVar_row X n 38 38 _ (0,0) _ h Try.underlying38 rfl (by kernel_rfl)]
theorem lcs_one (l : List Lc) : ∀ u ∈ l.flatMap lcCells,u.oneCell' = true:=by
 intro u hu
 obtain ⟨x,_,hx⟩:=List.mem_flatMap.1 hu
 exact lc_one u hx
def LtR (B : Nat) (w' : World) (v0 v1 v2 v3 : Value) (d : Nat) (p : Pg) (ls : List Lc) (t : ByteArray) (tr sc : Bool) (e : Ending) : Prop :=
 ∃ z n k r ls',e = .returned (.tuple #[.agg #[v0,v1,v2,v3,.int .i64 d,.slice z n k],.int .i64 r]) ∧ w'.ownsRow B 53 4 (.slice z n k) ls'.length (ls'.flatMap lcCells) ∧
  ((r = 12 ∧ ls' = ls ∧ (d = 0 ∨ t.data.toList = [] ∨ rKd p ls t.data.toList ≠ 0)) ∨ (r = 0 ∧ d ≠ 0 ∧ t.data.toList ≠ [] ∧ rKd p ls t.data.toList = 0 ∧ ls' = ls ++ [⟨t,tr,sc,d⟩]))
theorem rlet_any {W : World} {B B2 : Nat} {ls : List Lc} {p : Pg} {v0 v1 v2 v3 : Value} {rf : List (Fn × FV)} {rt : List (List Stm × Value)} (R : Hid (PRows B W p v0 v1 v2 v3 rf rt)) (d : Nat) {zl : Option Addr} {nl kl : Nat} (hl : Hid (W.ownsRow B2 53 4 (.slice zl nl kl) ls.length (ls.flatMap lcCells))) (hll : ls.length ≤ 900000) (hp : p.gs.length ≤ 1000 ∧ p.ls.length ≤ 1000 ∧ p.fs.length ≤ 1000) (t : ByteArray) (tr sc : Bool) :
 Calls Try.prog 14 #[.agg #[v0,v1,v2,v3,.int .i64 d,.slice zl nl kl],.string t,.agg #[.bool tr,.bool sc]] W fun e w' => Below W.heap.size W w' ∧ LtR 0 w' v0 v1 v2 v3 d p ls t tr sc e:=by
 obtain ⟨i0,hinf,hzi0,hzi1,hzi2⟩:=info_parts infoLc
 obtain ⟨z0,n0,k0,rfl⟩ : ∃ z n k,v0 = .slice z n k:=(own_form R.out.g).elim fun z h => h.elim fun k h => ⟨z,_,k,h⟩
 obtain ⟨z1,n1,k1,rfl⟩ : ∃ z n k,v1 = .slice z n k:=(own_form R.out.l).elim fun z h => h.elim fun k h => ⟨z,_,k,h⟩
 obtain ⟨z2,n2,k2,rfl⟩ : ∃ z n k,v2 = .slice z n k:=(own_form R.out.f).elim fun z h => h.elim fun k h => ⟨z,_,k,h⟩
 obtain ⟨z3,n3,k3,rfl⟩ : ∃ z n k,v3 = .slice z n k:=(own_form R.out.t).elim fun z h => h.elim fun k h => ⟨z,_,k,h⟩
 obtain ⟨kd,ekd⟩ : ∃ kd,rKd p ls t.data.toList = kd:=⟨_,rfl⟩
 have CK : Hid (∀ X,Below W.heap.size W X → Calls Try.prog 34 #[.agg #[.slice z0 n0 k0,.slice z1 n1 k1,.slice z2 n2 k2,.slice z3 n3 k3,.int .i64 d,.slice zl nl kl],.string t] X fun e w' => Below X.heap.size X w' ∧ e = .returned (.int .i64 kd)):=hid fun X hX => by
  have h:=rkind_any (hid (R.out.stay hX)) (d : Int) (hid (own_below hl.out hX)) (by omega) hp t
  rw [ekd] at h
  exact h
 have HKD:=hid ekd
 have enl : ls.length = nl:=own_len hl.out
 have HN:=hid enl
 have HR0 : Hid (W.ownsRow B2 53 4 (.slice zl nl kl) nl (ls.flatMap lcCells)):=hid (by (have:=hl.out;rwa [enl] at this))
 have hnl : nl ≤ 900000:=by (rw [← enl];exact hll)
 clear ekd enl hl hll R hp
 obtain ⟨bs,hbs⟩ : ∃ n,W.heap.size = n:=⟨_,rfl⟩
 have HBS:=hid hbs
 go_enter Try.func14,Try.ntmps14
 go_upto_region 1 with (fail)
 refine name_world ?_
 intro W1 hW1
 have HB1 : Hid (Below W.heap.size W W1):=hid (by (rw [hW1];exact ((below_of_alloc _ _).alloc (by simp) _).alloc (by simp;omega) _))
 have HM1 : Hid (ZSb W1 bs (.slice z0 n0 k0) (.slice z1 n1 k1) (.slice z2 n2 k2) (.slice z3 n3 k3) d (.slice zl nl kl)):=hid (by (rw [hW1,← hbs];exact ((ZSb.new rfl).alloc _).alloc _))
 have HT1 : Hid (ZBlk W1 (bs + 1) tr sc):=hid (by (rw [hW1];exact (ZBlk.new (by simp [hbs])).alloc _))
 have HZ1 : Hid (ZSb W1 (bs + 2) (.slice none 0 0) (.slice none 0 0) (.slice none 0 0) (.slice none 0 0) 0 (.slice none 0 0)):=hid (by (rw [hW1];exact ZSb.new (by simp [hbs])))
 try simp only [hbs]
 clear hW1 hbs
 have hge : W.heap.size ≤ bs + 2:=by (rw [HBS.out];omega)
 have hgs : W.heap.size ≤ bs:=by (rw [HBS.out];exact Nat.le_refl _)
 have hlW : bs + 2 < W1.heap.size:=(Array.getElem?_eq_some_iff.1 HZ1.out).1
 obtain ⟨sl,⟨m0,m1,m2,m3,m4,m5⟩,mf0,mf1,mf2,mf3,mf4,mf5⟩:=HM1.out.facts
 have NO : Hid (∀ X,Below W1.heap.size W1 X → (d = 0 ∨ t.data.toList = [] ∨ rKd p ls t.data.toList ≠ 0) → ∃ Y,Y = ((((((X.setCell ⟨bs + 2,0,none⟩ (.slice z0 n0 k0)).setCell ⟨bs + 2,1,none⟩ (.slice z1 n1 k1)).setCell ⟨bs + 2,2,none⟩ (.slice z2 n2 k2)).setCell ⟨bs + 2,3,none⟩ (.slice z3 n3 k3)).setCell ⟨bs + 2,4,none⟩ (.int .i64 d)).setCell ⟨bs + 2,5,none⟩ (.slice zl nl kl)) ∧ ZSb Y (bs + 2) (.slice z0 n0 k0) (.slice z1 n1 k1) (.slice z2 n2 k2) (.slice z3 n3 k3) d (.slice zl nl kl) ∧ Below W.heap.size W Y ∧ LtR 0 Y (.slice z0 n0 k0) (.slice z1 n1 k1) (.slice z2 n2 k2) (.slice z3 n3 k3) d p ls t tr sc (.returned (.tuple #[.agg #[.slice z0 n0 k0,.slice z1 n1 k1,.slice z2 n2 k2,.slice z3 n3 k3,.int .i64 d,.slice zl nl kl],.int .i64 12]))):=hid fun X hX hq => by
  have hS0:=own_below HR0.out (below_ch HB1.out hX)
  have hZ:=HZ1.out.stay hX
  have hno:=own_ne hS0 hZ (by decide)
  refine ⟨_,rfl,hZ.all,?_,zl,nl,kl,12,ls,rfl,?_,.inl ⟨rfl,rfl,hq⟩⟩
  · exact ((((((below_ch HB1.out hX).setCell hge _).setCell hge _).setCell hge _).setCell hge _).setCell hge _).setCell hge _
  · rw [HN.out]
    exact own_base (own_setN (own_setN (own_setN (own_setN (own_setN (own_setN hS0 hno _ _) hno _ _) hno _ _) hno _ _) hno _ _) hno _ _) (Nat.zero_le _)
 by_cases hd0 : d = 0
 · subst hd0
   obtain ⟨Y,eY,hY1,hY2,hY3⟩:=NO.out W1 (Below.refl _ _) (.inl rfl)
   obtain ⟨zl',⟨y0,y1,y2,y3,y4,y5⟩,yf0,yf1,yf2,yf3,yf4,yf5⟩:=HZ1.out.facts
   rw [eY] at hY1 hY2 hY3
   clear eY
   go_wp2
   exact bodyPost_ret (results_s2 (u:=.int .i64 12) rfl _ rfl rfl hY1) rfl ⟨hY2,hY3⟩
 have hdb : ((d : Int) == 0) = false:=by (have : ¬ (d : Int) = 0:=by omega);simpa using this
 have hdn : ¬ (d : Int) = 0:=by omega
 have HD0:=hid hd0
 by_cases he : t.data.toList = []
 · obtain ⟨Y,eY,hY1,hY2,hY3⟩:=NO.out W1 (Below.refl _ _) (.inr (.inl he))
   obtain ⟨zl',⟨y0,y1,y2,y3,y4,y5⟩,yf0,yf1,yf2,yf3,yf4,yf5⟩:=HZ1.out.facts
   have hee : t.toList.isEmpty = true:=by (rw [ByteArray.toList_eq,he];rfl)
   rw [eY] at hY1 hY2 hY3
   clear eY he
   go_wp2
   exact bodyPost_ret (results_s2 (u:=.int .i64 12) rfl _ rfl rfl hY1) rfl ⟨hY2,hY3⟩
 have hee : t.toList.isEmpty = false:=by
  rw [ByteArray.toList_eq]
  cases h : t.data.toList with
  | nil => exact absurd h he
  | cons _ _ => rfl
 have HE:=hid he
 clear he
 by_cases hk : kd = 0
 · have HK0:=hid hk
   subst hk
   go_upto_region 3 with (go_at_call 34;refine (CK.out _ HB1.out).mono ?_;rintro e2 w2 ⟨hb2,rfl⟩;have HB2:=hid hb2;clear hb2)
   have HS2:=hid (own_below HR0.out (below_ch HB1.out HB2.out))
   have HM2:=hid (HM1.out.stay HB2.out)
   have hW2 : W1.heap.size ≤ w2.heap.size:=HB2.out.size
   clear m0 m1 m2 m3 m4 m5 mf0 mf1 mf2 mf3 mf4 mf5 sl NO CK
   obtain ⟨sl,⟨m0,m1,m2,m3,m4,m5⟩,mf0,mf1,mf2,mf3,mf4,mf5⟩:=HM2.out.facts
   go_upto_region 4 with (fail)
   go_upto_region 5 with (at_builtin;go_must (refine wpList_rows rfl (.tmp 23) (.tmp 25) 36 rfl W1.heap.size B2 53 i0 _ 4 32 Try.underlying36 hinf hzi0 hzi1 hzi2 rfl (by decide) _ 0 [] rfl (World.ownsRow_nil _ _ _ _) _ nl (ls.flatMap lcCells) rfl HS2.out (lcs_one ls) (by omega) (by decide) (by omega) ?_;intro z4 c4 q4 w4 hq4 hown4 hgrow4;have HO4:=hid hown4;have HG4:=hid hgrow4;clear hown4 hgrow4))
   rw [List.nil_append] at HO4
   have hq4' : q4 = nl:=by omega
   subst hq4'
   clear hq4
   have HB4 : Hid (Below W1.heap.size W1 w4):=hid (HB2.out.grown HG4.out hW2 (fun k h => by cases h))
   have HM4:=hid (HM1.out.stay HB4.out)
   have HT4:=hid (HT1.out.stay HB4.out)
   have hW4 : W1.heap.size ≤ w4.heap.size:=HB4.out.size
   clear m0 m1 m2 m3 m4 m5 mf0 mf1 mf2 mf3 mf4 mf5 sl HG4 HB2 HS2 HM2
   obtain ⟨sl,⟨m0,m1,m2,m3,m4,m5⟩,mf0,mf1,mf2,mf3,mf4,mf5⟩:=HM4.out.facts
   obtain ⟨tl4,⟨y0,y1⟩,yf0,yf1⟩:=HT4.out.facts
   go_upto_region 6 with (at_builtin;go_must (refine wpList_append_own _ rfl (.tmp 27) (.tmp 33) 36 rfl W1.heap.size 53 i0 _ 4 32 Try.underlying36 hinf hzi0 hzi1 hzi2 rfl (by decide) _ _ _ rfl (HO4.out.alloc _) ⟨_,0,none⟩ 1 1 [.string t,.bool tr,.bool sc,.int .i64 d] rfl rfl (World.news_of_block (heap_alloc_new _ _)) lc_one (by unfold maxLen;omega) (by omega) (by simp;omega) ?_;intro v5 w5 hown5 hgrow5 _;have HO5:=hid hown5;have HG5:=hid hgrow5;clear hown5 hgrow5))
   have HB5 : Hid (Below W1.heap.size W1 w5):=hid ((HB4.out.alloc hW4 _).grown HG5.out (by simp;omega) (own_memN HO4.out))
   obtain ⟨z5,c5,rfl⟩:=own_form HO5.out
   have HM5:=hid (HM1.out.stay HB5.out)
   have HZ5:=hid (HZ1.out.stay HB5.out)
   clear m0 m1 m2 m3 m4 m5 mf0 mf1 mf2 mf3 mf4 mf5 sl HG5 y0 y1 yf0 yf1 tl4
   obtain ⟨sl,⟨m0,m1,m2,m3,m4,m5⟩,mf0,mf1,mf2,mf3,mf4,mf5⟩:=HM5.out.facts
   obtain ⟨zl5,⟨y0,y1,y2,y3,y4,y5⟩,yf0,yf1,yf2,yf3,yf4,yf5⟩:=HZ5.out.facts
   have hne : bs + 2 ≠ bs:=by omega
   have hne2 : bs ≠ bs + 2:=by omega
   have ab : (Value.slice z5 (q4 + 1) c5).ownBlock ≠ some bs:=fun h => by (have:=own_memN HO5.out bs h;omega)
   have ac : (Value.slice z5 (q4 + 1) c5).ownBlock ≠ some (bs + 2):=fun h => by (have:=own_memN HO5.out (bs + 2) h;omega)
   have HBW:=hid (below_ch HB1.out HB5.out)
   go_wp2
   refine bodyPost_ret (results_s2 (u:=.int .i64 0) rfl _ rfl rfl ((HZ5.out.setO hne 5 _).all)) rfl ⟨?_,z5,_,c5,0,ls ++ [⟨t,tr,sc,d⟩],rfl,?_,.inr ⟨rfl,HD0.out,HE.out,HKD.out,rfl⟩⟩
   · exact ((((((HBW.out.setCell hgs _).setCell hge _).setCell hge _).setCell hge _).setCell hge _).setCell hge _).setCell hge _
   · have e : ls.length + 1 = q4 + 1:=by rw [HN.out]
     rw [List.length_append,List.flatMap_append]
     show World.ownsRow _ 0 _ 4 _ (ls.length + 1) _
     rw [e]
     exact own_base (own_setN (own_setN (own_setN (own_setN (own_setN (own_setN (own_setN HO5.out ab _ _) ac _ _) ac _ _) ac _ _) ac _ _) ac _ _) ac _ _) (Nat.zero_le _)
 · have hkb : (kd == 0) = false:=by simpa using hk
   have HK:=hid (show rKd p ls t.data.toList ≠ 0 by (rw [HKD.out];exact hk))
   go_upto_region 2 with (go_at_call 34;refine (CK.out _ HB1.out).mono ?_;rintro e2 w2 ⟨hb2,rfl⟩;have HB2:=hid hb2;clear hb2)
   obtain ⟨Y,eY,hY1,hY2,hY3⟩:=NO.out w2 HB2.out (.inr (.inr HK.out))
   obtain ⟨zl',⟨y0,y1,y2,y3,y4,y5⟩,yf0,yf1,yf2,yf3,yf4,yf5⟩:=(HZ1.out.stay HB2.out).facts
   clear m0 m1 m2 m3 m4 m5 mf0 mf1 mf2 mf3 mf4 mf5 sl
   obtain ⟨sl,⟨m0,m1,m2,m3,m4,m5⟩,mf0,mf1,mf2,mf3,mf4,mf5⟩:=(HM1.out.stay HB2.out).facts
   rw [eY] at hY1 hY2 hY3
   clear eY
   go_wp2
   exact bodyPost_ret (results_s2 (u:=.int .i64 12) rfl _ rfl rfl hY1) rfl ⟨hY2,hY3⟩
theorem glFields : Try.prog.underlying 56 = some (.struct (Try.prog.fieldsOf 56)):=by kernel_rfl
theorem tyFields : Try.prog.underlying 42 = some (.struct (Try.prog.fieldsOf 42)):=by kernel_rfl
theorem eql_ty (a b c d : Bool) (W : World) : (binOp .eql 42 (.agg #[.bool a,.bool b]) (.agg #[.bool c,.bool d])).run Try.prog W = .ok (.bool (a == c && b == d)) W:=by
 cases a <;> cases b <;> cases c <;> cases d <;> kernel_rfl
theorem eql_ty_same (a b : Bool) (W : World) : (binOp .eql 42 (.agg #[.bool a,.bool b]) (.agg #[.bool a,.bool b])).run Try.prog W = .ok (.bool true) W:=by
 rw [eql_ty]
 simp
theorem eql_gl_same (y : Gl) (W : World) : (binOp .eql 56 (glVal y) (glVal y)).run Try.prog W = .ok (.bool true) W:=by
 unfold glVal
 have hu:=Try.underlying56
 have hu2:=Try.underlying42
 rw [run_eql_struct,run_equalIn_agg W 9999 56 _ _ glFields (by kernel_rfl)]
 have g1:=glFields
 have g2:=tyFields
 obtain ⟨fs,hfs⟩ : ∃ fs,Try.prog.fieldsOf 56 = fs:=⟨_,rfl⟩
 obtain ⟨fs2,hfs2⟩ : ∃ fs,Try.prog.fieldsOf 42 = fs:=⟨_,rfl⟩
 rw [hfs,hu] at g1
 rw [hfs2,hu2] at g2
 simp only [Option.some.injEq,TypeDesc.struct.injEq] at g1 g2
 have q (d : Nat) (xs ys : Array Value) (X : World):=run_equalIn_agg (P:=Try.prog) X d 42 xs ys tyFields (by kernel_rfl)
 have s2 : Try.prog.cellsOf 42 = 2:=by kernel_rfl
 have ui:=Try.underlying3
 have us:=Try.underlying9
 have ub:=Try.underlying4
 rw [hfs,← g1]
 simp [Op.eqFields,part,isAgg,run_underlying ui,run_underlying us,run_underlying hu2,run_underlying ub,run_equalIn_int _ _ _ _ _ _ _ ui,run_equalIn_string _ _ _ _ _ us,run_equalIn_bool' _ _ _ _ _ ub,q,hfs2,← g2]
def Agree (F : TF) (p : Pg) (ls : List Lc) (t : List UInt8) : Prop:=kindN (F t) = rKd p ls t ∧ typeN (F t) = rTy p ls t ∧ globN (F t) = rGl p.gs t ∧ lockN (F t) = rLk p.ls t ∧ funcN (F t) = rFn p.fs t
theorem same_name {B B2 B3 : Nat} {W : World} {s n : Nat} {F : TF} {L : List ByteArray} {bl : List Nat} {m lv bv : Value} (h : Hid (Scp B W s n F L bl m lv bv)) {ls : List Lc} {p : Pg} {v0 v1 v2 v3 : Value} {rf : List (Fn × FV)} {rt : List (List Stm × Value)} (R : Hid (PRows B3 W p v0 v1 v2 v3 rf rt)) (d : Nat) {zl : Option Addr} {nl kl : Nat} (hl : Hid (W.ownsRow B2 53 4 (.slice zl nl kl) ls.length (ls.flatMap lcCells))) (hll : ls.length ≤ 900000) (hp : p.gs.length ≤ 1000 ∧ p.ls.length ≤ 1000 ∧ p.fs.length ≤ 1000) (t : ByteArray) (ht : t.size ≤ 140737488355328) (hA : Agree F p ls t.data.toList) :
 Calls Try.prog 15 #[.pointer (some ⟨s,0,none⟩),.agg #[v0,v1,v2,v3,.int .i64 d,.slice zl nl kl],.string t] W fun e w' => Below W.heap.size W w' ∧ e = .returned (.bool true):=by
 obtain ⟨z0,n0,k0,rfl⟩ : ∃ z n k,v0 = .slice z n k:=(own_form R.out.g).elim fun z h => h.elim fun k h => ⟨z,_,k,h⟩
 obtain ⟨z1,n1,k1,rfl⟩ : ∃ z n k,v1 = .slice z n k:=(own_form R.out.l).elim fun z h => h.elim fun k h => ⟨z,_,k,h⟩
 obtain ⟨z2,n2,k2,rfl⟩ : ∃ z n k,v2 = .slice z n k:=(own_form R.out.f).elim fun z h => h.elim fun k h => ⟨z,_,k,h⟩
 obtain ⟨z3,n3,k3,rfl⟩ : ∃ z n k,v3 = .slice z n k:=(own_form R.out.t).elim fun z h => h.elim fun k h => ⟨z,_,k,h⟩
 obtain ⟨g,ng,eg⟩ : ∃ g ng,rGl p.gs t.data.toList = (g,ng):=⟨_,_,rfl⟩
 obtain ⟨nk,ek⟩ : ∃ nk,rLk p.ls t.data.toList = nk:=⟨_,rfl⟩
 obtain ⟨q,nf,ef⟩ : ∃ q nf,rFn p.fs t.data.toList = (q,nf):=⟨_,_,rfl⟩
 obtain ⟨kd,ekd⟩ : ∃ kd,rKd p ls t.data.toList = kd:=⟨_,rfl⟩
 obtain ⟨tr,sc,ety⟩ : ∃ tr sc,rTy p ls t.data.toList = (tr,sc):=⟨_,_,rfl⟩
 have C1 : Hid (∀ X,Below W.heap.size W X → Calls Try.prog 17 #[.pointer (some ⟨s,0,none⟩),.string t] X fun e w' => Below X.heap.size X w' ∧ e = .returned (.tuple #[glVal g,.int .i64 ng])):=hid fun X hX => by
  have q:=glob_any (hid (h.out.stay hX)) t ht
  rw [hA.2.2.1,eg] at q
  exact q.mono fun e w' h => ⟨h.2,h.1⟩
 have C2 : Hid (∀ X,Below W.heap.size W X → Calls Try.prog 35 #[.agg #[.slice z0 n0 k0,.slice z1 n1 k1,.slice z2 n2 k2,.slice z3 n3 k3,.int .i64 d,.slice zl nl kl],.string t] X fun e w' => Below X.heap.size X w' ∧ e = .returned (.tuple #[glVal g,.int .i64 ng])):=hid fun X hX => by
  have q:=rglob_any (hid (R.out.stay hX)) (d : Int) zl nl kl t hp.1
  rw [eg] at q
  exact q
 have C3 : Hid (∀ X,Below W.heap.size W X → Calls Try.prog 18 #[.pointer (some ⟨s,0,none⟩),.string t] X fun e w' => Below X.heap.size X w' ∧ ∃ z0 k0 z1 k1 z2 k2,e = .returned (.tuple #[fnVal q ⟨.slice z0 q.ps.length k0,.slice z1 q.bd.length k1,.slice z2 q.ret.ks.length k2⟩,.int .i64 nf])):=hid fun X hX => by
  have q:=func_any (hid (h.out.stay hX)) t ht
  rw [hA.2.2.2.2,ef] at q
  exact q.mono fun e w' h => ⟨h.2,h.1⟩
 have C4 : Hid (∀ X,Below W.heap.size W X → Calls Try.prog 36 #[.agg #[.slice z0 n0 k0,.slice z1 n1 k1,.slice z2 n2 k2,.slice z3 n3 k3,.int .i64 d,.slice zl nl kl],.string t] X fun e w' => Below X.heap.size X w' ∧ ∃ z0 k0 z1 k1 z2 k2,e = .returned (.tuple #[fnVal q ⟨.slice z0 q.ps.length k0,.slice z1 q.bd.length k1,.slice z2 q.ret.ks.length k2⟩,.int .i64 nf])):=hid fun X hX => by
  have q:=rfunc_any (hid (R.out.stay hX)) (d : Int) zl nl kl t hp.2.2
  rw [ef] at q
  exact q
 have C5 : Hid (∀ X,Below W.heap.size W X → Calls Try.prog 19 #[.pointer (some ⟨s,0,none⟩),.string t] X fun e w' => Below X.heap.size X w' ∧ e = .returned (.int .i64 kd)):=hid fun X hX => by
  have q:=kind_any (hid (h.out.stay hX)) t ht
  rw [hA.1,ekd] at q
  exact q.mono fun e w' h => ⟨h.2 ▸ Below.refl _ _,h.1⟩
 have C6 : Hid (∀ X,Below W.heap.size W X → Calls Try.prog 34 #[.agg #[.slice z0 n0 k0,.slice z1 n1 k1,.slice z2 n2 k2,.slice z3 n3 k3,.int .i64 d,.slice zl nl kl],.string t] X fun e w' => Below X.heap.size X w' ∧ e = .returned (.int .i64 kd)):=hid fun X hX => by
  have q:=rkind_any (hid (R.out.stay hX)) (d : Int) (hid (own_below hl.out hX)) (by omega) hp t
  rw [ekd] at q
  exact q
 have C7 : Hid (∀ X,Below W.heap.size W X → Calls Try.prog 21 #[.pointer (some ⟨s,0,none⟩),.string t] X fun e w' => Below X.heap.size X w' ∧ e = .returned (.agg #[.bool tr,.bool sc])):=hid fun X hX => by
  have q:=typ_any (hid (h.out.stay hX)) t ht
  rw [hA.2.1,ety] at q
  exact q.mono fun e w' h => ⟨h.2,h.1⟩
 have C8 : Hid (∀ X,Below W.heap.size W X → Calls Try.prog 37 #[.agg #[.slice z0 n0 k0,.slice z1 n1 k1,.slice z2 n2 k2,.slice z3 n3 k3,.int .i64 d,.slice zl nl kl],.string t] X fun e w' => Below X.heap.size X w' ∧ e = .returned (.agg #[.bool tr,.bool sc])):=hid fun X hX => by
  have q:=rtype_any (hid (R.out.stay hX)) (d : Int) (hid (own_below hl.out hX)) (by omega) hp t
  rw [ety] at q
  exact q
 have C9 : Hid (∀ X,Below W.heap.size W X → Calls Try.prog 20 #[.pointer (some ⟨s,0,none⟩),.string t] X fun e w' => Below X.heap.size X w' ∧ e = .returned (.int .i64 nk)):=hid fun X hX => by
  have q:=lock_any (hid (h.out.stay hX)) t ht
  rw [hA.2.2.2.1,ek] at q
  exact q.mono fun e w' h => ⟨h.2,h.1⟩
 have CA : Hid (∀ X,Below W.heap.size W X → Calls Try.prog 38 #[.agg #[.slice z0 n0 k0,.slice z1 n1 k1,.slice z2 n2 k2,.slice z3 n3 k3,.int .i64 d,.slice zl nl kl],.string t] X fun e w' => Below X.heap.size X w' ∧ e = .returned (.int .i64 nk)):=hid fun X hX => by
  have q:=rlock_any (hid (R.out.stay hX)) (d : Int) zl nl kl t hp.2.1
  rw [ek] at q
  exact q
 clear eg ek ef ekd ety R hl hll hp hA h ht
 obtain ⟨bs,hbs⟩ : ∃ n,W.heap.size = n:=⟨_,rfl⟩
 go_enter Try.func15,Try.ntmps15
 go_upto_region 1 with (fail)
 refine name_world ?_
 intro W1 hW1
 have HB1 : Hid (Below W.heap.size W W1):=hid (by (rw [hW1];exact below_of_alloc _ _))
 have HS1 : Hid (ZSb W1 bs (.slice z0 n0 k0) (.slice z1 n1 k1) (.slice z2 n2 k2) (.slice z3 n3 k3) d (.slice zl nl kl)):=hid (by (rw [hW1,← hbs];exact ZSb.new rfl))
 try simp only [hbs]
 clear hW1 hbs
 obtain ⟨sl,⟨m0,m1,m2,m3,m4,m5⟩,_⟩:=HS1.out.facts
 go_upto_region 2 with (go_at_call 17;refine (C1.out _ HB1.out).mono ?_;rintro e1 w1 ⟨hb1,rfl⟩;have HC1:=hid hb1;clear hb1;simp only [glVal])
 refine name_world ?_
 intro W2 hW2
 have HQ2 : Hid (Below W1.heap.size W1 W2):=hid (by (rw [hW2];exact below_ch HC1.out (below_of_alloc _ _)))
 have HG1 : Hid (GBlk W2 w1.heap.size g.a (bstr g.nm) g.tr g.sc g.len (bstr g.by_)):=hid (by (rw [hW2];exact GBlk.new rfl))
 have HB2 : Hid (Below W.heap.size W W2):=hid (below_ch HB1.out HQ2.out)
 have HS2:=hid (HS1.out.stay HQ2.out)
 obtain ⟨b1,eb1⟩ : ∃ n,w1.heap.size = n:=⟨_,rfl⟩
 rw [eb1] at HG1
 try simp only [eb1]
 clear hW2 m0 m1 m2 m3 m4 m5 sl eb1 HC1 HB1 HS1 HQ2
 obtain ⟨sl,⟨m0,m1,m2,m3,m4,m5⟩,_⟩:=HS2.out.facts
 go_upto_region 3 with (go_at_call 35;refine (C2.out _ HB2.out).mono ?_;rintro e2 w2 ⟨hb2,rfl⟩;have HC2:=hid hb2;clear hb2;simp only [glVal])
 refine name_world ?_
 intro W3 hW3
 have HQ3 : Hid (Below W2.heap.size W2 W3):=hid (by (rw [hW3];exact below_ch HC2.out (below_of_alloc _ _)))
 have HG2 : Hid (GBlk W3 w2.heap.size g.a (bstr g.nm) g.tr g.sc g.len (bstr g.by_)):=hid (by (rw [hW3];exact GBlk.new rfl))
 have HB3 : Hid (Below W.heap.size W W3):=hid (below_ch HB2.out HQ3.out)
 have HS3:=hid (HS2.out.stay HQ3.out)
 have HG1:=hid (HG1.out.stay HQ3.out)
 obtain ⟨b2,eb2⟩ : ∃ n,w2.heap.size = n:=⟨_,rfl⟩
 rw [eb2] at HG2
 try simp only [eb2]
 clear hW3 m0 m1 m2 m3 m4 m5 sl eb2 HC2 HB2 HS2 HQ3
 obtain ⟨sl,⟨m0,m1,m2,m3,m4,m5⟩,_⟩:=HS3.out.facts
 go_upto_region 4 with (go_at_call 18;refine (C3.out _ HB3.out).mono ?_;rintro e3 w3 ⟨hb3,a0,b0,a1,b1',a2,b2',rfl⟩;have HC3:=hid hb3;clear hb3;simp only [fnVal])
 refine name_world ?_
 intro W4 hW4
 have HQ4 : Hid (Below W3.heap.size W3 W4):=hid (by (rw [hW4];exact below_ch HC3.out (below_of_alloc _ _)))
 have HF1 : Hid (FBlk W4 w3.heap.size q.a (bstr q.nm) (.slice a0 q.ps.length b0) q.tr q.sc (.slice a1 q.bd.length b1') q.ret.k q.ret.op q.ret.n (bstr q.ret.nm) (.slice a2 q.ret.ks.length b2') q.ret.a):=hid (by (rw [hW4];exact FBlk.new rfl))
 have HB4 : Hid (Below W.heap.size W W4):=hid (below_ch HB3.out HQ4.out)
 have HS4:=hid (HS3.out.stay HQ4.out)
 have HG1:=hid (HG1.out.stay HQ4.out)
 have HG2:=hid (HG2.out.stay HQ4.out)
 obtain ⟨b3,eb3⟩ : ∃ n,w3.heap.size = n:=⟨_,rfl⟩
 rw [eb3] at HF1
 try simp only [eb3]
 clear hW4 m0 m1 m2 m3 m4 m5 sl eb3 HC3 HB3 HS3 HQ4
 obtain ⟨sl,⟨m0,m1,m2,m3,m4,m5⟩,_⟩:=HS4.out.facts
 go_upto_region 5 with (go_at_call 36;refine (C4.out _ HB4.out).mono ?_;rintro e4 w4 ⟨hb4,c0,d0,c1,d1,c2,d2,rfl⟩;have HC4:=hid hb4;clear hb4;simp only [fnVal])
 refine name_world ?_
 intro W5 hW5
 have HQ5 : Hid (Below W4.heap.size W4 W5):=hid (by (rw [hW5];exact below_ch HC4.out (below_of_alloc _ _)))
 have HF2 : Hid (FBlk W5 w4.heap.size q.a (bstr q.nm) (.slice c0 q.ps.length d0) q.tr q.sc (.slice c1 q.bd.length d1) q.ret.k q.ret.op q.ret.n (bstr q.ret.nm) (.slice c2 q.ret.ks.length d2) q.ret.a):=hid (by (rw [hW5];exact FBlk.new rfl))
 have HB5 : Hid (Below W.heap.size W W5):=hid (below_ch HB4.out HQ5.out)
 have HS5:=hid (HS4.out.stay HQ5.out)
 have HG1:=hid (HG1.out.stay HQ5.out)
 have HG2:=hid (HG2.out.stay HQ5.out)
 have HF1:=hid (HF1.out.stay HQ5.out)
 obtain ⟨b4,eb4⟩ : ∃ n,w4.heap.size = n:=⟨_,rfl⟩
 rw [eb4] at HF2
 try simp only [eb4]
 clear hW5 m0 m1 m2 m3 m4 m5 sl eb4 HC4 HB4 HS4 HQ5
 have hqt:=eql_ty_same tr sc
 have hqg:=eql_gl_same g
 refine wp_region_quiet (C:=fun w' => Below W5.heap.size W5 w') (by kernel_rfl) (by kernel_rfl) ((Below.refl _ _).drew) ?_
 dsimp only
 repeat (first
  | go_big_quiet_skip
  | (go_big_quiet_want;go_big_quiet_op;first
   | go_big_quiet_on
   | (refine ⟨_,fun _ _ => rfl,?_⟩;go_big_quiet_on)
   | (refine ⟨.bool true,fun ww _ => hqg ww,?_⟩;go_big_quiet_on)
   | (refine ⟨.bool true,fun ww _ => hqt ww,?_⟩;go_big_quiet_on)
   | (apply Exists.intro;refine ⟨fun ww hww => ?_,?_⟩;(go_at_call 19;exact (C5.out _ (below_ch HB5.out hww)).mono fun e X ⟨h1,h2⟩ => ⟨h2,below_ch hww h1⟩);go_big_quiet_on)
   | (apply Exists.intro;refine ⟨fun ww hww => ?_,?_⟩;(go_at_call 34;exact (C6.out _ (below_ch HB5.out hww)).mono fun e X ⟨h1,h2⟩ => ⟨h2,below_ch hww h1⟩);go_big_quiet_on)
   | (apply Exists.intro;refine ⟨fun ww hww => ?_,?_⟩;(go_at_call 21;exact (C7.out _ (below_ch HB5.out hww)).mono fun e X ⟨h1,h2⟩ => ⟨h2,below_ch hww h1⟩);go_big_quiet_on)
   | (apply Exists.intro;refine ⟨fun ww hww => ?_,?_⟩;(go_at_call 37;exact (C8.out _ (below_ch HB5.out hww)).mono fun e X ⟨h1,h2⟩ => ⟨h2,below_ch hww h1⟩);go_big_quiet_on)
   | (apply Exists.intro;refine ⟨fun ww hww => ?_,?_⟩;(go_at_call 20;exact (C9.out _ (below_ch HB5.out hww)).mono fun e X ⟨h1,h2⟩ => ⟨h2,below_ch hww h1⟩);go_big_quiet_on)
   | (apply Exists.intro;refine ⟨fun ww hww => ?_,?_⟩;(go_at_call 38;exact (CA.out _ (below_ch HB5.out hww)).mono fun e X ⟨h1,h2⟩ => ⟨h2,below_ch hww h1⟩);go_big_quiet_on)
   | (refine ⟨.agg #[.slice z0 n0 k0,.slice z1 n1 k1,.slice z2 n2 k2,.slice z3 n3 k3,.int .i64 d,.slice zl nl kl],fun ww hww => ?_,?_⟩;(obtain ⟨q0,⟨q1,q2,q3,q4,q5,q6⟩,_⟩:=(HS5.out.stay hww).facts;go_simp);go_big_quiet_on)
   | (refine ⟨glVal g,fun ww hww => ?_,?_⟩;(obtain ⟨q0,⟨q1,q2,q3,q4,q5,q6⟩,_⟩:=(HG1.out.stay hww).facts;go_simp);go_big_quiet_on)
   | (refine ⟨glVal g,fun ww hww => ?_,?_⟩;(obtain ⟨q0,⟨q1,q2,q3,q4,q5,q6⟩,_⟩:=(HG2.out.stay hww).facts;go_simp);go_big_quiet_on)
   | (refine ⟨.string (bstr q.nm),fun ww hww => ?_,?_⟩;(obtain ⟨q0,⟨q1,q2,q3,q4,q5,q6,q7,q8,q9,qa,qb,qc⟩,_⟩:=(HF1.out.stay hww).facts;go_simp);go_big_quiet_on)
   | (refine ⟨.string (bstr q.nm),fun ww hww => ?_,?_⟩;(obtain ⟨q0,⟨q1,q2,q3,q4,q5,q6,q7,q8,q9,qa,qb,qc⟩,_⟩:=(HF2.out.stay hww).facts;go_simp);go_big_quiet_on)
   | (refine ⟨.int .i64 q.a,fun ww hww => ?_,?_⟩;(obtain ⟨q0,⟨q1,q2,q3,q4,q5,q6,q7,q8,q9,qa,qb,qc⟩,_⟩:=(HF1.out.stay hww).facts;go_simp);go_big_quiet_on)
   | (refine ⟨.int .i64 q.a,fun ww hww => ?_,?_⟩;(obtain ⟨q0,⟨q1,q2,q3,q4,q5,q6,q7,q8,q9,qa,qb,qc⟩,_⟩:=(HF2.out.stay hww).facts;go_simp);go_big_quiet_on)
   | (refine ⟨.slice a0 q.ps.length b0,fun ww hww => ?_,?_⟩;(obtain ⟨q0,⟨q1,q2,q3,q4,q5,q6,q7,q8,q9,qa,qb,qc⟩,_⟩:=(HF1.out.stay hww).facts;go_simp);go_big_quiet_on)
   | (refine ⟨.slice c0 q.ps.length d0,fun ww hww => ?_,?_⟩;(obtain ⟨q0,⟨q1,q2,q3,q4,q5,q6,q7,q8,q9,qa,qb,qc⟩,_⟩:=(HF2.out.stay hww).facts;go_simp);go_big_quiet_on)))
 refine wpQuiet_nil ?_
 intro y4 hb9
 go_wp2
 go_ret
 exact ⟨below_ch HB5.out hb9,rfl⟩
theorem twice_true (f : IF) : ∀ (M : List (ByteArray × Int)) (st : Int × Bool),st.2 = true → (M.foldl (lstep f) st).2 = true
 | [],_,h => h
 | x :: r,st,h => by
  refine twice_true f r (lstep f st x) ?_
  unfold lstep
  split
  · rfl
  · exact h
theorem twice_hit (l : List (ByteArray × Int)) : ∀ (M : List (ByteArray × Int)) (st : Int × Bool) (x : ByteArray × Int),x ∈ M → (∀ y ∈ M,y ∈ l) → AgainA l x → (M.foldl (lstep (firstF l)) st).2 = true
 | y :: r,st,x,hx,hM,hA => by
  rcases List.mem_cons.1 hx with rfl | hx
  · refine twice_true _ r _ ?_
    unfold lstep
    by_cases h2 : st.2 = true
    · split
      · rfl
      · exact h2
    · rw [if_pos ⟨(first_again (hM x List.mem_cons_self)).2 hA,.inl (by simpa using h2)⟩]
  · exact twice_hit l r _ x hx (fun z hz => hM z (List.mem_cons_of_mem _ hz)) hA
theorem not_again {l : List (ByteArray × Int)} (h : (twiceF l).2 = false) : ∀ x ∈ l,¬ AgainA l x:=fun x hx hA => by
 have:=twice_hit l l (0,false) x hx (fun _ h => h) hA
 unfold twiceF at h
 rw [this] at h
 cases h
theorem names_nodup {l : List (ByteArray × Int)} (h : ∀ x ∈ l,¬ AgainA l x) (hd : (l.map (·.2)).Nodup) : (l.map fun x => x.1.data.toList).Nodup:=by
 have key : ∀ M : List (ByteArray × Int),(∀ x ∈ M,x ∈ l) → (M.map (·.2)).Nodup → (M.map fun x => x.1.data.toList).Nodup:=by
  intro M
  induction M with
  | nil => intro _ _;simp
  | cons x r ih =>
   intro hM hn
   rw [List.map_cons,List.nodup_cons] at hn ⊢
   refine ⟨fun hx => ?_,ih (fun y hy => hM y (List.mem_cons_of_mem _ hy)) hn.2⟩
   obtain ⟨y,hy,e⟩:=List.mem_map.1 hx
   have hxl:=hM x List.mem_cons_self
   have hyl:=hM y (List.mem_cons_of_mem _ hy)
   by_cases hlt : x.2 < y.2
   · exact h y hyl ⟨x,hxl,e,hlt⟩
   · by_cases hgt : y.2 < x.2
     · exact h x hxl ⟨y,hyl,e.symm,hgt⟩
     · exact hn.1 (List.mem_map.2 ⟨y,hy,by omega⟩)
 exact key l (fun _ h => h) hd
def Uniq (p : Pg) : Prop:=(p.gs.map (·.nm) ++ (p.ls.map (·.nm) ++ p.fs.map (·.nm))).Nodup
theorem uniq_of {p : Pg} (h : (twiceF (thingsL p)).2 = false) (hd : (ats p).Nodup) : Uniq p:=by
 have h1:=names_nodup (not_again h) (by
  unfold thingsL ats at *
  simpa [List.map_map,Function.comp_def,glNm,lkNm,fnNm] using hd)
 unfold Uniq
 unfold thingsL at h1
 have e (t : List UInt8) : (bstr t).data.toList = t:=bstr_list t
 simpa [List.map_map,Function.comp_def,glNm,lkNm,fnNm,e] using h1
theorem foldU_none {α : Type} (f : α → List UInt8) (g : α → Nat → Th) (t : List UInt8) : ∀ (l : List α) (k : Nat) (F : TF),(∀ y ∈ l,f y ≠ t) → ((l.zipIdx k).foldl (fun G q => G.upd (f q.1) (g q.1 q.2)) F) t = F t
 | [],_,_,_ => rfl
 | x :: r,k,F,h => by
  show ((r.zipIdx (k + 1)).foldl (fun G q => G.upd (f q.1) (g q.1 q.2)) (F.upd (f x) (g x k))) t = F t
  rw [foldU_none f g t r (k + 1) _ (fun y hy => h y (List.mem_cons_of_mem _ hy))]
  unfold TF.upd
  rw [if_neg (fun e => h x List.mem_cons_self e.symm)]
theorem foldU {α : Type} (f : α → List UInt8) (g : α → Nat → Th) (t : List UInt8) : ∀ (l : List α) (k : Nat) (F : TF),(l.map f).Nodup → ((l.zipIdx k).foldl (fun G q => G.upd (f q.1) (g q.1 q.2)) F) t = (match findK f t k l with | some q => some (g q.1 q.2) | none => F t)
 | [],_,_,_ => rfl
 | x :: r,k,F,h => by
  rw [List.map_cons,List.nodup_cons] at h
  show ((r.zipIdx (k + 1)).foldl (fun G q => G.upd (f q.1) (g q.1 q.2)) (F.upd (f x) (g x k))) t = _
  by_cases hx : f x = t
  · rw [foldU_none f g t r (k + 1) _ (fun y hy e => h.1 (List.mem_map.2 ⟨y,hy,e.trans hx.symm⟩))]
    simp [findK,hx,TF.upd]
  · rw [foldU f g t r (k + 1) _ h.2]
    simp only [findK,if_neg hx]
    cases findK f t (k + 1) r with
    | some q => rfl
    | none =>
     show (F.upd (f x) (g x k)) t = F t
     unfold TF.upd
     rw [if_neg (fun e => hx e.symm)]
theorem tag_at {p : Pg} (hu : Uniq p) (t : List UInt8) : tagP p t = match findK (fun y : Fn => y.nm) t 0 p.fs with
 | some q => some (.fn q.1 ⟨undef,undef,undef⟩ q.2)
 | none => match findK (fun y : Lk => y.nm) t 0 p.ls with
  | some q => some (.lk q.2)
  | none => match findK (fun y : Gl => y.nm) t 0 p.gs with
   | some q => some (.gl q.1 q.2)
   | none => none:=by
 unfold Uniq at hu
 rw [List.nodup_append] at hu
 obtain ⟨h1,h2,_⟩:=hu
 rw [List.nodup_append] at h2
 have e1:=foldU (fun y : Fn => y.nm) (fun y i => .fn y ⟨undef,undef,undef⟩ i) t p.fs 0 (tagL p.ls (tagG p.gs fun _ => none)) h2.2.1
 have e2:=foldU (fun y : Lk => y.nm) (fun _ i => .lk i) t p.ls 0 (tagG p.gs fun _ => none) h2.1
 have e3:=foldU (fun y : Gl => y.nm) (fun y i => .gl y i) t p.gs 0 (fun _ => none) h1
 unfold tagP
 refine Eq.trans e1 ?_
 cases findK (fun y : Fn => y.nm) t 0 p.fs with
 | some q => rfl
 | none =>
  refine Eq.trans e2 ?_
  cases findK (fun y : Lk => y.nm) t 0 p.ls with
  | some q => rfl
  | none =>
   show tagG p.gs (fun _ => none) t = match findK (fun y : Gl => y.nm) t 0 p.gs with
    | some q => some (.gl q.1 q.2)
    | none => none
   refine Eq.trans e3 ?_
   cases findK (fun y : Gl => y.nm) t 0 p.gs with
   | some q => rfl
   | none => rfl
theorem tag_apart {p : Pg} (hu : Uniq p) (t : List UInt8) : (∀ q,findK (fun y : Fn => y.nm) t 0 p.fs = some q → findK (fun y : Lk => y.nm) t 0 p.ls = none ∧ findK (fun y : Gl => y.nm) t 0 p.gs = none) ∧ ∀ q,findK (fun y : Lk => y.nm) t 0 p.ls = some q → findK (fun y : Gl => y.nm) t 0 p.gs = none:=by
 unfold Uniq at hu
 rw [List.nodup_append] at hu
 obtain ⟨_,h2,h3⟩:=hu
 rw [List.nodup_append] at h2
 obtain ⟨_,_,h4⟩:=h2
 have mg : ∀ q,findK (fun y : Gl => y.nm) t 0 p.gs = some q → t ∈ p.gs.map (·.nm):=fun q hq => by
  obtain ⟨i,_,h,e,_⟩:=findK_some hq
  exact List.mem_map.2 ⟨_,List.mem_of_getElem? h,e⟩
 have ml : ∀ q,findK (fun y : Lk => y.nm) t 0 p.ls = some q → t ∈ p.ls.map (·.nm):=fun q hq => by
  obtain ⟨i,_,h,e,_⟩:=findK_some hq
  exact List.mem_map.2 ⟨_,List.mem_of_getElem? h,e⟩
 have mf : ∀ q,findK (fun y : Fn => y.nm) t 0 p.fs = some q → t ∈ p.fs.map (·.nm):=fun q hq => by
  obtain ⟨i,_,h,e,_⟩:=findK_some hq
  exact List.mem_map.2 ⟨_,List.mem_of_getElem? h,e⟩
 refine ⟨fun q hq => ⟨?_,?_⟩,fun q hq => ?_⟩
 · cases hl : findK (fun y : Lk => y.nm) t 0 p.ls with
   | none => rfl
   | some r => exact absurd rfl (h4 t (ml r hl) t (mf q hq))
 · cases hg : findK (fun y : Gl => y.nm) t 0 p.gs with
   | none => rfl
   | some r => exact absurd rfl (h3 t (mg r hg) t (List.mem_append_right _ (mf q hq)))
 · cases hg : findK (fun y : Gl => y.nm) t 0 p.gs with
   | none => rfl
   | some r => exact absurd rfl (h3 t (mg r hg) t (List.mem_append_left _ (ml q hq)))
structure InvN (F : TF) (L : List ByteArray) (bl : List Nat) (p : Pg) (ls : List Lc) (d : Nat) : Prop where
 eL : L = ls.map (·.nm)
 eb : bl.length = d
 yes : ∀ x ∈ ls,F x.nm.data.toList = some (.lo x.tr x.sc) ∧ tagP p x.nm.data.toList = none
 no : ∀ t,(∀ x ∈ ls,x.nm.data.toList ≠ t) → F.er t = tagP p t
 mks : ∀ (j a : Nat),bl[j]? = some a → a ≤ ls.length ∧ ∀ (i : Nat) (x : Lc),ls[i]? = some x → (x.dp ≤ j ↔ i < a)
 dp : ∀ x ∈ ls,x.dp ≤ d
theorem er_inv {x : Option Th} {y : Th} (h : x.map Th.er = some y) : ∃ z,x = some z ∧ z.er = y:=by
 cases x with
 | none => cases h
 | some z => exact ⟨z,rfl,by simpa using h⟩
theorem agree_of {F : TF} {L : List ByteArray} {bl : List Nat} {p : Pg} {ls : List Lc} {d : Nat} (h : InvN F L bl p ls d) (hu : Uniq p) (t : List UInt8) : Agree F p ls t:=by
 have ht:=tag_at hu t
 obtain ⟨ha,hb⟩:=tag_apart hu t
 unfold Agree rKd rTy
 by_cases hloc : ∃ x ∈ ls,x.nm.data.toList = t
 · obtain ⟨x0,hx0,rfl⟩:=hloc
   have hF:=h.yes x0 hx0
   rw [hF.2] at ht
   cases hq : findK (fun y : Lc => y.nm.data.toList) x0.nm.data.toList 0 ls with
   | none => exact absurd rfl (findK_none hq x0 hx0)
   | some q =>
    obtain ⟨i,_,h2,h3,_⟩:=findK_some hq
    have hFq:=(h.yes q.1 (List.mem_of_getElem? h2)).1
    rw [h3] at hFq
    cases hf : findK (fun y : Fn => y.nm) x0.nm.data.toList 0 p.fs with
    | some r => rw [hf] at ht;cases ht
    | none =>
     cases hl : findK (fun y : Lk => y.nm) x0.nm.data.toList 0 p.ls with
     | some r => rw [hf,hl] at ht;cases ht
     | none =>
      cases hg : findK (fun y : Gl => y.nm) x0.nm.data.toList 0 p.gs with
      | some r => rw [hf,hl,hg] at ht;cases ht
      | none =>
       have e1 : rGl p.gs x0.nm.data.toList = (gl00,-1):=by simp [rGl,hg]
       have e2 : rLk p.ls x0.nm.data.toList = -1:=by simp [rLk,hl]
       have e3 : rFn p.fs x0.nm.data.toList = (fn00,-1):=by simp [rFn,hf]
       have e4 : rLo ls x0.nm.data.toList = (q.2 : Int):=by simp [rLo,hq]
       have e5 : lcTy ls x0.nm.data.toList = (q.1.tr,q.1.sc):=by simp [lcTy,hq]
       have e6 : rKd p ls x0.nm.data.toList = 4:=by simp [rKd,e1,e2,e3,e4]
       rw [hFq,e1,e2,e3,e4,e5]
       simp [kindN,typeN,globN,lockN,funcN,e6]
 · have hno : ∀ x ∈ ls,x.nm.data.toList ≠ t:=fun x hx e => hloc ⟨x,hx,e⟩
   have hE : (F t).map Th.er = tagP p t:=h.no t hno
   have e4 : rLo ls t = -1:=rLo_miss (fun j y hy => hno y (List.mem_of_getElem? hy))
   rw [ht] at hE
   cases hf : findK (fun y : Fn => y.nm) t 0 p.fs with
   | some q =>
    obtain ⟨hl,hg⟩:=ha q hf
    rw [hf] at hE
    obtain ⟨z,hz,he⟩:=er_inv hE
    have e1 : rGl p.gs t = (gl00,-1):=by simp [rGl,hg]
    have e2 : rLk p.ls t = -1:=by simp [rLk,hl]
    have e3 : rFn p.fs t = (q.1,(q.2 : Int)):=by simp [rFn,hf]
    have e6 : rKd p ls t = 3:=by simp [rKd,e1,e2,e3]
    rw [hz,e1,e2,e3,e4]
    cases z with
    | fn y v i =>
     simp only [Th.er,Th.fn.injEq] at he
     obtain ⟨rfl,_,rfl⟩:=he
     simp [kindN,typeN,globN,lockN,funcN,e6]
    | gl y i => cases he
    | lk i => cases he
    | lo a b => cases he
   | none =>
    rw [hf] at hE
    cases hl : findK (fun y : Lk => y.nm) t 0 p.ls with
    | some q =>
     have hg:=hb q hl
     rw [hl] at hE
     obtain ⟨z,hz,he⟩:=er_inv hE
     have e1 : rGl p.gs t = (gl00,-1):=by simp [rGl,hg]
     have e2 : rLk p.ls t = (q.2 : Int):=by simp [rLk,hl]
     have e3 : rFn p.fs t = (fn00,-1):=by simp [rFn,hf]
     have e6 : rKd p ls t = 2:=by simp [rKd,e1,e2]
     rw [hz,e1,e2,e3,e4]
     cases z with
     | lk i =>
      simp only [Th.er,Th.lk.injEq] at he
      subst he
      simp [kindN,typeN,globN,lockN,funcN,e6]
     | gl y i => cases he
     | fn y v i => cases he
     | lo a b => cases he
    | none =>
     rw [hl] at hE
     cases hg : findK (fun y : Gl => y.nm) t 0 p.gs with
     | some q =>
      rw [hg] at hE
      obtain ⟨z,hz,he⟩:=er_inv hE
      have e1 : rGl p.gs t = (q.1,(q.2 : Int)):=by simp [rGl,hg]
      have e2 : rLk p.ls t = -1:=by simp [rLk,hl]
      have e3 : rFn p.fs t = (fn00,-1):=by simp [rFn,hf]
      rw [hz,e1,e2,e3,e4]
      cases z with
      | gl y i =>
       simp only [Th.er,Th.gl.injEq] at he
       obtain ⟨rfl,rfl⟩:=he
       simp [kindN,typeN,globN,lockN,funcN]
      | lk i => cases he
      | fn y v i => cases he
      | lo a b => cases he
     | none =>
      rw [hg] at hE
      have hn : F t = none:=by
       cases hz : F t with
       | none => rfl
       | some z => rw [hz] at hE;cases hE
      have e1 : rGl p.gs t = (gl00,-1):=by simp [rGl,hg]
      have e2 : rLk p.ls t = -1:=by simp [rLk,hl]
      have e3 : rFn p.fs t = (fn00,-1):=by simp [rFn,hf]
      have e6 : rKd p ls t = 0:=by simp [rKd,e1,e2,e3,e4]
      rw [hn,e1,e2,e3,e4]
      simp [kindN,typeN,globN,lockN,funcN,e6]
end Go.Proofs.Ytbmmjomcjlpnlaa
namespace Go.Proofs.Ytbmmjomcjlpnlaa
open Go Go.RowKit
def Far (T : TypeId) : Prop:=T ≠ 89 ∧ T ≠ 9 ∧ T ≠ 3 ∧ T ≠ 141 ∧ T ≠ 63 ∧ T ≠ 137
theorem ty_ne {W : World} {g h : Nat} {cs cs' : Array Value} {T T' : TypeId} {fr fr' : Nat × Nat} (hg : W.heap[g]? = some (.cells cs T fr)) (hh : W.heap[h]? = some (.cells cs' T' fr')) (hT : T ≠ T') : g ≠ h:=fun e => by
 subst e
 rw [hg] at hh
 simp only [Option.some.injEq,Obj.cells.injEq] at hh
 exact hT hh.2.1
section
variable {B : Nat} {W X : World} {s n : Nat} {F : TF} {L : List ByteArray} {bl : List Nat} {m lv bv m' lv' bv' : Value} {g : Nat} {cs : Array Value} {T : TypeId} {fr : Nat × Nat}
theorem Scp.set9 (h : Scp B W s n F L bl m lv bv) (hg : W.heap[g]? = some (.cells cs T fr)) (hT : Far T) (hf : Fr2 g W.heap.size W X) : Scp B X s n F L bl m lv bv:=by
 have hsz : ∀ (k : Nat) (cs' : Array Value) (T' : TypeId) (fr' : Nat × Nat),W.heap[k]? = some (.cells cs' T' fr') → k ≠ W.heap.size:=fun k _ _ _ hk => Nat.ne_of_lt (Array.getElem?_eq_some_iff.1 hk).1
 have hs:=h.facts.1
 refine ⟨(hf.2 s hs (ty_ne h.blk hg hT.1.symm) (Nat.ne_of_lt hs)).trans h.blk,h.hs,?_,own_fr2 h.lo hf hg hT.2.1.symm (fun k _ _ => hsz k _ _ _),own_fr2 h.bk hf hg hT.2.2.1.symm (fun k _ _ => hsz k _ _ _),fun t x hx => Th.ok_kept (h.th t x hx) (tree_fr2 hf hg hT.2.2.2 hsz)⟩
 rcases h.mp with h0 | ⟨b,hb,hB,hk⟩
 · exact .inl h0
 · exact .inr ⟨b,hb,hB,hk.same (hf.2 b hk.lt (fun e => hk.nocells g cs T fr hg e.symm) (Nat.ne_of_lt hk.lt))⟩
theorem Scp.apt9 (h : Scp B W s n F L bl m lv bv) (hg : W.heap[g]? = some (.cells cs T fr)) (hT : Far T) : Apt g s m lv bv:=by
 refine ⟨ty_ne hg h.blk hT.1,fun e => ?_,own_ne h.lo hg hT.2.1.symm,own_ne h.bk hg hT.2.2.1.symm⟩
 rcases h.mp with ⟨h0,_⟩ | ⟨b,hb,_,hk⟩
 · rw [h0] at e
   cases e
 · rw [hb] at e
   cases e
   exact hk.nocells g cs T fr hg rfl
theorem keep9 (h : Scp B W s n F L bl m lv bv) (k : Apx W X s m lv bv m' lv' bv') (hg : W.heap[g]? = some (.cells cs T fr)) (hT : Far T) : X.heap[g]? = some (.cells cs T fr) :=
 (k g (Array.getElem?_eq_some_iff.1 hg).1 (h.apt9 hg hT)).1.trans hg
theorem own_keep9 {B2 K q : Nat} {v : Value} {xs : List Value} (h : Scp B W s n F L bl m lv bv) (k : Apx W X s m lv bv m' lv' bv') (ho : W.ownsRow B2 T K v q xs) (hT : Far T) : X.ownsRow B2 T K v q xs:=by
 refine ⟨ho.1,?_⟩
 rcases ho.2 with h0 | ⟨g,cap,cur,rfl,hB,hg,rest⟩
 · exact .inl h0
 · exact .inr ⟨g,cap,cur,rfl,hB,keep9 h k hg hT,rest⟩
end
theorem far_S : Far 38:=⟨by decide,by decide,by decide,by decide,by decide,by decide⟩
theorem far_L : Far 53:=⟨by decide,by decide,by decide,by decide,by decide,by decide⟩
theorem far_Step : Far 44:=⟨by decide,by decide,by decide,by decide,by decide,by decide⟩
section
variable {F : TF} {L : List ByteArray} {bl : List Nat} {p : Pg} {ls : List Lc} {d : Nat}
theorem inv_init {F : TF} {p : Pg} (h : F.er = tagP p) : InvN F [] [] p [] 0:=⟨rfl,rfl,by simp,fun t _ => congrFun h t,by simp,by simp⟩
theorem inv_enter (h : InvN F L bl p ls d) : InvN F L (bl ++ [L.length]) p ls (d + 1):=by
 refine ⟨h.eL,by rw [List.length_append,h.eb];rfl,h.yes,h.no,fun j a hj => ?_,fun x hx => Nat.le_succ_of_le (h.dp x hx)⟩
 by_cases hlt : j < bl.length
 · rw [List.getElem?_append_left hlt] at hj
   exact h.mks j a hj
 · rw [List.getElem?_append_right (by omega)] at hj
   have hj0 : j - bl.length = 0:=by
    have:=(List.getElem?_eq_some_iff.1 hj).1
    simp at this
    omega
   rw [hj0] at hj
   simp only [List.getElem?_cons_zero,Option.some.injEq] at hj
   have eL : L.length = ls.length:=by rw [h.eL,List.length_map]
   refine ⟨by omega,fun i x hx => ?_⟩
   have h1:=h.dp x (List.mem_of_getElem? hx)
   have h2:=(List.getElem?_eq_some_iff.1 hx).1
   have h3:=h.eb
   constructor
   · intro _
     omega
   · intro _
     omega
theorem inv_let (h : InvN F L bl p ls d) (t : ByteArray) (tr sc : Bool) (_ : d ≠ 0) (hF : F t.data.toList = none) : InvN (F.upd t.data.toList (.lo tr sc)) (L ++ [t]) bl p (ls ++ [⟨t,tr,sc,d⟩]) d:=by
 have hne : ∀ x ∈ ls,x.nm.data.toList ≠ t.data.toList:=fun x hx e => by
  have:=(h.yes x hx).1
  rw [e,hF] at this
  cases this
 have hup : ∀ k,k ≠ t.data.toList → (F.upd t.data.toList (.lo tr sc)) k = F k:=fun k hk => by
  unfold TF.upd
  rw [if_neg hk]
 refine ⟨by rw [h.eL,List.map_append];rfl,h.eb,fun x hx => ?_,fun k hk => ?_,fun j a hj => ?_,fun x hx => ?_⟩
 · rcases mem_snoc hx with hx | rfl
   · rw [hup _ (hne x hx)]
     exact h.yes x hx
   · refine ⟨by unfold TF.upd;rw [if_pos rfl],?_⟩
     have:=h.no t.data.toList hne
     rw [← this]
     show (F t.data.toList).map Th.er = none
     rw [hF]
     rfl
 · have h1 : t.data.toList ≠ k:=hk ⟨t,tr,sc,d⟩ (List.mem_append_right _ (List.mem_singleton.2 rfl))
   show ((F.upd t.data.toList (.lo tr sc)) k).map Th.er = tagP p k
   rw [hup k h1.symm]
   exact h.no k (fun x hx => hk x (List.mem_append_left _ hx))
 · obtain ⟨h1,h2⟩:=h.mks j a hj
   have hjb:=(List.getElem?_eq_some_iff.1 hj).1
   have he:=h.eb
   refine ⟨by rw [List.length_append];omega,fun i x hx => ?_⟩
   by_cases hi : i < ls.length
   · rw [List.getElem?_append_left hi] at hx
     exact h2 i x hx
   · rw [List.getElem?_append_right (by omega)] at hx
     have h3:=(List.getElem?_eq_some_iff.1 hx).1
     simp at h3
     have h4 : i - ls.length = 0:=by omega
     rw [h4] at hx
     simp at hx
     subst hx
     constructor
     · intro h5
       have h6 : d ≤ j:=h5
       omega
     · intro h5
       omega
 · rcases mem_snoc hx with hx | rfl
   · exact h.dp x hx
   · exact Nat.le_refl _
theorem dels_in {k : List UInt8} : ∀ (M : List ByteArray) (F : TF),(∃ x ∈ M,x.data.toList = k) → (F.dels M) k = none
 | [],_,⟨_,h,_⟩ => by cases h
 | x :: r,F,⟨y,hy,e⟩ => by
  show ((F.del x.data.toList).dels r) k = none
  by_cases hr : ∃ z ∈ r,z.data.toList = k
  · exact dels_in r _ hr
  · rw [dels_ne r _ (fun z hz e => hr ⟨z,hz,e⟩)]
    rcases List.mem_cons.1 hy with rfl | hy
    · unfold TF.del
      rw [if_pos e.symm]
    · exact absurd ⟨y,hy,e⟩ hr
theorem inv_leave {b0 : List Nat} {a : Nat} (h : InvN F L (b0 ++ [a]) p ls d) (hk : LocOk F L) : d = b0.length + 1 ∧ a ≤ L.length ∧ keptL ls d = ls.take a ∧ InvN (F.dels (L.drop a)) (L.take a) b0 p (ls.take a) b0.length:=by
 have hd : d = b0.length + 1:=by (rw [← h.eb,List.length_append];rfl)
 have eL : L.length = ls.length:=by rw [h.eL,List.length_map]
 obtain ⟨h1,h2⟩:=h.mks b0.length a (by rw [List.getElem?_append_right (Nat.le_refl _)];simp)
 have e1 : L.take a ++ L.drop a = L:=List.take_append_drop a L
 have hnd:=hk.nd
 rw [← e1,List.map_append,List.nodup_append] at hnd
 have tk : ∀ x ∈ ls.take a,∃ i,i < a ∧ ls[i]? = some x:=fun x hx => by
  obtain ⟨i,hi⟩:=List.getElem?_of_mem hx
  have hia : i < a:=by
   have:=(List.getElem?_eq_some_iff.1 hi).1
   rw [List.length_take] at this
   omega
  exact ⟨i,hia,by rwa [List.getElem?_take_of_lt hia] at hi⟩
 have eT : (ls.take a).map (·.nm) = L.take a:=by rw [h.eL,List.map_take]
 have eD : (ls.drop a).map (·.nm) = L.drop a:=by rw [h.eL,List.map_drop]
 refine ⟨hd,by omega,?_,eT.symm,rfl,fun x hx => ?_,fun t ht => ?_,fun j c hj => ?_,fun x hx => ?_⟩
 · have key : keptL ls d = keptL (ls.take a) d ++ keptL (ls.drop a) d:=by
    unfold keptL
    rw [← List.filter_append,List.take_append_drop]
   rw [key]
   have k1 : keptL (ls.take a) d = ls.take a:=by
    unfold keptL
    rw [List.filter_eq_self]
    intro x hx
    obtain ⟨i,hi,hx2⟩:=tk x hx
    have:=(h2 i x hx2).2 hi
    simp
    omega
   have k2 : keptL (ls.drop a) d = []:=by
    unfold keptL
    rw [List.filter_eq_nil_iff]
    intro x hx
    obtain ⟨i,hi⟩:=List.getElem?_of_mem hx
    rw [List.getElem?_drop] at hi
    have:=(h2 (a + i) x hi).1
    simp
    omega
   rw [k1,k2,List.append_nil]
 · have hx2 : x ∈ ls:=List.mem_of_mem_take hx
   refine ⟨?_,(h.yes x hx2).2⟩
   rw [dels_ne]
   · exact (h.yes x hx2).1
   · intro y hy e
     have hxT : x.nm ∈ L.take a:=by (rw [← eT];exact List.mem_map.2 ⟨x,hx,rfl⟩)
     exact hnd.2.2 _ (List.mem_map.2 ⟨x.nm,hxT,rfl⟩) _ (List.mem_map.2 ⟨y,hy,rfl⟩) e.symm
 · show ((F.dels (L.drop a)) t).map Th.er = tagP p t
   by_cases hin : ∃ y ∈ L.drop a,y.data.toList = t
   · rw [dels_in _ _ hin]
     obtain ⟨y,hy,rfl⟩:=hin
     rw [← eD] at hy
     obtain ⟨x,hx,rfl⟩:=List.mem_map.1 hy
     exact (h.yes x (List.mem_of_mem_drop hx)).2.symm
   · rw [dels_ne _ _ (fun y hy e => hin ⟨y,hy,e⟩)]
     refine h.no t (fun x hx e => ?_)
     rw [← List.take_append_drop a ls] at hx
     rcases List.mem_append.1 hx with hx | hx
     · exact ht x hx e
     · exact hin ⟨x.nm,by (rw [← eD];exact List.mem_map.2 ⟨x,hx,rfl⟩),e⟩
 · have hjl:=(List.getElem?_eq_some_iff.1 hj).1
   obtain ⟨h3,h4⟩:=h.mks j c (by rw [List.getElem?_append_left hjl];exact hj)
   have hca : c ≤ a:=by
    by_cases hlt : a < c
    · exfalso
      obtain ⟨x,hx⟩ : ∃ x,ls[a]? = some x:=⟨_,List.getElem?_eq_getElem (by omega)⟩
      have q1:=(h4 a x hx).2 hlt
      have q2:=(h2 a x hx).1 (by omega)
      omega
    · omega
   refine ⟨by rw [List.length_take];omega,fun i x hx => ?_⟩
   have hia : i < a:=by
    have:=(List.getElem?_eq_some_iff.1 hx).1
    rw [List.length_take] at this
    omega
   rw [List.getElem?_take_of_lt hia] at hx
   exact h4 i x hx
 · obtain ⟨i,hi,hx2⟩:=tk x hx
   exact (h2 i x hx2).2 hi
end
theorem let_bad {B : Nat} {W : World} {s n d : Nat} {F : TF} {L : List ByteArray} {bl : List Nat} {m lv bv : Value} {p : Pg} {ls : List Lc} (h : Hid (Scp B W s n F L bl m lv bv)) (hi : InvN F L bl p ls d) (hu : Uniq p) (t : ByteArray) (ht : t.size ≤ 140737488355328) (tr sc : Bool) (hC : d = 0 ∨ t.data.toList = [] ∨ rKd p ls t.data.toList ≠ 0) :
 Calls Try.prog 13 #[.pointer (some ⟨s,0,none⟩),.string t,.agg #[.bool tr,.bool sc]] W fun e w' => e = .returned (.int .i64 12) ∧ Below W.heap.size W w':=by
 by_cases hb : bl = []
 · subst hb
   exact let_no0 h t tr sc
 · rcases hC with hC | hC | hC
   · exfalso
     have:=hi.eb
     rw [hC] at this
     exact hb (List.eq_nil_of_length_eq_zero this)
   · exact let_no h hb t ht (.inl (by rw [ByteArray.toList_eq,hC];rfl)) tr sc
   · exact let_no h hb t ht (.inr (by rw [(agree_of hi hu t.data.toList).1];exact hC)) tr sc
theorem let_good {B : Nat} {W : World} {s n d : Nat} {F : TF} {L : List ByteArray} {bl : List Nat} {m lv bv : Value} {p : Pg} {ls : List Lc} (h : Hid (Scp B W s n F L bl m lv bv)) (hi : InvN F L bl p ls d) (hu : Uniq p) (t : ByteArray) (ht : t.size ≤ 140737488355328) (tr sc : Bool) (hn : n < 1000000) (hL : L.length ≤ 1000000) (h1 : d ≠ 0) (h2 : t.data.toList ≠ []) (h3 : rKd p ls t.data.toList = 0) :
 Calls Try.prog 13 #[.pointer (some ⟨s,0,none⟩),.string t,.agg #[.bool tr,.bool sc]] W fun e w' => e = .returned (.int .i64 0) ∧ F t.data.toList = none ∧ ∃ m' lv',Scp B w' s (n + 1) (F.upd t.data.toList (.lo tr sc)) (L ++ [t]) bl m' lv' bv ∧ Below B W w' ∧ Apx W w' s m lv bv m' lv' bv:=by
 have hb : bl ≠ []:=fun e => by
  have:=hi.eb
  rw [e] at this
  exact h1 this.symm
 have hF:=kindN_none ((agree_of hi hu t.data.toList).1.trans h3)
 exact (let_yes h hb t ht h2 tr sc hF hn hL).mono fun e w' ⟨he,b',lv',k1,k2,_,k3⟩ => ⟨he,hF,_,lv',k1,k2,k3⟩
end Go.Proofs.Ytbmmjomcjlpnlaa
namespace Go.Proofs.Ytbmmjomcjlpnlaa
open Go Go.RowKit
theorem tell_law (a0 : ByteArray) (p1 : Option Addr) (n1 c1 : Nat) (w : World) (hst : StepsAt w p1 n1) :
 Calls Try.prog 3 #[.string a0,.slice p1 n1 c1] w fun e w' => e = .returned (.bool true) ∧ Below w.heap.size w w':=by
 go_enter Try.func3,Try.ntmps3
 go_upto_region 4 with (go_at_call 6;(with_reducible refine (awake_any _).mono ?_);rintro e1 x1 ⟨rfl,hb1⟩;have HB1:=hid hb1;clear hb1)
 by_cases hs4 : 4000 < a0.size
 · go_wp2
   go_ret
   exact ⟨rfl,HB1.out⟩
 by_cases hs1 : 60 < n1
 · go_wp2
   go_ret
   exact ⟨rfl,HB1.out⟩
 go_upto_region 7 with (go_at_call 7;(with_reducible refine (r4_parse9 a0 _).mono ?_);rintro e2 x2 ⟨hb2,z0,i0,d0,z1,i1,d1,z2,i2,d2,z3,i3,d3,c,a,rfl,hP⟩;have HB2:=hid (below_ch HB1.out hb2);have HP0:=hid hP;clear hb2 hP)
 refine name_world ?_
 intro W1 hW1
 have HB3 : Hid (Below w.heap.size w W1):=hid (by (rw [hW1];exact below_ch HB2.out (below_of_alloc _ _)))
 have HA1 : Hid (Below x2.heap.size x2 W1):=hid (by (rw [hW1];exact below_of_alloc _ _))
 have hm1 : W1.heap[x2.heap.size]? = some (.cells #[.slice z0 i0 d0,.slice z1 i1 d1,.slice z2 i2 d2,.slice z3 i3 d3] 29 (0,0)):=by (rw [hW1];exact heap_alloc_new _ _)
 have HM1:=hid hm1
 obtain ⟨pb,epb⟩ : ∃ n,x2.heap.size = n:=⟨_,rfl⟩
 rw [epb] at HM1
 try simp only [epb]
 clear hW1 hm1 HB1 HB2 epb
 rcases HP0.out with hc | ⟨rfl,p,rf,rt,hsh,hat,hnd,hR⟩
 · have hcb : (c == 0) = false:=by simpa using hc
   go_wp2
   go_ret
   exact ⟨rfl,HB3.out⟩
 have RW : Hid (PRows x1.heap.size W1 p (.slice z0 i0 d0) (.slice z1 i1 d1) (.slice z2 i2 d2) (.slice z3 i3 d3) rf rt):=hid (hR.stay HA1.out)
 have HSH:=hid hsh
 have HAT:=hid hat
 have HND:=hid hnd
 have hp : p.gs.length ≤ 1000 ∧ p.ls.length ≤ 1000 ∧ p.fs.length ≤ 1000:=⟨hsh.gs.1,hsh.ls.1,hsh.fs.1⟩
 clear HP0 hsh hat hnd hR HA1
 have hml : pb < W1.heap.size:=(Array.getElem?_eq_some_iff.1 HM1.out).1
 have m0 : W1.cell? ⟨pb,0,none⟩ = some (.slice z0 i0 d0):=cell_of_row _ _ _ _ _ _ HM1.out
 have m1 : W1.cell? ⟨pb,1,none⟩ = some (.slice z1 i1 d1):=cell_of_row _ _ _ _ _ _ HM1.out
 have m2 : W1.cell? ⟨pb,2,none⟩ = some (.slice z2 i2 d2):=cell_of_row _ _ _ _ _ _ HM1.out
 have m3 : W1.cell? ⟨pb,3,none⟩ = some (.slice z3 i3 d3):=cell_of_row _ _ _ _ _ _ HM1.out
 rcases ref_twice HAT.out.things with ⟨htw,hra⟩ | ⟨htw,hra,hr0⟩
 · have HU : Hid (Uniq p):=hid (uniq_of htw HND.out)
   have hU:=HU.out
   have HRA:=hid hra
   have HTW:=hid htw
   clear hra htw
   go_upto_region 10 with (go_at_call 8;(with_reducible refine (new_good RW HSH.out HTW.out).mono ?_);rintro e3 x3 ⟨hb3,s,rfl,hs4,F,mm,n,hn,hFe,hS⟩;have HQ3:=hid hb3;have HFE:=hid hFe;have HS0:=hid hS;clear hb3 hFe hS)
   clear m0 m1 m2 m3
   have HM3 : x3.heap[pb]? = some (.cells #[.slice z0 i0 d0,.slice z1 i1 d1,.slice z2 i2 d2,.slice z3 i3 d3] 29 (0,0)):=(HQ3.out.block _ hml).trans HM1.out
   have hml3 : pb < x3.heap.size:=(Array.getElem?_eq_some_iff.1 HM3).1
   have m0 : x3.cell? ⟨pb,0,none⟩ = some (.slice z0 i0 d0):=cell_of_row _ _ _ _ _ _ HM3
   have m1 : x3.cell? ⟨pb,1,none⟩ = some (.slice z1 i1 d1):=cell_of_row _ _ _ _ _ _ HM3
   have m2 : x3.cell? ⟨pb,2,none⟩ = some (.slice z2 i2 d2):=cell_of_row _ _ _ _ _ _ HM3
   have m3 : x3.cell? ⟨pb,3,none⟩ = some (.slice z3 i3 d3):=cell_of_row _ _ _ _ _ _ HM3
   clear HM3
   have CN : Hid (Calls Try.prog 9 #[.agg #[.slice z0 i0 d0,.slice z1 i1 d1,.slice z2 i2 d2,.slice z3 i3 d3]] x3 fun e w' => Below x3.heap.size x3 w' ∧ e = .returned (.tuple #[.agg #[.slice z0 i0 d0,.slice z1 i1 d1,.slice z2 i2 d2,.slice z3 i3 d3,.int .i64 0,.slice none 0 0],.int .i64 0,.int .i64 0])):=hid (by
    have h:=rnew_any (hid (RW.out.stay HQ3.out)) hp
    rw [HRA.out,rnV,if_pos (by decide)] at h
    exact h)
   go_upto_region 11 with (go_at_call 9;(with_reducible refine CN.out.mono ?_);rintro e4 x4 ⟨hb4,rfl⟩;have HQ4:=hid hb4;clear hb4)
   refine name_world ?_
   intro W4 hW4
   have HQ5 : Hid (Below x3.heap.size x3 W4):=hid (by (rw [hW4];exact below_ch HQ4.out (below_of_alloc _ _)))
   have HW0 : Hid (ZSb W4 x4.heap.size (.slice z0 i0 d0) (.slice z1 i1 d1) (.slice z2 i2 d2) (.slice z3 i3 d3) 0 (.slice none 0 0)):=hid (by (rw [hW4];exact ZSb.new rfl))
   have hwb : W1.heap.size ≤ x4.heap.size:=Nat.le_trans HQ3.out.size HQ4.out.size
   have HB4:=hid (below_ch HQ3.out HQ5.out)
   have HBw4:=hid (below_ch HB3.out HB4.out)
   have S0:=hid (HS0.out.stay HQ5.out)
   have HI0:=hid (inv_init HFE.out)
   obtain ⟨wb,ewb⟩ : ∃ n,x4.heap.size = n:=⟨_,rfl⟩
   rw [ewb] at HW0 hwb
   try simp only [ewb]
   have hwB : w.heap.size ≤ wb:=Nat.le_trans HB3.out.size hwb
   have hBw : w.heap.size ≤ W1.heap.size:=HB3.out.size
   clear hW4 ewb m0 m1 m2 m3 hml3 HQ3 HQ4 HQ5 HS0 HFE CN hs4 HM1 HB3 HTW HRA
   go_upto_region 16 with (fail)
   go_loopw [15] (fun iv wr => ∃ (i n' d nl kl : Nat) (zl : Option Addr) (F : TF) (L : List ByteArray) (bl : List Nat) (m lv bv : Value) (ls : List Lc),iv = .int .i64 i ∧ i ≤ n1 ∧ n' ≤ 3000 + i ∧ L.length ≤ i ∧ bl.length ≤ i ∧ LocOk F L ∧ InvN F L bl p ls d ∧ Below w.heap.size w wr ∧ Below W1.heap.size W1 wr ∧ Scp W1.heap.size wr s n' F L bl m lv bv ∧ ZSb wr wb (.slice z0 i0 d0) (.slice z1 i1 d1) (.slice z2 i2 d2) (.slice z3 i3 d3) d (.slice zl nl kl) ∧ wr.ownsRow 0 53 4 (.slice zl nl kl) ls.length (ls.flatMap lcCells)) (fun iv _ => n1 - (intOf iv).toNat)
   case atStart => exact ⟨0,n,0,0,0,none,F,[],[],mm,_,_,[],rfl,Nat.zero_le _,hn,Nat.le_refl _,Nat.le_refl _,LocOk.nil F,HI0.out,HBw4.out,HB4.out,S0.out,HW0.out,World.ownsRow_nil _ _ _ _⟩
   case round =>
    obtain ⟨i,n2,d,nl,kl,zl,F1,L,bl,m,lv,bv,ls,rfl,hi,hn2,hL,hbl,hok,hinv,hbw,hb1,hsr,hzs,hlr⟩:=hrel
    have HBW:=hid hbw
    have HBR:=hid hb1
    have S1:=hid hsr
    have HOK:=hid hok
    have HIN:=hid hinv
    have HZS:=hid hzs
    have HLR:=hid hlr
    have hdl : d ≤ i:=by (have:=hinv.eb;omega)
    clear hsr hok hinv hb1 hzs hlr S0 HB4 HBw4 HI0 HW0
    by_cases hin : i < n1
    · obtain ⟨b,o,k,nm,tr,sc,rfl,hbs,hnm,d0',d1',d2',d3'⟩:=hst i hin
      have hlt : (i : Int) < (n1 : Int):=by omega
      have hi0 : (0 : Int) ≤ (i : Int):=Int.natCast_nonneg _
      have hbr : b < wr.heap.size:=Nat.lt_of_lt_of_le hbs hbw.size
      have e0 : wr.cell? ⟨b,o + i * 4,none⟩ = some (.int .i64 k):=(hbw.cell (p:=⟨b,o + i * 4,none⟩) hbs).trans d0'
      have e1 : wr.cell? ⟨b,o + i * 4 + 1,none⟩ = some (.string nm):=(hbw.cell (p:=⟨b,o + i * 4 + 1,none⟩) hbs).trans d1'
      have e2 : wr.cell? ⟨b,o + i * 4 + 2,none⟩ = some (.bool tr):=(hbw.cell (p:=⟨b,o + i * 4 + 2,none⟩) hbs).trans d2'
      have e3 : wr.cell? ⟨b,o + i * 4 + 3,none⟩ = some (.bool sc):=(hbw.cell (p:=⟨b,o + i * 4 + 3,none⟩) hbs).trans d3'
      clear d0' d1' d2' d3' hbw
      go_upto_region 19 with (fail)
      refine name_world ?_
      intro Y hY
      have HA : Hid (Below wr.heap.size wr Y):=hid (by (rw [hY];exact below_of_alloc _ _))
      have HX1 : Hid (Y.heap[wr.heap.size]? = some (.cells #[.int .i64 k,.string nm,.bool tr,.bool sc] 44 (0,0))):=hid (by (rw [hY];exact heap_alloc_new _ _))
      obtain ⟨xb,exb⟩ : ∃ n,wr.heap.size = n:=⟨_,rfl⟩
      rw [exb] at HX1
      try simp only [exb]
      clear hY e0 e1 e2 e3 exb hbr
      have HBWY:=hid (below_ch HBW.out HA.out)
      have HBRY:=hid (below_ch HBR.out HA.out)
      have S2:=hid (S1.out.stay HA.out)
      have HZ2:=hid (HZS.out.stay HA.out)
      have HL2:=hid (own_below HLR.out HA.out)
      clear HBW HBR S1 HZS HLR HA
      have xl:=(Array.getElem?_eq_some_iff.1 HX1.out).1
      have x0 : Y.cell? ⟨xb,0,none⟩ = some (.int .i64 k):=cell_of_row _ _ _ _ _ _ HX1.out
      have x1 : Y.cell? ⟨xb,1,none⟩ = some (.string nm):=cell_of_row _ _ _ _ _ _ HX1.out
      have x2' : Y.cell? ⟨xb,2,none⟩ = some (.bool tr):=cell_of_row _ _ _ _ _ _ HX1.out
      have x3' : Y.cell? ⟨xb,3,none⟩ = some (.bool sc):=cell_of_row _ _ _ _ _ _ HX1.out
      by_cases hk0 : k = 0
      · subst hk0
        go_upto_region 22 with (go_at_call 10;(with_reducible refine (enter_any S2 (by omega) (by omega)).mono ?_);rintro e5 y1 ⟨rfl,bv1,hS3,hb3,hx3⟩;have S3:=hid hS3;have HC3:=hid hb3;have HZ3 : Hid (ZSb y1 wb (.slice z0 i0 d0) (.slice z1 i1 d1) (.slice z2 i2 d2) (.slice z3 i3 d3) d (.slice zl nl kl)):=hid (keep9 S2.out hx3 HZ2.out far_S);have HL3:=hid (own_keep9 S2.out hx3 HL2.out far_L);have HX3:=hid (keep9 S2.out hx3 HX1.out far_Step);clear hS3 hb3 hx3)
        clear x0 x1 x2' x3' xl
        obtain ⟨wl,⟨m0,m1,m2,m3,m4,m5⟩,mf0,mf1,mf2,mf3,mf4,mf5⟩:=HZ3.out.facts
        go_upto_region 32 with (fail)
        refine name_world ?_
        intro Z hZ
        have hZ2 : Z = y1.setCell ⟨wb,4,none⟩ (.int .i64 ((d + 1 : Nat) : Int)):=hZ
        have HF : Hid (Fr2 wb y1.heap.size y1 Z):=hid (by (rw [hZ2];exact (Fr2.refl _ _ _).set (.inl rfl) 4 _))
        have HBw : Hid (Below w.heap.size w Z):=hid (by (rw [hZ2];exact (below_tr HBWY.out (HC3.out.mono hBw)).setCell hwB _))
        have HB9 : Hid (Below W1.heap.size W1 Z):=hid (by (rw [hZ2];exact (below_tr HBRY.out HC3.out).setCell hwb _))
        have S9:=hid (S3.out.set9 HZ3.out far_S HF.out)
        have HW9 : Hid (ZSb Z wb (.slice z0 i0 d0) (.slice z1 i1 d1) (.slice z2 i2 d2) (.slice z3 i3 d3) ((d + 1 : Nat) : Int) (.slice zl nl kl)):=hid (by (rw [hZ2];exact HZ3.out.set4 _))
        have HL9 : Hid (Z.ownsRow 0 53 4 (.slice zl nl kl) ls.length (ls.flatMap lcCells)):=hid (by (rw [hZ2];exact own_setN HL3.out (own_ne HL3.out HZ3.out (by decide)) 4 _))
        have HX9 : Hid (Z.heap[xb]? = some (.cells #[.int .i64 0,.string nm,.bool tr,.bool sc] 44 (0,0))):=hid (by (rw [hZ2];exact (heap_setCell_other y1 ⟨wb,4,none⟩ xb _ (ty_ne HX3.out HZ3.out (by decide))).trans HX3.out))
        have HI9:=hid (inv_enter HIN.out)
        have HK9:=HOK
        clear hZ hZ2 HF wl m0 m1 m2 m3 m4 m5 mf0 mf1 mf2 mf3 mf4 mf5 S2 S3 HZ2 HZ3 HL2 HL3 HX1 HX3 HC3 HBWY HBRY
        obtain ⟨dd,edd⟩ : ∃ x,d + 1 = x:=⟨_,rfl⟩
        rw [edd] at HW9 HI9
        clear edd
        have hbl9 : (bl ++ [L.length]).length ≤ i + 1:=by (rw [List.length_append,List.length_singleton];omega)
        have HPR:=hid (RW.out.stay HB9.out)
        have hlen : ls.length = nl:=own_len HL9.out
        have hLl : L.length = nl:=by (rw [HI9.out.eL,List.length_map];exact hlen)
        obtain ⟨wl,⟨m0,m1,m2,m3,m4,m5⟩,mf0,mf1,mf2,mf3,mf4,mf5⟩:=HW9.out.facts
        have xl:=(Array.getElem?_eq_some_iff.1 HX9.out).1
        have x0 : Z.cell? ⟨xb,0,none⟩ = some (.int .i64 0):=cell_of_row _ _ _ _ _ _ HX9.out
        have x1 : Z.cell? ⟨xb,1,none⟩ = some (.string nm):=cell_of_row _ _ _ _ _ _ HX9.out
        have x2 : Z.cell? ⟨xb,2,none⟩ = some (.bool tr):=cell_of_row _ _ _ _ _ _ HX9.out
        have x3 : Z.cell? ⟨xb,3,none⟩ = some (.bool sc):=cell_of_row _ _ _ _ _ _ HX9.out
        go_upto_region 33 with (go_at_call 15;(with_reducible refine (same_name S9 HPR dd HL9 (by omega) hp nm hnm (agree_of HI9.out hU nm.data.toList)).mono ?_);rintro e5 Z5 ⟨hb5,rfl⟩;have HB5:=hid hb5;clear hb5)
        clear wl m0 m1 m2 m3 m4 m5 mf0 mf1 mf2 mf3 mf4 mf5 xl x0 x1 x2 x3
        have S5d:=hid ((S9.out.stay HB5.out).stay ((Below.refl Z5.heap.size Z5).drew))
        have HW5d:=hid ((HW9.out.stay HB5.out).stay ((Below.refl Z5.heap.size Z5).drew))
        have HBwd:=hid ((below_ch HBw.out HB5.out).drew)
        have HB9d:=hid ((below_ch HB9.out HB5.out).drew)
        have HL9d:=hid (own_below (own_below HL9.out HB5.out) ((Below.refl Z5.heap.size Z5).drew))
        have CLoc:=locals_any S5d (by omega) HK9.out.sz
        rw [hLl] at CLoc
        have CLH:=hid CLoc
        clear CLoc
        obtain ⟨wl,⟨m0,m1,m2,m3,m4,m5⟩,mf0,mf1,mf2,mf3,mf4,mf5⟩:=HW5d.out.facts
        go_region_law (go_simp;go_at_call 16;(with_reducible refine CLH.out.mono ?_);rintro e6 Z6 ⟨hb6,pl,cl,rfl,_⟩;have S6:=hid (S5d.out.stay hb6);have HW6:=hid (HW5d.out.stay hb6);have HBw6:=hid (below_ch HBwd.out hb6);have HB96:=hid (below_ch HB9d.out hb6);have HL6:=hid (own_below HL9d.out hb6);obtain ⟨wl6,⟨_,_,_,_,_,m56⟩,_⟩:=HW6.out.facts;clear hb6)
        all_goals go_wp2
        all_goals
         refine ⟨⟨i + 1,n2,dd,nl,kl,zl,F1,L,(bl ++ [L.length]),_,_,_,ls,by go_num,by omega,by omega,by omega,by omega,HK9.out,HI9.out,HBw6.out,HB96.out,S6.out,HW6.out,HL6.out⟩,?_⟩
         simp [intOf]
         omega
      · have hk0b : (k == 0) = false:=by simpa using hk0
        by_cases hk1 : k = 1
        · subst hk1
          by_cases hd0 : d = 0
          · obtain rfl : bl = []:=List.eq_nil_of_length_eq_zero (by (have:=HIN.out.eb;omega))
            have HD0:=hid hd0
            go_upto_region 25 with (go_at_call 11;(with_reducible refine (leave_none S2).mono ?_);rintro e5 y1 ⟨rfl,ey⟩;subst ey)
            clear x0 x1 x2' x3' xl
            obtain ⟨wl,⟨m0,m1,m2,m3,m4,m5⟩,mf0,mf1,mf2,mf3,mf4,mf5⟩:=HZ2.out.facts
            obtain ⟨dm,edm⟩ : ∃ x,d - 1 = x:=⟨_,rfl⟩
            have CL0:=rleave_any (W:=y1) (z0:=z0) (z1:=z1) (z2:=z2) (z3:=z3) (n0:=i0) (n1:=i1) (n2:=i2) (n3:=i3) (k0:=d0) (k1:=d1) (k2:=d2) (k3:=d3) (d:=d) (by omega) HL2 (by (have:=HIN.out.eL;have e:=congrArg List.length this;rw [List.length_map] at e;omega))
            unfold LvR at CL0
            rw [edm] at CL0
            have CL:=hid CL0
            have HS3:=S2
            have HZ3:=HZ2
            have HX3:=HX1
            have HBW3:=HBWY
            have HBR3:=HBRY
            have e9 : dm = d:=by omega
            have HI9 : Hid (InvN F1 L [] p ls dm):=hid (by (rw [e9];exact HIN.out))
            have HK9:=HOK
            clear S2 HZ2 HX1 HBWY HBRY HIN HOK HL2 CL0 edm e9 hd0
            go_upto_region 32 with (go_at_call 12;(with_reducible refine CL.out.mono ?_);rintro e6 y2 ⟨hb6,zl2,nl2,kl2,rfl,hl6⟩;have HC6:=hid hb6;have HL6:=hid hl6;have HZ6:=hid (HZ3.out.stay hb6);obtain ⟨wl,⟨m0,m1,m2,m3,m4,m5⟩,mf0,mf1,mf2,mf3,mf4,mf5⟩:=HZ6.out.facts;clear hb6 hl6)
            refine name_world ?_
            intro Z hZ
            have hZ2 : Z = ((((((y2.setCell ⟨wb,0,none⟩ (.slice z0 i0 d0)).setCell ⟨wb,1,none⟩ (.slice z1 i1 d1)).setCell ⟨wb,2,none⟩ (.slice z2 i2 d2)).setCell ⟨wb,3,none⟩ (.slice z3 i3 d3)).setCell ⟨wb,4,none⟩ (.int .i64 ((dm : Nat) : Int))).setCell ⟨wb,5,none⟩ (.slice zl2 nl2 kl2)):=hZ
            have HF : Hid (Fr2 wb y2.heap.size y2 Z):=hid (by (rw [hZ2];exact ((((((Fr2.refl _ _ _).set (.inl rfl) _ _).set (.inl rfl) _ _).set (.inl rfl) _ _).set (.inl rfl) _ _).set (.inl rfl) _ _).set (.inl rfl) _ _))
            have HBw : Hid (Below w.heap.size w Z):=hid (by (rw [hZ2];exact ((((((below_ch HBW3.out HC6.out).setCell hwB _).setCell hwB _).setCell hwB _).setCell hwB _).setCell hwB _).setCell hwB _))
            have HB9 : Hid (Below W1.heap.size W1 Z):=hid (by (rw [hZ2];exact ((((((below_ch HBR3.out HC6.out).setCell hwb _).setCell hwb _).setCell hwb _).setCell hwb _).setCell hwb _).setCell hwb _))
            have S9:=hid ((HS3.out.stay HC6.out).set9 HZ6.out far_S HF.out)
            have HW9 : Hid (ZSb Z wb (.slice z0 i0 d0) (.slice z1 i1 d1) (.slice z2 i2 d2) (.slice z3 i3 d3) ((dm : Nat) : Int) (.slice zl2 nl2 kl2)):=hid (by (rw [hZ2];exact HZ6.out.all))
            rw [if_pos HD0.out] at HL6
            have hno:=own_ne HL6.out HZ6.out (by decide)
            have HL9 : Hid (Z.ownsRow 0 53 4 (.slice zl2 nl2 kl2) (ls).length ((ls).flatMap lcCells)):=hid (by (rw [hZ2];exact own_setN (own_setN (own_setN (own_setN (own_setN (own_setN HL6.out hno _ _) hno _ _) hno _ _) hno _ _) hno _ _) hno _ _))
            have HX9 : Hid (Z.heap[xb]? = some (.cells #[.int .i64 1,.string nm,.bool tr,.bool sc] 44 (0,0))):=hid ((HF.out.2 xb (by (have:=(Array.getElem?_eq_some_iff.1 HX3.out).1;have:=HC6.out.size;omega)) (ty_ne HX3.out HZ3.out (by decide)) (by (have:=(Array.getElem?_eq_some_iff.1 HX3.out).1;have:=HC6.out.size;omega))).trans ((HC6.out.block xb (Array.getElem?_eq_some_iff.1 HX3.out).1).trans HX3.out))
            clear hZ hZ2 HF wl m0 m1 m2 m3 m4 m5 mf0 mf1 mf2 mf3 mf4 mf5 HS3 HZ3 HZ6 HL6 HX3 HC6 HBW3 HBR3 CL hno
            have HPR:=hid (RW.out.stay HB9.out)
            have hlen : ls.length = nl2:=own_len HL9.out
            have hLl : L.length = nl2:=by (rw [HI9.out.eL,List.length_map];exact hlen)
            obtain ⟨wl,⟨m0,m1,m2,m3,m4,m5⟩,mf0,mf1,mf2,mf3,mf4,mf5⟩:=HW9.out.facts
            have xl:=(Array.getElem?_eq_some_iff.1 HX9.out).1
            have x0 : Z.cell? ⟨xb,0,none⟩ = some (.int .i64 1):=cell_of_row _ _ _ _ _ _ HX9.out
            have x1 : Z.cell? ⟨xb,1,none⟩ = some (.string nm):=cell_of_row _ _ _ _ _ _ HX9.out
            have x2 : Z.cell? ⟨xb,2,none⟩ = some (.bool tr):=cell_of_row _ _ _ _ _ _ HX9.out
            have x3 : Z.cell? ⟨xb,3,none⟩ = some (.bool sc):=cell_of_row _ _ _ _ _ _ HX9.out
            go_upto_region 33 with (go_at_call 15;(with_reducible refine (same_name S9 HPR dm HL9 (by omega) hp nm hnm (agree_of HI9.out hU nm.data.toList)).mono ?_);rintro e5 Z5 ⟨hb5,rfl⟩;have HB5:=hid hb5;clear hb5)
            clear wl m0 m1 m2 m3 m4 m5 mf0 mf1 mf2 mf3 mf4 mf5 xl x0 x1 x2 x3
            have S5d:=hid ((S9.out.stay HB5.out).stay ((Below.refl Z5.heap.size Z5).drew))
            have HW5d:=hid ((HW9.out.stay HB5.out).stay ((Below.refl Z5.heap.size Z5).drew))
            have HBwd:=hid ((below_ch HBw.out HB5.out).drew)
            have HB9d:=hid ((below_ch HB9.out HB5.out).drew)
            have HL9d:=hid (own_below (own_below HL9.out HB5.out) ((Below.refl Z5.heap.size Z5).drew))
            have CLoc:=locals_any S5d (by omega) HK9.out.sz
            rw [hLl] at CLoc
            have CLH:=hid CLoc
            clear CLoc
            obtain ⟨wl,⟨m0,m1,m2,m3,m4,m5⟩,mf0,mf1,mf2,mf3,mf4,mf5⟩:=HW5d.out.facts
            go_region_law (go_simp;go_at_call 16;(with_reducible refine CLH.out.mono ?_);rintro e6 Z6 ⟨hb6,pl,cl,rfl,_⟩;have S6:=hid (S5d.out.stay hb6);have HW6:=hid (HW5d.out.stay hb6);have HBw6:=hid (below_ch HBwd.out hb6);have HB96:=hid (below_ch HB9d.out hb6);have HL6:=hid (own_below HL9d.out hb6);obtain ⟨wl6,⟨_,_,_,_,_,m56⟩,_⟩:=HW6.out.facts;clear hb6)
            all_goals go_wp2
            all_goals
             refine ⟨⟨i + 1,n2,dm,nl2,kl2,zl2,F1,L,([] : List Nat),_,_,_,ls,by go_num,by omega,by omega,by omega,by omega,HK9.out,HI9.out,HBw6.out,HB96.out,S6.out,HW6.out,HL6.out⟩,?_⟩
             simp [intOf]
             omega
          · obtain ⟨b0,la,rfl⟩ : ∃ b0 la,bl = b0 ++ [la]:=⟨bl.dropLast,bl.getLast (fun e => hd0 (by (have:=HIN.out.eb;rw [e] at this;exact this.symm))),(List.dropLast_concat_getLast _).symm⟩
            obtain ⟨hdd,hla,hkp,hiv⟩:=inv_leave HIN.out HOK.out
            have HD0:=hid hd0
            have HKP:=hid hkp
            have HIV:=hid hiv
            have S2' : Hid (Scp W1.heap.size Y s n2 F1 (L.take la ++ L.drop la) (b0 ++ [(L.take la).length]) m lv bv):=hid (by (rw [List.take_append_drop,List.length_take,Nat.min_eq_left hla];exact S2.out))
            have HOK' : Hid (LocOk F1 (L.take la ++ L.drop la)):=hid (by (rw [List.take_append_drop];exact HOK.out))
            have HOKd:=hid HOK'.out.dels
            have hb0l : b0.length + 1 ≤ i:=by (have:=hbl;rw [List.length_append] at this;exact this)
            have hLt : (L.take la ++ L.drop la).length ≤ 1000000:=by (rw [List.take_append_drop];omega)
            have hlT : (L.take la).length ≤ i:=by (rw [List.length_take];omega)
            clear hkp hiv S2 HOK
            go_upto_region 25 with (go_at_call 11;(with_reducible refine (leave_any S2' HOK'.out (by omega) hLt).mono ?_);rintro e5 y1 ⟨rfl,lv1,bv1,hS3,hb3,hx3⟩;have HS3:=hid hS3;have HC3:=hid hb3;have HZ3 : Hid (ZSb y1 wb (.slice z0 i0 d0) (.slice z1 i1 d1) (.slice z2 i2 d2) (.slice z3 i3 d3) d (.slice zl nl kl)):=hid (keep9 S2'.out hx3 HZ2.out far_S);have HL3:=hid (own_keep9 S2'.out hx3 HL2.out far_L);have HX3:=hid (keep9 S2'.out hx3 HX1.out far_Step);clear hS3 hb3 hx3)
            clear x0 x1 x2' x3' xl
            obtain ⟨wl,⟨m0,m1,m2,m3,m4,m5⟩,mf0,mf1,mf2,mf3,mf4,mf5⟩:=HZ3.out.facts
            obtain ⟨dm,edm⟩ : ∃ x,d - 1 = x:=⟨_,rfl⟩
            have CL0:=rleave_any (W:=y1) (z0:=z0) (z1:=z1) (z2:=z2) (z3:=z3) (n0:=i0) (n1:=i1) (n2:=i2) (n3:=i3) (k0:=d0) (k1:=d1) (k2:=d2) (k3:=d3) (d:=d) (by omega) HL3 (by (have:=HIN.out.eL;have e:=congrArg List.length this;rw [List.length_map] at e;omega))
            unfold LvR at CL0
            rw [edm] at CL0
            have CL:=hid CL0
            have HBW3:=hid (below_tr HBWY.out (HC3.out.mono hBw))
            have HBR3:=hid (below_tr HBRY.out HC3.out)
            have e9 : dm = b0.length:=by omega
            have HI9 : Hid (InvN (F1.dels (L.drop la)) (L.take la) b0 p (ls.take la) dm):=hid (by (rw [e9];exact HIV.out))
            have HK9:=HOKd
            clear S2' HZ2 HX1 HBWY HBRY HIN HOK' HL2 HC3 CL0 edm e9 hd0 HIV hdd
            go_upto_region 32 with (go_at_call 12;(with_reducible refine CL.out.mono ?_);rintro e6 y2 ⟨hb6,zl2,nl2,kl2,rfl,hl6⟩;have HC6:=hid hb6;have HL6:=hid hl6;have HZ6:=hid (HZ3.out.stay hb6);obtain ⟨wl,⟨m0,m1,m2,m3,m4,m5⟩,mf0,mf1,mf2,mf3,mf4,mf5⟩:=HZ6.out.facts;clear hb6 hl6)
            refine name_world ?_
            intro Z hZ
            have hZ2 : Z = ((((((y2.setCell ⟨wb,0,none⟩ (.slice z0 i0 d0)).setCell ⟨wb,1,none⟩ (.slice z1 i1 d1)).setCell ⟨wb,2,none⟩ (.slice z2 i2 d2)).setCell ⟨wb,3,none⟩ (.slice z3 i3 d3)).setCell ⟨wb,4,none⟩ (.int .i64 ((dm : Nat) : Int))).setCell ⟨wb,5,none⟩ (.slice zl2 nl2 kl2)):=hZ
            have HF : Hid (Fr2 wb y2.heap.size y2 Z):=hid (by (rw [hZ2];exact ((((((Fr2.refl _ _ _).set (.inl rfl) _ _).set (.inl rfl) _ _).set (.inl rfl) _ _).set (.inl rfl) _ _).set (.inl rfl) _ _).set (.inl rfl) _ _))
            have HBw : Hid (Below w.heap.size w Z):=hid (by (rw [hZ2];exact ((((((below_ch HBW3.out HC6.out).setCell hwB _).setCell hwB _).setCell hwB _).setCell hwB _).setCell hwB _).setCell hwB _))
            have HB9 : Hid (Below W1.heap.size W1 Z):=hid (by (rw [hZ2];exact ((((((below_ch HBR3.out HC6.out).setCell hwb _).setCell hwb _).setCell hwb _).setCell hwb _).setCell hwb _).setCell hwb _))
            have S9:=hid ((HS3.out.stay HC6.out).set9 HZ6.out far_S HF.out)
            have HW9 : Hid (ZSb Z wb (.slice z0 i0 d0) (.slice z1 i1 d1) (.slice z2 i2 d2) (.slice z3 i3 d3) ((dm : Nat) : Int) (.slice zl2 nl2 kl2)):=hid (by (rw [hZ2];exact HZ6.out.all))
            rw [if_neg HD0.out,HKP.out] at HL6
            have hno:=own_ne HL6.out HZ6.out (by decide)
            have HL9 : Hid (Z.ownsRow 0 53 4 (.slice zl2 nl2 kl2) ((ls.take la)).length (((ls.take la)).flatMap lcCells)):=hid (by (rw [hZ2];exact own_setN (own_setN (own_setN (own_setN (own_setN (own_setN HL6.out hno _ _) hno _ _) hno _ _) hno _ _) hno _ _) hno _ _))
            have HX9 : Hid (Z.heap[xb]? = some (.cells #[.int .i64 1,.string nm,.bool tr,.bool sc] 44 (0,0))):=hid ((HF.out.2 xb (by (have:=(Array.getElem?_eq_some_iff.1 HX3.out).1;have:=HC6.out.size;omega)) (ty_ne HX3.out HZ3.out (by decide)) (by (have:=(Array.getElem?_eq_some_iff.1 HX3.out).1;have:=HC6.out.size;omega))).trans ((HC6.out.block xb (Array.getElem?_eq_some_iff.1 HX3.out).1).trans HX3.out))
            clear hZ hZ2 HF wl m0 m1 m2 m3 m4 m5 mf0 mf1 mf2 mf3 mf4 mf5 HS3 HZ3 HZ6 HL6 HX3 HC6 HBW3 HBR3 CL hno
            have HPR:=hid (RW.out.stay HB9.out)
            have hlen : (ls.take la).length = nl2:=own_len HL9.out
            have hLl : (L.take la).length = nl2:=by (rw [HI9.out.eL,List.length_map];exact hlen)
            obtain ⟨wl,⟨m0,m1,m2,m3,m4,m5⟩,mf0,mf1,mf2,mf3,mf4,mf5⟩:=HW9.out.facts
            have xl:=(Array.getElem?_eq_some_iff.1 HX9.out).1
            have x0 : Z.cell? ⟨xb,0,none⟩ = some (.int .i64 1):=cell_of_row _ _ _ _ _ _ HX9.out
            have x1 : Z.cell? ⟨xb,1,none⟩ = some (.string nm):=cell_of_row _ _ _ _ _ _ HX9.out
            have x2 : Z.cell? ⟨xb,2,none⟩ = some (.bool tr):=cell_of_row _ _ _ _ _ _ HX9.out
            have x3 : Z.cell? ⟨xb,3,none⟩ = some (.bool sc):=cell_of_row _ _ _ _ _ _ HX9.out
            go_upto_region 33 with (go_at_call 15;(with_reducible refine (same_name S9 HPR dm HL9 (by omega) hp nm hnm (agree_of HI9.out hU nm.data.toList)).mono ?_);rintro e5 Z5 ⟨hb5,rfl⟩;have HB5:=hid hb5;clear hb5)
            clear wl m0 m1 m2 m3 m4 m5 mf0 mf1 mf2 mf3 mf4 mf5 xl x0 x1 x2 x3
            have S5d:=hid ((S9.out.stay HB5.out).stay ((Below.refl Z5.heap.size Z5).drew))
            have HW5d:=hid ((HW9.out.stay HB5.out).stay ((Below.refl Z5.heap.size Z5).drew))
            have HBwd:=hid ((below_ch HBw.out HB5.out).drew)
            have HB9d:=hid ((below_ch HB9.out HB5.out).drew)
            have HL9d:=hid (own_below (own_below HL9.out HB5.out) ((Below.refl Z5.heap.size Z5).drew))
            have CLoc:=locals_any S5d (by omega) HK9.out.sz
            rw [hLl] at CLoc
            have CLH:=hid CLoc
            clear CLoc
            obtain ⟨wl,⟨m0,m1,m2,m3,m4,m5⟩,mf0,mf1,mf2,mf3,mf4,mf5⟩:=HW5d.out.facts
            go_region_law (go_simp;go_at_call 16;(with_reducible refine CLH.out.mono ?_);rintro e6 Z6 ⟨hb6,pl,cl,rfl,_⟩;have S6:=hid (S5d.out.stay hb6);have HW6:=hid (HW5d.out.stay hb6);have HBw6:=hid (below_ch HBwd.out hb6);have HB96:=hid (below_ch HB9d.out hb6);have HL6:=hid (own_below HL9d.out hb6);obtain ⟨wl6,⟨_,_,_,_,_,m56⟩,_⟩:=HW6.out.facts;clear hb6)
            all_goals go_wp2
            all_goals
             refine ⟨⟨i + 1,n2,dm,nl2,kl2,zl2,(F1.dels (L.drop la)),(L.take la),b0,_,_,_,(ls.take la),by go_num,by omega,by omega,by omega,by omega,HK9.out,HI9.out,HBw6.out,HB96.out,S6.out,HW6.out,HL6.out⟩,?_⟩
             simp [intOf]
             omega
        · have hk1b : (k == 1) = false:=by simpa using hk1
          by_cases hk2 : k = 2
          · subst hk2
            by_cases hC : d = 0 ∨ nm.data.toList = [] ∨ rKd p ls nm.data.toList ≠ 0
            · have HCC:=hid hC
              clear hC
              go_upto_region 28 with (go_at_call 13;(with_reducible refine (let_bad S2 HIN.out hU nm hnm tr sc HCC.out).mono ?_);rintro e5 y1 ⟨rfl,hb3⟩;have HS3:=hid (S2.out.stay hb3);have HZ3:=hid (HZ2.out.stay hb3);have HL3:=hid (own_below HL2.out hb3);have HX3 : Hid (y1.heap[xb]? = some (.cells #[.int .i64 2,.string nm,.bool tr,.bool sc] 44 (0,0))):=hid ((hb3.block xb (Array.getElem?_eq_some_iff.1 HX1.out).1).trans HX1.out);have HBW3:=hid (below_ch HBWY.out hb3);have HBR3:=hid (below_ch HBRY.out hb3);clear hb3)
              have hpl : ls.length ≤ 900000:=by (have:=HIN.out.eL;have e:=congrArg List.length this;rw [List.length_map] at e;omega)
              have CL0:=rlet_any (W:=y1) (hid (RW.out.stay HBR3.out)) d HL3 hpl hp nm tr sc
              have CL : Hid (Calls Try.prog 14 #[.agg #[.slice z0 i0 d0,.slice z1 i1 d1,.slice z2 i2 d2,.slice z3 i3 d3,.int .i64 d,.slice zl nl kl],.string nm,.agg #[.bool tr,.bool sc]] y1 fun e w' => Below y1.heap.size y1 w' ∧ ∃ zl2 nl2 kl2,e = .returned (.tuple #[.agg #[.slice z0 i0 d0,.slice z1 i1 d1,.slice z2 i2 d2,.slice z3 i3 d3,.int .i64 d,.slice zl2 nl2 kl2],.int .i64 12]) ∧ w'.ownsRow 0 53 4 (.slice zl2 nl2 kl2) (ls).length ((ls).flatMap lcCells)):=hid (CL0.mono fun e w' ⟨h1,zq,nq,kq,r,lsq,h2,h3,h4⟩ => by
               rcases h4 with ⟨rfl,rfl,q4⟩ | ⟨rfl,q1,q2,q3,rfl⟩
               · exact ⟨h1,zq,nq,kq,h2,h3⟩
               · exfalso
                 rcases HCC.out with h | h | h
                 · exact q1 h
                 · exact q2 h
                 · exact h q3)
              clear CL0 x0 x1 x2' x3' xl
              obtain ⟨wl,⟨m0,m1,m2,m3,m4,m5⟩,mf0,mf1,mf2,mf3,mf4,mf5⟩:=HZ3.out.facts
              have xl:=(Array.getElem?_eq_some_iff.1 HX3.out).1
              have x1 : y1.cell? ⟨xb,1,none⟩ = some (.string nm):=cell_of_row _ _ _ _ _ _ HX3.out
              have x2' : y1.cell? ⟨xb,2,none⟩ = some (.bool tr):=cell_of_row _ _ _ _ _ _ HX3.out
              have x3' : y1.cell? ⟨xb,3,none⟩ = some (.bool sc):=cell_of_row _ _ _ _ _ _ HX3.out
              go_upto_region 29 with (go_at_call 14;(with_reducible refine CL.out.mono ?_);rintro e6 q2 ⟨hb6,zl2,nl2,kl2,rfl,hl6⟩;have HC5:=hid hb6;have HL5:=hid hl6;clear hb6 hl6)
              refine name_world ?_
              intro y2 hy2
              have HC6 : Hid (Below y1.heap.size y1 y2):=hid (by (rw [hy2];exact below_ch HC5.out (below_of_alloc _ _)))
              have HN6 : Hid (ZSb y2 q2.heap.size (.slice z0 i0 d0) (.slice z1 i1 d1) (.slice z2 i2 d2) (.slice z3 i3 d3) d (.slice zl2 nl2 kl2)):=hid (by (rw [hy2];exact ZSb.new rfl))
              have HL6 : Hid (y2.ownsRow 0 53 4 (.slice zl2 nl2 kl2) (ls).length ((ls).flatMap lcCells)):=hid (by (rw [hy2];exact own_below HL5.out (below_of_alloc _ _)))
              have HZ6:=hid (HZ3.out.stay HC6.out)
              have hnw : q2.heap.size ≠ wb:=by (have:=HC5.out.size;omega)
              obtain ⟨nb,enb⟩ : ∃ n,q2.heap.size = n:=⟨_,rfl⟩
              rw [enb] at HN6 hnw
              try simp only [enb]
              have hnw2 : wb ≠ nb:=fun e => hnw e.symm
              clear hy2 enb HC5 HL5 CL wl m0 m1 m2 m3 m4 m5 mf0 mf1 mf2 mf3 mf4 mf5 xl x1 x2' x3'
              obtain ⟨wl,⟨m0,m1,m2,m3,m4,m5⟩,mf0,mf1,mf2,mf3,mf4,mf5⟩:=HZ6.out.facts
              obtain ⟨nbl,⟨r0,r1,r2,r3,r4,r5⟩,_⟩:=HN6.out.facts
              go_upto_region 32 with (fail)
              refine name_world ?_
              intro Z hZ
              have HI9:=HIN
              have HK9:=HOK
              clear S2 HZ2 HX1 HBWY HBRY HL2
              have hZ2 : Z = ((((((y2.setCell ⟨wb,0,none⟩ (.slice z0 i0 d0)).setCell ⟨wb,1,none⟩ (.slice z1 i1 d1)).setCell ⟨wb,2,none⟩ (.slice z2 i2 d2)).setCell ⟨wb,3,none⟩ (.slice z3 i3 d3)).setCell ⟨wb,4,none⟩ (.int .i64 ((d : Nat) : Int))).setCell ⟨wb,5,none⟩ (.slice zl2 nl2 kl2)):=hZ
              have HF : Hid (Fr2 wb y2.heap.size y2 Z):=hid (by (rw [hZ2];exact ((((((Fr2.refl _ _ _).set (.inl rfl) _ _).set (.inl rfl) _ _).set (.inl rfl) _ _).set (.inl rfl) _ _).set (.inl rfl) _ _).set (.inl rfl) _ _))
              have HBw : Hid (Below w.heap.size w Z):=hid (by (rw [hZ2];exact ((((((below_ch HBW3.out HC6.out).setCell hwB _).setCell hwB _).setCell hwB _).setCell hwB _).setCell hwB _).setCell hwB _))
              have HB9 : Hid (Below W1.heap.size W1 Z):=hid (by (rw [hZ2];exact ((((((below_ch HBR3.out HC6.out).setCell hwb _).setCell hwb _).setCell hwb _).setCell hwb _).setCell hwb _).setCell hwb _))
              have S9:=hid ((HS3.out.stay HC6.out).set9 HZ6.out far_S HF.out)
              have HW9 : Hid (ZSb Z wb (.slice z0 i0 d0) (.slice z1 i1 d1) (.slice z2 i2 d2) (.slice z3 i3 d3) ((d : Nat) : Int) (.slice zl2 nl2 kl2)):=hid (by (rw [hZ2];exact HZ6.out.all))
              have hno:=own_ne HL6.out HZ6.out (by decide)
              have HL9 : Hid (Z.ownsRow 0 53 4 (.slice zl2 nl2 kl2) (ls).length ((ls).flatMap lcCells)):=hid (by (rw [hZ2];exact own_setN (own_setN (own_setN (own_setN (own_setN (own_setN HL6.out hno _ _) hno _ _) hno _ _) hno _ _) hno _ _) hno _ _))
              have HX9 : Hid (Z.heap[xb]? = some (.cells #[.int .i64 2,.string nm,.bool tr,.bool sc] 44 (0,0))):=hid ((HF.out.2 xb (by (have:=(Array.getElem?_eq_some_iff.1 HX3.out).1;have:=HC6.out.size;omega)) (ty_ne HX3.out HZ3.out (by decide)) (by (have:=(Array.getElem?_eq_some_iff.1 HX3.out).1;have:=HC6.out.size;omega))).trans ((HC6.out.block xb (Array.getElem?_eq_some_iff.1 HX3.out).1).trans HX3.out))
              clear hZ hZ2 HF wl m0 m1 m2 m3 m4 m5 mf0 mf1 mf2 mf3 mf4 mf5 HS3 HZ3 HZ6 HL6 HX3 HC6 HBW3 HBR3 hno HN6 hnw hnw2 nbl r0 r1 r2 r3 r4 r5 hpl
              have HPR:=hid (RW.out.stay HB9.out)
              have hlen : ls.length = nl2:=own_len HL9.out
              have hLl : L.length = nl2:=by (rw [HI9.out.eL,List.length_map];exact hlen)
              obtain ⟨wl,⟨m0,m1,m2,m3,m4,m5⟩,mf0,mf1,mf2,mf3,mf4,mf5⟩:=HW9.out.facts
              have xl:=(Array.getElem?_eq_some_iff.1 HX9.out).1
              have x0 : Z.cell? ⟨xb,0,none⟩ = some (.int .i64 2):=cell_of_row _ _ _ _ _ _ HX9.out
              have x1 : Z.cell? ⟨xb,1,none⟩ = some (.string nm):=cell_of_row _ _ _ _ _ _ HX9.out
              have x2 : Z.cell? ⟨xb,2,none⟩ = some (.bool tr):=cell_of_row _ _ _ _ _ _ HX9.out
              have x3 : Z.cell? ⟨xb,3,none⟩ = some (.bool sc):=cell_of_row _ _ _ _ _ _ HX9.out
              go_upto_region 33 with (go_at_call 15;(with_reducible refine (same_name S9 HPR d HL9 (by omega) hp nm hnm (agree_of HI9.out hU nm.data.toList)).mono ?_);rintro e5 Z5 ⟨hb5,rfl⟩;have HB5:=hid hb5;clear hb5)
              clear wl m0 m1 m2 m3 m4 m5 mf0 mf1 mf2 mf3 mf4 mf5 xl x0 x1 x2 x3
              have S5d:=hid ((S9.out.stay HB5.out).stay ((Below.refl Z5.heap.size Z5).drew))
              have HW5d:=hid ((HW9.out.stay HB5.out).stay ((Below.refl Z5.heap.size Z5).drew))
              have HBwd:=hid ((below_ch HBw.out HB5.out).drew)
              have HB9d:=hid ((below_ch HB9.out HB5.out).drew)
              have HL9d:=hid (own_below (own_below HL9.out HB5.out) ((Below.refl Z5.heap.size Z5).drew))
              have CLoc:=locals_any S5d (by omega) HK9.out.sz
              rw [hLl] at CLoc
              have CLH:=hid CLoc
              clear CLoc
              obtain ⟨wl,⟨m0,m1,m2,m3,m4,m5⟩,mf0,mf1,mf2,mf3,mf4,mf5⟩:=HW5d.out.facts
              go_region_law (go_simp;go_at_call 16;(with_reducible refine CLH.out.mono ?_);rintro e6 Z6 ⟨hb6,pl,cl,rfl,_⟩;have S6:=hid (S5d.out.stay hb6);have HW6:=hid (HW5d.out.stay hb6);have HBw6:=hid (below_ch HBwd.out hb6);have HB96:=hid (below_ch HB9d.out hb6);have HL6:=hid (own_below HL9d.out hb6);obtain ⟨wl6,⟨_,_,_,_,_,m56⟩,_⟩:=HW6.out.facts;clear hb6)
              all_goals go_wp2
              all_goals
               refine ⟨⟨i + 1,n2,d,nl2,kl2,zl2,F1,L,bl,_,_,_,ls,by go_num,by omega,by omega,by omega,by omega,HK9.out,HI9.out,HBw6.out,HB96.out,S6.out,HW6.out,HL6.out⟩,?_⟩
               simp [intOf]
               omega
            · have h1 : d ≠ 0:=fun h => hC (.inl h)
              have h2 : nm.data.toList ≠ []:=fun h => hC (.inr (.inl h))
              have h3 : rKd p ls nm.data.toList = 0:=Decidable.not_not.1 fun h => hC (.inr (.inr h))
              have G1:=hid h1
              have G2:=hid h2
              have G3:=hid h3
              clear hC h1 h2 h3
              go_upto_region 28 with (go_at_call 13;(with_reducible refine (let_good S2 HIN.out hU nm hnm tr sc (by omega) (by omega) G1.out G2.out G3.out).mono ?_);rintro e5 y1 ⟨rfl,hF,m1',lv1,hS3,hb3,hx3⟩;have HF0:=hid hF;have HS3:=hid hS3;have HZ3 : Hid (ZSb y1 wb (.slice z0 i0 d0) (.slice z1 i1 d1) (.slice z2 i2 d2) (.slice z3 i3 d3) d (.slice zl nl kl)):=hid (keep9 S2.out hx3 HZ2.out far_S);have HL3:=hid (own_keep9 S2.out hx3 HL2.out far_L);have HX3:=hid (keep9 S2.out hx3 HX1.out far_Step);have HBW3:=hid (below_tr HBWY.out (hb3.mono hBw));have HBR3:=hid (below_tr HBRY.out hb3);clear hF hS3 hb3 hx3)
              have hpl : ls.length ≤ 900000:=by (have:=HIN.out.eL;have e:=congrArg List.length this;rw [List.length_map] at e;omega)
              have CL0:=rlet_any (W:=y1) (hid (RW.out.stay HBR3.out)) d HL3 hpl hp nm tr sc
              have CL : Hid (Calls Try.prog 14 #[.agg #[.slice z0 i0 d0,.slice z1 i1 d1,.slice z2 i2 d2,.slice z3 i3 d3,.int .i64 d,.slice zl nl kl],.string nm,.agg #[.bool tr,.bool sc]] y1 fun e w' => Below y1.heap.size y1 w' ∧ ∃ zl2 nl2 kl2,e = .returned (.tuple #[.agg #[.slice z0 i0 d0,.slice z1 i1 d1,.slice z2 i2 d2,.slice z3 i3 d3,.int .i64 d,.slice zl2 nl2 kl2],.int .i64 0]) ∧ w'.ownsRow 0 53 4 (.slice zl2 nl2 kl2) (ls ++ [(⟨nm,tr,sc,d⟩ : Lc)]).length ((ls ++ [(⟨nm,tr,sc,d⟩ : Lc)]).flatMap lcCells)):=hid (CL0.mono fun e w' ⟨h1,zq,nq,kq,r,lsq,h2,h3,h4⟩ => by
               rcases h4 with ⟨rfl,rfl,q4⟩ | ⟨rfl,q1,q2,q3,rfl⟩
               · exfalso
                 rcases q4 with h | h | h
                 · exact G1.out h
                 · exact G2.out h
                 · exact h G3.out
               · exact ⟨h1,zq,nq,kq,h2,h3⟩)
              clear CL0 x0 x1 x2' x3' xl
              obtain ⟨wl,⟨m0,m1,m2,m3,m4,m5⟩,mf0,mf1,mf2,mf3,mf4,mf5⟩:=HZ3.out.facts
              have xl:=(Array.getElem?_eq_some_iff.1 HX3.out).1
              have x1 : y1.cell? ⟨xb,1,none⟩ = some (.string nm):=cell_of_row _ _ _ _ _ _ HX3.out
              have x2' : y1.cell? ⟨xb,2,none⟩ = some (.bool tr):=cell_of_row _ _ _ _ _ _ HX3.out
              have x3' : y1.cell? ⟨xb,3,none⟩ = some (.bool sc):=cell_of_row _ _ _ _ _ _ HX3.out
              go_upto_region 29 with (go_at_call 14;(with_reducible refine CL.out.mono ?_);rintro e6 q2 ⟨hb6,zl2,nl2,kl2,rfl,hl6⟩;have HC5:=hid hb6;have HL5:=hid hl6;clear hb6 hl6)
              refine name_world ?_
              intro y2 hy2
              have HC6 : Hid (Below y1.heap.size y1 y2):=hid (by (rw [hy2];exact below_ch HC5.out (below_of_alloc _ _)))
              have HN6 : Hid (ZSb y2 q2.heap.size (.slice z0 i0 d0) (.slice z1 i1 d1) (.slice z2 i2 d2) (.slice z3 i3 d3) d (.slice zl2 nl2 kl2)):=hid (by (rw [hy2];exact ZSb.new rfl))
              have HL6 : Hid (y2.ownsRow 0 53 4 (.slice zl2 nl2 kl2) (ls ++ [(⟨nm,tr,sc,d⟩ : Lc)]).length ((ls ++ [(⟨nm,tr,sc,d⟩ : Lc)]).flatMap lcCells)):=hid (by (rw [hy2];exact own_below HL5.out (below_of_alloc _ _)))
              have HZ6:=hid (HZ3.out.stay HC6.out)
              have hnw : q2.heap.size ≠ wb:=by (have:=HC5.out.size;omega)
              obtain ⟨nb,enb⟩ : ∃ n,q2.heap.size = n:=⟨_,rfl⟩
              rw [enb] at HN6 hnw
              try simp only [enb]
              have hnw2 : wb ≠ nb:=fun e => hnw e.symm
              clear hy2 enb HC5 HL5 CL wl m0 m1 m2 m3 m4 m5 mf0 mf1 mf2 mf3 mf4 mf5 xl x1 x2' x3'
              obtain ⟨wl,⟨m0,m1,m2,m3,m4,m5⟩,mf0,mf1,mf2,mf3,mf4,mf5⟩:=HZ6.out.facts
              obtain ⟨nbl,⟨r0,r1,r2,r3,r4,r5⟩,_⟩:=HN6.out.facts
              go_upto_region 32 with (fail)
              refine name_world ?_
              intro Z hZ
              have HI9:=hid (inv_let HIN.out nm tr sc G1.out HF0.out)
              have HK9:=hid (HOK.out.snoc hnm HF0.out tr sc)
              have hL9 : (L ++ [nm]).length ≤ i + 1:=by (rw [List.length_append,List.length_singleton];omega)
              clear S2 HZ2 HX1 HBWY HBRY HL2 HIN HOK
              have hZ2 : Z = ((((((y2.setCell ⟨wb,0,none⟩ (.slice z0 i0 d0)).setCell ⟨wb,1,none⟩ (.slice z1 i1 d1)).setCell ⟨wb,2,none⟩ (.slice z2 i2 d2)).setCell ⟨wb,3,none⟩ (.slice z3 i3 d3)).setCell ⟨wb,4,none⟩ (.int .i64 ((d : Nat) : Int))).setCell ⟨wb,5,none⟩ (.slice zl2 nl2 kl2)):=hZ
              have HF : Hid (Fr2 wb y2.heap.size y2 Z):=hid (by (rw [hZ2];exact ((((((Fr2.refl _ _ _).set (.inl rfl) _ _).set (.inl rfl) _ _).set (.inl rfl) _ _).set (.inl rfl) _ _).set (.inl rfl) _ _).set (.inl rfl) _ _))
              have HBw : Hid (Below w.heap.size w Z):=hid (by (rw [hZ2];exact ((((((below_ch HBW3.out HC6.out).setCell hwB _).setCell hwB _).setCell hwB _).setCell hwB _).setCell hwB _).setCell hwB _))
              have HB9 : Hid (Below W1.heap.size W1 Z):=hid (by (rw [hZ2];exact ((((((below_ch HBR3.out HC6.out).setCell hwb _).setCell hwb _).setCell hwb _).setCell hwb _).setCell hwb _).setCell hwb _))
              have S9:=hid ((HS3.out.stay HC6.out).set9 HZ6.out far_S HF.out)
              have HW9 : Hid (ZSb Z wb (.slice z0 i0 d0) (.slice z1 i1 d1) (.slice z2 i2 d2) (.slice z3 i3 d3) ((d : Nat) : Int) (.slice zl2 nl2 kl2)):=hid (by (rw [hZ2];exact HZ6.out.all))
              have hno:=own_ne HL6.out HZ6.out (by decide)
              have HL9 : Hid (Z.ownsRow 0 53 4 (.slice zl2 nl2 kl2) ((ls ++ [(⟨nm,tr,sc,d⟩ : Lc)])).length (((ls ++ [(⟨nm,tr,sc,d⟩ : Lc)])).flatMap lcCells)):=hid (by (rw [hZ2];exact own_setN (own_setN (own_setN (own_setN (own_setN (own_setN HL6.out hno _ _) hno _ _) hno _ _) hno _ _) hno _ _) hno _ _))
              have HX9 : Hid (Z.heap[xb]? = some (.cells #[.int .i64 2,.string nm,.bool tr,.bool sc] 44 (0,0))):=hid ((HF.out.2 xb (by (have:=(Array.getElem?_eq_some_iff.1 HX3.out).1;have:=HC6.out.size;omega)) (ty_ne HX3.out HZ3.out (by decide)) (by (have:=(Array.getElem?_eq_some_iff.1 HX3.out).1;have:=HC6.out.size;omega))).trans ((HC6.out.block xb (Array.getElem?_eq_some_iff.1 HX3.out).1).trans HX3.out))
              clear hZ hZ2 HF wl m0 m1 m2 m3 m4 m5 mf0 mf1 mf2 mf3 mf4 mf5 HS3 HZ3 HZ6 HL6 HX3 HC6 HBW3 HBR3 hno HN6 hnw hnw2 nbl r0 r1 r2 r3 r4 r5 hpl
              have HPR:=hid (RW.out.stay HB9.out)
              have hlen : (ls ++ [(⟨nm,tr,sc,d⟩ : Lc)]).length = nl2:=own_len HL9.out
              have hLl : (L ++ [nm]).length = nl2:=by (rw [HI9.out.eL,List.length_map];exact hlen)
              obtain ⟨wl,⟨m0,m1,m2,m3,m4,m5⟩,mf0,mf1,mf2,mf3,mf4,mf5⟩:=HW9.out.facts
              have xl:=(Array.getElem?_eq_some_iff.1 HX9.out).1
              have x0 : Z.cell? ⟨xb,0,none⟩ = some (.int .i64 2):=cell_of_row _ _ _ _ _ _ HX9.out
              have x1 : Z.cell? ⟨xb,1,none⟩ = some (.string nm):=cell_of_row _ _ _ _ _ _ HX9.out
              have x2 : Z.cell? ⟨xb,2,none⟩ = some (.bool tr):=cell_of_row _ _ _ _ _ _ HX9.out
              have x3 : Z.cell? ⟨xb,3,none⟩ = some (.bool sc):=cell_of_row _ _ _ _ _ _ HX9.out
              go_upto_region 33 with (go_at_call 15;(with_reducible refine (same_name S9 HPR d HL9 (by omega) hp nm hnm (agree_of HI9.out hU nm.data.toList)).mono ?_);rintro e5 Z5 ⟨hb5,rfl⟩;have HB5:=hid hb5;clear hb5)
              clear wl m0 m1 m2 m3 m4 m5 mf0 mf1 mf2 mf3 mf4 mf5 xl x0 x1 x2 x3
              have S5d:=hid ((S9.out.stay HB5.out).stay ((Below.refl Z5.heap.size Z5).drew))
              have HW5d:=hid ((HW9.out.stay HB5.out).stay ((Below.refl Z5.heap.size Z5).drew))
              have HBwd:=hid ((below_ch HBw.out HB5.out).drew)
              have HB9d:=hid ((below_ch HB9.out HB5.out).drew)
              have HL9d:=hid (own_below (own_below HL9.out HB5.out) ((Below.refl Z5.heap.size Z5).drew))
              have CLoc:=locals_any S5d (by omega) HK9.out.sz
              rw [hLl] at CLoc
              have CLH:=hid CLoc
              clear CLoc
              obtain ⟨wl,⟨m0,m1,m2,m3,m4,m5⟩,mf0,mf1,mf2,mf3,mf4,mf5⟩:=HW5d.out.facts
              go_region_law (go_simp;go_at_call 16;(with_reducible refine CLH.out.mono ?_);rintro e6 Z6 ⟨hb6,pl,cl,rfl,_⟩;have S6:=hid (S5d.out.stay hb6);have HW6:=hid (HW5d.out.stay hb6);have HBw6:=hid (below_ch HBwd.out hb6);have HB96:=hid (below_ch HB9d.out hb6);have HL6:=hid (own_below HL9d.out hb6);obtain ⟨wl6,⟨_,_,_,_,_,m56⟩,_⟩:=HW6.out.facts;clear hb6)
              all_goals go_wp2
              all_goals
               refine ⟨⟨i + 1,(n2 + 1),d,nl2,kl2,zl2,(F1.upd nm.data.toList (.lo tr sc)),(L ++ [nm]),bl,_,_,_,(ls ++ [(⟨nm,tr,sc,d⟩ : Lc)]),by go_num,by omega,by omega,by omega,by omega,HK9.out,HI9.out,HBw6.out,HB96.out,S6.out,HW6.out,HL6.out⟩,?_⟩
               simp [intOf]
               omega
          · have hk2b : (k == 2) = false:=by simpa using hk2
            go_upto_region 32 with (fail)
            clear x0 x1 x2' x3' xl
            have HBw:=HBWY
            have HB9:=HBRY
            have S9:=S2
            have HW9:=HZ2
            have HL9:=HL2
            have HX9:=HX1
            have HI9:=HIN
            have HK9:=HOK
            have HPR:=hid (RW.out.stay HB9.out)
            have hlen : ls.length = nl:=own_len HL9.out
            have hLl : L.length = nl:=by (rw [HI9.out.eL,List.length_map];exact hlen)
            obtain ⟨wl,⟨m0,m1,m2,m3,m4,m5⟩,mf0,mf1,mf2,mf3,mf4,mf5⟩:=HW9.out.facts
            have xl:=(Array.getElem?_eq_some_iff.1 HX9.out).1
            have x0 : Y.cell? ⟨xb,0,none⟩ = some (.int .i64 k):=cell_of_row _ _ _ _ _ _ HX9.out
            have x1 : Y.cell? ⟨xb,1,none⟩ = some (.string nm):=cell_of_row _ _ _ _ _ _ HX9.out
            have x2 : Y.cell? ⟨xb,2,none⟩ = some (.bool tr):=cell_of_row _ _ _ _ _ _ HX9.out
            have x3 : Y.cell? ⟨xb,3,none⟩ = some (.bool sc):=cell_of_row _ _ _ _ _ _ HX9.out
            go_upto_region 33 with (go_at_call 15;(with_reducible refine (same_name S9 HPR d HL9 (by omega) hp nm hnm (agree_of HI9.out hU nm.data.toList)).mono ?_);rintro e5 Z5 ⟨hb5,rfl⟩;have HB5:=hid hb5;clear hb5)
            clear wl m0 m1 m2 m3 m4 m5 mf0 mf1 mf2 mf3 mf4 mf5 xl x0 x1 x2 x3
            have S5d:=hid ((S9.out.stay HB5.out).stay ((Below.refl Z5.heap.size Z5).drew))
            have HW5d:=hid ((HW9.out.stay HB5.out).stay ((Below.refl Z5.heap.size Z5).drew))
            have HBwd:=hid ((below_ch HBw.out HB5.out).drew)
            have HB9d:=hid ((below_ch HB9.out HB5.out).drew)
            have HL9d:=hid (own_below (own_below HL9.out HB5.out) ((Below.refl Z5.heap.size Z5).drew))
            have CLoc:=locals_any S5d (by omega) HK9.out.sz
            rw [hLl] at CLoc
            have CLH:=hid CLoc
            clear CLoc
            obtain ⟨wl,⟨m0,m1,m2,m3,m4,m5⟩,mf0,mf1,mf2,mf3,mf4,mf5⟩:=HW5d.out.facts
            go_region_law (go_simp;go_at_call 16;(with_reducible refine CLH.out.mono ?_);rintro e6 Z6 ⟨hb6,pl,cl,rfl,_⟩;have S6:=hid (S5d.out.stay hb6);have HW6:=hid (HW5d.out.stay hb6);have HBw6:=hid (below_ch HBwd.out hb6);have HB96:=hid (below_ch HB9d.out hb6);have HL6:=hid (own_below HL9d.out hb6);obtain ⟨wl6,⟨_,_,_,_,_,m56⟩,_⟩:=HW6.out.facts;clear hb6)
            all_goals go_wp2
            all_goals
             refine ⟨⟨i + 1,n2,d,nl,kl,zl,F1,L,bl,_,_,_,ls,by go_num,by omega,by omega,by omega,by omega,HK9.out,HI9.out,HBw6.out,HB96.out,S6.out,HW6.out,HL6.out⟩,?_⟩
             simp [intOf]
             omega
    · have hie : n1 = i:=by omega
      have hlt : ¬ (i : Int) < (n1 : Int):=by omega
      have hlen : ls.length = nl:=own_len HLR.out
      have hLl : L.length = nl:=by (rw [HIN.out.eL,List.length_map];exact hlen)
      have HEL:=hid HIN.out.eL
      have HLN:=hid hlen
      have CLoc:=locals_any S1 (by omega) HOK.out.sz
      rw [hLl] at CLoc
      have CLH:=hid CLoc
      clear CLoc hlen hbw
      go_upto_region 36 with (go_at_call 16;(with_reducible refine CLH.out.mono ?_);rintro e5 y3 ⟨hb3,pw,cw,rfl,hw⟩;have HW:=hid hw;have HB3:=hid hb3;have HZ3:=hid (HZS.out.stay hb3);have HL3:=hid (own_below HLR.out hb3);have HC3:=hid (below_ch HBW.out hb3);clear hb3 hw)
      go_upto_region 37 with (fail)
      go_loopw [22] (fun iv wr => ∃ (u : Nat),iv = .int .i64 u ∧ u ≤ nl ∧ Below y3.heap.size y3 wr) (fun iv _ => nl - (intOf iv).toNat)
      case atStart => exact ⟨0,rfl,Nat.zero_le _,Below.refl _ _⟩
      case round =>
       obtain ⟨u,rfl,hu,hbx⟩:=hrel
       have HBX:=hid hbx
       by_cases hul : u < nl
       · obtain ⟨x,hx⟩ : ∃ x,ls[u]? = some x:=⟨_,List.getElem?_eq_getElem (by (rw [HLN.out];exact hul))⟩
         have hLx : L[u]? = some x.nm:=by (rw [HEL.out,List.getElem?_map,hx];rfl)
         have hLne : L ≠ []:=fun e => by (rw [e] at hLx;cases hLx)
         obtain ⟨gn,rfl,⟨_,hgn⟩,hcn⟩:=HW.out hLne
         have hrw:=own_below HL3.out hbx
         rw [HLN.out] at hrw
         obtain ⟨gx,cx,ez,hgx,_⟩:=row_some hrw (show 0 < nl by omega)
         cases ez
         have e0 : wr.cell? ⟨gn,u,none⟩ = some (.string x.nm):=(hbx.cell (p:=⟨gn,u,none⟩) hgn).trans (hcn u x.nm hLx)
         have e1:=plain_cell (K:=4) (f:=lcCells) (fun _ => rfl) hrw hx (j:=0) (u:=.string x.nm) rfl
         simp only [Nat.add_zero] at e1
         obtain ⟨wl,⟨m0,m1,m2,m3,m4,m5⟩,_⟩:=(HZ3.out.stay hbx).facts
         have hgn' : gn < wr.heap.size:=Nat.lt_of_lt_of_le hgn hbx.size
         have hlt : (u : Int) < (nl : Int):=by omega
         have hu0 : (0 : Int) ≤ (u : Int):=Int.natCast_nonneg _
         clear hcn hrw hx hLx hLne hbx m0 m1 m2 m3 m4
         go_upto_region 39 with (fail)
         refine wp_region_quiet_lit (by kernel_rfl) (by kernel_rfl) ?_
         repeat (any_goals (first | go_big_quiet_step (fail) | quiet_step (fail)))
         refine wpQuiet_nil ?_
         intro _ hw'
         obtain ⟨nq,hw''⟩:=hw'
         subst hw''
         go_wp2
         refine ⟨⟨u + 1,by go_num,by omega,below_drewN HBX.out _⟩,?_⟩
         simp [intOf]
         omega
       · have hlt : ¬ (u : Int) < (nl : Int):=by omega
         go_wp2
         go_ret
         exact ⟨rfl,below_ch HC3.out hbx⟩
 · have HRA:=hid hra
   have HR0:=hid hr0
   have HTW:=hid htw
   obtain ⟨ta,eta⟩ : ∃ a,(twiceF (thingsL p)).1 = a:=⟨_,rfl⟩
   have CB : Hid (∀ X,Below W1.heap.size W1 X → Calls Try.prog 8 #[.agg #[.slice z0 i0 d0,.slice z1 i1 d1,.slice z2 i2 d2,.slice z3 i3 d3]] X fun e w' => Below X.heap.size X w' ∧ e = .returned (.tuple #[.pointer none,.int .i64 12,.int .i64 ta])):=hid fun X hX => by
    have h:=new_bad (hid (RW.out.stay hX)) HSH.out HTW.out
    rw [eta] at h
    exact h
   have CN : Hid (∀ X,Below W1.heap.size W1 X → Calls Try.prog 9 #[.agg #[.slice z0 i0 d0,.slice z1 i1 d1,.slice z2 i2 d2,.slice z3 i3 d3]] X fun e w' => Below X.heap.size X w' ∧ e = .returned (.tuple #[.agg #[.slice none 0 0,.slice none 0 0,.slice none 0 0,.slice none 0 0,.int .i64 0,.slice none 0 0],.int .i64 12,.int .i64 ta])):=hid fun X hX => by
    have h:=rnew_any (hid (RW.out.stay hX)) hp
    have e : refA (thingsL p) = ta:=HRA.out.trans eta
    have e0 : 0 ≤ ta:=by (rw [← e];exact HR0.out)
    rw [e,rnV,if_neg (by omega)] at h
    exact h
   clear hra hr0 htw eta
   go_upto_region 10 with (go_at_call 8;(with_reducible refine (CB.out _ (Below.refl _ _)).mono ?_);rintro e3 x3 ⟨hb3,rfl⟩;have HQ3:=hid hb3;clear hb3)
   clear m0 m1 m2 m3
   have HM3 : x3.heap[pb]? = some (.cells #[.slice z0 i0 d0,.slice z1 i1 d1,.slice z2 i2 d2,.slice z3 i3 d3] 29 (0,0)):=(HQ3.out.block _ hml).trans HM1.out
   have hml3 : pb < x3.heap.size:=(Array.getElem?_eq_some_iff.1 HM3).1
   have m0 : x3.cell? ⟨pb,0,none⟩ = some (.slice z0 i0 d0):=cell_of_row _ _ _ _ _ _ HM3
   have m1 : x3.cell? ⟨pb,1,none⟩ = some (.slice z1 i1 d1):=cell_of_row _ _ _ _ _ _ HM3
   have m2 : x3.cell? ⟨pb,2,none⟩ = some (.slice z2 i2 d2):=cell_of_row _ _ _ _ _ _ HM3
   have m3 : x3.cell? ⟨pb,3,none⟩ = some (.slice z3 i3 d3):=cell_of_row _ _ _ _ _ _ HM3
   clear HM3
   go_upto_region 11 with (go_at_call 9;(with_reducible refine (CN.out _ HQ3.out).mono ?_);rintro e4 x4 ⟨hb4,rfl⟩;have HQ4:=hid hb4;clear hb4)
   refine name_world ?_
   intro W4 hW4
   have HB4 : Hid (Below w.heap.size w W4):=hid (by (rw [hW4];exact below_ch (below_ch HB3.out HQ3.out) (below_ch HQ4.out (below_of_alloc _ _))))
   clear hW4
   go_wp2
   go_ret
   exact ⟨rfl,HB4.out⟩
end Go.Proofs.Ytbmmjomcjlpnlaa
