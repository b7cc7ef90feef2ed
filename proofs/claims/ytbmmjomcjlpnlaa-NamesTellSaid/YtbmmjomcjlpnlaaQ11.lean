/- Joined texts: Rn Facts Sd Gd Lg Ord Gr Pp Aw5 Gx Ge Shp Aw6 Sd2 Sv Sw2 So Aw6W An: lemmas for the law; each says its own conditions. -/
import Derived.Test.YtbmmjomcjlpnlaaQ10
import Derived.Deep.QuietTactic
import Derived.BigQuiet
import Derived.Test.YtbmmjomcjlpnlaaQ06
import Derived.Test.YtbmmjomcjlpnlaaQ09
import Derived.Orders
import Derived.Conc.Own4
import Derived.Lib.RowBridge
import Derived.Test.YtbmmjomcjlpnlaaQ07
set_option linter.unusedSimpArgs false
set_option linter.unusedVariables false
set_option maxRecDepth 100000
set_option maxHeartbeats 8000000
open Go.Lib (hid)
namespace Go.Proofs.Ytbmmjomcjlpnlaa
open Go Go.RowKit
def stepA (x : ByteArray × Int) (at_ : Int) (y : ByteArray × Int) : Int:=if x.1.data.toList = y.1.data.toList ∧ y.2 < x.2 ∧ (at_ < 0 ∨ x.2 < at_) then x.2 else at_
def rowA (l : List (ByteArray × Int)) (at_ : Int) (x : ByteArray × Int) : Int:=l.foldl (stepA x) at_
def refA (l : List (ByteArray × Int)) : Int:=l.foldl (rowA l) (-1)
theorem fold_take {α β : Type} (f : β → α → β) (z : β) {l : List α} {i : Nat} {x : α} (h : l[i]? = some x) : (l.take (i + 1)).foldl f z = f ((l.take i).foldl f z) x:=by
 rw [List.take_add_one,h,List.foldl_append]
 rfl
theorem results_s3 {X : World} {n : Nat} {v0 v1 v2 v3 lv u w : Value} {d : Int} {fn : Func} {p q r : Tmp} (hfn : fn.results = #[.cell p 38,.tmp q,.tmp r]) (tmps : Array Value) (hp : tmps.getD p undef = .pointer (some ⟨n,0,none⟩)) (hq : tmps.getD q undef = u) (hr : tmps.getD r undef = w) (h : ZSb X n v0 v1 v2 v3 d lv) :
 (results fn tmps).run Try.prog X = .ok (.tuple #[.agg #[v0,v1,v2,v3,.int .i64 d,lv],u,w]) X:=by
 have hp' : tmps[p]?.getD undef = .pointer (some ⟨n,0,none⟩):=by simpa using hp
 have hq' : tmps[q]?.getD undef = u:=by simpa using hq
 have hr' : tmps[r]?.getD undef = w:=by simpa using hr
 simp [results,hfn,hp',hq',hr',asAddr,run_loadVar_row X n 38 38 _ (0,0) _ h Try.underlying38 rfl (by kernel_rfl)]
def rnV (a : Int) (v0 v1 v2 v3 : Value) : Value:=if a < 0 then .tuple #[.agg #[v0,v1,v2,v3,.int .i64 0,.slice none 0 0],.int .i64 0,.int .i64 0] else .tuple #[.agg #[.slice none 0 0,.slice none 0 0,.slice none 0 0,.slice none 0 0,.int .i64 0,.slice none 0 0],.int .i64 12,.int .i64 a]
theorem rnew_any {B : Nat} {W : World} {p : Pg} {v0 v1 v2 v3 : Value} {rf : List (Fn × FV)} {rt : List (List Stm × Value)} (R : Hid (PRows B W p v0 v1 v2 v3 rf rt)) (hp : p.gs.length ≤ 1000 ∧ p.ls.length ≤ 1000 ∧ p.fs.length ≤ 1000) :
 Calls Try.prog 9 #[.agg #[v0,v1,v2,v3]] W fun e w' => Below W.heap.size W w' ∧ e = .returned (rnV (refA (thingsL p)) v0 v1 v2 v3):=by
 obtain ⟨z0,n0,k0,rfl⟩ : ∃ z n k,v0 = .slice z n k:=(own_form R.out.g).elim fun z h => h.elim fun k h => ⟨z,_,k,h⟩
 obtain ⟨z1,n1,k1,rfl⟩ : ∃ z n k,v1 = .slice z n k:=(own_form R.out.l).elim fun z h => h.elim fun k h => ⟨z,_,k,h⟩
 obtain ⟨z2,n2,k2,rfl⟩ : ∃ z n k,v2 = .slice z n k:=(own_form R.out.f).elim fun z h => h.elim fun k h => ⟨z,_,k,h⟩
 obtain ⟨z3,n3,k3,rfl⟩ : ∃ z n k,v3 = .slice z n k:=(own_form R.out.t).elim fun z h => h.elim fun k h => ⟨z,_,k,h⟩
 have HA : Hid (∀ X,Below W.heap.size W X → Calls Try.prog 30 #[.agg #[.slice z0 n0 k0,.slice z1 n1 k1,.slice z2 n2 k2,.slice z3 n3 k3]] X fun e w' => Below X.heap.size X w' ∧ ∃ v,e = .returned v ∧ w'.ownsRow X.heap.size 104 2 v (thingsL p).length ((thingsL p).flatMap nmCells)):=hid fun X hX => rall_any (hid (R.out.stay hX)) hp.1 hp.2.1 hp.2.2
 have hcnt : (thingsL p).length ≤ 3000:=by (unfold thingsL;simp only [List.length_append,List.length_map];omega)
 obtain ⟨tl,etl⟩ : ∃ l,thingsL p = l:=⟨_,rfl⟩
 rw [etl] at HA hcnt
 rw [etl]
 obtain ⟨n,en⟩ : ∃ n,tl.length = n:=⟨_,rfl⟩
 have HN:=hid en
 rw [en] at HA hcnt
 clear etl en R hp
 obtain ⟨bs,hbs⟩ : ∃ n,W.heap.size = n:=⟨_,rfl⟩
 have HBS:=hid hbs
 go_enter Try.func9,Try.ntmps9
 go_upto_region 1 with (fail)
 refine name_world ?_
 intro W1 hW1
 have HB1 : Hid (Below W.heap.size W W1):=hid (by (rw [hW1];exact (below_of_alloc _ _).alloc (by simp) _))
 have hm1 : W1.heap[bs]? = some (.cells #[.slice z0 n0 k0,.slice z1 n1 k1,.slice z2 n2 k2,.slice z3 n3 k3] 29 (0,0)):=by (rw [hW1,← hbs];exact (Below.heap_alloc _ _ _ (by simp)).trans (heap_alloc_new _ _))
 have HZ1 : Hid (ZSb W1 (bs + 1) (.slice none 0 0) (.slice none 0 0) (.slice none 0 0) (.slice none 0 0) 0 (.slice none 0 0)):=hid (by (rw [hW1];exact ZSb.new (by simp [hbs])))
 have hml : bs < W1.heap.size:=(Array.getElem?_eq_some_iff.1 hm1).1
 have m0 : W1.cell? ⟨bs,0,none⟩ = some (.slice z0 n0 k0):=cell_of_row _ _ _ _ _ _ hm1
 have m1 : W1.cell? ⟨bs,1,none⟩ = some (.slice z1 n1 k1):=cell_of_row _ _ _ _ _ _ hm1
 have m2 : W1.cell? ⟨bs,2,none⟩ = some (.slice z2 n2 k2):=cell_of_row _ _ _ _ _ _ hm1
 have m3 : W1.cell? ⟨bs,3,none⟩ = some (.slice z3 n3 k3):=cell_of_row _ _ _ _ _ _ hm1
 have HM1:=hid hm1
 try simp only [hbs]
 clear hW1 hm1 hbs
 go_upto_region 4 with (go_at_call 30;(with_reducible refine (HA.out _ HB1.out).mono ?_);rintro e1 w2 ⟨hb2,tv,rfl,hown⟩;have HB2:=hid hb2;have HOW:=hid hown;clear hb2 hown)
 obtain ⟨zt,kt,rfl⟩:=own_form HOW.out
 clear m0 m1 m2 m3
 go_loopw [6,7] (fun av iv wr => ∃ (i : Nat),av = .int .i64 ((tl.take i).foldl (rowA tl) (-1)) ∧ iv = .int .i64 i ∧ i ≤ n ∧ Below w2.heap.size w2 wr) (fun _ iv _ => n - (intOf iv).toNat)
 case atStart => exact ⟨0,rfl,rfl,Nat.zero_le _,Below.refl _ _⟩
 case round =>
  obtain ⟨i,rfl,rfl,hi,hbr⟩:=hrel
  have HBR:=hid hbr
  obtain ⟨a0,ea0⟩ : ∃ a,(tl.take i).foldl (rowA tl) (-1) = a:=⟨_,rfl⟩
  have HA0:=hid ea0
  rw [ea0]
  clear ea0
  by_cases hin : i < n
  · obtain ⟨x,hx⟩ : ∃ x,tl[i]? = some x:=⟨_,List.getElem?_eq_getElem (by (have:=HN.out;omega))⟩
    obtain ⟨gx,cx,ez,hgx,_⟩:=row_some HOW.out (show 0 < n by omega)
    cases ez
    have hlt : (i : Int) < (n : Int):=by omega
    have hi0 : (0 : Int) ≤ (i : Int):=Int.natCast_nonneg _
    have HX:=hid hx
    clear hx hbr
    go_upto_region 7 with (fail)
    go_loopw [6,8] (fun av kv wx => ∃ (k : Nat),av = .int .i64 ((tl.take k).foldl (stepA x) a0) ∧ kv = .int .i64 k ∧ k ≤ n ∧ Below w2.heap.size w2 wx) (fun _ kv _ => n - (intOf kv).toNat)
    case atStart => exact ⟨0,rfl,rfl,Nat.zero_le _,HBR.out⟩
    case round =>
     obtain ⟨k,rfl,rfl,hk,hbx⟩:=hrel
     have HBX:=hid hbx
     obtain ⟨a1,ea1⟩ : ∃ a,(tl.take k).foldl (stepA x) a0 = a:=⟨_,rfl⟩
     have HA1:=hid ea1
     rw [ea1]
     clear ea1
     by_cases hkn : k < n
     · obtain ⟨y,hy⟩ : ∃ y,tl[k]? = some y:=⟨_,List.getElem?_eq_getElem (by (have:=HN.out;omega))⟩
       have hrw:=own_below HOW.out hbx
       have d0:=plain_cell (K:=2) (f:=nmCells) (fun _ => rfl) hrw HX.out (j:=0) (u:=.string x.1) rfl
       have d1:=plain_cell (K:=2) (f:=nmCells) (fun _ => rfl) hrw HX.out (j:=1) (u:=.int .i64 x.2) rfl
       have f0:=plain_cell (K:=2) (f:=nmCells) (fun _ => rfl) hrw hy (j:=0) (u:=.string y.1) rfl
       have f1:=plain_cell (K:=2) (f:=nmCells) (fun _ => rfl) hrw hy (j:=1) (u:=.int .i64 y.2) rfl
       simp only [Nat.add_zero] at d0 f0
       have hgw : gx < wr.heap.size:=Nat.lt_of_lt_of_le hgx hbx.size
       have hkt : (k : Int) < (n : Int):=by omega
       have hk0 : (0 : Int) ≤ (k : Int):=Int.natCast_nonneg _
       have HY:=hid hy
       have HST : Hid ((tl.take (k + 1)).foldl (stepA x) a0 = stepA x a1 y):=hid (by (rw [fold_take _ _ hy,HA1.out]))
       clear hrw hy hbx
       by_cases h1 : x.1.data.toList = y.1.data.toList
       · by_cases h2 : y.2 < x.2
         · by_cases h3 : a1 < 0 ∨ x.2 < a1
           · have HSX : Hid (stepA x a1 y = x.2):=hid (if_pos ⟨h1,h2,h3⟩)
             have q1 : (x.1.toList == y.1.toList) = true:=bs_same h1
             have q2 : y.2 < x.2:=h2
             by_cases q3 : a1 < 0
             · clear h1 h2 h3
               go_upto_region 9 with (fail)
               refine wp_region_quiet_lit (by kernel_rfl) (by kernel_rfl) ?_
               repeat (any_goals (first | go_big_quiet_step (fail) | quiet_step (fail)))
               refine wpQuiet_nil ?_
               intro _ hw'
               obtain ⟨nq,hw''⟩:=hw'
               subst hw''
               have e1 : (wr.drewN nq).cell? ⟨gx,i * 2 + 1,none⟩ = some (.int .i64 x.2):=d1
               go_wp2
               refine ⟨⟨k + 1,by rw [HST.out,HSX.out],by go_num,by omega,below_drewN HBX.out _⟩,?_⟩
               simp [intOf]
               omega
             · have q4 : x.2 < a1:=h3.resolve_left q3
               clear h1 h2 h3
               go_upto_region 9 with (fail)
               refine wp_region_quiet_lit (by kernel_rfl) (by kernel_rfl) ?_
               repeat (any_goals (first | go_big_quiet_step (fail) | quiet_step (fail)))
               refine wpQuiet_nil ?_
               intro _ hw'
               obtain ⟨nq,hw''⟩:=hw'
               subst hw''
               have e1 : (wr.drewN nq).cell? ⟨gx,i * 2 + 1,none⟩ = some (.int .i64 x.2):=d1
               go_wp2
               refine ⟨⟨k + 1,by rw [HST.out,HSX.out],by go_num,by omega,below_drewN HBX.out _⟩,?_⟩
               simp [intOf]
               omega
           · have HSX : Hid (stepA x a1 y = a1):=hid (if_neg (fun h => h3 h.2.2))
             have q1 : (x.1.toList == y.1.toList) = true:=bs_same h1
             have q2 : y.2 < x.2:=h2
             have q3 : ¬ a1 < 0:=fun h => h3 (.inl h)
             have q4 : ¬ x.2 < a1:=fun h => h3 (.inr h)
             clear h1 h2 h3
             go_upto_region 9 with (fail)
             refine wp_region_quiet_lit (by kernel_rfl) (by kernel_rfl) ?_
             repeat (any_goals (first | go_big_quiet_step (fail) | quiet_step (fail)))
             refine wpQuiet_nil ?_
             intro _ hw'
             obtain ⟨nq,hw''⟩:=hw'
             subst hw''
             go_wp2
             refine ⟨⟨k + 1,by rw [HST.out,HSX.out],by go_num,by omega,below_drewN HBX.out _⟩,?_⟩
             simp [intOf]
             omega
         · have HSX : Hid (stepA x a1 y = a1):=hid (if_neg (fun h => h2 h.2.1))
           have q1 : (x.1.toList == y.1.toList) = true:=bs_same h1
           have q2 : ¬ y.2 < x.2:=h2
           clear h1 h2
           go_upto_region 9 with (fail)
           refine wp_region_quiet_lit (by kernel_rfl) (by kernel_rfl) ?_
           repeat (any_goals (first | go_big_quiet_step (fail) | quiet_step (fail)))
           refine wpQuiet_nil ?_
           intro _ hw'
           obtain ⟨nq,hw''⟩:=hw'
           subst hw''
           go_wp2
           refine ⟨⟨k + 1,by rw [HST.out,HSX.out],by go_num,by omega,below_drewN HBX.out _⟩,?_⟩
           simp [intOf]
           omega
       · have HSX : Hid (stepA x a1 y = a1):=hid (if_neg (fun h => h1 h.1))
         have q1 : (x.1.toList == y.1.toList) = false:=bs_ne h1
         clear h1
         go_upto_region 9 with (fail)
         refine wp_region_quiet_lit (by kernel_rfl) (by kernel_rfl) ?_
         repeat (any_goals (first | go_big_quiet_step (fail) | quiet_step (fail)))
         refine wpQuiet_nil ?_
         intro _ hw'
         obtain ⟨nq,hw''⟩:=hw'
         subst hw''
         go_wp2
         refine ⟨⟨k + 1,by rw [HST.out,HSX.out],by go_num,by omega,below_drewN HBX.out _⟩,?_⟩
         simp [intOf]
         omega
     · have hkt : ¬ (k : Int) < (n : Int):=by omega
       obtain rfl : n = k:=by omega
       have et : (tl.take n).foldl (stepA x) a0 = rowA tl a0 x:=by (unfold rowA;rw [← HN.out,List.take_length])
       rw [et] at HA1
       clear et
       go_wp2
       refine ⟨⟨i + 1,?_,by go_num,by omega,HBX.out⟩,?_⟩
       · rw [fold_take _ _ HX.out,HA0.out,HA1.out]
       · simp [intOf]
         omega
  · have hlt : ¬ (i : Int) < (n : Int):=by omega
    obtain rfl : n = i:=by omega
    have et : (tl.take n).foldl (rowA tl) (-1) = refA tl:=by (unfold refA;rw [← HN.out,List.take_length])
    rw [et] at HA0
    have hbw:=below_ch HB2.out HBR.out
    have hm : wr.heap[bs]? = some (.cells #[.slice z0 n0 k0,.slice z1 n1 k1,.slice z2 n2 k2,.slice z3 n3 k3] 29 (0,0)):=(hbw.block _ hml).trans HM1.out
    have hml2 : bs < wr.heap.size:=(Array.getElem?_eq_some_iff.1 hm).1
    have m0 : wr.cell? ⟨bs,0,none⟩ = some (.slice z0 n0 k0):=cell_of_row _ _ _ _ _ _ hm
    have m1 : wr.cell? ⟨bs,1,none⟩ = some (.slice z1 n1 k1):=cell_of_row _ _ _ _ _ _ hm
    have m2 : wr.cell? ⟨bs,2,none⟩ = some (.slice z2 n2 k2):=cell_of_row _ _ _ _ _ _ hm
    have m3 : wr.cell? ⟨bs,3,none⟩ = some (.slice z3 n3 k3):=cell_of_row _ _ _ _ _ _ hm
    have HZ:=hid (HZ1.out.stay hbw)
    obtain ⟨sl,⟨y0,y1,y2,y3,y4,y5⟩,yf0,yf1,yf2,yf3,yf4,yf5⟩:=HZ.out.facts
    have HBW:=hid (below_ch HB1.out hbw)
    have hge : W.heap.size ≤ bs + 1:=by (rw [HBS.out];exact Nat.le_succ _)
    clear et hbr hbw hm
    by_cases hneg : a0 < 0
    · have hnn : ¬ 0 ≤ a0:=by omega
      go_wp2
      refine bodyPost_ret (results_s3 rfl _ rfl rfl rfl HZ.out.all) rfl ⟨?_,by (rw [HA0.out,rnV,if_pos (by omega)];rfl)⟩
      have hB:=HBW.out
      exact ((((((hB.setCell hge _).setCell hge _).setCell hge _).setCell hge _).setCell hge _).setCell hge _)
    · have hnn : 0 ≤ a0:=by omega
      go_wp2
      refine bodyPost_ret (results_s3 rfl _ rfl rfl rfl HZ.out.all) rfl ⟨?_,by (rw [HA0.out,rnV,if_neg (by omega)];rfl)⟩
      have hB:=HBW.out
      exact ((((((hB.setCell hge _).setCell hge _).setCell hge _).setCell hge _).setCell hge _).setCell hge _)
end Go.Proofs.Ytbmmjomcjlpnlaa
namespace Go.Proofs.Ytbmmjomcjlpnlaa
open Go
section
variable {num : List UInt8 → Option Int}
theorem mem_tw {p : UInt8 → Bool} : ∀ (l : List UInt8) (c : UInt8),c ∈ l.takeWhile p → p c = true
 | [],c,h => by simp at h
 | x :: r,c,h => by
  rw [List.takeWhile_cons] at h
  split at h
  · rcases List.mem_cons.1 h with rfl | h
    · assumption
    · exact mem_tw r c h
  · simp at h
theorem all_take {p : UInt8 → Bool} : ∀ l : List UInt8,∀ c ∈ l.take (l.takeWhile p).length,p c = true:=by
 intro l
 rw [take_takeWhile]
 intro c hc
 exact mem_tw l c hc
theorem Sc.wd_ok (hnum : ∀ t v,num t = some v → 0 ≤ v ∧ v ≤ 9223372036854775807 ∧ t = Lib.itoa v) {l : List UInt8} {a : Nat} {ws : List Wd} {r : Option (Int × Nat)} (h : Sc num l a ws r) : ∀ w ∈ ws,WdOk w:=by
 induction h with
 | done a => intro w hw;simp at hw;subst hw;exact ⟨fun h => absurd (show (3 : Int) = 0 from h) (by decide),fun h => absurd (show (3 : Int) = 1 from h) (by decide),fun h => absurd rfl h⟩
 | bad => intro w hw;simp at hw
 | gap _ _ _ _ _ _ _ _ ih => exact ih
 | word l a n k v ws r hl ht hs ih =>
  intro w hw
  rcases List.mem_cons.1 hw with rfl | hw
  · have hn:=tok_word hl ht
    refine ⟨fun hk hy => ?_,fun hk => ?_,fun _ => by show 1 ≤ (l.take n).length;rw [List.length_take];omega⟩
    · obtain rfl : k = 0:=hk
      obtain ⟨c,q,rfl⟩:=List.exists_cons_of_ne_nil hl
      simp only [tok] at ht
      split at ht
      · cases ht
      split at ht
      · cases ht
      split at ht
      · rename_i hc
        split at ht
        · cases ht
        · rename_i hs24
          injection ht with e1 e2 e3
          subst e2
          have hall:=all_take (p:=isPart) (c :: q)
          obtain ⟨m,hm⟩ : ∃ m,spanL (c :: q) = m + 1:=⟨spanL (c :: q) - 1,by have:=hn.1;omega⟩
          refine ⟨c,q.take m,by rw [hm];rfl,hc,fun d hd => hall d ?_,by rw [List.length_take];omega,hy⟩
          show d ∈ (c :: q).take (spanL (c :: q))
          rw [hm,List.take_succ_cons]
          exact List.mem_cons_of_mem _ hd
      · split at ht
        · split at ht
          · injection ht with e1;cases e1
          · cases ht
        · split at ht
          · cases ht
          · injection ht with e1;cases e1
    · obtain rfl : k = 1:=hk
      obtain ⟨c,q,rfl⟩:=List.exists_cons_of_ne_nil hl
      simp only [tok] at ht
      split at ht
      · cases ht
      split at ht
      · cases ht
      split at ht
      · split at ht
        · cases ht
        · injection ht with e1;cases e1
      · split at ht
        · split at ht
          · rename_i v' hv
            injection ht with e1 e2 e3
            subst e3
            rw [e2] at hv
            exact hnum _ _ hv
          · cases ht
        · split at ht
          · cases ht
          · injection ht with e1;cases e1
  · exact ih w hw
theorem Sc.lens_le {l : List UInt8} {a : Nat} {ws : List Wd} {r : Option (Int × Nat)} (h : Sc num l a ws r) : lens ws ≤ l.length:=by
 induction h with
 | done a => simp [lens]
 | bad => simp [lens]
 | gap l a n ws r _ _ _ ih =>
  rw [List.length_drop] at ih
  omega
 | word l a n k v ws r hl ht _ ih =>
  have:=tok_word hl ht
  simp only [lens,List.length_take]
  rw [List.length_drop] at ih
  omega
theorem Sc.place {l : List UInt8} {a : Nat} {ws : List Wd} {r : Option (Int × Nat)} (h : Sc num l a ws r) : ∀ w ∈ ws,w.a ≤ a + l.length ∧ (w.k ≠ 3 → w.a < a + l.length):=by
 induction h with
 | done a => intro w hw;simp at hw;subst hw;exact ⟨Nat.le_refl _,fun h => absurd rfl h⟩
 | bad => intro w hw;simp at hw
 | gap l a n ws r hl ht _ ih =>
  intro w hw
  have h1:=tok_gap hl ht
  have:=ih w hw
  rw [List.length_drop] at this
  exact ⟨by omega,fun h => by have:=this.2 h;omega⟩
 | word l a n k v ws r hl ht _ ih =>
  intro w hw
  have h1:=tok_word hl ht
  rcases List.mem_cons.1 hw with rfl | hw
  · exact ⟨by show a ≤ _;omega,fun _ => by show a < _;omega⟩
  · have:=ih w hw
    rw [List.length_drop] at this
    exact ⟨by omega,fun h => by have:=this.2 h;omega⟩
theorem Sc.ends {l : List UInt8} {a : Nat} {ws : List Wd} {r : Option (Int × Nat)} (h : Sc num l a ws r) (hr : r = none) : ∃ ws0 e,ws = ws0 ++ [e] ∧ e.k = 3 ∧ ∀ w ∈ ws0,w.k ≠ 3:=by
 induction h with
 | done a => exact ⟨[],_,rfl,rfl,by simp⟩
 | bad => cases hr
 | gap _ _ _ _ _ _ _ _ ih => exact ih hr
 | word l a n k v ws r hl ht _ ih =>
  obtain ⟨w0,e,h1,h2,h3⟩:=ih hr
  exact ⟨_ :: w0,e,by rw [h1];rfl,h2,fun w hw => by
   rcases List.mem_cons.1 hw with rfl | hw
   · exact tok_kind ht
   · exact h3 w hw⟩
end
theorem P.ne {o : Nat} {j : Job} {ts : List Wd} {r : Res} (h : P o j ts r) : ts ≠ []:=by
 induction h with
 | lstMore _ _ _ ih _ => exact ih
 | lstEnd _ _ ih => exact ih
 | lstBad _ ih => exact ih
 | expr _ _ ih _ => exact ih
 | exprBad _ ih => exact ih
 | _ => simp
theorem P.begins {o : Nat} {j : Job} {ts : List Wd} {r : Res} (h : P o j ts r) : (j = .thing ∨ (∃ q,j = .expr q) ∨ ∃ acc,j = .list acc) → (∀ c a,r ≠ .bad c a) → ∀ w t,ts = w :: t → w.k ≠ 3:=by
 induction h with
 | num h => rintro _ _ w t e;cases e;rw [h];decide
 | tru h _ | fls h _ => rintro _ _ w t e;cases e;rw [h];decide
 | neg h _ _ | not h _ _ | par h _ _ => rintro _ _ w t e;cases e;exact h.ne
 | name h _ _ _ => rintro _ _ w t e;cases e;rw [h];decide
 | stray | behLim | behBad | wthLim | wthNo | wthBad | namElemBad | namCallBad | givLim | givNo | givBad | lstBad | exprBad | loopBad => intro _ h;exact absurd rfl (h _ _)
 | behOk | wthOk | namVar | namElem | namCall | givNone | givSome | loopEnd | loopMore => intro h;rcases h with h | ⟨_,h⟩ | ⟨_,h⟩ <;> cases h
 | lstMore _ _ _ ih _ => intro _ _;exact ih (.inr (.inl ⟨_,rfl⟩)) (by intros;simp)
 | lstEnd _ _ ih => intro _ _;exact ih (.inr (.inl ⟨_,rfl⟩)) (by intros;simp)
 | expr _ _ ih _ => intro _ _;exact ih (.inl rfl) (by intros;simp)
end Go.Proofs.Ytbmmjomcjlpnlaa
namespace Go.Proofs.Ytbmmjomcjlpnlaa
open Go Go.RowKit
theorem IsSt1.keptT {lo : Nat} {W X : World} {s : Stm} {v : SV} (h : IsSt1 (fun g => lo ≤ g) W s v) (k : KeptT lo W X) : IsSt1 (fun g => lo ≤ g) X s v:=⟨h.1.keptT k,h.2.1.keptT k,h.2.2.1.keptT k,h.2.2.2.keptT k⟩
open Go
def OkW (ts : List Wd) : Prop:=(∀ w ∈ ts,WdOk w) ∧ lens ts ≤ 16384 ∧ ts.length ≤ 16385
theorem OkW.suf {a b : List Wd} (h : OkW b) (hs : a <:+ b) : OkW a:=⟨fun w hw => h.1 w (hs.subset hw),Nat.le_trans (lens_suf hs) h.2.1,Nat.le_trans hs.length_le h.2.2⟩
def Sb (t s : RS) : Prop:=∀ tt,t = .ok tt → ∃ ss,s = .ok ss ∧ tt <:+ ss
theorem Sb.refl (s : RS) : Sb s s:=fun tt h => ⟨tt,h,List.suffix_refl _⟩
theorem Sb.trans {a b c : RS} (h : Sb a b) (k : Sb b c) : Sb a c:=fun tt e => by
 obtain ⟨ss,e1,e2⟩:=h tt e
 obtain ⟨uu,e3,e4⟩:=k ss e1
 exact ⟨uu,e3,e2.trans e4⟩
theorem Sb.bad (c : Int) (a : Nat) (s : RS) : Sb (.bad c a) s:=fun _ h => by cases h
theorem fail_sb (e : Int) (s : RS) : Sb (s.fail e) s:=by
 cases s with
 | bad c a => exact .refl _
 | ok tt => cases tt with
  | nil => exact .refl _
  | cons w r => exact .bad _ _ _
theorem adv_sb (s : RS) : Sb s.adv s:=by
 cases s with
 | bad c a => exact .refl _
 | ok tt => cases tt with
  | nil => exact .refl _
  | cons w r => exact fun t h => by cases h;exact ⟨_,rfl,List.suffix_cons _ _⟩
theorem need_sb (t : List UInt8) (s : RS) : Sb (s.need t) s:=by
 unfold RS.need
 split
 · exact adv_sb s
 · exact fail_sb _ s
theorem eith_sb (x y : List UInt8) (s : RS) : Sb (eithF x y s).2 s:=by
 unfold eithF
 split
 · exact adv_sb s
 · exact need_sb x s
theorem kind_sb (s : RS) : Sb (kindF s).2 s:=(eith_sb _ _ _).trans (eith_sb _ _ _)
theorem name_sb (s : RS) : Sb (nameF s).2 s ∧ ∀ tt,(nameF s).2 = .ok tt → ∀ ss,s = .ok ss → OkW ss → (nameF s).1.1.length ≤ 24:=by
 cases s with
 | bad c a => exact ⟨.refl _,fun _ h => by cases h⟩
 | ok tt => cases tt with
  | nil => exact ⟨.refl _,fun _ _ _ _ _ => by simp [nameF]⟩
  | cons w r =>
   rw [nameF_cons]
   by_cases h : w.k ≠ 0 ∨ keyB w.t = true
   · rw [if_pos h]
     exact ⟨.bad _ _ _,fun _ h => by cases h⟩
   · rw [if_neg h]
     refine ⟨fun t e => by cases e;exact ⟨_,rfl,List.suffix_cons _ _⟩,fun t _ ss e ho => ?_⟩
     cases e
     have hk : w.k = 0:=by (cases Classical.em (w.k = 0) with | inl e => exact e | inr e => exact absurd (.inl e) h)
     have hy : keyB w.t = false:=by (cases e : keyB w.t with | false => rfl | true => exact absurd (.inr e) h)
     obtain ⟨_,_,_,_,_,h24,_⟩:=(ho.1 w (.head _)).1 hk hy
     exact h24
theorem ex0_good : GoodE ex0:=⟨by decide,.mk (by decide) (by decide) (by simp),by (rw [txt0 (x:=ex0) rfl];show (Lib.itoa ((0 : Nat) : Int)).length ≤ _;rw [Lib.itoa_nonneg];simp [Lib.decDigits]),.num (by decide) (by decide)⟩
theorem name_nm (s : RS) (tt : List Wd) (hh : (nameF s).2 = .ok tt) (ss : List Wd) (hs : s = .ok ss) (ho : OkW ss) : NmOk (nameF s).1.1:=by
 subst hs
 cases ss with
 | nil => exact .inl (by simp [nameF])
 | cons w r =>
  rw [nameF_cons] at hh ⊢
  by_cases h : w.k ≠ 0 ∨ keyB w.t = true
  · rw [if_pos h] at hh
    cases hh
  · rw [if_neg h]
    have hk : w.k = 0:=by (cases Classical.em (w.k = 0) with | inl e => exact e | inr e => exact absurd (.inl e) h)
    have hy : keyB w.t = false:=by (cases e : keyB w.t with | false => rfl | true => exact absurd (.inr e) h)
    exact .inr ((ho.1 w (.head _)).1 hk hy)
theorem ex_sb (s : RS) : Sb (exF s).2 s ∧ ∀ ss,s = .ok ss → OkW ss → GoodE (exF s).1:=by
 cases s with
 | bad c a => exact ⟨.refl _,fun _ h => by cases h⟩
 | ok ts =>
  by_cases hx : ∃ r,P 0 (.expr 1) ts r
  · obtain ⟨r,hr⟩:=hx
    cases r with
    | ok x ts' =>
     rw [exF_ok hr]
     refine ⟨fun t e => by cases e;exact ⟨_,rfl,hr.suf⟩,fun ss e ho => ?_⟩
     cases e
     have hf:=hr.fit ho.1 (by omega) (by omega)
     obtain ⟨w1,w2⟩:=hr.wt ho.1 (by omega)
     have h1 : x.txt.length ≤ x.wt:=by (unfold Ex.wt;omega)
     have:=ho.2.1
     have:=ho.2.2
     show GoodE x
     exact ⟨by omega,hf.1.nums,by omega,hf.1⟩
    | bad c a =>
     rw [exF_bad hr]
     exact ⟨.bad _ _ _,fun _ _ _ => ex0_good⟩
    | okL l ts' =>
     have e:=(Classical.choose_spec (⟨_,hr⟩ : ∃ r,P 0 (.expr 1) ts r)).det _ hr
     have e2 : exF (.ok ts) = (ex0,.ok ts):=by simp only [exF,dif_pos (⟨_,hr⟩ : ∃ r,P 0 (.expr 1) ts r),e]
     rw [e2]
     exact ⟨.refl _,fun _ _ _ => ex0_good⟩
  · have e2 : exF (.ok ts) = (ex0,.ok ts):=by simp only [exF,dif_neg hx]
    rw [e2]
    exact ⟨.refl _,fun _ _ _ => ex0_good⟩
theorem bound_sb (s : RS) : Sb (boundF s).2 s ∧ ∀ ss,s = .ok ss → OkW ss → (∃ tt,(boundF s).2 = .ok tt) → GoodE (boundF s).1:=by
 have k1:=need_sb [40] s
 have k2:=ex_sb (s.need [40])
 have k3:=need_sb [41] (exF (s.need [40])).2
 refine ⟨k3.trans (k2.1.trans k1),fun ss e ho ⟨tt,ht⟩ => ?_⟩
 obtain ⟨u,hu,_⟩:=k3 tt ht
 obtain ⟨v,hv,_⟩:=k2.1 u hu
 obtain ⟨w,hw,hs⟩:=k1 v hv
 rw [e] at hw
 cases hw
 exact k2.2 v hv (ho.suf hs)
theorem Sb.back {t s : RS} (h : Sb t s) {tt ss : List Wd} (ht : t = .ok tt) (hs : s = .ok ss) (ho : OkW ss) : OkW tt ∧ tt <:+ ss:=by
 obtain ⟨u,hu,h2⟩:=h tt ht
 rw [hs] at hu
 cases hu
 exact ⟨ho.suf h2,h2⟩
def RdS (s : RS) (q : Stm × RS) : Prop:=Sb q.2 s ∧ ∀ tt ss,q.2 = .ok tt → s = .ok ss → OkW ss → GoodS q.1 ∧ q.1.cnt + tt.length ≤ ss.length
def RdL (s : RS) (q : List Stm × RS) : Prop:=Sb q.2 s ∧ ∀ tt ss,q.2 = .ok tt → s = .ok ss → OkW ss → (∀ x ∈ q.1,GoodS x) ∧ cntS q.1 + tt.length ≤ ss.length
theorem suf_tl {a : List Wd} {x : Wd} {tt : List Wd} (h : a <:+ tt) : a <:+ x :: tt:=h.trans (List.suffix_cons _ _)
theorem rd_all : ∀ n : Nat,(∀ d x tt,(RS.ok (x :: tt)).fin → 3 * (tt.length + 1) ≤ n → RdS (.ok (x :: tt)) (stmtF n d (.ok (x :: tt)))) ∧ (∀ d s,s.fin → 3 * s.len + 2 ≤ n → RdL s (blockF n d s)) ∧ (∀ d t s,s.fin → 3 * s.len + 1 ≤ n → RdL s (stmtsF n d t s)):=by
 intro n
 induction n with
 | zero =>
  exact ⟨fun d x tt _ h => absurd h (by omega),fun d s _ h => absurd h (by omega),fun d t s _ h => absurd h (by omega)⟩
 | succ n ih =>
  obtain ⟨ih1,ih2,ih3⟩:=ih
  refine ⟨fun d x tt hf hn0 => ?_,fun d s hf hn0 => ?_,fun d t s hf hn0 => ?_⟩
  · have ha : Sb (RS.ok tt) (.ok (x :: tt)):=adv_sb (.ok (x :: tt))
    have hadv : (RS.ok (x :: tt)).adv = .ok tt:=rfl
    unfold stmtF
    rw [hadv]
    by_cases b1 : (RS.ok (x :: tt)).is kVar = true
    · rw [if_pos b1]
      have k1:=kind_sb (.ok tt)
      have k2:=name_sb (kindF (.ok tt)).2
      have k3:=need_sb [61] (nameF (kindF (.ok tt)).2).2
      have k4:=ex_sb ((nameF (kindF (.ok tt)).2).2.need [61])
      have k5:=need_sb [59] (exF ((nameF (kindF (.ok tt)).2).2.need [61])).2
      refine ⟨k5.trans (k4.1.trans (k3.trans (k2.1.trans (k1.trans ha)))),fun t' ss ht hs ho => ?_⟩
      cases hs
      obtain ⟨u5,e5,s5⟩:=k5 t' ht
      obtain ⟨u4,e4,s4⟩:=k4.1 u5 e5
      obtain ⟨u3,e3,s3⟩:=k3 u4 e4
      obtain ⟨u2,e2,s2⟩:=k2.1 u3 e3
      obtain ⟨u1,e1,s1⟩:=k1 u2 e2
      cases e1
      have h4:=ho.suf (suf_tl (s3.trans (s2.trans s1)))
      have hn:=name_nm _ u3 e3 u2 e2 (ho.suf (suf_tl s1))
      refine ⟨.mk (by decide) (by decide) (by simp) (by simpa using k4.2 u4 e4 h4) hn (by simp) (by simp),?_⟩
      have:=(s5.trans (s4.trans (s3.trans (s2.trans s1)))).length_le
      simp only [Stm.cnt,cntS,List.length_cons]
      omega
    · rw [if_neg b1]
      by_cases b2 : (RS.ok (x :: tt)).is kIf = true
      · rw [if_pos b2]
        have hft : (RS.ok tt).fin:=(is_adv b2 hf).1.2
        have l1:=bound_le hft
        have l1' : (boundF (.ok tt)).2.len ≤ tt.length:=l1.1
        have k1:=bound_sb (.ok tt)
        have k2:=ih2 d (boundF (.ok tt)).2 l1.2 (by omega)
        have l2:=(read_le n).2.1 d _ l1.2
        cases b5 : (blockF n d (boundF (.ok tt)).2).2.is kElse with
        | false =>
         simp only [b5,Bool.false_eq_true,if_false]
         refine ⟨k2.1.trans (k1.1.trans ha),fun t' ss ht hs ho => ?_⟩
         cases hs
         obtain ⟨u2,e2,s2⟩:=k2.1 t' ht
         obtain ⟨u1,e1,s1⟩:=k1.1 u2 e2
         cases e1
         have g1:=k1.2 tt rfl (ho.suf (List.suffix_cons _ _)) ⟨u2,e2⟩
         have g2:=k2.2 t' u2 ht e2 (ho.suf (suf_tl s1))
         refine ⟨.mk (by decide) (by decide) (by simp) (by simpa using g1) (.inl rfl) g2.1 (by simp),?_⟩
         have:=s1.length_le
         have:=g2.2
         simp only [Stm.cnt,cntS,List.length_cons]
         omega
        | true =>
         simp only [b5,if_true]
         have k3:=adv_sb (blockF n d (boundF (.ok tt)).2).2
         have l3:=(is_adv b5 l2.2).1
         have k4:=ih2 d (blockF n d (boundF (.ok tt)).2).2.adv l3.2 (by have:=l3.1;have:=l2.1;omega)
         refine ⟨k4.1.trans (k3.trans (k2.1.trans (k1.1.trans ha))),fun t' ss ht hs ho => ?_⟩
         cases hs
         obtain ⟨u4,e4,s4⟩:=k4.1 t' ht
         obtain ⟨u3,e3,s3⟩:=k3 u4 e4
         obtain ⟨u2,e2,s2⟩:=k2.1 u3 e3
         obtain ⟨u1,e1,s1⟩:=k1.1 u2 e2
         cases e1
         have g1:=k1.2 tt rfl (ho.suf (List.suffix_cons _ _)) ⟨u2,e2⟩
         have g2:=k2.2 u3 u2 e3 e2 (ho.suf (suf_tl s1))
         have g4:=k4.2 t' u4 ht e4 (ho.suf (suf_tl (s3.trans (s2.trans s1))))
         refine ⟨.mk (by decide) (by decide) (by simp) (by simpa using g1) (.inl rfl) g2.1 g4.1,?_⟩
         have:=s1.length_le
         have:=s3.length_le
         have:=g2.2
         have:=g4.2
         simp only [Stm.cnt,List.length_cons]
         omega
      · rw [if_neg b2]
        by_cases b3 : (RS.ok (x :: tt)).is kWhile = true
        · rw [if_pos b3]
          have hft : (RS.ok tt).fin:=(is_adv b3 hf).1.2
          have l1:=bound_le hft
          have l1' : (boundF (.ok tt)).2.len ≤ tt.length:=l1.1
          have k1:=bound_sb (.ok tt)
          have k2:=ih2 d (boundF (.ok tt)).2 l1.2 (by omega)
          refine ⟨k2.1.trans (k1.1.trans ha),fun t' ss ht hs ho => ?_⟩
          cases hs
          obtain ⟨u2,e2,s2⟩:=k2.1 t' ht
          obtain ⟨u1,e1,s1⟩:=k1.1 u2 e2
          cases e1
          have g1:=k1.2 tt rfl (ho.suf (List.suffix_cons _ _)) ⟨u2,e2⟩
          have g2:=k2.2 t' u2 ht e2 (ho.suf (suf_tl s1))
          refine ⟨.mk (by decide) (by decide) (by simp) (by simpa using g1) (.inl rfl) g2.1 (by simp),?_⟩
          have:=s1.length_le
          have:=g2.2
          simp only [Stm.cnt,cntS,List.length_cons]
          omega
        · rw [if_neg b3]
          by_cases b4 : (RS.ok (x :: tt)).is kLock = true
          · rw [if_pos b4]
            have hft : (RS.ok tt).fin:=(is_adv b4 hf).1.2
            have l1:=name_le hft
            have l1' : (nameF (.ok tt)).2.len ≤ tt.length:=l1.1
            have k1:=name_sb (.ok tt)
            have k2:=ih2 d (nameF (.ok tt)).2 l1.2 (by omega)
            refine ⟨k2.1.trans (k1.1.trans ha),fun t' ss ht hs ho => ?_⟩
            cases hs
            obtain ⟨u2,e2,s2⟩:=k2.1 t' ht
            obtain ⟨u1,e1,s1⟩:=k1.1 u2 e2
            cases e1
            have hn:=name_nm _ u2 e2 tt rfl (ho.suf (List.suffix_cons _ _))
            have g2:=k2.2 t' u2 ht e2 (ho.suf (suf_tl s1))
            refine ⟨.mk (by decide) (by decide) (by simp) (by simp) hn g2.1 (by simp),?_⟩
            have:=s1.length_le
            have:=g2.2
            simp only [Stm.cnt,cntS,List.length_cons]
            omega
          · rw [if_neg b4]
            by_cases b6 : (RS.ok (x :: tt)).is kOut = true
            · rw [if_pos b6]
              have k1:=ex_sb (.ok tt)
              have k2:=need_sb [59] (exF (.ok tt)).2
              refine ⟨k2.trans (k1.1.trans ha),fun t' ss ht hs ho => ?_⟩
              cases hs
              obtain ⟨u2,e2,s2⟩:=k2 t' ht
              obtain ⟨u1,e1,s1⟩:=k1.1 u2 e2
              cases e1
              have g1:=k1.2 tt rfl (ho.suf (List.suffix_cons _ _))
              refine ⟨.mk (by decide) (by decide) (by simp) (by simpa using g1) (.inl rfl) (by simp) (by simp),?_⟩
              have:=(s2.trans s1).length_le
              simp only [Stm.cnt,cntS,List.length_cons]
              omega
            · rw [if_neg b6]
              have k1:=name_sb (.ok (x :: tt))
              have hlt : ∀ u1,(nameF (.ok (x :: tt))).2 = .ok u1 → u1.length + 1 ≤ (x :: tt).length:=by
               intro u1 e
               rw [nameF_cons] at e
               split at e
               · cases e
               · cases e
                 simp
              cases b7 : (nameF (RS.ok (x :: tt))).2.is [91] with
              | false =>
               simp only [b7,Bool.false_eq_true,if_false]
               have k2:=need_sb [61] (nameF (.ok (x :: tt))).2
               have k3:=ex_sb ((nameF (.ok (x :: tt))).2.need [61])
               have k4:=need_sb [59] (exF ((nameF (.ok (x :: tt))).2.need [61])).2
               refine ⟨k4.trans (k3.1.trans (k2.trans k1.1)),fun t' ss ht hs ho => ?_⟩
               cases hs
               obtain ⟨u4,e4,s4⟩:=k4 t' ht
               obtain ⟨u3,e3,s3⟩:=k3.1 u4 e4
               obtain ⟨u2,e2,s2⟩:=k2 u3 e3
               obtain ⟨u1,e1,s1⟩:=k1.1 u2 e2
               cases e1
               have hn:=name_nm _ u2 e2 _ rfl ho
               have g1:=k3.2 u3 e3 (ho.suf (s2.trans s1))
               refine ⟨.mk (by decide) (by decide) (by simp) (by simpa using g1) hn (by simp) (by simp),?_⟩
               have:=(s4.trans (s3.trans s2)).length_le
               have:=hlt u2 e2
               simp only [Stm.cnt,cntS]
               omega
              | true =>
               simp only [b7,if_true]
               have k2:=adv_sb (nameF (.ok (x :: tt))).2
               have k3:=ex_sb (nameF (.ok (x :: tt))).2.adv
               have k4:=need_sb [93] (exF (nameF (.ok (x :: tt))).2.adv).2
               have k5:=need_sb [61] ((exF (nameF (.ok (x :: tt))).2.adv).2.need [93])
               have k6:=ex_sb (((exF (nameF (.ok (x :: tt))).2.adv).2.need [93]).need [61])
               have k7:=need_sb [59] (exF (((exF (nameF (.ok (x :: tt))).2.adv).2.need [93]).need [61])).2
               refine ⟨k7.trans (k6.1.trans (k5.trans (k4.trans (k3.1.trans (k2.trans k1.1))))),fun t' ss ht hs ho => ?_⟩
               cases hs
               obtain ⟨u7,e7,s7⟩:=k7 t' ht
               obtain ⟨u6,e6,s6⟩:=k6.1 u7 e7
               obtain ⟨u5,e5,s5⟩:=k5 u6 e6
               obtain ⟨u4,e4,s4⟩:=k4 u5 e5
               obtain ⟨u3,e3,s3⟩:=k3.1 u4 e4
               obtain ⟨u2,e2,s2⟩:=k2 u3 e3
               obtain ⟨u1,e1,s1⟩:=k1.1 u2 e2
               cases e1
               have hn:=name_nm _ u2 e2 _ rfl ho
               have g1:=k3.2 u3 e3 (ho.suf (s2.trans s1))
               have g2:=k6.2 u6 e6 (ho.suf (s5.trans (s4.trans (s3.trans (s2.trans s1)))))
               refine ⟨.mk (by decide) (by decide) (by simpa using g1) (by simpa using g2) hn (by simp) (by simp),?_⟩
               have:=(s7.trans (s6.trans (s5.trans (s4.trans (s3.trans s2))))).length_le
               have:=hlt u2 e2
               simp only [Stm.cnt,cntS]
               omega
  · unfold blockF
    have k0 : Sb (if s.is [123] && decide (d = 32) then s.fail 2 else s) s:=by
     split
     · exact fail_sb _ _
     · exact .refl _
    obtain ⟨s1,hs1⟩ : ∃ s1,(if s.is [123] && decide (d = 32) then s.fail 2 else s) = s1:=⟨_,rfl⟩
    have l0 : Le s1 s:=by
     rw [← hs1]
     split
     · exact fail_le hf 2
     · exact ⟨Nat.le_refl _,hf⟩
    rw [hs1] at k0
    simp only [hs1]
    have k1:=need_sb [123] s1
    have l1:=(need_le l0.2 [123]).trans l0
    have k2:=ih3 (d + 1) [125] (s1.need [123]) l1.2 (by have:=l1.1;omega)
    have k3:=need_sb [125] (stmtsF n (d + 1) [125] (s1.need [123])).2
    refine ⟨k3.trans (k2.1.trans (k1.trans k0)),fun t' ss ht hs ho => ?_⟩
    subst hs
    obtain ⟨u3,e3,s3⟩:=k3 t' ht
    obtain ⟨u2,e2,s2⟩:=k2.1 u3 e3
    obtain ⟨u1,e1,q1⟩:=k1 u2 e2
    obtain ⟨u0,e0,q0⟩:=k0 u1 e1
    cases e0
    have g2:=k2.2 u3 u2 e3 e2 (ho.suf (q1.trans q0))
    have:=(q1.trans q0).length_le
    have:=s3.length_le
    refine ⟨g2.1,?_⟩
    have:=g2.2
    show cntS (stmtsF n (d + 1) [125] (s1.need [123])).1 + t'.length ≤ ss.length
    omega
  · unfold stmtsF
    cases b : (s.good && !s.is t) with
    | false =>
     simp only [Bool.false_eq_true,if_false]
     exact ⟨.refl _,fun tt ss h1 h2 _ => by (have h1' : s = .ok tt:=h1;rw [h1'] at h2;cases h2;exact ⟨by simp,by simp [cntS]⟩)⟩
    | true =>
     simp only [if_true]
     cases s with
     | bad c a => simp [RS.good] at b
     | ok l =>
      obtain ⟨x,tt,rfl⟩:=(hf l rfl).ne
      have hl : (RS.ok (x :: tt)).len = tt.length + 1:=rfl
      have l1:=(read_le n).1 d x tt hf (by omega)
      have k1:=ih1 d x tt hf (by omega)
      have k2:=ih3 d t (stmtF n d (.ok (x :: tt))).2 l1.1.2 (by have:=l1.2;omega)
      refine ⟨k2.1.trans k1.1,fun t' ss ht hs ho => ?_⟩
      cases hs
      obtain ⟨u2,e2,s2⟩:=k2.1 t' ht
      have g1:=k1.2 u2 _ e2 rfl ho
      obtain ⟨u1,e1,s1⟩:=k1.1 u2 e2
      cases e1
      have g2:=k2.2 t' u2 ht e2 (ho.suf s1)
      refine ⟨fun y hy => ?_,?_⟩
      · rcases List.mem_cons.1 hy with rfl | hy
        · exact g1.1
        · exact g2.1 y hy
      · have:=g1.2
        have:=g2.2
        simp only [cntS]
        omega
structure GoodP (p : Pg) (n : Nat) : Prop where
 th : ∀ l ∈ p.ths,(∀ s ∈ l,GoodS s) ∧ cntS l ≤ n
 fn : ∀ f ∈ p.fs,(∀ s ∈ f.bd,GoodS s) ∧ cntS f.bd ≤ n ∧ GoodE f.ret ∧ f.nm.length ≤ 100000
theorem if_sb {α : Type} {s : α × RS} {z : α} {r m : RS} {c : Bool} (h1 : Sb s.2 m) (h2 : Sb r m) : Sb (if c then s else (z,r)).2 m:=by
 cases c with
 | true => exact h1
 | false => exact h2
theorem lenF_sb (s : RS) : Sb (lenF s).2 s:=by
 cases s with
 | bad c a => exact .refl _
 | ok tt =>
  cases tt with
  | nil => exact .refl _
  | cons w ts =>
   have e : lenF (.ok (w :: ts)) = if w.k ≠ 1 then (0,.bad 11 w.a) else if w.n < 1 ∨ 64 < w.n then (0,.bad 2 w.a) else (w.n,.ok ts):=rfl
   rw [e]
   by_cases h1 : w.k ≠ 1
   · rw [if_pos h1]
     exact .bad _ _ _
   · rw [if_neg h1]
     by_cases h2 : w.n < 1 ∨ 64 < w.n
     · rw [if_pos h2]
       exact .bad _ _ _
     · rw [if_neg h2]
       exact adv_sb (.ok (w :: ts))
theorem lim_sb (n m : Nat) (s : RS) : Sb (limF n m s) s:=by
 unfold limF
 split
 · exact fail_sb _ _
 · exact .refl _
theorem pars_sb : ∀ (n k : Nat) (s : RS),Sb (parsF n k s).2 s
 | 0,k,s => .refl _
 | n + 1,k,s => by
  unfold parsF
  cases hg : s.good with
  | false => simp;exact .refl _
  | true =>
   simp only [if_true]
   have k2:=(name_sb (kindF (limF k 6 s)).2).1.trans ((kind_sb (limF k 6 s)).trans (lim_sb k 6 s))
   cases b : (nameF (kindF (limF k 6 s)).2).2.is [44] with
   | false => simp;exact k2
   | true =>
    simp only [if_true]
    exact (pars_sb n (k + 1) _).trans ((adv_sb _).trans k2)
theorem params_sb (s : RS) : Sb (paramsF s).2 s:=by
 have e : paramsF s = if (s.need [40]).is [41] then ([],(s.need [40]).adv) else ((parsF 8 0 (s.need [40])).1,(parsF 8 0 (s.need [40])).2.need [41]):=rfl
 rw [e]
 cases b : (s.need [40]).is [41] with
 | true => exact (adv_sb _).trans (need_sb _ _)
 | false => exact (need_sb _ _).trans ((pars_sb 8 0 _).trans (need_sb _ _))
theorem glob_sb (n : Nat) {s m : RS} (hk : Sb (eithF kPublic kSecret (limF n 32 s)).2 m) : Sb (globF n s).2 m:=by
 have k1 : Sb (kindF (limF n 32 s)).2 m:=(eith_sb kInt kBool _).trans hk
 have k2:=(name_sb (kindF (limF n 32 s)).2).1.trans k1
 have k3:=if_sb (c:=(nameF (kindF (limF n 32 s)).2).2.is [91]) (z:=(0 : Int)) (s:=(let q:=lenF (nameF (kindF (limF n 32 s)).2).2.adv;(q.1,q.2.need [93]))) ((need_sb [93] _).trans ((lenF_sb _).trans ((adv_sb _).trans k2))) k2
 obtain ⟨l,hl⟩ : ∃ l,(if (nameF (kindF (limF n 32 s)).2).2.is [91] then (let q:=lenF (nameF (kindF (limF n 32 s)).2).2.adv;(q.1,q.2.need [93])) else ((0 : Int),(nameF (kindF (limF n 32 s)).2).2)) = l:=⟨_,rfl⟩
 rw [hl] at k3
 have k4:=if_sb (c:=l.2.is kBy) (z:=([] : List UInt8)) (s:=(let q:=nameF l.2.adv;(q.1.1,q.2))) ((name_sb l.2.adv).1.trans ((adv_sb _).trans k3)) k3
 have k5:=(need_sb [59] _).trans k4
 have e : (globF n s).2 = RS.need [59] (if l.2.is kBy then (let q:=nameF l.2.adv;(q.1.1,q.2)) else ([],l.2)).2:=by
  rw [← hl]
  rfl
 rw [e]
 exact k5
theorem func_good (n : Nat) {x : Wd} {tt : List Wd} (hft : (RS.ok tt).fin) (hn : 3 * tt.length + 2 ≤ n) (ho : OkW tt) {t' : List Wd} (ht : (funcF n (.ok (x :: tt))).2 = .ok t') : t' <:+ tt ∧ (∀ s ∈ (funcF n (.ok (x :: tt))).1.bd,GoodS s) ∧ cntS (funcF n (.ok (x :: tt))).1.bd ≤ 16385 ∧ GoodE (funcF n (.ok (x :: tt))).1.ret ∧ (funcF n (.ok (x :: tt))).1.nm.length ≤ 100000:=by
 obtain ⟨⟨⟨nm,a⟩,τ1⟩,h1⟩ : ∃ q,nameF (.ok tt) = q:=⟨_,rfl⟩
 obtain ⟨⟨lp,τ2⟩,h2⟩ : ∃ q,paramsF τ1 = q:=⟨_,rfl⟩
 obtain ⟨⟨⟨tr,sc⟩,τ3⟩,h3⟩ : ∃ q,kindF τ2 = q:=⟨_,rfl⟩
 obtain ⟨τ4,h4⟩ : ∃ q,τ3.need [123] = q:=⟨_,rfl⟩
 obtain ⟨⟨lb,τ5⟩,h5⟩ : ∃ q,stmtsF n 1 kReturn τ4 = q:=⟨_,rfl⟩
 obtain ⟨τ6,h6⟩ : ∃ q,τ5.need kReturn = q:=⟨_,rfl⟩
 obtain ⟨⟨ex,τ7⟩,h7⟩ : ∃ q,exF τ6 = q:=⟨_,rfl⟩
 obtain ⟨τ8,h8⟩ : ∃ q,τ7.need [59] = q:=⟨_,rfl⟩
 obtain ⟨τ9,h9⟩ : ∃ q,τ8.need [125] = q:=⟨_,rfl⟩
 have eF : funcF n (.ok (x :: tt)) = (⟨a,nm,lp,tr,sc,lb,ex⟩,τ9):=by simp only [funcF,RS.adv,h1,h2,h3,h4,h5,h6,h7,h8,h9]
 rw [eF] at ht ⊢
 have k1:=name_sb (.ok tt)
 have k2:=params_sb τ1
 have k3:=kind_sb τ2
 have k4:=need_sb [123] τ3
 have l1 : Le τ1 (.ok tt):=by (have:=name_le hft;rwa [h1] at this)
 have l2 : Le τ2 (.ok tt):=by (have:=params_le l1.2;rw [h2] at this;exact this.trans l1)
 have l3 : Le τ3 (.ok tt):=by (have:=kind_le l2.2;rw [h3] at this;exact this.trans l2)
 have l4 : Le τ4 (.ok tt):=by (have:=need_le l3.2 [123];rw [h4] at this;exact this.trans l3)
 have k5:=(rd_all n).2.2 1 kReturn τ4 l4.2 (by (have h44 : τ4.len ≤ tt.length:=l4.1;omega))
 have k6:=need_sb kReturn τ5
 have k7:=ex_sb τ6
 have k8:=need_sb [59] τ7
 have k9:=need_sb [125] τ8
 rw [h1] at k1
 rw [h2] at k2
 rw [h3] at k3
 rw [h4] at k4
 rw [h5] at k5
 rw [h6] at k6
 rw [h7] at k7
 rw [h8] at k8
 rw [h9] at k9
 obtain ⟨u8,e8,s8⟩:=k9 t' ht
 obtain ⟨u7,e7,s7⟩:=k8 u8 e8
 obtain ⟨u6,e6,s6⟩:=k7.1 u7 e7
 obtain ⟨u5,e5,s5⟩:=k6 u6 e6
 obtain ⟨u4,e4,s4⟩:=k5.1 u5 e5
 obtain ⟨u3,e3,s3⟩:=k4 u4 e4
 obtain ⟨u2,e2,s2⟩:=k3 u3 e3
 obtain ⟨u1,e1,s1⟩:=k2 u2 e2
 obtain ⟨u0,e0,s0⟩:=k1.1 u1 e1
 cases e0
 have a4 : u4 <:+ tt:=s3.trans (s2.trans (s1.trans s0))
 have g5:=k5.2 u5 u4 e5 e4 (ho.suf a4)
 have g7:=k7.2 u6 e6 (ho.suf (s5.trans (s4.trans a4)))
 have hnm:=k1.2 u1 e1 tt rfl ho
 have hl:=a4.length_le
 have hw:=ho.2.2
 have h5c:=g5.2
 refine ⟨s8.trans (s7.trans (s6.trans (s5.trans (s4.trans a4)))),g5.1,?_,g7,?_⟩
 · show cntS lb ≤ 16385
   have h5d : cntS lb + u5.length ≤ u4.length:=h5c
   omega
 · show nm.length ≤ 100000
   have : nm.length ≤ 24:=hnm
   omega
theorem thing_good {n : Nat} {p : Pg} {x : Wd} {tt : List Wd} (hf : (RS.ok (x :: tt)).fin) (hx : x.k ≠ 3) (hn : 3 * tt.length + 2 ≤ n) (ho : OkW (x :: tt)) (hG : GoodP p 16385) {t' : List Wd} (ht : (thingF n p (.ok (x :: tt))).2 = .ok t') : GoodP (thingF n p (.ok (x :: tt))).1 16385 ∧ t' <:+ tt:=by
 have hft : (RS.ok tt).fin:=(adv_le hf hx).1.2
 have hot : OkW tt:=ho.suf (List.suffix_cons _ _)
 have sub : ∀ s : RS,Sb s (.ok tt) → s = .ok t' → t' <:+ tt:=fun s hs e => by
  obtain ⟨u,hu,h2⟩:=hs t' e
  cases hu
  exact h2
 cases b1 : (RS.ok (x :: tt)).is kLock with
 | true =>
  rcases limF_cases p.ls.length 8 x tt with e | e
  · have eT : thingF n p (.ok (x :: tt)) = ({ p with ls:=p.ls ++ [⟨(nameF (.ok tt)).1.2,(nameF (.ok tt)).1.1⟩] },(nameF (.ok tt)).2.need [59]):=by simp [thingF,b1,e,RS.good,RS.adv]
    rw [eT] at ht ⊢
    exact ⟨⟨hG.th,hG.fn⟩,sub _ ((need_sb _ _).trans (name_sb _).1) ht⟩
  · have eT : thingF n p (.ok (x :: tt)) = (p,.bad 2 x.a):=by simp [thingF,b1,e,RS.good]
    rw [eT] at ht
    cases ht
 | false =>
  cases b2 : (RS.ok (x :: tt)).is kFunc with
  | true =>
   rcases limF_cases p.fs.length 16 x tt with e | e
   · have eT : thingF n p (.ok (x :: tt)) = ({ p with fs:=p.fs ++ [(funcF n (.ok (x :: tt))).1] },(funcF n (.ok (x :: tt))).2):=by simp [thingF,b1,b2,e,RS.good]
     rw [eT] at ht ⊢
     have hg:=func_good n hft hn hot ht
     refine ⟨⟨hG.th,fun f hf => ?_⟩,hg.1⟩
     rcases List.mem_append.1 hf with hf | hf
     · exact hG.fn f hf
     · simp at hf
       subst hf
       exact hg.2
   · have eT : thingF n p (.ok (x :: tt)) = (p,.bad 2 x.a):=by simp [thingF,b1,b2,e,RS.good]
     rw [eT] at ht
     cases ht
  | false =>
   cases b3 : (RS.ok (x :: tt)).is kThread with
   | true =>
    rcases limF_cases p.ths.length 4 x tt with e | e
    · have eT : thingF n p (.ok (x :: tt)) = ({ p with ths:=p.ths ++ [(blockF n 0 (.ok tt)).1] },(blockF n 0 (.ok tt)).2):=by simp [thingF,b1,b2,b3,e,RS.good,RS.adv]
      rw [eT] at ht ⊢
      have kb:=(rd_all n).2.1 0 (.ok tt) hft hn
      have hg:=kb.2 t' tt ht rfl hot
      refine ⟨⟨fun l hl => ?_,hG.fn⟩,sub _ kb.1 ht⟩
      rcases List.mem_append.1 hl with hl | hl
      · exact hG.th l hl
      · simp at hl
        subst hl
        exact ⟨hg.1,by (have:=hg.2;have:=hot.2.2;omega)⟩
    · have eT : thingF n p (.ok (x :: tt)) = (p,.bad 2 x.a):=by simp [thingF,b1,b2,b3,e,RS.good]
      rw [eT] at ht
      cases ht
   | false =>
    cases b4 : ((RS.ok (x :: tt)).is kPublic || (RS.ok (x :: tt)).is kSecret) with
    | true =>
     have eT : thingF n p (.ok (x :: tt)) = ({ p with gs:=p.gs ++ [(globF p.gs.length (.ok (x :: tt))).1] },(globF p.gs.length (.ok (x :: tt))).2):=by simp [thingF,b1,b2,b3,b4]
     rw [eT] at ht ⊢
     refine ⟨⟨hG.th,hG.fn⟩,sub _ (glob_sb _ ?_) ht⟩
     rcases limF_cases p.gs.length 32 x tt with e | e
     · rw [e]
       unfold eithF
       cases b5 : (RS.ok (x :: tt)).is kSecret with
       | true => simp only [if_true];exact .refl _
       | false =>
        simp only [Bool.false_eq_true,if_false]
        rw [b5,Bool.or_false] at b4
        unfold RS.need
        rw [if_pos b4]
        exact .refl _
     · rw [e]
       exact .bad _ _ _
    | false =>
     have eT : thingF n p (.ok (x :: tt)) = (p,(RS.ok (x :: tt)).fail 11):=by simp [thingF,b1,b2,b3,b4]
     rw [eT] at ht
     cases ht
theorem whole_good (n : Nat) : ∀ (m : Nat) (p : Pg) (tt : List Wd),(RS.ok tt).fin → 3 * tt.length ≤ n + 1 → OkW tt → GoodP p 16385 → ∀ q t',wholeF n m p (.ok tt) = (q,.ok t') → GoodP q 16385
 | 0,p,tt,_,_,_,hG,q,t',h => by
  have : wholeF n 0 p (.ok tt) = (p,.ok tt):=rfl
  rw [this] at h
  cases h
  exact hG
 | m + 1,p,tt,hf,hn,ho,hG,q,t',h => by
  obtain ⟨x,r,rfl⟩:=(hf tt rfl).ne
  by_cases hx : x.k = 3
  · have e : wholeF n (m + 1) p (.ok (x :: r)) = (p,.ok (x :: r)):=by simp [wholeF,RS.hd,hx]
    rw [e] at h
    cases h
    exact hG
  · have e : wholeF n (m + 1) p (.ok (x :: r)) = wholeF n m (thingF n p (.ok (x :: r))).1 (thingF n p (.ok (x :: r))).2:=by simp [wholeF,RS.hd,RS.good,hx]
    rw [e] at h
    have hlen : 3 * r.length + 2 ≤ n:=by (simp only [List.length_cons] at hn;omega)
    have hle:=thing_le n p hf hx
    cases hq : (thingF n p (.ok (x :: r))).2 with
    | ok t2 =>
     have hg:=thing_good hf hx hlen ho hG hq
     rw [hq] at h hle
     have h2 : t2.length ≤ r.length:=hg.2.length_le
     exact whole_good n m _ t2 hle.2 (by omega) ((ho.suf (List.suffix_cons _ _)).suf hg.2) hg.1 q t' h
    | bad c a =>
     rw [hq] at h
     have e2 : wholeF n m (thingF n p (.ok (x :: r))).1 (.bad c a) = ((thingF n p (.ok (x :: r))).1,.bad c a):=by
      cases m with
      | zero => rfl
      | succ m => simp [wholeF,RS.good]
     rw [e2] at h
     cases h
def lenT (n : Int) : List UInt8:=if n = 0 then [] else 91 :: (Lib.itoa n ++ [93])
def byT (t : List UInt8) : List UInt8:=if t = [] then [] else 32 :: 98 :: 121 :: 32 :: t
def lkT (x : Lk) : List UInt8:=lineT 0 [tLock,x.nm,[59]]
def glT (x : Gl) : List UInt8:=lineT 0 [typeT x.tr x.sc,[32],x.nm,lenT x.len,byT x.by_,[59]]
def thT (l : List Stm) : List UInt8:=lineT 0 [tThr] ++ (stsT l 1 ++ lineT 0 [[125]])
end Go.Proofs.Ytbmmjomcjlpnlaa
namespace Go.Proofs.Ytbmmjomcjlpnlaa
open Go
theorem getD_put (a : Act) (d e : Nat) (v : Value) (hd : d < a.tmps.size) : (a.put (some d) v).tmps.getD e undef = if e = d then v else a.tmps.getD e undef:=by
 show (a.tmps.setIfInBounds d v).getD e undef = _
 simp only [Array.getD_eq_getD_getElem?,Array.getElem?_setIfInBounds]
 by_cases h : d = e
 · subst h
   simp [hd]
 · rw [if_neg h,if_neg (fun e' => h e'.symm)]
theorem getD_set (listed : Array Bool) (i j : Nat) : (listed.setIfInBounds i true).getD j false = true → j = i ∨ listed.getD j false = true:=by
 intro h
 by_cases hij : i = j
 · exact .inl hij.symm
 · right
   simp only [Array.getD_eq_getD_getElem?,Array.getElem?_setIfInBounds,if_neg hij] at h ⊢
   exact h
structure Ins (n sz : Nat) (dst : Nat → Nat) (vs : List (Option Value)) (t0 : Array Value) (listed : Array Bool) (a : Act) : Prop where
 size : listed.size = n
 tsz : a.tmps.size = sz
 defs : a.defers = []
 old : ∀ d,(∀ k,k < n → dst k ≠ d) → a.tmps.getD d undef = t0.getD d undef
 new : ∀ k v,k < n → vs[k]? = some (some v) → listed.getD k false = true → a.tmps.getD (dst k) undef = v
section
variable {n sz : Nat} {dst : Nat → Nat} {vs : List (Option Value)} {t0 : Array Value} {listed : Array Bool} {a : Act}
theorem Ins.put (h : Ins n sz dst vs t0 listed a) {k : Nat} {v : Value} (hk : k < n) (hlt : dst k < sz) (inj : ∀ i,i < n → dst i = dst k → i = k) (hv : ∀ u,vs[k]? = some (some u) → u = v) : Ins n sz dst vs t0 (listed.setIfInBounds k true) (a.put (some (dst k)) v) where
 size:=by simpa using h.size
 tsz:=by simpa [Act.put] using h.tsz
 defs:=h.defs
 old:=fun d hd => by
  rw [getD_put a _ _ _ (by rw [h.tsz];exact hlt),if_neg (fun e => hd k hk e.symm)]
  exact h.old d hd
 new:=fun j u hj hu hl => by
  rw [getD_put a _ _ _ (by rw [h.tsz];exact hlt)]
  by_cases e : dst j = dst k
  · obtain rfl:=inj j hj e
    rw [if_pos rfl]
    exact (hv u hu).symm
  · rw [if_neg e]
    rcases getD_set listed k j hl with rfl | hl
    · exact absurd rfl e
    · exact h.new j u hj hu hl
end
section
variable {P : Program} {o : Oper} {a : Act} {w : World} {K : Act → World → Prop} {Q : Exit → Act → World → Prop}
end
end Go.Proofs.Ytbmmjomcjlpnlaa
namespace Go.Proofs.Ytbmmjomcjlpnlaa
open Go Go.RowKit
def dstG (k : Nat) : Nat:=31 + k
section
variable {vs : List (Option Value)} {t0 : Array Value} {listed : Array Bool} {a : Act} {B b : Nat} {W1 X X' : World} {cs : Array Value} {R : World → Prop}
theorem putG (h : Ins 11 66 dstG vs t0 listed a) (k d : Nat) (v : Value) (hk : k < 11) (hd : dstG k = d) (hv : ∀ u,vs[k]? = some (some u) → u = v) : Ins 11 66 dstG vs t0 (listed.setIfInBounds k true) (a.put (some d) v):=by
 subst hd
 exact h.put hk (by unfold dstG;omega) (fun i hi e => by unfold dstG at e;omega) hv
structure GI (vs : List (Option Value)) (t0 : Array Value) (W1 : World) (cs : Array Value) (R : World → Prop) (listed : Array Bool) (a : Act) (X : World) : Prop where
 ins : Ins 11 66 dstG vs t0 listed a
 wd : (listed.getD 10 false = false ∧ Below W1.heap.size W1 X ∧ (listed.getD 9 false = true → ∃ g,a.tmps.getD 40 undef = .slice (some ⟨g,0,none⟩) 6 6 ∧ X.heap[g]? = some (.cells cs 9 (0,0)))) ∨ (listed.getD 10 false = true ∧ R X)
theorem getD_other {k j : Nat} (h : j ≠ k) : (listed.setIfInBounds k true).getD j false = listed.getD j false:=by
 simp only [Array.getD_eq_getD_getElem?,Array.getElem?_setIfInBounds]
 rw [if_neg (Ne.symm h)]
theorem GI.put (h : GI vs t0 W1 cs R listed a X) (k d : Nat) (v : Value) (hk : k < 9) (hd : dstG k = d) (hv : ∀ u,vs[k]? = some (some u) → u = v) (hb : Below X.heap.size X X') (hR : R X → R X') : GI vs t0 W1 cs R (listed.setIfInBounds k true) (a.put (some d) v) X':=by
 refine ⟨putG h.ins k d v (by omega) hd hv,?_⟩
 rw [getD_other (by omega : 10 ≠ k),getD_other (by omega : 9 ≠ k)]
 rcases h.wd with ⟨h1,h2,h3⟩ | ⟨h1,h2⟩
 · refine .inl ⟨h1,below_dual h2 hb,fun h9 => ?_⟩
   obtain ⟨g,e1,e2⟩:=h3 h9
   refine ⟨g,?_,(hb.block g (Array.getElem?_eq_some_iff.1 e2).1).trans e2⟩
   subst hd
   rw [getD_put a _ _ _ (by rw [h.ins.tsz];unfold dstG;omega),if_neg (by unfold dstG;omega)]
   exact e1
 · exact .inr ⟨h1,hR h2⟩
end
end Go.Proofs.Ytbmmjomcjlpnlaa
namespace Go.Proofs.Ytbmmjomcjlpnlaa
open Go Go.RowKit
def progT (fnT : Fn → List UInt8) (p : Pg) : List UInt8:=p.ls.flatMap lkT ++ (p.gs.flatMap glT ++ (p.fs.flatMap fnT ++ p.ths.flatMap thT))
open Go
def aw5T : List UInt8:=[116,104,114,101,97,100,123,105,102,40,97,41,123,111,117,116,32,49,59,125,101,108,115,101,123,98,91,50,93,61,51,59,125,125,112,117,98,108,105,99,32,105,110,116,32,103,91,50,93,98,121,32,109,59,108,111,99,107,32,109,59]
def aw5W : List Wd:=[⟨0,[116,104,114,101,97,100],0,0⟩,⟨2,[123],0,6⟩,⟨0,[105,102],0,7⟩,⟨2,[40],0,9⟩,⟨0,[97],0,10⟩,⟨2,[41],0,11⟩,⟨2,[123],0,12⟩,⟨0,[111,117,116],0,13⟩,⟨1,[49],1,17⟩,⟨2,[59],0,18⟩,⟨2,[125],0,19⟩,⟨0,[101,108,115,101],0,20⟩,⟨2,[123],0,24⟩,⟨0,[98],0,25⟩,⟨2,[91],0,26⟩,⟨1,[50],2,27⟩,⟨2,[93],0,28⟩,⟨2,[61],0,29⟩,⟨1,[51],3,30⟩,⟨2,[59],0,31⟩,⟨2,[125],0,32⟩,⟨2,[125],0,33⟩,⟨0,[112,117,98,108,105,99],0,34⟩,⟨0,[105,110,116],0,41⟩,⟨0,[103],0,45⟩,⟨2,[91],0,46⟩,⟨1,[50],2,47⟩,⟨2,[93],0,48⟩,⟨0,[98,121],0,49⟩,⟨0,[109],0,52⟩,⟨2,[59],0,53⟩,⟨0,[108,111,99,107],0,54⟩,⟨0,[109],0,59⟩,⟨2,[59],0,60⟩,⟨3,[],0,61⟩]
theorem numO_itoa {n : Int} (h0 : 0 ≤ n) (h1 : n ≤ 9223372036854775807) : numO (Lib.itoa n) = some n:=by
 have e : (⟨(Lib.itoa n).toArray⟩ : ByteArray) = dig n:=rfl
 unfold numO
 rw [e,num_dig h0 h1]
theorem numO_inv {t : List UInt8} {v : Int} (h : numO t = some v) : 0 ≤ v ∧ v ≤ 9223372036854775807 ∧ t = Lib.itoa v:=by
 unfold numO at h
 split at h
 · rename_i u hu
   cases h
   unfold numM at hu
   split at hu
   · cases hu
   · split at hu
     · rename_i x hx
       split at hu
       · cases hu
       · split at hu
         · rename_i hneg hs
           cases hu
           have hb:=(Lib.parseIntB_bounds hx).2
           refine ⟨by omega,by simp at hb;omega,?_⟩
           have:=by simpa [ByteArray.toList_eq] using hs
           rw [← this]
           rfl
         · cases hu
     · cases hu
 · cases h
theorem num_1 : numO [49] = some 1:=by
 have h:=numO_itoa (n:=1) (by decide) (by decide)
 rwa [show Lib.itoa 1 = [49] by (rw [show (1 : Int) = ((1 : Nat) : Int) from rfl,Lib.itoa_nonneg];simp [Lib.decDigits])] at h
theorem num_3 : numO [51] = some 3:=by
 have h:=numO_itoa (n:=3) (by decide) (by decide)
 rwa [show Lib.itoa 3 = [51] by (rw [show (3 : Int) = ((3 : Nat) : Int) from rfl,Lib.itoa_nonneg];simp [Lib.decDigits])] at h
def aw5S : Stm:=.mk 2 7 false false [] [] [.mk 2 0 0 [97] [] 10] [.mk 5 13 false false [] [] [.mk 0 0 1 [] [] 17] [] []] [.mk 1 25 false false [98] [.mk 0 0 2 [] [] 27] [.mk 0 0 3 [] [] 30] [] []]
def aw5P : Pg:=⟨[⟨45,[103],false,false,2,[109]⟩],[⟨59,[109]⟩],[],[[aw5S]]⟩
theorem exn {t : List UInt8} {n : Int} {a : Nat} {c : Wd} {r : List Wd} (h3 : rkW c < 1) : exF (.ok (⟨1,t,n,a⟩ :: c :: r)) = (.mk 0 0 n [] [] a,.ok (c :: r)) :=
 exF_ok (.expr (.num rfl) (.loopEnd h3))
theorem op5_none : opB [41] = -1 ∧ opB [93] = -1 ∧ opB [59] = -1:=by
 refine ⟨?_,?_,?_⟩ <;> simp [opB,opM,opGo,sgn,sgnL,ByteArray.toList_eq]
theorem rk5_se (v : Int) (a : Nat) : rkW ⟨2,[59],v,a⟩ < 1:=by unfold rkW;rw [if_pos rfl,op5_none.2.2];decide
end Go.Proofs.Ytbmmjomcjlpnlaa
namespace Go.Proofs.Ytbmmjomcjlpnlaa.GX
open Go
inductive GoodX : Stm → Prop
 | mk {k a : Int} {tr sc : Bool} {nm : List UInt8} {ix es : List Ex} {bd el : List Stm} : 0 ≤ k → k ≤ 5 → ix.length ≤ 1 → es.length ≤ 1 → (∀ x ∈ ix,GoodE x) → (∀ x ∈ es,GoodE x) → NmOk nm → (∀ s ∈ bd,GoodX s) → (∀ s ∈ el,GoodX s) → GoodX (.mk k a tr sc nm ix es bd el)
def OkW (ts : List Wd) : Prop:=(∀ w ∈ ts,WdOk w) ∧ lens ts ≤ 16384 ∧ ts.length ≤ 16385
theorem OkW.suf {a b : List Wd} (h : OkW b) (hs : a <:+ b) : OkW a:=⟨fun w hw => h.1 w (hs.subset hw),Nat.le_trans (lens_suf hs) h.2.1,Nat.le_trans hs.length_le h.2.2⟩
def Sb (t s : RS) : Prop:=∀ tt,t = .ok tt → ∃ ss,s = .ok ss ∧ tt <:+ ss
theorem Sb.refl (s : RS) : Sb s s:=fun tt h => ⟨tt,h,List.suffix_refl _⟩
theorem Sb.trans {a b c : RS} (h : Sb a b) (k : Sb b c) : Sb a c:=fun tt e => by
 obtain ⟨ss,e1,e2⟩:=h tt e
 obtain ⟨uu,e3,e4⟩:=k ss e1
 exact ⟨uu,e3,e2.trans e4⟩
theorem Sb.bad (c : Int) (a : Nat) (s : RS) : Sb (.bad c a) s:=fun _ h => by cases h
theorem fail_sb (e : Int) (s : RS) : Sb (s.fail e) s:=by
 cases s with
 | bad c a => exact .refl _
 | ok tt => cases tt with
  | nil => exact .refl _
  | cons w r => exact .bad _ _ _
theorem adv_sb (s : RS) : Sb s.adv s:=by
 cases s with
 | bad c a => exact .refl _
 | ok tt => cases tt with
  | nil => exact .refl _
  | cons w r => exact fun t h => by cases h;exact ⟨_,rfl,List.suffix_cons _ _⟩
theorem need_sb (t : List UInt8) (s : RS) : Sb (s.need t) s:=by
 unfold RS.need
 split
 · exact adv_sb s
 · exact fail_sb _ s
theorem eith_sb (x y : List UInt8) (s : RS) : Sb (eithF x y s).2 s:=by
 unfold eithF
 split
 · exact adv_sb s
 · exact need_sb x s
theorem kind_sb (s : RS) : Sb (kindF s).2 s:=(eith_sb _ _ _).trans (eith_sb _ _ _)
theorem name_sb (s : RS) : Sb (nameF s).2 s ∧ ∀ tt,(nameF s).2 = .ok tt → ∀ ss,s = .ok ss → OkW ss → (nameF s).1.1.length ≤ 24:=by
 cases s with
 | bad c a => exact ⟨.refl _,fun _ h => by cases h⟩
 | ok tt => cases tt with
  | nil => exact ⟨.refl _,fun _ _ _ _ _ => by simp [nameF]⟩
  | cons w r =>
   rw [nameF_cons]
   by_cases h : w.k ≠ 0 ∨ keyB w.t = true
   · rw [if_pos h]
     exact ⟨.bad _ _ _,fun _ h => by cases h⟩
   · rw [if_neg h]
     refine ⟨fun t e => by cases e;exact ⟨_,rfl,List.suffix_cons _ _⟩,fun t _ ss e ho => ?_⟩
     cases e
     have hk : w.k = 0:=by (cases Classical.em (w.k = 0) with | inl e => exact e | inr e => exact absurd (.inl e) h)
     have hy : keyB w.t = false:=by (cases e : keyB w.t with | false => rfl | true => exact absurd (.inr e) h)
     obtain ⟨_,_,_,_,_,h24,_⟩:=(ho.1 w (.head _)).1 hk hy
     exact h24
theorem ex0_good : GoodE ex0:=⟨by decide,.mk (by decide) (by decide) (by simp),by (rw [txt0 (x:=ex0) rfl];show (Lib.itoa ((0 : Nat) : Int)).length ≤ _;rw [Lib.itoa_nonneg];simp [Lib.decDigits]),.num (by decide) (by decide)⟩
theorem name_nm (s : RS) (tt : List Wd) (hh : (nameF s).2 = .ok tt) (ss : List Wd) (hs : s = .ok ss) (ho : OkW ss) : NmOk (nameF s).1.1:=by
 subst hs
 cases ss with
 | nil => exact .inl (by simp [nameF])
 | cons w r =>
  rw [nameF_cons] at hh ⊢
  by_cases h : w.k ≠ 0 ∨ keyB w.t = true
  · rw [if_pos h] at hh
    cases hh
  · rw [if_neg h]
    have hk : w.k = 0:=by (cases Classical.em (w.k = 0) with | inl e => exact e | inr e => exact absurd (.inl e) h)
    have hy : keyB w.t = false:=by (cases e : keyB w.t with | false => rfl | true => exact absurd (.inr e) h)
    exact .inr ((ho.1 w (.head _)).1 hk hy)
theorem ex_sb (s : RS) : Sb (exF s).2 s ∧ ∀ ss,s = .ok ss → OkW ss → GoodE (exF s).1:=by
 cases s with
 | bad c a => exact ⟨.refl _,fun _ h => by cases h⟩
 | ok ts =>
  by_cases hx : ∃ r,P 0 (.expr 1) ts r
  · obtain ⟨r,hr⟩:=hx
    cases r with
    | ok x ts' =>
     rw [exF_ok hr]
     refine ⟨fun t e => by cases e;exact ⟨_,rfl,hr.suf⟩,fun ss e ho => ?_⟩
     cases e
     have hf:=hr.fit ho.1 (by omega) (by omega)
     obtain ⟨w1,w2⟩:=hr.wt ho.1 (by omega)
     have h1 : x.txt.length ≤ x.wt:=by (unfold Ex.wt;omega)
     have:=ho.2.1
     have:=ho.2.2
     show GoodE x
     exact ⟨by omega,hf.1.nums,by omega,hf.1⟩
    | bad c a =>
     rw [exF_bad hr]
     exact ⟨.bad _ _ _,fun _ _ _ => ex0_good⟩
    | okL l ts' =>
     have e:=(Classical.choose_spec (⟨_,hr⟩ : ∃ r,P 0 (.expr 1) ts r)).det _ hr
     have e2 : exF (.ok ts) = (ex0,.ok ts):=by simp only [exF,dif_pos (⟨_,hr⟩ : ∃ r,P 0 (.expr 1) ts r),e]
     rw [e2]
     exact ⟨.refl _,fun _ _ _ => ex0_good⟩
  · have e2 : exF (.ok ts) = (ex0,.ok ts):=by simp only [exF,dif_neg hx]
    rw [e2]
    exact ⟨.refl _,fun _ _ _ => ex0_good⟩
theorem bound_sb (s : RS) : Sb (boundF s).2 s ∧ ∀ ss,s = .ok ss → OkW ss → (∃ tt,(boundF s).2 = .ok tt) → GoodE (boundF s).1:=by
 have k1:=need_sb [40] s
 have k2:=ex_sb (s.need [40])
 have k3:=need_sb [41] (exF (s.need [40])).2
 refine ⟨k3.trans (k2.1.trans k1),fun ss e ho ⟨tt,ht⟩ => ?_⟩
 obtain ⟨u,hu,_⟩:=k3 tt ht
 obtain ⟨v,hv,_⟩:=k2.1 u hu
 obtain ⟨w,hw,hs⟩:=k1 v hv
 rw [e] at hw
 cases hw
 exact k2.2 v hv (ho.suf hs)
theorem Sb.back {t s : RS} (h : Sb t s) {tt ss : List Wd} (ht : t = .ok tt) (hs : s = .ok ss) (ho : OkW ss) : OkW tt ∧ tt <:+ ss:=by
 obtain ⟨u,hu,h2⟩:=h tt ht
 rw [hs] at hu
 cases hu
 exact ⟨ho.suf h2,h2⟩
def RdS (s : RS) (q : Stm × RS) : Prop:=Sb q.2 s ∧ ∀ tt ss,q.2 = .ok tt → s = .ok ss → OkW ss → GoodX q.1 ∧ q.1.cnt + tt.length ≤ ss.length
def RdL (s : RS) (q : List Stm × RS) : Prop:=Sb q.2 s ∧ ∀ tt ss,q.2 = .ok tt → s = .ok ss → OkW ss → (∀ x ∈ q.1,GoodX x) ∧ cntS q.1 + tt.length ≤ ss.length
theorem suf_tl {a : List Wd} {x : Wd} {tt : List Wd} (h : a <:+ tt) : a <:+ x :: tt:=h.trans (List.suffix_cons _ _)
theorem rd_all : ∀ n : Nat,(∀ d x tt,(RS.ok (x :: tt)).fin → 3 * (tt.length + 1) ≤ n → RdS (.ok (x :: tt)) (stmtF n d (.ok (x :: tt)))) ∧ (∀ d s,s.fin → 3 * s.len + 2 ≤ n → RdL s (blockF n d s)) ∧ (∀ d t s,s.fin → 3 * s.len + 1 ≤ n → RdL s (stmtsF n d t s)):=by
 intro n
 induction n with
 | zero =>
  exact ⟨fun d x tt _ h => absurd h (by omega),fun d s _ h => absurd h (by omega),fun d t s _ h => absurd h (by omega)⟩
 | succ n ih =>
  obtain ⟨ih1,ih2,ih3⟩:=ih
  refine ⟨fun d x tt hf hn0 => ?_,fun d s hf hn0 => ?_,fun d t s hf hn0 => ?_⟩
  · have ha : Sb (RS.ok tt) (.ok (x :: tt)):=adv_sb (.ok (x :: tt))
    have hadv : (RS.ok (x :: tt)).adv = .ok tt:=rfl
    unfold stmtF
    rw [hadv]
    by_cases b1 : (RS.ok (x :: tt)).is kVar = true
    · rw [if_pos b1]
      have k1:=kind_sb (.ok tt)
      have k2:=name_sb (kindF (.ok tt)).2
      have k3:=need_sb [61] (nameF (kindF (.ok tt)).2).2
      have k4:=ex_sb ((nameF (kindF (.ok tt)).2).2.need [61])
      have k5:=need_sb [59] (exF ((nameF (kindF (.ok tt)).2).2.need [61])).2
      refine ⟨k5.trans (k4.1.trans (k3.trans (k2.1.trans (k1.trans ha)))),fun t' ss ht hs ho => ?_⟩
      cases hs
      obtain ⟨u5,e5,s5⟩:=k5 t' ht
      obtain ⟨u4,e4,s4⟩:=k4.1 u5 e5
      obtain ⟨u3,e3,s3⟩:=k3 u4 e4
      obtain ⟨u2,e2,s2⟩:=k2.1 u3 e3
      obtain ⟨u1,e1,s1⟩:=k1 u2 e2
      cases e1
      have h4:=ho.suf (suf_tl (s3.trans (s2.trans s1)))
      have hn:=name_nm _ u3 e3 u2 e2 (ho.suf (suf_tl s1))
      refine ⟨.mk (by decide) (by decide) (by simp) (by simp) (by simp) (by simpa using k4.2 u4 e4 h4) hn (by simp) (by simp),?_⟩
      have:=(s5.trans (s4.trans (s3.trans (s2.trans s1)))).length_le
      simp only [Stm.cnt,cntS,List.length_cons]
      omega
    · rw [if_neg b1]
      by_cases b2 : (RS.ok (x :: tt)).is kIf = true
      · rw [if_pos b2]
        have hft : (RS.ok tt).fin:=(is_adv b2 hf).1.2
        have l1:=bound_le hft
        have l1' : (boundF (.ok tt)).2.len ≤ tt.length:=l1.1
        have k1:=bound_sb (.ok tt)
        have k2:=ih2 d (boundF (.ok tt)).2 l1.2 (by omega)
        have l2:=(read_le n).2.1 d _ l1.2
        cases b5 : (blockF n d (boundF (.ok tt)).2).2.is kElse with
        | false =>
         simp only [b5,Bool.false_eq_true,if_false]
         refine ⟨k2.1.trans (k1.1.trans ha),fun t' ss ht hs ho => ?_⟩
         cases hs
         obtain ⟨u2,e2,s2⟩:=k2.1 t' ht
         obtain ⟨u1,e1,s1⟩:=k1.1 u2 e2
         cases e1
         have g1:=k1.2 tt rfl (ho.suf (List.suffix_cons _ _)) ⟨u2,e2⟩
         have g2:=k2.2 t' u2 ht e2 (ho.suf (suf_tl s1))
         refine ⟨.mk (by decide) (by decide) (by simp) (by simp) (by simp) (by simpa using g1) (.inl rfl) g2.1 (by simp),?_⟩
         have:=s1.length_le
         have:=g2.2
         simp only [Stm.cnt,cntS,List.length_cons]
         omega
        | true =>
         simp only [b5,if_true]
         have k3:=adv_sb (blockF n d (boundF (.ok tt)).2).2
         have l3:=(is_adv b5 l2.2).1
         have k4:=ih2 d (blockF n d (boundF (.ok tt)).2).2.adv l3.2 (by have:=l3.1;have:=l2.1;omega)
         refine ⟨k4.1.trans (k3.trans (k2.1.trans (k1.1.trans ha))),fun t' ss ht hs ho => ?_⟩
         cases hs
         obtain ⟨u4,e4,s4⟩:=k4.1 t' ht
         obtain ⟨u3,e3,s3⟩:=k3 u4 e4
         obtain ⟨u2,e2,s2⟩:=k2.1 u3 e3
         obtain ⟨u1,e1,s1⟩:=k1.1 u2 e2
         cases e1
         have g1:=k1.2 tt rfl (ho.suf (List.suffix_cons _ _)) ⟨u2,e2⟩
         have g2:=k2.2 u3 u2 e3 e2 (ho.suf (suf_tl s1))
         have g4:=k4.2 t' u4 ht e4 (ho.suf (suf_tl (s3.trans (s2.trans s1))))
         refine ⟨.mk (by decide) (by decide) (by simp) (by simp) (by simp) (by simpa using g1) (.inl rfl) g2.1 g4.1,?_⟩
         have:=s1.length_le
         have:=s3.length_le
         have:=g2.2
         have:=g4.2
         simp only [Stm.cnt,List.length_cons]
         omega
      · rw [if_neg b2]
        by_cases b3 : (RS.ok (x :: tt)).is kWhile = true
        · rw [if_pos b3]
          have hft : (RS.ok tt).fin:=(is_adv b3 hf).1.2
          have l1:=bound_le hft
          have l1' : (boundF (.ok tt)).2.len ≤ tt.length:=l1.1
          have k1:=bound_sb (.ok tt)
          have k2:=ih2 d (boundF (.ok tt)).2 l1.2 (by omega)
          refine ⟨k2.1.trans (k1.1.trans ha),fun t' ss ht hs ho => ?_⟩
          cases hs
          obtain ⟨u2,e2,s2⟩:=k2.1 t' ht
          obtain ⟨u1,e1,s1⟩:=k1.1 u2 e2
          cases e1
          have g1:=k1.2 tt rfl (ho.suf (List.suffix_cons _ _)) ⟨u2,e2⟩
          have g2:=k2.2 t' u2 ht e2 (ho.suf (suf_tl s1))
          refine ⟨.mk (by decide) (by decide) (by simp) (by simp) (by simp) (by simpa using g1) (.inl rfl) g2.1 (by simp),?_⟩
          have:=s1.length_le
          have:=g2.2
          simp only [Stm.cnt,cntS,List.length_cons]
          omega
        · rw [if_neg b3]
          by_cases b4 : (RS.ok (x :: tt)).is kLock = true
          · rw [if_pos b4]
            have hft : (RS.ok tt).fin:=(is_adv b4 hf).1.2
            have l1:=name_le hft
            have l1' : (nameF (.ok tt)).2.len ≤ tt.length:=l1.1
            have k1:=name_sb (.ok tt)
            have k2:=ih2 d (nameF (.ok tt)).2 l1.2 (by omega)
            refine ⟨k2.1.trans (k1.1.trans ha),fun t' ss ht hs ho => ?_⟩
            cases hs
            obtain ⟨u2,e2,s2⟩:=k2.1 t' ht
            obtain ⟨u1,e1,s1⟩:=k1.1 u2 e2
            cases e1
            have hn:=name_nm _ u2 e2 tt rfl (ho.suf (List.suffix_cons _ _))
            have g2:=k2.2 t' u2 ht e2 (ho.suf (suf_tl s1))
            refine ⟨.mk (by decide) (by decide) (by simp) (by simp) (by simp) (by simp) hn g2.1 (by simp),?_⟩
            have:=s1.length_le
            have:=g2.2
            simp only [Stm.cnt,cntS,List.length_cons]
            omega
          · rw [if_neg b4]
            by_cases b6 : (RS.ok (x :: tt)).is kOut = true
            · rw [if_pos b6]
              have k1:=ex_sb (.ok tt)
              have k2:=need_sb [59] (exF (.ok tt)).2
              refine ⟨k2.trans (k1.1.trans ha),fun t' ss ht hs ho => ?_⟩
              cases hs
              obtain ⟨u2,e2,s2⟩:=k2 t' ht
              obtain ⟨u1,e1,s1⟩:=k1.1 u2 e2
              cases e1
              have g1:=k1.2 tt rfl (ho.suf (List.suffix_cons _ _))
              refine ⟨.mk (by decide) (by decide) (by simp) (by simp) (by simp) (by simpa using g1) (.inl rfl) (by simp) (by simp),?_⟩
              have:=(s2.trans s1).length_le
              simp only [Stm.cnt,cntS,List.length_cons]
              omega
            · rw [if_neg b6]
              have k1:=name_sb (.ok (x :: tt))
              have hlt : ∀ u1,(nameF (.ok (x :: tt))).2 = .ok u1 → u1.length + 1 ≤ (x :: tt).length:=by
               intro u1 e
               rw [nameF_cons] at e
               split at e
               · cases e
               · cases e
                 simp
              cases b7 : (nameF (RS.ok (x :: tt))).2.is [91] with
              | false =>
               simp only [b7,Bool.false_eq_true,if_false]
               have k2:=need_sb [61] (nameF (.ok (x :: tt))).2
               have k3:=ex_sb ((nameF (.ok (x :: tt))).2.need [61])
               have k4:=need_sb [59] (exF ((nameF (.ok (x :: tt))).2.need [61])).2
               refine ⟨k4.trans (k3.1.trans (k2.trans k1.1)),fun t' ss ht hs ho => ?_⟩
               cases hs
               obtain ⟨u4,e4,s4⟩:=k4 t' ht
               obtain ⟨u3,e3,s3⟩:=k3.1 u4 e4
               obtain ⟨u2,e2,s2⟩:=k2 u3 e3
               obtain ⟨u1,e1,s1⟩:=k1.1 u2 e2
               cases e1
               have hn:=name_nm _ u2 e2 _ rfl ho
               have g1:=k3.2 u3 e3 (ho.suf (s2.trans s1))
               refine ⟨.mk (by decide) (by decide) (by simp) (by simp) (by simp) (by simpa using g1) hn (by simp) (by simp),?_⟩
               have:=(s4.trans (s3.trans s2)).length_le
               have:=hlt u2 e2
               simp only [Stm.cnt,cntS]
               omega
              | true =>
               simp only [b7,if_true]
               have k2:=adv_sb (nameF (.ok (x :: tt))).2
               have k3:=ex_sb (nameF (.ok (x :: tt))).2.adv
               have k4:=need_sb [93] (exF (nameF (.ok (x :: tt))).2.adv).2
               have k5:=need_sb [61] ((exF (nameF (.ok (x :: tt))).2.adv).2.need [93])
               have k6:=ex_sb (((exF (nameF (.ok (x :: tt))).2.adv).2.need [93]).need [61])
               have k7:=need_sb [59] (exF (((exF (nameF (.ok (x :: tt))).2.adv).2.need [93]).need [61])).2
               refine ⟨k7.trans (k6.1.trans (k5.trans (k4.trans (k3.1.trans (k2.trans k1.1))))),fun t' ss ht hs ho => ?_⟩
               cases hs
               obtain ⟨u7,e7,s7⟩:=k7 t' ht
               obtain ⟨u6,e6,s6⟩:=k6.1 u7 e7
               obtain ⟨u5,e5,s5⟩:=k5 u6 e6
               obtain ⟨u4,e4,s4⟩:=k4 u5 e5
               obtain ⟨u3,e3,s3⟩:=k3.1 u4 e4
               obtain ⟨u2,e2,s2⟩:=k2 u3 e3
               obtain ⟨u1,e1,s1⟩:=k1.1 u2 e2
               cases e1
               have hn:=name_nm _ u2 e2 _ rfl ho
               have g1:=k3.2 u3 e3 (ho.suf (s2.trans s1))
               have g2:=k6.2 u6 e6 (ho.suf (s5.trans (s4.trans (s3.trans (s2.trans s1)))))
               refine ⟨.mk (by decide) (by decide) (by simp) (by simp) (by simpa using g1) (by simpa using g2) hn (by simp) (by simp),?_⟩
               have:=(s7.trans (s6.trans (s5.trans (s4.trans (s3.trans s2))))).length_le
               have:=hlt u2 e2
               simp only [Stm.cnt,cntS]
               omega
  · unfold blockF
    have k0 : Sb (if s.is [123] && decide (d = 32) then s.fail 2 else s) s:=by
     split
     · exact fail_sb _ _
     · exact .refl _
    obtain ⟨s1,hs1⟩ : ∃ s1,(if s.is [123] && decide (d = 32) then s.fail 2 else s) = s1:=⟨_,rfl⟩
    have l0 : Le s1 s:=by
     rw [← hs1]
     split
     · exact fail_le hf 2
     · exact ⟨Nat.le_refl _,hf⟩
    rw [hs1] at k0
    simp only [hs1]
    have k1:=need_sb [123] s1
    have l1:=(need_le l0.2 [123]).trans l0
    have k2:=ih3 (d + 1) [125] (s1.need [123]) l1.2 (by have:=l1.1;omega)
    have k3:=need_sb [125] (stmtsF n (d + 1) [125] (s1.need [123])).2
    refine ⟨k3.trans (k2.1.trans (k1.trans k0)),fun t' ss ht hs ho => ?_⟩
    subst hs
    obtain ⟨u3,e3,s3⟩:=k3 t' ht
    obtain ⟨u2,e2,s2⟩:=k2.1 u3 e3
    obtain ⟨u1,e1,q1⟩:=k1 u2 e2
    obtain ⟨u0,e0,q0⟩:=k0 u1 e1
    cases e0
    have g2:=k2.2 u3 u2 e3 e2 (ho.suf (q1.trans q0))
    have:=(q1.trans q0).length_le
    have:=s3.length_le
    refine ⟨g2.1,?_⟩
    have:=g2.2
    show cntS (stmtsF n (d + 1) [125] (s1.need [123])).1 + t'.length ≤ ss.length
    omega
  · unfold stmtsF
    cases b : (s.good && !s.is t) with
    | false =>
     simp only [Bool.false_eq_true,if_false]
     exact ⟨.refl _,fun tt ss h1 h2 _ => by (have h1' : s = .ok tt:=h1;rw [h1'] at h2;cases h2;exact ⟨by simp,by simp [cntS]⟩)⟩
    | true =>
     simp only [if_true]
     cases s with
     | bad c a => simp [RS.good] at b
     | ok l =>
      obtain ⟨x,tt,rfl⟩:=(hf l rfl).ne
      have hl : (RS.ok (x :: tt)).len = tt.length + 1:=rfl
      have l1:=(read_le n).1 d x tt hf (by omega)
      have k1:=ih1 d x tt hf (by omega)
      have k2:=ih3 d t (stmtF n d (.ok (x :: tt))).2 l1.1.2 (by have:=l1.2;omega)
      refine ⟨k2.1.trans k1.1,fun t' ss ht hs ho => ?_⟩
      cases hs
      obtain ⟨u2,e2,s2⟩:=k2.1 t' ht
      have g1:=k1.2 u2 _ e2 rfl ho
      obtain ⟨u1,e1,s1⟩:=k1.1 u2 e2
      cases e1
      have g2:=k2.2 t' u2 ht e2 (ho.suf s1)
      refine ⟨fun y hy => ?_,?_⟩
      · rcases List.mem_cons.1 hy with rfl | hy
        · exact g1.1
        · exact g2.1 y hy
      · have:=g1.2
        have:=g2.2
        simp only [cntS]
        omega
structure GoodP (p : Pg) (n : Nat) : Prop where
 th : ∀ l ∈ p.ths,(∀ s ∈ l,GoodX s) ∧ cntS l ≤ n
 fn : ∀ f ∈ p.fs,(∀ s ∈ f.bd,GoodX s) ∧ cntS f.bd ≤ n ∧ GoodE f.ret ∧ f.nm.length ≤ 100000
theorem if_sb {α : Type} {s : α × RS} {z : α} {r m : RS} {c : Bool} (h1 : Sb s.2 m) (h2 : Sb r m) : Sb (if c then s else (z,r)).2 m:=by
 cases c with
 | true => exact h1
 | false => exact h2
theorem lenF_sb (s : RS) : Sb (lenF s).2 s:=by
 cases s with
 | bad c a => exact .refl _
 | ok tt =>
  cases tt with
  | nil => exact .refl _
  | cons w ts =>
   have e : lenF (.ok (w :: ts)) = if w.k ≠ 1 then (0,.bad 11 w.a) else if w.n < 1 ∨ 64 < w.n then (0,.bad 2 w.a) else (w.n,.ok ts):=rfl
   rw [e]
   by_cases h1 : w.k ≠ 1
   · rw [if_pos h1]
     exact .bad _ _ _
   · rw [if_neg h1]
     by_cases h2 : w.n < 1 ∨ 64 < w.n
     · rw [if_pos h2]
       exact .bad _ _ _
     · rw [if_neg h2]
       exact adv_sb (.ok (w :: ts))
theorem lim_sb (n m : Nat) (s : RS) : Sb (limF n m s) s:=by
 unfold limF
 split
 · exact fail_sb _ _
 · exact .refl _
theorem pars_sb : ∀ (n k : Nat) (s : RS),Sb (parsF n k s).2 s
 | 0,k,s => .refl _
 | n + 1,k,s => by
  unfold parsF
  cases hg : s.good with
  | false => simp;exact .refl _
  | true =>
   simp only [if_true]
   have k2:=(name_sb (kindF (limF k 6 s)).2).1.trans ((kind_sb (limF k 6 s)).trans (lim_sb k 6 s))
   cases b : (nameF (kindF (limF k 6 s)).2).2.is [44] with
   | false => simp;exact k2
   | true =>
    simp only [if_true]
    exact (pars_sb n (k + 1) _).trans ((adv_sb _).trans k2)
theorem params_sb (s : RS) : Sb (paramsF s).2 s:=by
 have e : paramsF s = if (s.need [40]).is [41] then ([],(s.need [40]).adv) else ((parsF 8 0 (s.need [40])).1,(parsF 8 0 (s.need [40])).2.need [41]):=rfl
 rw [e]
 cases b : (s.need [40]).is [41] with
 | true => exact (adv_sb _).trans (need_sb _ _)
 | false => exact (need_sb _ _).trans ((pars_sb 8 0 _).trans (need_sb _ _))
theorem glob_sb (n : Nat) {s m : RS} (hk : Sb (eithF kPublic kSecret (limF n 32 s)).2 m) : Sb (globF n s).2 m:=by
 have k1 : Sb (kindF (limF n 32 s)).2 m:=(eith_sb kInt kBool _).trans hk
 have k2:=(name_sb (kindF (limF n 32 s)).2).1.trans k1
 have k3:=if_sb (c:=(nameF (kindF (limF n 32 s)).2).2.is [91]) (z:=(0 : Int)) (s:=(let q:=lenF (nameF (kindF (limF n 32 s)).2).2.adv;(q.1,q.2.need [93]))) ((need_sb [93] _).trans ((lenF_sb _).trans ((adv_sb _).trans k2))) k2
 obtain ⟨l,hl⟩ : ∃ l,(if (nameF (kindF (limF n 32 s)).2).2.is [91] then (let q:=lenF (nameF (kindF (limF n 32 s)).2).2.adv;(q.1,q.2.need [93])) else ((0 : Int),(nameF (kindF (limF n 32 s)).2).2)) = l:=⟨_,rfl⟩
 rw [hl] at k3
 have k4:=if_sb (c:=l.2.is kBy) (z:=([] : List UInt8)) (s:=(let q:=nameF l.2.adv;(q.1.1,q.2))) ((name_sb l.2.adv).1.trans ((adv_sb _).trans k3)) k3
 have k5:=(need_sb [59] _).trans k4
 have e : (globF n s).2 = RS.need [59] (if l.2.is kBy then (let q:=nameF l.2.adv;(q.1.1,q.2)) else ([],l.2)).2:=by
  rw [← hl]
  rfl
 rw [e]
 exact k5
theorem func_good (n : Nat) {x : Wd} {tt : List Wd} (hft : (RS.ok tt).fin) (hn : 3 * tt.length + 2 ≤ n) (ho : OkW tt) {t' : List Wd} (ht : (funcF n (.ok (x :: tt))).2 = .ok t') : t' <:+ tt ∧ (∀ s ∈ (funcF n (.ok (x :: tt))).1.bd,GoodX s) ∧ cntS (funcF n (.ok (x :: tt))).1.bd ≤ 16385 ∧ GoodE (funcF n (.ok (x :: tt))).1.ret ∧ (funcF n (.ok (x :: tt))).1.nm.length ≤ 100000:=by
 obtain ⟨⟨⟨nm,a⟩,τ1⟩,h1⟩ : ∃ q,nameF (.ok tt) = q:=⟨_,rfl⟩
 obtain ⟨⟨lp,τ2⟩,h2⟩ : ∃ q,paramsF τ1 = q:=⟨_,rfl⟩
 obtain ⟨⟨⟨tr,sc⟩,τ3⟩,h3⟩ : ∃ q,kindF τ2 = q:=⟨_,rfl⟩
 obtain ⟨τ4,h4⟩ : ∃ q,τ3.need [123] = q:=⟨_,rfl⟩
 obtain ⟨⟨lb,τ5⟩,h5⟩ : ∃ q,stmtsF n 1 kReturn τ4 = q:=⟨_,rfl⟩
 obtain ⟨τ6,h6⟩ : ∃ q,τ5.need kReturn = q:=⟨_,rfl⟩
 obtain ⟨⟨ex,τ7⟩,h7⟩ : ∃ q,exF τ6 = q:=⟨_,rfl⟩
 obtain ⟨τ8,h8⟩ : ∃ q,τ7.need [59] = q:=⟨_,rfl⟩
 obtain ⟨τ9,h9⟩ : ∃ q,τ8.need [125] = q:=⟨_,rfl⟩
 have eF : funcF n (.ok (x :: tt)) = (⟨a,nm,lp,tr,sc,lb,ex⟩,τ9):=by simp only [funcF,RS.adv,h1,h2,h3,h4,h5,h6,h7,h8,h9]
 rw [eF] at ht ⊢
 have k1:=name_sb (.ok tt)
 have k2:=params_sb τ1
 have k3:=kind_sb τ2
 have k4:=need_sb [123] τ3
 have l1 : Le τ1 (.ok tt):=by (have:=name_le hft;rwa [h1] at this)
 have l2 : Le τ2 (.ok tt):=by (have:=params_le l1.2;rw [h2] at this;exact this.trans l1)
 have l3 : Le τ3 (.ok tt):=by (have:=kind_le l2.2;rw [h3] at this;exact this.trans l2)
 have l4 : Le τ4 (.ok tt):=by (have:=need_le l3.2 [123];rw [h4] at this;exact this.trans l3)
 have k5:=(rd_all n).2.2 1 kReturn τ4 l4.2 (by (have h44 : τ4.len ≤ tt.length:=l4.1;omega))
 have k6:=need_sb kReturn τ5
 have k7:=ex_sb τ6
 have k8:=need_sb [59] τ7
 have k9:=need_sb [125] τ8
 rw [h1] at k1
 rw [h2] at k2
 rw [h3] at k3
 rw [h4] at k4
 rw [h5] at k5
 rw [h6] at k6
 rw [h7] at k7
 rw [h8] at k8
 rw [h9] at k9
 obtain ⟨u8,e8,s8⟩:=k9 t' ht
 obtain ⟨u7,e7,s7⟩:=k8 u8 e8
 obtain ⟨u6,e6,s6⟩:=k7.1 u7 e7
 obtain ⟨u5,e5,s5⟩:=k6 u6 e6
 obtain ⟨u4,e4,s4⟩:=k5.1 u5 e5
 obtain ⟨u3,e3,s3⟩:=k4 u4 e4
 obtain ⟨u2,e2,s2⟩:=k3 u3 e3
 obtain ⟨u1,e1,s1⟩:=k2 u2 e2
 obtain ⟨u0,e0,s0⟩:=k1.1 u1 e1
 cases e0
 have a4 : u4 <:+ tt:=s3.trans (s2.trans (s1.trans s0))
 have g5:=k5.2 u5 u4 e5 e4 (ho.suf a4)
 have g7:=k7.2 u6 e6 (ho.suf (s5.trans (s4.trans a4)))
 have hnm:=k1.2 u1 e1 tt rfl ho
 have hl:=a4.length_le
 have hw:=ho.2.2
 have h5c:=g5.2
 refine ⟨s8.trans (s7.trans (s6.trans (s5.trans (s4.trans a4)))),g5.1,?_,g7,?_⟩
 · show cntS lb ≤ 16385
   have h5d : cntS lb + u5.length ≤ u4.length:=h5c
   omega
 · show nm.length ≤ 100000
   have : nm.length ≤ 24:=hnm
   omega
theorem thing_good {n : Nat} {p : Pg} {x : Wd} {tt : List Wd} (hf : (RS.ok (x :: tt)).fin) (hx : x.k ≠ 3) (hn : 3 * tt.length + 2 ≤ n) (ho : OkW (x :: tt)) (hG : GoodP p 16385) {t' : List Wd} (ht : (thingF n p (.ok (x :: tt))).2 = .ok t') : GoodP (thingF n p (.ok (x :: tt))).1 16385 ∧ t' <:+ tt:=by
 have hft : (RS.ok tt).fin:=(adv_le hf hx).1.2
 have hot : OkW tt:=ho.suf (List.suffix_cons _ _)
 have sub : ∀ s : RS,Sb s (.ok tt) → s = .ok t' → t' <:+ tt:=fun s hs e => by
  obtain ⟨u,hu,h2⟩:=hs t' e
  cases hu
  exact h2
 cases b1 : (RS.ok (x :: tt)).is kLock with
 | true =>
  rcases limF_cases p.ls.length 8 x tt with e | e
  · have eT : thingF n p (.ok (x :: tt)) = ({ p with ls:=p.ls ++ [⟨(nameF (.ok tt)).1.2,(nameF (.ok tt)).1.1⟩] },(nameF (.ok tt)).2.need [59]):=by simp [thingF,b1,e,RS.good,RS.adv]
    rw [eT] at ht ⊢
    exact ⟨⟨hG.th,hG.fn⟩,sub _ ((need_sb _ _).trans (name_sb _).1) ht⟩
  · have eT : thingF n p (.ok (x :: tt)) = (p,.bad 2 x.a):=by simp [thingF,b1,e,RS.good]
    rw [eT] at ht
    cases ht
 | false =>
  cases b2 : (RS.ok (x :: tt)).is kFunc with
  | true =>
   rcases limF_cases p.fs.length 16 x tt with e | e
   · have eT : thingF n p (.ok (x :: tt)) = ({ p with fs:=p.fs ++ [(funcF n (.ok (x :: tt))).1] },(funcF n (.ok (x :: tt))).2):=by simp [thingF,b1,b2,e,RS.good]
     rw [eT] at ht ⊢
     have hg:=func_good n hft hn hot ht
     refine ⟨⟨hG.th,fun f hf => ?_⟩,hg.1⟩
     rcases List.mem_append.1 hf with hf | hf
     · exact hG.fn f hf
     · simp at hf
       subst hf
       exact hg.2
   · have eT : thingF n p (.ok (x :: tt)) = (p,.bad 2 x.a):=by simp [thingF,b1,b2,e,RS.good]
     rw [eT] at ht
     cases ht
  | false =>
   cases b3 : (RS.ok (x :: tt)).is kThread with
   | true =>
    rcases limF_cases p.ths.length 4 x tt with e | e
    · have eT : thingF n p (.ok (x :: tt)) = ({ p with ths:=p.ths ++ [(blockF n 0 (.ok tt)).1] },(blockF n 0 (.ok tt)).2):=by simp [thingF,b1,b2,b3,e,RS.good,RS.adv]
      rw [eT] at ht ⊢
      have kb:=(rd_all n).2.1 0 (.ok tt) hft hn
      have hg:=kb.2 t' tt ht rfl hot
      refine ⟨⟨fun l hl => ?_,hG.fn⟩,sub _ kb.1 ht⟩
      rcases List.mem_append.1 hl with hl | hl
      · exact hG.th l hl
      · simp at hl
        subst hl
        exact ⟨hg.1,by (have:=hg.2;have:=hot.2.2;omega)⟩
    · have eT : thingF n p (.ok (x :: tt)) = (p,.bad 2 x.a):=by simp [thingF,b1,b2,b3,e,RS.good]
      rw [eT] at ht
      cases ht
   | false =>
    cases b4 : ((RS.ok (x :: tt)).is kPublic || (RS.ok (x :: tt)).is kSecret) with
    | true =>
     have eT : thingF n p (.ok (x :: tt)) = ({ p with gs:=p.gs ++ [(globF p.gs.length (.ok (x :: tt))).1] },(globF p.gs.length (.ok (x :: tt))).2):=by simp [thingF,b1,b2,b3,b4]
     rw [eT] at ht ⊢
     refine ⟨⟨hG.th,hG.fn⟩,sub _ (glob_sb _ ?_) ht⟩
     rcases limF_cases p.gs.length 32 x tt with e | e
     · rw [e]
       unfold eithF
       cases b5 : (RS.ok (x :: tt)).is kSecret with
       | true => simp only [if_true];exact .refl _
       | false =>
        simp only [Bool.false_eq_true,if_false]
        rw [b5,Bool.or_false] at b4
        unfold RS.need
        rw [if_pos b4]
        exact .refl _
     · rw [e]
       exact .bad _ _ _
    | false =>
     have eT : thingF n p (.ok (x :: tt)) = (p,(RS.ok (x :: tt)).fail 11):=by simp [thingF,b1,b2,b3,b4]
     rw [eT] at ht
     cases ht
theorem whole_good (n : Nat) : ∀ (m : Nat) (p : Pg) (tt : List Wd),(RS.ok tt).fin → 3 * tt.length ≤ n + 1 → OkW tt → GoodP p 16385 → ∀ q t',wholeF n m p (.ok tt) = (q,.ok t') → GoodP q 16385
 | 0,p,tt,_,_,_,hG,q,t',h => by
  have : wholeF n 0 p (.ok tt) = (p,.ok tt):=rfl
  rw [this] at h
  cases h
  exact hG
 | m + 1,p,tt,hf,hn,ho,hG,q,t',h => by
  obtain ⟨x,r,rfl⟩:=(hf tt rfl).ne
  by_cases hx : x.k = 3
  · have e : wholeF n (m + 1) p (.ok (x :: r)) = (p,.ok (x :: r)):=by simp [wholeF,RS.hd,hx]
    rw [e] at h
    cases h
    exact hG
  · have e : wholeF n (m + 1) p (.ok (x :: r)) = wholeF n m (thingF n p (.ok (x :: r))).1 (thingF n p (.ok (x :: r))).2:=by simp [wholeF,RS.hd,RS.good,hx]
    rw [e] at h
    have hlen : 3 * r.length + 2 ≤ n:=by (simp only [List.length_cons] at hn;omega)
    have hle:=thing_le n p hf hx
    cases hq : (thingF n p (.ok (x :: r))).2 with
    | ok t2 =>
     have hg:=thing_good hf hx hlen ho hG hq
     rw [hq] at h hle
     have h2 : t2.length ≤ r.length:=hg.2.length_le
     exact whole_good n m _ t2 hle.2 (by omega) ((ho.suf (List.suffix_cons _ _)).suf hg.2) hg.1 q t' h
    | bad c a =>
     rw [hq] at h
     have e2 : wholeF n m (thingF n p (.ok (x :: r))).1 (.bad c a) = ((thingF n p (.ok (x :: r))).1,.bad c a):=by
      cases m with
      | zero => rfl
      | succ m => simp [wholeF,RS.good]
     rw [e2] at h
     cases h
theorem par_good {s : ByteArray} {ws t : List Wd} {p : Pg} (hS : Sc numO s.data.toList 0 ws none) (hs : s.size ≤ 16384) (hp : parF ws = (p,.ok t)) : GoodP p 16385:=by
 have hl : s.data.toList.length ≤ 16384:=by simpa using hs
 have h1:=hS.lens_le
 have h2:=hS.few rfl
 have hw:=hS.wd_ok fun t v h => numO_inv h
 refine whole_good (3 * ws.length + 2) (ws.length + 1) ⟨[],[],[],[]⟩ ws (fun _ e => by cases e;exact hS.fin rfl) (by omega) ⟨hw,by omega,by omega⟩ ?_ p t hp
 exact ⟨by simp,by simp⟩
end Go.Proofs.Ytbmmjomcjlpnlaa.GX
namespace Go.Proofs.Ytbmmjomcjlpnlaa
open Go Go.RowKit
structure NiceP (p : Pg) : Prop where
 nl : p.ls.length ≤ 8
 ng : p.gs.length ≤ 32
 nf : p.fs.length ≤ 16
 nt : p.ths.length ≤ 4
 ls : ∀ l ∈ p.ls,NameB l.nm
 gs : ∀ g ∈ p.gs,NameB g.nm ∧ (g.len = 0 ∨ 1 ≤ g.len ∧ g.len ≤ 64) ∧ NmOk g.by_
 fs : ∀ f ∈ p.fs,NameB f.nm ∧ f.ps.length ≤ 6 ∧ ∀ q ∈ f.ps,NameB q.nm
theorem name_nb {s : RS} (hf : s.fin) {tt : List Wd} (hh : (nameF s).2 = .ok tt) {ss : List Wd} (hs : s = .ok ss) (ho : OkW ss) : NameB (nameF s).1.1:=by
 subst hs
 obtain ⟨w,r,rfl⟩:=(hf ss rfl).ne
 rw [nameF_cons] at hh ⊢
 by_cases h : w.k ≠ 0 ∨ keyB w.t = true
 · rw [if_pos h] at hh
   cases hh
 · rw [if_neg h]
   have hk : w.k = 0:=by (cases Classical.em (w.k = 0) with | inl e => exact e | inr e => exact absurd (.inl e) h)
   have hy : keyB w.t = false:=by (cases e : keyB w.t with | false => rfl | true => exact absurd (.inr e) h)
   exact (ho.1 w (.head _)).1 hk hy
theorem lim_lt {n m : Nat} {s : RS} {u : List Wd} (hf : s.fin) (h : limF n m s = .ok u) : n < m ∧ s = .ok u:=by
 unfold limF at h
 split at h
 · cases s with
   | bad c a => cases h
   | ok ss =>
    obtain ⟨w,r,rfl⟩:=(hf ss rfl).ne
    cases h
 · exact ⟨by omega,h⟩
theorem pars_nice : ∀ (n k : Nat) (s : RS),k ≤ 6 → s.fin → ∀ (ss : List Wd),s = .ok ss → OkW ss → ∀ tt,(parsF n k s).2 = .ok tt → (∀ q ∈ (parsF n k s).1,NameB q.nm) ∧ k + (parsF n k s).1.length ≤ 6
 | 0,k,s,hk,_,_,_,_,_,_ => ⟨by simp [parsF],by simpa [parsF] using hk⟩
 | n + 1,k,s,hk,hf,ss,hs,ho,tt,ht => by
  subst hs
  have hg : (RS.ok ss).good = true:=rfl
  have l1:=lim_le hf k 6
  have l2:=kind_le l1.2
  have l3:=name_le l2.2
  unfold parsF at ht ⊢
  simp only [hg,if_true] at ht ⊢
  cases b : (nameF (kindF (limF k 6 (.ok ss))).2).2.is [44] with
  | false =>
   simp only [b,Bool.false_eq_true,if_false] at ht ⊢
   obtain ⟨u1,e1,s1⟩:=(name_sb _).1 tt ht
   obtain ⟨u0,e0,s0⟩:=kind_sb _ u1 e1
   obtain ⟨hlt,es⟩:=lim_lt hf e0
   cases es
   have hn:=name_nb l2.2 ht e1 (ho.suf s0)
   refine ⟨fun q hq => ?_,?_⟩
   · simp only [List.mem_singleton] at hq
     subst hq
     exact hn
   · simp only [List.length_cons,List.length_nil]
     omega
  | true =>
   simp only [b,if_true] at ht ⊢
   have l4:=(is_adv b l3.2).1
   have k5:=pars_sb n (k + 1) (nameF (kindF (limF k 6 (.ok ss))).2).2.adv
   obtain ⟨u4,e4,s4⟩:=k5 tt ht
   obtain ⟨u3,e3,s3⟩:=adv_sb _ u4 e4
   obtain ⟨u1,e1,s1⟩:=(name_sb _).1 u3 e3
   obtain ⟨u0,e0,s0⟩:=kind_sb _ u1 e1
   obtain ⟨hlt,es⟩:=lim_lt hf e0
   cases es
   have hn:=name_nb l2.2 e3 e1 (ho.suf s0)
   obtain ⟨i1,i2⟩:=pars_nice n (k + 1) _ (by omega) l4.2 u4 e4 (ho.suf (s3.trans (s1.trans s0))) tt ht
   refine ⟨fun q hq => ?_,?_⟩
   · rcases List.mem_cons.1 hq with rfl | hq
     · exact hn
     · exact i1 q hq
   · simp only [List.length_cons]
     omega
theorem params_nice {s : RS} (hf : s.fin) {ss : List Wd} (hs : s = .ok ss) (ho : OkW ss) {tt : List Wd} (ht : (paramsF s).2 = .ok tt) : (∀ q ∈ (paramsF s).1,NameB q.nm) ∧ (paramsF s).1.length ≤ 6:=by
 have e : paramsF s = if (s.need [40]).is [41] then ([],(s.need [40]).adv) else ((parsF 8 0 (s.need [40])).1,(parsF 8 0 (s.need [40])).2.need [41]):=rfl
 rw [e] at ht ⊢
 have l1:=need_le hf [40]
 cases b : (s.need [40]).is [41] with
 | true => simp
 | false =>
  simp only [b,Bool.false_eq_true,if_false] at ht ⊢
  obtain ⟨u2,e2,s2⟩:=need_sb [41] _ tt ht
  obtain ⟨u1,e1,s1⟩:=pars_sb 8 0 _ u2 e2
  obtain ⟨u0,e0,s0⟩:=need_sb [40] _ u1 e1
  rw [hs] at e0
  cases e0
  have h:=pars_nice 8 0 _ (by omega) l1.2 u1 e1 (ho.suf s0) u2 e2
  exact ⟨h.1,by simpa using h.2⟩
theorem lenF_nice {s : RS} (hf : s.fin) {tt : List Wd} (ht : (lenF s).2 = .ok tt) : 1 ≤ (lenF s).1 ∧ (lenF s).1 ≤ 64:=by
 cases s with
 | bad c a => cases ht
 | ok ss =>
  obtain ⟨w,r,rfl⟩:=(hf ss rfl).ne
  have e : lenF (.ok (w :: r)) = if w.k ≠ 1 then (0,.bad 11 w.a) else if w.n < 1 ∨ 64 < w.n then (0,.bad 2 w.a) else (w.n,.ok r):=rfl
  rw [e] at ht ⊢
  by_cases h1 : w.k ≠ 1
  · rw [if_pos h1] at ht
    cases ht
  · rw [if_neg h1] at ht ⊢
    by_cases h2 : w.n < 1 ∨ 64 < w.n
    · rw [if_pos h2] at ht
      cases ht
    · rw [if_neg h2]
      show 1 ≤ w.n ∧ w.n ≤ 64
      omega
theorem glob_nice {n : Nat} {s : RS} (hf : s.fin) {ss : List Wd} (hs : s = .ok ss) (ho : OkW ss) {tt : List Wd} (ht : (globF n s).2 = .ok tt) : n < 32 ∧ NameB (globF n s).1.nm ∧ ((globF n s).1.len = 0 ∨ 1 ≤ (globF n s).1.len ∧ (globF n s).1.len ≤ 64) ∧ NmOk (globF n s).1.by_:=by
 obtain ⟨τ0,h0⟩ : ∃ q,limF n 32 s = q:=⟨_,rfl⟩
 obtain ⟨⟨⟨tr,sc⟩,τ1⟩,h1⟩ : ∃ q,kindF τ0 = q:=⟨_,rfl⟩
 obtain ⟨⟨⟨nm,a⟩,τ2⟩,h2⟩ : ∃ q,nameF τ1 = q:=⟨_,rfl⟩
 obtain ⟨⟨l,τ3⟩,h3⟩ : ∃ q,(if τ2.is [91] then (let q:=lenF τ2.adv;(q.1,q.2.need [93])) else ((0 : Int),τ2)) = q:=⟨_,rfl⟩
 obtain ⟨⟨y,τ4⟩,h4⟩ : ∃ q,(if τ3.is kBy then (let q:=nameF τ3.adv;(q.1.1,q.2)) else (([] : List UInt8),τ3)) = q:=⟨_,rfl⟩
 have eG : globF n s = (⟨a,nm,tr,sc,l,y⟩,τ4.need [59]):=by
  simp only [globF,h0,h1,h2]
  rw [h3]
  simp only [h4]
 rw [eG] at ht ⊢
 have l0 : Le τ0 s:=by (have:=lim_le hf n 32;rwa [h0] at this)
 have l1 : Le τ1 τ0:=by (have:=kind_le l0.2;rwa [h1] at this)
 have l2 : Le τ2 τ1:=by (have:=name_le l1.2;rwa [h2] at this)
 obtain ⟨u4,e4,s4⟩:=need_sb [59] _ tt ht
 have k0 : Sb τ0 s:=by (have:=lim_sb n 32 s;rwa [h0] at this)
 have k1 : Sb τ1 τ0:=by (have:=kind_sb τ0;rwa [h1] at this)
 have k2 : Sb τ2 τ1:=by (have:=(name_sb τ1).1;rwa [h2] at this)
 have q3 : Sb τ3 τ2 ∧ τ3.fin ∧ ((∃ u,τ3 = .ok u) → l = 0 ∨ 1 ≤ l ∧ l ≤ 64):=by
  cases b : τ2.is [91] with
  | false =>
   rw [b] at h3
   cases h3
   exact ⟨.refl _,l2.2,fun _ => .inl rfl⟩
  | true =>
   rw [b] at h3
   cases h3
   have m1:=(is_adv b l2.2).1
   have m2 : Sb (lenF τ2.adv).2 τ2.adv:=lenF_sb _
   have m3 : (lenF τ2.adv).2.fin:=by
    cases ha : τ2.adv with
    | bad c a => exact bad_fin _ _
    | ok q =>
     obtain ⟨w,r,rfl⟩:=(m1.2 q ha).ne
     have e : lenF (.ok (w :: r)) = if w.k ≠ 1 then (0,.bad 11 w.a) else if w.n < 1 ∨ 64 < w.n then (0,.bad 2 w.a) else (w.n,.ok r):=rfl
     rw [e]
     by_cases p1 : w.k ≠ 1
     · rw [if_pos p1]
       exact bad_fin _ _
     · rw [if_neg p1]
       by_cases p2 : w.n < 1 ∨ 64 < w.n
       · rw [if_pos p2]
         exact bad_fin _ _
       · rw [if_neg p2]
         have hf2 : (RS.ok (w :: r)).fin:=fun t e => by cases e;exact m1.2 _ ha
         exact (adv_le hf2 (by omega)).1.2
   refine ⟨(need_sb _ _).trans (m2.trans (adv_sb _)),(need_le m3 [93]).2,fun ⟨u,hu⟩ => .inr ?_⟩
   obtain ⟨v,hv,_⟩:=need_sb [93] _ u hu
   exact lenF_nice m1.2 hv
 have q4 : Sb τ4 τ3 ∧ ∀ u v,τ4 = .ok u → τ3 = .ok v → OkW v → NmOk y:=by
  cases b : τ3.is kBy with
  | false =>
   rw [b] at h4
   cases h4
   exact ⟨.refl _,fun _ _ _ _ _ => .inl rfl⟩
  | true =>
   rw [b] at h4
   cases h4
   refine ⟨(name_sb _).1.trans (adv_sb _),fun u v hu hv hov => ?_⟩
   obtain ⟨w,hw,_⟩:=(name_sb τ3.adv).1 u hu
   obtain ⟨x,hx,sx⟩:=adv_sb τ3 w hw
   rw [hv] at hx
   cases hx
   exact name_nm _ u hu w hw (hov.suf sx)
 obtain ⟨u3,e3,s3⟩:=q4.1 u4 e4
 obtain ⟨u2,e2,s2⟩:=q3.1 u3 e3
 obtain ⟨u1,e1,s1⟩:=k2 u2 e2
 obtain ⟨u0,e0,s0⟩:=k1 u1 e1
 obtain ⟨hlt,es⟩:=lim_lt hf (h0.trans e0)
 rw [hs] at es
 cases es
 have hn:=name_nb l1.2 (by rw [h2];exact e2) e1 (ho.suf s0)
 rw [h2] at hn
 exact ⟨hlt,hn,q3.2.2 ⟨u3,e3⟩,q4.2 u4 u3 e4 e3 (ho.suf (s2.trans (s1.trans s0)))⟩
theorem func_nice (n : Nat) {x : Wd} {tt : List Wd} (hft : (RS.ok tt).fin) (hn : 3 * tt.length + 2 ≤ n) (ho : OkW tt) {t' : List Wd} (ht : (funcF n (.ok (x :: tt))).2 = .ok t') : NameB (funcF n (.ok (x :: tt))).1.nm ∧ (funcF n (.ok (x :: tt))).1.ps.length ≤ 6 ∧ ∀ q ∈ (funcF n (.ok (x :: tt))).1.ps,NameB q.nm:=by
 obtain ⟨⟨⟨nm,a⟩,τ1⟩,h1⟩ : ∃ q,nameF (.ok tt) = q:=⟨_,rfl⟩
 obtain ⟨⟨lp,τ2⟩,h2⟩ : ∃ q,paramsF τ1 = q:=⟨_,rfl⟩
 obtain ⟨⟨⟨tr,sc⟩,τ3⟩,h3⟩ : ∃ q,kindF τ2 = q:=⟨_,rfl⟩
 obtain ⟨τ4,h4⟩ : ∃ q,τ3.need [123] = q:=⟨_,rfl⟩
 obtain ⟨⟨lb,τ5⟩,h5⟩ : ∃ q,stmtsF n 1 kReturn τ4 = q:=⟨_,rfl⟩
 obtain ⟨τ6,h6⟩ : ∃ q,τ5.need kReturn = q:=⟨_,rfl⟩
 obtain ⟨⟨ex,τ7⟩,h7⟩ : ∃ q,exF τ6 = q:=⟨_,rfl⟩
 obtain ⟨τ8,h8⟩ : ∃ q,τ7.need [59] = q:=⟨_,rfl⟩
 obtain ⟨τ9,h9⟩ : ∃ q,τ8.need [125] = q:=⟨_,rfl⟩
 have eF : funcF n (.ok (x :: tt)) = (⟨a,nm,lp,tr,sc,lb,ex⟩,τ9):=by simp only [funcF,RS.adv,h1,h2,h3,h4,h5,h6,h7,h8,h9]
 rw [eF] at ht ⊢
 have k1:=(name_sb (.ok tt)).1
 have k2:=params_sb τ1
 have k3:=kind_sb τ2
 have k4:=need_sb [123] τ3
 have l1 : Le τ1 (.ok tt):=by (have:=name_le hft;rwa [h1] at this)
 have l2 : Le τ2 (.ok tt):=by (have:=params_le l1.2;rw [h2] at this;exact this.trans l1)
 have l3 : Le τ3 (.ok tt):=by (have:=kind_le l2.2;rw [h3] at this;exact this.trans l2)
 have l4 : Le τ4 (.ok tt):=by (have:=need_le l3.2 [123];rw [h4] at this;exact this.trans l3)
 have k5:=((rd_all n).2.2 1 kReturn τ4 l4.2 (by (have h44 : τ4.len ≤ tt.length:=l4.1;omega))).1
 have k6:=need_sb kReturn τ5
 have k7:=(ex_sb τ6).1
 have k8:=need_sb [59] τ7
 have k9:=need_sb [125] τ8
 rw [h1] at k1
 rw [h2] at k2
 rw [h3] at k3
 rw [h4] at k4
 rw [h5] at k5
 rw [h6] at k6
 rw [h7] at k7
 rw [h8] at k8
 rw [h9] at k9
 obtain ⟨u8,e8,s8⟩:=k9 t' ht
 obtain ⟨u7,e7,s7⟩:=k8 u8 e8
 obtain ⟨u6,e6,s6⟩:=k7 u7 e7
 obtain ⟨u5,e5,s5⟩:=k6 u6 e6
 obtain ⟨u4,e4,s4⟩:=k5 u5 e5
 obtain ⟨u3,e3,s3⟩:=k4 u4 e4
 obtain ⟨u2,e2,s2⟩:=k3 u3 e3
 obtain ⟨u1,e1,s1⟩:=k2 u2 e2
 obtain ⟨u0,e0,s0⟩:=k1 u1 e1
 cases e0
 have g1:=name_nb hft (by rw [h1];exact e1) rfl ho
 have g2:=params_nice l1.2 e1 (ho.suf s0) (by rw [h2];exact e2)
 rw [h1] at g1
 rw [h2] at g2
 exact ⟨g1,g2.2,g2.1⟩
theorem thing_nice {n : Nat} {p : Pg} {x : Wd} {tt : List Wd} (hf : (RS.ok (x :: tt)).fin) (hx : x.k ≠ 3) (hn : 3 * tt.length + 2 ≤ n) (ho : OkW (x :: tt)) (hG : NiceP p) {t' : List Wd} (ht : (thingF n p (.ok (x :: tt))).2 = .ok t') : NiceP (thingF n p (.ok (x :: tt))).1:=by
 have hft : (RS.ok tt).fin:=(adv_le hf hx).1.2
 have hot : OkW tt:=ho.suf (List.suffix_cons _ _)
 obtain ⟨q1,q2,q3,q4,q5,q6,q7⟩:=hG
 cases b1 : (RS.ok (x :: tt)).is kLock with
 | true =>
  rcases limF_cases p.ls.length 8 x tt with e | e
  · have eT : thingF n p (.ok (x :: tt)) = ({ p with ls:=p.ls ++ [⟨(nameF (.ok tt)).1.2,(nameF (.ok tt)).1.1⟩] },(nameF (.ok tt)).2.need [59]):=by simp [thingF,b1,e,RS.good,RS.adv]
    rw [eT] at ht ⊢
    have hl:=(lim_lt hf e).1
    obtain ⟨u1,e1,s1⟩:=need_sb [59] _ t' ht
    have hnm:=name_nb hft e1 rfl hot
    refine ⟨by (simp only [List.length_append,List.length_cons,List.length_nil];omega),q2,q3,q4,fun l hl => ?_,q6,q7⟩
    rcases List.mem_append.1 hl with hl | hl
    · exact q5 l hl
    · simp only [List.mem_singleton] at hl
      subst hl
      exact hnm
  · have eT : thingF n p (.ok (x :: tt)) = (p,.bad 2 x.a):=by simp [thingF,b1,e,RS.good]
    rw [eT] at ht
    cases ht
 | false =>
  cases b2 : (RS.ok (x :: tt)).is kFunc with
  | true =>
   rcases limF_cases p.fs.length 16 x tt with e | e
   · have eT : thingF n p (.ok (x :: tt)) = ({ p with fs:=p.fs ++ [(funcF n (.ok (x :: tt))).1] },(funcF n (.ok (x :: tt))).2):=by simp [thingF,b1,b2,e,RS.good]
     rw [eT] at ht ⊢
     have hl:=(lim_lt hf e).1
     have hg:=func_nice n hft hn hot ht
     refine ⟨q1,q2,by (simp only [List.length_append,List.length_cons,List.length_nil];omega),q4,q5,q6,fun f hf => ?_⟩
     rcases List.mem_append.1 hf with hf | hf
     · exact q7 f hf
     · simp only [List.mem_singleton] at hf
       subst hf
       exact hg
   · have eT : thingF n p (.ok (x :: tt)) = (p,.bad 2 x.a):=by simp [thingF,b1,b2,e,RS.good]
     rw [eT] at ht
     cases ht
  | false =>
   cases b3 : (RS.ok (x :: tt)).is kThread with
   | true =>
    rcases limF_cases p.ths.length 4 x tt with e | e
    · have eT : thingF n p (.ok (x :: tt)) = ({ p with ths:=p.ths ++ [(blockF n 0 (.ok tt)).1] },(blockF n 0 (.ok tt)).2):=by simp [thingF,b1,b2,b3,e,RS.good,RS.adv]
      rw [eT] at ht ⊢
      have hl:=(lim_lt hf e).1
      exact ⟨q1,q2,q3,by (simp only [List.length_append,List.length_cons,List.length_nil];omega),q5,q6,q7⟩
    · have eT : thingF n p (.ok (x :: tt)) = (p,.bad 2 x.a):=by simp [thingF,b1,b2,b3,e,RS.good]
      rw [eT] at ht
      cases ht
   | false =>
    cases b4 : ((RS.ok (x :: tt)).is kPublic || (RS.ok (x :: tt)).is kSecret) with
    | true =>
     have eT : thingF n p (.ok (x :: tt)) = ({ p with gs:=p.gs ++ [(globF p.gs.length (.ok (x :: tt))).1] },(globF p.gs.length (.ok (x :: tt))).2):=by simp [thingF,b1,b2,b3,b4]
     rw [eT] at ht ⊢
     obtain ⟨hl,hg⟩:=glob_nice hf rfl ho ht
     refine ⟨q1,by (simp only [List.length_append,List.length_cons,List.length_nil];omega),q3,q4,q5,fun g hg2 => ?_,q7⟩
     rcases List.mem_append.1 hg2 with hg2 | hg2
     · exact q6 g hg2
     · simp only [List.mem_singleton] at hg2
       subst hg2
       exact hg
    | false =>
     have eT : thingF n p (.ok (x :: tt)) = (p,(RS.ok (x :: tt)).fail 11):=by simp [thingF,b1,b2,b3,b4]
     rw [eT] at ht
     cases ht
theorem whole_nice (n : Nat) : ∀ (m : Nat) (p : Pg) (tt : List Wd),(RS.ok tt).fin → 3 * tt.length ≤ n + 1 → OkW tt → GoodP p 16385 → NiceP p → ∀ q t',wholeF n m p (.ok tt) = (q,.ok t') → NiceP q
 | 0,p,tt,_,_,_,_,hN,q,t',h => by
  have : wholeF n 0 p (.ok tt) = (p,.ok tt):=rfl
  rw [this] at h
  cases h
  exact hN
 | m + 1,p,tt,hf,hn,ho,hG,hN,q,t',h => by
  obtain ⟨x,r,rfl⟩:=(hf tt rfl).ne
  by_cases hx : x.k = 3
  · have e : wholeF n (m + 1) p (.ok (x :: r)) = (p,.ok (x :: r)):=by simp [wholeF,RS.hd,hx]
    rw [e] at h
    cases h
    exact hN
  · have e : wholeF n (m + 1) p (.ok (x :: r)) = wholeF n m (thingF n p (.ok (x :: r))).1 (thingF n p (.ok (x :: r))).2:=by simp [wholeF,RS.hd,RS.good,hx]
    rw [e] at h
    have hlen : 3 * r.length + 2 ≤ n:=by (simp only [List.length_cons] at hn;omega)
    have hle:=thing_le n p hf hx
    cases hq : (thingF n p (.ok (x :: r))).2 with
    | ok t2 =>
     have hg:=thing_good hf hx hlen ho hG hq
     have hi:=thing_nice hf hx hlen ho hN hq
     rw [hq] at h hle
     have h2 : t2.length ≤ r.length:=hg.2.length_le
     exact whole_nice n m _ t2 hle.2 (by omega) ((ho.suf (List.suffix_cons _ _)).suf hg.2) hg.1 hi q t' h
    | bad c a =>
     rw [hq] at h
     have e2 : wholeF n m (thingF n p (.ok (x :: r))).1 (.bad c a) = ((thingF n p (.ok (x :: r))).1,.bad c a):=by
      cases m with
      | zero => rfl
      | succ m => simp [wholeF,RS.good]
     rw [e2] at h
     cases h
theorem par_nice {s : ByteArray} {ws t : List Wd} {p : Pg} (hS : Sc numO s.data.toList 0 ws none) (hs : s.size ≤ 16384) (hp : parF ws = (p,.ok t)) : NiceP p:=by
 have hl : s.data.toList.length ≤ 16384:=by simpa using hs
 have h1:=hS.lens_le
 have h2:=hS.few rfl
 have hw:=hS.wd_ok fun t v h => numO_inv h
 refine whole_nice (3 * ws.length + 2) (ws.length + 1) ⟨[],[],[],[]⟩ ws (fun _ e => by cases e;exact hS.fin rfl) (by omega) ⟨hw,by omega,by omega⟩ ?_ ?_ p t hp
 · exact ⟨by simp,by simp⟩
 · exact ⟨by simp,by simp,by simp,by simp,by simp,by simp,by simp⟩
theorem cnt_in {e : Ex} : ∀ {es : List Ex},e ∈ es → e.cnt ≤ Ex.cntL es
 | x :: r,h => by
  simp only [Ex.cntL]
  rcases List.mem_cons.1 h with rfl | h
  · omega
  · have:=cnt_in h
    omega
theorem NameB.short {t : List UInt8} (h : NameB t) : t.length ≤ 100000:=by
 obtain ⟨_,_,_,_,_,h24,_⟩:=h
 omega
theorem she_fit {o : Nat} {r : Int} {x : Ex} (h : Fit o r x) : x.cnt < 1000000 → ShE x:=by
 induction h with
 | num _ _ => exact fun _ => .mk (by simp) (by simp) (by simp)
 | tru => exact fun _ => .mk (by simp) (by simp) (by simp)
 | fls => exact fun _ => .mk (by simp) (by simp) (by simp)
 | var h => exact fun _ => .mk h.short (by simp) (by simp)
 | elem h1 _ _ ih =>
  exact fun hc => .mk h1.short (by simp) fun e he => (by simp only [List.mem_singleton] at he;subst he;exact ih (by simp [Ex.cnt,Ex.cntL] at hc;omega))
 | neg _ _ ih =>
  exact fun hc => .mk (by simp) (by simp) fun e he => (by simp only [List.mem_singleton] at he;subst he;exact ih (by simp [Ex.cnt,Ex.cntL] at hc;omega))
 | not _ _ ih =>
  exact fun hc => .mk (by simp) (by simp) fun e he => (by simp only [List.mem_singleton] at he;subst he;exact ih (by simp [Ex.cnt,Ex.cntL] at hc;omega))
 | two _ _ _ _ _ ih1 ih2 =>
  intro hc
  simp [Ex.cnt,Ex.cntL] at hc
  refine .mk (by simp) (by simp) fun e he => ?_
  simp only [List.mem_cons,List.not_mem_nil,or_false] at he
  rcases he with rfl | rfl
  · exact ih1 (by omega)
  · exact ih2 (by omega)
 | brk _ _ _ _ ih => exact fun hc => ih hc
 | @call o r nm es a h1 _ _ ih =>
  intro hc
  have hl:=cntL_len es
  simp [Ex.cnt] at hc
  exact .mk h1.short (by omega) fun e he => ih e he (by have:=cnt_in he;omega)
theorem she_good {x : Ex} (h : GoodE x) : ShE x:=she_fit h.2.2.2 h.1
theorem cntS_len : ∀ (l : List Stm),l.length ≤ cntS l
 | [] => Nat.le_refl _
 | e :: r => by
  have h:=cntS_len r
  have h1 : 1 ≤ e.cnt:=by (cases e;simp only [Stm.cnt];omega)
  simp only [cntS,List.length_cons]
  omega
theorem shs_good {s : Stm} (h : GX.GoodX s) : s.cnt ≤ 1000000 → ShS s:=by
 induction h with
 | @mk k a tr sc nm ix es bd el h1 h2 hix hes hx1 hx2 hn _ _ ih1 ih2 =>
  intro hc
  simp only [Stm.cnt] at hc
  have hb:=cntS_len bd
  have he:=cntS_len el
  exact .mk hn.len (by omega) (by omega) (by omega) (by omega) (fun e h => she_good (hx1 e h)) (fun e h => she_good (hx2 e h)) (fun t ht => ih1 t ht (by have:=cnt_mem ht;omega)) (fun t ht => ih2 t ht (by have:=cnt_mem ht;omega))
theorem shp_of {p : Pg} (h : GX.GoodP p 16385) (k : NiceP p) : ShP p:=by
 refine ⟨⟨by have:=k.ng;omega,fun y hy => ⟨(k.gs y hy).1.short,(k.gs y hy).2.2.len⟩⟩,⟨by have:=k.nl;omega,fun y hy => (k.ls y hy).short⟩,⟨by have:=k.nf;omega,fun y hy => ?_⟩⟩
 obtain ⟨h1,h2,h3,h4⟩:=h.fn y hy
 have hl:=cntS_len y.bd
 exact ⟨h4,⟨by have:=(k.fs y hy).2.1;omega,fun q hq => ((k.fs y hy).2.2 q hq).short⟩,⟨by omega,fun s hs => shs_good (h1 s hs) (by have:=cnt_mem hs;omega)⟩,she_good h3⟩
def Parsed6 (B : Nat) (w' : World) (c : Int) (v0 v1 v2 v3 : Value) : Prop:=c ≠ 0 ∨ (c = 0 ∧ ∃ p rf rt,ShP p ∧ PRows B w' p v0 v1 v2 v3 rf rt)
open Go
def aw6aT : List UInt8:=[112,117,98,108,105,99,32,105,110,116,32,97,59,32,108,111,99,107,32,97,59]
def aw6aW : List Wd:=[⟨0,[112,117,98,108,105,99],0,0⟩,⟨0,[105,110,116],0,7⟩,⟨0,[97],0,11⟩,⟨2,[59],0,12⟩,⟨0,[108,111,99,107],0,14⟩,⟨0,[97],0,19⟩,⟨2,[59],0,20⟩,⟨3,[],0,21⟩]
theorem aw6a_sc : Sc numO aw6aT 0 aw6aW none:=by
 refine .word _ 0 6 0 0 _ _ (by simp [aw6aT]) rfl ?_
 refine .gap _ 6 1 _ _ (by simp [aw6aT]) rfl ?_
 refine .word _ 7 3 0 0 _ _ (by simp [aw6aT]) rfl ?_
 refine .gap _ 10 1 _ _ (by simp [aw6aT]) rfl ?_
 refine .word _ 11 1 0 0 _ _ (by simp [aw6aT]) rfl ?_
 refine .word _ 12 1 2 0 _ _ (by simp [aw6aT]) rfl ?_
 refine .gap _ 13 1 _ _ (by simp [aw6aT]) rfl ?_
 refine .word _ 14 4 0 0 _ _ (by simp [aw6aT]) rfl ?_
 refine .gap _ 18 1 _ _ (by simp [aw6aT]) rfl ?_
 refine .word _ 19 1 0 0 _ _ (by simp [aw6aT]) rfl ?_
 refine .word _ 20 1 2 0 _ _ (by simp [aw6aT]) rfl ?_
 exact .done 21
def aw6bT : List UInt8:=[115,101,99,114,101,116,32,98,111,111,108,32,103,91,51,93,59,32,108,111,99,107,32,109,59,32,102,117,110,99,32,102,40,41,32,112,117,98,108,105,99,32,105,110,116,32,123,32,114,101,116,117,114,110,32,49,59,32,125]
def aw6bW : List Wd:=[⟨0,[115,101,99,114,101,116],0,0⟩,⟨0,[98,111,111,108],0,7⟩,⟨0,[103],0,12⟩,⟨2,[91],0,13⟩,⟨1,[51],3,14⟩,⟨2,[93],0,15⟩,⟨2,[59],0,16⟩,⟨0,[108,111,99,107],0,18⟩,⟨0,[109],0,23⟩,⟨2,[59],0,24⟩,⟨0,[102,117,110,99],0,26⟩,⟨0,[102],0,31⟩,⟨2,[40],0,32⟩,⟨2,[41],0,33⟩,⟨0,[112,117,98,108,105,99],0,35⟩,⟨0,[105,110,116],0,42⟩,⟨2,[123],0,46⟩,⟨0,[114,101,116,117,114,110],0,48⟩,⟨1,[49],1,55⟩,⟨2,[59],0,56⟩,⟨2,[125],0,58⟩,⟨3,[],0,59⟩]
theorem aw6b_sc : Sc numO aw6bT 0 aw6bW none:=by
 refine .word _ 0 6 0 0 _ _ (by simp [aw6bT]) rfl ?_
 refine .gap _ 6 1 _ _ (by simp [aw6bT]) rfl ?_
 refine .word _ 7 4 0 0 _ _ (by simp [aw6bT]) rfl ?_
 refine .gap _ 11 1 _ _ (by simp [aw6bT]) rfl ?_
 refine .word _ 12 1 0 0 _ _ (by simp [aw6bT]) rfl ?_
 refine .word _ 13 1 2 0 _ _ (by simp [aw6bT]) rfl ?_
 refine .word _ 14 1 1 3 _ _ (by simp [aw6bT]) ?_ ?_
 · show (match numO [51] with | some v => Tok.word 1 1 v | none => .bad 10) = _
   rw [num_3]
 refine .word _ 15 1 2 0 _ _ (by simp [aw6bT]) rfl ?_
 refine .word _ 16 1 2 0 _ _ (by simp [aw6bT]) rfl ?_
 refine .gap _ 17 1 _ _ (by simp [aw6bT]) rfl ?_
 refine .word _ 18 4 0 0 _ _ (by simp [aw6bT]) rfl ?_
 refine .gap _ 22 1 _ _ (by simp [aw6bT]) rfl ?_
 refine .word _ 23 1 0 0 _ _ (by simp [aw6bT]) rfl ?_
 refine .word _ 24 1 2 0 _ _ (by simp [aw6bT]) rfl ?_
 refine .gap _ 25 1 _ _ (by simp [aw6bT]) rfl ?_
 refine .word _ 26 4 0 0 _ _ (by simp [aw6bT]) rfl ?_
 refine .gap _ 30 1 _ _ (by simp [aw6bT]) rfl ?_
 refine .word _ 31 1 0 0 _ _ (by simp [aw6bT]) rfl ?_
 refine .word _ 32 1 2 0 _ _ (by simp [aw6bT]) rfl ?_
 refine .word _ 33 1 2 0 _ _ (by simp [aw6bT]) rfl ?_
 refine .gap _ 34 1 _ _ (by simp [aw6bT]) rfl ?_
 refine .word _ 35 6 0 0 _ _ (by simp [aw6bT]) rfl ?_
 refine .gap _ 41 1 _ _ (by simp [aw6bT]) rfl ?_
 refine .word _ 42 3 0 0 _ _ (by simp [aw6bT]) rfl ?_
 refine .gap _ 45 1 _ _ (by simp [aw6bT]) rfl ?_
 refine .word _ 46 1 2 0 _ _ (by simp [aw6bT]) rfl ?_
 refine .gap _ 47 1 _ _ (by simp [aw6bT]) rfl ?_
 refine .word _ 48 6 0 0 _ _ (by simp [aw6bT]) rfl ?_
 refine .gap _ 54 1 _ _ (by simp [aw6bT]) rfl ?_
 refine .word _ 55 1 1 1 _ _ (by simp [aw6bT]) ?_ ?_
 · show (match numO [49] with | some v => Tok.word 1 1 v | none => .bad 10) = _
   rw [num_1]
 refine .word _ 56 1 2 0 _ _ (by simp [aw6bT]) rfl ?_
 refine .gap _ 57 1 _ _ (by simp [aw6bT]) rfl ?_
 refine .word _ 58 1 2 0 _ _ (by simp [aw6bT]) rfl ?_
 exact .done 59
def aw6aP : Pg:=⟨[⟨11,[97],false,false,0,[]⟩],[⟨19,[97]⟩],[],[]⟩
theorem aw6a_par : parF aw6aW = (aw6aP,.ok [⟨3,[],0,21⟩]):=by
 have t1 : thingF 26 ⟨[],[],[],[]⟩ (.ok aw6aW) = (⟨[⟨11,[97],false,false,0,[]⟩],[],[],[]⟩,.ok (⟨0,[108,111,99,107],0,14⟩ :: ⟨0,[97],0,19⟩ :: ⟨2,[59],0,20⟩ :: [⟨3,[],0,21⟩])):=by
  unfold thingF
  rw [if_neg (by decide),if_neg (by decide),if_neg (by decide),if_pos (by decide)]
  rfl
 have t2 : thingF 26 ⟨[⟨11,[97],false,false,0,[]⟩],[],[],[]⟩ (.ok (⟨0,[108,111,99,107],0,14⟩ :: ⟨0,[97],0,19⟩ :: ⟨2,[59],0,20⟩ :: [⟨3,[],0,21⟩])) = (aw6aP,.ok [⟨3,[],0,21⟩]):=by
  unfold thingF
  rw [if_pos (by decide)]
  rfl
 have w1 : ∀ m p,wholeF 26 (m + 1) p (.ok aw6aW) = wholeF 26 m (thingF 26 p (.ok aw6aW)).1 (thingF 26 p (.ok aw6aW)).2:=fun m p => whole_more (by decide)
 show wholeF 26 9 ⟨[],[],[],[]⟩ (.ok aw6aW) = _
 rw [w1 8,t1]
 show wholeF 26 (7 + 1) _ (.ok (_ :: _)) = _
 rw [whole_more (by decide),t2]
 exact whole_stop rfl
def aw6bP : Pg:=⟨[⟨12,[103],true,true,3,[]⟩],[⟨23,[109]⟩],[⟨31,[102],[],false,false,[],.mk 0 0 1 [] [] 55⟩],[]⟩
theorem aw6b_par : parF aw6bW = (aw6bP,.ok [⟨3,[],0,59⟩]):=by
 have t1 : thingF 68 ⟨[],[],[],[]⟩ (.ok aw6bW) = (⟨[⟨12,[103],true,true,3,[]⟩],[],[],[]⟩,.ok (⟨0,[108,111,99,107],0,18⟩ :: ⟨0,[109],0,23⟩ :: ⟨2,[59],0,24⟩ :: ⟨0,[102,117,110,99],0,26⟩ :: ⟨0,[102],0,31⟩ :: ⟨2,[40],0,32⟩ :: ⟨2,[41],0,33⟩ :: ⟨0,[112,117,98,108,105,99],0,35⟩ :: ⟨0,[105,110,116],0,42⟩ :: ⟨2,[123],0,46⟩ :: ⟨0,[114,101,116,117,114,110],0,48⟩ :: ⟨1,[49],1,55⟩ :: ⟨2,[59],0,56⟩ :: ⟨2,[125],0,58⟩ :: [⟨3,[],0,59⟩])):=by
  unfold thingF
  rw [if_neg (by decide),if_neg (by decide),if_neg (by decide),if_pos (by decide)]
  rfl
 have t2 : thingF 68 ⟨[⟨12,[103],true,true,3,[]⟩],[],[],[]⟩ (.ok (⟨0,[108,111,99,107],0,18⟩ :: ⟨0,[109],0,23⟩ :: ⟨2,[59],0,24⟩ :: ⟨0,[102,117,110,99],0,26⟩ :: ⟨0,[102],0,31⟩ :: ⟨2,[40],0,32⟩ :: ⟨2,[41],0,33⟩ :: ⟨0,[112,117,98,108,105,99],0,35⟩ :: ⟨0,[105,110,116],0,42⟩ :: ⟨2,[123],0,46⟩ :: ⟨0,[114,101,116,117,114,110],0,48⟩ :: ⟨1,[49],1,55⟩ :: ⟨2,[59],0,56⟩ :: ⟨2,[125],0,58⟩ :: [⟨3,[],0,59⟩])) = (⟨[⟨12,[103],true,true,3,[]⟩],[⟨23,[109]⟩],[],[]⟩,.ok (⟨0,[102,117,110,99],0,26⟩ :: ⟨0,[102],0,31⟩ :: ⟨2,[40],0,32⟩ :: ⟨2,[41],0,33⟩ :: ⟨0,[112,117,98,108,105,99],0,35⟩ :: ⟨0,[105,110,116],0,42⟩ :: ⟨2,[123],0,46⟩ :: ⟨0,[114,101,116,117,114,110],0,48⟩ :: ⟨1,[49],1,55⟩ :: ⟨2,[59],0,56⟩ :: ⟨2,[125],0,58⟩ :: [⟨3,[],0,59⟩])):=by
  unfold thingF
  rw [if_pos (by decide)]
  rfl
 have he : exF (.ok (⟨1,[49],1,55⟩ :: ⟨2,[59],0,56⟩ :: ⟨2,[125],0,58⟩ :: [⟨3,[],0,59⟩])) = (.mk 0 0 1 [] [] 55,.ok (⟨2,[59],0,56⟩ :: ⟨2,[125],0,58⟩ :: [⟨3,[],0,59⟩])):=exn (rk5_se _ _)
 have hs : stmtsF 68 1 kReturn (.ok (⟨0,[114,101,116,117,114,110],0,48⟩ :: ⟨1,[49],1,55⟩ :: ⟨2,[59],0,56⟩ :: ⟨2,[125],0,58⟩ :: [⟨3,[],0,59⟩])) = ([],.ok (⟨0,[114,101,116,117,114,110],0,48⟩ :: ⟨1,[49],1,55⟩ :: ⟨2,[59],0,56⟩ :: ⟨2,[125],0,58⟩ :: [⟨3,[],0,59⟩])):=by
  show stmtsF (67 + 1) 1 kReturn _ = _
  unfold stmtsF
  simp (config:={ decide:=true }) [RS.is,RS.good,RS.adv,RS.hd,RS.need,RS.fail,kReturn]
 have hf : funcF 68 (.ok (⟨0,[102,117,110,99],0,26⟩ :: ⟨0,[102],0,31⟩ :: ⟨2,[40],0,32⟩ :: ⟨2,[41],0,33⟩ :: ⟨0,[112,117,98,108,105,99],0,35⟩ :: ⟨0,[105,110,116],0,42⟩ :: ⟨2,[123],0,46⟩ :: ⟨0,[114,101,116,117,114,110],0,48⟩ :: ⟨1,[49],1,55⟩ :: ⟨2,[59],0,56⟩ :: ⟨2,[125],0,58⟩ :: [⟨3,[],0,59⟩])) = (⟨31,[102],[],false,false,[],.mk 0 0 1 [] [] 55⟩,.ok [⟨3,[],0,59⟩]):=by
  unfold funcF
  have hb : ((kindF (paramsF (nameF (RS.ok (⟨0,[102,117,110,99],0,26⟩ :: ⟨0,[102],0,31⟩ :: ⟨2,[40],0,32⟩ :: ⟨2,[41],0,33⟩ :: ⟨0,[112,117,98,108,105,99],0,35⟩ :: ⟨0,[105,110,116],0,42⟩ :: ⟨2,[123],0,46⟩ :: ⟨0,[114,101,116,117,114,110],0,48⟩ :: ⟨1,[49],1,55⟩ :: ⟨2,[59],0,56⟩ :: ⟨2,[125],0,58⟩ :: [⟨3,[],0,59⟩])).adv).2).2).2.need [123]) = .ok (⟨0,[114,101,116,117,114,110],0,48⟩ :: ⟨1,[49],1,55⟩ :: ⟨2,[59],0,56⟩ :: ⟨2,[125],0,58⟩ :: [⟨3,[],0,59⟩]):=rfl
  simp only [hb,hs]
  have hr : (RS.ok (⟨0,[114,101,116,117,114,110],0,48⟩ :: ⟨1,[49],1,55⟩ :: ⟨2,[59],0,56⟩ :: ⟨2,[125],0,58⟩ :: [⟨3,[],0,59⟩])).need kReturn = .ok (⟨1,[49],1,55⟩ :: ⟨2,[59],0,56⟩ :: ⟨2,[125],0,58⟩ :: [⟨3,[],0,59⟩]):=rfl
  rw [hr,he]
  rfl
 have t3 : thingF 68 ⟨[⟨12,[103],true,true,3,[]⟩],[⟨23,[109]⟩],[],[]⟩ (.ok (⟨0,[102,117,110,99],0,26⟩ :: ⟨0,[102],0,31⟩ :: ⟨2,[40],0,32⟩ :: ⟨2,[41],0,33⟩ :: ⟨0,[112,117,98,108,105,99],0,35⟩ :: ⟨0,[105,110,116],0,42⟩ :: ⟨2,[123],0,46⟩ :: ⟨0,[114,101,116,117,114,110],0,48⟩ :: ⟨1,[49],1,55⟩ :: ⟨2,[59],0,56⟩ :: ⟨2,[125],0,58⟩ :: [⟨3,[],0,59⟩])) = (aw6bP,.ok [⟨3,[],0,59⟩]):=by
  unfold thingF
  rw [if_neg (by decide),if_pos (by decide)]
  have hl : limF ([] : List Fn).length 16 (.ok (⟨0,[102,117,110,99],0,26⟩ :: ⟨0,[102],0,31⟩ :: ⟨2,[40],0,32⟩ :: ⟨2,[41],0,33⟩ :: ⟨0,[112,117,98,108,105,99],0,35⟩ :: ⟨0,[105,110,116],0,42⟩ :: ⟨2,[123],0,46⟩ :: ⟨0,[114,101,116,117,114,110],0,48⟩ :: ⟨1,[49],1,55⟩ :: ⟨2,[59],0,56⟩ :: ⟨2,[125],0,58⟩ :: [⟨3,[],0,59⟩])) = .ok (⟨0,[102,117,110,99],0,26⟩ :: ⟨0,[102],0,31⟩ :: ⟨2,[40],0,32⟩ :: ⟨2,[41],0,33⟩ :: ⟨0,[112,117,98,108,105,99],0,35⟩ :: ⟨0,[105,110,116],0,42⟩ :: ⟨2,[123],0,46⟩ :: ⟨0,[114,101,116,117,114,110],0,48⟩ :: ⟨1,[49],1,55⟩ :: ⟨2,[59],0,56⟩ :: ⟨2,[125],0,58⟩ :: [⟨3,[],0,59⟩]):=rfl
  simp only [hl]
  rw [if_pos (by decide),hf]
  rfl
 have w1 : ∀ m p,wholeF 68 (m + 1) p (.ok aw6bW) = wholeF 68 m (thingF 68 p (.ok aw6bW)).1 (thingF 68 p (.ok aw6bW)).2:=fun m p => whole_more (by decide)
 show wholeF 68 23 ⟨[],[],[],[]⟩ (.ok aw6bW) = _
 rw [w1 22,t1]
 show wholeF 68 (21 + 1) _ (.ok (_ :: _)) = _
 rw [whole_more (by decide),t2]
 show wholeF 68 (20 + 1) _ (.ok (_ :: _)) = _
 rw [whole_more (by decide),t3]
 exact whole_stop rfl
theorem setCells_same (b : Nat) (T : TypeId) : ∀ (vs : List Value) (o : Nat) (X : World) (cs : Array Value),X.heap[b]? = some (.cells cs T (0,0)) → o + vs.length ≤ cs.size →
 ∃ cs',(X.setCells b o vs).heap[b]? = some (.cells cs' T (0,0)) ∧ cs'.size = cs.size ∧ (∀ j u,vs[j]? = some u → cs'[o + j]? = some u) ∧ ∀ q,(q < o ∨ o + vs.length ≤ q) → cs'[q]? = cs[q]?
 | [],o,X,cs,h,_ => ⟨cs,h,rfl,fun j u hu => by simp at hu,fun _ _ => rfl⟩
 | v :: r,o,X,cs,h,hl => by
  have hs:=heap_setCell_same X b o cs T v h
  simp only [List.length_cons] at hl
  obtain ⟨cs',h1,h2,h3,h4⟩:=setCells_same b T r (o + 1) _ _ hs (by simp;omega)
  refine ⟨cs',h1,by rw [h2];simp,fun j u hu => ?_,fun q hq => ?_⟩
  · cases j with
    | zero =>
     simp only [List.getElem?_cons_zero,Option.some.injEq] at hu
     subst hu
     rw [Nat.add_zero,h4 o (by omega)]
     have : o < cs.size:=by omega
     simp [Array.getElem?_setIfInBounds,this]
    | succ j =>
     simp only [List.getElem?_cons_succ] at hu
     have:=h3 j u hu
     rw [show o + (j + 1) = o + 1 + j by omega]
     exact this
  · simp only [List.length_cons] at hq
    rw [h4 q (by omega),Array.getElem?_setIfInBounds,if_neg (by omega)]
theorem setCells_fr (b : Nat) : ∀ (vs : List Value) (o : Nat) (W X : World),Fr2 b b W X → Fr2 b b W (X.setCells b o vs)
 | [],_,_,_,h => h
 | v :: r,o,W,X,h => setCells_fr b r (o + 1) W _ (h.set (.inl rfl) o v)
theorem Fr2.drewN {s b : Nat} {W X : World} (h : Fr2 s b W X) (n : Nat) : Fr2 s b W (X.drewN n):=h
theorem str_data (s : ByteArray) : (⟨s.data.toList.toArray⟩ : ByteArray) = s:=by simp
theorem del_rows {B : Nat} {W : World} {g l c i : Nat} {L : List ByteArray} (ho : W.ownsRow B 9 1 (.slice (some ⟨g,0,none⟩) l c) l (L.map Value.string)) (hl : L.length = l) (hi : i ≤ l) :
 Calls Try.prog 31 #[.slice (some ⟨g,0,none⟩) l c,.int .i64 i,.int .i64 l] W fun e w' => e = .returned (.slice (some ⟨g,0,none⟩) i c) ∧ w'.ownsRow B 9 1 (.slice (some ⟨g,0,none⟩) i c) i ((L.take i).map Value.string) ∧ Fr2 g g W w':=by
 rcases ho.2 with ⟨h0,_⟩ | ⟨g',cap,cur,hv,hB,hg,hcap,hmx,hsz,htk⟩
 · cases h0
 cases hv
 have hcell : ∀ j,j < l → cur[j]? = some (.string (L.getD j ⟨#[]⟩)):=fun j hj => by
  have h1 : (L.map Value.string)[j]? = some (.string (L.getD j ⟨#[]⟩)):=by
   rw [List.getElem?_map,List.getElem?_eq_getElem (by omega),List.getD_eq_getElem?_getD,List.getElem?_eq_getElem (by omega)]
   rfl
  rw [← htk,List.getElem?_take] at h1
  split at h1
  · simpa using h1
  · cases h1
 refine (Try.slices_Delete_string_cells g 0 l c i l (fun j => L.getD j ⟨#[]⟩) W hcap hmx hi (Nat.le_refl _) (fun j hj => by rw [Nat.zero_add];exact (cell_of_row _ _ _ _ _ _ hg).trans (hcell j hj)) (fun j _ => by rw [Nat.zero_add];exact frozen_of_row _ _ _ _ _ hg)).mono ?_
 rintro e w' ⟨rfl,q,rfl⟩
 obtain ⟨vs,hvs⟩ : ∃ vs,((Lib.strsOf (fun j => L.getD j ⟨#[]⟩) l).take i ++ (Lib.strsOf (fun j => L.getD j ⟨#[]⟩) l).drop l ++ List.replicate (l - i) []).map encStr = vs:=⟨_,rfl⟩
 rw [hvs]
 have hlen : vs.length = l:=by
  rw [← hvs]
  simp [Lib.strsOf]
  omega
 have hat : ∀ j,j < i → vs[j]? = some (.string (L.getD j ⟨#[]⟩)):=fun j hj => by
  rw [← hvs,List.getElem?_map,List.append_assoc,List.getElem?_append_left (by simp [Lib.strsOf];omega),List.getElem?_take,if_pos hj]
  simp only [Lib.strsOf,List.getElem?_map]
  rw [List.getElem?_range (by omega)]
  simp only [Option.map_some,encStr,str_data]
 have hg' : (W.drewN q).heap[g]? = some (.cells cur 9 (0,0)):=hg
 obtain ⟨cs',e1,e2,e3,e4⟩:=setCells_same g 9 vs 0 (W.drewN q) cur hg' (by omega)
 refine ⟨by rw [show l - (l - i) = i by omega],⟨by simp;omega,.inr ⟨g,c,cs',rfl,hB,e1,by omega,hmx,by omega,?_⟩⟩,setCells_fr g vs 0 W _ (Fr2.drewN (Fr2.refl _ _ _) q)⟩
 apply List.ext_getElem?
 intro j
 by_cases hj : j < i
 · have h1:=e3 j _ (hat j hj)
   rw [Nat.zero_add] at h1
   rw [List.getElem?_take,if_pos (by omega),Array.getElem?_toList,h1,List.getElem?_map,List.getElem?_take,if_pos hj,List.getElem?_eq_getElem (by omega),List.getD_eq_getElem?_getD,List.getElem?_eq_getElem (by omega)]
   rfl
 · rw [List.getElem?_eq_none (by simp;omega),List.getElem?_eq_none (by simp;omega)]
end Go.Proofs.Ytbmmjomcjlpnlaa
namespace Go.Proofs.Ytbmmjomcjlpnlaa
open Go Go.RowKit
def TF.dels (F : TF) (l : List ByteArray) : TF:=l.foldl (fun G x => G.del x.data.toList) F
section
variable {B : Nat} {W X : World} {s n : Nat} {F : TF} {L L' : List ByteArray} {bl bl' : List Nat} {m lv bv lv' bv' : Value}
theorem leave_none (h : Hid (Scp B W s n F L [] m lv bv)) :
 Calls Try.prog 11 #[.pointer (some ⟨s,0,none⟩)] W fun e w' => e = .returned (.tuple #[]) ∧ w' = W:=by
 obtain ⟨mm,p,c,q,d,rfl,rfl,rfl⟩:=h.out.forms
 have heq:=eql_ptr_some ⟨s,0,none⟩ W
 obtain ⟨sl,⟨c0,c1,c2⟩,f0,f1,f2⟩:=h.out.facts
 go_enter Try.func11,Try.ntmps11
 go_wp2
 refine bodyPost_ret (results_none rfl _ _ _) rfl ?_
 exact ⟨rfl,rfl⟩
theorem row_last {k : Nat} {q : Option Addr} {d a : Nat} {b0 : List Nat} (h : W.ownsRow B 3 1 (.slice q (k + 1) d) (k + 1) ((b0 ++ [a]).map fun (i : Nat) => Value.int .i64 (i : Int))) (hk : b0.length = k) :
 ∃ gb,q = some ⟨gb,0,none⟩ ∧ gb < W.heap.size ∧ W.cell? ⟨gb,k,none⟩ = some (.int .i64 a) ∧ k + 1 ≤ d ∧ W.ownsRow B 3 1 (.slice q k d) k (b0.map fun (i : Nat) => Value.int .i64 (i : Int)):=by
 rcases h.2 with ⟨h0,_⟩ | ⟨g',cap,cur,hv,hB,hg,hcap,hmx,hsz,htk⟩
 · cases h0
 · cases hv
   refine ⟨g',rfl,(Array.getElem?_eq_some_iff.1 hg).1,(cell_of_row _ _ _ _ _ _ hg).trans ?_,hcap,by simp;omega,.inr ⟨g',d,cur,rfl,hB,hg,by omega,hmx,hsz,?_⟩⟩
   · have h1 : ((b0 ++ [a]).map fun (i : Nat) => Value.int .i64 (i : Int))[k]? = some (.int .i64 a):=by
      rw [List.map_append,List.getElem?_append_right (by simp;omega)]
      simp [hk]
     rw [← htk,List.getElem?_take] at h1
     split at h1
     · simpa using h1
     · cases h1
   · have h2:=congrArg (List.take (k * 1)) htk
     rw [List.take_take,List.map_append,List.take_left' (by simp;omega)] at h2
     rw [← h2]
     congr 1
     omega
theorem leave_nil {b0 : List Nat} (h : Hid (Scp B W s n F [] (b0 ++ [0]) m lv bv)) (hb : b0.length ≤ 1000000) :
 Calls Try.prog 11 #[.pointer (some ⟨s,0,none⟩)] W fun e w' => e = .returned (.tuple #[]) ∧ ∃ lv' bv',Scp B w' s n F [] b0 m lv' bv' ∧ Below B W w' ∧ Apx W w' s m lv bv m lv' bv':=by
 obtain ⟨mm,p,c,q,d,rfl,rfl,rfl⟩:=h.out.forms
 have heq:=eql_ptr_some ⟨s,0,none⟩ W
 obtain ⟨k,hk⟩ : ∃ k,b0.length = k:=⟨_,rfl⟩
 have hrow:=h.out.bk
 have hfa:=h.out.facts
 rw [List.length_append,List.length_singleton,hk] at hrow hfa
 obtain ⟨gb,rfl,hgb,hcb,hkd,hrow0⟩:=row_last hrow hk
 obtain ⟨sl,⟨c0,c1,c2⟩,f0,f1,f2⟩:=hfa
 have hk1 : ¬ ((k : Int) + 1) = 0:=by omega
 have hkb : (((k : Int) + 1) == 0) = false:=by simpa using hk1
 have HK:=hid hk
 have HR:=hid hrow0
 rw [hk] at hb
 clear hrow hrow0 hk
 have e1 : (k : Int) + 1 - 1 = (k : Int):=by omega
 cases p with
 | none =>
  go_enter Try.func11,Try.ntmps11
  go_upto_region 4 with (fail)
  go_loopw [36] (fun iv wr => iv = .int .i64 0 ∧ wr = W) (fun _ _ => 0)
  case atStart => exact ⟨rfl,rfl⟩
  case round =>
   obtain ⟨rfl,rfl⟩:=hrel
   go_upto_region 8 with (fail)
   go_region_law (first
    | (go_simp;go_at_call 31;(with_reducible refine (Try.slices_Delete_string_empty _ _ _).mono ?_);rintro e2 w3 ⟨rfl,rfl⟩))
   all_goals go_wp2
   all_goals go_end0
   all_goals
    have hsX:=heap_setCell_same (wr.setCell ⟨s,1,none⟩ (.slice none 0 c)).drew s 2 _ _ (.slice (some ⟨gb,0,none⟩) k d) (heap_setCell_same wr s 1 _ _ (.slice none 0 c) h.out.blk)
    have hfr : Fr2 s (rowB (.slice none 0 0) s) wr ((wr.setCell ⟨s,1,none⟩ (.slice none 0 c)).drew.setCell ⟨s,2,none⟩ (.slice (some ⟨gb,0,none⟩) k d)):=(((Fr2.refl _ _ wr).set (.inl rfl) 1 _).drew).set (.inl rfl) 2 _
    have hlo:=own_turn h.out (World.ownsRow_nil wr B 3 1) h.out.lo (by decide) (by decide) hfr
    have hbk:=own_turn h.out (World.ownsRow_nil wr B 9 1) HR.out (by decide) (by decide) hfr
    obtain ⟨h1,h2⟩:=h.out.turn (L':=[]) (bl':=b0) (World.ownsRow_nil wr B 3 1) (.inr rfl) hfr hsX hlo (by rw [HK.out];exact hbk)
    exact ⟨rfl,_,_,h1,h2,fun g hg ha => ⟨hfr.2 g hg ha.1 ha.1,ha.1,ha.2.1,ha.2.2.1,ha.2.2.2⟩⟩
 | some a =>
  go_enter Try.func11,Try.ntmps11
  go_upto_region 4 with (fail)
  go_loopw [36] (fun iv wr => iv = .int .i64 0 ∧ wr = W) (fun _ _ => 0)
  case atStart => exact ⟨rfl,rfl⟩
  case round =>
   obtain ⟨rfl,rfl⟩:=hrel
   go_upto_region 8 with (fail)
   go_region_law (first
    | (go_simp;go_at_call 31;(with_reducible refine (Try.slices_Delete_string_empty _ _ _).mono ?_);rintro e2 w3 ⟨rfl,rfl⟩))
   all_goals go_wp2
   all_goals go_end0
   all_goals
    have hsX:=heap_setCell_same (wr.setCell ⟨s,1,none⟩ (.slice (some a) 0 c)).drew s 2 _ _ (.slice (some ⟨gb,0,none⟩) k d) (heap_setCell_same wr s 1 _ _ (.slice (some a) 0 c) h.out.blk)
    have hfr : Fr2 s (rowB (.slice none 0 0) s) wr ((wr.setCell ⟨s,1,none⟩ (.slice (some a) 0 c)).drew.setCell ⟨s,2,none⟩ (.slice (some ⟨gb,0,none⟩) k d)):=(((Fr2.refl _ _ wr).set (.inl rfl) 1 _).drew).set (.inl rfl) 2 _
    have hlo:=own_turn h.out (World.ownsRow_nil wr B 3 1) h.out.lo (by decide) (by decide) hfr
    have hbk:=own_turn h.out (World.ownsRow_nil wr B 9 1) HR.out (by decide) (by decide) hfr
    obtain ⟨h1,h2⟩:=h.out.turn (L':=[]) (bl':=b0) (World.ownsRow_nil wr B 3 1) (.inr rfl) hfr hsX hlo (by rw [HK.out];exact hbk)
    exact ⟨rfl,_,_,h1,h2,fun g hg ha => ⟨hfr.2 g hg ha.1 ha.1,ha.1,ha.2.1,ha.2.2.1,ha.2.2.2⟩⟩
end
end Go.Proofs.Ytbmmjomcjlpnlaa
namespace Go.Proofs.Ytbmmjomcjlpnlaa
open Go Go.RowKit
theorem Fr2.wk {g : Nat} {W X : World} (h : Fr2 g g W X) (s : Nat) : Fr2 s g W X:=⟨h.1,fun i hi _ h2 => h.2 i hi h2 h2⟩
theorem own_str {B : Nat} {W : World} {g l c : Nat} {L : List ByteArray} (ho : W.ownsRow B 9 1 (.slice (some ⟨g,0,none⟩) l c) l (L.map Value.string)) : g < W.heap.size ∧ l ≤ c ∧ c ≤ maxLen ∧ ∀ j x,L[j]? = some x → W.cell? ⟨g,j,none⟩ = some (.string x):=by
 rcases ho.2 with ⟨h0,_⟩ | ⟨g',cap,cur,hv,hB,hg,hcap,hmx,hsz,htk⟩
 · cases h0
 cases hv
 refine ⟨(Array.getElem?_eq_some_iff.1 hg).1,hcap,hmx,fun j x hx => (cell_of_row _ _ _ _ _ _ hg).trans ?_⟩
 have h1 : (L.map Value.string)[j]? = some (.string x):=by rw [List.getElem?_map,hx];rfl
 rw [← htk,List.getElem?_take] at h1
 split at h1
 · simpa using h1
 · cases h1
theorem TF.dels_snoc (F : TF) (l : List ByteArray) (x : ByteArray) : F.dels (l ++ [x]) = (F.dels l).del x.data.toList:=by simp [TF.dels]
section
variable {B : Nat} {W X : World} {s n : Nat} {F : TF} {L L' : List ByteArray} {bl bl' : List Nat} {m lv bv lv' bv' : Value}
theorem Scp.kmap {b : Nat} (h : Scp B W s n F L bl (.map (some b)) lv bv) : B ≤ b ∧ KMap W b n F.kf:=by
 rcases h.mp with ⟨e,_⟩ | ⟨b',e,h1,h2⟩
 · cases e
 · cases e
   exact ⟨h1,h2⟩
theorem leave_some {b0 : List Nat} {a b g c : Nat} (h : Hid (Scp B W s n F L (b0 ++ [a]) (.map (some b)) (.slice (some ⟨g,0,none⟩) L.length c) bv)) (hb : b0.length ≤ 1000000) (ha : a ≤ L.length) (hL : L.length ≤ 1000000) (hx : ∀ x ∈ L,x.size ≤ 140737488355328) (hac : a < c) :
 Calls Try.prog 11 #[.pointer (some ⟨s,0,none⟩)] W fun e w' => e = .returned (.tuple #[]) ∧ ∃ bv',Scp B w' s n (F.dels (L.drop a)) (L.take a) b0 (.map (some b)) (.slice (some ⟨g,0,none⟩) a c) bv' ∧ Below B W w' ∧ Oth W w' ∧ Apx W w' s (.map (some b)) (.slice (some ⟨g,0,none⟩) L.length c) bv (.map (some b)) (.slice (some ⟨g,0,none⟩) a c) bv':=by
 obtain ⟨mm,p',c',q,d,e0,e1',rfl⟩:=h.out.forms
 cases e0
 cases e1'
 have heq:=eql_ptr_some ⟨s,0,none⟩ W
 obtain ⟨k,hk⟩ : ∃ k,b0.length = k:=⟨_,rfl⟩
 obtain ⟨l,hl⟩ : ∃ l,L.length = l:=⟨_,rfl⟩
 have hrow:=h.out.bk
 have hfa:=h.out.facts
 rw [List.length_append,List.length_singleton,hk] at hrow hfa
 rw [hl] at hfa ha hL
 obtain ⟨gb,rfl,hgb,hcb,hkd,hrow0⟩:=row_last hrow hk
 obtain ⟨sl,⟨c0,c1,c2⟩,f0,f1,f2⟩:=hfa
 have hk1 : ¬ ((k : Int) + 1) = 0:=by omega
 have hkb : (((k : Int) + 1) == 0) = false:=by simpa using hk1
 have HK : Hid (b0.length = k ∧ L.length = l):=hid ⟨hk,hl⟩
 have HX:=hid hx
 have HS : Hid (Scp B W s n F L (b0 ++ [a]) (.map (some b)) (.slice (some ⟨g,0,none⟩) l c) (.slice (some ⟨gb,0,none⟩) (k + 1) d)):=hid (by (have:=h.out;rw [hl,List.length_append,List.length_singleton,hk] at this;exact this))
 obtain ⟨hgl,hlc,hcm,_⟩:=own_str (by (have:=HS.out.lo;rwa [hl] at this) : W.ownsRow B 9 1 (.slice (some ⟨g,0,none⟩) l c) l (L.map Value.string))
 have hBW : B ≤ W.heap.size:=Nat.le_of_lt (Nat.lt_of_le_of_lt h.out.hs sl)
 rw [hk] at hb
 clear hrow hrow0 hk hl hx h
 have e1 : (k : Int) + 1 - 1 = (k : Int):=by omega
 have hac1 : ¬ c = a:=by omega
 have hac2 : ¬ a = c:=by omega
 have hac3 : ¬ c - a = 0:=by omega
 go_enter Try.func11,Try.ntmps11
 go_upto_region 4 with (fail)
 go_loopw [36] (fun iv wr => ∃ i : Nat,iv = .int .i64 i ∧ i ≤ l - a ∧ (Below B W wr ∧ Oth W wr ∧ Apx W wr s (.map (some b)) (.slice (some ⟨g,0,none⟩) l c) (.slice (some ⟨gb,0,none⟩) (k + 1) d) (.map (some b)) (.slice (some ⟨g,0,none⟩) l c) (.slice (some ⟨gb,0,none⟩) (k + 1) d)) ∧ Scp B wr s n (F.dels ((L.drop a).take i)) L (b0 ++ [a]) (.map (some b)) (.slice (some ⟨g,0,none⟩) l c) (.slice (some ⟨gb,0,none⟩) (k + 1) d)) (fun iv _ => (l - a) - (intOf iv).toNat)
 case atStart => exact ⟨0,rfl,Nat.zero_le _,⟨⟨rfl,rfl,rfl,Nat.le_refl _,fun _ _ => rfl⟩,Oth.refl _,Apx.refl _ _ _ _ _⟩,HS.out⟩
 case round =>
  obtain ⟨i,rfl,hi,⟨hbr,hor,har⟩,hsr⟩:=hrel
  have HOR:=hid hor
  have HAR:=hid har
  clear hor har
  have HBR:=hid hbr
  have HSR:=hid hsr
  clear sl c0 c1 c2 f0 f1 f2 hgb hcb
  obtain ⟨sl,⟨c0,c1,c2⟩,f0,f1,f2⟩:=hsr.facts
  have hrow2:=hsr.bk
  rw [List.length_append,List.length_singleton,HK.out.1] at hrow2
  obtain ⟨gb',egb,hgb,hcb,_,hrow3⟩:=row_last hrow2 HK.out.1
  cases egb
  have HR3:=hid hrow3
  have HLO : Hid (wr.ownsRow B 9 1 (.slice (some ⟨g,0,none⟩) l c) l (L.map Value.string)):=hid (by (have:=hsr.lo;rwa [HK.out.2] at this))
  clear hbr hsr hrow2 hrow3
  by_cases hik : i < l - a
  · obtain ⟨x,hxx⟩ : ∃ x,L[a + i]? = some x:=⟨_,List.getElem?_eq_getElem (by (have:=HK.out.2;omega))⟩
    obtain ⟨_,_,_,hcell⟩:=own_str HLO.out
    have cx:=hcell _ _ hxx
    have hxs : x.size ≤ maxLen:=Nat.le_trans (HX.out x (List.mem_of_getElem? hxx)) (by decide)
    obtain ⟨hBb,hkm⟩:=HSR.out.kmap
    obtain ⟨w4,hrun,hk4,hg4⟩:=hkm.run_del hxs 0
    have HK4:=hid hk4
    have HG4:=hid hg4
    have HKM:=hid hkm
    have HXX:=hid hxx
    have hlt : (i : Int) < ((l - a : Nat) : Int):=by omega
    have hi0 : (0 : Int) ≤ (i : Int):=Int.natCast_nonneg _
    clear hcell hk4 hg4 hkm hxx
    go_wp2
    have hfr : Fr2 s b wr w4:=(Fr2.refl s b wr).grow HG4.out (.inr (.inl rfl))
    have hsb : s ≠ b:=HKM.out.nocells s _ _ _ HSR.out.blk
    have hs4 : w4.heap[s]? = some (.cells #[.map (some b),.slice (some ⟨g,0,none⟩) l c,.slice (some ⟨gb,0,none⟩) (k + 1) d] 89 (0,0)):=(HG4.out.block s sl (by simp;exact hsb)).trans HSR.out.blk
    have et : (L.drop a).take (i + 1) = (L.drop a).take i ++ [x]:=by
     rw [List.take_add_one,List.getElem?_drop,HXX.out]
     rfl
    have hk5 : KMap w4 b n (F.dels ((L.drop a).take (i + 1))).kf:=by (rw [et,TF.dels_snoc,TF.kf_del];exact HK4.out)
    refine ⟨⟨i + 1,by go_num,by omega,⟨below_tr HBR.out (hfr.to HSR.out.hs hBb (Nat.le_trans hBW HBR.out.size)),HOR.out.trans (Oth.fr2 hfr HSR.out.blk (fun g' cs T fr hg _ _ _ => HKM.out.nocells g' cs T fr hg)),HAR.out.trans HBR.out.size (fun g' hg' ha' => ⟨hfr.2 g' hg' ha'.1 (fun e => ha'.2.1 (by rw [e])),ha'⟩)⟩,HSR.out.next hBb hfr (fun g' cs T fr hg => HKM.out.nocells g' cs T fr hg) hs4 hk5 (fun u y hu => by rw [et,TF.dels_snoc] at hu;unfold TF.del at hu;split at hu;cases hu;exact .inl hu)⟩,?_⟩
    simp [intOf]
    omega
  · have hlt : ¬ (i : Int) < ((l - a : Nat) : Int):=by omega
    obtain rfl : l - a = i:=by omega
    go_upto_region 8 with (fail)
    have hsg : s ≠ g:=fun e => by
     have h1:=own_ne HLO.out HSR.out.blk (by decide)
     exact h1 (by rw [e];rfl)
    have HSG:=hid hsg
    go_region_law (first
     | (go_simp;go_at_call 31;(with_reducible refine (del_rows (B:=B) (own_below HLO.out ((Below.refl wr.heap.size wr).drew)) HK.out.2 ha).mono ?_);rintro e2 w3 ⟨rfl,ho3,hf3⟩;have HO3:=hid ho3;have HF3 : Hid (Fr2 g g wr w3):=hid hf3;have hs3 : w3.heap[s]? = some (.cells #[.map (some b),.slice (some ⟨g,0,none⟩) l c,.slice (some ⟨gb,0,none⟩) (k + 1) d] 89 (0,0)):=(HF3.out.2 s sl HSG.out HSG.out).trans HSR.out.blk;have HS3:=hid hs3;have c13 : w3.cell? ⟨s,1,none⟩ = some (.slice (some ⟨g,0,none⟩) l c):=cell_of_row _ _ _ _ _ _ hs3;have c23 : w3.cell? ⟨s,2,none⟩ = some (.slice (some ⟨gb,0,none⟩) (k + 1) d):=cell_of_row _ _ _ _ _ _ hs3;have f13:=frozen_of_row w3 s 1 _ _ hs3;have f23:=frozen_of_row w3 s 2 _ _ hs3;have sl3 : s < w3.heap.size:=(Array.getElem?_eq_some_iff.1 hs3).1;clear ho3 hf3 hs3))
    all_goals go_wp2
    all_goals go_end0
    all_goals
     have hsX:=heap_setCell_same (w3.setCell ⟨s,1,none⟩ (.slice (some ⟨g,0,none⟩) a c)) s 2 _ _ (.slice (some ⟨gb,0,none⟩) k d) (heap_setCell_same w3 s 1 _ _ (.slice (some ⟨g,0,none⟩) a c) HS3.out)
     have hfr : Fr2 s (rowB (.slice (some ⟨g,0,none⟩) l c) s) wr ((w3.setCell ⟨s,1,none⟩ (.slice (some ⟨g,0,none⟩) a c)).setCell ⟨s,2,none⟩ (.slice (some ⟨gb,0,none⟩) k d)):=((Fr2.wk HF3.out s).set (.inl rfl) 1 _).set (.inl rfl) 2 _
     have hlo:=own_setN (own_setN HO3.out (own_ne HO3.out HS3.out (by decide)) 1 (.slice (some ⟨g,0,none⟩) a c)) (own_ne HO3.out HS3.out (by decide)) 2 (.slice (some ⟨gb,0,none⟩) k d)
     have hbk:=own_turn HSR.out HLO.out HR3.out (by decide) (by decide) hfr
     obtain ⟨h1,h2⟩:=HSR.out.turn (L':=L.take a) (bl':=b0) HLO.out (.inl rfl) hfr hsX (by rw [List.length_take,HK.out.2,Nat.min_eq_left ha];exact hlo) (by rw [HK.out.1];exact hbk)
     have e : (L.drop a).take (l - a) = L.drop a:=List.take_of_length_le (by rw [List.length_drop,HK.out.2];exact Nat.le_refl _)
     rw [e] at h1
     have hbf:=below_tr HBR.out h2
     have hof:=HOR.out.trans (Oth.turn HSR.out HLO.out (.inl rfl) hfr)
     clear hsX hlo hbk h2 e
     exact ⟨rfl,_,h1,hbf,hof,by (rw [HK.out.2];exact HAR.out.trans HBR.out.size (fun g' hg' ha' => ⟨hfr.2 g' hg' ha'.1 (rowB_ne ha'.1 ha'.2.2.1),ha'.1,ha'.2.1,ha'.2.2.1,ha'.2.2.2⟩))⟩
end
end Go.Proofs.Ytbmmjomcjlpnlaa
namespace Go.Proofs.Ytbmmjomcjlpnlaa
open Go Go.RowKit
theorem own_str1 {B : Nat} {W : World} {g l c : Nat} {L : List ByteArray} (ho : W.ownsRow B 9 1 (.slice (some ⟨g,0,none⟩) l c) l (L.map Value.string)) : g < W.heap.size ∧ ∀ j x,L[j]? = some x → W.cell? ⟨g,j,none⟩ = some (.string x):=by
 rcases ho.2 with ⟨h0,_⟩ | ⟨g',cap,cur,hv,hB,hg,hcap,hmx,hsz,htk⟩
 · cases h0
 cases hv
 refine ⟨(Array.getElem?_eq_some_iff.1 hg).1,fun j x hx => (cell_of_row _ _ _ _ _ _ hg).trans ?_⟩
 have h1 : (L.map Value.string)[j]? = some (.string x):=by rw [List.getElem?_map,hx];rfl
 rw [← htk,List.getElem?_take] at h1
 split at h1
 · simpa using h1
 · cases h1
section
variable {B : Nat} {W X : World} {s n : Nat} {F : TF} {L : List ByteArray} {bl : List Nat} {m lv bv : Value}
theorem locals_any (h : Hid (Scp B W s n F L bl m lv bv)) (hL : L.length ≤ 1000000) (hx : ∀ x ∈ L,x.size ≤ 140737488355328) :
 Calls Try.prog 16 #[.pointer (some ⟨s,0,none⟩)] W fun e w' => Below W.heap.size W w' ∧ ∃ p c,e = .returned (.slice p L.length c) ∧ (L ≠ [] → ∃ g,p = some ⟨g,0,none⟩ ∧ (W.heap.size ≤ g ∧ g < w'.heap.size) ∧ ∀ j x,L[j]? = some x → w'.cell? ⟨g,j,none⟩ = some (.string x)):=by
 obtain ⟨mm,p,c,q,d,rfl,rfl,rfl⟩:=h.out.forms
 have heq:=eql_ptr_some ⟨s,0,none⟩ W
 obtain ⟨l,hl⟩ : ∃ l,L.length = l:=⟨_,rfl⟩
 have hlo:=h.out.lo
 have hfa:=h.out.facts
 rw [hl] at hlo hfa hL ⊢
 have HK:=hid hl
 obtain ⟨sl,⟨c0,c1,c2⟩,f0,f1,f2⟩:=hfa
 rcases hlo.2 with ⟨e,h0⟩ | ⟨g,cap,cur,e,_⟩
 · cases e
   have hLn : L = []:=List.eq_nil_of_length_eq_zero (hl.trans h0)
   have HLN:=hid hLn
   clear hlo hl hLn
   go_enter Try.func16,Try.ntmps16
   go_wp2_with (go_at_call 39;(with_reducible refine (cstrs_nil _ _ _).mono ?_);rintro e2 w3 ⟨rfl,rfl⟩)
   go_ret
   exact ⟨Below.refl _ _,none,0,rfl,fun h => absurd HLN.out h⟩
 · cases e
   obtain ⟨hgl,hcell⟩:=own_str1 hlo
   have HC:=hid hcell
   have HQ : Hid (∀ q ∈ L,q.size ≤ 281474976710656):=hid fun q hq => Nat.le_trans (hx q hq) (by decide)
   clear hlo hl hcell hx
   go_enter Try.func16,Try.ntmps16
   go_wp2_with (go_at_call 39;(with_reducible refine (cstrs_some W hgl HC.out l HK.out hL HQ.out).mono ?_);rintro e2 w3 ⟨hb3,g3,rfl,hg3,hf3⟩;have HG3:=hid hg3;clear hg3;have HB3:=hid hb3;have HF3:=hid hf3;clear hb3 hf3)
   go_ret
   obtain ⟨cs,e1,e2,e3⟩:=HF3.out
   refine ⟨HB3.out,_,_,rfl,fun _ => ⟨g3,rfl,⟨HG3.out,(Array.getElem?_eq_some_iff.1 e1).1⟩,fun j x hjx => ?_⟩⟩
   refine (cell_of_row _ _ _ _ _ _ e1).trans ?_
   have hjl : j < l:=by (rw [← HK.out];exact (List.getElem?_eq_some_iff.1 hjx).1)
   have:=e3 j hjl 0 (.string x) (by decide) (by show [Value.string (L.getD j _)][0]? = _;rw [List.getD_eq_getElem?_getD,hjx];rfl)
   simpa using this
end
end Go.Proofs.Ytbmmjomcjlpnlaa
namespace Go.Proofs.Ytbmmjomcjlpnlaa
open Go Go.RowKit
theorem kindN_er (x : Option Th) : kindN (x.map Th.er) = kindN x:=by
 rcases x with _ | x
 · rfl
 · cases x <;> rfl
theorem typeN_er (x : Option Th) : typeN (x.map Th.er) = typeN x:=by
 rcases x with _ | x
 · rfl
 · cases x <;> rfl
theorem lockN_er (x : Option Th) : lockN (x.map Th.er) = lockN x:=by
 rcases x with _ | x
 · rfl
 · cases x <;> rfl
theorem globN_er (x : Option Th) : globN (x.map Th.er) = globN x:=by
 rcases x with _ | x
 · rfl
 · cases x <;> rfl
theorem funcN_er (x : Option Th) : funcN (x.map Th.er) = funcN x:=by
 rcases x with _ | x
 · rfl
 · cases x <;> rfl
theorem rfield_t0 (a b : Value) (w : World) : (Instr.field 42 (.agg #[a,b]) 0).run Try.prog w = .ok a w:=by
 simp [Instr.field,run_underlying Try.underlying42,part,asAgg,Try.isAgg4]
theorem rfield_t1 (a b : Value) (w : World) : (Instr.field 42 (.agg #[a,b]) 1).run Try.prog w = .ok b w:=by
 simp [Instr.field,run_underlying Try.underlying42,part,asAgg,Try.isAgg4]
theorem none_er (x : Option Th) (h : x.map Th.er = none) : x = none:=by simpa using h
def aw6gb : Gl:=⟨12,[103],true,true,3,[]⟩
def aw6fb : Fn:=⟨31,[102],[],false,false,[],.mk 0 0 1 [] [] 55⟩
theorem aw6a_sh : ShP aw6aP:=⟨⟨by decide,by simp [aw6aP]⟩,⟨by decide,by simp [aw6aP]⟩,⟨by decide,by simp [aw6aP]⟩⟩
theorem aw6b_sh : ShP aw6bP:=⟨⟨by decide,by simp [aw6bP]⟩,⟨by decide,by simp [aw6bP]⟩,⟨by decide,fun y hy => by
 simp only [aw6bP,List.mem_singleton] at hy
 subst hy
 exact ⟨by simp,⟨by simp,by simp⟩,⟨by simp,by simp⟩,.mk (by simp) (by simp) (by simp)⟩⟩⟩
theorem aw6a_tw : twiceF (thingsL aw6aP) = (19,true):=by decide
theorem aw6b_tw : (twiceF (thingsL aw6bP)).2 = false:=by decide
theorem aw6a_parse (w : World) : Calls Try.prog 7 #[.string ⟨#[112,117,98,108,105,99,32,105,110,116,32,97,59,32,108,111,99,107,32,97,59]⟩] w fun e w' => Below w.heap.size w w' ∧ ∃ z0 n0 c0 z1 n1 c1 z2 n2 c2 z3 n3 c3 rf rt,e = .returned (.tuple #[.agg #[.slice z0 n0 c0,.slice z1 n1 c1,.slice z2 n2 c2,.slice z3 n3 c3],.int .i64 0,.int .i64 0]) ∧ PRows w.heap.size w' aw6aP (.slice z0 n0 c0) (.slice z1 n1 c1) (.slice z2 n2 c2) (.slice z3 n3 c3) rf rt :=
 (r4_parse ⟨#[112,117,98,108,105,99,32,105,110,116,32,97,59,32,108,111,99,107,32,97,59]⟩ w (by decide) aw6aW (hid aw6a_sc)).mono fun e w' ⟨⟨v0,v1,v2,v3,c,a,h1,h2,_⟩,h3⟩ => by
  rw [aw6a_par] at h2
  obtain ⟨rfl,rfl,rf,rt,R⟩:=h2 _ rfl
  obtain ⟨z0,c0,rfl⟩:=own_form R.g
  obtain ⟨z1,c1,rfl⟩:=own_form R.l
  obtain ⟨z2,c2,rfl⟩:=own_form R.f
  obtain ⟨z3,c3,rfl⟩:=own_form R.t
  exact ⟨h3,_,_,_,_,_,_,_,_,_,_,_,_,rf,rt,h1,R⟩
theorem aw6b_parse (w : World) : Calls Try.prog 7 #[.string ⟨#[115,101,99,114,101,116,32,98,111,111,108,32,103,91,51,93,59,32,108,111,99,107,32,109,59,32,102,117,110,99,32,102,40,41,32,112,117,98,108,105,99,32,105,110,116,32,123,32,114,101,116,117,114,110,32,49,59,32,125]⟩] w fun e w' => Below w.heap.size w w' ∧ ∃ z0 n0 c0 z1 n1 c1 z2 n2 c2 z3 n3 c3 rf rt,e = .returned (.tuple #[.agg #[.slice z0 n0 c0,.slice z1 n1 c1,.slice z2 n2 c2,.slice z3 n3 c3],.int .i64 0,.int .i64 0]) ∧ PRows w.heap.size w' aw6bP (.slice z0 n0 c0) (.slice z1 n1 c1) (.slice z2 n2 c2) (.slice z3 n3 c3) rf rt :=
 (r4_parse ⟨#[115,101,99,114,101,116,32,98,111,111,108,32,103,91,51,93,59,32,108,111,99,107,32,109,59,32,102,117,110,99,32,102,40,41,32,112,117,98,108,105,99,32,105,110,116,32,123,32,114,101,116,117,114,110,32,49,59,32,125]⟩ w (by decide) aw6bW (hid aw6b_sc)).mono fun e w' ⟨⟨v0,v1,v2,v3,c,a,h1,h2,_⟩,h3⟩ => by
  rw [aw6b_par] at h2
  obtain ⟨rfl,rfl,rf,rt,R⟩:=h2 _ rfl
  obtain ⟨z0,c0,rfl⟩:=own_form R.g
  obtain ⟨z1,c1,rfl⟩:=own_form R.l
  obtain ⟨z2,c2,rfl⟩:=own_form R.f
  obtain ⟨z3,c3,rfl⟩:=own_form R.t
  exact ⟨h3,_,_,_,_,_,_,_,_,_,_,_,_,rf,rt,h1,R⟩
theorem awake_any (w : World) : Calls Try.prog 6 #[] w fun e w' => e = .returned (.bool true) ∧ Below w.heap.size w w':=by
 go_enter Try.func6,Try.ntmps6
 go_upto_region 2 with (go_at_call 7;(with_reducible refine (aw6a_parse _).mono ?_);rintro e1 w1 ⟨hb1,z0,n0,c0,z1,n1,c1,z2,n2,c2,z3,n3,c3,rf,rt,rfl,hR⟩;have HB1:=hid hb1;have HR:=hid hR;clear hb1 hR)
 refine name_world ?_
 intro W1 hW1
 have HB2 : Hid (Below w.heap.size w W1):=hid (by (rw [hW1];exact below_ch HB1.out (below_of_alloc _ _)))
 have HR2 : Hid (PRows w.heap.size W1 aw6aP (.slice z0 n0 c0) (.slice z1 n1 c1) (.slice z2 n2 c2) (.slice z3 n3 c3) rf rt):=hid (by (rw [hW1];exact HR.out.stay (below_of_alloc _ _)))
 have hm1 : W1.heap[w1.heap.size]? = some (.cells #[.slice z0 n0 c0,.slice z1 n1 c1,.slice z2 n2 c2,.slice z3 n3 c3] 29 (0,0)):=by (rw [hW1];exact heap_alloc_new _ _)
 have hml : w1.heap.size < W1.heap.size:=(Array.getElem?_eq_some_iff.1 hm1).1
 have m0 : W1.cell? ⟨w1.heap.size,0,none⟩ = some (.slice z0 n0 c0):=cell_of_row _ _ _ _ _ _ hm1
 have m1 : W1.cell? ⟨w1.heap.size,1,none⟩ = some (.slice z1 n1 c1):=cell_of_row _ _ _ _ _ _ hm1
 have m2 : W1.cell? ⟨w1.heap.size,2,none⟩ = some (.slice z2 n2 c2):=cell_of_row _ _ _ _ _ _ hm1
 have m3 : W1.cell? ⟨w1.heap.size,3,none⟩ = some (.slice z3 n3 c3):=cell_of_row _ _ _ _ _ _ hm1
 have HN1 : Hid (Calls Try.prog 8 #[.agg #[.slice z0 n0 c0,.slice z1 n1 c1,.slice z2 n2 c2,.slice z3 n3 c3]] W1 fun e w' => Below W1.heap.size W1 w' ∧ e = .returned (.tuple #[.pointer none,.int .i64 12,.int .i64 19])):=hid (by (have h:=new_bad HR2 aw6a_sh (by rw [aw6a_tw]);rw [aw6a_tw] at h;exact h))
 clear hW1 hm1
 go_upto_region 3 with (go_at_call 8;(with_reducible refine HN1.out.mono ?_);rintro e2 w2 ⟨hb2,rfl⟩;have HB3:=hid (below_ch HB2.out hb2);clear hb2)
 clear m0 m1 m2 m3 hml HR HR2 HN1 HB1
 go_upto_region 4 with (go_at_call 7;(with_reducible refine (aw6b_parse _).mono ?_);rintro e3 w3 ⟨hb3,y0,i0,d0,y1,i1,d1,y2,i2,d2,y3,i3,d3,rf2,rt2,rfl,hR⟩;have HB4:=hid (below_ch HB3.out hb3);have HR:=hid hR;clear hb3 hR)
 refine name_world ?_
 intro W3 hW3
 have HB5 : Hid (Below w.heap.size w W3):=hid (by (rw [hW3];exact below_ch HB4.out (below_of_alloc _ _)))
 have HR3 : Hid (PRows w2.heap.size W3 aw6bP (.slice y0 i0 d0) (.slice y1 i1 d1) (.slice y2 i2 d2) (.slice y3 i3 d3) rf2 rt2):=hid (by (rw [hW3];exact HR.out.stay (below_of_alloc _ _)))
 have hm3 : W3.heap[w3.heap.size]? = some (.cells #[.slice y0 i0 d0,.slice y1 i1 d1,.slice y2 i2 d2,.slice y3 i3 d3] 29 (0,0)):=by (rw [hW3];exact heap_alloc_new _ _)
 have hml : w3.heap.size < W3.heap.size:=(Array.getElem?_eq_some_iff.1 hm3).1
 have m0 : W3.cell? ⟨w3.heap.size,0,none⟩ = some (.slice y0 i0 d0):=cell_of_row _ _ _ _ _ _ hm3
 have m1 : W3.cell? ⟨w3.heap.size,1,none⟩ = some (.slice y1 i1 d1):=cell_of_row _ _ _ _ _ _ hm3
 have m2 : W3.cell? ⟨w3.heap.size,2,none⟩ = some (.slice y2 i2 d2):=cell_of_row _ _ _ _ _ _ hm3
 have m3 : W3.cell? ⟨w3.heap.size,3,none⟩ = some (.slice y3 i3 d3):=cell_of_row _ _ _ _ _ _ hm3
 have HN3 : Hid (Calls Try.prog 8 #[.agg #[.slice y0 i0 d0,.slice y1 i1 d1,.slice y2 i2 d2,.slice y3 i3 d3]] W3 fun e w' => Below W3.heap.size W3 w' ∧ ∃ s,e = .returned (.tuple #[.pointer (some ⟨s,0,none⟩),.int .i64 0,.int .i64 0]) ∧ W3.heap.size ≤ s ∧ NewOk W3 w' aw6bP s):=hid (new_good HR3 aw6b_sh aw6b_tw)
 clear hW3 hm3
 go_upto_region 5 with (go_at_call 8;(with_reducible refine HN3.out.mono ?_);rintro e4 w4 ⟨hb4,s,rfl,hs4,hok⟩;obtain ⟨F,mm,n,hn,hFe,hS⟩:=hok;have HB6:=hid (below_ch HB5.out hb4);have HFE:=hid hFe;have S0:=hid hS;clear hb4 hFe hS)
 clear m0 m1 m2 m3 hml HR HR3 HN3 HB3 HB4 HB2
 obtain ⟨B,hB⟩ : ∃ B,W3.heap.size = B:=⟨_,rfl⟩
 have hBw : w.heap.size ≤ B:=by (rw [← hB];exact HB5.out.size)
 rw [hB] at S0 hs4
 clear hB HB5
 have HX : Hid (F [120] = none):=hid (none_er _ (by have h:=congrFun HFE.out [120];unfold TF.er at h;rw [h];decide))
 have heq:=eql_ptr_some ⟨s,0,none⟩ w4
 go_upto_region 7 with (fail)
 clear heq
 have HF : Hid (∀ k,k ≠ [120] → (F k).map Th.er = tagP aw6bP k):=hid fun k _ => congrFun HFE.out k
 obtain ⟨F1,hF1⟩ : ∃ G,F.upd (⟨#[120]⟩ : ByteArray).data.toList (.lo false true) = G:=⟨_,rfl⟩
 have HF1 : Hid (∀ k,k ≠ [120] → (F1 k).map Th.er = tagP aw6bP k):=hid fun k hk => by
  rw [← hF1]
  unfold TF.upd
  rw [if_neg (by simpa using hk)]
  exact HF.out k hk
 have HX1 : Hid (F1 [120] = some (.lo false true)):=hid (by rw [← hF1];rfl)
 have HFF:=hid hF1
 clear hF1
 have hsome : (F1 (⟨#[120]⟩ : ByteArray).data.toList).isSome = true:=by (show (F1 [120]).isSome = true;rw [HX1.out];rfl)
 have HSM:=hid hsome
 clear hsome
 go_upto_region 8 with (go_at_call 13;(with_reducible refine (let_no0 S0 _ _ _).mono ?_);rintro e5 w5 ⟨rfl,hb5⟩;have S1:=hid (S0.out.stay hb5);have HB7:=hid (below_ch HB6.out hb5);clear hb5)
 go_upto_region 9 with (go_at_call 10;(with_reducible refine (enter_any S1 (by simp) (by simp)).mono ?_);rintro e6 w6 ⟨rfl,bv6,hS6,hb6,_⟩;have S2:=hid hS6;have HB8:=hid (below_tr HB7.out (hb6.mono hBw));clear hS6 hb6)
 go_upto_region 10 with (go_at_call 13;(with_reducible refine (let_yes S2 (by simp) ⟨#[120]⟩ (by decide) (by decide) false true HX.out (by omega) (by simp)).mono ?_);rintro e7 w7 ⟨rfl,b7,lv7,hS7,hb7,_⟩;rw [HFF.out] at hS7;have S3:=hid hS7;have HB9:=hid (below_tr HB8.out (hb7.mono hBw));clear hS7 hb7)
 go_upto_region 11 with (go_at_call 13;go_loud ((with_reducible refine (let_no2 S3 (by simp) ⟨#[120]⟩ (by decide) (by decide) false false HSM.out).mono ?_);rintro e8 w8 ⟨rfl,hb8⟩;have S4:=hid (S3.out.stay hb8);have HB10:=hid (below_ch HB9.out hb8);clear hb8))
 clear S0 S1 S2 S3 HB6 HB7 HB8 HB9
 have HGL : Hid (Calls Try.prog 17 #[.pointer (some ⟨s,0,none⟩),.string ⟨#[103]⟩] w8 fun e w' => e = .returned (.tuple #[.agg #[.int .i64 12,.string ⟨#[103]⟩,.bool true,.bool true,.int .i64 3,.string ⟨#[]⟩],.int .i64 0]) ∧ Below w8.heap.size w8 w'):=hid (by
  have h:=glob_any S4 ⟨#[103]⟩ (by decide)
  have e : globN (F1 (⟨#[103]⟩ : ByteArray).data.toList) = (aw6gb,0):=by (rw [← globN_er];show globN ((F1 [103]).map Th.er) = _;rw [HF1.out [103] (by decide)];rfl)
  rw [e] at h
  exact h)
 go_upto_region 12 with (go_at_call 17;(with_reducible refine HGL.out.mono ?_);rintro e9 w9 ⟨rfl,hb9⟩;have S5:=hid (S4.out.stay hb9);have HB11:=hid (below_ch HB10.out hb9);clear hb9)
 refine name_world ?_
 intro W9 hW9
 have HA9 : Hid (Below w9.heap.size w9 W9):=hid (by (rw [hW9];exact below_of_alloc _ _))
 have hm9 : W9.heap[w9.heap.size]? = some (.cells #[.int .i64 12,.string ⟨#[103]⟩,.bool true,.bool true,.int .i64 3,.string ⟨#[]⟩] 56 (0,0)):=by (rw [hW9];exact heap_alloc_new _ _)
 have HM9:=hid hm9
 have S6:=hid (S5.out.stay HA9.out)
 have HB12:=hid (below_ch HB11.out HA9.out)
 clear hW9 hm9 HGL S4 S5 HB10 HB11
 have HFU : Hid (Calls Try.prog 18 #[.pointer (some ⟨s,0,none⟩),.string ⟨#[102]⟩] W9 fun e w' => (∃ z0 k0 z1 k1 z2 k2,e = .returned (.tuple #[.agg #[.int .i64 31,.string ⟨#[102]⟩,.slice z0 0 k0,.bool false,.bool false,.slice z1 0 k1,.int .i64 0,.int .i64 0,.int .i64 1,.string ⟨#[]⟩,.slice z2 0 k2,.int .i64 55],.int .i64 0])) ∧ Below W9.heap.size W9 w'):=hid (by
  have h:=func_any S6 ⟨#[102]⟩ (by decide)
  have e : funcN (F1 (⟨#[102]⟩ : ByteArray).data.toList) = (aw6fb,0):=by (rw [← funcN_er];show funcN ((F1 [102]).map Th.er) = _;rw [HF1.out [102] (by decide)];rfl)
  rw [e] at h
  exact h)
 go_upto_region 13 with (go_at_call 18;(with_reducible refine HFU.out.mono ?_);rintro e10 w10 ⟨⟨q0,k0,q1,k1,q2,k2,rfl⟩,hb10⟩;have S7:=hid (S6.out.stay hb10);have HB13:=hid (below_ch HB12.out hb10);have HO10:=hid (Oth.of hb10);clear hb10)
 refine name_world ?_
 intro W10 hW10
 have HA10 : Hid (Below w10.heap.size w10 W10):=hid (by (rw [hW10];exact below_of_alloc _ _))
 have S8:=hid (S7.out.stay HA10.out)
 have HB14:=hid (below_ch HB13.out HA10.out)
 clear hW10 HFU S6 S7 HB12 HB13
 go_upto_region 14 with (go_at_call 16;(with_reducible refine (locals_any S8 (by simp) (fun x hx => by simp at hx;subst hx;decide)).mono ?_);rintro e11 w11 ⟨hb11,p11,c11,rfl,_⟩;have S9:=hid (S8.out.stay hb11);have HB15:=hid (below_ch HB14.out hb11);have HO11:=hid (Oth.of hb11);clear hb11)
 have HTY : Hid (Calls Try.prog 21 #[.pointer (some ⟨s,0,none⟩),.string ⟨#[120]⟩] w11 fun e w' => e = .returned (.agg #[.bool false,.bool true]) ∧ Below w11.heap.size w11 w'):=hid (by
  have h:=typ_any S9 ⟨#[120]⟩ (by decide)
  have e : F1 (⟨#[120]⟩ : ByteArray).data.toList = some (.lo false true):=HX1.out
  rw [e] at h
  exact h)
 go_upto_region 15 with (go_at_call 21;(with_reducible refine HTY.out.mono ?_);rintro e12 w12 ⟨rfl,hb12⟩;have S10:=hid (S9.out.stay hb12);have HB16:=hid (below_ch HB15.out hb12);have HO12:=hid (Oth.of hb12);clear hb12)
 refine name_world ?_
 intro W12 hW12
 have HA12 : Hid (Below w12.heap.size w12 W12):=hid (by (rw [hW12];exact below_of_alloc _ _))
 have hm12 : W12.heap[w12.heap.size]? = some (.cells #[.bool false,.bool true] 42 (0,0)):=by (rw [hW12];exact heap_alloc_new _ _)
 have HM12:=hid hm12
 have S11:=hid (S10.out.stay HA12.out)
 have HB17:=hid (below_ch HB16.out HA12.out)
 have hm9 : W12.heap[w9.heap.size]? = some (.cells #[.int .i64 12,.string ⟨#[103]⟩,.bool true,.bool true,.int .i64 3,.string ⟨#[]⟩] 56 (0,0)):=(((((HO10.out.trans (Oth.of HA10.out)).trans HO11.out).trans HO12.out).trans (Oth.of HA12.out)).2 _ _ _ _ HM9.out (by decide) (by decide) (by decide)).trans HM9.out
 have HM9':=hid hm9
 clear hW12 hm12 hm9 HTY S8 S9 S10 HB14 HB15 HB16
 obtain ⟨g13,c13,elv,hg13,hgB13⟩:=row_some S11.out.lo (show 0 < ([] ++ [(⟨#[120]⟩ : ByteArray)]).length by simp)
 subst elv
 have hc13 : 0 < c13:=by
  have h:=(own_str (l:=1) (L:=[⟨#[120]⟩]) S11.out.lo).2.1
  omega
 go_upto_region 16 with (go_at_call 11;(with_reducible refine (leave_some (b0:=[]) (a:=0) S11 (by simp) (by simp) (by simp) (fun x hx => by simp at hx;subst hx;decide) hc13).mono ?_);rintro e13 w13 ⟨rfl,bv13,hS13,hb13,ho13,_⟩;have S12:=hid hS13;have HB18:=hid (below_tr HB17.out (hb13.mono hBw));have HO13:=hid ho13;clear hS13 hb13 ho13)
 have hF2a : ∀ k,k ≠ [120] → (F1.dels (([] ++ [(⟨#[120]⟩ : ByteArray)]).drop 0)) k = F1 k:=fun k hk => by
  show (F1.del (⟨#[120]⟩ : ByteArray).data.toList) k = _
  unfold TF.del
  rw [if_neg (by simpa using hk)]
 have hF2b : (F1.dels (([] ++ [(⟨#[120]⟩ : ByteArray)]).drop 0)) [120] = none:=rfl
 have hL : lockN ((F1.dels (([] ++ [(⟨#[120]⟩ : ByteArray)]).drop 0)) [109]) = 0:=by (rw [hF2a _ (by decide),← lockN_er,HF1.out [109] (by decide)];rfl)
 have hKm : kindN ((F1.dels (([] ++ [(⟨#[120]⟩ : ByteArray)]).drop 0)) [109]) = 2:=by (rw [hF2a _ (by decide),← kindN_er,HF1.out [109] (by decide)];rfl)
 have hKx : kindN ((F1.dels (([] ++ [(⟨#[120]⟩ : ByteArray)]).drop 0)) [120]) = 0:=by (rw [hF2b];rfl)
 have hTg : typeN ((F1.dels (([] ++ [(⟨#[120]⟩ : ByteArray)]).drop 0)) [103]) = (true,true):=by (rw [hF2a _ (by decide),← typeN_er,HF1.out [103] (by decide)];rfl)
 have HLK : Hid (Calls Try.prog 20 #[.pointer (some ⟨s,0,none⟩),.string ⟨#[109]⟩] w13 fun e w' => e = .returned (.int .i64 0) ∧ Below w13.heap.size w13 w'):=hid (by
  have h:=lock_any S12 ⟨#[109]⟩ (by decide)
  have e : lockN ((F1.dels (([] ++ [(⟨#[120]⟩ : ByteArray)]).drop 0)) (⟨#[109]⟩ : ByteArray).data.toList) = 0:=hL
  rw [e] at h
  exact h)
 have HKM : Hid (∀ X,Below w13.heap.size w13 X → Calls Try.prog 19 #[.pointer (some ⟨s,0,none⟩),.string ⟨#[109]⟩] X fun e w' => e = .returned (.int .i64 2) ∧ w' = X):=hid fun X hX => by
  have h:=kind_any (hid (S12.out.stay hX)) ⟨#[109]⟩ (by decide)
  have e : kindN ((F1.dels (([] ++ [(⟨#[120]⟩ : ByteArray)]).drop 0)) (⟨#[109]⟩ : ByteArray).data.toList) = 2:=hKm
  rw [e] at h
  exact h
 have HKX : Hid (∀ X,Below w13.heap.size w13 X → Calls Try.prog 19 #[.pointer (some ⟨s,0,none⟩),.string ⟨#[120]⟩] X fun e w' => e = .returned (.int .i64 0) ∧ w' = X):=hid fun X hX => by
  have h:=kind_any (hid (S12.out.stay hX)) ⟨#[120]⟩ (by decide)
  have e : kindN ((F1.dels (([] ++ [(⟨#[120]⟩ : ByteArray)]).drop 0)) (⟨#[120]⟩ : ByteArray).data.toList) = 0:=hKx
  rw [e] at h
  exact h
 have HTG : Hid (∀ X,Below w13.heap.size w13 X → Calls Try.prog 21 #[.pointer (some ⟨s,0,none⟩),.string ⟨#[103]⟩] X fun e w' => e = .returned (.agg #[.bool true,.bool true]) ∧ Below X.heap.size X w'):=hid fun X hX => by
  have h:=typ_any (hid (S12.out.stay hX)) ⟨#[103]⟩ (by decide)
  have e : typeN ((F1.dels (([] ++ [(⟨#[120]⟩ : ByteArray)]).drop 0)) (⟨#[103]⟩ : ByteArray).data.toList) = (true,true):=hTg
  rw [e] at h
  exact h
 have hm9:=(HO13.out.2 _ _ _ _ HM9'.out (by decide) (by decide) (by decide)).trans HM9'.out
 have hm12:=(HO13.out.2 _ _ _ _ HM12.out (by decide) (by decide) (by decide)).trans HM12.out
 have hl9 : w9.heap.size < w13.heap.size:=(Array.getElem?_eq_some_iff.1 hm9).1
 have c9 : w13.cell? ⟨w9.heap.size,4,none⟩ = some (.int .i64 3):=cell_of_row _ _ _ _ _ _ hm9
 have hl12 : w12.heap.size < w13.heap.size:=(Array.getElem?_eq_some_iff.1 hm12).1
 have HM:=hid hm12
 clear hF2a hF2b hL hKm hKx hTg hm9 hm12 S11 S12 HFE HX HF HF1 HX1 HFF HSM
 have hfd0:=rfield_t0
 have hfd1:=rfield_t1
 go_wp2_with (first
  | (go_at_call 20;(with_reducible refine HLK.out.mono ?_);rintro e14 w14 ⟨rfl,hb14⟩;have HB14:=hid hb14;have c12 : w14.cell? ⟨w12.heap.size,1,none⟩ = some (.bool true):=(hb14.cell (p:=⟨w12.heap.size,1,none⟩) hl12).trans (cell_of_row _ _ _ _ _ _ HM.out);have hl14:=Nat.lt_of_lt_of_le hl12 hb14.size)
  | (go_at_call 19;(with_reducible refine (HKM.out _ HB14.out).mono ?_);rintro e15 w15 ⟨rfl,rfl⟩)
  | (go_at_call 19;(with_reducible refine (HKX.out _ HB14.out).mono ?_);rintro e16 w16 ⟨rfl,rfl⟩)
  | (go_at_call 21;(with_reducible refine (HTG.out _ HB14.out).mono ?_);rintro e17 w17 ⟨rfl,hb17⟩;have HB17':=hid (below_ch HB14.out hb17)))
 go_ret
 exact ⟨rfl,below_tr HB18.out (HB17'.out.mono HB18.out.size)⟩
end Go.Proofs.Ytbmmjomcjlpnlaa
namespace Go.Proofs.Ytbmmjomcjlpnlaa
open Go Go.RowKit
theorem kindN_none {x : Option Th} (h : kindN x = 0) : x = none:=by
 rcases x with _ | x
 · rfl
 · cases x <;> simp [kindN] at h
theorem kindN_some {x : Option Th} (h : ¬ kindN x = 0) : x.isSome = true:=by
 rcases x with _ | x
 · exact absurd rfl h
 · rfl
section
variable {B : Nat} {W : World} {s n : Nat} {F : TF} {L : List ByteArray} {bl : List Nat} {m lv bv : Value}
theorem let_no (h : Hid (Scp B W s n F L bl m lv bv)) (hbl : bl ≠ []) (t : ByteArray) (ht : t.size ≤ 140737488355328) (hF : t.toList.isEmpty = true ∨ ¬ kindN (F t.data.toList) = 0) (tr sc : Bool) :
 Calls Try.prog 13 #[.pointer (some ⟨s,0,none⟩),.string t,.agg #[.bool tr,.bool sc]] W fun e w' => e = .returned (.int .i64 12) ∧ Below W.heap.size W w':=by
 by_cases he : t.data.toList = []
 · have e : t = ⟨#[]⟩:=by
    obtain ⟨⟨l⟩⟩:=t
    simp only at he
    subst he
    rfl
   subst e
   exact let_no1 h hbl tr sc
 · rcases hF with hF | hF
   · exact absurd (by rw [ByteArray.toList_eq] at hF;simpa using hF) he
   · exact let_no2 h hbl t ht he tr sc (kindN_some hF)
end
end Go.Proofs.Ytbmmjomcjlpnlaa
