/- Joined texts: Pg2 AwA Aw Tab TabM TabL Pall Say R5 R5b Ins: lemmas for the law; each says its own conditions. -/
import Derived.Test.YtkhbbapocamlmaaDoorQ09
import Derived.Test.YtkhbbapocamlmaaDoorQ07
import Derived.Test.YtkhbbapocamlmaaDoorQ06
import Derived.Test.YtkhbbapocamlmaaDoorQ02
import Derived.Test.YtkhbbapocamlmaaDoorQ08
set_option linter.unusedSimpArgs false
set_option linter.unusedVariables false
set_option maxRecDepth 100000
set_option maxHeartbeats 8000000
open Go.Lib (hid)
namespace Go.Proofs.YtkhbbapocamlmaaDoor
open Go Go.RowKit
theorem par_good {s : ByteArray} {ws t : List Wd} {p : Pg} (hS : Sc numO s.data.toList 0 ws none) (hs : s.size ≤ 16384) (hp : parF ws = (p,.ok t)) : GoodP p 16385:=by
 have hl : s.data.toList.length ≤ 16384:=by simpa using hs
 have h1:=hS.lens_le
 have h2:=hS.few rfl
 have hw:=hS.wd_ok fun t v h => numO_inv h
 refine whole_good (3 * ws.length + 2) (ws.length + 1) ⟨[],[],[],[]⟩ ws (fun _ e => by cases e;exact hS.fin rfl) (by omega) ⟨hw,by omega,by omega⟩ ?_ p t hp
 exact ⟨by simp,by simp⟩
def aw5O : List UInt8:=[108,111,99,107,32,109,59,10,112,117,98,108,105,99,32,105,110,116,32,103,91,50,93,32,98,121,32,109,59,10,116,104,114,101,97,100,32,123,10,9,105,102,32,40,97,41,32,123,10,9,9,111,117,116,32,49,59,10,9,125,32,101,108,115,101,32,123,10,9,9,98,91,50,93,32,61,32,51,59,10,9,125,10,125,10]
def aw5V : List UInt8:=[9,9,111,117,116,32,49,59,10]
theorem it_1 : Lib.itoa 1 = [49]:=by simp [Lib.itoa,Lib.decDigits]
theorem it_2 : Lib.itoa 2 = [50]:=by simp [Lib.itoa,Lib.decDigits]
theorem it_3 : Lib.itoa 3 = [51]:=by simp [Lib.itoa,Lib.decDigits]
theorem aw5_v : stsT [.mk 5 13 false false [] [] [.mk 0 0 1 [] [] 17] [] []] 2 = aw5V:=by
 simp [stsT,stT,lineT,onlyT,Ex.txt,Ex.kds,txtOf,it_1,aw5V,tOut]
theorem aw5_t : progT (fun _ => []) aw5P = aw5O:=by
 simp [progT,aw5P,aw5S,lkT,glT,thT,lenT,byT,typeT,stsT,stT,lineT,onlyT,indexT,Ex.txt,Ex.kds,txtOf,it_1,it_2,it_3,aw5O,tOut,tLock,tThr,tIf,tBr,tElse,tEq,kInt]
theorem aw5_good : GoodP aw5P 16385:=par_good (s:=⟨#[116,104,114,101,97,100,123,105,102,40,97,41,123,111,117,116,32,49,59,125,101,108,115,101,123,98,91,50,93,61,51,59,125,125,112,117,98,108,105,99,32,105,110,116,32,103,91,50,93,98,121,32,109,59,108,111,99,107,32,109,59]⟩) (ws:=aw5W) aw5_sc (by decide) aw5_par
structure Aw5 (W : World) (b : Nat) (p0 p1 p2 : Value) (g3 c3 gs cs : Nat) (p5 : Option Addr) (c5 : Nat) : Prop where
 blk : PgBlk W b p0 p1 p2 (.slice (some ⟨g3,0,none⟩) 1 c3)
 th : W.cell? ⟨g3,0,none⟩ = some (.slice (some ⟨gs,0,none⟩) 1 cs)
 bd : W.cell? ⟨gs,7,none⟩ = some (.slice p5 1 c5)
 l3 : g3 < W.heap.size
 ls : gs < W.heap.size
 is : IsSts (fun g => 0 ≤ g) W [.mk 5 13 false false [] [] [.mk 0 0 1 [] [] 17] [] []] (.slice p5 1 c5)
theorem Aw5.stay {W X : World} {b g3 c3 gs cs c5 : Nat} {p0 p1 p2 : Value} {p5 : Option Addr} (h : Aw5 W b p0 p1 p2 g3 c3 gs cs p5 c5) (k : Below W.heap.size W X) : Aw5 X b p0 p1 p2 g3 c3 gs cs p5 c5 :=
 ⟨h.blk.of (k.block b h.blk.facts.1),(k.cell (p:=⟨g3,0,none⟩) h.l3).trans h.th,(k.cell (p:=⟨gs,7,none⟩) h.ls).trans h.bd,Nat.lt_of_lt_of_le h.l3 k.size,Nat.lt_of_lt_of_le h.ls k.size,h.is.kept fun g hg hl => ⟨k.block g hl,hg⟩⟩
theorem aw5_mem {W : World} {B b : Nat} {v0 v1 v2 v3 : Value} {rf : List (Fn × FV)} {rt : List (List Stm × Value)} (R : PRows B W aw5P v0 v1 v2 v3 rf rt) (hb : PgBlk W b v0 v1 v2 v3) : ∃ g3 c3 gs cs p5 c5,v3 = .slice (some ⟨g3,0,none⟩) 1 c3 ∧ Aw5 W b v0 v1 v2 g3 c3 gs cs p5 c5:=by
 obtain ⟨g3,c3,rfl,hg,hc⟩:=own_some R.t (by decide)
 have hrt:=R.et
 obtain ⟨⟨l,tv⟩,rfl⟩ : ∃ q,rt = [q]:=by
  match rt,hrt with
  | [q],_ => exact ⟨q,rfl⟩
 obtain rfl : l = [aw5S]:=by simpa [aw5P] using hrt
 have hI : IsSts (fun g => 0 ≤ g) W [aw5S] tv:=(R.xt _ (List.mem_singleton.2 rfl)).lo (Nat.zero_le B)
 have h0:=hc 0 tv rfl
 cases hI with
 | node gs cap cs fr vs hok hbk hne hcc hi he hbd hel =>
  have hB:=hbd 0 aw5S rfl
  obtain ⟨p5,c5,e5⟩:=hB.form
  have h7:=hcc 0 aw5S rfl 7 (vs 0).b rfl
  refine ⟨g3,c3,gs,cap,p5,c5,rfl,hb,h0,?_,hg,(Array.getElem?_eq_some_iff.1 hbk).1,?_⟩
  · rw [cell_of_row _ _ _ _ _ _ hbk]
    rw [e5] at h7
    exact h7
  · rw [e5] at hB
    exact hB
theorem aw5_parse (w : World) : Calls Tryd.prog 8 #[.string ⟨#[116,104,114,101,97,100,123,105,102,40,97,41,123,111,117,116,32,49,59,125,101,108,115,101,123,98,91,50,93,61,51,59,125,125,112,117,98,108,105,99,32,105,110,116,32,103,91,50,93,98,121,32,109,59,108,111,99,107,32,109,59]⟩] w fun e w' => (∃ v0 v1 v2 v3 rf rt,e = .returned (.tuple #[.agg #[v0,v1,v2,v3],.int .i64 0,.int .i64 0]) ∧ PRows w.heap.size w' aw5P v0 v1 v2 v3 rf rt) ∧ Below w.heap.size w w' :=
 (r4_parse ⟨#[116,104,114,101,97,100,123,105,102,40,97,41,123,111,117,116,32,49,59,125,101,108,115,101,123,98,91,50,93,61,51,59,125,125,112,117,98,108,105,99,32,105,110,116,32,103,91,50,93,98,121,32,109,59,108,111,99,107,32,109,59]⟩ w (by decide) aw5W (hid aw5_sc)).mono fun e w' ⟨⟨v0,v1,v2,v3,c,a,h1,h2,_⟩,h3⟩ => by
  rw [aw5_par] at h2
  obtain ⟨rfl,rfl,rf,rt,R⟩:=h2 _ rfl
  exact ⟨⟨v0,v1,v2,v3,rf,rt,h1,R⟩,h3⟩
theorem aw5_prog {B : Nat} {W : World} {v0 v1 v2 v3 : Value} {rf : List (Fn × FV)} {rt : List (List Stm × Value)} (R : PRows B W aw5P v0 v1 v2 v3 rf rt) (L : Laid W) :
 Calls Tryd.prog 9 #[.agg #[v0,v1,v2,v3]] W fun e w' => e = .returned (.string (bstr aw5O)) ∧ Below W.heap.size W w' :=
 prog_any (fun _ => []) aw5P B W v0 v1 v2 v3 rf rt R L (by decide) (fun l hl => ⟨(aw5_good.th l hl).1,by have:=(aw5_good.th l hl).2;omega⟩) (by simp [aw5P]) (by decide) aw5O aw5_t (by decide)
theorem aw5_sts {W : World} {p5 : Option Addr} {c5 : Nat} (L : Laid W) (h : IsSts (fun g => 0 ≤ g) W [.mk 5 13 false false [] [] [.mk 0 0 1 [] [] 17] [] []] (.slice p5 1 c5)) :
 Calls Tryd.prog 11 #[.slice p5 1 c5,.int .i64 2] W fun e w' => e = .returned (.string (bstr aw5V)) ∧ Below W.heap.size W w' :=
 stmtsT_any _ 2 W _ aw5V aw5_v (fun s hs => by
  have hg:=(aw5_good.th [aw5S] (.head _)).1 aw5S (.head _)
  cases hg with
  | mk _ _ _ _ _ h1 _ => exact h1 s hs) L h (by decide) (by decide)
theorem aw5_ty : (bstr (typeT true true)).toList = [115,101,99,114,101,116,32,98,111,111,108]:=by simp [bstr,ByteArray.toList_eq,typeT,kBool]
theorem aw5_vv : (bstr aw5V).toList = [9,9,111,117,116,32,49,59,10]:=by simp [bstr,ByteArray.toList_eq,aw5V]
theorem aw5_oo : (bstr aw5O).toList = [108,111,99,107,32,109,59,10,112,117,98,108,105,99,32,105,110,116,32,103,91,50,93,32,98,121,32,109,59,10,116,104,114,101,97,100,32,123,10,9,105,102,32,40,97,41,32,123,10,9,9,111,117,116,32,49,59,10,9,125,32,101,108,115,101,32,123,10,9,9,98,91,50,93,32,61,32,51,59,10,9,125,10,125,10]:=by simp [bstr,ByteArray.toList_eq,aw5O]
theorem aw5_n0 : aw5P.gs.length = 1:=rfl
theorem aw5_n1 : aw5P.ls.length = 1:=rfl
theorem aw5_n2 : aw5P.fs.length = 0:=rfl
theorem awake_any (w : World) (L : Hid (Laid w)) : Calls Tryd.prog 7 #[] w fun e w' => e = .returned (.bool true) ∧ Below w.heap.size w w':=by
 go_enter Tryd.func7,Tryd.ntmps7
 have hoo:=aw5_oo
 have hty:=aw5_ty
 have hvv:=aw5_vv
 go_wp2_with (first
  | (go_at_call 8;(with_reducible refine (aw5_parse _).mono ?_);rintro e w1 ⟨⟨v0,v1,v2,v3,rf,rt,rfl,R1⟩,hb1⟩;have hz1:=hb1.size;
     obtain ⟨z0,y0,rfl⟩:=own_form R1.g;obtain ⟨z1,y1,rfl⟩:=own_form R1.l;obtain ⟨z2,y2,rfl⟩:=own_form R1.f;simp only [aw5_n0,aw5_n1,aw5_n2] at R1 ⊢;
     have R2:=hid (R1.stay ((Below.refl _ w1).alloc (Nat.le_refl _) (.cells #[(.slice z0 1 y0),(.slice z1 1 y1),(.slice z2 0 y2),v3] 28)));
     have PB : PgBlk (w1.alloc (.cells #[(.slice z0 1 y0),(.slice z1 1 y1),(.slice z2 0 y2),v3] 28)) w1.heap.size (.slice z0 1 y0) (.slice z1 1 y1) (.slice z2 0 y2) v3:=PgBlk.new rfl;
     obtain ⟨g3,c3,gs,cs,p5,c5,rfl,A1⟩:=aw5_mem R2.out PB;
     have HA1:=hid A1;
     have HL1:=hid (L.out.below (show Below w.heap.size w (w1.alloc (.cells #[(.slice z0 1 y0),(.slice z1 1 y1),(.slice z2 0 y2),.slice (some ⟨g3,0,none⟩) 1 c3] 28)) by (refine Fr.below ?_;(with_reducible repeat first | exact Fr.refl _ _ | refine Fr.alloc ?_ _ | refine Fr.drewN ?_ _ | refine Fr.drew ?_ | (refine Fr.set ?_ ?_ _ _;rotate_left;first | exact .inl rfl | (right;simp;done) | (right;simp;omega) | (right;omega)) | refine Fr.step ?_ (by assumption) | refine Fr.stepB ?_ (by assumption)))));
     obtain ⟨la,⟨ca0,ca1,ca2,ca3⟩,⟨fa0,fa1,fa2,fa3⟩⟩:=PB.facts;clear PB A1 R1)
  | (go_at_call 9;(with_reducible refine (aw5_prog R2.out HL1.out).mono ?_);rintro e w2 ⟨rfl,hb2⟩;have HA2:=hid (HA1.out.stay hb2);have HL2:=hid (HL1.out.below hb2);have hz2:=hb2.size;clear R2)
  | (go_at_call 13;(with_reducible refine (type_any true true _).mono ?_);rintro e w3 ⟨rfl,hb3⟩;  have HA3:=hid (HA2.out.stay hb3);have HL3:=hid (HL2.out.below hb3);have hz3:=hb3.size;
     obtain ⟨lb,⟨cb0,cb1,cb2,cb3⟩,⟨fb0,fb1,fb2,fb3⟩⟩:=HA3.out.blk.facts;have th3:=HA3.out.th;have bd3:=HA3.out.bd;have l33:=HA3.out.l3;have ls3:=HA3.out.ls)
  | (go_at_call 11;(with_reducible refine (aw5_sts HL3.out HA3.out.is).mono ?_);rintro e w4 ⟨rfl,hb4⟩))
 all_goals go_ret
 all_goals exact ⟨by simp,by (refine Fr.below ?_;(with_reducible repeat first | exact Fr.refl _ _ | refine Fr.alloc ?_ _ | refine Fr.drewN ?_ _ | refine Fr.drew ?_ | (refine Fr.set ?_ ?_ _ _;rotate_left;first | exact .inl rfl | (right;simp;done) | (right;simp;omega) | (right;omega)) | refine Fr.step ?_ (by assumption) | refine Fr.stepB ?_ (by assumption)))⟩
open Go
theorem part_no {c : UInt8} (h : isPart c = true) : c ≠ 10:=by rintro rfl;exact absurd h (by decide)
theorem letter_no {c : UInt8} (h : isLetter c = true) : c ≠ 10:=by rintro rfl;exact absurd h (by decide)
theorem NameB.no {t : List UInt8} (h : NameB t) : (10 : UInt8) ∉ t:=by
 obtain ⟨c,r,rfl,h1,h2,_,_⟩:=h
 intro hm
 rcases List.mem_cons.1 hm with e | hm
 · exact letter_no h1 e.symm
 · exact part_no (h2 _ hm) rfl
theorem NmOk.no {t : List UInt8} (h : NmOk t) : (10 : UInt8) ∉ t:=by
 rcases h with rfl | h
 · simp
 · exact h.no
theorem part10 {k : Bool} {t : List UInt8} (h : (10 : UInt8) ∉ t) : (10 : UInt8) ∉ partT k t:=by
 cases k <;> simp [partT,h]
theorem op10 : ∀ j : Nat,j < 19 → (10 : UInt8) ∉ opT (j : Int):=by decide
theorem dec_digits5 (u : Nat) : ∀ c ∈ Lib.decDigits u,isDigit c = true:=by
 induction u using Nat.strongRecOn with
 | _ u ih =>
  rw [Lib.decDigits]
  split
  · intro c hc
    rw [List.mem_singleton] at hc
    subst hc
    have : (UInt8.ofNat (48 + u)).toNat = 48 + u:=by rw [UInt8.toNat_ofNat'];omega
    simp only [isDigit,this,Bool.and_eq_true,decide_eq_true_eq]
    omega
  · intro c hc
    rcases List.mem_append.1 hc with hc | hc
    · exact ih (u / 10) (by omega) c hc
    · rw [List.mem_singleton] at hc
      subst hc
      have : (UInt8.ofNat (48 + u % 10)).toNat = 48 + u % 10:=by rw [UInt8.toNat_ofNat'];omega
      simp only [isDigit,this,Bool.and_eq_true,decide_eq_true_eq]
      omega
theorem itoa10 {n : Int} (h : 0 ≤ n) : (10 : UInt8) ∉ Lib.itoa n:=by
 obtain ⟨m,rfl⟩:=Int.eq_ofNat_of_zero_le h
 rw [Lib.itoa_nonneg]
 intro hm
 exact absurd (dec_digits5 m _ hm) (by decide)
theorem Fit.no10 {o : Nat} {r : Int} {x : Ex} (h : Fit o r x) : (10 : UInt8) ∉ x.txt:=by
 induction h with
 | num h1 _ => simpa [Ex.txt,txtOf] using itoa10 h1
 | tru => simp [Ex.txt,txtOf,truB]
 | fls => simp [Ex.txt,txtOf,flsB]
 | var h => simpa [Ex.txt,txtOf] using h.no
 | elem h _ _ ih => simp [Ex.txt,Ex.kds,txtOf,rowK,h.no,ih]
 | neg _ _ ih => simp [Ex.txt,Ex.kds,txtOf,oneK,part10 ih]
 | not _ _ ih => simp [Ex.txt,Ex.kds,txtOf,oneK,part10 ih]
 | two h1 _ _ _ _ ih1 ih2 => simp [Ex.txt,Ex.kds,txtOf,twoK,part10 ih1,part10 ih2,op10 _ h1]
 | brk _ _ _ _ ih => exact ih
 | @call o r nm es a h _ _ ih =>
  have hk : (10 : UInt8) ∉ rowK (Ex.kds es):=by
   rw [kds_map]
   cases es with
   | nil => simp [rowK]
   | cons y r =>
    simp only [List.map_cons,rowK,List.mem_append,List.mem_flatMap,not_or]
    refine ⟨ih y (.head _),?_⟩
    rintro ⟨z,hz,hm⟩
    obtain ⟨q,hq,rfl⟩:=List.mem_map.1 hz
    have:=ih q (.tail _ hq)
    simp [this] at hm
  simp [Ex.txt,txtOf,h.no,hk]
theorem GoodE.no {x : Ex} (h : GoodE x) : (10 : UInt8) ∉ x.txt:=h.2.2.2.no10
theorem only_no {l : List Ex} (h : ∀ x ∈ l,GoodE x) : (10 : UInt8) ∉ onlyT l:=by
 cases l with
 | nil => simp [onlyT]
 | cons x r => exact (h x (.head _)).no
theorem index_no {l : List Ex} (h : ∀ x ∈ l,GoodE x) : (10 : UInt8) ∉ indexT l:=by
 cases l with
 | nil => simp [indexT]
 | cons x r => simp [indexT,(h x (.head _)).no]
theorem type_no (tr sc : Bool) : (10 : UInt8) ∉ typeT tr sc:=by cases tr <;> cases sc <;> decide
def linesT (n : Nat) (ls : List (List UInt8)) : List UInt8:=ls.flatMap fun x => List.replicate n 9 ++ (x ++ [10])
def Tabbed (f : Nat → List UInt8) : Prop:=∃ ls : List (List UInt8),(∀ x ∈ ls,x ≠ [] ∧ (10 : UInt8) ∉ x) ∧ ∀ n,f n = linesT n ls
theorem Tabbed.nil : Tabbed fun _ => []:=⟨[],by simp,fun _ => rfl⟩
theorem Tabbed.app {f g : Nat → List UInt8} (h : Tabbed f) (k : Tabbed g) : Tabbed fun n => f n ++ g n:=by
 obtain ⟨a,h1,h2⟩:=h
 obtain ⟨b,k1,k2⟩:=k
 refine ⟨a ++ b,fun x hx => (List.mem_append.1 hx).elim (h1 x) (k1 x),fun n => ?_⟩
 show f n ++ g n = _
 rw [h2,k2]
 simp [linesT]
theorem Tabbed.line (k : Nat) {ps : List (List UInt8)} (hn : ps.flatten ≠ []) (h10 : (10 : UInt8) ∉ ps.flatten) : Tabbed fun n => lineT (n + k) ps:=by
 refine ⟨[List.replicate k 9 ++ ps.flatten],fun x hx => ?_,fun n => ?_⟩
 · obtain rfl:=List.mem_singleton.1 hx
   refine ⟨fun e => hn (List.append_eq_nil_iff.1 e).2,fun hm => ?_⟩
   rcases List.mem_append.1 hm with e | e
   · exact absurd (List.mem_replicate.1 e).2 (by decide)
   · exact h10 e
 · simp [linesT,lineT,← List.replicate_append_replicate]
mutual
theorem st_tab : ∀ (s : Stm) (k : Nat),GoodS s → Tabbed fun n => stT s (n + k)
 | .mk q a tr sc nm ix es bd el,k,h => by
  have hb : (∀ s ∈ bd,GoodS s) → Tabbed fun n => stsT bd (n + (k + 1)):=sts_tab bd (k + 1)
  have he : (∀ s ∈ el,GoodS s) → Tabbed fun n => stsT el (n + (k + 1)):=sts_tab el (k + 1)
  cases h with
  | mk h0 h5 g1 g2 g3 g4 g5 =>
   have hq : q = 0 ∨ q = 1 ∨ q = 2 ∨ q = 3 ∨ q = 4 ∨ q = 5:=by omega
   have i1:=index_no g1
   have i2:=only_no g2
   have i3:=g3.no
   have i4:=type_no tr sc
   have hB:=hb g4
   have hE:=he g5
   have hend : Tabbed fun n => lineT (n + k) [[125]]:=.line k (by decide) (by decide)
   rcases hq with rfl | rfl | rfl | rfl | rfl | rfl
   · simp only [stT,if_true]
     exact .line k (by simp [tVar]) (by simp [tVar,tEq,i2,i3,i4])
   · simp only [stT]
     exact .line k (by simp [tEq]) (by simp [tEq,i1,i2,i3])
   · simp only [stT]
     refine (Tabbed.line k (ps:=[tIf,onlyT es,tBr]) (by simp [tIf]) (by simp [tIf,tBr,i2])).app (hB.app (Tabbed.app ?_ hend))
     cases el with
     | nil => exact .nil
     | cons y r => exact (Tabbed.line k (ps:=[tElse]) (by simp [tElse]) (by simp [tElse])).app hE
   · simp only [stT]
     exact (Tabbed.line k (ps:=[tWhile,onlyT es,tBr]) (by simp [tWhile]) (by simp [tWhile,tBr,i2])).app (hB.app hend)
   · simp only [stT]
     exact (Tabbed.line k (ps:=[tLock,nm,tOpen]) (by simp [tLock]) (by simp [tLock,tOpen,i3])).app (hB.app hend)
   · simp only [stT]
     exact .line k (by simp [tOut]) (by simp [tOut,i2])
theorem sts_tab : ∀ (l : List Stm) (k : Nat),(∀ s ∈ l,GoodS s) → Tabbed fun n => stsT l (n + k)
 | [],_,_ => by simp only [stsT];exact .nil
 | s :: r,k,h => by
  simp only [stsT]
  exact (st_tab s k (h s (.head _))).app (sts_tab r k fun x hx => h x (.tail _ hx))
end
def tb (n : Nat) : Bool → List UInt8 → List UInt8
 | _,[] => []
 | st,c :: r => (if st then List.replicate n 9 else []) ++ c :: tb n (c == 10) r
def NE : Bool → List UInt8 → Prop
 | st,[] => st = true
 | st,c :: r => (st = true → c ≠ 10) ∧ NE (c == 10) r
structure At (n : Nat) (a b : List UInt8) (j k : Nat) : Prop where
 ja : j ≤ a.length
 kb : k ≤ b.length
 tb : b.drop k = tb n (decide (j = 0 ∨ a[j - 1]? = some 10)) (a.drop j)
 ne : NE (decide (j = 0 ∨ a[j - 1]? = some 10)) (a.drop j)
theorem At.stop {n : Nat} {a b : List UInt8} {k : Nat} (h : At n a b a.length k) : k = b.length ∧ (0 < a.length → a[a.length - 1]? = some 10):=by
 have h1:=h.tb
 have h2:=h.ne
 rw [List.drop_length] at h1 h2
 have h3:=congrArg List.length h1
 rw [List.length_drop] at h3
 have:=h.kb
 refine ⟨by simp [Go.Proofs.YtkhbbapocamlmaaDoor.tb] at h3;omega,fun h0 => ?_⟩
 have h4 : a.length = 0 ∨ a[a.length - 1]? = some 10:=by simpa [NE] using h2
 exact h4.resolve_left (by omega)
theorem At.tabs {n : Nat} {a b : List UInt8} {j k : Nat} (h : At n a b j k) (hj : j < a.length) (hs : j = 0 ∨ a[j - 1]? = some 10) : k + n < b.length ∧ (∀ t,t < n → b[k + t]? = some 9) ∧ b[k + n]? = a[j]? ∧ a[j]? ≠ some 10 ∧ At n a b (j + 1) (k + n + 1):=by
 have h1:=h.tb
 have h2:=h.ne
 rw [decide_eq_true hs,List.drop_eq_getElem_cons hj] at h1 h2
 obtain ⟨h3,h4⟩:=h2
 simp only [Go.Proofs.YtkhbbapocamlmaaDoor.tb,if_true] at h1
 have hl:=congrArg List.length h1
 simp only [List.length_drop,List.length_append,List.length_replicate,List.length_cons] at hl
 have hb : ∀ i,b[k + i]? = (List.replicate n 9 ++ a[j] :: Go.Proofs.YtkhbbapocamlmaaDoor.tb n (a[j] == 10) (a.drop (j + 1)))[i]?:=fun i => by rw [← h1,List.getElem?_drop]
 have hd : decide (j + 1 = 0 ∨ a[j + 1 - 1]? = some 10) = (a[j] == 10):=by
  rw [Nat.add_sub_cancel,List.getElem?_eq_getElem hj]
  by_cases h9 : a[j] = 10 <;> simp [h9]
 refine ⟨by omega,fun t ht => ?_,?_,?_,by omega,by omega,?_,?_⟩
 · rw [hb,List.getElem?_append_left (by simpa using ht)]
   simp [ht]
 · rw [hb,List.getElem?_append_right (by simp)]
   simp [List.getElem?_eq_getElem hj]
 · rw [List.getElem?_eq_getElem hj]
   intro e
   exact h3 rfl (Option.some.inj e)
 · rw [hd,show k + n + 1 = k + (n + 1) from Nat.add_assoc _ _ _,← List.drop_drop,h1]
   rw [← List.drop_drop,List.drop_append_of_le_length (by simp)]
   simp
 · rw [hd]
   exact h4
theorem At.byte {n : Nat} {a b : List UInt8} {j k : Nat} (h : At n a b j k) (hj : j < a.length) (hs : ¬ (j = 0 ∨ a[j - 1]? = some 10)) : k < b.length ∧ b[k]? = a[j]? ∧ At n a b (j + 1) (k + 1):=by
 have h1:=h.tb
 have h2:=h.ne
 rw [decide_eq_false hs,List.drop_eq_getElem_cons hj] at h1 h2
 simp only [Go.Proofs.YtkhbbapocamlmaaDoor.tb,Bool.false_eq_true,if_false,List.nil_append] at h1
 have hl:=congrArg List.length h1
 simp only [List.length_drop,List.length_cons] at hl
 have hd : decide (j + 1 = 0 ∨ a[j + 1 - 1]? = some 10) = (a[j] == 10):=by
  rw [Nat.add_sub_cancel,List.getElem?_eq_getElem hj]
  by_cases h9 : a[j] = 10 <;> simp [h9]
 refine ⟨by omega,?_,by omega,by omega,?_,?_⟩
 · have:=congrArg (·[0]?) h1
   simpa [List.getElem?_drop,List.getElem?_eq_getElem hj] using this
 · rw [hd,← List.drop_drop,h1]
   rfl
 · rw [hd]
   exact h2.2
theorem only_len {l : List Ex} (h : ∀ x ∈ l,GoodE x) : (onlyT l).length ≤ 1000000:=by
 cases l with
 | nil => simp [onlyT]
 | cons x r => exact (h x (.head _)).2.2.1
theorem index_len {l : List Ex} (h : ∀ x ∈ l,GoodE x) : (indexT l).length ≤ 1000002:=by
 cases l with
 | nil => simp [indexT]
 | cons x r =>
  have:=(h x (.head _)).2.2.1
  simp only [indexT,List.length_cons,List.length_append,List.length_nil]
  omega
theorem type_len (tr sc : Bool) : (typeT tr sc).length ≤ 20:=by cases tr <;> cases sc <;> decide
theorem line_len (n : Nat) (ps : List (List UInt8)) : (lineT n ps).length = n + ps.flatten.length + 1:=by
 simp only [lineT,List.length_append,List.length_replicate,List.length_cons,List.length_nil]
 omega
mutual
theorem st_len : ∀ (s : Stm) (n K : Nat),GoodS s → 3 * (n + s.cnt) + 9000000 ≤ K → (stT s n).length ≤ s.cnt * K
 | .mk q a tr sc nm ix es bd el,n,K,h,hK => by
  have hb : (∀ s ∈ bd,GoodS s) → 3 * (n + 1 + cntS bd) + 9000000 ≤ K → (stsT bd (n + 1)).length ≤ cntS bd * K:=sts_len bd (n + 1) K
  have he : (∀ s ∈ el,GoodS s) → 3 * (n + 1 + cntS el) + 9000000 ≤ K → (stsT el (n + 1)).length ≤ cntS el * K:=sts_len el (n + 1) K
  cases h with
  | mk h0 h5 g1 g2 g3 g4 g5 =>
   have hq : q = 0 ∨ q = 1 ∨ q = 2 ∨ q = 3 ∨ q = 4 ∨ q = 5:=by omega
   have i1:=index_len g1
   have i2:=only_len g2
   have i3:=g3.len
   have i4:=type_len tr sc
   simp only [Stm.cnt] at hK ⊢
   have hB:=hb g4 (by omega)
   have hE:=he g5 (by omega)
   rw [Nat.add_mul,Nat.add_mul,Nat.one_mul]
   rcases hq with rfl | rfl | rfl | rfl | rfl | rfl
   · simp only [stT,if_true,line_len,List.flatten_cons,List.flatten_nil,List.length_append,List.length_cons,List.length_nil,tVar,tEq]
     omega
   · simp only [stT]
     simp [line_len,tEq]
     omega
   · simp only [stT]
     simp [line_len,tIf,tBr]
     split
     · simp
       omega
     · simp [line_len,tElse]
       omega
   · simp only [stT]
     simp [line_len,tWhile,tBr]
     omega
   · simp only [stT]
     simp [line_len,tLock,tOpen]
     omega
   · simp only [stT]
     simp [line_len,tOut]
     omega
theorem sts_len : ∀ (l : List Stm) (n K : Nat),(∀ s ∈ l,GoodS s) → 3 * (n + cntS l) + 9000000 ≤ K → (stsT l n).length ≤ cntS l * K
 | [],_,_,_,_ => by simp [stsT]
 | s :: r,n,K,h,hK => by
  simp only [cntS] at hK
  have h1:=st_len s n K (h s (.head _)) (by omega)
  have h2:=sts_len r n K (fun x hx => h x (.tail _ hx)) (by omega)
  simp only [stsT,cntS,List.length_append,Nat.add_mul]
  omega
end
theorem sts_short {l : List Stm} (h : ∀ s ∈ l,GoodS s) (hc : cntS l ≤ 16385) {n : Nat} (hn : n ≤ 1000) : (stsT l n).length ≤ 1000000000000:=by
 have h1:=sts_len l n 10000000 h (by omega)
 have h2 : cntS l * 10000000 ≤ 16385 * 10000000:=Nat.mul_le_mul_right _ hc
 omega
def Parsed (s : ByteArray) (B : Nat) (w' : World) (c : Int) (v0 v1 v2 v3 : Value) : Prop:=c ≠ 0 ∨ (c = 0 ∧ s.size ≤ 16384 ∧ ∃ p rf rt,GoodP p 16385 ∧ NiceP p ∧ PRows B w' p v0 v1 v2 v3 rf rt)
theorem r4_parse_all (s : ByteArray) (w : World) :
 Calls Tryd.prog 8 #[.string s] w fun e w' => Below w.heap.size w w' ∧ ∃ z0 n0 c0 z1 n1 c1 z2 n2 c2 z3 n3 c3 c a,e = .returned (.tuple #[.agg #[.slice z0 n0 c0,.slice z1 n1 c1,.slice z2 n2 c2,.slice z3 n3 c3],.int .i64 c,.int .i64 a]) ∧
  Parsed s w.heap.size w' c (.slice z0 n0 c0) (.slice z1 n1 c1) (.slice z2 n2 c2) (.slice z3 n3 c3) :=
 (r4_parse_any s w).mono fun e w' ⟨hb,v0,v1,v2,v3,c,a,he,h⟩ => by
  rcases h with ⟨hc,rfl,rfl,rfl,rfl⟩ | ⟨hc,hs,ws,p,t,rf,rt,hS,hp,R⟩
  · exact ⟨hb,_,_,_,_,_,_,_,_,_,_,_,_,c,a,he,.inl hc⟩
  · have hG:=par_good hS hs hp
    have hN:=par_nice hS hs hp
    obtain ⟨z0,c0,rfl⟩:=own_form R.g
    obtain ⟨z1,c1,rfl⟩:=own_form R.l
    obtain ⟨z2,c2,rfl⟩:=own_form R.f
    obtain ⟨z3,c3,rfl⟩:=own_form R.t
    exact ⟨hb,_,_,_,_,_,_,_,_,_,_,_,_,c,a,he,.inr ⟨hc,hs,p,rf,rt,hG,hN,R⟩⟩
end Go.Proofs.YtkhbbapocamlmaaDoor
namespace Go.Proofs.YtkhbbapocamlmaaDoor
open Go Go.RowKit
structure SayP (p : Pg) : Prop where
 gs : ∀ g ∈ p.gs,g.nm.length ≤ 24 ∧ g.by_.length ≤ 24 ∧ 0 ≤ g.len ∧ g.len ≤ 64
 ls : ∀ l ∈ p.ls,l.nm.length ≤ 24
 fs : ∀ f ∈ p.fs,((∀ s ∈ f.bd,GoodS s) ∧ cntS f.bd ≤ 16385 ∧ GoodE f.ret ∧ f.nm.length ≤ 100000) ∧ NameB f.nm ∧ f.ps.length ≤ 6 ∧ ∀ q ∈ f.ps,NameB q.nm
 ths : ∀ l ∈ p.ths,(∀ s ∈ l,GoodS s) ∧ cntS l ≤ 16385
structure FewP (p : Pg) : Prop where
 nl : p.ls.length ≤ 16
 ng : p.gs.length ≤ 64
 nf : p.fs.length ≤ 32
 nt : p.ths.length ≤ 8
theorem NameB.len {t : List UInt8} (h : NameB t) : t.length ≤ 24:=by
 obtain ⟨_,_,_,_,_,h24,_⟩:=h
 exact h24
theorem say_of {p : Pg} (h : GoodP p 16385) (k : NiceP p) : SayP p where
 gs g hg:=by
  obtain ⟨h1,h2,h3⟩:=k.gs g hg
  refine ⟨h1.len,?_,by omega,by omega⟩
  rcases h3 with e | e
  · rw [e]
    simp
  · exact e.len
 ls l hl:=(k.ls l hl).len
 fs f hf:=⟨h.fn f hf,k.fs f hf⟩
 ths l hl:=h.th l hl
theorem few_of {p : Pg} (k : NiceP p) : FewP p:=⟨by (have:=k.nl;omega),by (have:=k.ng;omega),by (have:=k.nf;omega),by (have:=k.nt;omega)⟩
theorem flat_len {α : Type} (f : α → List UInt8) (K : Nat) : ∀ l : List α,(∀ x ∈ l,(f x).length ≤ K) → (l.flatMap f).length ≤ l.length * K
 | [],_ => by simp
 | x :: r,h => by
  have h1:=h x (.head _)
  have h2:=flat_len f K r fun y hy => h y (.tail _ hy)
  simp only [List.flatMap_cons,List.length_append,List.length_cons,Nat.succ_mul]
  omega
theorem lenT_len (n : Int) (h0 : 0 ≤ n) (h1 : n ≤ 64) : (lenT n).length ≤ 22:=by
 unfold lenT
 split
 · simp
 · have e : n = ((n.toNat : Nat) : Int):=by omega
   have:=itoa_len n.toNat (by omega)
   rw [← e] at this
   simp only [List.length_cons,List.length_append,List.length_nil]
   omega
theorem byT_len (t : List UInt8) (h : t.length ≤ 24) : (byT t).length ≤ 28:=by
 unfold byT
 split
 · simp
 · simp only [List.length_cons]
   omega
theorem lkT_len {x : Lk} (h : x.nm.length ≤ 24) : (lkT x).length ≤ 1000:=by
 simp only [lkT,lineT_len,List.flatten_cons,List.flatten_nil,List.length_append,List.length_cons,List.length_nil,tLock]
 omega
theorem glT_len {x : Gl} (h : x.nm.length ≤ 24 ∧ x.by_.length ≤ 24 ∧ 0 ≤ x.len ∧ x.len ≤ 64) : (glT x).length ≤ 1000:=by
 have h1:=type_len9 x.tr x.sc
 have h2:=lenT_len x.len h.2.2.1 h.2.2.2
 have h3:=byT_len x.by_ h.2.1
 have h4:=h.1
 simp only [glT,lineT_len,List.flatten_cons,List.flatten_nil,List.length_append,List.length_cons,List.length_nil]
 omega
theorem thT_len {l : List Stm} (h : (∀ s ∈ l,GoodS s) ∧ cntS l ≤ 16385) : (thT l).length ≤ 1100000000000:=by
 have h1:=sts_short h.1 h.2 (n:=1) (by omega)
 simp only [thT,lineT_len,List.flatten_cons,List.flatten_nil,List.length_append,List.length_cons,List.length_nil,tThr]
 omega
theorem fnT_len {f : Fn} (h : ((∀ s ∈ f.bd,GoodS s) ∧ cntS f.bd ≤ 16385 ∧ GoodE f.ret ∧ f.nm.length ≤ 100000) ∧ NameB f.nm ∧ f.ps.length ≤ 6 ∧ ∀ q ∈ f.ps,NameB q.nm) : (fnT f).length ≤ 1100000000000:=by
 have h1:=sts_short h.1.1 h.1.2.1 (n:=0 + 1) (by omega)
 have h2:=params_len h.2.2.1 h.2.2.2
 have h3:=h.2.1.len
 have h4:=h.1.2.2.1.2.2.1
 have h5:=type_len9 f.tr f.sc
 simp only [fnT,fnA,fnC,lineT_len,List.flatten_cons,List.flatten_nil,List.length_append,List.length_cons,List.length_nil,tFunc,tRet]
 omega
theorem say_len {p : Pg} (h : SayP p) (k : FewP p) : (progT fnT p).length ≤ 50000000000000:=by
 have h1:=flat_len lkT 1000 p.ls fun x hx => lkT_len (h.ls x hx)
 have h2:=flat_len glT 1000 p.gs fun x hx => glT_len (h.gs x hx)
 have h3:=flat_len fnT 1100000000000 p.fs fun x hx => fnT_len (h.fs x hx)
 have h4:=flat_len thT 1100000000000 p.ths fun x hx => thT_len (h.ths x hx)
 have k1 : p.ls.length * 1000 ≤ 16 * 1000:=Nat.mul_le_mul_right _ k.nl
 have k2 : p.gs.length * 1000 ≤ 64 * 1000:=Nat.mul_le_mul_right _ k.ng
 have k3 : p.fs.length * 1100000000000 ≤ 32 * 1100000000000:=Nat.mul_le_mul_right _ k.nf
 have k4 : p.ths.length * 1100000000000 ≤ 8 * 1100000000000:=Nat.mul_le_mul_right _ k.nt
 simp only [progT,List.length_append]
 omega
theorem prog_say {p : Pg} {BB : Nat} {W : World} {v0 v1 v2 v3 : Value} {rf : List (Fn × FV)} {rt : List (List Stm × Value)} (R : PRows BB W p v0 v1 v2 v3 rf rt) (L : Laid W) (h : SayP p) (k : FewP p) (T : List UInt8) (hT : progT fnT p = T) :
 Calls Tryd.prog 9 #[.agg #[v0,v1,v2,v3]] W fun e w' => e = .returned (.string (bstr T)) ∧ Below W.heap.size W w' :=
 prog_any fnT p BB W v0 v1 v2 v3 rf rt R L
  (fun g hg => by (obtain ⟨h1,h2,h3,h4⟩:=h.gs g hg;exact ⟨by omega,by omega,h3,h4⟩))
  (fun l hl => ⟨(h.ths l hl).1,by (have:=(h.ths l hl).2;omega)⟩)
  (fun f hf => fn_owes f (h.fs f hf).1 (h.fs f hf).2)
  ⟨by (have:=k.ng;omega),by (have:=k.nl;omega),by (have:=k.nf;omega),by (have:=k.nt;omega)⟩ T hT (by (have:=say_len h k;rw [hT] at this;omega))
section
variable {B : Nat} {W : World} {p : Pg} {v0 v1 v2 v3 : Value} {rf : List (Fn × FV)} {rt : List (List Stm × Value)}
theorem PRows.onlyL (R : PRows B W p v0 v1 v2 v3 rf rt) : PRows B W ⟨[],p.ls,[],[]⟩ (.slice none 0 0) v1 (.slice none 0 0) (.slice none 0 0) [] [] :=
 ⟨World.ownsRow_nil W B _ 6,R.l,World.ownsRow_nil W B _ 12,World.ownsRow_nil W B _ 1,rfl,rfl,by simp,by simp⟩
theorem PRows.onlyG (R : PRows B W p v0 v1 v2 v3 rf rt) : PRows B W ⟨p.gs,[],[],[]⟩ v0 (.slice none 0 0) (.slice none 0 0) (.slice none 0 0) [] [] :=
 ⟨R.g,World.ownsRow_nil W B _ 2,World.ownsRow_nil W B _ 12,World.ownsRow_nil W B _ 1,rfl,rfl,by simp,by simp⟩
theorem PRows.onlyF (R : PRows B W p v0 v1 v2 v3 rf rt) : PRows B W ⟨[],[],p.fs,[]⟩ (.slice none 0 0) (.slice none 0 0) v2 (.slice none 0 0) rf [] :=
 ⟨World.ownsRow_nil W B _ 6,World.ownsRow_nil W B _ 2,R.f,World.ownsRow_nil W B _ 1,R.ef,rfl,R.xf,by simp⟩
theorem PRows.onlyT (R : PRows B W p v0 v1 v2 v3 rf rt) : PRows B W ⟨[],[],[],p.ths⟩ (.slice none 0 0) (.slice none 0 0) (.slice none 0 0) v3 [] rt :=
 ⟨World.ownsRow_nil W B _ 6,World.ownsRow_nil W B _ 2,World.ownsRow_nil W B _ 12,R.t,rfl,R.et,by simp,R.xt⟩
theorem SayP.onlyL (h : SayP p) : SayP ⟨[],p.ls,[],[]⟩:=⟨by simp,h.ls,by simp,by simp⟩
theorem SayP.onlyG (h : SayP p) : SayP ⟨p.gs,[],[],[]⟩:=⟨h.gs,by simp,by simp,by simp⟩
theorem SayP.onlyF (h : SayP p) : SayP ⟨[],[],p.fs,[]⟩:=⟨by simp,by simp,h.fs,by simp⟩
theorem SayP.onlyT (h : SayP p) : SayP ⟨[],[],[],p.ths⟩:=⟨by simp,by simp,by simp,h.ths⟩
theorem FewP.onlyL (h : FewP p) : FewP ⟨[],p.ls,[],[]⟩:=⟨h.nl,by simp,by simp,by simp⟩
theorem FewP.onlyG (h : FewP p) : FewP ⟨p.gs,[],[],[]⟩:=⟨by simp,h.ng,by simp,by simp⟩
theorem FewP.onlyF (h : FewP p) : FewP ⟨[],[],p.fs,[]⟩:=⟨by simp,by simp,h.nf,by simp⟩
theorem FewP.onlyT (h : FewP p) : FewP ⟨[],[],[],p.ths⟩:=⟨by simp,by simp,by simp,h.nt⟩
end
def Pg.both (p q : Pg) : Pg:=⟨p.gs ++ q.gs,p.ls ++ q.ls,p.fs ++ q.fs,p.ths ++ q.ths⟩
theorem SayP.both {p q : Pg} (h : SayP p) (k : SayP q) : SayP (p.both q) :=
 ⟨fun x hx => (List.mem_append.1 hx).elim (h.gs x) (k.gs x),fun x hx => (List.mem_append.1 hx).elim (h.ls x) (k.ls x),fun x hx => (List.mem_append.1 hx).elim (h.fs x) (k.fs x),fun x hx => (List.mem_append.1 hx).elim (h.ths x) (k.ths x)⟩
theorem IsFn1.lo0 {lo : Nat} {W : World} {f : Fn} {v : FV} (h : IsFn1 (fun g => lo ≤ g) W f v) : IsFn1 (fun g => 0 ≤ g) W f v:=h.low (Nat.zero_le _)
theorem own_zero {B T k n : Nat} {w : World} {v : Value} {xs : List Value} (h : w.ownsRow B T k v n xs) : w.ownsRow 0 T k v n xs:=by
 refine ⟨h.1,?_⟩
 rcases h.2 with h0 | ⟨g,cap,cur,e,_,rest⟩
 · exact .inl h0
 · exact .inr ⟨g,cap,cur,e,Nat.zero_le _,rest⟩
theorem PRows.both {B1 B2 n : Nat} {Z : World} {p q : Pg} {a0 a1 a2 a3 b0 b1 b2 b3 c0 c1 c2 c3 : Value} {rf rf2 : List (Fn × FV)} {rt rt2 : List (List Stm × Value)} (R : PRows B1 Z p a0 a1 a2 a3 rf rt) (S : PRows B2 Z q b0 b1 b2 b3 rf2 rt2)
 (h0 : Z.ownsRow n 39 6 c0 (p.gs.length + q.gs.length) (p.gs.flatMap glCells ++ q.gs.flatMap glCells)) (h1 : Z.ownsRow n 66 2 c1 (p.ls.length + q.ls.length) (p.ls.flatMap lkCells ++ q.ls.flatMap lkCells))
 (h2 : Z.ownsRow n 73 12 c2 (p.fs.length + q.fs.length) (fnRow rf ++ fnRow rf2)) (h3 : Z.ownsRow n 34 1 c3 (p.ths.length + q.ths.length) (thRow rt ++ thRow rt2)) : PRows 0 Z (p.both q) c0 c1 c2 c3 (rf ++ rf2) (rt ++ rt2):=by
 refine ⟨?_,?_,?_,?_,?_,?_,?_,?_⟩
 · simpa [Pg.both,List.flatMap_append] using own_zero h0
 · simpa [Pg.both,List.flatMap_append] using own_zero h1
 · simpa [Pg.both,fnRow,List.flatMap_append] using own_zero h2
 · simpa [Pg.both,thRow] using own_zero h3
 · simp [Pg.both,R.ef,S.ef]
 · simp [Pg.both,R.et,S.et]
 · exact fun x hx => (List.mem_append.1 hx).elim (fun h => (R.xf x h).lo0) (fun h => (S.xf x h).lo0)
 · exact fun x hx => (List.mem_append.1 hx).elim (fun h => (R.xt x h).lo (Nat.zero_le _)) (fun h => (S.xt x h).lo (Nat.zero_le _))
end Go.Proofs.YtkhbbapocamlmaaDoor
namespace Go.Proofs.YtkhbbapocamlmaaDoor
open Go Go.RowKit
theorem rtype_any (tr sc : Bool) (w : World) : Calls Tryd.prog 14 #[.agg #[.bool tr,.bool sc]] w fun e w' => e = .returned (.string (bstr (typeT tr sc))) ∧ Below w.heap.size w w':=by
 cases tr <;> cases sc
 all_goals go_enter Tryd.func14,Tryd.ntmps14
 all_goals go_wp2
 all_goals go_ret
 all_goals exact ⟨rfl,by (refine Fr.below ?_;(with_reducible repeat first | exact Fr.refl _ _ | refine Fr.alloc ?_ _ | refine Fr.drewN ?_ _ | refine Fr.drew ?_ | (refine Fr.set ?_ ?_ _ _;rotate_left;first | exact .inl rfl | (right;simp;done) | (right;simp;omega) | (right;omega)) | refine Fr.step ?_ (by assumption) | refine Fr.stepB ?_ (by assumption)))⟩
theorem rline_any (n : Nat) (hn : n ≤ 30000) (u : ByteArray) (ps : List (List UInt8)) (hu : Hid (u = bstr ps.flatten)) (T : List UInt8) (hT : Hid (lineT n ps = T)) (hl : T.length ≤ 100000000000000) (w : World) :
 Calls Tryd.prog 26 #[.int .i64 n,.string u] w fun e w' => e = .returned (.string (bstr (T))) ∧ Below w.heap.size w w':=by
 have hul : u.size ≤ 100000000000000:=by
  rw [hu.out]
  show ps.flatten.length ≤ _
  have:=congrArg List.length hT.out
  rw [lineT_len] at this
  omega
 go_enter Tryd.func26,Tryd.ntmps26
 go_wp2
 go_loopw [5,6] (fun sv iv wr => ∃ k : Nat,sv = .string (bstr (List.replicate k 9)) ∧ iv = .int .i64 k ∧ k ≤ n ∧ Below w.heap.size w wr) (fun _ iv _ => n - (intOf iv).toNat)
 case atStart => exact ⟨0,rfl,rfl,Nat.zero_le _,Below.refl _ _⟩
 case round =>
  obtain ⟨k,rfl,rfl,hk,hbr⟩:=hrel
  have HBR:=hid hbr
  obtain ⟨R,hR⟩ : ∃ R,List.replicate k (9 : UInt8) = R:=⟨_,rfl⟩
  have hrs : (bstr R).size ≤ 30000:=by
   rw [← hR]
   show (List.replicate k (9 : UInt8)).length ≤ _
   rw [List.length_replicate]
   omega
  rw [hR]
  have HR:=hid hR
  clear hR hbr
  by_cases hkn : k < n
  · have hlt : (k : Int) < (n : Int):=by omega
    have hc1 : ¬ 9223372036854775807 < (bstr R).size + 1:=by omega
    go_wp2
    go_roundw
    case rel =>
     refine ⟨k + 1,?_,by go_num,by omega,HBR.out⟩
     rw [show (⟨#[9]⟩ : ByteArray) = bstr [9] from rfl,bstr_cat,← HR.out,List.replicate_succ']
    case measure =>
     simp [intOf]
     omega
  · have hlt : ¬ (k : Int) < (n : Int):=by omega
    obtain rfl : n = k:=by omega
    have hc1 : ¬ 9223372036854775807 < (bstr R).size + u.size:=by omega
    have hc2 : ¬ 9223372036854775807 < (bstr R).size + u.size + 1:=by omega
    go_wp2
    go_ret
    refine ⟨?_,HBR.out⟩
    rw [show (⟨#[10]⟩ : ByteArray) = bstr [10] from rfl,hu.out,bstr_cat,bstr_cat,← HR.out,← hT.out]
    simp [lineT]
def Kid (W : World) (z : Option Addr) (y : Nat) (E : List UInt8) : Prop:=y = 0 ∧ E = [] ∨ 0 < y ∧ ∃ (g : Nat) (x : Ex) (p : Option Addr) (m c : Nat),z = some ⟨g,0,none⟩ ∧ g < W.heap.size ∧
 (∀ X,Below W.heap.size W X → X.cell? ⟨g,0,none⟩ = some (.int .i64 x.k) ∧ X.cell? ⟨g,1,none⟩ = some (.int .i64 x.op) ∧ X.cell? ⟨g,2,none⟩ = some (.int .i64 x.n) ∧ X.cell? ⟨g,3,none⟩ = some (.string (bstr x.nm)) ∧ X.cell? ⟨g,4,none⟩ = some (.slice p m c) ∧ X.cell? ⟨g,5,none⟩ = some (.int .i64 x.a)) ∧
 (∀ X,Below W.heap.size W X → Calls Tryd.prog 53 #[.agg #[.int .i64 x.k,.int .i64 x.op,.int .i64 x.n,.string (bstr x.nm),.slice p m c,.int .i64 x.a]] X fun e w' => e = .returned (.string (bstr (E))) ∧ Below X.heap.size X w')
theorem kid_of {ok : Nat → Prop} {l : List Ex} {z : Option Addr} {y k : Nat} {W : World} (h : IsExP ok W (exsE l) (.slice z y k)) (hg : ∀ x ∈ l,GoodE x) : Kid W z y (onlyT l):=by
 cases l with
 | nil =>
  unfold exsE at h
  cases h with
  | leaf => exact .inl ⟨rfl,rfl⟩
  | node _ _ _ _ _ _ _ hne => exact absurd rfl hne
 | cons x r =>
  unfold exsE at h
  cases h with
  | node g cap cs fr vs hk9 hb hne hc hk =>
   have hk0:=hk 0 x rfl
   obtain ⟨p,c,hv⟩:=hk0.form
   have hcs:=hc 0 x rfl
   rw [hv] at hcs hk0
   have hE : IsEx 0 W x (.slice p x.ks.length c):=hk0.toEx fun _ _ => Nat.zero_le _
   have hgl : g < W.heap.size:=(Array.getElem?_eq_some_iff.1 hb).1
   have k0 : W.cell? ⟨g,0,none⟩ = some (.int .i64 x.k):=by (rw [cell_of_row _ _ _ _ _ _ hb];exact hcs 0 _ rfl)
   have k1 : W.cell? ⟨g,1,none⟩ = some (.int .i64 x.op):=by (rw [cell_of_row _ _ _ _ _ _ hb];exact hcs 1 _ rfl)
   have k2 : W.cell? ⟨g,2,none⟩ = some (.int .i64 x.n):=by (rw [cell_of_row _ _ _ _ _ _ hb];exact hcs 2 _ rfl)
   have k3 : W.cell? ⟨g,3,none⟩ = some (.string (bstr x.nm)):=by (rw [cell_of_row _ _ _ _ _ _ hb];exact hcs 3 _ rfl)
   have k4 : W.cell? ⟨g,4,none⟩ = some (.slice p x.ks.length c):=by (rw [cell_of_row _ _ _ _ _ _ hb];exact hcs 4 _ rfl)
   have k5 : W.cell? ⟨g,5,none⟩ = some (.int .i64 x.a):=by (rw [cell_of_row _ _ _ _ _ _ hb];exact hcs 5 _ rfl)
   refine .inr ⟨by simp,g,x,p,x.ks.length,c,rfl,hgl,fun X hX => ⟨(hX.cell (p:=⟨g,0,none⟩) hgl).trans k0,(hX.cell (p:=⟨g,1,none⟩) hgl).trans k1,(hX.cell (p:=⟨g,2,none⟩) hgl).trans k2,(hX.cell (p:=⟨g,3,none⟩) hgl).trans k3,(hX.cell (p:=⟨g,4,none⟩) hgl).trans k4,(hX.cell (p:=⟨g,5,none⟩) hgl).trans k5⟩,fun X hX => rshow_any (hg x (.head _)) _ (hid rfl) (hid (hE.stay hX)) (hid rfl)⟩
theorem onlyT_bd {l : List Ex} (h : ∀ x ∈ l,GoodE x) : (bstr (onlyT l)).size ≤ 1000000:=by
 cases l with
 | nil => exact Nat.zero_le _
 | cons x r => exact (h x (.head _)).2.2.1
theorem sts_bd {l : List Stm} (h : ∀ s ∈ l,GoodS s) (hc : cntS l ≤ 16385) {n : Nat} (hn : n ≤ 30000) : (stsT l n).length ≤ 1000000000000:=by
 have h1:=sts_len l n 10000000 h (by omega)
 have h2 : cntS l * 10000000 ≤ 16385 * 10000000:=Nat.mul_le_mul_right _ hc
 omega
theorem rsw_let {tabs : Nat} (htab : tabs ≤ 20000) {a : Int} {tr sc : Bool} {nm E I B C Y : List UInt8} {z1 z2 z3 z4 : Option Addr} {y1 y2 y3 y4 k1 k2 k3 k4 : Nat} {W : World} (hE : Kid W z2 y2 E)
 (HB : Hid (∀ X,Below W.heap.size W X → Calls Tryd.prog 12 #[.slice z3 y3 k3,.int .i64 ((tabs : Int) + 1)] X fun e w' => e = .returned (.string (bstr (B))) ∧ Below X.heap.size X w'))
 (hY : Hid (typeT tr sc = Y)) (hb : (bstr E).size ≤ 1000000 ∧ (bstr I).size ≤ 1000000 ∧ (bstr nm).size ≤ 100000 ∧ (bstr B).size ≤ 1000000000000 ∧ (bstr C).size ≤ 1000000000000 ∧ (bstr Y).size ≤ 20) (R : List UInt8) (T0 : List UInt8) (HT0 : Hid (lineT tabs [tVar,typeT tr sc,[32],nm,tEq,E,[59]] = T0)) (hR : Hid (bstr T0 = bstr R)) :
 Calls Tryd.prog 30 #[.agg #[.int .i64 0,.int .i64 a,.bool tr,.bool sc,.string (bstr nm),.slice z1 y1 k1,.slice z2 y2 k2,.slice z3 y3 k3,.slice z4 y4 k4],.int .i64 tabs] W fun e w' => e = .returned (.string (bstr (R))) ∧ Below W.heap.size W w':=by
 obtain ⟨he,hi,hn,hbb,hbc,hy⟩:=hb
 have HU0 : Hid ((⟨#[118,97,114,32]⟩ : ByteArray) ++ (bstr Y) ++ (⟨#[32]⟩ : ByteArray) ++ (bstr nm) ++ (⟨#[32,61,32]⟩ : ByteArray) ++ (bstr E) ++ (⟨#[59]⟩ : ByteArray) = bstr [tVar,typeT tr sc,[32],nm,tEq,E,[59]].flatten):=hid (by
  rw [hY.out,show (⟨#[118,97,114,32]⟩ : ByteArray) = bstr [118,97,114,32] from rfl,show (⟨#[32]⟩ : ByteArray) = bstr [32] from rfl,show (⟨#[32,61,32]⟩ : ByteArray) = bstr [32,61,32] from rfl,show (⟨#[59]⟩ : ByteArray) = bstr [59] from rfl,bstr_cat,bstr_cat,bstr_cat,bstr_cat,bstr_cat,bstr_cat]
  simp [tVar,tEq,tIf,tBr,tElse,tWhile,tLock,tOpen,tOut])
 have hl0 : T0.length ≤ 4000000:=by (rw [← HT0.out,lineT_len];have:=congrArg ByteArray.size HU0.out;rw [show (bstr [tVar,typeT tr sc,[32],nm,tEq,E,[59]].flatten).size = [tVar,typeT tr sc,[32],nm,tEq,E,[59]].flatten.length from rfl] at this;have z0 : (⟨#[118,97,114,32]⟩ : ByteArray).size = 4:=rfl;have z1 : (⟨#[32]⟩ : ByteArray).size = 1:=rfl;have z2 : (⟨#[32,61,32]⟩ : ByteArray).size = 3:=rfl;have z3 : (⟨#[59]⟩ : ByteArray).size = 1:=rfl;(try simp only [ByteArray.size_append,z0,z1,z2,z3] at this);omega)
 have hs0 : (bstr T0).size ≤ 4000000:=hl0
 have hf0 : ¬ 9223372036854775807 < 4 + (bstr Y).size:=by omega
 have hf1 : ¬ 9223372036854775807 < 4 + (bstr Y).size + 1:=by omega
 have hf2 : ¬ 9223372036854775807 < 4 + (bstr Y).size + 1 + (bstr nm).size:=by omega
 have hf3 : ¬ 9223372036854775807 < 4 + (bstr Y).size + 1 + (bstr nm).size + 3:=by omega
 have hf4 : ¬ 9223372036854775807 < 4 + (bstr Y).size + 1 + (bstr nm).size + 3 + (bstr E).size:=by omega
 have hf5 : ¬ 9223372036854775807 < 4 + (bstr Y).size + 1 + (bstr nm).size + 3 + (bstr E).size + 1:=by omega
 have HA0:=below_of_alloc W (.cells #[.int .i64 0,.int .i64 a,.bool tr,.bool sc,.string (bstr nm),.slice z1 y1 k1,.slice z2 y2 k2,.slice z3 y3 k3,.slice z4 y4 k4] 46)
 have HSB0:=SBlk.new (X:=W) (n:=W.heap.size) (k:=0) (a:=a) (tr:=tr) (sc:=sc) (nm:=bstr nm) (vi:=.slice z1 y1 k1) (ve:=.slice z2 y2 k2) (vb:=.slice z3 y3 k3) (vl:=.slice z4 y4 k4) rfl
 go_enter Tryd.func30,Tryd.ntmps30
 go_upto_region 2 with (fail)
 refine name_world ?_
 intro W1 hW1
 rw [← hW1] at HA0 HSB0
 clear hW1
 have HA:=hid HA0
 have HSB:=hid HSB0
 have hz:=HA0.size
 clear HA0 HSB0
 rcases hE with ⟨rfl,hE0⟩ | ⟨he0,g,x,p,m,c,rfl,hgl,HK0,HS0⟩
 · have HC : Hid (Below W1.heap.size W1 W1):=hid (Below.refl _ _)
   obtain ⟨sl,⟨sc0,sc1,sc2,sc3,sc4,sc5,sc6,sc7,sc8⟩,_⟩:=(HSB.out.stay HC.out).facts
   go_upto_region 4 with (fail)
   rw [show (⟨#[]⟩ : ByteArray) = bstr E from by (rw [hE0];rfl)]
   clear hE0
   go_upto_region 7 with (first
    | (go_simp;go_at_call 12;(with_reducible refine (HB.out _ (below_ch HA.out HC.out)).mono ?_);rintro e1 wt ⟨rfl,hbt⟩;replace HC:=hid (below_ch HC.out hbt);obtain ⟨sl,⟨sc0,sc1,sc2,sc3,sc4,sc5,sc6,sc7,sc8⟩,_⟩:=(HSB.out.stay HC.out).facts;clear hbt))
   refine name_world ?_
   intro W2 hW2
   have HA2 : Hid (Below W1.heap.size W1 W2):=hid (by (rw [hW2];exact HC.out))
   clear hW2 HC sl sc0 sc1 sc2 sc3 sc4 sc5 sc6 sc7 sc8
   have HC : Hid (Below W1.heap.size W1 W2.drew):=hid (below_ch HA2.out ((Below.refl _ _).drew))
   obtain ⟨sl,⟨sc0,sc1,sc2,sc3,sc4,sc5,sc6,sc7,sc8⟩,_⟩:=(HSB.out.stay HC.out).facts
   go_region_law (first
    | (go_simp;go_at_call 14;(with_reducible refine (rtype_any _ _ _).mono ?_);rintro e1 wt ⟨rfl,hbt⟩;rw [hY.out];replace HC:=hid (below_ch HC.out hbt);obtain ⟨sl,⟨sc0,sc1,sc2,sc3,sc4,sc5,sc6,sc7,sc8⟩,_⟩:=(HSB.out.stay HC.out).facts;clear hbt)
    | (go_simp;go_at_call 26;(with_reducible refine (rline_any tabs (by omega) _ [tVar,typeT tr sc,[32],nm,tEq,E,[59]] HU0 T0 HT0 (by omega) _).mono ?_);rintro e1 wt ⟨rfl,hbt⟩;replace HC:=hid (below_ch HC.out hbt);obtain ⟨sl,⟨sc0,sc1,sc2,sc3,sc4,sc5,sc6,sc7,sc8⟩,_⟩:=(HSB.out.stay HC.out).facts;clear hbt))
   all_goals go_wp2
   all_goals go_ret
   all_goals
    refine ⟨?_,below_ch HA.out HC.out⟩
    rw [← hR.out]
    try rfl
 · have HKE:=hid HK0
   have HSh:=hid HS0
   have hez : (0 : Int) < (y2 : Int):=by omega
   have hej : 0 ≤ (0 : Int) ∧ (0 : Int) < (y2 : Int):=by omega
   have hgl1 : g < W1.heap.size:=by omega
   clear HK0 HS0
   have HC : Hid (Below W1.heap.size W1 W1):=hid (Below.refl _ _)
   obtain ⟨sl,⟨sc0,sc1,sc2,sc3,sc4,sc5,sc6,sc7,sc8⟩,_⟩:=(HSB.out.stay HC.out).facts
   obtain ⟨d0,d1,d2,d3,d4,d5⟩:=HKE.out _ (below_ch HA.out HC.out)
   go_upto_region 7 with (first
    | (go_simp;go_at_call 53;(with_reducible refine (HSh.out _ (below_ch HA.out HC.out)).mono ?_);rintro e1 wt ⟨rfl,hbt⟩;replace HC:=hid (below_ch HC.out hbt);obtain ⟨sl,⟨sc0,sc1,sc2,sc3,sc4,sc5,sc6,sc7,sc8⟩,_⟩:=(HSB.out.stay HC.out).facts;clear hbt)
    | (go_simp;go_at_call 12;(with_reducible refine (HB.out _ (below_ch HA.out HC.out)).mono ?_);rintro e1 wt ⟨rfl,hbt⟩;replace HC:=hid (below_ch HC.out hbt);obtain ⟨sl,⟨sc0,sc1,sc2,sc3,sc4,sc5,sc6,sc7,sc8⟩,_⟩:=(HSB.out.stay HC.out).facts;clear hbt))
   refine name_world ?_
   intro W2 hW2
   have HA2 : Hid (Below W1.heap.size W1 W2):=hid (by (rw [hW2];exact HC.out))
   clear hW2 HC sl sc0 sc1 sc2 sc3 sc4 sc5 sc6 sc7 sc8 d0 d1 d2 d3 d4 d5
   have HC : Hid (Below W1.heap.size W1 W2.drew):=hid (below_ch HA2.out ((Below.refl _ _).drew))
   obtain ⟨sl,⟨sc0,sc1,sc2,sc3,sc4,sc5,sc6,sc7,sc8⟩,_⟩:=(HSB.out.stay HC.out).facts
   go_region_law (first
    | (go_simp;go_at_call 14;(with_reducible refine (rtype_any _ _ _).mono ?_);rintro e1 wt ⟨rfl,hbt⟩;rw [hY.out];replace HC:=hid (below_ch HC.out hbt);obtain ⟨sl,⟨sc0,sc1,sc2,sc3,sc4,sc5,sc6,sc7,sc8⟩,_⟩:=(HSB.out.stay HC.out).facts;clear hbt)
    | (go_simp;go_at_call 26;(with_reducible refine (rline_any tabs (by omega) _ [tVar,typeT tr sc,[32],nm,tEq,E,[59]] HU0 T0 HT0 (by omega) _).mono ?_);rintro e1 wt ⟨rfl,hbt⟩;replace HC:=hid (below_ch HC.out hbt);obtain ⟨sl,⟨sc0,sc1,sc2,sc3,sc4,sc5,sc6,sc7,sc8⟩,_⟩:=(HSB.out.stay HC.out).facts;clear hbt))
   all_goals go_wp2
   all_goals go_ret
   all_goals
    refine ⟨?_,below_ch HA.out HC.out⟩
    rw [← hR.out]
    try rfl
theorem rsw_set {tabs : Nat} (htab : tabs ≤ 20000) {a : Int} {tr sc : Bool} {nm E I B C Y : List UInt8} {z1 z2 z3 z4 : Option Addr} {y1 y2 y3 y4 k1 k2 k3 k4 : Nat} {W : World} (hE : Kid W z2 y2 E) (hi1 : y1 = 0)
 (HB : Hid (∀ X,Below W.heap.size W X → Calls Tryd.prog 12 #[.slice z3 y3 k3,.int .i64 ((tabs : Int) + 1)] X fun e w' => e = .returned (.string (bstr (B))) ∧ Below X.heap.size X w'))
 (hY : Hid (typeT tr sc = Y)) (hb : (bstr E).size ≤ 1000000 ∧ (bstr I).size ≤ 1000000 ∧ (bstr nm).size ≤ 100000 ∧ (bstr B).size ≤ 1000000000000 ∧ (bstr C).size ≤ 1000000000000 ∧ (bstr Y).size ≤ 20) (R : List UInt8) (T0 : List UInt8) (HT0 : Hid (lineT tabs [nm,tEq,E,[59]] = T0)) (hR : Hid (bstr T0 = bstr R)) :
 Calls Tryd.prog 30 #[.agg #[.int .i64 1,.int .i64 a,.bool tr,.bool sc,.string (bstr nm),.slice z1 y1 k1,.slice z2 y2 k2,.slice z3 y3 k3,.slice z4 y4 k4],.int .i64 tabs] W fun e w' => e = .returned (.string (bstr (R))) ∧ Below W.heap.size W w':=by
 obtain ⟨he,hi,hn,hbb,hbc,hy⟩:=hb
 subst hi1
 have HU0 : Hid ((bstr nm) ++ (⟨#[32,61,32]⟩ : ByteArray) ++ (bstr E) ++ (⟨#[59]⟩ : ByteArray) = bstr [nm,tEq,E,[59]].flatten):=hid (by
  rw [show (⟨#[32,61,32]⟩ : ByteArray) = bstr [32,61,32] from rfl,show (⟨#[59]⟩ : ByteArray) = bstr [59] from rfl,bstr_cat,bstr_cat,bstr_cat]
  simp [tVar,tEq,tIf,tBr,tElse,tWhile,tLock,tOpen,tOut])
 have hl0 : T0.length ≤ 4000000:=by (rw [← HT0.out,lineT_len];have:=congrArg ByteArray.size HU0.out;rw [show (bstr [nm,tEq,E,[59]].flatten).size = [nm,tEq,E,[59]].flatten.length from rfl] at this;have z0 : (⟨#[32,61,32]⟩ : ByteArray).size = 3:=rfl;have z1 : (⟨#[59]⟩ : ByteArray).size = 1:=rfl;(try simp only [ByteArray.size_append,z0,z1] at this);omega)
 have hs0 : (bstr T0).size ≤ 4000000:=hl0
 have hf0 : ¬ 9223372036854775807 < (bstr nm).size + 3:=by omega
 have hf1 : ¬ 9223372036854775807 < (bstr nm).size + 3 + (bstr E).size:=by omega
 have hf2 : ¬ 9223372036854775807 < (bstr nm).size + 3 + (bstr E).size + 1:=by omega
 have HA0:=below_of_alloc W (.cells #[.int .i64 1,.int .i64 a,.bool tr,.bool sc,.string (bstr nm),.slice z1 0 k1,.slice z2 y2 k2,.slice z3 y3 k3,.slice z4 y4 k4] 46)
 have HSB0:=SBlk.new (X:=W) (n:=W.heap.size) (k:=1) (a:=a) (tr:=tr) (sc:=sc) (nm:=bstr nm) (vi:=.slice z1 0 k1) (ve:=.slice z2 y2 k2) (vb:=.slice z3 y3 k3) (vl:=.slice z4 y4 k4) rfl
 go_enter Tryd.func30,Tryd.ntmps30
 go_upto_region 2 with (fail)
 refine name_world ?_
 intro W1 hW1
 rw [← hW1] at HA0 HSB0
 clear hW1
 have HA:=hid HA0
 have HSB:=hid HSB0
 have hz:=HA0.size
 clear HA0 HSB0
 rcases hE with ⟨rfl,hE0⟩ | ⟨he0,g,x,p,m,c,rfl,hgl,HK0,HS0⟩
 · have HC : Hid (Below W1.heap.size W1 W1):=hid (Below.refl _ _)
   obtain ⟨sl,⟨sc0,sc1,sc2,sc3,sc4,sc5,sc6,sc7,sc8⟩,_⟩:=(HSB.out.stay HC.out).facts
   go_upto_region 4 with (fail)
   rw [show (⟨#[]⟩ : ByteArray) = bstr E from by (rw [hE0];rfl)]
   clear hE0
   go_wp2_with (first
    | (go_simp;go_at_call 12;(with_reducible refine (HB.out _ (below_ch HA.out HC.out)).mono ?_);rintro e1 wt ⟨rfl,hbt⟩;replace HC:=hid (below_ch HC.out hbt);obtain ⟨sl,⟨sc0,sc1,sc2,sc3,sc4,sc5,sc6,sc7,sc8⟩,_⟩:=(HSB.out.stay HC.out).facts;clear hbt)
    | (go_simp;go_at_call 26;(with_reducible refine (rline_any tabs (by omega) _ [nm,tEq,E,[59]] HU0 T0 HT0 (by omega) _).mono ?_);rintro e1 wt ⟨rfl,hbt⟩;replace HC:=hid (below_ch HC.out hbt);obtain ⟨sl,⟨sc0,sc1,sc2,sc3,sc4,sc5,sc6,sc7,sc8⟩,_⟩:=(HSB.out.stay HC.out).facts;clear hbt))
   go_ret
   refine ⟨?_,below_ch HA.out HC.out⟩
   rw [← hR.out]
   try rfl
 · have HKE:=hid HK0
   have HSh:=hid HS0
   have hez : (0 : Int) < (y2 : Int):=by omega
   have hej : 0 ≤ (0 : Int) ∧ (0 : Int) < (y2 : Int):=by omega
   have hgl1 : g < W1.heap.size:=by omega
   clear HK0 HS0
   have HC : Hid (Below W1.heap.size W1 W1):=hid (Below.refl _ _)
   obtain ⟨sl,⟨sc0,sc1,sc2,sc3,sc4,sc5,sc6,sc7,sc8⟩,_⟩:=(HSB.out.stay HC.out).facts
   obtain ⟨d0,d1,d2,d3,d4,d5⟩:=HKE.out _ (below_ch HA.out HC.out)
   go_wp2_with (first
    | (go_simp;go_at_call 53;(with_reducible refine (HSh.out _ (below_ch HA.out HC.out)).mono ?_);rintro e1 wt ⟨rfl,hbt⟩;replace HC:=hid (below_ch HC.out hbt);obtain ⟨sl,⟨sc0,sc1,sc2,sc3,sc4,sc5,sc6,sc7,sc8⟩,_⟩:=(HSB.out.stay HC.out).facts;clear hbt)
    | (go_simp;go_at_call 12;(with_reducible refine (HB.out _ (below_ch HA.out HC.out)).mono ?_);rintro e1 wt ⟨rfl,hbt⟩;replace HC:=hid (below_ch HC.out hbt);obtain ⟨sl,⟨sc0,sc1,sc2,sc3,sc4,sc5,sc6,sc7,sc8⟩,_⟩:=(HSB.out.stay HC.out).facts;clear hbt)
    | (go_simp;go_at_call 26;(with_reducible refine (rline_any tabs (by omega) _ [nm,tEq,E,[59]] HU0 T0 HT0 (by omega) _).mono ?_);rintro e1 wt ⟨rfl,hbt⟩;replace HC:=hid (below_ch HC.out hbt);obtain ⟨sl,⟨sc0,sc1,sc2,sc3,sc4,sc5,sc6,sc7,sc8⟩,_⟩:=(HSB.out.stay HC.out).facts;clear hbt))
   go_ret
   refine ⟨?_,below_ch HA.out HC.out⟩
   rw [← hR.out]
   try rfl
theorem rsw_seti {tabs : Nat} (htab : tabs ≤ 20000) {a : Int} {tr sc : Bool} {nm E I B C Y : List UInt8} {z1 z2 z3 z4 : Option Addr} {y1 y2 y3 y4 k1 k2 k3 k4 : Nat} {W : World} (hE : Kid W z2 y2 E) (hI : Kid W z1 y1 I) (hi1 : 0 < y1)
 (HB : Hid (∀ X,Below W.heap.size W X → Calls Tryd.prog 12 #[.slice z3 y3 k3,.int .i64 ((tabs : Int) + 1)] X fun e w' => e = .returned (.string (bstr (B))) ∧ Below X.heap.size X w'))
 (hY : Hid (typeT tr sc = Y)) (hb : (bstr E).size ≤ 1000000 ∧ (bstr I).size ≤ 1000000 ∧ (bstr nm).size ≤ 100000 ∧ (bstr B).size ≤ 1000000000000 ∧ (bstr C).size ≤ 1000000000000 ∧ (bstr Y).size ≤ 20) (R : List UInt8) (T0 : List UInt8) (HT0 : Hid (lineT tabs [nm,91 :: (I ++ [93]),tEq,E,[59]] = T0)) (hR : Hid (bstr T0 = bstr R)) :
 Calls Tryd.prog 30 #[.agg #[.int .i64 1,.int .i64 a,.bool tr,.bool sc,.string (bstr nm),.slice z1 y1 k1,.slice z2 y2 k2,.slice z3 y3 k3,.slice z4 y4 k4],.int .i64 tabs] W fun e w' => e = .returned (.string (bstr (R))) ∧ Below W.heap.size W w':=by
 obtain ⟨he,hi,hn,hbb,hbc,hy⟩:=hb
 have HU0 : Hid ((bstr nm) ++ (⟨#[91]⟩ : ByteArray) ++ (bstr I) ++ (⟨#[93,32,61,32]⟩ : ByteArray) ++ (bstr E) ++ (⟨#[59]⟩ : ByteArray) = bstr [nm,91 :: (I ++ [93]),tEq,E,[59]].flatten):=hid (by
  rw [show (⟨#[91]⟩ : ByteArray) = bstr [91] from rfl,show (⟨#[93,32,61,32]⟩ : ByteArray) = bstr [93,32,61,32] from rfl,show (⟨#[59]⟩ : ByteArray) = bstr [59] from rfl,bstr_cat,bstr_cat,bstr_cat,bstr_cat,bstr_cat]
  simp [tVar,tEq,tIf,tBr,tElse,tWhile,tLock,tOpen,tOut])
 have hl0 : T0.length ≤ 4000000:=by (rw [← HT0.out,lineT_len];have:=congrArg ByteArray.size HU0.out;rw [show (bstr [nm,91 :: (I ++ [93]),tEq,E,[59]].flatten).size = [nm,91 :: (I ++ [93]),tEq,E,[59]].flatten.length from rfl] at this;have z0 : (⟨#[91]⟩ : ByteArray).size = 1:=rfl;have z1 : (⟨#[93,32,61,32]⟩ : ByteArray).size = 4:=rfl;have z2 : (⟨#[59]⟩ : ByteArray).size = 1:=rfl;(try simp only [ByteArray.size_append,z0,z1,z2] at this);omega)
 have hs0 : (bstr T0).size ≤ 4000000:=hl0
 have hf0 : ¬ 9223372036854775807 < (bstr nm).size + 1:=by omega
 have hf1 : ¬ 9223372036854775807 < (bstr nm).size + 1 + (bstr I).size:=by omega
 have hf2 : ¬ 9223372036854775807 < (bstr nm).size + 1 + (bstr I).size + 4:=by omega
 have hf3 : ¬ 9223372036854775807 < (bstr nm).size + 1 + (bstr I).size + 4 + (bstr E).size:=by omega
 have hf4 : ¬ 9223372036854775807 < (bstr nm).size + 1 + (bstr I).size + 4 + (bstr E).size + 1:=by omega
 have HA0:=below_of_alloc W (.cells #[.int .i64 1,.int .i64 a,.bool tr,.bool sc,.string (bstr nm),.slice z1 y1 k1,.slice z2 y2 k2,.slice z3 y3 k3,.slice z4 y4 k4] 46)
 have HSB0:=SBlk.new (X:=W) (n:=W.heap.size) (k:=1) (a:=a) (tr:=tr) (sc:=sc) (nm:=bstr nm) (vi:=.slice z1 y1 k1) (ve:=.slice z2 y2 k2) (vb:=.slice z3 y3 k3) (vl:=.slice z4 y4 k4) rfl
 go_enter Tryd.func30,Tryd.ntmps30
 go_upto_region 2 with (fail)
 refine name_world ?_
 intro W1 hW1
 rw [← hW1] at HA0 HSB0
 clear hW1
 have HA:=hid HA0
 have HSB:=hid HSB0
 have hz:=HA0.size
 clear HA0 HSB0
 rcases hI with ⟨h0,_⟩ | ⟨_,gi,xi,pi,mi,ci,rfl,hgi,HKi,HShI0⟩
 · omega
 have HKI:=hid HKi
 have HShI:=hid HShI0
 have hii : (0 : Int) < (y1 : Int):=by omega
 have hij : 0 ≤ (0 : Int) ∧ (0 : Int) < (y1 : Int):=by omega
 have hgi1 : gi < W1.heap.size:=by omega
 clear HKi HShI0
 rcases hE with ⟨rfl,hE0⟩ | ⟨he0,g,x,p,m,c,rfl,hgl,HK0,HS0⟩
 · have HC : Hid (Below W1.heap.size W1 W1):=hid (Below.refl _ _)
   obtain ⟨sl,⟨sc0,sc1,sc2,sc3,sc4,sc5,sc6,sc7,sc8⟩,_⟩:=(HSB.out.stay HC.out).facts
   go_upto_region 4 with (fail)
   rw [show (⟨#[]⟩ : ByteArray) = bstr E from by (rw [hE0];rfl)]
   clear hE0
   go_upto_region 10 with (first
    | (go_simp;go_at_call 12;(with_reducible refine (HB.out _ (below_ch HA.out HC.out)).mono ?_);rintro e1 wt ⟨rfl,hbt⟩;replace HC:=hid (below_ch HC.out hbt);obtain ⟨sl,⟨sc0,sc1,sc2,sc3,sc4,sc5,sc6,sc7,sc8⟩,_⟩:=(HSB.out.stay HC.out).facts;clear hbt))
   refine name_world ?_
   intro W2 hW2
   have HA2 : Hid (Below W1.heap.size W1 W2):=hid (by (rw [hW2];exact HC.out))
   clear hW2 HC sl sc0 sc1 sc2 sc3 sc4 sc5 sc6 sc7 sc8
   have HC : Hid (Below W1.heap.size W1 W2.drew):=hid (below_ch HA2.out ((Below.refl _ _).drew))
   obtain ⟨sl,⟨sc0,sc1,sc2,sc3,sc4,sc5,sc6,sc7,sc8⟩,_⟩:=(HSB.out.stay HC.out).facts
   obtain ⟨d0,d1,d2,d3,d4,d5⟩:=HKI.out _ (below_ch HA.out HC.out)
   have hgi2 : gi < W2.heap.size:=Nat.lt_of_lt_of_le hgi1 HA2.out.size
   go_region_law (first
    | (go_simp;go_at_call 53;(with_reducible refine (HShI.out _ (below_ch HA.out HC.out)).mono ?_);rintro e1 wt ⟨rfl,hbt⟩;replace HC:=hid (below_ch HC.out hbt);obtain ⟨sl,⟨sc0,sc1,sc2,sc3,sc4,sc5,sc6,sc7,sc8⟩,_⟩:=(HSB.out.stay HC.out).facts;clear hbt)
    | (go_simp;go_at_call 26;(with_reducible refine (rline_any tabs (by omega) _ [nm,91 :: (I ++ [93]),tEq,E,[59]] HU0 T0 HT0 (by omega) _).mono ?_);rintro e1 wt ⟨rfl,hbt⟩;replace HC:=hid (below_ch HC.out hbt);obtain ⟨sl,⟨sc0,sc1,sc2,sc3,sc4,sc5,sc6,sc7,sc8⟩,_⟩:=(HSB.out.stay HC.out).facts;clear hbt))
   all_goals go_wp2
   all_goals go_ret
   all_goals
    refine ⟨?_,below_ch HA.out HC.out⟩
    rw [← hR.out]
    try rfl
 · have HKE:=hid HK0
   have HSh:=hid HS0
   have hez : (0 : Int) < (y2 : Int):=by omega
   have hej : 0 ≤ (0 : Int) ∧ (0 : Int) < (y2 : Int):=by omega
   have hgl1 : g < W1.heap.size:=by omega
   clear HK0 HS0
   have HC : Hid (Below W1.heap.size W1 W1):=hid (Below.refl _ _)
   obtain ⟨sl,⟨sc0,sc1,sc2,sc3,sc4,sc5,sc6,sc7,sc8⟩,_⟩:=(HSB.out.stay HC.out).facts
   obtain ⟨d0,d1,d2,d3,d4,d5⟩:=HKE.out _ (below_ch HA.out HC.out)
   go_upto_region 10 with (first
    | (go_simp;go_at_call 53;(with_reducible refine (HSh.out _ (below_ch HA.out HC.out)).mono ?_);rintro e1 wt ⟨rfl,hbt⟩;replace HC:=hid (below_ch HC.out hbt);obtain ⟨sl,⟨sc0,sc1,sc2,sc3,sc4,sc5,sc6,sc7,sc8⟩,_⟩:=(HSB.out.stay HC.out).facts;clear hbt)
    | (go_simp;go_at_call 12;(with_reducible refine (HB.out _ (below_ch HA.out HC.out)).mono ?_);rintro e1 wt ⟨rfl,hbt⟩;replace HC:=hid (below_ch HC.out hbt);obtain ⟨sl,⟨sc0,sc1,sc2,sc3,sc4,sc5,sc6,sc7,sc8⟩,_⟩:=(HSB.out.stay HC.out).facts;clear hbt))
   refine name_world ?_
   intro W2 hW2
   have HA2 : Hid (Below W1.heap.size W1 W2):=hid (by (rw [hW2];exact HC.out))
   clear hW2 HC sl sc0 sc1 sc2 sc3 sc4 sc5 sc6 sc7 sc8 d0 d1 d2 d3 d4 d5
   have HC : Hid (Below W1.heap.size W1 W2.drew):=hid (below_ch HA2.out ((Below.refl _ _).drew))
   obtain ⟨sl,⟨sc0,sc1,sc2,sc3,sc4,sc5,sc6,sc7,sc8⟩,_⟩:=(HSB.out.stay HC.out).facts
   obtain ⟨d0,d1,d2,d3,d4,d5⟩:=HKI.out _ (below_ch HA.out HC.out)
   have hgi2 : gi < W2.heap.size:=Nat.lt_of_lt_of_le hgi1 HA2.out.size
   go_region_law (first
    | (go_simp;go_at_call 53;(with_reducible refine (HShI.out _ (below_ch HA.out HC.out)).mono ?_);rintro e1 wt ⟨rfl,hbt⟩;replace HC:=hid (below_ch HC.out hbt);obtain ⟨sl,⟨sc0,sc1,sc2,sc3,sc4,sc5,sc6,sc7,sc8⟩,_⟩:=(HSB.out.stay HC.out).facts;clear hbt)
    | (go_simp;go_at_call 26;(with_reducible refine (rline_any tabs (by omega) _ [nm,91 :: (I ++ [93]),tEq,E,[59]] HU0 T0 HT0 (by omega) _).mono ?_);rintro e1 wt ⟨rfl,hbt⟩;replace HC:=hid (below_ch HC.out hbt);obtain ⟨sl,⟨sc0,sc1,sc2,sc3,sc4,sc5,sc6,sc7,sc8⟩,_⟩:=(HSB.out.stay HC.out).facts;clear hbt))
   all_goals go_wp2
   all_goals go_ret
   all_goals
    refine ⟨?_,below_ch HA.out HC.out⟩
    rw [← hR.out]
    try rfl
theorem rsw_if {tabs : Nat} (htab : tabs ≤ 20000) {a : Int} {tr sc : Bool} {nm E I B C Y : List UInt8} {z1 z2 z3 z4 : Option Addr} {y1 y2 y3 y4 k1 k2 k3 k4 : Nat} {W : World} (hE : Kid W z2 y2 E) (he1 : y4 = 0)
 (HB : Hid (∀ X,Below W.heap.size W X → Calls Tryd.prog 12 #[.slice z3 y3 k3,.int .i64 ((tabs : Int) + 1)] X fun e w' => e = .returned (.string (bstr (B))) ∧ Below X.heap.size X w'))
 (hY : Hid (typeT tr sc = Y)) (hb : (bstr E).size ≤ 1000000 ∧ (bstr I).size ≤ 1000000 ∧ (bstr nm).size ≤ 100000 ∧ (bstr B).size ≤ 1000000000000 ∧ (bstr C).size ≤ 1000000000000 ∧ (bstr Y).size ≤ 20) (R : List UInt8) (T0 : List UInt8) (HT0 : Hid (lineT tabs [tIf,E,tBr] = T0)) (T1 : List UInt8) (HT1 : Hid (lineT tabs [[125]] = T1)) (hR : Hid (bstr T0 ++ bstr B ++ bstr T1 = bstr R)) :
 Calls Tryd.prog 30 #[.agg #[.int .i64 2,.int .i64 a,.bool tr,.bool sc,.string (bstr nm),.slice z1 y1 k1,.slice z2 y2 k2,.slice z3 y3 k3,.slice z4 y4 k4],.int .i64 tabs] W fun e w' => e = .returned (.string (bstr (R))) ∧ Below W.heap.size W w':=by
 obtain ⟨he,hi,hn,hbb,hbc,hy⟩:=hb
 subst he1
 have HU0 : Hid ((⟨#[105,102,32,40]⟩ : ByteArray) ++ (bstr E) ++ (⟨#[41,32,123]⟩ : ByteArray) = bstr [tIf,E,tBr].flatten):=hid (by
  rw [show (⟨#[105,102,32,40]⟩ : ByteArray) = bstr [105,102,32,40] from rfl,show (⟨#[41,32,123]⟩ : ByteArray) = bstr [41,32,123] from rfl,bstr_cat,bstr_cat]
  simp [tVar,tEq,tIf,tBr,tElse,tWhile,tLock,tOpen,tOut])
 have hl0 : T0.length ≤ 4000000:=by (rw [← HT0.out,lineT_len];have:=congrArg ByteArray.size HU0.out;rw [show (bstr [tIf,E,tBr].flatten).size = [tIf,E,tBr].flatten.length from rfl] at this;have z0 : (⟨#[105,102,32,40]⟩ : ByteArray).size = 4:=rfl;have z1 : (⟨#[41,32,123]⟩ : ByteArray).size = 3:=rfl;(try simp only [ByteArray.size_append,z0,z1] at this);omega)
 have hs0 : (bstr T0).size ≤ 4000000:=hl0
 have hf0 : ¬ 9223372036854775807 < 4 + (bstr E).size:=by omega
 have hf1 : ¬ 9223372036854775807 < 4 + (bstr E).size + 3:=by omega
 have HU1 : Hid ((⟨#[125]⟩ : ByteArray) = bstr [[125]].flatten):=hid (by
  rw [show (⟨#[125]⟩ : ByteArray) = bstr [125] from rfl]
  simp [tVar,tEq,tIf,tBr,tElse,tWhile,tLock,tOpen,tOut])
 have hl1 : T1.length ≤ 4000000:=by (rw [← HT1.out,lineT_len];have h : ([[125]] : List (List UInt8)).flatten.length = 1:=rfl;omega)
 have hs1 : (bstr T1).size ≤ 4000000:=hl1
 have hf2 : ¬ 9223372036854775807 < (bstr T0).size + (bstr B).size:=by omega
 have hf3 : ¬ 9223372036854775807 < (bstr T0).size + (bstr B).size + (bstr T1).size:=by omega
 have HA0:=below_of_alloc W (.cells #[.int .i64 2,.int .i64 a,.bool tr,.bool sc,.string (bstr nm),.slice z1 y1 k1,.slice z2 y2 k2,.slice z3 y3 k3,.slice z4 0 k4] 46)
 have HSB0:=SBlk.new (X:=W) (n:=W.heap.size) (k:=2) (a:=a) (tr:=tr) (sc:=sc) (nm:=bstr nm) (vi:=.slice z1 y1 k1) (ve:=.slice z2 y2 k2) (vb:=.slice z3 y3 k3) (vl:=.slice z4 0 k4) rfl
 go_enter Tryd.func30,Tryd.ntmps30
 go_upto_region 2 with (fail)
 refine name_world ?_
 intro W1 hW1
 rw [← hW1] at HA0 HSB0
 clear hW1
 have HA:=hid HA0
 have HSB:=hid HSB0
 have hz:=HA0.size
 clear HA0 HSB0
 rcases hE with ⟨rfl,hE0⟩ | ⟨he0,g,x,p,m,c,rfl,hgl,HK0,HS0⟩
 · have HC : Hid (Below W1.heap.size W1 W1):=hid (Below.refl _ _)
   obtain ⟨sl,⟨sc0,sc1,sc2,sc3,sc4,sc5,sc6,sc7,sc8⟩,_⟩:=(HSB.out.stay HC.out).facts
   go_upto_region 4 with (fail)
   rw [show (⟨#[]⟩ : ByteArray) = bstr E from by (rw [hE0];rfl)]
   clear hE0
   go_wp2_with (first
    | (go_simp;go_at_call 12;(with_reducible refine (HB.out _ (below_ch HA.out HC.out)).mono ?_);rintro e1 wt ⟨rfl,hbt⟩;replace HC:=hid (below_ch HC.out hbt);obtain ⟨sl,⟨sc0,sc1,sc2,sc3,sc4,sc5,sc6,sc7,sc8⟩,_⟩:=(HSB.out.stay HC.out).facts;clear hbt)
    | (go_simp;go_at_call 26;(with_reducible refine (rline_any tabs (by omega) _ [tIf,E,tBr] HU0 T0 HT0 (by omega) _).mono ?_);rintro e1 wt ⟨rfl,hbt⟩;replace HC:=hid (below_ch HC.out hbt);obtain ⟨sl,⟨sc0,sc1,sc2,sc3,sc4,sc5,sc6,sc7,sc8⟩,_⟩:=(HSB.out.stay HC.out).facts;clear hbt)
    | (go_simp;go_at_call 26;(with_reducible refine (rline_any tabs (by omega) _ [[125]] HU1 T1 HT1 (by omega) _).mono ?_);rintro e1 wt ⟨rfl,hbt⟩;replace HC:=hid (below_ch HC.out hbt);obtain ⟨sl,⟨sc0,sc1,sc2,sc3,sc4,sc5,sc6,sc7,sc8⟩,_⟩:=(HSB.out.stay HC.out).facts;clear hbt))
   go_ret
   refine ⟨?_,below_ch HA.out HC.out⟩
   rw [← hR.out]
   try rfl
 · have HKE:=hid HK0
   have HSh:=hid HS0
   have hez : (0 : Int) < (y2 : Int):=by omega
   have hej : 0 ≤ (0 : Int) ∧ (0 : Int) < (y2 : Int):=by omega
   have hgl1 : g < W1.heap.size:=by omega
   clear HK0 HS0
   have HC : Hid (Below W1.heap.size W1 W1):=hid (Below.refl _ _)
   obtain ⟨sl,⟨sc0,sc1,sc2,sc3,sc4,sc5,sc6,sc7,sc8⟩,_⟩:=(HSB.out.stay HC.out).facts
   obtain ⟨d0,d1,d2,d3,d4,d5⟩:=HKE.out _ (below_ch HA.out HC.out)
   go_wp2_with (first
    | (go_simp;go_at_call 53;(with_reducible refine (HSh.out _ (below_ch HA.out HC.out)).mono ?_);rintro e1 wt ⟨rfl,hbt⟩;replace HC:=hid (below_ch HC.out hbt);obtain ⟨sl,⟨sc0,sc1,sc2,sc3,sc4,sc5,sc6,sc7,sc8⟩,_⟩:=(HSB.out.stay HC.out).facts;clear hbt)
    | (go_simp;go_at_call 12;(with_reducible refine (HB.out _ (below_ch HA.out HC.out)).mono ?_);rintro e1 wt ⟨rfl,hbt⟩;replace HC:=hid (below_ch HC.out hbt);obtain ⟨sl,⟨sc0,sc1,sc2,sc3,sc4,sc5,sc6,sc7,sc8⟩,_⟩:=(HSB.out.stay HC.out).facts;clear hbt)
    | (go_simp;go_at_call 26;(with_reducible refine (rline_any tabs (by omega) _ [tIf,E,tBr] HU0 T0 HT0 (by omega) _).mono ?_);rintro e1 wt ⟨rfl,hbt⟩;replace HC:=hid (below_ch HC.out hbt);obtain ⟨sl,⟨sc0,sc1,sc2,sc3,sc4,sc5,sc6,sc7,sc8⟩,_⟩:=(HSB.out.stay HC.out).facts;clear hbt)
    | (go_simp;go_at_call 26;(with_reducible refine (rline_any tabs (by omega) _ [[125]] HU1 T1 HT1 (by omega) _).mono ?_);rintro e1 wt ⟨rfl,hbt⟩;replace HC:=hid (below_ch HC.out hbt);obtain ⟨sl,⟨sc0,sc1,sc2,sc3,sc4,sc5,sc6,sc7,sc8⟩,_⟩:=(HSB.out.stay HC.out).facts;clear hbt))
   go_ret
   refine ⟨?_,below_ch HA.out HC.out⟩
   rw [← hR.out]
   try rfl
theorem rsw_ife {tabs : Nat} (htab : tabs ≤ 20000) {a : Int} {tr sc : Bool} {nm E I B C Y : List UInt8} {z1 z2 z3 z4 : Option Addr} {y1 y2 y3 y4 k1 k2 k3 k4 : Nat} {W : World} (hE : Kid W z2 y2 E) (he1 : 0 < y4)
 (HB : Hid (∀ X,Below W.heap.size W X → Calls Tryd.prog 12 #[.slice z3 y3 k3,.int .i64 ((tabs : Int) + 1)] X fun e w' => e = .returned (.string (bstr (B))) ∧ Below X.heap.size X w')) (HCC : Hid (∀ X,Below W.heap.size W X → Calls Tryd.prog 12 #[.slice z4 y4 k4,.int .i64 ((tabs : Int) + 1)] X fun e w' => e = .returned (.string (bstr (C))) ∧ Below X.heap.size X w'))
 (hY : Hid (typeT tr sc = Y)) (hb : (bstr E).size ≤ 1000000 ∧ (bstr I).size ≤ 1000000 ∧ (bstr nm).size ≤ 100000 ∧ (bstr B).size ≤ 1000000000000 ∧ (bstr C).size ≤ 1000000000000 ∧ (bstr Y).size ≤ 20) (R : List UInt8) (T0 : List UInt8) (HT0 : Hid (lineT tabs [tIf,E,tBr] = T0)) (T1 : List UInt8) (HT1 : Hid (lineT tabs [tElse] = T1)) (T2 : List UInt8) (HT2 : Hid (lineT tabs [[125]] = T2)) (hR : Hid (bstr T0 ++ (bstr B ++ (bstr T1 ++ bstr C)) ++ bstr T2 = bstr R)) :
 Calls Tryd.prog 30 #[.agg #[.int .i64 2,.int .i64 a,.bool tr,.bool sc,.string (bstr nm),.slice z1 y1 k1,.slice z2 y2 k2,.slice z3 y3 k3,.slice z4 y4 k4],.int .i64 tabs] W fun e w' => e = .returned (.string (bstr (R))) ∧ Below W.heap.size W w':=by
 obtain ⟨he,hi,hn,hbb,hbc,hy⟩:=hb
 have HU0 : Hid ((⟨#[105,102,32,40]⟩ : ByteArray) ++ (bstr E) ++ (⟨#[41,32,123]⟩ : ByteArray) = bstr [tIf,E,tBr].flatten):=hid (by
  rw [show (⟨#[105,102,32,40]⟩ : ByteArray) = bstr [105,102,32,40] from rfl,show (⟨#[41,32,123]⟩ : ByteArray) = bstr [41,32,123] from rfl,bstr_cat,bstr_cat]
  simp [tVar,tEq,tIf,tBr,tElse,tWhile,tLock,tOpen,tOut])
 have hl0 : T0.length ≤ 4000000:=by (rw [← HT0.out,lineT_len];have:=congrArg ByteArray.size HU0.out;rw [show (bstr [tIf,E,tBr].flatten).size = [tIf,E,tBr].flatten.length from rfl] at this;have z0 : (⟨#[105,102,32,40]⟩ : ByteArray).size = 4:=rfl;have z1 : (⟨#[41,32,123]⟩ : ByteArray).size = 3:=rfl;(try simp only [ByteArray.size_append,z0,z1] at this);omega)
 have hs0 : (bstr T0).size ≤ 4000000:=hl0
 have hf0 : ¬ 9223372036854775807 < 4 + (bstr E).size:=by omega
 have hf1 : ¬ 9223372036854775807 < 4 + (bstr E).size + 3:=by omega
 have HU1 : Hid ((⟨#[125,32,101,108,115,101,32,123]⟩ : ByteArray) = bstr [tElse].flatten):=hid (by
  rw [show (⟨#[125,32,101,108,115,101,32,123]⟩ : ByteArray) = bstr [125,32,101,108,115,101,32,123] from rfl]
  simp [tVar,tEq,tIf,tBr,tElse,tWhile,tLock,tOpen,tOut])
 have hl1 : T1.length ≤ 4000000:=by (rw [← HT1.out,lineT_len];have h : ([tElse] : List (List UInt8)).flatten.length = 8:=rfl;omega)
 have hs1 : (bstr T1).size ≤ 4000000:=hl1
 have HU2 : Hid ((⟨#[125]⟩ : ByteArray) = bstr [[125]].flatten):=hid (by
  rw [show (⟨#[125]⟩ : ByteArray) = bstr [125] from rfl]
  simp [tVar,tEq,tIf,tBr,tElse,tWhile,tLock,tOpen,tOut])
 have hl2 : T2.length ≤ 4000000:=by (rw [← HT2.out,lineT_len];have h : ([[125]] : List (List UInt8)).flatten.length = 1:=rfl;omega)
 have hs2 : (bstr T2).size ≤ 4000000:=hl2
 have hf2 : ¬ 9223372036854775807 < (bstr T1).size + (bstr C).size:=by omega
 have hf3 : ¬ 9223372036854775807 < (bstr B).size + ((bstr T1).size + (bstr C).size):=by omega
 have hf4 : ¬ 9223372036854775807 < (bstr T0).size + ((bstr B).size + ((bstr T1).size + (bstr C).size)):=by omega
 have hf5 : ¬ 9223372036854775807 < (bstr T0).size + ((bstr B).size + ((bstr T1).size + (bstr C).size)) + (bstr T2).size:=by omega
 have HA0:=below_of_alloc W (.cells #[.int .i64 2,.int .i64 a,.bool tr,.bool sc,.string (bstr nm),.slice z1 y1 k1,.slice z2 y2 k2,.slice z3 y3 k3,.slice z4 y4 k4] 46)
 have HSB0:=SBlk.new (X:=W) (n:=W.heap.size) (k:=2) (a:=a) (tr:=tr) (sc:=sc) (nm:=bstr nm) (vi:=.slice z1 y1 k1) (ve:=.slice z2 y2 k2) (vb:=.slice z3 y3 k3) (vl:=.slice z4 y4 k4) rfl
 go_enter Tryd.func30,Tryd.ntmps30
 go_upto_region 2 with (fail)
 refine name_world ?_
 intro W1 hW1
 rw [← hW1] at HA0 HSB0
 clear hW1
 have HA:=hid HA0
 have HSB:=hid HSB0
 have hz:=HA0.size
 clear HA0 HSB0
 have hee : (0 : Int) < (y4 : Int):=by omega
 have hw9 : IntKind.i64.wrap ((tabs : Int) + 1) = (tabs : Int) + 1:=by (have h:=wrap_small (tabs + 1) (by omega);rwa [Int.natCast_add] at h)
 rcases hE with ⟨rfl,hE0⟩ | ⟨he0,g,x,p,m,c,rfl,hgl,HK0,HS0⟩
 · have HC : Hid (Below W1.heap.size W1 W1):=hid (Below.refl _ _)
   obtain ⟨sl,⟨sc0,sc1,sc2,sc3,sc4,sc5,sc6,sc7,sc8⟩,_⟩:=(HSB.out.stay HC.out).facts
   go_upto_region 4 with (fail)
   rw [show (⟨#[]⟩ : ByteArray) = bstr E from by (rw [hE0];rfl)]
   clear hE0
   go_upto_region 14 with (first
    | (go_simp;go_at_call 12;(with_reducible refine (HB.out _ (below_ch HA.out HC.out)).mono ?_);rintro e1 wt ⟨rfl,hbt⟩;replace HC:=hid (below_ch HC.out hbt);obtain ⟨sl,⟨sc0,sc1,sc2,sc3,sc4,sc5,sc6,sc7,sc8⟩,_⟩:=(HSB.out.stay HC.out).facts;clear hbt))
   refine name_world ?_
   intro W2 hW2
   have HA2 : Hid (Below W1.heap.size W1 W2):=hid (by (rw [hW2];exact HC.out))
   clear hW2 HC sl sc0 sc1 sc2 sc3 sc4 sc5 sc6 sc7 sc8
   have HC : Hid (Below W1.heap.size W1 W2.drew):=hid (below_ch HA2.out ((Below.refl _ _).drew))
   obtain ⟨sl,⟨sc0,sc1,sc2,sc3,sc4,sc5,sc6,sc7,sc8⟩,_⟩:=(HSB.out.stay HC.out).facts
   go_region_law (first
    | (go_simp;go_at_call 12;(with_reducible refine (HCC.out _ (below_ch HA.out HC.out)).mono ?_);rintro e1 wt ⟨rfl,hbt⟩;replace HC:=hid (below_ch HC.out hbt);obtain ⟨sl,⟨sc0,sc1,sc2,sc3,sc4,sc5,sc6,sc7,sc8⟩,_⟩:=(HSB.out.stay HC.out).facts;clear hbt)
    | (go_simp;go_at_call 26;(with_reducible refine (rline_any tabs (by omega) _ [tIf,E,tBr] HU0 T0 HT0 (by omega) _).mono ?_);rintro e1 wt ⟨rfl,hbt⟩;replace HC:=hid (below_ch HC.out hbt);obtain ⟨sl,⟨sc0,sc1,sc2,sc3,sc4,sc5,sc6,sc7,sc8⟩,_⟩:=(HSB.out.stay HC.out).facts;clear hbt)
    | (go_simp;go_at_call 26;(with_reducible refine (rline_any tabs (by omega) _ [tElse] HU1 T1 HT1 (by omega) _).mono ?_);rintro e1 wt ⟨rfl,hbt⟩;replace HC:=hid (below_ch HC.out hbt);obtain ⟨sl,⟨sc0,sc1,sc2,sc3,sc4,sc5,sc6,sc7,sc8⟩,_⟩:=(HSB.out.stay HC.out).facts;clear hbt)
    | (go_simp;go_at_call 26;(with_reducible refine (rline_any tabs (by omega) _ [[125]] HU2 T2 HT2 (by omega) _).mono ?_);rintro e1 wt ⟨rfl,hbt⟩;replace HC:=hid (below_ch HC.out hbt);obtain ⟨sl,⟨sc0,sc1,sc2,sc3,sc4,sc5,sc6,sc7,sc8⟩,_⟩:=(HSB.out.stay HC.out).facts;clear hbt))
   all_goals go_wp2_with (first
    | (go_simp;go_at_call 26;(with_reducible refine (rline_any tabs (by omega) _ [tIf,E,tBr] HU0 T0 HT0 (by omega) _).mono ?_);rintro e1 wt ⟨rfl,hbt⟩;replace HC:=hid (below_ch HC.out hbt);obtain ⟨sl,⟨sc0,sc1,sc2,sc3,sc4,sc5,sc6,sc7,sc8⟩,_⟩:=(HSB.out.stay HC.out).facts;clear hbt)
    | (go_simp;go_at_call 26;(with_reducible refine (rline_any tabs (by omega) _ [tElse] HU1 T1 HT1 (by omega) _).mono ?_);rintro e1 wt ⟨rfl,hbt⟩;replace HC:=hid (below_ch HC.out hbt);obtain ⟨sl,⟨sc0,sc1,sc2,sc3,sc4,sc5,sc6,sc7,sc8⟩,_⟩:=(HSB.out.stay HC.out).facts;clear hbt)
    | (go_simp;go_at_call 26;(with_reducible refine (rline_any tabs (by omega) _ [[125]] HU2 T2 HT2 (by omega) _).mono ?_);rintro e1 wt ⟨rfl,hbt⟩;replace HC:=hid (below_ch HC.out hbt);obtain ⟨sl,⟨sc0,sc1,sc2,sc3,sc4,sc5,sc6,sc7,sc8⟩,_⟩:=(HSB.out.stay HC.out).facts;clear hbt))
   all_goals go_ret
   all_goals
    refine ⟨?_,below_ch HA.out HC.out⟩
    rw [← hR.out]
    try rfl
 · have HKE:=hid HK0
   have HSh:=hid HS0
   have hez : (0 : Int) < (y2 : Int):=by omega
   have hej : 0 ≤ (0 : Int) ∧ (0 : Int) < (y2 : Int):=by omega
   have hgl1 : g < W1.heap.size:=by omega
   clear HK0 HS0
   have HC : Hid (Below W1.heap.size W1 W1):=hid (Below.refl _ _)
   obtain ⟨sl,⟨sc0,sc1,sc2,sc3,sc4,sc5,sc6,sc7,sc8⟩,_⟩:=(HSB.out.stay HC.out).facts
   obtain ⟨d0,d1,d2,d3,d4,d5⟩:=HKE.out _ (below_ch HA.out HC.out)
   go_upto_region 14 with (first
    | (go_simp;go_at_call 53;(with_reducible refine (HSh.out _ (below_ch HA.out HC.out)).mono ?_);rintro e1 wt ⟨rfl,hbt⟩;replace HC:=hid (below_ch HC.out hbt);obtain ⟨sl,⟨sc0,sc1,sc2,sc3,sc4,sc5,sc6,sc7,sc8⟩,_⟩:=(HSB.out.stay HC.out).facts;clear hbt)
    | (go_simp;go_at_call 12;(with_reducible refine (HB.out _ (below_ch HA.out HC.out)).mono ?_);rintro e1 wt ⟨rfl,hbt⟩;replace HC:=hid (below_ch HC.out hbt);obtain ⟨sl,⟨sc0,sc1,sc2,sc3,sc4,sc5,sc6,sc7,sc8⟩,_⟩:=(HSB.out.stay HC.out).facts;clear hbt))
   refine name_world ?_
   intro W2 hW2
   have HA2 : Hid (Below W1.heap.size W1 W2):=hid (by (rw [hW2];exact HC.out))
   clear hW2 HC sl sc0 sc1 sc2 sc3 sc4 sc5 sc6 sc7 sc8 d0 d1 d2 d3 d4 d5
   have HC : Hid (Below W1.heap.size W1 W2.drew):=hid (below_ch HA2.out ((Below.refl _ _).drew))
   obtain ⟨sl,⟨sc0,sc1,sc2,sc3,sc4,sc5,sc6,sc7,sc8⟩,_⟩:=(HSB.out.stay HC.out).facts
   go_region_law (first
    | (go_simp;go_at_call 12;(with_reducible refine (HCC.out _ (below_ch HA.out HC.out)).mono ?_);rintro e1 wt ⟨rfl,hbt⟩;replace HC:=hid (below_ch HC.out hbt);obtain ⟨sl,⟨sc0,sc1,sc2,sc3,sc4,sc5,sc6,sc7,sc8⟩,_⟩:=(HSB.out.stay HC.out).facts;clear hbt)
    | (go_simp;go_at_call 26;(with_reducible refine (rline_any tabs (by omega) _ [tIf,E,tBr] HU0 T0 HT0 (by omega) _).mono ?_);rintro e1 wt ⟨rfl,hbt⟩;replace HC:=hid (below_ch HC.out hbt);obtain ⟨sl,⟨sc0,sc1,sc2,sc3,sc4,sc5,sc6,sc7,sc8⟩,_⟩:=(HSB.out.stay HC.out).facts;clear hbt)
    | (go_simp;go_at_call 26;(with_reducible refine (rline_any tabs (by omega) _ [tElse] HU1 T1 HT1 (by omega) _).mono ?_);rintro e1 wt ⟨rfl,hbt⟩;replace HC:=hid (below_ch HC.out hbt);obtain ⟨sl,⟨sc0,sc1,sc2,sc3,sc4,sc5,sc6,sc7,sc8⟩,_⟩:=(HSB.out.stay HC.out).facts;clear hbt)
    | (go_simp;go_at_call 26;(with_reducible refine (rline_any tabs (by omega) _ [[125]] HU2 T2 HT2 (by omega) _).mono ?_);rintro e1 wt ⟨rfl,hbt⟩;replace HC:=hid (below_ch HC.out hbt);obtain ⟨sl,⟨sc0,sc1,sc2,sc3,sc4,sc5,sc6,sc7,sc8⟩,_⟩:=(HSB.out.stay HC.out).facts;clear hbt))
   all_goals go_wp2_with (first
    | (go_simp;go_at_call 26;(with_reducible refine (rline_any tabs (by omega) _ [tIf,E,tBr] HU0 T0 HT0 (by omega) _).mono ?_);rintro e1 wt ⟨rfl,hbt⟩;replace HC:=hid (below_ch HC.out hbt);obtain ⟨sl,⟨sc0,sc1,sc2,sc3,sc4,sc5,sc6,sc7,sc8⟩,_⟩:=(HSB.out.stay HC.out).facts;clear hbt)
    | (go_simp;go_at_call 26;(with_reducible refine (rline_any tabs (by omega) _ [tElse] HU1 T1 HT1 (by omega) _).mono ?_);rintro e1 wt ⟨rfl,hbt⟩;replace HC:=hid (below_ch HC.out hbt);obtain ⟨sl,⟨sc0,sc1,sc2,sc3,sc4,sc5,sc6,sc7,sc8⟩,_⟩:=(HSB.out.stay HC.out).facts;clear hbt)
    | (go_simp;go_at_call 26;(with_reducible refine (rline_any tabs (by omega) _ [[125]] HU2 T2 HT2 (by omega) _).mono ?_);rintro e1 wt ⟨rfl,hbt⟩;replace HC:=hid (below_ch HC.out hbt);obtain ⟨sl,⟨sc0,sc1,sc2,sc3,sc4,sc5,sc6,sc7,sc8⟩,_⟩:=(HSB.out.stay HC.out).facts;clear hbt))
   all_goals go_ret
   all_goals
    refine ⟨?_,below_ch HA.out HC.out⟩
    rw [← hR.out]
    try rfl
theorem rsw_while {tabs : Nat} (htab : tabs ≤ 20000) {a : Int} {tr sc : Bool} {nm E I B C Y : List UInt8} {z1 z2 z3 z4 : Option Addr} {y1 y2 y3 y4 k1 k2 k3 k4 : Nat} {W : World} (hE : Kid W z2 y2 E)
 (HB : Hid (∀ X,Below W.heap.size W X → Calls Tryd.prog 12 #[.slice z3 y3 k3,.int .i64 ((tabs : Int) + 1)] X fun e w' => e = .returned (.string (bstr (B))) ∧ Below X.heap.size X w'))
 (hY : Hid (typeT tr sc = Y)) (hb : (bstr E).size ≤ 1000000 ∧ (bstr I).size ≤ 1000000 ∧ (bstr nm).size ≤ 100000 ∧ (bstr B).size ≤ 1000000000000 ∧ (bstr C).size ≤ 1000000000000 ∧ (bstr Y).size ≤ 20) (R : List UInt8) (T0 : List UInt8) (HT0 : Hid (lineT tabs [tWhile,E,tBr] = T0)) (T1 : List UInt8) (HT1 : Hid (lineT tabs [[125]] = T1)) (hR : Hid (bstr T0 ++ bstr B ++ bstr T1 = bstr R)) :
 Calls Tryd.prog 30 #[.agg #[.int .i64 3,.int .i64 a,.bool tr,.bool sc,.string (bstr nm),.slice z1 y1 k1,.slice z2 y2 k2,.slice z3 y3 k3,.slice z4 y4 k4],.int .i64 tabs] W fun e w' => e = .returned (.string (bstr (R))) ∧ Below W.heap.size W w':=by
 obtain ⟨he,hi,hn,hbb,hbc,hy⟩:=hb
 have HU0 : Hid ((⟨#[119,104,105,108,101,32,40]⟩ : ByteArray) ++ (bstr E) ++ (⟨#[41,32,123]⟩ : ByteArray) = bstr [tWhile,E,tBr].flatten):=hid (by
  rw [show (⟨#[119,104,105,108,101,32,40]⟩ : ByteArray) = bstr [119,104,105,108,101,32,40] from rfl,show (⟨#[41,32,123]⟩ : ByteArray) = bstr [41,32,123] from rfl,bstr_cat,bstr_cat]
  simp [tVar,tEq,tIf,tBr,tElse,tWhile,tLock,tOpen,tOut])
 have hl0 : T0.length ≤ 4000000:=by (rw [← HT0.out,lineT_len];have:=congrArg ByteArray.size HU0.out;rw [show (bstr [tWhile,E,tBr].flatten).size = [tWhile,E,tBr].flatten.length from rfl] at this;have z0 : (⟨#[119,104,105,108,101,32,40]⟩ : ByteArray).size = 7:=rfl;have z1 : (⟨#[41,32,123]⟩ : ByteArray).size = 3:=rfl;(try simp only [ByteArray.size_append,z0,z1] at this);omega)
 have hs0 : (bstr T0).size ≤ 4000000:=hl0
 have hf0 : ¬ 9223372036854775807 < 7 + (bstr E).size:=by omega
 have hf1 : ¬ 9223372036854775807 < 7 + (bstr E).size + 3:=by omega
 have HU1 : Hid ((⟨#[125]⟩ : ByteArray) = bstr [[125]].flatten):=hid (by
  rw [show (⟨#[125]⟩ : ByteArray) = bstr [125] from rfl]
  simp [tVar,tEq,tIf,tBr,tElse,tWhile,tLock,tOpen,tOut])
 have hl1 : T1.length ≤ 4000000:=by (rw [← HT1.out,lineT_len];have h : ([[125]] : List (List UInt8)).flatten.length = 1:=rfl;omega)
 have hs1 : (bstr T1).size ≤ 4000000:=hl1
 have hf2 : ¬ 9223372036854775807 < (bstr T0).size + (bstr B).size:=by omega
 have hf3 : ¬ 9223372036854775807 < (bstr T0).size + (bstr B).size + (bstr T1).size:=by omega
 have HA0:=below_of_alloc W (.cells #[.int .i64 3,.int .i64 a,.bool tr,.bool sc,.string (bstr nm),.slice z1 y1 k1,.slice z2 y2 k2,.slice z3 y3 k3,.slice z4 y4 k4] 46)
 have HSB0:=SBlk.new (X:=W) (n:=W.heap.size) (k:=3) (a:=a) (tr:=tr) (sc:=sc) (nm:=bstr nm) (vi:=.slice z1 y1 k1) (ve:=.slice z2 y2 k2) (vb:=.slice z3 y3 k3) (vl:=.slice z4 y4 k4) rfl
 go_enter Tryd.func30,Tryd.ntmps30
 go_upto_region 2 with (fail)
 refine name_world ?_
 intro W1 hW1
 rw [← hW1] at HA0 HSB0
 clear hW1
 have HA:=hid HA0
 have HSB:=hid HSB0
 have hz:=HA0.size
 clear HA0 HSB0
 rcases hE with ⟨rfl,hE0⟩ | ⟨he0,g,x,p,m,c,rfl,hgl,HK0,HS0⟩
 · have HC : Hid (Below W1.heap.size W1 W1):=hid (Below.refl _ _)
   obtain ⟨sl,⟨sc0,sc1,sc2,sc3,sc4,sc5,sc6,sc7,sc8⟩,_⟩:=(HSB.out.stay HC.out).facts
   go_upto_region 4 with (fail)
   rw [show (⟨#[]⟩ : ByteArray) = bstr E from by (rw [hE0];rfl)]
   clear hE0
   go_wp2_with (first
    | (go_simp;go_at_call 12;(with_reducible refine (HB.out _ (below_ch HA.out HC.out)).mono ?_);rintro e1 wt ⟨rfl,hbt⟩;replace HC:=hid (below_ch HC.out hbt);obtain ⟨sl,⟨sc0,sc1,sc2,sc3,sc4,sc5,sc6,sc7,sc8⟩,_⟩:=(HSB.out.stay HC.out).facts;clear hbt)
    | (go_simp;go_at_call 26;(with_reducible refine (rline_any tabs (by omega) _ [tWhile,E,tBr] HU0 T0 HT0 (by omega) _).mono ?_);rintro e1 wt ⟨rfl,hbt⟩;replace HC:=hid (below_ch HC.out hbt);obtain ⟨sl,⟨sc0,sc1,sc2,sc3,sc4,sc5,sc6,sc7,sc8⟩,_⟩:=(HSB.out.stay HC.out).facts;clear hbt)
    | (go_simp;go_at_call 26;(with_reducible refine (rline_any tabs (by omega) _ [[125]] HU1 T1 HT1 (by omega) _).mono ?_);rintro e1 wt ⟨rfl,hbt⟩;replace HC:=hid (below_ch HC.out hbt);obtain ⟨sl,⟨sc0,sc1,sc2,sc3,sc4,sc5,sc6,sc7,sc8⟩,_⟩:=(HSB.out.stay HC.out).facts;clear hbt))
   go_ret
   refine ⟨?_,below_ch HA.out HC.out⟩
   rw [← hR.out]
   try rfl
 · have HKE:=hid HK0
   have HSh:=hid HS0
   have hez : (0 : Int) < (y2 : Int):=by omega
   have hej : 0 ≤ (0 : Int) ∧ (0 : Int) < (y2 : Int):=by omega
   have hgl1 : g < W1.heap.size:=by omega
   clear HK0 HS0
   have HC : Hid (Below W1.heap.size W1 W1):=hid (Below.refl _ _)
   obtain ⟨sl,⟨sc0,sc1,sc2,sc3,sc4,sc5,sc6,sc7,sc8⟩,_⟩:=(HSB.out.stay HC.out).facts
   obtain ⟨d0,d1,d2,d3,d4,d5⟩:=HKE.out _ (below_ch HA.out HC.out)
   go_wp2_with (first
    | (go_simp;go_at_call 53;(with_reducible refine (HSh.out _ (below_ch HA.out HC.out)).mono ?_);rintro e1 wt ⟨rfl,hbt⟩;replace HC:=hid (below_ch HC.out hbt);obtain ⟨sl,⟨sc0,sc1,sc2,sc3,sc4,sc5,sc6,sc7,sc8⟩,_⟩:=(HSB.out.stay HC.out).facts;clear hbt)
    | (go_simp;go_at_call 12;(with_reducible refine (HB.out _ (below_ch HA.out HC.out)).mono ?_);rintro e1 wt ⟨rfl,hbt⟩;replace HC:=hid (below_ch HC.out hbt);obtain ⟨sl,⟨sc0,sc1,sc2,sc3,sc4,sc5,sc6,sc7,sc8⟩,_⟩:=(HSB.out.stay HC.out).facts;clear hbt)
    | (go_simp;go_at_call 26;(with_reducible refine (rline_any tabs (by omega) _ [tWhile,E,tBr] HU0 T0 HT0 (by omega) _).mono ?_);rintro e1 wt ⟨rfl,hbt⟩;replace HC:=hid (below_ch HC.out hbt);obtain ⟨sl,⟨sc0,sc1,sc2,sc3,sc4,sc5,sc6,sc7,sc8⟩,_⟩:=(HSB.out.stay HC.out).facts;clear hbt)
    | (go_simp;go_at_call 26;(with_reducible refine (rline_any tabs (by omega) _ [[125]] HU1 T1 HT1 (by omega) _).mono ?_);rintro e1 wt ⟨rfl,hbt⟩;replace HC:=hid (below_ch HC.out hbt);obtain ⟨sl,⟨sc0,sc1,sc2,sc3,sc4,sc5,sc6,sc7,sc8⟩,_⟩:=(HSB.out.stay HC.out).facts;clear hbt))
   go_ret
   refine ⟨?_,below_ch HA.out HC.out⟩
   rw [← hR.out]
   try rfl
theorem rsw_lock {tabs : Nat} (htab : tabs ≤ 20000) {a : Int} {tr sc : Bool} {nm E I B C Y : List UInt8} {z1 z2 z3 z4 : Option Addr} {y1 y2 y3 y4 k1 k2 k3 k4 : Nat} {W : World} (hE : Kid W z2 y2 E)
 (HB : Hid (∀ X,Below W.heap.size W X → Calls Tryd.prog 12 #[.slice z3 y3 k3,.int .i64 ((tabs : Int) + 1)] X fun e w' => e = .returned (.string (bstr (B))) ∧ Below X.heap.size X w'))
 (hY : Hid (typeT tr sc = Y)) (hb : (bstr E).size ≤ 1000000 ∧ (bstr I).size ≤ 1000000 ∧ (bstr nm).size ≤ 100000 ∧ (bstr B).size ≤ 1000000000000 ∧ (bstr C).size ≤ 1000000000000 ∧ (bstr Y).size ≤ 20) (R : List UInt8) (T0 : List UInt8) (HT0 : Hid (lineT tabs [tLock,nm,tOpen] = T0)) (T1 : List UInt8) (HT1 : Hid (lineT tabs [[125]] = T1)) (hR : Hid (bstr T0 ++ bstr B ++ bstr T1 = bstr R)) :
 Calls Tryd.prog 30 #[.agg #[.int .i64 4,.int .i64 a,.bool tr,.bool sc,.string (bstr nm),.slice z1 y1 k1,.slice z2 y2 k2,.slice z3 y3 k3,.slice z4 y4 k4],.int .i64 tabs] W fun e w' => e = .returned (.string (bstr (R))) ∧ Below W.heap.size W w':=by
 obtain ⟨he,hi,hn,hbb,hbc,hy⟩:=hb
 have HU0 : Hid ((⟨#[108,111,99,107,32]⟩ : ByteArray) ++ (bstr nm) ++ (⟨#[32,123]⟩ : ByteArray) = bstr [tLock,nm,tOpen].flatten):=hid (by
  rw [show (⟨#[108,111,99,107,32]⟩ : ByteArray) = bstr [108,111,99,107,32] from rfl,show (⟨#[32,123]⟩ : ByteArray) = bstr [32,123] from rfl,bstr_cat,bstr_cat]
  simp [tVar,tEq,tIf,tBr,tElse,tWhile,tLock,tOpen,tOut])
 have hl0 : T0.length ≤ 4000000:=by (rw [← HT0.out,lineT_len];have:=congrArg ByteArray.size HU0.out;rw [show (bstr [tLock,nm,tOpen].flatten).size = [tLock,nm,tOpen].flatten.length from rfl] at this;have z0 : (⟨#[108,111,99,107,32]⟩ : ByteArray).size = 5:=rfl;have z1 : (⟨#[32,123]⟩ : ByteArray).size = 2:=rfl;(try simp only [ByteArray.size_append,z0,z1] at this);omega)
 have hs0 : (bstr T0).size ≤ 4000000:=hl0
 have hf0 : ¬ 9223372036854775807 < 5 + (bstr nm).size:=by omega
 have hf1 : ¬ 9223372036854775807 < 5 + (bstr nm).size + 2:=by omega
 have HU1 : Hid ((⟨#[125]⟩ : ByteArray) = bstr [[125]].flatten):=hid (by
  rw [show (⟨#[125]⟩ : ByteArray) = bstr [125] from rfl]
  simp [tVar,tEq,tIf,tBr,tElse,tWhile,tLock,tOpen,tOut])
 have hl1 : T1.length ≤ 4000000:=by (rw [← HT1.out,lineT_len];have h : ([[125]] : List (List UInt8)).flatten.length = 1:=rfl;omega)
 have hs1 : (bstr T1).size ≤ 4000000:=hl1
 have hf2 : ¬ 9223372036854775807 < (bstr T0).size + (bstr B).size:=by omega
 have hf3 : ¬ 9223372036854775807 < (bstr T0).size + (bstr B).size + (bstr T1).size:=by omega
 have HA0:=below_of_alloc W (.cells #[.int .i64 4,.int .i64 a,.bool tr,.bool sc,.string (bstr nm),.slice z1 y1 k1,.slice z2 y2 k2,.slice z3 y3 k3,.slice z4 y4 k4] 46)
 have HSB0:=SBlk.new (X:=W) (n:=W.heap.size) (k:=4) (a:=a) (tr:=tr) (sc:=sc) (nm:=bstr nm) (vi:=.slice z1 y1 k1) (ve:=.slice z2 y2 k2) (vb:=.slice z3 y3 k3) (vl:=.slice z4 y4 k4) rfl
 go_enter Tryd.func30,Tryd.ntmps30
 go_upto_region 2 with (fail)
 refine name_world ?_
 intro W1 hW1
 rw [← hW1] at HA0 HSB0
 clear hW1
 have HA:=hid HA0
 have HSB:=hid HSB0
 have hz:=HA0.size
 clear HA0 HSB0
 rcases hE with ⟨rfl,hE0⟩ | ⟨he0,g,x,p,m,c,rfl,hgl,HK0,HS0⟩
 · have HC : Hid (Below W1.heap.size W1 W1):=hid (Below.refl _ _)
   obtain ⟨sl,⟨sc0,sc1,sc2,sc3,sc4,sc5,sc6,sc7,sc8⟩,_⟩:=(HSB.out.stay HC.out).facts
   go_upto_region 4 with (fail)
   rw [show (⟨#[]⟩ : ByteArray) = bstr E from by (rw [hE0];rfl)]
   clear hE0
   go_wp2_with (first
    | (go_simp;go_at_call 12;(with_reducible refine (HB.out _ (below_ch HA.out HC.out)).mono ?_);rintro e1 wt ⟨rfl,hbt⟩;replace HC:=hid (below_ch HC.out hbt);obtain ⟨sl,⟨sc0,sc1,sc2,sc3,sc4,sc5,sc6,sc7,sc8⟩,_⟩:=(HSB.out.stay HC.out).facts;clear hbt)
    | (go_simp;go_at_call 26;(with_reducible refine (rline_any tabs (by omega) _ [tLock,nm,tOpen] HU0 T0 HT0 (by omega) _).mono ?_);rintro e1 wt ⟨rfl,hbt⟩;replace HC:=hid (below_ch HC.out hbt);obtain ⟨sl,⟨sc0,sc1,sc2,sc3,sc4,sc5,sc6,sc7,sc8⟩,_⟩:=(HSB.out.stay HC.out).facts;clear hbt)
    | (go_simp;go_at_call 26;(with_reducible refine (rline_any tabs (by omega) _ [[125]] HU1 T1 HT1 (by omega) _).mono ?_);rintro e1 wt ⟨rfl,hbt⟩;replace HC:=hid (below_ch HC.out hbt);obtain ⟨sl,⟨sc0,sc1,sc2,sc3,sc4,sc5,sc6,sc7,sc8⟩,_⟩:=(HSB.out.stay HC.out).facts;clear hbt))
   go_ret
   refine ⟨?_,below_ch HA.out HC.out⟩
   rw [← hR.out]
   try rfl
 · have HKE:=hid HK0
   have HSh:=hid HS0
   have hez : (0 : Int) < (y2 : Int):=by omega
   have hej : 0 ≤ (0 : Int) ∧ (0 : Int) < (y2 : Int):=by omega
   have hgl1 : g < W1.heap.size:=by omega
   clear HK0 HS0
   have HC : Hid (Below W1.heap.size W1 W1):=hid (Below.refl _ _)
   obtain ⟨sl,⟨sc0,sc1,sc2,sc3,sc4,sc5,sc6,sc7,sc8⟩,_⟩:=(HSB.out.stay HC.out).facts
   obtain ⟨d0,d1,d2,d3,d4,d5⟩:=HKE.out _ (below_ch HA.out HC.out)
   go_wp2_with (first
    | (go_simp;go_at_call 53;(with_reducible refine (HSh.out _ (below_ch HA.out HC.out)).mono ?_);rintro e1 wt ⟨rfl,hbt⟩;replace HC:=hid (below_ch HC.out hbt);obtain ⟨sl,⟨sc0,sc1,sc2,sc3,sc4,sc5,sc6,sc7,sc8⟩,_⟩:=(HSB.out.stay HC.out).facts;clear hbt)
    | (go_simp;go_at_call 12;(with_reducible refine (HB.out _ (below_ch HA.out HC.out)).mono ?_);rintro e1 wt ⟨rfl,hbt⟩;replace HC:=hid (below_ch HC.out hbt);obtain ⟨sl,⟨sc0,sc1,sc2,sc3,sc4,sc5,sc6,sc7,sc8⟩,_⟩:=(HSB.out.stay HC.out).facts;clear hbt)
    | (go_simp;go_at_call 26;(with_reducible refine (rline_any tabs (by omega) _ [tLock,nm,tOpen] HU0 T0 HT0 (by omega) _).mono ?_);rintro e1 wt ⟨rfl,hbt⟩;replace HC:=hid (below_ch HC.out hbt);obtain ⟨sl,⟨sc0,sc1,sc2,sc3,sc4,sc5,sc6,sc7,sc8⟩,_⟩:=(HSB.out.stay HC.out).facts;clear hbt)
    | (go_simp;go_at_call 26;(with_reducible refine (rline_any tabs (by omega) _ [[125]] HU1 T1 HT1 (by omega) _).mono ?_);rintro e1 wt ⟨rfl,hbt⟩;replace HC:=hid (below_ch HC.out hbt);obtain ⟨sl,⟨sc0,sc1,sc2,sc3,sc4,sc5,sc6,sc7,sc8⟩,_⟩:=(HSB.out.stay HC.out).facts;clear hbt))
   go_ret
   refine ⟨?_,below_ch HA.out HC.out⟩
   rw [← hR.out]
   try rfl
theorem rsw_out {tabs : Nat} (htab : tabs ≤ 20000) {a : Int} {tr sc : Bool} {nm E I B C Y : List UInt8} {z1 z2 z3 z4 : Option Addr} {y1 y2 y3 y4 k1 k2 k3 k4 : Nat} {W : World} (hE : Kid W z2 y2 E)
 (HB : Hid (∀ X,Below W.heap.size W X → Calls Tryd.prog 12 #[.slice z3 y3 k3,.int .i64 ((tabs : Int) + 1)] X fun e w' => e = .returned (.string (bstr (B))) ∧ Below X.heap.size X w'))
 (hY : Hid (typeT tr sc = Y)) (hb : (bstr E).size ≤ 1000000 ∧ (bstr I).size ≤ 1000000 ∧ (bstr nm).size ≤ 100000 ∧ (bstr B).size ≤ 1000000000000 ∧ (bstr C).size ≤ 1000000000000 ∧ (bstr Y).size ≤ 20) (R : List UInt8) (T0 : List UInt8) (HT0 : Hid (lineT tabs [tOut,E,[59]] = T0)) (hR : Hid (bstr T0 = bstr R)) :
 Calls Tryd.prog 30 #[.agg #[.int .i64 5,.int .i64 a,.bool tr,.bool sc,.string (bstr nm),.slice z1 y1 k1,.slice z2 y2 k2,.slice z3 y3 k3,.slice z4 y4 k4],.int .i64 tabs] W fun e w' => e = .returned (.string (bstr (R))) ∧ Below W.heap.size W w':=by
 obtain ⟨he,hi,hn,hbb,hbc,hy⟩:=hb
 have HU0 : Hid ((⟨#[111,117,116,32]⟩ : ByteArray) ++ (bstr E) ++ (⟨#[59]⟩ : ByteArray) = bstr [tOut,E,[59]].flatten):=hid (by
  rw [show (⟨#[111,117,116,32]⟩ : ByteArray) = bstr [111,117,116,32] from rfl,show (⟨#[59]⟩ : ByteArray) = bstr [59] from rfl,bstr_cat,bstr_cat]
  simp [tVar,tEq,tIf,tBr,tElse,tWhile,tLock,tOpen,tOut])
 have hl0 : T0.length ≤ 4000000:=by (rw [← HT0.out,lineT_len];have:=congrArg ByteArray.size HU0.out;rw [show (bstr [tOut,E,[59]].flatten).size = [tOut,E,[59]].flatten.length from rfl] at this;have z0 : (⟨#[111,117,116,32]⟩ : ByteArray).size = 4:=rfl;have z1 : (⟨#[59]⟩ : ByteArray).size = 1:=rfl;(try simp only [ByteArray.size_append,z0,z1] at this);omega)
 have hs0 : (bstr T0).size ≤ 4000000:=hl0
 have hf0 : ¬ 9223372036854775807 < 4 + (bstr E).size:=by omega
 have hf1 : ¬ 9223372036854775807 < 4 + (bstr E).size + 1:=by omega
 have HA0:=below_of_alloc W (.cells #[.int .i64 5,.int .i64 a,.bool tr,.bool sc,.string (bstr nm),.slice z1 y1 k1,.slice z2 y2 k2,.slice z3 y3 k3,.slice z4 y4 k4] 46)
 have HSB0:=SBlk.new (X:=W) (n:=W.heap.size) (k:=5) (a:=a) (tr:=tr) (sc:=sc) (nm:=bstr nm) (vi:=.slice z1 y1 k1) (ve:=.slice z2 y2 k2) (vb:=.slice z3 y3 k3) (vl:=.slice z4 y4 k4) rfl
 go_enter Tryd.func30,Tryd.ntmps30
 go_upto_region 2 with (fail)
 refine name_world ?_
 intro W1 hW1
 rw [← hW1] at HA0 HSB0
 clear hW1
 have HA:=hid HA0
 have HSB:=hid HSB0
 have hz:=HA0.size
 clear HA0 HSB0
 rcases hE with ⟨rfl,hE0⟩ | ⟨he0,g,x,p,m,c,rfl,hgl,HK0,HS0⟩
 · have HC : Hid (Below W1.heap.size W1 W1):=hid (Below.refl _ _)
   obtain ⟨sl,⟨sc0,sc1,sc2,sc3,sc4,sc5,sc6,sc7,sc8⟩,_⟩:=(HSB.out.stay HC.out).facts
   go_upto_region 4 with (fail)
   rw [show (⟨#[]⟩ : ByteArray) = bstr E from by (rw [hE0];rfl)]
   clear hE0
   go_wp2_with (first
    | (go_simp;go_at_call 12;(with_reducible refine (HB.out _ (below_ch HA.out HC.out)).mono ?_);rintro e1 wt ⟨rfl,hbt⟩;replace HC:=hid (below_ch HC.out hbt);obtain ⟨sl,⟨sc0,sc1,sc2,sc3,sc4,sc5,sc6,sc7,sc8⟩,_⟩:=(HSB.out.stay HC.out).facts;clear hbt)
    | (go_simp;go_at_call 26;(with_reducible refine (rline_any tabs (by omega) _ [tOut,E,[59]] HU0 T0 HT0 (by omega) _).mono ?_);rintro e1 wt ⟨rfl,hbt⟩;replace HC:=hid (below_ch HC.out hbt);obtain ⟨sl,⟨sc0,sc1,sc2,sc3,sc4,sc5,sc6,sc7,sc8⟩,_⟩:=(HSB.out.stay HC.out).facts;clear hbt))
   go_ret
   refine ⟨?_,below_ch HA.out HC.out⟩
   rw [← hR.out]
   try rfl
 · have HKE:=hid HK0
   have HSh:=hid HS0
   have hez : (0 : Int) < (y2 : Int):=by omega
   have hej : 0 ≤ (0 : Int) ∧ (0 : Int) < (y2 : Int):=by omega
   have hgl1 : g < W1.heap.size:=by omega
   clear HK0 HS0
   have HC : Hid (Below W1.heap.size W1 W1):=hid (Below.refl _ _)
   obtain ⟨sl,⟨sc0,sc1,sc2,sc3,sc4,sc5,sc6,sc7,sc8⟩,_⟩:=(HSB.out.stay HC.out).facts
   obtain ⟨d0,d1,d2,d3,d4,d5⟩:=HKE.out _ (below_ch HA.out HC.out)
   go_wp2_with (first
    | (go_simp;go_at_call 53;(with_reducible refine (HSh.out _ (below_ch HA.out HC.out)).mono ?_);rintro e1 wt ⟨rfl,hbt⟩;replace HC:=hid (below_ch HC.out hbt);obtain ⟨sl,⟨sc0,sc1,sc2,sc3,sc4,sc5,sc6,sc7,sc8⟩,_⟩:=(HSB.out.stay HC.out).facts;clear hbt)
    | (go_simp;go_at_call 12;(with_reducible refine (HB.out _ (below_ch HA.out HC.out)).mono ?_);rintro e1 wt ⟨rfl,hbt⟩;replace HC:=hid (below_ch HC.out hbt);obtain ⟨sl,⟨sc0,sc1,sc2,sc3,sc4,sc5,sc6,sc7,sc8⟩,_⟩:=(HSB.out.stay HC.out).facts;clear hbt)
    | (go_simp;go_at_call 26;(with_reducible refine (rline_any tabs (by omega) _ [tOut,E,[59]] HU0 T0 HT0 (by omega) _).mono ?_);rintro e1 wt ⟨rfl,hbt⟩;replace HC:=hid (below_ch HC.out hbt);obtain ⟨sl,⟨sc0,sc1,sc2,sc3,sc4,sc5,sc6,sc7,sc8⟩,_⟩:=(HSB.out.stay HC.out).facts;clear hbt))
   go_ret
   refine ⟨?_,below_ch HA.out HC.out⟩
   rw [← hR.out]
   try rfl
def GR5 (N : Nat) : Prop:=∀ (l : List Stm) (tabs : Nat) (W : World) (v : Value),cntS l ≤ N → (∀ s ∈ l,GoodS s) → IsSts (fun g => 0 ≤ g) W l v → cntS l ≤ 16385 → tabs + cntS l ≤ 20000 →
 Calls Tryd.prog 12 #[v,.int .i64 tabs] W fun e w' => e = .returned (.string (bstr (stsT l tabs))) ∧ Below W.heap.size W w'
theorem name_bd {t : List UInt8} (h : NmOk t) : (bstr t).size ≤ 100000:=h.len
theorem rstmt_any {N tabs : Nat} {s : Stm} {v : SV} {W : World} (HGS : GR5 N) (hN : cntS s.bd ≤ N ∧ cntS s.el ≤ N) (HI : IsSt1 (fun g => 0 ≤ g) W s v) (HG : GoodS s) (h9 : s.cnt ≤ 16385) (ht : tabs + s.cnt ≤ 20000) :
 Calls Tryd.prog 30 #[.agg #[.int .i64 s.k,.int .i64 s.a,.bool s.tr,.bool s.sc,.string (bstr s.nm),v.i,v.e,v.b,v.l],.int .i64 tabs] W fun e w' => e = .returned (.string (bstr (stT s tabs))) ∧ Below W.heap.size W w':=by
 have hcp:=cnt_parts s
 obtain ⟨k,a,tr,sc,nm,ix,es,bd,el⟩:=s
 obtain ⟨z1,k1,z2,k2,z3,k3,z4,k4,rfl⟩:=HI.slices
 change cntS bd ≤ N ∧ cntS el ≤ N at hN
 change Stm.cnt _ = 1 + cntS bd + cntS el at hcp
 rw [hcp] at h9 ht
 cases HG with
 | mk h0 h5 g1 g2 g3 g4 g5 =>
 obtain ⟨i1,i2,i3,i4⟩:=HI
 have kE : Kid W z2 es.length (onlyT es):=kid_of i2 g2
 have kI : Kid W z1 ix.length (onlyT ix):=kid_of i1 g1
 have hB : ∀ X,Below W.heap.size W X → Calls Tryd.prog 12 #[.slice z3 bd.length k3,.int .i64 ((tabs : Int) + 1)] X fun e w' => e = .returned (.string (bstr (stsT bd (tabs + 1)))) ∧ Below X.heap.size X w':=fun X hX => HGS bd (tabs + 1) X _ hN.1 g4 (i3.kept fun g hg hl => ⟨hX.block g hl,hg⟩) (by omega) (by omega)
 have hC : ∀ X,Below W.heap.size W X → Calls Tryd.prog 12 #[.slice z4 el.length k4,.int .i64 ((tabs : Int) + 1)] X fun e w' => e = .returned (.string (bstr (stsT el (tabs + 1)))) ∧ Below X.heap.size X w':=fun X hX => HGS el (tabs + 1) X _ hN.2 g5 (i4.kept fun g hg hl => ⟨hX.block g hl,hg⟩) (by omega) (by omega)
 have hb : (bstr (onlyT es)).size ≤ 1000000 ∧ (bstr (onlyT ix)).size ≤ 1000000 ∧ (bstr nm).size ≤ 100000 ∧ (bstr (stsT bd (tabs + 1))).size ≤ 1000000000000 ∧ (bstr (stsT el (tabs + 1))).size ≤ 1000000000000 ∧ (bstr (typeT tr sc)).size ≤ 20 :=
  ⟨onlyT_bd g2,onlyT_bd g1,name_bd g3,sts_bd g4 (by omega) (by omega),sts_bd g5 (by omega) (by omega),type_len9 _ _⟩
 have htab : tabs ≤ 20000:=by omega
 have hk : k = 0 ∨ k = 1 ∨ k = 2 ∨ k = 3 ∨ k = 4 ∨ k = 5:=by omega
 rcases hk with rfl | rfl | rfl | rfl | rfl | rfl
 · exact rsw_let htab kE (hid hB) (hid rfl) hb _ _ (hid rfl) (hid (by simp [stT]))
 · cases ix with
   | nil => exact rsw_set htab kE rfl (hid hB) (hid rfl) hb _ _ (hid rfl) (hid (by simp [stT,lineT,indexT]))
   | cons x r => exact rsw_seti htab kE kI (by simp [Stm.ix]) (hid hB) (hid rfl) hb _ _ (hid rfl) (hid (by simp [stT,lineT,indexT,onlyT]))
 · cases el with
   | nil => exact rsw_if htab kE rfl (hid hB) (hid rfl) hb _ _ (hid rfl) _ (hid rfl) (hid (by rw [bstr_cat,bstr_cat];simp [stT]))
   | cons x r => exact rsw_ife htab kE (by simp [Stm.el]) (hid hB) (hid hC) (hid rfl) hb _ _ (hid rfl) _ (hid rfl) _ (hid rfl) (hid (by rw [bstr_cat,bstr_cat,bstr_cat,bstr_cat];simp [stT]))
 · exact rsw_while htab kE (hid hB) (hid rfl) hb _ _ (hid rfl) _ (hid rfl) (hid (by rw [bstr_cat,bstr_cat];simp [stT]))
 · exact rsw_lock htab kE (hid hB) (hid rfl) hb _ _ (hid rfl) _ (hid rfl) (hid (by rw [bstr_cat,bstr_cat];simp [stT]))
 · exact rsw_out htab kE (hid hB) (hid rfl) hb _ _ (hid rfl) (hid (by simp [stT]))
theorem rsts_step {N : Nat} (IH : ∀ M,M < N → GR5 M) : GR5 N:=by
 intro l tabs W v hN hg hi h9 ht
 have hlc:=len_cnt l
 cases hi with
 | nil =>
  go_enter Tryd.func12,Tryd.ntmps12
  go_wp2
  go_loopw [5,6] (fun sv iv wr => sv = .string (bstr []) ∧ iv = .int .i64 0 ∧ wr = W) (fun _ _ _ => 0)
  case atStart => exact ⟨rfl,rfl,rfl⟩
  case round =>
   obtain ⟨rfl,rfl,rfl⟩:=hrel
   go_wp2
   go_ret
   exact ⟨by simp [stsT],Below.refl _ _⟩
 | node g cap cs fr vs hg0 hb hne hc h1 h2 h3 h4 =>
  have HG:=hid hg
  have HB:=hid hb
  have HCS:=hid hc
  have HS : Hid (∀ i s,l[i]? = some s → IsSt1 (fun g => 0 ≤ g) W s (vs i)):=hid fun i s h => ⟨h1 i s h,h2 i s h,h3 i s h,h4 i s h⟩
  have HIH:=hid IH
  have hall:=sts_bd hg h9 (n:=tabs) (by omega)
  have hgl0:=(Array.getElem?_eq_some_iff.1 hb).1
  obtain ⟨n,hn⟩ : ∃ n,l.length = n:=⟨_,rfl⟩
  have HN:=hid hn
  rw [hn] at hlc ⊢
  clear hg hb hc h1 h2 h3 h4 IH hn
  go_enter Tryd.func12,Tryd.ntmps12
  go_wp2
  go_loopw [5,6] (fun sv iv wr => ∃ k : Nat,sv = .string (bstr (stsT (l.take k) tabs)) ∧ iv = .int .i64 k ∧ k ≤ n ∧ Below W.heap.size W wr) (fun _ iv _ => n - (intOf iv).toNat)
  case atStart => exact ⟨0,by simp [stsT,bstr],rfl,Nat.zero_le _,Below.refl _ _⟩
  case round =>
   obtain ⟨k,rfl,rfl,hk,hbr⟩:=hrel
   have HBR:=hid hbr
   have hbx:=(hbr.block g hgl0).trans HB.out
   have hle0:=take_sts_le l k tabs
   obtain ⟨S,hS⟩ : ∃ S,stsT (l.take k) tabs = S:=⟨_,rfl⟩
   rw [hS] at hle0 ⊢
   have hss : (bstr S).size ≤ 1000000000000:=Nat.le_trans hle0 hall
   have HSS:=hid hS
   by_cases hkl : k < n
   · obtain ⟨s,hs⟩ : ∃ s,l[k]? = some s:=⟨_,List.getElem?_eq_getElem (by (have:=HN.out;omega))⟩
     have hsm:=List.mem_of_getElem? hs
     have hcc:=cnt_mem hsm
     have hcp:=cnt_parts s
     have hI:=HS.out k s hs
     obtain ⟨z1,k1,z2,k2,z3,k3,z4,k4,hv⟩:=hI.slices
     have hcs:=HCS.out k s hs
     obtain ⟨y1,hy1⟩ : ∃ y,s.ix.length = y:=⟨_,rfl⟩
     obtain ⟨y2,hy2⟩ : ∃ y,s.es.length = y:=⟨_,rfl⟩
     obtain ⟨y3,hy3⟩ : ∃ y,s.bd.length = y:=⟨_,rfl⟩
     obtain ⟨y4,hy4⟩ : ∃ y,s.el.length = y:=⟨_,rfl⟩
     rw [hy1,hy2,hy3,hy4] at hv
     rw [hv] at hcs hI
     have d0 : wr.cell? ⟨g,k * 9,none⟩ = some (.int .i64 s.k):=by (rw [cell_of_row _ _ _ _ _ _ hbx];exact hcs 0 _ rfl)
     have d1 : wr.cell? ⟨g,k * 9 + 1,none⟩ = some (.int .i64 s.a):=by (rw [cell_of_row _ _ _ _ _ _ hbx];exact hcs 1 _ rfl)
     have d2 : wr.cell? ⟨g,k * 9 + 2,none⟩ = some (.bool s.tr):=by (rw [cell_of_row _ _ _ _ _ _ hbx];exact hcs 2 _ rfl)
     have d3 : wr.cell? ⟨g,k * 9 + 3,none⟩ = some (.bool s.sc):=by (rw [cell_of_row _ _ _ _ _ _ hbx];exact hcs 3 _ rfl)
     have d4 : wr.cell? ⟨g,k * 9 + 4,none⟩ = some (.string (bstr s.nm)):=by (rw [cell_of_row _ _ _ _ _ _ hbx];exact hcs 4 _ rfl)
     have d5 : wr.cell? ⟨g,k * 9 + 5,none⟩ = some (.slice z1 y1 k1):=by (rw [cell_of_row _ _ _ _ _ _ hbx];exact hcs 5 _ rfl)
     have d6 : wr.cell? ⟨g,k * 9 + 6,none⟩ = some (.slice z2 y2 k2):=by (rw [cell_of_row _ _ _ _ _ _ hbx];exact hcs 6 _ rfl)
     have d7 : wr.cell? ⟨g,k * 9 + 7,none⟩ = some (.slice z3 y3 k3):=by (rw [cell_of_row _ _ _ _ _ _ hbx];exact hcs 7 _ rfl)
     have d8 : wr.cell? ⟨g,k * 9 + 8,none⟩ = some (.slice z4 y4 k4):=by (rw [cell_of_row _ _ _ _ _ _ hbx];exact hcs 8 _ rfl)
     have hgl:=(Array.getElem?_eq_some_iff.1 hbx).1
     have htk:=take_stsT l k tabs s hs
     have hle:=take_sts_le l (k + 1) tabs
     rw [htk,List.length_append] at hle
     obtain ⟨T,hT⟩ : ∃ T,stT s tabs = T:=⟨_,rfl⟩
     rw [hT] at hle htk
     have hts : (bstr T).size ≤ 1000000000000:=Nat.le_trans (Nat.le_trans (Nat.le_add_left _ _) hle) hall
     have HST : Hid (Calls Tryd.prog 30 #[.agg #[.int .i64 s.k,.int .i64 s.a,.bool s.tr,.bool s.sc,.string (bstr s.nm),.slice z1 y1 k1,.slice z2 y2 k2,.slice z3 y3 k3,.slice z4 y4 k4],.int .i64 tabs] wr fun e w' => e = .returned (.string (bstr T)) ∧ Below wr.heap.size wr w'):=hid (by
      rw [← hT]
      exact rstmt_any (s:=s) (v:=⟨.slice z1 y1 k1,.slice z2 y2 k2,.slice z3 y3 k3,.slice z4 y4 k4⟩) (HIH.out (N - 1) (by omega)) (by omega) (hI.keptT ⟨hbr.size,fun g' _ _ _ _ hg' _ => hbr.block g' (Array.getElem?_eq_some_iff.1 hg').1⟩) (HG.out s hsm) (by omega) (by omega))
     have HTK:=hid htk
     have hlt : (k : Int) < (n : Int):=by omega
     have hk0 : (0 : Int) ≤ (k : Int):=Int.natCast_nonneg _
     have hkr : 0 ≤ (k : Int) ∧ (k : Int) < (n : Int):=by omega
     have hc1 : ¬ 9223372036854775807 < (bstr S).size + (bstr T).size:=by omega
     have hn9 : n ≤ 20000:=by omega
     clear hy1 hy2 hy3 hy4 hv hcs hI hle htk hbx hs hsm hcp hT hS hbr hle0 hcc hlc
     go_wp2_with (go_at_call 30;(with_reducible refine (HST.out).mono ?_);rintro e9 w9 ⟨rfl,hb9⟩)
     go_roundw
     case rel =>
      refine ⟨k + 1,?_,by go_num,Nat.succ_le_of_lt hkl,below_ch HBR.out hb9⟩
      rw [HTK.out,HSS.out,bstr_cat]
     case measure =>
      simp [intOf]
      omega
   · have hlt : ¬ (k : Int) < (n : Int):=by omega
     obtain rfl : n = k:=by omega
     have et : l.take n = l:=by (rw [← HN.out];exact List.take_length)
     rw [et] at hS
     have HSE:=hid hS
     clear hS et hbx hbr hle0
     go_wp2
     go_ret
     exact ⟨by (rw [HSE.out];rfl),HBR.out⟩
theorem rsts_all (N : Nat) : GR5 N:=by
 induction N using Nat.strongRecOn with
 | _ N ih => exact rsts_step ih
theorem rsts9_any {l : List Stm} {tabs : Nat} {W : World} {v : Value} (T : List UInt8) (hT : Hid (stsT l tabs = T)) (hg : ∀ s ∈ l,GoodS s) (hi : IsSts (fun g => 0 ≤ g) W l v) (h9 : cntS l ≤ 16385) (ht : tabs ≤ 1000) :
 Calls Tryd.prog 12 #[v,.int .i64 tabs] W fun e w' => e = .returned (.string (bstr (T))) ∧ Below W.heap.size W w':=by
 obtain rfl:=hT.out
 exact rsts_all (cntS l) l tabs W v (Nat.le_refl _) hg hi h9 (by omega)
open Go
theorem getD_sets (t : Array Value) (d e : Nat) (v : Value) (hd : d < t.size) : (t.setIfInBounds d v).getD e undef = if e = d then v else t.getD e undef:=by
 simp only [Array.getD_eq_getD_getElem?,Array.getElem?_setIfInBounds]
 by_cases h : d = e
 · subst h
   simp [hd]
 · rw [if_neg h,if_neg (fun e' => h e'.symm)]
def setAll (dst : Nat → Nat) (l : List Value) (t0 : Array Value) (m : Nat) : Array Value:=(List.range m).foldl (fun t k => t.setIfInBounds (dst k) (l.getD k undef)) t0
theorem setAll_succ (dst : Nat → Nat) (l : List Value) (t0 : Array Value) (m : Nat) : setAll dst l t0 (m + 1) = (setAll dst l t0 m).setIfInBounds (dst m) (l.getD m undef):=by
 unfold setAll
 rw [List.range_succ,List.foldl_append]
 rfl
theorem setAll_facts (dst : Nat → Nat) (l : List Value) (t0 : Array Value) (n : Nat) (hd : ∀ k,k < n → dst k < t0.size) (inj : ∀ i k,i < n → k < n → dst i = dst k → i = k) :
 ∀ m,m ≤ n → (setAll dst l t0 m).size = t0.size ∧ (∀ k,k < m → (setAll dst l t0 m).getD (dst k) undef = l.getD k undef) ∧ (∀ d,(∀ k,k < m → dst k ≠ d) → (setAll dst l t0 m).getD d undef = t0.getD d undef)
 | 0,_ => ⟨rfl,fun k hk => absurd hk (by omega),fun d _ => rfl⟩
 | m + 1,hm => by
  obtain ⟨h1,h2,h3⟩:=setAll_facts dst l t0 n hd inj m (by omega)
  have hlt : dst m < (setAll dst l t0 m).size:=by (rw [h1];exact hd m (by omega))
  rw [setAll_succ]
  refine ⟨by simpa using h1,fun k hk => ?_,fun d hk => ?_⟩
  · rw [getD_sets _ _ _ _ hlt]
    by_cases e : k = m
    · subst e
      rw [if_pos rfl]
    · rw [if_neg (fun h => e (inj k m (by omega) (by omega) h))]
      exact h2 k (by omega)
  · rw [getD_sets _ _ _ _ hlt,if_neg (fun h => hk m (by omega) h.symm)]
    exact h3 d fun k hk2 => hk k (by omega)
theorem tmps_of {n sz : Nat} {dst : Nat → Nat} {l : List Value} {t0 : Array Value} {listed : Array Bool} {a : Act} (h : Ins n sz dst (l.map some) t0 listed a) (hl : ∀ k,k < n → listed.getD k false = true) (hn : l.length = n) (ht : t0.size = sz) (hd : ∀ k,k < n → dst k < sz) (inj : ∀ i k,i < n → k < n → dst i = dst k → i = k) :
 a.tmps = setAll dst l t0 n:=by
 obtain ⟨h1,h2,h3⟩:=setAll_facts dst l t0 n (fun k hk => by (rw [ht];exact hd k hk)) inj n (Nat.le_refl _)
 apply Array.ext
 · rw [h1,ht]
   exact h.tsz
 · intro i hi1 hi2
   have e : a.tmps.getD i undef = (setAll dst l t0 n).getD i undef:=by
    by_cases hk : ∃ k,k < n ∧ dst k = i
    · obtain ⟨k,hk,rfl⟩:=hk
      rw [h2 k hk]
      refine h.new k _ hk ?_ (hl k hk)
      have hkl : k < l.length:=by omega
      rw [List.getElem?_map,List.getElem?_eq_getElem hkl]
      simp [List.getD,List.getElem?_eq_getElem hkl]
    · have hk' : ∀ k,k < n → dst k ≠ i:=fun k a b => hk ⟨k,a,b⟩
      rw [h3 i hk',h.old i hk']
   simpa [Array.getD_eq_getD_getElem?,hi1,hi2] using e
end Go.Proofs.YtkhbbapocamlmaaDoor
