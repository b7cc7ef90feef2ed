/- Joined texts: Rwords Rwo Par4 Gr Pp Aw5: lemmas for the law; each says its own conditions. -/
import Derived.Test.YtbmmjomcjlpnlaaQ09
import Derived.Deep.RegionHeld3
import Derived.Test.YtbmmjomcjlpnlaaQ01
set_option linter.unusedSimpArgs false
set_option linter.unusedVariables false
set_option maxRecDepth 100000
set_option maxHeartbeats 8000000
open Go.Lib (hid)
namespace Go.Proofs.Ytbmmjomcjlpnlaa
open Go Go.RowKit
theorem infoW : (Try.prog.info? 82).map (fun i => (i.zero,i.size,i.bytes)) = some (some (.agg #[.int .i64 0,.string ⟨#[]⟩,.int .i64 0,.int .i64 0]),4,40):=by kernel_rfl
theorem span_part {l : List UInt8} {i : Nat} {x : UInt8} (h : i < spanL l) (hx : l[i]? = some x) : isPart x = true:=take_all isPart l i x h hx
theorem while_end {α : Type} (p : α → Bool) : ∀ (l : List α) (x : α),l[(l.takeWhile p).length]? = some x → p x = false
 | [],x,h => by simp at h
 | c :: r,x,h => by
  rw [List.takeWhile_cons] at h
  split at h
  · exact while_end p r x (by simpa using h)
  · rename_i hc
    simp at h
    rw [← h]
    simpa using hc
theorem rletter_is {c : UInt8} {b : Bool} (h : isLetter c = b) (w : World) : Calls Try.prog 41 #[.int .u8 c.toNat] w fun e w' => e = .returned (.bool b) ∧ w = w':=by
 rw [← h,← letterR_byte]
 exact rletter_any _ w
theorem rdigit_is {c : UInt8} {b : Bool} (h : isDigit c = b) (w : World) : Calls Try.prog 42 #[.int .u8 c.toNat] w fun e w' => e = .returned (.bool b) ∧ w = w':=by
 rw [← h,← digitR_byte]
 exact rdigit_any _ w
def RwordsEnd (B : Nat) (Wf : List Wd) (Rf : Option (Int × Nat)) (e : Ending) (w' : World) : Prop :=
 match Rf with
 | none => ∃ v,e = .returned (.tuple #[v,.int .i64 0,.int .i64 0]) ∧ w'.ownsRow B 82 4 v Wf.length (cellsW Wf)
 | some (e0,a0) => e = .returned (.tuple #[.slice none 0 0,.int .i64 e0,.int .i64 a0])
theorem blanks_eq (c : UInt8) : hasB (⟨#[32,9,10,13]⟩ : ByteArray).data.toList c = isBlank c:=by
 rw [Bool.eq_iff_iff]
 simp [hasB,isBlank,or_assoc]
theorem blank_in {c : UInt8} {b : Bool} (h : isBlank c = b) (w : World) : Calls Try.prog 40 #[.string ⟨#[32,9,10,13]⟩,.int .u8 c.toNat] w fun e w' => e = .returned (.bool b) ∧ w = w' :=
 in_is ((blanks_eq c).trans h) (by decide) w
theorem own_ne_new {w : World} {B e size n : Nat} {v : Value} {xs : List Value} (h : w.ownsRow B e size v n xs) : v.ownBlock ≠ some w.heap.size:=fun h2 => by
 have:=(h.lt _ h2).2
 omega
theorem own_set {w : World} {B e size n b : Nat} {v : Value} {xs : List Value} (h : w.ownsRow B e size v n xs) (hne : v.ownBlock ≠ some b) (i : Nat) (u : Value) : (w.setCell ⟨b,i,none⟩ u).ownsRow B e size v n xs:=by
 refine ⟨h.1,?_⟩
 rcases h.2 with h0 | ⟨g,cap,cur,rfl,hB,hg,rest⟩
 · exact .inl h0
 · exact .inr ⟨g,cap,cur,rfl,hB,(Below.heap_setCell w ⟨b,i,none⟩ u g (fun e => hne (by rw [e];rfl))).trans hg,rest⟩
theorem below_two {B b i j : Nat} {w w1 : World} (h : Below B w w1) (hb : B ≤ b) (x0 x1 : Value) : Below B w ((w1.setCell ⟨b,i,none⟩ x0).setCell ⟨b,j,none⟩ x1) :=
 (h.setCell (p:=⟨b,i,none⟩) hb x0).setCell (p:=⟨b,j,none⟩) hb x1
theorem span_facts (s : ByteArray) (k m J : Nat) (hm : spanL (s.data.toList.drop k) = m) (hJ : J = k + m) : (∀ j (h : j < s.size),k ≤ j → j < J → isPart (s[j]'h) = true) ∧ ∀ h : J < s.size,isPart (s[J]'h) = false:=by
 subst hJ
 refine ⟨fun j h hj1 hj2 => ?_,fun h => ?_⟩
 · have hx:=list_at s k (j - k) (by omega)
   have e : k + (j - k) = j:=by omega
   simp only [e] at hx
   exact span_part (by omega) hx
 · have hx:=list_at s k m h
   refine while_end isPart (s.data.toList.drop k) _ ?_
   show (s.data.toList.drop k)[spanL (s.data.toList.drop k)]? = _
   rw [hm]
   exact hx
theorem ext_drop (s : ByteArray) (k m J : Nat) (hJ : J = k + m) : s.extract k J = ⟨((s.data.toList.drop k).take m).toArray⟩:=by
 rw [Lib.extract_eq,hJ,Nat.add_sub_cancel_left]
theorem ext_size (s : ByteArray) (k J : Nat) : (s.extract k J).size = min J s.size - k:=by rw [ByteArray.size_extract]
theorem rnum_is {X : ByteArray} {v : Int} {b : Bool} (h : rNum X = (v,b)) (w : World) (hm : X.size ≤ 9223372036854775807) : Calls Try.prog 43 #[.string X] w fun e w' => e = .returned (.tuple #[.int .i64 v,.bool b]) ∧ w = w':=by
 have:=rnumber_any X w hm
 rw [h] at this
 exact this
theorem rnum_some {l : List UInt8} {v : Int} (h : numO l = some v) : rNum ⟨l.toArray⟩ = (v,true):=by
 have h1:=numO_some h
 rcases same_num ⟨l.toArray⟩ with ⟨v',e1,e2⟩ | ⟨v',e1,e2⟩
 · rw [h1] at e1
   rw [e2,(Prod.mk.inj e1).1]
 · rw [h1] at e1
   cases e1
theorem rnum_none {l : List UInt8} (h : numO l = none) : ∃ v,rNum ⟨l.toArray⟩ = (v,false):=by
 obtain ⟨v,h1⟩:=numO_none h
 rcases same_num ⟨l.toArray⟩ with ⟨v',e1,e2⟩ | ⟨v',e1,e2⟩
 · rw [h1] at e1
   cases e1
 · exact ⟨_,e2⟩
theorem rsign_at (s Y : ByteArray) (k n : Nat) (hp : k < s.size) (hm : s.size ≤ 16384) (hn : sgnLen (s.data.toList.drop k) = n) (hY : Y = ⟨((s.data.toList.drop k).take n).toArray⟩) (w : World) :
 Calls Try.prog 44 #[.string (s.extract k s.size)] w fun e w' => e = .returned (.string Y) ∧ Below w.heap.size w w':=by
 have h:=rsgn2_any (s.extract k s.size) w (by rw [rest_size];omega) (by rw [rest_size];omega)
 rw [take_ext,rest_list,hn,← hY] at h
 exact h
theorem rwords_any (s : ByteArray) (w : World) (hs : s.size ≤ 16384) (Wf : List Wd) (Rf : Option (Int × Nat)) (hS : Hid (Sc numO s.data.toList 0 Wf Rf)) :
 Calls Try.prog 22 #[.string s] w fun e w' => RwordsEnd w.heap.size Wf Rf e w' ∧ Below w.heap.size w w':=by
 obtain ⟨i0,hi,hz0,hz1,hz2⟩:=info_parts infoW
 go_enter Try.func22,Try.ntmps22
 go_wp2
 go_loopw [5,6] (fun v q wr => ∃ (k : Nat) (acc ws : List Wd),q = .int .i64 k ∧ k ≤ s.size ∧ wr.ownsRow w.heap.size 82 4 v acc.length (cellsW acc) ∧ Below w.heap.size w wr ∧ acc.length ≤ k ∧
  Hid (Sc numO (s.data.toList.drop k) k ws Rf ∧ acc ++ ws = Wf)) (fun _ q _ => s.size - (intOf q).toNat)
 case atStart => exact ⟨0,[],Wf,rfl,Nat.zero_le _,⟨rfl,.inl ⟨rfl,rfl⟩⟩,Below.refl _ _,Nat.le_refl _,hid ⟨hS.out,rfl⟩⟩
 case round =>
  obtain ⟨k,acc,ws,rfl,hk,hown,hbw,hal,HI⟩:=hrel
  by_cases hp : k < s.size
  · have hne:=drop_ne s k hp
    have hdl:=drop_len s k
    obtain ⟨q,hq⟩ : ∃ q,s.data.toList.drop k = (s[k]'hp) :: q:=by
     have h0:=list_at s k 0 hp
     obtain ⟨c,r,hc⟩:=List.exists_cons_of_ne_nil hne
     rw [hc] at h0 ⊢
     simp only [Nat.add_zero,List.getElem?_cons_zero,Option.some.injEq] at h0
     exact ⟨r,by rw [h0]⟩
    by_cases hb : isBlank (s[k]'hp) = true
    · have HB:=hid hb
      have ht : tok numO (s.data.toList.drop k) = .gap 1:=by rw [hq];simp only [tok,hb,if_true]
      have HI2 : Hid (Sc numO (s.data.toList.drop (k + 1)) (k + 1) ws Rf ∧ acc ++ ws = Wf):=hid ⟨by have:=HI.out.1.gap_inv hne ht;rwa [List.drop_drop] at this,HI.out.2⟩
      clear hb ht hne hdl hq
      go_wp2_with (go_at_call 40;with_reducible refine (blank_in HB.out _).mono ?_;rintro e' w' ⟨rfl,rfl⟩)
      go_roundw
      case rel => exact ⟨k + 1,acc,ws,by go_num,by omega,hown,hbw,by omega,HI2⟩
      case measure => simp [intOf];omega
    · have HB : Hid (isBlank (s[k]'hp) = false):=hid (by simpa using hb)
      by_cases hnt : (s[k]'hp) = 47 ∧ q.head? = some 47
      · obtain ⟨hc47,hq47⟩:=hnt
        have h47 : (((s[k]'hp).toNat : Int) == 47) = true:=by rw [hc47];rfl
        have hk1 : k + 1 < s.size:=by
         have h1:=congrArg List.length hq
         rw [hdl,List.length_cons] at h1
         have h2 : 0 < q.length:=by
          cases q with
          | nil => cases hq47
          | cons a b => simp
         omega
        have h471 : (((s[k + 1]'hk1).toNat : Int) == 47) = true:=by
         have h1:=list_at s k 1 hk1
         rw [hq] at h1
         have h2 : some (s[k + 1]'hk1) = some 47:=by
          rw [← h1,← hq47]
          cases q <;> rfl
         rw [Option.some.inj h2]
         rfl
        obtain ⟨m,hm⟩ : ∃ m,noteL (s.data.toList.drop k) = m:=⟨_,rfl⟩
        have ht : tok numO (s.data.toList.drop k) = .gap m:=by
         rw [← hm,hq]
         simp only [tok]
         rw [if_neg hb,if_pos ⟨hc47,hq47⟩]
        obtain ⟨hm1,hm2⟩:=tok_gap hne ht
        have hm3 : k + m ≤ s.size:=by omega
        have HI2 : Hid (Sc numO (s.data.toList.drop (k + m)) (k + m) ws Rf ∧ acc ++ ws = Wf):=hid ⟨by have:=HI.out.1.gap_inv hne ht;rwa [List.drop_drop] at this,HI.out.2⟩
        have HN : Hid ((∀ j (h : j < s.size),k ≤ j → j < k + m → (((s[j]'h).toNat : Int) == 10) = false) ∧ ∀ h : k + m < s.size,(((s[k + m]'h).toNat : Int) == 10) = true):=by
         refine hid ⟨fun j h hj1 hj2 => ?_,fun h => ?_⟩
         · have hx:=list_at s k (j - k) (by omega)
           have e : k + (j - k) = j:=by omega
           simp only [e] at hx
           have h1:=take_all _ _ (j - k) _ (by have:=hm;unfold noteL at this;rw [this];omega) hx
           rw [beq_eq_false_iff_ne]
           intro h2
           have h3 : (s[j]'h) = 10:=UInt8.toNat_inj.1 (by show _ = 10;omega)
           rw [h3] at h1
           cases h1
         · have hx:=list_at s k m h
           have h10 : s[k + m] = 10:=note_end (by rw [hm];exact hx)
           rw [h10]
           rfl
        clear hb hc47 hq47 ht hne hdl hq hm hm2
        go_wp2_with (go_at_call 40;with_reducible refine (blank_in HB.out _).mono ?_;rintro e' w' ⟨rfl,rfl⟩)
        obtain ⟨wo,hwo⟩ : ∃ wo : World,wo = wr:=⟨_,rfl⟩
        subst hwo
        go_loop [6] (fun i => ∃ j : Nat,i = .int .i64 j ∧ k ≤ j ∧ j ≤ k + m) (fun i => k + m - (intOf i).toNat)
        case atStart => exact ⟨k,rfl,Nat.le_refl _,by omega⟩
        case round =>
         obtain ⟨j,rfl,hj1,hj2⟩:=hrel
         by_cases hj : j < k + m
         · have hjs : j < s.size:=by omega
           have h10:=HN.out.1 j hjs hj1 hj
           have hne10 : (((s[j]'hjs).toNat : Int) != 10) = true:=by simp [bne,h10]
           go_wp2
           go_round
           case rel => exact ⟨j + 1,by go_num,by omega,by omega⟩
           case measure => simp [intOf];omega
         · obtain rfl : j = k + m:=by omega
           by_cases hje : k + m < s.size
           · have h10:=HN.out.2 hje
             have hne10 : (((s[k + m]'hje).toNat : Int) != 10) = false:=by simp [bne,h10]
             go_wp2
             go_roundw
             case rel => exact ⟨k + m,acc,ws,by go_num,by omega,hown,hbw,by omega,HI2⟩
             case measure => simp [intOf];omega
           · go_wp2
             go_roundw
             case rel => exact ⟨k + m,acc,ws,by go_num,by omega,hown,hbw,by omega,HI2⟩
             case measure => simp [intOf];omega
      · obtain ⟨m,hm⟩ : ∃ m,spanL (s.data.toList.drop k) = m:=⟨_,rfl⟩
        obtain ⟨J,hJ⟩ : ∃ J,J = k + m:=⟨_,rfl⟩
        have hml : m ≤ s.size - k:=by rw [← hm,← hdl];exact span_le _
        have hJk : k ≤ J:=by omega
        have hJs : J ≤ s.size:=by omega
        have HP : Hid ((∀ j (h : j < s.size),k ≤ j → j < J → isPart (s[j]'h) = true) ∧ ∀ h : J < s.size,isPart (s[J]'h) = false):=hid (span_facts s k m J hm hJ)
        clear hml
        by_cases hlet : isLetter (s[k]'hp) = true
        · have HL:=hid hlet
          have h47 : (((s[k]'hp).toNat : Int) == 47) = false:=by
           rw [beq_eq_false_iff_ne]
           intro h
           have h2 : (s[k]'hp) = 47:=UInt8.toNat_inj.1 (by show _ = 47;omega)
           rw [h2] at hlet
           exact absurd hlet (by decide)
          by_cases h24 : 24 < m
          · have ht : tok numO (s.data.toList.drop k) = .bad 2:=by
             rw [← hm] at h24
             rw [hq] at h24 ⊢
             simp only [tok]
             rw [if_neg hb,if_neg hnt,if_pos hlet,if_pos h24]
            obtain ⟨e1,e2⟩:=HI.out.1.bad_inv hne ht
            have HR:=hid e2
            have hJ24 : k + 24 < J:=by omega
            clear hb hnt hlet h24 ht hne hdl hq hm e1 e2 hJ
            go_wp2_with (go_at_call 40;with_reducible refine (blank_in HB.out _).mono ?_;rintro e' w' ⟨rfl,rfl⟩)
            obtain ⟨wo,hwo⟩ : ∃ wo : World,wo = wr:=⟨_,rfl⟩
            subst hwo
            go_loop [8] (fun n => ∃ j : Nat,n = .int .i64 j ∧ k ≤ j ∧ j ≤ J) (fun n => J - (intOf n).toNat)
            case atStart => exact ⟨k,rfl,Nat.le_refl _,by omega⟩
            case round =>
             obtain ⟨j,rfl,hj1,hj2⟩:=hrel
             by_cases hj : j < J
             · have hjs : j < s.size:=by omega
               have hpt:=HP.out.1 j hjs hj1 hj
               cases hl : isLetter (s[j]'hjs)
               · have HL1:=hid hl
                 have HD1 : Hid (isDigit (s[j]'hjs) = true):=hid (by unfold isPart at hpt;rw [hl] at hpt;simpa using hpt)
                 clear hl hpt
                 go_wp2_with (first | (go_at_call 41;with_reducible refine (rletter_is HL1.out _).mono ?_;rintro e' w' ⟨rfl,rfl⟩) | (go_at_call 42;with_reducible refine (rdigit_is HD1.out _).mono ?_;rintro e' w' ⟨rfl,rfl⟩))
                 go_round
                 case rel => exact ⟨j + 1,by go_num,by omega,by omega⟩
                 case measure => simp [intOf];omega
               · have HL1:=hid hl
                 clear hl hpt
                 go_wp2_with (first | (go_at_call 41;with_reducible refine (rletter_is HL1.out _).mono ?_;rintro e' w' ⟨rfl,rfl⟩))
                 go_round
                 case rel => exact ⟨j + 1,by go_num,by omega,by omega⟩
                 case measure => simp [intOf];omega
             · obtain rfl : j = J:=by omega
               by_cases hje : j < s.size
               · have hpt:=HP.out.2 hje
                 have HL1 : Hid (isLetter (s[j]'hje) = false):=hid (by unfold isPart at hpt;simp at hpt;exact hpt.1)
                 have HD1 : Hid (isDigit (s[j]'hje) = false):=hid (by unfold isPart at hpt;simp at hpt;exact hpt.2)
                 clear hpt
                 go_wp2_with (first | (go_at_call 41;with_reducible refine (rletter_is HL1.out _).mono ?_;rintro e' w' ⟨rfl,rfl⟩) | (go_at_call 42;with_reducible refine (rdigit_is HD1.out _).mono ?_;rintro e' w' ⟨rfl,rfl⟩) | (go_at_call 41;with_reducible refine (rletter_is HL.out _).mono ?_;rintro e' w' ⟨rfl,rfl⟩))
                 go_ret3
                 exact ⟨by rw [HR.out];rfl,hbw.alloc hbw.size _⟩
               · go_wp2_with (first | (go_at_call 41;with_reducible refine (rletter_is HL.out _).mono ?_;rintro e' w' ⟨rfl,rfl⟩))
                 go_ret3
                 exact ⟨by rw [HR.out];rfl,hbw.alloc hbw.size _⟩
          · have ht : tok numO (s.data.toList.drop k) = .word 0 m 0:=by
             rw [← hm] at h24
             rw [← hm,hq]
             rw [hq] at h24
             simp only [tok]
             rw [if_neg hb,if_neg hnt,if_pos hlet,if_neg h24]
            obtain ⟨ws2,hw2,hsc2⟩:=HI.out.1.word_inv hne ht
            rw [List.drop_drop] at hsc2
            have HI2 : Hid (Sc numO (s.data.toList.drop J) J ws2 Rf ∧ (acc ++ [⟨0,(s.data.toList.drop k).take m,0,k⟩]) ++ ws2 = Wf):=hid ⟨by rw [hJ];exact hsc2,by rw [← HI.out.2,hw2];simp⟩
            have hJ24 : J ≤ k + 24:=by omega
            have hJ1 : k + 1 ≤ J:=by have:=tok_word hne ht;omega
            have HX:=hid (ext_drop s k m J hJ)
            clear hb hnt hlet h24 ht hne hdl hq hm hw2 hsc2 hJ
            go_wp2_with (go_at_call 40;with_reducible refine (blank_in HB.out _).mono ?_;rintro e' w' ⟨rfl,rfl⟩)
            obtain ⟨wo,hwo⟩ : ∃ wo : World,wo = wr:=⟨_,rfl⟩
            subst hwo
            go_loop [8] (fun n => ∃ j : Nat,n = .int .i64 j ∧ k ≤ j ∧ j ≤ J) (fun n => J - (intOf n).toNat)
            case atStart => exact ⟨k,rfl,Nat.le_refl _,by omega⟩
            case round =>
             obtain ⟨j,rfl,hj1,hj2⟩:=hrel
             by_cases hj : j < J
             · have hjs : j < s.size:=by omega
               have hpt:=HP.out.1 j hjs hj1 hj
               cases hl : isLetter (s[j]'hjs)
               · have HL1:=hid hl
                 have HD1 : Hid (isDigit (s[j]'hjs) = true):=hid (by unfold isPart at hpt;rw [hl] at hpt;simpa using hpt)
                 clear hl hpt
                 go_wp2_with (first | (go_at_call 41;with_reducible refine (rletter_is HL1.out _).mono ?_;rintro e' w' ⟨rfl,rfl⟩) | (go_at_call 42;with_reducible refine (rdigit_is HD1.out _).mono ?_;rintro e' w' ⟨rfl,rfl⟩))
                 go_round
                 case rel => exact ⟨j + 1,by go_num,by omega,by omega⟩
                 case measure => simp [intOf];omega
               · have HL1:=hid hl
                 clear hl hpt
                 go_wp2_with (first | (go_at_call 41;with_reducible refine (rletter_is HL1.out _).mono ?_;rintro e' w' ⟨rfl,rfl⟩))
                 go_round
                 case rel => exact ⟨j + 1,by go_num,by omega,by omega⟩
                 case measure => simp [intOf];omega
             · obtain rfl : j = J:=by omega
               by_cases hje : j < s.size
               · have hpt:=HP.out.2 hje
                 have HL1 : Hid (isLetter (s[j]'hje) = false):=hid (by unfold isPart at hpt;simp at hpt;exact hpt.1)
                 have HD1 : Hid (isDigit (s[j]'hje) = false):=hid (by unfold isPart at hpt;simp at hpt;exact hpt.2)
                 clear hpt
                 go_wp2_with (first | (go_at_call 41;with_reducible refine (rletter_is HL1.out _).mono ?_;rintro e' w' ⟨rfl,rfl⟩) | (go_at_call 42;with_reducible refine (rdigit_is HD1.out _).mono ?_;rintro e' w' ⟨rfl,rfl⟩) | (go_at_call 41;with_reducible refine (rletter_is HL.out _).mono ?_;rintro e' w' ⟨rfl,rfl⟩) | (at_builtin;go_must (refine wpList_append_own _ rfl (.tmp 117) (.tmp 119) 72 rfl w.heap.size 82 i0 _ 4 40 Try.underlying72 hi hz0 hz1 hz2 rfl (by decide) _ _ _ rfl ((hown.alloc _).alloc _) ⟨_,0,none⟩ 1 1 [.int .i64 0,.string (s.extract k j),.int .i64 0,.int .i64 k] rfl rfl (cell_four_at _ _ _ _ _ _ _ (by simp)) (four_one _ _ _ _) (by unfold maxLen;omega) (by omega) (by have:=hbw.size;simp;omega) ?_;intro v4 w4 hown4 hgrow4 _)))
                 go_roundw
                 case rel =>
                  refine ⟨j,acc ++ [⟨0,(s.data.toList.drop k).take m,0,k⟩],ws2,rfl,by omega,?_,?_,?_,HI2⟩
                  · rw [cellsW_snoc,List.length_append]
                    have e : wcells ⟨0,(s.data.toList.drop k).take m,0,k⟩ = [.int .i64 0,.string (s.extract k j),.int .i64 0,.int .i64 k]:=by rw [HX.out];rfl
                    rw [e]
                    exact hown4
                  · exact ((hbw.alloc hbw.size _).alloc (by have:=hbw.size;simp;omega) _).grown hgrow4 (by have:=hbw.size;simp;omega) (fun j hj => (hown.lt j hj).1)
                  · rw [List.length_append]
                    show acc.length + 1 ≤ _
                    omega
                 case measure => simp [intOf];omega
               · go_wp2_with (first | (go_at_call 41;with_reducible refine (rletter_is HL.out _).mono ?_;rintro e' w' ⟨rfl,rfl⟩) | (at_builtin;go_must (refine wpList_append_own _ rfl (.tmp 117) (.tmp 119) 72 rfl w.heap.size 82 i0 _ 4 40 Try.underlying72 hi hz0 hz1 hz2 rfl (by decide) _ _ _ rfl ((hown.alloc _).alloc _) ⟨_,0,none⟩ 1 1 [.int .i64 0,.string (s.extract k j),.int .i64 0,.int .i64 k] rfl rfl (cell_four_at _ _ _ _ _ _ _ (by simp)) (four_one _ _ _ _) (by unfold maxLen;omega) (by omega) (by have:=hbw.size;simp;omega) ?_;intro v4 w4 hown4 hgrow4 _)))
                 go_roundw
                 case rel =>
                  refine ⟨j,acc ++ [⟨0,(s.data.toList.drop k).take m,0,k⟩],ws2,rfl,by omega,?_,?_,?_,HI2⟩
                  · rw [cellsW_snoc,List.length_append]
                    have e : wcells ⟨0,(s.data.toList.drop k).take m,0,k⟩ = [.int .i64 0,.string (s.extract k j),.int .i64 0,.int .i64 k]:=by rw [HX.out];rfl
                    rw [e]
                    exact hown4
                  · exact ((hbw.alloc hbw.size _).alloc (by have:=hbw.size;simp;omega) _).grown hgrow4 (by have:=hbw.size;simp;omega) (fun j hj => (hown.lt j hj).1)
                  · rw [List.length_append]
                    show acc.length + 1 ≤ _
                    omega
                 case measure => simp [intOf];omega
        · have HL : Hid (isLetter (s[k]'hp) = false):=hid (by simpa using hlet)
          by_cases hdig : isDigit (s[k]'hp) = true
          · have HD:=hid hdig
            have h47 : (((s[k]'hp).toNat : Int) == 47) = false:=by
             rw [beq_eq_false_iff_ne]
             intro h
             have h2 : (s[k]'hp) = 47:=UInt8.toNat_inj.1 (by show _ = 47;omega)
             rw [h2] at hdig
             exact absurd hdig (by decide)
            cases hnum : numO ((s.data.toList.drop k).take m) with
            | none =>
             have ht : tok numO (s.data.toList.drop k) = .bad 10:=by
              rw [← hm] at hnum
              rw [hq] at hnum ⊢
              simp only [tok]
              rw [if_neg hb,if_neg hnt,if_neg hlet,if_pos hdig,hnum]
             obtain ⟨e1,e2⟩:=HI.out.1.bad_inv hne ht
             have HR:=hid e2
             have HX:=hid (ext_drop s k m J hJ)
             obtain ⟨v,hv⟩:=rnum_none hnum
             have HV : Hid (rNum (s.extract k J) = (v,false)):=hid (by rw [HX.out];exact hv)
             clear hb hnt hlet hdig ht hne hdl hq hm e1 e2 hJ hnum hv
             go_wp2_with (go_at_call 40;with_reducible refine (blank_in HB.out _).mono ?_;rintro e' w' ⟨rfl,rfl⟩)
             obtain ⟨wo,hwo⟩ : ∃ wo : World,wo = wr:=⟨_,rfl⟩
             subst hwo
             go_loop [8] (fun n => ∃ j : Nat,n = .int .i64 j ∧ k ≤ j ∧ j ≤ J) (fun n => J - (intOf n).toNat)
             case atStart => exact ⟨k,rfl,Nat.le_refl _,by omega⟩
             case round =>
              obtain ⟨j,rfl,hj1,hj2⟩:=hrel
              by_cases hj : j < J
              · have hjs : j < s.size:=by omega
                have hpt:=HP.out.1 j hjs hj1 hj
                cases hl : isLetter (s[j]'hjs)
                · have HL1:=hid hl
                  have HD1 : Hid (isDigit (s[j]'hjs) = true):=hid (by unfold isPart at hpt;rw [hl] at hpt;simpa using hpt)
                  clear hl hpt
                  go_wp2_with (first | (go_at_call 41;with_reducible refine (rletter_is HL1.out _).mono ?_;rintro e' w' ⟨rfl,rfl⟩) | (go_at_call 42;with_reducible refine (rdigit_is HD1.out _).mono ?_;rintro e' w' ⟨rfl,rfl⟩))
                  go_round
                  case rel => exact ⟨j + 1,by go_num,by omega,by omega⟩
                  case measure => simp [intOf];omega
                · have HL1:=hid hl
                  clear hl hpt
                  go_wp2_with (first | (go_at_call 41;with_reducible refine (rletter_is HL1.out _).mono ?_;rintro e' w' ⟨rfl,rfl⟩))
                  go_round
                  case rel => exact ⟨j + 1,by go_num,by omega,by omega⟩
                  case measure => simp [intOf];omega
              · obtain rfl : j = J:=by omega
                by_cases hje : j < s.size
                · have hpt:=HP.out.2 hje
                  have HL1 : Hid (isLetter (s[j]'hje) = false):=hid (by unfold isPart at hpt;simp at hpt;exact hpt.1)
                  have HD1 : Hid (isDigit (s[j]'hje) = false):=hid (by unfold isPart at hpt;simp at hpt;exact hpt.2)
                  clear hpt
                  go_wp2_with (first | (go_at_call 41;with_reducible refine (rletter_is HL1.out _).mono ?_;rintro e' w' ⟨rfl,rfl⟩) | (go_at_call 42;with_reducible refine (rdigit_is HD1.out _).mono ?_;rintro e' w' ⟨rfl,rfl⟩) | (go_at_call 41;with_reducible refine (rletter_is HL.out _).mono ?_;rintro e' w' ⟨rfl,rfl⟩) | (go_at_call 42;with_reducible refine (rdigit_is HD.out _).mono ?_;rintro e' w' ⟨rfl,rfl⟩) | (go_at_call 43;refine (rnum_is HV.out _ (by rw [ext_size];omega)).mono ?_;rintro e' w' ⟨rfl,rfl⟩))
                  go_ret3
                  exact ⟨by rw [HR.out];rfl,hbw.alloc hbw.size _⟩
                · go_wp2_with (first | (go_at_call 41;with_reducible refine (rletter_is HL.out _).mono ?_;rintro e' w' ⟨rfl,rfl⟩) | (go_at_call 42;with_reducible refine (rdigit_is HD.out _).mono ?_;rintro e' w' ⟨rfl,rfl⟩) | (go_at_call 43;refine (rnum_is HV.out _ (by rw [ext_size];omega)).mono ?_;rintro e' w' ⟨rfl,rfl⟩))
                  go_ret3
                  exact ⟨by rw [HR.out];rfl,hbw.alloc hbw.size _⟩
            | some v =>
             have ht : tok numO (s.data.toList.drop k) = .word 1 m v:=by
              rw [← hm] at hnum
              rw [← hm,hq]
              rw [hq] at hnum
              simp only [tok]
              rw [if_neg hb,if_neg hnt,if_neg hlet,if_pos hdig,hnum]
             obtain ⟨ws2,hw2,hsc2⟩:=HI.out.1.word_inv hne ht
             rw [List.drop_drop] at hsc2
             have HI2 : Hid (Sc numO (s.data.toList.drop J) J ws2 Rf ∧ (acc ++ [⟨1,(s.data.toList.drop k).take m,v,k⟩]) ++ ws2 = Wf):=hid ⟨by rw [hJ];exact hsc2,by rw [← HI.out.2,hw2];simp⟩
             have hJ1 : k + 1 ≤ J:=by have:=tok_word hne ht;omega
             have HX:=hid (ext_drop s k m J hJ)
             have HV : Hid (rNum (s.extract k J) = (v,true)):=hid (by rw [HX.out];exact rnum_some hnum)
             clear hb hnt hlet hdig ht hne hdl hq hm hw2 hsc2 hJ hnum
             go_wp2_with (go_at_call 40;with_reducible refine (blank_in HB.out _).mono ?_;rintro e' w' ⟨rfl,rfl⟩)
             obtain ⟨wo,hwo⟩ : ∃ wo : World,wo = wr:=⟨_,rfl⟩
             subst hwo
             go_loop [8] (fun n => ∃ j : Nat,n = .int .i64 j ∧ k ≤ j ∧ j ≤ J) (fun n => J - (intOf n).toNat)
             case atStart => exact ⟨k,rfl,Nat.le_refl _,by omega⟩
             case round =>
              obtain ⟨j,rfl,hj1,hj2⟩:=hrel
              by_cases hj : j < J
              · have hjs : j < s.size:=by omega
                have hpt:=HP.out.1 j hjs hj1 hj
                cases hl : isLetter (s[j]'hjs)
                · have HL1:=hid hl
                  have HD1 : Hid (isDigit (s[j]'hjs) = true):=hid (by unfold isPart at hpt;rw [hl] at hpt;simpa using hpt)
                  clear hl hpt
                  go_wp2_with (first | (go_at_call 41;with_reducible refine (rletter_is HL1.out _).mono ?_;rintro e' w' ⟨rfl,rfl⟩) | (go_at_call 42;with_reducible refine (rdigit_is HD1.out _).mono ?_;rintro e' w' ⟨rfl,rfl⟩))
                  go_round
                  case rel => exact ⟨j + 1,by go_num,by omega,by omega⟩
                  case measure => simp [intOf];omega
                · have HL1:=hid hl
                  clear hl hpt
                  go_wp2_with (first | (go_at_call 41;with_reducible refine (rletter_is HL1.out _).mono ?_;rintro e' w' ⟨rfl,rfl⟩))
                  go_round
                  case rel => exact ⟨j + 1,by go_num,by omega,by omega⟩
                  case measure => simp [intOf];omega
              · obtain rfl : j = J:=by omega
                by_cases hje : j < s.size
                · have hpt:=HP.out.2 hje
                  have HL1 : Hid (isLetter (s[j]'hje) = false):=hid (by unfold isPart at hpt;simp at hpt;exact hpt.1)
                  have HD1 : Hid (isDigit (s[j]'hje) = false):=hid (by unfold isPart at hpt;simp at hpt;exact hpt.2)
                  clear hpt
                  go_wp2_with (first | (go_at_call 41;with_reducible refine (rletter_is HL1.out _).mono ?_;rintro e' w' ⟨rfl,rfl⟩) | (go_at_call 42;with_reducible refine (rdigit_is HD1.out _).mono ?_;rintro e' w' ⟨rfl,rfl⟩) | (go_at_call 41;with_reducible refine (rletter_is HL.out _).mono ?_;rintro e' w' ⟨rfl,rfl⟩) | (go_at_call 42;with_reducible refine (rdigit_is HD.out _).mono ?_;rintro e' w' ⟨rfl,rfl⟩) | (go_at_call 43;refine (rnum_is HV.out _ (by rw [ext_size];omega)).mono ?_;rintro e' w' ⟨rfl,rfl⟩) | (at_builtin;go_must (refine wpList_append_own _ rfl (.tmp 117) (.tmp 119) 72 rfl w.heap.size 82 i0 _ 4 40 Try.underlying72 hi hz0 hz1 hz2 rfl (by decide) _ _ _ rfl ((hown.alloc _).alloc _) ⟨_,0,none⟩ 1 1 [.int .i64 1,.string (s.extract k j),.int .i64 v,.int .i64 k] rfl rfl (cell_four_at _ _ _ _ _ _ _ (by simp)) (four_one _ _ _ _) (by unfold maxLen;omega) (by omega) (by have:=hbw.size;simp;omega) ?_;intro v4 w4 hown4 hgrow4 _)))
                  go_roundw
                  case rel =>
                   refine ⟨j,acc ++ [⟨1,(s.data.toList.drop k).take m,v,k⟩],ws2,rfl,by omega,?_,?_,?_,HI2⟩
                   · rw [cellsW_snoc,List.length_append]
                     have e : wcells ⟨1,(s.data.toList.drop k).take m,v,k⟩ = [.int .i64 1,.string (s.extract k j),.int .i64 v,.int .i64 k]:=by rw [HX.out];rfl
                     rw [e]
                     exact hown4
                   · exact ((hbw.alloc hbw.size _).alloc (by have:=hbw.size;simp;omega) _).grown hgrow4 (by have:=hbw.size;simp;omega) (fun j hj => (hown.lt j hj).1)
                   · rw [List.length_append]
                     show acc.length + 1 ≤ _
                     omega
                  case measure => simp [intOf];omega
                · go_wp2_with (first | (go_at_call 41;with_reducible refine (rletter_is HL.out _).mono ?_;rintro e' w' ⟨rfl,rfl⟩) | (go_at_call 42;with_reducible refine (rdigit_is HD.out _).mono ?_;rintro e' w' ⟨rfl,rfl⟩) | (go_at_call 43;refine (rnum_is HV.out _ (by rw [ext_size];omega)).mono ?_;rintro e' w' ⟨rfl,rfl⟩) | (at_builtin;go_must (refine wpList_append_own _ rfl (.tmp 117) (.tmp 119) 72 rfl w.heap.size 82 i0 _ 4 40 Try.underlying72 hi hz0 hz1 hz2 rfl (by decide) _ _ _ rfl ((hown.alloc _).alloc _) ⟨_,0,none⟩ 1 1 [.int .i64 1,.string (s.extract k j),.int .i64 v,.int .i64 k] rfl rfl (cell_four_at _ _ _ _ _ _ _ (by simp)) (four_one _ _ _ _) (by unfold maxLen;omega) (by omega) (by have:=hbw.size;simp;omega) ?_;intro v4 w4 hown4 hgrow4 _)))
                  go_roundw
                  case rel =>
                   refine ⟨j,acc ++ [⟨1,(s.data.toList.drop k).take m,v,k⟩],ws2,rfl,by omega,?_,?_,?_,HI2⟩
                   · rw [cellsW_snoc,List.length_append]
                     have e : wcells ⟨1,(s.data.toList.drop k).take m,v,k⟩ = [.int .i64 1,.string (s.extract k j),.int .i64 v,.int .i64 k]:=by rw [HX.out];rfl
                     rw [e]
                     exact hown4
                   · exact ((hbw.alloc hbw.size _).alloc (by have:=hbw.size;simp;omega) _).grown hgrow4 (by have:=hbw.size;simp;omega) (fun j hj => (hown.lt j hj).1)
                   · rw [List.length_append]
                     show acc.length + 1 ≤ _
                     omega
                  case measure => simp [intOf];omega
          · have HD : Hid (isDigit (s[k]'hp) = false):=hid (by simpa using hdig)
            obtain ⟨n,hn⟩ : ∃ n,sgnLen (s.data.toList.drop k) = n:=⟨_,rfl⟩
            obtain ⟨Y,hY⟩ : ∃ Y : ByteArray,Y = ⟨((s.data.toList.drop k).take n).toArray⟩:=⟨_,rfl⟩
            by_cases hn0 : n = 0
            · have ht : tok numO (s.data.toList.drop k) = .bad 10:=by
               rw [hn0,hq] at hn
               rw [hq]
               simp only [tok]
               rw [if_neg hb,if_neg hnt,if_neg hlet,if_neg hdig,if_pos hn]
              have h47 : (((s[k]'hp).toNat : Int) == 47) = false:=by
               rw [beq_eq_false_iff_ne]
               intro h
               have h2 : (s[k]'hp) = 47:=UInt8.toNat_inj.1 (by show _ = 47;omega)
               rw [hq,h2,hn0] at hn
               cases q <;> simp [sgnLen,pairL,oneL] at hn
              obtain ⟨e1,e2⟩:=HI.out.1.bad_inv hne ht
              have HR:=hid e2
              have HN:=hid hn
              have HY:=hid hY
              have hE : Y.toList.isEmpty = true:=by rw [ByteArray.toList_eq,hY,hn0];rfl
              clear hb hnt hlet hdig ht hne hdl hq hm e1 e2 hJ hn hY hn0
              go_wp2_with (go_at_call 40;with_reducible refine (blank_in HB.out _).mono ?_;rintro e' w' ⟨rfl,rfl⟩)
              obtain ⟨wo,hwo⟩ : ∃ wo : World,wo = wr:=⟨_,rfl⟩
              subst hwo
              go_loop [8] (fun n => ∃ j : Nat,n = .int .i64 j ∧ k ≤ j ∧ j ≤ J) (fun n => J - (intOf n).toNat)
              case atStart => exact ⟨k,rfl,Nat.le_refl _,by omega⟩
              case round =>
               obtain ⟨j,rfl,hj1,hj2⟩:=hrel
               by_cases hj : j < J
               · have hjs : j < s.size:=by omega
                 have hpt:=HP.out.1 j hjs hj1 hj
                 cases hl : isLetter (s[j]'hjs)
                 · have HL1:=hid hl
                   have HD1 : Hid (isDigit (s[j]'hjs) = true):=hid (by unfold isPart at hpt;rw [hl] at hpt;simpa using hpt)
                   clear hl hpt
                   go_wp2_with (first | (go_at_call 41;with_reducible refine (rletter_is HL1.out _).mono ?_;rintro e' w' ⟨rfl,rfl⟩) | (go_at_call 42;with_reducible refine (rdigit_is HD1.out _).mono ?_;rintro e' w' ⟨rfl,rfl⟩))
                   go_round
                   case rel => exact ⟨j + 1,by go_num,by omega,by omega⟩
                   case measure => simp [intOf];omega
                 · have HL1:=hid hl
                   clear hl hpt
                   go_wp2_with (first | (go_at_call 41;with_reducible refine (rletter_is HL1.out _).mono ?_;rintro e' w' ⟨rfl,rfl⟩))
                   go_round
                   case rel => exact ⟨j + 1,by go_num,by omega,by omega⟩
                   case measure => simp [intOf];omega
               · obtain rfl : j = J:=by omega
                 by_cases hje : j < s.size
                 · have hpt:=HP.out.2 hje
                   have HL1 : Hid (isLetter (s[j]'hje) = false):=hid (by unfold isPart at hpt;simp at hpt;exact hpt.1)
                   have HD1 : Hid (isDigit (s[j]'hje) = false):=hid (by unfold isPart at hpt;simp at hpt;exact hpt.2)
                   clear hpt
                   go_wp2_with (first | (go_at_call 41;with_reducible refine (rletter_is HL1.out _).mono ?_;rintro e' w' ⟨rfl,rfl⟩) | (go_at_call 42;with_reducible refine (rdigit_is HD1.out _).mono ?_;rintro e' w' ⟨rfl,rfl⟩) | (go_at_call 41;with_reducible refine (rletter_is HL.out _).mono ?_;rintro e' w' ⟨rfl,rfl⟩) | (go_at_call 42;with_reducible refine (rdigit_is HD.out _).mono ?_;rintro e' w' ⟨rfl,rfl⟩) | (go_at_call 44;with_reducible refine (rsign_at s Y k n hp hs HN.out HY.out _).mono ?_;rintro e' w1 ⟨rfl,hb1⟩;obtain ⟨hc1,hf1⟩:=bcell hb1;have hbw1:=hbw.trans ((below_after hb1).mono hbw.size);have hne:=own_ne_new hown;have hzz : wo.heap.size < w1.heap.size:=by have:=hb1.size;simp at this;omega))
                   go_ret3
                   exact ⟨by rw [HR.out];rfl,below_two hbw1 hbw.size _ _⟩
                 · go_wp2_with (first | (go_at_call 41;with_reducible refine (rletter_is HL.out _).mono ?_;rintro e' w' ⟨rfl,rfl⟩) | (go_at_call 42;with_reducible refine (rdigit_is HD.out _).mono ?_;rintro e' w' ⟨rfl,rfl⟩) | (go_at_call 44;with_reducible refine (rsign_at s Y k n hp hs HN.out HY.out _).mono ?_;rintro e' w1 ⟨rfl,hb1⟩;obtain ⟨hc1,hf1⟩:=bcell hb1;have hbw1:=hbw.trans ((below_after hb1).mono hbw.size);have hne:=own_ne_new hown;have hzz : wo.heap.size < w1.heap.size:=by have:=hb1.size;simp at this;omega))
                   go_ret3
                   exact ⟨by rw [HR.out];rfl,below_two hbw1 hbw.size _ _⟩
            · by_cases hslash : (s[k]'hp) = 47
              · by_cases hend : k + 1 < s.size
                · have h47 : (((s[k]'hp).toNat : Int) == 47) = true:=by rw [hslash];rfl
                  have h471 : (((s[k + 1]'hend).toNat : Int) == 47) = false:=by
                   rw [beq_eq_false_iff_ne]
                   intro h
                   have h2 : (s[k + 1]'hend) = 47:=UInt8.toNat_inj.1 (by show _ = 47;omega)
                   have h1:=list_at s k 1 hend
                   rw [hq,h2] at h1
                   refine hnt ⟨hslash,?_⟩
                   rw [← h1]
                   cases q <;> rfl
                  have ht : tok numO (s.data.toList.drop k) = .word 2 n 0:=by
                   rw [← hn] at hn0
                   rw [← hn,hq]
                   rw [hq] at hn0
                   simp only [tok]
                   rw [if_neg hb,if_neg hnt,if_neg hlet,if_neg hdig,if_neg hn0]
                  obtain ⟨ws2,hw2,hsc2⟩:=HI.out.1.word_inv hne ht
                  rw [List.drop_drop] at hsc2
                  have HI2 : Hid (Sc numO (s.data.toList.drop (k + n)) (k + n) ws2 Rf ∧ (acc ++ [⟨2,(s.data.toList.drop k).take n,0,k⟩]) ++ ws2 = Wf):=hid ⟨hsc2,by rw [← HI.out.2,hw2];simp⟩
                  have hn1:=tok_word hne ht
                  have HN:=hid hn
                  have HY:=hid hY
                  have hYs : Y.size = n:=by
                   rw [hY]
                   show ((s.data.toList.drop k).take n).toArray.size = n
                   rw [List.size_toArray,List.length_take]
                   omega
                  have hE : Y.toList.isEmpty = false:=by
                   rw [ByteArray.toList_eq,List.isEmpty_eq_false_iff]
                   intro h
                   have h1 : Y.size = 0:=by
                    show Y.data.toList.length = 0
                    rw [h]
                    rfl
                   omega
                  have hY1 : Y.size ≤ n:=by omega
                  have hY2 : n ≤ Y.size:=by omega
                  have hn3 : k + n ≤ s.size:=by omega
                  have hn4 : 1 ≤ n:=hn1.1
                  clear hb hnt hlet hdig ht hne hdl hq hm hw2 hsc2 hJ hn hY hn0 hn1 hYs hslash
                  go_wp2_with (go_at_call 40;with_reducible refine (blank_in HB.out _).mono ?_;rintro e' w' ⟨rfl,rfl⟩)
                  obtain ⟨wo,hwo⟩ : ∃ wo : World,wo = wr:=⟨_,rfl⟩
                  subst hwo
                  go_loop [8] (fun n => ∃ j : Nat,n = .int .i64 j ∧ k ≤ j ∧ j ≤ J) (fun n => J - (intOf n).toNat)
                  case atStart => exact ⟨k,rfl,Nat.le_refl _,by omega⟩
                  case round =>
                   obtain ⟨j,rfl,hj1,hj2⟩:=hrel
                   by_cases hj : j < J
                   · have hjs : j < s.size:=by omega
                     have hpt:=HP.out.1 j hjs hj1 hj
                     cases hl : isLetter (s[j]'hjs)
                     · have HL1:=hid hl
                       have HD1 : Hid (isDigit (s[j]'hjs) = true):=hid (by unfold isPart at hpt;rw [hl] at hpt;simpa using hpt)
                       clear hl hpt
                       go_wp2_with (first | (go_at_call 41;with_reducible refine (rletter_is HL1.out _).mono ?_;rintro e' w' ⟨rfl,rfl⟩) | (go_at_call 42;with_reducible refine (rdigit_is HD1.out _).mono ?_;rintro e' w' ⟨rfl,rfl⟩))
                       go_round
                       case rel => exact ⟨j + 1,by go_num,by omega,by omega⟩
                       case measure => simp [intOf];omega
                     · have HL1:=hid hl
                       clear hl hpt
                       go_wp2_with (first | (go_at_call 41;with_reducible refine (rletter_is HL1.out _).mono ?_;rintro e' w' ⟨rfl,rfl⟩))
                       go_round
                       case rel => exact ⟨j + 1,by go_num,by omega,by omega⟩
                       case measure => simp [intOf];omega
                   · obtain rfl : j = J:=by omega
                     by_cases hje : j < s.size
                     · have hpt:=HP.out.2 hje
                       have HL1 : Hid (isLetter (s[j]'hje) = false):=hid (by unfold isPart at hpt;simp at hpt;exact hpt.1)
                       have HD1 : Hid (isDigit (s[j]'hje) = false):=hid (by unfold isPart at hpt;simp at hpt;exact hpt.2)
                       clear hpt
                       go_wp2_with (first | (go_at_call 41;with_reducible refine (rletter_is HL1.out _).mono ?_;rintro e' w' ⟨rfl,rfl⟩) | (go_at_call 42;with_reducible refine (rdigit_is HD1.out _).mono ?_;rintro e' w' ⟨rfl,rfl⟩) | (go_at_call 41;with_reducible refine (rletter_is HL.out _).mono ?_;rintro e' w' ⟨rfl,rfl⟩) | (go_at_call 42;with_reducible refine (rdigit_is HD.out _).mono ?_;rintro e' w' ⟨rfl,rfl⟩) | (go_at_call 44;with_reducible refine (rsign_at s Y k n hp hs HN.out HY.out _).mono ?_;rintro e' w1 ⟨rfl,hb1⟩;obtain ⟨hc1,hf1⟩:=bcell hb1;have hbw1:=hbw.trans ((below_after hb1).mono hbw.size);have hne:=own_ne_new hown;have hzz : wo.heap.size < w1.heap.size:=by have:=hb1.size;simp at this;omega) | (at_builtin;go_must (refine wpList_append_own _ rfl (.tmp 117) (.tmp 119) 72 rfl w.heap.size 82 i0 _ 4 40 Try.underlying72 hi hz0 hz1 hz2 rfl (by decide) _ _ _ rfl ((own_set (own_set (own_below (hown.alloc _) hb1) hne _ _) hne _ _).alloc _) ⟨_,0,none⟩ 1 1 [.int .i64 2,.string Y,.int .i64 0,.int .i64 k] rfl rfl (cell_four_at _ _ _ _ _ _ _ (by simp)) (four_one _ _ _ _) (by unfold maxLen;omega) (by omega) (by have:=hbw.size;simp;omega) ?_;intro v4 w4 hown4 hgrow4 _)))
                       go_roundw
                       case rel =>
                        refine ⟨k + n,acc ++ [⟨2,(s.data.toList.drop k).take n,0,k⟩],ws2,?_,by omega,?_,?_,?_,HI2⟩
                        · rw [show Y.size = n by omega]
                          go_num
                        · rw [cellsW_snoc,List.length_append]
                          have e : wcells ⟨2,(s.data.toList.drop k).take n,0,k⟩ = [.int .i64 2,.string Y,.int .i64 0,.int .i64 k]:=by rw [HY.out];rfl
                          rw [e]
                          exact hown4
                        · exact ((below_two hbw1 hbw.size _ _).alloc (by have:=hbw1.size;simp;omega) _).grown hgrow4 (by have:=hbw1.size;simp;omega) (fun j hj => (hown.lt j hj).1)
                        · rw [List.length_append]
                          show acc.length + 1 ≤ _
                          omega
                       case measure => simp [intOf];omega
                     · go_wp2_with (first | (go_at_call 41;with_reducible refine (rletter_is HL.out _).mono ?_;rintro e' w' ⟨rfl,rfl⟩) | (go_at_call 42;with_reducible refine (rdigit_is HD.out _).mono ?_;rintro e' w' ⟨rfl,rfl⟩) | (go_at_call 44;with_reducible refine (rsign_at s Y k n hp hs HN.out HY.out _).mono ?_;rintro e' w1 ⟨rfl,hb1⟩;obtain ⟨hc1,hf1⟩:=bcell hb1;have hbw1:=hbw.trans ((below_after hb1).mono hbw.size);have hne:=own_ne_new hown;have hzz : wo.heap.size < w1.heap.size:=by have:=hb1.size;simp at this;omega) | (at_builtin;go_must (refine wpList_append_own _ rfl (.tmp 117) (.tmp 119) 72 rfl w.heap.size 82 i0 _ 4 40 Try.underlying72 hi hz0 hz1 hz2 rfl (by decide) _ _ _ rfl ((own_set (own_set (own_below (hown.alloc _) hb1) hne _ _) hne _ _).alloc _) ⟨_,0,none⟩ 1 1 [.int .i64 2,.string Y,.int .i64 0,.int .i64 k] rfl rfl (cell_four_at _ _ _ _ _ _ _ (by simp)) (four_one _ _ _ _) (by unfold maxLen;omega) (by omega) (by have:=hbw.size;simp;omega) ?_;intro v4 w4 hown4 hgrow4 _)))
                       go_roundw
                       case rel =>
                        refine ⟨k + n,acc ++ [⟨2,(s.data.toList.drop k).take n,0,k⟩],ws2,?_,by omega,?_,?_,?_,HI2⟩
                        · rw [show Y.size = n by omega]
                          go_num
                        · rw [cellsW_snoc,List.length_append]
                          have e : wcells ⟨2,(s.data.toList.drop k).take n,0,k⟩ = [.int .i64 2,.string Y,.int .i64 0,.int .i64 k]:=by rw [HY.out];rfl
                          rw [e]
                          exact hown4
                        · exact ((below_two hbw1 hbw.size _ _).alloc (by have:=hbw1.size;simp;omega) _).grown hgrow4 (by have:=hbw1.size;simp;omega) (fun j hj => (hown.lt j hj).1)
                        · rw [List.length_append]
                          show acc.length + 1 ≤ _
                          omega
                       case measure => simp [intOf];omega
                · have h47 : (((s[k]'hp).toNat : Int) == 47) = true:=by rw [hslash];rfl
                  have ht : tok numO (s.data.toList.drop k) = .word 2 n 0:=by
                   rw [← hn] at hn0
                   rw [← hn,hq]
                   rw [hq] at hn0
                   simp only [tok]
                   rw [if_neg hb,if_neg hnt,if_neg hlet,if_neg hdig,if_neg hn0]
                  obtain ⟨ws2,hw2,hsc2⟩:=HI.out.1.word_inv hne ht
                  rw [List.drop_drop] at hsc2
                  have HI2 : Hid (Sc numO (s.data.toList.drop (k + n)) (k + n) ws2 Rf ∧ (acc ++ [⟨2,(s.data.toList.drop k).take n,0,k⟩]) ++ ws2 = Wf):=hid ⟨hsc2,by rw [← HI.out.2,hw2];simp⟩
                  have hn1:=tok_word hne ht
                  have HN:=hid hn
                  have HY:=hid hY
                  have hYs : Y.size = n:=by
                   rw [hY]
                   show ((s.data.toList.drop k).take n).toArray.size = n
                   rw [List.size_toArray,List.length_take]
                   omega
                  have hE : Y.toList.isEmpty = false:=by
                   rw [ByteArray.toList_eq,List.isEmpty_eq_false_iff]
                   intro h
                   have h1 : Y.size = 0:=by
                    show Y.data.toList.length = 0
                    rw [h]
                    rfl
                   omega
                  have hY1 : Y.size ≤ n:=by omega
                  have hY2 : n ≤ Y.size:=by omega
                  have hn3 : k + n ≤ s.size:=by omega
                  have hn4 : 1 ≤ n:=hn1.1
                  clear hb hnt hlet hdig ht hne hdl hq hm hw2 hsc2 hJ hn hY hn0 hn1 hYs hslash
                  go_wp2_with (go_at_call 40;with_reducible refine (blank_in HB.out _).mono ?_;rintro e' w' ⟨rfl,rfl⟩)
                  obtain ⟨wo,hwo⟩ : ∃ wo : World,wo = wr:=⟨_,rfl⟩
                  subst hwo
                  go_loop [8] (fun n => ∃ j : Nat,n = .int .i64 j ∧ k ≤ j ∧ j ≤ J) (fun n => J - (intOf n).toNat)
                  case atStart => exact ⟨k,rfl,Nat.le_refl _,by omega⟩
                  case round =>
                   obtain ⟨j,rfl,hj1,hj2⟩:=hrel
                   by_cases hj : j < J
                   · have hjs : j < s.size:=by omega
                     have hpt:=HP.out.1 j hjs hj1 hj
                     cases hl : isLetter (s[j]'hjs)
                     · have HL1:=hid hl
                       have HD1 : Hid (isDigit (s[j]'hjs) = true):=hid (by unfold isPart at hpt;rw [hl] at hpt;simpa using hpt)
                       clear hl hpt
                       go_wp2_with (first | (go_at_call 41;with_reducible refine (rletter_is HL1.out _).mono ?_;rintro e' w' ⟨rfl,rfl⟩) | (go_at_call 42;with_reducible refine (rdigit_is HD1.out _).mono ?_;rintro e' w' ⟨rfl,rfl⟩))
                       go_round
                       case rel => exact ⟨j + 1,by go_num,by omega,by omega⟩
                       case measure => simp [intOf];omega
                     · have HL1:=hid hl
                       clear hl hpt
                       go_wp2_with (first | (go_at_call 41;with_reducible refine (rletter_is HL1.out _).mono ?_;rintro e' w' ⟨rfl,rfl⟩))
                       go_round
                       case rel => exact ⟨j + 1,by go_num,by omega,by omega⟩
                       case measure => simp [intOf];omega
                   · obtain rfl : j = J:=by omega
                     by_cases hje : j < s.size
                     · have hpt:=HP.out.2 hje
                       have HL1 : Hid (isLetter (s[j]'hje) = false):=hid (by unfold isPart at hpt;simp at hpt;exact hpt.1)
                       have HD1 : Hid (isDigit (s[j]'hje) = false):=hid (by unfold isPart at hpt;simp at hpt;exact hpt.2)
                       clear hpt
                       go_wp2_with (first | (go_at_call 41;with_reducible refine (rletter_is HL1.out _).mono ?_;rintro e' w' ⟨rfl,rfl⟩) | (go_at_call 42;with_reducible refine (rdigit_is HD1.out _).mono ?_;rintro e' w' ⟨rfl,rfl⟩) | (go_at_call 41;with_reducible refine (rletter_is HL.out _).mono ?_;rintro e' w' ⟨rfl,rfl⟩) | (go_at_call 42;with_reducible refine (rdigit_is HD.out _).mono ?_;rintro e' w' ⟨rfl,rfl⟩) | (go_at_call 44;with_reducible refine (rsign_at s Y k n hp hs HN.out HY.out _).mono ?_;rintro e' w1 ⟨rfl,hb1⟩;obtain ⟨hc1,hf1⟩:=bcell hb1;have hbw1:=hbw.trans ((below_after hb1).mono hbw.size);have hne:=own_ne_new hown;have hzz : wo.heap.size < w1.heap.size:=by have:=hb1.size;simp at this;omega) | (at_builtin;go_must (refine wpList_append_own _ rfl (.tmp 117) (.tmp 119) 72 rfl w.heap.size 82 i0 _ 4 40 Try.underlying72 hi hz0 hz1 hz2 rfl (by decide) _ _ _ rfl ((own_set (own_set (own_below (hown.alloc _) hb1) hne _ _) hne _ _).alloc _) ⟨_,0,none⟩ 1 1 [.int .i64 2,.string Y,.int .i64 0,.int .i64 k] rfl rfl (cell_four_at _ _ _ _ _ _ _ (by simp)) (four_one _ _ _ _) (by unfold maxLen;omega) (by omega) (by have:=hbw.size;simp;omega) ?_;intro v4 w4 hown4 hgrow4 _)))
                       go_roundw
                       case rel =>
                        refine ⟨k + n,acc ++ [⟨2,(s.data.toList.drop k).take n,0,k⟩],ws2,?_,by omega,?_,?_,?_,HI2⟩
                        · rw [show Y.size = n by omega]
                          go_num
                        · rw [cellsW_snoc,List.length_append]
                          have e : wcells ⟨2,(s.data.toList.drop k).take n,0,k⟩ = [.int .i64 2,.string Y,.int .i64 0,.int .i64 k]:=by rw [HY.out];rfl
                          rw [e]
                          exact hown4
                        · exact ((below_two hbw1 hbw.size _ _).alloc (by have:=hbw1.size;simp;omega) _).grown hgrow4 (by have:=hbw1.size;simp;omega) (fun j hj => (hown.lt j hj).1)
                        · rw [List.length_append]
                          show acc.length + 1 ≤ _
                          omega
                       case measure => simp [intOf];omega
                     · go_wp2_with (first | (go_at_call 41;with_reducible refine (rletter_is HL.out _).mono ?_;rintro e' w' ⟨rfl,rfl⟩) | (go_at_call 42;with_reducible refine (rdigit_is HD.out _).mono ?_;rintro e' w' ⟨rfl,rfl⟩) | (go_at_call 44;with_reducible refine (rsign_at s Y k n hp hs HN.out HY.out _).mono ?_;rintro e' w1 ⟨rfl,hb1⟩;obtain ⟨hc1,hf1⟩:=bcell hb1;have hbw1:=hbw.trans ((below_after hb1).mono hbw.size);have hne:=own_ne_new hown;have hzz : wo.heap.size < w1.heap.size:=by have:=hb1.size;simp at this;omega) | (at_builtin;go_must (refine wpList_append_own _ rfl (.tmp 117) (.tmp 119) 72 rfl w.heap.size 82 i0 _ 4 40 Try.underlying72 hi hz0 hz1 hz2 rfl (by decide) _ _ _ rfl ((own_set (own_set (own_below (hown.alloc _) hb1) hne _ _) hne _ _).alloc _) ⟨_,0,none⟩ 1 1 [.int .i64 2,.string Y,.int .i64 0,.int .i64 k] rfl rfl (cell_four_at _ _ _ _ _ _ _ (by simp)) (four_one _ _ _ _) (by unfold maxLen;omega) (by omega) (by have:=hbw.size;simp;omega) ?_;intro v4 w4 hown4 hgrow4 _)))
                       go_roundw
                       case rel =>
                        refine ⟨k + n,acc ++ [⟨2,(s.data.toList.drop k).take n,0,k⟩],ws2,?_,by omega,?_,?_,?_,HI2⟩
                        · rw [show Y.size = n by omega]
                          go_num
                        · rw [cellsW_snoc,List.length_append]
                          have e : wcells ⟨2,(s.data.toList.drop k).take n,0,k⟩ = [.int .i64 2,.string Y,.int .i64 0,.int .i64 k]:=by rw [HY.out];rfl
                          rw [e]
                          exact hown4
                        · exact ((below_two hbw1 hbw.size _ _).alloc (by have:=hbw1.size;simp;omega) _).grown hgrow4 (by have:=hbw1.size;simp;omega) (fun j hj => (hown.lt j hj).1)
                        · rw [List.length_append]
                          show acc.length + 1 ≤ _
                          omega
                       case measure => simp [intOf];omega
              · have h47 : (((s[k]'hp).toNat : Int) == 47) = false:=by
                 rw [beq_eq_false_iff_ne]
                 intro h
                 exact hslash (UInt8.toNat_inj.1 (by show _ = 47;omega))
                have ht : tok numO (s.data.toList.drop k) = .word 2 n 0:=by
                 rw [← hn] at hn0
                 rw [← hn,hq]
                 rw [hq] at hn0
                 simp only [tok]
                 rw [if_neg hb,if_neg hnt,if_neg hlet,if_neg hdig,if_neg hn0]
                obtain ⟨ws2,hw2,hsc2⟩:=HI.out.1.word_inv hne ht
                rw [List.drop_drop] at hsc2
                have HI2 : Hid (Sc numO (s.data.toList.drop (k + n)) (k + n) ws2 Rf ∧ (acc ++ [⟨2,(s.data.toList.drop k).take n,0,k⟩]) ++ ws2 = Wf):=hid ⟨hsc2,by rw [← HI.out.2,hw2];simp⟩
                have hn1:=tok_word hne ht
                have HN:=hid hn
                have HY:=hid hY
                have hYs : Y.size = n:=by
                 rw [hY]
                 show ((s.data.toList.drop k).take n).toArray.size = n
                 rw [List.size_toArray,List.length_take]
                 omega
                have hE : Y.toList.isEmpty = false:=by
                 rw [ByteArray.toList_eq,List.isEmpty_eq_false_iff]
                 intro h
                 have h1 : Y.size = 0:=by
                  show Y.data.toList.length = 0
                  rw [h]
                  rfl
                 omega
                have hY1 : Y.size ≤ n:=by omega
                have hY2 : n ≤ Y.size:=by omega
                have hn3 : k + n ≤ s.size:=by omega
                have hn4 : 1 ≤ n:=hn1.1
                clear hb hnt hlet hdig ht hne hdl hq hm hw2 hsc2 hJ hn hY hn0 hn1 hYs hslash
                go_wp2_with (go_at_call 40;with_reducible refine (blank_in HB.out _).mono ?_;rintro e' w' ⟨rfl,rfl⟩)
                obtain ⟨wo,hwo⟩ : ∃ wo : World,wo = wr:=⟨_,rfl⟩
                subst hwo
                go_loop [8] (fun n => ∃ j : Nat,n = .int .i64 j ∧ k ≤ j ∧ j ≤ J) (fun n => J - (intOf n).toNat)
                case atStart => exact ⟨k,rfl,Nat.le_refl _,by omega⟩
                case round =>
                 obtain ⟨j,rfl,hj1,hj2⟩:=hrel
                 by_cases hj : j < J
                 · have hjs : j < s.size:=by omega
                   have hpt:=HP.out.1 j hjs hj1 hj
                   cases hl : isLetter (s[j]'hjs)
                   · have HL1:=hid hl
                     have HD1 : Hid (isDigit (s[j]'hjs) = true):=hid (by unfold isPart at hpt;rw [hl] at hpt;simpa using hpt)
                     clear hl hpt
                     go_wp2_with (first | (go_at_call 41;with_reducible refine (rletter_is HL1.out _).mono ?_;rintro e' w' ⟨rfl,rfl⟩) | (go_at_call 42;with_reducible refine (rdigit_is HD1.out _).mono ?_;rintro e' w' ⟨rfl,rfl⟩))
                     go_round
                     case rel => exact ⟨j + 1,by go_num,by omega,by omega⟩
                     case measure => simp [intOf];omega
                   · have HL1:=hid hl
                     clear hl hpt
                     go_wp2_with (first | (go_at_call 41;with_reducible refine (rletter_is HL1.out _).mono ?_;rintro e' w' ⟨rfl,rfl⟩))
                     go_round
                     case rel => exact ⟨j + 1,by go_num,by omega,by omega⟩
                     case measure => simp [intOf];omega
                 · obtain rfl : j = J:=by omega
                   by_cases hje : j < s.size
                   · have hpt:=HP.out.2 hje
                     have HL1 : Hid (isLetter (s[j]'hje) = false):=hid (by unfold isPart at hpt;simp at hpt;exact hpt.1)
                     have HD1 : Hid (isDigit (s[j]'hje) = false):=hid (by unfold isPart at hpt;simp at hpt;exact hpt.2)
                     clear hpt
                     go_wp2_with (first | (go_at_call 41;with_reducible refine (rletter_is HL1.out _).mono ?_;rintro e' w' ⟨rfl,rfl⟩) | (go_at_call 42;with_reducible refine (rdigit_is HD1.out _).mono ?_;rintro e' w' ⟨rfl,rfl⟩) | (go_at_call 41;with_reducible refine (rletter_is HL.out _).mono ?_;rintro e' w' ⟨rfl,rfl⟩) | (go_at_call 42;with_reducible refine (rdigit_is HD.out _).mono ?_;rintro e' w' ⟨rfl,rfl⟩) | (go_at_call 44;with_reducible refine (rsign_at s Y k n hp hs HN.out HY.out _).mono ?_;rintro e' w1 ⟨rfl,hb1⟩;obtain ⟨hc1,hf1⟩:=bcell hb1;have hbw1:=hbw.trans ((below_after hb1).mono hbw.size);have hne:=own_ne_new hown;have hzz : wo.heap.size < w1.heap.size:=by have:=hb1.size;simp at this;omega) | (at_builtin;go_must (refine wpList_append_own _ rfl (.tmp 117) (.tmp 119) 72 rfl w.heap.size 82 i0 _ 4 40 Try.underlying72 hi hz0 hz1 hz2 rfl (by decide) _ _ _ rfl ((own_set (own_set (own_below (hown.alloc _) hb1) hne _ _) hne _ _).alloc _) ⟨_,0,none⟩ 1 1 [.int .i64 2,.string Y,.int .i64 0,.int .i64 k] rfl rfl (cell_four_at _ _ _ _ _ _ _ (by simp)) (four_one _ _ _ _) (by unfold maxLen;omega) (by omega) (by have:=hbw.size;simp;omega) ?_;intro v4 w4 hown4 hgrow4 _)))
                     go_roundw
                     case rel =>
                      refine ⟨k + n,acc ++ [⟨2,(s.data.toList.drop k).take n,0,k⟩],ws2,?_,by omega,?_,?_,?_,HI2⟩
                      · rw [show Y.size = n by omega]
                        go_num
                      · rw [cellsW_snoc,List.length_append]
                        have e : wcells ⟨2,(s.data.toList.drop k).take n,0,k⟩ = [.int .i64 2,.string Y,.int .i64 0,.int .i64 k]:=by rw [HY.out];rfl
                        rw [e]
                        exact hown4
                      · exact ((below_two hbw1 hbw.size _ _).alloc (by have:=hbw1.size;simp;omega) _).grown hgrow4 (by have:=hbw1.size;simp;omega) (fun j hj => (hown.lt j hj).1)
                      · rw [List.length_append]
                        show acc.length + 1 ≤ _
                        omega
                     case measure => simp [intOf];omega
                   · go_wp2_with (first | (go_at_call 41;with_reducible refine (rletter_is HL.out _).mono ?_;rintro e' w' ⟨rfl,rfl⟩) | (go_at_call 42;with_reducible refine (rdigit_is HD.out _).mono ?_;rintro e' w' ⟨rfl,rfl⟩) | (go_at_call 44;with_reducible refine (rsign_at s Y k n hp hs HN.out HY.out _).mono ?_;rintro e' w1 ⟨rfl,hb1⟩;obtain ⟨hc1,hf1⟩:=bcell hb1;have hbw1:=hbw.trans ((below_after hb1).mono hbw.size);have hne:=own_ne_new hown;have hzz : wo.heap.size < w1.heap.size:=by have:=hb1.size;simp at this;omega) | (at_builtin;go_must (refine wpList_append_own _ rfl (.tmp 117) (.tmp 119) 72 rfl w.heap.size 82 i0 _ 4 40 Try.underlying72 hi hz0 hz1 hz2 rfl (by decide) _ _ _ rfl ((own_set (own_set (own_below (hown.alloc _) hb1) hne _ _) hne _ _).alloc _) ⟨_,0,none⟩ 1 1 [.int .i64 2,.string Y,.int .i64 0,.int .i64 k] rfl rfl (cell_four_at _ _ _ _ _ _ _ (by simp)) (four_one _ _ _ _) (by unfold maxLen;omega) (by omega) (by have:=hbw.size;simp;omega) ?_;intro v4 w4 hown4 hgrow4 _)))
                     go_roundw
                     case rel =>
                      refine ⟨k + n,acc ++ [⟨2,(s.data.toList.drop k).take n,0,k⟩],ws2,?_,by omega,?_,?_,?_,HI2⟩
                      · rw [show Y.size = n by omega]
                        go_num
                      · rw [cellsW_snoc,List.length_append]
                        have e : wcells ⟨2,(s.data.toList.drop k).take n,0,k⟩ = [.int .i64 2,.string Y,.int .i64 0,.int .i64 k]:=by rw [HY.out];rfl
                        rw [e]
                        exact hown4
                      · exact ((below_two hbw1 hbw.size _ _).alloc (by have:=hbw1.size;simp;omega) _).grown hgrow4 (by have:=hbw1.size;simp;omega) (fun j hj => (hown.lt j hj).1)
                      · rw [List.length_append]
                        show acc.length + 1 ≤ _
                        omega
                     case measure => simp [intOf];omega
  · have HE : Hid ((∃ ws',ws' = ws ∧ ws = [⟨3,[],0,s.size⟩]) ∧ Rf = none):=by
     have h1:=HI.out.1
     rw [show s.data.toList.drop k = [] from List.drop_eq_nil_of_le (by show s.size ≤ k;omega)] at h1
     obtain ⟨e1,e2⟩:=h1.nil_inv
     exact hid ⟨⟨ws,rfl,by rw [e1,show k = s.size by omega]⟩,e2⟩
    go_wp2_with (first
     | (at_builtin;go_must (refine wpList_append_own _ rfl (.tmp 122) (.tmp 126) 72 rfl w.heap.size 82 i0 _ 4 40 Try.underlying72 hi hz0 hz1 hz2 rfl (by decide) _ _ _ rfl (hown.alloc _) ⟨_,0,none⟩ 1 1 [.int .i64 3,.string ⟨#[]⟩,.int .i64 0,.int .i64 s.size] rfl rfl (cell_four_at _ _ _ _ _ _ _ (by simp)) (four_one _ _ _ _) (by unfold maxLen;omega) (by omega) (by have:=hbw.size;simp;omega) ?_;intro v4 w4 hown4 hgrow4 _)))
    go_ret3
    refine ⟨?_,(hbw.alloc hbw.size _).grown hgrow4 (by have:=hbw.size;simp;omega) (fun j hj => (hown.lt j hj).1)⟩
    obtain ⟨⟨ws',_,e1⟩,e2⟩:=HE.out
    have e3:=HI.out.2
    rw [e1] at e3
    rw [e2,← e3]
    refine ⟨_,rfl,?_⟩
    rw [cellsW_snoc,List.length_append]
    exact hown4
def OkEnd (T : TypeId) (B : Nat) (W : List Wd) (e : Ending) (w' : World) : Prop :=
 ∃ g cap,e = .returned (.tuple #[.slice (some ⟨g,0,none⟩) W.length cap,.int .i64 0,.int .i64 0]) ∧ w'.ownsRow B T 4 (.slice (some ⟨g,0,none⟩) W.length cap) W.length (cellsW W)
theorem rwords_ok (s : ByteArray) (w : World) (hs : s.size ≤ 16384) (W : List Wd) (hS : Hid (Sc numO s.data.toList 0 W none)) :
 Calls Try.prog 22 #[.string s] w fun e w' => OkEnd 82 w.heap.size W e w' ∧ Below w.heap.size w w' :=
 (rwords_any s w hs W none hS).mono fun e w' ⟨h1,h2⟩ => by
  obtain ⟨v,e1,e2⟩:=h1
  obtain ⟨g,cap,e3,_⟩:=e2.form (hS.out.some_words rfl)
  subst e3
  exact ⟨⟨g,cap,e1,e2⟩,h2⟩
theorem rwords_err (s : ByteArray) (w : World) (hs : s.size ≤ 16384) (W : List Wd) (e0 : Int) (a0 : Nat) (hS : Hid (Sc numO s.data.toList 0 W (some (e0,a0)))) :
 Calls Try.prog 22 #[.string s] w fun e w' => e = .returned (.tuple #[.slice none 0 0,.int .i64 e0,.int .i64 a0]) ∧ Below w.heap.size w w' :=
 rwords_any s w hs W _ hS
end Go.Proofs.Ytbmmjomcjlpnlaa
namespace Go.Proofs.Ytbmmjomcjlpnlaa
open Go Go.RowKit
theorem own_wcellsR {w : World} {B g cap n : Nat} {Wf : List Wd} (h : w.ownsRow B 82 4 (.slice (some ⟨g,0,none⟩) n cap) Wf.length (cellsW Wf)) : WCells w g Wf ∧ B ≤ g ∧ n = Wf.length:=by
 rcases h.2 with ⟨h1,_⟩ | ⟨g',cap',cur,hv,hB,hg,rest⟩
 · cases h1
 · cases hv
   exact ⟨⟨(Array.getElem?_eq_some_iff.1 hg).1,fun i x hx => row_at h hx⟩,hB,rfl⟩
theorem Sc.kok {num : List UInt8 → Option Int} {l : List UInt8} {a : Nat} {ws : List Wd} {r : Option (Int × Nat)} (h : Sc num l a ws r) : ∀ w ∈ ws,KOk w:=by
 induction h with
 | done a => intro w hw;simp at hw;subst hw;exact ⟨fun h => absurd (show (3 : Int) = 0 from h) (by decide),fun h => absurd (show (3 : Int) = 2 from h) (by decide)⟩
 | bad => intro w hw;simp at hw
 | gap _ _ _ _ _ _ _ _ ih => exact ih
 | word l a n k v ws r hl ht hs ih =>
  intro w hw
  rcases List.mem_cons.1 hw with rfl | hw
  · have hn:=tok_word hl ht
    obtain ⟨c,q,rfl⟩:=List.exists_cons_of_ne_nil hl
    obtain ⟨m,rfl⟩ : ∃ m,n = m + 1:=⟨n - 1,by omega⟩
    refine ⟨fun hk => ⟨c,q.take m,rfl,?_⟩,fun hk => ⟨c,q.take m,rfl,?_⟩⟩
    · obtain rfl : k = 0:=hk
      simp only [tok] at ht
      repeat' split at ht
      all_goals first
       | assumption
       | (cases ht;done)
    · obtain rfl : k = 2:=hk
      simp only [tok] at ht
      repeat' split at ht
      all_goals first
       | (rename_i h1 h2 h3 h4 h5;simpa using h3)
       | (cases ht;done)
       | simp_all
  · exact ih w hw
noncomputable def parF (ws : List Wd) : Pg × RS:=wholeF (3 * ws.length + 2) (ws.length + 1) ⟨[],[],[],[]⟩ (.ok ws)
def ParEnd (B : Nat) (q : Pg × RS) (e : Ending) (w' : World) : Prop:=∃ v0 v1 v2 v3 c a,e = .returned (.tuple #[.agg #[v0,v1,v2,v3],.int .i64 c,.int .i64 a]) ∧
 (∀ t,q.2 = .ok t → c = 0 ∧ a = 0 ∧ ∃ rf rt,PRows B w' q.1 v0 v1 v2 v3 rf rt) ∧ (∀ c' a',q.2 = .bad c' a' → c = c' ∧ a = (a' : Int) ∧ c ≠ 0 ∧ v0 = .slice none 0 0 ∧ v1 = .slice none 0 0 ∧ v2 = .slice none 0 0 ∧ v3 = .slice none 0 0)
def PgBlk (X : World) (n : Nat) (p0 p1 p2 p3 : Value) : Prop:=X.heap[n]? = some (.cells #[p0,p1,p2,p3] 29 (0,0))
section
variable {X Y : World} {n : Nat} {p0 p1 p2 p3 : Value}
theorem PgBlk.facts (h : PgBlk X n p0 p1 p2 p3) : n < X.heap.size ∧ (X.cell? ⟨n,0,none⟩ = some p0 ∧ X.cell? ⟨n,1,none⟩ = some p1 ∧ X.cell? ⟨n,2,none⟩ = some p2 ∧ X.cell? ⟨n,3,none⟩ = some p3) ∧ (X.frozen? ⟨n,0,none⟩ = false ∧ X.frozen? ⟨n,1,none⟩ = false ∧ X.frozen? ⟨n,2,none⟩ = false ∧ X.frozen? ⟨n,3,none⟩ = false):=by
 refine ⟨(Array.getElem?_eq_some_iff.1 h).1,⟨?_,?_,?_,?_⟩,frozen_of_row X n _ _ _ h,frozen_of_row X n _ _ _ h,frozen_of_row X n _ _ _ h,frozen_of_row X n _ _ _ h⟩ <;> rw [cell_of_row _ _ _ _ _ _ h] <;> rfl
theorem PgBlk.new (hn : n = X.heap.size) : PgBlk (X.alloc (.cells #[p0,p1,p2,p3] 29)) n p0 p1 p2 p3:=hn ▸ heap_alloc_new X _
theorem PgBlk.of (h : PgBlk X n p0 p1 p2 p3) (hf : Y.heap[n]? = X.heap[n]?) : PgBlk Y n p0 p1 p2 p3:=hf.trans h
theorem PgBlk.all (h : PgBlk X n p0 p1 p2 p3) (q0 q1 q2 q3 : Value) : PgBlk ((((X.setCell ⟨n,0,none⟩ q0).setCell ⟨n,1,none⟩ q1).setCell ⟨n,2,none⟩ q2).setCell ⟨n,3,none⟩ q3) n q0 q1 q2 q3 :=
 heap_setCell_same _ n 3 _ _ _ (heap_setCell_same _ n 2 _ _ _ (heap_setCell_same _ n 1 _ _ _ (heap_setCell_same X n 0 _ _ _ h)))
theorem results_pg {fn : Func} {p q r : Tmp} (hfn : fn.results = #[.cell p 29,.tmp q,.tmp r]) (tmps : Array Value) (u u' : Value) (hp : tmps.getD p undef = .pointer (some ⟨n,0,none⟩)) (hq : tmps.getD q undef = u) (hr : tmps.getD r undef = u') (h : PgBlk X n p0 p1 p2 p3) :
 (results fn tmps).run Try.prog X = .ok (.tuple #[.agg #[p0,p1,p2,p3],u,u']) X:=by
 have hp' : tmps[p]?.getD undef = .pointer (some ⟨n,0,none⟩):=by simpa using hp
 have hq' : tmps[q]?.getD undef = u:=by simpa using hq
 have hr' : tmps[r]?.getD undef = u':=by simpa using hr
 simp [results,hfn,hp',hq',hr',asAddr,run_loadVar_row X n 29 29 _ (0,0) _ h Try.underlying29 rfl (by kernel_rfl)]
end
theorem PRows.stay {B : Nat} {W X : World} {p : Pg} {v0 v1 v2 v3 : Value} {rf : List (Fn × FV)} {rt : List (List Stm × Value)} (R : PRows B W p v0 v1 v2 v3 rf rt) (hb : Below W.heap.size W X) : PRows B X p v0 v1 v2 v3 rf rt:=by
 have hk : KeptT B W X:=⟨hb.size,fun g _ _ _ _ hg _ => hb.block g (Array.getElem?_eq_some_iff.1 hg).1⟩
 exact ⟨own_below R.g hb,own_below R.l hb,own_below R.f hb,own_below R.t hb,R.ef,R.et,fun q hq => (R.xf q hq).keptT hk,fun q hq => (R.xt q hq).keptT hk⟩
theorem own_keptB {B T k n : Nat} {W X : World} {v : Value} {xs : List Value} (h : W.ownsRow B T k v n xs) (hk : ∀ g,B ≤ g → g < W.heap.size → X.heap[g]? = W.heap[g]?) : X.ownsRow B T k v n xs:=by
 refine ⟨h.1,?_⟩
 rcases h.2 with h0 | ⟨g,cap,cur,rfl,hb,hg,rest⟩
 · exact .inl h0
 · exact .inr ⟨g,cap,cur,rfl,hb,(hk g hb (Array.getElem?_eq_some_iff.1 hg).1).trans hg,rest⟩
theorem own_lower {B B' T k n : Nat} {W : World} {v : Value} {xs : List Value} (h : W.ownsRow B T k v n xs) (hl : B' ≤ B) : W.ownsRow B' T k v n xs:=by
 refine ⟨h.1,?_⟩
 rcases h.2 with h0 | ⟨g,cap,cur,rfl,hb,rest⟩
 · exact .inl h0
 · exact .inr ⟨g,cap,cur,rfl,Nat.le_trans hl hb,rest⟩
theorem PRows.keptB {B : Nat} {W X : World} {p : Pg} {v0 v1 v2 v3 : Value} {rf : List (Fn × FV)} {rt : List (List Stm × Value)} (R : PRows B W p v0 v1 v2 v3 rf rt) (hk : ∀ g,B ≤ g → g < W.heap.size → X.heap[g]? = W.heap[g]?) (hs : W.heap.size ≤ X.heap.size) : PRows B X p v0 v1 v2 v3 rf rt:=by
 have hT : KeptT B W X:=⟨hs,fun g _ _ _ hg hb _ => hk g hg (Array.getElem?_eq_some_iff.1 hb).1⟩
 exact ⟨own_keptB R.g hk,own_keptB R.l hk,own_keptB R.f hk,own_keptB R.t hk,R.ef,R.et,fun q hq => (R.xf q hq).keptT hT,fun q hq => (R.xt q hq).keptT hT⟩
theorem PRows.lower {B B' : Nat} {W : World} {p : Pg} {v0 v1 v2 v3 : Value} {rf : List (Fn × FV)} {rt : List (List Stm × Value)} (R : PRows B W p v0 v1 v2 v3 rf rt) (hl : B' ≤ B) : PRows B' W p v0 v1 v2 v3 rf rt :=
 ⟨own_lower R.g hl,own_lower R.l hl,own_lower R.f hl,own_lower R.t hl,R.ef,R.et,fun q hq => (R.xf q hq).low hl,fun q hq => (R.xt q hq).lo hl⟩
def PRel (B : Nat) (ws : List Wd) (wr : World) (σ : RS) (m : Nat) (p : Pg) (v0 v1 v2 v3 : Value) : Prop :=
 parF ws = wholeF (3 * ws.length + 2) m p σ ∧ ∀ t,σ = .ok t → (∃ rf rt,PRows B wr p v0 v1 v2 v3 rf rt) ∧ t.length < m ∧ p.gs.length + t.length ≤ ws.length ∧ p.ls.length + t.length ≤ ws.length ∧ p.fs.length + t.length ≤ ws.length ∧ p.ths.length + t.length ≤ ws.length
theorem whole_stop {n m : Nat} {p : Pg} {x : Wd} {tt : List Wd} (h : x.k = 3) : wholeF n m p (.ok (x :: tt)) = (p,.ok (x :: tt)):=by
 cases m with
 | zero => rfl
 | succ m => simp [wholeF,RS.hd,h]
theorem whole_bad {n m : Nat} {p : Pg} {c : Int} {a : Nat} : wholeF n m p (.bad c a) = (p,.bad c a):=by
 cases m with
 | zero => rfl
 | succ m => simp [wholeF,RS.good]
theorem whole_more {n m : Nat} {p : Pg} {x : Wd} {tt : List Wd} (h : x.k ≠ 3) : wholeF n (m + 1) p (.ok (x :: tt)) = wholeF n m (thingF n p (.ok (x :: tt))).1 (thingF n p (.ok (x :: tt))).2:=by
 simp [wholeF,RS.hd,RS.good,h]
theorem below_set4 {w X : World} (h : Below w.heap.size w X) (q0 q1 q2 q3 : Value) : Below w.heap.size w ((((X.setCell ⟨w.heap.size,0,none⟩ q0).setCell ⟨w.heap.size,1,none⟩ q1).setCell ⟨w.heap.size,2,none⟩ q2).setCell ⟨w.heap.size,3,none⟩ q3) :=
 (((h.setCell (p:=⟨w.heap.size,0,none⟩) (Nat.le_refl _) _).setCell (p:=⟨w.heap.size,1,none⟩) (Nat.le_refl _) _).setCell (p:=⟨w.heap.size,2,none⟩) (Nat.le_refl _) _).setCell (p:=⟨w.heap.size,3,none⟩) (Nat.le_refl _) _
theorem rfield_k (x0 x1 x2 x3 : Value) (w : World) : (Instr.field 82 (.agg #[x0,x1,x2,x3]) 0).run Try.prog w = .ok x0 w:=by
 simp [Instr.field,run_underlying Try.underlying82,part,asAgg,Try.isAgg3]
theorem r4_parse (s : ByteArray) (w : World) (hs : s.size ≤ 16384) (ws : List Wd) (hS : Hid (Sc numO s.data.toList 0 ws none)) :
 Calls Try.prog 7 #[.string s] w fun e w' => ParEnd w.heap.size (parF ws) e w' ∧ Below w.heap.size w w':=by
 have hfin : Fin ws:=hS.out.fin rfl
 have hfew : ws.length ≤ 16385:=by (have:=hS.out.few rfl;have e : s.data.toList.length = s.size:=(by simp);omega)
 have hlong : Hid (∀ x ∈ ws,x.t.length ≤ 100000):=hid fun x hx => by (have:=hS.out.short x hx;have e : s.data.toList.length = s.size:=(by simp);omega)
 have HK:=hid hS.out.kok
 have HF:=hid hfin
 clear hfin
 go_enter Try.func7,Try.ntmps7
 go_upto_region 4 with (go_at_call 22;(with_reducible refine (rwords_ok s _ hs ws hS).mono ?_);rintro e1 w1 ⟨⟨g,cap,rfl,ho1⟩,hb1⟩)
 have B1 : Hid (Below w.heap.size w w1):=hid ((((Below.refl w.heap.size w).alloc (Nat.le_refl _) _)).trans (hb1.mono (by simp)))
 have GP1 : Hid (PgBlk w1 w.heap.size (.slice none 0 0) (.slice none 0 0) (.slice none 0 0) (.slice none 0 0)):=hid ((PgBlk.new rfl).of (hb1.block _ (by simp)))
 obtain ⟨hwc,hgB,_⟩:=own_wcellsR ho1
 have hgB' : w.heap.size + 1 ≤ g:=by simpa using hgB
 have HWC:=hid hwc
 have hgl:=hwc.lt
 clear hwc hgB ho1 hb1
 obtain ⟨hgp,_⟩:=GP1.out.facts
 have hz1 : w.heap.size < w1.heap.size:=hgp
 clear hgp
 go_wp2
 refine name_world ?_
 intro W2 hW2
 have R2 : RrAt W2 w1.heap.size (.slice (some ⟨g,0,none⟩) ws.length cap) ((0 : Nat) : Int) 0 0 0:=by (rw [hW2];exact (RrAt.alloc (W:=w1.alloc _) (heap_alloc_new _ _) _))
 have hz2 : W2.heap.size = w1.heap.size + 2:=by (rw [hW2];simp)
 have BW2 : Below w1.heap.size w1 W2:=by (rw [hW2];exact ((Below.refl _ _).alloc (Nat.le_refl _) _).alloc (by simp) _)
 have S2 : Hid (A4 W2 (w1.heap.size + 1) w1.heap.size g cap ws ((0 : Nat) : Int) (.slice none 0 0) (.slice none 0 0) (.slice none 0 0) (.slice none 0 0) (.ok ws)):=hid
  ⟨by (rw [hW2];exact alloc2_new _ _ _),StR.mk_ok R2 (by simp) (List.suffix_refl _) HF.out,⟨HWC.out.kept (fun k e => BW2.block k (by rw [e];exact hgl)) BW2.size,by omega,by omega,hlong.out,HK.out⟩,by omega,by omega⟩
 have HB2:=hid BW2
 have HP2 : Hid (PRel (w1.heap.size + 2) ws W2 (.ok ws) (ws.length + 1) ⟨[],[],[],[]⟩ (.slice none 0 0) (.slice none 0 0) (.slice none 0 0) (.slice none 0 0)):=hid ⟨rfl,fun t e => by
  cases e
  exact ⟨⟨[],[],PRows.nil _ _⟩,by omega,by simp,by simp,by simp,by simp⟩⟩
 clear hW2 R2 BW2
 go_loopw [] (fun wr => ∃ σ p v0 v1 v2 v3 m,A4 wr (w1.heap.size + 1) w1.heap.size g cap ws ((0 : Nat) : Int) v0 v1 v2 v3 σ ∧ Low (w1.heap.size + 1) w1.heap.size (w1.heap.size + 2) W2 wr ∧ PRel (w1.heap.size + 2) ws wr σ m p v0 v1 v2 v3) (fun wr => msR wr w1.heap.size ws.length)
 case atStart => exact ⟨_,_,_,_,_,_,_,S2.out,⟨⟨Nat.le_refl _,rfl,rfl,rfl⟩,fun _ _ _ _ => rfl⟩,HP2.out⟩
 case round =>
  obtain ⟨σ,p,v0,v1,v2,v3,m,hS,hL,hR1,hR2⟩:=hrel
  have hPB : PgBlk wr w.heap.size (.slice none 0 0) (.slice none 0 0) (.slice none 0 0) (.slice none 0 0):=(GP1.out.of (HB2.out.block _ (by omega))).of (hL.2 _ (by omega) (by omega) (by omega))
  have hBel : Hid (∀ X,Below wr.heap.size wr X → Below w.heap.size w X):=hid fun X hX => by
   have h1:=B1.out
   have h2:=HB2.out
   refine ⟨hX.os.trans (hL.1.2.1.trans (h2.os.trans h1.os)),hX.tape.trans (hL.1.2.2.1.trans (h2.tape.trans h1.tape)),hX.output.trans (hL.1.2.2.2.trans (h2.output.trans h1.output)),by (have:=hX.size;have:=hL.1.1;omega),fun k hk => ?_⟩
   have hl:=hL.1.1
   rw [hX.block k (by omega),hL.2 k (by omega) (by omega) (by omega),h2.block k (by omega),h1.block k hk]
  have S1:=hid hS
  have HPB:=hid hPB
  have HL:=hid hL
  have HR1:=hid hR1
  have HR2:=hid hR2
  cases σ with
  | bad c a =>
   have hw2 : parF ws = (p,.bad c a):=by (rw [hR1,whole_bad])
   have HW2:=hid hw2
   clear hS hPB hL hR1 hR2 hw2
   go_upto_region 8 with (first
    | (go_at_call 23;(with_reducible refine (r4_ok S1 false rfl).mono ?_);rintro e1 x1 ⟨rfl,hb1⟩;have T1:=hid (S1.out.stay hb1))
    | (go_at_call 23;(with_reducible refine (r4_ok T1 false rfl).mono ?_);rintro e2 x2 ⟨rfl,hb2⟩;have T2:=hid (T1.out.stay hb2)))
   have hPB2 : PgBlk x2 w.heap.size (.slice none 0 0) (.slice none 0 0) (.slice none 0 0) (.slice none 0 0):=(HPB.out.of (hb1.block _ HPB.out.facts.1)).of (hb2.block _ (Nat.lt_of_lt_of_le HPB.out.facts.1 hb1.size))
   have HPB2:=hid hPB2
   obtain ⟨gpl,⟨pc0,pc1,pc2,pc3⟩,pf0,pf1,pf2,pf3⟩:=hPB2.facts
   obtain ⟨hc0,i,hi,hrr⟩ : c ≠ 0 ∧ ∃ i : Nat,i < ws.length ∧ RrAt x2 w1.heap.size (.slice (some ⟨g,0,none⟩) ws.length cap) i 0 c a:=T2.out.st
   obtain ⟨q0,q1,q2,q3,q4⟩:=hrr.cells
   have hrl:=hrr.lt
   obtain ⟨m0,m1,m2,m3,m4,m5⟩:=T2.out.at4.cells
   have ml:=T2.out.at4.lt
   have HBB:=hid (hBel.out x2 (below_dual hb1 hb2))
   have HC0:=hid hc0
   clear hPB2 hrr hb1 hb2 hc0 hi
   go_region
   all_goals go_wp2
   all_goals refine bodyPost_ret (results_pg rfl _ (.int .i64 c) (.int .i64 a) rfl rfl rfl (PgBlk.all (X:=x2) HPB2.out _ _ _ _)) rfl ⟨⟨_,_,_,_,c,(a : Int),rfl,?_,?_⟩,?_⟩
   · intro t ht
     rw [HW2.out] at ht
     cases ht
   · intro c' a' h
     rw [HW2.out] at h
     cases h
     exact ⟨rfl,rfl,HC0.out,rfl,rfl,rfl,rfl⟩
   · first | exact below_set4 HBB.out _ _ _ _ | exact below_set4 HBB.out.drew _ _ _ _ | exact below_set4 (below_drewN HBB.out _) _ _ _ _
  | ok t =>
   obtain ⟨x,tt,rfl⟩:=hS.st.2.1.ne
   have hfd:=rfield_k
   cases hx : (x.k != 3) with
   | false =>
    have hx3 : x.k = 3:=by simpa using hx
    have hw2 : parF ws = (p,.ok (x :: tt)):=by (rw [hR1,whole_stop hx3])
    obtain ⟨⟨rf,rt,hPR⟩,_⟩:=hR2 _ rfl
    obtain ⟨z0,y0,rfl⟩:=own_form hPR.g
    obtain ⟨z1,y1,rfl⟩:=own_form hPR.l
    obtain ⟨z2,y2,rfl⟩:=own_form hPR.f
    obtain ⟨z3,y3,rfl⟩:=own_form hPR.t
    have HW2:=hid hw2
    have HPR:=hid hPR
    clear hS hPB hL hR1 hR2 hw2 hPR
    go_upto_region 9 with (first
     | (go_at_call 23;(with_reducible refine (r4_ok S1 true rfl).mono ?_);rintro e1 x1 ⟨rfl,hb1⟩;have T1:=hid (S1.out.stay hb1))
     | (go_at_call 24;(with_reducible refine (r4_wordOk T1).mono ?_);rintro e2 x2 ⟨rfl,hb2⟩;have T2:=hid (T1.out.stay hb2))
     | (go_at_call 23;(with_reducible refine (r4_ok T2 true rfl).mono ?_);rintro e3 x3 ⟨rfl,hb3⟩;have T3:=hid (T2.out.stay hb3)))
    have hPB2 : PgBlk x3 w.heap.size (.slice none 0 0) (.slice none 0 0) (.slice none 0 0) (.slice none 0 0):=((HPB.out.of (hb1.block _ HPB.out.facts.1)).of (hb2.block _ (Nat.lt_of_lt_of_le HPB.out.facts.1 hb1.size))).of (hb3.block _ (Nat.lt_of_lt_of_le HPB.out.facts.1 (Nat.le_trans hb1.size hb2.size)))
    have HPB2:=hid hPB2
    obtain ⟨gpl,⟨pc0,pc1,pc2,pc3⟩,pf0,pf1,pf2,pf3⟩:=hPB2.facts
    obtain ⟨m0,m1,m2,m3,m4,m5⟩:=T3.out.at4.cells
    have ml:=T3.out.at4.lt
    have hB3:=below_dual (below_dual hb1 hb2) hb3
    have HBB:=hid (hBel.out x3 hB3)
    have HPR3:=hid (HPR.out.stay hB3)
    clear hPB2 hb1 hb2 hb3 hB3
    go_wp2
    refine bodyPost_ret (results_pg rfl _ (.int .i64 0) (.int .i64 0) rfl rfl rfl (PgBlk.all (X:=x3) HPB2.out _ _ _ _)) rfl ⟨⟨_,_,_,_,0,0,rfl,?_,?_⟩,?_⟩
    · intro t ht
      rw [HW2.out] at ht ⊢
      refine ⟨rfl,rfl,rf,rt,(HPR3.out.keptB (fun g hg hl => ?_) (by simp)).lower (by omega)⟩
      rw [heap_setCell_other _ ⟨w.heap.size,3,none⟩ g _ (by simp;omega),heap_setCell_other _ ⟨w.heap.size,2,none⟩ g _ (by simp;omega),heap_setCell_other _ ⟨w.heap.size,1,none⟩ g _ (by simp;omega),heap_setCell_other _ ⟨w.heap.size,0,none⟩ g _ (by simp;omega)]
    · intro c' a' h
      rw [HW2.out] at h
      cases h
    · exact below_set4 HBB.out _ _ _ _
   | true =>
    have hx3 : x.k ≠ 3:=by simpa using hx
    obtain ⟨⟨rf,rt,hPR⟩,hm,h1,h2,h3,h4⟩:=hR2 _ rfl
    have HPR:=hid hPR
    have HM:=hid (And.intro hm (And.intro h1 (And.intro h2 (And.intro h3 h4))))
    have HLEN : Hid ((p.gs.length ≤ 1000000 ∧ p.ls.length ≤ 1000000 ∧ p.fs.length ≤ 1000000 ∧ p.ths.length ≤ 1000000) ∧ 3 * tt.length + 2 ≤ 3 * ws.length + 2):=hid (by (simp only [List.length_cons] at h1 h2 h3 h4;refine ⟨⟨?_,?_,?_,?_⟩,?_⟩ <;> omega))
    clear hS hPB hL hR1 hR2 hPR hm h1 h2 h3 h4
    go_wp2_with (first
     | (go_at_call 23;(with_reducible refine (r4_ok S1 true rfl).mono ?_);rintro e1 x1 ⟨rfl,hb1⟩;have T1:=hid (S1.out.stay hb1))
     | (go_at_call 24;(with_reducible refine (r4_wordOk T1).mono ?_);rintro e2 x2 ⟨rfl,hb2⟩;have T2:=hid (T1.out.stay hb2);have HB12:=hid (below_dual hb1 hb2);have hsz2 : w1.heap.size + 2 ≤ x2.heap.size:=Nat.le_trans (by (have:=HL.out.1.1;omega)) HB12.out.size)
     | (go_at_call 25;(with_reducible refine (rth_any T2.out (HPR.out.stay HB12.out) ⟨by omega,by omega,by omega,hsz2⟩ HLEN.out.1 hx3 HLEN.out.2).mono ?_);rintro e3 x3 ⟨rfl,hlow3,q0,q1,q2,q3,hs3,hrow3⟩))
    refine ⟨⟨_,(thingF (3 * ws.length + 2) p (.ok (x :: tt))).1,q0,q1,q2,q3,m - 1,hs3,?_,?_,?_⟩,?_⟩
    · refine HL.out.trans (Low.trans ⟨⟨HB12.out.size,HB12.out.os,HB12.out.tape,HB12.out.output⟩,fun b hb _ _ => HB12.out.block b (by (have:=HL.out.1.1;omega))⟩ hlow3)
    · obtain ⟨m',rfl⟩ : ∃ m',m = m' + 1:=⟨m - 1,by (have:=HM.out.1;omega)⟩
      rw [HR1.out,whole_more hx3]
      rfl
    · intro t ht
      have hle:=(thing_le (3 * ws.length + 2) p (fun t e => by (cases e;exact S1.out.st.2.1)) hx3).1
      obtain ⟨g1,g2,g3,g4⟩:=thing_more (3 * ws.length + 2) p (.ok (x :: tt))
      obtain ⟨hm,h1,h2,h3,h4⟩:=HM.out
      have hlt : t.length ≤ tt.length:=by (rw [ht] at hle;exact hle)
      simp only [List.length_cons] at hm h1 h2 h3 h4
      exact ⟨hrow3 t ht,by omega,by omega,by omega,by omega,by omega⟩
    · have hle:=(thing_le (3 * ws.length + 2) p (fun t e => by (cases e;exact S1.out.st.2.1)) hx3).1
      rw [hs3.st.ms,S1.out.st.ms]
      have hle' : (thingF (3 * ws.length + 2) p (.ok (x :: tt))).2.len ≤ tt.length:=hle
      cases hq : (thingF (3 * ws.length + 2) p (.ok (x :: tt))).2 with
      | ok t2 => rw [hq] at hle';simp only [RS.ms,RS.len,List.length_cons] at hle' ⊢;omega
      | bad c a => simp only [RS.ms,List.length_cons];omega
theorem rwords_long (s : ByteArray) (w : World) (hs : 16384 < s.size) :
 Calls Try.prog 22 #[.string s] w fun e w' => e = .returned (.tuple #[.slice none 0 0,.int .i64 2,.int .i64 0]) ∧ Below w.heap.size w w':=by
 have h1 : decide ((s.size : Int) > 16384) = true:=by simp;omega
 go_enter Try.func22,Try.ntmps22
 go_wp2
 go_ret3
 exact ⟨rfl,by (refine Fr.below ?_;(with_reducible repeat first | exact Fr.refl _ _ | refine Fr.alloc ?_ _ | refine Fr.drewN ?_ _ | refine Fr.drew ?_ | (refine Fr.set ?_ ?_ _ _;rotate_left;first | exact .inl rfl | (right;simp;done) | (right;simp;omega) | (right;omega)) | refine Fr.step ?_ (by assumption) | refine Fr.stepB ?_ (by assumption)))⟩
theorem r4_parse_no (s : ByteArray) (w : World) (e0 a0 : Int) (he : e0 ≠ 0) (hW : ∀ W,Calls Try.prog 22 #[.string s] W fun e w' => e = .returned (.tuple #[.slice none 0 0,.int .i64 e0,.int .i64 a0]) ∧ Below W.heap.size W w') :
 Calls Try.prog 7 #[.string s] w fun e w' => e = .returned (.tuple #[.agg #[.slice none 0 0,.slice none 0 0,.slice none 0 0,.slice none 0 0],.int .i64 e0,.int .i64 a0]) ∧ Below w.heap.size w w':=by
 have HW:=hid hW
 have k : (e0 != 0) = true:=by simpa using he
 clear hW he
 go_enter Try.func7,Try.ntmps7
 go_upto_region 3 with (go_at_call 22;(with_reducible refine (HW.out _).mono ?_);rintro e1 w1 ⟨rfl,hb1⟩)
 have B1 : Hid (Below w.heap.size w w1):=hid ((((Below.refl w.heap.size w).alloc (Nat.le_refl _) _)).trans (hb1.mono (by simp)))
 have GP1 : Hid (PgBlk w1 w.heap.size (.slice none 0 0) (.slice none 0 0) (.slice none 0 0) (.slice none 0 0)):=hid ((PgBlk.new rfl).of (hb1.block _ (by simp)))
 obtain ⟨gpl,⟨pc0,pc1,pc2,pc3⟩,pf0,pf1,pf2,pf3⟩:=GP1.out.facts
 clear hb1
 go_wp2
 exact bodyPost_ret (results_pg rfl _ (.int .i64 e0) (.int .i64 a0) rfl rfl rfl (PgBlk.all (X:=w1) GP1.out _ _ _ _)) rfl ⟨rfl,below_set4 B1.out _ _ _ _⟩
theorem r4_parse_any (s : ByteArray) (w : World) :
 Calls Try.prog 7 #[.string s] w fun e w' => Below w.heap.size w w' ∧ ∃ v0 v1 v2 v3 c a,e = .returned (.tuple #[.agg #[v0,v1,v2,v3],.int .i64 c,.int .i64 a]) ∧
  ((c ≠ 0 ∧ v0 = .slice none 0 0 ∧ v1 = .slice none 0 0 ∧ v2 = .slice none 0 0 ∧ v3 = .slice none 0 0) ∨ (c = 0 ∧ s.size ≤ 16384 ∧ ∃ ws p t rf rt,Sc numO s.data.toList 0 ws none ∧ parF ws = (p,.ok t) ∧ PRows w.heap.size w' p v0 v1 v2 v3 rf rt)):=by
 by_cases hs : s.size ≤ 16384
 · obtain ⟨ws,r,hS⟩:=Sc.total numO s.data.toList.length s.data.toList 0 (Nat.le_refl _)
   cases r with
   | none =>
    refine (r4_parse s w hs ws (hid hS)).mono ?_
    rintro e w' ⟨⟨v0,v1,v2,v3,c,a,rfl,h1,h2⟩,hb⟩
    refine ⟨hb,v0,v1,v2,v3,c,a,rfl,?_⟩
    obtain ⟨⟨p,σ⟩,hq⟩ : ∃ q,parF ws = q:=⟨_,rfl⟩
    rw [hq] at h1 h2
    cases σ with
    | ok t =>
     obtain ⟨e1,_,rf,rt,h3⟩:=h1 t rfl
     exact .inr ⟨e1,hs,ws,p,t,rf,rt,hS,hq,h3⟩
    | bad c' a' =>
     obtain ⟨_,_,e1,e2⟩:=h2 c' a' rfl
     exact .inl ⟨e1,e2⟩
   | some q =>
    obtain ⟨e0,a0⟩:=q
    have he : e0 ≠ 0:=by rcases hS.bad_code e0 a0 rfl with h | h <;> omega
    refine (r4_parse_no s w e0 a0 he fun W => rwords_err s W hs ws e0 a0 (hid hS)).mono ?_
    rintro e w' ⟨rfl,hb⟩
    exact ⟨hb,_,_,_,_,_,_,rfl,.inl ⟨he,rfl,rfl,rfl,rfl⟩⟩
 · refine (r4_parse_no s w 2 0 (by decide) fun W => rwords_long s W (by omega)).mono ?_
   rintro e w' ⟨rfl,hb⟩
   exact ⟨hb,_,_,_,_,_,_,rfl,.inl ⟨by decide,rfl,rfl,rfl,rfl⟩⟩
end Go.Proofs.Ytbmmjomcjlpnlaa
namespace Go.Proofs.Ytbmmjomcjlpnlaa
open Go Go.RowKit
def dstG (k : Nat) : Nat:=31 + k
section
variable {vs : List (Option Value)} {t0 : Array Value} {listed : Array Bool} {a : Act} {B b : Nat} {W1 X X' : World} {cs : Array Value} {R : World → Prop}
theorem putG (h : Ins 11 66 dstG vs t0 listed a) (k d : Nat) (v : Value) (hk : k < 11) (hd : dstG k = d) (hv : ∀ u,vs[k]? = some (some u) → u = v) : Ins 11 66 dstG vs t0 (listed.setIfInBounds k true) (a.put (some d) v):=by
 subst hd
 exact h.put hk (by unfold dstG;omega) (fun i hi e => by unfold dstG at e;omega) hv
structure GI (vs : List (Option Value)) (t0 : Array Value) (W1 : World) (cs : Array Value) (R : World → Prop) (listed : Array Bool) (a : Act) (X : World) : Prop where
 ins : Ins 11 66 dstG vs t0 listed a
 wd : (listed.getD 10 false = false ∧ Below W1.heap.size W1 X ∧ (listed.getD 9 false = true → ∃ g,a.tmps.getD 40 undef = .slice (some ⟨g,0,none⟩) 6 6 ∧ X.heap[g]? = some (.cells cs 9 (0,0)))) ∨ (listed.getD 10 false = true ∧ R X)
theorem getD_other {k j : Nat} (h : j ≠ k) : (listed.setIfInBounds k true).getD j false = listed.getD j false:=by
 simp only [Array.getD_eq_getD_getElem?,Array.getElem?_setIfInBounds]
 rw [if_neg (Ne.symm h)]
theorem GI.put (h : GI vs t0 W1 cs R listed a X) (k d : Nat) (v : Value) (hk : k < 9) (hd : dstG k = d) (hv : ∀ u,vs[k]? = some (some u) → u = v) (hb : Below X.heap.size X X') (hR : R X → R X') : GI vs t0 W1 cs R (listed.setIfInBounds k true) (a.put (some d) v) X':=by
 refine ⟨putG h.ins k d v (by omega) hd hv,?_⟩
 rw [getD_other (by omega : 10 ≠ k),getD_other (by omega : 9 ≠ k)]
 rcases h.wd with ⟨h1,h2,h3⟩ | ⟨h1,h2⟩
 · refine .inl ⟨h1,below_dual h2 hb,fun h9 => ?_⟩
   obtain ⟨g,e1,e2⟩:=h3 h9
   refine ⟨g,?_,(hb.block g (Array.getElem?_eq_some_iff.1 e2).1).trans e2⟩
   subst hd
   rw [getD_put a _ _ _ (by rw [h.ins.tsz];unfold dstG;omega),if_neg (by unfold dstG;omega)]
   exact e1
 · exact .inr ⟨h1,hR h2⟩
end
end Go.Proofs.Ytbmmjomcjlpnlaa
namespace Go.Proofs.Ytbmmjomcjlpnlaa
open Go Go.RowKit
def progT (fnT : Fn → List UInt8) (p : Pg) : List UInt8:=p.ls.flatMap lkT ++ (p.gs.flatMap glT ++ (p.fs.flatMap fnT ++ p.ths.flatMap thT))
open Go
def aw5T : List UInt8:=[116,104,114,101,97,100,123,105,102,40,97,41,123,111,117,116,32,49,59,125,101,108,115,101,123,98,91,50,93,61,51,59,125,125,112,117,98,108,105,99,32,105,110,116,32,103,91,50,93,98,121,32,109,59,108,111,99,107,32,109,59]
def aw5W : List Wd:=[⟨0,[116,104,114,101,97,100],0,0⟩,⟨2,[123],0,6⟩,⟨0,[105,102],0,7⟩,⟨2,[40],0,9⟩,⟨0,[97],0,10⟩,⟨2,[41],0,11⟩,⟨2,[123],0,12⟩,⟨0,[111,117,116],0,13⟩,⟨1,[49],1,17⟩,⟨2,[59],0,18⟩,⟨2,[125],0,19⟩,⟨0,[101,108,115,101],0,20⟩,⟨2,[123],0,24⟩,⟨0,[98],0,25⟩,⟨2,[91],0,26⟩,⟨1,[50],2,27⟩,⟨2,[93],0,28⟩,⟨2,[61],0,29⟩,⟨1,[51],3,30⟩,⟨2,[59],0,31⟩,⟨2,[125],0,32⟩,⟨2,[125],0,33⟩,⟨0,[112,117,98,108,105,99],0,34⟩,⟨0,[105,110,116],0,41⟩,⟨0,[103],0,45⟩,⟨2,[91],0,46⟩,⟨1,[50],2,47⟩,⟨2,[93],0,48⟩,⟨0,[98,121],0,49⟩,⟨0,[109],0,52⟩,⟨2,[59],0,53⟩,⟨0,[108,111,99,107],0,54⟩,⟨0,[109],0,59⟩,⟨2,[59],0,60⟩,⟨3,[],0,61⟩]
theorem numO_itoa {n : Int} (h0 : 0 ≤ n) (h1 : n ≤ 9223372036854775807) : numO (Lib.itoa n) = some n:=by
 have e : (⟨(Lib.itoa n).toArray⟩ : ByteArray) = dig n:=rfl
 unfold numO
 rw [e,num_dig h0 h1]
theorem numO_inv {t : List UInt8} {v : Int} (h : numO t = some v) : 0 ≤ v ∧ v ≤ 9223372036854775807 ∧ t = Lib.itoa v:=by
 unfold numO at h
 split at h
 · rename_i u hu
   cases h
   unfold numM at hu
   split at hu
   · cases hu
   · split at hu
     · rename_i x hx
       split at hu
       · cases hu
       · split at hu
         · rename_i hneg hs
           cases hu
           have hb:=(Lib.parseIntB_bounds hx).2
           refine ⟨by omega,by simp at hb;omega,?_⟩
           have:=by simpa [ByteArray.toList_eq] using hs
           rw [← this]
           rfl
         · cases hu
     · cases hu
 · cases h
theorem num_1 : numO [49] = some 1:=by
 have h:=numO_itoa (n:=1) (by decide) (by decide)
 rwa [show Lib.itoa 1 = [49] by (rw [show (1 : Int) = ((1 : Nat) : Int) from rfl,Lib.itoa_nonneg];simp [Lib.decDigits])] at h
theorem num_3 : numO [51] = some 3:=by
 have h:=numO_itoa (n:=3) (by decide) (by decide)
 rwa [show Lib.itoa 3 = [51] by (rw [show (3 : Int) = ((3 : Nat) : Int) from rfl,Lib.itoa_nonneg];simp [Lib.decDigits])] at h
def aw5S : Stm:=.mk 2 7 false false [] [] [.mk 2 0 0 [97] [] 10] [.mk 5 13 false false [] [] [.mk 0 0 1 [] [] 17] [] []] [.mk 1 25 false false [98] [.mk 0 0 2 [] [] 27] [.mk 0 0 3 [] [] 30] [] []]
def aw5P : Pg:=⟨[⟨45,[103],false,false,2,[109]⟩],[⟨59,[109]⟩],[],[[aw5S]]⟩
theorem exn {t : List UInt8} {n : Int} {a : Nat} {c : Wd} {r : List Wd} (h3 : rkW c < 1) : exF (.ok (⟨1,t,n,a⟩ :: c :: r)) = (.mk 0 0 n [] [] a,.ok (c :: r)) :=
 exF_ok (.expr (.num rfl) (.loopEnd h3))
theorem op5_none : opB [41] = -1 ∧ opB [93] = -1 ∧ opB [59] = -1:=by
 refine ⟨?_,?_,?_⟩ <;> simp [opB,opM,opGo,sgn,sgnL,ByteArray.toList_eq]
theorem rk5_se (v : Int) (a : Nat) : rkW ⟨2,[59],v,a⟩ < 1:=by unfold rkW;rw [if_pos rfl,op5_none.2.2];decide
end Go.Proofs.Ytbmmjomcjlpnlaa
