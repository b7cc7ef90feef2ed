/- Joined texts: Sb Sc Sd Pg Rfn RthL RthF: lemmas for the law; each says its own conditions. -/
import Derived.Test.YtkhbbapocamlmaaDoorQ07
set_option linter.unusedSimpArgs false
set_option linter.unusedVariables false
namespace Go.Proofs.YtkhbbapocamlmaaDoor
open Go Go.RowKit

/-- What the writing of statements owes. -/
def GSts (N : Nat) : Prop := ∀ (l : List Stm) (B b tabs : Nat) (bs : List UInt8) (W : World) (v : Value), cntS l ≤ N → (∀ s ∈ l, GoodS s) → Wr B b (Lib.byteCells bs) tabs W → LB B W → B ≤ W.heap.size → IsSts (fun g => 0 ≤ g) W l v → tabs + cntS l ≤ 1000000 → bs.length + (stsT l tabs).length ≤ 100000000000000 →
  Calls Tryd.prog 29 #[.pointer (some ⟨b, 0, none⟩), v] W fun e w' => e = .returned (.tuple #[]) ∧ Wr B b (Lib.byteCells (bs ++ stsT l tabs)) tabs w' ∧ KW B b W w'
theorem GSts.use {N : Nat} (h : GSts N) {l : List Stm} {B b : Nat} {tabs : Nat} {bs : List UInt8} {W : World} {v : Value} (T : List UInt8) (hT : stsT l tabs = T) (hN : cntS l ≤ N) (hg : ∀ s ∈ l, GoodS s) (hw : Hid (Wr B b (Lib.byteCells bs) tabs W)) (hL : Hid (LB B W)) (hB : B ≤ W.heap.size) (hi : Hid (IsSts (fun g => 0 ≤ g) W l v)) (ht : tabs + cntS l ≤ 1000000) (hlen : bs.length + T.length ≤ 100000000000000) :
    Calls Tryd.prog 29 #[.pointer (some ⟨b, 0, none⟩), v] W fun e w' => e = .returned (.tuple #[]) ∧ Wr B b (Lib.byteCells (bs ++ T)) tabs w' ∧ KW B b W w' := by
  subst hT
  exact h l B b tabs bs W v hN hg hw.out hL.out hB hi.out ht hlen
set_option maxRecDepth 100000 in
set_option maxHeartbeats 4000000 in
theorem within_any {N : Nat} (HG : Hid (GSts N)) {l : List Stm} {B b tabs : Nat} {bs : List UInt8} {W : World} {v : Value} (T : List UInt8) (hT : Hid (stsT l (tabs + 1) = T)) (hN : cntS l ≤ N) (hg : Hid (∀ s ∈ l, GoodS s)) (hw : Hid (Wr B b (Lib.byteCells bs) tabs W)) (hL : Hid (LB B W)) (hB : B ≤ W.heap.size) (hi : Hid (IsSts (fun g => 0 ≤ g) W l v)) (ht : tabs + 1 + cntS l ≤ 1000000) (hlen : bs.length + T.length ≤ 100000000000000) :
    Calls Tryd.prog 50 #[.pointer (some ⟨b, 0, none⟩), v] W fun e w' => e = .returned (.tuple #[]) ∧ Wr B b (Lib.byteCells (bs ++ T)) tabs w' ∧ KW B b W w' := by
  obtain ⟨c2, f2⟩ := hw.out.facts
  have hbl := hw.out.lt
  go_enter Tryd.func50, Tryd.ntmps50
  go_upto_region 1 with (fail)
  refine name_world ?_
  intro W1 hW1
  have hd1 : ((tabs + 1 : Nat) : Int) = (tabs : Int) + 1 := by omega
  obtain ⟨hs1, hs2⟩ := hw.out.set2 (((tabs + 1 : Nat) : Int))
  have HW1 : Hid (Wr B b (Lib.byteCells bs) ((tabs + 1 : Nat) : Int) W1) := Lib.hid (by (rw [hW1]; exact hs1))
  have HK1 : Hid (KW B b W W1) := Lib.hid (by (rw [hW1]; exact hs2))
  clear hW1 c2 f2 hs1 hs2 hd1
  have HL1 := Lib.hid (hL.out.b HK1.out.1)
  have HI1 := Lib.hid (hi.out.keptT (HK1.out.tree hw.out))
  have hz1 := HK1.out.size
  go_upto_region 2 with (go_at_call 29; (with_reducible refine (HG.out.use T hT.out hN hg.out HW1 HL1 (by omega) HI1 ht hlen).mono ?_); rintro e2 w2 ⟨rfl, hw2, hk2⟩)
  obtain ⟨O, hO⟩ : ∃ O : Int, O = ((tabs + 1 : Nat) : Int) := ⟨_, rfl⟩
  have HW2 : Hid (Wr B b (Lib.byteCells (bs ++ T)) O w2) := Lib.hid (hO ▸ hw2)
  have HK2 := Lib.hid hk2
  obtain ⟨c2, f2⟩ := HW2.out.facts
  have hbl2 := HW2.out.lt
  have HO := Lib.hid hO
  clear hw2 hk2 hO
  go_wp2
  go_end0
  have hwd : wrap64 (O - 1) = (tabs : Int) := by (rw [HO.out]; unfold wrap64; omega)
  obtain ⟨hs1, hs2⟩ := HW2.out.set2 (wrap64 (O - 1))
  refine ⟨rfl, ?_, (HK1.out.trans HK2.out).trans hs2⟩
  rw [hwd] at hs1 ⊢
  exact hs1
theorem SBlk.kw {X Y : World} {n : Nat} {k a : Int} {tr sc : Bool} {nm : ByteArray} {vi ve vb vl : Value} (h : SBlk X n k a tr sc nm vi ve vb vl) (hk : KeptT 0 X Y) : SBlk Y n k a tr sc nm vi ve vb vl := (hk.2 n _ _ _ (Nat.zero_le _) h (.inl rfl)).trans h
set_option maxRecDepth 100000 in
set_option maxHeartbeats 4000000 in
/-- A block: the line that opens it, what is within, the line that closes it. -/
theorem block_any {N : Nat} (HG : Hid (GSts N)) {l : List Stm} {B b tabs g c n : Nat} {bs : List UInt8} {W : World} {v : Value} (ps : List (List UInt8)) (hn : ps.length = n) (cs : Array Value) (hcs : Hid (cs = (ps.map fun p => Value.string (bstr p)).toArray)) (T1 T2 T3 : List UInt8) (hT1 : Hid (lineT tabs ps = T1)) (hT2 : Hid (stsT l (tabs + 1) = T2)) (hT3 : Hid (lineT tabs [[125]] = T3)) (hN : cntS l ≤ N) (hg : Hid (∀ s ∈ l, GoodS s)) (hw : Hid (Wr B b (Lib.byteCells bs) tabs W)) (hL : Hid (LB B W)) (hB : B ≤ W.heap.size) (hi : Hid (IsSts (fun g => 0 ≤ g) W l v)) (hp : W.heap[g]? = some (.cells cs 9 (0, 0))) (ht : tabs + 1 + cntS l ≤ 1000000) (hlen : bs.length + (T1.length + (T2.length + T3.length)) ≤ 100000000000000) (hps : n ≤ 1000) :
    Calls Tryd.prog 24 #[.pointer (some ⟨b, 0, none⟩), v, .slice (some ⟨g, 0, none⟩) n c] W fun e w' => e = .returned (.tuple #[]) ∧ Wr B b (Lib.byteCells (bs ++ (T1 ++ (T2 ++ T3)))) tabs w' ∧ KW B b W w' := by
  have hcsB : Hid ((#[.string ⟨#[125]⟩] : Array Value) = ([[125]].map fun p => Value.string (bstr p)).toArray) := Lib.hid (by rfl)
  have hlA : (bs ++ T1).length + T2.length ≤ 100000000000000 := by (rw [List.length_append]; omega)
  have hlB : (bs ++ T1 ++ T2).length + T3.length ≤ 100000000000000 := by (rw [List.length_append, List.length_append]; omega)
  have hl1 : bs.length + T1.length ≤ 100000000000000 := by omega
  go_enter Tryd.func24, Tryd.ntmps24
  go_wp2_with (first
    | (go_at_call 20; (with_reducible refine (line_at B b g c n bs tabs ps hn T1 hT1.out cs hcs W hw hp hl1 hB hps).mono ?_); rintro e1 w1 ⟨rfl, hw1, hk1⟩; have HI1 := Lib.hid (hi.out.keptT (hk1.tree hw.out)); have HL1 := Lib.hid (hL.out.b hk1.1); have hz1 : B ≤ w1.heap.size := Nat.le_trans hB hk1.size)
    | (go_at_call 50; (with_reducible refine (within_any HG T2 hT2 hN hg (Lib.hid hw1) HL1 hz1 HI1 ht hlA).mono ?_); rintro e2 w2 ⟨rfl, hw2, hk2⟩; have hz2 : B ≤ w2.heap.size := Nat.le_trans hz1 hk2.size)
    | (go_at_call 20; (with_reducible refine (line_at B b _ _ 1 _ tabs [[125]] rfl T3 hT3.out _ hcsB _ (Lib.hid (hw2.alloc _)) (heap_alloc_new _ _) hlB (by simp; omega) (by decide)).mono ?_); rintro e3 w3 ⟨rfl, hw3, hk3⟩))
  go_end0
  refine ⟨rfl, ?_, (hk1.trans hk2).trans ((KW.alloc (.refl _ _ _) hz2 _).trans hk3)⟩
  rw [← List.append_assoc, ← List.append_assoc]
  exact hw3
end Go.Proofs.YtkhbbapocamlmaaDoor
namespace Go.Proofs.YtkhbbapocamlmaaDoor
open Go Go.RowKit

set_option maxRecDepth 100000 in
set_option maxHeartbeats 4000000 in
theorem stm_while {N B b tabs : Nat} {bs : List UInt8} {a : Int} {tr sc : Bool} {nm : List UInt8} {ix es : List Ex} {bd el : List Stm} {v : SV} {W : World} (HGS : Hid (GSts N)) (hN : cntS bd ≤ N ∧ cntS el ≤ N) (HW0 : Wr B b (Lib.byteCells bs) tabs W) (HLB0 : LB B W) (hBW : B ≤ W.heap.size) (HI : IsSt1 (fun g => 0 ≤ g) W (.mk 3 a tr sc nm ix es bd el) v) (HG : GoodS (.mk 3 a tr sc nm ix es bd el)) (ht : tabs + 1 + cntS bd ≤ 1000000 ∧ tabs + 1 + cntS el ≤ 1000000) (HLEN : bs.length + (stT (.mk 3 a tr sc nm ix es bd el) tabs).length ≤ 100000000000000) :
    Calls Tryd.prog 54 #[.pointer (some ⟨b, 0, none⟩), .agg #[.int .i64 3, .int .i64 a, .bool tr, .bool sc, .string (bstr nm), v.i, v.e, v.b, v.l]] W fun e w' => e = .returned (.tuple #[]) ∧ Wr B b (Lib.byteCells (bs ++ stT (.mk 3 a tr sc nm ix es bd el) tabs)) tabs w' ∧ KW B b W w' := by
  obtain ⟨z1, k1, z2, k2, z3, k3, z4, k4, rfl⟩ := HI.slices
  obtain ⟨y1, hy1⟩ : ∃ y, (Stm.mk 3 a tr sc nm ix es bd el).ix.length = y := ⟨_, rfl⟩
  obtain ⟨y2, hy2⟩ : ∃ y, (Stm.mk 3 a tr sc nm ix es bd el).es.length = y := ⟨_, rfl⟩
  obtain ⟨y3, hy3⟩ : ∃ y, (Stm.mk 3 a tr sc nm ix es bd el).bd.length = y := ⟨_, rfl⟩
  obtain ⟨y4, hy4⟩ : ∃ y, (Stm.mk 3 a tr sc nm ix es bd el).el.length = y := ⟨_, rfl⟩
  rw [hy1, hy2, hy3, hy4] at HI ⊢
  clear hy1 hy2 hy3
  cases HG with
  | mk _ _ g1 g2 g3 g4 g5 =>
  have g3n := g3
  replace g3 := g3.len
  obtain ⟨i1, i2, i3, i4⟩ := HI
  obtain ⟨T1, hT1⟩ : ∃ T, lineT tabs [tWhile, onlyT es, tBr] = T := ⟨_, rfl⟩
  obtain ⟨T2, hT2⟩ : ∃ T, stsT bd (tabs + 1) = T := ⟨_, rfl⟩
  obtain ⟨T3, hT3⟩ : ∃ T, lineT tabs [[125]] = T := ⟨_, rfl⟩
  have eT : stT (.mk 3 a tr sc nm ix es bd el) tabs = T1 ++ (T2 ++ T3) := by (rw [← hT1, ← hT2, ← hT3]; simp [stT])
  rw [eT] at HLEN ⊢
  have hlen : bs.length + (T1.length + (T2.length + T3.length)) ≤ 100000000000000 := by (rw [List.length_append, List.length_append] at HLEN; exact HLEN)
  have HT1 := Lib.hid hT1
  have HT2 := Lib.hid hT2
  have HT3 := Lib.hid hT3
  clear eT HLEN hT1 hT2 hT3 hy4
  have HCS : Hid ((#[.string ⟨#[119, 104, 105, 108, 101, 32, 40]⟩, .string (bstr (onlyT es)), .string ⟨#[41, 32, 123]⟩] : Array Value) = ([tWhile, onlyT es, tBr].map fun p => Value.string (bstr p)).toArray) := Lib.hid (by rfl)
  go_enter Tryd.func54, Tryd.ntmps54
  have HC0 := below_of_alloc W (.cells #[.int .i64 3, .int .i64 a, .bool tr, .bool sc, .string (bstr nm), .slice z1 y1 k1, .slice z2 y2 k2, .slice z3 y3 k3, .slice z4 y4 k4] 46)
  have SB0 := SBlk.new (X := W) (n := W.heap.size) (k := 3) (a := a) (tr := tr) (sc := sc) (nm := bstr nm) (vi := .slice z1 y1 k1) (ve := .slice z2 y2 k2) (vb := .slice z3 y3 k3) (vl := .slice z4 y4 k4) rfl
  obtain ⟨sl, ⟨sc0, sc1, sc2, sc3, sc4, sc5, sc6, sc7, sc8⟩, _⟩ := SB0.facts
  go_upto_region 9 with (fail)
  clear sl sc0 sc1 sc2 sc3 sc4 sc5 sc6 sc7 sc8
  refine name_world ?_
  intro W1 hW1
  rw [← hW1] at HC0 SB0
  clear hW1
  have H1 : Hid (IsExP (fun g => 0 ≤ g) W1 (exsE ix) (.slice z1 y1 k1) ∧ ∀ x ∈ ix, GoodE x) := Lib.hid ⟨i1.stay HC0, g1⟩
  have H2 : Hid (IsExP (fun g => 0 ≤ g) W1 (exsE es) (.slice z2 y2 k2) ∧ ∀ x ∈ es, GoodE x) := Lib.hid ⟨i2.stay HC0, g2⟩
  have H3 : Hid (IsSts (fun g => 0 ≤ g) W1 bd (.slice z3 y3 k3)) := Lib.hid (i3.kept fun g hg hl => ⟨HC0.block g hl, hg⟩)
  have H4 : Hid (IsSts (fun g => 0 ≤ g) W1 el (.slice z4 y4 k4)) := Lib.hid (i4.kept fun g hg hl => ⟨HC0.block g hl, hg⟩)
  have G4 := Lib.hid g4
  have G5 := Lib.hid g5
  have HW := Lib.hid (HW0.stay HC0)
  have HL := Lib.hid (HLB0.laid.below HC0)
  have HLB := Lib.hid (HLB0.b (HC0.mono hBW))
  have SB := Lib.hid SB0
  have HC : Hid (Below W1.heap.size W1 W1.drew) := Lib.hid ((Below.refl _ _).drew)
  have SBN := Lib.hid (SB.out.stay HC.out)
  have HK : Hid (KW B b W W1) := Lib.hid (KW.below hBW HC0)
  have hB1 : B ≤ W1.heap.size := Nat.le_trans hBW HC0.size
  obtain ⟨sl, ⟨sc0, sc1, sc2, sc3, sc4, sc5, sc6, sc7, sc8⟩, _⟩ := SBN.out.facts
  clear i1 i2 i3 i4 g1 g2 g3 g4 g5 HW0 HLB0 SB0 HC0
  go_region_law (first
    | (go_simp; go_at_call 70; (with_reducible refine (only_any (Lib.hid (H2.out.1.stay HC.out)) (Lib.hid H2.out.2) (Lib.hid (HL.out.below HC.out))).mono ?_); rintro e1 wt ⟨rfl, hbt⟩; replace HC := Lib.hid (below_ch HC.out hbt); have SBN := Lib.hid (SB.out.stay HC.out); obtain ⟨sl, ⟨sc0, sc1, sc2, sc3, sc4, sc5, sc6, sc7, sc8⟩, _⟩ := SBN.out.facts; clear hbt)
    | (go_simp; go_at_call 24; (with_reducible refine (block_any (n := 3) HGS [tWhile, onlyT es, tBr] rfl _ HCS T1 T2 T3 HT1 HT2 HT3 hN.1 G4 (Lib.hid ((HW.out.stay HC.out).alloc _)) (Lib.hid ((HLB.out.b (HC.out.mono hB1)).b ((Below.refl _ _).alloc (by (have := HC.out.size; omega)) _))) (by (have := HC.out.size; simp; omega)) (Lib.hid ((H3.out.kept fun g hg hl => ⟨HC.out.block g hl, hg⟩).kept fun g hg hl => ⟨Below.heap_alloc _ _ g hl, hg⟩)) (heap_alloc_new _ _) ht.1 hlen (by decide)).mono ?_); rintro e9 w9 ⟨rfl, hw9, hk9⟩))
  all_goals first
    | (go_end0; exact ⟨rfl, hw9, HK.out.trans ((KW.below hB1 HC.out).trans ((KW.alloc (.refl _ _ _) (by (have := HC.out.size; omega)) _).trans hk9))⟩)
    | (((try simp only [Exit.inBlock, Exit.then]); refine bodyPost_ret (results_none rfl _ _ _) rfl ?_); exact ⟨rfl, hw9, HK.out.trans ((KW.below hB1 HC.out).trans ((KW.alloc (.refl _ _ _) (by (have := HC.out.size; omega)) _).trans hk9))⟩)
set_option maxRecDepth 100000 in
set_option maxHeartbeats 4000000 in
theorem stm_lock {N B b tabs : Nat} {bs : List UInt8} {a : Int} {tr sc : Bool} {nm : List UInt8} {ix es : List Ex} {bd el : List Stm} {v : SV} {W : World} (HGS : Hid (GSts N)) (hN : cntS bd ≤ N ∧ cntS el ≤ N) (HW0 : Wr B b (Lib.byteCells bs) tabs W) (HLB0 : LB B W) (hBW : B ≤ W.heap.size) (HI : IsSt1 (fun g => 0 ≤ g) W (.mk 4 a tr sc nm ix es bd el) v) (HG : GoodS (.mk 4 a tr sc nm ix es bd el)) (ht : tabs + 1 + cntS bd ≤ 1000000 ∧ tabs + 1 + cntS el ≤ 1000000) (HLEN : bs.length + (stT (.mk 4 a tr sc nm ix es bd el) tabs).length ≤ 100000000000000) :
    Calls Tryd.prog 54 #[.pointer (some ⟨b, 0, none⟩), .agg #[.int .i64 4, .int .i64 a, .bool tr, .bool sc, .string (bstr nm), v.i, v.e, v.b, v.l]] W fun e w' => e = .returned (.tuple #[]) ∧ Wr B b (Lib.byteCells (bs ++ stT (.mk 4 a tr sc nm ix es bd el) tabs)) tabs w' ∧ KW B b W w' := by
  obtain ⟨z1, k1, z2, k2, z3, k3, z4, k4, rfl⟩ := HI.slices
  obtain ⟨y1, hy1⟩ : ∃ y, (Stm.mk 4 a tr sc nm ix es bd el).ix.length = y := ⟨_, rfl⟩
  obtain ⟨y2, hy2⟩ : ∃ y, (Stm.mk 4 a tr sc nm ix es bd el).es.length = y := ⟨_, rfl⟩
  obtain ⟨y3, hy3⟩ : ∃ y, (Stm.mk 4 a tr sc nm ix es bd el).bd.length = y := ⟨_, rfl⟩
  obtain ⟨y4, hy4⟩ : ∃ y, (Stm.mk 4 a tr sc nm ix es bd el).el.length = y := ⟨_, rfl⟩
  rw [hy1, hy2, hy3, hy4] at HI ⊢
  clear hy1 hy2 hy3
  cases HG with
  | mk _ _ g1 g2 g3 g4 g5 =>
  have g3n := g3
  replace g3 := g3.len
  obtain ⟨i1, i2, i3, i4⟩ := HI
  obtain ⟨T1, hT1⟩ : ∃ T, lineT tabs [tLock, nm, tOpen] = T := ⟨_, rfl⟩
  obtain ⟨T2, hT2⟩ : ∃ T, stsT bd (tabs + 1) = T := ⟨_, rfl⟩
  obtain ⟨T3, hT3⟩ : ∃ T, lineT tabs [[125]] = T := ⟨_, rfl⟩
  have eT : stT (.mk 4 a tr sc nm ix es bd el) tabs = T1 ++ (T2 ++ T3) := by (rw [← hT1, ← hT2, ← hT3]; simp [stT])
  rw [eT] at HLEN ⊢
  have hlen : bs.length + (T1.length + (T2.length + T3.length)) ≤ 100000000000000 := by (rw [List.length_append, List.length_append] at HLEN; exact HLEN)
  have HT1 := Lib.hid hT1
  have HT2 := Lib.hid hT2
  have HT3 := Lib.hid hT3
  clear eT HLEN hT1 hT2 hT3 hy4
  have HCS : Hid ((#[.string ⟨#[108, 111, 99, 107, 32]⟩, .string (bstr (nm)), .string ⟨#[32, 123]⟩] : Array Value) = ([tLock, nm, tOpen].map fun p => Value.string (bstr p)).toArray) := Lib.hid (by rfl)
  go_enter Tryd.func54, Tryd.ntmps54
  have HC0 := below_of_alloc W (.cells #[.int .i64 4, .int .i64 a, .bool tr, .bool sc, .string (bstr nm), .slice z1 y1 k1, .slice z2 y2 k2, .slice z3 y3 k3, .slice z4 y4 k4] 46)
  have SB0 := SBlk.new (X := W) (n := W.heap.size) (k := 4) (a := a) (tr := tr) (sc := sc) (nm := bstr nm) (vi := .slice z1 y1 k1) (ve := .slice z2 y2 k2) (vb := .slice z3 y3 k3) (vl := .slice z4 y4 k4) rfl
  obtain ⟨sl, ⟨sc0, sc1, sc2, sc3, sc4, sc5, sc6, sc7, sc8⟩, _⟩ := SB0.facts
  go_upto_region 11 with (fail)
  clear sl sc0 sc1 sc2 sc3 sc4 sc5 sc6 sc7 sc8
  refine name_world ?_
  intro W1 hW1
  rw [← hW1] at HC0 SB0
  clear hW1
  have H1 : Hid (IsExP (fun g => 0 ≤ g) W1 (exsE ix) (.slice z1 y1 k1) ∧ ∀ x ∈ ix, GoodE x) := Lib.hid ⟨i1.stay HC0, g1⟩
  have H2 : Hid (IsExP (fun g => 0 ≤ g) W1 (exsE es) (.slice z2 y2 k2) ∧ ∀ x ∈ es, GoodE x) := Lib.hid ⟨i2.stay HC0, g2⟩
  have H3 : Hid (IsSts (fun g => 0 ≤ g) W1 bd (.slice z3 y3 k3)) := Lib.hid (i3.kept fun g hg hl => ⟨HC0.block g hl, hg⟩)
  have H4 : Hid (IsSts (fun g => 0 ≤ g) W1 el (.slice z4 y4 k4)) := Lib.hid (i4.kept fun g hg hl => ⟨HC0.block g hl, hg⟩)
  have G4 := Lib.hid g4
  have G5 := Lib.hid g5
  have HW := Lib.hid (HW0.stay HC0)
  have HL := Lib.hid (HLB0.laid.below HC0)
  have HLB := Lib.hid (HLB0.b (HC0.mono hBW))
  have SB := Lib.hid SB0
  have HC : Hid (Below W1.heap.size W1 W1) := Lib.hid (Below.refl _ _)
  have SBN := Lib.hid (SB.out.stay HC.out)
  have HK : Hid (KW B b W W1) := Lib.hid (KW.below hBW HC0)
  have hB1 : B ≤ W1.heap.size := Nat.le_trans hBW HC0.size
  obtain ⟨sl, ⟨sc0, sc1, sc2, sc3, sc4, sc5, sc6, sc7, sc8⟩, _⟩ := SBN.out.facts
  clear i1 i2 i3 i4 g1 g2 g3 g4 g5 HW0 HLB0 SB0 HC0
  go_wp2_with (first
    | (go_simp; go_at_call 24; (with_reducible refine (block_any (n := 3) HGS [tLock, nm, tOpen] rfl _ HCS T1 T2 T3 HT1 HT2 HT3 hN.1 G4 (Lib.hid ((HW.out.stay HC.out).alloc _)) (Lib.hid ((HLB.out.b (HC.out.mono hB1)).b ((Below.refl _ _).alloc (by (have := HC.out.size; omega)) _))) (by (have := HC.out.size; simp; omega)) (Lib.hid ((H3.out.kept fun g hg hl => ⟨HC.out.block g hl, hg⟩).kept fun g hg hl => ⟨Below.heap_alloc _ _ g hl, hg⟩)) (heap_alloc_new _ _) ht.1 hlen (by decide)).mono ?_); rintro e9 w9 ⟨rfl, hw9, hk9⟩))
  all_goals first
    | (go_end0; exact ⟨rfl, hw9, HK.out.trans ((KW.below hB1 HC.out).trans ((KW.alloc (.refl _ _ _) (by (have := HC.out.size; omega)) _).trans hk9))⟩)
    | (((try simp only [Exit.inBlock, Exit.then]); refine bodyPost_ret (results_none rfl _ _ _) rfl ?_); exact ⟨rfl, hw9, HK.out.trans ((KW.below hB1 HC.out).trans ((KW.alloc (.refl _ _ _) (by (have := HC.out.size; omega)) _).trans hk9))⟩)
set_option maxRecDepth 100000 in
set_option maxHeartbeats 4000000 in
theorem brn_no {N B b tabs : Nat} {bs : List UInt8} {a : Int} {tr sc : Bool} {nm : List UInt8} {ix es : List Ex} {bd el : List Stm} {v : SV} {W : World} (HGS : Hid (GSts N)) (hN : cntS bd ≤ N ∧ cntS el ≤ N) (HW0 : Wr B b (Lib.byteCells bs) tabs W) (HLB0 : LB B W) (hBW : B ≤ W.heap.size) (HI : IsSt1 (fun g => 0 ≤ g) W (.mk 2 a tr sc nm ix es bd el) v) (HG : GoodS (.mk 2 a tr sc nm ix es bd el)) (ht : tabs + 1 + cntS bd ≤ 1000000 ∧ tabs + 1 + cntS el ≤ 1000000) (HLEN : bs.length + (stT (.mk 2 a tr sc nm ix es bd el) tabs).length ≤ 100000000000000) (hel : el = []) :
    Calls Tryd.prog 72 #[.pointer (some ⟨b, 0, none⟩), .agg #[.int .i64 2, .int .i64 a, .bool tr, .bool sc, .string (bstr nm), v.i, v.e, v.b, v.l]] W fun e w' => e = .returned (.tuple #[]) ∧ Wr B b (Lib.byteCells (bs ++ stT (.mk 2 a tr sc nm ix es bd el) tabs)) tabs w' ∧ KW B b W w' := by
  obtain ⟨z1, k1, z2, k2, z3, k3, z4, k4, rfl⟩ := HI.slices
  obtain ⟨y1, hy1⟩ : ∃ y, (Stm.mk 2 a tr sc nm ix es bd el).ix.length = y := ⟨_, rfl⟩
  obtain ⟨y2, hy2⟩ : ∃ y, (Stm.mk 2 a tr sc nm ix es bd el).es.length = y := ⟨_, rfl⟩
  obtain ⟨y3, hy3⟩ : ∃ y, (Stm.mk 2 a tr sc nm ix es bd el).bd.length = y := ⟨_, rfl⟩
  obtain ⟨y4, hy4⟩ : ∃ y, (Stm.mk 2 a tr sc nm ix es bd el).el.length = y := ⟨_, rfl⟩
  rw [hy1, hy2, hy3, hy4] at HI ⊢
  clear hy1 hy2 hy3
  cases HG with
  | mk _ _ g1 g2 g3 g4 g5 =>
  have g3n := g3
  replace g3 := g3.len
  obtain ⟨i1, i2, i3, i4⟩ := HI
  obtain ⟨T1, hT1⟩ : ∃ T, lineT tabs [tIf, onlyT es, tBr] = T := ⟨_, rfl⟩
  obtain ⟨T2, hT2⟩ : ∃ T, stsT bd (tabs + 1) = T := ⟨_, rfl⟩
  obtain ⟨T3, hT3⟩ : ∃ T, lineT tabs [[125]] = T := ⟨_, rfl⟩
  subst hel
  have eT : stT (.mk 2 a tr sc nm ix es bd []) tabs = T1 ++ (T2 ++ T3) := by (rw [← hT1, ← hT2, ← hT3]; simp [stT])
  rw [eT] at HLEN ⊢
  have hlen : bs.length + (T1.length + (T2.length + T3.length)) ≤ 100000000000000 := by (rw [List.length_append, List.length_append] at HLEN; exact HLEN)
  obtain rfl : y4 = 0 := hy4.symm
  have HT1 := Lib.hid hT1
  have HT2 := Lib.hid hT2
  have HT3 := Lib.hid hT3
  clear eT HLEN hT1 hT2 hT3
  have HCS : Hid ((#[.string ⟨#[105, 102, 32, 40]⟩, .string (bstr (onlyT es)), .string ⟨#[41, 32, 123]⟩] : Array Value) = ([tIf, onlyT es, tBr].map fun p => Value.string (bstr p)).toArray) := Lib.hid (by rfl)
  have HCSB : Hid ((#[.string ⟨#[125]⟩] : Array Value) = ([[125]].map fun p => Value.string (bstr p)).toArray) := Lib.hid (by rfl)
  go_enter Tryd.func72, Tryd.ntmps72
  have HC0 := below_of_alloc W (.cells #[.int .i64 2, .int .i64 a, .bool tr, .bool sc, .string (bstr nm), .slice z1 y1 k1, .slice z2 y2 k2, .slice z3 y3 k3, .slice z4 0 k4] 46)
  have SB0 := SBlk.new (X := W) (n := W.heap.size) (k := 2) (a := a) (tr := tr) (sc := sc) (nm := bstr nm) (vi := .slice z1 y1 k1) (ve := .slice z2 y2 k2) (vb := .slice z3 y3 k3) (vl := .slice z4 0 k4) rfl
  obtain ⟨sl, ⟨sc0, sc1, sc2, sc3, sc4, sc5, sc6, sc7, sc8⟩, _⟩ := SB0.facts
  go_upto_region 1 with (fail)
  clear sl sc0 sc1 sc2 sc3 sc4 sc5 sc6 sc7 sc8
  refine name_world ?_
  intro W1 hW1
  rw [← hW1] at HC0 SB0
  clear hW1
  have H1 : Hid (IsExP (fun g => 0 ≤ g) W1 (exsE ix) (.slice z1 y1 k1) ∧ ∀ x ∈ ix, GoodE x) := Lib.hid ⟨i1.stay HC0, g1⟩
  have H2 : Hid (IsExP (fun g => 0 ≤ g) W1 (exsE es) (.slice z2 y2 k2) ∧ ∀ x ∈ es, GoodE x) := Lib.hid ⟨i2.stay HC0, g2⟩
  have H3 : Hid (IsSts (fun g => 0 ≤ g) W1 bd (.slice z3 y3 k3)) := Lib.hid (i3.kept fun g hg hl => ⟨HC0.block g hl, hg⟩)
  have H4 : Hid (IsSts (fun g => 0 ≤ g) W1 [] (.slice z4 0 k4)) := Lib.hid (i4.kept fun g hg hl => ⟨HC0.block g hl, hg⟩)
  have G4 := Lib.hid g4
  have G5 := Lib.hid g5
  have HW := Lib.hid (HW0.stay HC0)
  have HL := Lib.hid (HLB0.laid.below HC0)
  have HLB := Lib.hid (HLB0.b (HC0.mono hBW))
  have SB := Lib.hid SB0
  have HC : Hid (Below W1.heap.size W1 W1) := Lib.hid (Below.refl _ _)
  have SBN := Lib.hid (SB.out.stay HC.out)
  have HK : Hid (KW B b W W1) := Lib.hid (KW.below hBW HC0)
  have hB1 : B ≤ W1.heap.size := Nat.le_trans hBW HC0.size
  obtain ⟨sl, ⟨sc0, sc1, sc2, sc3, sc4, sc5, sc6, sc7, sc8⟩, _⟩ := SBN.out.facts
  clear i1 i2 i3 i4 g1 g2 g3 g4 g5 HW0 HLB0 SB0 HC0
  go_wp2_with (first
    | (go_simp; go_at_call 70; (with_reducible refine (only_any (Lib.hid (H2.out.1.stay HC.out)) (Lib.hid H2.out.2) (Lib.hid (HL.out.below HC.out))).mono ?_); rintro e1 wt ⟨rfl, hbt⟩; replace HC := Lib.hid (below_ch HC.out hbt); have SBN := Lib.hid (SB.out.stay HC.out); obtain ⟨sl, ⟨sc0, sc1, sc2, sc3, sc4, sc5, sc6, sc7, sc8⟩, _⟩ := SBN.out.facts; clear hbt)
    | (go_simp; go_at_call 20; (with_reducible refine (line_at B b _ _ 3 bs tabs [tIf, onlyT es, tBr] rfl T1 HT1.out _ HCS _ (Lib.hid ((HW.out.stay HC.out).alloc _)) (heap_alloc_new _ _) (by omega) (by (have := HC.out.size; simp; omega)) (by decide)).mono ?_); rintro e2 w2 ⟨rfl, hw2, hk2⟩; have hkA : KW B b W1 w2 := (KW.below hB1 HC.out).trans ((KW.alloc (.refl _ _ _) (by (have := HC.out.size; omega)) _).trans hk2); have hz2 : B ≤ w2.heap.size := Nat.le_trans hB1 hkA.size; have HLB2 := Lib.hid (HLB.out.b hkA.1); have HW2 := Lib.hid hw2; have KT2 := hkA.tree (lo := 0) HW.out; have H32 := Lib.hid (H3.out.keptT KT2); have H42 := Lib.hid (H4.out.keptT KT2); have SB2 := Lib.hid (SB.out.kw KT2); obtain ⟨sl, ⟨sc0, sc1, sc2, sc3, sc4, sc5, sc6, sc7, sc8⟩, _⟩ := SB2.out.facts)
    | (go_at_call 50; (with_reducible refine (within_any HGS T2 HT2 hN.1 G4 HW2 HLB2 hz2 H32 ht.1 (by (rw [List.length_append]; omega))).mono ?_); rintro e3 w3 ⟨rfl, hw3, hk3⟩; have hz3 : B ≤ w3.heap.size := Nat.le_trans hz2 hk3.size; have HLB3 := Lib.hid (HLB2.out.b hk3.1); have HW3 := Lib.hid hw3; have KT3 := hk3.tree (lo := 0) HW2.out; have H43 := Lib.hid (H42.out.keptT KT3); have SB3 := Lib.hid (SB2.out.kw KT3); obtain ⟨sl, ⟨sc0, sc1, sc2, sc3, sc4, sc5, sc6, sc7, sc8⟩, _⟩ := SB3.out.facts)
    | (go_at_call 20; (with_reducible refine (line_at B b _ _ 1 _ tabs [[125]] rfl T3 HT3.out _ HCSB _ (Lib.hid (HW3.out.alloc _)) (heap_alloc_new _ _) (by (rw [List.length_append, List.length_append]; omega)) (by (simp; omega)) (by decide)).mono ?_); rintro e9 w9 ⟨rfl, hw9, hk9⟩))
  go_end0
  refine ⟨rfl, ?_, HK.out.trans ((hkA.trans hk3).trans ((KW.alloc (.refl _ _ _) hz3 _).trans hk9))⟩
  have e : bs ++ (T1 ++ (T2 ++ T3)) = bs ++ T1 ++ T2 ++ T3 := by simp only [List.append_assoc]
  rw [e]
  exact hw9
set_option maxRecDepth 100000 in
set_option maxHeartbeats 4000000 in
theorem brn_yes {N B b tabs : Nat} {bs : List UInt8} {a : Int} {tr sc : Bool} {nm : List UInt8} {ix es : List Ex} {bd el : List Stm} {v : SV} {W : World} (HGS : Hid (GSts N)) (hN : cntS bd ≤ N ∧ cntS el ≤ N) (HW0 : Wr B b (Lib.byteCells bs) tabs W) (HLB0 : LB B W) (hBW : B ≤ W.heap.size) (HI : IsSt1 (fun g => 0 ≤ g) W (.mk 2 a tr sc nm ix es bd el) v) (HG : GoodS (.mk 2 a tr sc nm ix es bd el)) (ht : tabs + 1 + cntS bd ≤ 1000000 ∧ tabs + 1 + cntS el ≤ 1000000) (HLEN : bs.length + (stT (.mk 2 a tr sc nm ix es bd el) tabs).length ≤ 100000000000000) (hel : el ≠ []) :
    Calls Tryd.prog 72 #[.pointer (some ⟨b, 0, none⟩), .agg #[.int .i64 2, .int .i64 a, .bool tr, .bool sc, .string (bstr nm), v.i, v.e, v.b, v.l]] W fun e w' => e = .returned (.tuple #[]) ∧ Wr B b (Lib.byteCells (bs ++ stT (.mk 2 a tr sc nm ix es bd el) tabs)) tabs w' ∧ KW B b W w' := by
  obtain ⟨z1, k1, z2, k2, z3, k3, z4, k4, rfl⟩ := HI.slices
  obtain ⟨y1, hy1⟩ : ∃ y, (Stm.mk 2 a tr sc nm ix es bd el).ix.length = y := ⟨_, rfl⟩
  obtain ⟨y2, hy2⟩ : ∃ y, (Stm.mk 2 a tr sc nm ix es bd el).es.length = y := ⟨_, rfl⟩
  obtain ⟨y3, hy3⟩ : ∃ y, (Stm.mk 2 a tr sc nm ix es bd el).bd.length = y := ⟨_, rfl⟩
  obtain ⟨y4, hy4⟩ : ∃ y, (Stm.mk 2 a tr sc nm ix es bd el).el.length = y := ⟨_, rfl⟩
  rw [hy1, hy2, hy3, hy4] at HI ⊢
  clear hy1 hy2 hy3
  cases HG with
  | mk _ _ g1 g2 g3 g4 g5 =>
  have g3n := g3
  replace g3 := g3.len
  obtain ⟨i1, i2, i3, i4⟩ := HI
  obtain ⟨T1, hT1⟩ : ∃ T, lineT tabs [tIf, onlyT es, tBr] = T := ⟨_, rfl⟩
  obtain ⟨T2, hT2⟩ : ∃ T, stsT bd (tabs + 1) = T := ⟨_, rfl⟩
  obtain ⟨T3, hT3⟩ : ∃ T, lineT tabs [[125]] = T := ⟨_, rfl⟩
  obtain ⟨T4, hT4⟩ : ∃ T, lineT tabs [tElse] = T := ⟨_, rfl⟩
  obtain ⟨T5, hT5⟩ : ∃ T, stsT el (tabs + 1) = T := ⟨_, rfl⟩
  have eT : stT (.mk 2 a tr sc nm ix es bd el) tabs = T1 ++ (T2 ++ ((T4 ++ T5) ++ T3)) := by (rw [← hT1, ← hT2, ← hT3, ← hT4, ← hT5]; simp [stT, hel])
  rw [eT] at HLEN ⊢
  have hlen : bs.length + (T1.length + (T2.length + ((T4.length + T5.length) + T3.length))) ≤ 100000000000000 := by (simp only [List.length_append] at HLEN; exact HLEN)
  have hy0 : (0 : Int) < (y4 : Int) := by (have : el.length = y4 := hy4; have : 0 < el.length := List.length_pos_iff.2 hel; omega)
  have hyd : decide ((y4 : Int) > 0) = true := by simpa using hy0
  have HT4 := Lib.hid hT4
  have HT5 := Lib.hid hT5
  clear hT4 hT5
  have HT1 := Lib.hid hT1
  have HT2 := Lib.hid hT2
  have HT3 := Lib.hid hT3
  clear eT HLEN hT1 hT2 hT3
  have HCS : Hid ((#[.string ⟨#[105, 102, 32, 40]⟩, .string (bstr (onlyT es)), .string ⟨#[41, 32, 123]⟩] : Array Value) = ([tIf, onlyT es, tBr].map fun p => Value.string (bstr p)).toArray) := Lib.hid (by rfl)
  have HCSB : Hid ((#[.string ⟨#[125]⟩] : Array Value) = ([[125]].map fun p => Value.string (bstr p)).toArray) := Lib.hid (by rfl)
  have HCSE : Hid ((#[.string ⟨#[125, 32, 101, 108, 115, 101, 32, 123]⟩] : Array Value) = ([tElse].map fun p => Value.string (bstr p)).toArray) := Lib.hid (by rfl)
  go_enter Tryd.func72, Tryd.ntmps72
  have HC0 := below_of_alloc W (.cells #[.int .i64 2, .int .i64 a, .bool tr, .bool sc, .string (bstr nm), .slice z1 y1 k1, .slice z2 y2 k2, .slice z3 y3 k3, .slice z4 y4 k4] 46)
  have SB0 := SBlk.new (X := W) (n := W.heap.size) (k := 2) (a := a) (tr := tr) (sc := sc) (nm := bstr nm) (vi := .slice z1 y1 k1) (ve := .slice z2 y2 k2) (vb := .slice z3 y3 k3) (vl := .slice z4 y4 k4) rfl
  obtain ⟨sl, ⟨sc0, sc1, sc2, sc3, sc4, sc5, sc6, sc7, sc8⟩, _⟩ := SB0.facts
  go_upto_region 1 with (fail)
  clear sl sc0 sc1 sc2 sc3 sc4 sc5 sc6 sc7 sc8
  refine name_world ?_
  intro W1 hW1
  rw [← hW1] at HC0 SB0
  clear hW1
  have H1 : Hid (IsExP (fun g => 0 ≤ g) W1 (exsE ix) (.slice z1 y1 k1) ∧ ∀ x ∈ ix, GoodE x) := Lib.hid ⟨i1.stay HC0, g1⟩
  have H2 : Hid (IsExP (fun g => 0 ≤ g) W1 (exsE es) (.slice z2 y2 k2) ∧ ∀ x ∈ es, GoodE x) := Lib.hid ⟨i2.stay HC0, g2⟩
  have H3 : Hid (IsSts (fun g => 0 ≤ g) W1 bd (.slice z3 y3 k3)) := Lib.hid (i3.kept fun g hg hl => ⟨HC0.block g hl, hg⟩)
  have H4 : Hid (IsSts (fun g => 0 ≤ g) W1 el (.slice z4 y4 k4)) := Lib.hid (i4.kept fun g hg hl => ⟨HC0.block g hl, hg⟩)
  have G4 := Lib.hid g4
  have G5 := Lib.hid g5
  have HW := Lib.hid (HW0.stay HC0)
  have HL := Lib.hid (HLB0.laid.below HC0)
  have HLB := Lib.hid (HLB0.b (HC0.mono hBW))
  have SB := Lib.hid SB0
  have HC : Hid (Below W1.heap.size W1 W1) := Lib.hid (Below.refl _ _)
  have SBN := Lib.hid (SB.out.stay HC.out)
  have HK : Hid (KW B b W W1) := Lib.hid (KW.below hBW HC0)
  have hB1 : B ≤ W1.heap.size := Nat.le_trans hBW HC0.size
  obtain ⟨sl, ⟨sc0, sc1, sc2, sc3, sc4, sc5, sc6, sc7, sc8⟩, _⟩ := SBN.out.facts
  clear i1 i2 i3 i4 g1 g2 g3 g4 g5 HW0 HLB0 SB0 HC0
  go_wp2_with (first
    | (go_simp; go_at_call 70; (with_reducible refine (only_any (Lib.hid (H2.out.1.stay HC.out)) (Lib.hid H2.out.2) (Lib.hid (HL.out.below HC.out))).mono ?_); rintro e1 wt ⟨rfl, hbt⟩; replace HC := Lib.hid (below_ch HC.out hbt); have SBN := Lib.hid (SB.out.stay HC.out); obtain ⟨sl, ⟨sc0, sc1, sc2, sc3, sc4, sc5, sc6, sc7, sc8⟩, _⟩ := SBN.out.facts; clear hbt)
    | (go_simp; go_at_call 20; (with_reducible refine (line_at B b _ _ 3 bs tabs [tIf, onlyT es, tBr] rfl T1 HT1.out _ HCS _ (Lib.hid ((HW.out.stay HC.out).alloc _)) (heap_alloc_new _ _) (by omega) (by (have := HC.out.size; simp; omega)) (by decide)).mono ?_); rintro e2 w2 ⟨rfl, hw2, hk2⟩; have hkA : KW B b W1 w2 := (KW.below hB1 HC.out).trans ((KW.alloc (.refl _ _ _) (by (have := HC.out.size; omega)) _).trans hk2); have hz2 : B ≤ w2.heap.size := Nat.le_trans hB1 hkA.size; have HLB2 := Lib.hid (HLB.out.b hkA.1); have HW2 := Lib.hid hw2; have KT2 := hkA.tree (lo := 0) HW.out; have H32 := Lib.hid (H3.out.keptT KT2); have H42 := Lib.hid (H4.out.keptT KT2); have SB2 := Lib.hid (SB.out.kw KT2); obtain ⟨sl, ⟨sc0, sc1, sc2, sc3, sc4, sc5, sc6, sc7, sc8⟩, _⟩ := SB2.out.facts)
    | (go_at_call 50; (with_reducible refine (within_any HGS T2 HT2 hN.1 G4 HW2 HLB2 hz2 H32 ht.1 (by (rw [List.length_append]; omega))).mono ?_); rintro e3 w3 ⟨rfl, hw3, hk3⟩; have hz3 : B ≤ w3.heap.size := Nat.le_trans hz2 hk3.size; have HLB3 := Lib.hid (HLB2.out.b hk3.1); have HW3 := Lib.hid hw3; have KT3 := hk3.tree (lo := 0) HW2.out; have H43 := Lib.hid (H42.out.keptT KT3); have SB3 := Lib.hid (SB2.out.kw KT3); obtain ⟨sl, ⟨sc0, sc1, sc2, sc3, sc4, sc5, sc6, sc7, sc8⟩, _⟩ := SB3.out.facts)
    | (go_at_call 20; (with_reducible refine (line_at B b _ _ 1 _ tabs [tElse] rfl T4 HT4.out _ HCSE _ (Lib.hid (HW3.out.alloc _)) (heap_alloc_new _ _) (by (rw [List.length_append, List.length_append]; omega)) (by (simp; omega)) (by decide)).mono ?_); rintro e4 w4 ⟨rfl, hw4, hk4⟩; have hkB : KW B b w3 w4 := (KW.alloc (.refl _ _ _) hz3 _).trans hk4; have hz4 : B ≤ w4.heap.size := Nat.le_trans hz3 hkB.size; have HLB4 := Lib.hid (HLB3.out.b hkB.1); have HW4 := Lib.hid hw4; have KT4 := hkB.tree (lo := 0) HW3.out; have H44 := Lib.hid (H43.out.keptT KT4); have SB4 := Lib.hid (SB3.out.kw KT4); obtain ⟨sl, ⟨sc0, sc1, sc2, sc3, sc4, sc5, sc6, sc7, sc8⟩, _⟩ := SB4.out.facts)
    | (go_at_call 50; (with_reducible refine (within_any HGS T5 HT5 hN.2 G5 HW4 HLB4 hz4 H44 ht.2 (by (rw [List.length_append, List.length_append, List.length_append]; omega))).mono ?_); rintro e5 w5 ⟨rfl, hw5, hk5⟩; have hz5 : B ≤ w5.heap.size := Nat.le_trans hz4 hk5.size; have HW5 := Lib.hid hw5)
    | (go_at_call 20; (with_reducible refine (line_at B b _ _ 1 _ tabs [[125]] rfl T3 HT3.out _ HCSB _ (Lib.hid (HW5.out.alloc _)) (heap_alloc_new _ _) (by (rw [List.length_append, List.length_append, List.length_append, List.length_append]; omega)) (by (simp; omega)) (by decide)).mono ?_); rintro e9 w9 ⟨rfl, hw9, hk9⟩))
  go_end0
  refine ⟨rfl, ?_, HK.out.trans ((hkA.trans hk3).trans ((hkB.trans hk5).trans ((KW.alloc (.refl _ _ _) hz5 _).trans hk9)))⟩
  have e : bs ++ (T1 ++ (T2 ++ ((T4 ++ T5) ++ T3))) = bs ++ T1 ++ T2 ++ T4 ++ T5 ++ T3 := by simp only [List.append_assoc]
  rw [e]
  exact hw9
theorem brn_any {N B b tabs : Nat} {bs : List UInt8} {a : Int} {tr sc : Bool} {nm : List UInt8} {ix es : List Ex} {bd el : List Stm} {v : SV} {W : World} (HGS : Hid (GSts N)) (hN : cntS bd ≤ N ∧ cntS el ≤ N) (HW0 : Wr B b (Lib.byteCells bs) tabs W) (HLB0 : LB B W) (hBW : B ≤ W.heap.size) (HI : IsSt1 (fun g => 0 ≤ g) W (.mk 2 a tr sc nm ix es bd el) v) (HG : GoodS (.mk 2 a tr sc nm ix es bd el)) (ht : tabs + 1 + cntS bd ≤ 1000000 ∧ tabs + 1 + cntS el ≤ 1000000) (HLEN : bs.length + (stT (.mk 2 a tr sc nm ix es bd el) tabs).length ≤ 100000000000000) :
    Calls Tryd.prog 72 #[.pointer (some ⟨b, 0, none⟩), .agg #[.int .i64 2, .int .i64 a, .bool tr, .bool sc, .string (bstr nm), v.i, v.e, v.b, v.l]] W fun e w' => e = .returned (.tuple #[]) ∧ Wr B b (Lib.byteCells (bs ++ stT (.mk 2 a tr sc nm ix es bd el) tabs)) tabs w' ∧ KW B b W w' := by
  by_cases h : el = []
  · exact brn_no HGS hN HW0 HLB0 hBW HI HG ht HLEN h
  · exact brn_yes HGS hN HW0 HLB0 hBW HI HG ht HLEN h
set_option maxRecDepth 100000 in
set_option maxHeartbeats 4000000 in
theorem stm_if {N B b tabs : Nat} {bs : List UInt8} {a : Int} {tr sc : Bool} {nm : List UInt8} {ix es : List Ex} {bd el : List Stm} {v : SV} {W : World} (HGS : Hid (GSts N)) (hN : cntS bd ≤ N ∧ cntS el ≤ N) (HW0 : Wr B b (Lib.byteCells bs) tabs W) (HLB0 : LB B W) (hBW : B ≤ W.heap.size) (HI : IsSt1 (fun g => 0 ≤ g) W (.mk 2 a tr sc nm ix es bd el) v) (HG : GoodS (.mk 2 a tr sc nm ix es bd el)) (ht : tabs + 1 + cntS bd ≤ 1000000 ∧ tabs + 1 + cntS el ≤ 1000000) (HLEN : bs.length + (stT (.mk 2 a tr sc nm ix es bd el) tabs).length ≤ 100000000000000) :
    Calls Tryd.prog 54 #[.pointer (some ⟨b, 0, none⟩), .agg #[.int .i64 2, .int .i64 a, .bool tr, .bool sc, .string (bstr nm), v.i, v.e, v.b, v.l]] W fun e w' => e = .returned (.tuple #[]) ∧ Wr B b (Lib.byteCells (bs ++ stT (.mk 2 a tr sc nm ix es bd el) tabs)) tabs w' ∧ KW B b W w' := by
  obtain ⟨z1, k1, z2, k2, z3, k3, z4, k4, rfl⟩ := HI.slices
  obtain ⟨y1, hy1⟩ : ∃ y, (Stm.mk 2 a tr sc nm ix es bd el).ix.length = y := ⟨_, rfl⟩
  obtain ⟨y2, hy2⟩ : ∃ y, (Stm.mk 2 a tr sc nm ix es bd el).es.length = y := ⟨_, rfl⟩
  obtain ⟨y3, hy3⟩ : ∃ y, (Stm.mk 2 a tr sc nm ix es bd el).bd.length = y := ⟨_, rfl⟩
  obtain ⟨y4, hy4⟩ : ∃ y, (Stm.mk 2 a tr sc nm ix es bd el).el.length = y := ⟨_, rfl⟩
  rw [hy1, hy2, hy3, hy4] at HI ⊢
  clear hy1 hy2 hy3
  cases HG with
  | mk _ _ g1 g2 g3 g4 g5 =>
  have g3n := g3
  replace g3 := g3.len
  obtain ⟨i1, i2, i3, i4⟩ := HI
  obtain ⟨T, hT⟩ : ∃ T, stT (.mk 2 a tr sc nm ix es bd el) tabs = T := ⟨_, rfl⟩
  have HBX := fun (X : World) (v : SV) (h1 : Wr B b (Lib.byteCells bs) tabs X) (h2 : LB B X) (h3 : B ≤ X.heap.size) (h4 : IsSt1 (fun g => 0 ≤ g) X (.mk 2 a tr sc nm ix es bd el) v) => brn_any HGS hN h1 h2 h3 h4 (.mk (by decide) (by decide) g1 g2 g3n g4 g5) ht HLEN
  rw [hT] at HBX ⊢
  have HBY := Lib.hid HBX
  clear HBX HLEN hT hy4
  go_enter Tryd.func54, Tryd.ntmps54
  have HC0 := below_of_alloc W (.cells #[.int .i64 2, .int .i64 a, .bool tr, .bool sc, .string (bstr nm), .slice z1 y1 k1, .slice z2 y2 k2, .slice z3 y3 k3, .slice z4 y4 k4] 46)
  have SB0 := SBlk.new (X := W) (n := W.heap.size) (k := 2) (a := a) (tr := tr) (sc := sc) (nm := bstr nm) (vi := .slice z1 y1 k1) (ve := .slice z2 y2 k2) (vb := .slice z3 y3 k3) (vl := .slice z4 y4 k4) rfl
  obtain ⟨sl, ⟨sc0, sc1, sc2, sc3, sc4, sc5, sc6, sc7, sc8⟩, _⟩ := SB0.facts
  go_upto_region 7 with (fail)
  clear sl sc0 sc1 sc2 sc3 sc4 sc5 sc6 sc7 sc8
  refine name_world ?_
  intro W1 hW1
  rw [← hW1] at HC0 SB0
  clear hW1
  have H1 : Hid (IsExP (fun g => 0 ≤ g) W1 (exsE ix) (.slice z1 y1 k1) ∧ ∀ x ∈ ix, GoodE x) := Lib.hid ⟨i1.stay HC0, g1⟩
  have H2 : Hid (IsExP (fun g => 0 ≤ g) W1 (exsE es) (.slice z2 y2 k2) ∧ ∀ x ∈ es, GoodE x) := Lib.hid ⟨i2.stay HC0, g2⟩
  have H3 : Hid (IsSts (fun g => 0 ≤ g) W1 bd (.slice z3 y3 k3)) := Lib.hid (i3.kept fun g hg hl => ⟨HC0.block g hl, hg⟩)
  have H4 : Hid (IsSts (fun g => 0 ≤ g) W1 el (.slice z4 y4 k4)) := Lib.hid (i4.kept fun g hg hl => ⟨HC0.block g hl, hg⟩)
  have G4 := Lib.hid g4
  have G5 := Lib.hid g5
  have HW := Lib.hid (HW0.stay HC0)
  have HL := Lib.hid (HLB0.laid.below HC0)
  have HLB := Lib.hid (HLB0.b (HC0.mono hBW))
  have SB := Lib.hid SB0
  have HC : Hid (Below W1.heap.size W1 W1) := Lib.hid (Below.refl _ _)
  have SBN := Lib.hid (SB.out.stay HC.out)
  have HK : Hid (KW B b W W1) := Lib.hid (KW.below hBW HC0)
  have hB1 : B ≤ W1.heap.size := Nat.le_trans hBW HC0.size
  obtain ⟨sl, ⟨sc0, sc1, sc2, sc3, sc4, sc5, sc6, sc7, sc8⟩, _⟩ := SBN.out.facts
  clear i1 i2 i3 i4 g1 g2 g3 g4 g5 HW0 HLB0 SB0 HC0
  have HBR := Lib.hid (HBY.out W1 ⟨.slice z1 y1 k1, .slice z2 y2 k2, .slice z3 y3 k3, .slice z4 y4 k4⟩ HW.out HLB.out hB1 ⟨H1.out.1, H2.out.1, H3.out, H4.out⟩)
  clear HBY
  go_wp2_with (go_at_call 72; (with_reducible refine (HBR.out).mono ?_); rintro e9 w9 ⟨rfl, hw9, hk9⟩)
  first
    | (go_end0; exact ⟨rfl, hw9, HK.out.trans hk9⟩)
    | (((try simp only [Exit.inBlock, Exit.then]); refine bodyPost_ret (results_none rfl _ _ _) rfl ?_); exact ⟨rfl, hw9, HK.out.trans hk9⟩)
end Go.Proofs.YtkhbbapocamlmaaDoor
namespace Go.Proofs.YtkhbbapocamlmaaDoor
open Go Go.RowKit

theorem stmt_any {N B b tabs : Nat} {bs : List UInt8} {s : Stm} {v : SV} {W : World} (HGS : Hid (GSts N)) (hN : cntS s.bd ≤ N ∧ cntS s.el ≤ N) (HW0 : Wr B b (Lib.byteCells bs) tabs W) (HLB0 : LB B W) (hBW : B ≤ W.heap.size) (HI : IsSt1 (fun g => 0 ≤ g) W s v) (HG : GoodS s) (ht : tabs + 1 + cntS s.bd ≤ 1000000 ∧ tabs + 1 + cntS s.el ≤ 1000000) (HLEN : bs.length + (stT s tabs).length ≤ 100000000000000) :
    Calls Tryd.prog 54 #[.pointer (some ⟨b, 0, none⟩), .agg #[.int .i64 s.k, .int .i64 s.a, .bool s.tr, .bool s.sc, .string (bstr s.nm), v.i, v.e, v.b, v.l]] W fun e w' => e = .returned (.tuple #[]) ∧ Wr B b (Lib.byteCells (bs ++ stT s tabs)) tabs w' ∧ KW B b W w' := by
  obtain ⟨k, a, tr, sc, nm, ix, es, bd, el⟩ := s
  have hk : k = 0 ∨ k = 1 ∨ k = 2 ∨ k = 3 ∨ k = 4 ∨ k = 5 := by
    cases HG with
    | mk h1 h2 => omega
  rcases hk with rfl | rfl | rfl | rfl | rfl | rfl
  · exact stm_let HW0 HLB0.laid hBW HI HG (Lib.hid HLEN)
  · exact stm_asg HW0 HLB0.laid hBW HI HG (Lib.hid HLEN)
  · exact stm_if HGS hN HW0 HLB0 hBW HI HG ht HLEN
  · exact stm_while HGS hN HW0 HLB0 hBW HI HG ht HLEN
  · exact stm_lock HGS hN HW0 HLB0 hBW HI HG ht HLEN
  · exact stm_out HW0 HLB0.laid hBW HI HG (Lib.hid HLEN)
theorem take_stsT (l : List Stm) (k tabs : Nat) (s : Stm) (h : l[k]? = some s) : stsT (l.take (k + 1)) tabs = stsT (l.take k) tabs ++ stT s tabs := by
  rw [List.take_add_one, h, stsT_append]
  simp [stsT]
theorem take_sts_le (l : List Stm) (k tabs : Nat) : (stsT (l.take k) tabs).length ≤ (stsT l tabs).length := by
  have h := congrArg List.length (congrArg (stsT · tabs) (List.take_append_drop k l))
  simp only [stsT_append, List.length_append] at h
  omega
theorem len_cnt (l : List Stm) : l.length ≤ cntS l := by
  induction l with
  | nil => exact Nat.zero_le _
  | cons s r ih =>
    have := cnt_parts s
    simp only [List.length_cons, cntS]
    omega
theorem IsSt1.keptT {lo : Nat} {W X : World} {s : Stm} {v : SV} (h : IsSt1 (fun g => lo ≤ g) W s v) (k : KeptT lo W X) : IsSt1 (fun g => lo ≤ g) X s v := ⟨h.1.keptT k, h.2.1.keptT k, h.2.2.1.keptT k, h.2.2.2.keptT k⟩
set_option maxRecDepth 100000 in
set_option maxHeartbeats 4000000 in
theorem stmts_step {N : Nat} (IH : ∀ M, M < N → GSts M) : GSts N := by
  intro l B b tabs bs W v hN hg hw hL hB hi ht hlen
  have hlc := len_cnt l
  cases hi with
  | nil =>
    go_enter Tryd.func29, Tryd.ntmps29
    go_wp2
    go_loopw [8] (fun i wr => i = .int .i64 0 ∧ wr = W) (fun _ _ => 0)
    case atStart => exact ⟨rfl, rfl⟩
    case round =>
      obtain ⟨rfl, rfl⟩ := hrel
      go_wp2
      go_end0
      exact ⟨rfl, by simpa [stsT] using hw, KW.refl _ _ _⟩
  | node g cap cs fr vs hg0 hb hne hc h1 h2 h3 h4 =>
    have HG := Lib.hid hg
    have HW := Lib.hid hw
    have HL := Lib.hid hL
    have HB := Lib.hid hb
    have HCS := Lib.hid hc
    have HS : Hid (∀ i s, l[i]? = some s → IsSt1 (fun g => 0 ≤ g) W s (vs i)) := Lib.hid fun i s h => ⟨h1 i s h, h2 i s h, h3 i s h, h4 i s h⟩
    have HIH := Lib.hid IH
    clear hg hw hL hb hc h1 h2 h3 h4 IH
    go_enter Tryd.func29, Tryd.ntmps29
    go_wp2
    go_loopw [8] (fun i wr => ∃ k : Nat, i = .int .i64 k ∧ k ≤ l.length ∧ Wr B b (Lib.byteCells (bs ++ stsT (l.take k) tabs)) tabs wr ∧ KW B b W wr) (fun i _ => l.length - (intOf i).toNat)
    case atStart => exact ⟨0, rfl, Nat.zero_le _, by simpa [stsT] using HW.out, KW.refl _ _ _⟩
    case round =>
      obtain ⟨k, rfl, hk, hX, hKx⟩ := hrel
      have HX := Lib.hid hX
      have HKx := Lib.hid hKx
      have hzx := hKx.size
      have KT := hKx.tree (lo := 0) HW.out
      have hbx := (KT.2 g _ _ _ (Nat.zero_le _) HB.out (.inl rfl)).trans HB.out
      by_cases hkl : k < l.length
      · obtain ⟨s, hs⟩ : ∃ s, l[k]? = some s := ⟨l[k], List.getElem?_eq_getElem hkl⟩
        have hsm := List.mem_of_getElem? hs
        have hcc := cnt_mem hsm
        have hcp := cnt_parts s
        have hI := (HS.out k s hs).keptT KT
        obtain ⟨z1, k1, z2, k2, z3, k3, z4, k4, hv⟩ := hI.slices
        have hcs := HCS.out k s hs
        obtain ⟨y1, hy1⟩ : ∃ y, s.ix.length = y := ⟨_, rfl⟩
        obtain ⟨y2, hy2⟩ : ∃ y, s.es.length = y := ⟨_, rfl⟩
        obtain ⟨y3, hy3⟩ : ∃ y, s.bd.length = y := ⟨_, rfl⟩
        obtain ⟨y4, hy4⟩ : ∃ y, s.el.length = y := ⟨_, rfl⟩
        rw [hy1, hy2, hy3, hy4] at hv
        rw [hv] at hcs hI
        have d0 : wr.cell? ⟨g, k * 9, none⟩ = some (.int .i64 s.k) := by (rw [cell_of_row _ _ _ _ _ _ hbx]; exact hcs 0 _ rfl)
        have d1 : wr.cell? ⟨g, k * 9 + 1, none⟩ = some (.int .i64 s.a) := by (rw [cell_of_row _ _ _ _ _ _ hbx]; exact hcs 1 _ rfl)
        have d2 : wr.cell? ⟨g, k * 9 + 2, none⟩ = some (.bool s.tr) := by (rw [cell_of_row _ _ _ _ _ _ hbx]; exact hcs 2 _ rfl)
        have d3 : wr.cell? ⟨g, k * 9 + 3, none⟩ = some (.bool s.sc) := by (rw [cell_of_row _ _ _ _ _ _ hbx]; exact hcs 3 _ rfl)
        have d4 : wr.cell? ⟨g, k * 9 + 4, none⟩ = some (.string (bstr s.nm)) := by (rw [cell_of_row _ _ _ _ _ _ hbx]; exact hcs 4 _ rfl)
        have d5 : wr.cell? ⟨g, k * 9 + 5, none⟩ = some (.slice z1 y1 k1) := by (rw [cell_of_row _ _ _ _ _ _ hbx]; exact hcs 5 _ rfl)
        have d6 : wr.cell? ⟨g, k * 9 + 6, none⟩ = some (.slice z2 y2 k2) := by (rw [cell_of_row _ _ _ _ _ _ hbx]; exact hcs 6 _ rfl)
        have d7 : wr.cell? ⟨g, k * 9 + 7, none⟩ = some (.slice z3 y3 k3) := by (rw [cell_of_row _ _ _ _ _ _ hbx]; exact hcs 7 _ rfl)
        have d8 : wr.cell? ⟨g, k * 9 + 8, none⟩ = some (.slice z4 y4 k4) := by (rw [cell_of_row _ _ _ _ _ _ hbx]; exact hcs 8 _ rfl)
        have hgl := (Array.getElem?_eq_some_iff.1 hbx).1
        have hA : Below wr.heap.size wr (wr.alloc (.cells #[.int .i64 s.k, .int .i64 s.a, .bool s.tr, .bool s.sc, .string (bstr s.nm), .slice z1 y1 k1, .slice z2 y2 k2, .slice z3 y3 k3, .slice z4 y4 k4] 46)) := below_of_alloc _ _
        have hle := take_sts_le l (k + 1) tabs
        have htk := take_stsT l k tabs s hs
        have hlh : (bs ++ stsT (l.take k) tabs).length + (stT s tabs).length ≤ 100000000000000 := by (rw [htk, List.length_append] at hle; rw [List.length_append]; omega)
        have HST := Lib.hid (stmt_any (s := s) (v := ⟨.slice z1 y1 k1, .slice z2 y2 k2, .slice z3 y3 k3, .slice z4 y4 k4⟩) (Lib.hid (HIH.out (N - 1) (by omega))) (by omega) (hX.stay hA) ((HL.out.b hKx.1).b (hA.mono (by omega))) (by (simp; omega)) (hI.kept fun g' hg' hl' => ⟨hA.block g' hl', hg'⟩) (HG.out s hsm) (by omega) hlh)
        have HTK := Lib.hid htk
        have hlt : (k : Int) < (l.length : Int) := by omega
        have hk0 : (0 : Int) ≤ (k : Int) := Int.natCast_nonneg _
        have SB0 := SBlk.new (X := wr) (n := wr.heap.size) (k := s.k) (a := s.a) (tr := s.tr) (sc := s.sc) (nm := bstr s.nm) (vi := .slice z1 y1 k1) (ve := .slice z2 y2 k2) (vb := .slice z3 y3 k3) (vl := .slice z4 y4 k4) rfl
        obtain ⟨sl, ⟨sc0, sc1, sc2, sc3, sc4, sc5, sc6, sc7, sc8⟩, _⟩ := SB0.facts
        have hBw : B ≤ wr.heap.size := by omega
        clear hX hKx hy1 hy2 hy3 hy4 hv hcs hI hle htk hlh hbx KT hs hsm hcp hA SB0
        go_wp2_with (go_at_call 54; (with_reducible refine (HST.out).mono ?_); rintro e9 w9 ⟨rfl, hw9, hk9⟩)
        go_roundw
        case rel =>
          refine ⟨k + 1, by go_num, Nat.succ_le_of_lt hkl, ?_, HKx.out.trans ((KW.alloc (.refl _ _ _) hBw _).trans hk9)⟩
          rw [HTK.out, ← List.append_assoc]
          exact hw9
        case measure =>
          simp [intOf]
          omega
      · have hlt : ¬ ((k : Int) < (l.length : Int)) := by omega
        obtain rfl : k = l.length := by omega
        clear hX hKx hkl hk
        go_wp2
        go_end0
        refine ⟨rfl, ?_, HKx.out⟩
        have h9 := HX.out
        rw [List.take_length] at h9
        exact h9
theorem stmts_all (N : Nat) : GSts N := by
  induction N using Nat.strongRecOn with
  | ind n ih => exact stmts_step ih
end Go.Proofs.YtkhbbapocamlmaaDoor
namespace Go.Proofs.YtkhbbapocamlmaaDoor
open Go Go.RowKit

theorem wr_new (W : World) (tabs : Int) : Wr W.heap.size W.heap.size [] tabs (W.alloc (.cells #[.pointer none, .slice none 0 0, .int .i64 tabs] 64)) :=
  ⟨Nat.le_refl _, _, _, heap_alloc_new _ _, .inl rfl, ⟨by simp, .inl ⟨rfl, rfl⟩⟩, by simp [Value.ownBlock], fun _ => rfl⟩
theorem lb_new {W : World} (L : Laid W) (o : Obj) : LB W.heap.size (W.alloc o) := ⟨W, L, rfl, below_of_alloc _ _⟩
set_option maxRecDepth 100000 in
set_option maxHeartbeats 4000000 in
theorem stmtsT_any (l : List Stm) (tabs : Nat) (W : World) (v : Value) (T : List UInt8) (hT : stsT l tabs = T) (hg : ∀ s ∈ l, GoodS s) (L : Laid W) (hi : IsSts (fun g => 0 ≤ g) W l v) (ht : tabs + cntS l ≤ 1000000) (hlen : T.length ≤ 100000000000000) :
    Calls Tryd.prog 11 #[v, .int .i64 tabs] W fun e w' => e = .returned (.string (bstr T)) ∧ Below W.heap.size W w' := by
  have hA := below_of_alloc W (.cells #[.pointer none, .slice none 0 0, .int .i64 tabs] 64)
  have HC := Lib.hid (stmts_all (cntS l) l W.heap.size W.heap.size tabs [] _ v (Nat.le_refl _) hg (wr_new W tabs) (lb_new L _) (by simp) (hi.kept fun g hg hl => ⟨hA.block g hl, hg⟩) ht (by rw [hT]; simpa using hlen))
  rw [hT] at HC
  have hcl := (wr_new W tabs).lt
  obtain ⟨p, k, rfl⟩ := hi.form
  obtain ⟨y, hy⟩ : ∃ y, l.length = y := ⟨_, rfl⟩
  rw [hy] at HC ⊢
  have c0 : (W.alloc (.cells #[.pointer none, .slice none 0 0, .int .i64 0] 64)).heap[W.heap.size]? = some (.cells #[.pointer none, .slice none 0 0, .int .i64 0] 64 (0, 0)) := heap_alloc_new _ _
  clear hA hg L hi hT hy c0
  go_enter Tryd.func11, Tryd.ntmps11
  have HCC := Lib.hid HC.out
  go_wp2_with (first
    | (go_at_call 29; (with_reducible refine (HCC.out).mono ?_); rintro e1 w1 ⟨rfl, hw1, hk1⟩)
    | (go_at_call 25; (with_reducible refine (wr_text _ _ _ _ _ (Lib.hid hw1)).mono ?_); rintro e2 w2 ⟨rfl, hb2⟩))
  go_ret
  exact ⟨rfl, ((below_of_alloc _ _).trans hk1.1).trans hb2⟩
end Go.Proofs.YtkhbbapocamlmaaDoor
namespace Go.Proofs.YtkhbbapocamlmaaDoor
open Go Go.RowKit

set_option maxRecDepth 100000 in
theorem r4_limit16 {r4 rb g cap : Nat} {ws : List Wd} {d : Int} {p0 p1 p2 p3 : Value} {W : World} {σ : RS} (S : Hid (A4 W r4 rb g cap ws d p0 p1 p2 p3 σ)) (n : Nat) :
    Calls Tryd.prog 39 #[.pointer (some ⟨r4, 0, none⟩), .int .i64 n, .int .i64 16] W fun e w' => e = .returned (.tuple #[]) ∧ A4 w' r4 rb g cap ws d p0 p1 p2 p3 (limF n 16 σ) ∧ Fr (some rb) W w' := r4_limit S n 16
theorem r4_paramsQ {r4 rb g cap : Nat} {ws : List Wd} {d : Int} {p0 p1 p2 p3 : Value} {W : World} {σ τ : RS} {lp : List Pm} (S : Hid (A4 W r4 rb g cap ws d p0 p1 p2 p3 σ)) (h : paramsF σ = (lp, τ)) :
    Calls Tryd.prog 59 #[.pointer (some ⟨r4, 0, none⟩)] W fun e w' => (∃ p c, e = .returned (.slice p lp.length c) ∧ IsPl (fun g => W.heap.size ≤ g) 106 3 pmCells w' lp (.slice p lp.length c)) ∧ A4 w' r4 rb g cap ws d p0 p1 p2 p3 τ ∧ Fr (some rb) W w' := by
  have := r4_params S
  rwa [h] at this
set_option maxRecDepth 100000 in
set_option maxHeartbeats 4000000 in
theorem rfn_no {r4 rb g cap B k m n d : Nat} {ws : List Wd} {p : Option Addr} {p0 p1 p3 : Value} {W : World} {x : Wd} {tt : List Wd} {σ : RS} {c0 : Int} {b0 : Nat} (S : Hid (A4 W r4 rb g cap ws d p0 p1 (.slice p m k) p3 σ)) (hlim : Hid (limF m 16 σ = .bad c0 b0)) :
    Calls Tryd.prog 42 #[.pointer (some ⟨r4, 0, none⟩)] W fun e w' => e = .returned (.tuple #[]) ∧ A4 w' r4 rb g cap ws d p0 p1 (.slice p m k) p3 (.bad c0 b0) ∧ Fr (some rb) W w' := by
  obtain ⟨m0, m1, m2, m3, m4, m5⟩ := S.out.at4.cells
  have ml0 := S.out.at4.lt
  go_enter Tryd.func42, Tryd.ntmps42
  go_wp2_with (first
    | (go_at_call 39; (with_reducible refine (r4_limit16 S m).mono ?_); rintro e1 w1 ⟨rfl, hs1, hf1⟩; have S1 : Hid (A4 w1 r4 rb g cap ws d p0 p1 (.slice p m k) p3 (.bad c0 b0)) := Lib.hid (hlim.out ▸ hs1))
    | (go_at_call 17; (with_reducible refine (r4_ok S1 false rfl).mono ?_); rintro e2 w2 ⟨rfl, hb2⟩))
  first
    | (((try simp only [Exit.inBlock, Exit.then]); refine bodyPost_ret (results_none rfl _ _ _) rfl ?_); exact ⟨rfl, S1.out.stay hb2, hf1.stepB hb2⟩)
    | (go_end0; exact ⟨rfl, S1.out.stay hb2, hf1.stepB hb2⟩)
set_option maxRecDepth 100000 in
set_option maxHeartbeats 4000000 in
theorem rfn_yes {r4 rb g cap B k m n d : Nat} {ws : List Wd} {p : Option Addr} {p0 p1 p3 : Value} {W : World} {x : Wd} {tt : List Wd} {xs : List Value} {nm : List UInt8} {a : Nat} {lp : List Pm} {tr sc : Bool} {lb : List Stm} {ex : Ex} {τ1 τ2 τ3 τ4 τ5 τ6 τ7 τ8 τ9 : RS}
    (S : Hid (A4 W r4 rb g cap ws d p0 p1 (.slice p m k) p3 (.ok (x :: tt)))) (G : Hid (W.ownsRow B 73 12 (.slice p m k) m xs)) (hB : r4 < B ∧ rb < B ∧ g < B ∧ B ≤ W.heap.size) (hl : m ≤ 1000000) (hlim : Hid (limF m 16 (.ok (x :: tt)) = .ok (x :: tt))) (hx : x.k ≠ 3)
    (H1 : Hid (nameF (.ok tt) = ((nm, a), τ1))) (H2 : Hid (paramsF τ1 = (lp, τ2))) (H3 : Hid (kindF τ2 = ((tr, sc), τ3))) (H4 : Hid (τ3.need (⟨#[123]⟩ : ByteArray).data.toList = τ4)) (H5 : Hid (stmtsF n (d + 1) (⟨#[114, 101, 116, 117, 114, 110]⟩ : ByteArray).data.toList τ4 = (lb, τ5))) (H6 : Hid (τ5.need (⟨#[114, 101, 116, 117, 114, 110]⟩ : ByteArray).data.toList = τ6)) (H7 : Hid (exF τ6 = (ex, τ7))) (H8 : Hid (τ7.need (⟨#[59]⟩ : ByteArray).data.toList = τ8)) (H9 : Hid (τ8.need (⟨#[125]⟩ : ByteArray).data.toList = τ9))
    (HG : Hid (GStmts r4 rb g ws n)) (hlen : 3 * τ4.len + 1 ≤ n) (hd : d + 1 ≤ 32) :
    Calls Tryd.prog 42 #[.pointer (some ⟨r4, 0, none⟩)] W fun e w' => e = .returned (.tuple #[]) ∧ ∃ q, A4 w' r4 rb g cap ws d p0 p1 q p3 τ9 ∧ Fr3 r4 rb (Value.slice p m k).ownBlock W w' ∧ ∀ t, τ9 = .ok t → ∃ fv, w'.ownsRow B 73 12 q (m + 1) (xs ++ fnCells ⟨a, nm, lp, tr, sc, lb, ex⟩ fv) ∧ IsFn1 (fun b => W.heap.size ≤ b) w' ⟨a, nm, lp, tr, sc, lb, ex⟩ fv := by
  have hBW := hB.2.2.2
  have HLT : Hid (∀ j, (Value.slice p m k).ownBlock = some j → B ≤ j ∧ j < W.heap.size) := Lib.hid G.out.lt
  obtain ⟨i0, hinf, hzi0, hzi1, hzi2⟩ := info_parts infoFn
  obtain ⟨m0, m1, m2, m3, m4, m5⟩ := S.out.at4.cells
  have ml0 := S.out.at4.lt
  go_enter Tryd.func42, Tryd.ntmps42
  go_upto_region 2 with (first
    | (go_at_call 39; (with_reducible refine (r4_limit16 S m).mono ?_); rintro e1 w1 ⟨rfl, hs1, hf1⟩; have S1 : Hid (A4 w1 r4 rb g cap ws d p0 p1 (.slice p m k) p3 (.ok (x :: tt))) := Lib.hid (hlim.out ▸ hs1))
    | (go_at_call 17; (with_reducible refine (r4_ok S1 true rfl).mono ?_); rintro e2 w2 ⟨rfl, hb2⟩; have S2 := Lib.hid (S1.out.stay hb2)))
  have F2 : Fr (some rb) W w2 := hf1.stepB hb2
  clear m0 m1 m2 m3 m4 m5 ml0
  obtain ⟨q4l, qbl, qgl⟩ := S2.out.blk
  obtain ⟨i, a9, R0, h5, _, _, _⟩ := S2.out.st.ok_cells S2.out.env
  obtain ⟨m0, _, _, _, _, _⟩ := S2.out.at4.cells
  obtain ⟨q0, q1, q2, q3, q4⟩ := R0.rd.cells
  have hlr := R0.rd.lt
  have hfr := R0.rd.frozen 1
  go_upto_region 3 with (fail)
  refine name_world ?_
  intro w3 hw3
  have F9 : Fr (some rb) w2 (w2.setCell ⟨rb, 1, none⟩ (.int .i64 ((i : Int) + 1))) := (Fr.refl _ _).set (.inl rfl) _ _
  have S3 : Hid (A4 w3 r4 rb g cap ws d p0 p1 (.slice p m k) p3 (.ok tt)) := Lib.hid (by (rw [hw3]; exact S2.out.fr F9 (st_adv S2.out.st R0 hx h5)))
  have F3 : Fr3 r4 rb none W w3 := by (rw [hw3]; exact .of (F2.step F9))
  have hz3 := F3.1.1
  clear hw3 m0 q0 q1 q2 q3 q4 R0 h5 F9 hlr hfr q4l qbl qgl
  obtain ⟨q4l, qbl, qgl⟩ := S3.out.blk
  have FB3 := FBlk.new (X := w3) (a := 0) (nm := ⟨#[]⟩) (pv := (.slice none 0 0)) (tr := false) (sc := false) (bv := (.slice none 0 0)) (k := 0) (q := 0) (n := 0) (s := ⟨#[]⟩) (kv := (.slice none 0 0)) (xa := 0) rfl
  have S3' := Lib.hid (S3.out.alloc (.cells #[.int .i64 0, .string ⟨#[]⟩, .slice none 0 0, .bool false, .bool false, .slice none 0 0, .int .i64 0, .int .i64 0, .int .i64 0, .string ⟨#[]⟩, .slice none 0 0, .int .i64 0] 73))
  go_upto_region 5 with (go_at_call 40; (with_reducible refine (r4_name S3' H1.out).mono ?_); rintro e4 w4 ⟨rfl, hs4, hf4⟩; have hz4 := Fr.size hf4; (try simp only [World.size_alloc] at hz4))
  refine name_world ?_
  intro w5 hw5
  have FB5 : FBlk w5 w3.heap.size 0 ⟨#[]⟩ (.slice none 0 0) false false (.slice none 0 0) 0 0 0 ⟨#[]⟩ (.slice none 0 0) 0 := by (rw [hw5]; exact (FB3.fr hf4 (by omega)).alloc _)
  have TB5 : TBlk w5 w4.heap.size (bstr nm) a := by (rw [hw5]; exact TBlk.new rfl)
  have S5 : Hid (A4 w5 r4 rb g cap ws d p0 p1 (.slice p m k) p3 τ1) := Lib.hid (by (rw [hw5]; exact hs4.alloc _))
  have F5 : Fr3 r4 rb none W w5 := by (rw [hw5]; exact ((F3.alloc _).step hf4).alloc _)
  have hz5 : w3.heap.size < w5.heap.size := by (rw [hw5]; simp; omega)
  obtain ⟨fl, ⟨fc0, fc1, fc2, fc3, fc4, fc5, fc6, fc7, fc8, fc9, fc10, fc11⟩, ff0, ff1, ff2, ff3, ff4, ff5, ff6, ff7, ff8, ff9, ff10, ff11⟩ := FB5.facts
  obtain ⟨tl5, tc0, tc1, tf0, tf1⟩ := TB5.facts
  clear hw5
  go_upto_region 7 with (fail)
  refine name_world ?_
  intro w6 hw6
  have FB6 : FBlk w6 w3.heap.size a (bstr nm) (.slice none 0 0) false false (.slice none 0 0) 0 0 0 ⟨#[]⟩ (.slice none 0 0) 0 := by (rw [hw6]; exact (FB5.set1 _).set0 _)
  have S6 : Hid (A4 w6 r4 rb g cap ws d p0 p1 (.slice p m k) p3 τ1) := Lib.hid (by (rw [hw6]; exact (S5.out.setO (by omega) (by omega) (by omega) _ _).setO (by omega) (by omega) (by omega) _ _))
  have F6 : Fr3 r4 rb none W w6 := by (rw [hw6]; exact (F5.set (.inr (.inr (by omega))) _ _).set (.inr (.inr (by omega))) _ _)
  have hz6 : w3.heap.size < w6.heap.size := by (rw [hw6]; simpa using hz5)
  clear hw6 tl5 tc0 tc1 tf0 tf1 fl fc0 fc1 fc2 fc3 fc4 fc5 fc6 fc7 fc8 fc9 fc10 fc11 ff0 ff1 ff2 ff3 ff4 ff5 ff6 ff7 ff8 ff9 ff10 ff11 FB5 TB5 S5 F5 hz5 hs4 hf4 S3' FB3
  have hne : rb ≠ w3.heap.size ∧ r4 ≠ w3.heap.size ∧ g ≠ w3.heap.size ∧ w3.heap.size ≠ rb := by omega
  have hlo : W.heap.size ≤ w6.heap.size := F6.1.1
  have hq6 : w6.heap.size ≤ w6.heap.size := Nat.le_refl _
  obtain ⟨fl, ⟨fc0, fc1, fc2, fc3, fc4, fc5, fc6, fc7, fc8, fc9, fc10, fc11⟩, ff0, ff1, ff2, ff3, ff4, ff5, ff6, ff7, ff8, ff9, ff10, ff11⟩ := FB6.facts
  go_upto_region 8 with (go_at_call 59; (with_reducible refine (r4_paramsQ S6 H2.out).mono ?_); rintro e w ⟨⟨zp, zc, rfl, hp7⟩, hs, hf⟩; have BQ := FB6.fr hf hne.2.2.2; obtain ⟨gl, ⟨gc0, gc1, gc2, gc3, gc4, gc5, gc6, gc7, gc8, gc9, gc10, gc11⟩, gf0, gf1, gf2, gf3, gf4, gf5, gf6, gf7, gf8, gf9, gf10, gf11⟩ := BQ.facts)
  refine name_world ?_
  intro w7 hw7
  have FB7 : FBlk w7 w3.heap.size a (bstr nm) (.slice zp lp.length zc) false false (.slice none 0 0) 0 0 0 ⟨#[]⟩ (.slice none 0 0) 0 := by (rw [hw7]; exact (BQ.set2 _))
  have S7 : Hid (A4 w7 r4 rb g cap ws d p0 p1 (.slice p m k) p3 τ2) := Lib.hid (by (rw [hw7]; exact (hs.setO hne.2.1 hne.1 hne.2.2.1 _ _)))
  have F7 : Fr3 r4 rb none W w7 := by (rw [hw7]; exact ((F6.step hf).set (.inr (.inr (by omega))) _ _))
  have Hi7 : Hi w6.heap.size w6 w7 := by (rw [hw7]; exact (((Hi.refl w6.heap.size w6).fr hf (by omega)).set (by omega) _ _))
  have hz7 : w3.heap.size < w7.heap.size := by (have := Hi7.1; omega)
  have hq7 : w6.heap.size ≤ w7.heap.size := Nat.le_trans hq6 Hi7.1
  have XP := Lib.hid (show IsPl (fun g => w6.heap.size ≤ g) 106 3 pmCells w7 lp (.slice zp lp.length zc) by (rw [hw7]; exact (hp7.hi ((Hi.refl _ _).set (by omega) _ _))))
  clear hw7 fl fc0 fc1 fc2 fc3 fc4 fc5 fc6 fc7 fc8 fc9 fc10 fc11 ff0 ff1 ff2 ff3 ff4 ff5 ff6 ff7 ff8 ff9 ff10 ff11 gc0 gc1 gc2 gc3 gc4 gc5 gc6 gc7 gc8 gc9 gc10 gc11 gf0 gf1 gf2 gf3 gf4 gf5 gf6 gf7 gf8 gf9 gf10 gf11 gl BQ hs hf FB6 S6 F6
  obtain ⟨fl, ⟨fc0, fc1, fc2, fc3, fc4, fc5, fc6, fc7, fc8, fc9, fc10, fc11⟩, ff0, ff1, ff2, ff3, ff4, ff5, ff6, ff7, ff8, ff9, ff10, ff11⟩ := FB7.facts
  go_upto_region 9 with (go_at_call 60; (with_reducible refine (r4_kind S7 H3.out).mono ?_); rintro e w ⟨rfl, hs, hf⟩; have BQ := FB7.fr hf hne.2.2.2; obtain ⟨gl, ⟨gc0, gc1, gc2, gc3, gc4, gc5, gc6, gc7, gc8, gc9, gc10, gc11⟩, gf0, gf1, gf2, gf3, gf4, gf5, gf6, gf7, gf8, gf9, gf10, gf11⟩ := BQ.facts)
  refine name_world ?_
  intro w8 hw8
  have FB8 : FBlk w8 w3.heap.size a (bstr nm) (.slice zp lp.length zc) tr sc (.slice none 0 0) 0 0 0 ⟨#[]⟩ (.slice none 0 0) 0 := by (rw [hw8]; exact ((BQ.set3 _).set4 _))
  have S8 : Hid (A4 w8 r4 rb g cap ws d p0 p1 (.slice p m k) p3 τ3) := Lib.hid (by (rw [hw8]; exact ((hs.setO hne.2.1 hne.1 hne.2.2.1 _ _).setO hne.2.1 hne.1 hne.2.2.1 _ _)))
  have F8 : Fr3 r4 rb none W w8 := by (rw [hw8]; exact (((F7.step hf).set (.inr (.inr (by omega))) _ _).set (.inr (.inr (by omega))) _ _))
  have Hi8 : Hi w6.heap.size w7 w8 := by (rw [hw8]; exact ((((Hi.refl w6.heap.size w7).fr hf (by omega)).set (by omega) _ _).set (by omega) _ _))
  have hz8 : w3.heap.size < w8.heap.size := by (have := Hi8.1; omega)
  have hq8 : w6.heap.size ≤ w8.heap.size := Nat.le_trans hq7 Hi8.1
  have XP' := Lib.hid (XP.out.hi Hi8)
  clear XP
  clear hw8 fl fc0 fc1 fc2 fc3 fc4 fc5 fc6 fc7 fc8 fc9 fc10 fc11 ff0 ff1 ff2 ff3 ff4 ff5 ff6 ff7 ff8 ff9 ff10 ff11 gc0 gc1 gc2 gc3 gc4 gc5 gc6 gc7 gc8 gc9 gc10 gc11 gf0 gf1 gf2 gf3 gf4 gf5 gf6 gf7 gf8 gf9 gf10 gf11 gl BQ hs hf FB7 S7 F7
  obtain ⟨fl, ⟨fc0, fc1, fc2, fc3, fc4, fc5, fc6, fc7, fc8, fc9, fc10, fc11⟩, ff0, ff1, ff2, ff3, ff4, ff5, ff6, ff7, ff8, ff9, ff10, ff11⟩ := FB8.facts
  go_upto_region 10 with (go_at_call 41; (with_reducible refine (r4_need S8 _ _ H4).mono ?_); rintro e w ⟨rfl, hs, hf⟩; have BQ := FB8.fr hf hne.2.2.2; obtain ⟨gl, ⟨gc0, gc1, gc2, gc3, gc4, gc5, gc6, gc7, gc8, gc9, gc10, gc11⟩, gf0, gf1, gf2, gf3, gf4, gf5, gf6, gf7, gf8, gf9, gf10, gf11⟩ := BQ.facts)
  refine name_world ?_
  intro w9 hw9
  have FB9 : FBlk w9 w3.heap.size a (bstr nm) (.slice zp lp.length zc) tr sc (.slice none 0 0) 0 0 0 ⟨#[]⟩ (.slice none 0 0) 0 := by (rw [hw9]; exact BQ)
  have S9 : Hid (A4 w9 r4 rb g cap ws d p0 p1 (.slice p m k) p3 τ4) := Lib.hid (by (rw [hw9]; exact hs))
  have F9 : Fr3 r4 rb none W w9 := by (rw [hw9]; exact (F8.step hf))
  have Hi9 : Hi w6.heap.size w8 w9 := by (rw [hw9]; exact ((Hi.refl w6.heap.size w8).fr hf (by omega)))
  have hz9 : w3.heap.size < w9.heap.size := by (have := Hi9.1; omega)
  have hq9 : w6.heap.size ≤ w9.heap.size := Nat.le_trans hq8 Hi9.1
  have XP'' := Lib.hid (XP'.out.hi Hi9)
  clear XP'
  clear hw9 fl fc0 fc1 fc2 fc3 fc4 fc5 fc6 fc7 fc8 fc9 fc10 fc11 ff0 ff1 ff2 ff3 ff4 ff5 ff6 ff7 ff8 ff9 ff10 ff11 gc0 gc1 gc2 gc3 gc4 gc5 gc6 gc7 gc8 gc9 gc10 gc11 gf0 gf1 gf2 gf3 gf4 gf5 gf6 gf7 gf8 gf9 gf10 gf11 gl BQ hs hf FB8 S8 F8
  obtain ⟨m0, m1, _, _, _, _⟩ := S9.out.at4.cells
  have ml := S9.out.at4.lt
  have mf := S9.out.at4.frozen 1
  go_upto_region 11 with (fail)
  refine name_world ?_
  intro w10 hw10
  have hd1 : ((d + 1 : Nat) : Int) = (d : Int) + 1 := by omega
  have FB10 : FBlk w10 w3.heap.size a (bstr nm) (.slice zp lp.length zc) tr sc (.slice none 0 0) 0 0 0 ⟨#[]⟩ (.slice none 0 0) 0 := by (rw [hw10]; exact FB9.setO hne.2.1.symm _ _)
  have S10 : Hid (A4 w10 r4 rb g cap ws ((d + 1 : Nat) : Int) p0 p1 (.slice p m k) p3 τ4) := Lib.hid (by (rw [hw10]; exact S9.out.setD _))
  have F10 : Fr3 r4 rb none W w10 := by (rw [hw10]; exact F9.set (.inl rfl) _ _)
  have Hi10 : Hi w6.heap.size w9 w10 := by (rw [hw10]; exact (Hi.refl _ _).set (by omega) _ _)
  have hz10 : w3.heap.size < w10.heap.size := by (have := Hi10.1; omega)
  have hq10 : w6.heap.size ≤ w10.heap.size := Nat.le_trans hq9 Hi10.1
  have XP''' := Lib.hid (XP''.out.hi Hi10)
  clear XP''
  clear hw10 m0 m1 mf ml hd1 FB9 S9 F9
  obtain ⟨fl, ⟨fc0, fc1, fc2, fc3, fc4, fc5, fc6, fc7, fc8, fc9, fc10, fc11⟩, ff0, ff1, ff2, ff3, ff4, ff5, ff6, ff7, ff8, ff9, ff10, ff11⟩ := FB10.facts
  go_upto_region 12 with (go_at_call 61; (with_reducible refine (HG.out.use S10 hlen (.inl hd) _ H5.out).mono ?_); rintro e w ⟨⟨bp, bm, bc, rfl, hb12⟩, hs, hf⟩; have BQ := FB10.fr hf hne.2.2.2; obtain ⟨gl, ⟨gc0, gc1, gc2, gc3, gc4, gc5, gc6, gc7, gc8, gc9, gc10, gc11⟩, gf0, gf1, gf2, gf3, gf4, gf5, gf6, gf7, gf8, gf9, gf10, gf11⟩ := BQ.facts)
  refine name_world ?_
  intro w11 hw11
  have FB11 : FBlk w11 w3.heap.size a (bstr nm) (.slice zp lp.length zc) tr sc (.slice bp bm bc) 0 0 0 ⟨#[]⟩ (.slice none 0 0) 0 := by (rw [hw11]; exact (BQ.set5 _))
  have S11 : Hid (A4 w11 r4 rb g cap ws ((d + 1 : Nat) : Int) p0 p1 (.slice p m k) p3 τ5) := Lib.hid (by (rw [hw11]; exact (hs.setO hne.2.1 hne.1 hne.2.2.1 _ _)))
  have F11 : Fr3 r4 rb none W w11 := by (rw [hw11]; exact ((F10.step hf).set (.inr (.inr (by omega))) _ _))
  have Hi11 : Hi w6.heap.size w10 w11 := by (rw [hw11]; exact (((Hi.refl w6.heap.size w10).fr hf (by omega)).set (by omega) _ _))
  have hz11 : w3.heap.size < w11.heap.size := by (have := Hi11.1; omega)
  have hq11 : w6.heap.size ≤ w11.heap.size := Nat.le_trans hq10 Hi11.1
  have XB := Lib.hid (show ∀ t, τ5 = .ok t → IsSts (fun g => w6.heap.size ≤ g) w11 lb (.slice bp bm bc) from fun t ht => by (rw [hw11]; exact ((hb12 t ht).lo (by omega)).hi ((Hi.refl _ _).set (by omega) _ _)))
  have XP'''' := Lib.hid (XP'''.out.hi Hi11)
  clear XP'''
  clear hw11 fl fc0 fc1 fc2 fc3 fc4 fc5 fc6 fc7 fc8 fc9 fc10 fc11 ff0 ff1 ff2 ff3 ff4 ff5 ff6 ff7 ff8 ff9 ff10 ff11 gc0 gc1 gc2 gc3 gc4 gc5 gc6 gc7 gc8 gc9 gc10 gc11 gf0 gf1 gf2 gf3 gf4 gf5 gf6 gf7 gf8 gf9 gf10 gf11 gl BQ hs hf FB10 S10 F10
  obtain ⟨fl, ⟨fc0, fc1, fc2, fc3, fc4, fc5, fc6, fc7, fc8, fc9, fc10, fc11⟩, ff0, ff1, ff2, ff3, ff4, ff5, ff6, ff7, ff8, ff9, ff10, ff11⟩ := FB11.facts
  go_upto_region 13 with (go_at_call 41; (with_reducible refine (r4_need S11 _ _ H6).mono ?_); rintro e w ⟨rfl, hs, hf⟩; have BQ := FB11.fr hf hne.2.2.2; obtain ⟨gl, ⟨gc0, gc1, gc2, gc3, gc4, gc5, gc6, gc7, gc8, gc9, gc10, gc11⟩, gf0, gf1, gf2, gf3, gf4, gf5, gf6, gf7, gf8, gf9, gf10, gf11⟩ := BQ.facts)
  refine name_world ?_
  intro w12 hw12
  have FB12 : FBlk w12 w3.heap.size a (bstr nm) (.slice zp lp.length zc) tr sc (.slice bp bm bc) 0 0 0 ⟨#[]⟩ (.slice none 0 0) 0 := by (rw [hw12]; exact BQ)
  have S12 : Hid (A4 w12 r4 rb g cap ws ((d + 1 : Nat) : Int) p0 p1 (.slice p m k) p3 τ6) := Lib.hid (by (rw [hw12]; exact hs))
  have F12 : Fr3 r4 rb none W w12 := by (rw [hw12]; exact (F11.step hf))
  have Hi12 : Hi w6.heap.size w11 w12 := by (rw [hw12]; exact ((Hi.refl w6.heap.size w11).fr hf (by omega)))
  have hz12 : w3.heap.size < w12.heap.size := by (have := Hi12.1; omega)
  have hq12 : w6.heap.size ≤ w12.heap.size := Nat.le_trans hq11 Hi12.1
  have XP''''' := Lib.hid (XP''''.out.hi Hi12)
  clear XP''''
  have XB' := Lib.hid (fun t ht => (XB.out t ht).hi Hi12)
  clear XB
  clear hw12 fl fc0 fc1 fc2 fc3 fc4 fc5 fc6 fc7 fc8 fc9 fc10 fc11 ff0 ff1 ff2 ff3 ff4 ff5 ff6 ff7 ff8 ff9 ff10 ff11 gc0 gc1 gc2 gc3 gc4 gc5 gc6 gc7 gc8 gc9 gc10 gc11 gf0 gf1 gf2 gf3 gf4 gf5 gf6 gf7 gf8 gf9 gf10 gf11 gl BQ hs hf FB11 S11 F11
  obtain ⟨fl, ⟨fc0, fc1, fc2, fc3, fc4, fc5, fc6, fc7, fc8, fc9, fc10, fc11⟩, ff0, ff1, ff2, ff3, ff4, ff5, ff6, ff7, ff8, ff9, ff10, ff11⟩ := FB12.facts
  go_upto_region 14 with (go_at_call 62; (with_reducible refine (r4_exprQ S12 H7.out).mono ?_); rintro e w ⟨⟨ek, eo, en, es, ep, el, ec, ea, rfl, hx14⟩, hs, hf⟩; have BQ := FB12.fr hf hne.2.2.2; obtain ⟨gl, ⟨gc0, gc1, gc2, gc3, gc4, gc5, gc6, gc7, gc8, gc9, gc10, gc11⟩, gf0, gf1, gf2, gf3, gf4, gf5, gf6, gf7, gf8, gf9, gf10, gf11⟩ := BQ.facts)
  refine name_world ?_
  intro w13 hw13
  have FB13 : FBlk w13 w3.heap.size a (bstr nm) (.slice zp lp.length zc) tr sc (.slice bp bm bc) ek eo en es (.slice ep el ec) ea := by (rw [hw13]; exact ((((((BQ.set6 _).set7 _).set8 _).set9 _).set10 _).set11 _))
  have S13 : Hid (A4 w13 r4 rb g cap ws ((d + 1 : Nat) : Int) p0 p1 (.slice p m k) p3 τ7) := Lib.hid (by (rw [hw13]; exact ((((((hs.setO hne.2.1 hne.1 hne.2.2.1 _ _).setO hne.2.1 hne.1 hne.2.2.1 _ _).setO hne.2.1 hne.1 hne.2.2.1 _ _).setO hne.2.1 hne.1 hne.2.2.1 _ _).setO hne.2.1 hne.1 hne.2.2.1 _ _).setO hne.2.1 hne.1 hne.2.2.1 _ _)))
  have F13 : Fr3 r4 rb none W w13 := by (rw [hw13]; exact (((((((F12.step hf).set (.inr (.inr (by omega))) _ _).set (.inr (.inr (by omega))) _ _).set (.inr (.inr (by omega))) _ _).set (.inr (.inr (by omega))) _ _).set (.inr (.inr (by omega))) _ _).set (.inr (.inr (by omega))) _ _))
  have Hi13 : Hi w6.heap.size w12 w13 := by (rw [hw13]; exact ((((((((Hi.refl w6.heap.size w12).fr hf (by omega)).set (by omega) _ _).set (by omega) _ _).set (by omega) _ _).set (by omega) _ _).set (by omega) _ _).set (by omega) _ _))
  have hz13 : w3.heap.size < w13.heap.size := by (have := Hi13.1; omega)
  have hq13 : w6.heap.size ≤ w13.heap.size := Nat.le_trans hq12 Hi13.1
  have XX := Lib.hid (show ∀ t, τ7 = .ok t → VEx w6.heap.size w13 ex ek eo en es ep el ec ea from fun t ht => by (rw [hw13]; exact ((hx14 t ht).low (by omega)).kept fun j hj hl => (((((((Hi.refl w6.heap.size _).set (show w3.heap.size < w6.heap.size by omega) _ _).set (show w3.heap.size < w6.heap.size by omega) _ _).set (show w3.heap.size < w6.heap.size by omega) _ _).set (show w3.heap.size < w6.heap.size by omega) _ _).set (show w3.heap.size < w6.heap.size by omega) _ _).set (show w3.heap.size < w6.heap.size by omega) _ _).2 j hj hl))
  have XP'''''' := Lib.hid (XP'''''.out.hi Hi13)
  clear XP'''''
  have XB'' := Lib.hid (fun t ht => (XB'.out t ht).hi Hi13)
  clear XB'
  clear hw13 fl fc0 fc1 fc2 fc3 fc4 fc5 fc6 fc7 fc8 fc9 fc10 fc11 ff0 ff1 ff2 ff3 ff4 ff5 ff6 ff7 ff8 ff9 ff10 ff11 gc0 gc1 gc2 gc3 gc4 gc5 gc6 gc7 gc8 gc9 gc10 gc11 gf0 gf1 gf2 gf3 gf4 gf5 gf6 gf7 gf8 gf9 gf10 gf11 gl BQ hs hf FB12 S12 F12
  obtain ⟨fl, ⟨fc0, fc1, fc2, fc3, fc4, fc5, fc6, fc7, fc8, fc9, fc10, fc11⟩, ff0, ff1, ff2, ff3, ff4, ff5, ff6, ff7, ff8, ff9, ff10, ff11⟩ := FB13.facts
  go_upto_region 15 with (go_at_call 41; (with_reducible refine (r4_need S13 _ _ H8).mono ?_); rintro e w ⟨rfl, hs, hf⟩; have BQ := FB13.fr hf hne.2.2.2; obtain ⟨gl, ⟨gc0, gc1, gc2, gc3, gc4, gc5, gc6, gc7, gc8, gc9, gc10, gc11⟩, gf0, gf1, gf2, gf3, gf4, gf5, gf6, gf7, gf8, gf9, gf10, gf11⟩ := BQ.facts)
  refine name_world ?_
  intro w14 hw14
  have FB14 : FBlk w14 w3.heap.size a (bstr nm) (.slice zp lp.length zc) tr sc (.slice bp bm bc) ek eo en es (.slice ep el ec) ea := by (rw [hw14]; exact BQ)
  have S14 : Hid (A4 w14 r4 rb g cap ws ((d + 1 : Nat) : Int) p0 p1 (.slice p m k) p3 τ8) := Lib.hid (by (rw [hw14]; exact hs))
  have F14 : Fr3 r4 rb none W w14 := by (rw [hw14]; exact (F13.step hf))
  have Hi14 : Hi w6.heap.size w13 w14 := by (rw [hw14]; exact ((Hi.refl w6.heap.size w13).fr hf (by omega)))
  have hz14 : w3.heap.size < w14.heap.size := by (have := Hi14.1; omega)
  have hq14 : w6.heap.size ≤ w14.heap.size := Nat.le_trans hq13 Hi14.1
  have XP''''''' := Lib.hid (XP''''''.out.hi Hi14)
  clear XP''''''
  have XB''' := Lib.hid (fun t ht => (XB''.out t ht).hi Hi14)
  clear XB''
  have XX' := Lib.hid (fun t ht => (XX.out t ht).kept fun j hj hl => Hi14.2 j hj hl)
  clear XX
  clear hw14 fl fc0 fc1 fc2 fc3 fc4 fc5 fc6 fc7 fc8 fc9 fc10 fc11 ff0 ff1 ff2 ff3 ff4 ff5 ff6 ff7 ff8 ff9 ff10 ff11 gc0 gc1 gc2 gc3 gc4 gc5 gc6 gc7 gc8 gc9 gc10 gc11 gf0 gf1 gf2 gf3 gf4 gf5 gf6 gf7 gf8 gf9 gf10 gf11 gl BQ hs hf FB13 S13 F13
  obtain ⟨O, hO⟩ : ∃ O : Int, O = ((d + 1 : Nat) : Int) := ⟨_, rfl⟩
  have HO := Lib.hid hO
  have S14' : Hid (A4 w14 r4 rb g cap ws O p0 p1 (.slice p m k) p3 τ8) := Lib.hid (hO ▸ S14.out)
  clear hO
  clear S14
  have S14 := S14'
  clear S14'
  obtain ⟨fl, ⟨fc0, fc1, fc2, fc3, fc4, fc5, fc6, fc7, fc8, fc9, fc10, fc11⟩, ff0, ff1, ff2, ff3, ff4, ff5, ff6, ff7, ff8, ff9, ff10, ff11⟩ := FB14.facts
  go_upto_region 16 with (go_at_call 41; (with_reducible refine (r4_need S14 _ _ H9).mono ?_); rintro e w ⟨rfl, hs, hf⟩; have BQ := FB14.fr hf hne.2.2.2; obtain ⟨gl, ⟨gc0, gc1, gc2, gc3, gc4, gc5, gc6, gc7, gc8, gc9, gc10, gc11⟩, gf0, gf1, gf2, gf3, gf4, gf5, gf6, gf7, gf8, gf9, gf10, gf11⟩ := BQ.facts)
  refine name_world ?_
  intro w15 hw15
  have FB15 : FBlk w15 w3.heap.size a (bstr nm) (.slice zp lp.length zc) tr sc (.slice bp bm bc) ek eo en es (.slice ep el ec) ea := by (rw [hw15]; exact BQ)
  have S15 : Hid (A4 w15 r4 rb g cap ws O p0 p1 (.slice p m k) p3 τ9) := Lib.hid (by (rw [hw15]; exact hs))
  have F15 : Fr3 r4 rb none W w15 := by (rw [hw15]; exact (F14.step hf))
  have Hi15 : Hi w6.heap.size w14 w15 := by (rw [hw15]; exact ((Hi.refl w6.heap.size w14).fr hf (by omega)))
  have hz15 : w3.heap.size < w15.heap.size := by (have := Hi15.1; omega)
  have hq15 : w6.heap.size ≤ w15.heap.size := Nat.le_trans hq14 Hi15.1
  have XP'''''''' := Lib.hid (XP'''''''.out.hi Hi15)
  clear XP'''''''
  have XB'''' := Lib.hid (fun t ht => (XB'''.out t ht).hi Hi15)
  clear XB'''
  have XX'' := Lib.hid (fun t ht => (XX'.out t ht).kept fun j hj hl => Hi15.2 j hj hl)
  clear XX'
  clear hw15 fl fc0 fc1 fc2 fc3 fc4 fc5 fc6 fc7 fc8 fc9 fc10 fc11 ff0 ff1 ff2 ff3 ff4 ff5 ff6 ff7 ff8 ff9 ff10 ff11 gc0 gc1 gc2 gc3 gc4 gc5 gc6 gc7 gc8 gc9 gc10 gc11 gf0 gf1 gf2 gf3 gf4 gf5 gf6 gf7 gf8 gf9 gf10 gf11 gl BQ hs hf FB14 S14 F14
  obtain ⟨m0, m1, _, _, _, _⟩ := S15.out.at4.cells
  have ml := S15.out.at4.lt
  have mf := S15.out.at4.frozen 1
  go_upto_region 17 with (fail)
  refine name_world ?_
  intro w16 hw16
  have hwd : wrap64 (O - 1) = (d : Int) := by (rw [HO.out]; unfold wrap64; omega)
  have FB16 : FBlk w16 w3.heap.size a (bstr nm) (.slice zp lp.length zc) tr sc (.slice bp bm bc) ek eo en es (.slice ep el ec) ea := by (rw [hw16]; exact FB15.setO hne.2.1.symm _ _)
  have S16 : Hid (A4 w16 r4 rb g cap ws d p0 p1 (.slice p m k) p3 τ9) := Lib.hid (by (rw [hw16]; first | exact S15.out.setD _ | (rw [hwd]; exact S15.out.setD _)))
  have F16 : Fr3 r4 rb none W w16 := by (rw [hw16]; exact F15.set (.inl rfl) _ _)
  have Hi16 : Hi w6.heap.size w15 w16 := by (rw [hw16]; exact (Hi.refl _ _).set (by omega) _ _)
  have hz16 : w3.heap.size < w16.heap.size := by (have := Hi16.1; omega)
  have hq16 : w6.heap.size ≤ w16.heap.size := Nat.le_trans hq15 Hi16.1
  have XP''''''''' := Lib.hid (XP''''''''.out.hi Hi16)
  clear XP''''''''
  have XB''''' := Lib.hid (fun t ht => (XB''''.out t ht).hi Hi16)
  clear XB''''
  have XX''' := Lib.hid (fun t ht => (XX''.out t ht).kept fun j hj hl => Hi16.2 j hj hl)
  clear XX''
  clear hw16 hwd m0 m1 mf ml FB15 S15 F15
  have G16 : w16.ownsRow B 73 12 (.slice p m k) m xs := own_fr0 G.out F16 hB.1 hB.2.1
  have hzW := F16.1.1
  obtain ⟨fl, ⟨fc0, fc1, fc2, fc3, fc4, fc5, fc6, fc7, fc8, fc9, fc10, fc11⟩, ff0, ff1, ff2, ff3, ff4, ff5, ff6, ff7, ff8, ff9, ff10, ff11⟩ := FB16.facts
  obtain ⟨m0, m1, m2, m3, m4, m5⟩ := S16.out.at4.cells
  have ml := S16.out.at4.lt
  have mf := S16.out.at4.frozen 4
  have hown : ∀ k', k' < B → some k' ≠ (Value.slice p m k).ownBlock := fun k' hk e => by (have := (HLT.out k' e.symm).1; omega)
  go_region_law (refine step_append_lies _ (by rfl) _ _ _ (by rfl) B 73 i0 _ 12 152 Tryd.underlying25 hinf hzi0 hzi1 hzi2 rfl (by decide) (.slice p m k) m xs (by rfl) (own_below G16 (by (repeat (first | (with_reducible exact Below.refl _ _) | (with_reducible refine Below.alloc ?_ (by first | omega | (simp; omega)) _) | (with_reducible refine Below.drewN ?_ _) | (with_reducible refine Below.drew ?_) | (with_reducible refine Below.setCell ?_ (by first | omega | (simp; omega)) _) | (with_reducible refine Below.trans ?_ (by assumption)))))) ⟨_, 0, none⟩ 1 1 [.int .i64 a, .string (bstr nm), .slice zp lp.length zc, .bool tr, .bool sc, .slice bp bm bc, .int .i64 ek, .int .i64 eo, .int .i64 en, .string es, .slice ep el ec, .int .i64 ea] (by rfl) (by rfl) (World.news_of_block (heap_alloc_new _ _)) raw12_one (by decide) (by unfold maxLen; omega) (by omega) (by simp; omega) _ rfl ?_; intro gg cap6 w30 hown9 hgrow9 hor9 hlt9; have hgr9 : World.grownBy _ w30 (Value.slice p m k).ownBlock := hgrow9; have S30 := Lib.hid (((S16.out.drew).alloc (.cells #[.int .i64 a, .string (bstr nm), .slice zp lp.length zc, .bool tr, .bool sc, .slice bp bm bc, .int .i64 ek, .int .i64 eo, .int .i64 en, .string es, .slice ep el ec, .int .i64 ea] 73)).grow hgr9 (hown _ hB.1) (hown _ hB.2.1) (hown _ hB.2.2.1)); obtain ⟨n0, n1, n2, n3, n4, n5⟩ := S30.out.at4.cells; have nl := S30.out.at4.lt; have nf := S30.out.at4.frozen 4)
  all_goals go_end0
  all_goals
    have FR : Fr3 r4 rb (Value.slice p m k).ownBlock W (w30.setCell ⟨r4, 4, none⟩ (.slice (some ⟨gg, 0, none⟩) (m + 1) cap6)) := ((((F16.drew).alloc (.cells #[.int .i64 a, .string (bstr nm), .slice zp lp.length zc, .bool tr, .bool sc, .slice bp bm bc, .int .i64 ek, .int .i64 eo, .int .i64 en, .string es, .slice ep el ec, .int .i64 ea] 73)).grow hgr9).set (.inl rfl) _ _)
    refine ⟨rfl, _, S30.out.set4 _, FR, fun t ht => ?_⟩
    have h := own_fr hown9 ((Fr.refl (some r4) _).set (.inl rfl) 4 (.slice (some ⟨gg, 0, none⟩) (m + 1) cap6)) hB.1
    have HI : Hi w6.heap.size w16 (w30.setCell ⟨r4, 4, none⟩ (.slice (some ⟨gg, 0, none⟩) (m + 1) cap6)) := by
      have h1 : Hi w6.heap.size w16 ((w16.drew).alloc (.cells #[.int .i64 a, .string (bstr nm), .slice zp lp.length zc, .bool tr, .bool sc, .slice bp bm bc, .int .i64 ek, .int .i64 eo, .int .i64 en, .string es, .slice ep el ec, .int .i64 ea] 73)) := (Hi.refl _ _).stay (((Below.refl _ _).drew).alloc (Nat.le_refl _) _)
      refine Hi.set ⟨Nat.le_trans h1.1 hgr9.size, fun g' hg' hl' => (hgr9.block g' (Nat.lt_of_lt_of_le hl' h1.1) (fun e => ?_)).trans (h1.2 g' hg' hl')⟩ (by omega) _ _
      have := (HLT.out g' e.symm).2
      omega
    obtain ⟨t8, ht8⟩ := needQ_ok H9.out ht
    obtain ⟨t7, ht7⟩ := needQ_ok H8.out ht8
    obtain ⟨t6, ht6⟩ := exQ_ok H7.out ht7
    obtain ⟨t5, ht5⟩ := needQ_ok H6.out ht6
    have hx := (XX'''.out t7 ht7).kept fun j hj hl => HI.2 j hj hl
    obtain ⟨rfl, rfl, rfl, rfl, rfl, rfl, hk⟩ := hx
    refine ⟨⟨.slice zp lp.length zc, .slice bp bm bc, .slice ep ex.ks.length ec⟩, h, ?_, ?_, ?_⟩
    · exact (XP'''''''''.out.hi HI).low hlo
    · exact ((XB'''''.out t5 ht5).hi HI).lo hlo
    · exact hk.toP fun b hb _ => ⟨rfl, Nat.le_trans hlo hb⟩
end Go.Proofs.YtkhbbapocamlmaaDoor
namespace Go.Proofs.YtkhbbapocamlmaaDoor
open Go Go.RowKit

set_option maxRecDepth 100000 in
theorem r4_limit8 {r4 rb g cap : Nat} {ws : List Wd} {d : Int} {p0 p1 p2 p3 : Value} {W : World} {σ : RS} (S : Hid (A4 W r4 rb g cap ws d p0 p1 p2 p3 σ)) (n : Nat) :
    Calls Tryd.prog 39 #[.pointer (some ⟨r4, 0, none⟩), .int .i64 n, .int .i64 8] W fun e w' => e = .returned (.tuple #[]) ∧ A4 w' r4 rb g cap ws d p0 p1 p2 p3 (limF n 8 σ) ∧ Fr (some rb) W w' := r4_limit S n 8
set_option maxRecDepth 100000 in
set_option maxHeartbeats 4000000 in
theorem rth_lockNo {r4 rb g cap B k : Nat} {ws : List Wd} {d : Int} {p : Option Addr} {p0 p2 p3 : Value} {W : World} {σ τ2 τ3 : RS} {l : List Lk} {nm : List UInt8} {a : Nat} {x : Wd} {tt : List Wd} {c0 : Int} {b0 : Nat} (S : Hid (A4 W r4 rb g cap ws d p0 (.slice p l.length k) p2 p3 σ)) (hL : Hid (σ.is (⟨#[108, 111, 99, 107]⟩ : ByteArray).data.toList = true)) (hlim : Hid (limF l.length 8 σ = .bad c0 b0)) :
    Calls Tryd.prog 19 #[.pointer (some ⟨r4, 0, none⟩)] W fun e w' => e = .returned (.tuple #[]) ∧ A4 w' r4 rb g cap ws d p0 (.slice p l.length k) p2 p3 (.bad c0 b0) ∧ Fr (some rb) W w' := by
  go_enter Tryd.func19, Tryd.ntmps19
  go_wp2_with (first
    | (go_at_call 38; (with_reducible refine (r4_is S _ true hL).mono ?_); rintro e0 w0 ⟨rfl, hb0⟩; have S0 := Lib.hid (S.out.stay hb0); obtain ⟨m0, m1, m2, m3, m4, m5⟩ := S0.out.at4.cells; have ml0 := S0.out.at4.lt)
    | (go_at_call 39; (with_reducible refine (r4_limit8 S0 l.length).mono ?_); rintro e1 w1 ⟨rfl, hs1, hf1⟩; have S1 : Hid (A4 w1 r4 rb g cap ws d p0 (.slice p l.length k) p2 p3 (.bad c0 b0)) := Lib.hid (hlim.out ▸ hs1))
    | (go_at_call 17; (with_reducible refine (r4_ok S1 false rfl).mono ?_); rintro e2 w2 ⟨rfl, hb2⟩))
  go_end0
  exact ⟨rfl, S1.out.stay hb2, ((Fr.of hb0).step hf1).stepB hb2⟩
set_option maxRecDepth 100000 in
set_option maxHeartbeats 4000000 in
theorem rth_lockYes {r4 rb g cap B k : Nat} {ws : List Wd} {d : Int} {p : Option Addr} {p0 p2 p3 : Value} {W : World} {σ τ2 τ3 : RS} {l : List Lk} {nm : List UInt8} {a : Nat} {x : Wd} {tt : List Wd} (S : Hid (A4 W r4 rb g cap ws d p0 (.slice p l.length k) p2 p3 σ)) (G : Hid (W.ownsRow B 66 2 (.slice p l.length k) l.length (l.flatMap lkCells))) (hB : r4 < B ∧ rb < B ∧ g < B ∧ B ≤ W.heap.size) (hl : l.length ≤ 1000000) (hL : Hid (σ.is (⟨#[108, 111, 99, 107]⟩ : ByteArray).data.toList = true)) (hlim : Hid (limF l.length 8 σ = .ok (x :: tt))) (hx : x.k ≠ 3) (H2 : Hid (nameF (.ok tt) = ((nm, a), τ2))) (h59 : Hid (τ2.need (⟨#[59]⟩ : ByteArray).data.toList = τ3)) :
    Calls Tryd.prog 19 #[.pointer (some ⟨r4, 0, none⟩)] W fun e w' => e = .returned (.tuple #[]) ∧ ∃ q, A4 w' r4 rb g cap ws d p0 q p2 p3 τ3 ∧ w'.ownsRow B 66 2 q (l.length + 1) ((l ++ [(⟨a, nm⟩ : Lk)]).flatMap lkCells) ∧ Fr3 r4 rb (Value.slice p l.length k).ownBlock W w' := by
  have hBW := hB.2.2.2
  have HLT : Hid (∀ j, (Value.slice p l.length k).ownBlock = some j → B ≤ j ∧ j < W.heap.size) := Lib.hid G.out.lt
  obtain ⟨i0, hinf, hzi0, hzi1, hzi2⟩ := info_parts infoLk
  go_enter Tryd.func19, Tryd.ntmps19
  go_upto_region 6 with (first
    | (go_at_call 38; (with_reducible refine (r4_is S _ true hL).mono ?_); rintro e0 w0 ⟨rfl, hb0⟩; have S0 := Lib.hid (S.out.stay hb0); obtain ⟨m0, m1, m2, m3, m4, m5⟩ := S0.out.at4.cells; have ml0 := S0.out.at4.lt)
    | (go_at_call 39; (with_reducible refine (r4_limit8 S0 l.length).mono ?_); rintro e1 w1 ⟨rfl, hs1, hf1⟩; have S1 : Hid (A4 w1 r4 rb g cap ws d p0 (.slice p l.length k) p2 p3 (.ok (x :: tt))) := Lib.hid (hlim.out ▸ hs1))
    | (go_at_call 17; (with_reducible refine (r4_ok S1 true rfl).mono ?_); rintro e2 w2 ⟨rfl, hb2⟩; have S2 := Lib.hid (S1.out.stay hb2)))
  have F2 : Fr (some rb) W w2 := ((Fr.of hb0).step hf1).stepB hb2
  obtain ⟨q4l, qbl, qgl⟩ := S2.out.blk
  obtain ⟨i, a9, R0, h5, _, _, _⟩ := S2.out.st.ok_cells S2.out.env
  obtain ⟨m0, _, _, _, _, _⟩ := S2.out.at4.cells
  obtain ⟨q0, q1, q2, q3, q4⟩ := R0.rd.cells
  have hlr := R0.rd.lt
  have hfr := R0.rd.frozen 1
  go_upto_region 7 with (fail)
  refine name_world ?_
  intro w3 hw3
  have F9 : Fr (some rb) w2 (w2.setCell ⟨rb, 1, none⟩ (.int .i64 ((i : Int) + 1))) := (Fr.refl _ _).set (.inl rfl) _ _
  have S3 : Hid (A4 w3 r4 rb g cap ws d p0 (.slice p l.length k) p2 p3 (.ok tt)) := Lib.hid (by (rw [hw3]; exact S2.out.fr F9 (st_adv S2.out.st R0 hx h5)))
  have F3 : Fr (some rb) W w3 := by (rw [hw3]; exact F2.step F9)
  have hz3 := Fr.size F3
  clear hw3 m0 q0 q1 q2 q3 q4 R0 h5 F9 hlr hfr q4l qbl qgl
  obtain ⟨q4l, qbl, qgl⟩ := S3.out.blk
  have KB3 := KBlk.new (X := w3) (a := 0) (nm := ⟨#[]⟩) rfl
  have S3' := Lib.hid (S3.out.alloc (.cells #[.int .i64 0, .string ⟨#[]⟩] 66))
  go_upto_region 9 with (go_at_call 40; (with_reducible refine (r4_name S3' H2.out).mono ?_); rintro e4 w4 ⟨rfl, hs4, hf4⟩; have hz4 := Fr.size hf4; (try simp only [World.size_alloc] at hz4))
  refine name_world ?_
  intro w5 hw5
  have KB5 : KBlk w5 w3.heap.size 0 ⟨#[]⟩ := by (rw [hw5]; exact (KB3.fr hf4 (by omega)).alloc _)
  have TB5 : TBlk w5 w4.heap.size (bstr nm) a := by (rw [hw5]; exact TBlk.new rfl)
  have S5 : Hid (A4 w5 r4 rb g cap ws d p0 (.slice p l.length k) p2 p3 τ2) := Lib.hid (by (rw [hw5]; exact hs4.alloc _))
  have F5 : Fr (some rb) W w5 := by (rw [hw5]; exact ((F3.alloc _).step hf4).alloc _)
  have hz5 : w3.heap.size < w5.heap.size := by (rw [hw5]; simp; omega)
  obtain ⟨kl5, ⟨kc0, kc1⟩, kf0, kf1⟩ := KB5.facts
  obtain ⟨tl5, tc0, tc1, tf0, tf1⟩ := TB5.facts
  clear hw5
  go_upto_region 11 with (fail)
  refine name_world ?_
  intro w6 hw6
  have KB6 : KBlk w6 w3.heap.size a (bstr nm) := by (rw [hw6]; exact (KB5.set1 _).set0 _)
  have F6 : Fr (some rb) W w6 := by (rw [hw6]; exact (F5.set (.inr (by omega)) _ _).set (.inr (by omega)) _ _)
  have S6 : Hid (A4 w6 r4 rb g cap ws d p0 (.slice p l.length k) p2 p3 τ2) := Lib.hid (by (rw [hw6]; exact (S5.out.setO (by omega) (by omega) (by omega) _ _).setO (by omega) (by omega) (by omega) _ _))
  clear hw6 kc0 kc1 kf0 kf1 tc0 tc1 tf0 tf1
  go_upto_region 12 with (go_at_call 41; (with_reducible refine (r4_need S6 _ _ h59).mono ?_); rintro e8 w8 ⟨rfl, hs8, hf8⟩)
  have KB8 := KB6.fr hf8 (by omega)
  have F8 : Fr (some rb) W w8 := F6.step hf8
  have G8 := own_fr G.out F8 hB.2.1
  have hz8 := Fr.size F8
  obtain ⟨kl8, ⟨kc0, kc1⟩, _⟩ := KB8.facts
  obtain ⟨m0, m1, m2, m3, m4, m5⟩ := hs8.at4.cells
  have ml := hs8.at4.lt
  have mf := hs8.at4.frozen 3
  have hown : ∀ k', k' < B → some k' ≠ (Value.slice p l.length k).ownBlock := fun k' hk e => by (have := (HLT.out k' e.symm).1; omega)
  go_region_law (refine step_append_lies _ (by rfl) _ _ _ (by rfl) B 66 i0 _ 2 24 Tryd.underlying24 hinf hzi0 hzi1 hzi2 rfl (by decide) (.slice p l.length k) l.length (l.flatMap lkCells) (by rfl) (own_below G8 (by (repeat (first | (with_reducible exact Below.refl _ _) | (with_reducible refine Below.alloc ?_ (by first | omega | (simp; omega)) _) | (with_reducible refine Below.drewN ?_ _) | (with_reducible refine Below.drew ?_) | (with_reducible refine Below.setCell ?_ (by first | omega | (simp; omega)) _) | (with_reducible refine Below.trans ?_ (by assumption)))))) ⟨_, 0, none⟩ 1 1 [.int .i64 a, .string (bstr nm)] (by rfl) (by rfl) (World.news_of_block (heap_alloc_new _ _)) raw2_one (by decide) (by unfold maxLen; omega) (by omega) (by simp; omega) _ rfl ?_; intro gg cap6 w9 hown9 hgrow9 hor9 hlt9; have hgr9 : World.grownBy _ w9 (Value.slice p l.length k).ownBlock := hgrow9; have S9 := Lib.hid (((hs8.drew).alloc (.cells #[.int .i64 a, .string (bstr nm)] 66)).grow hgr9 (hown _ hB.1) (hown _ hB.2.1) (hown _ hB.2.2.1)); obtain ⟨n0, n1, n2, n3, n4, n5⟩ := S9.out.at4.cells; have nl := S9.out.at4.lt; have nf := S9.out.at4.frozen 3)
  all_goals go_end0
  all_goals
    refine ⟨rfl, _, S9.out.set3 _, ?_, ?_⟩
    · have h := own_fr hown9 ((Fr.refl (some r4) _).set (.inl rfl) 3 (.slice (some ⟨gg, 0, none⟩) (l.length + 1) cap6)) hB.1
      simpa [lkCells] using h
    · exact Fr3.mk_ ((F8.drew).alloc (.cells #[.int .i64 a, .string (bstr nm)] 66)) hgr9 _ _
end Go.Proofs.YtkhbbapocamlmaaDoor
namespace Go.Proofs.YtkhbbapocamlmaaDoor
open Go Go.RowKit

theorem below_dual {W a c : World} (h : Below W.heap.size W a) (k : Below a.heap.size a c) : Below W.heap.size W c :=
  ⟨k.os.trans h.os, k.tape.trans h.tape, k.output.trans h.output, Nat.le_trans h.size k.size, fun i hi => (k.block i (Nat.lt_of_lt_of_le hi h.size)).trans (h.block i hi)⟩
set_option maxRecDepth 100000 in
set_option maxHeartbeats 4000000 in
theorem rth_func {r4 rb g cap : Nat} {ws : List Wd} {d : Int} {p0 p1 p2 p3 : Value} {W : World} {σ : RS} {Q : World → World → Prop} (S : Hid (A4 W r4 rb g cap ws d p0 p1 p2 p3 σ)) (h1 : Hid (σ.is (⟨#[108, 111, 99, 107]⟩ : ByteArray).data.toList = false)) (h2 : Hid (σ.is (⟨#[102, 117, 110, 99]⟩ : ByteArray).data.toList = true))
    (HC : Hid (∀ W', Below W.heap.size W W' → Calls Tryd.prog 42 #[.pointer (some ⟨r4, 0, none⟩)] W' fun e w' => e = .returned (.tuple #[]) ∧ Q W' w')) :
    Calls Tryd.prog 19 #[.pointer (some ⟨r4, 0, none⟩)] W fun e w' => e = .returned (.tuple #[]) ∧ ∃ W', Below W.heap.size W W' ∧ Q W' w' := by
  go_enter Tryd.func19, Tryd.ntmps19
  go_wp2_with (first
    | (go_at_call 38; (with_reducible refine (r4_is S _ false h1).mono ?_); rintro e1 w1 ⟨rfl, hb1⟩; have S1 := Lib.hid (S.out.stay hb1))
    | (go_at_call 38; (with_reducible refine (r4_is S1 _ true h2).mono ?_); rintro e2 w2 ⟨rfl, hb2⟩; have S2 := Lib.hid (S1.out.stay hb2))
    | (go_at_call 42; (with_reducible refine (HC.out _ (below_dual hb1 hb2)).mono ?_); rintro e9 w9 ⟨rfl, hq⟩))
  first
    | (((try simp only [Exit.inBlock, Exit.then]); refine bodyPost_ret (results_none rfl _ _ _) rfl ?_); exact ⟨rfl, _, below_dual hb1 hb2, hq⟩)
    | (go_end0; exact ⟨rfl, _, below_dual hb1 hb2, hq⟩)
set_option maxRecDepth 100000 in
theorem r4_limit4 {r4 rb g cap : Nat} {ws : List Wd} {d : Int} {p0 p1 p2 p3 : Value} {W : World} {σ : RS} (S : Hid (A4 W r4 rb g cap ws d p0 p1 p2 p3 σ)) (n : Nat) :
    Calls Tryd.prog 39 #[.pointer (some ⟨r4, 0, none⟩), .int .i64 n, .int .i64 4] W fun e w' => e = .returned (.tuple #[]) ∧ A4 w' r4 rb g cap ws d p0 p1 p2 p3 (limF n 4 σ) ∧ Fr (some rb) W w' := r4_limit S n 4
theorem infoTh : (Tryd.prog.info? 34).map (fun i => (i.zero, i.size, i.bytes)) = some (some (.slice none 0 0), 1, 24) := by kernel_rfl
set_option maxRecDepth 100000 in
set_option maxHeartbeats 4000000 in
theorem rth_thrNo {r4 rb g cap B k m n d : Nat} {ws : List Wd} {p : Option Addr} {p0 p1 p2 : Value} {W : World} {σ : RS} {c0 : Int} {b0 : Nat} (S : Hid (A4 W r4 rb g cap ws d p0 p1 p2 (.slice p m k) σ)) (h1 : Hid (σ.is (⟨#[108, 111, 99, 107]⟩ : ByteArray).data.toList = false)) (h2 : Hid (σ.is (⟨#[102, 117, 110, 99]⟩ : ByteArray).data.toList = false)) (h3 : Hid (σ.is (⟨#[116, 104, 114, 101, 97, 100]⟩ : ByteArray).data.toList = true)) (hlim : Hid (limF m 4 σ = .bad c0 b0)) :
    Calls Tryd.prog 19 #[.pointer (some ⟨r4, 0, none⟩)] W fun e w' => e = .returned (.tuple #[]) ∧ A4 w' r4 rb g cap ws d p0 p1 p2 (.slice p m k) (.bad c0 b0) ∧ Fr (some rb) W w' := by
  go_enter Tryd.func19, Tryd.ntmps19
  go_wp2_with (first
    | (go_at_call 38; (with_reducible refine (r4_is S _ false h1).mono ?_); rintro e1 w1 ⟨rfl, hb1⟩; have S1 := Lib.hid (S.out.stay hb1))
    | (go_at_call 38; (with_reducible refine (r4_is S1 _ false h2).mono ?_); rintro e2 w2 ⟨rfl, hb2⟩; have S2 := Lib.hid (S1.out.stay hb2))
    | (go_at_call 38; (with_reducible refine (r4_is S2 _ true h3).mono ?_); rintro e3 w3 ⟨rfl, hb3⟩; have S3 := Lib.hid (S2.out.stay hb3); obtain ⟨m0, m1, m2, m3, m4, m5⟩ := S3.out.at4.cells; have ml0 := S3.out.at4.lt)
    | (go_at_call 39; (with_reducible refine (r4_limit4 S3 m).mono ?_); rintro e4 w4 ⟨rfl, hs4, hf4⟩; have S4 : Hid (A4 w4 r4 rb g cap ws d p0 p1 p2 (.slice p m k) (.bad c0 b0)) := Lib.hid (hlim.out ▸ hs4))
    | (go_at_call 17; (with_reducible refine (r4_ok S4 false rfl).mono ?_); rintro e5 w5 ⟨rfl, hb5⟩))
  first
    | (((try simp only [Exit.inBlock, Exit.then]); refine bodyPost_ret (results_none rfl _ _ _) rfl ?_); exact ⟨rfl, S4.out.stay hb5, ((((Fr.of hb1).stepB hb2).stepB hb3).step hf4).stepB hb5⟩)
    | (go_end0; exact ⟨rfl, S4.out.stay hb5, ((((Fr.of hb1).stepB hb2).stepB hb3).step hf4).stepB hb5⟩)
theorem raw1_one {z : Option Addr} {y k : Nat} : ∀ u ∈ ([.slice z y k] : List Value), u.oneCell' = true := by
  intro u hu
  simp at hu
  subst hu
  rfl
set_option maxRecDepth 100000 in
set_option maxHeartbeats 4000000 in
theorem rth_thrYes {r4 rb g cap B k m n d : Nat} {ws : List Wd} {p : Option Addr} {p0 p1 p2 : Value} {W : World} {σ : RS} {xs : List Value} {x : Wd} {tt : List Wd} {lb : List Stm} {τ2 : RS} (S : Hid (A4 W r4 rb g cap ws d p0 p1 p2 (.slice p m k) σ)) (G : Hid (W.ownsRow B 34 1 (.slice p m k) m xs)) (hB : r4 < B ∧ rb < B ∧ g < B ∧ B ≤ W.heap.size) (hl : m ≤ 1000000) (h1 : Hid (σ.is (⟨#[108, 111, 99, 107]⟩ : ByteArray).data.toList = false)) (h2 : Hid (σ.is (⟨#[102, 117, 110, 99]⟩ : ByteArray).data.toList = false)) (h3 : Hid (σ.is (⟨#[116, 104, 114, 101, 97, 100]⟩ : ByteArray).data.toList = true)) (hlim : Hid (limF m 4 σ = .ok (x :: tt))) (hx : x.k ≠ 3) (H5 : Hid (blockF n d (.ok tt) = (lb, τ2))) (HB : Hid (GBlock r4 rb g ws n)) (hlen : 3 * (RS.ok tt).len + 2 ≤ n) (hd : d ≤ 32) :
    Calls Tryd.prog 19 #[.pointer (some ⟨r4, 0, none⟩)] W fun e w' => e = .returned (.tuple #[]) ∧ ∃ q, A4 w' r4 rb g cap ws d p0 p1 p2 q τ2 ∧ Fr3 r4 rb (Value.slice p m k).ownBlock W w' ∧ ∀ t, τ2 = .ok t → ∃ v, w'.ownsRow B 34 1 q (m + 1) (xs ++ [v]) ∧ IsSts (fun b => W.heap.size ≤ b) w' lb v := by
  have hBW := hB.2.2.2
  have HLT : Hid (∀ j, (Value.slice p m k).ownBlock = some j → B ≤ j ∧ j < W.heap.size) := Lib.hid G.out.lt
  obtain ⟨i0, hinf, hzi0, hzi1, hzi2⟩ := info_parts infoTh
  go_enter Tryd.func19, Tryd.ntmps19
  go_upto_region 18 with (first
    | (go_at_call 38; (with_reducible refine (r4_is S _ false h1).mono ?_); rintro e1 w1 ⟨rfl, hb1⟩; have S1 := Lib.hid (S.out.stay hb1))
    | (go_at_call 38; (with_reducible refine (r4_is S1 _ false h2).mono ?_); rintro e2 w2 ⟨rfl, hb2⟩; have S2 := Lib.hid (S1.out.stay hb2))
    | (go_at_call 38; (with_reducible refine (r4_is S2 _ true h3).mono ?_); rintro e3 w3 ⟨rfl, hb3⟩; have S3 := Lib.hid (S2.out.stay hb3); obtain ⟨m0, m1, m2, m3, m4, m5⟩ := S3.out.at4.cells; have ml0 := S3.out.at4.lt)
    | (go_at_call 39; (with_reducible refine (r4_limit4 S3 m).mono ?_); rintro e4 w4 ⟨rfl, hs4, hf4⟩; have S4 : Hid (A4 w4 r4 rb g cap ws d p0 p1 p2 (.slice p m k) (.ok (x :: tt))) := Lib.hid (hlim.out ▸ hs4))
    | (go_at_call 17; (with_reducible refine (r4_ok S4 true rfl).mono ?_); rintro e5 w5 ⟨rfl, hb5⟩; have S5 := Lib.hid (S4.out.stay hb5)))
  have F5 : Fr (some rb) W w5 := ((((Fr.of hb1).stepB hb2).stepB hb3).step hf4).stepB hb5
  clear m0 m1 m2 m3 m4 m5 ml0
  obtain ⟨q4l, qbl, qgl⟩ := S5.out.blk
  obtain ⟨i, a9, R0, h5, _, _, _⟩ := S5.out.st.ok_cells S5.out.env
  obtain ⟨m0, _, _, _, _, _⟩ := S5.out.at4.cells
  obtain ⟨q0, q1, q2, q3, q4⟩ := R0.rd.cells
  have hlr := R0.rd.lt
  have hfr := R0.rd.frozen 1
  go_upto_region 19 with (fail)
  refine name_world ?_
  intro w6 hw6
  have F9 : Fr (some rb) w5 (w5.setCell ⟨rb, 1, none⟩ (.int .i64 ((i : Int) + 1))) := (Fr.refl _ _).set (.inl rfl) _ _
  have S6 : Hid (A4 w6 r4 rb g cap ws d p0 p1 p2 (.slice p m k) (.ok tt)) := Lib.hid (by (rw [hw6]; exact S5.out.fr F9 (st_adv S5.out.st R0 hx h5)))
  have F6 : Fr (some rb) W w6 := by (rw [hw6]; exact F5.step F9)
  have hz6 := Fr.size F6
  clear hw6 m0 q0 q1 q2 q3 q4 R0 h5 F9 hlr hfr q4l qbl qgl S1 S2 S3 S4 S5 F5 hs4 hf4 hb1 hb2 hb3 hb5
  have G6 := own_fr G.out F6 hB.2.1
  obtain ⟨m0, m1, m2, m3, m4, m5⟩ := S6.out.at4.cells
  have ml := S6.out.at4.lt
  have mf := S6.out.at4.frozen 5
  have S6D : Hid (A4 w6.drew r4 rb g cap ws d p0 p1 p2 (.slice p m k) (.ok tt)) := Lib.hid S6.out.drew
  have hown : ∀ k', k' < B → some k' ≠ (Value.slice p m k).ownBlock := fun k' hk e => by (have := (HLT.out k' e.symm).1; omega)
  go_region_law (first
    | (refine step_append_lies _ (by rfl) _ _ _ (by rfl) B 34 i0 _ 1 24 Tryd.underlying26 hinf hzi0 hzi1 hzi2 rfl (by decide) (.slice p m k) m xs (by rfl) (own_below G8 ((Below.refl _ _).alloc (Nat.le_refl _) _)) ⟨_, 0, none⟩ 1 1 [.slice lp lm lc] (by rfl) (by rfl) (World.news_of_block (heap_alloc_new _ _)) raw1_one (by decide) (by unfold maxLen; omega) (by omega) (by simp; omega) _ rfl ?_; intro gg cap6 w9 hown9 hgrow9 hor9 hlt9; have hgr9 : World.grownBy _ w9 (Value.slice p m k).ownBlock := hgrow9; have S9 := Lib.hid ((hs8.alloc (.cells #[.slice lp lm lc] 34)).grow hgr9 (hown _ hB.1) (hown _ hB.2.1) (hown _ hB.2.2.1)); obtain ⟨k0, k1, k2, k3, k4, k5⟩ := S9.out.at4.cells; have kl := S9.out.at4.lt; have kf := S9.out.at4.frozen 5)
    | (go_simp; go_at_call 43; (with_reducible refine (HB.out.use S6D hlen hd _ H5.out).mono ?_); rintro e8 w8 ⟨⟨lp, lm, lc, rfl, hb8⟩, hs8, hf8⟩; have G8 := own_fr (W := w6.drew) G6 hf8 hB.2.1; obtain ⟨n0, n1, n2, n3, n4, n5⟩ := hs8.at4.cells; have nl := hs8.at4.lt; have nf := hs8.at4.frozen 5; have hz8 := Fr.size hf8; (try simp only [World.size_drew] at hz8)))
  all_goals go_end0
  all_goals
    have F8 : Fr (some rb) W w8 := (show Fr (some rb) W w6.drew from F6.drew).step hf8
    have FR : Fr3 r4 rb (Value.slice p m k).ownBlock W (w9.setCell ⟨r4, 5, none⟩ (.slice (some ⟨gg, 0, none⟩) (m + 1) cap6)) := Fr3.mk_ (F8.alloc (.cells #[.slice lp lm lc] 34)) hgr9 _ _
    refine ⟨rfl, _, S9.out.set5 _, FR, fun t ht => ?_⟩
    have h := own_fr hown9 ((Fr.refl (some r4) _).set (.inl rfl) 5 (.slice (some ⟨gg, 0, none⟩) (m + 1) cap6)) hB.1
    have HI : Hi w6.heap.size w8 (w9.setCell ⟨r4, 5, none⟩ (.slice (some ⟨gg, 0, none⟩) (m + 1) cap6)) := by
      have h1 : Hi w6.heap.size w8 (w8.alloc (.cells #[.slice lp lm lc] 34)) := (Hi.refl _ _).stay ((Below.refl _ _).alloc (Nat.le_refl _) _)
      refine Hi.set ⟨Nat.le_trans h1.1 hgr9.size, fun g' hg' hl' => (hgr9.block g' (Nat.lt_of_lt_of_le hl' h1.1) (fun e => ?_)).trans (h1.2 g' hg' hl')⟩ (by omega) _ _
      have := (HLT.out g' e.symm).2
      omega
    exact ⟨_, h, ((((hb8 t ht).lo (lo' := w6.heap.size) (Nat.le_refl _)).hi HI).lo hz6)⟩
theorem limF_cases (n most : Nat) (x : Wd) (tt : List Wd) : limF n most (.ok (x :: tt)) = .ok (x :: tt) ∨ limF n most (.ok (x :: tt)) = .bad 2 x.a := by
  unfold limF
  split
  · right; rfl
  · left; rfl
end Go.Proofs.YtkhbbapocamlmaaDoor
