/- What a call is given, in its brackets. -/
import Derived.Test.YtngfbpmabdmkeaaGreatDoorExP
import Derived.Deep.DeepMust
namespace Go.Proofs.YtngfbpmabdmkeaaGreatDoor
open Go Go.RowKit

theorem P.giv_form {o : Nat} {ts : List Wd} {r : Res} (h : P o .giv ts r) : ∃ w ts', ts = w :: ts' := by
  cases h <;> exact ⟨_, _, rfl⟩
/-- What is left to do behind the first bracket. -/
inductive GivEnd (o : Nat) : List Wd → Res → Prop
  | done {w d f : Wd} {ts ts' : List Wd} {es : List Ex} : ¬ Sg d [41] → P (o + 1) (.list []) (d :: ts) (.okL es (f :: ts')) → Sg f [41] → GivEnd o (d :: ts) (.okL es ts')
  | no {w d f : Wd} {ts ts' : List Wd} {es : List Ex} : ¬ Sg d [41] → P (o + 1) (.list []) (d :: ts) (.okL es (f :: ts')) → ¬ Sg f [41] → GivEnd o (d :: ts) (.bad 11 f.a)
  | bad {d : Wd} {ts : List Wd} {e : Int} {a : Nat} : ¬ Sg d [41] → P (o + 1) (.list []) (d :: ts) (.bad e a) → GivEnd o (d :: ts) (.bad e a)

/-- How the list ends, and the call with it. -/
def LstEnd (o : Nat) : Res → Res → Prop
  | .okL es (f :: ts'), r => (Sg f [41] ∧ r = .okL es ts') ∨ (¬ Sg f [41] ∧ r = .bad 11 f.a)
  | .bad e a, r => r = .bad e a
  | _, _ => False

set_option maxRecDepth 100000 in
set_option maxHeartbeats 4000000 in
theorem giv_lim (rb g cap mb bx : Nat) (ws : List Wd) (w : Wd) (ts : List Wd) (hs : (w :: ts) <:+ ws) :
    Goal rb g cap mb bx ws .giv 32 (w :: ts) (.bad 2 w.a) := by
  intro W bad at' E S
  have hrl := S.lt
  have R := Lib.hid (S.rdr E hs)
  have EE := Lib.hid E
  have hlen := E.few
  have hi1 := (suf_at hs).2.1
  obtain ⟨i, hi⟩ : ∃ i, i = ws.length - (w :: ts).length := ⟨_, rfl⟩
  have hi0 : i < 9223372036854775807 := by omega
  rw [← hi] at R hi1
  clear hi hi1 hlen S E
  go_enter Tryz.func133, Tryz.ntmps133
  go_wp2_with (go_at_call 130; (with_reducible refine (enter_lim rb g cap mb ws i w bad at' _ R).mono ?_); rintro e' w1 ⟨rfl, hr1, hf1⟩)
  go_ret2
  refine ⟨by (repeat (first | (with_reducible exact Fr.refl _ _) | (with_reducible refine Fr.alloc ?_ _) | (with_reducible refine Fr.drewN ?_ _) | (with_reducible refine Fr.drew ?_) | (with_reducible refine Fr.set ?_ ?_ _ _; rotate_left; first | exact .inl rfl | (right; simp; done) | (right; simp; omega) | (right; omega)) | (with_reducible refine Fr.step ?_ (by assumption)) | (with_reducible refine Fr.stepB ?_ (by assumption)))), ?_⟩
  exact ended_bad (nx := i) (op := 32) ⟨_, _, _, rfl⟩ hr1

set_option maxRecDepth 100000 in
set_option maxHeartbeats 4000000 in
theorem giv_none (rb g cap mb bx : Nat) (ws : List Wd) (o : Nat) (w d : Wd) (ts : List Wd) (hs : (w :: d :: ts) <:+ ws) (hlt : o < 32) (hd : Hid (Sg d [41])) :
    Goal rb g cap mb bx ws .giv o (w :: d :: ts) (.okL [] ts) := by
  intro W bad at' E S
  have hrl := S.lt
  have R := Lib.hid (S.rdr E hs)
  have EE := Lib.hid E
  have hlen := E.few
  have hi1 := (suf_at hs).2.1
  obtain ⟨i, hi⟩ : ∃ i, i = ws.length - (w :: d :: ts).length := ⟨_, rfl⟩
  have hi0 : i < 9223372036854775807 := by omega
  rw [← hi] at R hi1
  have hi2 : i + 1 < 9223372036854775807 := by omega
  have hi1 := Lib.hid hi1
  have hsd := Lib.hid (suf_at hs).2.2
  have hi3 : Hid (i + 1 + 1 = ws.length - ts.length) := Lib.hid (by have := (suf_at hsd.out).2.1; rw [← hi1.out] at this; exact this)
  have hg1 : Sg d (⟨#[41]⟩ : ByteArray).data.toList := hd.out
  have HG := Lib.hid hg1
  have hoh : o ≤ 32 := by omega
  clear hi hlen S E hd hg1
  go_enter Tryz.func133, Tryz.ntmps133
  go_wp2_with (first
    | (go_at_call 130; (with_reducible refine (enter_ok rb g cap mb ws i w o bad at' _ R hlt hi0).mono ?_); rintro e' w1 ⟨rfl, hr1, hf1⟩; have hR1 : Hid (Rdr w1 rb g cap mb ws (i + 1) d ((o + 1 : Nat) : Int) bad at') := Lib.hid ⟨hr1, (EE.out.kept hf1).wc, EE.out.ne1, by (rw [hi1.out]; exact (suf_at hsd.out).1)⟩; have hz1 := Fr.size hf1)
    | (go_at_call 132; (with_reducible refine (is_yesS rb g cap mb ws (i + 1) d _ bad at' _ _ hR1.out HG.out).mono ?_); rintro e' w2 ⟨rfl, hb2⟩)
    | (go_at_call 131; (with_reducible refine (leave_okS rb g cap mb ws (i + 1) d o bad at' _ _ (Lib.hid (hR1.out.kept hb2)) HG hoh hi2).mono ?_); rintro e' w3 ⟨rfl, hr3, hf3⟩))
  go_ret2
  refine ⟨by (repeat (first | (with_reducible exact Fr.refl _ _) | (with_reducible refine Fr.alloc ?_ _) | (with_reducible refine Fr.drewN ?_ _) | (with_reducible refine Fr.drew ?_) | (with_reducible refine Fr.set ?_ ?_ _ _; rotate_left; first | exact .inl rfl | (right; simp; done) | (right; simp; omega) | (right; omega)) | (with_reducible refine Fr.step ?_ (by assumption)) | (with_reducible refine Fr.stepB ?_ (by assumption)))), ?_⟩
  refine ended_okL (bad := bad) (at' := at') .leaf ?_
  unfold StAt
  rw [← hi3.out]
  exact hr3

set_option maxRecDepth 100000 in
set_option maxHeartbeats 4000000 in
theorem giv_some (rb g cap mb bx : Nat) (ws : List Wd) (o : Nat) (w d : Wd) (ts : List Wd) (r : Res) (rl : Res) (IH : Below' rb g cap mb bx ws (4 * (w :: d :: ts).length)) (hs : (w :: d :: ts) <:+ ws) (hF : Fin (d :: ts)) (hlt : o < 32) (hd : Hid (¬ Sg d [41])) (hP : P (o + 1) (.list []) (d :: ts) rl) (hE : Hid (LstEnd o rl r)) :
    Goal rb g cap mb bx ws .giv o (w :: d :: ts) (r) := by
  intro W bad at' E S
  have hrl := S.lt
  have R := Lib.hid (S.rdr E hs)
  have EE := Lib.hid E
  have hlen := E.few
  have hi1 := (suf_at hs).2.1
  obtain ⟨i, hi⟩ : ∃ i, i = ws.length - (w :: d :: ts).length := ⟨_, rfl⟩
  have hi0 : i < 9223372036854775807 := by omega
  rw [← hi] at R hi1
  have hi1 := Lib.hid hi1
  have hsd := Lib.hid (suf_at hs).2.2
  have hg1 : ¬ Sg d (⟨#[41]⟩ : ByteArray).data.toList := hd.out
  have HG := Lib.hid hg1
  have hoh : o ≤ 32 := by omega
  have HI := Lib.hid IH
  have HPF := Lib.hid (And.intro hP hF)
  have hlen2 := Lib.hid hlen
  obtain ⟨i0, hinf, hzi0, hzi1, hzi2⟩ := info_parts infoEx
  clear hi hlen S E hd hg1 IH hP hF
  go_enter Tryz.func133, Tryz.ntmps133
  go_wp2_with (first
    | (go_at_call 130; (with_reducible refine (enter_ok rb g cap mb ws i w o bad at' _ R hlt hi0).mono ?_); rintro e' w1 ⟨rfl, hr1, hf1⟩; have hR1 : Hid (Rdr w1 rb g cap mb ws (i + 1) d ((o + 1 : Nat) : Int) bad at') := Lib.hid ⟨hr1, (EE.out.kept hf1).wc, EE.out.ne1, by (rw [hi1.out]; exact (suf_at hsd.out).1)⟩; have hz1 := Fr.size hf1)
    | (go_at_call 132; (with_reducible refine (is_noS rb g cap mb ws (i + 1) d _ bad at' _ _ hR1.out HG.out).mono ?_); rintro e' w2 ⟨rfl, hb2⟩))
  have hz2' := hb2.size
  go_loopw [4] (fun v0 wr => ∃ v acc tt l bad1 at1, v = v0 ∧ GrowsL w2.heap.size wr acc v l ∧ Fr (some rb) w2 wr ∧ StAt wr rb g cap mb ws tt ((o + 1 : Nat) : Int) bad1 at1 ∧ tt <:+ (d :: ts) ∧ acc.length ≤ ws.length ∧ acc.length + tt.length ≤ ws.length ∧ Hid (P (o + 1) (.list acc) tt rl ∧ Fin tt)) (fun _ wr => ws.length + 1 - nxOf wr rb)
  case atStart =>
    obtain ⟨l, hl⟩ := Grows.nil w2.heap.size w2
    refine ⟨_, [], d :: ts, l, bad, at', rfl, hl, Fr.refl _ _, ?_, List.suffix_refl _, by simp, ?_, HPF⟩
    · show RdAt _ _ _ _ _ _ _ _
      have := hR1.out.rd.kept hb2
      rw [hi1.out] at this
      exact this
    · have := hsd.out.length_le
      simpa using this
  case round =>
    obtain ⟨v, acc, tt, l, bad1, at1, rfl, hG, hF2, hS, hsuf, hal, hatl, hPF⟩ := hrel
    have hGH := Lib.hid hG
    have hSH := Lib.hid hS
    have hsz2 := Fr.size hF2
    have hFW : Fr (some rb) W wr := (hf1.stepB hb2).step hF2
    have hrw : rb < w2.heap.size := by omega
    have hsw : Hid (tt <:+ ws) := Lib.hid (hsuf.trans hsd.out)
    have htl : tt.length ≤ (d :: ts).length := hsuf.length_le
    cases hPF.out.1 with
    | @lstBad _ _ _ ec ea hP =>
      have hIH : Hid (Snd Junk rb g cap mb bx ws 55 #[.pointer (some ⟨rb, 0, none⟩), .int .i64 1] (o + 1) tt (.bad ec ea)) := Lib.hid (HI.out (.expr 1) _ _ _ hP hsw.out hPF.out.2 (by simp [Job.may]) (by omega) (by simp [Job.wt] at htl ⊢; omega))
      clear hP hG hS hPF
      go_wp2_with (go_at_call 55; (with_reducible refine (hIH.out.badE _ bad1 at1 (EE.out.kept hFW) hSH.out).mono ?_); rintro e' w3 ⟨hf3, ⟨jk, jo, jn, jm, jp, jl, jc, ja, rfl⟩, nx, oq, hs3⟩)
      obtain rfl : r = .bad ec ea := hE.out
      go_ret2
      refine ⟨by (repeat (first | (with_reducible exact Fr.refl _ _) | (with_reducible refine Fr.alloc ?_ _) | (with_reducible refine Fr.drewN ?_ _) | (with_reducible refine Fr.drew ?_) | (with_reducible refine Fr.set ?_ ?_ _ _; rotate_left; first | exact .inl rfl | (right; simp; done) | (right; simp; omega) | (right; omega)) | (with_reducible refine Fr.step ?_ (by assumption)) | (with_reducible refine Fr.stepB ?_ (by assumption)))), ?_⟩
      refine ended_bad (nx := nx) (op := oq) ⟨_, _, _, rfl⟩ ?_
      (repeat (first | (with_reducible exact hs3) | (with_reducible refine RdAt.alloc ?_ _) | (with_reducible refine RdAt.drewN ?_ _) | (with_reducible refine RdAt.drew ?_) | (with_reducible refine RdAt.setO ?_ (by first | assumption | omega) _ _) | (with_reducible refine RdAt.kept ?_ (by assumption))))
    | @lstEnd _ f _ ts' _ x hP hf =>
      have hIH : Hid (Snd Junk rb g cap mb bx ws 55 #[.pointer (some ⟨rb, 0, none⟩), .int .i64 1] (o + 1) tt (.ok x (f :: ts'))) := Lib.hid (HI.out (.expr 1) _ _ _ hP hsw.out hPF.out.2 (by simp [Job.may]) (by omega) (by simp [Job.wt] at htl ⊢; omega))
      have hpo := hP.post' (by simp [Job.may]) hPF.out.2
      simp only [Post, Job.lst, Job.min] at hpo
      have hpo1 := Lib.hid hpo.2.1
      have hpo2 := hpo.2.2
      have hsf : Hid ((f :: ts') <:+ ws) := Lib.hid (hP.suf.trans hsw.out)
      have hss : Hid (ts' <:+ (d :: ts)) := Lib.hid (((List.suffix_cons _ _).trans hP.suf).trans hsuf)
      have hfe := (suf_at hsf.out).2.1
      obtain ⟨k3, hk3⟩ : ∃ k3, k3 = ws.length - (f :: ts').length := ⟨_, rfl⟩
      have HK3 := Lib.hid hk3
      have hk30 : k3 < 9223372036854775807 := by (have := hlen2.out; omega)
      rw [← hk3] at hfe
      have HFE := Lib.hid hfe
      have hc0 : ¬ Sg f (⟨#[44]⟩ : ByteArray).data.toList := hf
      have HC := Lib.hid hc0
      have HQ := hE.out
      clear hc0
      have hlt1 : ∀ j, v.ownBlock = some j → w2.heap.size ≤ j ∧ j < wr.heap.size := hG.2.1.lt
      have HLT := Lib.hid hlt1
      have HAL := Lib.hid hal
      clear hP hG hS hPF hpo hk3 hfe hlt1 hf hsuf
      rcases HQ with ⟨hq1, rfl⟩ | ⟨hq1, rfl⟩
      · have he0 : Sg f (⟨#[41]⟩ : ByteArray).data.toList := hq1
        have HE := Lib.hid he0
        clear he0 hq1 hE
        go_wp2_with (first
          | (go_at_call 55; (with_reducible refine (hIH.out.ok _ bad1 at1 (EE.out.kept hFW) hSH.out).mono ?_); rintro e' w3 ⟨hf3, p3, l3, c3, hx3, rfl, bad3, at3, hs3⟩; have hG3 := Lib.hid (hGH.out.fr hf3 hrw); have hz3 := Fr.size hf3; have hHX3 := Lib.hid hx3; have HS3 := Lib.hid hs3; clear hx3 hs3)
          | (at_builtin; refine wpList_append_lies _ rfl (.tmp 21) (.tmp 23) 23 rfl w2.heap.size 25 i0 _ 6 72 Tryz.underlying23 hinf hzi0 hzi1 hzi2 rfl (by decide) _ _ _ rfl ((hG3.out.2.1.alloc _).alloc _) ⟨_, 0, none⟩ 1 1 (exCells x (.slice p3 l3 c3)) rfl rfl (cell_six_at _ _ _ _ (by simp)) (exCells_one _ _ _ _) (by decide) (by have h1 := hlen2.out; have h2 := HAL.out; unfold maxLen; omega) (by have h1 := hlen2.out; have h2 := HAL.out; omega) (by simp; omega) _ rfl ?_; intro g4 cap4 w4 hown4 hgrow4 hor4 hlt4; have hF24 : Fr (some rb) w2 w4 := Fr.stepOwn (((hF2.step hf3).alloc _).alloc _) hgrow4 (fun j e => (HLT.out j e).1); have hFW4 : Fr (some rb) W w4 := (hf1.stepB hb2).step hF24; have hS4 : Hid (StAt w4 rb g cap mb ws (f :: ts') ((o + 1 : Nat) : Int) bad3 at3) := Lib.hid (RdAt.grown (RdAt.alloc (RdAt.alloc HS3.out _) _) hgrow4 (fun e => by (have := (HLT.out rb e.symm).1; omega))); have hR4 := Lib.hid (hS4.out.rdr (EE.out.kept hFW4) hsf.out); rw [← HK3.out] at hR4; have hG4 := Lib.hid (GrowsL.more ((hG3.out.fr (rb := rb) ((Fr.refl _ _).alloc _) hrw).fr (rb := rb) ((Fr.refl _ _).alloc _) hrw) ((hHX3.out.low (by omega)).alloc _ |>.alloc _) (fun j e => hHX3.out.off (((Fr.refl none _).alloc _).alloc _) (by omega) (HLT.out j e).2) hgrow4 rfl hor4 hown4); have hz4 := Fr.size hF24; clear hown4 hgrow4 hor4)
          | (go_at_call 132; (with_reducible refine (is_noS rb g cap mb ws k3 f _ bad3 at3 _ _ hR4.out HC.out).mono ?_); rintro e' w5 ⟨rfl, hb5⟩)
          | (go_at_call 131; (with_reducible refine (leave_okS rb g cap mb ws k3 f o bad3 at3 _ _ (Lib.hid (hR4.out.kept hb5)) HE hoh hk30).mono ?_); rintro e' w6 ⟨rfl, hr6, hf6⟩))
        go_ret2
        refine ⟨by (repeat (first | (with_reducible exact Fr.refl _ _) | (with_reducible refine Fr.alloc ?_ _) | (with_reducible refine Fr.drewN ?_ _) | (with_reducible refine Fr.drew ?_) | (with_reducible refine Fr.set ?_ ?_ _ _; rotate_left; first | exact .inl rfl | (right; simp; done) | (right; simp; omega) | (right; omega)) | (with_reducible refine Fr.step ?_ (by assumption)) | (with_reducible refine Fr.stepB ?_ (by assumption)))), ?_⟩
        refine ended_okL (bad := bad3) (at' := at3) ?_ ?_
        · refine IsEx.low (lo := w2.heap.size) ?_ (by omega)
          exact Grows.ex ⟨_, (hG4.out.fr (rb := rb) (.of hb5) hrw).fr hf6 hrw⟩ 0 0 0 [] 0
        · unfold StAt
          rw [← HFE.out]
          exact hr6
      · have he0 : ¬ Sg f (⟨#[41]⟩ : ByteArray).data.toList := hq1
        have HE := Lib.hid he0
        clear he0 hq1 hE
        go_wp2_with (first
          | (go_at_call 55; (with_reducible refine (hIH.out.ok _ bad1 at1 (EE.out.kept hFW) hSH.out).mono ?_); rintro e' w3 ⟨hf3, p3, l3, c3, hx3, rfl, bad3, at3, hs3⟩; have hG3 := Lib.hid (hGH.out.fr hf3 hrw); have hz3 := Fr.size hf3; have hHX3 := Lib.hid hx3; have HS3 := Lib.hid hs3; clear hx3 hs3)
          | (at_builtin; refine wpList_append_lies _ rfl (.tmp 21) (.tmp 23) 23 rfl w2.heap.size 25 i0 _ 6 72 Tryz.underlying23 hinf hzi0 hzi1 hzi2 rfl (by decide) _ _ _ rfl ((hG3.out.2.1.alloc _).alloc _) ⟨_, 0, none⟩ 1 1 (exCells x (.slice p3 l3 c3)) rfl rfl (cell_six_at _ _ _ _ (by simp)) (exCells_one _ _ _ _) (by decide) (by have h1 := hlen2.out; have h2 := HAL.out; unfold maxLen; omega) (by have h1 := hlen2.out; have h2 := HAL.out; omega) (by simp; omega) _ rfl ?_; intro g4 cap4 w4 hown4 hgrow4 hor4 hlt4; have hF24 : Fr (some rb) w2 w4 := Fr.stepOwn (((hF2.step hf3).alloc _).alloc _) hgrow4 (fun j e => (HLT.out j e).1); have hFW4 : Fr (some rb) W w4 := (hf1.stepB hb2).step hF24; have hS4 : Hid (StAt w4 rb g cap mb ws (f :: ts') ((o + 1 : Nat) : Int) bad3 at3) := Lib.hid (RdAt.grown (RdAt.alloc (RdAt.alloc HS3.out _) _) hgrow4 (fun e => by (have := (HLT.out rb e.symm).1; omega))); have hR4 := Lib.hid (hS4.out.rdr (EE.out.kept hFW4) hsf.out); rw [← HK3.out] at hR4; have hG4 := Lib.hid (GrowsL.more ((hG3.out.fr (rb := rb) ((Fr.refl _ _).alloc _) hrw).fr (rb := rb) ((Fr.refl _ _).alloc _) hrw) ((hHX3.out.low (by omega)).alloc _ |>.alloc _) (fun j e => hHX3.out.off (((Fr.refl none _).alloc _).alloc _) (by omega) (HLT.out j e).2) hgrow4 rfl hor4 hown4); have hz4 := Fr.size hF24; clear hown4 hgrow4 hor4)
          | (go_at_call 132; (with_reducible refine (is_noS rb g cap mb ws k3 f _ bad3 at3 _ _ hR4.out HC.out).mono ?_); rintro e' w5 ⟨rfl, hb5⟩)
          | (go_at_call 131; (with_reducible refine (leave_noS rb g cap mb ws k3 f _ bad3 at3 _ _ (Lib.hid (hR4.out.kept hb5)) HE).mono ?_); rintro e' w6 ⟨rfl, hr6, hf6⟩))
        go_ret2
        refine ⟨by (repeat (first | (with_reducible exact Fr.refl _ _) | (with_reducible refine Fr.alloc ?_ _) | (with_reducible refine Fr.drewN ?_ _) | (with_reducible refine Fr.drew ?_) | (with_reducible refine Fr.set ?_ ?_ _ _; rotate_left; first | exact .inl rfl | (right; simp; done) | (right; simp; omega) | (right; omega)) | (with_reducible refine Fr.step ?_ (by assumption)) | (with_reducible refine Fr.stepB ?_ (by assumption)))), ?_⟩
        exact ended_bad (nx := k3) (op := ((o + 1 : Nat) : Int)) ⟨_, _, _, rfl⟩ hr6
    | @lstMore _ f _ ts' _ x _ hP hf hP2 =>
      have hIH : Hid (Snd Junk rb g cap mb bx ws 55 #[.pointer (some ⟨rb, 0, none⟩), .int .i64 1] (o + 1) tt (.ok x (f :: ts'))) := Lib.hid (HI.out (.expr 1) _ _ _ hP hsw.out hPF.out.2 (by simp [Job.may]) (by omega) (by simp [Job.wt] at htl ⊢; omega))
      have hpo := hP.post' (by simp [Job.may]) hPF.out.2
      simp only [Post, Job.lst, Job.min] at hpo
      have hpo1 := Lib.hid hpo.2.1
      have hpo2 := hpo.2.2
      have hsf : Hid ((f :: ts') <:+ ws) := Lib.hid (hP.suf.trans hsw.out)
      have hss : Hid (ts' <:+ (d :: ts)) := Lib.hid (((List.suffix_cons _ _).trans hP.suf).trans hsuf)
      have hfe := (suf_at hsf.out).2.1
      obtain ⟨k3, hk3⟩ : ∃ k3, k3 = ws.length - (f :: ts').length := ⟨_, rfl⟩
      have HK3 := Lib.hid hk3
      have hk30 : k3 < 9223372036854775807 := by (have := hlen2.out; omega)
      rw [← hk3] at hfe
      have HFE := Lib.hid hfe
      have hc0 : Sg f (⟨#[44]⟩ : ByteArray).data.toList := hf
      have HC := Lib.hid hc0
      have HP2 := Lib.hid hP2
      have HFI : Hid (Fin ts') := Lib.hid (hpo1.out.cons hf.ne)
      have hnl : ts'.length + 2 ≤ tt.length := by simpa using hpo2
      clear hc0 hP2
      have hlt1 : ∀ j, v.ownBlock = some j → w2.heap.size ≤ j ∧ j < wr.heap.size := hG.2.1.lt
      have HLT := Lib.hid hlt1
      have HAL := Lib.hid hal
      clear hP hG hS hPF hpo hk3 hfe hlt1 hf hsuf
      go_wp2_with (first
        | (go_at_call 55; (with_reducible refine (hIH.out.ok _ bad1 at1 (EE.out.kept hFW) hSH.out).mono ?_); rintro e' w3 ⟨hf3, p3, l3, c3, hx3, rfl, bad3, at3, hs3⟩; have hG3 := Lib.hid (hGH.out.fr hf3 hrw); have hz3 := Fr.size hf3; have hHX3 := Lib.hid hx3; have HS3 := Lib.hid hs3; clear hx3 hs3)
        | (at_builtin; refine wpList_append_lies _ rfl (.tmp 21) (.tmp 23) 23 rfl w2.heap.size 25 i0 _ 6 72 Tryz.underlying23 hinf hzi0 hzi1 hzi2 rfl (by decide) _ _ _ rfl ((hG3.out.2.1.alloc _).alloc _) ⟨_, 0, none⟩ 1 1 (exCells x (.slice p3 l3 c3)) rfl rfl (cell_six_at _ _ _ _ (by simp)) (exCells_one _ _ _ _) (by decide) (by have h1 := hlen2.out; have h2 := HAL.out; unfold maxLen; omega) (by have h1 := hlen2.out; have h2 := HAL.out; omega) (by simp; omega) _ rfl ?_; intro g4 cap4 w4 hown4 hgrow4 hor4 hlt4; have hF24 : Fr (some rb) w2 w4 := Fr.stepOwn (((hF2.step hf3).alloc _).alloc _) hgrow4 (fun j e => (HLT.out j e).1); have hFW4 : Fr (some rb) W w4 := (hf1.stepB hb2).step hF24; have hS4 : Hid (StAt w4 rb g cap mb ws (f :: ts') ((o + 1 : Nat) : Int) bad3 at3) := Lib.hid (RdAt.grown (RdAt.alloc (RdAt.alloc HS3.out _) _) hgrow4 (fun e => by (have := (HLT.out rb e.symm).1; omega))); have hR4 := Lib.hid (hS4.out.rdr (EE.out.kept hFW4) hsf.out); rw [← HK3.out] at hR4; have hG4 := Lib.hid (GrowsL.more ((hG3.out.fr (rb := rb) ((Fr.refl _ _).alloc _) hrw).fr (rb := rb) ((Fr.refl _ _).alloc _) hrw) ((hHX3.out.low (by omega)).alloc _ |>.alloc _) (fun j e => hHX3.out.off (((Fr.refl none _).alloc _).alloc _) (by omega) (HLT.out j e).2) hgrow4 rfl hor4 hown4); have hz4 := Fr.size hF24; clear hown4 hgrow4 hor4)
        | (go_at_call 132; (with_reducible refine (is_yesS rb g cap mb ws k3 f _ bad3 at3 _ _ hR4.out HC.out).mono ?_); rintro e' w5 ⟨rfl, hb5⟩; have hR5 := Lib.hid (hR4.out.rd.kept hb5); obtain ⟨q0, q1, q2, q3, q4, q5⟩ := hR5.out.cells; have hfz := hR5.out.frozen 1; have hz5 := hb5.size))
      go_roundw
      case rel =>
        refine ⟨_, acc ++ [x], ts', l ++ [(x, .slice p3 l3 c3)], bad3, at3, rfl, ?_, ?_, ?_, hss.out, ?_, ?_, Lib.hid ⟨HP2.out, HFI.out⟩⟩
        · exact (hG4.out.fr (rb := rb) (.of hb5) hrw).fr ((Fr.refl (some rb) w5).set (.inl rfl) _ _) hrw
        · exact (hF24.stepB hb5).set (.inl rfl) _ _
        · unfold StAt
          rw [← HFE.out]
          have := hR5.out.set1 ((k3 : Int) + 1)
          simpa using this
        · simp
          omega
        · simp
          omega
      case measure =>
        have e1 := hSH.out.nx
        have e2 := (hR5.out.set1 ((k3 : Int) + 1)).cells.2.1
        have e3 : nxOf (w5.setCell ⟨rb, 1, none⟩ (.int .i64 ((k3 : Int) + 1))) rb = k3 + 1 := by
          unfold nxOf
          rw [e2]
          show ((k3 : Int) + 1).toNat = _
          omega
        have h4 := HFE.out
        have h5 := hsw.out.length_le
        have h6 := hlen2.out
        rw [e1, e3]
        omega

end Go.Proofs.YtngfbpmabdmkeaaGreatDoor
