/- NamesLeave: behind a block with any locals all is as it was; a scope that is none knows nothing. -/
import Derived.Test.YtbmmjomcjlpnlaaRows
import Derived.Test.YtbmmjomcjlpnlaaQ01
import Derived.Test.YtbmmjomcjlpnlaaQ13
import Derived.WalkKit
import Derived.ProofKit
import Derived.OpenShut
import Derived.ShutString
import Derived.SizedLaws
set_option linter.unusedSimpArgs false
set_option linter.unusedVariables false
set_option maxRecDepth 100000
set_option maxHeartbeats 8000000
namespace Go.Proofs.Ytbmmjomcjlpnlaa
open Go.ChangeShapes Go.WideShapes Go.ChangeAt Go.RowKit
open Go.ChangeMaps (open_string shut_string)
set_option linter.unusedVariables false
theorem nl_own : ownKnob Try.prog.godebug = none:=by kernel_rfl
theorem nl_laid : laidOutB Try.prog = true:=by kernel_rfl
theorem nl_lifted (os : Os) (started : os.Started) (H : Type) (enc : TypeId × Value → H) :
 ReturnsInHanded {} Try.checked os 4 .any (Rows.namesLeaveSpec.pre6 enc Try.prog Try.f4 Rows.namesLeaveRow.domain false) (Rows.namesLeaveSpec.post enc Try.prog Try.f4 false true false false):=by
 refine returnsInHanded_of_change_sized (C:=Try.checked) nl_own started (by kernel_rfl) Try.func4
  (ChangeSpec.witness6 (enc:=enc) (C:=Try.checked) false ⟨#[],#[.string ByteArray.empty,.slice none 0 0,.slice none 0 0],[]⟩ 8 (by kernel_rfl) (by kernel_rfl) (by kernel_rfl) (by kernel_rfl)) ?_
 intro W base args ds gs before hval0 hW hcnd hwt _
 have hval : ∀ (j : Nat) t v,Try.f4.params[j]? = some t → args[j]? = some v → Value.okWide Try.prog W .any base t v:=hval0
 have hW':=hW
 obtain ⟨p,q,hA0,hV,rfl,hfz,hnd⟩:=hW
 have hA : DataW.TrodAll enc Try.prog W 0 (fun _ => true) true Try.f4.params.toList args.toList ds p:=hA0
 rw [Try.params4] at hA hval hwt
 obtain ⟨v0,vs0,d0,ds0,p0,q0,hargs,rfl,rfl,h0,r0⟩:=trodAll_cons hA
 obtain ⟨v1,vs1,d1,ds1,p1,q1,rfl,rfl,rfl,h1,r1⟩:=trodAll_cons r0
 obtain ⟨v2,vs2,d2,ds2,p2,q2,rfl,rfl,rfl,h2,r2⟩:=trodAll_cons r1
 obtain ⟨rfl,rfl,rfl⟩:=trodAll_nil r2
 obtain rfl : args = #[v0,v1,v2]:=by cases args;simp_all
 obtain ⟨rfl,rfl⟩:=trodVars_none hV
 obtain ⟨a0,rfl,rfl,rfl,w0⟩:=open_string Try.underlying9 (hval 0 9 v0 rfl rfl) h0
 obtain ⟨a1,n1,c1,rfl⟩:=okWide_slice Try.underlying22 (hval 1 22 v1 rfl rfl)
 obtain ⟨a2,n2,c2,rfl⟩:=okWide_slice Try.underlying50 (hval 2 50 v2 rfl rfl)
 have hall:=List.all_eq_true.1 hwt
 have hst:=steps_at h1 (fun m hm => by simpa using hall m (DataW.weights_mem_each (j:=1) rfl rfl m hm))
 have hmo:=strs_at h2 (fun m hm => by simpa using hall m (DataW.weights_mem_each (j:=2) rfl rfl m hm))
 have hlt1 : ∀ x ∈ p1,x.block < W.heap.size:=fun x hx => by simpa using hW'.lt x (by simp [hx])
 have hlt2 : ∀ x ∈ p2,x.block < W.heap.size:=fun x hx => by simpa using hW'.lt x (by simp [hx])
 clear hA0 hval0 hwt hall
 simp only [List.append_nil] at hW'
 refine (leave_law a0 a1 a2 n1 c1 n2 c2 W hst hmo).mono fun e W' ⟨he,hb⟩ => ?_
 subst he
 exact ⟨_,rfl,_,_,_,[],_,[],hW',trodAll_mk1 (shut_bool Try.underlying4 _),trodAll_cons_mk (shut_string Try.underlying9 w0) (trodAll_cons_mk (Below.trod nl_laid (by kernel_rfl) (of_decide_eq_true (by kernel_rfl)) h1 hb hlt1) (trodAll_cons_mk (Below.trod nl_laid (by kernel_rfl) (of_decide_eq_true (by kernel_rfl)) h2 hb hlt2) trodAll_mk0)),rfl,hb.frame _,fun h => by cases h⟩
theorem nl_over : Rows.namesLeaveRow.holds Try.pinned (OpenSpec.ofChange Rows.namesLeaveSpec) :=
 OpenClaim.holds_of_wide 4 Try.f4 rfl rfl rfl rfl rfl rfl rfl ⟨rfl,rfl,rfl,rfl,rfl⟩ rfl rfl rfl rfl rfl (by kernel_rfl) Try.func4 (by kernel_rfl)
  (of_decide_eq_true (by kernel_rfl)) (by unfold Func.isWrapper;first | (rw [if_pos (by decide +kernel)];kernel_rfl) | (rw [if_neg (by decide +kernel)];exact ⟨rfl,rfl⟩))
  (fun os started H enc _ => nl_lifted os started H enc)
theorem namesLeave_holds : Rows.NamesLeaveSaid :=
 nl_over
end Go.Proofs.Ytbmmjomcjlpnlaa
