/- For every text the Go function ParsePolicies answers true: the program reads every text as the policy that the grammar makes of it,places too,or refuses it at its first fault;asked: the tables of Go and the variables of its library lie as its text lays them. -/
import Derived.Test.YtecdfnpbcabdnaaGreatDoorCards
import Derived.Test.YtecdfnpbcabdnaaGreatDoorTie
import Derived.Test.YtecdfnpbcabdnaaGreatDoorPzG
import Derived.Test.YtecdfnpbcabdnaaGreatDoorPwP
import Derived.WalkKit
import Derived.ProofKit
import Derived.OpenShut
import Derived.Below
import Derived.SevenTiedAt
import Derived.SizedLaws
import Derived.ChangeMaps5
namespace Go.Proofs.YtecdfnpbcabdnaaGreatDoor.parsePolicies
open Go.ChangeShapes Go.WideShapes Go.ChangeAt Go.WideMaps Go.WideElems Go.ChangeMaps Go.RowKit
set_option maxRecDepth 100000
theorem own:ownKnob Tryz.prog.godebug=none:=by kernel_rfl
theorem reads (os:Os){H:Type}(enc:TypeId×Value->H):∃ places,DataW.whole enc Tryz.prog (({ World.laidAll Tryz.prog os laidD with heap:=(World.laidAll Tryz.prog os laidD).heap.modify 0 setT}:World).forCall (fun _ _=>0) ⟨#[],#[.string ⟨#[]⟩],[]⟩).memory Tryz.f3.params.toList Rows.parsePoliciesSpec.vars false #[Value.string ⟨#[]⟩].toList 8=some ([.lit (.string [])],[],places):=
 ⟨[],by kernel_rfl⟩
theorem lifted (os:Os)(started:os.Started)(H:Type)(enc:TypeId×Value->H)(F:Stop.Interp):
 ReturnsInHanded {} Tryz.checked os 3 .any ((OpenSpec.ofChange Rows.parsePoliciesSpec).preRow enc Tryz.prog Tryz.f3 Rows.parsePoliciesRow.domain false Rows.parsePoliciesRow.laid) (((OpenSpec.ofChange Rows.parsePoliciesSpec).at F).post enc Tryz.prog Tryz.f3 false true false false):=by
 obtain⟨places,hx⟩:=reads os enc
 refine returnsInHanded_of_row (C:=Tryz.checked) (s:=(OpenSpec.ofChange Rows.parsePoliciesSpec)) own started (by kernel_rfl) Tryz.func3
  (witness_laid (enc:=enc) (C:=Tryz.checked) ({ World.laidAll Tryz.prog os laidD with heap:=(World.laidAll Tryz.prog os laidD).heap.modify 0 setT}:World) #[.string ⟨#[]⟩] (laidW_os os) (World.shaped_of_ZipB (by kernel_rfl) (by kernel_rfl)) (by kernel_rfl)
    (OpenSpec.preRow_of_cond 8 hx (by kernel_rfl) (fun k hk=>by cases hk) (by kernel_rfl) (laid_met os _))) ?_
 intro W base args ds gs before hval0 hW _ hcond hsz hL _ _
 have hval:∀ (j:Nat) t v,Tryz.f3.params[j]? = some t->args[j]? = some v->Value.okWide Tryz.prog W .any base t v:=hval0
 have hW':=hW
 obtain⟨p,q,hA0,hV,rfl,hfz,hnd⟩:=hW
 have hA:DataW.TrodAll enc Tryz.prog W 0 (fun _=>true) true Tryz.f3.params.toList args.toList ds p:=hA0
 rw[Tryz.params3] at hA hval
 obtain⟨v0,vs0,d0,ds0,p0,q0,hargs,rfl,rfl,h0,r0⟩:=trodAll_cons hA
 obtain⟨rfl,rfl,rfl⟩:=trodAll_nil r0
 obtain rfl:args=#[v0]:=by cases args;simp_all
 obtain⟨rfl,rfl⟩:=trodVars_none hV
 obtain⟨a0,rfl,rfl,rfl,w0⟩:=open_string Tryz.underlying9 (hval 0 9 v0 rfl rfl) h0
 clear hA0 hval0
 simp only[List.append_nil] at hW'
 refine(parsePolicies_c a0 W (tabs_of_laid hL) (errt_of_laid hL)).mono fun e W' ⟨he,hb⟩=>?_
 subst he
 exact⟨_,rfl,_,_,_,[],[],[],hW',trodAll_mk1 (shut_bool Tryz.underlying4 _),(trodAll_cons_mk (shut_string Tryz.underlying9 w0) trodAll_mk0),rfl,hb.frame _,fun h=>by cases h⟩
theorem j1:laidOutB Tryz.prog=true:=by kernel_rfl
theorem j2:mapsRowed Tryz.prog=true:=by kernel_rfl
theorem j3:(Rows.parsePoliciesRow.inPlace==Tryz.prog.inPlace 3)=true:=by kernel_rfl
theorem j4:(Rows.parsePoliciesRow.unfollowed==Tryz.prog.unfollowed 3)=true:=by kernel_rfl
theorem j5:(Rows.parsePoliciesRow.recurses==Tryz.prog.recurses 3)=true:=by kernel_rfl
theorem j6:(Rows.parsePoliciesRow.named==Tryz.prog.varsNamed 3)=true:=by kernel_rfl
theorem j7:Tryz.prog.stopsHeard=true:=by kernel_rfl
theorem j8:Tryz.prog.mayEnter=true:=by kernel_rfl
theorem j9:(Rows.parsePoliciesRow.lifted==Tryz.prog.liftsFinal)=true:=by kernel_rfl
theorem j10:(Rows.parsePoliciesRow.plainKeys==Tryz.prog.plainKeys)=true:=by kernel_rfl
theorem j11:namedTie Tryz.prog Rows.parsePoliciesRow.named (OpenSpec.ofChange Rows.parsePoliciesSpec).bare.vars=true:=by kernel_rfl
theorem j0:joinedFacts Tryz.prog 3 Tryz.f3 (OpenSpec.ofChange Rows.parsePoliciesSpec).bare Rows.parsePoliciesRow=true:=by
 unfold joinedFacts
 rw[j1,j2,j3,j4,j5,j6,j7,j8,j9,j10,j11]
 kernel_rfl
theorem jn:Tryz.prog.funcNamed Rows.parsePoliciesRow.func=some 3:=by kernel_rfl
theorem ji:Tryz.f3.isInstance Tryz.prog Rows.parsePoliciesRow.origin Rows.parsePoliciesRow.targs:=of_decide_eq_true (by kernel_rfl)
theorem jw:Tryz.f3.isWrapper Tryz.prog Rows.parsePoliciesRow.wrapper Rows.parsePoliciesRow.mainSum:=by unfold Func.isWrapper;first|(rw[if_pos (by decide +kernel)];kernel_rfl)|(rw[if_neg (by decide +kernel)];exact⟨rfl,rfl⟩)
theorem over:Rows.ParsePoliciesSaid:=
 OpenClaim.holds_of_cond 3 Tryz.f3 rfl rfl rfl rfl rfl rfl rfl ⟨rfl,rfl,rfl,rfl,rfl⟩ rfl rfl rfl rfl rfl jn Tryz.func3 j0
  ji jw
  (fun os started H enc _ F=>by rw[OpenClaim.pre_eq_preRow];exact lifted os started H enc F)
end Go.Proofs.YtecdfnpbcabdnaaGreatDoor.parsePolicies
namespace Go.Proofs.YtecdfnpbcabdnaaGreatDoor
set_option maxRecDepth 100000 in
theorem parsePolicies_card:Rows.ParsePoliciesCardSaid:=
 Claim7.holds_tied_plain_at .later [] _ _ _ _
  parsePolicies.over (fun _ h=>by cases h) (by kernel_rfl) (fun _ h=>by cases h) parsePolicies_row_tie rfl ⟨rfl,rfl⟩ (by kernel_rfl) rfl
  (fun f fn hf hfn=>by
    obtain rfl:f=3:=Option.some.inj ((show Tryz.prog.funcNamed Rows.parsePoliciesRow.func=some 3 by kernel_rfl).symm.trans hf) |>.symm
    obtain rfl:fn=Tryz.f3:=(Option.some.inj (Tryz.func3.symm.trans hfn)).symm
    exact⟨by kernel_rfl,fun j t ht=>by
     rw[Tryz.params3] at ht
     have hm:t∈[9]:=by simpa using Array.mem_of_getElem? ht
     have hall:([9].all fun u=>!Tryz.prog.wantsStandIn u)=true:=by kernel_rfl
     exact(show Tryz.prog.wantsStandIn t=false by simpa using List.all_eq_true.1 hall t hm)⟩)
  (by kernel_rfl)
#print axioms parsePolicies_card
end Go.Proofs.YtecdfnpbcabdnaaGreatDoor
