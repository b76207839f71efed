import Derived.Test.YteejjgbeknnmeaaGreatDoorI08
import Derived.Test.YteejjgbeknnmeaaGreatDoorI10
import Derived.Test.YteejjgbeknnmeaaGreatDoorI03
import Derived.Test.YteejjgbeknnmeaaGreatDoorI28
import Derived.Test.YteejjgbeknnmeaaGreatDoorTie
import Derived.Test.YteejjgbeknnmeaaGreatDoorCards
import Derived.SevenTiedAt
set_option maxRecDepth 100000
namespace Go.Proofs.YteejjgbeknnmeaaGreatDoor
open Go.ChangeShapes Go.WideShapes Go.RowKit Go.Deep
theorem revoked_lifted (os:Os) (started:os.Started) (H:Type) (enc:TypeId×Value->H) :
  ReturnsInHanded {} Tryz.checked os 12 .any (fun w args=>(Rows.revokedSpec.pre enc Tryz.prog Tryz.f12 [] false w args/\laidMetH Tryz.prog Rows.revokedRow.laid w)/\sizedMet enc Tryz.prog Tryz.f12 (OpenSpec.ofChange Rows.revokedSpec) false w args)
   (Rows.revokedSpec.post enc Tryz.prog Tryz.f12 false true false false):=by
 refine returnsInHanded_of_change_and (C:=Tryz.checked) (X:=fun w _=>laidMetH Tryz.prog Rows.revokedRow.laid w) (fun _ _ _ hh h=>h.of_heap hh) Tryz.own started (by kernel_rfl) Tryz.func12
  (ChangeSpec.witness_at (enc:=enc) (C:=Tryz.checked) (os:=os) (X:=fun w _=>laidMetH Tryz.prog Rows.revokedRow.laid w) false (World.doorLaid Tryz.prog 200 os) #[.agg #[.slice none 0 0,.slice none 0 0,.slice none 0 0],.slice none 0 0,.bool false] 8 rfl (by kernel_rfl) (by kernel_rfl) (by kernel_rfl) (by kernel_rfl) (by kernel_rfl) (laid_met os _)) ?_
 intro W base args ds gs before hval0 hW _ hwt hL _
 have hval:∀ (j:Nat) t v,Tryz.f12.params[j]? = some t->args[j]? = some v->Value.okWide Tryz.prog W .any base t v:=hval0
 have hW':=hW
 obtain ⟨p,q,hA0,hV0,rfl,hfz,hnd⟩:=hW
 have hA:DataW.TrodAll enc Tryz.prog W 0 (fun _=>true) true Tryz.f12.params.toList args.toList ds p:=hA0
 have hV:DataW.TrodVars enc Tryz.prog W (fun _=>true) [] gs q:=hV0
 rw [Tryz.params12] at hA hval
 obtain ⟨v0,v1,v2,d0,d1,d2,p0,p1,p2,rfl,rfl,rfl,h0,h1,h2⟩:=trodAll_three hA
 obtain ⟨rfl,rfl⟩:gs=[]/\q=[]:=by
  cases gs with
  | nil=>exact ⟨rfl,hV⟩
  | cons g r=>exact absurd hV (by intro h;cases h)
 simp only [List.append_nil] at hW'
 have hlt0:∀ x∈p0,x.block < W.heap.size:=fun x hx=>by simpa using hW'.lt x (by simp [hx])
 have hlt1:∀ x∈p1,x.block < W.heap.size:=fun x hx=>by simpa using hW'.lt x (by simp [hx])
 have hlt2:∀ x∈p2,x.block < W.heap.size:=fun x hx=>by simpa using hW'.lt x (by simp [hx])
 have hwt0:∀ z∈DataW.weights Tryz.prog 58 d0,z<=reachBytes:=fun z hz=>by
  have hm:z∈DataW.weightsEach Tryz.checked.prog (Tryz.f12.params.toList ++ DataSpec.varTypes Tryz.checked.prog Rows.revokedSpec.plain) ([d0,d1,d2] ++ []):=by
   rw [Tryz.params12]
   exact mem_each _ _ 0 58 d0 z rfl rfl hz
  simpa using List.all_eq_true.1 hwt z hm
 have hwt1:∀ z∈DataW.weights Tryz.prog 59 d1,z<=reachBytes:=fun z hz=>by
  have hm:z∈DataW.weightsEach Tryz.checked.prog (Tryz.f12.params.toList ++ DataSpec.varTypes Tryz.checked.prog Rows.revokedSpec.plain) ([d0,d1,d2] ++ []):=by
   rw [Tryz.params12]
   exact mem_each _ _ 1 59 d1 z rfl rfl hz
  simpa using List.all_eq_true.1 hwt z hm
 obtain ⟨fuel0,hf0⟩:=id h0
 obtain ⟨fuel1,hf1⟩:=id h1
 obtain ⟨fuel2,hf2⟩:=id h2
 obtain ⟨cs0,hv0,_⟩:=okWide_struct Tryz.underlying58 (hval 0 58 v0 rfl rfl)
 subst hv0
 obtain ⟨aT,aP,aL,mT,mP,mL,cT,cP,cL,PT,PP,PL,ecs,nT,nP,nL⟩:=open_plan hf0 hwt0
 have ecs2:cs0=#[.slice aT mT cT,.slice aP mP cP,.slice aL mL cL]:=by
  have:=congrArg List.toArray ecs
  simpa [Value.cells] using this
 subst ecs2
 obtain ⟨a1,m1,c1,hv1⟩:=okWide_slice Tryz.underlying59 (hval 1 59 v1 rfl rfl)
 subst hv1
 obtain ⟨acs,l1,i1,b1,k1⟩:=open_acts hf1 hwt1
 obtain ⟨fb,hv2⟩:=okWide_bool Tryz.underlying4 (hval 2 4 v2 rfl rfl)
 subst hv2
 refine (revoked_any apM PT PP PL aT aP aL mT cT mP cP mL cL acs a1 m1 c1 fb W (handle_of_laid hL) nT.inl nP.inl nL.inl nT.ln nP.ln nL.ln nT.bd nP.bd nL.bd nT.rg nP.rg nL.rg i1 l1 b1 k1).mono fun e W' ⟨he,bel⟩=>?_
 subst he
 have e1:Rows.revokedSpec.fn H ([d0,d1,d2] ++ [])={ results:=[.lit (.bool true)],args:=[d0,d1,d2] }:=by simp [Rows.revokedSpec]
 refine ⟨_,rfl,_,_,_,[],p0 ++ p1 ++ p2,[],hW',?_,?_,?_,bel.frame _,fun h=>by cases h⟩
 ·rw [e1];exact trodAll_mk1 (shut_bool Tryz.underlying4 true)
 ·rw [e1];exact (by have hT:=trodAll_mk3 (Below.trod Tryz.laidOut (by kernel_rfl) (of_decide_eq_true (by kernel_rfl)) h0 bel hlt0) (Below.trod Tryz.laidOut (by kernel_rfl) (of_decide_eq_true (by kernel_rfl)) h1 bel hlt1) (Below.trod Tryz.laidOut (by kernel_rfl) (of_decide_eq_true (by kernel_rfl)) h2 bel hlt2);simp only [List.append_assoc] at hT ⊢;exact hT)
 ·rw [e1];rfl
theorem revoked_said:Rows.RevokedSaid:=
 OpenClaim.holds_of_wide 12 Tryz.f12 rfl rfl rfl rfl rfl rfl rfl ⟨rfl,rfl,rfl,rfl,rfl⟩ rfl rfl rfl rfl rfl (by kernel_rfl) Tryz.func12 (by kernel_rfl)
  (of_decide_eq_true (by kernel_rfl)) (by unfold Func.isWrapper;rw [if_neg (of_decide_eq_false (by kernel_rfl))];exact ⟨rfl,rfl⟩)
  (fun os started H enc _=>revoked_lifted os started H enc)
open Go
theorem revoked_card:Rows.RevokedCardSaid:=
 Claim7.holds_tied_plain_at .later [] [.data,.data,.data,.handle] true (true,"6b548d1456c62829c7317ee0e0a1a1e36b0d27bef02f767f506fe5b0a58c0901") true
  revoked_said (fun _ h=>by cases h) (by kernel_rfl) (fun _ h=>by cases h) revoked_row_tie rfl ⟨rfl,rfl⟩ (by kernel_rfl) rfl
  (fun f fn hf hfn=>by
   obtain rfl:f=12:=Option.some.inj ((show Tryz.prog.funcNamed "embassy/embassykeep.Revoked"=some 12 by kernel_rfl).symm.trans hf) |>.symm
   obtain rfl:fn=Tryz.f12:=(Option.some.inj (Tryz.func12.symm.trans hfn)).symm
   exact ⟨by kernel_rfl,fun j t ht=>by
    rw [Tryz.params12] at ht
    have hm:=Array.mem_of_getElem? ht
    have hall:[58,59,4].all (fun t=>!(Tryz.prog.wantsStandIn t))=true:=by kernel_rfl
    have:=List.all_eq_true.1 hall t (by simpa using hm)
    exact (by simpa using this:Tryz.prog.wantsStandIn t=false)⟩)
  (by kernel_rfl)
#print axioms revoked_card
end Go.Proofs.YteejjgbeknnmeaaGreatDoor
