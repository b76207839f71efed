import Derived.Test.YteejjgbeknnmeaaGreatDoorJ10
import Derived.Test.YteejjgbeknnmeaaGreatDoorJ12
import Derived.Test.YteejjgbeknnmeaaGreatDoorJ03
import Derived.Test.YteejjgbeknnmeaaGreatDoorJ30
import Derived.Test.YteejjgbeknnmeaaGreatDoorTie
import Derived.Test.YteejjgbeknnmeaaGreatDoorCards
import Derived.SevenTiedAt
set_option maxRecDepth 100000
namespace Go.Proofs.YteejjgbeknnmeaaGreatDoor
open Go.ChangeShapes Go.WideShapes Go.RowKit Go.Deep
theorem walled_lifted (os:Os) (started:os.Started) (H:Type) (enc:TypeId×Value->H) :
  ReturnsInHanded {} Tryz.checked os 13 .any (fun w args=>(Rows.walledSpec.pre enc Tryz.prog Tryz.f13 [] false w args/\laidMetH Tryz.prog Rows.walledRow.laid w)/\sizedMet enc Tryz.prog Tryz.f13 (OpenSpec.ofChange Rows.walledSpec) false w args)
   (Rows.walledSpec.post enc Tryz.prog Tryz.f13 false true false false):=by
 refine returnsInHanded_of_change_and (C:=Tryz.checked) (X:=fun w _=>laidMetH Tryz.prog Rows.walledRow.laid w) (fun _ _ _ hh h=>h.of_heap hh) Tryz.own started (by kernel_rfl) Tryz.func13
  (ChangeSpec.witness_at (enc:=enc) (C:=Tryz.checked) (os:=os) (X:=fun w _=>laidMetH Tryz.prog Rows.walledRow.laid w) false (World.doorLaid Tryz.prog 200 os) #[.agg #[.slice none 0 0,.slice none 0 0,.slice none 0 0],.slice none 0 0,.slice none 0 0,.slice none 0 0] 8 rfl (by kernel_rfl) (by kernel_rfl) (by kernel_rfl) (by kernel_rfl) (by kernel_rfl) (laid_met os _)) ?_
 intro W base args ds gs before hval0 hW _ hwt hL _
 have hval:∀ (j:Nat) t v,Tryz.f13.params[j]? = some t->args[j]? = some v->Value.okWide Tryz.prog W .any base t v:=hval0
 have hW':=hW
 obtain ⟨p,q,hA0,hV0,rfl,hfz,hnd⟩:=hW
 have hA:DataW.TrodAll enc Tryz.prog W 0 (fun _=>true) true Tryz.f13.params.toList args.toList ds p:=hA0
 have hV:DataW.TrodVars enc Tryz.prog W (fun _=>true) [] gs q:=hV0
 rw [Tryz.params13] at hA hval
 obtain ⟨v0,v1,v2,v3,d0,d1,d2,d3,p0,p1,p2,p3,rfl,rfl,rfl,h0,h1,h2,h3⟩:=trodAll_four hA
 obtain ⟨rfl,rfl⟩:gs=[]/\q=[]:=by
  cases gs with
  | nil=>exact ⟨rfl,hV⟩
  | cons g r=>exact absurd hV (by intro h;cases h)
 simp only [List.append_nil] at hW'
 have hlt0:∀ x∈p0,x.block < W.heap.size:=fun x hx=>by simpa using hW'.lt x (by simp [hx])
 have hlt1:∀ x∈p1,x.block < W.heap.size:=fun x hx=>by simpa using hW'.lt x (by simp [hx])
 have hlt2:∀ x∈p2,x.block < W.heap.size:=fun x hx=>by simpa using hW'.lt x (by simp [hx])
 have hlt3:∀ x∈p3,x.block < W.heap.size:=fun x hx=>by simpa using hW'.lt x (by simp [hx])
 have hwt0:∀ z∈DataW.weights Tryz.prog 58 d0,z<=reachBytes:=fun z hz=>by
  have hm:z∈DataW.weightsEach Tryz.checked.prog (Tryz.f13.params.toList ++ DataSpec.varTypes Tryz.checked.prog Rows.walledSpec.plain) ([d0,d1,d2,d3] ++ []):=by
   rw [Tryz.params13]
   exact mem_each _ _ 0 58 d0 z rfl rfl hz
  simpa using List.all_eq_true.1 hwt z hm
 have hwt1:∀ z∈DataW.weights Tryz.prog 59 d1,z<=reachBytes:=fun z hz=>by
  have hm:z∈DataW.weightsEach Tryz.checked.prog (Tryz.f13.params.toList ++ DataSpec.varTypes Tryz.checked.prog Rows.walledSpec.plain) ([d0,d1,d2,d3] ++ []):=by
   rw [Tryz.params13]
   exact mem_each _ _ 1 59 d1 z rfl rfl hz
  simpa using List.all_eq_true.1 hwt z hm
 have hwt2:∀ z∈DataW.weights Tryz.prog 59 d2,z<=reachBytes:=fun z hz=>by
  have hm:z∈DataW.weightsEach Tryz.checked.prog (Tryz.f13.params.toList ++ DataSpec.varTypes Tryz.checked.prog Rows.walledSpec.plain) ([d0,d1,d2,d3] ++ []):=by
   rw [Tryz.params13]
   exact mem_each _ _ 2 59 d2 z rfl rfl hz
  simpa using List.all_eq_true.1 hwt z hm
 have hwt3:∀ z∈DataW.weights Tryz.prog 59 d3,z<=reachBytes:=fun z hz=>by
  have hm:z∈DataW.weightsEach Tryz.checked.prog (Tryz.f13.params.toList ++ DataSpec.varTypes Tryz.checked.prog Rows.walledSpec.plain) ([d0,d1,d2,d3] ++ []):=by
   rw [Tryz.params13]
   exact mem_each _ _ 3 59 d3 z rfl rfl hz
  simpa using List.all_eq_true.1 hwt z hm
 obtain ⟨fuel0,hf0⟩:=id h0
 obtain ⟨fuel1,hf1⟩:=id h1
 obtain ⟨fuel2,hf2⟩:=id h2
 obtain ⟨fuel3,hf3⟩:=id h3
 obtain ⟨cs0,hv0,_⟩:=okWide_struct Tryz.underlying58 (hval 0 58 v0 rfl rfl)
 subst hv0
 obtain ⟨aT,aP,aL,mT,mP,mL,cT,cP,cL,PT,PP,PL,ecs,nT,nP,nL⟩:=open_plan hf0 hwt0
 have ecs2:cs0=#[.slice aT mT cT,.slice aP mP cP,.slice aL mL cL]:=by
  have:=congrArg List.toArray ecs
  simpa [Value.cells] using this
 subst ecs2
 obtain ⟨a1,m1,c1,hv1⟩:=okWide_slice Tryz.underlying59 (hval 1 59 v1 rfl rfl)
 subst hv1
 obtain ⟨acs,l1,i1,b1,k1⟩:=open_acts hf1 hwt1
 obtain ⟨a2,m2,c2,hv2⟩:=okWide_slice Tryz.underlying59 (hval 2 59 v2 rfl rfl)
 subst hv2
 obtain ⟨ahs,l2,i2,b2,k2⟩:=open_acts hf2 hwt2
 obtain ⟨a3,m3,c3,hv3⟩:=okWide_slice Tryz.underlying59 (hval 3 59 v3 rfl rfl)
 subst hv3
 obtain ⟨ats,l3,i3,b3,k3⟩:=open_acts hf3 hwt3
 refine (walled_any apM PT PP PL aT aP aL mT cT mP cP mL cL acs a1 m1 c1 ahs a2 m2 c2 ats a3 m3 c3 W (handle_of_laid hL) nT.inl nP.inl nL.inl nT.ln nP.ln nL.ln nT.bd nP.bd nL.bd nT.rg nP.rg nL.rg i1 l1 b1 k1 i2 l2 b2 k2 i3 l3 b3 k3).mono fun e W' ⟨he,bel⟩=>?_
 subst he
 have e1:Rows.walledSpec.fn H ([d0,d1,d2,d3] ++ [])={ results:=[.lit (.bool true)],args:=[d0,d1,d2,d3] }:=by simp [Rows.walledSpec]
 refine ⟨_,rfl,_,_,_,[],p0 ++ p1 ++ p2 ++ p3,[],hW',?_,?_,?_,bel.frame _,fun h=>by cases h⟩
 ·rw [e1];exact trodAll_mk1 (shut_bool Tryz.underlying4 true)
 ·rw [e1];exact (by have hT:=trodAll_mk4 (Below.trod Tryz.laidOut (by kernel_rfl) (of_decide_eq_true (by kernel_rfl)) h0 bel hlt0) (Below.trod Tryz.laidOut (by kernel_rfl) (of_decide_eq_true (by kernel_rfl)) h1 bel hlt1) (Below.trod Tryz.laidOut (by kernel_rfl) (of_decide_eq_true (by kernel_rfl)) h2 bel hlt2) (Below.trod Tryz.laidOut (by kernel_rfl) (of_decide_eq_true (by kernel_rfl)) h3 bel hlt3);simp only [List.append_assoc] at hT ⊢;exact hT)
 ·rw [e1];rfl
theorem walled_said:Rows.WalledSaid:=
 OpenClaim.holds_of_wide 13 Tryz.f13 rfl rfl rfl rfl rfl rfl rfl ⟨rfl,rfl,rfl,rfl,rfl⟩ rfl rfl rfl rfl rfl (by kernel_rfl) Tryz.func13 (by kernel_rfl)
  (of_decide_eq_true (by kernel_rfl)) (by unfold Func.isWrapper;rw [if_neg (of_decide_eq_false (by kernel_rfl))];exact ⟨rfl,rfl⟩)
  (fun os started H enc _=>walled_lifted os started H enc)
open Go
theorem walled_card:Rows.WalledCardSaid:=
 Claim7.holds_tied_plain_at .later [] [.data,.data,.data,.handle] true (true,"6b548d1456c62829c7317ee0e0a1a1e36b0d27bef02f767f506fe5b0a58c0901") true
  walled_said (fun _ h=>by cases h) (by kernel_rfl) (fun _ h=>by cases h) walled_row_tie rfl ⟨rfl,rfl⟩ (by kernel_rfl) rfl
  (fun f fn hf hfn=>by
   obtain rfl:f=13:=Option.some.inj ((show Tryz.prog.funcNamed "embassy/embassykeep.Walled"=some 13 by kernel_rfl).symm.trans hf) |>.symm
   obtain rfl:fn=Tryz.f13:=(Option.some.inj (Tryz.func13.symm.trans hfn)).symm
   exact ⟨by kernel_rfl,fun j t ht=>by
    rw [Tryz.params13] at ht
    have hm:=Array.mem_of_getElem? ht
    have hall:[58,59,59,59].all (fun t=>!(Tryz.prog.wantsStandIn t))=true:=by kernel_rfl
    have:=List.all_eq_true.1 hall t (by simpa using hm)
    exact (by simpa using this:Tryz.prog.wantsStandIn t=false)⟩)
  (by kernel_rfl)
#print axioms walled_card
end Go.Proofs.YteejjgbeknnmeaaGreatDoor
