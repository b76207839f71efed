import Derived.Test.YteejjgbeknnmeaaGreatDoorH22
import Derived.Test.YteejjgbeknnmeaaGreatDoorH13
import Derived.Test.YteejjgbeknnmeaaGreatDoorH20
import Derived.Test.YteejjgbeknnmeaaGreatDoorTie
import Derived.Test.YteejjgbeknnmeaaGreatDoorCards
import Derived.SevenTiedAt
set_option maxRecDepth 100000
namespace Go.Proofs.YteejjgbeknnmeaaGreatDoor
open Go.ChangeShapes Go.WideShapes Go.RowKit Go.Deep
theorem met_lifted (os:Os) (started:os.Started) (H:Type) (enc:TypeId×Value->H) :
  ReturnsInHanded {} Tryz.checked os 8 .any (fun w args=>(Rows.metSpec.pre enc Tryz.prog Tryz.f8 [] false w args/\laidMetH Tryz.prog Rows.metRow.laid w)/\sizedMet enc Tryz.prog Tryz.f8 (OpenSpec.ofChange Rows.metSpec) false w args)
   (Rows.metSpec.post enc Tryz.prog Tryz.f8 false true false false):=by
 refine returnsInHanded_of_change_and (C:=Tryz.checked) (X:=fun w _=>laidMetH Tryz.prog Rows.metRow.laid w) (fun _ _ _ hh h=>h.of_heap hh) Tryz.own started (by kernel_rfl) Tryz.func8
  (ChangeSpec.witness_at (enc:=enc) (C:=Tryz.checked) (os:=os) (X:=fun w _=>laidMetH Tryz.prog Rows.metRow.laid w) false (World.doorLaid Tryz.prog 200 os) #[.slice none 0 0,.slice none 0 0,.bool false,.int .i64 0] 8 rfl (by kernel_rfl) (by kernel_rfl) (by kernel_rfl) (by kernel_rfl) (by kernel_rfl) (laid_met os _)) ?_
 intro W base args ds gs before hval0 hW _ hwt hL _
 have hval:∀ (j:Nat) t v,Tryz.f8.params[j]? = some t->args[j]? = some v->Value.okWide Tryz.prog W .any base t v:=hval0
 have hW':=hW
 obtain ⟨p,q,hA0,hV0,rfl,hfz,hnd⟩:=hW
 have hA:DataW.TrodAll enc Tryz.prog W 0 (fun _=>true) true Tryz.f8.params.toList args.toList ds p:=hA0
 have hV:DataW.TrodVars enc Tryz.prog W (fun _=>true) [] gs q:=hV0
 rw [Tryz.params8] at hA hval
 obtain ⟨v0,v1,v2,v3,d0,d1,d2,d3,p0,p1,p2,p3,rfl,rfl,rfl,h0,h1,h2,h3⟩:=trodAll_four hA
 obtain ⟨rfl,rfl⟩:gs=[]/\q=[]:=by
  cases gs with
  | nil=>exact ⟨rfl,hV⟩
  | cons g r=>exact absurd hV (by intro h;cases h)
 simp only [List.append_nil] at hW'
 have hlt0:∀ x∈p0,x.block < W.heap.size:=fun x hx=>by simpa using hW'.lt x (by simp [hx])
 have hlt1:∀ x∈p1,x.block < W.heap.size:=fun x hx=>by simpa using hW'.lt x (by simp [hx])
 have hlt2:∀ x∈p2,x.block < W.heap.size:=fun x hx=>by simpa using hW'.lt x (by simp [hx])
 have hlt3:∀ x∈p3,x.block < W.heap.size:=fun x hx=>by simpa using hW'.lt x (by simp [hx])
 have hwt0:∀ z∈DataW.weights Tryz.prog 39 d0,z<=reachBytes:=fun z hz=>by
  have hm:z∈DataW.weightsEach Tryz.checked.prog (Tryz.f8.params.toList ++ DataSpec.varTypes Tryz.checked.prog Rows.metSpec.plain) ([d0,d1,d2,d3] ++ []):=by
   rw [Tryz.params8]
   exact mem_each _ _ 0 39 d0 z rfl rfl hz
  simpa using List.all_eq_true.1 hwt z hm
 have hwt1:∀ z∈DataW.weights Tryz.prog 39 d1,z<=reachBytes:=fun z hz=>by
  have hm:z∈DataW.weightsEach Tryz.checked.prog (Tryz.f8.params.toList ++ DataSpec.varTypes Tryz.checked.prog Rows.metSpec.plain) ([d0,d1,d2,d3] ++ []):=by
   rw [Tryz.params8]
   exact mem_each _ _ 1 39 d1 z rfl rfl hz
  simpa using List.all_eq_true.1 hwt z hm
 obtain ⟨fuel0,hf0⟩:=id h0
 obtain ⟨fuel1,hf1⟩:=id h1
 obtain ⟨fuel2,hf2⟩:=id h2
 obtain ⟨fuel3,hf3⟩:=id h3
 obtain ⟨a0,m0,c0,hv0⟩:=okWide_slice Tryz.underlying39 (hval 0 39 v0 rfl rfl)
 subst hv0
 obtain ⟨ws,l0,i0,b0⟩:=open_ints hf0 hwt0
 obtain ⟨a1,m1,c1,hv1⟩:=okWide_slice Tryz.underlying39 (hval 1 39 v1 rfl rfl)
 subst hv1
 obtain ⟨bs,l1,i1,b1⟩:=open_ints hf1 hwt1
 obtain ⟨fb,hv2⟩:=okWide_bool Tryz.underlying4 (hval 2 4 v2 rfl rfl)
 subst hv2
 obtain ⟨rt,hv3⟩:=okWide_int Tryz.underlying3 (hval 3 3 v3 rfl rfl)
 subst hv3
 obtain ⟨z3,e3,_,w3⟩:=DataW.trod_int Tryz.underlying3 hf3
 have r3:=wf64 w3
 have e3:rt=z3:=by simpa [Value.cells] using e3
 rw [<- e3] at r3
 have hC:Calls Tryz.prog 8 #[.slice a0 m0 c0,.slice a1 m1 c1,.bool fb,.int .i64 rt] W fun e w'=>e=.returned (.bool true)/\Below W.heap.size W w':=by
  cases fb
  ·exact met_first apM ws bs rt a0 a1 m0 c0 m1 c1 W (handle_of_laid hL) r3.1 r3.2 i0 i1 l0 l1 b0 b1
  ·exact met_yield apM ws bs rt a0 a1 m0 c0 m1 c1 W (handle_of_laid hL) r3.1 r3.2 i0 i1 l0 l1 b0 b1
 refine (hC).mono fun e W' ⟨he,bel⟩=>?_
 subst he
 have e1:Rows.metSpec.fn H ([d0,d1,d2,d3] ++ [])={ results:=[.lit (.bool true)],args:=[d0,d1,d2,d3] }:=by simp [Rows.metSpec]
 refine ⟨_,rfl,_,_,_,[],p0 ++ p1 ++ p2 ++ p3,[],hW',?_,?_,?_,bel.frame _,fun h=>by cases h⟩
 ·rw [e1];exact trodAll_mk1 (shut_bool Tryz.underlying4 true)
 ·rw [e1];exact (by have hT:=trodAll_mk4 (Below.trod Tryz.laidOut (by kernel_rfl) (of_decide_eq_true (by kernel_rfl)) h0 bel hlt0) (Below.trod Tryz.laidOut (by kernel_rfl) (of_decide_eq_true (by kernel_rfl)) h1 bel hlt1) (Below.trod Tryz.laidOut (by kernel_rfl) (of_decide_eq_true (by kernel_rfl)) h2 bel hlt2) (Below.trod Tryz.laidOut (by kernel_rfl) (of_decide_eq_true (by kernel_rfl)) h3 bel hlt3);simp only [List.append_assoc] at hT ⊢;exact hT)
 ·rw [e1];rfl
theorem met_said:Rows.MetSaid:=
 OpenClaim.holds_of_wide 8 Tryz.f8 rfl rfl rfl rfl rfl rfl rfl ⟨rfl,rfl,rfl,rfl,rfl⟩ rfl rfl rfl rfl rfl (by kernel_rfl) Tryz.func8 (by kernel_rfl)
  (of_decide_eq_true (by kernel_rfl)) (by unfold Func.isWrapper;rw [if_neg (of_decide_eq_false (by kernel_rfl))];exact ⟨rfl,rfl⟩)
  (fun os started H enc _=>met_lifted os started H enc)
open Go
theorem met_card:Rows.MetCardSaid:=
 Claim7.holds_tied_plain_at .later [] [.data,.data,.data,.handle] true (true,"6b548d1456c62829c7317ee0e0a1a1e36b0d27bef02f767f506fe5b0a58c0901") true
  met_said (fun _ h=>by cases h) (by kernel_rfl) (fun _ h=>by cases h) met_row_tie rfl ⟨rfl,rfl⟩ (by kernel_rfl) rfl
  (fun f fn hf hfn=>by
   obtain rfl:f=8:=Option.some.inj ((show Tryz.prog.funcNamed "embassy/embassykeep.Met"=some 8 by kernel_rfl).symm.trans hf) |>.symm
   obtain rfl:fn=Tryz.f8:=(Option.some.inj (Tryz.func8.symm.trans hfn)).symm
   exact ⟨by kernel_rfl,fun j t ht=>by
    rw [Tryz.params8] at ht
    have hm:=Array.mem_of_getElem? ht
    have hall:[39,39,4,3].all (fun t=>!(Tryz.prog.wantsStandIn t))=true:=by kernel_rfl
    have:=List.all_eq_true.1 hall t (by simpa using hm)
    exact (by simpa using this:Tryz.prog.wantsStandIn t=false)⟩)
  (by kernel_rfl)
#print axioms met_card
end Go.Proofs.YteejjgbeknnmeaaGreatDoor
