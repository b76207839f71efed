import Derived.Test.YteejjgbeknnmeaaGreatDoorH22
import Derived.Test.YteejjgbeknnmeaaGreatDoorH13
import Derived.Test.YteejjgbeknnmeaaGreatDoorH20
import Derived.Test.YteejjgbeknnmeaaGreatDoorTie
import Derived.Test.YteejjgbeknnmeaaGreatDoorCards
import Derived.SevenTiedAt
set_option maxRecDepth 100000
namespace Go.Proofs.YteejjgbeknnmeaaGreatDoor
open Go.ChangeShapes Go.WideShapes Go.RowKit Go.Deep
theorem queued_lifted (os:Os) (started:os.Started) (H:Type) (enc:TypeId×Value->H) :
  ReturnsInHanded {} Tryz.checked os 10 .any (fun w args=>(Rows.queuedSpec.pre enc Tryz.prog Tryz.f10 [] false w args/\laidMetH Tryz.prog Rows.queuedRow.laid w)/\sizedMet enc Tryz.prog Tryz.f10 (OpenSpec.ofChange Rows.queuedSpec) false w args)
   (Rows.queuedSpec.post enc Tryz.prog Tryz.f10 false true false false):=by
 refine returnsInHanded_of_change_and (C:=Tryz.checked) (X:=fun w _=>laidMetH Tryz.prog Rows.queuedRow.laid w) (fun _ _ _ hh h=>h.of_heap hh) Tryz.own started (by kernel_rfl) Tryz.func10
  (ChangeSpec.witness_at (enc:=enc) (C:=Tryz.checked) (os:=os) (X:=fun w _=>laidMetH Tryz.prog Rows.queuedRow.laid w) false (World.doorLaid Tryz.prog 200 os) #[.slice none 0 0,.int .i64 0] 8 rfl (by kernel_rfl) (by kernel_rfl) (by kernel_rfl) (by kernel_rfl) (by kernel_rfl) (laid_met os _)) ?_
 intro W base args ds gs before hval0 hW _ hwt hL _
 have hval:∀ (j:Nat) t v,Tryz.f10.params[j]? = some t->args[j]? = some v->Value.okWide Tryz.prog W .any base t v:=hval0
 have hW':=hW
 obtain ⟨p,q,hA0,hV0,rfl,hfz,hnd⟩:=hW
 have hA:DataW.TrodAll enc Tryz.prog W 0 (fun _=>true) true Tryz.f10.params.toList args.toList ds p:=hA0
 have hV:DataW.TrodVars enc Tryz.prog W (fun _=>true) [] gs q:=hV0
 rw [Tryz.params10] at hA hval
 obtain ⟨v0,v1,d0,d1,p0,p1,rfl,rfl,rfl,h0,h1⟩:=trodAll_two hA
 obtain ⟨rfl,rfl⟩:gs=[]/\q=[]:=by
  cases gs with
  | nil=>exact ⟨rfl,hV⟩
  | cons g r=>exact absurd hV (by intro h;cases h)
 simp only [List.append_nil] at hW'
 have hlt0:∀ x∈p0,x.block < W.heap.size:=fun x hx=>by simpa using hW'.lt x (by simp [hx])
 have hlt1:∀ x∈p1,x.block < W.heap.size:=fun x hx=>by simpa using hW'.lt x (by simp [hx])
 have hwt0:∀ z∈DataW.weights Tryz.prog 24 d0,z<=reachBytes:=fun z hz=>by
  have hm:z∈DataW.weightsEach Tryz.checked.prog (Tryz.f10.params.toList ++ DataSpec.varTypes Tryz.checked.prog Rows.queuedSpec.plain) ([d0,d1] ++ []):=by
   rw [Tryz.params10]
   exact mem_each _ _ 0 24 d0 z rfl rfl hz
  simpa using List.all_eq_true.1 hwt z hm
 obtain ⟨fuel0,hf0⟩:=id h0
 obtain ⟨fuel1,hf1⟩:=id h1
 obtain ⟨a0,m0,c0,hv0⟩:=okWide_slice Tryz.underlying24 (hval 0 24 v0 rfl rfl)
 subst hv0
 obtain ⟨os,l0,i0,b0⟩:=open_nums hf0 hwt0
 obtain ⟨qq,hv1⟩:=okWide_int Tryz.underlying3 (hval 1 3 v1 rfl rfl)
 subst hv1
 obtain ⟨z1,e1,_,w1⟩:=DataW.trod_int Tryz.underlying3 hf1
 have r1:=wf64 w1
 have e1:qq=z1:=by simpa [Value.cells] using e1
 rw [<- e1] at r1
 refine (queued_any apM os b0 a0 m0 c0 qq W (handle_of_laid hL) i0 l0 r1.1 r1.2).mono fun e W' ⟨he,bel⟩=>?_
 subst he
 have e1:Rows.queuedSpec.fn H ([d0,d1] ++ [])={ results:=[.lit (.bool true)],args:=[d0,d1] }:=by simp [Rows.queuedSpec]
 refine ⟨_,rfl,_,_,_,[],p0 ++ p1,[],hW',?_,?_,?_,bel.frame _,fun h=>by cases h⟩
 ·rw [e1];exact trodAll_mk1 (shut_bool Tryz.underlying4 true)
 ·rw [e1];exact trodAll_mk2 (Below.trod Tryz.laidOut (by kernel_rfl) (of_decide_eq_true (by kernel_rfl)) h0 bel hlt0) (Below.trod Tryz.laidOut (by kernel_rfl) (of_decide_eq_true (by kernel_rfl)) h1 bel hlt1)
 ·rw [e1];rfl
theorem queued_said:Rows.QueuedSaid:=
 OpenClaim.holds_of_wide 10 Tryz.f10 rfl rfl rfl rfl rfl rfl rfl ⟨rfl,rfl,rfl,rfl,rfl⟩ rfl rfl rfl rfl rfl (by kernel_rfl) Tryz.func10 (by kernel_rfl)
  (of_decide_eq_true (by kernel_rfl)) (by unfold Func.isWrapper;rw [if_neg (of_decide_eq_false (by kernel_rfl))];exact ⟨rfl,rfl⟩)
  (fun os started H enc _=>queued_lifted os started H enc)
open Go
theorem queued_card:Rows.QueuedCardSaid:=
 Claim7.holds_tied_plain_at .later [] [.data,.data,.data,.handle] true (true,"6b548d1456c62829c7317ee0e0a1a1e36b0d27bef02f767f506fe5b0a58c0901") true
  queued_said (fun _ h=>by cases h) (by kernel_rfl) (fun _ h=>by cases h) queued_row_tie rfl ⟨rfl,rfl⟩ (by kernel_rfl) rfl
  (fun f fn hf hfn=>by
   obtain rfl:f=10:=Option.some.inj ((show Tryz.prog.funcNamed "embassy/embassykeep.Queued"=some 10 by kernel_rfl).symm.trans hf) |>.symm
   obtain rfl:fn=Tryz.f10:=(Option.some.inj (Tryz.func10.symm.trans hfn)).symm
   exact ⟨by kernel_rfl,fun j t ht=>by
    rw [Tryz.params10] at ht
    have hm:=Array.mem_of_getElem? ht
    have hall:[24,3].all (fun t=>!(Tryz.prog.wantsStandIn t))=true:=by kernel_rfl
    have:=List.all_eq_true.1 hall t (by simpa using hm)
    exact (by simpa using this:Tryz.prog.wantsStandIn t=false)⟩)
  (by kernel_rfl)
#print axioms queued_card
end Go.Proofs.YteejjgbeknnmeaaGreatDoor
