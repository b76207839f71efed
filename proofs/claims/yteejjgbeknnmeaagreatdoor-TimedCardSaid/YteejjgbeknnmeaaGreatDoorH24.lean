import Derived.Test.YteejjgbeknnmeaaGreatDoorH22
import Derived.Test.YteejjgbeknnmeaaGreatDoorH13
import Derived.Test.YteejjgbeknnmeaaGreatDoorH20
import Derived.Test.YteejjgbeknnmeaaGreatDoorTie
import Derived.Test.YteejjgbeknnmeaaGreatDoorCards
import Derived.SevenTiedAt
set_option maxRecDepth 100000
namespace Go.Proofs.YteejjgbeknnmeaaGreatDoor
open Go.ChangeShapes Go.WideShapes Go.RowKit Go.Deep
theorem timed_lifted (os:Os) (started:os.Started) (H:Type) (enc:TypeId×Value->H) :
  ReturnsInHanded {} Tryz.checked os 9 .any (fun w args=>(Rows.timedSpec.pre enc Tryz.prog Tryz.f9 [] false w args/\laidMetH Tryz.prog Rows.timedRow.laid w)/\sizedMet enc Tryz.prog Tryz.f9 (OpenSpec.ofChange Rows.timedSpec) false w args)
   (Rows.timedSpec.post enc Tryz.prog Tryz.f9 false true false false):=by
 refine returnsInHanded_of_change_and (C:=Tryz.checked) (X:=fun w _=>laidMetH Tryz.prog Rows.timedRow.laid w) (fun _ _ _ hh h=>h.of_heap hh) Tryz.own started (by kernel_rfl) Tryz.func9
  (ChangeSpec.witness_at (enc:=enc) (C:=Tryz.checked) (os:=os) (X:=fun w _=>laidMetH Tryz.prog Rows.timedRow.laid w) false (World.doorLaid Tryz.prog 200 os) #[.int .i64 0,.bool false,.int .i64 0] 8 rfl (by kernel_rfl) (by kernel_rfl) (by kernel_rfl) (by kernel_rfl) (by kernel_rfl) (laid_met os _)) ?_
 intro W base args ds gs before hval0 hW _ hwt hL _
 have hval:∀ (j:Nat) t v,Tryz.f9.params[j]? = some t->args[j]? = some v->Value.okWide Tryz.prog W .any base t v:=hval0
 have hW':=hW
 obtain ⟨p,q,hA0,hV0,rfl,hfz,hnd⟩:=hW
 have hA:DataW.TrodAll enc Tryz.prog W 0 (fun _=>true) true Tryz.f9.params.toList args.toList ds p:=hA0
 have hV:DataW.TrodVars enc Tryz.prog W (fun _=>true) [] gs q:=hV0
 rw [Tryz.params9] at hA hval
 obtain ⟨v0,v1,v2,d0,d1,d2,p0,p1,p2,rfl,rfl,rfl,h0,h1,h2⟩:=trodAll_three hA
 obtain ⟨rfl,rfl⟩:gs=[]/\q=[]:=by
  cases gs with
  | nil=>exact ⟨rfl,hV⟩
  | cons g r=>exact absurd hV (by intro h;cases h)
 simp only [List.append_nil] at hW'
 have hlt0:∀ x∈p0,x.block < W.heap.size:=fun x hx=>by simpa using hW'.lt x (by simp [hx])
 have hlt1:∀ x∈p1,x.block < W.heap.size:=fun x hx=>by simpa using hW'.lt x (by simp [hx])
 have hlt2:∀ x∈p2,x.block < W.heap.size:=fun x hx=>by simpa using hW'.lt x (by simp [hx])
 obtain ⟨fuel0,hf0⟩:=id h0
 obtain ⟨fuel1,hf1⟩:=id h1
 obtain ⟨fuel2,hf2⟩:=id h2
 obtain ⟨tt,hv0⟩:=okWide_int Tryz.underlying3 (hval 0 3 v0 rfl rfl)
 subst hv0
 obtain ⟨z0,e0,_,w0⟩:=DataW.trod_int Tryz.underlying3 hf0
 have r0:=wf64 w0
 have e0:tt=z0:=by simpa [Value.cells] using e0
 rw [<- e0] at r0
 obtain ⟨fb,hv1⟩:=okWide_bool Tryz.underlying4 (hval 1 4 v1 rfl rfl)
 subst hv1
 obtain ⟨qq,hv2⟩:=okWide_int Tryz.underlying3 (hval 2 3 v2 rfl rfl)
 subst hv2
 obtain ⟨z2,e2,_,w2⟩:=DataW.trod_int Tryz.underlying3 hf2
 have r2:=wf64 w2
 have e2:qq=z2:=by simpa [Value.cells] using e2
 rw [<- e2] at r2
 have hC:Calls Tryz.prog 9 #[.int .i64 tt,.bool fb,.int .i64 qq] W fun e w'=>e=.returned (.bool true)/\Below W.heap.size W w':=by
  cases fb
  ·exact timed_recv apM tt qq W (handle_of_laid hL) r0.1 r0.2 r2.1 r2.2
  ·exact timed_send apM tt qq W (handle_of_laid hL) r0.1 r0.2 r2.1 r2.2
 refine (hC).mono fun e W' ⟨he,bel⟩=>?_
 subst he
 have e1:Rows.timedSpec.fn H ([d0,d1,d2] ++ [])={ results:=[.lit (.bool true)],args:=[d0,d1,d2] }:=by simp [Rows.timedSpec]
 refine ⟨_,rfl,_,_,_,[],p0 ++ p1 ++ p2,[],hW',?_,?_,?_,bel.frame _,fun h=>by cases h⟩
 ·rw [e1];exact trodAll_mk1 (shut_bool Tryz.underlying4 true)
 ·rw [e1];exact (by have hT:=trodAll_mk3 (Below.trod Tryz.laidOut (by kernel_rfl) (of_decide_eq_true (by kernel_rfl)) h0 bel hlt0) (Below.trod Tryz.laidOut (by kernel_rfl) (of_decide_eq_true (by kernel_rfl)) h1 bel hlt1) (Below.trod Tryz.laidOut (by kernel_rfl) (of_decide_eq_true (by kernel_rfl)) h2 bel hlt2);simp only [List.append_assoc] at hT ⊢;exact hT)
 ·rw [e1];rfl
theorem timed_said:Rows.TimedSaid:=
 OpenClaim.holds_of_wide 9 Tryz.f9 rfl rfl rfl rfl rfl rfl rfl ⟨rfl,rfl,rfl,rfl,rfl⟩ rfl rfl rfl rfl rfl (by kernel_rfl) Tryz.func9 (by kernel_rfl)
  (of_decide_eq_true (by kernel_rfl)) (by unfold Func.isWrapper;rw [if_neg (of_decide_eq_false (by kernel_rfl))];exact ⟨rfl,rfl⟩)
  (fun os started H enc _=>timed_lifted os started H enc)
open Go
theorem timed_card:Rows.TimedCardSaid:=
 Claim7.holds_tied_plain_at .later [] [.data,.data,.data,.handle] true (true,"6b548d1456c62829c7317ee0e0a1a1e36b0d27bef02f767f506fe5b0a58c0901") true
  timed_said (fun _ h=>by cases h) (by kernel_rfl) (fun _ h=>by cases h) timed_row_tie rfl ⟨rfl,rfl⟩ (by kernel_rfl) rfl
  (fun f fn hf hfn=>by
   obtain rfl:f=9:=Option.some.inj ((show Tryz.prog.funcNamed "embassy/embassykeep.Timed"=some 9 by kernel_rfl).symm.trans hf) |>.symm
   obtain rfl:fn=Tryz.f9:=(Option.some.inj (Tryz.func9.symm.trans hfn)).symm
   exact ⟨by kernel_rfl,fun j t ht=>by
    rw [Tryz.params9] at ht
    have hm:=Array.mem_of_getElem? ht
    have hall:[3,4,3].all (fun t=>!(Tryz.prog.wantsStandIn t))=true:=by kernel_rfl
    have:=List.all_eq_true.1 hall t (by simpa using hm)
    exact (by simpa using this:Tryz.prog.wantsStandIn t=false)⟩)
  (by kernel_rfl)
#print axioms timed_card
end Go.Proofs.YteejjgbeknnmeaaGreatDoor
