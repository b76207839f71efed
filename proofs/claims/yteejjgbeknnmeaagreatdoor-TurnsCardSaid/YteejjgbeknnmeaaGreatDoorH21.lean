import Derived.Test.YteejjgbeknnmeaaGreatDoorH12
import Derived.Test.YteejjgbeknnmeaaGreatDoorH13
import Derived.Test.YteejjgbeknnmeaaGreatDoorH20
import Derived.Test.YteejjgbeknnmeaaGreatDoorTie
import Derived.Test.YteejjgbeknnmeaaGreatDoorCards
import Derived.SevenTiedAt
set_option maxRecDepth 100000
namespace Go.Proofs.YteejjgbeknnmeaaGreatDoor
open Go.ChangeShapes Go.WideShapes Go.RowKit Go.Deep
theorem turns_lifted (os:Os) (started:os.Started) (H:Type) (enc:TypeId×Value->H) :
  ReturnsInHanded {} Tryz.checked os 7 .any (fun w args=>(Rows.turnsSpec.pre enc Tryz.prog Tryz.f7 [] false w args/\laidMetH Tryz.prog Rows.turnsRow.laid w)/\sizedMet enc Tryz.prog Tryz.f7 (OpenSpec.ofChange Rows.turnsSpec) false w args)
   (Rows.turnsSpec.post enc Tryz.prog Tryz.f7 false true false false):=by
 refine returnsInHanded_of_change_and (C:=Tryz.checked) (X:=fun w _=>laidMetH Tryz.prog Rows.turnsRow.laid w) (fun _ _ _ hh h=>h.of_heap hh) Tryz.own started (by kernel_rfl) Tryz.func7
  (ChangeSpec.witness_at (enc:=enc) (C:=Tryz.checked) (os:=os) (X:=fun w _=>laidMetH Tryz.prog Rows.turnsRow.laid w) false (World.doorLaid Tryz.prog 200 os) #[.int .i64 0,.int .i64 0] 8 rfl (by kernel_rfl) (by kernel_rfl) (by kernel_rfl) (by kernel_rfl) (by kernel_rfl) (laid_met os _)) ?_
 intro W base args ds gs before hval0 hW _ hwt hL _
 have hval:∀ (j:Nat) t v,Tryz.f7.params[j]? = some t->args[j]? = some v->Value.okWide Tryz.prog W .any base t v:=hval0
 have hW':=hW
 obtain ⟨p,q,hA0,hV0,rfl,hfz,hnd⟩:=hW
 have hA:DataW.TrodAll enc Tryz.prog W 0 (fun _=>true) true Tryz.f7.params.toList args.toList ds p:=hA0
 have hV:DataW.TrodVars enc Tryz.prog W (fun _=>true) [] gs q:=hV0
 rw [Tryz.params7] at hA hval
 obtain ⟨v0,v1,d0,d1,p0,p1,rfl,rfl,rfl,h0,h1⟩:=trodAll_two hA
 obtain ⟨rfl,rfl⟩:gs=[]/\q=[]:=by
  cases gs with
  | nil=>exact ⟨rfl,hV⟩
  | cons g r=>exact absurd hV (by intro h;cases h)
 simp only [List.append_nil] at hW'
 have hlt0:∀ x∈p0,x.block < W.heap.size:=fun x hx=>by simpa using hW'.lt x (by simp [hx])
 have hlt1:∀ x∈p1,x.block < W.heap.size:=fun x hx=>by simpa using hW'.lt x (by simp [hx])
 obtain ⟨fuel0,hf0⟩:=id h0
 obtain ⟨fuel1,hf1⟩:=id h1
 obtain ⟨th,hv0⟩:=okWide_int Tryz.underlying3 (hval 0 3 v0 rfl rfl)
 subst hv0
 obtain ⟨z0,e0,_,w0⟩:=DataW.trod_int Tryz.underlying3 hf0
 have r0:=wf64 w0
 have e0:th=z0:=by simpa [Value.cells] using e0
 rw [<- e0] at r0
 obtain ⟨ti,hv1⟩:=okWide_int Tryz.underlying3 (hval 1 3 v1 rfl rfl)
 subst hv1
 obtain ⟨z1,e1,_,w1⟩:=DataW.trod_int Tryz.underlying3 hf1
 have r1:=wf64 w1
 have e1:ti=z1:=by simpa [Value.cells] using e1
 rw [<- e1] at r1
 refine (turns_any apM th ti W (handle_of_laid hL) r0.1 r0.2 r1.1 r1.2).mono fun e W' ⟨he,bel⟩=>?_
 subst he
 have e1:Rows.turnsSpec.fn H ([d0,d1] ++ [])={ results:=[.lit (.bool true)],args:=[d0,d1] }:=by simp [Rows.turnsSpec]
 refine ⟨_,rfl,_,_,_,[],p0 ++ p1,[],hW',?_,?_,?_,bel.frame _,fun h=>by cases h⟩
 ·rw [e1];exact trodAll_mk1 (shut_bool Tryz.underlying4 true)
 ·rw [e1];exact trodAll_mk2 (Below.trod Tryz.laidOut (by kernel_rfl) (of_decide_eq_true (by kernel_rfl)) h0 bel hlt0) (Below.trod Tryz.laidOut (by kernel_rfl) (of_decide_eq_true (by kernel_rfl)) h1 bel hlt1)
 ·rw [e1];rfl
theorem turns_said:Rows.TurnsSaid:=
 OpenClaim.holds_of_wide 7 Tryz.f7 rfl rfl rfl rfl rfl rfl rfl ⟨rfl,rfl,rfl,rfl,rfl⟩ rfl rfl rfl rfl rfl (by kernel_rfl) Tryz.func7 (by kernel_rfl)
  (of_decide_eq_true (by kernel_rfl)) (by unfold Func.isWrapper;rw [if_neg (of_decide_eq_false (by kernel_rfl))];exact ⟨rfl,rfl⟩)
  (fun os started H enc _=>turns_lifted os started H enc)
open Go
theorem turns_card:Rows.TurnsCardSaid:=
 Claim7.holds_tied_plain_at .later [] [.data,.data,.data,.handle] true (true,"6b548d1456c62829c7317ee0e0a1a1e36b0d27bef02f767f506fe5b0a58c0901") true
  turns_said (fun _ h=>by cases h) (by kernel_rfl) (fun _ h=>by cases h) turns_row_tie rfl ⟨rfl,rfl⟩ (by kernel_rfl) rfl
  (fun f fn hf hfn=>by
   obtain rfl:f=7:=Option.some.inj ((show Tryz.prog.funcNamed "embassy/embassykeep.Turns"=some 7 by kernel_rfl).symm.trans hf) |>.symm
   obtain rfl:fn=Tryz.f7:=(Option.some.inj (Tryz.func7.symm.trans hfn)).symm
   exact ⟨by kernel_rfl,fun j t ht=>by
    rw [Tryz.params7] at ht
    have h3:t=3:=by
     have hm:=Array.mem_of_getElem? ht
     simp at hm
     omega
    subst h3
    exact (show Tryz.prog.wantsStandIn 3=false by kernel_rfl)⟩)
  (by kernel_rfl)
#print axioms turns_card
end Go.Proofs.YteejjgbeknnmeaaGreatDoor
