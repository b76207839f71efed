import Derived.Test.YteejjgbeknnmeaaGreatDoorJ21
set_option maxRecDepth 100000
set_option maxHeartbeats 20000000
namespace Go.Proofs.YteejjgbeknnmeaaGreatDoor
open Go.RowKit
theorem mNew_se (sp:Int) (aT aP aL:Option Addr) (mT mP mL cT cP cL:Nat) (T:List (Int×Int)) (Q L:List (Int×Int×Int×Int)) (w:World) (iT:Inl w 2 (.slice aT mT cT) (T.map tRow)) (_iP:Inl w 4 (.slice aP mP cP) (Q.map qRow)) (_iL:Inl w 4 (.slice aL mL cL) (L.map qRow)) (_eT:T.length=mT) (_eP:Q.length=mP) (_eL:L.length=mL) (hbad:¬ (1<=sp/\sp<=3)\/¬ (1<=T.length/\T.length<=6)) :
  Calls Tryz.prog 77 #[.agg #[.int .i64 sp,.slice aT mT cT,.slice aP mP cP,.slice aL mL cL]] w fun e w'=>∃ s,e=.returned (.tuple #[.agg (mcells 0 nilS nilS nilS nilS nilS nilS),.iface 166 (.agg #[.string s,.iface 160 (.agg #[.int .i64 1])])])/\Below w.heap.size w w':=by
 have B:=build_se (w.heap.size+1+1) sp (.slice aT mT cT) (.slice aP mP cP) (.slice aL mL cL) T (((w.alloc (.cells #[.int .i64 sp,.slice aT mT cT,.slice aP mP cP,.slice aL mL cL] 32)).alloc (.cells (mcells 0 nilS nilS nilS nilS nilS nilS) 109)).alloc (.cells (mcells 0 nilS nilS nilS nilS nilS nilS) 109))
  (((iT.alloc (by omega) _).alloc (by omega) _).alloc (by omega) _) ⟨_,_,_,rfl⟩ ⟨_,_,_,rfl⟩ (by simp)
  (by have:=heap_alloc_new ((w.alloc (.cells #[.int .i64 sp,.slice aT mT cT,.slice aP mP cP,.slice aL mL cL] 32)).alloc (.cells (mcells 0 nilS nilS nilS nilS nilS nilS) 109)) (.cells (mcells 0 nilS nilS nilS nilS nilS nilS) 109);simpa using this) hbad
 have HB:=hid B
 clear B hbad iT _iP _iL _eT _eP _eL
 go_enter Tryz.func77,Tryz.ntmps77
 go_wp2_with fail
 refine HB.out.mono ?_
 rintro e w4 ⟨rfl,F4⟩
 have hres:w4.heap[w.heap.size+1]? = some (.cells (mcells 0 nilS nilS nilS nilS nilS nilS) 109 (0,0)):=by
  rw [F4.block _ (by simp) (by omega),Below.heap_alloc _ _ _ (by simp)]
  have:=heap_alloc_new (w.alloc (.cells #[.int .i64 sp,.slice aT mT cT,.slice aP mP cP,.slice aL mL cL] 32)) (.cells (mcells 0 nilS nilS nilS nilS nilS nilS) 109)
  simpa using this
 have HH:=hid (And.intro F4 hres)
 clear F4 hres
 go_wp2_with (with_reducible (show wpList _ _ _ (⟨_,.store 109 _ _,_,_,_,none⟩ :: _) _ _);go_must (refine wpList_store_row rfl 109 _ _ rfl (w.heap.size+1) #[.int .u64 0,.slice none 0 0,.slice none 0 0,.slice none 0 0,.slice none 0 0,.slice none 0 0,.slice none 0 0,.int .i64 0,.int .i64 0,.int .i64 0,.int .i64 0,.int .i64 0,.int .i64 0,.int .i64 0,.int .i64 0,.int .i64 0,.int .i64 0,.int .i64 0,.int .i64 0,.int .i64 0,.int .i64 0,.int .i64 0,.int .i64 0,.int .i64 0,.int .i64 0,.int .i64 0,.int .i64 0,.int .i64 0,.int .i64 0,.int .i64 0,.int .i64 0,.int .i64 0,.int .i64 0,.int .i64 0,.int .i64 0,.int .i64 0,.int .i64 0,.int .i64 0,.int .i64 0] (by simp [Act.eval]) rfl 109 _ HH.out.2 (by kernel_rfl) rfl ?_ ?_);(simp [Value.oneCell']))
 have hg:=setRow_heap w4 (w.heap.size+1) _ #[.int .u64 0,.slice none 0 0,.slice none 0 0,.slice none 0 0,.slice none 0 0,.slice none 0 0,.slice none 0 0,.int .i64 0,.int .i64 0,.int .i64 0,.int .i64 0,.int .i64 0,.int .i64 0,.int .i64 0,.int .i64 0,.int .i64 0,.int .i64 0,.int .i64 0,.int .i64 0,.int .i64 0,.int .i64 0,.int .i64 0,.int .i64 0,.int .i64 0,.int .i64 0,.int .i64 0,.int .i64 0,.int .i64 0,.int .i64 0,.int .i64 0,.int .i64 0,.int .i64 0,.int .i64 0,.int .i64 0,.int .i64 0,.int .i64 0,.int .i64 0,.int .i64 0,.int .i64 0] 109 (0,0) HH.out.2
 have F:Fr (fun k=>k=w.heap.size+1) w4 (w4.setRow (w.heap.size+1) #[.int .u64 0,.slice none 0 0,.slice none 0 0,.slice none 0 0,.slice none 0 0,.slice none 0 0,.slice none 0 0,.int .i64 0,.int .i64 0,.int .i64 0,.int .i64 0,.int .i64 0,.int .i64 0,.int .i64 0,.int .i64 0,.int .i64 0,.int .i64 0,.int .i64 0,.int .i64 0,.int .i64 0,.int .i64 0,.int .i64 0,.int .i64 0,.int .i64 0,.int .i64 0,.int .i64 0,.int .i64 0,.int .i64 0,.int .i64 0,.int .i64 0,.int .i64 0,.int .i64 0,.int .i64 0,.int .i64 0,.int .i64 0,.int .i64 0,.int .i64 0,.int .i64 0,.int .i64 0]):=(Fr.refl (fun k=>k=w.heap.size+1) w4).setRow (fun _=>rfl) _
 refine bodyPost_ret (results_row_tmp Tryz.results77 _ _ (w.heap.size+1) 109 _ (0,0) _ _ rfl hg Tryz.underlying109 rfl (by kernel_rfl) rfl) rfl ⟨_,rfl,?_⟩
 have F0:Below w.heap.size w (((w.alloc (.cells #[.int .i64 sp,.slice aT mT cT,.slice aP mP cP,.slice aL mL cL] 32)).alloc (.cells (mcells 0 nilS nilS nilS nilS nilS nilS) 109)).alloc (.cells (mcells 0 nilS nilS nilS nilS nilS nilS) 109)):=
  (((Below.refl _ w).alloc (Nat.le_refl _) _).alloc (by simp) _).alloc (by simp;omega) _
 refine F0.trans ((HH.out.1.to_below (by simp;omega) (fun k e=>by omega)).trans (F.to_below ?_ (fun k e=>by omega)))
 have:=HH.out.1.size
 simp at this
 omega
theorem mNew_me (sp:Int) (aT aP aL:Option Addr) (mT mP mL cT cP cL:Nat) (T:List (Int×Int)) (Q L:List (Int×Int×Int×Int)) (w:World) (iT:Inl w 2 (.slice aT mT cT) (T.map tRow)) (iP:Inl w 4 (.slice aP mP cP) (Q.map qRow)) (iL:Inl w 4 (.slice aL mL cL) (L.map qRow)) (eT:T.length=mT) (eP:Q.length=mP) (eL:L.length=mL) (h1:1<=sp/\sp<=3) (h2:1<=T.length/\T.length<=6) (hnf:¬ Fits sp T Q L) :
  Calls Tryz.prog 77 #[.agg #[.int .i64 sp,.slice aT mT cT,.slice aP mP cP,.slice aL mL cL]] w fun e w'=>∃ s,(∃ s2,e=.returned (.tuple #[.agg (mcells 0 nilS nilS nilS nilS nilS nilS),.iface 166 (.agg #[.string s,.iface 166 (.agg #[.string s2,.iface 160 (.agg #[.int .i64 1])])])]))/\Below w.heap.size w w':=by
 obtain ⟨n,rfl⟩:=Int.eq_ofNat_of_zero_le (show 0<=sp by omega)
 have B:=build_any (w.heap.size+1+1) n aT aP aL mT mP mL cT cP cL T Q L (((w.alloc (.cells #[.int .i64 n,.slice aT mT cT,.slice aP mP cP,.slice aL mL cL] 32)).alloc (.cells (mcells 0 nilS nilS nilS nilS nilS nilS) 109)).alloc (.cells (mcells 0 nilS nilS nilS nilS nilS nilS) 109))
  (((iT.alloc (by omega) _).alloc (by omega) _).alloc (by omega) _) (((iP.alloc (by omega) _).alloc (by omega) _).alloc (by omega) _) (((iL.alloc (by omega) _).alloc (by omega) _).alloc (by omega) _) (by simp) eT eP eL
  (fun k hk=>by have:=iT.inlt (by omega) hk;omega) (fun k hk=>by have:=iP.inlt (by omega) hk;omega) (fun k hk=>by have:=iL.inlt (by omega) hk;omega)
  (by have:=heap_alloc_new ((w.alloc (.cells #[.int .i64 n,.slice aT mT cT,.slice aP mP cP,.slice aL mL cL] 32)).alloc (.cells (mcells 0 nilS nilS nilS nilS nilS nilS) 109)) (.cells (mcells 0 nilS nilS nilS nilS nilS nilS) 109);simpa using this) (by omega) (by omega) (by omega) (by omega)
 have HB:=hid (And.intro B hnf)
 clear B hnf iT iP iL eT eP eL
 go_enter Tryz.func77,Tryz.ntmps77
 go_wp2_with fail
 refine HB.out.1.mono ?_
 rintro e w4 hD
 rcases hD with ⟨h,_⟩ | ⟨_,s2,rfl,F4⟩
 ·exact absurd h HB.out.2
 have hres:w4.heap[w.heap.size+1]? = some (.cells (mcells 0 nilS nilS nilS nilS nilS nilS) 109 (0,0)):=by
  rw [F4.block _ (by simp) (by omega),Below.heap_alloc _ _ _ (by simp)]
  have:=heap_alloc_new (w.alloc (.cells #[.int .i64 n,.slice aT mT cT,.slice aP mP cP,.slice aL mL cL] 32)) (.cells (mcells 0 nilS nilS nilS nilS nilS nilS) 109)
  simpa using this
 have HH:=hid (And.intro F4 hres)
 clear F4 hres
 go_wp2_with (with_reducible (show wpList _ _ _ (⟨_,.store 109 _ _,_,_,_,none⟩ :: _) _ _);go_must (refine wpList_store_row rfl 109 _ _ rfl (w.heap.size+1) #[.int .u64 0,.slice none 0 0,.slice none 0 0,.slice none 0 0,.slice none 0 0,.slice none 0 0,.slice none 0 0,.int .i64 0,.int .i64 0,.int .i64 0,.int .i64 0,.int .i64 0,.int .i64 0,.int .i64 0,.int .i64 0,.int .i64 0,.int .i64 0,.int .i64 0,.int .i64 0,.int .i64 0,.int .i64 0,.int .i64 0,.int .i64 0,.int .i64 0,.int .i64 0,.int .i64 0,.int .i64 0,.int .i64 0,.int .i64 0,.int .i64 0,.int .i64 0,.int .i64 0,.int .i64 0,.int .i64 0,.int .i64 0,.int .i64 0,.int .i64 0,.int .i64 0,.int .i64 0] (by simp [Act.eval]) rfl 109 _ HH.out.2 (by kernel_rfl) rfl ?_ ?_);(simp [Value.oneCell']))
 have hg:=setRow_heap w4 (w.heap.size+1) _ #[.int .u64 0,.slice none 0 0,.slice none 0 0,.slice none 0 0,.slice none 0 0,.slice none 0 0,.slice none 0 0,.int .i64 0,.int .i64 0,.int .i64 0,.int .i64 0,.int .i64 0,.int .i64 0,.int .i64 0,.int .i64 0,.int .i64 0,.int .i64 0,.int .i64 0,.int .i64 0,.int .i64 0,.int .i64 0,.int .i64 0,.int .i64 0,.int .i64 0,.int .i64 0,.int .i64 0,.int .i64 0,.int .i64 0,.int .i64 0,.int .i64 0,.int .i64 0,.int .i64 0,.int .i64 0,.int .i64 0,.int .i64 0,.int .i64 0,.int .i64 0,.int .i64 0,.int .i64 0] 109 (0,0) HH.out.2
 have F:Fr (fun k=>k=w.heap.size+1) w4 (w4.setRow (w.heap.size+1) #[.int .u64 0,.slice none 0 0,.slice none 0 0,.slice none 0 0,.slice none 0 0,.slice none 0 0,.slice none 0 0,.int .i64 0,.int .i64 0,.int .i64 0,.int .i64 0,.int .i64 0,.int .i64 0,.int .i64 0,.int .i64 0,.int .i64 0,.int .i64 0,.int .i64 0,.int .i64 0,.int .i64 0,.int .i64 0,.int .i64 0,.int .i64 0,.int .i64 0,.int .i64 0,.int .i64 0,.int .i64 0,.int .i64 0,.int .i64 0,.int .i64 0,.int .i64 0,.int .i64 0,.int .i64 0,.int .i64 0,.int .i64 0,.int .i64 0,.int .i64 0,.int .i64 0,.int .i64 0]):=(Fr.refl (fun k=>k=w.heap.size+1) w4).setRow (fun _=>rfl) _
 refine bodyPost_ret (results_row_tmp Tryz.results77 _ _ (w.heap.size+1) 109 _ (0,0) _ _ rfl hg Tryz.underlying109 rfl (by kernel_rfl) rfl) rfl ⟨_,⟨s2,rfl⟩,?_⟩
 have F0:Below w.heap.size w (((w.alloc (.cells #[.int .i64 n,.slice aT mT cT,.slice aP mP cP,.slice aL mL cL] 32)).alloc (.cells (mcells 0 nilS nilS nilS nilS nilS nilS) 109)).alloc (.cells (mcells 0 nilS nilS nilS nilS nilS nilS) 109)):=
  (((Below.refl _ w).alloc (Nat.le_refl _) _).alloc (by simp) _).alloc (by simp;omega) _
 refine F0.trans ((HH.out.1.to_below (by simp;omega) (fun k e=>by omega)).trans (F.to_below ?_ (fun k e=>by omega)))
 have:=HH.out.1.size
 simp at this
 omega
end Go.Proofs.YteejjgbeknnmeaaGreatDoor
