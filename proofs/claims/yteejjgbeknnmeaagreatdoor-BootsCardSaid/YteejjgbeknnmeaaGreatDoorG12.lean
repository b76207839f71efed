import Derived.Test.YteejjgbeknnmeaaGreatDoorG02
import Derived.Deep.RegionHeld3
set_option maxRecDepth 100000
set_option maxHeartbeats 20000000
namespace Go.Proofs.YteejjgbeknnmeaaGreatDoor
open Go.RowKit
theorem new2 (w:World) (A B:Obj):((w.alloc A).alloc B).heap[w.heap.size]? = some A/\((w.alloc A).alloc B).heap[w.heap.size+1]? = some B:=⟨heap_alloc2_old w A B,heap_alloc2_new w A B⟩
theorem drop_row {α:Type}(k:Nat) (rows:List (List Value)) (L:List α) (f:α->List Value) (hL:k < L.length) (h:rows.drop k=(L.map f).drop k):∃ p,L[k]? = some p/\rows[k]? = some (f p):=by
 refine ⟨L[k],List.getElem?_eq_getElem hL,?_⟩
 have h2:=congrArg (fun l:List (List Value)=>l[0]?) h
 simp only [List.getElem?_drop,Nat.add_zero,List.getElem?_map,List.getElem?_eq_getElem hL] at h2
 simpa using h2
theorem drop_set_row (k:Nat) (r:List Value) (rows R:List (List Value)) (h:rows.drop k=R.drop k):Hid ((rows.set k r).drop (k+1)=R.drop (k+1)):=by
 unfold Hid
 rw [List.drop_set_of_lt (by omega)]
 have h2:=congrArg (List.drop 1) h
 rwa [List.drop_drop,List.drop_drop] at h2
theorem backConfig_any (sp:Int) (vT vP vL:Value) (T:List (Int×Int)) (Q L:List (Int×Int×Int×Int)) (bt bp bl:Nat) (w:World) (bT:T.length<=8796093022208) (bP:Q.length<=4398046511104) (bL:L.length<=4398046511104)
  (iT:Inl w 2 vT (T.map tRow)) (iP:Inl w 4 vP (Q.map qRow)) (iL:Inl w 4 vL (L.map qRow))
  (sT:Sl w 34 2 (.slice (some ⟨bt,0,none⟩) (T.length+8) (T.length+8)) (T.map tRow ++ List.replicate 8 [.int .i64 0,.int .i64 (-77)]))
  (sP:Sl w 55 4 (.slice (some ⟨bp,0,none⟩) (Q.length+8) (Q.length+8)) (Q.map qRow ++ List.replicate 8 [.int .i64 0,.int .i64 (-77),.int .i64 0,.int .i64 0]))
  (sL:Sl w 67 4 (.slice (some ⟨bl,0,none⟩) (L.length+8) (L.length+8)) (L.map qRow ++ List.replicate 8 [.int .i64 0,.int .i64 (-77),.int .i64 0,.int .i64 0]))
  (nb:∀ k,inBlock vT=some k\/inBlock vP=some k\/inBlock vL=some k->k≠bt/\k≠bp/\k≠bl) (e1:bt≠bp) (e2:bt≠bl) (e3:bp≠bl) :
  Calls Tryz.prog 57 #[.agg #[.slice (some ⟨bt,0,none⟩) (T.length+8) (T.length+8),.slice (some ⟨bp,0,none⟩) (Q.length+8) (Q.length+8),.slice (some ⟨bl,0,none⟩) (L.length+8) (L.length+8)],.agg #[.int .i64 sp,vT,vP,vL]] w
   fun e w'=>e=.returned (.bool true)/\Fr (fun q=>q=bt\/q=bp\/q=bl) w w':=by
 obtain ⟨aT,cT,eT⟩:=iT.slice
 obtain ⟨aP,cP,eP⟩:=iP.slice
 obtain ⟨aL,cL,eL⟩:=iL.slice
 rw [List.length_map] at eT eP eL
 subst eT eP eL
 generalize hnT:T.length=nT at *
 generalize hnP:Q.length=nP at *
 generalize hnL:L.length=nL at *
 have HI:=hid (And.intro iT (And.intro iP iL))
 have HSl:=hid (And.intro sT (And.intro sP sL))
 have lt1:bt < w.heap.size:=sT.lt rfl
 have lt2:bp < w.heap.size:=sP.lt rfl
 have lt3:bl < w.heap.size:=sL.lt rfl
 have HN:=hid (And.intro hnT (And.intro hnP hnL))
 have NB:=hid nb
 clear iT iP iL sT sP sL hnT hnP hnL nb
 go_enter Tryz.func57,Tryz.ntmps57
 go_wp2
 go_loopw [5,6] (fun ok i wr=>∃ (k:Nat) (rows:List (List Value)),k<=nT+8/\ok=.bool true/\i=.int .i64 k/\Sl wr 34 2 (.slice (some ⟨bt,0,none⟩) (nT+8) (nT+8)) rows/\rows.length=nT+8/\Hid (rows.drop k=((T ++ List.replicate 8 (0,-77)).map tRow).drop k)/\Fr (fun q=>q=bt) ((w.alloc (.cells #[.slice (some ⟨bt,0,none⟩) (nT+8) (nT+8),.slice (some ⟨bp,0,none⟩) (nP+8) (nP+8),.slice (some ⟨bl,0,none⟩) (nL+8) (nL+8)] 129)).alloc (.cells #[.int .i64 sp,.slice aT nT cT,.slice aP nP cP,.slice aL nL cL] 32)) wr) (fun _ i _=>nT+8-(intOf i).toNat)
 case atStart=>exact ⟨0,_,Nat.zero_le _,rfl,rfl,((HSl.out.1).alloc _).alloc _,by simp [HN.out],by simp [Hid,tRow],Fr.refl _ _⟩
 case round=>
 obtain ⟨k,rows,hk,rfl,rfl,hs,hrl,hdr,hf⟩:=hrel
 have hX:Hid (wr.heap[w.heap.size]? = some (.cells #[.slice (some ⟨bt,0,none⟩) (nT+8) (nT+8),.slice (some ⟨bp,0,none⟩) (nP+8) (nP+8),.slice (some ⟨bl,0,none⟩) (nL+8) (nL+8)] 129 (0,0))):=(hf.block _ (by simp;omega) (by omega)).trans (new2 w _ _).1
 have hC:Hid (wr.heap[w.heap.size+1]? = some (.cells #[.int .i64 sp,.slice aT nT cT,.slice aP nP cP,.slice aL nL cL] 32 (0,0))):=(hf.block _ (by simp) (by omega)).trans (new2 w _ _).2
 have x0:wr.cell? ⟨w.heap.size,0,none⟩=some (.slice (some ⟨bt,0,none⟩) (nT+8) (nT+8)):=(cell_of_row wr _ 0 _ _ _ hX.out).trans rfl
 have y0:wr.cell? ⟨w.heap.size+1,1,none⟩=some (.slice aT nT cT):=(cell_of_row wr _ 1 _ _ _ hC.out).trans rfl
 have lx:w.heap.size < wr.heap.size:=(Array.getElem?_eq_some_iff.1 hX.out).1
 have ly:w.heap.size+1 < wr.heap.size:=(Array.getElem?_eq_some_iff.1 hC.out).1
 by_cases hlt:k < nT+8
 ·obtain ⟨p,hp,hpr⟩:=drop_row k rows _ tRow (by simp [HN.out];omega) hdr.out
  have lb:bt < wr.heap.size:=hs.lt rfl
  have g0:wr.cell? ⟨bt,k*2,none⟩=some (.int .i64 p.1):=(hs.row hpr) 0 (.int .i64 p.1) rfl
  have g1:wr.cell? ⟨bt,k*2+1,none⟩=some (.int .i64 p.2):=(hs.row hpr) 1 (.int .i64 p.2) rfl
  have HS:=hid (And.intro hs (And.intro hrl (And.intro hdr (And.intro hf (And.intro hp hpr)))))
  clear hs hrl hdr hf hp hpr
  by_cases hc:k < nT
  ·skip
   obtain ⟨bi,off,ea,hri⟩:=((HI.out.1.kept (by decide) ((((Fr.refl (fun q=>q=bt) w).alloc _).alloc _).trans HS.out.2.2.2.1) (fun q hq h=>(NB.out q (.inl hq)).1 h))).row (k:=k) (r:=[.int .i64 p.1,.int .i64 p.2]) (by rw [List.getElem?_map,<- List.getElem?_append_left (l₂:=List.replicate 8 (0,-77)) (by have:=HN.out;omega),HS.out.2.2.2.2.1];rfl)
   subst ea
   have HRI:=hid (World.rangeAt_alloc hri (.cells #[.int .i64 0,.int .i64 (-77)] 34))
   clear hri
   go_wp2_with (with_reducible (show wpList _ _ _ (⟨_,.load 34 (.tmp 31),_,_,_,none⟩ :: _) _ _);go_must (refine wpList_load_mid rfl 34 _ rfl bi (off+k*2) rfl _ _ HRI.out Tryz.underlying34 rfl (by kernel_rfl) ?_))
   go_cut [8] (fun s wc=>s=.bool true/\Below wr.heap.size wr wc)
   case first=>
    go_region_with (go_at_call 92;refine (samePlace_any _ _ _ _ _).mono ?_;rintro e w1 ⟨rfl,hb1⟩)
    all_goals
     go_wp2
     go_meet
     case rel=>exact ⟨by simp,Below.trans (b:=(wr.alloc _).drew) (((Below.refl _ wr).alloc (Nat.le_refl _) _).drew) (hb1.mono (by simp))⟩
   case rest=>
   obtain ⟨rfl,hcut2⟩:=hcut
   have x1:wc.cell? ⟨w.heap.size,0,none⟩=some (.slice (some ⟨bt,0,none⟩) (nT+8) (nT+8)):=(hcut2.cell (p:=⟨w.heap.size,0,none⟩) lx).trans x0
   have HR:=hid ((HS.out.1.below hcut2).setRow k [.int .i64 0,.int .i64 (-78)] (by rw [HS.out.2.1];omega) rfl)
   have HT:=hid ((HS.out.1.below hcut2).there k (by rw [HS.out.2.1];omega))
   go_wp2_with (with_reducible (show wpList _ _ _ (⟨_,.store 34 _ _,_,_,_,none⟩ :: _) _ _);go_must (refine wpList_store_mid rfl 34 _ _ rfl bt (k*2) #[.int .i64 0,.int .i64 (-78)] rfl rfl (by simpa using HT.out) (by kernel_rfl) ?_ ?_);(simp [Value.oneCell']))
   refine ⟨⟨k+1,rows.set k [.int .i64 0,.int .i64 (-78)],by omega,rfl,by go_num,HR.out.1,by simp [HS.out.2.1],drop_set_row k _ rows _ HS.out.2.2.1.out,(HS.out.2.2.2.1.trans (Fr.of_below hcut2 _)).trans ((Fr.grown HR.out.2).mono (fun q _ h=>by simpa using h.symm))⟩,by simp [intOf];omega⟩
  ·skip
   have ep:p=(0,-77):=by
    have h:=HS.out.2.2.2.2.1
    rw [List.getElem?_append_right (by have:=HN.out;omega),List.getElem?_replicate] at h
    split at h <;> simp at h
    exact h.symm
   subst ep
   go_wp2_with fail
   go_cut [8] (fun s wc=>s=.bool true/\Below wr.heap.size wr wc)
   case first=>
    go_region_with (go_at_call 92;refine (samePlace_any _ _ _ _ _).mono ?_;rintro e w1 ⟨rfl,hb1⟩)
    all_goals
     go_wp2
     go_meet
     case rel=>exact ⟨by simp,Below.trans (b:=(wr.alloc _).drew) (((Below.refl _ wr).alloc (Nat.le_refl _) _).drew) (hb1.mono (by simp))⟩
   case rest=>
   obtain ⟨rfl,hcut2⟩:=hcut
   have x1:wc.cell? ⟨w.heap.size,0,none⟩=some (.slice (some ⟨bt,0,none⟩) (nT+8) (nT+8)):=(hcut2.cell (p:=⟨w.heap.size,0,none⟩) lx).trans x0
   have HR:=hid ((HS.out.1.below hcut2).setRow k [.int .i64 0,.int .i64 (-78)] (by rw [HS.out.2.1];omega) rfl)
   have HT:=hid ((HS.out.1.below hcut2).there k (by rw [HS.out.2.1];omega))
   go_wp2_with (with_reducible (show wpList _ _ _ (⟨_,.store 34 _ _,_,_,_,none⟩ :: _) _ _);go_must (refine wpList_store_mid rfl 34 _ _ rfl bt (k*2) #[.int .i64 0,.int .i64 (-78)] rfl rfl (by simpa using HT.out) (by kernel_rfl) ?_ ?_);(simp [Value.oneCell']))
   refine ⟨⟨k+1,rows.set k [.int .i64 0,.int .i64 (-78)],by omega,rfl,by go_num,HR.out.1,by simp [HS.out.2.1],drop_set_row k _ rows _ HS.out.2.2.1.out,(HS.out.2.2.2.1.trans (Fr.of_below hcut2 _)).trans ((Fr.grown HR.out.2).mono (fun q _ h=>by simpa using h.symm))⟩,by simp [intOf];omega⟩
 ·clear hdr
  go_wp2_with fail
  generalize wr=wa at *
  have FA:Hid (Fr (fun q=>q=bt) w wa):=(((Fr.refl (fun q=>q=bt) w).alloc _).alloc _).trans hf
  have HB:=hid (And.intro hX.out (And.intro hC.out (And.intro lx (And.intro ly True.intro))))
  have SP:=hid (HSl.out.2.1.kept FA.out (fun q hq h=>by simp [Value.ownBlock] at hq;omega))
  clear hX hC x0 y0 lx ly hs hrl hf hk hlt
  go_loopw [5,9] (fun ok i wr=>∃ (k:Nat) (rows:List (List Value)),k<=nP+8/\ok=.bool true/\i=.int .i64 k/\Sl wr 55 4 (.slice (some ⟨bp,0,none⟩) (nP+8) (nP+8)) rows/\rows.length=nP+8/\Hid (rows.drop k=((Q ++ List.replicate 8 (0,-77,0,0)).map qRow).drop k)/\Fr (fun q=>q=bp) wa wr) (fun _ i _=>nP+8-(intOf i).toNat)
  case atStart=>exact ⟨0,_,Nat.zero_le _,rfl,rfl,SP.out,by simp [HN.out],by simp [Hid,qRow],Fr.refl _ _⟩
  case round=>
  obtain ⟨k,rows,hk,rfl,rfl,hs,hrl,hdr,hf⟩:=hrel
  have hX:Hid (wr.heap[w.heap.size]? = some (.cells #[.slice (some ⟨bt,0,none⟩) (nT+8) (nT+8),.slice (some ⟨bp,0,none⟩) (nP+8) (nP+8),.slice (some ⟨bl,0,none⟩) (nL+8) (nL+8)] 129 (0,0))):=(hf.block _ HB.out.2.2.1 (by omega)).trans HB.out.1
  have hC:Hid (wr.heap[w.heap.size+1]? = some (.cells #[.int .i64 sp,.slice aT nT cT,.slice aP nP cP,.slice aL nL cL] 32 (0,0))):=(hf.block _ HB.out.2.2.2.1 (by omega)).trans HB.out.2.1
  have x0:wr.cell? ⟨w.heap.size,1,none⟩=some (.slice (some ⟨bp,0,none⟩) (nP+8) (nP+8)):=(cell_of_row wr _ 1 _ _ _ hX.out).trans rfl
  have y0:wr.cell? ⟨w.heap.size+1,2,none⟩=some (.slice aP nP cP):=(cell_of_row wr _ 2 _ _ _ hC.out).trans rfl
  have lx:w.heap.size < wr.heap.size:=(Array.getElem?_eq_some_iff.1 hX.out).1
  have ly:w.heap.size+1 < wr.heap.size:=(Array.getElem?_eq_some_iff.1 hC.out).1
  by_cases hlt:k < nP+8
  ·obtain ⟨p,hp,hpr⟩:=drop_row k rows _ qRow (by simp [HN.out];omega) hdr.out
   have lb:bp < wr.heap.size:=hs.lt rfl
   have g0:wr.cell? ⟨bp,k*4,none⟩=some (.int .i64 p.1):=(hs.row hpr) 0 (.int .i64 p.1) rfl
   have g1:wr.cell? ⟨bp,k*4+1,none⟩=some (.int .i64 p.2.1):=(hs.row hpr) 1 (.int .i64 p.2.1) rfl
   have g2:wr.cell? ⟨bp,k*4+2,none⟩=some (.int .i64 p.2.2.1):=(hs.row hpr) 2 (.int .i64 p.2.2.1) rfl
   have g3:wr.cell? ⟨bp,k*4+3,none⟩=some (.int .i64 p.2.2.2):=(hs.row hpr) 3 (.int .i64 p.2.2.2) rfl
   have HS:=hid (And.intro hs (And.intro hrl (And.intro hdr (And.intro hf (And.intro hp hpr)))))
   clear hs hrl hdr hf hp hpr
   by_cases hc:k < nP
   ·skip
    obtain ⟨bi,off,ea,hri⟩:=((HI.out.2.1.kept (by decide) ((FA.out.mono (fun _ _ h=>Or.inl h)).trans (HS.out.2.2.2.1.mono (fun _ _ h=>Or.inr h)):Fr (fun q=>q=bt\/q=bp) w wr) (fun q hq h=>by have:=NB.out q (.inr (.inl hq));omega))).row (k:=k) (r:=[.int .i64 p.1,.int .i64 p.2.1,.int .i64 p.2.2.1,.int .i64 p.2.2.2]) (by rw [List.getElem?_map,<- List.getElem?_append_left (l₂:=List.replicate 8 (0,-77,0,0)) (by have:=HN.out;omega),HS.out.2.2.2.2.1];rfl)
    subst ea
    have HRI:=hid (World.rangeAt_alloc hri (.cells #[.int .i64 0,.int .i64 (-77),.int .i64 0,.int .i64 0] 55))
    clear hri
    go_wp2_with (with_reducible (show wpList _ _ _ (⟨_,.load 55 (.tmp 65),_,_,_,none⟩ :: _) _ _);go_must (refine wpList_load_mid rfl 55 _ rfl bi (off+k*4) rfl _ _ HRI.out Tryz.underlying55 rfl (by kernel_rfl) ?_))
    go_cut [11] (fun s wc=>s=.bool true/\Below wr.heap.size wr wc)
    case first=>
     go_region_with (go_at_call 93;refine (samePass_any _ _ _ _ _ _ _ _ _).mono ?_;rintro e w1 ⟨rfl,hb1⟩)
     all_goals
      go_wp2
      go_meet
      case rel=>exact ⟨by simp,Below.trans (b:=(wr.alloc _).drew) (((Below.refl _ wr).alloc (Nat.le_refl _) _).drew) (hb1.mono (by simp))⟩
    case rest=>
    obtain ⟨rfl,hcut2⟩:=hcut
    have x1:wc.cell? ⟨w.heap.size,1,none⟩=some (.slice (some ⟨bp,0,none⟩) (nP+8) (nP+8)):=(hcut2.cell (p:=⟨w.heap.size,1,none⟩) lx).trans x0
    have HR:=hid ((HS.out.1.below hcut2).setRow k [.int .i64 0,.int .i64 (-78),.int .i64 0,.int .i64 0] (by rw [HS.out.2.1];omega) rfl)
    have HT:=hid ((HS.out.1.below hcut2).there k (by rw [HS.out.2.1];omega))
    go_wp2_with (with_reducible (show wpList _ _ _ (⟨_,.store 55 _ _,_,_,_,none⟩ :: _) _ _);go_must (refine wpList_store_mid rfl 55 _ _ rfl bp (k*4) #[.int .i64 0,.int .i64 (-78),.int .i64 0,.int .i64 0] rfl rfl (by simpa using HT.out) (by kernel_rfl) ?_ ?_);(simp [Value.oneCell']))
    go_roundw
    case rel=>first | exact ⟨k+1,rows.set k [.int .i64 0,.int .i64 (-78),.int .i64 0,.int .i64 0],by omega,rfl,by go_num,HR.out.1,by simp [HS.out.2.1],drop_set_row k _ rows _ HS.out.2.2.1.out,(HS.out.2.2.2.1.trans (Fr.of_below hcut2 _)).trans ((Fr.grown HR.out.2).mono (fun q _ h=>by simpa using h.symm))⟩ | ((repeat apply Exists.intro);exact ⟨⟨k+1,rows.set k [.int .i64 0,.int .i64 (-78),.int .i64 0,.int .i64 0],by omega,rfl,by go_num,HR.out.1,by simp [HS.out.2.1],drop_set_row k _ rows _ HS.out.2.2.1.out,(HS.out.2.2.2.1.trans (Fr.of_below hcut2 _)).trans ((Fr.grown HR.out.2).mono (fun q _ h=>by simpa using h.symm))⟩,rfl⟩)
    case measure=>simp [intOf];omega
   ·skip
    have ep:p=(0,-77,0,0):=by
     have h:=HS.out.2.2.2.2.1
     rw [List.getElem?_append_right (by have:=HN.out;omega),List.getElem?_replicate] at h
     split at h <;> simp at h
     exact h.symm
    subst ep
    go_wp2_with fail
    go_cut [11] (fun s wc=>s=.bool true/\Below wr.heap.size wr wc)
    case first=>
     go_region_with (go_at_call 93;refine (samePass_any _ _ _ _ _ _ _ _ _).mono ?_;rintro e w1 ⟨rfl,hb1⟩)
     all_goals
      go_wp2
      go_meet
      case rel=>exact ⟨by simp,Below.trans (b:=(wr.alloc _).drew) (((Below.refl _ wr).alloc (Nat.le_refl _) _).drew) (hb1.mono (by simp))⟩
    case rest=>
    obtain ⟨rfl,hcut2⟩:=hcut
    have x1:wc.cell? ⟨w.heap.size,1,none⟩=some (.slice (some ⟨bp,0,none⟩) (nP+8) (nP+8)):=(hcut2.cell (p:=⟨w.heap.size,1,none⟩) lx).trans x0
    have HR:=hid ((HS.out.1.below hcut2).setRow k [.int .i64 0,.int .i64 (-78),.int .i64 0,.int .i64 0] (by rw [HS.out.2.1];omega) rfl)
    have HT:=hid ((HS.out.1.below hcut2).there k (by rw [HS.out.2.1];omega))
    go_wp2_with (with_reducible (show wpList _ _ _ (⟨_,.store 55 _ _,_,_,_,none⟩ :: _) _ _);go_must (refine wpList_store_mid rfl 55 _ _ rfl bp (k*4) #[.int .i64 0,.int .i64 (-78),.int .i64 0,.int .i64 0] rfl rfl (by simpa using HT.out) (by kernel_rfl) ?_ ?_);(simp [Value.oneCell']))
    go_roundw
    case rel=>first | exact ⟨k+1,rows.set k [.int .i64 0,.int .i64 (-78),.int .i64 0,.int .i64 0],by omega,rfl,by go_num,HR.out.1,by simp [HS.out.2.1],drop_set_row k _ rows _ HS.out.2.2.1.out,(HS.out.2.2.2.1.trans (Fr.of_below hcut2 _)).trans ((Fr.grown HR.out.2).mono (fun q _ h=>by simpa using h.symm))⟩ | ((repeat apply Exists.intro);exact ⟨⟨k+1,rows.set k [.int .i64 0,.int .i64 (-78),.int .i64 0,.int .i64 0],by omega,rfl,by go_num,HR.out.1,by simp [HS.out.2.1],drop_set_row k _ rows _ HS.out.2.2.1.out,(HS.out.2.2.2.1.trans (Fr.of_below hcut2 _)).trans ((Fr.grown HR.out.2).mono (fun q _ h=>by simpa using h.symm))⟩,rfl⟩)
    case measure=>simp [intOf];omega
  ·clear hdr
   go_wp2_with fail
   generalize wr=wb at *
   have FB:Hid (Fr (fun q=>q=bt\/q=bp) w wb):=(FA.out.mono (fun _ _ h=>.inl h)).trans (hf.mono (fun _ _ h=>.inr h))
   have HB:=hid (And.intro hX.out (And.intro hC.out (And.intro lx (And.intro ly True.intro))))
   have SL:=hid (HSl.out.2.2.kept FB.out (fun q hq h=>by simp [Value.ownBlock] at hq;omega))
   clear hX hC x0 y0 lx ly hs hrl hf hk hlt SP FA
   go_loopw [5,12] (fun ok i wr=>∃ (k:Nat) (rows:List (List Value)),k<=nL+8/\ok=.bool true/\i=.int .i64 k/\Sl wr 67 4 (.slice (some ⟨bl,0,none⟩) (nL+8) (nL+8)) rows/\rows.length=nL+8/\Hid (rows.drop k=((L ++ List.replicate 8 (0,-77,0,0)).map qRow).drop k)/\Fr (fun q=>q=bl) wb wr) (fun _ i _=>nL+8-(intOf i).toNat)
   case atStart=>exact ⟨0,_,Nat.zero_le _,rfl,rfl,SL.out,by simp [HN.out],by simp [Hid,qRow],Fr.refl _ _⟩
   case round=>
   obtain ⟨k,rows,hk,rfl,rfl,hs,hrl,hdr,hf⟩:=hrel
   have hX:Hid (wr.heap[w.heap.size]? = some (.cells #[.slice (some ⟨bt,0,none⟩) (nT+8) (nT+8),.slice (some ⟨bp,0,none⟩) (nP+8) (nP+8),.slice (some ⟨bl,0,none⟩) (nL+8) (nL+8)] 129 (0,0))):=(hf.block _ HB.out.2.2.1 (by omega)).trans HB.out.1
   have hC:Hid (wr.heap[w.heap.size+1]? = some (.cells #[.int .i64 sp,.slice aT nT cT,.slice aP nP cP,.slice aL nL cL] 32 (0,0))):=(hf.block _ HB.out.2.2.2.1 (by omega)).trans HB.out.2.1
   have x0:wr.cell? ⟨w.heap.size,2,none⟩=some (.slice (some ⟨bl,0,none⟩) (nL+8) (nL+8)):=(cell_of_row wr _ 2 _ _ _ hX.out).trans rfl
   have y0:wr.cell? ⟨w.heap.size+1,3,none⟩=some (.slice aL nL cL):=(cell_of_row wr _ 3 _ _ _ hC.out).trans rfl
   have lx:w.heap.size < wr.heap.size:=(Array.getElem?_eq_some_iff.1 hX.out).1
   have ly:w.heap.size+1 < wr.heap.size:=(Array.getElem?_eq_some_iff.1 hC.out).1
   by_cases hlt:k < nL+8
   ·obtain ⟨p,hp,hpr⟩:=drop_row k rows _ qRow (by simp [HN.out];omega) hdr.out
    have lb:bl < wr.heap.size:=hs.lt rfl
    have g0:wr.cell? ⟨bl,k*4,none⟩=some (.int .i64 p.1):=(hs.row hpr) 0 (.int .i64 p.1) rfl
    have g1:wr.cell? ⟨bl,k*4+1,none⟩=some (.int .i64 p.2.1):=(hs.row hpr) 1 (.int .i64 p.2.1) rfl
    have g2:wr.cell? ⟨bl,k*4+2,none⟩=some (.int .i64 p.2.2.1):=(hs.row hpr) 2 (.int .i64 p.2.2.1) rfl
    have g3:wr.cell? ⟨bl,k*4+3,none⟩=some (.int .i64 p.2.2.2):=(hs.row hpr) 3 (.int .i64 p.2.2.2) rfl
    have HS:=hid (And.intro hs (And.intro hrl (And.intro hdr (And.intro hf (And.intro hp hpr)))))
    clear hs hrl hdr hf hp hpr
    by_cases hc:k < nL
    ·skip
     obtain ⟨bi,off,ea,hri⟩:=((HI.out.2.2.kept (by decide) ((FB.out.mono (fun _ _ h=>Or.inl h)).trans (HS.out.2.2.2.1.mono (fun _ _ h=>Or.inr h)):Fr (fun q=>(q=bt\/q=bp)\/q=bl) w wr) (fun q hq h=>by have:=NB.out q (.inr (.inr hq));omega))).row (k:=k) (r:=[.int .i64 p.1,.int .i64 p.2.1,.int .i64 p.2.2.1,.int .i64 p.2.2.2]) (by rw [List.getElem?_map,<- List.getElem?_append_left (l₂:=List.replicate 8 (0,-77,0,0)) (by have:=HN.out;omega),HS.out.2.2.2.2.1];rfl)
     subst ea
     have HRI:=hid (World.rangeAt_alloc hri (.cells #[.int .i64 0,.int .i64 (-77),.int .i64 0,.int .i64 0] 67))
     clear hri
     go_wp2_with (with_reducible (show wpList _ _ _ (⟨_,.load 67 (.tmp 99),_,_,_,none⟩ :: _) _ _);go_must (refine wpList_load_mid rfl 67 _ rfl bi (off+k*4) rfl _ _ HRI.out Tryz.underlying67 rfl (by kernel_rfl) ?_))
     go_cut [14] (fun s wc=>s=.bool true/\Below wr.heap.size wr wc)
     case first=>
      go_region_with (go_at_call 94;refine (sameLeaf_any _ _ _ _ _ _ _ _ _).mono ?_;rintro e w1 ⟨rfl,hb1⟩)
      all_goals
       go_wp2
       go_meet
       case rel=>exact ⟨by simp,Below.trans (b:=(wr.alloc _).drew) (((Below.refl _ wr).alloc (Nat.le_refl _) _).drew) (hb1.mono (by simp))⟩
     case rest=>
     obtain ⟨rfl,hcut2⟩:=hcut
     have x1:wc.cell? ⟨w.heap.size,2,none⟩=some (.slice (some ⟨bl,0,none⟩) (nL+8) (nL+8)):=(hcut2.cell (p:=⟨w.heap.size,2,none⟩) lx).trans x0
     have HR:=hid ((HS.out.1.below hcut2).setRow k [.int .i64 0,.int .i64 (-78),.int .i64 0,.int .i64 0] (by rw [HS.out.2.1];omega) rfl)
     have HT:=hid ((HS.out.1.below hcut2).there k (by rw [HS.out.2.1];omega))
     go_wp2_with (with_reducible (show wpList _ _ _ (⟨_,.store 67 _ _,_,_,_,none⟩ :: _) _ _);go_must (refine wpList_store_mid rfl 67 _ _ rfl bl (k*4) #[.int .i64 0,.int .i64 (-78),.int .i64 0,.int .i64 0] rfl rfl (by simpa using HT.out) (by kernel_rfl) ?_ ?_);(simp [Value.oneCell']))
     go_roundw
     case rel=>first | exact ⟨k+1,rows.set k [.int .i64 0,.int .i64 (-78),.int .i64 0,.int .i64 0],by omega,rfl,by go_num,HR.out.1,by simp [HS.out.2.1],drop_set_row k _ rows _ HS.out.2.2.1.out,(HS.out.2.2.2.1.trans (Fr.of_below hcut2 _)).trans ((Fr.grown HR.out.2).mono (fun q _ h=>by simpa using h.symm))⟩ | ((repeat apply Exists.intro);exact ⟨⟨k+1,rows.set k [.int .i64 0,.int .i64 (-78),.int .i64 0,.int .i64 0],by omega,rfl,by go_num,HR.out.1,by simp [HS.out.2.1],drop_set_row k _ rows _ HS.out.2.2.1.out,(HS.out.2.2.2.1.trans (Fr.of_below hcut2 _)).trans ((Fr.grown HR.out.2).mono (fun q _ h=>by simpa using h.symm))⟩,rfl⟩)
     case measure=>simp [intOf];omega
    ·skip
     have ep:p=(0,-77,0,0):=by
      have h:=HS.out.2.2.2.2.1
      rw [List.getElem?_append_right (by have:=HN.out;omega),List.getElem?_replicate] at h
      split at h <;> simp at h
      exact h.symm
     subst ep
     go_wp2_with fail
     go_cut [14] (fun s wc=>s=.bool true/\Below wr.heap.size wr wc)
     case first=>
      go_region_with (go_at_call 94;refine (sameLeaf_any _ _ _ _ _ _ _ _ _).mono ?_;rintro e w1 ⟨rfl,hb1⟩)
      all_goals
       go_wp2
       go_meet
       case rel=>exact ⟨by simp,Below.trans (b:=(wr.alloc _).drew) (((Below.refl _ wr).alloc (Nat.le_refl _) _).drew) (hb1.mono (by simp))⟩
     case rest=>
     obtain ⟨rfl,hcut2⟩:=hcut
     have x1:wc.cell? ⟨w.heap.size,2,none⟩=some (.slice (some ⟨bl,0,none⟩) (nL+8) (nL+8)):=(hcut2.cell (p:=⟨w.heap.size,2,none⟩) lx).trans x0
     have HR:=hid ((HS.out.1.below hcut2).setRow k [.int .i64 0,.int .i64 (-78),.int .i64 0,.int .i64 0] (by rw [HS.out.2.1];omega) rfl)
     have HT:=hid ((HS.out.1.below hcut2).there k (by rw [HS.out.2.1];omega))
     go_wp2_with (with_reducible (show wpList _ _ _ (⟨_,.store 67 _ _,_,_,_,none⟩ :: _) _ _);go_must (refine wpList_store_mid rfl 67 _ _ rfl bl (k*4) #[.int .i64 0,.int .i64 (-78),.int .i64 0,.int .i64 0] rfl rfl (by simpa using HT.out) (by kernel_rfl) ?_ ?_);(simp [Value.oneCell']))
     go_roundw
     case rel=>first | exact ⟨k+1,rows.set k [.int .i64 0,.int .i64 (-78),.int .i64 0,.int .i64 0],by omega,rfl,by go_num,HR.out.1,by simp [HS.out.2.1],drop_set_row k _ rows _ HS.out.2.2.1.out,(HS.out.2.2.2.1.trans (Fr.of_below hcut2 _)).trans ((Fr.grown HR.out.2).mono (fun q _ h=>by simpa using h.symm))⟩ | ((repeat apply Exists.intro);exact ⟨⟨k+1,rows.set k [.int .i64 0,.int .i64 (-78),.int .i64 0,.int .i64 0],by omega,rfl,by go_num,HR.out.1,by simp [HS.out.2.1],drop_set_row k _ rows _ HS.out.2.2.1.out,(HS.out.2.2.2.1.trans (Fr.of_below hcut2 _)).trans ((Fr.grown HR.out.2).mono (fun q _ h=>by simpa using h.symm))⟩,rfl⟩)
     case measure=>simp [intOf];omega
   ·clear hdr
    go_wp2
    go_ret
    exact ⟨rfl,(FB.out.mono (fun _ _ h=>by omega)).trans (hf.mono (fun _ _ h=>by omega))⟩
end Go.Proofs.YteejjgbeknnmeaaGreatDoor
