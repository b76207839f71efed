import Derived.Test.YteejjgbeknnmeaaGreatDoorG01
import Derived.BigRegion
import Derived.Deep.DeepCutAuto
set_option maxRecDepth 100000
set_option maxHeartbeats 20000000
namespace Go.Proofs.YteejjgbeknnmeaaGreatDoor
open Go.RowKit
theorem Tryz.infoN34:(Tryz.prog.info? 34).map (fun i=>(i.zero,i.size,i.bytes))=some (some (.agg #[.int .i64 0,.int .i64 0]),2,16):=by kernel_rfl
theorem make_eq {t e:TypeId}{z:Value}{size bytes:Nat}(ht:Tryz.prog.underlying t=some (.slice e)) (h:(Tryz.prog.info? e).map (fun i=>(i.zero,i.size,i.bytes))=some (some z,size,bytes)) (n:Nat) (hn:bytes*(n+8)<=281474976710656) (hb:0 < bytes) :
  ∀ w,(Instr.makeSlice t (.int .i64 ((n:Int)+8)) (.int .i64 ((n:Int)+8))).run Tryz.prog w=.ok (.slice (some ⟨w.heap.size,0,none⟩) (n+8) (n+8)) (w.alloc (.cells (madeCells z.cells ((n+8)*size)) e)):=by
 intro w
 obtain ⟨i,hi,h0,h1,h2⟩:=info_parts h
 subst h1 h2
 have hb':(i.bytes:Int)*((n:Int)+8)<=281474976710656:=by
  have h:((i.bytes*(n+8):Nat):Int)<=281474976710656:=by omega
  rwa [Int.natCast_mul,Int.natCast_add] at h
 have hle:n+8<=i.bytes*(n+8):=Nat.le_mul_of_pos_left _ hb
 have:=run_make (P:=Tryz.prog) w t e i z ht hi h0 .i64 .i64 ((n:Int)+8) ((n:Int)+8) (by omega) (Int.le_refl _) hb' (by omega)
 rw [show (((n:Int)+8)).toNat=n+8 by omega] at this
 exact this
theorem madeCells_rep (z:Array Value) (n:Nat) (hz:0 < z.size):(madeCells z (n*z.size)).toList=rep n z.toList:=by
 apply List.ext_getElem?
 intro j
 by_cases hj:j < n*z.size
 ·have hq:j / z.size < n:=Nat.div_lt_of_lt_mul (by rw [Nat.mul_comm];exact hj)
  have hm:j % z.size < z.size:=Nat.mod_lt _ hz
  have e:j=j / z.size*z.toList.length+j % z.size:=by rw [Array.length_toList,Nat.mul_comm];exact (Nat.div_add_mod j z.size).symm
  have h2:=rep_get n z.toList (j / z.size) (j % z.size) hq (by simpa using hm)
  rw [<- e] at h2
  rw [h2]
  simp [madeCells,hj,hm,getElem!_pos]
 ·rw [List.getElem?_eq_none (by simp [size_madeCells];omega),List.getElem?_eq_none (by rw [length_rep,Array.length_toList];omega)]
theorem made_sl {w:World}{g:Nat}{z:Array Value}{n size:Nat}{e:TypeId}(hz:z.size=size) (h0:0 < size) (hn:n<=maxLen) (h:w.heap[g]? = some (.cells (madeCells z (n*size)) e (0,0))) :
  Sl w e size (.slice (some ⟨g,0,none⟩) n n) (List.replicate n z.toList):=by
 subst hz
 refine ⟨?_,fun r hr=>by rw [(List.mem_replicate.1 hr).2];simp⟩
 rw [List.length_replicate]
 have e1:(List.replicate n z.toList).flatten=(madeCells z (n*z.size)).toList:=by rw [madeCells_rep z n h0];rfl
 rw [e1]
 exact ⟨by simp [size_madeCells],.inr ⟨g,n,_,rfl,Nat.zero_le _,h,Nat.le_refl _,hn,size_madeCells _ _,List.take_of_length_le (by simp [size_madeCells])⟩⟩
def tRow (p:Int×Int):List Value:=[.int .i64 p.1,.int .i64 p.2]
def qRow (p:Int×Int×Int×Int):List Value:=[.int .i64 p.1,.int .i64 p.2.1,.int .i64 p.2.2.1,.int .i64 p.2.2.2]
theorem keepK {w wc wr:World}{X Y Z:Obj}{b:Nat}(hb:w.heap.size+3<=b) (h:wc.heap[w.heap.size]? = some X/\wc.heap[w.heap.size+1]? = some Y/\wc.heap[w.heap.size+1+1]? = some Z/\Below w.heap.size w wc) (hf:Fr (fun q=>q=b) wc wr) :
  wr.heap[w.heap.size]? = some X/\wr.heap[w.heap.size+1]? = some Y/\wr.heap[w.heap.size+1+1]? = some Z/\Below w.heap.size w wr:=by
 have l0:=(Array.getElem?_eq_some_iff.1 h.1).1
 have l1:=(Array.getElem?_eq_some_iff.1 h.2.1).1
 have l2:=(Array.getElem?_eq_some_iff.1 h.2.2.1).1
 exact ⟨(hf.block _ l0 (by omega)).trans h.1,(hf.block _ l1 (by omega)).trans h.2.1,(hf.block _ l2 (by omega)).trans h.2.2.1,h.2.2.2.trans (hf.to_below (by omega) (fun k hk=>by omega))⟩
theorem take_set_replicate (k:Nat) (p:List Value) (rows:List (List Value)) (hk:k < rows.length) (h:rows.take k=List.replicate k p):Hid ((rows.set k p).take (k+1)=List.replicate (k+1) p):=by
 unfold Hid
 rw [List.take_succ_eq_append_getElem (by simpa using hk),List.take_set_of_le (Nat.le_refl _),h,List.replicate_succ']
 simp
theorem heap_push (w:World) (o:Obj):(w.alloc o).heap=w.heap.push o:=rfl
theorem new7 (w:World) (X Y Z A B C D:Obj) :
  (((((((w.alloc X).alloc Y).alloc Z).alloc A).alloc B).alloc C).alloc D).heap[w.heap.size]? = some X/\(((((((w.alloc X).alloc Y).alloc Z).alloc A).alloc B).alloc C).alloc D).heap[w.heap.size+1]? = some Y /\
  (((((((w.alloc X).alloc Y).alloc Z).alloc A).alloc B).alloc C).alloc D).heap[w.heap.size+1+1]? = some Z /\
  (((((((w.alloc X).alloc Y).alloc Z).alloc A).alloc B).alloc C).alloc D).heap[w.heap.size+1+1+1]? = some A/\(((((((w.alloc X).alloc Y).alloc Z).alloc A).alloc B).alloc C).alloc D).heap[w.heap.size+1+1+1+1]? = some B /\
  (((((((w.alloc X).alloc Y).alloc Z).alloc A).alloc B).alloc C).alloc D).heap[w.heap.size+1+1+1+1+1]? = some C/\(((((((w.alloc X).alloc Y).alloc Z).alloc A).alloc B).alloc C).alloc D).heap[w.heap.size+1+1+1+1+1+1]? = some D:=by
 simp only [heap_push,Array.getElem?_push,Array.size_push]
 refine ⟨?_,?_,?_,?_,?_,?_,?_⟩ <;> (repeat (first | rw [if_pos (by first | trivial | omega)] | rw [if_neg (by omega)]))
theorem below7 (w:World) (X Y Z A B C D:Obj):Below w.heap.size w (((((((w.alloc X).alloc Y).alloc Z).alloc A).alloc B).alloc C).alloc D):=
 (((((((Below.refl _ w).alloc (Nat.le_refl _) X).alloc (by simp) Y).alloc (by simp;omega) Z).alloc (by simp;omega) A).alloc (by simp;omega) B).alloc (by simp;omega) C).alloc (by simp;omega) D
theorem lentConfig_any (sp:Int) (vT vP vL:Value) (T:List (Int×Int)) (Q L:List (Int×Int×Int×Int)) (w:World) (bT:T.length<=8796093022208) (bP:Q.length<=4398046511104) (bL:L.length<=4398046511104)
  (iT:Inl w 2 vT (T.map tRow)) (iP:Inl w 4 vP (Q.map qRow)) (iL:Inl w 4 vL (L.map qRow)) :
  Calls Tryz.prog 56 #[.agg #[.int .i64 sp,vT,vP,vL]] w fun e w'=>∃ bt bp bl,
   e=.returned (.tuple #[.agg #[.int .i64 sp,.slice (some ⟨bt,0,none⟩) T.length (T.length+8),.slice (some ⟨bp,0,none⟩) Q.length (Q.length+8),.slice (some ⟨bl,0,none⟩) L.length (L.length+8)],
    .agg #[.slice (some ⟨bt,0,none⟩) (T.length+8) (T.length+8),.slice (some ⟨bp,0,none⟩) (Q.length+8) (Q.length+8),.slice (some ⟨bl,0,none⟩) (L.length+8) (L.length+8)]]) /\
   Sl w' 34 2 (.slice (some ⟨bt,0,none⟩) (T.length+8) (T.length+8)) (T.map tRow ++ List.replicate 8 [.int .i64 0,.int .i64 (-77)]) /\
   Sl w' 55 4 (.slice (some ⟨bp,0,none⟩) (Q.length+8) (Q.length+8)) (Q.map qRow ++ List.replicate 8 [.int .i64 0,.int .i64 (-77),.int .i64 0,.int .i64 0]) /\
   Sl w' 67 4 (.slice (some ⟨bl,0,none⟩) (L.length+8) (L.length+8)) (L.map qRow ++ List.replicate 8 [.int .i64 0,.int .i64 (-77),.int .i64 0,.int .i64 0]) /\
   Below w.heap.size w w'/\w.heap.size<=bt/\w.heap.size<=bp/\w.heap.size<=bl/\bt≠bp/\bt≠bl/\bp≠bl:=by
 obtain ⟨aT,cT,eT⟩:=iT.slice
 obtain ⟨aP,cP,eP⟩:=iP.slice
 obtain ⟨aL,cL,eL⟩:=iL.slice
 rw [List.length_map] at eT eP eL
 subst eT eP eL
 generalize hnT:T.length=nT at *
 generalize hnP:Q.length=nP at *
 generalize hnL:L.length=nL at *
 have HI:=hid (And.intro iT (And.intro iP (And.intro iL (And.intro hnT (And.intro hnP hnL)))))
 clear iT iP iL hnT hnP hnL
 have hm1:=make_eq Tryz.underlying28 Tryz.infoN34 nT (by omega) (by decide)
 have hm2:=make_eq Tryz.underlying29 Tryz.infoN55 nP (by omega) (by decide)
 have hm3:=make_eq Tryz.underlying30 Tryz.infoN67 nL (by omega) (by decide)
 simp only [Value.cells] at hm1 hm2 hm3
 go_enter Tryz.func56,Tryz.ntmps56
 go_wp2
 go_cut [4] (fun t4 wc=>∃ bx bt bp bl,t4=.pointer (some ⟨bx,0,none⟩)/\wc.heap[bx]? = some (.cells #[.slice (some ⟨bt,0,none⟩) (nT+8) (nT+8),.slice (some ⟨bp,0,none⟩) (nP+8) (nP+8),.slice (some ⟨bl,0,none⟩) (nL+8) (nL+8)] 129 (0,0))/\wc.heap[bt]? = some (.cells (madeCells #[.int .i64 0,.int .i64 0] ((nT+8)*2)) 34 (0,0))/\wc.heap[bp]? = some (.cells (madeCells #[.int .i64 0,.int .i64 0,.int .i64 0,.int .i64 0] ((nP+8)*4)) 55 (0,0))/\wc.heap[bl]? = some (.cells (madeCells #[.int .i64 0,.int .i64 0,.int .i64 0,.int .i64 0] ((nL+8)*4)) 67 (0,0)) /\
  wc.heap[w.heap.size]? = some (.cells #[.int .i64 sp,.slice aT nT cT,.slice aP nP cP,.slice aL nL cL] 32 (0,0))/\wc.heap[w.heap.size+1]? = some (.cells #[.int .i64 0,.slice none 0 0,.slice none 0 0,.slice none 0 0] 32 (0,0))/\wc.heap[w.heap.size+1+1]? = some (.cells #[.slice none 0 0,.slice none 0 0,.slice none 0 0] 129 (0,0))/\Below w.heap.size w wc /\
  (w.heap.size+3<=bx/\w.heap.size+3<=bt/\w.heap.size+3<=bp/\w.heap.size+3<=bl/\bx≠bt/\bx≠bp/\bx≠bl/\bt≠bp/\bt≠bl/\bp≠bl))
 case first=>
  go_region
  all_goals
   go_wp2
   go_meet
   case rel=>
    first
     | refine ⟨_,_,_,_,rfl,(new7 _ _ _ _ _ _ _ _).2.2.2.2.2.2,?hb,?hc,?hd,(new7 _ _ _ _ _ _ _ _).1,(new7 _ _ _ _ _ _ _ _).2.1,(new7 _ _ _ _ _ _ _ _).2.2.1,(below7 _ _ _ _ _ _ _ _).drew,?he⟩
     | refine ⟨_,_,_,_,rfl,(new7 _ _ _ _ _ _ _ _).2.2.2.2.2.1,?hb,?hc,?hd,(new7 _ _ _ _ _ _ _ _).1,(new7 _ _ _ _ _ _ _ _).2.1,(new7 _ _ _ _ _ _ _ _).2.2.1,(below7 _ _ _ _ _ _ _ _).drew,?he⟩
     | refine ⟨_,_,_,_,rfl,(new7 _ _ _ _ _ _ _ _).2.2.2.2.1,?hb,?hc,?hd,(new7 _ _ _ _ _ _ _ _).1,(new7 _ _ _ _ _ _ _ _).2.1,(new7 _ _ _ _ _ _ _ _).2.2.1,(below7 _ _ _ _ _ _ _ _).drew,?he⟩
     | refine ⟨_,_,_,_,rfl,(new7 _ _ _ _ _ _ _ _).2.2.2.1,?hb,?hc,?hd,(new7 _ _ _ _ _ _ _ _).1,(new7 _ _ _ _ _ _ _ _).2.1,(new7 _ _ _ _ _ _ _ _).2.2.1,(below7 _ _ _ _ _ _ _ _).drew,?he⟩
    case hb=>(first | exact (new7 _ _ _ _ _ _ _ _).2.2.2.1 | exact (new7 _ _ _ _ _ _ _ _).2.2.2.2.1 | exact (new7 _ _ _ _ _ _ _ _).2.2.2.2.2.1 | exact (new7 _ _ _ _ _ _ _ _).2.2.2.2.2.2)
    case hc=>(first | exact (new7 _ _ _ _ _ _ _ _).2.2.2.1 | exact (new7 _ _ _ _ _ _ _ _).2.2.2.2.1 | exact (new7 _ _ _ _ _ _ _ _).2.2.2.2.2.1 | exact (new7 _ _ _ _ _ _ _ _).2.2.2.2.2.2)
    case hd=>(first | exact (new7 _ _ _ _ _ _ _ _).2.2.2.1 | exact (new7 _ _ _ _ _ _ _ _).2.2.2.2.1 | exact (new7 _ _ _ _ _ _ _ _).2.2.2.2.2.1 | exact (new7 _ _ _ _ _ _ _ _).2.2.2.2.2.2)
    case he=>omega
 case rest=>
 obtain ⟨bx,bt,bp,bl,rfl,hx,ht0,hp0,hl0,hX,hY,hZ,hbw,hd⟩:=hcut
 have ST:=hid (made_sl (z:=#[.int .i64 0,.int .i64 0]) (size:=2) rfl (by decide) (by unfold maxLen;omega) ht0)
 have SP:=hid (made_sl (z:=#[.int .i64 0,.int .i64 0,.int .i64 0,.int .i64 0]) (size:=4) rfl (by decide) (by unfold maxLen;omega) hp0)
 have SL:=hid (made_sl (z:=#[.int .i64 0,.int .i64 0,.int .i64 0,.int .i64 0]) (size:=4) rfl (by decide) (by unfold maxLen;omega) hl0)
 have HX:=hid hx
 have HK:=hid (And.intro hX (And.intro hY (And.intro hZ hbw)))
 clear hx ht0 hp0 hl0 hX hY hZ hbw hm1 hm2 hm3
 obtain ⟨d1,d2,d3,d4,d5,d6,d7,d8,d9,d10⟩:=hd
 have hxl:bx < wc.heap.size:=(Array.getElem?_eq_some_iff.1 HX.out).1
 go_wp2_with fail
 go_loopw [5] (fun i wr=>∃ (k:Nat) (rows:List (List Value)),k<=nT+8/\i=.int .i64 k/\Sl wr 34 2 (.slice (some ⟨bt,0,none⟩) (nT+8) (nT+8)) rows/\rows.length=nT+8/\Hid (rows.take k=List.replicate k [.int .i64 0,.int .i64 (-77)])/\Fr (fun q=>q=bt) wc wr) (fun i _=>nT+8-(intOf i).toNat)
 case atStart=>exact ⟨0,_,Nat.zero_le _,rfl,ST.out,by simp,by simp [Hid],Fr.refl _ _⟩
 case round=>
 obtain ⟨k,rows,hk,rfl,hs,hrl,hpad,hf⟩:=hrel
 have hxr:Hid (wr.heap[bx]? = some (.cells #[.slice (some ⟨bt,0,none⟩) (nT+8) (nT+8),.slice (some ⟨bp,0,none⟩) (nP+8) (nP+8),.slice (some ⟨bl,0,none⟩) (nL+8) (nL+8)] 129 (0,0))):=(hf.block bx hxl (by omega)).trans HX.out
 have hcx:wr.cell? ⟨bx,0,none⟩=some (.slice (some ⟨bt,0,none⟩) (nT+8) (nT+8)):=(cell_of_row wr bx 0 _ _ _ hxr.out).trans rfl
 have hcx2:wr.cell? ⟨bx,1,none⟩=some (.slice (some ⟨bp,0,none⟩) (nP+8) (nP+8)):=(cell_of_row wr bx 1 _ _ _ hxr.out).trans rfl
 by_cases hlt:k < nT+8
 ·have HT:=hid (hs.there k (by omega))
  have HS:=hid (hs.setRow k [.int .i64 0,.int .i64 (-77)] (by omega) rfl)
  have HP:=hid (And.intro hpad hrl)
  have HF:=hid hf
  clear hs hpad hf hrl
  go_wp2_with (with_reducible (show wpList _ _ _ (⟨_,.store 34 _ _,_,_,_,none⟩ :: _) _ _);go_must (refine wpList_store_mid rfl 34 _ _ rfl bt (k*2) #[.int .i64 0,.int .i64 (-77)] rfl rfl (by simpa using HT.out) (by kernel_rfl) ?_ ?_);(simp [Value.oneCell']))
  refine ⟨⟨k+1,rows.set k [.int .i64 0,.int .i64 (-77)],by omega,by go_num,HS.out.1,by simp [HP.out.2],take_set_replicate k [.int .i64 0,.int .i64 (-77)] rows (by rw [HP.out.2];omega) HP.out.1.out,HF.out.trans ((Fr.grown HS.out.2).mono (fun q _ h=>by simpa using h.symm))⟩,by simp [intOf];omega⟩
 ·have ek:k=nT+8:=by omega
  have er:rows=List.replicate (nT+8) [.int .i64 0,.int .i64 (-77)]:=by
   have h:=hpad.out;rw [List.take_of_length_le (by omega),ek] at h;exact h
  subst er
  clear hpad hrl ek
  have ST1:=hid hs
  clear hs
  go_wp2_with fail
  generalize wr=wa at *
  have HXn:=hid hxr.out
  have hxl:=(Array.getElem?_eq_some_iff.1 HXn.out).1
  have HK:=hid (keepK (by omega) HK.out hf)
  have SP:=hid (SP.out.kept hf (fun q hq h=>by simp [Value.ownBlock] at hq;omega))
  have SL:=hid (SL.out.kept hf (fun q hq h=>by simp [Value.ownBlock] at hq;omega))
  clear hxr hf hcx hlt hk
  clear ST HX hcx2
  go_loopw [6] (fun i wr=>∃ (k:Nat) (rows:List (List Value)),k<=nP+8/\i=.int .i64 k/\Sl wr 55 4 (.slice (some ⟨bp,0,none⟩) (nP+8) (nP+8)) rows/\rows.length=nP+8/\Hid (rows.take k=List.replicate k [.int .i64 0,.int .i64 (-77),.int .i64 0,.int .i64 0])/\Fr (fun q=>q=bp) wa wr) (fun i _=>nP+8-(intOf i).toNat)
  case atStart=>exact ⟨0,_,Nat.zero_le _,rfl,SP.out,by simp,by simp [Hid],Fr.refl _ _⟩
  case round=>
  obtain ⟨k,rows,hk,rfl,hs,hrl,hpad,hf⟩:=hrel
  have hxr:Hid (wr.heap[bx]? = some (.cells #[.slice (some ⟨bt,0,none⟩) (nT+8) (nT+8),.slice (some ⟨bp,0,none⟩) (nP+8) (nP+8),.slice (some ⟨bl,0,none⟩) (nL+8) (nL+8)] 129 (0,0))):=(hf.block bx hxl (by omega)).trans HXn.out
  have hcx:wr.cell? ⟨bx,1,none⟩=some (.slice (some ⟨bp,0,none⟩) (nP+8) (nP+8)):=(cell_of_row wr bx 1 _ _ _ hxr.out).trans rfl
  have hcx2:wr.cell? ⟨bx,2,none⟩=some (.slice (some ⟨bl,0,none⟩) (nL+8) (nL+8)):=(cell_of_row wr bx 2 _ _ _ hxr.out).trans rfl
  by_cases hlt:k < nP+8
  ·have HT:=hid (hs.there k (by omega))
   have HS:=hid (hs.setRow k [.int .i64 0,.int .i64 (-77),.int .i64 0,.int .i64 0] (by omega) rfl)
   have HP:=hid (And.intro hpad hrl)
   have HF:=hid hf
   clear hs hpad hf hrl
   go_wp2_with (with_reducible (show wpList _ _ _ (⟨_,.store 55 _ _,_,_,_,none⟩ :: _) _ _);go_must (refine wpList_store_mid rfl 55 _ _ rfl bp (k*4) #[.int .i64 0,.int .i64 (-77),.int .i64 0,.int .i64 0] rfl rfl (by simpa using HT.out) (by kernel_rfl) ?_ ?_);(simp [Value.oneCell']))
   go_roundw
   case rel=>first | exact ⟨k+1,rows.set k [.int .i64 0,.int .i64 (-77),.int .i64 0,.int .i64 0],by omega,by go_num,HS.out.1,by simp [HP.out.2],take_set_replicate k [.int .i64 0,.int .i64 (-77),.int .i64 0,.int .i64 0] rows (by rw [HP.out.2];omega) HP.out.1.out,HF.out.trans ((Fr.grown HS.out.2).mono (fun q _ h=>by simpa using h.symm))⟩ | ((repeat apply Exists.intro);exact ⟨⟨k+1,rows.set k [.int .i64 0,.int .i64 (-77),.int .i64 0,.int .i64 0],by omega,by go_num,HS.out.1,by simp [HP.out.2],take_set_replicate k [.int .i64 0,.int .i64 (-77),.int .i64 0,.int .i64 0] rows (by rw [HP.out.2];omega) HP.out.1.out,HF.out.trans ((Fr.grown HS.out.2).mono (fun q _ h=>by simpa using h.symm))⟩,rfl⟩)
   case measure=>simp [intOf];omega
  ·have ek:k=nP+8:=by omega
   have er:rows=List.replicate (nP+8) [.int .i64 0,.int .i64 (-77),.int .i64 0,.int .i64 0]:=by
    have h:=hpad.out;rw [List.take_of_length_le (by omega),ek] at h;exact h
   subst er
   clear hpad hrl ek
   have SP1:=hid hs
   clear hs
   go_wp2_with fail
   generalize wr=wb at *
   have HXn:=hid hxr.out
   have hxl:=(Array.getElem?_eq_some_iff.1 HXn.out).1
   have HK:=hid (keepK (by omega) HK.out hf)
   have ST1:=hid (ST1.out.kept hf (fun q hq h=>by simp [Value.ownBlock] at hq;omega))
   have SL:=hid (SL.out.kept hf (fun q hq h=>by simp [Value.ownBlock] at hq;omega))
   clear hxr hf hcx hlt hk
   clear SP hcx2
   go_loopw [7] (fun i wr=>∃ (k:Nat) (rows:List (List Value)),k<=nL+8/\i=.int .i64 k/\Sl wr 67 4 (.slice (some ⟨bl,0,none⟩) (nL+8) (nL+8)) rows/\rows.length=nL+8/\Hid (rows.take k=List.replicate k [.int .i64 0,.int .i64 (-77),.int .i64 0,.int .i64 0])/\Fr (fun q=>q=bl) wb wr) (fun i _=>nL+8-(intOf i).toNat)
   case atStart=>exact ⟨0,_,Nat.zero_le _,rfl,SL.out,by simp,by simp [Hid],Fr.refl _ _⟩
   case round=>
   obtain ⟨k,rows,hk,rfl,hs,hrl,hpad,hf⟩:=hrel
   have hxr:Hid (wr.heap[bx]? = some (.cells #[.slice (some ⟨bt,0,none⟩) (nT+8) (nT+8),.slice (some ⟨bp,0,none⟩) (nP+8) (nP+8),.slice (some ⟨bl,0,none⟩) (nL+8) (nL+8)] 129 (0,0))):=(hf.block bx hxl (by omega)).trans HXn.out
   have hcx:wr.cell? ⟨bx,2,none⟩=some (.slice (some ⟨bl,0,none⟩) (nL+8) (nL+8)):=(cell_of_row wr bx 2 _ _ _ hxr.out).trans rfl
   skip
   by_cases hlt:k < nL+8
   ·have HT:=hid (hs.there k (by omega))
    have HS:=hid (hs.setRow k [.int .i64 0,.int .i64 (-77),.int .i64 0,.int .i64 0] (by omega) rfl)
    have HP:=hid (And.intro hpad hrl)
    have HF:=hid hf
    clear hs hpad hf hrl
    go_wp2_with (with_reducible (show wpList _ _ _ (⟨_,.store 67 _ _,_,_,_,none⟩ :: _) _ _);go_must (refine wpList_store_mid rfl 67 _ _ rfl bl (k*4) #[.int .i64 0,.int .i64 (-77),.int .i64 0,.int .i64 0] rfl rfl (by simpa using HT.out) (by kernel_rfl) ?_ ?_);(simp [Value.oneCell']))
    go_roundw
    case rel=>first | exact ⟨k+1,rows.set k [.int .i64 0,.int .i64 (-77),.int .i64 0,.int .i64 0],by omega,by go_num,HS.out.1,by simp [HP.out.2],take_set_replicate k [.int .i64 0,.int .i64 (-77),.int .i64 0,.int .i64 0] rows (by rw [HP.out.2];omega) HP.out.1.out,HF.out.trans ((Fr.grown HS.out.2).mono (fun q _ h=>by simpa using h.symm))⟩ | ((repeat apply Exists.intro);exact ⟨⟨k+1,rows.set k [.int .i64 0,.int .i64 (-77),.int .i64 0,.int .i64 0],by omega,by go_num,HS.out.1,by simp [HP.out.2],take_set_replicate k [.int .i64 0,.int .i64 (-77),.int .i64 0,.int .i64 0] rows (by rw [HP.out.2];omega) HP.out.1.out,HF.out.trans ((Fr.grown HS.out.2).mono (fun q _ h=>by simpa using h.symm))⟩,rfl⟩)
    case measure=>simp [intOf];omega
   ·have ek:k=nL+8:=by omega
    have er:rows=List.replicate (nL+8) [.int .i64 0,.int .i64 (-77),.int .i64 0,.int .i64 0]:=by
     have h:=hpad.out;rw [List.take_of_length_le (by omega),ek] at h;exact h
    subst er
    clear hpad hrl ek
    have SL1:=hid hs
    clear hs
    have HXn:=hid hxr.out
    have hxl:=(Array.getElem?_eq_some_iff.1 HXn.out).1
    have HK:=hid (keepK (by omega) HK.out hf)
    have ST1:=hid (ST1.out.kept hf (fun q hq h=>by simp [Value.ownBlock] at hq;omega))
    have SP1:=hid (SP1.out.kept hf (fun q hq h=>by simp [Value.ownBlock] at hq;omega))
    clear hxr hf hk SL
    have q0:wr.cell? ⟨bx,0,none⟩=some (.slice (some ⟨bt,0,none⟩) (nT+8) (nT+8)):=(cell_of_row wr bx 0 _ _ _ HXn.out).trans rfl
    have q1:wr.cell? ⟨w.heap.size,1,none⟩=some (.slice aT nT cT):=(cell_of_row wr _ 1 _ _ _ HK.out.1).trans rfl
    obtain ⟨i1,hi1,_,hs1,_⟩:=info_parts Tryz.infoN34
    obtain ⟨i2,hi2,_,hs2,_⟩:=info_parts Tryz.infoN55
    obtain ⟨i3,hi3,_,hs3,_⟩:=info_parts Tryz.infoN67
    have II:=hid (And.intro (HI.out.1.below (by decide) HK.out.2.2.2) (And.intro (HI.out.2.1.below (by decide) HK.out.2.2.2) (HI.out.2.2.1.below (by decide) HK.out.2.2.2)))
    go_wp2_with (first
     | (with_reducible (show wpList _ _ _ (⟨_,.call { callee:=.builtin .copy,args:=#[_,_],argTypes:=#[28,28] },_,_,_,none⟩ :: _) _ _);go_must (refine wpList_copy_sl _ rfl _ _ 28 28 rfl 34 i1 2 Tryz.underlying28 hi1 hs1 bt (nT+8) (nT+8) _ rfl ST1.out aT nT cT _ rfl II.out.1 (by have:=HI.out.2.2.2;simp;omega) ?_);intro wf HC;have ST1:=hid HC.out.1;have HXn:=hid ((HC.out.2.block bx hxl (by simp;omega)).trans HXn.out);have hxl:=(Array.getElem?_eq_some_iff.1 HXn.out).1;have HK:=hid (keepK (b:=bt) (by omega) HK.out ((Fr.grown HC.out.2).mono (fun q _ h=>by simpa using h.symm)));have II:=hid (And.intro (HI.out.1.below (by decide) HK.out.2.2.2) (And.intro (HI.out.2.1.below (by decide) HK.out.2.2.2) (HI.out.2.2.1.below (by decide) HK.out.2.2.2)));have SP1:=hid (SP1.out.kept (Fr.grown HC.out.2) (fun q hq h=>by simp [Value.ownBlock] at hq h;omega));have SL1:=hid (SL1.out.kept (Fr.grown HC.out.2) (fun q hq h=>by simp [Value.ownBlock] at hq h;omega));have q10:wf.cell? ⟨bx,1,none⟩=some (.slice (some ⟨bp,0,none⟩) (nP+8) (nP+8)):=(cell_of_row wf bx 1 _ _ _ HXn.out).trans rfl;have q11:wf.cell? ⟨w.heap.size,2,none⟩=some (.slice aP nP cP):=(cell_of_row wf _ 2 _ _ _ HK.out.1).trans rfl)
     | (with_reducible (show wpList _ _ _ (⟨_,.call { callee:=.builtin .copy,args:=#[_,_],argTypes:=#[29,29] },_,_,_,none⟩ :: _) _ _);go_must (refine wpList_copy_sl _ rfl _ _ 29 29 rfl 55 i2 4 Tryz.underlying29 hi2 hs2 bp (nP+8) (nP+8) _ rfl SP1.out aP nP cP _ rfl II.out.2.1 (by have:=HI.out.2.2.2;simp;omega) ?_);intro wg HC;have SP1:=hid HC.out.1;have HXn:=hid ((HC.out.2.block bx hxl (by simp;omega)).trans HXn.out);have hxl:=(Array.getElem?_eq_some_iff.1 HXn.out).1;have HK:=hid (keepK (b:=bp) (by omega) HK.out ((Fr.grown HC.out.2).mono (fun q _ h=>by simpa using h.symm)));have II:=hid (And.intro (HI.out.1.below (by decide) HK.out.2.2.2) (And.intro (HI.out.2.1.below (by decide) HK.out.2.2.2) (HI.out.2.2.1.below (by decide) HK.out.2.2.2)));have ST1:=hid (ST1.out.kept (Fr.grown HC.out.2) (fun q hq h=>by simp [Value.ownBlock] at hq h;omega));have SL1:=hid (SL1.out.kept (Fr.grown HC.out.2) (fun q hq h=>by simp [Value.ownBlock] at hq h;omega));have q20:wg.cell? ⟨bx,2,none⟩=some (.slice (some ⟨bl,0,none⟩) (nL+8) (nL+8)):=(cell_of_row wg bx 2 _ _ _ HXn.out).trans rfl;have q21:wg.cell? ⟨w.heap.size,3,none⟩=some (.slice aL nL cL):=(cell_of_row wg _ 3 _ _ _ HK.out.1).trans rfl)
     | (with_reducible (show wpList _ _ _ (⟨_,.call { callee:=.builtin .copy,args:=#[_,_],argTypes:=#[30,30] },_,_,_,none⟩ :: _) _ _);go_must (refine wpList_copy_sl _ rfl _ _ 30 30 rfl 67 i3 4 Tryz.underlying30 hi3 hs3 bl (nL+8) (nL+8) _ rfl SL1.out aL nL cL _ rfl II.out.2.2 (by have:=HI.out.2.2.2;simp;omega) ?_);intro wh HC;have SL1:=hid HC.out.1;have HXn:=hid ((HC.out.2.block bx hxl (by simp;omega)).trans HXn.out);have hxl:=(Array.getElem?_eq_some_iff.1 HXn.out).1;have HK:=hid (keepK (b:=bl) (by omega) HK.out ((Fr.grown HC.out.2).mono (fun q _ h=>by simpa using h.symm)));have II:=hid (And.intro (HI.out.1.below (by decide) HK.out.2.2.2) (And.intro (HI.out.2.1.below (by decide) HK.out.2.2.2) (HI.out.2.2.1.below (by decide) HK.out.2.2.2)));have ST1:=hid (ST1.out.kept (Fr.grown HC.out.2) (fun q hq h=>by simp [Value.ownBlock] at hq h;omega));have SP1:=hid (SP1.out.kept (Fr.grown HC.out.2) (fun q hq h=>by simp [Value.ownBlock] at hq h;omega));have s0:wh.cell? ⟨w.heap.size,0,none⟩=some (.int .i64 sp):=(cell_of_row wh _ 0 _ _ _ HK.out.1).trans rfl;have s1:wh.cell? ⟨w.heap.size,1,none⟩=some (.slice aT nT cT):=(cell_of_row wh _ 1 _ _ _ HK.out.1).trans rfl;have s2:wh.cell? ⟨w.heap.size,2,none⟩=some (.slice aP nP cP):=(cell_of_row wh _ 2 _ _ _ HK.out.1).trans rfl;have s3:wh.cell? ⟨w.heap.size,3,none⟩=some (.slice aL nL cL):=(cell_of_row wh _ 3 _ _ _ HK.out.1).trans rfl;have x0:wh.cell? ⟨bx,0,none⟩=some (.slice (some ⟨bt,0,none⟩) (nT+8) (nT+8)):=(cell_of_row wh _ 0 _ _ _ HXn.out).trans rfl;have x1:wh.cell? ⟨bx,1,none⟩=some (.slice (some ⟨bp,0,none⟩) (nP+8) (nP+8)):=(cell_of_row wh _ 1 _ _ _ HXn.out).trans rfl;have x2:wh.cell? ⟨bx,2,none⟩=some (.slice (some ⟨bl,0,none⟩) (nL+8) (nL+8)):=(cell_of_row wh _ 2 _ _ _ HXn.out).trans rfl;have y0:wh.cell? ⟨w.heap.size+1,0,none⟩=some (.int .i64 0):=(cell_of_row wh _ 0 _ _ _ HK.out.2.1).trans rfl;have y1:wh.cell? ⟨w.heap.size+1,1,none⟩=some (.slice none 0 0):=(cell_of_row wh _ 1 _ _ _ HK.out.2.1).trans rfl;have y2:wh.cell? ⟨w.heap.size+1,2,none⟩=some (.slice none 0 0):=(cell_of_row wh _ 2 _ _ _ HK.out.2.1).trans rfl;have y3:wh.cell? ⟨w.heap.size+1,3,none⟩=some (.slice none 0 0):=(cell_of_row wh _ 3 _ _ _ HK.out.2.1).trans rfl;have z0:wh.cell? ⟨w.heap.size+1+1,0,none⟩=some (.slice none 0 0):=(cell_of_row wh _ 0 _ _ _ HK.out.2.2.1).trans rfl;have z1:wh.cell? ⟨w.heap.size+1+1,1,none⟩=some (.slice none 0 0):=(cell_of_row wh _ 1 _ _ _ HK.out.2.2.1).trans rfl;have z2:wh.cell? ⟨w.heap.size+1+1,2,none⟩=some (.slice none 0 0):=(cell_of_row wh _ 2 _ _ _ HK.out.2.2.1).trans rfl;have fy:∀ j,wh.frozen? ⟨w.heap.size+1,j,none⟩=false:=fun j=>frozen_of_row _ _ _ _ _ HK.out.2.1;have fz:∀ j,wh.frozen? ⟨w.heap.size+1+1,j,none⟩=false:=fun j=>frozen_of_row _ _ _ _ _ HK.out.2.2.1;have ly:w.heap.size+1+1 < wh.heap.size:=(Array.getElem?_eq_some_iff.1 HK.out.2.2.1).1;have l0:w.heap.size < wh.heap.size:=(by omega);have l1:w.heap.size+1 < wh.heap.size:=(by omega)))
    go_region
    all_goals go_wp2
    have HE:=hid (lent_end (O:=.cells #[.int .i64 sp,.slice (some ⟨bt,0,none⟩) nT (nT+8),.slice (some ⟨bp,0,none⟩) nP (nP+8),.slice (some ⟨bl,0,none⟩) nL (nL+8)] 32) (b0:=.int .i64 sp) (b1:=.slice (some ⟨bt,0,none⟩) nT (nT+8)) (b2:=.slice (some ⟨bp,0,none⟩) nP (nP+8)) (b3:=.slice (some ⟨bl,0,none⟩) nL (nL+8)) (e0:=.slice (some ⟨bt,0,none⟩) (nT+8) (nT+8)) (e1:=.slice (some ⟨bp,0,none⟩) (nP+8) (nP+8)) (e2:=.slice (some ⟨bl,0,none⟩) (nL+8) (nL+8)) HK.out.2.1 HK.out.2.2.1 (by omega))
    obtain ⟨E1,E2,E3⟩:=HE.out
    refine bodyPost_ret (v:=.tuple #[.agg #[.int .i64 sp,.slice (some ⟨bt,0,none⟩) nT (nT+8),.slice (some ⟨bp,0,none⟩) nP (nP+8),.slice (some ⟨bl,0,none⟩) nL (nL+8)],.agg #[.slice (some ⟨bt,0,none⟩) (nT+8) (nT+8),.slice (some ⟨bp,0,none⟩) (nP+8) (nP+8),.slice (some ⟨bl,0,none⟩) (nL+8) (nL+8)]]) (results_cell2 Tryz.results56 _ _ (w.heap.size+1) (w.heap.size+1+1) 32 129 _ _ (0,0) (0,0) _ _ rfl E1 Tryz.underlying32 rfl (by kernel_rfl) rfl E2 Tryz.underlying129 rfl (by kernel_rfl)) rfl ⟨bt,bp,bl,rfl,?_,?_,?_,?_,by omega,by omega,by omega,by omega,by omega,by omega⟩
    ·have h:=ST1.out.kept E3 (fun q hq h=>by simp [Value.ownBlock] at hq;omega)
     rw [List.length_map,HI.out.2.2.2.1,List.drop_replicate,show nT+8-nT=8 by omega] at h
     exact h
    ·have h:=SP1.out.kept E3 (fun q hq h=>by simp [Value.ownBlock] at hq;omega)
     rw [List.length_map,HI.out.2.2.2.2.1,List.drop_replicate,show nP+8-nP=8 by omega] at h
     exact h
    ·have h:=SL1.out.kept E3 (fun q hq h=>by simp [Value.ownBlock] at hq;omega)
     rw [List.length_map,HI.out.2.2.2.2.2,List.drop_replicate,show nL+8-nL=8 by omega] at h
     exact h
    ·exact HK.out.2.2.2.trans (E3.to_below (by omega) (fun q h=>by omega))
end Go.Proofs.YteejjgbeknnmeaaGreatDoor
