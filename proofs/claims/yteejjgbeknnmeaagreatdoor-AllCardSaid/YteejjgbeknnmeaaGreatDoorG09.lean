import Derived.Test.YteejjgbeknnmeaaGreatDoorG08
import Derived.Test.YteejjgbeknnmeaaGreatDoorG07
import Derived.Test.YteejjgbeknnmeaaGreatDoorG05
set_option maxRecDepth 100000
set_option maxHeartbeats 20000000
namespace Go.Proofs.YteejjgbeknnmeaaGreatDoor
open Go.RowKit
def RM.asks (K:RM) (t:Nat) (m:Ms):RM:=K.upd t (fun u=>{ u with dst:=m.dst,mw:=m.words,item:=m.item,rt:=m.rt,frm:=m.frm,win:=m.win,wait:=m.wait })
def RM.lendsTo (K:RM) (t:Nat) (b:Bool):RM:=K.upd t (fun u=>{ u with lends:=b })
noncomputable def RM.sends (K:RM) (t r:Nat) (m:Ms):RM:=
 match K.threads[r]? with
 | none=>K
 | some x=>if x.st=3/\(x.frm=-1\/x.frm=t) then ((K.deliver t r).toFirst r).goes 7 t true else if m.wait=0 then K.over t 5 else K.waits t 2 r
noncomputable def RM.ipc (K:RM) (m:Ms):Int×RM:=
 if K.cur < 0 then (2,K) else if isMs K.threads.length m=false then (3,K) else
  if m.dst < 0 then (0,(K.asks K.cur.toNat m).recv 7 K.cur.toNat true) else
   match K.threads[K.cur.toNat]? with
   | none=>(0,K)
   | some u=>
    match findQ K.passes u.sp m.dst with
    | none=>(0,(K.asks K.cur.toNat m).over K.cur.toNat 4)
    | some p=>if bits .and .i64 p.2.2.2 1=0\/p.2.2.1=K.cur then (0,(K.asks K.cur.toNat m).over K.cur.toNat 4) else (0,((K.asks K.cur.toNat m).lendsTo K.cur.toNat (bits .and .i64 p.2.2.2 2 != 0)).sends K.cur.toNat p.2.2.1.toNat m)
theorem RM.Fit.asks {K:RM}(h:K.Fit) (t:Nat) (m:Ms) (hw:m.words.length<=4) (h5:m.win<=5):(K.asks t m).Fit:=h.upd t _ (fun x hx=>by have f:=h.th t x hx;exact ⟨f.s0,f.s1,f.r0,f.r1,f.l0,f.l1,hw,f.ws,h5,f.st,f.ot⟩)
theorem RM.Fit.lendsTo {K:RM}(h:K.Fit) (t:Nat) (b:Bool):(K.lendsTo t b).Fit:=h.upd t _ (fun x hx=>by have f:=h.th t x hx;exact ⟨f.s0,f.s1,f.r0,f.r1,f.l0,f.l1,f.mw,f.ws,f.win,f.st,f.ot⟩)
theorem wdOwn_set2 {sl:List (Sv×Sv)}{r:Nat}{sb:Sv×Sv}{x:Sv}{n:Nat}(hs:sl[r]? = some sb) (hx:∀ k,inBlock x.v=some k->n<=k){k:Nat}(hk:WdOwn (sl.set r (x,sb.2)) k):WdOwn sl k\/n<=k:=by
 obtain ⟨i,s,hi,hk⟩:=hk
 rw [List.getElem?_set] at hi
 by_cases e:r=i
 ·subst e
  rw [if_pos rfl,if_pos (List.getElem?_eq_some_iff.1 hs).1] at hi
  cases hi
  rcases hk with hk | hk
  ·exact .inr (hx k hk)
  ·exact .inl ⟨r,sb,hs,.inr hk⟩
 ·rw [if_neg e] at hi
  exact .inl ⟨i,s,hi,hk⟩
theorem sending_le (ts:List Th):sending ts<=ts.length:=List.length_filter_le _ _
theorem rmIpc_any (y:Nat) (K:RM) (vt vp vl:Value) (sl:List (Sv×Sv)) (m:Ms) (sa:Option Addr) (sc:Nat) (w:World) (h:RmAt w y K vt vp vl sl) (ft:K.Fit) (hI:Inl w 1 (.slice sa m.words.length sc) (m.words.map lnI)) (ap:Apart K.passes) (hp:∀ (i:Nat) p,K.passes[i]? = some p->okQ K.sp ((K.threads.length:Int)-1) p) (hpl:K.passes.length<=1000000000000) (hr:Room 9 K) :
  Calls Tryz.prog 63 #[.pointer (some ⟨y,0,none⟩),.agg #[.int .i64 m.dst,.slice sa m.words.length sc,.int .i64 m.item,.int .i64 m.rt,.int .i64 m.frm,.int .i64 m.win,.int .i64 m.wait]] w fun e w'=>e=.returned (.int .i64 (K.ipc m).1)/\∃ vl' sl',Out y (K.ipc m).2 vt vp vl sl w w' vl' sl':=by
 obtain ⟨g,c,rfl,hgy,lg⟩:=h.open ft.one
 have ly:=h.ly
 have hb:=ft.six
 have BX:Below w.heap.size w (w.alloc (.cells #[.int .i64 m.dst,.slice sa m.words.length sc,.int .i64 m.item,.int .i64 m.rt,.int .i64 m.frm,.int .i64 m.win,.int .i64 m.wait] 43)):=(Below.refl _ w).alloc (Nat.le_refl _) _
 have p0:=heap_alloc_new w (.cells #[.int .i64 m.dst,.slice sa m.words.length sc,.int .i64 m.item,.int .i64 m.rt,.int .i64 m.frm,.int .i64 m.win,.int .i64 m.wait] 43)
 have HH:=hid (And.intro h (And.intro ft (And.intro hI (And.intro ap (And.intro hp (And.intro hpl hr))))))
 have HX:=hid (And.intro BX p0)
 obtain ⟨k,hk⟩:∃ k,K.threads.length=k:=⟨_,rfl⟩
 have HK:=hid hk
 rw [hk] at hb
 clear h ft hI ap hp hpl hr BX p0 hk
 go_enter Tryz.func63,Tryz.ntmps63
 go_wp2_with fail
 refine (rmCurrent_any y K _ vp vl sl _ (HH.out.1.below HX.out.1) (by rw [HK.out];exact hb)).mono ?_
 rintro e w1 ⟨rfl,B1⟩
 have B01:Below w.heap.size w w1:=HX.out.1.trans (B1.mono HX.out.1.size)
 have q0:=(B1.block w.heap.size (by simp)).trans HX.out.2
 have l1:w.heap.size < w1.heap.size:=(Array.getElem?_eq_some_iff.1 q0).1
 have x0:w1.cell? ⟨w.heap.size,0,none⟩=some (.int .i64 m.dst):=(cell_of_row w1 _ 0 _ _ _ q0).trans rfl
 have x1:w1.cell? ⟨w.heap.size,1,none⟩=some (.slice sa m.words.length sc):=(cell_of_row w1 _ 1 _ _ _ q0).trans rfl
 have R0:w1.rangeAt w.heap.size 0 [.int .i64 m.dst,.slice sa m.words.length sc,.int .i64 m.item,.int .i64 m.rt,.int .i64 m.frm,.int .i64 m.win,.int .i64 m.wait]:=fun j v hv=>by
  rw [cell_of_row _ _ (0+j) _ _ _ q0,Nat.zero_add,List.getElem?_toArray];exact hv
 have H1:=hid (And.intro B01 (And.intro (HH.out.1.below B01) (And.intro q0 R0)))
 clear B01 q0 R0 B1
 rcases curM_inv K.threads K.threads.length (Nat.le_refl _) with e | ⟨t,u,e,ht,hu,hst⟩
 ·have E:=hid (show K.ipc m=(2,K) by unfold RM.ipc;rw [if_pos (show K.cur < 0 by unfold RM.cur;omega)])
  rw [show K.cur=-1 from e]
  clear e
  go_wp2
  go_ret
  exact ⟨by rw [E.out];rfl,vl,sl,by rw [E.out];exact Out.plain H1.out.2.1 (Fr.of_below H1.out.1 _)⟩
 ·have ec:K.cur=t:=e
  have HT:=hid (And.intro hu (And.intro hst ec))
  have tk:t < k:=by rw [<- HK.out];exact ht
  have tk':(t:Int) < (k:Int):=by omega
  rw [ec]
  have dn:decide ((t:Int) < 0)=false:=by simp
  clear e ht hu hst ec
  go_wp2_with (with_reducible (show wpList _ _ _ (⟨_,.load 43 _,_,_,_,none⟩ :: _) _ _);go_must (refine wpList_load_mid rfl 43 _ rfl w.heap.size 0 rfl _ _ H1.out.2.2.2 Tryz.underlying43 rfl (by kernel_rfl) ?_))
  refine (rmMessage_any y K _ vp vl sl m sa sc w1 H1.out.2.1 HH.out.2.1).mono ?_
  rintro e w2 ⟨rfl,B2⟩
  have B02:Below w.heap.size w w2:=H1.out.1.trans (B2.mono H1.out.1.size)
  have q0:=(B2.block w.heap.size l1).trans H1.out.2.2.1
  have l2:w.heap.size < w2.heap.size:=(Array.getElem?_eq_some_iff.1 q0).1
  have H2:=hid (And.intro B02 (And.intro (HH.out.1.below B02) q0))
  have y0:w2.cell? ⟨w.heap.size,0,none⟩=some (.int .i64 m.dst):=(cell_of_row w2 _ 0 _ _ _ q0).trans rfl
  have y1:w2.cell? ⟨w.heap.size,1,none⟩=some (.slice sa m.words.length sc):=(cell_of_row w2 _ 1 _ _ _ q0).trans rfl
  have y2:w2.cell? ⟨w.heap.size,2,none⟩=some (.int .i64 m.item):=(cell_of_row w2 _ 2 _ _ _ q0).trans rfl
  have y3:w2.cell? ⟨w.heap.size,3,none⟩=some (.int .i64 m.rt):=(cell_of_row w2 _ 3 _ _ _ q0).trans rfl
  have y4:w2.cell? ⟨w.heap.size,4,none⟩=some (.int .i64 m.frm):=(cell_of_row w2 _ 4 _ _ _ q0).trans rfl
  have y5:w2.cell? ⟨w.heap.size,5,none⟩=some (.int .i64 m.win):=(cell_of_row w2 _ 5 _ _ _ q0).trans rfl
  have y6:w2.cell? ⟨w.heap.size,6,none⟩=some (.int .i64 m.wait):=(cell_of_row w2 _ 6 _ _ _ q0).trans rfl
  have f1:w2.frozen? ⟨w.heap.size,1,none⟩=false:=frozen_of_row _ _ _ _ _ q0
  have IW:Hid (Inl w2 1 (.slice sa m.words.length sc) (m.words.map lnI)):=HH.out.2.2.1.below (by omega) B02
  clear x0 x1 B02 q0 B2
  cases hm:isMs K.threads.length m with
  | false=>
   have E:=hid (show K.ipc m=(3,K) by unfold RM.ipc;rw [if_neg (by rw [HT.out.2.2];omega),if_pos hm])
   clear hm
   go_wp2
   go_ret
   exact ⟨by rw [E.out];rfl,vl,sl,by rw [E.out];exact Out.plain H2.out.2.1 (Fr.of_below H2.out.1 _)⟩
  | true=>
   have hw4:m.words.length<=4:=by
    simp only [isMs,Bool.and_eq_true,decide_eq_true_eq] at hm
    omega
   have HW:Hid ((-1<=m.dst/\m.dst<=5)/\m.win<=5/\isMs K.threads.length m=true):=by
    refine ⟨?_,?_,hm⟩
    ·simp only [isMs,Bool.and_eq_true] at hm
     exact inI_true.1 hm.1
    ·simp only [isMs,Bool.and_eq_true] at hm
     exact (inI_true.1 hm.2.2.2.2.1).2
   obtain ⟨i2,hi2,hx0,hx1,hx2⟩:=info_parts Tryz.infoN2
   clear hm
   go_wp2_with (at_builtin;(refine wpList_append_n _ rfl (.tmp 20) (.tmp 22) 39 rfl 2 i2 _ 1 8 Tryz.underlying39 hi2 hx0 hx1 hx2 rfl (by decide) (.slice none 0 0) [] rfl (Sl.nil _ _ _) sa m.words.length sc _ rfl IW.out m.words.length (by simp) (by unfold maxLen;omega) (by omega) ?_);intro a3 c3 w3 G3;have F3:=(G3.fr (Fr.refl (fun _=>False) w2) (fun q hq'=>(by simp [Value.ownBlock] at hq')));have b3:=(F3.block w.heap.size l2 id).trans H2.out.2.2;have z1:w3.cell? ⟨w.heap.size,1,none⟩=some (.slice sa m.words.length sc):=(cell_of_row w3 _ 1 _ _ _ b3).trans rfl;have z1f:w3.frozen? ⟨w.heap.size,1,none⟩=false:=frozen_of_row _ _ _ _ _ b3;have H3:=hid (And.intro G3 (And.intro F3 b3));clear G3 F3 b3)
   have own:∀ q,RmOwn y (.slice (some ⟨g,0,none⟩) K.threads.length c) vp vl sl q->q < w.heap.size:=fun q hq=>HH.out.1.lt hq
   have FB:Fr (fun q=>q=w.heap.size) w3 (w3.setCell ⟨w.heap.size,1,none⟩ (.slice a3 m.words.length c3)):=(Fr.refl (fun q=>q=w.heap.size) w3).setCell (p:=⟨w.heap.size,1,none⟩) (fun _=>rfl) _
   have h4:=(H2.out.2.1.kept H3.out.2.1 (fun _ _ h=>h)).kept FB (fun q hq e=>by have:=own q hq;omega)
   have bx4:(w3.setCell ⟨w.heap.size,1,none⟩ (.slice a3 m.words.length c3)).heap[w.heap.size]? = some (.cells #[.int .i64 m.dst,.slice a3 m.words.length c3,.int .i64 m.item,.int .i64 m.rt,.int .i64 m.frm,.int .i64 m.win,.int .i64 m.wait] 43 (0,0)):=heap_setCell_same w3 _ 1 _ _ _ H3.out.2.2
   have F04:Fr (Wr y (.slice (some ⟨g,0,none⟩) K.threads.length c) vp vl) w (w3.setCell ⟨w.heap.size,1,none⟩ (.slice a3 m.words.length c3)):=((Fr.of_below H2.out.1 _).trans (H3.out.2.1.mono (fun _ _ h=>h.elim))).then2 FB (fun q hq e=>by omega)
   have hnew:∀ q,inBlock (Sv.v ⟨a3,m.words.length,c3⟩)=some q->w2.heap.size<=q:=fun q hq=>by
    rcases H3.out.1.at_ q (own_of_in H3.out.1.sl hq) with e | e
    ·exact e
    ·simp [Value.ownBlock] at e
   have wx:Wd (w3.setCell ⟨w.heap.size,1,none⟩ (.slice a3 m.words.length c3)) y (.slice (some ⟨g,0,none⟩) K.threads.length c) vp vl ⟨a3,m.words.length,c3⟩ m.words:=by
    refine ⟨(H3.out.1.sl.toInl (by unfold maxLen;omega)).kept (by omega) FB (fun q hq e=>by have:=hnew q hq;omega),fun q hq=>⟨?_,fun hw=>by have:=own q (.inl hw);have:=hnew q hq;omega⟩⟩
    have:=H3.out.1.sl.lt (own_of_in H3.out.1.sl hq)
    exact Nat.lt_of_lt_of_le this FB.size
   obtain ⟨su,hsu⟩:=HH.out.1.sl_get HT.out.1
   have OS:Hid (∀ q,WdOwn (sl.set t (⟨a3,m.words.length,c3⟩,su.2)) q->WdOwn sl q\/w.heap.size<=q):=fun q hq=>wdOwn_set2 hsu (fun q hq=>by have:=hnew q hq;omega) hq
   generalize w3.setCell ⟨w.heap.size,1,none⟩ (.slice a3 m.words.length c3)=w4 at *
   have R4:=h4.trange HT.out.1 hsu
   have g5:w4.cell? ⟨g,t*20+5,none⟩=some (.int .i64 u.dst):=R4 5 _ rfl
   have g6:w4.cell? ⟨g,t*20+6,none⟩=some (.slice su.1.a su.1.n su.1.c):=R4 6 _ rfl
   have g7:w4.cell? ⟨g,t*20+7,none⟩=some (.int .i64 u.item):=R4 7 _ rfl
   have g8:w4.cell? ⟨g,t*20+8,none⟩=some (.int .i64 u.rt):=R4 8 _ rfl
   have g9:w4.cell? ⟨g,t*20+9,none⟩=some (.int .i64 u.frm):=R4 9 _ rfl
   have g10:w4.cell? ⟨g,t*20+10,none⟩=some (.int .i64 u.win):=R4 10 _ rfl
   have g11:w4.cell? ⟨g,t*20+11,none⟩=some (.int .i64 u.wait):=R4 11 _ rfl
   have fg:∀ j,w4.frozen? ⟨g,j,none⟩=false:=fun j=>h4.th.fro j
   have c0:w4.cell? ⟨y,0,none⟩=some (.slice (some ⟨g,0,none⟩) k c):=by rw [<- HK.out];exact (h4.cell 0).trans rfl
   have z04:w4.cell? ⟨w.heap.size,0,none⟩=some (.int .i64 m.dst):=(cell_of_row w4 _ 0 _ _ _ bx4).trans rfl
   have z14:w4.cell? ⟨w.heap.size,1,none⟩=some (.slice a3 m.words.length c3):=(cell_of_row w4 _ 1 _ _ _ bx4).trans rfl
   have z24:w4.cell? ⟨w.heap.size,2,none⟩=some (.int .i64 m.item):=(cell_of_row w4 _ 2 _ _ _ bx4).trans rfl
   have z34:w4.cell? ⟨w.heap.size,3,none⟩=some (.int .i64 m.rt):=(cell_of_row w4 _ 3 _ _ _ bx4).trans rfl
   have z44:w4.cell? ⟨w.heap.size,4,none⟩=some (.int .i64 m.frm):=(cell_of_row w4 _ 4 _ _ _ bx4).trans rfl
   have z54:w4.cell? ⟨w.heap.size,5,none⟩=some (.int .i64 m.win):=(cell_of_row w4 _ 5 _ _ _ bx4).trans rfl
   have z64:w4.cell? ⟨w.heap.size,6,none⟩=some (.int .i64 m.wait):=(cell_of_row w4 _ 6 _ _ _ bx4).trans rfl
   have lw4:w.heap.size < w4.heap.size:=(Array.getElem?_eq_some_iff.1 bx4).1
   have lg4:g < w4.heap.size:=h4.th.lt rfl
   have hgB:g≠w.heap.size:=by omega
   have h4y:Hid (y < w4.heap.size):=h4.ly
   have H4:=hid (And.intro h4 (And.intro bx4 (And.intro F04 (And.intro wx hsu))))
   clear own FB h4 bx4 F04 hnew wx hsu R4 y0 y1 y2 y3 y4 y5 y6 f1 z1 z1f IW hi2 hx0 hx1 hx2
   go_cut [] (fun wc=>Hid (Out y (K.asks t m) (.slice (some ⟨g,0,none⟩) K.threads.length c) vp vl sl w wc vl (sl.set t (⟨a3,m.words.length,c3⟩,su.2))/\wc.heap[w.heap.size]? = some (.cells #[.int .i64 m.dst,.slice a3 m.words.length c3,.int .i64 m.item,.int .i64 m.rt,.int .i64 m.frm,.int .i64 m.win,.int .i64 m.wait] 43 (0,0))))
   case first=>
    have F:Fr (fun q=>q=g) w4 (((((((w4.setCell ⟨g,t*20+5,none⟩ (.int .i64 m.dst)).setCell ⟨g,t*20+5+1,none⟩ (.slice a3 m.words.length c3)).setCell ⟨g,t*20+5+2,none⟩ (.int .i64 m.item)).setCell ⟨g,t*20+5+3,none⟩ (.int .i64 m.rt)).setCell ⟨g,t*20+5+4,none⟩ (.int .i64 m.frm)).setCell ⟨g,t*20+5+5,none⟩ (.int .i64 m.win)).setCell ⟨g,t*20+5+6,none⟩ (.int .i64 m.wait)):=((((((((Fr.refl (fun q=>q=g) w4).setCell (p:=⟨g,t*20+5,none⟩) (fun _=>rfl) (.int .i64 m.dst)).setCell (p:=⟨g,t*20+5+1,none⟩) (fun _=>rfl) (.slice a3 m.words.length c3)).setCell (p:=⟨g,t*20+5+2,none⟩) (fun _=>rfl) (.int .i64 m.item)).setCell (p:=⟨g,t*20+5+3,none⟩) (fun _=>rfl) (.int .i64 m.rt)).setCell (p:=⟨g,t*20+5+4,none⟩) (fun _=>rfl) (.int .i64 m.frm)).setCell (p:=⟨g,t*20+5+5,none⟩) (fun _=>rfl) (.int .i64 m.win)).setCell (p:=⟨g,t*20+5+6,none⟩) (fun _=>rfl) (.int .i64 m.wait))
    have HF:=hid F
    have KS:Hid ((((((((w4.setCell ⟨g,t*20+5,none⟩ (.int .i64 m.dst)).setCell ⟨g,t*20+5+1,none⟩ (.slice a3 m.words.length c3)).setCell ⟨g,t*20+5+2,none⟩ (.int .i64 m.item)).setCell ⟨g,t*20+5+3,none⟩ (.int .i64 m.rt)).setCell ⟨g,t*20+5+4,none⟩ (.int .i64 m.frm)).setCell ⟨g,t*20+5+5,none⟩ (.int .i64 m.win)).setCell ⟨g,t*20+5+6,none⟩ (.int .i64 m.wait)).drew.cell? ⟨y,0,none⟩=some (.slice (some ⟨g,0,none⟩) k c)/\(((((((w4.setCell ⟨g,t*20+5,none⟩ (.int .i64 m.dst)).setCell ⟨g,t*20+5+1,none⟩ (.slice a3 m.words.length c3)).setCell ⟨g,t*20+5+2,none⟩ (.int .i64 m.item)).setCell ⟨g,t*20+5+3,none⟩ (.int .i64 m.rt)).setCell ⟨g,t*20+5+4,none⟩ (.int .i64 m.frm)).setCell ⟨g,t*20+5+5,none⟩ (.int .i64 m.win)).setCell ⟨g,t*20+5+6,none⟩ (.int .i64 m.wait)).drew.cell? ⟨w.heap.size,0,none⟩=some (.int .i64 m.dst)/\(((((((w4.setCell ⟨g,t*20+5,none⟩ (.int .i64 m.dst)).setCell ⟨g,t*20+5+1,none⟩ (.slice a3 m.words.length c3)).setCell ⟨g,t*20+5+2,none⟩ (.int .i64 m.item)).setCell ⟨g,t*20+5+3,none⟩ (.int .i64 m.rt)).setCell ⟨g,t*20+5+4,none⟩ (.int .i64 m.frm)).setCell ⟨g,t*20+5+5,none⟩ (.int .i64 m.win)).setCell ⟨g,t*20+5+6,none⟩ (.int .i64 m.wait)).drew.cell? ⟨w.heap.size,1,none⟩=some (.slice a3 m.words.length c3)/\(((((((w4.setCell ⟨g,t*20+5,none⟩ (.int .i64 m.dst)).setCell ⟨g,t*20+5+1,none⟩ (.slice a3 m.words.length c3)).setCell ⟨g,t*20+5+2,none⟩ (.int .i64 m.item)).setCell ⟨g,t*20+5+3,none⟩ (.int .i64 m.rt)).setCell ⟨g,t*20+5+4,none⟩ (.int .i64 m.frm)).setCell ⟨g,t*20+5+5,none⟩ (.int .i64 m.win)).setCell ⟨g,t*20+5+6,none⟩ (.int .i64 m.wait)).drew.cell? ⟨w.heap.size,2,none⟩=some (.int .i64 m.item)/\(((((((w4.setCell ⟨g,t*20+5,none⟩ (.int .i64 m.dst)).setCell ⟨g,t*20+5+1,none⟩ (.slice a3 m.words.length c3)).setCell ⟨g,t*20+5+2,none⟩ (.int .i64 m.item)).setCell ⟨g,t*20+5+3,none⟩ (.int .i64 m.rt)).setCell ⟨g,t*20+5+4,none⟩ (.int .i64 m.frm)).setCell ⟨g,t*20+5+5,none⟩ (.int .i64 m.win)).setCell ⟨g,t*20+5+6,none⟩ (.int .i64 m.wait)).drew.cell? ⟨w.heap.size,3,none⟩=some (.int .i64 m.rt)/\(((((((w4.setCell ⟨g,t*20+5,none⟩ (.int .i64 m.dst)).setCell ⟨g,t*20+5+1,none⟩ (.slice a3 m.words.length c3)).setCell ⟨g,t*20+5+2,none⟩ (.int .i64 m.item)).setCell ⟨g,t*20+5+3,none⟩ (.int .i64 m.rt)).setCell ⟨g,t*20+5+4,none⟩ (.int .i64 m.frm)).setCell ⟨g,t*20+5+5,none⟩ (.int .i64 m.win)).setCell ⟨g,t*20+5+6,none⟩ (.int .i64 m.wait)).drew.cell? ⟨w.heap.size,4,none⟩=some (.int .i64 m.frm)/\(((((((w4.setCell ⟨g,t*20+5,none⟩ (.int .i64 m.dst)).setCell ⟨g,t*20+5+1,none⟩ (.slice a3 m.words.length c3)).setCell ⟨g,t*20+5+2,none⟩ (.int .i64 m.item)).setCell ⟨g,t*20+5+3,none⟩ (.int .i64 m.rt)).setCell ⟨g,t*20+5+4,none⟩ (.int .i64 m.frm)).setCell ⟨g,t*20+5+5,none⟩ (.int .i64 m.win)).setCell ⟨g,t*20+5+6,none⟩ (.int .i64 m.wait)).drew.cell? ⟨w.heap.size,5,none⟩=some (.int .i64 m.win)/\(((((((w4.setCell ⟨g,t*20+5,none⟩ (.int .i64 m.dst)).setCell ⟨g,t*20+5+1,none⟩ (.slice a3 m.words.length c3)).setCell ⟨g,t*20+5+2,none⟩ (.int .i64 m.item)).setCell ⟨g,t*20+5+3,none⟩ (.int .i64 m.rt)).setCell ⟨g,t*20+5+4,none⟩ (.int .i64 m.frm)).setCell ⟨g,t*20+5+5,none⟩ (.int .i64 m.win)).setCell ⟨g,t*20+5+6,none⟩ (.int .i64 m.wait)).drew.cell? ⟨w.heap.size,6,none⟩=some (.int .i64 m.wait)):=by
     have hy:=F.block y h4y.out (fun e=>hgy e.symm)
     have hB:=F.block w.heap.size lw4 (fun e=>hgB e.symm)
     clear HF
     generalize (((((((w4.setCell ⟨g,t*20+5,none⟩ (.int .i64 m.dst)).setCell ⟨g,t*20+5+1,none⟩ (.slice a3 m.words.length c3)).setCell ⟨g,t*20+5+2,none⟩ (.int .i64 m.item)).setCell ⟨g,t*20+5+3,none⟩ (.int .i64 m.rt)).setCell ⟨g,t*20+5+4,none⟩ (.int .i64 m.frm)).setCell ⟨g,t*20+5+5,none⟩ (.int .i64 m.win)).setCell ⟨g,t*20+5+6,none⟩ (.int .i64 m.wait))=W7 at *
     exact ⟨show W7.cell? _=_ from (World.cell?_of_block (a:=⟨y,0,none⟩) hy).trans c0,(World.cell?_of_block (a:=⟨w.heap.size,0,none⟩) hB).trans z04,(World.cell?_of_block (a:=⟨w.heap.size,1,none⟩) hB).trans z14,(World.cell?_of_block (a:=⟨w.heap.size,2,none⟩) hB).trans z24,(World.cell?_of_block (a:=⟨w.heap.size,3,none⟩) hB).trans z34,(World.cell?_of_block (a:=⟨w.heap.size,4,none⟩) hB).trans z44,(World.cell?_of_block (a:=⟨w.heap.size,5,none⟩) hB).trans z54,(World.cell?_of_block (a:=⟨w.heap.size,6,none⟩) hB).trans z64⟩
    clear F
    refine wp_region_held_drew (S:=(fun w'=>w'.cell? ⟨y,0,none⟩=some (.slice (some ⟨g,0,none⟩) k c)/\w'.cell? ⟨w.heap.size,0,none⟩=some (.int .i64 m.dst)/\w'.cell? ⟨w.heap.size,1,none⟩=some (.slice a3 m.words.length c3)/\w'.cell? ⟨w.heap.size,2,none⟩=some (.int .i64 m.item)/\w'.cell? ⟨w.heap.size,3,none⟩=some (.int .i64 m.rt)/\w'.cell? ⟨w.heap.size,4,none⟩=some (.int .i64 m.frm)/\w'.cell? ⟨w.heap.size,5,none⟩=some (.int .i64 m.win)/\w'.cell? ⟨w.heap.size,6,none⟩=some (.int .i64 m.wait))) (by kernel_rfl) ?_ (fun hHeld=>?_)
    ·((try dsimp only);(refine ⟨?_,?_,?_,?_,?_,?_,?_,?_⟩ <;> assumption))
    refine wpAnyH_take (i:=0) (v:=?v0) rfl (by kernel_rfl) (by kernel_rfl) (by kernel_rfl) (fun _ _ _ h=>h) (Or.inl ⟨by rfl,?y0⟩) (by assumption) ?r0
    case y0=>(intro wx hSw;(try dsimp only at hSw);go_simp;try with_reducible rfl)
    try simp only [List.getElem_toArray,List.getElem_cons_zero,Act.put,List.setIfInBounds_toArray,List.set_cons_zero,List.set_cons_succ]
    refine wpAnyH_take (i:=1) (v:=?v1) rfl (by kernel_rfl) (by kernel_rfl) (by kernel_rfl) (fun _ _ _ h=>h) (Or.inl ⟨by rfl,?y1⟩) (by assumption) ?r1
    case y1=>(intro wx hSw;(try dsimp only at hSw);go_simp;try with_reducible rfl)
    try simp only [List.getElem_toArray,List.getElem_cons_zero,List.getElem_cons_succ,Act.put,List.setIfInBounds_toArray,List.set_cons_zero,List.set_cons_succ]
    refine wpAnyH_take (i:=2) (v:=?v2) rfl (by kernel_rfl) (by kernel_rfl) (by kernel_rfl) (fun _ _ _ h=>h) (Or.inl ⟨by rfl,?y2⟩) (by assumption) ?r2
    case y2=>(intro wx hSw;(try dsimp only at hSw);go_simp;try with_reducible rfl)
    try simp only [List.getElem_toArray,List.getElem_cons_zero,List.getElem_cons_succ,Act.put,List.setIfInBounds_toArray,List.set_cons_zero,List.set_cons_succ]
    refine wpAnyH_take (i:=3) (v:=?v3) rfl (by kernel_rfl) (by kernel_rfl) (by kernel_rfl) (fun _ _ _ h=>h) (Or.inl ⟨by rfl,?y3⟩) (by assumption) ?r3
    case y3=>(intro wx hSw;(try dsimp only at hSw);go_simp;try with_reducible rfl)
    try simp only [List.getElem_toArray,List.getElem_cons_zero,List.getElem_cons_succ,Act.put,List.setIfInBounds_toArray,List.set_cons_zero,List.set_cons_succ]
    refine wpAnyH_take (i:=4) (v:=?v4) rfl (by kernel_rfl) (by kernel_rfl) (by kernel_rfl) (fun _ _ _ h=>h) (Or.inl ⟨by rfl,?y4⟩) (by assumption) ?r4
    case y4=>(intro wx hSw;(try dsimp only at hSw);go_simp;try with_reducible rfl)
    try simp only [List.getElem_toArray,List.getElem_cons_zero,List.getElem_cons_succ,Act.put,List.setIfInBounds_toArray,List.set_cons_zero,List.set_cons_succ]
    refine wpAnyH_take (i:=5) (v:=?v5) rfl (by kernel_rfl) (by kernel_rfl) (by kernel_rfl) (fun _ _ _ h=>h) (Or.inl ⟨by rfl,?y5⟩) (by assumption) ?r5
    case y5=>(intro wx hSw;(try dsimp only at hSw);go_simp;try with_reducible rfl)
    try simp only [List.getElem_toArray,List.getElem_cons_zero,List.getElem_cons_succ,Act.put,List.setIfInBounds_toArray,List.set_cons_zero,List.set_cons_succ]
    refine wpAnyH_take (i:=6) (v:=?v6) rfl (by kernel_rfl) (by kernel_rfl) (by kernel_rfl) (fun _ _ _ h=>h) (Or.inl ⟨by rfl,?y6⟩) (by assumption) ?r6
    case y6=>(intro wx hSw;(try dsimp only at hSw);go_simp;try with_reducible rfl)
    try simp only [List.getElem_toArray,List.getElem_cons_zero,List.getElem_cons_succ,Act.put,List.setIfInBounds_toArray,List.set_cons_zero,List.set_cons_succ]
    refine wpAnyH_take (i:=7) (v:=?v7) rfl (by kernel_rfl) (by kernel_rfl) (by kernel_rfl) (fun _ _ _ h=>h) (Or.inl ⟨by rfl,?y7⟩) (by assumption) ?r7
    case y7=>(intro wx hSw;(try dsimp only at hSw);go_simp;try with_reducible rfl)
    try simp only [List.getElem_toArray,List.getElem_cons_zero,List.getElem_cons_succ,Act.put,List.setIfInBounds_toArray,List.set_cons_zero,List.set_cons_succ]
    refine wpAnyH_ready (rs:=[8]) (by kernel_rfl) (by simp) (AllReadyH.cons rfl (fun K hK=>?_) AllReadyH.nil)
    go_simp
    refine hK.out _ _ ?_ (fun hHeldx=>?_)
    ·(try dsimp only);exact KS.out
    clear hK K hHeld
    try simp only [List.getElem_toArray,List.getElem_cons_zero,List.getElem_cons_succ,Act.put,List.setIfInBounds_toArray,List.set_cons_zero,List.set_cons_succ]
    refine wpAnyH_done (by kernel_rfl) ?_ _
    go_wp2
    go_meet
    case rel=>
     have h4:=H4.out.1
     obtain ⟨hl,hr⟩:=h4.hrow HT.out.1 H4.out.2.2.2.2
     have S:=(((((((h4.th.set t 5 (.int .i64 m.dst) hl (by omega)).set t 6 (.slice a3 m.words.length c3) (by simpa using hl) (by omega)).set t 7 (.int .i64 m.item) (by simpa using hl) (by omega)).set t 8 (.int .i64 m.rt) (by simpa using hl) (by omega)).set t 9 (.int .i64 m.frm) (by simpa using hl) (by omega)).set t 10 (.int .i64 m.win) (by simpa using hl) (by omega)).set t 11 (.int .i64 m.wait) (by simpa using hl) (by omega))
     simp only [List.getElem_set_self,List.set_set,hr] at S
     rw [show t*20+6=t*20+5+1 from rfl,show t*20+7=t*20+5+2 from rfl,show t*20+8=t*20+5+3 from rfl,show t*20+9=t*20+5+4 from rfl,show t*20+10=t*20+5+5 from rfl,show t*20+11=t*20+5+6 from rfl] at S
     have F:=HF.out
     have h5:=h4.updTh (fun u=>{ u with dst:=m.dst,mw:=m.words,item:=m.item,rt:=m.rt,frm:=m.frm,win:=m.win,wait:=m.wait }) (⟨a3,m.words.length,c3⟩,su.2) HT.out.1 H4.out.2.2.2.2 S F (H4.out.2.2.2.1.kept (F.mono (T:=Wr y (.slice (some ⟨g,0,none⟩) K.threads.length c) vp vl) (fun q _ e=>.inr (.inl (by rw [e];rfl)))) (fun _ _ h=>.inl h) (fun _ _ h=>h)) (h4.wdG HT.out.1 H4.out.2.2.2.2 F).2
     have hB7:=(F.block w.heap.size lw4 (fun e=>hgB e.symm)).trans H4.out.2.1
     have FR7:=H4.out.2.2.1.trans (F.mono (T:=Wr y (.slice (some ⟨g,0,none⟩) K.threads.length c) vp vl) (fun q _ e=>.inr (.inl (by rw [e];rfl))))
     clear S F HF KS hHeldx
     generalize (((((((w4.setCell ⟨g,t*20+5,none⟩ (.int .i64 m.dst)).setCell ⟨g,t*20+5+1,none⟩ (.slice a3 m.words.length c3)).setCell ⟨g,t*20+5+2,none⟩ (.int .i64 m.item)).setCell ⟨g,t*20+5+3,none⟩ (.int .i64 m.rt)).setCell ⟨g,t*20+5+4,none⟩ (.int .i64 m.frm)).setCell ⟨g,t*20+5+5,none⟩ (.int .i64 m.win)).setCell ⟨g,t*20+5+6,none⟩ (.int .i64 m.wait))=WW at *
     exact ⟨⟨h5.drew,FR7.drew,fun _ e=>.inl e,OS.out⟩,hB7⟩
   case rest=>
   have H5:=hcut
   clear hcut
   rename World=>w5
   have y0:w5.cell? ⟨w.heap.size,0,none⟩=some (.int .i64 m.dst):=(cell_of_row w5 _ 0 _ _ _ H5.out.2).trans rfl
   have y6:w5.cell? ⟨w.heap.size,6,none⟩=some (.int .i64 m.wait):=(cell_of_row w5 _ 6 _ _ _ H5.out.2).trans rfl
   have l5:w.heap.size < w5.heap.size:=(Array.getElem?_eq_some_iff.1 H5.out.2).1
   have hu1:(K.asks t m).threads[t]? = some { u with dst:=m.dst,mw:=m.words,item:=m.item,rt:=m.rt,frm:=m.frm,win:=m.win,wait:=m.wait }:=get_modify _ HT.out.1
   have kl:(K.asks t m).threads.length=k:=by simp [RM.asks,RM.upd,HK.out]
   have HA:=hid (And.intro hu1 (And.intro kl (HH.out.2.1.asks t m hw4 HW.out.2.1)))
   obtain ⟨sl1,hsl1⟩:∃ sl1,sl.set t (⟨a3,m.words.length,c3⟩,su.2)=sl1:=⟨_,rfl⟩
   rw [hsl1] at H5
   have hs1:Hid (sl1[t]? = some (⟨a3,m.words.length,c3⟩,su.2)):=by unfold Hid;rw [<- hsl1,List.getElem?_set_self (List.getElem?_eq_some_iff.1 H4.out.2.2.2.2).1]
   clear hu1 kl H4 H3 lw4 lg4 hgB c0 fg OS h4y g5 g6 g7 g8 g9 g10 g11 z04 z14 z24 z34 z44 z54 z64 hsl1
   by_cases q:m.dst < 0
   ·have d:decide (m.dst < 0)=true:=by simpa using q
    have E:=hid (show K.ipc m=(0,(K.asks t m).recv 7 t true) by
     unfold RM.ipc
     rw [if_neg (by rw [HT.out.2.2];omega),if_neg (by rw [HW.out.2.2];simp),if_pos q,HT.out.2.2,Int.toNat_natCast])
    clear q
    go_wp2_with fail
    refine (rmRecv_any 7 y (K.asks t m) _ vp vl sl1 t _ true w5 H5.out.1.at_ HA.out.2.2 HA.out.1 (by have:=sending_le (K.asks t m).threads;rw [HA.out.2.1] at this;show _+(if u.st=2 then 0 else 1)<=7;rw [if_neg (by rw [HT.out.2.1];omega)];omega) (by have:=HH.out.2.2.2.2.2.2;unfold Room at *;exact ⟨by show _<=K.first;omega,this.2.1,this.2.2.1,by show K.last<=_;omega⟩)).mono ?_
    rintro e w6 ⟨rfl,vl6,sl6,O6⟩
    have H6:=hid (H5.out.1.trans O6)
    clear O6
    go_wp2
    go_ret
    exact ⟨by rw [E.out];rfl,vl6,sl6,by rw [E.out];exact H6.out⟩
   ·have d:decide (m.dst < 0)=false:=by simpa using q
    have c0:w5.cell? ⟨y,0,none⟩=some (.slice (some ⟨g,0,none⟩) k c):=by rw [<- HK.out];exact (H5.out.1.at_.cell 0).trans rfl
    have g0:w5.cell? ⟨g,t*20,none⟩=some (.int .i64 u.sp):=H5.out.1.at_.trange (i:=t) HA.out.1 hs1.out 0 _ rfl
    have ly5:y < w5.heap.size:=H5.out.1.at_.ly
    have lg5:g < w5.heap.size:=H5.out.1.at_.th.lt rfl
    have E0:=hid (show K.ipc m=match findQ K.passes u.sp m.dst with
      | none=>(0,(K.asks t m).over t 4)
      | some p=>if bits .and .i64 p.2.2.2 1=0\/p.2.2.1=t then (0,(K.asks t m).over t 4) else (0,((K.asks t m).lendsTo t (bits .and .i64 p.2.2.2 2 != 0)).sends t p.2.2.1.toNat m) by
     unfold RM.ipc
     rw [if_neg (by rw [HT.out.2.2];omega),if_neg (by rw [HW.out.2.2];simp),if_neg q,HT.out.2.2,Int.toNat_natCast,HT.out.1])
    clear q
    go_wp2_with fail
    go_cut [8] (fun v wc=>∃ r:Int,v=.int .i64 r/\Hid (IxOf K.passes u.sp m.dst r/\wc=w5.drew))
    case first=>
     go_region_with (go_at_call 100;refine (rmPass_any y (K.asks t m) _ vp vl sl1 u.sp m.dst _ H5.out.1.at_.drew HH.out.2.2.2.2.2.1).mono ?_;rintro e w6 ⟨r,rfl,hix,rfl⟩)
     all_goals
      go_wp2
      go_meet
      case rel=>exact ⟨r,rfl,hix,rfl⟩
    case rest=>
    obtain ⟨r,rfl,HC⟩:=hcut
    have ew:=HC.out.2
    have HC5:Hid (Out y (K.asks t m) (.slice (some ⟨g,0,none⟩) K.threads.length c) vp vl sl w wc vl sl1/\wc.heap[w.heap.size]? = some (.cells #[.int .i64 m.dst,.slice a3 m.words.length c3,.int .i64 m.item,.int .i64 m.rt,.int .i64 m.frm,.int .i64 m.win,.int .i64 m.wait] 43 (0,0))):=by rw [ew];exact ⟨⟨H5.out.1.at_.drew,H5.out.1.fr.drew,H5.out.1.ov,H5.out.1.os⟩,H5.out.2⟩
    clear ew c0 g0 ly5 lg5 y0 y6 l5 H5
    rename World=>wk
    have c0:wk.cell? ⟨y,0,none⟩=some (.slice (some ⟨g,0,none⟩) k c):=by rw [<- HK.out];exact (HC5.out.1.at_.cell 0).trans rfl
    have y6:wk.cell? ⟨w.heap.size,6,none⟩=some (.int .i64 m.wait):=(cell_of_row wk _ 6 _ _ _ HC5.out.2).trans rfl
    have lyk:y < wk.heap.size:=HC5.out.1.at_.ly
    have lgk:g < wk.heap.size:=HC5.out.1.at_.th.lt rfl
    obtain ⟨ap,cp,ev⟩:=HC5.out.1.at_.pa.slice
    rw [List.length_map] at ev
    obtain ⟨mp,hmp⟩:∃ mp,(K.asks t m).passes.length=mp:=⟨_,rfl⟩
    have c2:wk.cell? ⟨y,2,none⟩=some (.slice ap mp cp):=by rw [(HC5.out.1.at_.cell 2).trans (show _=some vp from rfl),ev,hmp]
    have HMP:=hid (And.intro ev hmp)
    clear ev hmp
    rcases find_of_ix HH.out.2.2.2.1 HC.out.1 with ⟨rfl,ef⟩ | ⟨i,p,rfl,hpi,ef,e1,e2⟩
    ·have E:=hid (show K.ipc m=(0,(K.asks t m).over t 4) by rw [E0.out,ef])
     clear ef
     go_wp2_with fail
     refine (rmOver_any y (K.asks t m) _ vp vl sl1 t _ 4 wk HC5.out.1.at_ (by rw [HA.out.2.1];exact tk) (by rw [HA.out.2.1];exact hb) hs1.out).mono ?_
     rintro e w7 ⟨rfl,h7,F7⟩
     have H7:=hid (HC5.out.1.trans (⟨h7,F7.mono (fun q _ e=>.inr (.inl e)),fun _ e=>.inl e,fun q hq=>wdOwn_set hs1.out (fun q hq=>by simp [inBlock,Sv.nil] at hq) hq⟩:Out y ((K.asks t m).over t 4) (.slice (some ⟨g,0,none⟩) K.threads.length c) vp vl sl1 wk w7 vl _))
     clear h7 F7
     go_wp2
     go_ret
     exact ⟨by rw [E.out];rfl,vl,_,by rw [E.out];exact H7.out⟩
    ·have okp:=HH.out.2.2.2.2.1 i p hpi
     have him:i < mp:=by rw [<- HMP.out.2];exact (List.getElem?_eq_some_iff.1 hpi).1
     have him':(i:Int) < (mp:Int):=by omega
     obtain ⟨gp,ea,hx⟩:=(show Sl wk 55 4 (.slice ap mp cp) ((K.asks t m).passes.map qRow) from by have:=HC5.out.1.at_.pa;rw [HMP.out.1,HMP.out.2] at this;exact this).is_some (by omega)
     clear hx
     subst ea
     have SL:Hid (Sl wk 55 4 (.slice (some ⟨gp,0,none⟩) mp cp) (K.passes.map qRow)):=by have:=HC5.out.1.at_.pa;rw [HMP.out.1,HMP.out.2] at this;exact this
     have R1:=SL.out.row (i:=i) (r:=qRow p) (by rw [List.getElem?_map,hpi];rfl)
     have l2:wk.cell? ⟨gp,i*4+2,none⟩=some (.int .i64 p.2.2.1):=R1 2 _ rfl
     have l3:wk.cell? ⟨gp,i*4+3,none⟩=some (.int .i64 p.2.2.2):=R1 3 _ rfl
     have lgp:gp < wk.heap.size:=SL.out.lt rfl
     obtain ⟨r0,hr0⟩:=Int.eq_ofNat_of_zero_le okp.2.2.2.2.1
     have r0k:r0 < k:=by have:=okp.2.2.2.2.2.1;have:=HK.out;omega
     have r0k':(r0:Int) < (k:Int):=by omega
     rw [hr0] at l2
     have E1:K.ipc m=if bits .and .i64 p.2.2.2 1=0\/(r0:Int)=t then (0,(K.asks t m).over t 4) else (0,((K.asks t m).lendsTo t (bits .and .i64 p.2.2.2 2 != 0)).sends t r0 m):=by rw [E0.out,ef];simp only [hr0,Int.toNat_natCast]
     clear R1 okp ef e1 e2 hpi hr0 HC E0
     by_cases q1:bits .and .i64 p.2.2.2 1=0
     ·have d1:(bits .and .i64 p.2.2.2 1 == 0)=true:=by simp [q1]
      have E:=hid (show K.ipc m=(0,(K.asks t m).over t 4) by rw [E1,if_pos (.inl q1)])
      clear q1 E1
      go_wp2_with fail
      refine (rmOver_any y (K.asks t m) _ vp vl sl1 t _ 4 wk HC5.out.1.at_ (by rw [HA.out.2.1];exact tk) (by rw [HA.out.2.1];exact hb) hs1.out).mono ?_
      rintro e w7 ⟨rfl,h7,F7⟩
      have H7:=hid (HC5.out.1.trans (⟨h7,F7.mono (fun q _ e=>.inr (.inl e)),fun _ e=>.inl e,fun q hq=>wdOwn_set hs1.out (fun q hq=>by simp [inBlock,Sv.nil] at hq) hq⟩:Out y ((K.asks t m).over t 4) (.slice (some ⟨g,0,none⟩) K.threads.length c) vp vl sl1 wk w7 vl _))
      clear h7 F7
      go_wp2
      go_ret
      exact ⟨by rw [E.out];rfl,vl,_,by rw [E.out];exact H7.out⟩
     ·have d1:(bits .and .i64 p.2.2.2 1 == 0)=false:=by simp [q1]
      by_cases q2:(r0:Int)=t
      ·have d2:((r0:Int) == (t:Int))=true:=by simp [q2]
       have E:=hid (show K.ipc m=(0,(K.asks t m).over t 4) by rw [E1,if_pos (.inr q2)])
       clear q1 q2 E1
       go_wp2_with fail
       refine (rmOver_any y (K.asks t m) _ vp vl sl1 t _ 4 wk HC5.out.1.at_ (by rw [HA.out.2.1];exact tk) (by rw [HA.out.2.1];exact hb) hs1.out).mono ?_
       rintro e w7 ⟨rfl,h7,F7⟩
       have H7:=hid (HC5.out.1.trans (⟨h7,F7.mono (fun q _ e=>.inr (.inl e)),fun _ e=>.inl e,fun q hq=>wdOwn_set hs1.out (fun q hq=>by simp [inBlock,Sv.nil] at hq) hq⟩:Out y ((K.asks t m).over t 4) (.slice (some ⟨g,0,none⟩) K.threads.length c) vp vl sl1 wk w7 vl _))
       clear h7 F7
       go_wp2
       go_ret
       exact ⟨by rw [E.out];rfl,vl,_,by rw [E.out];exact H7.out⟩
      ·have d2:((r0:Int) == (t:Int))=false:=by simp [q2]
       have hrt:r0≠t:=fun e=>q2 (by rw [e])
       have E:=hid (show K.ipc m=(0,((K.asks t m).lendsTo t (bits .and .i64 p.2.2.2 2 != 0)).sends t r0 m) by rw [E1,if_neg (by intro h;exact h.elim q1 q2)])
       generalize hlb:(bits .and .i64 p.2.2.2 2 != 0)=lb at *
       have g12:wk.cell? ⟨g,t*20+12,none⟩=some (.bool u.lends):=HC5.out.1.at_.trange (i:=t) HA.out.1 hs1.out 12 _ rfl
       have f12:wk.frozen? ⟨g,t*20+12,none⟩=false:=HC5.out.1.at_.th.fro _
       have h12:=HC5.out.1.at_.setTh (t:=t) (j:=12) (fun u=>{ u with lends:=lb }) (.bool lb) HA.out.1 hs1.out (by omega) rfl rfl rfl
       have F12:Fr (fun q=>q=g) wk (wk.setCell ⟨g,t*20+12,none⟩ (.bool lb)):=(Fr.refl (fun q=>q=g) wk).setCell (p:=⟨g,t*20+12,none⟩) (fun _=>rfl) _
       have hgpg:gp≠g:=fun e=>(HC5.out.1.at_.n4 g rfl).1 (by rw [HMP.out.1,HMP.out.2,e];rfl)
       have hgB:w.heap.size≠g:=by omega
       have b12:=(F12.block w.heap.size ((Array.getElem?_eq_some_iff.1 HC5.out.2).1) hgB).trans HC5.out.2
       have k0:=(World.cell?_of_block (a:=⟨y,0,none⟩) (F12.block y lyk (fun e=>hgy e.symm))).trans c0
       have k2:=(World.cell?_of_block (a:=⟨y,2,none⟩) (F12.block y lyk (fun e=>hgy e.symm))).trans c2
       have k3:=(World.cell?_of_block (a:=⟨gp,i*4+3,none⟩) (F12.block gp lgp hgpg)).trans l3
       have k4:=(World.cell?_of_block (a:=⟨gp,i*4+2,none⟩) (F12.block gp lgp hgpg)).trans l2
       have O12:Out y ((K.asks t m).lendsTo t lb) (.slice (some ⟨g,0,none⟩) K.threads.length c) vp vl sl w (wk.setCell ⟨g,t*20+12,none⟩ (.bool lb)).drew vl sl1:=HC5.out.1.trans (⟨h12.drew,(F12.mono (fun q _ e=>.inr (.inl (by rw [e];rfl)))).drew,fun _ e=>.inl e,fun _ e=>.inl e⟩)
       have H12:=hid (And.intro O12 (And.intro b12 (And.intro k0 (And.intro k2 (And.intro k3 k4)))))
       clear h12 F12 b12 O12 k0 k2 k3 k4 q1 q2 E1
       go_wp2_with fail
       go_cut [] (fun we=>Hid (we=(wk.setCell ⟨g,t*20+12,none⟩ (.bool lb)).drew))
       case first=>
        refine wp_region_held_drew (S:=(fun w'=>w'.cell? ⟨y,0,none⟩=some (.slice (some ⟨g,0,none⟩) k c)/\w'.cell? ⟨y,2,none⟩=some (.slice (some ⟨gp,0,none⟩) mp cp)/\w'.cell? ⟨gp,i*4+3,none⟩=some (.int .i64 p.2.2.2))) (by kernel_rfl) ?_ (fun hHeld=>?_)
        ·((try dsimp only);(refine ⟨?_,?_,?_⟩ <;> assumption))
        refine wpAnyH_take (i:=0) (v:=?va0) rfl (by kernel_rfl) (by kernel_rfl) (by kernel_rfl) (fun _ _ _ h=>h) (Or.inl ⟨by rfl,?ya0⟩) (by assumption) ?ra0
        case ya0=>(intro wx hSw;(try dsimp only at hSw);go_simp;try with_reducible rfl)
        try simp only [List.getElem_toArray,List.getElem_cons_zero,Act.put,List.setIfInBounds_toArray,List.set_cons_zero,List.set_cons_succ]
        refine wpAnyH_take (i:=1) (v:=?va1) rfl (by kernel_rfl) (by kernel_rfl) (by kernel_rfl) (fun _ _ _ h=>h) (Or.inl ⟨by rfl,?ya1⟩) (by assumption) ?ra1
        case ya1=>(intro wx hSw;(try dsimp only at hSw);go_simp;try with_reducible rfl)
        try simp only [List.getElem_toArray,List.getElem_cons_zero,List.getElem_cons_succ,Act.put,List.setIfInBounds_toArray,List.set_cons_zero,List.set_cons_succ]
        refine wpAnyH_take (i:=2) (v:=?va2) rfl (by kernel_rfl) (by kernel_rfl) (by kernel_rfl) (fun _ _ _ h=>h) (Or.inl ⟨by rfl,?ya2⟩) (by assumption) ?ra2
        case ya2=>(intro wx hSw;(try dsimp only at hSw);go_simp;try with_reducible rfl)
        try simp only [List.getElem_toArray,List.getElem_cons_zero,List.getElem_cons_succ,Act.put,List.setIfInBounds_toArray,List.set_cons_zero,List.set_cons_succ]
        refine wpAnyH_take (i:=3) (v:=?va3) rfl (by kernel_rfl) (by kernel_rfl) (by kernel_rfl) (fun _ _ _ h=>h) (Or.inl ⟨by rfl,?ya3⟩) (by assumption) ?ra3
        case ya3=>(intro wx hSw;(try dsimp only at hSw);go_simp;try with_reducible rfl)
        try simp only [List.getElem_toArray,List.getElem_cons_zero,List.getElem_cons_succ,Act.put,List.setIfInBounds_toArray,List.set_cons_zero,List.set_cons_succ]
        refine wpAnyH_take (i:=4) (v:=?va4) rfl (by kernel_rfl) (by kernel_rfl) (by kernel_rfl) (fun _ _ _ h=>h) (Or.inl ⟨by rfl,?ya4⟩) (by assumption) ?ra4
        case ya4=>(intro wx hSw;(try dsimp only at hSw);go_simp;try with_reducible rfl)
        try simp only [List.getElem_toArray,List.getElem_cons_zero,List.getElem_cons_succ,Act.put,List.setIfInBounds_toArray,List.set_cons_zero,List.set_cons_succ]
        refine wpAnyH_take (i:=5) (v:=?va5) rfl (by kernel_rfl) (by kernel_rfl) (by kernel_rfl) (fun _ _ _ h=>h) (Or.inl ⟨by rfl,?ya5⟩) (by assumption) ?ra5
        case ya5=>(intro wx hSw;(try dsimp only at hSw);go_simp;try with_reducible rfl)
        try simp only [List.getElem_toArray,List.getElem_cons_zero,List.getElem_cons_succ,Act.put,List.setIfInBounds_toArray,List.set_cons_zero,List.set_cons_succ]
        refine wpAnyH_take (i:=6) (v:=?va6) rfl (by kernel_rfl) (by kernel_rfl) (by kernel_rfl) (fun _ _ _ h=>h) (Or.inl ⟨by rfl,?ya6⟩) (by assumption) ?ra6
        case ya6=>(intro wx hSw;(try dsimp only at hSw);go_simp;try with_reducible rfl)
        try simp only [List.getElem_toArray,List.getElem_cons_zero,List.getElem_cons_succ,Act.put,List.setIfInBounds_toArray,List.set_cons_zero,List.set_cons_succ]
        refine wpAnyH_take (i:=7) (v:=?va7) rfl (by kernel_rfl) (by kernel_rfl) (by kernel_rfl) (fun _ _ _ h=>h) (Or.inl ⟨by rfl,?ya7⟩) (by assumption) ?ra7
        case ya7=>(intro wx hSw;(try dsimp only at hSw);go_simp;try with_reducible rfl)
        try simp only [List.getElem_toArray,List.getElem_cons_zero,List.getElem_cons_succ,Act.put,List.setIfInBounds_toArray,List.set_cons_zero,List.set_cons_succ]
        refine wpAnyH_take (i:=8) (v:=?va8) rfl (by kernel_rfl) (by kernel_rfl) (by kernel_rfl) (fun _ _ _ h=>h) (Or.inl ⟨by rfl,?ya8⟩) (by assumption) ?ra8
        case ya8=>(intro wx hSw;(try dsimp only at hSw);go_simp;try with_reducible rfl)
        try simp only [List.getElem_toArray,List.getElem_cons_zero,List.getElem_cons_succ,Act.put,List.setIfInBounds_toArray,List.set_cons_zero,List.set_cons_succ]
        refine wpAnyH_take (i:=9) (v:=?va9) rfl (by kernel_rfl) (by kernel_rfl) (by kernel_rfl) (fun _ _ _ h=>h) (Or.inl ⟨by rfl,?ya9⟩) (by assumption) ?ra9
        case ya9=>(intro wx hSw;(try dsimp only at hSw);go_simp;try with_reducible rfl)
        try simp only [List.getElem_toArray,List.getElem_cons_zero,List.getElem_cons_succ,Act.put,List.setIfInBounds_toArray,List.set_cons_zero,List.set_cons_succ]
        refine wpAnyH_take (i:=10) (v:=?va10) rfl (by kernel_rfl) (by kernel_rfl) (by kernel_rfl) (fun _ _ _ h=>h) (Or.inl ⟨by rfl,?ya10⟩) (by assumption) ?ra10
        case ya10=>(intro wx hSw;(try dsimp only at hSw);go_simp;try with_reducible rfl)
        try simp only [List.getElem_toArray,List.getElem_cons_zero,List.getElem_cons_succ,Act.put,List.setIfInBounds_toArray,List.set_cons_zero,List.set_cons_succ]
        refine wpAnyH_take (i:=11) (v:=?va11) rfl (by kernel_rfl) (by kernel_rfl) (by kernel_rfl) (fun _ _ _ h=>h) (Or.inl ⟨by rfl,?ya11⟩) (by assumption) ?ra11
        case ya11=>(intro wx hSw;(try dsimp only at hSw);go_simp;try with_reducible rfl)
        try simp only [List.getElem_toArray,List.getElem_cons_zero,List.getElem_cons_succ,Act.put,List.setIfInBounds_toArray,List.set_cons_zero,List.set_cons_succ]
        refine wpAnyH_take (i:=12) (v:=?va12) rfl (by kernel_rfl) (by kernel_rfl) (by kernel_rfl) (fun _ _ _ h=>h) (Or.inl ⟨by rfl,?ya12⟩) (by assumption) ?ra12
        case ya12=>(intro wx hSw;(try dsimp only at hSw);go_simp;try with_reducible rfl)
        try simp only [List.getElem_toArray,List.getElem_cons_zero,List.getElem_cons_succ,Act.put,List.setIfInBounds_toArray,List.set_cons_zero,List.set_cons_succ]
        refine wpAnyH_take (i:=13) (v:=?va13) rfl (by kernel_rfl) (by kernel_rfl) (by kernel_rfl) (fun _ _ _ h=>h) (Or.inl ⟨by rfl,?ya13⟩) (by assumption) ?ra13
        case ya13=>(intro wx hSw;(try dsimp only at hSw);go_simp;try with_reducible rfl)
        try simp only [List.getElem_toArray,List.getElem_cons_zero,List.getElem_cons_succ,Act.put,List.setIfInBounds_toArray,List.set_cons_zero,List.set_cons_succ]
        refine wpAnyH_take (i:=14) (v:=?va14) rfl (by kernel_rfl) (by kernel_rfl) (by kernel_rfl) (fun _ _ _ h=>h) (Or.inl ⟨by rfl,?ya14⟩) (by assumption) ?ra14
        case ya14=>(intro wx hSw;(try dsimp only at hSw);go_simp;try with_reducible rfl)
        try simp only [List.getElem_toArray,List.getElem_cons_zero,List.getElem_cons_succ,Act.put,List.setIfInBounds_toArray,List.set_cons_zero,List.set_cons_succ]
        refine wpAnyH_take (i:=15) (v:=?va15) rfl (by kernel_rfl) (by kernel_rfl) (by kernel_rfl) (fun _ _ _ h=>h) (Or.inl ⟨by rfl,?ya15⟩) (by assumption) ?ra15
        case ya15=>(intro wx hSw;(try dsimp only at hSw);go_simp;try with_reducible rfl)
        try simp only [List.getElem_toArray,List.getElem_cons_zero,List.getElem_cons_succ,Act.put,List.setIfInBounds_toArray,List.set_cons_zero,List.set_cons_succ]
        refine wpAnyH_take (i:=16) (v:=?va16) rfl (by kernel_rfl) (by kernel_rfl) (by kernel_rfl) (fun _ _ _ h=>h) (Or.inl ⟨by rfl,?ya16⟩) (by assumption) ?ra16
        case ya16=>(intro wx hSw;(try dsimp only at hSw);go_simp;try with_reducible rfl)
        try simp only [List.getElem_toArray,List.getElem_cons_zero,List.getElem_cons_succ,Act.put,List.setIfInBounds_toArray,List.set_cons_zero,List.set_cons_succ]
        refine wpAnyH_ready (rs:=[17]) (by kernel_rfl) (by simp) (AllReadyH.cons rfl (fun K hK=>?_) AllReadyH.nil)
        go_simp
        refine hK.out _ _ ?_ (fun hHeldx=>?_)
        ·((try dsimp only);exact ⟨H12.out.2.2.1,H12.out.2.2.2.1,H12.out.2.2.2.2.1⟩)
        clear hK K hHeld
        try simp only [List.getElem_toArray,List.getElem_cons_zero,List.getElem_cons_succ,Act.put,List.setIfInBounds_toArray,List.set_cons_zero,List.set_cons_succ]
        refine wpAnyH_done (by kernel_rfl) ?_ _
        go_wp2
        go_meet
        case rel=>first | exact hid rfl | (unfold Hid;rw [hlb])
       case rest=>
       have ew:=hcut.out
       rename World=>we
       have HE:Hid (Out y ((K.asks t m).lendsTo t lb) (.slice (some ⟨g,0,none⟩) K.threads.length c) vp vl sl w we vl sl1/\we.heap[w.heap.size]? = some (.cells #[.int .i64 m.dst,.slice a3 m.words.length c3,.int .i64 m.item,.int .i64 m.rt,.int .i64 m.frm,.int .i64 m.win,.int .i64 m.wait] 43 (0,0))/\we.cell? ⟨y,0,none⟩=some (.slice (some ⟨g,0,none⟩) k c)/\we.cell? ⟨y,2,none⟩=some (.slice (some ⟨gp,0,none⟩) mp cp)/\we.cell? ⟨gp,i*4+2,none⟩=some (.int .i64 r0)):=by rw [ew];exact ⟨H12.out.1,H12.out.2.1,H12.out.2.2.1,H12.out.2.2.2.1,H12.out.2.2.2.2.2⟩
       clear ew c0 c2 l2 l3 g12 f12 lgk lyk lgp H12 HC5 hgpg hgB hlb
       have c0:=HE.out.2.2.1
       have c2:=HE.out.2.2.2.1
       have l2:=HE.out.2.2.2.2
       have lye:y < we.heap.size:=HE.out.1.at_.ly
       have lge:g < we.heap.size:=HE.out.1.at_.th.lt rfl
       have kl2:((K.asks t m).lendsTo t lb).threads.length=k:=by rw [<- HA.out.2.1];simp [RM.lendsTo,RM.upd]
       have hu2:((K.asks t m).lendsTo t lb).threads[t]? = some { u with dst:=m.dst,mw:=m.words,item:=m.item,rt:=m.rt,frm:=m.frm,win:=m.win,wait:=m.wait,lends:=lb }:=get_modify _ HA.out.1
       obtain ⟨x,hx⟩:∃ x,((K.asks t m).lendsTo t lb).threads[r0]? = some x:=⟨_,List.getElem?_eq_getElem (by rw [kl2];exact r0k)⟩
       obtain ⟨sx,hsx⟩:=HE.out.1.at_.sl_get hx
       have R2:Hid (we.rangeAt g (r0*20) [.int .i64 x.sp,.int .i64 x.row,.int .i64 x.st,.int .i64 x.ord,.int .i64 x.left,.int .i64 x.dst,.slice sx.1.a sx.1.n sx.1.c,.int .i64 x.item,.int .i64 x.rt,.int .i64 x.frm,.int .i64 x.win,.int .i64 x.wait,.bool x.lends,.int .i64 x.other,.int .i64 x.turn,.int .i64 x.time,.int .i64 x.code,.int .i64 x.who,.slice sx.2.a sx.2.n sx.2.c,.int .i64 x.got]):=HE.out.1.at_.trange hx hsx
       have y6:(we.alloc (.cells #[.int .i64 x.sp,.int .i64 x.row,.int .i64 x.st,.int .i64 x.ord,.int .i64 x.left,.int .i64 x.dst,.slice sx.1.a sx.1.n sx.1.c,.int .i64 x.item,.int .i64 x.rt,.int .i64 x.frm,.int .i64 x.win,.int .i64 x.wait,.bool x.lends,.int .i64 x.other,.int .i64 x.turn,.int .i64 x.time,.int .i64 x.code,.int .i64 x.who,.slice sx.2.a sx.2.n sx.2.c,.int .i64 x.got] 190)).cell? ⟨w.heap.size,6,none⟩=some (.int .i64 m.wait):=(cell_of_row _ _ 6 _ _ _ ((Below.heap_alloc we _ _ ((Array.getElem?_eq_some_iff.1 HE.out.2.1).1)).trans HE.out.2.1)).trans rfl
       have BE:Hid (Below we.heap.size we (we.alloc (.cells #[.int .i64 x.sp,.int .i64 x.row,.int .i64 x.st,.int .i64 x.ord,.int .i64 x.left,.int .i64 x.dst,.slice sx.1.a sx.1.n sx.1.c,.int .i64 x.item,.int .i64 x.rt,.int .i64 x.frm,.int .i64 x.win,.int .i64 x.wait,.bool x.lends,.int .i64 x.other,.int .i64 x.turn,.int .i64 x.time,.int .i64 x.code,.int .i64 x.who,.slice sx.2.a sx.2.n sx.2.c,.int .i64 x.got] 190))):=(Below.refl _ we).alloc (Nat.le_refl _) _
       have ES:((K.asks t m).lendsTo t lb).sends t r0 m=if x.st=3/\(x.frm=-1\/x.frm=t) then ((((K.asks t m).lendsTo t lb).deliver t r0).toFirst r0).goes 7 t true else if m.wait=0 then ((K.asks t m).lendsTo t lb).over t 5 else ((K.asks t m).lendsTo t lb).waits t 2 r0:=by unfold RM.sends;rw [hx]
       have lwe:w.heap.size < we.heap.size:=(Array.getElem?_eq_some_iff.1 HE.out.2.1).1
       have HF2:=HA.out.2.2.lendsTo t lb
       have HX2:=hid (And.intro hx (And.intro kl2 (And.intro hu2 (And.intro HF2 ES))))
       clear hx kl2 hu2 HF2 ES hsx
       generalize hK2:((K.asks t m).lendsTo t lb)=K2 at *
       have OE:Hid (Out y K2 (.slice (some ⟨g,0,none⟩) K.threads.length c) vp vl sl w (we.alloc (.cells #[.int .i64 x.sp,.int .i64 x.row,.int .i64 x.st,.int .i64 x.ord,.int .i64 x.left,.int .i64 x.dst,.slice sx.1.a sx.1.n sx.1.c,.int .i64 x.item,.int .i64 x.rt,.int .i64 x.frm,.int .i64 x.win,.int .i64 x.wait,.bool x.lends,.int .i64 x.other,.int .i64 x.turn,.int .i64 x.time,.int .i64 x.code,.int .i64 x.who,.slice sx.2.a sx.2.n sx.2.c,.int .i64 x.got] 190)) vl sl1):=HE.out.1.trans (Out.plain (HE.out.1.at_.below BE.out) (Fr.of_below BE.out _))
       have RM2:Hid (Room 9 K2):=by rw [<- hK2];exact HH.out.2.2.2.2.2.2
       clear hK2
       by_cases q3:x.st=3
       ·have d3:(x.st == 3)=true:=by simp [q3]
        by_cases q4:x.frm=-1
        ·have d4:(x.frm == -1)=true:=by simp [q4]
         have EE:=hid (show K2.sends t r0 m=((K2.deliver t r0).toFirst r0).goes 7 t true by rw [HX2.out.2.2.2.2,if_pos ⟨q3,.inl q4⟩])
         clear q3 q4
         go_wp2_with (first | (with_reducible (show wpList _ _ _ (⟨_,.load 190 _,_,_,_,none⟩ :: _) _ _);go_must (refine wpList_load_mid rfl 190 _ rfl g (r0*20) rfl _ _ R2.out Tryz.underlying190 rfl (by kernel_rfl) ?_)) | (with_reducible (show wpList _ _ _ (⟨_,.store 190 _ _,_,_,_,none⟩ :: _) _ _);go_must (refine wpList_store_new rfl 190 _ _ rfl we _ #[.int .i64 x.sp,.int .i64 x.row,.int .i64 x.st,.int .i64 x.ord,.int .i64 x.left,.int .i64 x.dst,.slice sx.1.a sx.1.n sx.1.c,.int .i64 x.item,.int .i64 x.rt,.int .i64 x.frm,.int .i64 x.win,.int .i64 x.wait,.bool x.lends,.int .i64 x.other,.int .i64 x.turn,.int .i64 x.time,.int .i64 x.code,.int .i64 x.who,.slice sx.2.a sx.2.n sx.2.c,.int .i64 x.got] 190 rfl rfl (by kernel_rfl) rfl ?_ ?_);(simp [Value.oneCell'])))
         obtain ⟨rk,hkin⟩:=HX2.out.2.2.2.1.kin
         refine (rmDeliver_any y K2 _ vp vl sl1 t r0 _ x _ rk OE.out.at_ (by rw [HX2.out.2.1];exact hb) (by have:=HX2.out.2.2.2.1.len;omega) HX2.out.2.2.2.1.ap hkin HX2.out.2.2.1 HX2.out.1 (HX2.out.2.2.2.1.th r0 x HX2.out.1).s0 hw4).mono ?_
         rintro e w7 ⟨rfl,vl7,sl7,O7⟩
         have H7:=hid (OE.out.trans O7)
         have dt:=deliver_threads HX2.out.2.2.1 HX2.out.1
         have dl:(K2.deliver t r0).threads.length=k:=by rw [dt];simp [HX2.out.2.1]
         have d3:((K2.deliver t r0).toFirst r0).threads[t]? = K2.threads[t]?:=by
          show ((K2.deliver t r0).threads.modify r0 _)[t]? = _
          rw [modify_other _ (fun e=>hrt e.symm),dt,modify_other _ (fun e=>hrt e.symm)]
         have HD:=hid (And.intro dl (d3.trans HX2.out.2.2.1))
         have HLN:Hid (((K2.deliver t r0).toFirst r0).threads.length=k):=by unfold Hid;rw [<- dl];simp [RM.toFirst,RM.upd]
         clear O7 dt dl d3 hkin rk
         go_wp2_with fail
         refine (rmToFirst_any y (K2.deliver t r0) _ vp vl7 sl7 r0 w7 H7.out.at_ (by rw [HD.out.1];exact r0k) (by rw [HD.out.1];exact hb) (by have:=RM2.out;have d:=deliver_nums (K:=K2) t r0;unfold Room at this;rw [d.1];omega) (by have:=RM2.out;have d:=deliver_nums (K:=K2) t r0;unfold Room at this;rw [d.1];omega)).mono ?_
         rintro e w8 ⟨rfl,h8,F8⟩
         have H8:=hid (H7.out.trans (Out.plain h8 F8))
         clear h8 F8
         go_wp2_with fail
         refine (rmGoes_any 7 (rmRecv_any 7) y ((K2.deliver t r0).toFirst r0) _ vp vl7 sl7 t _ true w8 H8.out.at_ ((HX2.out.2.2.2.1.deliver t r0).toFirst r0) HD.out.2 (by have:=sending_le ((K2.deliver t r0).toFirst r0).threads;rw [HLN.out] at this;split <;> omega) (by have:=RM2.out;have d:=deliver_nums (K:=K2) t r0;have e1:((K2.deliver t r0).toFirst r0).first=(K2.deliver t r0).first-1:=rfl;have e2:((K2.deliver t r0).toFirst r0).last=(K2.deliver t r0).last:=rfl;unfold Room at *;rw [e1,e2,d.1,d.2.1];omega)).mono ?_
         rintro e w9 ⟨rfl,vl9,sl9,O9⟩
         have H9:=hid (H8.out.trans O9)
         clear O9
         go_wp2
         go_ret
         exact ⟨by rw [E.out];rfl,vl9,sl9,by rw [E.out];show Out y (K2.sends t r0 m) _ vp vl sl w _ vl9 sl9;rw [EE.out];exact H9.out⟩
        ·have d4:(x.frm == -1)=false:=by simp [q4]
         by_cases q5:x.frm=t
         ·have d5:(x.frm == (t:Int))=true:=by simp [q5]
          have EE:=hid (show K2.sends t r0 m=((K2.deliver t r0).toFirst r0).goes 7 t true by rw [HX2.out.2.2.2.2,if_pos ⟨q3,.inr q5⟩])
          clear q3 q4 q5
          go_wp2_with (first | (with_reducible (show wpList _ _ _ (⟨_,.load 190 _,_,_,_,none⟩ :: _) _ _);go_must (refine wpList_load_mid rfl 190 _ rfl g (r0*20) rfl _ _ R2.out Tryz.underlying190 rfl (by kernel_rfl) ?_)) | (with_reducible (show wpList _ _ _ (⟨_,.store 190 _ _,_,_,_,none⟩ :: _) _ _);go_must (refine wpList_store_new rfl 190 _ _ rfl we _ #[.int .i64 x.sp,.int .i64 x.row,.int .i64 x.st,.int .i64 x.ord,.int .i64 x.left,.int .i64 x.dst,.slice sx.1.a sx.1.n sx.1.c,.int .i64 x.item,.int .i64 x.rt,.int .i64 x.frm,.int .i64 x.win,.int .i64 x.wait,.bool x.lends,.int .i64 x.other,.int .i64 x.turn,.int .i64 x.time,.int .i64 x.code,.int .i64 x.who,.slice sx.2.a sx.2.n sx.2.c,.int .i64 x.got] 190 rfl rfl (by kernel_rfl) rfl ?_ ?_);(simp [Value.oneCell'])))
          obtain ⟨rk,hkin⟩:=HX2.out.2.2.2.1.kin
          refine (rmDeliver_any y K2 _ vp vl sl1 t r0 _ x _ rk OE.out.at_ (by rw [HX2.out.2.1];exact hb) (by have:=HX2.out.2.2.2.1.len;omega) HX2.out.2.2.2.1.ap hkin HX2.out.2.2.1 HX2.out.1 (HX2.out.2.2.2.1.th r0 x HX2.out.1).s0 hw4).mono ?_
          rintro e w7 ⟨rfl,vl7,sl7,O7⟩
          have H7:=hid (OE.out.trans O7)
          have dt:=deliver_threads HX2.out.2.2.1 HX2.out.1
          have dl:(K2.deliver t r0).threads.length=k:=by rw [dt];simp [HX2.out.2.1]
          have d3:((K2.deliver t r0).toFirst r0).threads[t]? = K2.threads[t]?:=by
           show ((K2.deliver t r0).threads.modify r0 _)[t]? = _
           rw [modify_other _ (fun e=>hrt e.symm),dt,modify_other _ (fun e=>hrt e.symm)]
          have HD:=hid (And.intro dl (d3.trans HX2.out.2.2.1))
          have HLN:Hid (((K2.deliver t r0).toFirst r0).threads.length=k):=by unfold Hid;rw [<- dl];simp [RM.toFirst,RM.upd]
          clear O7 dt dl d3 hkin rk
          go_wp2_with fail
          refine (rmToFirst_any y (K2.deliver t r0) _ vp vl7 sl7 r0 w7 H7.out.at_ (by rw [HD.out.1];exact r0k) (by rw [HD.out.1];exact hb) (by have:=RM2.out;have d:=deliver_nums (K:=K2) t r0;unfold Room at this;rw [d.1];omega) (by have:=RM2.out;have d:=deliver_nums (K:=K2) t r0;unfold Room at this;rw [d.1];omega)).mono ?_
          rintro e w8 ⟨rfl,h8,F8⟩
          have H8:=hid (H7.out.trans (Out.plain h8 F8))
          clear h8 F8
          go_wp2_with fail
          refine (rmGoes_any 7 (rmRecv_any 7) y ((K2.deliver t r0).toFirst r0) _ vp vl7 sl7 t _ true w8 H8.out.at_ ((HX2.out.2.2.2.1.deliver t r0).toFirst r0) HD.out.2 (by have:=sending_le ((K2.deliver t r0).toFirst r0).threads;rw [HLN.out] at this;split <;> omega) (by have:=RM2.out;have d:=deliver_nums (K:=K2) t r0;have e1:((K2.deliver t r0).toFirst r0).first=(K2.deliver t r0).first-1:=rfl;have e2:((K2.deliver t r0).toFirst r0).last=(K2.deliver t r0).last:=rfl;unfold Room at *;rw [e1,e2,d.1,d.2.1];omega)).mono ?_
          rintro e w9 ⟨rfl,vl9,sl9,O9⟩
          have H9:=hid (H8.out.trans O9)
          clear O9
          go_wp2
          go_ret
          exact ⟨by rw [E.out];rfl,vl9,sl9,by rw [E.out];show Out y (K2.sends t r0 m) _ vp vl sl w _ vl9 sl9;rw [EE.out];exact H9.out⟩
         ·have d5:(x.frm == (t:Int))=false:=by simp [q5]
          have EE:=hid (show K2.sends t r0 m=if m.wait=0 then K2.over t 5 else K2.waits t 2 r0 by rw [HX2.out.2.2.2.2,if_neg (by intro h;exact h.2.elim q4 q5)])
          clear q3 q4 q5
          by_cases qw:m.wait=0
          ·have dw:(m.wait == 0)=true:=by simp [qw]
           have EW:=hid (show K2.sends t r0 m=K2.over t 5 by rw [EE.out,if_pos qw])
           clear qw
           go_wp2_with (first | (with_reducible (show wpList _ _ _ (⟨_,.load 190 _,_,_,_,none⟩ :: _) _ _);go_must (refine wpList_load_mid rfl 190 _ rfl g (r0*20) rfl _ _ R2.out Tryz.underlying190 rfl (by kernel_rfl) ?_)) | (with_reducible (show wpList _ _ _ (⟨_,.store 190 _ _,_,_,_,none⟩ :: _) _ _);go_must (refine wpList_store_new rfl 190 _ _ rfl we _ #[.int .i64 x.sp,.int .i64 x.row,.int .i64 x.st,.int .i64 x.ord,.int .i64 x.left,.int .i64 x.dst,.slice sx.1.a sx.1.n sx.1.c,.int .i64 x.item,.int .i64 x.rt,.int .i64 x.frm,.int .i64 x.win,.int .i64 x.wait,.bool x.lends,.int .i64 x.other,.int .i64 x.turn,.int .i64 x.time,.int .i64 x.code,.int .i64 x.who,.slice sx.2.a sx.2.n sx.2.c,.int .i64 x.got] 190 rfl rfl (by kernel_rfl) rfl ?_ ?_);(simp [Value.oneCell'])))
           refine (rmOver_any y K2 _ vp vl sl1 t _ 5 _ OE.out.at_ (by rw [HX2.out.2.1];exact tk) (by rw [HX2.out.2.1];exact hb) hs1.out).mono ?_
           rintro e w7 ⟨rfl,h7,F7⟩
           have H7:=hid (OE.out.trans (⟨h7,F7.mono (fun q _ e=>.inr (.inl e)),fun _ e=>.inl e,fun q hq=>wdOwn_set hs1.out (fun q hq=>by simp [inBlock,Sv.nil] at hq) hq⟩:Out y (K2.over t 5) (.slice (some ⟨g,0,none⟩) K.threads.length c) vp vl sl1 _ w7 vl _))
           clear h7 F7
           go_wp2
           go_ret
           exact ⟨by rw [E.out];rfl,vl,_,by rw [E.out];show Out y (K2.sends t r0 m) _ vp vl sl w _ vl _;rw [EW.out];exact H7.out⟩
          ·have dw:(m.wait == 0)=false:=by simp [qw]
           have EW:=hid (show K2.sends t r0 m=K2.waits t 2 r0 by rw [EE.out,if_neg qw])
           clear qw
           go_wp2_with (first | (with_reducible (show wpList _ _ _ (⟨_,.load 190 _,_,_,_,none⟩ :: _) _ _);go_must (refine wpList_load_mid rfl 190 _ rfl g (r0*20) rfl _ _ R2.out Tryz.underlying190 rfl (by kernel_rfl) ?_)) | (with_reducible (show wpList _ _ _ (⟨_,.store 190 _ _,_,_,_,none⟩ :: _) _ _);go_must (refine wpList_store_new rfl 190 _ _ rfl we _ #[.int .i64 x.sp,.int .i64 x.row,.int .i64 x.st,.int .i64 x.ord,.int .i64 x.left,.int .i64 x.dst,.slice sx.1.a sx.1.n sx.1.c,.int .i64 x.item,.int .i64 x.rt,.int .i64 x.frm,.int .i64 x.win,.int .i64 x.wait,.bool x.lends,.int .i64 x.other,.int .i64 x.turn,.int .i64 x.time,.int .i64 x.code,.int .i64 x.who,.slice sx.2.a sx.2.n sx.2.c,.int .i64 x.got] 190 rfl rfl (by kernel_rfl) rfl ?_ ?_);(simp [Value.oneCell'])))
           refine (rmWaits_any y K2 _ vp vl sl1 t 2 r0 _ OE.out.at_ (by rw [HX2.out.2.1];exact tk) (by rw [HX2.out.2.1];exact hb) RM2.out.2.2.1 (by have:=RM2.out.2.2.2;omega)).mono ?_
           rintro e w7 ⟨rfl,h7,F7⟩
           have H7:=hid (OE.out.trans (Out.plain h7 F7))
           clear h7 F7
           go_wp2
           go_ret
           exact ⟨by rw [E.out];rfl,vl,_,by rw [E.out];show Out y (K2.sends t r0 m) _ vp vl sl w _ vl _;rw [EW.out];exact H7.out⟩
       ·have d3:(x.st == 3)=false:=by simp [q3]
        have EE:=hid (show K2.sends t r0 m=if m.wait=0 then K2.over t 5 else K2.waits t 2 r0 by rw [HX2.out.2.2.2.2,if_neg (by intro h;exact q3 h.1)])
        clear q3
        by_cases qw:m.wait=0
        ·have dw:(m.wait == 0)=true:=by simp [qw]
         have EW:=hid (show K2.sends t r0 m=K2.over t 5 by rw [EE.out,if_pos qw])
         clear qw
         go_wp2_with (first | (with_reducible (show wpList _ _ _ (⟨_,.load 190 _,_,_,_,none⟩ :: _) _ _);go_must (refine wpList_load_mid rfl 190 _ rfl g (r0*20) rfl _ _ R2.out Tryz.underlying190 rfl (by kernel_rfl) ?_)) | (with_reducible (show wpList _ _ _ (⟨_,.store 190 _ _,_,_,_,none⟩ :: _) _ _);go_must (refine wpList_store_new rfl 190 _ _ rfl we _ #[.int .i64 x.sp,.int .i64 x.row,.int .i64 x.st,.int .i64 x.ord,.int .i64 x.left,.int .i64 x.dst,.slice sx.1.a sx.1.n sx.1.c,.int .i64 x.item,.int .i64 x.rt,.int .i64 x.frm,.int .i64 x.win,.int .i64 x.wait,.bool x.lends,.int .i64 x.other,.int .i64 x.turn,.int .i64 x.time,.int .i64 x.code,.int .i64 x.who,.slice sx.2.a sx.2.n sx.2.c,.int .i64 x.got] 190 rfl rfl (by kernel_rfl) rfl ?_ ?_);(simp [Value.oneCell'])))
         refine (rmOver_any y K2 _ vp vl sl1 t _ 5 _ OE.out.at_ (by rw [HX2.out.2.1];exact tk) (by rw [HX2.out.2.1];exact hb) hs1.out).mono ?_
         rintro e w7 ⟨rfl,h7,F7⟩
         have H7:=hid (OE.out.trans (⟨h7,F7.mono (fun q _ e=>.inr (.inl e)),fun _ e=>.inl e,fun q hq=>wdOwn_set hs1.out (fun q hq=>by simp [inBlock,Sv.nil] at hq) hq⟩:Out y (K2.over t 5) (.slice (some ⟨g,0,none⟩) K.threads.length c) vp vl sl1 _ w7 vl _))
         clear h7 F7
         go_wp2
         go_ret
         exact ⟨by rw [E.out];rfl,vl,_,by rw [E.out];show Out y (K2.sends t r0 m) _ vp vl sl w _ vl _;rw [EW.out];exact H7.out⟩
        ·have dw:(m.wait == 0)=false:=by simp [qw]
         have EW:=hid (show K2.sends t r0 m=K2.waits t 2 r0 by rw [EE.out,if_neg qw])
         clear qw
         go_wp2_with (first | (with_reducible (show wpList _ _ _ (⟨_,.load 190 _,_,_,_,none⟩ :: _) _ _);go_must (refine wpList_load_mid rfl 190 _ rfl g (r0*20) rfl _ _ R2.out Tryz.underlying190 rfl (by kernel_rfl) ?_)) | (with_reducible (show wpList _ _ _ (⟨_,.store 190 _ _,_,_,_,none⟩ :: _) _ _);go_must (refine wpList_store_new rfl 190 _ _ rfl we _ #[.int .i64 x.sp,.int .i64 x.row,.int .i64 x.st,.int .i64 x.ord,.int .i64 x.left,.int .i64 x.dst,.slice sx.1.a sx.1.n sx.1.c,.int .i64 x.item,.int .i64 x.rt,.int .i64 x.frm,.int .i64 x.win,.int .i64 x.wait,.bool x.lends,.int .i64 x.other,.int .i64 x.turn,.int .i64 x.time,.int .i64 x.code,.int .i64 x.who,.slice sx.2.a sx.2.n sx.2.c,.int .i64 x.got] 190 rfl rfl (by kernel_rfl) rfl ?_ ?_);(simp [Value.oneCell'])))
         refine (rmWaits_any y K2 _ vp vl sl1 t 2 r0 _ OE.out.at_ (by rw [HX2.out.2.1];exact tk) (by rw [HX2.out.2.1];exact hb) RM2.out.2.2.1 (by have:=RM2.out.2.2.2;omega)).mono ?_
         rintro e w7 ⟨rfl,h7,F7⟩
         have H7:=hid (OE.out.trans (Out.plain h7 F7))
         clear h7 F7
         go_wp2
         go_ret
         exact ⟨by rw [E.out];rfl,vl,_,by rw [E.out];show Out y (K2.sends t r0 m) _ vp vl sl w _ vl _;rw [EW.out];exact H7.out⟩
open Go.RowKit
def thOf (u:Int×Int×Int×Int):Th:={ sp:=u.1,row:=u.2.1,st:=1,ord:=u.2.2.1,left:=u.2.2.2,dst:=0,mw:=[],item:=0,rt:=0,frm:=0,win:=0,wait:=0,lends:=false,other:=0,turn:=0,time:=-1,code:=0,who:=-1,ws:=[],got:=-1 }
def lfOf (p:Int×Int×Int×Int):Lf:=⟨p.1,p.2.1,p.2.2.1,p.2.2.2,-1,-1⟩
def RK.up (K:RK):RM:=⟨K.threads.map thOf,K.sp,K.passes,K.leaves.map lfOf,K.fr,K.clock,-1,K.last⟩
theorem RefAt.up {w:World}{y:Nat}{K:RK}{vt vp vl:Value}(h:RefAt w y K vt vp vl):RmAt w y K.up vt vp vl (List.replicate K.threads.length (Sv.nil,Sv.nil)):=by
 have e1:trows (K.threads.map thOf) (List.replicate K.threads.length (Sv.nil,Sv.nil))=K.threads.map rtRow:=by
  apply List.ext_getElem?
  intro i
  unfold trows
  rw [List.getElem?_zipWith,List.getElem?_map,List.getElem?_map,List.getElem?_replicate]
  rcases hx:K.threads[i]? with _ | u
  ·simp
  ·have hi:=(List.getElem?_eq_some_iff.1 hx).1
   simp [hi]
   rfl
 have e2:(K.leaves.map lfOf).map lfRow=K.leaves.map lRow:=by
  rw [List.map_map];rfl
 refine ⟨h.blk,by simp [RK.up],?_,h.pa,?_,fun i t s ht hs=>?_,h.n1,h.n2,h.n3,h.n4,h.n5⟩
 ·show Sl w 190 20 vt (trows (K.threads.map thOf) _)
  rw [e1];exact h.th
 ·show Sl w 192 6 vl ((K.leaves.map lfOf).map lfRow)
  rw [e2];exact h.le
 ·have es:s=(Sv.nil,Sv.nil):=by
   rw [List.getElem?_replicate] at hs
   split at hs
   ·cases hs;rfl
   ·cases hs
  have et:t.mw=[]/\t.ws=[]:=by
   have ht2:(K.threads.map thOf)[i]? = some t:=ht
   rw [List.getElem?_map] at ht2
   rcases hx:K.threads[i]? with _ | u
   ·rw [hx] at ht2;simp at ht2
   ·rw [hx] at ht2
    simp at ht2
    rw [<- ht2];exact ⟨rfl,rfl⟩
  rw [es,et.1,et.2]
  exact ⟨Wd.nil _ _ _ _ _,Wd.nil _ _ _ _ _⟩
theorem wdOwn_nil {n k:Nat}:¬ WdOwn (List.replicate n (Sv.nil,Sv.nil)) k:=by
 rintro ⟨i,s,hs,hk⟩
 rw [List.getElem?_replicate] at hs
 split at hs
 ·cases hs
  rcases hk with hk | hk <;> simp [inBlock,Sv.nil] at hk
 ·cases hs
theorem born_at {T:List (Int×Int)}:∀ (i0 i:Nat) u,(born i0 T)[i]? = some u->∃ p,T[i]? = some p/\u.1=p.1/\u.2.1=p.2/\u.2.2.2=3:=by
 induction T with
 | nil=>intro i0 i u h;simp [born] at h
 | cons p r ih=>
  intro i0 i u h
  cases i with
  | zero=>simp [born] at h;exact ⟨p,rfl,by rw [<- h],by rw [<- h],by rw [<- h]⟩
  | succ i=>
   simp [born] at h
   obtain ⟨q,h1,h2⟩:=ih _ _ _ h
   exact ⟨q,by simpa using h1,h2⟩
theorem new_fit {sp:Int}{T:List (Int×Int)}{Q L:List (Int×Int×Int×Int)}(h:Fits sp T Q L):(RK.new sp T Q L).up.Fit:=by
 obtain ⟨⟨s1,s2⟩,⟨t1,t2⟩,ot,oq,aq,ol,al⟩:=h
 have hl:(RK.new sp T Q L).up.threads.length=T.length:=by simp [RK.up,RK.new,born_length]
 refine ⟨by omega,by omega,s1,s2,fun i t ht=>?_,?_,⟨fun _ _=>0,fun l hl=>?_⟩,fun l hl=>?_⟩
 ·have ht2:((born 0 T).map thOf)[i]? = some t:=ht
  rw [List.getElem?_map] at ht2
  rcases hx:(born 0 T)[i]? with _ | u
  ·rw [hx] at ht2;simp at ht2
  ·rw [hx] at ht2
   simp at ht2
   obtain ⟨p,hp,e1,e2,e3⟩:=born_at 0 i u hx
   have:=ot i p hp
   rw [<- ht2]
   unfold okT at this
   exact ⟨by show 0<=u.1;omega,by show u.1<=sp-1;omega,by show 0<=u.2.1;omega,by show u.2.1<=3;omega,by show 1<=u.2.2.2;omega,by show u.2.2.2<=3;omega,by simp [thOf],by simp [thOf],by simp [thOf],.inl rfl,fun g=>by simp [thOf] at g⟩
 ·show (L.map lfOf).Pairwise _
  rw [List.pairwise_map]
  exact (apart_iff L).1 al
 ·obtain ⟨p,hp,rfl⟩:=List.mem_map.1 (show l∈L.map lfOf from hl)
  obtain ⟨i,hi⟩:=List.getElem?_of_mem hp
  exact ⟨(ol i p hi).1,.inl ⟨rfl,rfl⟩⟩
 ·obtain ⟨p,hp,rfl⟩:=List.mem_map.1 (show l∈L.map lfOf from hl)
  obtain ⟨i,hi⟩:=List.getElem?_of_mem hp
  exact ⟨(ol i p hi).2.1,(ol i p hi).2.2.1,(ol i p hi).2.2.2.1⟩
theorem RM.Fit.recv {K:RM}(h:K.Fit):∀ (n:Nat) (t:Nat) (stands:Bool),(K.recv n t stands).Fit:=by
 intro n
 induction n generalizing K with
 | zero=>intro t stands;exact h
 | succ n ih=>
  intro t stands
  simp only [RM.recv]
  split
  ·exact h
  ·split
   ·split
    ·exact h.waits t 3 (-1) (.inr rfl) (fun g=>by simp at g)
    ·split
     ·exact h.over t 5
     ·exact (h.over t 5).toLast t
   ·split
    ·exact h.heard _ _ _
    ·split
     ·exact ih (h.heard _ _ _) _ _
     ·split
      ·exact (h.heard _ _ _).over _ _
      ·exact ((h.heard _ _ _).over _ _).toLast _
theorem RM.Fit.goes {K:RM}(h:K.Fit) (n s:Nat) (stands:Bool):(K.goes n s stands).Fit:=by
 unfold RM.goes
 split
 ·exact h
 ·split
  ·exact h.recv n s stands
  ·split
   ·exact h.over s 0
   ·exact (h.over s 0).toLast s
theorem RM.Fit.spent {K:RM}(h:K.Fit):K.spent.Fit:=by
 unfold RM.spent
 split
 ·exact h
 ·rename_i u hu
  have f:=h.th _ u hu
  split
  ·exact h
  ·split
   ·exact (h.setLeft _ 3 (by omega) (by omega)).toLast _
   ·exact h.setLeft _ _ (by have:=f.l0;omega) (by have:=f.l1;omega)
theorem RM.Fit.tick {K:RM}(h:K.Fit):K.tick.Fit:=(h.nums _ _ _).spent.tickTo _
theorem RM.Fit.yield {K:RM}(h:K.Fit):K.yield.2.Fit:=by
 unfold RM.yield
 split
 ·exact h
 ·exact (h.setLeft _ 3 (by omega) (by omega)).toLast _
theorem RM.Fit.stored {K:RM}(h:K.Fit) (pg ce n:Int):(K.stored pg ce n).Fit:=by
 unfold RM.stored
 split
 ·exact ⟨h.one,h.six,h.sp1,h.sp3,h.th,h.ap,h.kin,h.lf⟩
 ·exact h
theorem RM.Fit.unmap {K:RM}(h:K.Fit) (pg:Int) (own:Bool):(K.unmap pg own).2.Fit:=by
 unfold RM.unmap
 split
 ·exact h
 ·split
  ·split
   ·obtain ⟨r,hr⟩:=h.kin
    exact h.setL _ (gone_apl h.ap _ _ _) ⟨r,gone_kin hr _ _ _⟩ (fun l hl=>h.lf l (mem_gone.1 hl).1)
   ·exact h
  ·exact h
open Go.RowKit
structure Clo (P:Nat->RM->Prop):Prop where
 mono:∀ b c K,b<=c->P b K->P c K
 over:∀ b K t e,P b K->P b (K.over t e)
 toFirst:∀ b K t,P b K->P (b+1) (K.toFirst t)
 toLast:∀ b K t,P b K->P (b+1) (K.toLast t)
 waits:∀ b K t st o,P b K->(st=2\/st=3)->P (b+1) (K.waits t st o)
 deliver:∀ b K s r,P b K->P b (K.deliver s r)
 asks:∀ b K t m,P b K->P b (K.asks t m)
 lendsTo:∀ b K t x,P b K->P b (K.lendsTo t x)
 setLeft:∀ b K t n,P b K->P b (K.setLeft t n)
section
variable {P:Nat->RM->Prop}(C:Clo P)
include C
theorem Clo.heard {b:Nat}{K:RM}(s t:Nat) (stands:Bool) (h:P b K):P (b+1) (K.heard s t stands):=by
 unfold RM.heard
 split
 ·exact C.mono _ _ _ (by omega) (C.deliver _ _ _ _ h)
 ·exact C.toFirst _ _ _ (C.deliver _ _ _ _ h)
theorem Clo.recv:∀ (n b:Nat) (K:RM) (t:Nat) (stands:Bool),P b K->P (b+n+1) (K.recv n t stands):=by
 intro n
 induction n with
 | zero=>intro b K t stands h;exact C.mono _ _ _ (by omega) h
 | succ n ih=>
  intro b K t stands h
  simp only [RM.recv]
  split
  ·exact C.mono _ _ _ (by omega) h
  ·split
   ·split
    ·exact C.mono _ _ _ (by omega) (C.waits _ _ _ _ _ h (.inr rfl))
    ·split
     ·exact C.mono _ _ _ (by omega) (C.over _ _ _ _ h)
     ·exact C.mono _ _ _ (by omega) (C.toLast _ _ _ (C.over _ _ _ _ h))
   ·split
    ·exact C.mono _ _ _ (by omega) (C.heard _ _ _ h)
    ·split
     ·exact C.mono _ _ _ (by omega) (ih _ _ _ _ (C.heard _ _ _ h))
     ·split
      ·exact C.mono _ _ _ (by omega) (C.over _ _ _ _ (C.heard _ _ _ h))
      ·exact C.mono _ _ _ (by omega) (C.toLast _ _ _ (C.over _ _ _ _ (C.heard _ _ _ h)))
theorem Clo.goes {b:Nat}{K:RM}(n s:Nat) (stands:Bool) (h:P b K):P (b+n+1) (K.goes n s stands):=by
 unfold RM.goes
 split
 ·exact C.mono _ _ _ (by omega) h
 ·split
  ·exact C.recv _ _ _ _ _ h
  ·split
   ·exact C.mono _ _ _ (by omega) (C.over _ _ _ _ h)
   ·exact C.mono _ _ _ (by omega) (C.toLast _ _ _ (C.over _ _ _ _ h))
theorem Clo.sends {b:Nat}{K:RM}(t r:Nat) (m:Ms) (h:P b K):P (b+9) (K.sends t r m):=by
 unfold RM.sends
 split
 ·exact C.mono _ _ _ (by omega) h
 ·split
  ·exact C.goes 7 _ _ (C.toFirst _ _ _ (C.deliver _ _ _ _ h))
  ·split
   ·exact C.mono _ _ _ (by omega) (C.over _ _ _ _ h)
   ·exact C.mono _ _ _ (by omega) (C.waits _ _ _ _ _ h (.inl rfl))
theorem Clo.ipc {b:Nat}{K:RM}(m:Ms) (h:P b K):P (b+9) (K.ipc m).2:=by
 unfold RM.ipc
 have ho:=C.over _ _ K.cur.toNat 4 (C.asks _ _ K.cur.toNat m h)
 split
 ·exact C.mono _ _ _ (by omega) h
 ·split
  ·exact C.mono _ _ _ (by omega) h
  ·split
   ·exact C.mono _ _ _ (by omega) (C.recv 7 _ _ _ _ (C.asks _ _ _ m h))
   ·split
    ·exact C.mono _ _ _ (by omega) h
    ·split
     ·exact C.mono _ _ _ (by omega) ho
     ·split
      ·exact C.mono _ _ _ (by omega) ho
      ·exact C.sends _ _ _ (C.lendsTo _ _ _ _ (C.asks _ _ _ m h))
theorem Clo.tickTo {b:Nat}{K:RM}(h:P b K):∀ i,P (b+i) (K.tickTo i)
 | 0=>h
 | i+1=>by
  have ih:=Clo.tickTo h i
  simp only [RM.tickTo]
  split
  ·exact C.mono _ _ _ (by omega) ih
  ·split
   ·exact C.toLast _ _ _ (C.over _ _ _ _ ih)
   ·exact C.mono _ _ _ (by omega) ih
theorem Clo.spent {b:Nat}{K:RM}(h:P b K):P (b+1) K.spent:=by
 unfold RM.spent
 split
 ·exact C.mono _ _ _ (by omega) h
 ·split
  ·exact C.mono _ _ _ (by omega) h
  ·split
   ·exact C.toLast _ _ _ (C.setLeft _ _ _ _ h)
   ·exact C.mono _ _ _ (by omega) (C.setLeft _ _ _ _ h)
theorem Clo.yield {b:Nat}{K:RM}(h:P b K):P (b+1) K.yield.2:=by
 unfold RM.yield
 split
 ·exact C.mono _ _ _ (by omega) h
 ·exact C.toLast _ _ _ (C.setLeft _ _ _ _ h)
end
structure RM.Num (b:Nat) (K:RM):Prop where
 f0:-(b:Int)<=K.first
 f1:K.first<=-1
 a0:0<=K.last
 a1:K.last<=b
 o0:∀ (i:Nat) u,K.threads[i]? = some u->K.first < u.ord/\u.ord < K.last
 o1:∀ (i j:Nat) u v,K.threads[i]? = some u->K.threads[j]? = some v->u.ord=v.ord->i=j
 t0:∀ (i:Nat) u,K.threads[i]? = some u->u.st≠1->K.first < u.turn/\u.turn < K.last
 t1:∀ (i j:Nat) u v,K.threads[i]? = some u->K.threads[j]? = some v->u.st≠1->v.st≠1->u.turn=v.turn->i=j
theorem upd_get {K:RM}{r:Nat}{f:Th->Th}{i:Nat}{t:Th}(h:(K.upd r f).threads[i]? = some t):∃ x,K.threads[i]? = some x/\((i=r/\t=f x)\/(i≠r/\t=x)):=by
 have ht2:(K.threads.modify r f)[i]? = some t:=h
 rw [List.getElem?_modify] at ht2
 rcases hx:K.threads[i]? with _ | x
 ·rw [hx] at ht2;simp at ht2
 ·rw [hx] at ht2
  refine ⟨x,rfl,?_⟩
  by_cases e:r=i
  ·subst e
   simp at ht2
   exact .inl ⟨rfl,ht2.symm⟩
  ·simp [e] at ht2
   exact .inr ⟨fun g=>e g.symm,ht2.symm⟩
theorem RM.Num.upd {b:Nat}{K:RM}(h:K.Num b) (r:Nat) (f:Th->Th) (ho:∀ u,(f u).ord=u.ord) (hs:∀ u,(f u).st=1\/((f u).st=u.st/\(f u).turn=u.turn)):(K.upd r f).Num b:=by
 refine ⟨h.f0,h.f1,h.a0,h.a1,fun i u hu=>?_,fun i j u v hu hv e=>?_,fun i u hu hs1=>?_,fun i j u v hu hv s1 s2 e=>?_⟩
 ·obtain ⟨x,hx,⟨_,rfl⟩ | ⟨_,rfl⟩⟩:=upd_get hu
  ·rw [ho];exact h.o0 i x hx
  ·exact h.o0 i u hx
 ·obtain ⟨x,hx,c1⟩:=upd_get hu
  obtain ⟨z,hz,c2⟩:=upd_get hv
  have e1:u.ord=x.ord:=by rcases c1 with ⟨_,rfl⟩ | ⟨_,rfl⟩;exact ho x;rfl
  have e2:v.ord=z.ord:=by rcases c2 with ⟨_,rfl⟩ | ⟨_,rfl⟩;exact ho z;rfl
  exact h.o1 i j x z hx hz (by rw [<- e1,<- e2,e])
 ·obtain ⟨x,hx,⟨_,rfl⟩ | ⟨_,rfl⟩⟩:=upd_get hu
  ·rcases hs x with g | ⟨g1,g2⟩
   ·exact absurd g hs1
   ·rw [g2];exact h.t0 i x hx (by rw [<- g1];exact hs1)
  ·exact h.t0 i u hx hs1
 ·obtain ⟨x,hx,c1⟩:=upd_get hu
  obtain ⟨z,hz,c2⟩:=upd_get hv
  have e1:u.turn=x.turn/\x.st≠1:=by
   rcases c1 with ⟨_,rfl⟩ | ⟨_,rfl⟩
   ·rcases hs x with g | ⟨g1,g2⟩
    ·exact absurd g s1
    ·exact ⟨g2,by rw [<- g1];exact s1⟩
   ·exact ⟨rfl,s1⟩
  have e2:v.turn=z.turn/\z.st≠1:=by
   rcases c2 with ⟨_,rfl⟩ | ⟨_,rfl⟩
   ·rcases hs z with g | ⟨g1,g2⟩
    ·exact absurd g s2
    ·exact ⟨g2,by rw [<- g1];exact s2⟩
   ·exact ⟨rfl,s2⟩
  exact h.t1 i j x z hx hz e1.2 e2.2 (by rw [<- e1.1,<- e2.1,e])
theorem RM.Num.same {b:Nat}{K K':RM}(h:K.Num b) (ht:K'.threads=K.threads) (hf:K'.first=K.first) (hl:K'.last=K.last):K'.Num b:=
 ⟨hf ▸ h.f0,hf ▸ h.f1,hl ▸ h.a0,hl ▸ h.a1,by rw [ht,hf,hl];exact h.o0,by rw [ht];exact h.o1,by rw [ht,hf,hl];exact h.t0,by rw [ht];exact h.t1⟩
theorem num_clo:Clo (fun b K=>K.Num b):=by
 refine ⟨fun b c K hb h=>⟨by have:=h.f0;omega,h.f1,h.a0,by have:=h.a1;omega,h.o0,h.o1,h.t0,h.t1⟩,fun b K t e h=>h.upd t _ (fun _=>rfl) (fun _=>.inl rfl),fun b K t h=>?_,fun b K t h=>?_,fun b K t st o h hst=>?_,fun b K s r h=>?_,fun b K t m h=>h.upd t _ (fun _=>rfl) (fun _=>.inr ⟨rfl,rfl⟩),fun b K t m h=>h.upd t _ (fun _=>rfl) (fun _=>.inr ⟨rfl,rfl⟩),fun b K t m h=>h.upd t _ (fun _=>rfl) (fun _=>.inr ⟨rfl,rfl⟩)⟩
 ·have hf0:=h.f0
  have hf1:=h.f1
  have ha0:=h.a0
  have ha1:=h.a1
  refine ⟨by show _<=K.first-1;omega,by show K.first-1<=_;omega,h.a0,by show K.last<=_;omega,fun i u hu=>?_,fun i j u v hu hv e=>?_,fun i u hu hs1=>?_,fun i j u v hu hv s1 s2 e=>?_⟩
  ·obtain ⟨x,hx,⟨_,rfl⟩ | ⟨_,rfl⟩⟩:=upd_get (K:=K) hu
   ·show K.first-1 < K.first/\K.first < K.last;omega
   ·have:=h.o0 i u hx;show K.first-1 < u.ord/\u.ord < K.last;omega
  ·obtain ⟨x,hx,c1⟩:=upd_get (K:=K) hu
   obtain ⟨z,hz,c2⟩:=upd_get (K:=K) hv
   have g1:=h.o0 i x hx
   have g2:=h.o0 j z hz
   rcases c1 with ⟨i1,rfl⟩ | ⟨i1,rfl⟩ <;> rcases c2 with ⟨i2,rfl⟩ | ⟨i2,rfl⟩
   ·omega
   ·dsimp only at e;omega
   ·dsimp only at e;omega
   ·exact h.o1 i j u v hx hz e
  ·obtain ⟨x,hx,⟨_,rfl⟩ | ⟨_,rfl⟩⟩:=upd_get (K:=K) hu
   ·have:=h.t0 i x hx hs1;show K.first-1 < x.turn/\x.turn < K.last;omega
   ·have:=h.t0 i u hx hs1;show K.first-1 < u.turn/\u.turn < K.last;omega
  ·obtain ⟨x,hx,c1⟩:=upd_get (K:=K) hu
   obtain ⟨z,hz,c2⟩:=upd_get (K:=K) hv
   have e1:u.turn=x.turn/\x.st≠1:=by rcases c1 with ⟨_,rfl⟩ | ⟨_,rfl⟩ <;> exact ⟨rfl,s1⟩
   have e2:v.turn=z.turn/\z.st≠1:=by rcases c2 with ⟨_,rfl⟩ | ⟨_,rfl⟩ <;> exact ⟨rfl,s2⟩
   exact h.t1 i j x z hx hz e1.2 e2.2 (by rw [<- e1.1,<- e2.1,e])
 ·have hf0:=h.f0
  have hf1:=h.f1
  have ha0:=h.a0
  have ha1:=h.a1
  refine ⟨by show _<=K.first;omega,h.f1,by show 0<=K.last+1;omega,by show K.last+1<=_;omega,fun i u hu=>?_,fun i j u v hu hv e=>?_,fun i u hu hs1=>?_,fun i j u v hu hv s1 s2 e=>?_⟩
  ·obtain ⟨x,hx,⟨_,rfl⟩ | ⟨_,rfl⟩⟩:=upd_get (K:=K) hu
   ·show K.first < K.last/\K.last < K.last+1;omega
   ·have:=h.o0 i u hx;show K.first < u.ord/\u.ord < K.last+1;omega
  ·obtain ⟨x,hx,c1⟩:=upd_get (K:=K) hu
   obtain ⟨z,hz,c2⟩:=upd_get (K:=K) hv
   have g1:=h.o0 i x hx
   have g2:=h.o0 j z hz
   rcases c1 with ⟨i1,rfl⟩ | ⟨i1,rfl⟩ <;> rcases c2 with ⟨i2,rfl⟩ | ⟨i2,rfl⟩
   ·omega
   ·dsimp only at e;omega
   ·dsimp only at e;omega
   ·exact h.o1 i j u v hx hz e
  ·obtain ⟨x,hx,⟨_,rfl⟩ | ⟨_,rfl⟩⟩:=upd_get (K:=K) hu
   ·have:=h.t0 i x hx hs1;show K.first < x.turn/\x.turn < K.last+1;omega
   ·have:=h.t0 i u hx hs1;show K.first < u.turn/\u.turn < K.last+1;omega
  ·obtain ⟨x,hx,c1⟩:=upd_get (K:=K) hu
   obtain ⟨z,hz,c2⟩:=upd_get (K:=K) hv
   have e1:u.turn=x.turn/\x.st≠1:=by rcases c1 with ⟨_,rfl⟩ | ⟨_,rfl⟩ <;> exact ⟨rfl,s1⟩
   have e2:v.turn=z.turn/\z.st≠1:=by rcases c2 with ⟨_,rfl⟩ | ⟨_,rfl⟩ <;> exact ⟨rfl,s2⟩
   exact h.t1 i j x z hx hz e1.2 e2.2 (by rw [<- e1.1,<- e2.1,e])
 ·have hf0:=h.f0
  have hf1:=h.f1
  have ha0:=h.a0
  have ha1:=h.a1
  refine ⟨by show _<=K.first;omega,h.f1,by show 0<=K.last+1;omega,by show K.last+1<=_;omega,fun i u hu=>?_,fun i j u v hu hv e=>?_,fun i u hu hs1=>?_,fun i j u v hu hv s1 s2 e=>?_⟩
  ·obtain ⟨x,hx,⟨_,rfl⟩ | ⟨_,rfl⟩⟩:=upd_get (K:=K) hu
   ·have:=h.o0 i x hx;show K.first < x.ord/\x.ord < K.last+1;omega
   ·have:=h.o0 i u hx;show K.first < u.ord/\u.ord < K.last+1;omega
  ·obtain ⟨x,hx,c1⟩:=upd_get (K:=K) hu
   obtain ⟨z,hz,c2⟩:=upd_get (K:=K) hv
   have e1:u.ord=x.ord:=by rcases c1 with ⟨_,rfl⟩ | ⟨_,rfl⟩ <;> rfl
   have e2:v.ord=z.ord:=by rcases c2 with ⟨_,rfl⟩ | ⟨_,rfl⟩ <;> rfl
   exact h.o1 i j x z hx hz (by rw [<- e1,<- e2,e])
  ·obtain ⟨x,hx,⟨_,rfl⟩ | ⟨_,rfl⟩⟩:=upd_get (K:=K) hu
   ·show K.first < K.last/\K.last < K.last+1;omega
   ·have:=h.t0 i u hx hs1;show K.first < u.turn/\u.turn < K.last+1;omega
  ·obtain ⟨x,hx,c1⟩:=upd_get (K:=K) hu
   obtain ⟨z,hz,c2⟩:=upd_get (K:=K) hv
   rcases c1 with ⟨i1,rfl⟩ | ⟨i1,rfl⟩ <;> rcases c2 with ⟨i2,rfl⟩ | ⟨i2,rfl⟩
   ·omega
   ·have g2:=h.t0 j v hz s2;dsimp only at e;omega
   ·have g1:=h.t0 i u hx s1;dsimp only at e;omega
   ·exact h.t1 i j u v hx hz s1 s2 e
 ·unfold RM.deliver
  split
  ·rename_i a x _ _
   exact (h.upd r (fun u=>{ u with st:=1,time:=-1,code:=0,who:=s,ws:=a.mw,got:=(lendL K.leaves a x).2 }) (fun _=>rfl) (fun _=>.inl rfl)).same rfl rfl rfl
  ·exact h
theorem Clo.tick {P:Nat->RM->Prop}(C:Clo P){b:Nat}{K:RM}(h:P b K.ticked):P (b+1+K.threads.length) K.tick:=C.tickTo (C.spent h) _
theorem RM.Num.tick {b:Nat}{K:RM}(h:K.Num b) (h6:K.threads.length<=6):K.tick.Num (b+7):=num_clo.mono _ _ _ (by omega) (num_clo.tick (b:=b) (K:=K) (h.same rfl rfl rfl))
structure Same (K K':RM):Prop where
 len:K'.threads.length=K.threads.length
 sp:K'.sp=K.sp
 ps:K'.passes=K.passes
 fr:K'.fr=K.fr
 cl:K'.clock=K.clock
 hm:∀ (i:Nat) u,K'.threads[i]? = some u->∃ x,K.threads[i]? = some x/\u.sp=x.sp/\u.row=x.row
theorem Same.refl (K:RM):Same K K:=⟨rfl,rfl,rfl,rfl,rfl,fun _ u h=>⟨u,h,rfl,rfl⟩⟩
theorem Same.upd {K0 K K':RM}(h:Same K0 K){r:Nat}{f:Th->Th}(ht:K'.threads=K.threads.modify r f) (h1:K'.sp=K.sp) (h2:K'.passes=K.passes) (h3:K'.fr=K.fr) (h4:K'.clock=K.clock) (hf:∀ u,(f u).sp=u.sp/\(f u).row=u.row):Same K0 K':=by
 refine ⟨by rw [ht];simp [h.len],h1.trans h.sp,h2.trans h.ps,h3.trans h.fr,h4.trans h.cl,fun i u hu=>?_⟩
 rw [ht] at hu
 obtain ⟨x,hx,c⟩:=upd_get (K:=K) (f:=f) hu
 obtain ⟨z,hz,e1,e2⟩:=h.hm i x hx
 refine ⟨z,hz,?_⟩
 rcases c with ⟨_,rfl⟩ | ⟨_,rfl⟩
 ·rw [(hf x).1,(hf x).2];exact ⟨e1,e2⟩
 ·exact ⟨e1,e2⟩
theorem same_clo (K0:RM):Clo (fun _ K=>Same K0 K):=by
 refine ⟨fun _ _ _ _ h=>h,fun b K t e h=>h.upd rfl rfl rfl rfl rfl (by intro u;exact ⟨rfl,rfl⟩),fun b K t h=>h.upd rfl rfl rfl rfl rfl (by intro u;exact ⟨rfl,rfl⟩),fun b K t h=>h.upd rfl rfl rfl rfl rfl (by intro u;exact ⟨rfl,rfl⟩),fun b K t st o h _=>h.upd rfl rfl rfl rfl rfl (by intro u;exact ⟨rfl,rfl⟩),fun b K s r h=>?_,fun b K t m h=>h.upd rfl rfl rfl rfl rfl (by intro u;exact ⟨rfl,rfl⟩),fun b K t m h=>h.upd rfl rfl rfl rfl rfl (by intro u;exact ⟨rfl,rfl⟩),fun b K t m h=>h.upd rfl rfl rfl rfl rfl (by intro u;exact ⟨rfl,rfl⟩)⟩
 unfold RM.deliver
 split
 ·exact h.upd rfl rfl rfl rfl rfl (by intro u;exact ⟨rfl,rfl⟩)
 ·exact h
theorem and3 {r a:Int}(h1:1<=r) (h3:r<=3) (hz:¬ bits .and .i64 r a=0):1<=bits .and .i64 r a/\bits .and .i64 r a<=3:=by
 have hn:(BitVec.ofInt 64 r &&& BitVec.ofInt 64 a).toNat<=3:=by
  rw [BitVec.toNat_and]
  refine Nat.le_trans Nat.and_le_left ?_
  have:r=1\/r=2\/r=3:=by omega
  rcases this with rfl | rfl | rfl <;> decide
 have hb:bits .and .i64 r a=IntKind.i64.wrap ((BitVec.ofInt 64 r &&& BitVec.ofInt 64 a).toNat:Int):=rfl
 generalize (BitVec.ofInt 64 r &&& BitVec.ofInt 64 a).toNat=n at hb hn
 have hw:IntKind.i64.wrap (n:Int)=n:=by
  have:n=0\/n=1\/n=2\/n=3:=by omega
  rcases this with rfl | rfl | rfl | rfl <;> rfl
 rw [hb,hw] at hz ⊢
 omega
def okLf (l:Lf):Prop:=0<=l.fr/\l.fr<=7/\1<=l.rt/\l.rt<=3
theorem lend_ok {L:List Lf}(h:∀ l∈L,okLf l) (a b:Th):∀ l∈(lendL L a b).1,okLf l:=by
 have hg:∀ l∈goneL L b.sp b.win true,okLf l:=fun l hl=>h l (mem_gone.1 hl).1
 unfold lendL
 split
 ·exact h
 ·split
  ·exact hg
  ·rename_i l hl
   have hm:=hg l (List.mem_of_find?_eq_some hl)
   split
   ·exact hg
   ·rename_i hz
    intro q hq
    rcases List.mem_append.1 hq with hq | hq
    ·exact hg q hq
    ·rw [List.mem_singleton] at hq
     rw [hq]
     refine ⟨hm.1,hm.2.1,?_⟩
     exact and3 hm.2.2.1 hm.2.2.2 hz
theorem leaf_clo:Clo (fun _ K=>∀ l∈K.leaves,okLf l):=by
 refine ⟨fun _ _ _ _ h=>h,fun b K t e h=>h,fun b K t h=>h,fun b K t h=>h,fun b K t st o h _=>h,fun b K s r h=>?_,fun b K t m h=>h,fun b K t m h=>h,fun b K t m h=>h⟩
 unfold RM.deliver
 split
 ·exact lend_ok h _ _
 ·exact h
open Go.RowKit
structure RM.Ok (K:RM) (n:Nat):Prop where
 ft:K.Fit
 nm:K.Num (16*n+16)
 ap:Apart K.passes
 oq:∀ (i:Nat) p,K.passes[i]? = some p->okQ K.sp ((K.threads.length:Int)-1) p
 lf:∀ l∈K.leaves,okLf l
 c0:0<=K.clock
 c1:K.clock<=n
theorem q18 {sp h:Int}{Q:List (Int×Int×Int×Int)}(hn:sp<=3) (ho:∀ (i:Nat) p,Q[i]? = some p->okQ sp h p) (ap:Apart Q):Q.length<=18:=by
 have e:(Q.map (fun p=>(p.1*6+p.2.1).toNat)).length=Q.length:=by simp
 have hm:∀ p∈Q,okQ sp h p:=fun p hp=>by obtain ⟨i,hi⟩:=List.getElem?_of_mem hp;exact ho i p hi
 rw [<- e]
 apply nodup_lt
 ·rw [List.Nodup,List.pairwise_map]
  refine List.Pairwise.imp_of_mem ?_ ((apart_iff Q).1 ap)
  intro x z hx hz hne e
  have h1:=hm x hx
  have h2:=hm z hz
  unfold okQ at h1 h2
  exact hne (by omega)
 ·intro t ht
  obtain ⟨p,hp,rfl⟩:=List.mem_map.1 ht
  have h1:=hm p hp
  unfold okQ at h1
  omega
theorem RM.Ok.bq {K:RM}{n:Nat}(h:K.Ok n):K.passes.length<=18:=q18 h.ft.sp3 h.oq h.ap
theorem RM.Ok.room {K:RM}{n:Nat}(h:K.Ok n) (hn:n<=4503599627370496):Room 9 K:=by
 have h1:=h.nm.f0
 have h2:=h.nm.f1
 have h3:=h.nm.a0
 have h4:=h.nm.a1
 unfold Room
 omega
theorem RM.Ok.mono {K:RM}{n m:Nat}(h:K.Ok n) (hm:n<=m):K.Ok m:=⟨h.ft,num_clo.mono _ _ _ (by omega) h.nm,h.ap,h.oq,h.lf,h.c0,by have:=h.c1;omega⟩
theorem RM.Ok.step {K K':RM}{n:Nat}(h:K.Ok n) (ft:K'.Fit) (nm:K'.Num (16*n+16+16)) (sa:Same K K') (lf:∀ l∈K'.leaves,okLf l):K'.Ok (n+1):=
 ⟨ft,num_clo.mono _ _ _ (by omega) nm,by rw [sa.ps];exact h.ap,by rw [sa.ps,sa.sp,sa.len];exact h.oq,lf,by rw [sa.cl];exact h.c0,by rw [sa.cl];have:=h.c1;omega⟩
theorem RM.cur_in (K:RM) (h:¬ K.cur < 0):∃ (j:Nat) (u:Th),K.cur=j/\K.threads[j]? = some u/\u.st=1:=by
 rcases curM_inv K.threads K.threads.length (Nat.le_refl _) with e | ⟨j,u,e,_,hu,hs⟩
 ·exact absurd (show K.cur < 0 by unfold RM.cur;omega) h
 ·exact ⟨j,u,e,hu,hs⟩
theorem RM.Fit.sends {K:RM}(h:K.Fit) (t r:Nat) (m:Ms) (hn:(r:Int)≠t):(K.sends t r m).Fit:=by
 unfold RM.sends
 split
 ·exact h
 ·split
  ·exact ((h.deliver _ _).toFirst _).goes _ _ _
  ·split
   ·exact h.over _ _
   ·exact h.waits t 2 r (.inl rfl) (fun _=>hn)
theorem RM.Fit.ipc {K:RM}(h:K.Fit) (m:Ms) (hq:∀ (i:Nat) p,K.passes[i]? = some p->0<=p.2.2.1):(K.ipc m).2.Fit:=by
 unfold RM.ipc
 split
 ·exact h
 ·rename_i hc
  split
  ·exact h
  ·rename_i hm
   have hm2:isMs K.threads.length m=true:=by simpa using hm
   have hw:m.words.length<=4:=by simp [isMs] at hm2;omega
   have h5:m.win<=5:=by simp [isMs,inI] at hm2;omega
   have ha:=h.asks K.cur.toNat m hw h5
   split
   ·exact ha.recv _ _ _
   ·split
    ·exact h
    ·split
     ·exact ha.over _ _
     ·rename_i p hp
      have hp0:0<=p.2.2.1:=by
       obtain ⟨i,hi⟩:=List.getElem?_of_mem (List.mem_of_find?_eq_some (show List.find? _ K.passes=some p from hp))
       exact hq i p hi
      split
      ·exact ha.over _ _
      ·rename_i hne
       exact (ha.lendsTo _ _).sends _ _ _ (by omega)
theorem RM.Ok.ipc {K:RM}{n:Nat}(h:K.Ok n) (m:Ms):(K.ipc m).2.Ok (n+1):=
 h.step (h.ft.ipc m (fun i p hp=>(h.oq i p hp).2.2.2.2.1)) (num_clo.mono _ _ _ (by omega) (num_clo.ipc m h.nm)) ((same_clo K).ipc (b:=0) m (Same.refl K)) (leaf_clo.ipc (b:=0) m h.lf)
theorem RM.Ok.yield {K:RM}{n:Nat}(h:K.Ok n):K.yield.2.Ok (n+1):=
 h.step h.ft.yield (num_clo.mono _ _ _ (by omega) (num_clo.yield h.nm)) ((same_clo K).yield (b:=0) (Same.refl K)) (leaf_clo.yield (b:=0) h.lf)
theorem RM.Ok.tick {K:RM}{n:Nat}(h:K.Ok n):K.tick.Ok (n+1):=by
 have sa:Same K.ticked K.tick:=(same_clo K.ticked).tick (b:=0) (Same.refl _)
 refine ⟨h.ft.tick,num_clo.mono _ _ _ (by omega) (h.nm.tick h.ft.six),by rw [sa.ps];exact h.ap,by rw [sa.ps,sa.sp,sa.len];exact h.oq,leaf_clo.tick (b:=0) (K:=K) h.lf,by rw [sa.cl];have:=h.c0;show 0<=K.clock+1;omega,by rw [sa.cl];have:=h.c1;show K.clock+1<=_;omega⟩
theorem RM.Ok.stored {K:RM}{n:Nat}(h:K.Ok n) (pg ce v:Int):(K.stored pg ce v).Ok (n+1):=by
 refine RM.Ok.mono (n:=n) ⟨h.ft.stored pg ce v,?_,?_,?_,?_,?_,?_⟩ (by omega)
 all_goals unfold RM.stored
 all_goals split
 ·exact h.nm.same rfl rfl rfl
 ·exact h.nm
 ·exact h.ap
 ·exact h.ap
 ·exact h.oq
 ·exact h.oq
 ·exact h.lf
 ·exact h.lf
 ·exact h.c0
 ·exact h.c0
 ·exact h.c1
 ·exact h.c1
theorem RM.Ok.unmap {K:RM}{n:Nat}(h:K.Ok n) (pg:Int) (own:Bool):(K.unmap pg own).2.Ok (n+1):=by
 have hf:=h.ft.unmap pg own
 revert hf
 unfold RM.unmap
 split
 ·exact fun _=>h.mono (by omega)
 ·split
  ·split
   ·exact fun hf=>RM.Ok.mono (n:=n) ⟨hf,h.nm.same rfl rfl rfl,h.ap,h.oq,fun l hl=>h.lf l (mem_gone.1 hl).1,h.c0,h.c1⟩ (by omega)
   ·exact fun _=>h.mono (by omega)
  ·exact fun _=>h.mono (by omega)
theorem RM.Ok.setP {K:RM} {n:Nat} (h:K.Ok n) (Q:List (Int×Int×Int×Int)) (ha:Apart Q) (ho:∀ (i:Nat) p,Q[i]? = some p->okQ K.sp ((K.threads.length:Int)-1) p):({ K with passes:=Q }:RM).Ok (n+1):=
 RM.Ok.mono (n:=n) ⟨⟨h.ft.one,h.ft.six,h.ft.sp1,h.ft.sp3,h.ft.th,h.ft.ap,h.ft.kin,h.ft.lf⟩,h.nm.same rfl rfl rfl,ha,ho,h.lf,h.c0,h.c1⟩ (by omega)
theorem RM.Ok.drop {K:RM}{n:Nat}(h:K.Ok n) (a:Int):(K.drop a).2.Ok (n+1):=by
 unfold RM.drop
 split
 ·exact h.mono (by omega)
 ·split
  ·split
   ·exact h.setP _ (outQ_apart h.ap _ _) (fun i p hp=>by obtain ⟨j,hj⟩:=outQ_mem hp;exact h.oq j p hj)
   ·exact h.mono (by omega)
  ·exact h.mono (by omega)
theorem RM.home_ok {K:RM}(h:K.Fit):0<=K.home/\K.home<=K.sp-1:=by
 unfold RM.home
 split
 ·rename_i u hu;have f:=h.th _ u hu;exact ⟨f.s0,f.s1⟩
 ·have:=h.sp1;omega
theorem RM.Ok.derive {K:RM}{n:Nat}(h:K.Ok n) (a b r:Int):(K.derive a b r).2.Ok (n+1):=by
 unfold RM.derive
 split
 ·exact h.mono (by omega)
 ·split
  ·rename_i hc
   split
   ·rename_i p hp
    split
    ·refine h.setP _ (putQ_apart h.ap _ _ _ _) (fun i q hq=>?_)
     rcases putQ_mem (List.mem_of_getElem? hq) with rfl | hm
     ·have hh:=RM.home_ok h.ft
      obtain ⟨j,hj⟩:=List.getElem?_of_mem (List.mem_of_find?_eq_some (show List.find? _ K.passes=some p from hp))
      have ho:=h.oq j p hj
      have i1:=inI_true.1 hc.2.1
      have i2:=inI_true.1 hc.2.2
      exact ⟨hh.1,hh.2,i1.1,i1.2,ho.2.2.2.2.1,ho.2.2.2.2.2.1,i2.1,i2.2⟩
     ·obtain ⟨j,hj⟩:=List.getElem?_of_mem hm
      exact h.oq j q hj
    ·exact h.mono (by omega)
   ·exact h.mono (by omega)
  ·exact h.mono (by omega)
theorem born_ord {T:List (Int×Int)}:∀ (i0 i:Nat) u,(born i0 T)[i]? = some u->u.2.2.1=((i0+i:Nat):Int):=by
 induction T with
 | nil=>intro i0 i u h;simp [born] at h
 | cons p r ih=>
  intro i0 i u h
  cases i with
  | zero=>simp [born] at h;rw [<- h];rfl
  | succ i=>
   simp [born] at h
   rw [ih _ _ _ h]
   omega
theorem new_okM {sp:Int}{T:List (Int×Int)}{Q L:List (Int×Int×Int×Int)}(h:Fits sp T Q L) (n:Nat):(RK.new sp T Q L).up.Ok n:=by
 have hf:=new_fit h
 obtain ⟨⟨s1,s2⟩,⟨t1,t2⟩,ot,oq,aq,ol,al⟩:=h
 have hl:(RK.new sp T Q L).up.threads.length=T.length:=by simp [RK.up,RK.new,born_length]
 have ho:∀ (i:Nat) u,(RK.new sp T Q L).up.threads[i]? = some u->u.ord=i/\u.st=1/\i < T.length:=by
  intro i u hu
  have hi:i < T.length:=by rw [<- hl];exact (List.getElem?_eq_some_iff.1 hu).1
  have hu2:((born 0 T).map thOf)[i]? = some u:=hu
  rw [List.getElem?_map] at hu2
  rcases hb:(born 0 T)[i]? with _ | x
  ·rw [hb] at hu2;cases hu2
  ·rw [hb] at hu2
   cases hu2
   have:=born_ord 0 i x hb
   exact ⟨by show x.2.2.1=_;rw [this];simp,rfl,hi⟩
 refine RM.Ok.mono (n:=0) ⟨hf,⟨by show _<=(-1:Int);omega,by show (-1:Int)<=-1;omega,by show (0:Int)<=(T.length:Int);omega,by show (T.length:Int)<=_;omega,fun i u hu=>?_,fun i j u v hu hv e=>?_,fun i u hu hs=>absurd (ho i u hu).2.1 hs,fun i j u v hu hv s1 s2 e=>absurd (ho i u hu).2.1 s1⟩,aq,?_,?_,by show (0:Int)<=0;omega,by show (0:Int)<=_;omega⟩ (by omega)
 ·have:=ho i u hu
  show (-1:Int) < u.ord/\u.ord < (T.length:Int)
  omega
 ·have h1:=ho i u hu
  have h2:=ho j v hv
  omega
 ·rw [hl];exact oq
 ·intro l hl
  obtain ⟨p,hp,rfl⟩:=List.mem_map.1 (show l∈L.map lfOf from hl)
  obtain ⟨i,hi⟩:=List.getElem?_of_mem hp
  have:=ol i p hi
  exact ⟨this.2.2.2.2.1,this.2.2.2.2.2.1,this.2.2.2.2.2.2.1,this.2.2.2.2.2.2.2⟩
open Go.RowKit
structure Sd (key:Nat->Int) (P:Nat->Prop) (l:List Nat):Prop where
 mem:∀ t,t∈l↔P t
 srt:l.Pairwise (fun a b=>key a < key b)
section
variable {key key':Nat->Int}{P P':Nat->Prop}{l:List Nat}
theorem Sd.nodup (h:Sd key P l):l.Nodup:=h.srt.imp (fun h e=>by rw [e] at h;omega)
theorem Sd.congr (h:Sd key P l) (hp:∀ t,P t↔P' t) (hk:∀ t,P t->key' t=key t):Sd key' P' l:=
 ⟨fun t=>(h.mem t).trans (hp t),h.srt.imp_of_mem (fun {a b} ha hb hab=>by rw [hk a ((h.mem a).1 ha),hk b ((h.mem b).1 hb)];exact hab)⟩
theorem Sd.erase (h:Sd key P l) (t:Nat) (hp:∀ i,P' i↔P i/\i≠t) (hk:∀ i,P i->i≠t->key' i=key i):Sd key' P' (l.erase t):=by
 have h1:Sd key (fun i=>P i/\i≠t) (l.erase t):=⟨fun i=>by rw [h.nodup.mem_erase_iff,h.mem];exact and_comm,h.srt.sublist List.erase_sublist⟩
 exact h1.congr (fun i=>(hp i).symm) (fun i hi=>hk i hi.1 hi.2)
theorem Sd.comeLast (h:Sd key P l) (t:Nat) (hp:∀ i,P' i↔(P i/\i≠t)\/i=t) (hk:∀ i,P i->i≠t->key' i=key i/\key i < key' t):Sd key' P' (l.erase t ++ [t]):=by
 have h1:Sd key' (fun i=>P i/\i≠t) (l.erase t):=h.erase t (fun _=>Iff.rfl) (fun i hi hn=>(hk i hi hn).1)
 refine ⟨fun i=>?_,List.pairwise_append.2 ⟨h1.srt,by simp,fun a ha b hb=>?_⟩⟩
 ·rw [List.mem_append,h1.mem,List.mem_singleton,hp]
 ·rw [List.mem_singleton] at hb
  subst hb
  have h2:=(h1.mem a).1 ha
  have:=hk a h2.1 h2.2
  omega
theorem Sd.comeFirst (h:Sd key P l) (t:Nat) (hp:∀ i,P' i↔(P i/\i≠t)\/i=t) (hk:∀ i,P i->i≠t->key' i=key i/\key' t < key i):Sd key' P' (t :: l.erase t):=by
 have h1:Sd key' (fun i=>P i/\i≠t) (l.erase t):=h.erase t (fun _=>Iff.rfl) (fun i hi hn=>(hk i hi hn).1)
 refine ⟨fun i=>?_,List.pairwise_cons.2 ⟨fun b hb=>?_,h1.srt⟩⟩
 ·rw [List.mem_cons,h1.mem,hp];exact or_comm
 ·have h2:=(h1.mem b).1 hb
  have:=hk b h2.1 h2.2
  omega
end
def ordM (ts:List Th) (t:Nat):Int:=((ts[t]?).map Th.ord).getD 0
def turnM (ts:List Th) (t:Nat):Int:=((ts[t]?).map Th.turn).getD 0
def Inrow (ts:List Th) (r t:Nat):Prop:=∃ u,ts[t]? = some u/\u.st=1/\u.row=r
def Inwl (act:Nat->Prop) (ts:List Th) (r t:Nat):Prop:=∃ u,ts[t]? = some u/\u.st=2/\u.other=r/\¬ act t
section
variable {ts:List Th}{i t r:Nat}{u:Th}{g:Th->Th}{act act':Nat->Prop}
theorem get_mod (hu:ts[i]? = some u):(ts.modify i g)[t]? = if t=i then some (g u) else ts[t]?:=by
 rw [List.getElem?_modify]
 by_cases e:i=t
 ·subst e;simp [hu]
 ·rw [if_neg (fun x=>e x.symm)];simp [e]
theorem ordM_mod (hu:ts[i]? = some u):ordM (ts.modify i g) t=if t=i then (g u).ord else ordM ts t:=by
 unfold ordM;rw [get_mod hu];split <;> simp
theorem turnM_mod (hu:ts[i]? = some u):turnM (ts.modify i g) t=if t=i then (g u).turn else turnM ts t:=by
 unfold turnM;rw [get_mod hu];split <;> simp
theorem inrow_mod (hu:ts[i]? = some u):Inrow (ts.modify i g) r t↔(t=i/\(g u).st=1/\(g u).row=r)\/(t≠i/\Inrow ts r t):=by
 unfold Inrow
 rw [get_mod hu]
 by_cases e:t=i
 ·simp [e]
 ·simp [e]
theorem inwl_mod (hu:ts[i]? = some u):Inwl act (ts.modify i g) r t↔(t=i/\(g u).st=2/\(g u).other=r/\¬ act i)\/(t≠i/\Inwl act ts r t):=by
 unfold Inwl
 rw [get_mod hu]
 by_cases e:t=i
 ·simp [e]
 ·simp [e]
theorem inrow_at (hu:ts[i]? = some u):Inrow ts r i↔u.st=1/\u.row=r:=by
 unfold Inrow;rw [hu];simp
theorem inwl_at (hu:ts[i]? = some u):Inwl act ts r i↔u.st=2/\u.other=r/\¬ act i:=by
 unfold Inwl;rw [hu];simp
theorem ordM_at (hu:ts[i]? = some u):ordM ts i=u.ord:=by unfold ordM;rw [hu];rfl
theorem turnM_at (hu:ts[i]? = some u):turnM ts i=u.turn:=by unfold turnM;rw [hu];rfl
end
theorem curM_best (ts:List Th):∀ k,k<=ts.length->(curM ts k=-1/\∀ (i:Nat) u,i < k->ts[i]? = some u->u.st≠1) \/
  ∃ (j:Nat) (u:Th),curM ts k=j/\j < k/\ts[j]? = some u/\u.st=1/\∀ (i:Nat) v,i < k->ts[i]? = some v->v.st=1->v.row < u.row\/(v.row=u.row/\u.ord<=v.ord)
 | 0,_=>.inl ⟨rfl,fun i u h=>absurd h (by omega)⟩
 | k+1,h=>by
  obtain ⟨t,ht⟩:∃ t,ts[k]? = some t:=⟨_,List.getElem?_eq_getElem h⟩
  by_cases hst:t.st=1
  ·rcases curM_best ts k (by omega) with ⟨e,hn⟩ | ⟨j,u,e,hj,hu,h1,hb⟩
   ·refine .inr ⟨k,t,?_,by omega,ht,hst,fun i v hi hv hs=>?_⟩
    ·simp only [curM,curStep,ht,e];rw [if_neg (by omega),if_pos (by omega)]
    ·by_cases e2:i=k
     ·subst e2;rw [ht] at hv;cases hv;exact .inr ⟨rfl,Int.le_refl _⟩
     ·exact absurd hs (hn i v (by omega) hv)
   ·by_cases hc:u.row < t.row\/(t.row=u.row/\t.ord < u.ord)
    ·refine .inr ⟨k,t,?_,by omega,ht,hst,fun i v hi hv hs=>?_⟩
     ·simp only [curM,curStep,ht,e,Int.toNat_natCast,hu];rw [if_neg (by omega),if_neg (by omega),if_pos hc]
     ·by_cases e2:i=k
      ·subst e2;rw [ht] at hv;cases hv;exact .inr ⟨rfl,Int.le_refl _⟩
      ·have:=hb i v (by omega) hv hs;omega
    ·refine .inr ⟨j,u,?_,by omega,hu,h1,fun i v hi hv hs=>?_⟩
     ·simp only [curM,curStep,ht,e,Int.toNat_natCast,hu];rw [if_neg (by omega),if_neg (by omega),if_neg hc]
     ·by_cases e2:i=k
      ·subst e2;rw [ht] at hv;cases hv;omega
      ·exact hb i v (by omega) hv hs
  ·have e3:curM ts (k+1)=curM ts k:=by simp only [curM,curStep,ht];rw [if_pos hst]
   rw [e3]
   rcases curM_best ts k (by omega) with ⟨e,hn⟩ | ⟨j,u,e,hj,hu,h1,hb⟩
   ·refine .inl ⟨e,fun i v hi hv=>?_⟩
    by_cases e2:i=k
    ·subst e2;rw [ht] at hv;cases hv;exact hst
    ·exact hn i v (by omega) hv
   ·refine .inr ⟨j,u,e,by omega,hu,h1,fun i v hi hv hs=>?_⟩
    by_cases e2:i=k
    ·subst e2;rw [ht] at hv;cases hv;exact absurd hs hst
    ·exact hb i v (by omega) hv hs
theorem senM_best (ts:List Th) (t f:Int):∀ k,k<=ts.length->(senM ts t f k=-1/\∀ (i:Nat) u,i < k->ts[i]? = some u->¬ (u.st=2/\u.other=t/\(f=-1\/f=i))) \/
  ∃ (j:Nat) (u:Th),senM ts t f k=j/\j < k/\ts[j]? = some u/\(u.st=2/\u.other=t/\(f=-1\/f=j))/\∀ (i:Nat) v,i < k->ts[i]? = some v->v.st=2/\v.other=t/\(f=-1\/f=i)->u.turn<=v.turn
 | 0,_=>.inl ⟨rfl,fun i u h=>absurd h (by omega)⟩
 | k+1,h=>by
  obtain ⟨x,hx⟩:∃ x,ts[k]? = some x:=⟨_,List.getElem?_eq_getElem h⟩
  by_cases hs:x.st≠2\/x.other≠t\/(f≠-1/\f≠k)
  ·have e3:senM ts t f (k+1)=senM ts t f k:=by simp only [senM,senStep,hx];rw [if_pos hs]
   rw [e3]
   rcases senM_best ts t f k (by omega) with ⟨e,hn⟩ | ⟨j,u,e,hj,hu,h1,hb⟩
   ·refine .inl ⟨e,fun i v hi hv=>?_⟩
    by_cases e2:i=k
    ·subst e2;rw [hx] at hv;cases hv;omega
    ·exact hn i v (by omega) hv
   ·refine .inr ⟨j,u,e,by omega,hu,h1,fun i v hi hv hs2=>?_⟩
    by_cases e2:i=k
    ·subst e2;rw [hx] at hv;cases hv;omega
    ·exact hb i v (by omega) hv hs2
  ·have hs':x.st=2/\x.other=t/\(f=-1\/f=k):=by omega
   rcases senM_best ts t f k (by omega) with ⟨e,hn⟩ | ⟨j,u,e,hj,hu,h1,hb⟩
   ·refine .inr ⟨k,x,?_,by omega,hx,hs',fun i v hi hv hs2=>?_⟩
    ·simp only [senM,senStep,hx,e];rw [if_neg hs,if_pos (by omega)]
    ·by_cases e2:i=k
     ·subst e2;rw [hx] at hv;cases hv;exact Int.le_refl _
     ·exact absurd hs2 (hn i v (by omega) hv)
   ·by_cases hc:x.turn < u.turn
    ·refine .inr ⟨k,x,?_,by omega,hx,hs',fun i v hi hv hs2=>?_⟩
     ·simp only [senM,senStep,hx,e,Int.toNat_natCast,hu];rw [if_neg hs,if_neg (by omega),if_pos hc]
     ·by_cases e2:i=k
      ·subst e2;rw [hx] at hv;cases hv;exact Int.le_refl _
      ·have:=hb i v (by omega) hv hs2;omega
    ·refine .inr ⟨j,u,?_,by omega,hu,h1,fun i v hi hv hs2=>?_⟩
     ·simp only [senM,senStep,hx,e,Int.toNat_natCast,hu];rw [if_neg hs,if_neg (by omega),if_neg hc]
     ·by_cases e2:i=k
      ·subst e2;rw [hx] at hv;cases hv;omega
      ·exact hb i v (by omega) hv hs2
def TimeR (u t:Int):Prop:=(u=0/\t=-1)\/∃ z:Int,u=z % 18446744073709551616/\t=wrap64 z
theorem TimeR.at {u t c:Int}(h:TimeR u t) (c0:1<=c) (c1:c<=4611686018427387904):u=c↔t=c:=by
 rcases h with ⟨rfl,rfl⟩ | ⟨z,rfl,rfl⟩
 ·omega
 ·unfold wrap64;omega
structure RelT (act:Nat->Prop) (n:Nat) (i:Nat) (t:Th) (p:PT):Prop where
 sp:p.sp=t.sp
 row:p.row=t.row
 left:p.left=t.left
 st:p.st=t.st
 code:p.code=t.code
 who:p.who=t.who
 ws:p.ws=t.ws
 got:p.got=t.got
 idle:t.st=1->t.time=-1/\(¬ act i->p.time=0)
 talk:t.st≠1\/act i->p.frm=t.frm/\p.win=t.win/\p.wait=t.wait/\(p.wait<=0->p.time=0)/\-1<=p.win
 time:t.st≠1->¬ act i->TimeR p.time t.time
 send:t.st=2->¬ act i->(∃ r:Nat,t.other=r/\r < n)/\p.tgt=t.other/\p.pw=t.mw/\p.item=(if t.lends=true then t.item else -1)/\p.rt=t.rt/\-1<=t.item/\t.item<=5
structure Rel (act:Nat->Prop) (M:PM) (K:RM):Prop where
 len:M.threads.length=K.threads.length
 th:∀ (i:Nat) t p,K.threads[i]? = some t->M.threads[i]? = some p->RelT act K.threads.length i t p
 rows:∀ r,r < 4->Sd (ordM K.threads) (Inrow K.threads r) (M.ln r)
 wl:∀ (r:Nat) p,M.threads[r]? = some p->Sd (turnM K.threads) (Inwl act K.threads r) p.wl
 sp:M.sp=K.sp
 ps:M.passes=K.passes
 lf:M.leaves=K.leaves
 fr:M.fr=K.fr
 cl:M.clock=K.clock
theorem Rel.get {act:Nat->Prop}{M:PM}{K:RM}(h:Rel act M K){i:Nat}{t:Th}(ht:K.threads[i]? = some t):∃ p,M.threads[i]? = some p/\RelT act K.threads.length i t p:=by
 have hl:i < M.threads.length:=by rw [h.len];exact (List.getElem?_eq_some_iff.1 ht).1
 exact ⟨_,List.getElem?_eq_getElem hl,h.th i t _ ht (List.getElem?_eq_getElem hl)⟩
theorem Rel.cur_none {act:Nat->Prop}{M:PM}{K:RM}(h:Rel act M K) (ft:K.Fit) (hn:∀ r,r < 4->M.ln r=[]):K.cur=-1:=by
 rcases curM_best K.threads K.threads.length (Nat.le_refl _) with ⟨e,_⟩ | ⟨j,u,e,hj,hu,h1,_⟩
 ·exact e
 ·have f:=ft.th j u hu
  have hm:j∈M.ln u.row.toNat:=((h.rows u.row.toNat (by have:=f.r1;omega)).mem j).2 ⟨u,hu,h1,by have:=f.r0;omega⟩
  rw [hn _ (by have:=f.r1;omega)] at hm
  simp at hm
theorem Rel.cur_head {act:Nat->Prop}{M:PM}{K:RM}(h:Rel act M K) (ft:K.Fit){r t:Nat}{rest:List Nat}(h4:r < 4) (hr:M.ln r=t :: rest) (hi:∀ s,r < s->s < 4->M.ln s=[]):K.cur=t:=by
 have S:=h.rows r h4
 obtain ⟨v,hv,v1,v2⟩:=(S.mem t).1 (by rw [hr];simp)
 have hvl:=(List.getElem?_eq_some_iff.1 hv).1
 rcases curM_best K.threads K.threads.length (Nat.le_refl _) with ⟨_,hno⟩ | ⟨j,u,e,hj,hu,h1,hb⟩
 ·exact absurd v1 (hno t v hvl hv)
 ·have f:=ft.th j u hu
  have b:=hb t v hvl hv v1
  have hm:j∈M.ln u.row.toNat:=((h.rows u.row.toNat (by have:=f.r1;omega)).mem j).2 ⟨u,hu,h1,by have:=f.r0;omega⟩
  have h2:u.row.toNat<=r:=by
   rcases Nat.lt_or_ge r u.row.toNat with hlt | hge
   ·rw [hi _ hlt (by have:=f.r1;omega)] at hm;simp at hm
   ·exact hge
  have hrr:u.row.toNat=r:=by have:=f.r0;omega
  rw [hrr,hr] at hm
  show curM K.threads K.threads.length=t
  rw [e]
  rcases List.mem_cons.1 hm with e2 | hm
  ·rw [e2]
  ·have hp:=S.srt
   rw [hr] at hp
   have:=(List.pairwise_cons.1 hp).1 j hm
   rw [ordM_at hv,ordM_at hu] at this
   omega
theorem Rel.sen {act:Nat->Prop}{M:PM}{K:RM}(h:Rel act M K) (ft:K.Fit){t:Nat}{p:PT}(hp:M.threads[t]? = some p) (f:Int) (ha:∀ i,act i->i=t) :
  (∀ s,p.wl.find? (fun (i:Nat)=>f == -1 || f == (i:Int))=some s->senM K.threads t f K.threads.length=s/\s∈p.wl/\s≠t)/\(p.wl.find? (fun (i:Nat)=>f == -1 || f == (i:Int))=none->senM K.threads t f K.threads.length=-1):=by
 have S:=h.wl t p hp
 have hin:∀ (i:Nat) u,K.threads[i]? = some u->u.st=2->u.other=t->i∈p.wl:=fun i u hu h1 h2=>(S.mem i).2 ⟨u,hu,h1,h2,fun hai=>(ft.th i u hu).ot h1 (by rw [h2,ha i hai])⟩
 constructor
 ·intro s hs
  have hm:=List.mem_of_find?_eq_some hs
  have hq:=List.find?_some hs
  have hq:f=-1\/f=(s:Int):=by simpa using hq
  obtain ⟨v,hv,v1,v2,v3⟩:=(S.mem s).1 hm
  have hvl:=(List.getElem?_eq_some_iff.1 hv).1
  refine ⟨?_,hm,fun e=>?_⟩
  ·rcases senM_best K.threads t f K.threads.length (Nat.le_refl _) with ⟨_,hno⟩ | ⟨j,u,e,hj,hu,hc,hb⟩
   ·exact absurd ⟨v1,v2,hq⟩ (hno s v hvl hv)
   ·rw [e]
    have b:=hb s v hvl hv ⟨v1,v2,hq⟩
    have hjm:=hin j u hu hc.1 hc.2.1
    by_cases ejs:j=s
    ·rw [ejs]
    ·exfalso
     obtain ⟨h0,xs,ys,hl,hfalse⟩:=List.find?_eq_some_iff_append.1 hs
     rw [hl] at hjm
     rcases List.mem_append.1 hjm with hj1 | hj1
     ·have:=hfalse j hj1
      have hc3:=hc.2.2
      simp at this
      omega
     ·rcases List.mem_cons.1 hj1 with hj2 | hj2
      ·exact ejs hj2
      ·have hs2:=S.srt
       rw [hl] at hs2
       have h3:=(List.pairwise_cons.1 (List.pairwise_append.1 hs2).2.1).1 j hj2
       rw [turnM_at hv,turnM_at hu] at h3
       omega
  ·subst e
   exact (ft.th s v hv).ot v1 v2
 ·intro hn
  rcases senM_best K.threads t f K.threads.length (Nat.le_refl _) with ⟨e,_⟩ | ⟨j,u,e,hj,hu,hc,hb⟩
  ·exact e
  ·have hjm:=hin j u hu hc.1 hc.2.1
   have:=List.find?_eq_none.1 hn j hjm
   have hc3:=hc.2.2
   simp at this
   omega
open Go.RowKit
def Wo (act:Nat->Prop) (i:Nat):Nat->Prop:=fun j=>act j/\j≠i
def Wi (act:Nat->Prop) (i:Nat):Nat->Prop:=fun j=>act j\/j=i
section
variable {act act':Nat->Prop}{ts:List Th}{r i j n:Nat}{t:Th}{p:PT}
theorem inwl_act (h:act' j↔act j):Inwl act' ts r j↔Inwl act ts r j:=by unfold Inwl;simp only [h]
theorem RelT.to_act (h:RelT act n i t p) (e:act' i↔act i):RelT act' n i t p:=
 ⟨h.sp,h.row,h.left,h.st,h.code,h.who,h.ws,h.got,fun a=>⟨(h.idle a).1,fun b=>(h.idle a).2 (fun c=>b (e.2 c))⟩,fun a=>h.talk (a.imp id e.1),fun a b=>h.time a (fun c=>b (e.2 c)),fun a b=>h.send a (fun c=>b (e.2 c))⟩
theorem RelT.enter (h:RelT act n i t p) (ha:act' i) (h1:t.st≠1):RelT act' n i t p:=
 ⟨h.sp,h.row,h.left,h.st,h.code,h.who,h.ws,h.got,fun a=>absurd a h1,fun _=>h.talk (.inl h1),fun _ b=>absurd ha b,fun _ b=>absurd ha b⟩
end
theorem Rel.th_upd {act act':Nat->Prop}{M:PM}{K:RM}(h:Rel act M K){i:Nat}{f:PT->PT}{g:Th->Th}(hi:∀ t p,K.threads[i]? = some t->M.threads[i]? = some p->RelT act K.threads.length i t p->RelT act' K.threads.length i (g t) (f p)) (ho:∀ j,j≠i->(act' j↔act j)) :
  ∀ (j:Nat) t' p',(K.threads.modify i g)[j]? = some t'->(M.threads.modify i f)[j]? = some p'->RelT act' K.threads.length j t' p':=by
 intro j t' p' ht hp
 rw [List.getElem?_modify] at ht hp
 rcases hx:K.threads[j]? with _ | x
 ·rw [hx] at ht;simp at ht
 ·rcases hy:M.threads[j]? with _ | y
  ·rw [hy] at hp;simp at hp
  ·rw [hx] at ht
   rw [hy] at hp
   by_cases e:i=j
   ·subst e
    simp at ht hp
    rw [<- ht,<- hp]
    exact hi x y hx hy (h.th i x y hx hy)
   ·simp [e] at ht hp
    rw [<- ht,<- hp]
    exact (h.th j x y hx hy).to_act (ho j (fun a=>e a.symm))
theorem wl_upd {M:PM}{i:Nat}{f:PT->PT}(hf:∀ p,(f p).wl=p.wl){r:Nat}{p':PT}(h:(M.threads.modify i f)[r]? = some p'):∃ p,M.threads[r]? = some p/\p'.wl=p.wl:=by
 rw [List.getElem?_modify] at h
 rcases hy:M.threads[r]? with _ | y
 ·rw [hy] at h;simp at h
 ·rw [hy] at h
  by_cases e:i=r
  ·simp [e] at h;exact ⟨y,rfl,by rw [<- h,hf]⟩
  ·simp [e] at h;exact ⟨y,rfl,by rw [<- h]⟩
section
variable {act:Nat->Prop}{M:PM}{K:RM}{i:Nat}{t:Th}
theorem Rel.over (h:Rel act M K) (ht:K.threads[i]? = some t) (s1:t.st=1) (e:Int):Rel (Wo act i) (M.upd i (overP e (-1) [] (-1))) (K.over i e):=by
 refine ⟨by simpa [PM.upd,RM.over,RM.upd] using h.len,?_,fun r hr=>?_,fun r p' hp=>?_,h.sp,h.ps,h.lf,h.fr,h.cl⟩
 ·have:=h.th_upd (act':=Wo act i) (i:=i) (f:=overP e (-1) [] (-1)) (g:=fun u=>{ u with st:=1,time:=-1,code:=e,who:=-1,ws:=[],got:=-1 }) (fun t p _ _ q=>⟨q.sp,q.row,q.left,rfl,rfl,rfl,rfl,rfl,fun _=>⟨rfl,fun _=>rfl⟩,fun a=>a.elim (fun a=>absurd rfl a) (fun a=>absurd rfl a.2),fun a=>absurd rfl a,fun a=>by simp at a⟩) (fun j hj=>⟨fun a=>a.1,fun a=>⟨a,hj⟩⟩)
  intro j t' p' hj hp'
  have e9:(K.over i e).threads.length=K.threads.length:=by simp [RM.over,RM.upd]
  rw [e9]
  exact this j t' p' hj hp'
 ·refine (h.rows r hr).congr (fun j=>?_) (fun j _=>?_)
  ·show Inrow K.threads r j↔Inrow (K.threads.modify i _) r j
   rw [inrow_mod ht]
   by_cases e:j=i
   ·subst e;rw [inrow_at ht];simp [s1]
   ·simp [e]
  ·show ordM (K.threads.modify i _) j=_
   rw [ordM_mod ht]
   split
   ·rename_i e;subst e;rw [ordM_at ht]
   ·rfl
 ·obtain ⟨p,hp,e1⟩:=wl_upd (f:=overP e (-1) [] (-1)) (fun _=>rfl) hp
  rw [e1]
  refine (h.wl r p hp).congr (fun j=>?_) (fun j _=>?_)
  ·show _↔Inwl _ (K.threads.modify i _) r j
   rw [inwl_mod ht]
   by_cases e:j=i
   ·subst e;rw [inwl_at ht];simp [s1]
   ·simp [e,inwl_act (act:=act) (act':=Wo act i) (j:=j) ⟨fun a=>a.1,fun a=>⟨a,e⟩⟩]
  ·show turnM (K.threads.modify i _) j=_
   rw [turnM_mod ht]
   split
   ·rename_i e;subst e;rw [turnM_at ht]
   ·rfl
theorem over_last (ht:K.threads[i]? = some t) (e:Int):((K.over i e).toLast i).threads=K.threads.modify i (fun u=>{ u with st:=1,time:=-1,code:=e,who:=-1,ws:=[],got:=-1,ord:=K.last }):=
 modify_two (h:=fun u:Th=>{ u with st:=1,time:=-1,code:=e,who:=-1,ws:=[],got:=-1,ord:=K.last }) ht rfl
theorem Rel.rowsLast (h:Rel act M K) (ft:K.Fit){b:Nat}(nm:K.Num b) (ht:K.threads[i]? = some t){g:Th->Th}(g1:(g t).st=1) (g2:(g t).row=t.row) (g3:(g t).ord=K.last) (r:Nat) (hr:r < 4) :
  Sd (ordM (K.threads.modify i g)) (Inrow (K.threads.modify i g) r) ((M.setLn t.row.toNat ((M.ln t.row.toNat).erase i ++ [i])).ln r):=by
 have f:=ft.th i t ht
 have r0:=f.r0
 simp only [PM.setLn]
 by_cases e:r=t.row.toNat
 ·rw [if_pos e,<- e]
  refine (h.rows r hr).comeLast i (fun j=>?_) (fun j hj hn=>?_)
  ·rw [inrow_mod ht]
   by_cases e2:j=i
   ·subst e2;simp [g1,g2];omega
   ·simp [e2]
  ·rw [ordM_mod ht,ordM_mod ht,if_neg hn,if_pos rfl,g3]
   obtain ⟨v,hv,_⟩:=hj
   have:=nm.o0 j v hv
   rw [ordM_at hv]
   exact ⟨rfl,this.2⟩
 ·rw [if_neg e]
  refine (h.rows r hr).congr (fun j=>?_) (fun j hj=>?_)
  ·rw [inrow_mod ht]
   by_cases e2:j=i
   ·subst e2
    rw [inrow_at ht]
    simp [g2]
    intro a
    omega
   ·simp [e2]
  ·rw [ordM_mod ht]
   by_cases e2:j=i
   ·subst e2
    obtain ⟨v,hv,_,a⟩:=hj
    rw [ht] at hv
    cases hv
    omega
   ·rw [if_neg e2]
theorem Rel.rowsFirst (h:Rel act M K) (ft:K.Fit){b:Nat}(nm:K.Num b) (ht:K.threads[i]? = some t){g:Th->Th}(g1:(g t).st=1) (g2:(g t).row=t.row) (g3:(g t).ord=K.first) (r:Nat) (hr:r < 4) :
  Sd (ordM (K.threads.modify i g)) (Inrow (K.threads.modify i g) r) ((M.setLn t.row.toNat (i :: (M.ln t.row.toNat).erase i)).ln r):=by
 have f:=ft.th i t ht
 have r0:=f.r0
 simp only [PM.setLn]
 by_cases e:r=t.row.toNat
 ·rw [if_pos e,<- e]
  refine (h.rows r hr).comeFirst i (fun j=>?_) (fun j hj hn=>?_)
  ·rw [inrow_mod ht]
   by_cases e2:j=i
   ·subst e2;simp [g1,g2];omega
   ·simp [e2]
  ·rw [ordM_mod ht,ordM_mod ht,if_neg hn,if_pos rfl,g3]
   obtain ⟨v,hv,_⟩:=hj
   have:=nm.o0 j v hv
   rw [ordM_at hv]
   exact ⟨rfl,this.1⟩
 ·rw [if_neg e]
  refine (h.rows r hr).congr (fun j=>?_) (fun j hj=>?_)
  ·rw [inrow_mod ht]
   by_cases e2:j=i
   ·subst e2
    rw [inrow_at ht]
    simp [g2]
    intro a
    omega
   ·simp [e2]
  ·rw [ordM_mod ht]
   by_cases e2:j=i
   ·subst e2
    obtain ⟨v,hv,_,a⟩:=hj
    rw [ht] at hv
    cases hv
    omega
   ·rw [if_neg e2]
theorem Rel.rowsOut (h:Rel act M K) (ft:K.Fit) (ht:K.threads[i]? = some t){g:Th->Th}(g1:(g t).st≠1) (r:Nat) (hr:r < 4) :
  Sd (ordM (K.threads.modify i g)) (Inrow (K.threads.modify i g) r) ((M.setLn t.row.toNat ((M.ln t.row.toNat).erase i)).ln r):=by
 have f:=ft.th i t ht
 have r0:=f.r0
 simp only [PM.setLn]
 by_cases e:r=t.row.toNat
 ·rw [if_pos e,<- e]
  refine (h.rows r hr).erase i (fun j=>?_) (fun j hj hn=>?_)
  ·rw [inrow_mod ht]
   by_cases e2:j=i
   ·subst e2;simp [g1]
   ·simp [e2]
  ·rw [ordM_mod ht,if_neg hn]
 ·rw [if_neg e]
  refine (h.rows r hr).congr (fun j=>?_) (fun j hj=>?_)
  ·rw [inrow_mod ht]
   by_cases e2:j=i
   ·subst e2
    rw [inrow_at ht]
    simp [g1]
    intro _ a;omega
   ·simp [e2]
  ·rw [ordM_mod ht]
   by_cases e2:j=i
   ·subst e2
    obtain ⟨v,hv,_,a⟩:=hj
    rw [ht] at hv
    cases hv
    omega
   ·rw [if_neg e2]
theorem Rel.wlSame {act':Nat->Prop}(h:Rel act M K) (ht:K.threads[i]? = some t) (hn:t.st≠2\/act i){g:Th->Th}(g1:(g t).st≠2\/act' i) (ho:∀ j,j≠i->(act' j↔act j)){r:Nat}{p:PT}(hp:M.threads[r]? = some p) :
  Sd (turnM (K.threads.modify i g)) (Inwl act' (K.threads.modify i g) r) p.wl:=by
 refine (h.wl r p hp).congr (fun j=>?_) (fun j hj=>?_)
 ·rw [inwl_mod ht]
  by_cases e:j=i
  ·subst e
   rw [inwl_at ht]
   simp
   constructor
   ·rintro ⟨a,_,b⟩;rcases hn with hn | hn;exact absurd a hn;exact absurd hn b
   ·rintro ⟨a,_,b⟩;rcases g1 with g1 | g1;exact absurd a g1;exact absurd g1 b
  ·simp [e,inwl_act (ho j e)]
 ·rw [turnM_mod ht]
  by_cases e:j=i
  ·subst e
   obtain ⟨v,hv,a,_,b⟩:=hj
   rw [ht] at hv
   cases hv
   rcases hn with hn | hn
   ·exact absurd a hn
   ·exact absurd hn b
  ·rw [if_neg e]
theorem wo_ne:∀ j,j≠i->(Wo act i j↔act j):=fun _j hj=>⟨fun a=>a.1,fun a=>⟨a,hj⟩⟩
theorem wi_ne:∀ j,j≠i->(Wi act i j↔act j):=fun _j hj=>⟨fun a=>a.elim id (fun e=>absurd e hj),.inl⟩
theorem Rel.overLast (h:Rel act M K) (ft:K.Fit){b:Nat}(nm:K.Num b) (ht:K.threads[i]? = some t) (hn:t.st≠2\/act i) (e:Int) :
  Rel (Wo act i) ((M.setLn t.row.toNat ((M.ln t.row.toNat).erase i ++ [i])).upd i (overP e (-1) [] (-1))) ((K.over i e).toLast i):=by
 have ek:=over_last ht e
 refine ⟨?_,?_,fun r hr=>?_,fun r p' hp=>?_,h.sp,h.ps,h.lf,h.fr,h.cl⟩
 ·rw [ek];simpa [PM.upd,PM.setLn] using h.len
 ·rw [ek]
  have:=h.th_upd (act':=Wo act i) (i:=i) (f:=overP e (-1) [] (-1)) (g:=fun u=>{ u with st:=1,time:=-1,code:=e,who:=-1,ws:=[],got:=-1,ord:=K.last }) (fun t p _ _ q=>⟨q.sp,q.row,q.left,rfl,rfl,rfl,rfl,rfl,fun _=>⟨rfl,fun _=>rfl⟩,fun a=>a.elim (fun a=>absurd rfl a) (fun a=>absurd rfl a.2),fun a=>absurd rfl a,fun a=>by simp at a⟩) wo_ne
  intro j t' p' hj hp'
  rw [show (K.threads.modify i _).length=K.threads.length by simp]
  exact this j t' p' hj hp'
 ·rw [ek]
  exact h.rowsLast ft nm ht (g:=fun u=>{ u with st:=1,time:=-1,code:=e,who:=-1,ws:=[],got:=-1,ord:=K.last }) rfl rfl rfl r hr
 ·rw [ek]
  obtain ⟨p,hp,e1⟩:=wl_upd (M:=M) (f:=overP e (-1) [] (-1)) (fun _=>rfl) hp
  rw [e1]
  exact h.wlSame ht hn (.inl (by simp)) wo_ne hp
def timP (clock:Int) (p:PT):Int:=if 0 < p.wait then (clock+p.wait) % 18446744073709551616 else p.time
theorem timR {c:Int}{p:PT}{t:Th}(hw:p.wait=t.wait) (hz:p.wait<=0->p.time=0):TimeR (timP c p) (tim c t.wait):=by
 unfold timP tim
 rw [hw] at hz ⊢
 by_cases e:0 < t.wait
 ·rw [if_pos e,if_pos e];exact .inr ⟨c+t.wait,rfl,rfl⟩
 ·rw [if_neg e,if_neg e];exact .inl ⟨hz (by omega),rfl⟩
theorem timZ {c:Int}{p:PT}(hz:p.wait<=0->p.time=0):p.wait<=0->timP c p=0:=fun e=>by
 unfold timP;rw [if_neg (by omega)];exact hz e
theorem Rel.waits3 (h:Rel act M K) (ft:K.Fit) (ht:K.threads[i]? = some t) (ha:act i) :
  Rel (Wo act i) ((M.setLn t.row.toNat ((M.ln t.row.toNat).erase i)).upd i (fun p=>{ p with st:=3,time:=timP M.clock p })) (K.waits i 3 (-1)):=by
 refine ⟨?_,?_,fun r hr=>?_,fun r p' hp=>?_,h.sp,h.ps,h.lf,h.fr,h.cl⟩
 ·simpa [PM.upd,PM.setLn,RM.waits,RM.upd] using h.len
 ·have:=h.th_upd (act':=Wo act i) (i:=i) (f:=fun p=>{ p with st:=3,time:=timP M.clock p }) (g:=fun u=>{ u with st:=3,other:=-1,turn:=K.last,time:=tim K.clock u.wait }) (fun t p _ _ q=>by
    have ta:=q.talk (.inr ha)
    exact ⟨q.sp,q.row,q.left,rfl,q.code,q.who,q.ws,q.got,fun a=>by simp at a,fun _=>⟨ta.1,ta.2.1,ta.2.2.1,timZ ta.2.2.2.1,ta.2.2.2.2⟩,fun _ _=>by rw [h.cl];exact timR ta.2.2.1 ta.2.2.2.1,fun a=>by simp at a⟩) wo_ne
  intro j t' p' hj hp'
  have e9:(K.waits i 3 (-1)).threads.length=K.threads.length:=by simp [RM.waits,RM.upd]
  rw [e9]
  exact this j t' p' hj hp'
 ·exact h.rowsOut ft ht (g:=fun u=>{ u with st:=3,other:=-1,turn:=K.last,time:=tim K.clock u.wait }) (by simp) r hr
 ·obtain ⟨p,hp,e1⟩:=wl_upd (M:=M) (f:=fun p=>{ p with st:=3,time:=timP M.clock p }) (fun _=>rfl) hp
  rw [e1]
  exact h.wlSame ht (.inr ha) (g:=fun u=>{ u with st:=3,other:=-1,turn:=K.last,time:=tim K.clock u.wait }) (.inl (by simp)) wo_ne hp
def Par (t:Th) (p:PT):Prop:=p.pw=t.mw/\p.item=(if t.lends=true then t.item else -1)/\p.rt=t.rt/\-1<=t.item/\t.item<=5
theorem Rel.waits2 (h:Rel act M K) (ft:K.Fit){b:Nat}(nm:K.Num b) (ht:K.threads[i]? = some t) (ha:act i){p:PT}(hp:M.threads[i]? = some p) (hpar:Par t p){r:Nat}(hr:r < K.threads.length) (hri:r≠i) :
  Rel (Wo act i) (((M.upd i (fun p=>{ p with tgt:=r })).upd r (fun p=>{ p with wl:=p.wl.erase i ++ [i] })).setLn t.row.toNat ((M.ln t.row.toNat).erase i) |>.upd i (fun p=>{ p with st:=2,time:=timP M.clock p })) (K.waits i 2 r):=by
 obtain ⟨q,hq⟩:∃ q,M.threads[r]? = some q:=⟨_,List.getElem?_eq_getElem (by rw [h.len];exact hr)⟩
 have em:(((M.threads.modify i (fun p=>{ p with tgt:=(r:Int) })).modify r (fun p=>{ p with wl:=p.wl.erase i ++ [i] })).modify i (fun p=>{ p with st:=2,time:=timP M.clock p }))=(M.threads.modify i (fun p=>{ p with tgt:=(r:Int),st:=2,time:=timP M.clock p })).modify r (fun p=>{ p with wl:=p.wl.erase i ++ [i] }):=by
  apply List.ext_getElem?
  intro j
  simp only [List.getElem?_modify]
  rcases hx:M.threads[j]? with _ | x
  ·simp
  ·by_cases e1:i=j
   ·have e2:¬ r=j:=by omega
    simp [e1,e2,timP]
   ·by_cases e2:r=j <;> simp [e1,e2]
 have hnm:=nm.t0
 refine ⟨?_,?_,fun r' hr'=>?_,fun r' p' hp'=>?_,h.sp,h.ps,h.lf,h.fr,h.cl⟩
 ·simpa [PM.upd,PM.setLn,RM.waits,RM.upd] using h.len
 ·have:=h.th_upd (act':=Wo act i) (i:=i) (f:=fun p=>{ p with tgt:=(r:Int),st:=2,time:=timP M.clock p }) (g:=fun u=>{ u with st:=2,other:=(r:Int),turn:=K.last,time:=tim K.clock u.wait }) (fun t' p' ht' hp' q=>by
    rw [ht] at ht';cases ht'
    rw [hp] at hp';cases hp'
    have ta:=q.talk (.inr ha)
    exact ⟨q.sp,q.row,q.left,rfl,q.code,q.who,q.ws,q.got,fun a=>by simp at a,fun _=>⟨ta.1,ta.2.1,ta.2.2.1,timZ ta.2.2.2.1,ta.2.2.2.2⟩,fun _ _=>by rw [h.cl];exact timR ta.2.2.1 ta.2.2.2.1,fun _ _=>⟨⟨r,rfl,hr⟩,rfl,hpar.1,hpar.2.1,hpar.2.2.1,hpar.2.2.2.1,hpar.2.2.2.2⟩⟩) wo_ne
  intro j t' p' ht' hp'
  have hp2:(((M.threads.modify i (fun p=>{ p with tgt:=(r:Int) })).modify r (fun p=>{ p with wl:=p.wl.erase i ++ [i] })).modify i (fun p=>{ p with st:=2,time:=timP M.clock p }))[j]? = some p':=hp'
  rw [em,List.getElem?_modify] at hp2
  rcases hy:(M.threads.modify i (fun p=>{ p with tgt:=(r:Int),st:=2,time:=timP M.clock p }))[j]? with _ | y
  ·rw [hy] at hp2;simp at hp2
  ·rw [hy] at hp2
   have R:=this j t' y ht' hy
   have hl:(K.waits i 2 r).threads.length=K.threads.length:=by simp [RM.waits,RM.upd]
   rw [hl]
   by_cases e:r=j
   ·simp [e] at hp2
    rw [<- hp2]
    exact ⟨R.sp,R.row,R.left,R.st,R.code,R.who,R.ws,R.got,R.idle,R.talk,R.time,R.send⟩
   ·simp [e] at hp2
    rw [<- hp2]
    exact R
 ·exact h.rowsOut ft ht (g:=fun u=>{ u with st:=2,other:=(r:Int),turn:=K.last,time:=tim K.clock u.wait }) (by simp) r' hr'
 ·have hp2:(((M.threads.modify i (fun p=>{ p with tgt:=(r:Int) })).modify r (fun p=>{ p with wl:=p.wl.erase i ++ [i] })).modify i (fun p=>{ p with st:=2,time:=timP M.clock p }))[r']? = some p':=hp'
  rw [em,List.getElem?_modify] at hp2
  rcases hy:(M.threads.modify i (fun p=>{ p with tgt:=(r:Int),st:=2,time:=timP M.clock p }))[r']? with _ | y
  ·rw [hy] at hp2;simp at hp2
  ·rw [hy] at hp2
   obtain ⟨z,hz,e1⟩:=wl_upd (M:=M) (f:=fun p=>{ p with tgt:=(r:Int),st:=2,time:=timP M.clock p }) (fun _=>rfl) hy
   have W:=h.wl r' z hz
   show Sd (turnM (K.threads.modify i (fun u=>{ u with st:=2,other:=(r:Int),turn:=K.last,time:=tim K.clock u.wait }))) (Inwl (Wo act i) (K.threads.modify i (fun u=>{ u with st:=2,other:=(r:Int),turn:=K.last,time:=tim K.clock u.wait })) r') p'.wl
   by_cases e:r=r'
   ·subst e
    simp at hp2
    rw [<- hp2]
    show Sd _ _ (y.wl.erase i ++ [i])
    rw [e1]
    refine W.comeLast i (fun j=>?_) (fun j hj hn=>?_)
    ·rw [inwl_mod ht]
     by_cases e2:j=i
     ·subst e2;simp [Wo]
     ·simp [e2,inwl_act (wo_ne (act:=act) j e2)]
    ·rw [turnM_mod ht,turnM_mod ht,if_neg hn,if_pos rfl]
     obtain ⟨v,hv,a,_⟩:=hj
     rw [turnM_at hv]
     exact ⟨rfl,(hnm j v hv (by omega)).2⟩
   ·simp [e] at hp2
    rw [<- hp2,e1]
    refine W.congr (fun j=>?_) (fun j hj=>?_)
    ·rw [inwl_mod ht]
     by_cases e2:j=i
     ·subst e2
      rw [inwl_at ht]
      simp [ha,Wo]
      omega
     ·simp [e2,inwl_act (wo_ne (act:=act) j e2)]
    ·rw [turnM_mod ht]
     by_cases e2:j=i
     ·subst e2
      obtain ⟨v,hv,a,_,b⟩:=hj
      exact absurd ha b
     ·rw [if_neg e2]
end
open Go.RowKit
noncomputable def lendP (L:List Lf) (asp item rt bsp win:Int):List Lf×Int:=
 if item < 0\/win < 0 then (L,-1) else
  match findLf (goneL L bsp win true) asp item with
  | none=>(goneL L bsp win true,-1)
  | some l=>if bits .and .i64 l.rt rt=0 then (goneL L bsp win true,-1) else (goneL L bsp win true ++ [⟨bsp,win,l.fr,bits .and .i64 l.rt rt,asp,item⟩],win)
theorem lendL_P (L:List Lf) (a b:Th):lendL L a b=lendP L a.sp (if a.lends=true then a.item else -1) a.rt b.sp b.win:=by
 unfold lendL lendP
 by_cases e:a.lends=true
 ·simp only [e,if_true,Bool.true_eq_false,or_false]
  by_cases q:a.item < 0\/b.win < 0
  ·rw [if_pos q,if_pos q]
  ·rw [if_neg q,if_neg q]
   cases findLf (goneL L b.sp b.win true) a.sp a.item <;> rfl
 ·simp [e]
section
variable {act:Nat->Prop}{M:PM}{K:RM}{i:Nat}{t:Th}
theorem Rel.parcel (h:Rel act M K) (ha:act i) (f:PT->PT) (hf:∀ p,∃ a b c d,f p={ p with tgt:=a,pw:=b,item:=c,rt:=d }):Rel act (M.upd i f) K:=by
 refine ⟨by simpa [PM.upd] using h.len,fun j t' p' ht hp=>?_,h.rows,fun r p' hp=>?_,h.sp,h.ps,h.lf,h.fr,h.cl⟩
 ·have hp2:(M.threads.modify i f)[j]? = some p':=hp
  rw [List.getElem?_modify] at hp2
  rcases hy:M.threads[j]? with _ | y
  ·rw [hy] at hp2;simp at hp2
  ·rw [hy] at hp2
   have R:=h.th j t' y ht hy
   by_cases e:i=j
   ·subst e
    simp at hp2
    obtain ⟨a,b,c,d,ef⟩:=hf y
    rw [<- hp2,ef]
    exact ⟨R.sp,R.row,R.left,R.st,R.code,R.who,R.ws,R.got,R.idle,R.talk,R.time,fun _ b=>absurd ha b⟩
   ·simp [e] at hp2
    rw [<- hp2];exact R
 ·obtain ⟨p,hp,e1⟩:=wl_upd (M:=M) (f:=f) (fun p=>by obtain ⟨a,b,c,d,ef⟩:=hf p;rw [ef]) hp
  rw [e1]
  exact h.wl r p hp
theorem Rel.lendsTo (h:Rel act M K) (ha:act i) (ht:K.threads[i]? = some t) (b:Bool):Rel act M (K.lendsTo i b):=by
 have hl:(K.lendsTo i b).threads.length=K.threads.length:=by simp [RM.lendsTo,RM.upd]
 refine ⟨by rw [hl];exact h.len,fun j t' p' hj hp=>?_,fun r hr=>?_,fun r p' hp=>?_,h.sp,h.ps,h.lf,h.fr,h.cl⟩
 ·rw [hl]
  have hj2:(K.threads.modify i (fun u=>{ u with lends:=b }))[j]? = some t':=hj
  rw [get_mod ht] at hj2
  split at hj2
  ·rename_i e
   subst e
   cases hj2
   have R:=h.th j t p' ht hp
   exact ⟨R.sp,R.row,R.left,R.st,R.code,R.who,R.ws,R.got,R.idle,R.talk,R.time,fun _ b=>absurd ha b⟩
  ·exact h.th j t' p' hj2 hp
 ·refine (h.rows r hr).congr (fun j=>?_) (fun j _=>?_)
  ·show _↔Inrow (K.threads.modify i _) r j
   rw [inrow_mod ht]
   by_cases e:j=i
   ·subst e;rw [inrow_at ht];simp
   ·simp [e]
  ·show ordM (K.threads.modify i _) j=_
   rw [ordM_mod ht]
   split
   ·rename_i e;subst e;rw [ordM_at ht]
   ·rfl
 ·exact h.wlSame ht (.inr ha) (g:=fun u=>{ u with lends:=b }) (.inr ha) (fun _ _=>Iff.rfl) hp
theorem Rel.leaves {r:Nat} {q:PT} (h:Rel act M K) (hq:M.threads[r]? = some q) (hi:i∈q.wl):Rel (Wi act i) (M.upd r (fun p=>{ p with wl:=q.wl.erase i })) K:=by
 obtain ⟨u,hu,u1,u2,u3⟩:=((h.wl r q hq).mem i).1 hi
 refine ⟨by simpa [PM.upd] using h.len,fun j t' p' ht hp=>?_,h.rows,fun r' p' hp=>?_,h.sp,h.ps,h.lf,h.fr,h.cl⟩
 ·have hp2:(M.threads.modify r (fun p=>{ p with wl:=q.wl.erase i }))[j]? = some p':=hp
  rw [get_modA hq] at hp2
  have key:∀ y,M.threads[j]? = some y->RelT (Wi act i) K.threads.length j t' y:=by
   intro y hy
   have R:=h.th j t' y ht hy
   by_cases e:j=i
   ·subst e
    rw [hu] at ht
    cases ht
    exact R.enter (.inr rfl) (by omega)
   ·exact R.to_act (wi_ne j e)
  split at hp2
  ·rename_i e
   subst e
   cases hp2
   have R:=key q hq
   exact ⟨R.sp,R.row,R.left,R.st,R.code,R.who,R.ws,R.got,R.idle,R.talk,R.time,R.send⟩
  ·exact key p' hp2
 ·have hp2:(M.threads.modify r (fun p=>{ p with wl:=q.wl.erase i }))[r']? = some p':=hp
  rw [get_modA hq] at hp2
  split at hp2
  ·rename_i e
   subst e
   cases hp2
   refine (h.wl r' q hq).erase i (fun j=>?_) (fun j _ _=>rfl)
   by_cases e:j=i
   ·subst e
    rw [inwl_at hu]
    simp [Wi]
   ·rw [inwl_act (wi_ne (act:=act) j e)];simp [e]
  ·rename_i e
   refine (h.wl r' p' hp2).congr (fun j=>?_) (fun j _=>rfl)
   by_cases e2:j=i
   ·subst e2
    rw [inwl_at hu,inwl_at hu]
    simp [Wi]
    omega
   ·rw [inwl_act (wi_ne (act:=act) j e2)]
theorem Rel.enters (h:Rel act M K) (ht:K.threads[i]? = some t) (h3:t.st=3):Rel (Wi act i) M K:=by
 refine ⟨h.len,fun j t' p' hj hp=>?_,h.rows,fun r p' hp=>?_,h.sp,h.ps,h.lf,h.fr,h.cl⟩
 ·have R:=h.th j t' p' hj hp
  by_cases e:j=i
  ·subst e
   rw [ht] at hj
   cases hj
   exact R.enter (.inr rfl) (by omega)
  ·exact R.to_act (wi_ne j e)
 ·refine (h.wl r p' hp).congr (fun j=>?_) (fun j _=>rfl)
  by_cases e:j=i
  ·subst e;rw [inwl_at ht,inwl_at ht];simp [h3]
  ·rw [inwl_act (wi_ne (act:=act) j e)]
def askP (m:Ms) (p:PT):PT:={ p with tgt:=0,pw:=[],item:=0,rt:=0,frm:=m.frm,win:=m.win,wait:=m.wait,time:=0 }
theorem Rel.asks (h:Rel act M K) (ht:K.threads[i]? = some t) (s1:t.st=1) (m:Ms) (hw:-1<=m.win):Rel (Wi act i) (M.upd i (askP m)) (K.asks i m):=by
 have hl:(K.asks i m).threads.length=K.threads.length:=by simp [RM.asks,RM.upd]
 refine ⟨by rw [hl];simpa [PM.upd] using h.len,?_,fun r hr=>?_,fun r p' hp=>?_,h.sp,h.ps,h.lf,h.fr,h.cl⟩
 ·rw [hl]
  exact h.th_upd (act':=Wi act i) (i:=i) (f:=askP m) (g:=fun u=>{ u with dst:=m.dst,mw:=m.words,item:=m.item,rt:=m.rt,frm:=m.frm,win:=m.win,wait:=m.wait }) (fun t' p hj _ q=>by
   rw [ht] at hj;cases hj
   exact ⟨q.sp,q.row,q.left,q.st,q.code,q.who,q.ws,q.got,fun a=>⟨(q.idle a).1,fun b=>absurd (.inr rfl) b⟩,fun _=>⟨rfl,rfl,rfl,fun _=>rfl,hw⟩,fun a=>absurd s1 a,fun _ b=>absurd (.inr rfl) b⟩) wi_ne
 ·refine (h.rows r hr).congr (fun j=>?_) (fun j _=>?_)
  ·show _↔Inrow (K.threads.modify i _) r j
   rw [inrow_mod ht]
   by_cases e:j=i
   ·subst e;rw [inrow_at ht];simp
   ·simp [e]
  ·show ordM (K.threads.modify i _) j=_
   rw [ordM_mod ht]
   split
   ·rename_i e;subst e;rw [ordM_at ht]
   ·rfl
 ·obtain ⟨p,hp,e1⟩:=wl_upd (M:=M) (f:=askP m) (fun _=>rfl) hp
  rw [e1]
  exact h.wlSame ht (.inl (by omega)) (g:=fun u=>{ u with dst:=m.dst,mw:=m.words,item:=m.item,rt:=m.rt,frm:=m.frm,win:=m.win,wait:=m.wait }) (.inl (by show t.st≠2;omega)) wi_ne hp
theorem Rel.setLeft (h:Rel act M K) (ht:K.threads[i]? = some t) (n:Int) (f:PT->PT) (hf:∀ p,M.threads[i]? = some p->f p={ p with left:=n }):Rel act (M.upd i f) (K.setLeft i n):=by
 have hl:(K.setLeft i n).threads.length=K.threads.length:=by simp [RM.setLeft,RM.upd]
 refine ⟨by rw [hl];simpa [PM.upd] using h.len,?_,fun r hr=>?_,fun r p' hp=>?_,h.sp,h.ps,h.lf,h.fr,h.cl⟩
 ·rw [hl]
  exact h.th_upd (act':=act) (i:=i) (f:=f) (g:=fun u=>{ u with left:=n }) (fun t' p hj hp q=>by
   rw [hf p hp]
   exact ⟨q.sp,q.row,rfl,q.st,q.code,q.who,q.ws,q.got,q.idle,q.talk,q.time,q.send⟩) (fun _ _=>Iff.rfl)
 ·refine (h.rows r hr).congr (fun j=>?_) (fun j _=>?_)
  ·show _↔Inrow (K.threads.modify i _) r j
   rw [inrow_mod ht]
   by_cases e:j=i
   ·subst e;rw [inrow_at ht];simp
   ·simp [e]
  ·show ordM (K.threads.modify i _) j=_
   rw [ordM_mod ht]
   split
   ·rename_i e;subst e;rw [ordM_at ht]
   ·rfl
 ·have hp2:(M.threads.modify i f)[r]? = some p':=hp
  have:∃ p,M.threads[r]? = some p/\p'.wl=p.wl:=by
   rw [List.getElem?_modify] at hp2
   rcases hy:M.threads[r]? with _ | y
   ·rw [hy] at hp2;simp at hp2
   ·rw [hy] at hp2
    by_cases e:i=r
    ·subst e
     simp at hp2
     exact ⟨y,rfl,by rw [<- hp2,hf y hy]⟩
    ·simp [e] at hp2;exact ⟨y,rfl,by rw [<- hp2]⟩
  obtain ⟨p,hp,e1⟩:=this
  rw [e1]
  refine (h.wl r p hp).congr (fun j=>?_) (fun j _=>?_)
  ·show _↔Inwl _ (K.threads.modify i _) r j
   rw [inwl_mod ht]
   by_cases e:j=i
   ·subst e;rw [inwl_at ht];simp
   ·simp [e]
  ·show turnM (K.threads.modify i _) j=_
   rw [turnM_mod ht]
   split
   ·rename_i e;subst e;rw [turnM_at ht]
   ·rfl
theorem Rel.toLast (h:Rel act M K) (ft:K.Fit){b:Nat}(nm:K.Num b) (ht:K.threads[i]? = some t) (s1:t.st=1):Rel act (M.setLn t.row.toNat ((M.ln t.row.toNat).erase i ++ [i])) (K.toLast i):=by
 have hl:(K.toLast i).threads.length=K.threads.length:=by simp [RM.toLast,RM.upd]
 refine ⟨by rw [hl];exact h.len,fun j t' p' hj hp=>?_,fun r hr=>?_,fun r p' hp=>?_,h.sp,h.ps,h.lf,h.fr,h.cl⟩
 ·rw [hl]
  have hj2:(K.threads.modify i (fun u=>{ u with ord:=K.last }))[j]? = some t':=hj
  rw [get_mod ht] at hj2
  split at hj2
  ·rename_i e
   subst e
   cases hj2
   have R:=h.th j t p' ht hp
   exact ⟨R.sp,R.row,R.left,R.st,R.code,R.who,R.ws,R.got,R.idle,R.talk,R.time,R.send⟩
  ·exact h.th j t' p' hj2 hp
 ·exact h.rowsLast ft nm ht (g:=fun u=>{ u with ord:=K.last }) s1 rfl rfl r hr
 ·exact h.wlSame ht (.inl (by omega)) (g:=fun u=>{ u with ord:=K.last }) (.inl (by show t.st≠2;omega)) (fun _ _=>Iff.rfl) hp
theorem Rel.clock (h:Rel act M K):Rel act { M with clock:=M.clock+1 } K.ticked:=⟨h.len,h.th,h.rows,h.wl,h.sp,h.ps,h.lf,h.fr,by show M.clock+1=K.clock+1;rw [h.cl]⟩
noncomputable def PM.heard (M:PM) (s r:Nat) (p q:PT) (stands:Bool):PM:=
 let M2:=({ M with leaves:=(lendP M.leaves p.sp p.item p.rt q.sp q.win).1 }:PM).upd s (fun p=>{ p with pw:=[],item:=0,rt:=0 })
 let M3:=if stands=true then M2 else M2.setLn q.row.toNat (r :: (M.ln q.row.toNat).erase r)
 M3.upd r (overP 0 s p.pw (lendP M.leaves p.sp p.item p.rt q.sp q.win).2)
theorem Rel.heard (h:Rel act M K) (ft:K.Fit){b:Nat}(nm:K.Num b){s r:Nat}{a c:Th}{p q:PT}(ha:K.threads[s]? = some a) (hc:K.threads[r]? = some c) (hp:M.threads[s]? = some p) (hq:M.threads[r]? = some q) (hsr:s≠r) (has:act s) (hcr:c.st=3\/act r) (par:Par a p) (stands:Bool) (hst:stands=true↔c.st=1) :
  Rel (Wo act r) (M.heard s r p q stands) (K.heard s r stands):=by
 have Ra:=h.th s a p ha hp
 have Rc:=h.th r c q hc hq
 have ta:=Rc.talk (hcr.imp (fun e=>by omega) id)
 have eL:lendL K.leaves a c=lendP M.leaves p.sp p.item p.rt q.sp q.win:=by rw [lendL_P,h.lf,Ra.sp,par.2.1,par.2.2.1,Rc.sp,ta.2.1]
 have h2:Rel act (M.upd s (fun p=>{ p with pw:=[],item:=0,rt:=0 })) K:=h.parcel has _ (fun p=>⟨p.tgt,[],0,0,rfl⟩)
 have ed:K.deliver s r={ K.upd r (fun u=>{ u with st:=1,time:=-1,code:=0,who:=s,ws:=a.mw,got:=(lendL K.leaves a c).2 }) with leaves:=(lendL K.leaves a c).1 }:=by
  unfold RM.deliver;rw [ha,hc]
 have hn2:c.st≠2\/act r:=hcr.imp (fun e=>by omega) id
 have thk:∀ g:Th->Th,(∀ u:Th,(g u).sp=u.sp/\(g u).row=u.row/\(g u).left=u.left/\(g u).st=1/\(g u).code=0/\(g u).who=s/\(g u).ws=a.mw/\(g u).got=(lendL K.leaves a c).2/\(g u).time=-1)->∀ (j:Nat) t' p',(K.threads.modify r g)[j]? = some t'->((M.upd s (fun p=>{ p with pw:=[],item:=0,rt:=0 })).threads.modify r (overP 0 s p.pw (lendP M.leaves p.sp p.item p.rt q.sp q.win).2))[j]? = some p'->RelT (Wo act r) K.threads.length j t' p':=by
  intro g hg
  refine h2.th_upd (act':=Wo act r) (i:=r) (fun t' p' _ _ R=>?_) wo_ne
  obtain ⟨g1,g2,g3,g4,g5,g6,g7,g8,g9⟩:=hg t'
  exact ⟨by rw [g1];exact R.sp,by rw [g2];exact R.row,by rw [g3];exact R.left,by rw [g4];rfl,by rw [g5];rfl,by rw [g6];rfl,by rw [g7,<- par.1];rfl,by rw [g8,eL];rfl,fun _=>⟨g9,fun _=>rfl⟩,fun e=>e.elim (fun e=>absurd g4 e) (fun e=>absurd rfl e.2),fun e=>absurd g4 e,fun e=>by omega⟩
 have hq2:∀ (j:Nat) p',((M.upd s (fun p=>{ p with pw:=[],item:=0,rt:=0 })).threads.modify r (overP 0 s p.pw (lendP M.leaves p.sp p.item p.rt q.sp q.win).2))[j]? = some p'->∃ y,(M.upd s (fun p=>{ p with pw:=[],item:=0,rt:=0 })).threads[j]? = some y/\p'.wl=y.wl:=fun j p' hj=>wl_upd (M:=M.upd s (fun p=>{ p with pw:=[],item:=0,rt:=0 })) (f:=overP 0 s p.pw (lendP M.leaves p.sp p.item p.rt q.sp q.win).2) (fun _=>rfl) hj
 by_cases e:stands=true
 ·have c1:=hst.1 e
  have ek:K.heard s r stands=K.deliver s r:=by unfold RM.heard;rw [if_pos e]
  have em:M.heard s r p q stands=(({ M with leaves:=(lendP M.leaves p.sp p.item p.rt q.sp q.win).1 }:PM).upd s (fun p=>{ p with pw:=[],item:=0,rt:=0 })).upd r (overP 0 s p.pw (lendP M.leaves p.sp p.item p.rt q.sp q.win).2):=by unfold PM.heard;simp only [e,if_true]
  rw [ek,ed,em]
  refine ⟨by simpa [PM.upd,RM.upd] using h.len,?_,fun r' hr=>?_,fun r' p' hp'=>?_,h.sp,h.ps,by rw [eL];rfl,h.fr,h.cl⟩
  ·intro j t' p' hj hp'
   have:=thk (fun u=>{ u with st:=1,time:=-1,code:=0,who:=s,ws:=a.mw,got:=(lendL K.leaves a c).2 }) (fun u=>⟨rfl,rfl,rfl,rfl,rfl,rfl,rfl,rfl,rfl⟩) j t' p' hj hp'
   simpa [RM.upd] using this
  ·refine (h.rows r' hr).congr (fun j=>?_) (fun j _=>?_)
   ·show _↔Inrow (K.threads.modify r _) r' j
    rw [inrow_mod hc]
    by_cases e:j=r
    ·subst e;rw [inrow_at hc];simp [c1]
    ·simp [e]
   ·show ordM (K.threads.modify r _) j=_
    rw [ordM_mod hc]
    split
    ·rename_i e;subst e;rw [ordM_at hc]
    ·rfl
  ·obtain ⟨y,hy,e1⟩:=hq2 r' p' hp'
   rw [e1]
   exact h2.wlSame hc hn2 (g:=fun u=>{ u with st:=1,time:=-1,code:=0,who:=s,ws:=a.mw,got:=(lendL K.leaves a c).2 }) (.inl (by simp)) wo_ne hy
 ·have c1:c.st≠1:=fun x=>e (hst.2 x)
  have ek:K.heard s r stands=(K.deliver s r).toFirst r:=by unfold RM.heard;rw [if_neg e]
  have em:M.heard s r p q stands=((({ M with leaves:=(lendP M.leaves p.sp p.item p.rt q.sp q.win).1 }:PM).upd s (fun p=>{ p with pw:=[],item:=0,rt:=0 })).setLn q.row.toNat (r :: (M.ln q.row.toNat).erase r)).upd r (overP 0 s p.pw (lendP M.leaves p.sp p.item p.rt q.sp q.win).2):=by unfold PM.heard;simp only [e];rfl
  have et:(K.heard s r stands).threads=K.threads.modify r (fun u=>{ u with st:=1,time:=-1,code:=0,who:=s,ws:=a.mw,got:=(lendL K.leaves a c).2,ord:=K.first }):=by
   rw [ek,ed]
   exact modify_two (h:=fun u:Th=>{ u with st:=1,time:=-1,code:=0,who:=s,ws:=a.mw,got:=(lendL K.leaves a c).2,ord:=K.first }) hc rfl
  have eo:(K.heard s r stands).sp=K.sp/\(K.heard s r stands).passes=K.passes/\(K.heard s r stands).leaves=(lendL K.leaves a c).1/\(K.heard s r stands).fr=K.fr/\(K.heard s r stands).clock=K.clock:=by rw [ek,ed];exact ⟨rfl,rfl,rfl,rfl,rfl⟩
  rw [em]
  refine ⟨by rw [et];simpa [PM.upd,PM.setLn] using h.len,?_,fun r' hr=>?_,fun r' p' hp'=>?_,by rw [eo.1];exact h.sp,by rw [eo.2.1];exact h.ps,by rw [eo.2.2.1,eL];rfl,by rw [eo.2.2.2.1];exact h.fr,by rw [eo.2.2.2.2];exact h.cl⟩
  ·rw [et]
   intro j t' p' hj hp'
   have:=thk (fun u=>{ u with st:=1,time:=-1,code:=0,who:=s,ws:=a.mw,got:=(lendL K.leaves a c).2,ord:=K.first }) (fun u=>⟨rfl,rfl,rfl,rfl,rfl,rfl,rfl,rfl,rfl⟩) j t' p' hj hp'
   simpa using this
  ·rw [et,Rc.row]
   exact h2.rowsFirst ft nm hc (g:=fun u=>{ u with st:=1,time:=-1,code:=0,who:=s,ws:=a.mw,got:=(lendL K.leaves a c).2,ord:=K.first }) rfl rfl rfl r' hr
  ·rw [et]
   obtain ⟨y,hy,e1⟩:=hq2 r' p' hp'
   rw [e1]
   exact h2.wlSame hc hn2 (g:=fun u=>{ u with st:=1,time:=-1,code:=0,who:=s,ws:=a.mw,got:=(lendL K.leaves a c).2,ord:=K.first }) (.inl (by simp)) wo_ne hy
end
end Go.Proofs.YteejjgbeknnmeaaGreatDoor
