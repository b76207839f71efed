import Derived.Test.YteejjgbeknnmeaaGreatDoorG05
set_option maxRecDepth 100000
set_option maxHeartbeats 20000000
namespace Go.Proofs.YteejjgbeknnmeaaGreatDoor
open Go.RowKit
theorem rmDeliver_any (y:Nat) (K:RM) (vt vp vl:Value) (sl:List (Sv×Sv)) (s r:Nat) (a b:Th) (w:World) (rk:Int->Int->Nat) (h:RmAt w y K vt vp vl sl) (hb:K.threads.length<=6) (hl:K.leaves.length<=100000000000) (ha:ApL K.leaves) (hk:Kin rk K.leaves) (hsa:K.threads[s]? = some a) (hrb:K.threads[r]? = some b) (hbs:0<=b.sp) (hw4:a.mw.length<=4) :
  Calls Tryz.prog 101 #[.pointer (some ⟨y,0,none⟩),.int .i64 s,.int .i64 r] w fun e w'=>e=.returned (.tuple #[])/\∃ vl' sl',Out y (K.deliver s r) vt vp vl sl w w' vl' sl':=by
 obtain ⟨sa,hsl⟩:=h.sl_get hsa
 obtain ⟨sb,hrl⟩:=h.sl_get hrb
 have hs1:=(List.getElem?_eq_some_iff.1 hsa).1
 have hr1:=(List.getElem?_eq_some_iff.1 hrb).1
 obtain ⟨g,c,rfl,hgy,lg⟩:=h.open (by omega)
 obtain ⟨m,hn'⟩:∃ m,K.threads.length=m:=⟨_,rfl⟩
 rw [hn'] at h hb hs1 hr1 ⊢
 have ly:=h.ly
 have c0:w.cell? ⟨y,0,none⟩=some (.slice (some ⟨g,0,none⟩) m c):=(h.cell 0).trans rfl
 have RA:=hid (h.trange hsa hsl)
 have RB:=hid (h.trange hrb hrl)
 have sm:(s:Int) < (m:Int):=by omega
 have rm':(r:Int) < (m:Int):=by omega
 have HH:=hid (And.intro h (And.intro hsa (And.intro hrb (And.intro hsl (And.intro hrl (And.intro hl (And.intro ha (And.intro hk hn'))))))))
 have HBm:Hid (w.rangeAt g (r*20+5) [.int .i64 b.dst,.slice sb.1.a sb.1.n sb.1.c,.int .i64 b.item,.int .i64 b.rt,.int .i64 b.frm,.int .i64 b.win,.int .i64 b.wait]):=fun j v hv=>by
  have hj:j < 7:=(List.getElem?_eq_some_iff.1 hv).1
  have:=RB.out (5+j) v (by
   have h7:j=0\/j=1\/j=2\/j=3\/j=4\/j=5\/j=6:=by omega
   rcases h7 with rfl | rfl | rfl | rfl | rfl | rfl | rfl <;> exact hv)
  rw [Nat.add_assoc];exact this
 clear h hsa hrb hsl hrl hl ha hk hn'
 go_enter Tryz.func101,Tryz.ntmps101
 go_wp2_with (first
  | (with_reducible (show wpList _ _ _ (⟨_,.load 190 _,_,_,_,none⟩ :: _) _ _);go_must (refine wpList_load_mid rfl 190 _ rfl g (s*20) rfl _ _ RA.out Tryz.underlying190 rfl (by kernel_rfl) ?_))
  | (with_reducible (show wpList _ _ _ (⟨_,.store 190 _ _,_,_,_,none⟩ :: _) _ _);go_must (refine wpList_store_new rfl 190 _ _ rfl w _ (trow a sa).toArray 190 rfl rfl (by kernel_rfl) rfl ?_ ?_);(simp [trow,Value.oneCell']))
  | (with_reducible (show wpList _ _ _ (⟨_,.load 43 _,_,_,_,none⟩ :: _) _ _);go_must (refine wpList_load_mid rfl 43 _ rfl g (r*20+5) rfl _ _ (World.rangeAt_alloc HBm.out _) Tryz.underlying43 rfl (by kernel_rfl) ?_))
  | (with_reducible (show wpList _ _ _ (⟨_,.store 43 _ _,_,_,_,none⟩ :: _) _ _);go_must (refine wpList_store_new rfl 43 _ _ rfl (w.alloc (.cells (trow a sa).toArray 190)) _ #[.int .i64 b.dst,.slice sb.1.a sb.1.n sb.1.c,.int .i64 b.item,.int .i64 b.rt,.int .i64 b.frm,.int .i64 b.win,.int .i64 b.wait] 43 (by simp [Act.eval]) rfl (by kernel_rfl) rfl ?_ ?_);(simp [Value.oneCell'])))
 have BX:Below w.heap.size w ((w.alloc (.cells (trow a sa).toArray 190)).alloc (.cells #[.int .i64 b.dst,.slice sb.1.a sb.1.n sb.1.c,.int .i64 b.item,.int .i64 b.rt,.int .i64 b.frm,.int .i64 b.win,.int .i64 b.wait] 43)):=((Below.refl _ w).alloc (Nat.le_refl _) _).alloc (by simp) _
 have p0:=heap_alloc2_old w (.cells (trow a sa).toArray 190) (.cells #[.int .i64 b.dst,.slice sb.1.a sb.1.n sb.1.c,.int .i64 b.item,.int .i64 b.rt,.int .i64 b.frm,.int .i64 b.win,.int .i64 b.wait] 43)
 have p1:=heap_alloc2_new w (.cells (trow a sa).toArray 190) (.cells #[.int .i64 b.dst,.slice sb.1.a sb.1.n sb.1.c,.int .i64 b.item,.int .i64 b.rt,.int .i64 b.frm,.int .i64 b.win,.int .i64 b.wait] 43)
 have z2:((w.alloc (.cells (trow a sa).toArray 190)).alloc (.cells #[.int .i64 b.dst,.slice sb.1.a sb.1.n sb.1.c,.int .i64 b.item,.int .i64 b.rt,.int .i64 b.frm,.int .i64 b.win,.int .i64 b.wait] 43)).heap.size=w.heap.size+2:=by simp
 generalize ((w.alloc (.cells (trow a sa).toArray 190)).alloc (.cells #[.int .i64 b.dst,.slice sb.1.a sb.1.n sb.1.c,.int .i64 b.item,.int .i64 b.rt,.int .i64 b.frm,.int .i64 b.win,.int .i64 b.wait] 43))=w2 at *
 refine (rmOver_any y K _ vp vl sl r sb 0 w2 (HH.out.1.below BX) (by rw [HH.out.2.2.2.2.2.2.2.2];exact hr1) (by rw [HH.out.2.2.2.2.2.2.2.2];exact hb) HH.out.2.2.2.2.1).mono ?_
 rintro e w3 ⟨rfl,h3,F3⟩
 have F3':Fr (fun q=>q=g) w2 w3:=F3.mono (fun q _ e=>by simpa [Value.ownBlock,eq_comm] using e)
 have q0:=(F3'.block w.heap.size (by omega) (by omega)).trans p0
 have q1:=(F3'.block (w.heap.size+1) (by omega) (by omega)).trans p1
 have d0:w3.cell? ⟨y,0,none⟩=some (.slice (some ⟨g,0,none⟩) m c):=(h3.cell 0).trans rfl
 have hrb3:(K.over r 0).threads[r]? = some { b with st:=1,time:=-1,code:=0,who:=-1,ws:=[],got:=-1 }:=get_modify _ HH.out.2.2.1
 have hsl3:(sl.set r (sb.1,Sv.nil))[r]? = some (sb.1,Sv.nil):=by rw [List.getElem?_set_self (List.getElem?_eq_some_iff.1 HH.out.2.2.2.2.1).1]
 have R3:=h3.trange hrb3 hsl3
 have g17:w3.cell? ⟨g,r*20+17,none⟩=some (.int .i64 (-1)):=R3 17 _ rfl
 have g18:w3.cell? ⟨g,r*20+18,none⟩=some (.slice none 0 0):=R3 18 _ rfl
 have fg:∀ j,w3.frozen? ⟨g,j,none⟩=false:=fun j=>h3.th.fro j
 have a6:w3.cell? ⟨w.heap.size,6,none⟩=some (.slice sa.1.a sa.1.n sa.1.c):=(cell_of_row w3 _ 6 _ _ _ q0).trans rfl
 have h4:=h3.setTh (t:=r) (j:=17) (fun u=>{ u with who:=s }) (.int .i64 s) hrb3 hsl3 (by omega) rfl rfl rfl
 have hWd:=((HH.out.1.wd s a sa HH.out.2.1 HH.out.2.2.2.1).1.kept (Fr.of_below BX (fun _=>False)) (fun _ _ _=>.inl id) (fun _ _ h=>h)).kept (F3.mono (T:=Wr y (.slice (some ⟨g,0,none⟩) m c) vp vl) (fun q _ e=>.inr (.inl e))) (fun _ _ h=>.inl h) (fun _ _ h=>h)
 have lg3:g < w3.heap.size:=h3.th.lt rfl
 have l03:w.heap.size+2<=w3.heap.size:=by have:=F3.size;omega
 have FW:Fr (Wr y (.slice (some ⟨g,0,none⟩) m c) vp vl) w w3:=(Fr.of_below BX _).trans (F3.mono (fun q _ e=>.inr (.inl e)))
 have F4:Fr (fun q=>q=g) w3 (w3.setCell ⟨g,r*20+17,none⟩ (.int .i64 s)):=(Fr.refl (fun q=>q=g) w3).setCell (p:=⟨g,r*20+17,none⟩) (fun _=>rfl) _
 have q0':=(F4.block w.heap.size (by omega) (by omega)).trans q0
 have q1':=(F4.block (w.heap.size+1) (by omega) (by omega)).trans q1
 have hWd4:=hWd.kept (F4.mono (T:=Wr y (.slice (some ⟨g,0,none⟩) m c) vp vl) (fun q _ e=>.inr (.inl (by rw [e];rfl)))) (fun _ _ h=>.inl h) (fun _ _ h=>h)
 have FW4:Fr (Wr y (.slice (some ⟨g,0,none⟩) m c) vp vl) w (w3.setCell ⟨g,r*20+17,none⟩ (.int .i64 s)):=FW.trans (F4.mono (fun q _ e=>.inr (.inl (by rw [e];rfl))))
 have HQ:=hid (And.intro h4 (And.intro hWd4 (And.intro FW4 (And.intro q0' (And.intro q1' hsl3)))))
 obtain ⟨i2,hi2,hx0,hx1,hx2⟩:=info_parts Tryz.infoN2
 clear h3 F3 F3' q0 q1 hrb3 hsl3 R3 h4 hWd FW F4 q0' q1' hWd4 FW4 p0 p1 BX z2
 go_wp2_with fail
 have hc18:(w3.setCell ⟨g,r*20+17,none⟩ (.int .i64 s)).cell? ⟨g,r*20+18,none⟩=some (.slice none 0 0):=HQ.out.1.trange (get_modify _ (get_modify _ HH.out.2.2.1)) HQ.out.2.2.2.2.2 18 _ rfl
 have hf18:(w3.setCell ⟨g,r*20+17,none⟩ (.int .i64 s)).frozen? ⟨g,r*20+18,none⟩=false:=HQ.out.1.th.fro _
 have a6':(w3.setCell ⟨g,r*20+17,none⟩ (.int .i64 s)).cell? ⟨w.heap.size,6,none⟩=some (.slice sa.1.a sa.1.n sa.1.c):=(cell_of_row _ _ 6 _ _ _ HQ.out.2.2.2.1).trans rfl
 have lg4:g < (w3.setCell ⟨g,r*20+17,none⟩ (.int .i64 s)).heap.size:=HQ.out.1.th.lt rfl
 have l04:w.heap.size+2<=(w3.setCell ⟨g,r*20+17,none⟩ (.int .i64 s)).heap.size:=by simpa [World.setCell] using l03
 clear d0 g17 g18 fg a6 lg3 l03
 generalize w3.setCell ⟨g,r*20+17,none⟩ (.int .i64 s)=w4 at *
 go_cut [] (fun wc=>∃ x:Sv,Hid (RmAt wc y (K.told s r a) (.slice (some ⟨g,0,none⟩) m c) vp vl (sl.set r (sb.1,x))/\Fr (Wr y (.slice (some ⟨g,0,none⟩) m c) vp vl) w wc/\wc.heap[w.heap.size]? = some (.cells (trow a sa).toArray 190 (0,0))/\wc.heap[w.heap.size+1]? = some (.cells #[.int .i64 b.dst,.slice sb.1.a sb.1.n sb.1.c,.int .i64 b.item,.int .i64 b.rt,.int .i64 b.frm,.int .i64 b.win,.int .i64 b.wait] 43 (0,0))/\∀ k,inBlock x.v=some k->w.heap.size<=k))
 case first=>
  go_region_law (refine step_append_inl _ rfl (.tmp 42) (.tmp 45) 39 rfl 2 i2 _ 1 8 Tryz.underlying39 hi2 hx0 hx1 hx2 rfl (by decide) (by simp [Act.eval]) sa.1.a sa.1.n sa.1.c (a.mw.map lnI) (by simp [Act.eval]) HQ.out.2.1.inl.drew (by rw [List.length_map];omega) ?_;intro a5 c5 w5 G5;rw [List.length_map] at G5;have hb5:Hid (w5.heap[g]? = w4.heap[g]?):=G5.old (by simpa using lg4) (by simp [Value.ownBlock]);have hc5:w5.cell? ⟨g,r*20+18,none⟩=some (.slice none 0 0):=(World.cell?_of_block hb5.out).trans hc18;have hf5:w5.frozen? ⟨g,r*20+18,none⟩=false:=(World.frozen?_of_block hb5.out).trans hf18)
  all_goals
   go_wp2
   go_meet
   case rel=>
    have F5:Fr (fun _=>False) w4 w5:=(G5.fr ((Fr.refl (fun _=>False) w4).drew) (fun q hq'=>by simp [Value.ownBlock] at hq'))
    have h5:=HQ.out.1.kept F5 (fun _ _ h=>h)
    have hnew:∀ k,inBlock (Sv.v ⟨a5,a.mw.length,c5⟩)=some k->w4.heap.size<=k:=fun k hk=>by
     rcases G5.at_ k (own_of_in G5.sl hk) with g | g
     ·simpa using g
     ·simp [Value.ownBlock] at g
    have hWx:Wd w5 y (.slice (some ⟨g,0,none⟩) m c) vp vl ⟨a5,a.mw.length,c5⟩ a.mw:=⟨G5.sl.toInl (by unfold maxLen;omega),fun k hk=>⟨G5.sl.lt (own_of_in G5.sl hk),fun hw=>absurd (HQ.out.1.lt (.inl hw)) (Nat.not_lt.2 (hnew k hk))⟩⟩
    have h6:=h5.setWs ⟨a5,a.mw.length,c5⟩ a.mw (get_modify _ (get_modify _ HH.out.2.2.1)) HQ.out.2.2.2.2.2 hWx
    have FS:Fr (fun q=>q=g) w5 (w5.setCell ⟨g,r*20+18,none⟩ (.slice a5 a.mw.length c5)):=(Fr.refl (fun q=>q=g) w5).setCell (p:=⟨g,r*20+18,none⟩) (fun _=>rfl) _
    have h7:RmAt (w5.setCell ⟨g,r*20+18,none⟩ (.slice a5 a.mw.length c5)) y { K with threads:=((K.threads.modify r (fun u=>{ u with st:=1,time:=-1,code:=0,who:=-1,ws:=[],got:=-1 })).modify r (fun u=>{ u with who:=s })).modify r (fun u=>{ u with ws:=a.mw }) } (.slice (some ⟨g,0,none⟩) m c) vp vl ((sl.set r (sb.1,Sv.nil)).set r (sb.1,⟨a5,a.mw.length,c5⟩)):=h6
    rw [modify_two (h:=fun u=>{ u with st:=1,time:=-1,code:=0,who:=s,ws:=[],got:=-1 }) HH.out.2.2.1 rfl,modify_two (h:=fun u=>{ u with st:=1,time:=-1,code:=0,who:=s,ws:=a.mw,got:=-1 }) HH.out.2.2.1 rfl,List.set_set] at h7
    refine ⟨⟨a5,a.mw.length,c5⟩,h7,(HQ.out.2.2.1.trans (F5.mono (fun _ _ h=>h.elim))).trans (FS.mono (fun q _ e=>.inr (.inl (by rw [e];rfl)))),?_,?_,fun k hk=>?_⟩
    ·exact (FS.block _ (by have:=F5.size;omega) (by omega)).trans ((F5.block _ (by omega) id).trans HQ.out.2.2.2.1)
    ·exact (FS.block _ (by have:=F5.size;omega) (by omega)).trans ((F5.block _ (by omega) id).trans HQ.out.2.2.2.2.1)
    ·have:=hnew k hk;omega
 case rest=>
 obtain ⟨x,HX⟩:=hcut
 rename World=>wk
 clear hc18 hf18 a6' lg4 l04 HQ hi2 hx0 hx1 hx2
 have hu5:(K.told s r a).threads[r]? = some { b with st:=1,time:=-1,code:=0,who:=s,ws:=a.mw,got:=-1 }:=get_modify _ HH.out.2.2.1
 have hs5:(sl.set r (sb.1,x))[r]? = some (sb.1,x):=by rw [List.getElem?_set_self (List.getElem?_eq_some_iff.1 HH.out.2.2.2.2.1).1]
 have HU:=hid (And.intro hu5 hs5)
 have e0:wk.cell? ⟨g,r*20,none⟩=some (.int .i64 b.sp):=HX.out.1.trange hu5 hs5 0 _ rfl
 have a0:wk.cell? ⟨w.heap.size,0,none⟩=some (.int .i64 a.sp):=(cell_of_row wk _ 0 _ _ _ HX.out.2.2.1).trans rfl
 have a7:wk.cell? ⟨w.heap.size,7,none⟩=some (.int .i64 a.item):=(cell_of_row wk _ 7 _ _ _ HX.out.2.2.1).trans rfl
 have a8:wk.cell? ⟨w.heap.size,8,none⟩=some (.int .i64 a.rt):=(cell_of_row wk _ 8 _ _ _ HX.out.2.2.1).trans rfl
 have a12:wk.cell? ⟨w.heap.size,12,none⟩=some (.bool a.lends):=(cell_of_row wk _ 12 _ _ _ HX.out.2.2.1).trans rfl
 have m5:wk.cell? ⟨w.heap.size+1,5,none⟩=some (.int .i64 b.win):=(cell_of_row wk _ 5 _ _ _ HX.out.2.2.2.1).trans rfl
 have lw5:w.heap.size+1 < wk.heap.size:=(Array.getElem?_eq_some_iff.1 HX.out.2.2.2.1).1
 have lg5:g < wk.heap.size:=HX.out.1.th.lt rfl
 clear hu5 hs5
 by_cases q1:a.item < 0
 ·have d1:decide (a.item < 0)=true:=by simpa using q1
  have E:=hid (show K.deliver s r=K.told s r a by simp only [RM.deliver,HH.out.2.1,HH.out.2.2.1];rw [show lendL K.leaves a b=(K.leaves,-1) by unfold lendL;rw [if_pos (.inl q1)]];rfl)
  clear q1
  go_wp2
  ((try simp only [Exit.inBlock,Exit.then]);refine bodyPost_ret (results_none rfl _ _ _) rfl ?_)
  exact ⟨rfl,vl,_,by rw [E.out];exact HX.out.1,HX.out.2.1,fun k hk=>.inl hk,fun k hk=>wdOwn_set HH.out.2.2.2.2.1 HX.out.2.2.2.2 hk⟩
 ·have d1:decide (a.item < 0)=false:=by simpa using q1
  by_cases q2:b.win < 0
  ·have d2:decide (b.win < 0)=true:=by simpa using q2
   have E:=hid (show K.deliver s r=K.told s r a by simp only [RM.deliver,HH.out.2.1,HH.out.2.2.1];rw [show lendL K.leaves a b=(K.leaves,-1) by unfold lendL;rw [if_pos (.inr (.inl q2))]];rfl)
   clear q1 q2
   go_wp2
   ((try simp only [Exit.inBlock,Exit.then]);refine bodyPost_ret (results_none rfl _ _ _) rfl ?_)
   exact ⟨rfl,vl,_,by rw [E.out];exact HX.out.1,HX.out.2.1,fun k hk=>.inl hk,fun k hk=>wdOwn_set HH.out.2.2.2.2.1 HX.out.2.2.2.2 hk⟩
  ·have d2:decide (b.win < 0)=false:=by simpa using q2
   cases q3:a.lends with
   | false=>
    have E:=hid (show K.deliver s r=K.told s r a by simp only [RM.deliver,HH.out.2.1,HH.out.2.2.1];rw [show lendL K.leaves a b=(K.leaves,-1) by unfold lendL;rw [if_pos (.inr (.inr q3))]];rfl)
    rw [q3] at a12
    clear q1 q2 q3
    go_wp2
    ((try simp only [Exit.inBlock,Exit.then]);refine bodyPost_ret (results_none rfl _ _ _) rfl ?_)
    exact ⟨rfl,vl,_,by rw [E.out];exact HX.out.1,HX.out.2.1,fun k hk=>.inl hk,fun k hk=>wdOwn_set HH.out.2.2.2.2.1 HX.out.2.2.2.2 hk⟩
   | true=>
    rw [q3] at a12
    have NL:=hid (show ¬ (a.item < 0\/b.win < 0\/a.lends=false) by rw [q3];simp;omega)
    clear q1 q2 q3
    go_wp2_with fail
    go_cut [] (fun wd=>∃ vl6:Value,Hid (RmAt wd y { K.told s r a with leaves:=goneL K.leaves b.sp b.win true } (.slice (some ⟨g,0,none⟩) m c) vp vl6 (sl.set r (sb.1,x))/\Fr (fun q=>q=y\/vl.ownBlock=some q) wk wd/\∀ k,vl6.ownBlock=some k->vl.ownBlock=some k\/wk.heap.size<=k))
    case first=>
     go_region_with (go_at_call 108;refine (rmGone_any (younger rk K.leaves (rk b.sp b.win)+1) y (K.told s r a) _ vp vl _ b.sp b.win true _ rk HX.out.1.drew (by have:=HH.out.2.2.2.2.2.1;show K.leaves.length<=_;omega) HH.out.2.2.2.2.2.2.1 HH.out.2.2.2.2.2.2.2.1 hbs (Nat.lt_succ_self _)).mono ?_;rintro e w6 ⟨rfl,vl6,R6,F6,O6⟩)
     all_goals
      go_wp2
      go_meet
      case rel=>exact ⟨vl6,R6,((Fr.refl _ wk).drew).trans F6,O6⟩
    case rest=>
    obtain ⟨vl6,H6⟩:=hcut
    rename World=>wd
    have lvl:∀ q,vl.ownBlock=some q->q < w.heap.size:=fun q hq=>HH.out.1.le.lt hq
    have b0:=(H6.out.2.1.block w.heap.size (by omega) (fun e=>by rcases e with e | e;omega;have:=lvl _ e;omega)).trans HX.out.2.2.1
    have b1:=(H6.out.2.1.block (w.heap.size+1) (by omega) (fun e=>by rcases e with e | e;omega;have:=lvl _ e;omega)).trans HX.out.2.2.2.1
    have u0:wd.cell? ⟨w.heap.size,0,none⟩=some (.int .i64 a.sp):=(cell_of_row wd _ 0 _ _ _ b0).trans rfl
    have u7:wd.cell? ⟨w.heap.size,7,none⟩=some (.int .i64 a.item):=(cell_of_row wd _ 7 _ _ _ b0).trans rfl
    have u8:wd.cell? ⟨w.heap.size,8,none⟩=some (.int .i64 a.rt):=(cell_of_row wd _ 8 _ _ _ b0).trans rfl
    have n5:wd.cell? ⟨w.heap.size+1,5,none⟩=some (.int .i64 b.win):=(cell_of_row wd _ 5 _ _ _ b1).trans rfl
    have v0:wd.cell? ⟨g,r*20,none⟩=some (.int .i64 b.sp):=H6.out.1.trange (i:=r) HU.out.1 HU.out.2 0 _ rfl
    have lwd:w.heap.size+1 < wd.heap.size:=(Array.getElem?_eq_some_iff.1 b1).1
    have lgd:g < wd.heap.size:=H6.out.1.th.lt rfl
    have lyd:y < wd.heap.size:=H6.out.1.ly
    have HB:=hid (And.intro b0 b1)
    obtain ⟨al,cl,ev⟩:=H6.out.1.le.slice
    rw [List.length_map] at ev
    obtain ⟨ml,hml⟩:∃ ml,(goneL K.leaves b.sp b.win true).length=ml:=⟨_,rfl⟩
    have hmx:ml<=100000000000:=by have:=gone_len K.leaves b.sp b.win true;have:=HH.out.2.2.2.2.2.1;omega
    have c3:wd.cell? ⟨y,3,none⟩=some (.slice al ml cl):=by rw [(H6.out.1.cell 3).trans (show _=some vl6 from rfl),ev];exact congrArg some (by rw [<- hml])
    have HM:=hid (And.intro hml ev)
    clear e0 a0 a7 a8 a12 m5 lw5 lg5 b0 b1 hml ev
    go_wp2_with fail
    refine (rmLeaf_any y { K.told s r a with leaves:=goneL K.leaves b.sp b.win true } _ vp vl6 _ a.sp a.item _ H6.out.1 (by show (goneL K.leaves b.sp b.win true).length<=_;have:=HM.out.1;omega)).mono ?_
    rintro e wd ⟨q,rfl,hix,rfl⟩
    have hap:ApL (goneL K.leaves b.sp b.win true):=gone_apl HH.out.2.2.2.2.2.2.1 _ _ _
    have OV:Hid (∀ k,vl6.ownBlock=some k->vl.ownBlock=some k\/w.heap.size<=k):=fun k hk=>by
     rcases H6.out.2.2 k hk with e | e
     ·exact .inl e
     ·exact .inr (by have:=HX.out.2.1.size;omega)
    have OWs:Hid (∀ k,WdOwn (sl.set r (sb.1,x)) k->WdOwn sl k\/w.heap.size<=k):=fun k hk=>wdOwn_set HH.out.2.2.2.2.1 HX.out.2.2.2.2 hk
    have FW6:Hid (Fr (Wr y (.slice (some ⟨g,0,none⟩) m c) vp vl) w wd):=HX.out.2.1.trans (H6.out.2.1.mono (fun q _ e=>e.elim .inl (fun e=>.inr (.inr (.inr e)))))
    rcases findLf_ix hap hix with ⟨rfl,ef⟩ | ⟨i,p,rfl,hpi,ef,e1,e2⟩
    ·have E:=hid (show K.deliver s r={ K.told s r a with leaves:=goneL K.leaves b.sp b.win true } by
      simp only [RM.deliver,HH.out.2.1,HH.out.2.2.1]
      rw [show lendL K.leaves a b=(goneL K.leaves b.sp b.win true,-1) by unfold lendL;rw [if_neg NL.out,ef]]
      rfl)
     clear hix ef hap
     go_wp2_with fail
     go_quiet (fail)
     go_wp2
     ((try simp only [Exit.inBlock,Exit.then]);refine bodyPost_ret (results_none rfl _ _ _) rfl ?_)
     exact ⟨rfl,vl6,_,by rw [E.out];exact H6.out.1.below (below_drewN (Below.refl _ wd) _),FW6.out.trans (Fr.of_below (below_drewN (Below.refl _ wd) _) _),OV.out,OWs.out⟩
    ·have hil:i < ml:=by rw [<- HM.out.1];exact (List.getElem?_eq_some_iff.1 hpi).1
     have hil':(i:Int) < (ml:Int):=by omega
     obtain ⟨gp,ea,hx⟩:=(show Sl wd 192 6 (.slice al ml cl) _ from by have:=H6.out.1.le;rw [HM.out.2,HM.out.1] at this;exact this).is_some (by omega)
     clear hx
     subst ea
     have SL:Hid (Sl wd 192 6 (.slice (some ⟨gp,0,none⟩) ml cl) ((goneL K.leaves b.sp b.win true).map lfRow)):=by have:=H6.out.1.le;rw [HM.out.2,HM.out.1] at this;exact this
     have R1:=SL.out.row (i:=i) (r:=lfRow p) (by rw [List.getElem?_map,hpi];rfl)
     have l2:wd.cell? ⟨gp,i*6+2,none⟩=some (.int .i64 p.fr):=R1 2 _ rfl
     have l3:wd.cell? ⟨gp,i*6+3,none⟩=some (.int .i64 p.rt):=R1 3 _ rfl
     have lgp:gp < wd.heap.size:=SL.out.lt rfl
     have HGN:Hid (gp≠w.heap.size/\gp≠w.heap.size+1):=by
      rcases H6.out.2.2 gp (by rw [HM.out.2,HM.out.1];rfl) with e | e
      ·have:=HH.out.1.le.lt e;exact ⟨by omega,by omega⟩
      ·have:=(Array.getElem?_eq_some_iff.1 HX.out.2.2.2.1).1;exact ⟨by omega,by omega⟩
     have HGN0:Hid (w.heap.size≠gp):=fun e=>HGN.out.1 e.symm
     have HGN1:Hid (w.heap.size+1≠gp):=fun e=>HGN.out.2 e.symm
     by_cases q4:bits .and .i64 p.rt a.rt=0
     ·have d4:(bits .and .i64 p.rt a.rt == 0)=true:=by simp [q4]
      have E:=hid (show K.deliver s r={ K.told s r a with leaves:=goneL K.leaves b.sp b.win true } by
       simp only [RM.deliver,HH.out.2.1,HH.out.2.2.1]
       rw [show lendL K.leaves a b=(goneL K.leaves b.sp b.win true,-1) by unfold lendL;rw [if_neg NL.out,ef];simp only;rw [if_pos q4]]
       rfl)
      clear hix ef hap e1 e2 R1 q4
      go_wp2_with fail
      go_quiet (fail)
      go_wp2
      ((try simp only [Exit.inBlock,Exit.then]);refine bodyPost_ret (results_none rfl _ _ _) rfl ?_)
      exact ⟨rfl,vl6,_,by rw [E.out];exact H6.out.1.below (below_drewN (Below.refl _ wd) _),FW6.out.trans (Fr.of_below (below_drewN (Below.refl _ wd) _) _),OV.out,OWs.out⟩
     ·have d4:(bits .and .i64 p.rt a.rt == 0)=false:=by simp [q4]
      have E:=hid (show K.deliver s r={ K.upd r (fun u=>{ u with st:=1,time:=-1,code:=0,who:=s,ws:=a.mw,got:=b.win }) with leaves:=goneL K.leaves b.sp b.win true ++ [⟨b.sp,b.win,p.fr,bits .and .i64 p.rt a.rt,a.sp,a.item⟩] } by
       simp only [RM.deliver,HH.out.2.1,HH.out.2.2.1]
       rw [show lendL K.leaves a b=(goneL K.leaves b.sp b.win true ++ [⟨b.sp,b.win,p.fr,bits .and .i64 p.rt a.rt,a.sp,a.item⟩],b.win) by unfold lendL;rw [if_neg NL.out,ef];simp only;rw [if_neg q4]])
      clear hix ef hap e1 e2 R1 q4
      go_wp2_with fail
      go_quiet (fail)
      go_wp2_with fail
      have BZ:Below wd.heap.size wd (wd.drewN nq):=below_drewN (Below.refl _ wd) _
      have HZ:=hid (And.intro (H6.out.1.below BZ) (And.intro (SL.out.below BZ) (FW6.out.trans (Fr.of_below BZ _))))
      replace u0:=(BZ.cell (p:=⟨w.heap.size,0,none⟩) (by dsimp only;omega)).trans u0
      replace u7:=(BZ.cell (p:=⟨w.heap.size,7,none⟩) (by dsimp only;omega)).trans u7
      replace u8:=(BZ.cell (p:=⟨w.heap.size,8,none⟩) (by dsimp only;omega)).trans u8
      replace n5:=(BZ.cell (p:=⟨w.heap.size+1,5,none⟩) (by dsimp only;omega)).trans n5
      replace v0:=(BZ.cell (p:=⟨g,r*20,none⟩) (by dsimp only;omega)).trans v0
      replace l2:=(BZ.cell (p:=⟨gp,i*6+2,none⟩) (by dsimp only;omega)).trans l2
      replace l3:=(BZ.cell (p:=⟨gp,i*6+3,none⟩) (by dsimp only;omega)).trans l3
      replace c3:=(BZ.cell (p:=⟨y,3,none⟩) (by dsimp only;omega)).trans c3
      have SZ:(wd.drewN nq).heap.size=wd.heap.size:=Nat.le_antisymm (by simp) BZ.size
      generalize wd.drewN nq=wz at *
      have hRl:Hid (((goneL K.leaves b.sp b.win true).map lfRow).length=ml):=by unfold Hid;rw [List.length_map];exact HM.out.1
      generalize hR:(goneL K.leaves b.sp b.win true).map lfRow=R at SL hRl
      have HR:=hid hR
      have HSZ:Hid (Sl wz 192 6 (.slice (some ⟨gp,0,none⟩) ml cl) R):=by have:=HZ.out.2.1;rw [hR] at this;exact this
      have hfz:=hid HZ.out.1.fro
      have hgpy:gp≠y:=fun e=>HZ.out.1.n3 (by rw [HM.out.2,e];rfl)
      obtain ⟨j2,hj,hy0,hy1,hy2⟩:=info_parts Tryz.infoN192
      rw [<- SZ] at lwd lgd lyd lgp
      generalize hbt:bits .and .i64 p.rt a.rt=bt at *
      clear hR BZ SZ
      go_cut [] (fun we=>∃ vl7:Value,Hid (RmAt we y { K.told s r a with leaves:=goneL K.leaves b.sp b.win true ++ [⟨b.sp,b.win,p.fr,bt,a.sp,a.item⟩] } (.slice (some ⟨g,0,none⟩) m c) vp vl7 (sl.set r (sb.1,x))/\Fr (fun q=>q=y\/q=gp) wz we/\(∀ k,vl7.ownBlock=some k->k=gp\/wz.heap.size<=k)/\we.cell? ⟨w.heap.size+1,5,none⟩=some (.int .i64 b.win)))
      case first=>
       have HGG:Hid (g≠gp):=fun e=>(HZ.out.1.n4 g rfl).2 (by rw [HM.out.2,e];rfl)
       have HG0:Hid (w.heap.size≠gp):=HGN0.out
       have HG1:Hid (w.heap.size+1≠gp):=HGN1.out
       have HRz:Hid (wz.rangeAt gp (i*6) (lfRow p)):=HSZ.out.row (i:=i) (r:=lfRow p) (by rw [<- HR.out,List.getElem?_map,hpi];rfl)
       have HRow:Hid ((R ++ [[.int .i64 b.sp,.int .i64 b.win,.int .i64 p.fr,.int .i64 bt,.int .i64 a.sp,.int .i64 a.item]])[i]? = some (lfRow p)):=by unfold Hid;rw [List.getElem?_append_left (by have:=hRl.out;omega),<- HR.out,List.getElem?_map,hpi];rfl
       have HSS:=hid (And.intro v0 (And.intro n5 (And.intro l2 (And.intro l3 (And.intro u8 (And.intro u0 u7))))))
       refine wp_region_held_drew (S:=(fun w'=>w'.cell? ⟨g,r*20,none⟩=some (.int .i64 b.sp)/\w'.cell? ⟨w.heap.size+1,5,none⟩=some (.int .i64 b.win)/\w'.cell? ⟨gp,i*6+2,none⟩=some (.int .i64 p.fr)/\w'.cell? ⟨gp,i*6+3,none⟩=some (.int .i64 p.rt)/\w'.cell? ⟨w.heap.size,8,none⟩=some (.int .i64 a.rt)/\w'.cell? ⟨w.heap.size,0,none⟩=some (.int .i64 a.sp)/\w'.cell? ⟨w.heap.size,7,none⟩=some (.int .i64 a.item))) (by kernel_rfl) ?_ (fun hHeld=>?_)
       ·((try dsimp only);first | (refine ⟨?_,?_,?_,?_,?_,?_,?_⟩ <;> assumption) | go_keep)
       refine wpAnyH_take (i:=0) (v:=?v1) rfl (by kernel_rfl) (by kernel_rfl) (by kernel_rfl) (fun _ _ _ h=>h) (Or.inl ⟨by rfl,?y1⟩) (by assumption) ?r1
       case y1=>(intro wx hSw;(try dsimp only at hSw);go_simp;try with_reducible rfl)
       try simp only [List.getElem_toArray,List.getElem_cons_zero,Act.put,List.setIfInBounds_toArray,List.set_cons_zero,List.set_cons_succ]
       refine wpAnyH_take (i:=1) (v:=?v2) rfl (by kernel_rfl) (by kernel_rfl) (by kernel_rfl) (fun _ _ _ h=>h) (Or.inl ⟨by rfl,?y2⟩) (by assumption) ?r2
       case y2=>(intro wx hSw;(try dsimp only at hSw);go_simp;try with_reducible rfl)
       try simp only [List.getElem_toArray,List.getElem_cons_zero,List.getElem_cons_succ,Act.put,List.setIfInBounds_toArray,List.set_cons_zero,List.set_cons_succ]
       refine wpAnyH_take (i:=2) (v:=?v3) rfl (by kernel_rfl) (by kernel_rfl) (by kernel_rfl) (fun _ _ _ h=>h) (Or.inl ⟨by rfl,?y3⟩) (by assumption) ?r3
       case y3=>(intro wx hSw;(try dsimp only at hSw);go_simp;try with_reducible rfl)
       try simp only [List.getElem_toArray,List.getElem_cons_zero,List.getElem_cons_succ,Act.put,List.setIfInBounds_toArray,List.set_cons_zero,List.set_cons_succ]
       refine wpAnyH_take (i:=3) (v:=?v4) rfl (by kernel_rfl) (by kernel_rfl) (by kernel_rfl) (fun _ _ _ h=>h) (Or.inl ⟨by rfl,?y4⟩) (by assumption) ?r4
       case y4=>(intro wx hSw;(try dsimp only at hSw);go_simp;try with_reducible rfl)
       try simp only [List.getElem_toArray,List.getElem_cons_zero,List.getElem_cons_succ,Act.put,List.setIfInBounds_toArray,List.set_cons_zero,List.set_cons_succ]
       refine wpAnyH_take (i:=5) (v:=?v5) rfl (by kernel_rfl) (by kernel_rfl) (by kernel_rfl) (fun _ _ _ h=>h) (Or.inl ⟨by rfl,?y5⟩) (by assumption) ?r5
       case y5=>(intro wx hSw;(try dsimp only at hSw);go_simp;try with_reducible rfl)
       try simp only [List.getElem_toArray,List.getElem_cons_zero,List.getElem_cons_succ,Act.put,List.setIfInBounds_toArray,List.set_cons_zero,List.set_cons_succ]
       refine wpAnyH_take (i:=6) (v:=?v6) rfl (by kernel_rfl) (by kernel_rfl) (by kernel_rfl) (fun _ _ _ h=>h) (Or.inl ⟨by rfl,?y6⟩) (by assumption) ?r6
       case y6=>(intro wx hSw;(try dsimp only at hSw);go_simp;try with_reducible rfl)
       try simp only [List.getElem_toArray,List.getElem_cons_zero,List.getElem_cons_succ,Act.put,List.setIfInBounds_toArray,List.set_cons_zero,List.set_cons_succ]
       refine wpAnyH_take (i:=7) (v:=?v7) rfl (by kernel_rfl) (by kernel_rfl) (by kernel_rfl) (fun _ _ _ h=>h) (Or.inl ⟨by rfl,?y7⟩) (by assumption) ?r7
       case y7=>(intro wx hSw;(try dsimp only at hSw);go_simp;try with_reducible rfl)
       try simp only [List.getElem_toArray,List.getElem_cons_zero,List.getElem_cons_succ,Act.put,List.setIfInBounds_toArray,List.set_cons_zero,List.set_cons_succ]
       refine wpAnyH_take (i:=8) (v:=?v8) rfl (by kernel_rfl) (by kernel_rfl) (by kernel_rfl) (fun _ _ _ h=>h) (Or.inl ⟨by rfl,?y8⟩) (by assumption) ?r8
       case y8=>(intro wx hSw;(try dsimp only at hSw);go_simp;try with_reducible rfl)
       try simp only [List.getElem_toArray,List.getElem_cons_zero,List.getElem_cons_succ,Act.put,List.setIfInBounds_toArray,List.set_cons_zero,List.set_cons_succ]
       refine wpAnyH_take (i:=9) (v:=?v9) rfl (by kernel_rfl) (by kernel_rfl) (by kernel_rfl) (fun _ _ _ h=>h) (Or.inl ⟨by rfl,?y9⟩) (by assumption) ?r9
       case y9=>(intro wx hSw;(try dsimp only at hSw);go_simp;try with_reducible rfl)
       try simp only [List.getElem_toArray,List.getElem_cons_zero,List.getElem_cons_succ,Act.put,List.setIfInBounds_toArray,List.set_cons_zero,List.set_cons_succ]
       refine wpAnyH_take (i:=10) (v:=?v10) rfl (by kernel_rfl) (by kernel_rfl) (by kernel_rfl) (fun _ _ _ h=>h) (Or.inl ⟨by rfl,?y10⟩) (by assumption) ?r10
       case y10=>(intro wx hSw;(try dsimp only at hSw);go_simp;try with_reducible rfl)
       try simp only [List.getElem_toArray,List.getElem_cons_zero,List.getElem_cons_succ,Act.put,List.setIfInBounds_toArray,List.set_cons_zero,List.set_cons_succ]
       refine wpAnyH_take (i:=11) (v:=?v11) rfl (by kernel_rfl) (by kernel_rfl) (by kernel_rfl) (fun _ _ _ h=>h) (Or.inl ⟨by rfl,?y11⟩) (by assumption) ?r11
       case y11=>(intro wx hSw;(try dsimp only at hSw);go_simp;try with_reducible rfl)
       try simp only [List.getElem_toArray,List.getElem_cons_zero,List.getElem_cons_succ,Act.put,List.setIfInBounds_toArray,List.set_cons_zero,List.set_cons_succ]
       refine wpAnyH_take (i:=12) (v:=?v12) rfl (by kernel_rfl) (by kernel_rfl) (by kernel_rfl) (fun _ _ _ h=>h) (Or.inl ⟨by rfl,?y12⟩) (by assumption) ?r12
       case y12=>(intro wx hSw;(try dsimp only at hSw);go_simp;try with_reducible rfl)
       try simp only [List.getElem_toArray,List.getElem_cons_zero,List.getElem_cons_succ,Act.put,List.setIfInBounds_toArray,List.set_cons_zero,List.set_cons_succ]
       refine wpAnyH_take (i:=13) (v:=?v13) rfl (by kernel_rfl) (by kernel_rfl) (by kernel_rfl) (fun _ _ _ h=>h) (Or.inl ⟨by rfl,?y13⟩) (by assumption) ?r13
       case y13=>(intro wx hSw;(try dsimp only at hSw);go_simp;try with_reducible rfl)
       try simp only [List.getElem_toArray,List.getElem_cons_zero,List.getElem_cons_succ,Act.put,List.setIfInBounds_toArray,List.set_cons_zero,List.set_cons_succ]
       refine wpAnyH_take (i:=15) (v:=?v14) rfl (by kernel_rfl) (by kernel_rfl) (by kernel_rfl) (fun _ _ _ h=>h) (Or.inl ⟨by rfl,?y14⟩) (by assumption) ?r14
       case y14=>(intro wx hSw;(try dsimp only at hSw);go_simp;try with_reducible rfl)
       try simp only [List.getElem_toArray,List.getElem_cons_zero,List.getElem_cons_succ,Act.put,List.setIfInBounds_toArray,List.set_cons_zero,List.set_cons_succ]
       refine wpAnyH_take (i:=19) (v:=?v15) rfl (by kernel_rfl) (by kernel_rfl) (by kernel_rfl) (fun _ _ _ h=>h) (Or.inl ⟨by rfl,?y15⟩) (by assumption) ?r15
       case y15=>(intro wx hSw;(try dsimp only at hSw);go_simp;try with_reducible rfl)
       try simp only [List.getElem_toArray,List.getElem_cons_zero,List.getElem_cons_succ,Act.put,List.setIfInBounds_toArray,List.set_cons_zero,List.set_cons_succ]
       refine wpAnyH_take (i:=20) (v:=?v16) rfl (by kernel_rfl) (by kernel_rfl) (by kernel_rfl) (fun _ _ _ h=>h) (Or.inl ⟨by rfl,?y16⟩) (by assumption) ?r16
       case y16=>(intro wx hSw;(try dsimp only at hSw);go_simp;try with_reducible rfl)
       try simp only [List.getElem_toArray,List.getElem_cons_zero,List.getElem_cons_succ,Act.put,List.setIfInBounds_toArray,List.set_cons_zero,List.set_cons_succ]
       refine wpAnyH_take (i:=21) (v:=?v17) rfl (by kernel_rfl) (by kernel_rfl) (by kernel_rfl) (fun _ _ _ h=>h) (Or.inl ⟨by rfl,?y17⟩) (by assumption) ?r17
       case y17=>(intro wx hSw;(try dsimp only at hSw);go_simp;try with_reducible rfl)
       try simp only [List.getElem_toArray,List.getElem_cons_zero,List.getElem_cons_succ,Act.put,List.setIfInBounds_toArray,List.set_cons_zero,List.set_cons_succ]
       refine wpAnyH_take (i:=23) (v:=?v18) rfl (by kernel_rfl) (by kernel_rfl) (by kernel_rfl) (fun _ _ _ h=>h) (Or.inl ⟨by rfl,?y18⟩) (by assumption) ?r18
       case y18=>(intro wx hSw;(try dsimp only at hSw);go_simp;try with_reducible rfl)
       try simp only [List.getElem_toArray,List.getElem_cons_zero,List.getElem_cons_succ,Act.put,List.setIfInBounds_toArray,List.set_cons_zero,List.set_cons_succ]
       refine wpAnyH_take (i:=27) (v:=?v19) rfl (by kernel_rfl) (by kernel_rfl) (by kernel_rfl) (fun _ _ _ h=>h) (Or.inl ⟨by rfl,?y19⟩) (by assumption) ?r19
       case y19=>(intro wx hSw;(try dsimp only at hSw);go_simp;try with_reducible rfl)
       try simp only [List.getElem_toArray,List.getElem_cons_zero,List.getElem_cons_succ,Act.put,List.setIfInBounds_toArray,List.set_cons_zero,List.set_cons_succ]
       refine wpAnyH_take (i:=28) (v:=?v20) rfl (by kernel_rfl) (by kernel_rfl) (by kernel_rfl) (fun _ _ _ h=>h) (Or.inl ⟨by rfl,?y20⟩) (by assumption) ?r20
       case y20=>(intro wx hSw;(try dsimp only at hSw);go_simp;try with_reducible rfl)
       try simp only [List.getElem_toArray,List.getElem_cons_zero,List.getElem_cons_succ,Act.put,List.setIfInBounds_toArray,List.set_cons_zero,List.set_cons_succ]
       refine wpAnyH_take (i:=29) (v:=?v21) rfl (by kernel_rfl) (by kernel_rfl) (by kernel_rfl) (fun _ _ _ h=>h) (Or.inl ⟨by rfl,?y21⟩) (by assumption) ?r21
       case y21=>(intro wx hSw;(try dsimp only at hSw);go_simp;try with_reducible rfl)
       try simp only [List.getElem_toArray,List.getElem_cons_zero,List.getElem_cons_succ,Act.put,List.setIfInBounds_toArray,List.set_cons_zero,List.set_cons_succ]
       refine wpAnyH_take (i:=31) (v:=?v22) rfl (by kernel_rfl) (by kernel_rfl) (by kernel_rfl) (fun _ _ _ h=>h) (Or.inl ⟨by rfl,?y22⟩) (by assumption) ?r22
       case y22=>(intro wx hSw;(try dsimp only at hSw);go_simp;try with_reducible rfl)
       try simp only [List.getElem_toArray,List.getElem_cons_zero,List.getElem_cons_succ,Act.put,List.setIfInBounds_toArray,List.set_cons_zero,List.set_cons_succ]
       refine wpAnyH_take (i:=32) (v:=?v23) rfl (by kernel_rfl) (by kernel_rfl) (by kernel_rfl) (fun _ _ _ h=>h) (Or.inl ⟨by rfl,?y23⟩) (by assumption) ?r23
       case y23=>(intro wx hSw;(try dsimp only at hSw);go_simp;try with_reducible rfl)
       try simp only [List.getElem_toArray,List.getElem_cons_zero,List.getElem_cons_succ,Act.put,List.setIfInBounds_toArray,List.set_cons_zero,List.set_cons_succ]
       refine wpAnyH_take (i:=33) (v:=?v24) rfl (by kernel_rfl) (by kernel_rfl) (by kernel_rfl) (fun _ _ _ h=>h) (Or.inl ⟨by rfl,?y24⟩) (by assumption) ?r24
       case y24=>(intro wx hSw;(try dsimp only at hSw);go_simp;try with_reducible rfl)
       try simp only [List.getElem_toArray,List.getElem_cons_zero,List.getElem_cons_succ,Act.put,List.setIfInBounds_toArray,List.set_cons_zero,List.set_cons_succ]
       refine wpAnyH_take (i:=34) (v:=?v25) rfl (by kernel_rfl) (by kernel_rfl) (by kernel_rfl) (fun _ _ _ h=>h) (Or.inl ⟨by rfl,?y25⟩) (by assumption) ?r25
       case y25=>(intro wx hSw;(try dsimp only at hSw);go_simp;try with_reducible rfl)
       try simp only [List.getElem_toArray,List.getElem_cons_zero,List.getElem_cons_succ,Act.put,List.setIfInBounds_toArray,List.set_cons_zero,List.set_cons_succ]
       refine wpAnyH_take (i:=35) (v:=?v26) rfl (by kernel_rfl) (by kernel_rfl) (by kernel_rfl) (fun _ _ _ h=>h) (Or.inl ⟨by rfl,?y26⟩) (by assumption) ?r26
       case y26=>(intro wx hSw;(try dsimp only at hSw);go_simp;try with_reducible rfl)
       try simp only [List.getElem_toArray,List.getElem_cons_zero,List.getElem_cons_succ,Act.put,List.setIfInBounds_toArray,List.set_cons_zero,List.set_cons_succ]
       refine wpAnyH_ready (rs:=[4,14,22]) (by kernel_rfl) (by simp) (AllReadyH.cons rfl (fun K hK=>?c1) (AllReadyH.cons rfl (fun K hK=>?c2) (AllReadyH.cons rfl (fun K hK=>?c3) AllReadyH.nil)))
       case' c1=>
        go_simp
        refine hK.out _ _ ?_ (fun hHeldx=>?_)
        ·((try dsimp only);first | (refine ⟨?_,?_,?_,?_,?_,?_,?_⟩ <;> assumption) | go_keep)
        clear hK K hHeld
        try simp only [List.getElem_toArray,List.getElem_cons_zero,List.getElem_cons_succ,Act.put,List.setIfInBounds_toArray,List.set_cons_zero,List.set_cons_succ]
        refine wpAnyH_ready (rs:=[14,22]) (by kernel_rfl) (by simp) (AllReadyH.cons rfl (fun K hK=>?c4) (AllReadyH.cons rfl (fun K hK=>?c5) AllReadyH.nil))
        case' c4=>
         go_simp
         refine hK.out _ _ ?_ (fun hHeldxx=>?_)
         ·((try dsimp only);first | (refine ⟨?_,?_,?_,?_,?_,?_,?_⟩ <;> assumption) | go_keep)
         clear hK K hHeldx
         try simp only [List.getElem_toArray,List.getElem_cons_zero,List.getElem_cons_succ,Act.put,List.setIfInBounds_toArray,List.set_cons_zero,List.set_cons_succ]
         refine wpAnyH_take (i:=16) (v:=?v27) rfl (by kernel_rfl) (by kernel_rfl) (by kernel_rfl) (fun _ _ _ h=>h) (Or.inl ⟨by rfl,?y27⟩) (by assumption) ?r27
         case y27=>(intro wx hSw;(try dsimp only at hSw);go_simp;try with_reducible rfl)
         try simp only [List.getElem_toArray,List.getElem_cons_zero,List.getElem_cons_succ,Act.put,List.setIfInBounds_toArray,List.set_cons_zero,List.set_cons_succ]
         refine wpAnyH_take (i:=17) (v:=?v28) rfl (by kernel_rfl) (by kernel_rfl) (by kernel_rfl) (fun _ _ _ h=>h) (Or.inl ⟨by rfl,?y28⟩) (by assumption) ?r28
         case y28=>(intro wx hSw;(try dsimp only at hSw);go_simp;try with_reducible rfl)
         try simp only [List.getElem_toArray,List.getElem_cons_zero,List.getElem_cons_succ,Act.put,List.setIfInBounds_toArray,List.set_cons_zero,List.set_cons_succ]
         refine wpAnyH_take (i:=18) (v:=?v29) rfl (by kernel_rfl) (by kernel_rfl) (by kernel_rfl) (fun _ _ _ h=>h) (Or.inl ⟨by rfl,?y29⟩) (by assumption) ?r29
         case y29=>(intro wx hSw;(try dsimp only at hSw);go_simp;try with_reducible rfl)
         try simp only [List.getElem_toArray,List.getElem_cons_zero,List.getElem_cons_succ,Act.put,List.setIfInBounds_toArray,List.set_cons_zero,List.set_cons_succ]
         refine wpAnyH_ready (rs:=[22]) (by kernel_rfl) (by simp) (AllReadyH.cons rfl (fun K hK=>?_) AllReadyH.nil)
         go_simp
         refine hK.out _ _ ?_ (fun hHeldxxx=>?_)
         ·((try dsimp only);first | (refine ⟨?_,?_,?_,?_,?_,?_,?_⟩ <;> assumption) | go_keep)
         clear hK K hHeldxx
         try simp only [List.getElem_toArray,List.getElem_cons_zero,List.getElem_cons_succ,Act.put,List.setIfInBounds_toArray,List.set_cons_zero,List.set_cons_succ]
         refine wpAnyH_take (i:=24) (v:=?v30) rfl (by kernel_rfl) (by kernel_rfl) (by kernel_rfl) (fun _ _ _ h=>h) (Or.inl ⟨by rfl,?y30⟩) (by assumption) ?r30
         case y30=>(intro wx hSw;(try dsimp only at hSw);go_simp;try with_reducible rfl)
         try simp only [List.getElem_toArray,List.getElem_cons_zero,List.getElem_cons_succ,Act.put,List.setIfInBounds_toArray,List.set_cons_zero,List.set_cons_succ]
         refine wpAnyH_take (i:=25) (v:=?v31) rfl (by kernel_rfl) (by kernel_rfl) (by kernel_rfl) (fun _ _ _ h=>h) (Or.inl ⟨by rfl,?y31⟩) (by assumption) ?r31
         case y31=>(intro wx hSw;(try dsimp only at hSw);go_simp;try with_reducible rfl)
         try simp only [List.getElem_toArray,List.getElem_cons_zero,List.getElem_cons_succ,Act.put,List.setIfInBounds_toArray,List.set_cons_zero,List.set_cons_succ]
         refine wpAnyH_take (i:=26) (v:=?v32) rfl (by kernel_rfl) (by kernel_rfl) (by kernel_rfl) (fun _ _ _ h=>h) (Or.inl ⟨by rfl,?y32⟩) (by assumption) ?r32
         case y32=>(intro wx hSw;(try dsimp only at hSw);go_simp;try with_reducible rfl)
         try simp only [List.getElem_toArray,List.getElem_cons_zero,List.getElem_cons_succ,Act.put,List.setIfInBounds_toArray,List.set_cons_zero,List.set_cons_succ]
         refine wpAnyH_take (i:=30) (v:=?v33) rfl (by kernel_rfl) (by kernel_rfl) (by kernel_rfl) (fun _ _ _ h=>h) (Or.inl ⟨by rfl,?y33⟩) (by assumption) ?r33
         case y33=>(intro wx hSw;(try dsimp only at hSw);go_simp;try with_reducible rfl)
         try simp only [List.getElem_toArray,List.getElem_cons_zero,List.getElem_cons_succ,Act.put,List.setIfInBounds_toArray,List.set_cons_zero,List.set_cons_succ]
         refine wpAnyH_take (i:=36) (v:=?v34) rfl (by kernel_rfl) (by kernel_rfl) (by kernel_rfl) (fun _ _ _ h=>h) (Or.inl ⟨by rfl,?y34⟩) (by assumption) ?r34
         case y34=>(intro wx hSw;(try dsimp only at hSw);go_simp;try with_reducible rfl)
         try simp only [List.getElem_toArray,List.getElem_cons_zero,List.getElem_cons_succ,Act.put,List.setIfInBounds_toArray,List.set_cons_zero,List.set_cons_succ]
         refine wpAnyH_ready (rs:=[37]) (by kernel_rfl) (by simp) (AllReadyH.cons rfl (fun K hK=>?_) AllReadyH.nil)
         go_simp
         refine hK.out _ _ ?_ (fun hHeldxxxx=>?_)
         ·((try dsimp only);first | (refine ⟨?_,?_,?_,?_,?_,?_,?_⟩ <;> assumption) | go_keep)
         clear hK K hHeldxxx
         try simp only [List.getElem_toArray,List.getElem_cons_zero,List.getElem_cons_succ,Act.put,List.setIfInBounds_toArray,List.set_cons_zero,List.set_cons_succ]
         refine wpAnyH_ready (rs:=[38]) (by kernel_rfl) (by simp) (AllReadyH.cons rfl (fun K hK=>?_) AllReadyH.nil)
         (refine step_append_keep _ rfl _ _ 185 rfl 192 j2 _ 6 48 Tryz.underlying185 hj hy0 hy1 hy2 rfl (by decide) (.slice (some ⟨gp,0,none⟩) ml cl) R (by simp [Act.eval]) ((HSZ.out.alloc _).drew) ⟨wz.heap.size,0,none⟩ 1 1 [[.int .i64 b.sp,.int .i64 b.win,.int .i64 p.fr,.int .i64 bt,.int .i64 a.sp,.int .i64 a.item]] (by simp [Act.eval]) rfl (by decide) (by simp) (fun j u h=>cell_news wz #[.int .i64 b.sp,.int .i64 b.win,.int .i64 p.fr,.int .i64 bt,.int .i64 a.sp,.int .i64 a.item] 192 j u (by simpa using h)) (fun u hu=>(List.all_eq_true.1 (show ([[.int .i64 b.sp,.int .i64 b.win,.int .i64 p.fr,.int .i64 bt,.int .i64 a.sp,.int .i64 a.item]].flatten).all (·.oneCell')=true from rfl)) u hu) (by have:=hRl.out;unfold maxLen;omega) (by have:=hRl.out;omega) ?_;intro a5 c5 w5 GG;obtain ⟨G5,K5⟩:=GG;have LA:=lend_app (r:=r) (B:=w.heap.size) (i:=i) (p:=p) (a:=a) (b:=b) G5 K5 lyd lgd lwd lgp hgpy HGG.out HG0.out HG1.out hgy (by omega) (by omega) HZ.out.1.blk HRow.out HRz.out HSS.out;obtain ⟨hb5',⟨k0,k1,k2,k3,k4,k5,k6⟩,KS',Z5⟩:=LA;have hb5:=hid hb5';have hc5:=(cell_of_row w5 _ 3 _ _ _ hb5').trans (rfl:_=some _);have hf5:w5.frozen? ⟨y,3,none⟩=false:=frozen_of_row _ _ _ _ _ hb5';have KS:=hid (KS' (.slice a5 (R.length+1) c5));clear KS' hb5';have H5:=hid (And.intro G5 K5);clear G5 K5)
         refine hK.out _ _ ?_ (fun hHeldxxxxx=>?_)
         ·((try dsimp only);first | (refine ⟨?_,?_,?_,?_,?_,?_,?_⟩ <;> assumption) | exact KS.out | go_keep)
         clear hK K hHeldxxxx
         try simp only [List.getElem_toArray,List.getElem_cons_zero,List.getElem_cons_succ,Act.put,List.setIfInBounds_toArray,List.set_cons_zero,List.set_cons_succ]
         refine wpAnyH_take (i:=39) (v:=?v35) rfl (by kernel_rfl) (by kernel_rfl) (by kernel_rfl) (fun _ _ _ h=>h) (Or.inl ⟨by rfl,?y35⟩) (by assumption) ?r35
         case y35=>(intro wx hSw;(try dsimp only at hSw);go_simp;try with_reducible rfl)
         try simp only [List.getElem_toArray,List.getElem_cons_zero,List.getElem_cons_succ,Act.put,List.setIfInBounds_toArray,List.set_cons_zero,List.set_cons_succ]
         refine wpAnyH_take (i:=40) (v:=?v36) rfl (by kernel_rfl) (by kernel_rfl) (by kernel_rfl) (fun _ _ _ h=>h) (Or.inl ⟨by rfl,?y36⟩) (by assumption) ?r36
         case y36=>(intro wx hSw;(try dsimp only at hSw);go_simp;try with_reducible rfl)
         try simp only [List.getElem_toArray,List.getElem_cons_zero,List.getElem_cons_succ,Act.put,List.setIfInBounds_toArray,List.set_cons_zero,List.set_cons_succ]
         refine wpAnyH_ready (rs:=[41]) (by kernel_rfl) (by simp) (AllReadyH.cons rfl (fun K hK=>?_) AllReadyH.nil)
         go_simp
         refine hK.out _ _ ?_ (fun hHeldxxxxxx=>?_)
         ·((try dsimp only);first | (refine ⟨?_,?_,?_,?_,?_,?_,?_⟩ <;> assumption) | exact KS.out | go_keep)
         clear hK K hHeldxxxxx
         try simp only [List.getElem_toArray,List.getElem_cons_zero,List.getElem_cons_succ,Act.put,List.setIfInBounds_toArray,List.set_cons_zero,List.set_cons_succ]
         refine wpAnyH_done (by kernel_rfl) ?_ _
        case' c5=>
         go_simp
         refine hK.out _ _ ?_ (fun hHeldxx=>?_)
         ·((try dsimp only);first | (refine ⟨?_,?_,?_,?_,?_,?_,?_⟩ <;> assumption) | go_keep)
         clear hK K hHeldx
         try simp only [List.getElem_toArray,List.getElem_cons_zero,List.getElem_cons_succ,Act.put,List.setIfInBounds_toArray,List.set_cons_zero,List.set_cons_succ]
         refine wpAnyH_take (i:=24) (v:=?v37) rfl (by kernel_rfl) (by kernel_rfl) (by kernel_rfl) (fun _ _ _ h=>h) (Or.inl ⟨by rfl,?y37⟩) (by assumption) ?r37
         case y37=>(intro wx hSw;(try dsimp only at hSw);go_simp;try with_reducible rfl)
         try simp only [List.getElem_toArray,List.getElem_cons_zero,List.getElem_cons_succ,Act.put,List.setIfInBounds_toArray,List.set_cons_zero,List.set_cons_succ]
         refine wpAnyH_take (i:=25) (v:=?v38) rfl (by kernel_rfl) (by kernel_rfl) (by kernel_rfl) (fun _ _ _ h=>h) (Or.inl ⟨by rfl,?y38⟩) (by assumption) ?r38
         case y38=>(intro wx hSw;(try dsimp only at hSw);go_simp;try with_reducible rfl)
         try simp only [List.getElem_toArray,List.getElem_cons_zero,List.getElem_cons_succ,Act.put,List.setIfInBounds_toArray,List.set_cons_zero,List.set_cons_succ]
         refine wpAnyH_take (i:=26) (v:=?v39) rfl (by kernel_rfl) (by kernel_rfl) (by kernel_rfl) (fun _ _ _ h=>h) (Or.inl ⟨by rfl,?y39⟩) (by assumption) ?r39
         case y39=>(intro wx hSw;(try dsimp only at hSw);go_simp;try with_reducible rfl)
         try simp only [List.getElem_toArray,List.getElem_cons_zero,List.getElem_cons_succ,Act.put,List.setIfInBounds_toArray,List.set_cons_zero,List.set_cons_succ]
         refine wpAnyH_take (i:=30) (v:=?v40) rfl (by kernel_rfl) (by kernel_rfl) (by kernel_rfl) (fun _ _ _ h=>h) (Or.inl ⟨by rfl,?y40⟩) (by assumption) ?r40
         case y40=>(intro wx hSw;(try dsimp only at hSw);go_simp;try with_reducible rfl)
         try simp only [List.getElem_toArray,List.getElem_cons_zero,List.getElem_cons_succ,Act.put,List.setIfInBounds_toArray,List.set_cons_zero,List.set_cons_succ]
         refine wpAnyH_ready (rs:=[14]) (by kernel_rfl) (by simp) (AllReadyH.cons rfl (fun K hK=>?_) AllReadyH.nil)
         go_simp
         refine hK.out _ _ ?_ (fun hHeldxxx=>?_)
         ·((try dsimp only);first | (refine ⟨?_,?_,?_,?_,?_,?_,?_⟩ <;> assumption) | go_keep)
         clear hK K hHeldxx
         try simp only [List.getElem_toArray,List.getElem_cons_zero,List.getElem_cons_succ,Act.put,List.setIfInBounds_toArray,List.set_cons_zero,List.set_cons_succ]
         refine wpAnyH_take (i:=16) (v:=?v41) rfl (by kernel_rfl) (by kernel_rfl) (by kernel_rfl) (fun _ _ _ h=>h) (Or.inl ⟨by rfl,?y41⟩) (by assumption) ?r41
         case y41=>(intro wx hSw;(try dsimp only at hSw);go_simp;try with_reducible rfl)
         try simp only [List.getElem_toArray,List.getElem_cons_zero,List.getElem_cons_succ,Act.put,List.setIfInBounds_toArray,List.set_cons_zero,List.set_cons_succ]
         refine wpAnyH_take (i:=17) (v:=?v42) rfl (by kernel_rfl) (by kernel_rfl) (by kernel_rfl) (fun _ _ _ h=>h) (Or.inl ⟨by rfl,?y42⟩) (by assumption) ?r42
         case y42=>(intro wx hSw;(try dsimp only at hSw);go_simp;try with_reducible rfl)
         try simp only [List.getElem_toArray,List.getElem_cons_zero,List.getElem_cons_succ,Act.put,List.setIfInBounds_toArray,List.set_cons_zero,List.set_cons_succ]
         refine wpAnyH_take (i:=18) (v:=?v43) rfl (by kernel_rfl) (by kernel_rfl) (by kernel_rfl) (fun _ _ _ h=>h) (Or.inl ⟨by rfl,?y43⟩) (by assumption) ?r43
         case y43=>(intro wx hSw;(try dsimp only at hSw);go_simp;try with_reducible rfl)
         try simp only [List.getElem_toArray,List.getElem_cons_zero,List.getElem_cons_succ,Act.put,List.setIfInBounds_toArray,List.set_cons_zero,List.set_cons_succ]
         refine wpAnyH_take (i:=36) (v:=?v44) rfl (by kernel_rfl) (by kernel_rfl) (by kernel_rfl) (fun _ _ _ h=>h) (Or.inl ⟨by rfl,?y44⟩) (by assumption) ?r44
         case y44=>(intro wx hSw;(try dsimp only at hSw);go_simp;try with_reducible rfl)
         try simp only [List.getElem_toArray,List.getElem_cons_zero,List.getElem_cons_succ,Act.put,List.setIfInBounds_toArray,List.set_cons_zero,List.set_cons_succ]
         refine wpAnyH_ready (rs:=[37]) (by kernel_rfl) (by simp) (AllReadyH.cons rfl (fun K hK=>?_) AllReadyH.nil)
         go_simp
         refine hK.out _ _ ?_ (fun hHeldxxxx=>?_)
         ·((try dsimp only);first | (refine ⟨?_,?_,?_,?_,?_,?_,?_⟩ <;> assumption) | go_keep)
         clear hK K hHeldxxx
         try simp only [List.getElem_toArray,List.getElem_cons_zero,List.getElem_cons_succ,Act.put,List.setIfInBounds_toArray,List.set_cons_zero,List.set_cons_succ]
         refine wpAnyH_ready (rs:=[38]) (by kernel_rfl) (by simp) (AllReadyH.cons rfl (fun K hK=>?_) AllReadyH.nil)
         (refine step_append_keep _ rfl _ _ 185 rfl 192 j2 _ 6 48 Tryz.underlying185 hj hy0 hy1 hy2 rfl (by decide) (.slice (some ⟨gp,0,none⟩) ml cl) R (by simp [Act.eval]) ((HSZ.out.alloc _).drew) ⟨wz.heap.size,0,none⟩ 1 1 [[.int .i64 b.sp,.int .i64 b.win,.int .i64 p.fr,.int .i64 bt,.int .i64 a.sp,.int .i64 a.item]] (by simp [Act.eval]) rfl (by decide) (by simp) (fun j u h=>cell_news wz #[.int .i64 b.sp,.int .i64 b.win,.int .i64 p.fr,.int .i64 bt,.int .i64 a.sp,.int .i64 a.item] 192 j u (by simpa using h)) (fun u hu=>(List.all_eq_true.1 (show ([[.int .i64 b.sp,.int .i64 b.win,.int .i64 p.fr,.int .i64 bt,.int .i64 a.sp,.int .i64 a.item]].flatten).all (·.oneCell')=true from rfl)) u hu) (by have:=hRl.out;unfold maxLen;omega) (by have:=hRl.out;omega) ?_;intro a5 c5 w5 GG;obtain ⟨G5,K5⟩:=GG;have LA:=lend_app (r:=r) (B:=w.heap.size) (i:=i) (p:=p) (a:=a) (b:=b) G5 K5 lyd lgd lwd lgp hgpy HGG.out HG0.out HG1.out hgy (by omega) (by omega) HZ.out.1.blk HRow.out HRz.out HSS.out;obtain ⟨hb5',⟨k0,k1,k2,k3,k4,k5,k6⟩,KS',Z5⟩:=LA;have hb5:=hid hb5';have hc5:=(cell_of_row w5 _ 3 _ _ _ hb5').trans (rfl:_=some _);have hf5:w5.frozen? ⟨y,3,none⟩=false:=frozen_of_row _ _ _ _ _ hb5';have KS:=hid (KS' (.slice a5 (R.length+1) c5));clear KS' hb5';have H5:=hid (And.intro G5 K5);clear G5 K5)
         refine hK.out _ _ ?_ (fun hHeldxxxxx=>?_)
         ·((try dsimp only);first | (refine ⟨?_,?_,?_,?_,?_,?_,?_⟩ <;> assumption) | exact KS.out | go_keep)
         clear hK K hHeldxxxx
         try simp only [List.getElem_toArray,List.getElem_cons_zero,List.getElem_cons_succ,Act.put,List.setIfInBounds_toArray,List.set_cons_zero,List.set_cons_succ]
         refine wpAnyH_take (i:=39) (v:=?v45) rfl (by kernel_rfl) (by kernel_rfl) (by kernel_rfl) (fun _ _ _ h=>h) (Or.inl ⟨by rfl,?y45⟩) (by assumption) ?r45
         case y45=>(intro wx hSw;(try dsimp only at hSw);go_simp;try with_reducible rfl)
         try simp only [List.getElem_toArray,List.getElem_cons_zero,List.getElem_cons_succ,Act.put,List.setIfInBounds_toArray,List.set_cons_zero,List.set_cons_succ]
         refine wpAnyH_take (i:=40) (v:=?v46) rfl (by kernel_rfl) (by kernel_rfl) (by kernel_rfl) (fun _ _ _ h=>h) (Or.inl ⟨by rfl,?y46⟩) (by assumption) ?r46
         case y46=>(intro wx hSw;(try dsimp only at hSw);go_simp;try with_reducible rfl)
         try simp only [List.getElem_toArray,List.getElem_cons_zero,List.getElem_cons_succ,Act.put,List.setIfInBounds_toArray,List.set_cons_zero,List.set_cons_succ]
         refine wpAnyH_ready (rs:=[41]) (by kernel_rfl) (by simp) (AllReadyH.cons rfl (fun K hK=>?_) AllReadyH.nil)
         go_simp
         refine hK.out _ _ ?_ (fun hHeldxxxxxx=>?_)
         ·((try dsimp only);first | (refine ⟨?_,?_,?_,?_,?_,?_,?_⟩ <;> assumption) | exact KS.out | go_keep)
         clear hK K hHeldxxxxx
         try simp only [List.getElem_toArray,List.getElem_cons_zero,List.getElem_cons_succ,Act.put,List.setIfInBounds_toArray,List.set_cons_zero,List.set_cons_succ]
         refine wpAnyH_done (by kernel_rfl) ?_ _
       case' c2=>
        go_simp
        refine hK.out _ _ ?_ (fun hHeldx=>?_)
        ·((try dsimp only);first | (refine ⟨?_,?_,?_,?_,?_,?_,?_⟩ <;> assumption) | go_keep)
        clear hK K hHeld
        try simp only [List.getElem_toArray,List.getElem_cons_zero,List.getElem_cons_succ,Act.put,List.setIfInBounds_toArray,List.set_cons_zero,List.set_cons_succ]
        refine wpAnyH_take (i:=16) (v:=?v47) rfl (by kernel_rfl) (by kernel_rfl) (by kernel_rfl) (fun _ _ _ h=>h) (Or.inl ⟨by rfl,?y47⟩) (by assumption) ?r47
        case y47=>(intro wx hSw;(try dsimp only at hSw);go_simp;try with_reducible rfl)
        try simp only [List.getElem_toArray,List.getElem_cons_zero,List.getElem_cons_succ,Act.put,List.setIfInBounds_toArray,List.set_cons_zero,List.set_cons_succ]
        refine wpAnyH_take (i:=17) (v:=?v48) rfl (by kernel_rfl) (by kernel_rfl) (by kernel_rfl) (fun _ _ _ h=>h) (Or.inl ⟨by rfl,?y48⟩) (by assumption) ?r48
        case y48=>(intro wx hSw;(try dsimp only at hSw);go_simp;try with_reducible rfl)
        try simp only [List.getElem_toArray,List.getElem_cons_zero,List.getElem_cons_succ,Act.put,List.setIfInBounds_toArray,List.set_cons_zero,List.set_cons_succ]
        refine wpAnyH_take (i:=18) (v:=?v49) rfl (by kernel_rfl) (by kernel_rfl) (by kernel_rfl) (fun _ _ _ h=>h) (Or.inl ⟨by rfl,?y49⟩) (by assumption) ?r49
        case y49=>(intro wx hSw;(try dsimp only at hSw);go_simp;try with_reducible rfl)
        try simp only [List.getElem_toArray,List.getElem_cons_zero,List.getElem_cons_succ,Act.put,List.setIfInBounds_toArray,List.set_cons_zero,List.set_cons_succ]
        refine wpAnyH_ready (rs:=[4,22]) (by kernel_rfl) (by simp) (AllReadyH.cons rfl (fun K hK=>?c6) (AllReadyH.cons rfl (fun K hK=>?c7) AllReadyH.nil))
        case' c6=>
         go_simp
         refine hK.out _ _ ?_ (fun hHeldxx=>?_)
         ·((try dsimp only);first | (refine ⟨?_,?_,?_,?_,?_,?_,?_⟩ <;> assumption) | go_keep)
         clear hK K hHeldx
         try simp only [List.getElem_toArray,List.getElem_cons_zero,List.getElem_cons_succ,Act.put,List.setIfInBounds_toArray,List.set_cons_zero,List.set_cons_succ]
         refine wpAnyH_ready (rs:=[22]) (by kernel_rfl) (by simp) (AllReadyH.cons rfl (fun K hK=>?_) AllReadyH.nil)
         go_simp
         refine hK.out _ _ ?_ (fun hHeldxxx=>?_)
         ·((try dsimp only);first | (refine ⟨?_,?_,?_,?_,?_,?_,?_⟩ <;> assumption) | go_keep)
         clear hK K hHeldxx
         try simp only [List.getElem_toArray,List.getElem_cons_zero,List.getElem_cons_succ,Act.put,List.setIfInBounds_toArray,List.set_cons_zero,List.set_cons_succ]
         refine wpAnyH_take (i:=24) (v:=?v50) rfl (by kernel_rfl) (by kernel_rfl) (by kernel_rfl) (fun _ _ _ h=>h) (Or.inl ⟨by rfl,?y50⟩) (by assumption) ?r50
         case y50=>(intro wx hSw;(try dsimp only at hSw);go_simp;try with_reducible rfl)
         try simp only [List.getElem_toArray,List.getElem_cons_zero,List.getElem_cons_succ,Act.put,List.setIfInBounds_toArray,List.set_cons_zero,List.set_cons_succ]
         refine wpAnyH_take (i:=25) (v:=?v51) rfl (by kernel_rfl) (by kernel_rfl) (by kernel_rfl) (fun _ _ _ h=>h) (Or.inl ⟨by rfl,?y51⟩) (by assumption) ?r51
         case y51=>(intro wx hSw;(try dsimp only at hSw);go_simp;try with_reducible rfl)
         try simp only [List.getElem_toArray,List.getElem_cons_zero,List.getElem_cons_succ,Act.put,List.setIfInBounds_toArray,List.set_cons_zero,List.set_cons_succ]
         refine wpAnyH_take (i:=26) (v:=?v52) rfl (by kernel_rfl) (by kernel_rfl) (by kernel_rfl) (fun _ _ _ h=>h) (Or.inl ⟨by rfl,?y52⟩) (by assumption) ?r52
         case y52=>(intro wx hSw;(try dsimp only at hSw);go_simp;try with_reducible rfl)
         try simp only [List.getElem_toArray,List.getElem_cons_zero,List.getElem_cons_succ,Act.put,List.setIfInBounds_toArray,List.set_cons_zero,List.set_cons_succ]
         refine wpAnyH_take (i:=30) (v:=?v53) rfl (by kernel_rfl) (by kernel_rfl) (by kernel_rfl) (fun _ _ _ h=>h) (Or.inl ⟨by rfl,?y53⟩) (by assumption) ?r53
         case y53=>(intro wx hSw;(try dsimp only at hSw);go_simp;try with_reducible rfl)
         try simp only [List.getElem_toArray,List.getElem_cons_zero,List.getElem_cons_succ,Act.put,List.setIfInBounds_toArray,List.set_cons_zero,List.set_cons_succ]
         refine wpAnyH_take (i:=36) (v:=?v54) rfl (by kernel_rfl) (by kernel_rfl) (by kernel_rfl) (fun _ _ _ h=>h) (Or.inl ⟨by rfl,?y54⟩) (by assumption) ?r54
         case y54=>(intro wx hSw;(try dsimp only at hSw);go_simp;try with_reducible rfl)
         try simp only [List.getElem_toArray,List.getElem_cons_zero,List.getElem_cons_succ,Act.put,List.setIfInBounds_toArray,List.set_cons_zero,List.set_cons_succ]
         refine wpAnyH_ready (rs:=[37]) (by kernel_rfl) (by simp) (AllReadyH.cons rfl (fun K hK=>?_) AllReadyH.nil)
         go_simp
         refine hK.out _ _ ?_ (fun hHeldxxxx=>?_)
         ·((try dsimp only);first | (refine ⟨?_,?_,?_,?_,?_,?_,?_⟩ <;> assumption) | go_keep)
         clear hK K hHeldxxx
         try simp only [List.getElem_toArray,List.getElem_cons_zero,List.getElem_cons_succ,Act.put,List.setIfInBounds_toArray,List.set_cons_zero,List.set_cons_succ]
         refine wpAnyH_ready (rs:=[38]) (by kernel_rfl) (by simp) (AllReadyH.cons rfl (fun K hK=>?_) AllReadyH.nil)
         (refine step_append_keep _ rfl _ _ 185 rfl 192 j2 _ 6 48 Tryz.underlying185 hj hy0 hy1 hy2 rfl (by decide) (.slice (some ⟨gp,0,none⟩) ml cl) R (by simp [Act.eval]) ((HSZ.out.alloc _).drew) ⟨wz.heap.size,0,none⟩ 1 1 [[.int .i64 b.sp,.int .i64 b.win,.int .i64 p.fr,.int .i64 bt,.int .i64 a.sp,.int .i64 a.item]] (by simp [Act.eval]) rfl (by decide) (by simp) (fun j u h=>cell_news wz #[.int .i64 b.sp,.int .i64 b.win,.int .i64 p.fr,.int .i64 bt,.int .i64 a.sp,.int .i64 a.item] 192 j u (by simpa using h)) (fun u hu=>(List.all_eq_true.1 (show ([[.int .i64 b.sp,.int .i64 b.win,.int .i64 p.fr,.int .i64 bt,.int .i64 a.sp,.int .i64 a.item]].flatten).all (·.oneCell')=true from rfl)) u hu) (by have:=hRl.out;unfold maxLen;omega) (by have:=hRl.out;omega) ?_;intro a5 c5 w5 GG;obtain ⟨G5,K5⟩:=GG;have LA:=lend_app (r:=r) (B:=w.heap.size) (i:=i) (p:=p) (a:=a) (b:=b) G5 K5 lyd lgd lwd lgp hgpy HGG.out HG0.out HG1.out hgy (by omega) (by omega) HZ.out.1.blk HRow.out HRz.out HSS.out;obtain ⟨hb5',⟨k0,k1,k2,k3,k4,k5,k6⟩,KS',Z5⟩:=LA;have hb5:=hid hb5';have hc5:=(cell_of_row w5 _ 3 _ _ _ hb5').trans (rfl:_=some _);have hf5:w5.frozen? ⟨y,3,none⟩=false:=frozen_of_row _ _ _ _ _ hb5';have KS:=hid (KS' (.slice a5 (R.length+1) c5));clear KS' hb5';have H5:=hid (And.intro G5 K5);clear G5 K5)
         refine hK.out _ _ ?_ (fun hHeldxxxxx=>?_)
         ·((try dsimp only);first | (refine ⟨?_,?_,?_,?_,?_,?_,?_⟩ <;> assumption) | exact KS.out | go_keep)
         clear hK K hHeldxxxx
         try simp only [List.getElem_toArray,List.getElem_cons_zero,List.getElem_cons_succ,Act.put,List.setIfInBounds_toArray,List.set_cons_zero,List.set_cons_succ]
         refine wpAnyH_take (i:=39) (v:=?v55) rfl (by kernel_rfl) (by kernel_rfl) (by kernel_rfl) (fun _ _ _ h=>h) (Or.inl ⟨by rfl,?y55⟩) (by assumption) ?r55
         case y55=>(intro wx hSw;(try dsimp only at hSw);go_simp;try with_reducible rfl)
         try simp only [List.getElem_toArray,List.getElem_cons_zero,List.getElem_cons_succ,Act.put,List.setIfInBounds_toArray,List.set_cons_zero,List.set_cons_succ]
         refine wpAnyH_take (i:=40) (v:=?v56) rfl (by kernel_rfl) (by kernel_rfl) (by kernel_rfl) (fun _ _ _ h=>h) (Or.inl ⟨by rfl,?y56⟩) (by assumption) ?r56
         case y56=>(intro wx hSw;(try dsimp only at hSw);go_simp;try with_reducible rfl)
         try simp only [List.getElem_toArray,List.getElem_cons_zero,List.getElem_cons_succ,Act.put,List.setIfInBounds_toArray,List.set_cons_zero,List.set_cons_succ]
         refine wpAnyH_ready (rs:=[41]) (by kernel_rfl) (by simp) (AllReadyH.cons rfl (fun K hK=>?_) AllReadyH.nil)
         go_simp
         refine hK.out _ _ ?_ (fun hHeldxxxxxx=>?_)
         ·((try dsimp only);first | (refine ⟨?_,?_,?_,?_,?_,?_,?_⟩ <;> assumption) | exact KS.out | go_keep)
         clear hK K hHeldxxxxx
         try simp only [List.getElem_toArray,List.getElem_cons_zero,List.getElem_cons_succ,Act.put,List.setIfInBounds_toArray,List.set_cons_zero,List.set_cons_succ]
         refine wpAnyH_done (by kernel_rfl) ?_ _
        case' c7=>
         go_simp
         refine hK.out _ _ ?_ (fun hHeldxx=>?_)
         ·((try dsimp only);first | (refine ⟨?_,?_,?_,?_,?_,?_,?_⟩ <;> assumption) | go_keep)
         clear hK K hHeldx
         try simp only [List.getElem_toArray,List.getElem_cons_zero,List.getElem_cons_succ,Act.put,List.setIfInBounds_toArray,List.set_cons_zero,List.set_cons_succ]
         refine wpAnyH_take (i:=24) (v:=?v57) rfl (by kernel_rfl) (by kernel_rfl) (by kernel_rfl) (fun _ _ _ h=>h) (Or.inl ⟨by rfl,?y57⟩) (by assumption) ?r57
         case y57=>(intro wx hSw;(try dsimp only at hSw);go_simp;try with_reducible rfl)
         try simp only [List.getElem_toArray,List.getElem_cons_zero,List.getElem_cons_succ,Act.put,List.setIfInBounds_toArray,List.set_cons_zero,List.set_cons_succ]
         refine wpAnyH_take (i:=25) (v:=?v58) rfl (by kernel_rfl) (by kernel_rfl) (by kernel_rfl) (fun _ _ _ h=>h) (Or.inl ⟨by rfl,?y58⟩) (by assumption) ?r58
         case y58=>(intro wx hSw;(try dsimp only at hSw);go_simp;try with_reducible rfl)
         try simp only [List.getElem_toArray,List.getElem_cons_zero,List.getElem_cons_succ,Act.put,List.setIfInBounds_toArray,List.set_cons_zero,List.set_cons_succ]
         refine wpAnyH_take (i:=26) (v:=?v59) rfl (by kernel_rfl) (by kernel_rfl) (by kernel_rfl) (fun _ _ _ h=>h) (Or.inl ⟨by rfl,?y59⟩) (by assumption) ?r59
         case y59=>(intro wx hSw;(try dsimp only at hSw);go_simp;try with_reducible rfl)
         try simp only [List.getElem_toArray,List.getElem_cons_zero,List.getElem_cons_succ,Act.put,List.setIfInBounds_toArray,List.set_cons_zero,List.set_cons_succ]
         refine wpAnyH_take (i:=30) (v:=?v60) rfl (by kernel_rfl) (by kernel_rfl) (by kernel_rfl) (fun _ _ _ h=>h) (Or.inl ⟨by rfl,?y60⟩) (by assumption) ?r60
         case y60=>(intro wx hSw;(try dsimp only at hSw);go_simp;try with_reducible rfl)
         try simp only [List.getElem_toArray,List.getElem_cons_zero,List.getElem_cons_succ,Act.put,List.setIfInBounds_toArray,List.set_cons_zero,List.set_cons_succ]
         refine wpAnyH_take (i:=36) (v:=?v61) rfl (by kernel_rfl) (by kernel_rfl) (by kernel_rfl) (fun _ _ _ h=>h) (Or.inl ⟨by rfl,?y61⟩) (by assumption) ?r61
         case y61=>(intro wx hSw;(try dsimp only at hSw);go_simp;try with_reducible rfl)
         try simp only [List.getElem_toArray,List.getElem_cons_zero,List.getElem_cons_succ,Act.put,List.setIfInBounds_toArray,List.set_cons_zero,List.set_cons_succ]
         refine wpAnyH_ready (rs:=[4,37]) (by kernel_rfl) (by simp) (AllReadyH.cons rfl (fun K hK=>?c8) (AllReadyH.cons rfl (fun K hK=>?c9) AllReadyH.nil))
         case' c8=>
          go_simp
          refine hK.out _ _ ?_ (fun hHeldxxx=>?_)
          ·((try dsimp only);first | (refine ⟨?_,?_,?_,?_,?_,?_,?_⟩ <;> assumption) | go_keep)
          clear hK K hHeldxx
          try simp only [List.getElem_toArray,List.getElem_cons_zero,List.getElem_cons_succ,Act.put,List.setIfInBounds_toArray,List.set_cons_zero,List.set_cons_succ]
          refine wpAnyH_ready (rs:=[37]) (by kernel_rfl) (by simp) (AllReadyH.cons rfl (fun K hK=>?_) AllReadyH.nil)
          go_simp
          refine hK.out _ _ ?_ (fun hHeldxxxx=>?_)
          ·((try dsimp only);first | (refine ⟨?_,?_,?_,?_,?_,?_,?_⟩ <;> assumption) | go_keep)
          clear hK K hHeldxxx
          try simp only [List.getElem_toArray,List.getElem_cons_zero,List.getElem_cons_succ,Act.put,List.setIfInBounds_toArray,List.set_cons_zero,List.set_cons_succ]
          refine wpAnyH_ready (rs:=[38]) (by kernel_rfl) (by simp) (AllReadyH.cons rfl (fun K hK=>?_) AllReadyH.nil)
          (refine step_append_keep _ rfl _ _ 185 rfl 192 j2 _ 6 48 Tryz.underlying185 hj hy0 hy1 hy2 rfl (by decide) (.slice (some ⟨gp,0,none⟩) ml cl) R (by simp [Act.eval]) ((HSZ.out.alloc _).drew) ⟨wz.heap.size,0,none⟩ 1 1 [[.int .i64 b.sp,.int .i64 b.win,.int .i64 p.fr,.int .i64 bt,.int .i64 a.sp,.int .i64 a.item]] (by simp [Act.eval]) rfl (by decide) (by simp) (fun j u h=>cell_news wz #[.int .i64 b.sp,.int .i64 b.win,.int .i64 p.fr,.int .i64 bt,.int .i64 a.sp,.int .i64 a.item] 192 j u (by simpa using h)) (fun u hu=>(List.all_eq_true.1 (show ([[.int .i64 b.sp,.int .i64 b.win,.int .i64 p.fr,.int .i64 bt,.int .i64 a.sp,.int .i64 a.item]].flatten).all (·.oneCell')=true from rfl)) u hu) (by have:=hRl.out;unfold maxLen;omega) (by have:=hRl.out;omega) ?_;intro a5 c5 w5 GG;obtain ⟨G5,K5⟩:=GG;have LA:=lend_app (r:=r) (B:=w.heap.size) (i:=i) (p:=p) (a:=a) (b:=b) G5 K5 lyd lgd lwd lgp hgpy HGG.out HG0.out HG1.out hgy (by omega) (by omega) HZ.out.1.blk HRow.out HRz.out HSS.out;obtain ⟨hb5',⟨k0,k1,k2,k3,k4,k5,k6⟩,KS',Z5⟩:=LA;have hb5:=hid hb5';have hc5:=(cell_of_row w5 _ 3 _ _ _ hb5').trans (rfl:_=some _);have hf5:w5.frozen? ⟨y,3,none⟩=false:=frozen_of_row _ _ _ _ _ hb5';have KS:=hid (KS' (.slice a5 (R.length+1) c5));clear KS' hb5';have H5:=hid (And.intro G5 K5);clear G5 K5)
          refine hK.out _ _ ?_ (fun hHeldxxxxx=>?_)
          ·((try dsimp only);first | (refine ⟨?_,?_,?_,?_,?_,?_,?_⟩ <;> assumption) | exact KS.out | go_keep)
          clear hK K hHeldxxxx
          try simp only [List.getElem_toArray,List.getElem_cons_zero,List.getElem_cons_succ,Act.put,List.setIfInBounds_toArray,List.set_cons_zero,List.set_cons_succ]
          refine wpAnyH_take (i:=39) (v:=?v62) rfl (by kernel_rfl) (by kernel_rfl) (by kernel_rfl) (fun _ _ _ h=>h) (Or.inl ⟨by rfl,?y62⟩) (by assumption) ?r62
          case y62=>(intro wx hSw;(try dsimp only at hSw);go_simp;try with_reducible rfl)
          try simp only [List.getElem_toArray,List.getElem_cons_zero,List.getElem_cons_succ,Act.put,List.setIfInBounds_toArray,List.set_cons_zero,List.set_cons_succ]
          refine wpAnyH_take (i:=40) (v:=?v63) rfl (by kernel_rfl) (by kernel_rfl) (by kernel_rfl) (fun _ _ _ h=>h) (Or.inl ⟨by rfl,?y63⟩) (by assumption) ?r63
          case y63=>(intro wx hSw;(try dsimp only at hSw);go_simp;try with_reducible rfl)
          try simp only [List.getElem_toArray,List.getElem_cons_zero,List.getElem_cons_succ,Act.put,List.setIfInBounds_toArray,List.set_cons_zero,List.set_cons_succ]
          refine wpAnyH_ready (rs:=[41]) (by kernel_rfl) (by simp) (AllReadyH.cons rfl (fun K hK=>?_) AllReadyH.nil)
          go_simp
          refine hK.out _ _ ?_ (fun hHeldxxxxxx=>?_)
          ·((try dsimp only);first | (refine ⟨?_,?_,?_,?_,?_,?_,?_⟩ <;> assumption) | exact KS.out | go_keep)
          clear hK K hHeldxxxxx
          try simp only [List.getElem_toArray,List.getElem_cons_zero,List.getElem_cons_succ,Act.put,List.setIfInBounds_toArray,List.set_cons_zero,List.set_cons_succ]
          refine wpAnyH_done (by kernel_rfl) ?_ _
         case' c9=>
          go_simp
          refine hK.out _ _ ?_ (fun hHeldxxx=>?_)
          ·((try dsimp only);first | (refine ⟨?_,?_,?_,?_,?_,?_,?_⟩ <;> assumption) | go_keep)
          clear hK K hHeldxx
          try simp only [List.getElem_toArray,List.getElem_cons_zero,List.getElem_cons_succ,Act.put,List.setIfInBounds_toArray,List.set_cons_zero,List.set_cons_succ]
          refine wpAnyH_ready (rs:=[4]) (by kernel_rfl) (by simp) (AllReadyH.cons rfl (fun K hK=>?_) AllReadyH.nil)
          go_simp
          refine hK.out _ _ ?_ (fun hHeldxxxx=>?_)
          ·((try dsimp only);first | (refine ⟨?_,?_,?_,?_,?_,?_,?_⟩ <;> assumption) | go_keep)
          clear hK K hHeldxxx
          try simp only [List.getElem_toArray,List.getElem_cons_zero,List.getElem_cons_succ,Act.put,List.setIfInBounds_toArray,List.set_cons_zero,List.set_cons_succ]
          refine wpAnyH_ready (rs:=[38]) (by kernel_rfl) (by simp) (AllReadyH.cons rfl (fun K hK=>?_) AllReadyH.nil)
          (refine step_append_keep _ rfl _ _ 185 rfl 192 j2 _ 6 48 Tryz.underlying185 hj hy0 hy1 hy2 rfl (by decide) (.slice (some ⟨gp,0,none⟩) ml cl) R (by simp [Act.eval]) ((HSZ.out.alloc _).drew) ⟨wz.heap.size,0,none⟩ 1 1 [[.int .i64 b.sp,.int .i64 b.win,.int .i64 p.fr,.int .i64 bt,.int .i64 a.sp,.int .i64 a.item]] (by simp [Act.eval]) rfl (by decide) (by simp) (fun j u h=>cell_news wz #[.int .i64 b.sp,.int .i64 b.win,.int .i64 p.fr,.int .i64 bt,.int .i64 a.sp,.int .i64 a.item] 192 j u (by simpa using h)) (fun u hu=>(List.all_eq_true.1 (show ([[.int .i64 b.sp,.int .i64 b.win,.int .i64 p.fr,.int .i64 bt,.int .i64 a.sp,.int .i64 a.item]].flatten).all (·.oneCell')=true from rfl)) u hu) (by have:=hRl.out;unfold maxLen;omega) (by have:=hRl.out;omega) ?_;intro a5 c5 w5 GG;obtain ⟨G5,K5⟩:=GG;have LA:=lend_app (r:=r) (B:=w.heap.size) (i:=i) (p:=p) (a:=a) (b:=b) G5 K5 lyd lgd lwd lgp hgpy HGG.out HG0.out HG1.out hgy (by omega) (by omega) HZ.out.1.blk HRow.out HRz.out HSS.out;obtain ⟨hb5',⟨k0,k1,k2,k3,k4,k5,k6⟩,KS',Z5⟩:=LA;have hb5:=hid hb5';have hc5:=(cell_of_row w5 _ 3 _ _ _ hb5').trans (rfl:_=some _);have hf5:w5.frozen? ⟨y,3,none⟩=false:=frozen_of_row _ _ _ _ _ hb5';have KS:=hid (KS' (.slice a5 (R.length+1) c5));clear KS' hb5';have H5:=hid (And.intro G5 K5);clear G5 K5)
          refine hK.out _ _ ?_ (fun hHeldxxxxx=>?_)
          ·((try dsimp only);first | (refine ⟨?_,?_,?_,?_,?_,?_,?_⟩ <;> assumption) | exact KS.out | go_keep)
          clear hK K hHeldxxxx
          try simp only [List.getElem_toArray,List.getElem_cons_zero,List.getElem_cons_succ,Act.put,List.setIfInBounds_toArray,List.set_cons_zero,List.set_cons_succ]
          refine wpAnyH_take (i:=39) (v:=?v64) rfl (by kernel_rfl) (by kernel_rfl) (by kernel_rfl) (fun _ _ _ h=>h) (Or.inl ⟨by rfl,?y64⟩) (by assumption) ?r64
          case y64=>(intro wx hSw;(try dsimp only at hSw);go_simp;try with_reducible rfl)
          try simp only [List.getElem_toArray,List.getElem_cons_zero,List.getElem_cons_succ,Act.put,List.setIfInBounds_toArray,List.set_cons_zero,List.set_cons_succ]
          refine wpAnyH_take (i:=40) (v:=?v65) rfl (by kernel_rfl) (by kernel_rfl) (by kernel_rfl) (fun _ _ _ h=>h) (Or.inl ⟨by rfl,?y65⟩) (by assumption) ?r65
          case y65=>(intro wx hSw;(try dsimp only at hSw);go_simp;try with_reducible rfl)
          try simp only [List.getElem_toArray,List.getElem_cons_zero,List.getElem_cons_succ,Act.put,List.setIfInBounds_toArray,List.set_cons_zero,List.set_cons_succ]
          refine wpAnyH_ready (rs:=[41]) (by kernel_rfl) (by simp) (AllReadyH.cons rfl (fun K hK=>?_) AllReadyH.nil)
          go_simp
          refine hK.out _ _ ?_ (fun hHeldxxxxxx=>?_)
          ·((try dsimp only);first | (refine ⟨?_,?_,?_,?_,?_,?_,?_⟩ <;> assumption) | exact KS.out | go_keep)
          clear hK K hHeldxxxxx
          try simp only [List.getElem_toArray,List.getElem_cons_zero,List.getElem_cons_succ,Act.put,List.setIfInBounds_toArray,List.set_cons_zero,List.set_cons_succ]
          refine wpAnyH_done (by kernel_rfl) ?_ _
       case' c3=>
        go_simp
        refine hK.out _ _ ?_ (fun hHeldx=>?_)
        ·((try dsimp only);first | (refine ⟨?_,?_,?_,?_,?_,?_,?_⟩ <;> assumption) | go_keep)
        clear hK K hHeld
        try simp only [List.getElem_toArray,List.getElem_cons_zero,List.getElem_cons_succ,Act.put,List.setIfInBounds_toArray,List.set_cons_zero,List.set_cons_succ]
        refine wpAnyH_take (i:=24) (v:=?v66) rfl (by kernel_rfl) (by kernel_rfl) (by kernel_rfl) (fun _ _ _ h=>h) (Or.inl ⟨by rfl,?y66⟩) (by assumption) ?r66
        case y66=>(intro wx hSw;(try dsimp only at hSw);go_simp;try with_reducible rfl)
        try simp only [List.getElem_toArray,List.getElem_cons_zero,List.getElem_cons_succ,Act.put,List.setIfInBounds_toArray,List.set_cons_zero,List.set_cons_succ]
        refine wpAnyH_take (i:=25) (v:=?v67) rfl (by kernel_rfl) (by kernel_rfl) (by kernel_rfl) (fun _ _ _ h=>h) (Or.inl ⟨by rfl,?y67⟩) (by assumption) ?r67
        case y67=>(intro wx hSw;(try dsimp only at hSw);go_simp;try with_reducible rfl)
        try simp only [List.getElem_toArray,List.getElem_cons_zero,List.getElem_cons_succ,Act.put,List.setIfInBounds_toArray,List.set_cons_zero,List.set_cons_succ]
        refine wpAnyH_take (i:=26) (v:=?v68) rfl (by kernel_rfl) (by kernel_rfl) (by kernel_rfl) (fun _ _ _ h=>h) (Or.inl ⟨by rfl,?y68⟩) (by assumption) ?r68
        case y68=>(intro wx hSw;(try dsimp only at hSw);go_simp;try with_reducible rfl)
        try simp only [List.getElem_toArray,List.getElem_cons_zero,List.getElem_cons_succ,Act.put,List.setIfInBounds_toArray,List.set_cons_zero,List.set_cons_succ]
        refine wpAnyH_take (i:=30) (v:=?v69) rfl (by kernel_rfl) (by kernel_rfl) (by kernel_rfl) (fun _ _ _ h=>h) (Or.inl ⟨by rfl,?y69⟩) (by assumption) ?r69
        case y69=>(intro wx hSw;(try dsimp only at hSw);go_simp;try with_reducible rfl)
        try simp only [List.getElem_toArray,List.getElem_cons_zero,List.getElem_cons_succ,Act.put,List.setIfInBounds_toArray,List.set_cons_zero,List.set_cons_succ]
        refine wpAnyH_ready (rs:=[4,14]) (by kernel_rfl) (by simp) (AllReadyH.cons rfl (fun K hK=>?c10) (AllReadyH.cons rfl (fun K hK=>?c11) AllReadyH.nil))
        case' c10=>
         go_simp
         refine hK.out _ _ ?_ (fun hHeldxx=>?_)
         ·((try dsimp only);first | (refine ⟨?_,?_,?_,?_,?_,?_,?_⟩ <;> assumption) | go_keep)
         clear hK K hHeldx
         try simp only [List.getElem_toArray,List.getElem_cons_zero,List.getElem_cons_succ,Act.put,List.setIfInBounds_toArray,List.set_cons_zero,List.set_cons_succ]
         refine wpAnyH_ready (rs:=[14]) (by kernel_rfl) (by simp) (AllReadyH.cons rfl (fun K hK=>?_) AllReadyH.nil)
         go_simp
         refine hK.out _ _ ?_ (fun hHeldxxx=>?_)
         ·((try dsimp only);first | (refine ⟨?_,?_,?_,?_,?_,?_,?_⟩ <;> assumption) | go_keep)
         clear hK K hHeldxx
         try simp only [List.getElem_toArray,List.getElem_cons_zero,List.getElem_cons_succ,Act.put,List.setIfInBounds_toArray,List.set_cons_zero,List.set_cons_succ]
         refine wpAnyH_take (i:=16) (v:=?v70) rfl (by kernel_rfl) (by kernel_rfl) (by kernel_rfl) (fun _ _ _ h=>h) (Or.inl ⟨by rfl,?y70⟩) (by assumption) ?r70
         case y70=>(intro wx hSw;(try dsimp only at hSw);go_simp;try with_reducible rfl)
         try simp only [List.getElem_toArray,List.getElem_cons_zero,List.getElem_cons_succ,Act.put,List.setIfInBounds_toArray,List.set_cons_zero,List.set_cons_succ]
         refine wpAnyH_take (i:=17) (v:=?v71) rfl (by kernel_rfl) (by kernel_rfl) (by kernel_rfl) (fun _ _ _ h=>h) (Or.inl ⟨by rfl,?y71⟩) (by assumption) ?r71
         case y71=>(intro wx hSw;(try dsimp only at hSw);go_simp;try with_reducible rfl)
         try simp only [List.getElem_toArray,List.getElem_cons_zero,List.getElem_cons_succ,Act.put,List.setIfInBounds_toArray,List.set_cons_zero,List.set_cons_succ]
         refine wpAnyH_take (i:=18) (v:=?v72) rfl (by kernel_rfl) (by kernel_rfl) (by kernel_rfl) (fun _ _ _ h=>h) (Or.inl ⟨by rfl,?y72⟩) (by assumption) ?r72
         case y72=>(intro wx hSw;(try dsimp only at hSw);go_simp;try with_reducible rfl)
         try simp only [List.getElem_toArray,List.getElem_cons_zero,List.getElem_cons_succ,Act.put,List.setIfInBounds_toArray,List.set_cons_zero,List.set_cons_succ]
         refine wpAnyH_take (i:=36) (v:=?v73) rfl (by kernel_rfl) (by kernel_rfl) (by kernel_rfl) (fun _ _ _ h=>h) (Or.inl ⟨by rfl,?y73⟩) (by assumption) ?r73
         case y73=>(intro wx hSw;(try dsimp only at hSw);go_simp;try with_reducible rfl)
         try simp only [List.getElem_toArray,List.getElem_cons_zero,List.getElem_cons_succ,Act.put,List.setIfInBounds_toArray,List.set_cons_zero,List.set_cons_succ]
         refine wpAnyH_ready (rs:=[37]) (by kernel_rfl) (by simp) (AllReadyH.cons rfl (fun K hK=>?_) AllReadyH.nil)
         go_simp
         refine hK.out _ _ ?_ (fun hHeldxxxx=>?_)
         ·((try dsimp only);first | (refine ⟨?_,?_,?_,?_,?_,?_,?_⟩ <;> assumption) | go_keep)
         clear hK K hHeldxxx
         try simp only [List.getElem_toArray,List.getElem_cons_zero,List.getElem_cons_succ,Act.put,List.setIfInBounds_toArray,List.set_cons_zero,List.set_cons_succ]
         refine wpAnyH_ready (rs:=[38]) (by kernel_rfl) (by simp) (AllReadyH.cons rfl (fun K hK=>?_) AllReadyH.nil)
         (refine step_append_keep _ rfl _ _ 185 rfl 192 j2 _ 6 48 Tryz.underlying185 hj hy0 hy1 hy2 rfl (by decide) (.slice (some ⟨gp,0,none⟩) ml cl) R (by simp [Act.eval]) ((HSZ.out.alloc _).drew) ⟨wz.heap.size,0,none⟩ 1 1 [[.int .i64 b.sp,.int .i64 b.win,.int .i64 p.fr,.int .i64 bt,.int .i64 a.sp,.int .i64 a.item]] (by simp [Act.eval]) rfl (by decide) (by simp) (fun j u h=>cell_news wz #[.int .i64 b.sp,.int .i64 b.win,.int .i64 p.fr,.int .i64 bt,.int .i64 a.sp,.int .i64 a.item] 192 j u (by simpa using h)) (fun u hu=>(List.all_eq_true.1 (show ([[.int .i64 b.sp,.int .i64 b.win,.int .i64 p.fr,.int .i64 bt,.int .i64 a.sp,.int .i64 a.item]].flatten).all (·.oneCell')=true from rfl)) u hu) (by have:=hRl.out;unfold maxLen;omega) (by have:=hRl.out;omega) ?_;intro a5 c5 w5 GG;obtain ⟨G5,K5⟩:=GG;have LA:=lend_app (r:=r) (B:=w.heap.size) (i:=i) (p:=p) (a:=a) (b:=b) G5 K5 lyd lgd lwd lgp hgpy HGG.out HG0.out HG1.out hgy (by omega) (by omega) HZ.out.1.blk HRow.out HRz.out HSS.out;obtain ⟨hb5',⟨k0,k1,k2,k3,k4,k5,k6⟩,KS',Z5⟩:=LA;have hb5:=hid hb5';have hc5:=(cell_of_row w5 _ 3 _ _ _ hb5').trans (rfl:_=some _);have hf5:w5.frozen? ⟨y,3,none⟩=false:=frozen_of_row _ _ _ _ _ hb5';have KS:=hid (KS' (.slice a5 (R.length+1) c5));clear KS' hb5';have H5:=hid (And.intro G5 K5);clear G5 K5)
         refine hK.out _ _ ?_ (fun hHeldxxxxx=>?_)
         ·((try dsimp only);first | (refine ⟨?_,?_,?_,?_,?_,?_,?_⟩ <;> assumption) | exact KS.out | go_keep)
         clear hK K hHeldxxxx
         try simp only [List.getElem_toArray,List.getElem_cons_zero,List.getElem_cons_succ,Act.put,List.setIfInBounds_toArray,List.set_cons_zero,List.set_cons_succ]
         refine wpAnyH_take (i:=39) (v:=?v74) rfl (by kernel_rfl) (by kernel_rfl) (by kernel_rfl) (fun _ _ _ h=>h) (Or.inl ⟨by rfl,?y74⟩) (by assumption) ?r74
         case y74=>(intro wx hSw;(try dsimp only at hSw);go_simp;try with_reducible rfl)
         try simp only [List.getElem_toArray,List.getElem_cons_zero,List.getElem_cons_succ,Act.put,List.setIfInBounds_toArray,List.set_cons_zero,List.set_cons_succ]
         refine wpAnyH_take (i:=40) (v:=?v75) rfl (by kernel_rfl) (by kernel_rfl) (by kernel_rfl) (fun _ _ _ h=>h) (Or.inl ⟨by rfl,?y75⟩) (by assumption) ?r75
         case y75=>(intro wx hSw;(try dsimp only at hSw);go_simp;try with_reducible rfl)
         try simp only [List.getElem_toArray,List.getElem_cons_zero,List.getElem_cons_succ,Act.put,List.setIfInBounds_toArray,List.set_cons_zero,List.set_cons_succ]
         refine wpAnyH_ready (rs:=[41]) (by kernel_rfl) (by simp) (AllReadyH.cons rfl (fun K hK=>?_) AllReadyH.nil)
         go_simp
         refine hK.out _ _ ?_ (fun hHeldxxxxxx=>?_)
         ·((try dsimp only);first | (refine ⟨?_,?_,?_,?_,?_,?_,?_⟩ <;> assumption) | exact KS.out | go_keep)
         clear hK K hHeldxxxxx
         try simp only [List.getElem_toArray,List.getElem_cons_zero,List.getElem_cons_succ,Act.put,List.setIfInBounds_toArray,List.set_cons_zero,List.set_cons_succ]
         refine wpAnyH_done (by kernel_rfl) ?_ _
        case' c11=>
         go_simp
         refine hK.out _ _ ?_ (fun hHeldxx=>?_)
         ·((try dsimp only);first | (refine ⟨?_,?_,?_,?_,?_,?_,?_⟩ <;> assumption) | go_keep)
         clear hK K hHeldx
         try simp only [List.getElem_toArray,List.getElem_cons_zero,List.getElem_cons_succ,Act.put,List.setIfInBounds_toArray,List.set_cons_zero,List.set_cons_succ]
         refine wpAnyH_take (i:=16) (v:=?v76) rfl (by kernel_rfl) (by kernel_rfl) (by kernel_rfl) (fun _ _ _ h=>h) (Or.inl ⟨by rfl,?y76⟩) (by assumption) ?r76
         case y76=>(intro wx hSw;(try dsimp only at hSw);go_simp;try with_reducible rfl)
         try simp only [List.getElem_toArray,List.getElem_cons_zero,List.getElem_cons_succ,Act.put,List.setIfInBounds_toArray,List.set_cons_zero,List.set_cons_succ]
         refine wpAnyH_take (i:=17) (v:=?v77) rfl (by kernel_rfl) (by kernel_rfl) (by kernel_rfl) (fun _ _ _ h=>h) (Or.inl ⟨by rfl,?y77⟩) (by assumption) ?r77
         case y77=>(intro wx hSw;(try dsimp only at hSw);go_simp;try with_reducible rfl)
         try simp only [List.getElem_toArray,List.getElem_cons_zero,List.getElem_cons_succ,Act.put,List.setIfInBounds_toArray,List.set_cons_zero,List.set_cons_succ]
         refine wpAnyH_take (i:=18) (v:=?v78) rfl (by kernel_rfl) (by kernel_rfl) (by kernel_rfl) (fun _ _ _ h=>h) (Or.inl ⟨by rfl,?y78⟩) (by assumption) ?r78
         case y78=>(intro wx hSw;(try dsimp only at hSw);go_simp;try with_reducible rfl)
         try simp only [List.getElem_toArray,List.getElem_cons_zero,List.getElem_cons_succ,Act.put,List.setIfInBounds_toArray,List.set_cons_zero,List.set_cons_succ]
         refine wpAnyH_take (i:=36) (v:=?v79) rfl (by kernel_rfl) (by kernel_rfl) (by kernel_rfl) (fun _ _ _ h=>h) (Or.inl ⟨by rfl,?y79⟩) (by assumption) ?r79
         case y79=>(intro wx hSw;(try dsimp only at hSw);go_simp;try with_reducible rfl)
         try simp only [List.getElem_toArray,List.getElem_cons_zero,List.getElem_cons_succ,Act.put,List.setIfInBounds_toArray,List.set_cons_zero,List.set_cons_succ]
         refine wpAnyH_ready (rs:=[4,37]) (by kernel_rfl) (by simp) (AllReadyH.cons rfl (fun K hK=>?c12) (AllReadyH.cons rfl (fun K hK=>?c13) AllReadyH.nil))
         case' c12=>
          go_simp
          refine hK.out _ _ ?_ (fun hHeldxxx=>?_)
          ·((try dsimp only);first | (refine ⟨?_,?_,?_,?_,?_,?_,?_⟩ <;> assumption) | go_keep)
          clear hK K hHeldxx
          try simp only [List.getElem_toArray,List.getElem_cons_zero,List.getElem_cons_succ,Act.put,List.setIfInBounds_toArray,List.set_cons_zero,List.set_cons_succ]
          refine wpAnyH_ready (rs:=[37]) (by kernel_rfl) (by simp) (AllReadyH.cons rfl (fun K hK=>?_) AllReadyH.nil)
          go_simp
          refine hK.out _ _ ?_ (fun hHeldxxxx=>?_)
          ·((try dsimp only);first | (refine ⟨?_,?_,?_,?_,?_,?_,?_⟩ <;> assumption) | go_keep)
          clear hK K hHeldxxx
          try simp only [List.getElem_toArray,List.getElem_cons_zero,List.getElem_cons_succ,Act.put,List.setIfInBounds_toArray,List.set_cons_zero,List.set_cons_succ]
          refine wpAnyH_ready (rs:=[38]) (by kernel_rfl) (by simp) (AllReadyH.cons rfl (fun K hK=>?_) AllReadyH.nil)
          (refine step_append_keep _ rfl _ _ 185 rfl 192 j2 _ 6 48 Tryz.underlying185 hj hy0 hy1 hy2 rfl (by decide) (.slice (some ⟨gp,0,none⟩) ml cl) R (by simp [Act.eval]) ((HSZ.out.alloc _).drew) ⟨wz.heap.size,0,none⟩ 1 1 [[.int .i64 b.sp,.int .i64 b.win,.int .i64 p.fr,.int .i64 bt,.int .i64 a.sp,.int .i64 a.item]] (by simp [Act.eval]) rfl (by decide) (by simp) (fun j u h=>cell_news wz #[.int .i64 b.sp,.int .i64 b.win,.int .i64 p.fr,.int .i64 bt,.int .i64 a.sp,.int .i64 a.item] 192 j u (by simpa using h)) (fun u hu=>(List.all_eq_true.1 (show ([[.int .i64 b.sp,.int .i64 b.win,.int .i64 p.fr,.int .i64 bt,.int .i64 a.sp,.int .i64 a.item]].flatten).all (·.oneCell')=true from rfl)) u hu) (by have:=hRl.out;unfold maxLen;omega) (by have:=hRl.out;omega) ?_;intro a5 c5 w5 GG;obtain ⟨G5,K5⟩:=GG;have LA:=lend_app (r:=r) (B:=w.heap.size) (i:=i) (p:=p) (a:=a) (b:=b) G5 K5 lyd lgd lwd lgp hgpy HGG.out HG0.out HG1.out hgy (by omega) (by omega) HZ.out.1.blk HRow.out HRz.out HSS.out;obtain ⟨hb5',⟨k0,k1,k2,k3,k4,k5,k6⟩,KS',Z5⟩:=LA;have hb5:=hid hb5';have hc5:=(cell_of_row w5 _ 3 _ _ _ hb5').trans (rfl:_=some _);have hf5:w5.frozen? ⟨y,3,none⟩=false:=frozen_of_row _ _ _ _ _ hb5';have KS:=hid (KS' (.slice a5 (R.length+1) c5));clear KS' hb5';have H5:=hid (And.intro G5 K5);clear G5 K5)
          refine hK.out _ _ ?_ (fun hHeldxxxxx=>?_)
          ·((try dsimp only);first | (refine ⟨?_,?_,?_,?_,?_,?_,?_⟩ <;> assumption) | exact KS.out | go_keep)
          clear hK K hHeldxxxx
          try simp only [List.getElem_toArray,List.getElem_cons_zero,List.getElem_cons_succ,Act.put,List.setIfInBounds_toArray,List.set_cons_zero,List.set_cons_succ]
          refine wpAnyH_take (i:=39) (v:=?v80) rfl (by kernel_rfl) (by kernel_rfl) (by kernel_rfl) (fun _ _ _ h=>h) (Or.inl ⟨by rfl,?y80⟩) (by assumption) ?r80
          case y80=>(intro wx hSw;(try dsimp only at hSw);go_simp;try with_reducible rfl)
          try simp only [List.getElem_toArray,List.getElem_cons_zero,List.getElem_cons_succ,Act.put,List.setIfInBounds_toArray,List.set_cons_zero,List.set_cons_succ]
          refine wpAnyH_take (i:=40) (v:=?v81) rfl (by kernel_rfl) (by kernel_rfl) (by kernel_rfl) (fun _ _ _ h=>h) (Or.inl ⟨by rfl,?y81⟩) (by assumption) ?r81
          case y81=>(intro wx hSw;(try dsimp only at hSw);go_simp;try with_reducible rfl)
          try simp only [List.getElem_toArray,List.getElem_cons_zero,List.getElem_cons_succ,Act.put,List.setIfInBounds_toArray,List.set_cons_zero,List.set_cons_succ]
          refine wpAnyH_ready (rs:=[41]) (by kernel_rfl) (by simp) (AllReadyH.cons rfl (fun K hK=>?_) AllReadyH.nil)
          go_simp
          refine hK.out _ _ ?_ (fun hHeldxxxxxx=>?_)
          ·((try dsimp only);first | (refine ⟨?_,?_,?_,?_,?_,?_,?_⟩ <;> assumption) | exact KS.out | go_keep)
          clear hK K hHeldxxxxx
          try simp only [List.getElem_toArray,List.getElem_cons_zero,List.getElem_cons_succ,Act.put,List.setIfInBounds_toArray,List.set_cons_zero,List.set_cons_succ]
          refine wpAnyH_done (by kernel_rfl) ?_ _
         case' c13=>
          go_simp
          refine hK.out _ _ ?_ (fun hHeldxxx=>?_)
          ·((try dsimp only);first | (refine ⟨?_,?_,?_,?_,?_,?_,?_⟩ <;> assumption) | go_keep)
          clear hK K hHeldxx
          try simp only [List.getElem_toArray,List.getElem_cons_zero,List.getElem_cons_succ,Act.put,List.setIfInBounds_toArray,List.set_cons_zero,List.set_cons_succ]
          refine wpAnyH_ready (rs:=[4]) (by kernel_rfl) (by simp) (AllReadyH.cons rfl (fun K hK=>?_) AllReadyH.nil)
          go_simp
          refine hK.out _ _ ?_ (fun hHeldxxxx=>?_)
          ·((try dsimp only);first | (refine ⟨?_,?_,?_,?_,?_,?_,?_⟩ <;> assumption) | go_keep)
          clear hK K hHeldxxx
          try simp only [List.getElem_toArray,List.getElem_cons_zero,List.getElem_cons_succ,Act.put,List.setIfInBounds_toArray,List.set_cons_zero,List.set_cons_succ]
          refine wpAnyH_ready (rs:=[38]) (by kernel_rfl) (by simp) (AllReadyH.cons rfl (fun K hK=>?_) AllReadyH.nil)
          (refine step_append_keep _ rfl _ _ 185 rfl 192 j2 _ 6 48 Tryz.underlying185 hj hy0 hy1 hy2 rfl (by decide) (.slice (some ⟨gp,0,none⟩) ml cl) R (by simp [Act.eval]) ((HSZ.out.alloc _).drew) ⟨wz.heap.size,0,none⟩ 1 1 [[.int .i64 b.sp,.int .i64 b.win,.int .i64 p.fr,.int .i64 bt,.int .i64 a.sp,.int .i64 a.item]] (by simp [Act.eval]) rfl (by decide) (by simp) (fun j u h=>cell_news wz #[.int .i64 b.sp,.int .i64 b.win,.int .i64 p.fr,.int .i64 bt,.int .i64 a.sp,.int .i64 a.item] 192 j u (by simpa using h)) (fun u hu=>(List.all_eq_true.1 (show ([[.int .i64 b.sp,.int .i64 b.win,.int .i64 p.fr,.int .i64 bt,.int .i64 a.sp,.int .i64 a.item]].flatten).all (·.oneCell')=true from rfl)) u hu) (by have:=hRl.out;unfold maxLen;omega) (by have:=hRl.out;omega) ?_;intro a5 c5 w5 GG;obtain ⟨G5,K5⟩:=GG;have LA:=lend_app (r:=r) (B:=w.heap.size) (i:=i) (p:=p) (a:=a) (b:=b) G5 K5 lyd lgd lwd lgp hgpy HGG.out HG0.out HG1.out hgy (by omega) (by omega) HZ.out.1.blk HRow.out HRz.out HSS.out;obtain ⟨hb5',⟨k0,k1,k2,k3,k4,k5,k6⟩,KS',Z5⟩:=LA;have hb5:=hid hb5';have hc5:=(cell_of_row w5 _ 3 _ _ _ hb5').trans (rfl:_=some _);have hf5:w5.frozen? ⟨y,3,none⟩=false:=frozen_of_row _ _ _ _ _ hb5';have KS:=hid (KS' (.slice a5 (R.length+1) c5));clear KS' hb5';have H5:=hid (And.intro G5 K5);clear G5 K5)
          refine hK.out _ _ ?_ (fun hHeldxxxxx=>?_)
          ·((try dsimp only);first | (refine ⟨?_,?_,?_,?_,?_,?_,?_⟩ <;> assumption) | exact KS.out | go_keep)
          clear hK K hHeldxxxx
          try simp only [List.getElem_toArray,List.getElem_cons_zero,List.getElem_cons_succ,Act.put,List.setIfInBounds_toArray,List.set_cons_zero,List.set_cons_succ]
          refine wpAnyH_take (i:=39) (v:=?v82) rfl (by kernel_rfl) (by kernel_rfl) (by kernel_rfl) (fun _ _ _ h=>h) (Or.inl ⟨by rfl,?y82⟩) (by assumption) ?r82
          case y82=>(intro wx hSw;(try dsimp only at hSw);go_simp;try with_reducible rfl)
          try simp only [List.getElem_toArray,List.getElem_cons_zero,List.getElem_cons_succ,Act.put,List.setIfInBounds_toArray,List.set_cons_zero,List.set_cons_succ]
          refine wpAnyH_take (i:=40) (v:=?v83) rfl (by kernel_rfl) (by kernel_rfl) (by kernel_rfl) (fun _ _ _ h=>h) (Or.inl ⟨by rfl,?y83⟩) (by assumption) ?r83
          case y83=>(intro wx hSw;(try dsimp only at hSw);go_simp;try with_reducible rfl)
          try simp only [List.getElem_toArray,List.getElem_cons_zero,List.getElem_cons_succ,Act.put,List.setIfInBounds_toArray,List.set_cons_zero,List.set_cons_succ]
          refine wpAnyH_ready (rs:=[41]) (by kernel_rfl) (by simp) (AllReadyH.cons rfl (fun K hK=>?_) AllReadyH.nil)
          go_simp
          refine hK.out _ _ ?_ (fun hHeldxxxxxx=>?_)
          ·((try dsimp only);first | (refine ⟨?_,?_,?_,?_,?_,?_,?_⟩ <;> assumption) | exact KS.out | go_keep)
          clear hK K hHeldxxxxx
          try simp only [List.getElem_toArray,List.getElem_cons_zero,List.getElem_cons_succ,Act.put,List.setIfInBounds_toArray,List.set_cons_zero,List.set_cons_succ]
          refine wpAnyH_done (by kernel_rfl) ?_ _
       all_goals
        go_wp2
        go_meet
        case rel=>
         have h2:=HZ.out.1
         have own5:∀ q,Value.ownBlock (.slice a5 (R.length+1) c5)=some q->q=gp\/wz.heap.size<=q:=fun q hq=>by
          rcases H5.out.1.at_ q hq with h | h
          ·right;simp at h;omega
          ·left;simpa [Value.ownBlock,eq_comm] using h
         have FS:∀ v,Fr (fun q=>q=y) w5 (w5.setCell ⟨y,3,none⟩ v):=fun v=>(Fr.refl (fun q=>q=y) w5).setCell (p:=⟨y,3,none⟩) (fun _=>rfl) _
         have F5:Fr (fun q=>q=gp) wz w5:=H5.out.1.fr (((Fr.refl _ wz).alloc _).drew) (fun q hq _=>by simpa [Value.ownBlock,eq_comm] using hq)
         have F6:Fr (fun q=>q=y\/q=gp) wz (w5.setCell ⟨y,3,none⟩ (.slice a5 (R.length+1) c5)):=(F5.mono (fun _ _ e=>.inr e)).trans ((FS _).mono (fun _ _ e=>.inl e))
         have e3:(goneL K.leaves b.sp b.win true ++ ([⟨b.sp,b.win,p.fr,bt,a.sp,a.item⟩]:List Lf)).map lfRow=R ++ [[.int .i64 b.sp,.int .i64 b.win,.int .i64 p.fr,.int .i64 bt,.int .i64 a.sp,.int .i64 a.item]]:=by rw [List.map_append,HR.out];rfl
         have SP:=H5.out.1.sl.kept (FS (.slice a5 (R.length+1) c5)) (fun q hq e=>by rcases own5 q hq with h | h <;> omega)
         rw [<- e3] at SP
         have evl:vl6.ownBlock=some gp:=by rw [HM.out.2];rfl
         have nvl:∀ q,q=gp->vl6.ownBlock=some q:=fun q e=>by rw [e];exact evl
         have RA:RmAt (w5.setCell ⟨y,3,none⟩ (.slice a5 (R.length+1) c5)) y { K.told s r a with leaves:=goneL K.leaves b.sp b.win true ++ [⟨b.sp,b.win,p.fr,bt,a.sp,a.item⟩] } (.slice (some ⟨g,0,none⟩) m c) vp (.slice a5 (R.length+1) c5) (sl.set r (sb.1,x)):=⟨heap_setCell_same w5 y 3 _ _ _ hb5.out,h2.ln,h2.th.kept F6 (fun q hq e=>e.elim (fun e=>h2.n1 (e ▸ hq)) (fun e=>(h2.n4 q hq).2 (nvl q e))),h2.pa.kept F6 (fun q hq e=>e.elim (fun e=>h2.n2 (e ▸ hq)) (fun e=>h2.n5 q hq (nvl q e))),SP,h2.words (F6.mono (fun q _ e=>e.elim .inl (fun e=>.inr (.inr (.inr (nvl q e)))))) (fun k hk hw=>hw.elim .inl (fun hw=>hw.elim (fun hw=>.inr (.inl hw)) (fun hw=>hw.elim (fun hw=>.inr (.inr (.inl hw))) (fun hw=>by rcases own5 k hw with e | e;exact .inr (.inr (.inr (nvl k e)));omega)))),h2.n1,h2.n2,fun h=>by (rcases own5 _ h with e | e;exact hgpy e.symm;omega),fun q hq=>⟨(h2.n4 q hq).1,fun h=>by (rcases own5 _ h with e | e;exact (h2.n4 q hq).2 (nvl q e);have:=h2.th.lt hq;omega)⟩,fun q hq h=>by (rcases own5 _ h with e | e;exact h2.n5 q hq (nvl q e);have:=h2.pa.lt hq;omega)⟩
         exact ⟨.slice a5 (R.length+1) c5,RA,F6,own5,KS.out.2.1⟩
      case rest=>
      obtain ⟨vl7,H7⟩:=hcut
      rename World=>we
      have g19:we.cell? ⟨g,r*20+19,none⟩=some (.int .i64 (-1)):=H7.out.1.trange (i:=r) HU.out.1 HU.out.2 19 _ rfl
      have f19:we.frozen? ⟨g,r*20+19,none⟩=false:=H7.out.1.th.fro _
      have m5e:=H7.out.2.2.2
      have lwe:w.heap.size+1 < we.heap.size:=Nat.lt_of_lt_of_le lwd H7.out.2.1.size
      have h8:=H7.out.1.setTh (t:=r) (j:=19) (fun u=>{ u with got:=b.win }) (.int .i64 b.win) HU.out.1 HU.out.2 (by omega) rfl rfl rfl
      have h9:RmAt (we.setCell ⟨g,r*20+19,none⟩ (.int .i64 b.win)) y { K with threads:=(K.threads.modify r (fun u=>{ u with st:=1,time:=-1,code:=0,who:=s,ws:=a.mw,got:=-1 })).modify r (fun u=>{ u with got:=b.win }),leaves:=goneL K.leaves b.sp b.win true ++ [⟨b.sp,b.win,p.fr,bt,a.sp,a.item⟩] } (.slice (some ⟨g,0,none⟩) m c) vp vl7 (sl.set r (sb.1,x)):=h8
      rw [modify_two (h:=fun u=>{ u with st:=1,time:=-1,code:=0,who:=s,ws:=a.mw,got:=b.win }) HH.out.2.2.1 rfl] at h9
      have FE:Fr (Wr y (.slice (some ⟨g,0,none⟩) m c) vp vl) w (we.setCell ⟨g,r*20+19,none⟩ (.int .i64 b.win)):=(HZ.out.2.2.then2 H7.out.2.1 (fun k hk e=>by
        rcases e with e | e
        ·exact .inl e
        ·rcases H6.out.2.2 k (by rw [HM.out.2,e];rfl) with q | q
         ·exact .inr (.inr (.inr q))
         ·have:=HX.out.2.1.size;omega)).setCell (p:=⟨g,r*20+19,none⟩) (fun _=>.inr (.inl rfl)) _
      have H9:=hid (And.intro h9 FE)
      clear h8 h9 FE
      go_wp2
      go_end0
      refine ⟨rfl,vl7,_,by rw [E.out];exact H9.out.1,H9.out.2,fun k hk=>?_,OWs.out⟩
      rcases H7.out.2.2.1 k hk with e | e
      ·exact OV.out k (by rw [HM.out.2,e];rfl)
      ·right;have:=HZ.out.2.2.size;omega
end Go.Proofs.YteejjgbeknnmeaaGreatDoor
