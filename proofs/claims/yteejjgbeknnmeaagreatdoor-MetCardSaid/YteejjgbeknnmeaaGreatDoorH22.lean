import Derived.Test.YteejjgbeknnmeaaGreatDoorH11
import Derived.Lib.SliceRun
import Derived.Test.YteejjgbeknnmeaaGreatDoorH12
set_option maxRecDepth 100000
set_option maxHeartbeats 20000000
namespace Go.Proofs.YteejjgbeknnmeaaGreatDoor
open Go.RowKit
def th0:Th:=thOf (0,0,0,0)
def RM.nth (K:RM) (i:Nat):Th:=(K.threads[i]?).getD th0
def mtC (l:List Int) (r:Int):Ms:=⟨3,l,1,r,1,-1,-1⟩
def mtW:Ms:=⟨-1,[],-1,0,-1,4,-1⟩
def mtB (b:List Int):Ms:=⟨0,b,-1,0,-2,-1,0⟩
def mtLv (r:Int):List Lf:=[⟨0,1,5,3,-1,-1⟩,⟨1,4,5,r,0,1⟩]
def RM.met (K:RM) (l:List Int) (r:Int):RM:={ K.upd 1 (fun u=>{ u with st:=1,time:=-1,code:=0,who:=0,ws:=l,got:=4 }) with leaves:=mtLv r }
def mf2 (l:List Int) (r:Int):RM:=((tw0.asks 0 (mtC l r)).lendsTo 0 true).waits 0 2 1
def mf3 (l:List Int) (r:Int):RM:=(((mf2 l r).asks 1 mtW).met l r).waits 0 3 (-1)
def my0:RM:=tw0.yield.2
def my1:RM:=(my0.asks 1 mtW).waits 1 3 (-1)
def my3 (l:List Int) (r:Int):RM:=(((((my1.asks 0 (mtC l r)).lendsTo 0 true).met l r).toFirst 1)).waits 0 3 (-1)
theorem isMs_c {l:List Int}{r:Int}(hl:l.length<=4) (hr:r=1\/r=2\/r=3):isMs 2 (mtC l r)=true:=by
 rcases hr with rfl | rfl | rfl <;> simp [isMs,mtC,inI] <;> exact decide_eq_true (by omega)
theorem isMs_b {b:List Int}(hl:b.length<=4):isMs 2 (mtB b)=true:=by
 simp [isMs,mtB,inI]
 exact decide_eq_true (by omega)
theorem met_lend {a b:Th}{r:Int}(hr:r=1\/r=2\/r=3) (h1:a.item=1) (h2:a.lends=true) (h3:a.rt=r) (h4:a.sp=0) (h5:b.win=4) (h6:b.sp=1):lendL [⟨0,1,5,3,-1,-1⟩] a b=(mtLv r,4):=by
 have hg:goneL [⟨0,1,5,3,-1,-1⟩] b.sp b.win true=[(⟨0,1,5,3,-1,-1⟩:Lf)]:=by
  rw [h5,h6]
  refine gone_same ?_ ?_
  ·intro l hl
   have:l=⟨0,1,5,3,-1,-1⟩:=List.mem_singleton.1 hl
   subst this
   decide
  ·intro l hl
   have:l=⟨0,1,5,3,-1,-1⟩:=List.mem_singleton.1 hl
   subst this
   decide
 have hz:∀ r:Int,r=1\/r=2\/r=3->bits .and .i64 3 r=r:=fun r hr=>by rcases hr with rfl | rfl | rfl <;> decide
 have hb:=hz r hr
 rw [lendY (l:=⟨0,1,5,3,-1,-1⟩) (by rw [h1,h2,h5];decide) hg (by rw [h4,h1];rfl) (by show ¬ bits .and .i64 3 a.rt=0;rw [h3,hb];omega)]
 show ([⟨0,1,5,3,-1,-1⟩] ++ [(⟨b.sp,b.win,5,bits .and .i64 3 a.rt,a.sp,a.item⟩:Lf)],b.win)=_
 rw [h1,h3,h4,h5,h6,hb]
 rfl
theorem mf_ipc1 {l:List Int}{r:Int}(hl:l.length<=4) (hr:r=1\/r=2\/r=3):tw0.ipc (mtC l r)=(0,mf2 l r):=by
 rw [ipcS (K:=tw0) (m:=mtC l r) (t:=0) (r:=1) (u:=tw0.nth 0) (p:=(0,3,1,3)) (by kernel_rfl) (by kernel_rfl) (show isMs 2 (mtC l r)=true from isMs_c hl hr) (by show ¬ (3:Int) < 0;decide) (by kernel_rfl) (by decide) (by decide)]
 rw [sendsW (x:=tw0.nth 1) (by kernel_rfl) (by rintro ⟨h,_⟩;exact absurd h (by decide)) (by show (-1:Int)≠0;decide)]
 rfl
theorem mf_ipc2 {l:List Int}{r:Int}(hr:r=1\/r=2\/r=3):(mf2 l r).ipc mtW=(0,mf3 l r):=by
 rw [ipcR (t:=1) (by kernel_rfl) (by kernel_rfl) (by decide),recv_some (n:=6) (s:=0) (x:=((mf2 l r).asks 1 mtW).nth 1) (by kernel_rfl) (by kernel_rfl)]
 show (0,(((mf2 l r).asks 1 mtW).deliver 0 1).goes 6 0 false)=_
 rw [deliverE (a:=((mf2 l r).asks 1 mtW).nth 0) (b:=((mf2 l r).asks 1 mtW).nth 1) (L:=mtLv r) (g:=4) (by kernel_rfl) (by kernel_rfl) (met_lend hr (by kernel_rfl) (by kernel_rfl) (by kernel_rfl) (by kernel_rfl) (by kernel_rfl) (by kernel_rfl))]
 rw [goesR (z:=(mf2 l r).nth 0) (by kernel_rfl) (by show (1:Int)≠-2;decide),recvW (n:=5) (x:=(mf2 l r).nth 0) (by kernel_rfl) (by show (-1:Int) < 0;decide) (by show (-1:Int)≠0;decide)]
 rfl
theorem my_ipc1:my0.ipc mtW=(0,my1):=by
 rw [ipcR (t:=1) (by kernel_rfl) (by kernel_rfl) (by decide),recvW (n:=6) (x:=(my0.asks 1 mtW).nth 1) (by kernel_rfl) (by decide) (by decide)]
 rfl
theorem my_ipc2 {l:List Int}{r:Int}(hl:l.length<=4) (hr:r=1\/r=2\/r=3):my1.ipc (mtC l r)=(0,my3 l r):=by
 rw [ipcS (K:=my1) (m:=mtC l r) (t:=0) (r:=1) (u:=my1.nth 0) (p:=(0,3,1,3)) (by kernel_rfl) (by kernel_rfl) (show isMs 2 (mtC l r)=true from isMs_c hl hr) (by show ¬ (3:Int) < 0;decide) (by kernel_rfl) (by decide) (by decide)]
 rw [sendsN (x:=my1.nth 1) (by kernel_rfl) ⟨by kernel_rfl,.inl (by kernel_rfl)⟩]
 rw [deliverE (a:=((my1.asks 0 (mtC l r)).lendsTo 0 true).nth 0) (b:=((my1.asks 0 (mtC l r)).lendsTo 0 true).nth 1) (L:=mtLv r) (g:=4) (by kernel_rfl) (by kernel_rfl) (met_lend hr (by kernel_rfl) (by kernel_rfl) (by kernel_rfl) (by kernel_rfl) (by kernel_rfl) (by kernel_rfl))]
 rw [goesR (z:=((my1.asks 0 (mtC l r)).lendsTo 0 true).nth 0) (by kernel_rfl) (by show (1:Int)≠-2;decide),recvW (n:=6) (x:=((my1.asks 0 (mtC l r)).lendsTo 0 true).nth 0) (by kernel_rfl) (by show (-1:Int) < 0;decide) (by show (-1:Int)≠0;decide)]
 rfl
structure HeardAt (K:RM) (l:List Int) (r:Int):Prop where
 len:K.threads.length=2
 t1:∃ u,K.threads[1]? = some u/\u.st=1/\u.code=0/\u.who=0/\u.ws=l/\u.got=4
 t0:∃ u,K.threads[0]? = some u/\u.st=3
 cur:K.cur=1
 ld:(K.load 4 0).2=if r=2 then 7 else 0
 sd:(K.touch 4 0 2).2=if r=1 then 7 else 0
 an:∀ b:List Int,b.length<=4->∃ K2,(K.stored 4 0 3).ipc (mtB b)=(0,K2)/\(∃ u,K2.threads[0]? = some u/\u.st=1/\u.who=1/\u.got=-1/\u.ws=b)/\K2.cur=0/\K2.load 1 0=(if r=1 then 0 else 3,0)
def RM.back (K:RM) (b:List Int):RM:=((((K.asks 1 (mtB b)).lendsTo 1 true).upd 0 (fun u=>{ u with st:=1,time:=-1,code:=0,who:=1,ws:=b,got:=-1 })).toFirst 0).over 1 0
theorem back_ipc {K:RM}{b:List Int}{u v:Th}(hb:b.length<=4) (hc:K.cur=1) (hn:K.threads.length=2) (hp:findQ K.passes v.sp 0=some (1,0,0,3)) (hu:K.threads[0]? = some u) (hv:K.threads[1]? = some v) (h3:u.st=3) (h1:u.frm=1):K.ipc (mtB b)=(0,K.back b):=by
 rw [ipcS (t:=1) (r:=0) (u:=v) (p:=(1,0,0,3)) hc hv (by rw [hn];exact isMs_b hb) (by show ¬ (0:Int) < 0;decide) hp (by decide) (by decide)]
 have hu2:((K.asks 1 (mtB b)).lendsTo 1 true).threads[0]? = some u:=by
  show ((K.threads.modify 1 _).modify 1 _)[0]? = _
  rw [List.getElem?_modify,List.getElem?_modify,hu];rfl
 have hv2:((K.asks 1 (mtB b)).lendsTo 1 true).threads[1]? = some { v with dst:=0,mw:=b,item:=-1,rt:=0,frm:=-2,win:=-1,wait:=0,lends:=true }:=by
  show ((K.threads.modify 1 _).modify 1 _)[1]? = _
  rw [List.getElem?_modify,List.getElem?_modify,hv];rfl
 show (0,((K.asks 1 (mtB b)).lendsTo 1 true).sends 1 0 (mtB b))=_
 rw [sendsN (x:=u) hu2 ⟨h3,.inr (by rw [h1];rfl)⟩,deliverE hv2 hu2 (lendN (.inl (by show (-1:Int) < 0;decide)))]
 rw [goesO (z:={ v with dst:=0,mw:=b,item:=-1,rt:=0,frm:=-2,win:=-1,wait:=0,lends:=true }) (by
  show ((((K.threads.modify 1 _).modify 1 _).modify 0 _).modify 0 _)[1]? = _
  rw [List.getElem?_modify,List.getElem?_modify,List.getElem?_modify,List.getElem?_modify,hv];rfl) rfl]
 rfl
theorem mf_heard {l:List Int}{r:Int}(hr:r=1\/r=2\/r=3):HeardAt (mf3 l r) l r:=by
 refine ⟨by kernel_rfl,⟨(mf3 l r).nth 1,by kernel_rfl,by kernel_rfl,by kernel_rfl,by kernel_rfl,by kernel_rfl,by kernel_rfl⟩,⟨(mf3 l r).nth 0,by kernel_rfl,by kernel_rfl⟩,by kernel_rfl,?_,?_,fun b hb=>?_⟩
 ·rcases hr with rfl | rfl | rfl <;> kernel_rfl
 ·rcases hr with rfl | rfl | rfl <;> kernel_rfl
 ·rcases hr with rfl | rfl | rfl
  ·exact ⟨_,back_ipc (u:=(mf3 l 1).nth 0) (v:=(mf3 l 1).nth 1) hb (by kernel_rfl) (by kernel_rfl) (by kernel_rfl) (by kernel_rfl) (by kernel_rfl) (by kernel_rfl) (by kernel_rfl),⟨(((mf3 l 1).stored 4 0 3).back b).nth 0,by kernel_rfl,by kernel_rfl,by kernel_rfl,by kernel_rfl,by kernel_rfl⟩,by kernel_rfl,by kernel_rfl⟩
  ·exact ⟨_,back_ipc (u:=(mf3 l 2).nth 0) (v:=(mf3 l 2).nth 1) hb (by kernel_rfl) (by kernel_rfl) (by kernel_rfl) (by kernel_rfl) (by kernel_rfl) (by kernel_rfl) (by kernel_rfl),⟨(((mf3 l 2).stored 4 0 3).back b).nth 0,by kernel_rfl,by kernel_rfl,by kernel_rfl,by kernel_rfl,by kernel_rfl⟩,by kernel_rfl,by kernel_rfl⟩
  ·exact ⟨_,back_ipc (u:=(mf3 l 3).nth 0) (v:=(mf3 l 3).nth 1) hb (by kernel_rfl) (by kernel_rfl) (by kernel_rfl) (by kernel_rfl) (by kernel_rfl) (by kernel_rfl) (by kernel_rfl),⟨(((mf3 l 3).stored 4 0 3).back b).nth 0,by kernel_rfl,by kernel_rfl,by kernel_rfl,by kernel_rfl,by kernel_rfl⟩,by kernel_rfl,by kernel_rfl⟩
theorem my_heard {l:List Int}{r:Int}(hr:r=1\/r=2\/r=3):HeardAt (my3 l r) l r:=by
 refine ⟨by kernel_rfl,⟨(my3 l r).nth 1,by kernel_rfl,by kernel_rfl,by kernel_rfl,by kernel_rfl,by kernel_rfl,by kernel_rfl⟩,⟨(my3 l r).nth 0,by kernel_rfl,by kernel_rfl⟩,by kernel_rfl,?_,?_,fun b hb=>?_⟩
 ·rcases hr with rfl | rfl | rfl <;> kernel_rfl
 ·rcases hr with rfl | rfl | rfl <;> kernel_rfl
 ·rcases hr with rfl | rfl | rfl
  ·exact ⟨_,back_ipc (u:=(my3 l 1).nth 0) (v:=(my3 l 1).nth 1) hb (by kernel_rfl) (by kernel_rfl) (by kernel_rfl) (by kernel_rfl) (by kernel_rfl) (by kernel_rfl) (by kernel_rfl),⟨(((my3 l 1).stored 4 0 3).back b).nth 0,by kernel_rfl,by kernel_rfl,by kernel_rfl,by kernel_rfl,by kernel_rfl⟩,by kernel_rfl,by kernel_rfl⟩
  ·exact ⟨_,back_ipc (u:=(my3 l 2).nth 0) (v:=(my3 l 2).nth 1) hb (by kernel_rfl) (by kernel_rfl) (by kernel_rfl) (by kernel_rfl) (by kernel_rfl) (by kernel_rfl) (by kernel_rfl),⟨(((my3 l 2).stored 4 0 3).back b).nth 0,by kernel_rfl,by kernel_rfl,by kernel_rfl,by kernel_rfl,by kernel_rfl⟩,by kernel_rfl,by kernel_rfl⟩
  ·exact ⟨_,back_ipc (u:=(my3 l 3).nth 0) (v:=(my3 l 3).nth 1) hb (by kernel_rfl) (by kernel_rfl) (by kernel_rfl) (by kernel_rfl) (by kernel_rfl) (by kernel_rfl) (by kernel_rfl),⟨(((my3 l 3).stored 4 0 3).back b).nth 0,by kernel_rfl,by kernel_rfl,by kernel_rfl,by kernel_rfl,by kernel_rfl⟩,by kernel_rfl,by kernel_rfl⟩
open Go.RowKit
theorem Inl.take {w:World}{a:Option Addr}{n c:Nat}{ws:List Int}(h:Inl w 1 (.slice a n c) (ws.map lnI)) (k:Nat) (hk:k<=n) (hl:ws.length=n):Inl w 1 (.slice a k c) ((ws.take k).map lnI):=by
 obtain ⟨a',c',e,hm,hf⟩:=h.form
 simp only [Value.slice.injEq,List.length_map] at e
 obtain ⟨rfl,e2,rfl⟩:=e
 have hlk:(ws.take k).length=k:=by simp;omega
 refine ⟨fun r hr=>by obtain ⟨z,_,rfl⟩:=List.mem_map.1 hr;rfl,fun r hr u hu=>by obtain ⟨z,_,rfl⟩:=List.mem_map.1 hr;simp [lnI] at hu;subst hu;rfl,a,c,by rw [List.length_map,hlk],by simp at hm ⊢;omega,?_⟩
 rcases hf with hf | ⟨b,off,rfl,hr⟩
 ·left
  have:ws=[]:=by simpa using hf
  subst this
  simp
 ·right
  refine ⟨b,off,rfl,fun j v hv=>hr j v ?_⟩
  have ef:∀ l:List Int,(l.map lnI).flatten=l.map (Value.int .i64):=fun l=>by
   induction l with
   | nil=>rfl
   | cons z r ih=>simp [lnI,ih]
  rw [ef] at hv ⊢
  rw [List.getElem?_map] at hv ⊢
  rcases hx:(ws.take k)[j]? with _ | z
  ·rw [hx] at hv;simp at hv
  ·rw [hx] at hv
   rw [List.getElem?_take] at hx
   split at hx
   ·rw [hx];exact hv
   ·simp at hx
theorem short_any (a:Option Addr) (n c:Nat) (ws:List Int) (w:World) (hI:Inl w 1 (.slice a n c) (ws.map lnI)) (hl:ws.length=n) (hc:n<=c) :
  Calls Tryz.prog 21 #[.slice a n c] w fun e w'=>∃ k,e=.returned (.slice a k c)/\k<=n/\(ws.take 4).length=k/\Inl w 1 (.slice a k c) ((ws.take 4).map lnI)/\w'=w:=by
 by_cases h4:4 < n
 ·obtain ⟨b,off,rfl⟩:∃ b off,a=some ⟨b,off,none⟩:=by
   obtain ⟨a',c',e,_,hf⟩:=hI.form
   simp only [Value.slice.injEq] at e
   rcases hf with hf | ⟨b,off,h,_⟩
   ·have:ws=[]:=by simpa using hf
    subst this
    simp at hl;omega
   ·exact ⟨b,off,by rw [e.1,h]⟩
  have HI:=hid (hI.take 4 (by omega) hl)
  have h4':(4:Int) < (n:Int):=by omega
  have hlt:(ws.take 4).length=4:=by simp;omega
  have HL:=hid hlt
  clear hI hl hlt
  go_enter Tryz.func21,Tryz.ntmps21
  go_wp2
  go_ret
  exact ⟨4,rfl,by omega,HL.out,HI.out,rfl⟩
 ·have hd:decide ((4:Int) < (n:Int))=false:=by simp;omega
  have e:ws.take 4=ws:=List.take_of_length_le (by omega)
  have HI:=hid (And.intro hI (And.intro e hl))
  clear hI e hl
  go_enter Tryz.func21,Tryz.ntmps21
  go_wp2
  go_ret
  exact ⟨n,rfl,Nat.le_refl _,by rw [HI.out.2.1];exact HI.out.2.2,by rw [HI.out.2.1];exact HI.out.1,rfl⟩
open Go.RowKit
theorem Inl.inltK {w:World}{size:Nat}{v:Value}{rows:List (List Value)}(h:Inl w size v rows) (hs:0 < size){k:Nat}(hk:inBlock v=some k):k < w.heap.size:=by
 refine h.lt hs (fun e=>?_) hk
 subst e
 obtain ⟨a,c,rfl,_⟩:=h.form
 cases a <;> simp [inBlock] at hk
theorem c5_cells {w:World}{g:Nat}{st code who got:Int}{a:Option Addr}{n c:Nat}(h:w.heap[g]? = some (.cells (c5 st code who a n c got) 50 (0,0))) :
  w.cell? ⟨g,0,none⟩=some (.int .i64 st)/\w.cell? ⟨g,1,none⟩=some (.int .i64 code)/\w.cell? ⟨g,2,none⟩=some (.int .i64 who)/\w.cell? ⟨g,3,none⟩=some (.slice a n c)/\w.cell? ⟨g,4,none⟩=some (.int .i64 got):=
 ⟨(cell_of_row w g 0 _ _ _ h).trans rfl,(cell_of_row w g 1 _ _ _ h).trans rfl,(cell_of_row w g 2 _ _ _ h).trans rfl,(cell_of_row w g 3 _ _ _ h).trans rfl,(cell_of_row w g 4 _ _ _ h).trans rfl⟩
theorem word_at {w:World}{a:Option Addr}{n c:Nat}{l:List Int}(h:Inl w 1 (.slice a n c) (l.map lnI)){k:Nat}{z:Int}(hz:l[k]? = some z):∃ b o,a=some ⟨b,o,none⟩/\w.cell? ⟨b,o+k,none⟩=some (.int .i64 z):=by
 obtain ⟨b,o,e,r⟩:=h.row (k:=k) (r:=[.int .i64 z]) (by rw [List.getElem?_map,hz];rfl)
 refine ⟨b,o,e,?_⟩
 have:=r 0 (.int .i64 z) rfl
 rwa [Nat.mul_one,Nat.add_zero] at this
theorem word_out {w:World}{g n c:Nat}{l:List Int}(h:Sl w 2 1 (.slice (some ⟨g,0,none⟩) n c) (l.map lnI)){k:Nat}{z:Int}(hz:l[k]? = some z):w.cell? ⟨g,k,none⟩=some (.int .i64 z):=by
 have:=h.row (i:=k) (r:=[.int .i64 z]) (by rw [List.getElem?_map,hz];rfl) 0 _ rfl
 rwa [Nat.mul_one,Nat.add_zero] at this
section
variable {Rep:World->Nat->(Nat->Prop)->RM->Prop}(A:ApM Rep)
include A in
theorem heard_any {W w:World}{x:Nat}{S:Nat->Prop}{K:RM}{n:Nat}(h:KS Rep W w x S K n) (hn:n<=1000) (l b:List Int) (r:Int) (HA:HeardAt K l r) (hr:r=1\/r=2\/r=3)
  (al ab:Option Addr) (nl cl nb cb:Nat) (iL:Inl W 1 (.slice al nl cl) (l.map lnI)) (iB:Inl W 1 (.slice ab nb cb) (b.map lnI)) (el:l.length=nl) (eb:b.length=nb) (lb:nb<=4) (ll:nl<=4) :
  Calls Tryz.prog 24 #[.pointer (some ⟨x,0,none⟩),.slice al nl cl,.slice ab nb cb,.int .i64 r] w fun e w'=>e=.returned (.bool true)/\Below W.heap.size W w':=by
 obtain ⟨u1,hu1,s1,c1,o1,g1,t1⟩:=HA.t1
 obtain ⟨u0,hu0,s0⟩:=HA.t0
 obtain ⟨K2,hI2,⟨v0,hv0,vs0,vo0,vg0,vw0⟩,hc2,hl2⟩:=HA.an b (by omega)
 obtain ⟨b1,b2,f1,f2,f3,f4,f5⟩:∃ b1 b2,((K.load 4 0).2 == 0)=b1/\(bits .and .i64 r 1 != 0)=b1/\((K.touch 4 0 2).2 == 0)=b2/\(bits .and .i64 r 2 != 0)=b2/\((K2.load 1 0).1 == 3)=b2:=by
  rw [HA.ld,HA.sd,hl2]
  rcases hr with rfl | rfl | rfl
  ·exact ⟨true,false,by decide,by decide,by decide,by decide,by decide⟩
  ·exact ⟨false,true,by decide,by decide,by decide,by decide,by decide⟩
  ·exact ⟨true,true,by decide,by decide,by decide,by decide,by decide⟩
 have f6:(K2.load 1 0).2=0:=by rw [hl2]
 have C1:=hid (lookK_any A h 1 u1 hu1)
 rw [s1,c1,o1,g1,t1,el] at C1
 have HW:=hid (And.intro iL (And.intro iB (And.intro el (And.intro eb (And.intro hu0 (And.intro hI2 (And.intro hv0 HA.cur)))))))
 have HS:=hid (And.intro (h.lt A) h.bel.size)
 have HV:=hid (And.intro s0 (And.intro vs0 (And.intro vo0 (And.intro vg0 (And.intro vw0 (And.intro hc2 (And.intro f1 (And.intro f2 (And.intro f3 (And.intro f4 (And.intro f5 f6)))))))))))
 clear h iL iB hu1 s1 c1 o1 t1 HA hr g1 hu0 s0 hI2 hv0 vs0 vo0 vg0 vw0 hc2 hl2 f1 f2 f3 f4 f5 f6 el eb
 go_enter Tryz.func24,Tryz.ntmps24
 go_wp2_with fail
 refine C1.out.mono ?_
 rintro e w1 ⟨a1,cc1,rfl,sl1,B1,N1,K1⟩
 have K1':=K1.below A ((Below.refl _ w1).alloc (Nat.le_refl _) (.cells (c5 1 0 0 a1 nl cc1 4) 50))
 have C2:=hid (lookK_any A K1' 0 u0 HW.out.2.2.2.2.1)
 rw [HV.out.1] at C2
 obtain ⟨m0,hm0⟩:∃ m,u0.ws.length=m:=⟨_,rfl⟩
 rw [hm0] at C2
 have H1:=hid (And.intro sl1 (heap_alloc_new w1 (.cells (c5 1 0 0 a1 nl cc1 4) 50)))
 have Z01:=hid B1.size
 clear sl1 B1 N1 K1 K1' hm0
 go_wp2_with (with_reducible (show wpList _ _ _ (⟨_,.store 50 _ _,_,_,_,none⟩ :: _) _ _);go_must (refine wpList_store_new rfl 50 _ _ rfl w1 _ (c5 1 0 0 a1 nl cc1 4) 50 (by simp [Act.eval]) rfl (by kernel_rfl) rfl (c5_one _ _ _ _ _ _ _) ?_))
 refine C2.out.mono ?_
 rintro e w2 ⟨a2,cc2,rfl,sl2,B2,N2,K2'⟩
 have z2:=B2.size
 simp only [size_alloc] at z2
 have KB:=K2'.below A ((Below.refl _ w2).alloc (Nat.le_refl _) (.cells (c5 3 u0.code u0.who a2 m0 cc2 u0.got) 50))
 have q1:(w2.alloc (.cells (c5 3 u0.code u0.who a2 m0 cc2 u0.got) 50)).heap[w1.heap.size]? = some (.cells (c5 1 0 0 a1 nl cc1 4) 50 (0,0)):=(Below.heap_alloc _ _ _ (by omega)).trans ((B2.block _ (by simp)).trans H1.out.2)
 have q2:=heap_alloc_new w2 (.cells (c5 3 u0.code u0.who a2 m0 cc2 u0.got) 50)
 have BB:Below w1.heap.size w1 (w2.alloc (.cells (c5 3 u0.code u0.who a2 m0 cc2 u0.got) 50)):=(((Below.refl _ w1).alloc (Nat.le_refl _) _).trans (B2.mono (by simp))).alloc (by omega) _
 have S1:Sl (w2.alloc (.cells (c5 3 u0.code u0.who a2 m0 cc2 u0.got) 50)) 2 1 (.slice a1 nl cc1) (l.map lnI):=H1.out.1.kept (Fr.of_below BB (fun _=>False)) (fun _ _ h=>h)
 obtain ⟨p0,p1,p2,p3,p4⟩:=c5_cells q1
 obtain ⟨r0,r1,r2,r3,r4⟩:=c5_cells q2
 have C3:=hid (ks_current A KB)
 rw [HW.out.2.2.2.2.2.2.2] at C3
 have HB:=hid (And.intro KB (And.intro S1 (And.intro q1 q2)))
 have hnn:((nl:Int) != (nl:Int))=false:=by simp
 have Z12:=hid z2
 clear B2 N2 K2' sl2 KB q1 q2 BB S1 z2
 go_wp2_with (first
  | (with_reducible (show wpList _ _ _ (⟨_,.store 50 _ _,_,_,_,none⟩ :: _) _ _);go_must (refine wpList_store_new rfl 50 _ _ rfl w2 _ (c5 3 u0.code u0.who a2 m0 cc2 u0.got) 50 (by simp [Act.eval]) rfl (by kernel_rfl) rfl (c5_one _ _ _ _ _ _ _) ?_))
  | (go_at_call 18;refine C3.out.mono ?_;rintro e w3 ⟨rfl,B3,K3⟩;have H3:=hid (And.intro B3 K3);clear B3 K3))
 obtain ⟨wB,hwB⟩:∃ wB,w2.alloc (.cells (c5 3 u0.code u0.who a2 m0 cc2 u0.got) 50)=wB:=⟨_,rfl⟩
 have zB:w2.heap.size < wB.heap.size:=by rw [<- hwB];simp
 have z12:w1.heap.size < w2.heap.size:=by have:=Z12.out;omega
 rw [hwB] at HB H3
 clear hwB C3
 go_loopw [13] (fun i wr=>∃ k:Nat,k<=nl/\i=.int .i64 k/\Hid (Below w3.heap.size w3 wr)) (fun i _=>nl-(intOf i).toNat)
 case atStart=>exact ⟨0,Nat.zero_le _,rfl,Below.refl _ _⟩
 case round=>
  obtain ⟨k,hk,rfl,HQ⟩:=hrel
  have Bq:Below wB.heap.size wB wr:=H3.out.1.trans (HQ.out.mono H3.out.1.size)
  have Kq:=H3.out.2.below A HQ.out
  by_cases hkn:k < nl
  ·obtain ⟨z,hz⟩:∃ z,l[k]? = some z:=⟨_,List.getElem?_eq_getElem (by have:=HW.out.2.2.1;omega)⟩
   obtain ⟨bl,ol,ea,cw⟩:=word_at ((HW.out.1.below (by omega) Kq.bel)) hz
   subst ea
   have S2:=HB.out.2.1.kept (Fr.of_below Bq (fun _=>False)) (fun _ _ h=>h)
   obtain ⟨ga,ea,hx⟩:=S2.is_some (by omega)
   clear hx
   subst ea
   have ct:=word_out S2 hz
   have t3:=(c5_cells ((Bq.block _ (by omega)).trans HB.out.2.2.1)).2.2.2.1
   have hkn':(k:Int) < (nl:Int):=by omega
   have hzz:(z != z)=false:=by simp
   have lw:w1.heap.size < wr.heap.size:=by have:=Bq.size;omega
   have HX:=hid HQ.out
   clear S2 hz Kq Bq HQ
   go_wp2_with fail
   go_quiet (fail)
   go_wp2
   exact ⟨⟨k+1,by omega,by go_num,below_drewN HX.out _⟩,by simp [intOf];omega⟩
  ·have:k=nl:=by omega
   subst this
   have C4:=hid (ks_load A Kq 4 0)
   obtain ⟨e4,v4,he4,hv4⟩:∃ e4 v4,(K.load 4 0).2=e4/\(K.load 4 0).1=v4:=⟨_,_,rfl,rfl⟩
   obtain ⟨e5,he5⟩:∃ e5,(K.touch 4 0 2).2=e5:=⟨_,rfl⟩
   rw [he4,hv4] at C4
   have g1:=HV.out.2.2.2.2.2.2.1
   have g2:=HV.out.2.2.2.2.2.2.2.1
   have g3:=HV.out.2.2.2.2.2.2.2.2.1
   have g4:=HV.out.2.2.2.2.2.2.2.2.2.1
   rw [he4] at g1
   rw [he5] at g3
   have HX:=hid (And.intro Bq he5)
   clear Kq Bq HQ he4 he5 hv4
   go_wp2_with fail
   refine C4.out.mono ?_
   rintro e w4 ⟨rfl,B4,K4⟩
   have C5:=hid (ks_store A K4 4 0 3)
   rw [HX.out.2] at C5
   have LS:=hid (K4.lt A)
   have HB4:=hid B4
   clear B4 K4
   go_wp2_with fail
   refine C5.out.mono ?_
   rintro e w5 ⟨rfl,S5,K5,o5,F5⟩
   have n5:¬ S w2.heap.size:=fun hS=>by have:=HS.out.1 _ hS;have:=Z01.out;omega
   have y4:w2.heap.size < w4.heap.size:=by have:=HX.out.1.size;have:=HB4.out.size;omega
   have q4:=(HB4.out.block _ (by have:=HX.out.1.size;omega)).trans ((HX.out.1.block _ zB).trans HB.out.2.2.2)
   have q5:=(F5.block _ y4 n5).trans q4
   have m5:¬ S5 w2.heap.size:=fun hS=>by
    rcases o5 _ hS with g | g
    ·exact n5 g
    ·omega
   have y5:w2.heap.size < w5.heap.size:=by have:=F5.size;omega
   have HQ5:=hid (And.intro q5 (And.intro m5 y5))
   clear n5 y4 q4 q5 m5 y5 o5
   have C6:=hid (ks_ipc A K5 (by omega) (mtB b) ab cb (by show Inl w5 1 (.slice ab b.length cb) _;rw [HW.out.2.2.2.1];exact HW.out.2.1.below (by omega) K5.bel) (fun k hk hS=>by
    have hk2:inBlock (.slice ab b.length cb)=some k:=hk
    rw [HW.out.2.2.2.1] at hk2
    have:=HW.out.2.1.inltK (by omega) hk2
    have:=K5.new k hS
    omega))
   have E6:msV (mtB b) ab cb=.agg #[.int .i64 0,.slice ab nb cb,.int .i64 (-1),.int .i64 0,.int .i64 (-2),.int .i64 (-1),.int .i64 0]:=by
    show Value.agg #[.int .i64 0,.slice ab b.length cb,.int .i64 (-1),.int .i64 0,.int .i64 (-2),.int .i64 (-1),.int .i64 0]=_
    rw [HW.out.2.2.2.1]
   rw [E6,HW.out.2.2.2.2.2.1] at C6
   clear K5 F5 E6
   go_wp2_with fail
   refine C6.out.mono ?_
   rintro e w6 ⟨rfl,S6,K6,o6,F6⟩
   have q6:=(F6.block _ HQ5.out.2.2 HQ5.out.2.1).trans HQ5.out.1
   have y6:w2.heap.size < w6.heap.size:=by have:=F6.size;have:=HQ5.out.2.2;omega
   have C7:=hid (lookK_any A K6 0 v0 HW.out.2.2.2.2.2.2.1)
   rw [HV.out.2.1,HV.out.2.2.1,HV.out.2.2.2.1,HV.out.2.2.2.2.1,HW.out.2.2.2.1] at C7
   have m6:¬ S6 w2.heap.size:=fun hS=>by
    rcases o6 _ hS with g | g
    ·exact HQ5.out.2.1 g
    ·have:=HQ5.out.2.2;omega
   have HQ6:=hid (And.intro q6 (And.intro y6 m6))
   clear K6 F6 q6 y6 o6 m6
   go_wp2_with fail
   refine C7.out.mono ?_
   rintro e w7 ⟨a7,cc7,rfl,sl7,B7,N7,K7⟩
   have q7:=(B7.block _ HQ6.out.2.1).trans HQ6.out.1
   have y7:w2.heap.size < w7.heap.size:=by have:=B7.size;have:=HQ6.out.2.1;omega
   have q8:=setRow_heap w7 w2.heap.size _ (c5 1 v0.code 1 a7 nb cc7 (-1)) 50 (0,0) q7
   have F8:Fr (fun k=>k=w2.heap.size) w7 (w7.setRow w2.heap.size (c5 1 v0.code 1 a7 nb cc7 (-1))):=(Fr.refl (fun k=>k=w2.heap.size) _).setRow (fun _=>rfl) _
   have S8:=sl7.kept F8 (fun k hk e=>by have:=N7 k hk;have:=HQ6.out.2.1;omega)
   have K8:=K7.fr A F8 (fun k hk e=>HQ6.out.2.2 (e ▸ hk)) (fun k e=>by have:=HS.out.2;have:=Z01.out;omega)
   have HQ8:=hid (And.intro q8 (And.intro S8 (And.intro K8 y7)))
   obtain ⟨p0,p1,p2,p3,p4⟩:=c5_cells q8
   have hnb:((nb:Int) != (nb:Int))=false:=by simp
   clear F8 S8 K8 K7 sl7 B7 N7 C6 C5 C4 C7 y7
   go_wp2_with (with_reducible (show wpList _ _ _ (⟨_,.store 50 _ _,_,_,_,none⟩ :: _) _ _);go_must (refine wpList_store_row rfl 50 _ _ rfl w2.heap.size (c5 1 v0.code 1 a7 nb cc7 (-1)) (by simp [Act.eval]) rfl 50 _ q7 (by kernel_rfl) rfl (c5_one _ _ _ _ _ _ _) ?_))
   obtain ⟨w8,hw8⟩:∃ w8,w7.setRow w2.heap.size (c5 1 v0.code 1 a7 nb cc7 (-1))=w8:=⟨_,rfl⟩
   have z8:w8.heap.size=w7.heap.size:=by rw [<- hw8];simp [World.setRow]
   rw [hw8] at HQ8
   clear p0 p1 p2 p3 p4 r0 r1 r2 r3 r4
   rw [hw8]
   clear hw8
   go_loopw [17] (fun i wr=>∃ j:Nat,j<=nb/\i=.int .i64 j/\Hid (Below w8.heap.size w8 wr)) (fun i _=>nb-(intOf i).toNat)
   case atStart=>exact ⟨0,Nat.zero_le _,rfl,Below.refl _ _⟩
   case round=>
    obtain ⟨j,hj,rfl,HJ⟩:=hrel
    have Kj:=HQ8.out.2.2.1.below A HJ.out
    by_cases hjn:j < nb
    ·obtain ⟨z,hz⟩:∃ z,b[j]? = some z:=⟨_,List.getElem?_eq_getElem (by have:=HW.out.2.2.2.1;omega)⟩
     obtain ⟨bl,ol,ea,cw⟩:=word_at ((HW.out.2.1.below (by omega) Kj.bel)) hz
     subst ea
     have S2:=HQ8.out.2.1.kept (Fr.of_below HJ.out (fun _=>False)) (fun _ _ h=>h)
     obtain ⟨ga,ea,hx⟩:=S2.is_some (by omega)
     clear hx
     subst ea
     have ct:=word_out S2 hz
     have y8:=HQ8.out.2.2.2
     have t3:=(c5_cells ((HJ.out.block _ (by omega)).trans HQ8.out.1)).2.2.2.1
     have hjn':(j:Int) < (nb:Int):=by omega
     have hzz:(z != z)=false:=by simp
     have lw:w2.heap.size < wr.heap.size:=by have:=HJ.out.size;omega
     have HX:=hid HJ.out
     clear S2 hz Kj HJ y8
     go_wp2_with fail
     go_quiet (fail)
     go_wp2
     exact ⟨⟨j+1,by omega,by go_num,below_drewN HX.out _⟩,by simp [intOf];omega⟩
    ·have:j=nb:=by omega
     subst this
     have C9:=hid (ks_load A Kj 1 0)
     obtain ⟨v9,hv9⟩:∃ v9,(K2.load 1 0).1=v9:=⟨_,rfl⟩
     have g5:=HV.out.2.2.2.2.2.2.2.2.2.2.1
     rw [HV.out.2.2.2.2.2.2.2.2.2.2.2,hv9] at C9
     rw [hv9] at g5
     clear Kj hv9
     go_wp2_with fail
     refine C9.out.mono ?_
     rintro e w9 ⟨rfl,B9,K9⟩
     have C10:=hid (ks_current A K9)
     rw [HV.out.2.2.2.2.2.1] at C10
     clear B9 K9
     go_wp2_with (go_at_call 18;refine C10.out.mono ?_;rintro e w10 ⟨rfl,B10,K10⟩;have HK:=hid K10.bel;clear B10 K10)
     go_ret
     exact ⟨rfl,HK.out⟩
end
open Go.RowKit
theorem al2 (w:World) (o o':Obj):((w.alloc o).alloc o').heap[w.heap.size]? = some o:=(Below.heap_alloc _ _ _ (by simp)).trans (heap_alloc_new w o)
theorem al4 (w:World) (o o1 o2 o3:Obj):((((w.alloc o).alloc o1).alloc o2).alloc o3).heap[w.heap.size]? = some o/\((((w.alloc o).alloc o1).alloc o2).alloc o3).heap[w.heap.size+1]? = some o1/\((((w.alloc o).alloc o1).alloc o2).alloc o3).heap[w.heap.size+1+1]? = some o2/\((((w.alloc o).alloc o1).alloc o2).alloc o3).heap[w.heap.size+1+1+1]? = some o3/\w.heap.size+1+1+1 < ((((w.alloc o).alloc o1).alloc o2).alloc o3).heap.size:=by
 refine ⟨?_,?_,?_,?_,by simp⟩
 ·rw [Below.heap_alloc _ _ _ (by simp only [size_alloc];omega),Below.heap_alloc _ _ _ (by simp only [size_alloc];omega),Below.heap_alloc _ _ _ (by simp only [size_alloc];omega)];exact heap_alloc_new w o
 ·have:=heap_alloc_new (w.alloc o) o1
  rw [size_alloc] at this
  rw [Below.heap_alloc _ _ _ (by simp only [size_alloc];omega),Below.heap_alloc _ _ _ (by simp only [size_alloc];omega)];exact this
 ·have:=heap_alloc_new ((w.alloc o).alloc o1) o2
  rw [size_alloc,size_alloc] at this
  rw [Below.heap_alloc _ _ _ (by simp only [size_alloc];omega)];exact this
 ·have:=heap_alloc_new (((w.alloc o).alloc o1).alloc o2) o3
  rwa [size_alloc,size_alloc,size_alloc] at this
theorem Inl.take4 {w:World}{a:Option Addr}{n c k:Nat}{ws:List Int}(h:Inl w 1 (.slice a n c) (ws.map lnI)) (hl:ws.length=n) (hk:(ws.take 4).length=k):Inl w 1 (.slice a k c) ((ws.take 4).map lnI):=by
 have e:ws.take 4=ws.take k:=by
  rw [<- hk,List.length_take]
  by_cases h4:4<=ws.length
  ·rw [Nat.min_eq_left h4]
  ·rw [Nat.min_eq_right (by omega),List.take_of_length_le (by omega),List.take_length]
 rw [e]
 exact h.take k (by rw [<- hk,<- hl];simp;omega) hl
theorem al3 (w:World) (o o1 o2:Obj):(((w.alloc o).alloc o1).alloc o2).heap[w.heap.size+1]? = some o1:=by
 have:=al2 (w.alloc o) o1 o2
 rwa [size_alloc] at this
section
variable {Rep:World->Nat->(Nat->Prop)->RM->Prop}(A:ApM Rep)
include A in
theorem met_first (ws bs:List Int) (r0:Int) (a ab:Option Addr) (m cap mb cb:Nat) (w:World) (hg:Gl w) (h1:-9223372036854775808<=r0) (h2:r0<=9223372036854775807) (iW:Inl w 1 (.slice a m cap) (ws.map lnI)) (iB:Inl w 1 (.slice ab mb cb) (bs.map lnI)) (lW:ws.length=m) (lB:bs.length=mb) (cW:m<=cap) (cB:mb<=cb) :
  Calls Tryz.prog 8 #[.slice a m cap,.slice ab mb cb,.bool false,.int .i64 r0] w fun e w'=>e=.returned (.bool true)/\Below w.heap.size w w':=by
 have P1:=fun w=>pickK_any r0 3 w h1 h2 (by omega) (by omega)
 obtain ⟨r,hr0⟩:∃ r,1+pickI r0 3=r:=⟨_,rfl⟩
 have hr1:1<=r:=by have:=pickI_in r0 (n:=3) (by omega);omega
 have hr3:r<=3:=by have:=pickI_in r0 (n:=3) (by omega);omega
 have hr:r=1\/r=2\/r=3:=by have:=pickI_in r0 (n:=3) (by omega);omega
 have HW:=hid (And.intro iW (And.intro iB (And.intro lW (And.intro lB (And.intro cW (And.intro cB hr))))))
 have HP:=hid P1
 clear P1 h1 h2 iW iB lW lB cW cB hr
 go_enter Tryz.func8,Tryz.ntmps8
 go_wp2_with fail
 refine (two_any w).mono ?_
 rintro e w1 ⟨b1,b2,b3,rfl,i1,i2,i3,B1⟩
 have C2:=hid (boot_any A 2 _ _ _ _ _ _ _ _ _ twT twQ twL w1 (hg.below B1) i1 i2 i3 fits_tw 0)
 have HB1:=hid B1
 clear i1 i2 i3 B1 hg
 go_wp2_with fail
 refine C2.out.mono ?_
 rintro e w2 ⟨x,S2,rfl,K2,B2⟩
 have S3:=hid (short_any a m cap ws w2 ((HW.out.1.below (by omega) HB1.out).below (by omega) (B2.mono (HB1.out.size |> fun _=>Nat.le_refl _))) HW.out.2.2.1 HW.out.2.2.2.2.1)
 have HB2:=hid (And.intro B2 K2)
 clear B2 K2
 go_wp2_with fail
 refine S3.out.mono ?_
 rintro e w3 ⟨k,rfl,hk,lk,iK,hw⟩
 have hw:=hw.symm
 subst hw
 have HK:=hid (And.intro hk (And.intro lk iK))
 obtain ⟨l,hl⟩:∃ l,ws.take 4=l:=⟨_,rfl⟩
 have HL:=hid hl
 rw [hl] at HK
 have lk4:k<=4:=by have:=HK.out.2.1;rw [<- hl] at this;simp at this;omega
 clear hk lk iK S3 C2 hl
 go_wp2_with (first
  | (go_at_call 16;refine (HP.out _).mono ?_;rintro e w3 ⟨rfl,hw⟩;have hw:=hw.symm;subst hw)
  | (with_reducible (show wpList _ _ _ (⟨_,.store 43 (.tmp 12) _,_,_,_,none⟩ :: _) _ _);go_must (refine wpList_store_new rfl 43 _ _ rfl w2 _ #[.int .i64 3,.slice a k cap,.int .i64 1,.int .i64 r,.int .i64 1,.int .i64 (-1),.int .i64 (-1)] 43 (by simp [Act.eval]) rfl (by kernel_rfl) rfl (by simp [Value.oneCell']) ?_))
  | (with_reducible (show wpList _ _ _ (⟨_,.store 43 (.tmp 13) _,_,_,_,none⟩ :: _) _ _);go_must (refine wpList_store_new rfl 43 _ _ rfl (w2.alloc (.cells #[.int .i64 3,.slice a k cap,.int .i64 1,.int .i64 r,.int .i64 1,.int .i64 (-1),.int .i64 (-1)] 43)) _ #[.int .i64 (-1),.slice none 0 0,.int .i64 (-1),.int .i64 0,.int .i64 (-1),.int .i64 4,.int .i64 (-1)] 43 (by simp [Act.eval]) rfl (by kernel_rfl) rfl (by simp [Value.oneCell']) ?_))
  | (with_reducible (show wpList _ _ _ (⟨_,.load 43 (.tmp 12),_,_,_,none⟩ :: _) _ _);go_must (refine wpList_load_row rfl 43 _ rfl w2.heap.size (by simp [Act.eval,Act.put]) 43 #[.int .i64 3,.slice a k cap,.int .i64 1,.int .i64 r,.int .i64 1,.int .i64 (-1),.int .i64 (-1)] (0,0) _ (al2 _ _ _) Tryz.underlying43 rfl (by kernel_rfl) ?_))
  | (with_reducible (show wpList _ _ _ (⟨_,.load 43 (.tmp 13),_,_,_,none⟩ :: _) _ _);go_must (refine wpList_load_row rfl 43 _ rfl (w2.heap.size+1) (by simp [Act.eval,Act.put]) 43 #[.int .i64 (-1),.slice none 0 0,.int .i64 (-1),.int .i64 0,.int .i64 (-1),.int .i64 4,.int .i64 (-1)] (0,0) _ (al3 _ _ _ _) Tryz.underlying43 rfl (by kernel_rfl) ?_))
  | (with_reducible (show wpList _ _ _ (⟨_,.store 43 (.tmp 14) _,_,_,_,none⟩ :: _) _ _);go_must (refine wpList_store_new rfl 43 _ _ rfl ((w2.alloc (.cells #[.int .i64 3,.slice a k cap,.int .i64 1,.int .i64 r,.int .i64 1,.int .i64 (-1),.int .i64 (-1)] 43)).alloc (.cells #[.int .i64 (-1),.slice none 0 0,.int .i64 (-1),.int .i64 0,.int .i64 (-1),.int .i64 4,.int .i64 (-1)] 43)) _ #[.int .i64 3,.slice a k cap,.int .i64 1,.int .i64 r,.int .i64 1,.int .i64 (-1),.int .i64 (-1)] 43 (by simp [Act.eval]) rfl (by kernel_rfl) rfl (by simp [Value.oneCell']) ?_))
  | (with_reducible (show wpList _ _ _ (⟨_,.store 43 (.tmp 15) _,_,_,_,none⟩ :: _) _ _);go_must (refine wpList_store_new rfl 43 _ _ rfl (((w2.alloc (.cells #[.int .i64 3,.slice a k cap,.int .i64 1,.int .i64 r,.int .i64 1,.int .i64 (-1),.int .i64 (-1)] 43)).alloc (.cells #[.int .i64 (-1),.slice none 0 0,.int .i64 (-1),.int .i64 0,.int .i64 (-1),.int .i64 4,.int .i64 (-1)] 43)).alloc (.cells #[.int .i64 3,.slice a k cap,.int .i64 1,.int .i64 r,.int .i64 1,.int .i64 (-1),.int .i64 (-1)] 43)) _ #[.int .i64 (-1),.slice none 0 0,.int .i64 (-1),.int .i64 0,.int .i64 (-1),.int .i64 4,.int .i64 (-1)] 43 (by simp [Act.eval]) rfl (by kernel_rfl) rfl (by simp [Value.oneCell']) ?_)))
 have hbw:Below w2.heap.size w2 ((((w2.alloc (.cells #[.int .i64 3,.slice a k cap,.int .i64 1,.int .i64 r,.int .i64 1,.int .i64 (-1),.int .i64 (-1)] 43)).alloc (.cells #[.int .i64 (-1),.slice none 0 0,.int .i64 (-1),.int .i64 0,.int .i64 (-1),.int .i64 4,.int .i64 (-1)] 43)).alloc (.cells #[.int .i64 3,.slice a k cap,.int .i64 1,.int .i64 r,.int .i64 1,.int .i64 (-1),.int .i64 (-1)] 43)).alloc (.cells #[.int .i64 (-1),.slice none 0 0,.int .i64 (-1),.int .i64 0,.int .i64 (-1),.int .i64 4,.int .i64 (-1)] 43)):=((((Below.refl _ w2).alloc (Nat.le_refl _) _).alloc (by simp only [size_alloc];omega) _).alloc (by simp only [size_alloc];omega) _).alloc (by simp only [size_alloc];omega) _
 have hq:=al4 w2 (.cells #[.int .i64 3,.slice a k cap,.int .i64 1,.int .i64 r,.int .i64 1,.int .i64 (-1),.int .i64 (-1)] 43) (.cells #[.int .i64 (-1),.slice none 0 0,.int .i64 (-1),.int .i64 0,.int .i64 (-1),.int .i64 4,.int .i64 (-1)] 43) (.cells #[.int .i64 3,.slice a k cap,.int .i64 1,.int .i64 r,.int .i64 1,.int .i64 (-1),.int .i64 (-1)] 43) (.cells #[.int .i64 (-1),.slice none 0 0,.int .i64 (-1),.int .i64 0,.int .i64 (-1),.int .i64 4,.int .i64 (-1)] 43)
 obtain ⟨wx,hwx⟩:∃ wx,((((w2.alloc (.cells #[.int .i64 3,.slice a k cap,.int .i64 1,.int .i64 r,.int .i64 1,.int .i64 (-1),.int .i64 (-1)] 43)).alloc (.cells #[.int .i64 (-1),.slice none 0 0,.int .i64 (-1),.int .i64 0,.int .i64 (-1),.int .i64 4,.int .i64 (-1)] 43)).alloc (.cells #[.int .i64 3,.slice a k cap,.int .i64 1,.int .i64 r,.int .i64 1,.int .i64 (-1),.int .i64 (-1)] 43)).alloc (.cells #[.int .i64 (-1),.slice none 0 0,.int .i64 (-1),.int .i64 0,.int .i64 (-1),.int .i64 4,.int .i64 (-1)] 43))=wx:=⟨_,rfl⟩
 rw [hwx] at hbw hq
 rw [hwx]
 clear hwx
 have iK1:=(HW.out.1.below (by omega) HB1.out).take4 HW.out.2.2.1 (HL.out ▸ HK.out.2.1)
 rw [HL.out] at iK1
 have HX:=hid (And.intro hbw (And.intro hq iK1))
 have KX:=HB2.out.2.below A hbw
 have LX:=hid (HB2.out.2.lt A)
 have HT:=hid (show (RK.new 2 twT twQ twL).up=tw0 from rfl)
 rw [HT.out] at KX
 have EC:msV (mtC l r) a cap=.agg #[.int .i64 3,.slice a k cap,.int .i64 1,.int .i64 r,.int .i64 1,.int .i64 (-1),.int .i64 (-1)]:=by
  show Value.agg #[.int .i64 3,.slice a l.length cap,.int .i64 1,.int .i64 r,.int .i64 1,.int .i64 (-1),.int .i64 (-1)]=_
  rw [HK.out.2.1]
 have EW:msV mtW none 0=.agg #[.int .i64 (-1),.slice none 0 0,.int .i64 (-1),.int .i64 0,.int .i64 (-1),.int .i64 4,.int .i64 (-1)]:=rfl
 have HE:=hid (And.intro EC EW)
 clear hbw hq iK1 EC EW
 have C4:=hid (ks_current A KX)
 rw [show tw0.cur=0 by kernel_rfl] at C4
 clear KX
 refine C4.out.mono ?_
 rintro e w4 ⟨rfl,B4,K4⟩
 have C5:=hid (ks_ipc A K4 (by omega) (mtC l r) a cap (by show Inl w4 1 (.slice a l.length cap) _;rw [HK.out.2.1];exact HX.out.2.2.below (by omega) K4.bel) (fun i hk hS=>by have h1:inBlock (.slice a l.length cap)=some i:=hk;rw [HK.out.2.1] at h1;have:=HX.out.2.2.inltK (by omega) h1;have:=K4.new i hS;omega))
 rw [HE.out.1,mf_ipc1 (by have:=HK.out.2.1;omega) HW.out.2.2.2.2.2.2] at C5
 have zx:=HX.out.2.1.2.2.2.2
 have q14:=(B4.block _ (by omega)).trans HX.out.2.1.2.2.1
 have q15:=(B4.block _ zx).trans HX.out.2.1.2.2.2.1
 have z4:=B4.size
 have HQ4:=hid (And.intro q15 (Nat.lt_of_lt_of_le zx z4))
 clear K4 B4 q15 zx z4
 go_wp2_with (with_reducible (show wpList _ _ _ (⟨_,.load 43 (.tmp 14),_,_,_,none⟩ :: _) _ _);go_must (refine wpList_load_row rfl 43 _ rfl (w2.heap.size+1+1) (by simp [Act.eval]) 43 #[.int .i64 3,.slice a k cap,.int .i64 1,.int .i64 r,.int .i64 1,.int .i64 (-1),.int .i64 (-1)] (0,0) _ q14 Tryz.underlying43 rfl (by kernel_rfl) ?_))
 refine C5.out.mono ?_
 rintro e w5 ⟨rfl,S5,K5,o5,F5⟩
 have q15:=(F5.block _ HQ4.out.2 (fun hS=>by have:=LX.out _ hS;omega)).trans HQ4.out.1
 have HQ5:=hid (And.intro q15 (Nat.lt_of_lt_of_le HQ4.out.2 F5.size))
 have C6:=hid (ks_current A K5)
 rw [show (mf2 l r).cur=1 by kernel_rfl] at C6
 clear K5 o5 F5 q15 q14
 go_wp2_with fail
 refine C6.out.mono ?_
 rintro e w6 ⟨rfl,B6,K6⟩
 have q15:=(B6.block _ HQ5.out.2).trans HQ5.out.1
 have C7:=hid (ks_ipc A K6 (by omega) mtW none 0 (inl_nil w6) (fun k hk=>by simp [inBlock] at hk))
 rw [HE.out.2,mf_ipc2 HW.out.2.2.2.2.2.2] at C7
 clear K6 B6
 go_wp2_with (with_reducible (show wpList _ _ _ (⟨_,.load 43 (.tmp 15),_,_,_,none⟩ :: _) _ _);go_must (refine wpList_load_row rfl 43 _ rfl (w2.heap.size+1+1+1) (by simp [Act.eval]) 43 #[.int .i64 (-1),.slice none 0 0,.int .i64 (-1),.int .i64 0,.int .i64 (-1),.int .i64 4,.int .i64 (-1)] (0,0) _ q15 Tryz.underlying43 rfl (by kernel_rfl) ?_))
 refine C7.out.mono ?_
 rintro e w7 ⟨rfl,S7,K7,o7,F7⟩
 clear o7 F7 q15
 have S8:=hid (short_any ab mb cb bs w7 ((HW.out.2.1.below (by omega) HB1.out).below (by omega) K7.bel) HW.out.2.2.2.1 HW.out.2.2.2.2.2.1)
 have HK7:=hid K7
 clear K7
 go_wp2_with fail
 refine S8.out.mono ?_
 rintro e w8 ⟨k2,rfl,hk2,lk2,iK2,hw⟩
 have hw:=hw.symm
 subst hw
 have iK3:=(HW.out.2.1.below (by omega) HB1.out).take4 HW.out.2.2.2.1 lk2
 have C9:=hid (heard_any A HK7.out (by omega) l (bs.take 4) r (mf_heard HW.out.2.2.2.2.2.2) HW.out.2.2.2.2.2.2 a ab k cap k2 cb HX.out.2.2 iK3 HK.out.2.1 lk2 (by rw [<- lk2];simp;omega) lk4)
 clear iK3 iK2 lk2 hk2
 go_wp2_with fail
 refine C9.out.mono ?_
 rintro e w9 ⟨rfl,B9⟩
 have HB9:=hid B9
 clear B9
 go_wp2_with fail
 go_ret
 exact ⟨rfl,HB1.out.trans (HB9.out.mono HB1.out.size)⟩
include A in
theorem met_yield (ws bs:List Int) (r0:Int) (a ab:Option Addr) (m cap mb cb:Nat) (w:World) (hg:Gl w) (h1:-9223372036854775808<=r0) (h2:r0<=9223372036854775807) (iW:Inl w 1 (.slice a m cap) (ws.map lnI)) (iB:Inl w 1 (.slice ab mb cb) (bs.map lnI)) (lW:ws.length=m) (lB:bs.length=mb) (cW:m<=cap) (cB:mb<=cb) :
  Calls Tryz.prog 8 #[.slice a m cap,.slice ab mb cb,.bool true,.int .i64 r0] w fun e w'=>e=.returned (.bool true)/\Below w.heap.size w w':=by
 have P1:=fun w=>pickK_any r0 3 w h1 h2 (by omega) (by omega)
 obtain ⟨r,hr0⟩:∃ r,1+pickI r0 3=r:=⟨_,rfl⟩
 have hr1:1<=r:=by have:=pickI_in r0 (n:=3) (by omega);omega
 have hr3:r<=3:=by have:=pickI_in r0 (n:=3) (by omega);omega
 have hr:r=1\/r=2\/r=3:=by have:=pickI_in r0 (n:=3) (by omega);omega
 have HW:=hid (And.intro iW (And.intro iB (And.intro lW (And.intro lB (And.intro cW (And.intro cB hr))))))
 have HP:=hid P1
 clear P1 h1 h2 iW iB lW lB cW cB hr
 go_enter Tryz.func8,Tryz.ntmps8
 go_wp2_with fail
 refine (two_any w).mono ?_
 rintro e w1 ⟨b1,b2,b3,rfl,i1,i2,i3,B1⟩
 have C2:=hid (boot_any A 2 _ _ _ _ _ _ _ _ _ twT twQ twL w1 (hg.below B1) i1 i2 i3 fits_tw 0)
 have HB1:=hid B1
 clear i1 i2 i3 B1 hg
 go_wp2_with fail
 refine C2.out.mono ?_
 rintro e w2 ⟨x,S2,rfl,K2,B2⟩
 have S3:=hid (short_any a m cap ws w2 ((HW.out.1.below (by omega) HB1.out).below (by omega) (B2.mono (HB1.out.size |> fun _=>Nat.le_refl _))) HW.out.2.2.1 HW.out.2.2.2.2.1)
 have HB2:=hid (And.intro B2 K2)
 clear B2 K2
 go_wp2_with fail
 refine S3.out.mono ?_
 rintro e w3 ⟨k,rfl,hk,lk,iK,hw⟩
 have hw:=hw.symm
 subst hw
 have HK:=hid (And.intro hk (And.intro lk iK))
 obtain ⟨l,hl⟩:∃ l,ws.take 4=l:=⟨_,rfl⟩
 have HL:=hid hl
 rw [hl] at HK
 have lk4:k<=4:=by have:=HK.out.2.1;rw [<- hl] at this;simp at this;omega
 clear hk lk iK S3 C2 hl
 go_wp2_with (first
  | (go_at_call 16;refine (HP.out _).mono ?_;rintro e w3 ⟨rfl,hw⟩;have hw:=hw.symm;subst hw)
  | (with_reducible (show wpList _ _ _ (⟨_,.store 43 (.tmp 12) _,_,_,_,none⟩ :: _) _ _);go_must (refine wpList_store_new rfl 43 _ _ rfl w2 _ #[.int .i64 3,.slice a k cap,.int .i64 1,.int .i64 r,.int .i64 1,.int .i64 (-1),.int .i64 (-1)] 43 (by simp [Act.eval]) rfl (by kernel_rfl) rfl (by simp [Value.oneCell']) ?_))
  | (with_reducible (show wpList _ _ _ (⟨_,.store 43 (.tmp 13) _,_,_,_,none⟩ :: _) _ _);go_must (refine wpList_store_new rfl 43 _ _ rfl (w2.alloc (.cells #[.int .i64 3,.slice a k cap,.int .i64 1,.int .i64 r,.int .i64 1,.int .i64 (-1),.int .i64 (-1)] 43)) _ #[.int .i64 (-1),.slice none 0 0,.int .i64 (-1),.int .i64 0,.int .i64 (-1),.int .i64 4,.int .i64 (-1)] 43 (by simp [Act.eval]) rfl (by kernel_rfl) rfl (by simp [Value.oneCell']) ?_))
  | (with_reducible (show wpList _ _ _ (⟨_,.load 43 (.tmp 12),_,_,_,none⟩ :: _) _ _);go_must (refine wpList_load_row rfl 43 _ rfl w2.heap.size (by simp [Act.eval,Act.put]) 43 #[.int .i64 3,.slice a k cap,.int .i64 1,.int .i64 r,.int .i64 1,.int .i64 (-1),.int .i64 (-1)] (0,0) _ (al2 _ _ _) Tryz.underlying43 rfl (by kernel_rfl) ?_))
  | (with_reducible (show wpList _ _ _ (⟨_,.load 43 (.tmp 13),_,_,_,none⟩ :: _) _ _);go_must (refine wpList_load_row rfl 43 _ rfl (w2.heap.size+1) (by simp [Act.eval,Act.put]) 43 #[.int .i64 (-1),.slice none 0 0,.int .i64 (-1),.int .i64 0,.int .i64 (-1),.int .i64 4,.int .i64 (-1)] (0,0) _ (al3 _ _ _ _) Tryz.underlying43 rfl (by kernel_rfl) ?_))
  | (with_reducible (show wpList _ _ _ (⟨_,.store 43 (.tmp 14) _,_,_,_,none⟩ :: _) _ _);go_must (refine wpList_store_new rfl 43 _ _ rfl ((w2.alloc (.cells #[.int .i64 3,.slice a k cap,.int .i64 1,.int .i64 r,.int .i64 1,.int .i64 (-1),.int .i64 (-1)] 43)).alloc (.cells #[.int .i64 (-1),.slice none 0 0,.int .i64 (-1),.int .i64 0,.int .i64 (-1),.int .i64 4,.int .i64 (-1)] 43)) _ #[.int .i64 3,.slice a k cap,.int .i64 1,.int .i64 r,.int .i64 1,.int .i64 (-1),.int .i64 (-1)] 43 (by simp [Act.eval]) rfl (by kernel_rfl) rfl (by simp [Value.oneCell']) ?_))
  | (with_reducible (show wpList _ _ _ (⟨_,.store 43 (.tmp 15) _,_,_,_,none⟩ :: _) _ _);go_must (refine wpList_store_new rfl 43 _ _ rfl (((w2.alloc (.cells #[.int .i64 3,.slice a k cap,.int .i64 1,.int .i64 r,.int .i64 1,.int .i64 (-1),.int .i64 (-1)] 43)).alloc (.cells #[.int .i64 (-1),.slice none 0 0,.int .i64 (-1),.int .i64 0,.int .i64 (-1),.int .i64 4,.int .i64 (-1)] 43)).alloc (.cells #[.int .i64 3,.slice a k cap,.int .i64 1,.int .i64 r,.int .i64 1,.int .i64 (-1),.int .i64 (-1)] 43)) _ #[.int .i64 (-1),.slice none 0 0,.int .i64 (-1),.int .i64 0,.int .i64 (-1),.int .i64 4,.int .i64 (-1)] 43 (by simp [Act.eval]) rfl (by kernel_rfl) rfl (by simp [Value.oneCell']) ?_)))
 have hbw:Below w2.heap.size w2 ((((w2.alloc (.cells #[.int .i64 3,.slice a k cap,.int .i64 1,.int .i64 r,.int .i64 1,.int .i64 (-1),.int .i64 (-1)] 43)).alloc (.cells #[.int .i64 (-1),.slice none 0 0,.int .i64 (-1),.int .i64 0,.int .i64 (-1),.int .i64 4,.int .i64 (-1)] 43)).alloc (.cells #[.int .i64 3,.slice a k cap,.int .i64 1,.int .i64 r,.int .i64 1,.int .i64 (-1),.int .i64 (-1)] 43)).alloc (.cells #[.int .i64 (-1),.slice none 0 0,.int .i64 (-1),.int .i64 0,.int .i64 (-1),.int .i64 4,.int .i64 (-1)] 43)):=((((Below.refl _ w2).alloc (Nat.le_refl _) _).alloc (by simp only [size_alloc];omega) _).alloc (by simp only [size_alloc];omega) _).alloc (by simp only [size_alloc];omega) _
 have hq:=al4 w2 (.cells #[.int .i64 3,.slice a k cap,.int .i64 1,.int .i64 r,.int .i64 1,.int .i64 (-1),.int .i64 (-1)] 43) (.cells #[.int .i64 (-1),.slice none 0 0,.int .i64 (-1),.int .i64 0,.int .i64 (-1),.int .i64 4,.int .i64 (-1)] 43) (.cells #[.int .i64 3,.slice a k cap,.int .i64 1,.int .i64 r,.int .i64 1,.int .i64 (-1),.int .i64 (-1)] 43) (.cells #[.int .i64 (-1),.slice none 0 0,.int .i64 (-1),.int .i64 0,.int .i64 (-1),.int .i64 4,.int .i64 (-1)] 43)
 obtain ⟨wx,hwx⟩:∃ wx,((((w2.alloc (.cells #[.int .i64 3,.slice a k cap,.int .i64 1,.int .i64 r,.int .i64 1,.int .i64 (-1),.int .i64 (-1)] 43)).alloc (.cells #[.int .i64 (-1),.slice none 0 0,.int .i64 (-1),.int .i64 0,.int .i64 (-1),.int .i64 4,.int .i64 (-1)] 43)).alloc (.cells #[.int .i64 3,.slice a k cap,.int .i64 1,.int .i64 r,.int .i64 1,.int .i64 (-1),.int .i64 (-1)] 43)).alloc (.cells #[.int .i64 (-1),.slice none 0 0,.int .i64 (-1),.int .i64 0,.int .i64 (-1),.int .i64 4,.int .i64 (-1)] 43))=wx:=⟨_,rfl⟩
 rw [hwx] at hbw hq
 rw [hwx]
 clear hwx
 have iK1:=(HW.out.1.below (by omega) HB1.out).take4 HW.out.2.2.1 (HL.out ▸ HK.out.2.1)
 rw [HL.out] at iK1
 have HX:=hid (And.intro hbw (And.intro hq iK1))
 have KX:=HB2.out.2.below A hbw
 have LX:=hid (HB2.out.2.lt A)
 have HT:=hid (show (RK.new 2 twT twQ twL).up=tw0 from rfl)
 rw [HT.out] at KX
 have EC:msV (mtC l r) a cap=.agg #[.int .i64 3,.slice a k cap,.int .i64 1,.int .i64 r,.int .i64 1,.int .i64 (-1),.int .i64 (-1)]:=by
  show Value.agg #[.int .i64 3,.slice a l.length cap,.int .i64 1,.int .i64 r,.int .i64 1,.int .i64 (-1),.int .i64 (-1)]=_
  rw [HK.out.2.1]
 have EW:msV mtW none 0=.agg #[.int .i64 (-1),.slice none 0 0,.int .i64 (-1),.int .i64 0,.int .i64 (-1),.int .i64 4,.int .i64 (-1)]:=rfl
 have HE:=hid (And.intro EC EW)
 clear hbw hq iK1 EC EW
 have C4:=hid (ks_yield A KX (by omega))
 rw [show tw0.yield.1=0 by kernel_rfl,show tw0.yield.2=my0 by kernel_rfl] at C4
 clear KX
 refine C4.out.mono ?_
 rintro e w4 ⟨rfl,S4,K4,o4,F4⟩
 have zx:=HX.out.2.1.2.2.2.2
 have z4:(w2.heap.size+1+1+1) < w4.heap.size:=by have:=F4.size;omega
 have n4:∀ i,S4 i->i < w2.heap.size\/(w2.heap.size+1+1+1) < i:=fun i hi=>by
  rcases o4 i hi with g | g
  ·exact .inl (LX.out _ g)
  ·right;omega
 have p12:=(F4.block w2.heap.size (by omega) (fun hS=>by have:=LX.out _ hS;omega)).trans HX.out.2.1.1
 have p13:=(F4.block (w2.heap.size+1) (by omega) (fun hS=>by have:=LX.out _ hS;omega)).trans HX.out.2.1.2.1
 have p14:=(F4.block (w2.heap.size+1+1) (by omega) (fun hS=>by have:=LX.out _ hS;omega)).trans HX.out.2.1.2.2.1
 have p15:=(F4.block (w2.heap.size+1+1+1) (by omega) (fun hS=>by have:=LX.out _ hS;omega)).trans HX.out.2.1.2.2.2.1
 have s14:=setRow_heap w4 (w2.heap.size+1+1) _ #[.int .i64 (-1),.slice none 0 0,.int .i64 (-1),.int .i64 0,.int .i64 (-1),.int .i64 4,.int .i64 (-1)] 43 (0,0) p14
 have D1:Fr (fun k=>k=(w2.heap.size+1+1)) w4 (w4.setRow (w2.heap.size+1+1) #[.int .i64 (-1),.slice none 0 0,.int .i64 (-1),.int .i64 0,.int .i64 (-1),.int .i64 4,.int .i64 (-1)]):=(Fr.refl (fun k=>k=(w2.heap.size+1+1)) _).setRow (fun _=>rfl) _
 have r12:=(D1.block w2.heap.size (by omega) (by omega)).trans p12
 have r15:=(D1.block (w2.heap.size+1+1+1) (by omega) (by omega)).trans p15
 have s15:=setRow_heap (w4.setRow (w2.heap.size+1+1) #[.int .i64 (-1),.slice none 0 0,.int .i64 (-1),.int .i64 0,.int .i64 (-1),.int .i64 4,.int .i64 (-1)]) (w2.heap.size+1+1+1) _ #[.int .i64 3,.slice a k cap,.int .i64 1,.int .i64 r,.int .i64 1,.int .i64 (-1),.int .i64 (-1)] 43 (0,0) r15
 have D2:Fr (fun k=>k=(w2.heap.size+1+1+1)) (w4.setRow (w2.heap.size+1+1) #[.int .i64 (-1),.slice none 0 0,.int .i64 (-1),.int .i64 0,.int .i64 (-1),.int .i64 4,.int .i64 (-1)]) ((w4.setRow (w2.heap.size+1+1) #[.int .i64 (-1),.slice none 0 0,.int .i64 (-1),.int .i64 0,.int .i64 (-1),.int .i64 4,.int .i64 (-1)]).setRow (w2.heap.size+1+1+1) #[.int .i64 3,.slice a k cap,.int .i64 1,.int .i64 r,.int .i64 1,.int .i64 (-1),.int .i64 (-1)]):=(Fr.refl (fun k=>k=(w2.heap.size+1+1+1)) _).setRow (fun _=>rfl) _
 have zd:w4.heap.size<=(w4.setRow (w2.heap.size+1+1) #[.int .i64 (-1),.slice none 0 0,.int .i64 (-1),.int .i64 0,.int .i64 (-1),.int .i64 4,.int .i64 (-1)]).heap.size:=D1.size
 have s14':=(D2.block (w2.heap.size+1+1) (by omega) (by omega)).trans s14
 have K4':=(K4.fr A D1 (fun i hi e=>by have:=n4 i hi;omega) (fun i e=>by have:=HB2.out.1.size;omega)).fr A D2 (fun i hi e=>by have:=n4 i hi;omega) (fun i e=>by have:=HB2.out.1.size;omega)
 have zz:w4.heap.size<=((w4.setRow (w2.heap.size+1+1) #[.int .i64 (-1),.slice none 0 0,.int .i64 (-1),.int .i64 0,.int .i64 (-1),.int .i64 4,.int .i64 (-1)]).setRow (w2.heap.size+1+1+1) #[.int .i64 3,.slice a k cap,.int .i64 1,.int .i64 r,.int .i64 1,.int .i64 (-1),.int .i64 (-1)]).heap.size:=Nat.le_trans zd D2.size
 have HY:=hid (And.intro K4' (And.intro s14' (And.intro s15 (And.intro (Nat.lt_of_lt_of_le z4 zz) n4))))
 clear K4 K4' s14 s14' s15 D1 D2 zd zz F4 o4 n4 zx z4
 go_wp2_with (first
  | (with_reducible (show wpList _ _ _ (⟨_,.load 43 (.tmp 13),_,_,_,none⟩ :: _) _ _);go_must (refine wpList_load_row rfl 43 _ rfl (w2.heap.size+1) (by simp [Act.eval]) 43 #[.int .i64 (-1),.slice none 0 0,.int .i64 (-1),.int .i64 0,.int .i64 (-1),.int .i64 4,.int .i64 (-1)] (0,0) _ p13 Tryz.underlying43 rfl (by kernel_rfl) ?_))
  | (with_reducible (show wpList _ _ _ (⟨_,.store 43 (.tmp 14) _,_,_,_,none⟩ :: _) _ _);go_must (refine wpList_store_row rfl 43 _ _ rfl (w2.heap.size+1+1) #[.int .i64 (-1),.slice none 0 0,.int .i64 (-1),.int .i64 0,.int .i64 (-1),.int .i64 4,.int .i64 (-1)] (by simp [Act.eval,Act.put]) rfl 43 _ p14 (by kernel_rfl) rfl (by simp [Value.oneCell']) ?_))
  | (with_reducible (show wpList _ _ _ (⟨_,.load 43 (.tmp 12),_,_,_,none⟩ :: _) _ _);go_must (refine wpList_load_row rfl 43 _ rfl w2.heap.size (by simp [Act.eval,Act.put]) 43 #[.int .i64 3,.slice a k cap,.int .i64 1,.int .i64 r,.int .i64 1,.int .i64 (-1),.int .i64 (-1)] (0,0) _ r12 Tryz.underlying43 rfl (by kernel_rfl) ?_))
  | (with_reducible (show wpList _ _ _ (⟨_,.store 43 (.tmp 15) _,_,_,_,none⟩ :: _) _ _);go_must (refine wpList_store_row rfl 43 _ _ rfl (w2.heap.size+1+1+1) #[.int .i64 3,.slice a k cap,.int .i64 1,.int .i64 r,.int .i64 1,.int .i64 (-1),.int .i64 (-1)] (by simp [Act.eval,Act.put]) rfl 43 _ r15 (by kernel_rfl) rfl (by simp [Value.oneCell']) ?_)))
 clear p12 p13 p14 p15 r12 r15
 obtain ⟨wy,hwy⟩:∃ wy,(w4.setRow (w2.heap.size+1+1) #[.int .i64 (-1),.slice none 0 0,.int .i64 (-1),.int .i64 0,.int .i64 (-1),.int .i64 4,.int .i64 (-1)]).setRow (w2.heap.size+1+1+1) #[.int .i64 3,.slice a k cap,.int .i64 1,.int .i64 r,.int .i64 1,.int .i64 (-1),.int .i64 (-1)]=wy:=⟨_,rfl⟩
 rw [hwy] at HY
 rw [hwy]
 clear hwy
 have C4:=hid (ks_current A HY.out.1)
 rw [show my0.cur=1 by kernel_rfl] at C4
 refine C4.out.mono ?_
 rintro e w4 ⟨rfl,B4,K4⟩
 have C5:=hid (ks_ipc A K4 (by omega) mtW none 0 (inl_nil w4) (fun k hk=>by simp [inBlock] at hk))
 rw [HE.out.2,my_ipc1] at C5
 have q14:=(B4.block _ (by have:=HY.out.2.2.2.1;omega)).trans HY.out.2.1
 have q15:=(B4.block _ HY.out.2.2.2.1).trans HY.out.2.2.1
 have z4:=B4.size
 have HQ4:=hid (And.intro q15 (Nat.lt_of_lt_of_le HY.out.2.2.2.1 z4))
 clear K4 B4 q15 z4
 go_wp2_with (with_reducible (show wpList _ _ _ (⟨_,.load 43 (.tmp 14),_,_,_,none⟩ :: _) _ _);go_must (refine wpList_load_row rfl 43 _ rfl (w2.heap.size+1+1) (by simp [Act.eval]) 43 #[.int .i64 (-1),.slice none 0 0,.int .i64 (-1),.int .i64 0,.int .i64 (-1),.int .i64 4,.int .i64 (-1)] (0,0) _ q14 Tryz.underlying43 rfl (by kernel_rfl) ?_))
 refine C5.out.mono ?_
 rintro e w5 ⟨rfl,S5,K5,o5,F5⟩
 have q15:=(F5.block _ HQ4.out.2 (fun hS=>by have:=HY.out.2.2.2.2 _ hS;omega)).trans HQ4.out.1
 have HQ5:=hid (And.intro q15 (Nat.lt_of_lt_of_le HQ4.out.2 F5.size))
 have C6:=hid (ks_current A K5)
 rw [show my1.cur=0 by kernel_rfl] at C6
 clear K5 o5 F5 q15 q14
 go_wp2_with fail
 refine C6.out.mono ?_
 rintro e w6 ⟨rfl,B6,K6⟩
 have q15:=(B6.block _ HQ5.out.2).trans HQ5.out.1
 have C7:=hid (ks_ipc A K6 (by omega) (mtC l r) a cap (by show Inl w6 1 (.slice a l.length cap) _;rw [HK.out.2.1];exact HX.out.2.2.below (by omega) K6.bel) (fun i hk hS=>by have h1:inBlock (.slice a l.length cap)=some i:=hk;rw [HK.out.2.1] at h1;have:=HX.out.2.2.inltK (by omega) h1;have:=K6.new i hS;omega))
 rw [HE.out.1,my_ipc2 (by have:=HK.out.2.1;omega) HW.out.2.2.2.2.2.2] at C7
 clear K6 B6
 go_wp2_with (with_reducible (show wpList _ _ _ (⟨_,.load 43 (.tmp 15),_,_,_,none⟩ :: _) _ _);go_must (refine wpList_load_row rfl 43 _ rfl (w2.heap.size+1+1+1) (by simp [Act.eval]) 43 #[.int .i64 3,.slice a k cap,.int .i64 1,.int .i64 r,.int .i64 1,.int .i64 (-1),.int .i64 (-1)] (0,0) _ q15 Tryz.underlying43 rfl (by kernel_rfl) ?_))
 refine C7.out.mono ?_
 rintro e w7 ⟨rfl,S7,K7,o7,F7⟩
 clear o7 F7 q15
 have S8:=hid (short_any ab mb cb bs w7 ((HW.out.2.1.below (by omega) HB1.out).below (by omega) K7.bel) HW.out.2.2.2.1 HW.out.2.2.2.2.2.1)
 have HK7:=hid K7
 clear K7
 go_wp2_with fail
 refine S8.out.mono ?_
 rintro e w8 ⟨k2,rfl,hk2,lk2,iK2,hw⟩
 have hw:=hw.symm
 subst hw
 have iK3:=(HW.out.2.1.below (by omega) HB1.out).take4 HW.out.2.2.2.1 lk2
 have C9:=hid (heard_any A HK7.out (by omega) l (bs.take 4) r (my_heard HW.out.2.2.2.2.2.2) HW.out.2.2.2.2.2.2 a ab k cap k2 cb HX.out.2.2 iK3 HK.out.2.1 lk2 (by rw [<- lk2];simp;omega) lk4)
 clear iK3 iK2 lk2 hk2
 go_wp2_with fail
 refine C9.out.mono ?_
 rintro e w9 ⟨rfl,B9⟩
 have HB9:=hid B9
 clear B9
 go_wp2_with fail
 go_ret
 exact ⟨rfl,HB1.out.trans (HB9.out.mono HB1.out.size)⟩
end
open Go.RowKit
theorem cur2b {K:RM}{a b:Th}(ht:K.threads=[a,b]) (hb:b.st=1) (h:a.st≠1\/(a.row=b.row/\b.ord < a.ord)):K.cur=1:=by
 show curM K.threads K.threads.length=_
 rw [ht]
 show curStep [a,b] (curStep [a,b] (-1) 0) 1=1
 by_cases ha:a.st=1
 ·have h2:a.row=b.row/\b.ord < a.ord:=by
   rcases h with h | h
   ·exact absurd ha h
   ·exact h
  have e1:curStep [a,b] (-1) 0=0:=by simp [curStep,ha]
  rw [e1]
  simp [curStep,hb,h2]
 ·have e1:curStep [a,b] (-1) 0=-1:=by simp [curStep,ha]
  rw [e1]
  simp [curStep,hb]
theorem cur2a {K:RM}{a b:Th}(ht:K.threads=[a,b]) (ha:a.st=1) (h:a.row=b.row/\a.ord < b.ord):K.cur=0:=by
 show curM K.threads K.threads.length=_
 rw [ht]
 show curStep [a,b] (curStep [a,b] (-1) 0) 1=0
 have e1:curStep [a,b] (-1) 0=0:=by simp [curStep,ha]
 rw [e1]
 have:¬ (a.row < b.row\/(b.row=a.row/\b.ord < a.ord)):=by omega
 by_cases hb:b.st=1
 ·simp [curStep,hb];omega
 ·simp [curStep,hb]
theorem spent0 {K:RM} {a b:Th} (ht:K.threads=[a,b]) (hc:K.cur=0):∃ l o L,K.spent={ K with threads:=[{ a with left:=l,ord:=o },b],last:=L }/\((o=a.ord/\L=K.last)\/(o=K.last/\L=K.last+1)):=by
 have e:K.spent=if a.left-1=0 then (K.setLeft 0 3).toLast 0 else K.setLeft 0 (a.left-1):=by
  unfold RM.spent
  rw [hc,ht]
  rfl
 rw [e]
 by_cases h:a.left-1=0
 ·rw [if_pos h]
  exact ⟨3,K.last,K.last+1,by simp [RM.setLeft,RM.toLast,RM.upd,ht],.inr ⟨rfl,rfl⟩⟩
 ·rw [if_neg h]
  exact ⟨a.left-1,a.ord,K.last,by simp [RM.setLeft,RM.upd,ht],.inl ⟨rfl,rfl⟩⟩
theorem spent1 {K:RM} {a b:Th} (ht:K.threads=[a,b]) (hc:K.cur=1):∃ l o L,K.spent={ K with threads:=[a,{ b with left:=l,ord:=o }],last:=L }/\((o=b.ord/\L=K.last)\/(o=K.last/\L=K.last+1)):=by
 have e:K.spent=if b.left-1=0 then (K.setLeft 1 3).toLast 1 else K.setLeft 1 (b.left-1):=by
  unfold RM.spent
  rw [hc,ht]
  rfl
 rw [e]
 by_cases h:b.left-1=0
 ·rw [if_pos h]
  exact ⟨3,K.last,K.last+1,by simp [RM.setLeft,RM.toLast,RM.upd,ht],.inr ⟨rfl,rfl⟩⟩
 ·rw [if_neg h]
  exact ⟨b.left-1,b.ord,K.last,by simp [RM.setLeft,RM.upd,ht],.inl ⟨rfl,rfl⟩⟩
structure T2 (K:RM) (a b:Th):Prop where
 th:K.threads=[a,b]
 ps:K.passes=twQ
 asp:a.sp=0
 ar:a.row=2
 br:b.row=2
 bst:b.st=1
 bt:b.time=-1
 al:a.ord < K.last
 bl:b.ord < K.last
 clk:0<=K.clock
def Rd (K:RM):Prop:=∃ a b,T2 K a b/\a.st=1/\a.time=-1/\a.ord≠b.ord
def Wt (s T:Int) (K:RM):Prop:=∃ a b,T2 K a b/\a.st=s/\a.time=T
def Aw (K:RM):Prop:=∃ a b,T2 K a b/\a.st=1/\a.time=-1/\b.ord < a.ord/\a.code=6/\a.who=-1/\a.ws=[]
theorem Aw.rd {K:RM}(h:Aw K):Rd K:=by
 obtain ⟨a,b,t,h1,h2,h3,_⟩:=h
 exact ⟨a,b,t,h1,h2,by omega⟩
theorem Rd.cur {K:RM}(h:Rd K):K.cur=0\/K.cur=1:=by
 obtain ⟨a,b,t,h1,h2,h3⟩:=h
 by_cases g:a.ord < b.ord
 ·exact .inl (cur2a t.th h1 ⟨by rw [t.ar,t.br],g⟩)
 ·exact .inr (cur2b t.th t.bst (.inr ⟨by rw [t.ar,t.br],by omega⟩))
theorem Wt.cur {K:RM}{s T:Int}(hs:s≠1) (h:Wt s T K):K.cur=1:=by
 obtain ⟨a,b,t,h1,h2⟩:=h
 exact cur2b t.th t.bst (.inl (by omega))
theorem rd_tw0:Rd tw0:=⟨tw0.nth 0,tw0.nth 1,⟨by kernel_rfl,by kernel_rfl,by kernel_rfl,by kernel_rfl,by kernel_rfl,by kernel_rfl,by kernel_rfl,by decide,by decide,by decide⟩,by kernel_rfl,by kernel_rfl,by decide⟩
theorem Rd.tick {K:RM}(h:Rd K):Rd K.tick:=by
 have hc:=h.cur
 obtain ⟨a,b,t,h1,h2,h3⟩:=h
 have hl:K.threads.length=2:=by rw [t.th];rfl
 unfold RM.tick
 rw [hl]
 have:=t.clk
 have:=t.al
 have:=t.bl
 have:=t.bt
 rcases hc with hc | hc
 ·obtain ⟨l,o,L,e,ho⟩:=spent0 (K:=K.ticked) (a:=a) (b:=b) t.th hc
  have ho:(o=a.ord/\L=K.last)\/(o=K.last/\L=K.last+1):=ho
  rw [e,tickTo_id]
  ·exact ⟨_,_,⟨rfl,t.ps,t.asp,t.ar,t.br,t.bst,t.bt,by show o < L;omega,by show b.ord < L;omega,by show 0<=K.clock+1;omega⟩,h1,h2,by show o≠b.ord;omega⟩
  ·intro i u hu
   have hu:[{ a with left:=l,ord:=o },b][i]? = some u:=hu
   show u.time≠K.clock+1
   rcases i with _ | _ | i
   ·simp at hu;rw [<- hu];show a.time≠_;omega
   ·simp at hu;rw [<- hu];omega
   ·simp at hu
 ·obtain ⟨l,o,L,e,ho⟩:=spent1 (K:=K.ticked) (a:=a) (b:=b) t.th hc
  have ho:(o=b.ord/\L=K.last)\/(o=K.last/\L=K.last+1):=ho
  rw [e,tickTo_id]
  ·exact ⟨_,_,⟨rfl,t.ps,t.asp,t.ar,t.br,t.bst,t.bt,by show a.ord < L;omega,by show o < L;omega,by show 0<=K.clock+1;omega⟩,h1,h2,by show a.ord≠o;omega⟩
  ·intro i u hu
   have hu:[a,{ b with left:=l,ord:=o }][i]? = some u:=hu
   show u.time≠K.clock+1
   rcases i with _ | _ | i
   ·simp at hu;rw [<- hu];omega
   ·simp at hu;rw [<- hu];show b.time≠_;omega
   ·simp at hu
theorem Rd.yield {K:RM}(h:Rd K):K.yield.1=0/\Rd K.yield.2/\(K.cur≠0->K.yield.2.cur=0):=by
 have hc:=h.cur
 obtain ⟨a,b,t,h1,h2,h3⟩:=h
 have:=t.al
 have:=t.bl
 rcases hc with hc | hc
 ·have e:K.yield=(0,{ K with threads:=[{ a with left:=3,ord:=K.last },b],last:=K.last+1 }):=by
   unfold RM.yield
   rw [hc]
   show (if (0:Int) < 0 then _ else (0,(K.setLeft 0 3).toLast 0))=_
   rw [if_neg (by omega)]
   simp [RM.setLeft,RM.toLast,RM.upd,t.th]
  rw [e]
  exact ⟨rfl,⟨_,_,⟨rfl,t.ps,t.asp,t.ar,t.br,t.bst,t.bt,by show K.last < K.last+1;omega,by show b.ord < K.last+1;omega,t.clk⟩,h1,h2,by show K.last≠b.ord;omega⟩,fun q=>absurd hc q⟩
 ·have e:K.yield=(0,{ K with threads:=[a,{ b with left:=3,ord:=K.last }],last:=K.last+1 }):=by
   unfold RM.yield
   rw [hc]
   show (if (1:Int) < 0 then _ else (0,(K.setLeft 1 3).toLast 1))=_
   rw [if_neg (by omega)]
   simp [RM.setLeft,RM.toLast,RM.upd,t.th]
  rw [e]
  refine ⟨rfl,⟨_,_,⟨rfl,t.ps,t.asp,t.ar,t.br,t.bst,t.bt,by show a.ord < K.last+1;omega,by show K.last < K.last+1;omega,t.clk⟩,h1,h2,by show a.ord≠K.last;omega⟩,fun _=>?_⟩
  exact cur2a (a:=a) (b:={ b with left:=3,ord:=K.last }) rfl h1 ⟨by show a.row=b.row;rw [t.ar,t.br],by show a.ord < K.last;omega⟩
def mtT (dst t:Int):Ms:=⟨dst,[],-1,0,1,-1,t⟩
theorem rd_ipc {K:RM}{t:Int}(ht:-1<=t) (h0:t≠0) (h:Rd K) (hc:K.cur=0) :
  (∃ K',K.ipc (mtT (-1) t)=(0,K')/\Wt 3 (tim K.clock t) K'/\K'.clock=K.clock)/\(∃ K',K.ipc (mtT 3 t)=(0,K')/\Wt 2 (tim K.clock t) K'/\K'.clock=K.clock):=by
 obtain ⟨a,b,T,h1,h2,h3⟩:=h
 have hl:K.threads.length=2:=by rw [T.th];rfl
 have:=T.al
 have:=T.bl
 have m1:isMs 2 (mtT (-1) t)=true:=by simp [isMs,mtT,inI];first | omega | exact decide_eq_true (by omega)
 have m2:isMs 2 (mtT 3 t)=true:=by simp [isMs,mtT,inI];first | omega | exact decide_eq_true (by omega)
 have ea:∀ d,(K.asks 0 (mtT d t)).threads=[{ a with dst:=d,mw:=[],item:=-1,rt:=0,frm:=1,win:=-1,wait:=t },b]:=fun d=>by
  simp [RM.asks,RM.upd,T.th,mtT]
 constructor
 ·refine ⟨(K.asks 0 (mtT (-1) t)).waits 0 3 (-1),?_,?_,rfl⟩
  ·rw [ipcR (t:=0) hc (by rw [hl];exact m1) (by show (-1:Int) < 0;omega),recvW (n:=6) (x:={ a with dst:=-1,mw:=[],item:=-1,rt:=0,frm:=1,win:=-1,wait:=t }) (by rw [ea];rfl) ?_ (by show t≠0;exact h0)]
   rcases senM_inv (K.asks 0 (mtT (-1) t)).threads ((0:Nat):Int) 1 (K.asks 0 (mtT (-1) t)).threads.length (Nat.le_refl _) with e | ⟨j,u,e,hj,hu,u2,_,hf⟩
   ·show senM _ _ 1 _ < 0
    rw [e];omega
   ·exfalso
    have:j=1:=by omega
    subst this
    rw [ea] at hu
    simp at hu
    rw [<- hu,T.bst] at u2
    omega
  ·refine ⟨{ a with dst:=-1,mw:=[],item:=-1,rt:=0,frm:=1,win:=-1,wait:=t,st:=3,other:=-1,turn:=K.last,time:=tim K.clock t },b,⟨?_,T.ps,T.asp,T.ar,T.br,T.bst,T.bt,by show a.ord < K.last+1;omega,by show b.ord < K.last+1;omega,T.clk⟩,rfl,rfl⟩
   show ((K.asks 0 (mtT (-1) t)).threads).modify 0 _=_
   rw [ea]
   rfl
 ·refine ⟨((K.asks 0 (mtT 3 t)).lendsTo 0 true).waits 0 2 1,?_,?_,rfl⟩
  ·rw [ipcS (t:=0) (r:=1) (u:=a) (p:=(0,3,1,3)) hc (by rw [T.th];rfl) (by rw [hl];exact m2) (by show ¬ (3:Int) < 0;omega) (by rw [T.ps,T.asp];rfl) (by decide) (by decide),sendsW (x:=b) (by
    show ((K.asks 0 (mtT 3 t)).threads.modify 0 _)[1]? = _
    rw [ea];rfl) (by rw [T.bst];omega) (by show t≠0;exact h0)]
   rfl
  ·refine ⟨{ a with dst:=3,mw:=[],item:=-1,rt:=0,frm:=1,win:=-1,wait:=t,lends:=true,st:=2,other:=1,turn:=K.last,time:=tim K.clock t },b,⟨?_,T.ps,T.asp,T.ar,T.br,T.bst,T.bt,by show a.ord < K.last+1;omega,by show b.ord < K.last+1;omega,T.clk⟩,rfl,rfl⟩
   show (((K.asks 0 (mtT 3 t)).threads).modify 0 _).modify 0 _=_
   rw [ea]
   rfl
theorem Wt.tick {K:RM}{s T:Int}(hs:s≠1) (h:Wt s T K) (hT:T≠K.clock+1):Wt s T K.tick/\K.tick.clock=K.clock+1:=by
 have hc:=h.cur hs
 obtain ⟨a,b,t,h1,h2⟩:=h
 have hl:K.threads.length=2:=by rw [t.th];rfl
 unfold RM.tick
 rw [hl]
 have:=t.clk
 have:=t.al
 have:=t.bl
 have:=t.bt
 obtain ⟨l,o,L,e,ho⟩:=spent1 (K:=K.ticked) (a:=a) (b:=b) t.th hc
 have ho:(o=b.ord/\L=K.last)\/(o=K.last/\L=K.last+1):=ho
 rw [e,tickTo_id]
 ·exact ⟨⟨_,_,⟨rfl,t.ps,t.asp,t.ar,t.br,t.bst,t.bt,by show a.ord < L;omega,by show o < L;omega,by show 0<=K.clock+1;omega⟩,h1,h2⟩,rfl⟩
 ·intro i u hu
  have hu:[a,{ b with left:=l,ord:=o }][i]? = some u:=hu
  show u.time≠K.clock+1
  rcases i with _ | _ | i
  ·simp at hu;rw [<- hu,h2];exact hT
  ·simp at hu;rw [<- hu];show b.time≠_;omega
  ·simp at hu
theorem Wt.wake {K:RM}{s T:Int}(hs:s≠1) (h:Wt s T K) (hT:T=K.clock+1):Aw K.tick:=by
 have hc:=h.cur hs
 obtain ⟨a,b,t,h1,h2⟩:=h
 have hl:K.threads.length=2:=by rw [t.th];rfl
 unfold RM.tick
 rw [hl]
 have:=t.clk
 have:=t.al
 have:=t.bl
 have:=t.bt
 obtain ⟨l,o,L,e,ho⟩:=spent1 (K:=K.ticked) (a:=a) (b:=b) t.th hc
 have ho:(o=b.ord/\L=K.last)\/(o=K.last/\L=K.last+1):=ho
 rw [e]
 obtain ⟨K1,hK1⟩:∃ K1:RM,{ K.ticked with threads:=[a,{ b with left:=l,ord:=o }],last:=L }=K1:=⟨_,rfl⟩
 have k1:K1.threads=[a,{ b with left:=l,ord:=o }]:=by rw [<- hK1]
 have k2:K1.clock=K.clock+1:=by rw [<- hK1];rfl
 have k3:K1.last=L:=by rw [<- hK1]
 have k4:K1.passes=twQ:=by rw [<- hK1];exact t.ps
 rw [hK1]
 have t1:K1.tickTo 1=(K1.over 0 6).toLast 0:=by
  show (match K1.threads[0]? with | none=>K1 | some x=>if x.time=K1.clock then (K1.over 0 6).toLast 0 else K1)=_
  rw [k1]
  show (if a.time=K1.clock then _ else _)=_
  rw [if_pos (by rw [h2,k2,hT])]
 have tt:((K1.over 0 6).toLast 0).threads=[{ a with st:=1,time:=-1,code:=6,who:=-1,ws:=[],got:=-1,ord:=L },{ b with left:=l,ord:=o }]:=by
  simp [RM.over,RM.toLast,RM.upd,k1,k3]
 have t2:K1.tickTo 2=(K1.over 0 6).toLast 0:=by
  show (match (K1.tickTo 1).threads[1]? with | none=>K1.tickTo 1 | some x=>if x.time=(K1.tickTo 1).clock then ((K1.tickTo 1).over 1 6).toLast 1 else K1.tickTo 1)=_
  rw [t1,tt]
  show (if b.time=K1.clock then _ else _)=_
  rw [if_neg (by omega)]
 rw [t2]
 refine ⟨_,_,⟨tt,k4,t.asp,t.ar,t.br,t.bst,t.bt,?_,?_,?_⟩,rfl,rfl,?_,rfl,rfl,rfl⟩
 ·show L < K1.last+1;omega
 ·show o < K1.last+1;omega
 ·show 0<=K1.clock;omega
 ·show o < L;omega
open Go.RowKit
abbrev Blk:=Nat×Array Value×TypeId
def KG (Rep:World->Nat->(Nat->Prop)->RM->Prop) (W w:World) (x:Nat) (K:RM) (n:Nat) (L:List Blk):Prop:=
 ∃ S,KS Rep W w x S K n/\∀ p∈L,¬ S p.1/\W.heap.size<=p.1/\p.1 < w.heap.size/\w.heap[p.1]? = some (.cells p.2.1 p.2.2 (0,0))
section
variable {Rep:World->Nat->(Nat->Prop)->RM->Prop}(A:ApM Rep){W w w':World}{x:Nat}{K:RM}{n:Nat}{L:List Blk}
theorem KG.get (h:KG Rep W w x K n L){g:Nat}{C:Array Value}{t:TypeId}(hm:(g,C,t)∈L):w.heap[g]? = some (.cells C t (0,0)):=by
 obtain ⟨S,_,hL⟩:=h
 exact (hL _ hm).2.2.2
theorem KG.lt (h:KG Rep W w x K n L){p:Blk}(hm:p∈L):p.1 < w.heap.size:=by
 obtain ⟨S,_,hL⟩:=h
 exact (hL _ hm).2.2.1
theorem KG.bel (h:KG Rep W w x K n L):Below W.heap.size W w:=by
 obtain ⟨S,k,_⟩:=h
 exact k.bel
theorem KG.mono (h:KG Rep W w x K n L){m:Nat}(hm:n<=m):KG Rep W w x K m L:=by
 obtain ⟨S,k,hL⟩:=h
 exact ⟨S,k.mono hm,hL⟩
theorem KG.left {S:Nat->Prop}(_hk:KS Rep W w x S K n){K':RM}{m:Nat}(hn:KN Rep W w x S K' m w') (hL:∀ p∈L,¬ S p.1/\W.heap.size<=p.1/\p.1 < w.heap.size/\w.heap[p.1]? = some (.cells p.2.1 p.2.2 (0,0))):KG Rep W w' x K' m L:=by
 obtain ⟨S',k,ho,hf⟩:=hn
 refine ⟨S',k,fun p hp=>?_⟩
 obtain ⟨h1,h2,h3,h4⟩:=hL p hp
 refine ⟨fun hS=>?_,h2,Nat.lt_of_lt_of_le h3 hf.size,(hf.block _ h3 h1).trans h4⟩
 rcases ho _ hS with g | g
 ·exact h1 g
 ·omega
include A
theorem KG.below (h:KG Rep W w x K n L) (hb:Below w.heap.size w w'):KG Rep W w' x K n L:=by
 obtain ⟨S,k,hL⟩:=h
 refine ⟨S,k.below A hb,fun p hp=>?_⟩
 obtain ⟨h1,h2,h3,h4⟩:=hL p hp
 exact ⟨h1,h2,Nat.lt_of_lt_of_le h3 hb.size,(hb.block _ h3).trans h4⟩
theorem KG.push (h:KG Rep W w x K n L) (C:Array Value) (t:TypeId):KG Rep W (w.alloc (.cells C t)) x K n ((w.heap.size,C,t) :: L):=by
 have hb:Below w.heap.size w (w.alloc (.cells C t)):=(Below.refl _ w).alloc (Nat.le_refl _) _
 obtain ⟨S,k,hL⟩:=h
 refine ⟨S,k.below A hb,fun p hp=>?_⟩
 rcases List.mem_cons.1 hp with rfl | hp
 ·exact ⟨fun hS=>absurd (k.lt A _ hS) (Nat.lt_irrefl _),k.bel.size,by simp,heap_alloc_new w _⟩
 ·obtain ⟨h1,h2,h3,h4⟩:=hL p hp
  exact ⟨h1,h2,Nat.lt_of_lt_of_le h3 hb.size,(hb.block _ h3).trans h4⟩
theorem KG.frame (h:KG Rep W w x K n L){g:Nat}{C C':Array Value}{t:TypeId}(hm:(g,C,t)∈L) (hf:Fr (fun k=>k=g) w w') (hg:w'.heap[g]? = some (.cells C' t (0,0))){L':List Blk}(hL':∀ p∈L',p=(g,C',t)\/(p∈L/\p.1≠g)):KG Rep W w' x K n L':=by
 obtain ⟨S,k,hL⟩:=h
 have hp0:=hL _ hm
 refine ⟨S,k.fr A hf (fun b hS e=>hp0.1 (e ▸ hS)) (fun b e=>by rw [e];exact hp0.2.1),fun p hp=>?_⟩
 rcases hL' p hp with rfl | ⟨hp,ne⟩
 ·exact ⟨hp0.1,hp0.2.1,Nat.lt_of_lt_of_le hp0.2.2.1 hf.size,hg⟩
 ·obtain ⟨h1,h2,h3,h4⟩:=hL p hp
  exact ⟨h1,h2,Nat.lt_of_lt_of_le h3 hf.size,(hf.block _ h3 ne).trans h4⟩
theorem kg_current (h:KG Rep W w x K n L):Calls Tryz.prog 18 #[.pointer (some ⟨x,0,none⟩)] w fun e w'=>e=.returned (.int .i64 K.cur)/\KG Rep W w' x K n L:=by
 obtain ⟨S,k,hL⟩:=id h
 exact (ks_current A k).mono (by rintro e w' ⟨rfl,b,_⟩;exact ⟨rfl,h.below A b⟩)
theorem kg_tick (h:KG Rep W w x K n L) (hn:n<=1000000000000000):Calls Tryz.prog 19 #[.pointer (some ⟨x,0,none⟩)] w fun e w'=>e=.returned (.tuple #[])/\KG Rep W w' x K.tick (n+1) L:=by
 obtain ⟨S,k,hL⟩:=h
 exact (ks_tick A k hn).mono (by rintro e w' ⟨rfl,b⟩;exact ⟨rfl,KG.left k b hL⟩)
theorem kg_yield (h:KG Rep W w x K n L) (hn:n<=1000000000000000):Calls Tryz.prog 22 #[.pointer (some ⟨x,0,none⟩)] w fun e w'=>e=.returned (.int .i64 K.yield.1)/\KG Rep W w' x K.yield.2 (n+1) L:=by
 obtain ⟨S,k,hL⟩:=h
 exact (ks_yield A k hn).mono (by rintro e w' ⟨rfl,b⟩;exact ⟨rfl,KG.left k b hL⟩)
theorem kg_ipc0 (h:KG Rep W w x K n L) (hn:n<=1000000000000000) (m:Ms) (hm:m.words=[]):Calls Tryz.prog 23 #[.pointer (some ⟨x,0,none⟩),msV m none 0] w fun e w'=>e=.returned (.int .i64 (K.ipc m).1)/\KG Rep W w' x (K.ipc m).2 (n+1) L:=by
 obtain ⟨S,k,hL⟩:=h
 exact (ks_ipc A k hn m none 0 (by rw [hm];exact inl_nil w) (fun k hk=>by simp [inBlock] at hk)).mono (by rintro e w' ⟨rfl,b⟩;exact ⟨rfl,KG.left k b hL⟩)
theorem kg_look (h:KG Rep W w x K n L) (t:Nat) (u:Th) (hu:K.threads[t]? = some u):Calls Tryz.prog 25 #[.pointer (some ⟨x,0,none⟩),.int .i64 t] w fun e w'=>∃ a c,e=.returned (.tuple #[.agg (c5 u.st u.code u.who a u.ws.length c u.got),.bool true])/\Sl w' 2 1 (.slice a u.ws.length c) (u.ws.map lnI)/\Below w.heap.size w w'/\(∀ b,Value.ownBlock (.slice a u.ws.length c)=some b->w.heap.size<=b)/\KG Rep W w' x K n L:=by
 obtain ⟨S,k,hL⟩:=id h
 refine (lookK_any A k t u hu).mono ?_
 rintro e w' ⟨a,c,rfl,s,B,N,_⟩
 exact ⟨a,c,rfl,s,B,N,h.below A B⟩
end
open Go.RowKit
section
variable {Rep:World->Nat->(Nat->Prop)->RM->Prop}(A:ApM Rep)
include A in
theorem timed_recv (t0 q0:Int) (w:World) (hg:Gl w) (h1:-9223372036854775808<=t0) (h2:t0<=9223372036854775807) (h3:-9223372036854775808<=q0) (h4:q0<=9223372036854775807) :
  Calls Tryz.prog 9 #[.int .i64 t0,.bool false,.int .i64 q0] w fun e w'=>e=.returned (.bool true)/\Below w.heap.size w w':=by
 have P1:=fun w=>pickK_any t0 200 w h1 h2 (by omega) (by omega)
 have P2:=fun w=>pickK_any q0 5 w h3 h4 (by omega) (by omega)
 obtain ⟨tn,htn⟩:∃ tn:Nat,1+pickI t0 200=tn:=Int.eq_ofNat_of_zero_le (by have:=pickI_in t0 (n:=200) (by omega);omega)
 have t1:1<=tn:=by have:=pickI_in t0 (n:=200) (by omega);omega
 have t2:tn<=200:=by have:=pickI_in t0 (n:=200) (by omega);omega
 obtain ⟨q,hq⟩:∃ q:Nat,pickI q0 5=q:=Int.eq_ofNat_of_zero_le (pickI_in q0 (n:=5) (by omega)).1
 have q5:q<=4:=by have:=(pickI_in q0 (n:=5) (by omega)).2;omega
 rw [hq] at P2
 obtain ⟨t,et⟩:∃ t:Int,(tn:Int)=t:=⟨_,rfl⟩
 rw [et] at htn
 have HT:=hid et
 have tb1:1<=t:=by omega
 have tb2:t<=200:=by omega
 have HK:=hid (known_any A w hg)
 have HP:=hid (And.intro P1 P2)
 clear P1 P2 hq h1 h2 h3 h4 et
 go_enter Tryz.func9,Tryz.ntmps9
 go_wp2_with fail
 refine HK.out.mono ?_
 rintro e w0 ⟨rfl,B0⟩
 have HB0:=hid B0
 have hg0:=hg.below B0
 clear B0 hg
 go_wp2_with fail
 refine (two_any w0).mono ?_
 rintro e w1 ⟨b1,b2,b3,rfl,i1,i2,i3,B1⟩
 have C2:=hid (boot_any A 2 _ _ _ _ _ _ _ _ _ twT twQ twL w1 (hg0.below B1) i1 i2 i3 fits_tw 0)
 have HB1:=hid B1
 clear i1 i2 i3 B1 hg0
 go_wp2_with fail
 refine C2.out.mono ?_
 rintro e w2 ⟨x,S2,rfl,KB,B2⟩
 have KB:KS Rep w1 w2 x S2 tw0 0:=KB
 have K3:KG Rep w1 (w2.alloc (.cells #[.int .i64 (-1),.slice none 0 0,.int .i64 (-1),.int .i64 0,.int .i64 1,.int .i64 (-1),.int .i64 t] 43)) x tw0 0 [(w2.heap.size,#[.int .i64 (-1),.slice none 0 0,.int .i64 (-1),.int .i64 0,.int .i64 1,.int .i64 (-1),.int .i64 t],43)]:=KG.push A (L:=[]) ⟨S2,KB,fun p hp=>absurd hp (by simp)⟩ _ _
 have HX:=hid K3
 clear KB B2 K3 C2
 go_wp2_with (first
  | (go_at_call 16;first | (with_reducible refine (HP.out.1 _).mono ?_;rintro e w3 ⟨rfl,hw⟩;have hw:=hw.symm;subst hw) | (with_reducible refine (HP.out.2 _).mono ?_;rintro e w3 ⟨rfl,hw⟩;have hw:=hw.symm;subst hw))
  | (with_reducible (show wpList _ _ _ (⟨_,.store 43 _ _,_,_,_,none⟩ :: _) _ _);go_must (refine wpList_store_new rfl 43 _ _ rfl w2 _ #[.int .i64 (-1),.slice none 0 0,.int .i64 (-1),.int .i64 0,.int .i64 1,.int .i64 (-1),.int .i64 t] 43 (by simp [Act.eval]) rfl (by kernel_rfl) rfl (by simp [Value.oneCell']) ?_)))
 obtain ⟨wx,hwx⟩:∃ wx,(w2.alloc (.cells #[.int .i64 (-1),.slice none 0 0,.int .i64 (-1),.int .i64 0,.int .i64 1,.int .i64 (-1),.int .i64 t] 43))=wx:=⟨_,rfl⟩
 rw [hwx] at HX
 rw [hwx]
 clear hwx
 go_loopw [13] (fun i wr=>∃ (k:Nat) (K:RM),k<=q/\i=.int .i64 k/\Hid (KG Rep w1 wr x K k [(w2.heap.size,#[.int .i64 (-1),.slice none 0 0,.int .i64 (-1),.int .i64 0,.int .i64 1,.int .i64 (-1),.int .i64 t],43)]/\Rd K)) (fun i _=>q-(intOf i).toNat)
 case atStart=>exact ⟨0,tw0,Nat.zero_le _,rfl,HX.out,rd_tw0⟩
 case round=>
  obtain ⟨k,K,hk,rfl,HC⟩:=hrel
  by_cases hkq:k < q
  ·have hkq':(k:Int) < (q:Int):=by omega
   go_wp2_with (go_at_call 19;refine (kg_tick A HC.out.1 (by omega)).mono ?_;rintro e w4 ⟨rfl,K4⟩;replace K4:=hid K4)
   first
    | exact ⟨⟨k+1,K.tick,by omega,by go_num,K4.out,HC.out.2.tick⟩,by simp [intOf];omega⟩
    | (
     go_roundw
     case rel=>first | exact ⟨k+1,K.tick,by omega,by go_num,K4.out,HC.out.2.tick⟩ | ((repeat apply Exists.intro);exact ⟨⟨k+1,K.tick,by omega,by go_num,K4.out,HC.out.2.tick⟩,rfl⟩)
     case measure=>simp [intOf];omega)
  have ek:k=q:=by omega
  clear hkq
  subst ek
  go_wp2_with fail
  have HD:=hid (And.intro (HC.out.1.mono (show k<=10 by omega)) HC.out.2)
  clear HC
  go_loopw [14] (fun i wr=>∃ (k:Nat) (K:RM),k<=1/\i=.int .i64 k/\Hid (KG Rep w1 wr x K (10+k) [(w2.heap.size,#[.int .i64 (-1),.slice none 0 0,.int .i64 (-1),.int .i64 0,.int .i64 1,.int .i64 (-1),.int .i64 t],43)]/\Rd K/\(k=1->K.cur=0))) (fun i _=>1-(intOf i).toNat)
  case atStart=>exact ⟨0,K,Nat.zero_le _,rfl,HD.out.1,HD.out.2,by omega⟩
  case round=>
   clear HD
   obtain ⟨k2,K2,hk2,rfl,HC⟩:=hrel
   have k5:(k2:Int) < 5:=by omega
   have C5:=hid (fun w' (hb:Below wr.heap.size wr w')=>kg_current A (HC.out.1.below A hb))
   by_cases hc:K2.cur=0
   ·rw [hc] at C5
    go_wp2_with (first
     | (go_at_call 18;refine (C5.out _ (Below.refl _ _)).mono ?_;rintro e w4 ⟨rfl,K4⟩;replace K4:=hid K4)
     | (with_reducible (show wpList _ _ _ (⟨_,.load 43 (.tmp 10),_,_,_,none⟩ :: _) _ _);go_must (refine wpList_load_row rfl 43 _ rfl w2.heap.size (by simp [Act.eval]) 43 #[.int .i64 (-1),.slice none 0 0,.int .i64 (-1),.int .i64 0,.int .i64 1,.int .i64 (-1),.int .i64 t] (0,0) _ (K4.out.get (List.mem_singleton.2 rfl)) Tryz.underlying43 rfl (by kernel_rfl) ?_)))
    have HE:=hid (And.intro (K4.out.mono (show 10+k2<=20 by omega)) HC.out.2.1)
    clear HC K4 C5
    obtain ⟨K3,e3,W3,c3⟩:=(rd_ipc (t:=t) (by omega) (by omega) HE.out.2 hc).1
    have EM:msV (mtT (-1) t) none 0=.agg #[.int .i64 (-1),.slice none 0 0,.int .i64 (-1),.int .i64 0,.int .i64 1,.int .i64 (-1),.int .i64 t]:=rfl
    have C6:=hid (kg_ipc0 A HE.out.1 (by omega) (mtT (-1) t) rfl)
    rw [EM,e3] at C6
    have tm:tim K2.clock t=K2.clock+t:=by
     obtain ⟨a,b,TT,_⟩:=HE.out.2
     have:=TT.clk
     obtain ⟨S9,k9,_⟩:=HE.out.1
     have:=k9.ok.c1
     unfold tim
     rw [if_pos (by omega)]
     unfold wrap64
     omega
    rw [tm] at W3
    have HW3:=hid (And.intro W3 c3)
    clear W3 c3 tm e3 EM hc
    refine C6.out.mono ?_
    rintro e w5 ⟨rfl,K5⟩
    have C7:=hid (kg_current A K5)
    rw [HW3.out.1.cur (by omega)] at C7
    clear K5 C6
    go_wp2_with (go_at_call 18;refine C7.out.mono ?_;rintro e w6 ⟨rfl,K6⟩;replace K6:=hid K6)
    have HA:=hid (And.intro K6.out HW3.out)
    clear HW3 C7 K6
    go_loopw [16] (fun i wr=>∃ (k:Nat) (K:RM),k<=tn/\i=.int .i64 k/\Hid (KG Rep w1 wr x K (21+k) [(w2.heap.size,#[.int .i64 (-1),.slice none 0 0,.int .i64 (-1),.int .i64 0,.int .i64 1,.int .i64 (-1),.int .i64 t],43)]/\((k < tn/\Wt 3 (K2.clock+t) K/\K.clock=K2.clock+k)\/(k=tn/\Aw K)))) (fun i _=>tn-(intOf i).toNat)
    case atStart=>exact ⟨0,K3,Nat.zero_le _,rfl,HA.out.1,.inl ⟨by omega,HA.out.2.1,by have:=HA.out.2.2;omega⟩⟩
    case round=>
     clear HA HE
     obtain ⟨k3,K4,hk3,rfl,HC⟩:=hrel
     by_cases hkt:k3 < tn
     ·have kt:(k3:Int) < t:=by have:=HT.out;omega
      have HC2:Hid (Wt 3 (K2.clock+t) K4/\K4.clock=K2.clock+k3):=hid (by
       rcases HC.out.2 with h | h
       ·exact h.2
       ·omega)
      obtain ⟨ua,ub,ut,u1,_⟩:=id HC2.out.1
      have hu:K4.threads[0]? = some ua:=by rw [ut.th];rfl
      have C8:=hid (kg_look A HC.out.1 0 ua hu)
      rw [u1] at C8
      obtain ⟨ul,hul⟩:∃ n,ua.ws.length=n:=⟨_,rfl⟩
      rw [hul] at C8
      clear u1 hu ut hul
      go_wp2_with fail
      refine C8.out.mono ?_
      rintro e w7 ⟨a7,c7,rfl,sl7,B7,N7,K7⟩
      have K8:=hid (K7.below A ((Below.refl _ w7).alloc (Nat.le_refl _) (.cells (c5 3 ua.code ua.who a7 ul c7 ua.got) 50)))
      have C9:=hid (kg_tick A K8.out (by omega))
      obtain ⟨p0,p1,p2,p3,p4⟩:=c5_cells (heap_alloc_new w7 (.cells (c5 3 ua.code ua.who a7 ul c7 ua.got) 50))
      clear sl7 B7 N7 K7 C8
      go_wp2_with (first
       | (with_reducible (show wpList _ _ _ (⟨_,.store 50 _ _,_,_,_,none⟩ :: _) _ _);go_must (refine wpList_store_new rfl 50 _ _ rfl w7 _ (c5 3 ua.code ua.who a7 ul c7 ua.got) 50 (by simp [Act.eval]) rfl (by kernel_rfl) rfl (c5_one _ _ _ _ _ _ _) ?_))
       | (go_at_call 19;refine C9.out.mono ?_;rintro e w8 ⟨rfl,K9⟩;replace K9:=hid K9))
      have HN:Hid ((k3+1 < tn/\Wt 3 (K2.clock+t) K4.tick/\K4.tick.clock=K2.clock+(k3+1:Nat))\/(k3+1=tn/\Aw K4.tick)):=hid (by
       have e1:=HC2.out.2
       have e2:=HT.out
       by_cases hl:k3+1 < tn
       ·have h9:=HC2.out.1.tick (by omega) (by omega)
        exact .inl ⟨hl,h9.1,by rw [h9.2];omega⟩
       ·exact .inr ⟨by omega,HC2.out.1.wake (by omega) (by omega)⟩)
      first
       | exact ⟨⟨k3+1,K4.tick,by omega,by go_num,K9.out,HN.out⟩,by simp [intOf];omega⟩
       | (
        go_roundw
        case rel=>first | exact ⟨k3+1,K4.tick,by omega,by go_num,K9.out,HN.out⟩ | ((repeat apply Exists.intro);exact ⟨⟨k3+1,K4.tick,by omega,by go_num,K9.out,HN.out⟩,rfl⟩)
        case measure=>simp [intOf];omega)
     have hA:Aw K4:=by
      rcases HC.out.2 with h | h
      ·omega
      ·exact h.2
     have kt:(k3:Int)=t:=by have:=HT.out;omega
     obtain ⟨ua,ub,ut,u1,_,_,u2,u3,u4⟩:=id hA
     have hu:K4.threads[0]? = some ua:=by rw [ut.th];rfl
     have HF:=hid (And.intro (HC.out.1.mono (show 21+k3<=300 by omega)) hA)
     have C8:=hid (kg_look A HF.out.1 0 ua hu)
     rw [u1,u2,u3,u4,List.length_nil] at C8
     have kd:decide ((k3:Int) < t)=false:=by simp;omega
     obtain ⟨ug,hug⟩:∃ n,ua.got=n:=⟨_,rfl⟩
     rw [hug] at C8
     clear u1 u2 u3 u4 hu ut HC hA hkt kt hug
     go_wp2_with fail
     refine C8.out.mono ?_
     rintro e w7 ⟨a7,c7,rfl,sl7,B7,N7,K7⟩
     have HLT:=hid (show w7.heap.size≠w2.heap.size from fun e=>absurd (K7.lt (List.mem_singleton.2 rfl)) (by rw [e];exact Nat.lt_irrefl _))
     have K8:=hid (K7.push A (c5 1 6 (-1) a7 0 c7 ug) 50)
     obtain ⟨p0,p1,p2,p3,p4⟩:=c5_cells (heap_alloc_new w7 (.cells (c5 1 6 (-1) a7 0 c7 ug) 50))
     have HF2:=hid HF.out.2
     clear sl7 B7 N7 K7 C8 HF
     go_wp2_with (with_reducible (show wpList _ _ _ (⟨_,.store 50 _ _,_,_,_,none⟩ :: _) _ _);go_must (refine wpList_store_new rfl 50 _ _ rfl w7 _ (c5 1 6 (-1) a7 0 c7 ug) 50 (by simp [Act.eval]) rfl (by kernel_rfl) rfl (c5_one _ _ _ _ _ _ _) ?_))
     clear p0 p1 p2 p3 p4 kd
     obtain ⟨h9,eh9⟩:∃ h,w7.heap.size=h:=⟨_,rfl⟩
     obtain ⟨w8,ew8⟩:∃ w8,w7.alloc (.cells (c5 1 6 (-1) a7 0 c7 ug) 50)=w8:=⟨_,rfl⟩
     have HG:=hid (show h9≠w2.heap.size from fun e=>by rw [<- eh9] at e;exact absurd e HLT.out)
     rw [ew8,eh9] at K8
     rw [ew8,eh9]
     clear ew8 eh9
     go_loopw [21] (fun i wr=>∃ (k:Nat) (K:RM),k<=1/\i=.int .i64 k/\Hid (KG Rep w1 wr x K (300+k) [(h9,c5 1 6 (-1) a7 0 c7 ug,50),(w2.heap.size,#[.int .i64 (-1),.slice none 0 0,.int .i64 (-1),.int .i64 0,.int .i64 1,.int .i64 (-1),.int .i64 t],43)]/\Rd K/\(k=1->K.cur=0))) (fun i _=>1-(intOf i).toNat)
     case atStart=>exact ⟨0,K4,Nat.zero_le _,rfl,K8.out,HF2.out.rd,by omega⟩
     case round=>
      clear K8 HF2
      obtain ⟨k4,K5,hk4,rfl,HC⟩:=hrel
      have k5:(k4:Int) < 5:=by omega
      have C5:=hid (fun w' (hb:Below wr.heap.size wr w')=>kg_current A (HC.out.1.below A hb))
      by_cases hc:K5.cur=0
      ·rw [hc] at C5
       go_wp2_with (first
        | (go_at_call 18;refine (C5.out _ (Below.refl _ _)).mono ?_;rintro e w9 ⟨rfl,K6⟩;have z6:w9.cell? ⟨w2.heap.size,6,none⟩=some (.int .i64 t):=(cell_of_row w9 w2.heap.size 6 _ _ _ (K6.get (List.mem_cons_of_mem _ (List.mem_singleton.2 rfl)))).trans rfl;have z6f:w9.frozen? ⟨w2.heap.size,6,none⟩=false:=frozen_of_row w9 w2.heap.size 6 _ _ (K6.get (List.mem_cons_of_mem _ (List.mem_singleton.2 rfl)));have ZQ:=hid (show (w9.setCell ⟨w2.heap.size,6,none⟩ (.int .i64 (-1))).heap[w2.heap.size]? = some (.cells #[.int .i64 (-1),.slice none 0 0,.int .i64 (-1),.int .i64 0,.int .i64 1,.int .i64 (-1),.int .i64 (-1)] 43 (0,0)) from heap_setCell_same _ w2.heap.size 6 _ 43 _ (K6.get (List.mem_cons_of_mem _ (List.mem_singleton.2 rfl))));replace K6:=hid K6)
        | (with_reducible (show wpList _ _ _ (⟨_,.load 43 (.tmp 10),_,_,_,none⟩ :: _) _ _);go_must (refine wpList_load_row rfl 43 _ rfl w2.heap.size (by simp [Act.eval]) 43 #[.int .i64 (-1),.slice none 0 0,.int .i64 (-1),.int .i64 0,.int .i64 1,.int .i64 (-1),.int .i64 (-1)] (0,0) _ ZQ.out Tryz.underlying43 rfl (by kernel_rfl) ?_)))
       have KZ:KG Rep w1 (w9.setCell ⟨w2.heap.size,6,none⟩ (.int .i64 (-1))) x K5 310 [(h9,c5 1 6 (-1) a7 0 c7 ug,50),(w2.heap.size,#[.int .i64 (-1),.slice none 0 0,.int .i64 (-1),.int .i64 0,.int .i64 1,.int .i64 (-1),.int .i64 (-1)],43)]:=(K6.out.mono (show 300+k4<=310 by omega)).frame A (g:=w2.heap.size) (C:=#[.int .i64 (-1),.slice none 0 0,.int .i64 (-1),.int .i64 0,.int .i64 1,.int .i64 (-1),.int .i64 t]) (t:=43) (List.mem_cons_of_mem _ (List.mem_singleton.2 rfl)) ((Fr.refl (fun k=>k=w2.heap.size) _).setCell (fun _=>rfl) _) (heap_setCell_same _ w2.heap.size 6 _ 43 _ (K6.out.get (List.mem_cons_of_mem _ (List.mem_singleton.2 rfl)))) (fun p hp=>by
        rcases List.mem_cons.1 hp with rfl | hp
        ·exact .inr ⟨List.mem_cons_self,HG.out⟩
        ·exact .inl (List.mem_singleton.1 hp))
       clear z6 z6f
       obtain ⟨K6',e6,W6,_⟩:=(rd_ipc (t:=-1) (by omega) (by omega) HC.out.2.1 hc).1
       have EM:msV (mtT (-1) (-1)) none 0=.agg #[.int .i64 (-1),.slice none 0 0,.int .i64 (-1),.int .i64 0,.int .i64 1,.int .i64 (-1),.int .i64 (-1)]:=rfl
       have C6:=hid (kg_ipc0 A KZ (by omega) (mtT (-1) (-1)) rfl)
       rw [EM,e6] at C6
       rw [show tim K5.clock (-1)=-1 from if_neg (by omega)] at W6
       have HW6:=hid W6
       clear W6 e6 EM hc KZ C5 K6 HC
       refine C6.out.mono ?_
       rintro e w10 ⟨rfl,K7⟩
       have HA:=hid (And.intro K7 HW6.out)
       clear K7 C6 HW6
       go_wp2_with fail
       go_loopw [22] (fun i wr=>∃ (k:Nat) (K:RM),k<=tn/\i=.int .i64 k/\Hid (KG Rep w1 wr x K (311+k) [(h9,c5 1 6 (-1) a7 0 c7 ug,50),(w2.heap.size,#[.int .i64 (-1),.slice none 0 0,.int .i64 (-1),.int .i64 0,.int .i64 1,.int .i64 (-1),.int .i64 (-1)],43)]/\Wt 3 (-1) K)) (fun i _=>tn-(intOf i).toNat)
       case atStart=>exact ⟨0,K6',Nat.zero_le _,rfl,HA.out⟩
       case round=>
        clear HA
        obtain ⟨k6,K7,hk6,rfl,HC⟩:=hrel
        by_cases hkt:k6 < tn
        ·have kt:(k6:Int) < t:=by have:=HT.out;omega
         have HN:=hid (show Wt 3 (-1) K7.tick by
          obtain ⟨a,b,T,_⟩:=id HC.out.2
          have:=T.clk
          exact (HC.out.2.tick (by omega) (by omega)).1)
         go_wp2_with (go_at_call 19;refine (kg_tick A HC.out.1 (by omega)).mono ?_;rintro e w11 ⟨rfl,K8⟩;replace K8:=hid K8)
         first
          | exact ⟨⟨k6+1,K7.tick,by omega,by go_num,K8.out,HN.out⟩,by simp [intOf];omega⟩
          | (
           go_roundw
           case rel=>first | exact ⟨k6+1,K7.tick,by omega,by go_num,K8.out,HN.out⟩ | ((repeat apply Exists.intro);exact ⟨⟨k6+1,K7.tick,by omega,by go_num,K8.out,HN.out⟩,rfl⟩)
           case measure=>simp [intOf];omega)
        have kd:decide ((k6:Int) < t)=false:=by have:=HT.out;simp;omega
        obtain ⟨ua,ub,ut,u1,_⟩:=id HC.out.2
        have hu:K7.threads[0]? = some ua:=by rw [ut.th];rfl
        have C8:=hid (kg_look A HC.out.1 0 ua hu)
        rw [u1] at C8
        obtain ⟨ul,hul⟩:∃ n,ua.ws.length=n:=⟨_,rfl⟩
        rw [hul] at C8
        clear u1 hu ut hul hkt
        go_wp2_with fail
        refine C8.out.mono ?_
        rintro e w12 ⟨a12,c12,rfl,sl12,B12,N12,K9⟩
        have q9:=K9.get (g:=h9) (C:=c5 1 6 (-1) a7 0 c7 ug) (t:=50) List.mem_cons_self
        have s9:=setRow_heap w12 h9 _ (c5 3 ua.code ua.who a12 ul c12 ua.got) 50 (0,0) q9
        have KF:=hid (K9.frame A (g:=h9) (C:=c5 1 6 (-1) a7 0 c7 ug) (t:=50) (L':=[]) List.mem_cons_self ((Fr.refl (fun k=>k=h9) _).setRow (fun _=>rfl) _) s9 (fun p hp=>absurd hp (by simp)))
        obtain ⟨p0,p1,p2,p3,p4⟩:=c5_cells s9
        clear sl12 B12 N12 K9 C8 s9
        go_wp2_with (with_reducible (show wpList _ _ _ (⟨_,.store 50 _ _,_,_,_,none⟩ :: _) _ _);go_must (refine wpList_store_row rfl 50 _ _ rfl h9 (c5 3 ua.code ua.who a12 ul c12 ua.got) (by simp [Act.eval]) rfl 50 _ q9 (by kernel_rfl) rfl (c5_one _ _ _ _ _ _ _) ?_))
        go_ret
        exact ⟨rfl,(HB0.out.trans (HB1.out.mono HB0.out.size)).trans (KF.out.bel.mono (Nat.le_trans HB0.out.size HB1.out.size))⟩
      ·have hc1:K5.cur=1:=by have:=HC.out.2.1.cur;omega
       have hk0:=hid (show k4=0 by
        rcases Nat.lt_or_ge k4 1 with g | g
        ·omega
        ·exact absurd (HC.out.2.2 (by omega)) hc)
       have HY:=hid (HC.out.2.1.yield)
       have HZ:=hid (HY.out.2.2 hc)
       clear hc
       rw [hc1] at C5
       clear hc1
       go_wp2_with (first
        | (go_at_call 18;refine (C5.out _ (Below.refl _ _)).mono ?_;rintro e w9 ⟨rfl,K6⟩;replace K6:=hid K6)
        | (go_at_call 22;refine (kg_yield A K6.out (by omega)).mono ?_;rintro e w10 ⟨rfl,K7⟩;replace K7:=hid K7))
       first
        | exact ⟨⟨k4+1,K5.yield.2,by have:=hk0.out;omega,by go_num,K7.out,HY.out.2.1,fun _=>HZ.out⟩,by have:=hk0.out;simp [intOf];omega⟩
        | (
         go_roundw
         case rel=>first | exact ⟨k4+1,K5.yield.2,by have:=hk0.out;omega,by go_num,K7.out,HY.out.2.1,fun _=>HZ.out⟩ | ((repeat apply Exists.intro);exact ⟨⟨k4+1,K5.yield.2,by have:=hk0.out;omega,by go_num,K7.out,HY.out.2.1,fun _=>HZ.out⟩,rfl⟩)
         case measure=>have:=hk0.out;simp [intOf];omega)
   ·have hc1:K2.cur=1:=by have:=HC.out.2.1.cur;omega
    have hk0:=hid (show k2=0 by
     rcases Nat.lt_or_ge k2 1 with g | g
     ·omega
     ·exact absurd (HC.out.2.2 (by omega)) hc)
    have HY:=hid (HC.out.2.1.yield)
    have HZ:=hid (HY.out.2.2 hc)
    clear hc
    rw [hc1] at C5
    clear hc1
    go_wp2_with (first
     | (go_at_call 18;refine (C5.out _ (Below.refl _ _)).mono ?_;rintro e w4 ⟨rfl,K4⟩;replace K4:=hid K4)
     | (go_at_call 22;refine (kg_yield A K4.out (by omega)).mono ?_;rintro e w5 ⟨rfl,K5⟩;replace K5:=hid K5))
    first
     | exact ⟨⟨k2+1,K2.yield.2,by have:=hk0.out;omega,by go_num,K5.out,HY.out.2.1,fun _=>HZ.out⟩,by have:=hk0.out;simp [intOf];omega⟩
     | (
      go_roundw
      case rel=>first | exact ⟨k2+1,K2.yield.2,by have:=hk0.out;omega,by go_num,K5.out,HY.out.2.1,fun _=>HZ.out⟩ | ((repeat apply Exists.intro);exact ⟨⟨k2+1,K2.yield.2,by have:=hk0.out;omega,by go_num,K5.out,HY.out.2.1,fun _=>HZ.out⟩,rfl⟩)
      case measure=>have:=hk0.out;simp [intOf];omega)
include A in
theorem timed_send (t0 q0:Int) (w:World) (hg:Gl w) (h1:-9223372036854775808<=t0) (h2:t0<=9223372036854775807) (h3:-9223372036854775808<=q0) (h4:q0<=9223372036854775807) :
  Calls Tryz.prog 9 #[.int .i64 t0,.bool true,.int .i64 q0] w fun e w'=>e=.returned (.bool true)/\Below w.heap.size w w':=by
 have P1:=fun w=>pickK_any t0 200 w h1 h2 (by omega) (by omega)
 have P2:=fun w=>pickK_any q0 5 w h3 h4 (by omega) (by omega)
 obtain ⟨tn,htn⟩:∃ tn:Nat,1+pickI t0 200=tn:=Int.eq_ofNat_of_zero_le (by have:=pickI_in t0 (n:=200) (by omega);omega)
 have t1:1<=tn:=by have:=pickI_in t0 (n:=200) (by omega);omega
 have t2:tn<=200:=by have:=pickI_in t0 (n:=200) (by omega);omega
 obtain ⟨q,hq⟩:∃ q:Nat,pickI q0 5=q:=Int.eq_ofNat_of_zero_le (pickI_in q0 (n:=5) (by omega)).1
 have q5:q<=4:=by have:=(pickI_in q0 (n:=5) (by omega)).2;omega
 rw [hq] at P2
 obtain ⟨t,et⟩:∃ t:Int,(tn:Int)=t:=⟨_,rfl⟩
 rw [et] at htn
 have HT:=hid et
 have tb1:1<=t:=by omega
 have tb2:t<=200:=by omega
 have HK:=hid (known_any A w hg)
 have HP:=hid (And.intro P1 P2)
 clear P1 P2 hq h1 h2 h3 h4 et
 go_enter Tryz.func9,Tryz.ntmps9
 go_wp2_with fail
 refine HK.out.mono ?_
 rintro e w0 ⟨rfl,B0⟩
 have HB0:=hid B0
 have hg0:=hg.below B0
 clear B0 hg
 go_wp2_with fail
 refine (two_any w0).mono ?_
 rintro e w1 ⟨b1,b2,b3,rfl,i1,i2,i3,B1⟩
 have C2:=hid (boot_any A 2 _ _ _ _ _ _ _ _ _ twT twQ twL w1 (hg0.below B1) i1 i2 i3 fits_tw 0)
 have HB1:=hid B1
 clear i1 i2 i3 B1 hg0
 go_wp2_with fail
 refine C2.out.mono ?_
 rintro e w2 ⟨x,S2,rfl,KB,B2⟩
 have KB:KS Rep w1 w2 x S2 tw0 0:=KB
 have K3:KG Rep w1 (w2.alloc (.cells #[.int .i64 3,.slice none 0 0,.int .i64 (-1),.int .i64 0,.int .i64 1,.int .i64 (-1),.int .i64 t] 43)) x tw0 0 [(w2.heap.size,#[.int .i64 3,.slice none 0 0,.int .i64 (-1),.int .i64 0,.int .i64 1,.int .i64 (-1),.int .i64 t],43)]:=KG.push A (L:=[]) ⟨S2,KB,fun p hp=>absurd hp (by simp)⟩ _ _
 have HX:=hid K3
 clear KB B2 K3 C2
 go_wp2_with (first
  | (go_at_call 16;first | (with_reducible refine (HP.out.1 _).mono ?_;rintro e w3 ⟨rfl,hw⟩;have hw:=hw.symm;subst hw) | (with_reducible refine (HP.out.2 _).mono ?_;rintro e w3 ⟨rfl,hw⟩;have hw:=hw.symm;subst hw))
  | (with_reducible (show wpList _ _ _ (⟨_,.store 43 _ _,_,_,_,none⟩ :: _) _ _);go_must (refine wpList_store_new rfl 43 _ _ rfl w2 _ #[.int .i64 (-1),.slice none 0 0,.int .i64 (-1),.int .i64 0,.int .i64 1,.int .i64 (-1),.int .i64 t] 43 (by simp [Act.eval]) rfl (by kernel_rfl) rfl (by simp [Value.oneCell']) ?_)))
 obtain ⟨wx,hwx⟩:∃ wx,(w2.alloc (.cells #[.int .i64 3,.slice none 0 0,.int .i64 (-1),.int .i64 0,.int .i64 1,.int .i64 (-1),.int .i64 t] 43))=wx:=⟨_,rfl⟩
 rw [hwx] at HX
 rw [hwx]
 clear hwx
 go_loopw [13] (fun i wr=>∃ (k:Nat) (K:RM),k<=q/\i=.int .i64 k/\Hid (KG Rep w1 wr x K k [(w2.heap.size,#[.int .i64 3,.slice none 0 0,.int .i64 (-1),.int .i64 0,.int .i64 1,.int .i64 (-1),.int .i64 t],43)]/\Rd K)) (fun i _=>q-(intOf i).toNat)
 case atStart=>exact ⟨0,tw0,Nat.zero_le _,rfl,HX.out,rd_tw0⟩
 case round=>
  obtain ⟨k,K,hk,rfl,HC⟩:=hrel
  by_cases hkq:k < q
  ·have hkq':(k:Int) < (q:Int):=by omega
   go_wp2_with (go_at_call 19;refine (kg_tick A HC.out.1 (by omega)).mono ?_;rintro e w4 ⟨rfl,K4⟩;replace K4:=hid K4)
   first
    | exact ⟨⟨k+1,K.tick,by omega,by go_num,K4.out,HC.out.2.tick⟩,by simp [intOf];omega⟩
    | (
     go_roundw
     case rel=>first | exact ⟨k+1,K.tick,by omega,by go_num,K4.out,HC.out.2.tick⟩ | ((repeat apply Exists.intro);exact ⟨⟨k+1,K.tick,by omega,by go_num,K4.out,HC.out.2.tick⟩,rfl⟩)
     case measure=>simp [intOf];omega)
  have ek:k=q:=by omega
  clear hkq
  subst ek
  go_wp2_with fail
  have HD:=hid (And.intro (HC.out.1.mono (show k<=10 by omega)) HC.out.2)
  clear HC
  go_loopw [14] (fun i wr=>∃ (k:Nat) (K:RM),k<=1/\i=.int .i64 k/\Hid (KG Rep w1 wr x K (10+k) [(w2.heap.size,#[.int .i64 3,.slice none 0 0,.int .i64 (-1),.int .i64 0,.int .i64 1,.int .i64 (-1),.int .i64 t],43)]/\Rd K/\(k=1->K.cur=0))) (fun i _=>1-(intOf i).toNat)
  case atStart=>exact ⟨0,K,Nat.zero_le _,rfl,HD.out.1,HD.out.2,by omega⟩
  case round=>
   clear HD
   obtain ⟨k2,K2,hk2,rfl,HC⟩:=hrel
   have k5:(k2:Int) < 5:=by omega
   have C5:=hid (fun w' (hb:Below wr.heap.size wr w')=>kg_current A (HC.out.1.below A hb))
   by_cases hc:K2.cur=0
   ·rw [hc] at C5
    go_wp2_with (first
     | (go_at_call 18;refine (C5.out _ (Below.refl _ _)).mono ?_;rintro e w4 ⟨rfl,K4⟩;replace K4:=hid K4)
     | (with_reducible (show wpList _ _ _ (⟨_,.load 43 (.tmp 10),_,_,_,none⟩ :: _) _ _);go_must (refine wpList_load_row rfl 43 _ rfl w2.heap.size (by simp [Act.eval]) 43 #[.int .i64 3,.slice none 0 0,.int .i64 (-1),.int .i64 0,.int .i64 1,.int .i64 (-1),.int .i64 t] (0,0) _ (K4.out.get (List.mem_singleton.2 rfl)) Tryz.underlying43 rfl (by kernel_rfl) ?_)))
    have HE:=hid (And.intro (K4.out.mono (show 10+k2<=20 by omega)) HC.out.2.1)
    clear HC K4 C5
    obtain ⟨K3,e3,W3,c3⟩:=(rd_ipc (t:=t) (by omega) (by omega) HE.out.2 hc).2
    have EM:msV (mtT 3 t) none 0=.agg #[.int .i64 3,.slice none 0 0,.int .i64 (-1),.int .i64 0,.int .i64 1,.int .i64 (-1),.int .i64 t]:=rfl
    have C6:=hid (kg_ipc0 A HE.out.1 (by omega) (mtT 3 t) rfl)
    rw [EM,e3] at C6
    have tm:tim K2.clock t=K2.clock+t:=by
     obtain ⟨a,b,TT,_⟩:=HE.out.2
     have:=TT.clk
     obtain ⟨S9,k9,_⟩:=HE.out.1
     have:=k9.ok.c1
     unfold tim
     rw [if_pos (by omega)]
     unfold wrap64
     omega
    rw [tm] at W3
    have HW3:=hid (And.intro W3 c3)
    clear W3 c3 tm e3 EM hc
    refine C6.out.mono ?_
    rintro e w5 ⟨rfl,K5⟩
    have C7:=hid (kg_current A K5)
    rw [HW3.out.1.cur (by omega)] at C7
    clear K5 C6
    go_wp2_with (go_at_call 18;refine C7.out.mono ?_;rintro e w6 ⟨rfl,K6⟩;replace K6:=hid K6)
    have HA:=hid (And.intro K6.out HW3.out)
    clear HW3 C7 K6
    go_loopw [16] (fun i wr=>∃ (k:Nat) (K:RM),k<=tn/\i=.int .i64 k/\Hid (KG Rep w1 wr x K (21+k) [(w2.heap.size,#[.int .i64 3,.slice none 0 0,.int .i64 (-1),.int .i64 0,.int .i64 1,.int .i64 (-1),.int .i64 t],43)]/\((k < tn/\Wt 2 (K2.clock+t) K/\K.clock=K2.clock+k)\/(k=tn/\Aw K)))) (fun i _=>tn-(intOf i).toNat)
    case atStart=>exact ⟨0,K3,Nat.zero_le _,rfl,HA.out.1,.inl ⟨by omega,HA.out.2.1,by have:=HA.out.2.2;omega⟩⟩
    case round=>
     clear HA HE
     obtain ⟨k3,K4,hk3,rfl,HC⟩:=hrel
     by_cases hkt:k3 < tn
     ·have kt:(k3:Int) < t:=by have:=HT.out;omega
      have HC2:Hid (Wt 2 (K2.clock+t) K4/\K4.clock=K2.clock+k3):=hid (by
       rcases HC.out.2 with h | h
       ·exact h.2
       ·omega)
      obtain ⟨ua,ub,ut,u1,_⟩:=id HC2.out.1
      have hu:K4.threads[0]? = some ua:=by rw [ut.th];rfl
      have C8:=hid (kg_look A HC.out.1 0 ua hu)
      rw [u1] at C8
      obtain ⟨ul,hul⟩:∃ n,ua.ws.length=n:=⟨_,rfl⟩
      rw [hul] at C8
      clear u1 hu ut hul
      go_wp2_with fail
      refine C8.out.mono ?_
      rintro e w7 ⟨a7,c7,rfl,sl7,B7,N7,K7⟩
      have K8:=hid (K7.below A ((Below.refl _ w7).alloc (Nat.le_refl _) (.cells (c5 2 ua.code ua.who a7 ul c7 ua.got) 50)))
      have C9:=hid (kg_tick A K8.out (by omega))
      obtain ⟨p0,p1,p2,p3,p4⟩:=c5_cells (heap_alloc_new w7 (.cells (c5 2 ua.code ua.who a7 ul c7 ua.got) 50))
      clear sl7 B7 N7 K7 C8
      go_wp2_with (first
       | (with_reducible (show wpList _ _ _ (⟨_,.store 50 _ _,_,_,_,none⟩ :: _) _ _);go_must (refine wpList_store_new rfl 50 _ _ rfl w7 _ (c5 2 ua.code ua.who a7 ul c7 ua.got) 50 (by simp [Act.eval]) rfl (by kernel_rfl) rfl (c5_one _ _ _ _ _ _ _) ?_))
       | (go_at_call 19;refine C9.out.mono ?_;rintro e w8 ⟨rfl,K9⟩;replace K9:=hid K9))
      have HN:Hid ((k3+1 < tn/\Wt 2 (K2.clock+t) K4.tick/\K4.tick.clock=K2.clock+(k3+1:Nat))\/(k3+1=tn/\Aw K4.tick)):=hid (by
       have e1:=HC2.out.2
       have e2:=HT.out
       by_cases hl:k3+1 < tn
       ·have h9:=HC2.out.1.tick (by omega) (by omega)
        exact .inl ⟨hl,h9.1,by rw [h9.2];omega⟩
       ·exact .inr ⟨by omega,HC2.out.1.wake (by omega) (by omega)⟩)
      first
       | exact ⟨⟨k3+1,K4.tick,by omega,by go_num,K9.out,HN.out⟩,by simp [intOf];omega⟩
       | (
        go_roundw
        case rel=>first | exact ⟨k3+1,K4.tick,by omega,by go_num,K9.out,HN.out⟩ | ((repeat apply Exists.intro);exact ⟨⟨k3+1,K4.tick,by omega,by go_num,K9.out,HN.out⟩,rfl⟩)
        case measure=>simp [intOf];omega)
     have hA:Aw K4:=by
      rcases HC.out.2 with h | h
      ·omega
      ·exact h.2
     have kt:(k3:Int)=t:=by have:=HT.out;omega
     obtain ⟨ua,ub,ut,u1,_,_,u2,u3,u4⟩:=id hA
     have hu:K4.threads[0]? = some ua:=by rw [ut.th];rfl
     have HF:=hid (And.intro (HC.out.1.mono (show 21+k3<=300 by omega)) hA)
     have C8:=hid (kg_look A HF.out.1 0 ua hu)
     rw [u1,u2,u3,u4,List.length_nil] at C8
     have kd:decide ((k3:Int) < t)=false:=by simp;omega
     obtain ⟨ug,hug⟩:∃ n,ua.got=n:=⟨_,rfl⟩
     rw [hug] at C8
     clear u1 u2 u3 u4 hu ut HC hA hkt kt hug
     go_wp2_with fail
     refine C8.out.mono ?_
     rintro e w7 ⟨a7,c7,rfl,sl7,B7,N7,K7⟩
     have HLT:=hid (show w7.heap.size≠w2.heap.size from fun e=>absurd (K7.lt (List.mem_singleton.2 rfl)) (by rw [e];exact Nat.lt_irrefl _))
     have K8:=hid (K7.push A (c5 1 6 (-1) a7 0 c7 ug) 50)
     obtain ⟨p0,p1,p2,p3,p4⟩:=c5_cells (heap_alloc_new w7 (.cells (c5 1 6 (-1) a7 0 c7 ug) 50))
     have HF2:=hid HF.out.2
     clear sl7 B7 N7 K7 C8 HF
     go_wp2_with (with_reducible (show wpList _ _ _ (⟨_,.store 50 _ _,_,_,_,none⟩ :: _) _ _);go_must (refine wpList_store_new rfl 50 _ _ rfl w7 _ (c5 1 6 (-1) a7 0 c7 ug) 50 (by simp [Act.eval]) rfl (by kernel_rfl) rfl (c5_one _ _ _ _ _ _ _) ?_))
     clear p0 p1 p2 p3 p4 kd
     obtain ⟨h9,eh9⟩:∃ h,w7.heap.size=h:=⟨_,rfl⟩
     obtain ⟨w8,ew8⟩:∃ w8,w7.alloc (.cells (c5 1 6 (-1) a7 0 c7 ug) 50)=w8:=⟨_,rfl⟩
     have HG:=hid (show h9≠w2.heap.size from fun e=>by rw [<- eh9] at e;exact absurd e HLT.out)
     rw [ew8,eh9] at K8
     rw [ew8,eh9]
     clear ew8 eh9
     go_loopw [21] (fun i wr=>∃ (k:Nat) (K:RM),k<=1/\i=.int .i64 k/\Hid (KG Rep w1 wr x K (300+k) [(h9,c5 1 6 (-1) a7 0 c7 ug,50),(w2.heap.size,#[.int .i64 3,.slice none 0 0,.int .i64 (-1),.int .i64 0,.int .i64 1,.int .i64 (-1),.int .i64 t],43)]/\Rd K/\(k=1->K.cur=0))) (fun i _=>1-(intOf i).toNat)
     case atStart=>exact ⟨0,K4,Nat.zero_le _,rfl,K8.out,HF2.out.rd,by omega⟩
     case round=>
      clear K8 HF2
      obtain ⟨k4,K5,hk4,rfl,HC⟩:=hrel
      have k5:(k4:Int) < 5:=by omega
      have C5:=hid (fun w' (hb:Below wr.heap.size wr w')=>kg_current A (HC.out.1.below A hb))
      by_cases hc:K5.cur=0
      ·rw [hc] at C5
       go_wp2_with (first
        | (go_at_call 18;refine (C5.out _ (Below.refl _ _)).mono ?_;rintro e w9 ⟨rfl,K6⟩;have z6:w9.cell? ⟨w2.heap.size,6,none⟩=some (.int .i64 t):=(cell_of_row w9 w2.heap.size 6 _ _ _ (K6.get (List.mem_cons_of_mem _ (List.mem_singleton.2 rfl)))).trans rfl;have z6f:w9.frozen? ⟨w2.heap.size,6,none⟩=false:=frozen_of_row w9 w2.heap.size 6 _ _ (K6.get (List.mem_cons_of_mem _ (List.mem_singleton.2 rfl)));have ZQ:=hid (show (w9.setCell ⟨w2.heap.size,6,none⟩ (.int .i64 (-1))).heap[w2.heap.size]? = some (.cells #[.int .i64 3,.slice none 0 0,.int .i64 (-1),.int .i64 0,.int .i64 1,.int .i64 (-1),.int .i64 (-1)] 43 (0,0)) from heap_setCell_same _ w2.heap.size 6 _ 43 _ (K6.get (List.mem_cons_of_mem _ (List.mem_singleton.2 rfl))));replace K6:=hid K6)
        | (with_reducible (show wpList _ _ _ (⟨_,.load 43 (.tmp 10),_,_,_,none⟩ :: _) _ _);go_must (refine wpList_load_row rfl 43 _ rfl w2.heap.size (by simp [Act.eval]) 43 #[.int .i64 3,.slice none 0 0,.int .i64 (-1),.int .i64 0,.int .i64 1,.int .i64 (-1),.int .i64 (-1)] (0,0) _ ZQ.out Tryz.underlying43 rfl (by kernel_rfl) ?_)))
       have KZ:KG Rep w1 (w9.setCell ⟨w2.heap.size,6,none⟩ (.int .i64 (-1))) x K5 310 [(h9,c5 1 6 (-1) a7 0 c7 ug,50),(w2.heap.size,#[.int .i64 3,.slice none 0 0,.int .i64 (-1),.int .i64 0,.int .i64 1,.int .i64 (-1),.int .i64 (-1)],43)]:=(K6.out.mono (show 300+k4<=310 by omega)).frame A (g:=w2.heap.size) (C:=#[.int .i64 3,.slice none 0 0,.int .i64 (-1),.int .i64 0,.int .i64 1,.int .i64 (-1),.int .i64 t]) (t:=43) (List.mem_cons_of_mem _ (List.mem_singleton.2 rfl)) ((Fr.refl (fun k=>k=w2.heap.size) _).setCell (fun _=>rfl) _) (heap_setCell_same _ w2.heap.size 6 _ 43 _ (K6.out.get (List.mem_cons_of_mem _ (List.mem_singleton.2 rfl)))) (fun p hp=>by
        rcases List.mem_cons.1 hp with rfl | hp
        ·exact .inr ⟨List.mem_cons_self,HG.out⟩
        ·exact .inl (List.mem_singleton.1 hp))
       clear z6 z6f
       obtain ⟨K6',e6,W6,_⟩:=(rd_ipc (t:=-1) (by omega) (by omega) HC.out.2.1 hc).2
       have EM:msV (mtT 3 (-1)) none 0=.agg #[.int .i64 3,.slice none 0 0,.int .i64 (-1),.int .i64 0,.int .i64 1,.int .i64 (-1),.int .i64 (-1)]:=rfl
       have C6:=hid (kg_ipc0 A KZ (by omega) (mtT 3 (-1)) rfl)
       rw [EM,e6] at C6
       rw [show tim K5.clock (-1)=-1 from if_neg (by omega)] at W6
       have HW6:=hid W6
       clear W6 e6 EM hc KZ C5 K6 HC
       refine C6.out.mono ?_
       rintro e w10 ⟨rfl,K7⟩
       have HA:=hid (And.intro K7 HW6.out)
       clear K7 C6 HW6
       go_wp2_with fail
       go_loopw [22] (fun i wr=>∃ (k:Nat) (K:RM),k<=tn/\i=.int .i64 k/\Hid (KG Rep w1 wr x K (311+k) [(h9,c5 1 6 (-1) a7 0 c7 ug,50),(w2.heap.size,#[.int .i64 3,.slice none 0 0,.int .i64 (-1),.int .i64 0,.int .i64 1,.int .i64 (-1),.int .i64 (-1)],43)]/\Wt 2 (-1) K)) (fun i _=>tn-(intOf i).toNat)
       case atStart=>exact ⟨0,K6',Nat.zero_le _,rfl,HA.out⟩
       case round=>
        clear HA
        obtain ⟨k6,K7,hk6,rfl,HC⟩:=hrel
        by_cases hkt:k6 < tn
        ·have kt:(k6:Int) < t:=by have:=HT.out;omega
         have HN:=hid (show Wt 2 (-1) K7.tick by
          obtain ⟨a,b,T,_⟩:=id HC.out.2
          have:=T.clk
          exact (HC.out.2.tick (by omega) (by omega)).1)
         go_wp2_with (go_at_call 19;refine (kg_tick A HC.out.1 (by omega)).mono ?_;rintro e w11 ⟨rfl,K8⟩;replace K8:=hid K8)
         first
          | exact ⟨⟨k6+1,K7.tick,by omega,by go_num,K8.out,HN.out⟩,by simp [intOf];omega⟩
          | (
           go_roundw
           case rel=>first | exact ⟨k6+1,K7.tick,by omega,by go_num,K8.out,HN.out⟩ | ((repeat apply Exists.intro);exact ⟨⟨k6+1,K7.tick,by omega,by go_num,K8.out,HN.out⟩,rfl⟩)
           case measure=>simp [intOf];omega)
        have kd:decide ((k6:Int) < t)=false:=by have:=HT.out;simp;omega
        obtain ⟨ua,ub,ut,u1,_⟩:=id HC.out.2
        have hu:K7.threads[0]? = some ua:=by rw [ut.th];rfl
        have C8:=hid (kg_look A HC.out.1 0 ua hu)
        rw [u1] at C8
        obtain ⟨ul,hul⟩:∃ n,ua.ws.length=n:=⟨_,rfl⟩
        rw [hul] at C8
        clear u1 hu ut hul hkt
        go_wp2_with fail
        refine C8.out.mono ?_
        rintro e w12 ⟨a12,c12,rfl,sl12,B12,N12,K9⟩
        have q9:=K9.get (g:=h9) (C:=c5 1 6 (-1) a7 0 c7 ug) (t:=50) List.mem_cons_self
        have s9:=setRow_heap w12 h9 _ (c5 2 ua.code ua.who a12 ul c12 ua.got) 50 (0,0) q9
        have KF:=hid (K9.frame A (g:=h9) (C:=c5 1 6 (-1) a7 0 c7 ug) (t:=50) (L':=[]) List.mem_cons_self ((Fr.refl (fun k=>k=h9) _).setRow (fun _=>rfl) _) s9 (fun p hp=>absurd hp (by simp)))
        obtain ⟨p0,p1,p2,p3,p4⟩:=c5_cells s9
        clear sl12 B12 N12 K9 C8 s9
        go_wp2_with (with_reducible (show wpList _ _ _ (⟨_,.store 50 _ _,_,_,_,none⟩ :: _) _ _);go_must (refine wpList_store_row rfl 50 _ _ rfl h9 (c5 2 ua.code ua.who a12 ul c12 ua.got) (by simp [Act.eval]) rfl 50 _ q9 (by kernel_rfl) rfl (c5_one _ _ _ _ _ _ _) ?_))
        go_ret
        exact ⟨rfl,(HB0.out.trans (HB1.out.mono HB0.out.size)).trans (KF.out.bel.mono (Nat.le_trans HB0.out.size HB1.out.size))⟩
      ·have hc1:K5.cur=1:=by have:=HC.out.2.1.cur;omega
       have hk0:=hid (show k4=0 by
        rcases Nat.lt_or_ge k4 1 with g | g
        ·omega
        ·exact absurd (HC.out.2.2 (by omega)) hc)
       have HY:=hid (HC.out.2.1.yield)
       have HZ:=hid (HY.out.2.2 hc)
       clear hc
       rw [hc1] at C5
       clear hc1
       go_wp2_with (first
        | (go_at_call 18;refine (C5.out _ (Below.refl _ _)).mono ?_;rintro e w9 ⟨rfl,K6⟩;replace K6:=hid K6)
        | (go_at_call 22;refine (kg_yield A K6.out (by omega)).mono ?_;rintro e w10 ⟨rfl,K7⟩;replace K7:=hid K7))
       first
        | exact ⟨⟨k4+1,K5.yield.2,by have:=hk0.out;omega,by go_num,K7.out,HY.out.2.1,fun _=>HZ.out⟩,by have:=hk0.out;simp [intOf];omega⟩
        | (
         go_roundw
         case rel=>first | exact ⟨k4+1,K5.yield.2,by have:=hk0.out;omega,by go_num,K7.out,HY.out.2.1,fun _=>HZ.out⟩ | ((repeat apply Exists.intro);exact ⟨⟨k4+1,K5.yield.2,by have:=hk0.out;omega,by go_num,K7.out,HY.out.2.1,fun _=>HZ.out⟩,rfl⟩)
         case measure=>have:=hk0.out;simp [intOf];omega)
   ·have hc1:K2.cur=1:=by have:=HC.out.2.1.cur;omega
    have hk0:=hid (show k2=0 by
     rcases Nat.lt_or_ge k2 1 with g | g
     ·omega
     ·exact absurd (HC.out.2.2 (by omega)) hc)
    have HY:=hid (HC.out.2.1.yield)
    have HZ:=hid (HY.out.2.2 hc)
    clear hc
    rw [hc1] at C5
    clear hc1
    go_wp2_with (first
     | (go_at_call 18;refine (C5.out _ (Below.refl _ _)).mono ?_;rintro e w4 ⟨rfl,K4⟩;replace K4:=hid K4)
     | (go_at_call 22;refine (kg_yield A K4.out (by omega)).mono ?_;rintro e w5 ⟨rfl,K5⟩;replace K5:=hid K5))
    first
     | exact ⟨⟨k2+1,K2.yield.2,by have:=hk0.out;omega,by go_num,K5.out,HY.out.2.1,fun _=>HZ.out⟩,by have:=hk0.out;simp [intOf];omega⟩
     | (
      go_roundw
      case rel=>first | exact ⟨k2+1,K2.yield.2,by have:=hk0.out;omega,by go_num,K5.out,HY.out.2.1,fun _=>HZ.out⟩ | ((repeat apply Exists.intro);exact ⟨⟨k2+1,K2.yield.2,by have:=hk0.out;omega,by go_num,K5.out,HY.out.2.1,fun _=>HZ.out⟩,rfl⟩)
      case measure=>have:=hk0.out;simp [intOf];omega)
end
end Go.Proofs.YteejjgbeknnmeaaGreatDoor
