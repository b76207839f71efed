import Derived.Test.YteejjgbeknnmeaaGreatDoorH11
import Derived.Lib.SliceRun
import Derived.Test.YteejjgbeknnmeaaGreatDoorH12
set_option maxRecDepth 100000
set_option maxHeartbeats 20000000
namespace Go.Proofs.YteejjgbeknnmeaaGreatDoor
open Go.RowKit
def th0:Th:=thOf (0,0,0,0)
def RM.nth (K:RM) (i:Nat):Th:=(K.threads[i]?).getD th0
def mtC (l:List Int) (r:Int):Ms:=⟨3,l,1,r,1,-1,-1⟩
def mtW:Ms:=⟨-1,[],-1,0,-1,4,-1⟩
def mtB (b:List Int):Ms:=⟨0,b,-1,0,-2,-1,0⟩
def mtLv (r:Int):List Lf:=[⟨0,1,5,3,-1,-1⟩,⟨1,4,5,r,0,1⟩]
def RM.met (K:RM) (l:List Int) (r:Int):RM:={ K.upd 1 (fun u=>{ u with st:=1,time:=-1,code:=0,who:=0,ws:=l,got:=4 }) with leaves:=mtLv r }
def mf2 (l:List Int) (r:Int):RM:=((tw0.asks 0 (mtC l r)).lendsTo 0 true).waits 0 2 1
def mf3 (l:List Int) (r:Int):RM:=(((mf2 l r).asks 1 mtW).met l r).waits 0 3 (-1)
def my0:RM:=tw0.yield.2
def my1:RM:=(my0.asks 1 mtW).waits 1 3 (-1)
def my3 (l:List Int) (r:Int):RM:=(((((my1.asks 0 (mtC l r)).lendsTo 0 true).met l r).toFirst 1)).waits 0 3 (-1)
theorem isMs_c {l:List Int}{r:Int}(hl:l.length<=4) (hr:r=1\/r=2\/r=3):isMs 2 (mtC l r)=true:=by
 rcases hr with rfl | rfl | rfl <;> simp [isMs,mtC,inI] <;> exact decide_eq_true (by omega)
theorem isMs_b {b:List Int}(hl:b.length<=4):isMs 2 (mtB b)=true:=by
 simp [isMs,mtB,inI]
 exact decide_eq_true (by omega)
theorem met_lend {a b:Th}{r:Int}(hr:r=1\/r=2\/r=3) (h1:a.item=1) (h2:a.lends=true) (h3:a.rt=r) (h4:a.sp=0) (h5:b.win=4) (h6:b.sp=1):lendL [⟨0,1,5,3,-1,-1⟩] a b=(mtLv r,4):=by
 have hg:goneL [⟨0,1,5,3,-1,-1⟩] b.sp b.win true=[(⟨0,1,5,3,-1,-1⟩:Lf)]:=by
  rw [h5,h6]
  refine gone_same ?_ ?_
  ·intro l hl
   have:l=⟨0,1,5,3,-1,-1⟩:=List.mem_singleton.1 hl
   subst this
   decide
  ·intro l hl
   have:l=⟨0,1,5,3,-1,-1⟩:=List.mem_singleton.1 hl
   subst this
   decide
 have hz:∀ r:Int,r=1\/r=2\/r=3->bits .and .i64 3 r=r:=fun r hr=>by rcases hr with rfl | rfl | rfl <;> decide
 have hb:=hz r hr
 rw [lendY (l:=⟨0,1,5,3,-1,-1⟩) (by rw [h1,h2,h5];decide) hg (by rw [h4,h1];rfl) (by show ¬ bits .and .i64 3 a.rt=0;rw [h3,hb];omega)]
 show ([⟨0,1,5,3,-1,-1⟩] ++ [(⟨b.sp,b.win,5,bits .and .i64 3 a.rt,a.sp,a.item⟩:Lf)],b.win)=_
 rw [h1,h3,h4,h5,h6,hb]
 rfl
theorem mf_ipc1 {l:List Int}{r:Int}(hl:l.length<=4) (hr:r=1\/r=2\/r=3):tw0.ipc (mtC l r)=(0,mf2 l r):=by
 rw [ipcS (K:=tw0) (m:=mtC l r) (t:=0) (r:=1) (u:=tw0.nth 0) (p:=(0,3,1,3)) (by kernel_rfl) (by kernel_rfl) (show isMs 2 (mtC l r)=true from isMs_c hl hr) (by show ¬ (3:Int) < 0;decide) (by kernel_rfl) (by decide) (by decide)]
 rw [sendsW (x:=tw0.nth 1) (by kernel_rfl) (by rintro ⟨h,_⟩;exact absurd h (by decide)) (by show (-1:Int)≠0;decide)]
 rfl
theorem mf_ipc2 {l:List Int}{r:Int}(hr:r=1\/r=2\/r=3):(mf2 l r).ipc mtW=(0,mf3 l r):=by
 rw [ipcR (t:=1) (by kernel_rfl) (by kernel_rfl) (by decide),recv_some (n:=6) (s:=0) (x:=((mf2 l r).asks 1 mtW).nth 1) (by kernel_rfl) (by kernel_rfl)]
 show (0,(((mf2 l r).asks 1 mtW).deliver 0 1).goes 6 0 false)=_
 rw [deliverE (a:=((mf2 l r).asks 1 mtW).nth 0) (b:=((mf2 l r).asks 1 mtW).nth 1) (L:=mtLv r) (g:=4) (by kernel_rfl) (by kernel_rfl) (met_lend hr (by kernel_rfl) (by kernel_rfl) (by kernel_rfl) (by kernel_rfl) (by kernel_rfl) (by kernel_rfl))]
 rw [goesR (z:=(mf2 l r).nth 0) (by kernel_rfl) (by show (1:Int)≠-2;decide),recvW (n:=5) (x:=(mf2 l r).nth 0) (by kernel_rfl) (by show (-1:Int) < 0;decide) (by show (-1:Int)≠0;decide)]
 rfl
theorem my_ipc1:my0.ipc mtW=(0,my1):=by
 rw [ipcR (t:=1) (by kernel_rfl) (by kernel_rfl) (by decide),recvW (n:=6) (x:=(my0.asks 1 mtW).nth 1) (by kernel_rfl) (by decide) (by decide)]
 rfl
theorem my_ipc2 {l:List Int}{r:Int}(hl:l.length<=4) (hr:r=1\/r=2\/r=3):my1.ipc (mtC l r)=(0,my3 l r):=by
 rw [ipcS (K:=my1) (m:=mtC l r) (t:=0) (r:=1) (u:=my1.nth 0) (p:=(0,3,1,3)) (by kernel_rfl) (by kernel_rfl) (show isMs 2 (mtC l r)=true from isMs_c hl hr) (by show ¬ (3:Int) < 0;decide) (by kernel_rfl) (by decide) (by decide)]
 rw [sendsN (x:=my1.nth 1) (by kernel_rfl) ⟨by kernel_rfl,.inl (by kernel_rfl)⟩]
 rw [deliverE (a:=((my1.asks 0 (mtC l r)).lendsTo 0 true).nth 0) (b:=((my1.asks 0 (mtC l r)).lendsTo 0 true).nth 1) (L:=mtLv r) (g:=4) (by kernel_rfl) (by kernel_rfl) (met_lend hr (by kernel_rfl) (by kernel_rfl) (by kernel_rfl) (by kernel_rfl) (by kernel_rfl) (by kernel_rfl))]
 rw [goesR (z:=((my1.asks 0 (mtC l r)).lendsTo 0 true).nth 0) (by kernel_rfl) (by show (1:Int)≠-2;decide),recvW (n:=6) (x:=((my1.asks 0 (mtC l r)).lendsTo 0 true).nth 0) (by kernel_rfl) (by show (-1:Int) < 0;decide) (by show (-1:Int)≠0;decide)]
 rfl
structure HeardAt (K:RM) (l:List Int) (r:Int):Prop where
 len:K.threads.length=2
 t1:∃ u,K.threads[1]? = some u/\u.st=1/\u.code=0/\u.who=0/\u.ws=l/\u.got=4
 t0:∃ u,K.threads[0]? = some u/\u.st=3
 cur:K.cur=1
 ld:(K.load 4 0).2=if r=2 then 7 else 0
 sd:(K.touch 4 0 2).2=if r=1 then 7 else 0
 an:∀ b:List Int,b.length<=4->∃ K2,(K.stored 4 0 3).ipc (mtB b)=(0,K2)/\(∃ u,K2.threads[0]? = some u/\u.st=1/\u.who=1/\u.got=-1/\u.ws=b)/\K2.cur=0/\K2.load 1 0=(if r=1 then 0 else 3,0)
def RM.back (K:RM) (b:List Int):RM:=((((K.asks 1 (mtB b)).lendsTo 1 true).upd 0 (fun u=>{ u with st:=1,time:=-1,code:=0,who:=1,ws:=b,got:=-1 })).toFirst 0).over 1 0
theorem back_ipc {K:RM}{b:List Int}{u v:Th}(hb:b.length<=4) (hc:K.cur=1) (hn:K.threads.length=2) (hp:findQ K.passes v.sp 0=some (1,0,0,3)) (hu:K.threads[0]? = some u) (hv:K.threads[1]? = some v) (h3:u.st=3) (h1:u.frm=1):K.ipc (mtB b)=(0,K.back b):=by
 rw [ipcS (t:=1) (r:=0) (u:=v) (p:=(1,0,0,3)) hc hv (by rw [hn];exact isMs_b hb) (by show ¬ (0:Int) < 0;decide) hp (by decide) (by decide)]
 have hu2:((K.asks 1 (mtB b)).lendsTo 1 true).threads[0]? = some u:=by
  show ((K.threads.modify 1 _).modify 1 _)[0]? = _
  rw [List.getElem?_modify,List.getElem?_modify,hu];rfl
 have hv2:((K.asks 1 (mtB b)).lendsTo 1 true).threads[1]? = some { v with dst:=0,mw:=b,item:=-1,rt:=0,frm:=-2,win:=-1,wait:=0,lends:=true }:=by
  show ((K.threads.modify 1 _).modify 1 _)[1]? = _
  rw [List.getElem?_modify,List.getElem?_modify,hv];rfl
 show (0,((K.asks 1 (mtB b)).lendsTo 1 true).sends 1 0 (mtB b))=_
 rw [sendsN (x:=u) hu2 ⟨h3,.inr (by rw [h1];rfl)⟩,deliverE hv2 hu2 (lendN (.inl (by show (-1:Int) < 0;decide)))]
 rw [goesO (z:={ v with dst:=0,mw:=b,item:=-1,rt:=0,frm:=-2,win:=-1,wait:=0,lends:=true }) (by
  show ((((K.threads.modify 1 _).modify 1 _).modify 0 _).modify 0 _)[1]? = _
  rw [List.getElem?_modify,List.getElem?_modify,List.getElem?_modify,List.getElem?_modify,hv];rfl) rfl]
 rfl
theorem mf_heard {l:List Int}{r:Int}(hr:r=1\/r=2\/r=3):HeardAt (mf3 l r) l r:=by
 refine ⟨by kernel_rfl,⟨(mf3 l r).nth 1,by kernel_rfl,by kernel_rfl,by kernel_rfl,by kernel_rfl,by kernel_rfl,by kernel_rfl⟩,⟨(mf3 l r).nth 0,by kernel_rfl,by kernel_rfl⟩,by kernel_rfl,?_,?_,fun b hb=>?_⟩
 ·rcases hr with rfl | rfl | rfl <;> kernel_rfl
 ·rcases hr with rfl | rfl | rfl <;> kernel_rfl
 ·rcases hr with rfl | rfl | rfl
  ·exact ⟨_,back_ipc (u:=(mf3 l 1).nth 0) (v:=(mf3 l 1).nth 1) hb (by kernel_rfl) (by kernel_rfl) (by kernel_rfl) (by kernel_rfl) (by kernel_rfl) (by kernel_rfl) (by kernel_rfl),⟨(((mf3 l 1).stored 4 0 3).back b).nth 0,by kernel_rfl,by kernel_rfl,by kernel_rfl,by kernel_rfl,by kernel_rfl⟩,by kernel_rfl,by kernel_rfl⟩
  ·exact ⟨_,back_ipc (u:=(mf3 l 2).nth 0) (v:=(mf3 l 2).nth 1) hb (by kernel_rfl) (by kernel_rfl) (by kernel_rfl) (by kernel_rfl) (by kernel_rfl) (by kernel_rfl) (by kernel_rfl),⟨(((mf3 l 2).stored 4 0 3).back b).nth 0,by kernel_rfl,by kernel_rfl,by kernel_rfl,by kernel_rfl,by kernel_rfl⟩,by kernel_rfl,by kernel_rfl⟩
  ·exact ⟨_,back_ipc (u:=(mf3 l 3).nth 0) (v:=(mf3 l 3).nth 1) hb (by kernel_rfl) (by kernel_rfl) (by kernel_rfl) (by kernel_rfl) (by kernel_rfl) (by kernel_rfl) (by kernel_rfl),⟨(((mf3 l 3).stored 4 0 3).back b).nth 0,by kernel_rfl,by kernel_rfl,by kernel_rfl,by kernel_rfl,by kernel_rfl⟩,by kernel_rfl,by kernel_rfl⟩
theorem my_heard {l:List Int}{r:Int}(hr:r=1\/r=2\/r=3):HeardAt (my3 l r) l r:=by
 refine ⟨by kernel_rfl,⟨(my3 l r).nth 1,by kernel_rfl,by kernel_rfl,by kernel_rfl,by kernel_rfl,by kernel_rfl,by kernel_rfl⟩,⟨(my3 l r).nth 0,by kernel_rfl,by kernel_rfl⟩,by kernel_rfl,?_,?_,fun b hb=>?_⟩
 ·rcases hr with rfl | rfl | rfl <;> kernel_rfl
 ·rcases hr with rfl | rfl | rfl <;> kernel_rfl
 ·rcases hr with rfl | rfl | rfl
  ·exact ⟨_,back_ipc (u:=(my3 l 1).nth 0) (v:=(my3 l 1).nth 1) hb (by kernel_rfl) (by kernel_rfl) (by kernel_rfl) (by kernel_rfl) (by kernel_rfl) (by kernel_rfl) (by kernel_rfl),⟨(((my3 l 1).stored 4 0 3).back b).nth 0,by kernel_rfl,by kernel_rfl,by kernel_rfl,by kernel_rfl,by kernel_rfl⟩,by kernel_rfl,by kernel_rfl⟩
  ·exact ⟨_,back_ipc (u:=(my3 l 2).nth 0) (v:=(my3 l 2).nth 1) hb (by kernel_rfl) (by kernel_rfl) (by kernel_rfl) (by kernel_rfl) (by kernel_rfl) (by kernel_rfl) (by kernel_rfl),⟨(((my3 l 2).stored 4 0 3).back b).nth 0,by kernel_rfl,by kernel_rfl,by kernel_rfl,by kernel_rfl,by kernel_rfl⟩,by kernel_rfl,by kernel_rfl⟩
  ·exact ⟨_,back_ipc (u:=(my3 l 3).nth 0) (v:=(my3 l 3).nth 1) hb (by kernel_rfl) (by kernel_rfl) (by kernel_rfl) (by kernel_rfl) (by kernel_rfl) (by kernel_rfl) (by kernel_rfl),⟨(((my3 l 3).stored 4 0 3).back b).nth 0,by kernel_rfl,by kernel_rfl,by kernel_rfl,by kernel_rfl,by kernel_rfl⟩,by kernel_rfl,by kernel_rfl⟩
open Go.RowKit
theorem Inl.take {w:World}{a:Option Addr}{n c:Nat}{ws:List Int}(h:Inl w 1 (.slice a n c) (ws.map lnI)) (k:Nat) (hk:k<=n) (hl:ws.length=n):Inl w 1 (.slice a k c) ((ws.take k).map lnI):=by
 obtain ⟨a',c',e,hm,hf⟩:=h.form
 simp only [Value.slice.injEq,List.length_map] at e
 obtain ⟨rfl,e2,rfl⟩:=e
 have hlk:(ws.take k).length=k:=by simp;omega
 refine ⟨fun r hr=>by obtain ⟨z,_,rfl⟩:=List.mem_map.1 hr;rfl,fun r hr u hu=>by obtain ⟨z,_,rfl⟩:=List.mem_map.1 hr;simp [lnI] at hu;subst hu;rfl,a,c,by rw [List.length_map,hlk],by simp at hm ⊢;omega,?_⟩
 rcases hf with hf | ⟨b,off,rfl,hr⟩
 ·left
  have:ws=[]:=by simpa using hf
  subst this
  simp
 ·right
  refine ⟨b,off,rfl,fun j v hv=>hr j v ?_⟩
  have ef:∀ l:List Int,(l.map lnI).flatten=l.map (Value.int .i64):=fun l=>by
   induction l with
   | nil=>rfl
   | cons z r ih=>simp [lnI,ih]
  rw [ef] at hv ⊢
  rw [List.getElem?_map] at hv ⊢
  rcases hx:(ws.take k)[j]? with _ | z
  ·rw [hx] at hv;simp at hv
  ·rw [hx] at hv
   rw [List.getElem?_take] at hx
   split at hx
   ·rw [hx];exact hv
   ·simp at hx
theorem short_any (a:Option Addr) (n c:Nat) (ws:List Int) (w:World) (hI:Inl w 1 (.slice a n c) (ws.map lnI)) (hl:ws.length=n) (hc:n<=c) :
  Calls Tryz.prog 21 #[.slice a n c] w fun e w'=>∃ k,e=.returned (.slice a k c)/\k<=n/\(ws.take 4).length=k/\Inl w 1 (.slice a k c) ((ws.take 4).map lnI)/\w'=w:=by
 by_cases h4:4 < n
 ·obtain ⟨b,off,rfl⟩:∃ b off,a=some ⟨b,off,none⟩:=by
   obtain ⟨a',c',e,_,hf⟩:=hI.form
   simp only [Value.slice.injEq] at e
   rcases hf with hf | ⟨b,off,h,_⟩
   ·have:ws=[]:=by simpa using hf
    subst this
    simp at hl;omega
   ·exact ⟨b,off,by rw [e.1,h]⟩
  have HI:=hid (hI.take 4 (by omega) hl)
  have h4':(4:Int) < (n:Int):=by omega
  have hlt:(ws.take 4).length=4:=by simp;omega
  have HL:=hid hlt
  clear hI hl hlt
  go_enter Tryz.func21,Tryz.ntmps21
  go_wp2
  go_ret
  exact ⟨4,rfl,by omega,HL.out,HI.out,rfl⟩
 ·have hd:decide ((4:Int) < (n:Int))=false:=by simp;omega
  have e:ws.take 4=ws:=List.take_of_length_le (by omega)
  have HI:=hid (And.intro hI (And.intro e hl))
  clear hI e hl
  go_enter Tryz.func21,Tryz.ntmps21
  go_wp2
  go_ret
  exact ⟨n,rfl,Nat.le_refl _,by rw [HI.out.2.1];exact HI.out.2.2,by rw [HI.out.2.1];exact HI.out.1,rfl⟩
open Go.RowKit
theorem Inl.inltK {w:World}{size:Nat}{v:Value}{rows:List (List Value)}(h:Inl w size v rows) (hs:0 < size){k:Nat}(hk:inBlock v=some k):k < w.heap.size:=by
 refine h.lt hs (fun e=>?_) hk
 subst e
 obtain ⟨a,c,rfl,_⟩:=h.form
 cases a <;> simp [inBlock] at hk
theorem c5_cells {w:World}{g:Nat}{st code who got:Int}{a:Option Addr}{n c:Nat}(h:w.heap[g]? = some (.cells (c5 st code who a n c got) 50 (0,0))) :
  w.cell? ⟨g,0,none⟩=some (.int .i64 st)/\w.cell? ⟨g,1,none⟩=some (.int .i64 code)/\w.cell? ⟨g,2,none⟩=some (.int .i64 who)/\w.cell? ⟨g,3,none⟩=some (.slice a n c)/\w.cell? ⟨g,4,none⟩=some (.int .i64 got):=
 ⟨(cell_of_row w g 0 _ _ _ h).trans rfl,(cell_of_row w g 1 _ _ _ h).trans rfl,(cell_of_row w g 2 _ _ _ h).trans rfl,(cell_of_row w g 3 _ _ _ h).trans rfl,(cell_of_row w g 4 _ _ _ h).trans rfl⟩
theorem word_at {w:World}{a:Option Addr}{n c:Nat}{l:List Int}(h:Inl w 1 (.slice a n c) (l.map lnI)){k:Nat}{z:Int}(hz:l[k]? = some z):∃ b o,a=some ⟨b,o,none⟩/\w.cell? ⟨b,o+k,none⟩=some (.int .i64 z):=by
 obtain ⟨b,o,e,r⟩:=h.row (k:=k) (r:=[.int .i64 z]) (by rw [List.getElem?_map,hz];rfl)
 refine ⟨b,o,e,?_⟩
 have:=r 0 (.int .i64 z) rfl
 rwa [Nat.mul_one,Nat.add_zero] at this
theorem word_out {w:World}{g n c:Nat}{l:List Int}(h:Sl w 2 1 (.slice (some ⟨g,0,none⟩) n c) (l.map lnI)){k:Nat}{z:Int}(hz:l[k]? = some z):w.cell? ⟨g,k,none⟩=some (.int .i64 z):=by
 have:=h.row (i:=k) (r:=[.int .i64 z]) (by rw [List.getElem?_map,hz];rfl) 0 _ rfl
 rwa [Nat.mul_one,Nat.add_zero] at this
section
variable {Rep:World->Nat->(Nat->Prop)->RM->Prop}(A:ApM Rep)
include A in
theorem heard_any {W w:World}{x:Nat}{S:Nat->Prop}{K:RM}{n:Nat}(h:KS Rep W w x S K n) (hn:n<=1000) (l b:List Int) (r:Int) (HA:HeardAt K l r) (hr:r=1\/r=2\/r=3)
  (al ab:Option Addr) (nl cl nb cb:Nat) (iL:Inl W 1 (.slice al nl cl) (l.map lnI)) (iB:Inl W 1 (.slice ab nb cb) (b.map lnI)) (el:l.length=nl) (eb:b.length=nb) (lb:nb<=4) (ll:nl<=4) :
  Calls Tryz.prog 24 #[.pointer (some ⟨x,0,none⟩),.slice al nl cl,.slice ab nb cb,.int .i64 r] w fun e w'=>e=.returned (.bool true)/\Below W.heap.size W w':=by
 obtain ⟨u1,hu1,s1,c1,o1,g1,t1⟩:=HA.t1
 obtain ⟨u0,hu0,s0⟩:=HA.t0
 obtain ⟨K2,hI2,⟨v0,hv0,vs0,vo0,vg0,vw0⟩,hc2,hl2⟩:=HA.an b (by omega)
 obtain ⟨b1,b2,f1,f2,f3,f4,f5⟩:∃ b1 b2,((K.load 4 0).2 == 0)=b1/\(bits .and .i64 r 1 != 0)=b1/\((K.touch 4 0 2).2 == 0)=b2/\(bits .and .i64 r 2 != 0)=b2/\((K2.load 1 0).1 == 3)=b2:=by
  rw [HA.ld,HA.sd,hl2]
  rcases hr with rfl | rfl | rfl
  ·exact ⟨true,false,by decide,by decide,by decide,by decide,by decide⟩
  ·exact ⟨false,true,by decide,by decide,by decide,by decide,by decide⟩
  ·exact ⟨true,true,by decide,by decide,by decide,by decide,by decide⟩
 have f6:(K2.load 1 0).2=0:=by rw [hl2]
 have C1:=hid (lookK_any A h 1 u1 hu1)
 rw [s1,c1,o1,g1,t1,el] at C1
 have HW:=hid (And.intro iL (And.intro iB (And.intro el (And.intro eb (And.intro hu0 (And.intro hI2 (And.intro hv0 HA.cur)))))))
 have HS:=hid (And.intro (h.lt A) h.bel.size)
 have HV:=hid (And.intro s0 (And.intro vs0 (And.intro vo0 (And.intro vg0 (And.intro vw0 (And.intro hc2 (And.intro f1 (And.intro f2 (And.intro f3 (And.intro f4 (And.intro f5 f6)))))))))))
 clear h iL iB hu1 s1 c1 o1 t1 HA hr g1 hu0 s0 hI2 hv0 vs0 vo0 vg0 vw0 hc2 hl2 f1 f2 f3 f4 f5 f6 el eb
 go_enter Tryz.func24,Tryz.ntmps24
 go_wp2_with fail
 refine C1.out.mono ?_
 rintro e w1 ⟨a1,cc1,rfl,sl1,B1,N1,K1⟩
 have K1':=K1.below A ((Below.refl _ w1).alloc (Nat.le_refl _) (.cells (c5 1 0 0 a1 nl cc1 4) 50))
 have C2:=hid (lookK_any A K1' 0 u0 HW.out.2.2.2.2.1)
 rw [HV.out.1] at C2
 obtain ⟨m0,hm0⟩:∃ m,u0.ws.length=m:=⟨_,rfl⟩
 rw [hm0] at C2
 have H1:=hid (And.intro sl1 (heap_alloc_new w1 (.cells (c5 1 0 0 a1 nl cc1 4) 50)))
 have Z01:=hid B1.size
 clear sl1 B1 N1 K1 K1' hm0
 go_wp2_with (with_reducible (show wpList _ _ _ (⟨_,.store 50 _ _,_,_,_,none⟩ :: _) _ _);go_must (refine wpList_store_new rfl 50 _ _ rfl w1 _ (c5 1 0 0 a1 nl cc1 4) 50 (by simp [Act.eval]) rfl (by kernel_rfl) rfl (c5_one _ _ _ _ _ _ _) ?_))
 refine C2.out.mono ?_
 rintro e w2 ⟨a2,cc2,rfl,sl2,B2,N2,K2'⟩
 have z2:=B2.size
 simp only [size_alloc] at z2
 have KB:=K2'.below A ((Below.refl _ w2).alloc (Nat.le_refl _) (.cells (c5 3 u0.code u0.who a2 m0 cc2 u0.got) 50))
 have q1:(w2.alloc (.cells (c5 3 u0.code u0.who a2 m0 cc2 u0.got) 50)).heap[w1.heap.size]? = some (.cells (c5 1 0 0 a1 nl cc1 4) 50 (0,0)):=(Below.heap_alloc _ _ _ (by omega)).trans ((B2.block _ (by simp)).trans H1.out.2)
 have q2:=heap_alloc_new w2 (.cells (c5 3 u0.code u0.who a2 m0 cc2 u0.got) 50)
 have BB:Below w1.heap.size w1 (w2.alloc (.cells (c5 3 u0.code u0.who a2 m0 cc2 u0.got) 50)):=(((Below.refl _ w1).alloc (Nat.le_refl _) _).trans (B2.mono (by simp))).alloc (by omega) _
 have S1:Sl (w2.alloc (.cells (c5 3 u0.code u0.who a2 m0 cc2 u0.got) 50)) 2 1 (.slice a1 nl cc1) (l.map lnI):=H1.out.1.kept (Fr.of_below BB (fun _=>False)) (fun _ _ h=>h)
 obtain ⟨p0,p1,p2,p3,p4⟩:=c5_cells q1
 obtain ⟨r0,r1,r2,r3,r4⟩:=c5_cells q2
 have C3:=hid (ks_current A KB)
 rw [HW.out.2.2.2.2.2.2.2] at C3
 have HB:=hid (And.intro KB (And.intro S1 (And.intro q1 q2)))
 have hnn:((nl:Int) != (nl:Int))=false:=by simp
 have Z12:=hid z2
 clear B2 N2 K2' sl2 KB q1 q2 BB S1 z2
 go_wp2_with (first
  | (with_reducible (show wpList _ _ _ (⟨_,.store 50 _ _,_,_,_,none⟩ :: _) _ _);go_must (refine wpList_store_new rfl 50 _ _ rfl w2 _ (c5 3 u0.code u0.who a2 m0 cc2 u0.got) 50 (by simp [Act.eval]) rfl (by kernel_rfl) rfl (c5_one _ _ _ _ _ _ _) ?_))
  | (go_at_call 18;refine C3.out.mono ?_;rintro e w3 ⟨rfl,B3,K3⟩;have H3:=hid (And.intro B3 K3);clear B3 K3))
 obtain ⟨wB,hwB⟩:∃ wB,w2.alloc (.cells (c5 3 u0.code u0.who a2 m0 cc2 u0.got) 50)=wB:=⟨_,rfl⟩
 have zB:w2.heap.size < wB.heap.size:=by rw [<- hwB];simp
 have z12:w1.heap.size < w2.heap.size:=by have:=Z12.out;omega
 rw [hwB] at HB H3
 clear hwB C3
 go_loopw [13] (fun i wr=>∃ k:Nat,k<=nl/\i=.int .i64 k/\Hid (Below w3.heap.size w3 wr)) (fun i _=>nl-(intOf i).toNat)
 case atStart=>exact ⟨0,Nat.zero_le _,rfl,Below.refl _ _⟩
 case round=>
  obtain ⟨k,hk,rfl,HQ⟩:=hrel
  have Bq:Below wB.heap.size wB wr:=H3.out.1.trans (HQ.out.mono H3.out.1.size)
  have Kq:=H3.out.2.below A HQ.out
  by_cases hkn:k < nl
  ·obtain ⟨z,hz⟩:∃ z,l[k]? = some z:=⟨_,List.getElem?_eq_getElem (by have:=HW.out.2.2.1;omega)⟩
   obtain ⟨bl,ol,ea,cw⟩:=word_at ((HW.out.1.below (by omega) Kq.bel)) hz
   subst ea
   have S2:=HB.out.2.1.kept (Fr.of_below Bq (fun _=>False)) (fun _ _ h=>h)
   obtain ⟨ga,ea,hx⟩:=S2.is_some (by omega)
   clear hx
   subst ea
   have ct:=word_out S2 hz
   have t3:=(c5_cells ((Bq.block _ (by omega)).trans HB.out.2.2.1)).2.2.2.1
   have hkn':(k:Int) < (nl:Int):=by omega
   have hzz:(z != z)=false:=by simp
   have lw:w1.heap.size < wr.heap.size:=by have:=Bq.size;omega
   have HX:=hid HQ.out
   clear S2 hz Kq Bq HQ
   go_wp2_with fail
   go_quiet (fail)
   go_wp2
   exact ⟨⟨k+1,by omega,by go_num,below_drewN HX.out _⟩,by simp [intOf];omega⟩
  ·have:k=nl:=by omega
   subst this
   have C4:=hid (ks_load A Kq 4 0)
   obtain ⟨e4,v4,he4,hv4⟩:∃ e4 v4,(K.load 4 0).2=e4/\(K.load 4 0).1=v4:=⟨_,_,rfl,rfl⟩
   obtain ⟨e5,he5⟩:∃ e5,(K.touch 4 0 2).2=e5:=⟨_,rfl⟩
   rw [he4,hv4] at C4
   have g1:=HV.out.2.2.2.2.2.2.1
   have g2:=HV.out.2.2.2.2.2.2.2.1
   have g3:=HV.out.2.2.2.2.2.2.2.2.1
   have g4:=HV.out.2.2.2.2.2.2.2.2.2.1
   rw [he4] at g1
   rw [he5] at g3
   have HX:=hid (And.intro Bq he5)
   clear Kq Bq HQ he4 he5 hv4
   go_wp2_with fail
   refine C4.out.mono ?_
   rintro e w4 ⟨rfl,B4,K4⟩
   have C5:=hid (ks_store A K4 4 0 3)
   rw [HX.out.2] at C5
   have LS:=hid (K4.lt A)
   have HB4:=hid B4
   clear B4 K4
   go_wp2_with fail
   refine C5.out.mono ?_
   rintro e w5 ⟨rfl,S5,K5,o5,F5⟩
   have n5:¬ S w2.heap.size:=fun hS=>by have:=HS.out.1 _ hS;have:=Z01.out;omega
   have y4:w2.heap.size < w4.heap.size:=by have:=HX.out.1.size;have:=HB4.out.size;omega
   have q4:=(HB4.out.block _ (by have:=HX.out.1.size;omega)).trans ((HX.out.1.block _ zB).trans HB.out.2.2.2)
   have q5:=(F5.block _ y4 n5).trans q4
   have m5:¬ S5 w2.heap.size:=fun hS=>by
    rcases o5 _ hS with g | g
    ·exact n5 g
    ·omega
   have y5:w2.heap.size < w5.heap.size:=by have:=F5.size;omega
   have HQ5:=hid (And.intro q5 (And.intro m5 y5))
   clear n5 y4 q4 q5 m5 y5 o5
   have C6:=hid (ks_ipc A K5 (by omega) (mtB b) ab cb (by show Inl w5 1 (.slice ab b.length cb) _;rw [HW.out.2.2.2.1];exact HW.out.2.1.below (by omega) K5.bel) (fun k hk hS=>by
    have hk2:inBlock (.slice ab b.length cb)=some k:=hk
    rw [HW.out.2.2.2.1] at hk2
    have:=HW.out.2.1.inltK (by omega) hk2
    have:=K5.new k hS
    omega))
   have E6:msV (mtB b) ab cb=.agg #[.int .i64 0,.slice ab nb cb,.int .i64 (-1),.int .i64 0,.int .i64 (-2),.int .i64 (-1),.int .i64 0]:=by
    show Value.agg #[.int .i64 0,.slice ab b.length cb,.int .i64 (-1),.int .i64 0,.int .i64 (-2),.int .i64 (-1),.int .i64 0]=_
    rw [HW.out.2.2.2.1]
   rw [E6,HW.out.2.2.2.2.2.1] at C6
   clear K5 F5 E6
   go_wp2_with fail
   refine C6.out.mono ?_
   rintro e w6 ⟨rfl,S6,K6,o6,F6⟩
   have q6:=(F6.block _ HQ5.out.2.2 HQ5.out.2.1).trans HQ5.out.1
   have y6:w2.heap.size < w6.heap.size:=by have:=F6.size;have:=HQ5.out.2.2;omega
   have C7:=hid (lookK_any A K6 0 v0 HW.out.2.2.2.2.2.2.1)
   rw [HV.out.2.1,HV.out.2.2.1,HV.out.2.2.2.1,HV.out.2.2.2.2.1,HW.out.2.2.2.1] at C7
   have m6:¬ S6 w2.heap.size:=fun hS=>by
    rcases o6 _ hS with g | g
    ·exact HQ5.out.2.1 g
    ·have:=HQ5.out.2.2;omega
   have HQ6:=hid (And.intro q6 (And.intro y6 m6))
   clear K6 F6 q6 y6 o6 m6
   go_wp2_with fail
   refine C7.out.mono ?_
   rintro e w7 ⟨a7,cc7,rfl,sl7,B7,N7,K7⟩
   have q7:=(B7.block _ HQ6.out.2.1).trans HQ6.out.1
   have y7:w2.heap.size < w7.heap.size:=by have:=B7.size;have:=HQ6.out.2.1;omega
   have q8:=setRow_heap w7 w2.heap.size _ (c5 1 v0.code 1 a7 nb cc7 (-1)) 50 (0,0) q7
   have F8:Fr (fun k=>k=w2.heap.size) w7 (w7.setRow w2.heap.size (c5 1 v0.code 1 a7 nb cc7 (-1))):=(Fr.refl (fun k=>k=w2.heap.size) _).setRow (fun _=>rfl) _
   have S8:=sl7.kept F8 (fun k hk e=>by have:=N7 k hk;have:=HQ6.out.2.1;omega)
   have K8:=K7.fr A F8 (fun k hk e=>HQ6.out.2.2 (e ▸ hk)) (fun k e=>by have:=HS.out.2;have:=Z01.out;omega)
   have HQ8:=hid (And.intro q8 (And.intro S8 (And.intro K8 y7)))
   obtain ⟨p0,p1,p2,p3,p4⟩:=c5_cells q8
   have hnb:((nb:Int) != (nb:Int))=false:=by simp
   clear F8 S8 K8 K7 sl7 B7 N7 C6 C5 C4 C7 y7
   go_wp2_with (with_reducible (show wpList _ _ _ (⟨_,.store 50 _ _,_,_,_,none⟩ :: _) _ _);go_must (refine wpList_store_row rfl 50 _ _ rfl w2.heap.size (c5 1 v0.code 1 a7 nb cc7 (-1)) (by simp [Act.eval]) rfl 50 _ q7 (by kernel_rfl) rfl (c5_one _ _ _ _ _ _ _) ?_))
   obtain ⟨w8,hw8⟩:∃ w8,w7.setRow w2.heap.size (c5 1 v0.code 1 a7 nb cc7 (-1))=w8:=⟨_,rfl⟩
   have z8:w8.heap.size=w7.heap.size:=by rw [<- hw8];simp [World.setRow]
   rw [hw8] at HQ8
   clear p0 p1 p2 p3 p4 r0 r1 r2 r3 r4
   rw [hw8]
   clear hw8
   go_loopw [17] (fun i wr=>∃ j:Nat,j<=nb/\i=.int .i64 j/\Hid (Below w8.heap.size w8 wr)) (fun i _=>nb-(intOf i).toNat)
   case atStart=>exact ⟨0,Nat.zero_le _,rfl,Below.refl _ _⟩
   case round=>
    obtain ⟨j,hj,rfl,HJ⟩:=hrel
    have Kj:=HQ8.out.2.2.1.below A HJ.out
    by_cases hjn:j < nb
    ·obtain ⟨z,hz⟩:∃ z,b[j]? = some z:=⟨_,List.getElem?_eq_getElem (by have:=HW.out.2.2.2.1;omega)⟩
     obtain ⟨bl,ol,ea,cw⟩:=word_at ((HW.out.2.1.below (by omega) Kj.bel)) hz
     subst ea
     have S2:=HQ8.out.2.1.kept (Fr.of_below HJ.out (fun _=>False)) (fun _ _ h=>h)
     obtain ⟨ga,ea,hx⟩:=S2.is_some (by omega)
     clear hx
     subst ea
     have ct:=word_out S2 hz
     have y8:=HQ8.out.2.2.2
     have t3:=(c5_cells ((HJ.out.block _ (by omega)).trans HQ8.out.1)).2.2.2.1
     have hjn':(j:Int) < (nb:Int):=by omega
     have hzz:(z != z)=false:=by simp
     have lw:w2.heap.size < wr.heap.size:=by have:=HJ.out.size;omega
     have HX:=hid HJ.out
     clear S2 hz Kj HJ y8
     go_wp2_with fail
     go_quiet (fail)
     go_wp2
     exact ⟨⟨j+1,by omega,by go_num,below_drewN HX.out _⟩,by simp [intOf];omega⟩
    ·have:j=nb:=by omega
     subst this
     have C9:=hid (ks_load A Kj 1 0)
     obtain ⟨v9,hv9⟩:∃ v9,(K2.load 1 0).1=v9:=⟨_,rfl⟩
     have g5:=HV.out.2.2.2.2.2.2.2.2.2.2.1
     rw [HV.out.2.2.2.2.2.2.2.2.2.2.2,hv9] at C9
     rw [hv9] at g5
     clear Kj hv9
     go_wp2_with fail
     refine C9.out.mono ?_
     rintro e w9 ⟨rfl,B9,K9⟩
     have C10:=hid (ks_current A K9)
     rw [HV.out.2.2.2.2.2.1] at C10
     clear B9 K9
     go_wp2_with (go_at_call 18;refine C10.out.mono ?_;rintro e w10 ⟨rfl,B10,K10⟩;have HK:=hid K10.bel;clear B10 K10)
     go_ret
     exact ⟨rfl,HK.out⟩
end
open Go.RowKit
theorem al2 (w:World) (o o':Obj):((w.alloc o).alloc o').heap[w.heap.size]? = some o:=(Below.heap_alloc _ _ _ (by simp)).trans (heap_alloc_new w o)
theorem al4 (w:World) (o o1 o2 o3:Obj):((((w.alloc o).alloc o1).alloc o2).alloc o3).heap[w.heap.size]? = some o/\((((w.alloc o).alloc o1).alloc o2).alloc o3).heap[w.heap.size+1]? = some o1/\((((w.alloc o).alloc o1).alloc o2).alloc o3).heap[w.heap.size+1+1]? = some o2/\((((w.alloc o).alloc o1).alloc o2).alloc o3).heap[w.heap.size+1+1+1]? = some o3/\w.heap.size+1+1+1 < ((((w.alloc o).alloc o1).alloc o2).alloc o3).heap.size:=by
 refine ⟨?_,?_,?_,?_,by simp⟩
 ·rw [Below.heap_alloc _ _ _ (by simp only [size_alloc];omega),Below.heap_alloc _ _ _ (by simp only [size_alloc];omega),Below.heap_alloc _ _ _ (by simp only [size_alloc];omega)];exact heap_alloc_new w o
 ·have:=heap_alloc_new (w.alloc o) o1
  rw [size_alloc] at this
  rw [Below.heap_alloc _ _ _ (by simp only [size_alloc];omega),Below.heap_alloc _ _ _ (by simp only [size_alloc];omega)];exact this
 ·have:=heap_alloc_new ((w.alloc o).alloc o1) o2
  rw [size_alloc,size_alloc] at this
  rw [Below.heap_alloc _ _ _ (by simp only [size_alloc];omega)];exact this
 ·have:=heap_alloc_new (((w.alloc o).alloc o1).alloc o2) o3
  rwa [size_alloc,size_alloc,size_alloc] at this
theorem Inl.take4 {w:World}{a:Option Addr}{n c k:Nat}{ws:List Int}(h:Inl w 1 (.slice a n c) (ws.map lnI)) (hl:ws.length=n) (hk:(ws.take 4).length=k):Inl w 1 (.slice a k c) ((ws.take 4).map lnI):=by
 have e:ws.take 4=ws.take k:=by
  rw [<- hk,List.length_take]
  by_cases h4:4<=ws.length
  ·rw [Nat.min_eq_left h4]
  ·rw [Nat.min_eq_right (by omega),List.take_of_length_le (by omega),List.take_length]
 rw [e]
 exact h.take k (by rw [<- hk,<- hl];simp;omega) hl
theorem al3 (w:World) (o o1 o2:Obj):(((w.alloc o).alloc o1).alloc o2).heap[w.heap.size+1]? = some o1:=by
 have:=al2 (w.alloc o) o1 o2
 rwa [size_alloc] at this
section
variable {Rep:World->Nat->(Nat->Prop)->RM->Prop}(A:ApM Rep)
include A in
theorem met_first (ws bs:List Int) (r0:Int) (a ab:Option Addr) (m cap mb cb:Nat) (w:World) (hg:Gl w) (h1:-9223372036854775808<=r0) (h2:r0<=9223372036854775807) (iW:Inl w 1 (.slice a m cap) (ws.map lnI)) (iB:Inl w 1 (.slice ab mb cb) (bs.map lnI)) (lW:ws.length=m) (lB:bs.length=mb) (cW:m<=cap) (cB:mb<=cb) :
  Calls Tryz.prog 8 #[.slice a m cap,.slice ab mb cb,.bool false,.int .i64 r0] w fun e w'=>e=.returned (.bool true)/\Below w.heap.size w w':=by
 have P1:=fun w=>pickK_any r0 3 w h1 h2 (by omega) (by omega)
 obtain ⟨r,hr0⟩:∃ r,1+pickI r0 3=r:=⟨_,rfl⟩
 have hr1:1<=r:=by have:=pickI_in r0 (n:=3) (by omega);omega
 have hr3:r<=3:=by have:=pickI_in r0 (n:=3) (by omega);omega
 have hr:r=1\/r=2\/r=3:=by have:=pickI_in r0 (n:=3) (by omega);omega
 have HW:=hid (And.intro iW (And.intro iB (And.intro lW (And.intro lB (And.intro cW (And.intro cB hr))))))
 have HP:=hid P1
 clear P1 h1 h2 iW iB lW lB cW cB hr
 go_enter Tryz.func8,Tryz.ntmps8
 go_wp2_with fail
 refine (two_any w).mono ?_
 rintro e w1 ⟨b1,b2,b3,rfl,i1,i2,i3,B1⟩
 have C2:=hid (boot_any A 2 _ _ _ _ _ _ _ _ _ twT twQ twL w1 (hg.below B1) i1 i2 i3 fits_tw 0)
 have HB1:=hid B1
 clear i1 i2 i3 B1 hg
 go_wp2_with fail
 refine C2.out.mono ?_
 rintro e w2 ⟨x,S2,rfl,K2,B2⟩
 have S3:=hid (short_any a m cap ws w2 ((HW.out.1.below (by omega) HB1.out).below (by omega) (B2.mono (HB1.out.size |> fun _=>Nat.le_refl _))) HW.out.2.2.1 HW.out.2.2.2.2.1)
 have HB2:=hid (And.intro B2 K2)
 clear B2 K2
 go_wp2_with fail
 refine S3.out.mono ?_
 rintro e w3 ⟨k,rfl,hk,lk,iK,hw⟩
 have hw:=hw.symm
 subst hw
 have HK:=hid (And.intro hk (And.intro lk iK))
 obtain ⟨l,hl⟩:∃ l,ws.take 4=l:=⟨_,rfl⟩
 have HL:=hid hl
 rw [hl] at HK
 have lk4:k<=4:=by have:=HK.out.2.1;rw [<- hl] at this;simp at this;omega
 clear hk lk iK S3 C2 hl
 go_wp2_with (first
  | (go_at_call 16;refine (HP.out _).mono ?_;rintro e w3 ⟨rfl,hw⟩;have hw:=hw.symm;subst hw)
  | (with_reducible (show wpList _ _ _ (⟨_,.store 43 (.tmp 12) _,_,_,_,none⟩ :: _) _ _);go_must (refine wpList_store_new rfl 43 _ _ rfl w2 _ #[.int .i64 3,.slice a k cap,.int .i64 1,.int .i64 r,.int .i64 1,.int .i64 (-1),.int .i64 (-1)] 43 (by simp [Act.eval]) rfl (by kernel_rfl) rfl (by simp [Value.oneCell']) ?_))
  | (with_reducible (show wpList _ _ _ (⟨_,.store 43 (.tmp 13) _,_,_,_,none⟩ :: _) _ _);go_must (refine wpList_store_new rfl 43 _ _ rfl (w2.alloc (.cells #[.int .i64 3,.slice a k cap,.int .i64 1,.int .i64 r,.int .i64 1,.int .i64 (-1),.int .i64 (-1)] 43)) _ #[.int .i64 (-1),.slice none 0 0,.int .i64 (-1),.int .i64 0,.int .i64 (-1),.int .i64 4,.int .i64 (-1)] 43 (by simp [Act.eval]) rfl (by kernel_rfl) rfl (by simp [Value.oneCell']) ?_))
  | (with_reducible (show wpList _ _ _ (⟨_,.load 43 (.tmp 12),_,_,_,none⟩ :: _) _ _);go_must (refine wpList_load_row rfl 43 _ rfl w2.heap.size (by simp [Act.eval,Act.put]) 43 #[.int .i64 3,.slice a k cap,.int .i64 1,.int .i64 r,.int .i64 1,.int .i64 (-1),.int .i64 (-1)] (0,0) _ (al2 _ _ _) Tryz.underlying43 rfl (by kernel_rfl) ?_))
  | (with_reducible (show wpList _ _ _ (⟨_,.load 43 (.tmp 13),_,_,_,none⟩ :: _) _ _);go_must (refine wpList_load_row rfl 43 _ rfl (w2.heap.size+1) (by simp [Act.eval,Act.put]) 43 #[.int .i64 (-1),.slice none 0 0,.int .i64 (-1),.int .i64 0,.int .i64 (-1),.int .i64 4,.int .i64 (-1)] (0,0) _ (al3 _ _ _ _) Tryz.underlying43 rfl (by kernel_rfl) ?_))
  | (with_reducible (show wpList _ _ _ (⟨_,.store 43 (.tmp 14) _,_,_,_,none⟩ :: _) _ _);go_must (refine wpList_store_new rfl 43 _ _ rfl ((w2.alloc (.cells #[.int .i64 3,.slice a k cap,.int .i64 1,.int .i64 r,.int .i64 1,.int .i64 (-1),.int .i64 (-1)] 43)).alloc (.cells #[.int .i64 (-1),.slice none 0 0,.int .i64 (-1),.int .i64 0,.int .i64 (-1),.int .i64 4,.int .i64 (-1)] 43)) _ #[.int .i64 3,.slice a k cap,.int .i64 1,.int .i64 r,.int .i64 1,.int .i64 (-1),.int .i64 (-1)] 43 (by simp [Act.eval]) rfl (by kernel_rfl) rfl (by simp [Value.oneCell']) ?_))
  | (with_reducible (show wpList _ _ _ (⟨_,.store 43 (.tmp 15) _,_,_,_,none⟩ :: _) _ _);go_must (refine wpList_store_new rfl 43 _ _ rfl (((w2.alloc (.cells #[.int .i64 3,.slice a k cap,.int .i64 1,.int .i64 r,.int .i64 1,.int .i64 (-1),.int .i64 (-1)] 43)).alloc (.cells #[.int .i64 (-1),.slice none 0 0,.int .i64 (-1),.int .i64 0,.int .i64 (-1),.int .i64 4,.int .i64 (-1)] 43)).alloc (.cells #[.int .i64 3,.slice a k cap,.int .i64 1,.int .i64 r,.int .i64 1,.int .i64 (-1),.int .i64 (-1)] 43)) _ #[.int .i64 (-1),.slice none 0 0,.int .i64 (-1),.int .i64 0,.int .i64 (-1),.int .i64 4,.int .i64 (-1)] 43 (by simp [Act.eval]) rfl (by kernel_rfl) rfl (by simp [Value.oneCell']) ?_)))
 have hbw:Below w2.heap.size w2 ((((w2.alloc (.cells #[.int .i64 3,.slice a k cap,.int .i64 1,.int .i64 r,.int .i64 1,.int .i64 (-1),.int .i64 (-1)] 43)).alloc (.cells #[.int .i64 (-1),.slice none 0 0,.int .i64 (-1),.int .i64 0,.int .i64 (-1),.int .i64 4,.int .i64 (-1)] 43)).alloc (.cells #[.int .i64 3,.slice a k cap,.int .i64 1,.int .i64 r,.int .i64 1,.int .i64 (-1),.int .i64 (-1)] 43)).alloc (.cells #[.int .i64 (-1),.slice none 0 0,.int .i64 (-1),.int .i64 0,.int .i64 (-1),.int .i64 4,.int .i64 (-1)] 43)):=((((Below.refl _ w2).alloc (Nat.le_refl _) _).alloc (by simp only [size_alloc];omega) _).alloc (by simp only [size_alloc];omega) _).alloc (by simp only [size_alloc];omega) _
 have hq:=al4 w2 (.cells #[.int .i64 3,.slice a k cap,.int .i64 1,.int .i64 r,.int .i64 1,.int .i64 (-1),.int .i64 (-1)] 43) (.cells #[.int .i64 (-1),.slice none 0 0,.int .i64 (-1),.int .i64 0,.int .i64 (-1),.int .i64 4,.int .i64 (-1)] 43) (.cells #[.int .i64 3,.slice a k cap,.int .i64 1,.int .i64 r,.int .i64 1,.int .i64 (-1),.int .i64 (-1)] 43) (.cells #[.int .i64 (-1),.slice none 0 0,.int .i64 (-1),.int .i64 0,.int .i64 (-1),.int .i64 4,.int .i64 (-1)] 43)
 obtain ⟨wx,hwx⟩:∃ wx,((((w2.alloc (.cells #[.int .i64 3,.slice a k cap,.int .i64 1,.int .i64 r,.int .i64 1,.int .i64 (-1),.int .i64 (-1)] 43)).alloc (.cells #[.int .i64 (-1),.slice none 0 0,.int .i64 (-1),.int .i64 0,.int .i64 (-1),.int .i64 4,.int .i64 (-1)] 43)).alloc (.cells #[.int .i64 3,.slice a k cap,.int .i64 1,.int .i64 r,.int .i64 1,.int .i64 (-1),.int .i64 (-1)] 43)).alloc (.cells #[.int .i64 (-1),.slice none 0 0,.int .i64 (-1),.int .i64 0,.int .i64 (-1),.int .i64 4,.int .i64 (-1)] 43))=wx:=⟨_,rfl⟩
 rw [hwx] at hbw hq
 rw [hwx]
 clear hwx
 have iK1:=(HW.out.1.below (by omega) HB1.out).take4 HW.out.2.2.1 (HL.out ▸ HK.out.2.1)
 rw [HL.out] at iK1
 have HX:=hid (And.intro hbw (And.intro hq iK1))
 have KX:=HB2.out.2.below A hbw
 have LX:=hid (HB2.out.2.lt A)
 have HT:=hid (show (RK.new 2 twT twQ twL).up=tw0 from rfl)
 rw [HT.out] at KX
 have EC:msV (mtC l r) a cap=.agg #[.int .i64 3,.slice a k cap,.int .i64 1,.int .i64 r,.int .i64 1,.int .i64 (-1),.int .i64 (-1)]:=by
  show Value.agg #[.int .i64 3,.slice a l.length cap,.int .i64 1,.int .i64 r,.int .i64 1,.int .i64 (-1),.int .i64 (-1)]=_
  rw [HK.out.2.1]
 have EW:msV mtW none 0=.agg #[.int .i64 (-1),.slice none 0 0,.int .i64 (-1),.int .i64 0,.int .i64 (-1),.int .i64 4,.int .i64 (-1)]:=rfl
 have HE:=hid (And.intro EC EW)
 clear hbw hq iK1 EC EW
 have C4:=hid (ks_current A KX)
 rw [show tw0.cur=0 by kernel_rfl] at C4
 clear KX
 refine C4.out.mono ?_
 rintro e w4 ⟨rfl,B4,K4⟩
 have C5:=hid (ks_ipc A K4 (by omega) (mtC l r) a cap (by show Inl w4 1 (.slice a l.length cap) _;rw [HK.out.2.1];exact HX.out.2.2.below (by omega) K4.bel) (fun i hk hS=>by have h1:inBlock (.slice a l.length cap)=some i:=hk;rw [HK.out.2.1] at h1;have:=HX.out.2.2.inltK (by omega) h1;have:=K4.new i hS;omega))
 rw [HE.out.1,mf_ipc1 (by have:=HK.out.2.1;omega) HW.out.2.2.2.2.2.2] at C5
 have zx:=HX.out.2.1.2.2.2.2
 have q14:=(B4.block _ (by omega)).trans HX.out.2.1.2.2.1
 have q15:=(B4.block _ zx).trans HX.out.2.1.2.2.2.1
 have z4:=B4.size
 have HQ4:=hid (And.intro q15 (Nat.lt_of_lt_of_le zx z4))
 clear K4 B4 q15 zx z4
 go_wp2_with (with_reducible (show wpList _ _ _ (⟨_,.load 43 (.tmp 14),_,_,_,none⟩ :: _) _ _);go_must (refine wpList_load_row rfl 43 _ rfl (w2.heap.size+1+1) (by simp [Act.eval]) 43 #[.int .i64 3,.slice a k cap,.int .i64 1,.int .i64 r,.int .i64 1,.int .i64 (-1),.int .i64 (-1)] (0,0) _ q14 Tryz.underlying43 rfl (by kernel_rfl) ?_))
 refine C5.out.mono ?_
 rintro e w5 ⟨rfl,S5,K5,o5,F5⟩
 have q15:=(F5.block _ HQ4.out.2 (fun hS=>by have:=LX.out _ hS;omega)).trans HQ4.out.1
 have HQ5:=hid (And.intro q15 (Nat.lt_of_lt_of_le HQ4.out.2 F5.size))
 have C6:=hid (ks_current A K5)
 rw [show (mf2 l r).cur=1 by kernel_rfl] at C6
 clear K5 o5 F5 q15 q14
 go_wp2_with fail
 refine C6.out.mono ?_
 rintro e w6 ⟨rfl,B6,K6⟩
 have q15:=(B6.block _ HQ5.out.2).trans HQ5.out.1
 have C7:=hid (ks_ipc A K6 (by omega) mtW none 0 (inl_nil w6) (fun k hk=>by simp [inBlock] at hk))
 rw [HE.out.2,mf_ipc2 HW.out.2.2.2.2.2.2] at C7
 clear K6 B6
 go_wp2_with (with_reducible (show wpList _ _ _ (⟨_,.load 43 (.tmp 15),_,_,_,none⟩ :: _) _ _);go_must (refine wpList_load_row rfl 43 _ rfl (w2.heap.size+1+1+1) (by simp [Act.eval]) 43 #[.int .i64 (-1),.slice none 0 0,.int .i64 (-1),.int .i64 0,.int .i64 (-1),.int .i64 4,.int .i64 (-1)] (0,0) _ q15 Tryz.underlying43 rfl (by kernel_rfl) ?_))
 refine C7.out.mono ?_
 rintro e w7 ⟨rfl,S7,K7,o7,F7⟩
 clear o7 F7 q15
 have S8:=hid (short_any ab mb cb bs w7 ((HW.out.2.1.below (by omega) HB1.out).below (by omega) K7.bel) HW.out.2.2.2.1 HW.out.2.2.2.2.2.1)
 have HK7:=hid K7
 clear K7
 go_wp2_with fail
 refine S8.out.mono ?_
 rintro e w8 ⟨k2,rfl,hk2,lk2,iK2,hw⟩
 have hw:=hw.symm
 subst hw
 have iK3:=(HW.out.2.1.below (by omega) HB1.out).take4 HW.out.2.2.2.1 lk2
 have C9:=hid (heard_any A HK7.out (by omega) l (bs.take 4) r (mf_heard HW.out.2.2.2.2.2.2) HW.out.2.2.2.2.2.2 a ab k cap k2 cb HX.out.2.2 iK3 HK.out.2.1 lk2 (by rw [<- lk2];simp;omega) lk4)
 clear iK3 iK2 lk2 hk2
 go_wp2_with fail
 refine C9.out.mono ?_
 rintro e w9 ⟨rfl,B9⟩
 have HB9:=hid B9
 clear B9
 go_wp2_with fail
 go_ret
 exact ⟨rfl,HB1.out.trans (HB9.out.mono HB1.out.size)⟩
include A in
theorem met_yield (ws bs:List Int) (r0:Int) (a ab:Option Addr) (m cap mb cb:Nat) (w:World) (hg:Gl w) (h1:-9223372036854775808<=r0) (h2:r0<=9223372036854775807) (iW:Inl w 1 (.slice a m cap) (ws.map lnI)) (iB:Inl w 1 (.slice ab mb cb) (bs.map lnI)) (lW:ws.length=m) (lB:bs.length=mb) (cW:m<=cap) (cB:mb<=cb) :
  Calls Tryz.prog 8 #[.slice a m cap,.slice ab mb cb,.bool true,.int .i64 r0] w fun e w'=>e=.returned (.bool true)/\Below w.heap.size w w':=by
 have P1:=fun w=>pickK_any r0 3 w h1 h2 (by omega) (by omega)
 obtain ⟨r,hr0⟩:∃ r,1+pickI r0 3=r:=⟨_,rfl⟩
 have hr1:1<=r:=by have:=pickI_in r0 (n:=3) (by omega);omega
 have hr3:r<=3:=by have:=pickI_in r0 (n:=3) (by omega);omega
 have hr:r=1\/r=2\/r=3:=by have:=pickI_in r0 (n:=3) (by omega);omega
 have HW:=hid (And.intro iW (And.intro iB (And.intro lW (And.intro lB (And.intro cW (And.intro cB hr))))))
 have HP:=hid P1
 clear P1 h1 h2 iW iB lW lB cW cB hr
 go_enter Tryz.func8,Tryz.ntmps8
 go_wp2_with fail
 refine (two_any w).mono ?_
 rintro e w1 ⟨b1,b2,b3,rfl,i1,i2,i3,B1⟩
 have C2:=hid (boot_any A 2 _ _ _ _ _ _ _ _ _ twT twQ twL w1 (hg.below B1) i1 i2 i3 fits_tw 0)
 have HB1:=hid B1
 clear i1 i2 i3 B1 hg
 go_wp2_with fail
 refine C2.out.mono ?_
 rintro e w2 ⟨x,S2,rfl,K2,B2⟩
 have S3:=hid (short_any a m cap ws w2 ((HW.out.1.below (by omega) HB1.out).below (by omega) (B2.mono (HB1.out.size |> fun _=>Nat.le_refl _))) HW.out.2.2.1 HW.out.2.2.2.2.1)
 have HB2:=hid (And.intro B2 K2)
 clear B2 K2
 go_wp2_with fail
 refine S3.out.mono ?_
 rintro e w3 ⟨k,rfl,hk,lk,iK,hw⟩
 have hw:=hw.symm
 subst hw
 have HK:=hid (And.intro hk (And.intro lk iK))
 obtain ⟨l,hl⟩:∃ l,ws.take 4=l:=⟨_,rfl⟩
 have HL:=hid hl
 rw [hl] at HK
 have lk4:k<=4:=by have:=HK.out.2.1;rw [<- hl] at this;simp at this;omega
 clear hk lk iK S3 C2 hl
 go_wp2_with (first
  | (go_at_call 16;refine (HP.out _).mono ?_;rintro e w3 ⟨rfl,hw⟩;have hw:=hw.symm;subst hw)
  | (with_reducible (show wpList _ _ _ (⟨_,.store 43 (.tmp 12) _,_,_,_,none⟩ :: _) _ _);go_must (refine wpList_store_new rfl 43 _ _ rfl w2 _ #[.int .i64 3,.slice a k cap,.int .i64 1,.int .i64 r,.int .i64 1,.int .i64 (-1),.int .i64 (-1)] 43 (by simp [Act.eval]) rfl (by kernel_rfl) rfl (by simp [Value.oneCell']) ?_))
  | (with_reducible (show wpList _ _ _ (⟨_,.store 43 (.tmp 13) _,_,_,_,none⟩ :: _) _ _);go_must (refine wpList_store_new rfl 43 _ _ rfl (w2.alloc (.cells #[.int .i64 3,.slice a k cap,.int .i64 1,.int .i64 r,.int .i64 1,.int .i64 (-1),.int .i64 (-1)] 43)) _ #[.int .i64 (-1),.slice none 0 0,.int .i64 (-1),.int .i64 0,.int .i64 (-1),.int .i64 4,.int .i64 (-1)] 43 (by simp [Act.eval]) rfl (by kernel_rfl) rfl (by simp [Value.oneCell']) ?_))
  | (with_reducible (show wpList _ _ _ (⟨_,.load 43 (.tmp 12),_,_,_,none⟩ :: _) _ _);go_must (refine wpList_load_row rfl 43 _ rfl w2.heap.size (by simp [Act.eval,Act.put]) 43 #[.int .i64 3,.slice a k cap,.int .i64 1,.int .i64 r,.int .i64 1,.int .i64 (-1),.int .i64 (-1)] (0,0) _ (al2 _ _ _) Tryz.underlying43 rfl (by kernel_rfl) ?_))
  | (with_reducible (show wpList _ _ _ (⟨_,.load 43 (.tmp 13),_,_,_,none⟩ :: _) _ _);go_must (refine wpList_load_row rfl 43 _ rfl (w2.heap.size+1) (by simp [Act.eval,Act.put]) 43 #[.int .i64 (-1),.slice none 0 0,.int .i64 (-1),.int .i64 0,.int .i64 (-1),.int .i64 4,.int .i64 (-1)] (0,0) _ (al3 _ _ _ _) Tryz.underlying43 rfl (by kernel_rfl) ?_))
  | (with_reducible (show wpList _ _ _ (⟨_,.store 43 (.tmp 14) _,_,_,_,none⟩ :: _) _ _);go_must (refine wpList_store_new rfl 43 _ _ rfl ((w2.alloc (.cells #[.int .i64 3,.slice a k cap,.int .i64 1,.int .i64 r,.int .i64 1,.int .i64 (-1),.int .i64 (-1)] 43)).alloc (.cells #[.int .i64 (-1),.slice none 0 0,.int .i64 (-1),.int .i64 0,.int .i64 (-1),.int .i64 4,.int .i64 (-1)] 43)) _ #[.int .i64 3,.slice a k cap,.int .i64 1,.int .i64 r,.int .i64 1,.int .i64 (-1),.int .i64 (-1)] 43 (by simp [Act.eval]) rfl (by kernel_rfl) rfl (by simp [Value.oneCell']) ?_))
  | (with_reducible (show wpList _ _ _ (⟨_,.store 43 (.tmp 15) _,_,_,_,none⟩ :: _) _ _);go_must (refine wpList_store_new rfl 43 _ _ rfl (((w2.alloc (.cells #[.int .i64 3,.slice a k cap,.int .i64 1,.int .i64 r,.int .i64 1,.int .i64 (-1),.int .i64 (-1)] 43)).alloc (.cells #[.int .i64 (-1),.slice none 0 0,.int .i64 (-1),.int .i64 0,.int .i64 (-1),.int .i64 4,.int .i64 (-1)] 43)).alloc (.cells #[.int .i64 3,.slice a k cap,.int .i64 1,.int .i64 r,.int .i64 1,.int .i64 (-1),.int .i64 (-1)] 43)) _ #[.int .i64 (-1),.slice none 0 0,.int .i64 (-1),.int .i64 0,.int .i64 (-1),.int .i64 4,.int .i64 (-1)] 43 (by simp [Act.eval]) rfl (by kernel_rfl) rfl (by simp [Value.oneCell']) ?_)))
 have hbw:Below w2.heap.size w2 ((((w2.alloc (.cells #[.int .i64 3,.slice a k cap,.int .i64 1,.int .i64 r,.int .i64 1,.int .i64 (-1),.int .i64 (-1)] 43)).alloc (.cells #[.int .i64 (-1),.slice none 0 0,.int .i64 (-1),.int .i64 0,.int .i64 (-1),.int .i64 4,.int .i64 (-1)] 43)).alloc (.cells #[.int .i64 3,.slice a k cap,.int .i64 1,.int .i64 r,.int .i64 1,.int .i64 (-1),.int .i64 (-1)] 43)).alloc (.cells #[.int .i64 (-1),.slice none 0 0,.int .i64 (-1),.int .i64 0,.int .i64 (-1),.int .i64 4,.int .i64 (-1)] 43)):=((((Below.refl _ w2).alloc (Nat.le_refl _) _).alloc (by simp only [size_alloc];omega) _).alloc (by simp only [size_alloc];omega) _).alloc (by simp only [size_alloc];omega) _
 have hq:=al4 w2 (.cells #[.int .i64 3,.slice a k cap,.int .i64 1,.int .i64 r,.int .i64 1,.int .i64 (-1),.int .i64 (-1)] 43) (.cells #[.int .i64 (-1),.slice none 0 0,.int .i64 (-1),.int .i64 0,.int .i64 (-1),.int .i64 4,.int .i64 (-1)] 43) (.cells #[.int .i64 3,.slice a k cap,.int .i64 1,.int .i64 r,.int .i64 1,.int .i64 (-1),.int .i64 (-1)] 43) (.cells #[.int .i64 (-1),.slice none 0 0,.int .i64 (-1),.int .i64 0,.int .i64 (-1),.int .i64 4,.int .i64 (-1)] 43)
 obtain ⟨wx,hwx⟩:∃ wx,((((w2.alloc (.cells #[.int .i64 3,.slice a k cap,.int .i64 1,.int .i64 r,.int .i64 1,.int .i64 (-1),.int .i64 (-1)] 43)).alloc (.cells #[.int .i64 (-1),.slice none 0 0,.int .i64 (-1),.int .i64 0,.int .i64 (-1),.int .i64 4,.int .i64 (-1)] 43)).alloc (.cells #[.int .i64 3,.slice a k cap,.int .i64 1,.int .i64 r,.int .i64 1,.int .i64 (-1),.int .i64 (-1)] 43)).alloc (.cells #[.int .i64 (-1),.slice none 0 0,.int .i64 (-1),.int .i64 0,.int .i64 (-1),.int .i64 4,.int .i64 (-1)] 43))=wx:=⟨_,rfl⟩
 rw [hwx] at hbw hq
 rw [hwx]
 clear hwx
 have iK1:=(HW.out.1.below (by omega) HB1.out).take4 HW.out.2.2.1 (HL.out ▸ HK.out.2.1)
 rw [HL.out] at iK1
 have HX:=hid (And.intro hbw (And.intro hq iK1))
 have KX:=HB2.out.2.below A hbw
 have LX:=hid (HB2.out.2.lt A)
 have HT:=hid (show (RK.new 2 twT twQ twL).up=tw0 from rfl)
 rw [HT.out] at KX
 have EC:msV (mtC l r) a cap=.agg #[.int .i64 3,.slice a k cap,.int .i64 1,.int .i64 r,.int .i64 1,.int .i64 (-1),.int .i64 (-1)]:=by
  show Value.agg #[.int .i64 3,.slice a l.length cap,.int .i64 1,.int .i64 r,.int .i64 1,.int .i64 (-1),.int .i64 (-1)]=_
  rw [HK.out.2.1]
 have EW:msV mtW none 0=.agg #[.int .i64 (-1),.slice none 0 0,.int .i64 (-1),.int .i64 0,.int .i64 (-1),.int .i64 4,.int .i64 (-1)]:=rfl
 have HE:=hid (And.intro EC EW)
 clear hbw hq iK1 EC EW
 have C4:=hid (ks_yield A KX (by omega))
 rw [show tw0.yield.1=0 by kernel_rfl,show tw0.yield.2=my0 by kernel_rfl] at C4
 clear KX
 refine C4.out.mono ?_
 rintro e w4 ⟨rfl,S4,K4,o4,F4⟩
 have zx:=HX.out.2.1.2.2.2.2
 have z4:(w2.heap.size+1+1+1) < w4.heap.size:=by have:=F4.size;omega
 have n4:∀ i,S4 i->i < w2.heap.size\/(w2.heap.size+1+1+1) < i:=fun i hi=>by
  rcases o4 i hi with g | g
  ·exact .inl (LX.out _ g)
  ·right;omega
 have p12:=(F4.block w2.heap.size (by omega) (fun hS=>by have:=LX.out _ hS;omega)).trans HX.out.2.1.1
 have p13:=(F4.block (w2.heap.size+1) (by omega) (fun hS=>by have:=LX.out _ hS;omega)).trans HX.out.2.1.2.1
 have p14:=(F4.block (w2.heap.size+1+1) (by omega) (fun hS=>by have:=LX.out _ hS;omega)).trans HX.out.2.1.2.2.1
 have p15:=(F4.block (w2.heap.size+1+1+1) (by omega) (fun hS=>by have:=LX.out _ hS;omega)).trans HX.out.2.1.2.2.2.1
 have s14:=setRow_heap w4 (w2.heap.size+1+1) _ #[.int .i64 (-1),.slice none 0 0,.int .i64 (-1),.int .i64 0,.int .i64 (-1),.int .i64 4,.int .i64 (-1)] 43 (0,0) p14
 have D1:Fr (fun k=>k=(w2.heap.size+1+1)) w4 (w4.setRow (w2.heap.size+1+1) #[.int .i64 (-1),.slice none 0 0,.int .i64 (-1),.int .i64 0,.int .i64 (-1),.int .i64 4,.int .i64 (-1)]):=(Fr.refl (fun k=>k=(w2.heap.size+1+1)) _).setRow (fun _=>rfl) _
 have r12:=(D1.block w2.heap.size (by omega) (by omega)).trans p12
 have r15:=(D1.block (w2.heap.size+1+1+1) (by omega) (by omega)).trans p15
 have s15:=setRow_heap (w4.setRow (w2.heap.size+1+1) #[.int .i64 (-1),.slice none 0 0,.int .i64 (-1),.int .i64 0,.int .i64 (-1),.int .i64 4,.int .i64 (-1)]) (w2.heap.size+1+1+1) _ #[.int .i64 3,.slice a k cap,.int .i64 1,.int .i64 r,.int .i64 1,.int .i64 (-1),.int .i64 (-1)] 43 (0,0) r15
 have D2:Fr (fun k=>k=(w2.heap.size+1+1+1)) (w4.setRow (w2.heap.size+1+1) #[.int .i64 (-1),.slice none 0 0,.int .i64 (-1),.int .i64 0,.int .i64 (-1),.int .i64 4,.int .i64 (-1)]) ((w4.setRow (w2.heap.size+1+1) #[.int .i64 (-1),.slice none 0 0,.int .i64 (-1),.int .i64 0,.int .i64 (-1),.int .i64 4,.int .i64 (-1)]).setRow (w2.heap.size+1+1+1) #[.int .i64 3,.slice a k cap,.int .i64 1,.int .i64 r,.int .i64 1,.int .i64 (-1),.int .i64 (-1)]):=(Fr.refl (fun k=>k=(w2.heap.size+1+1+1)) _).setRow (fun _=>rfl) _
 have zd:w4.heap.size<=(w4.setRow (w2.heap.size+1+1) #[.int .i64 (-1),.slice none 0 0,.int .i64 (-1),.int .i64 0,.int .i64 (-1),.int .i64 4,.int .i64 (-1)]).heap.size:=D1.size
 have s14':=(D2.block (w2.heap.size+1+1) (by omega) (by omega)).trans s14
 have K4':=(K4.fr A D1 (fun i hi e=>by have:=n4 i hi;omega) (fun i e=>by have:=HB2.out.1.size;omega)).fr A D2 (fun i hi e=>by have:=n4 i hi;omega) (fun i e=>by have:=HB2.out.1.size;omega)
 have zz:w4.heap.size<=((w4.setRow (w2.heap.size+1+1) #[.int .i64 (-1),.slice none 0 0,.int .i64 (-1),.int .i64 0,.int .i64 (-1),.int .i64 4,.int .i64 (-1)]).setRow (w2.heap.size+1+1+1) #[.int .i64 3,.slice a k cap,.int .i64 1,.int .i64 r,.int .i64 1,.int .i64 (-1),.int .i64 (-1)]).heap.size:=Nat.le_trans zd D2.size
 have HY:=hid (And.intro K4' (And.intro s14' (And.intro s15 (And.intro (Nat.lt_of_lt_of_le z4 zz) n4))))
 clear K4 K4' s14 s14' s15 D1 D2 zd zz F4 o4 n4 zx z4
 go_wp2_with (first
  | (with_reducible (show wpList _ _ _ (⟨_,.load 43 (.tmp 13),_,_,_,none⟩ :: _) _ _);go_must (refine wpList_load_row rfl 43 _ rfl (w2.heap.size+1) (by simp [Act.eval]) 43 #[.int .i64 (-1),.slice none 0 0,.int .i64 (-1),.int .i64 0,.int .i64 (-1),.int .i64 4,.int .i64 (-1)] (0,0) _ p13 Tryz.underlying43 rfl (by kernel_rfl) ?_))
  | (with_reducible (show wpList _ _ _ (⟨_,.store 43 (.tmp 14) _,_,_,_,none⟩ :: _) _ _);go_must (refine wpList_store_row rfl 43 _ _ rfl (w2.heap.size+1+1) #[.int .i64 (-1),.slice none 0 0,.int .i64 (-1),.int .i64 0,.int .i64 (-1),.int .i64 4,.int .i64 (-1)] (by simp [Act.eval,Act.put]) rfl 43 _ p14 (by kernel_rfl) rfl (by simp [Value.oneCell']) ?_))
  | (with_reducible (show wpList _ _ _ (⟨_,.load 43 (.tmp 12),_,_,_,none⟩ :: _) _ _);go_must (refine wpList_load_row rfl 43 _ rfl w2.heap.size (by simp [Act.eval,Act.put]) 43 #[.int .i64 3,.slice a k cap,.int .i64 1,.int .i64 r,.int .i64 1,.int .i64 (-1),.int .i64 (-1)] (0,0) _ r12 Tryz.underlying43 rfl (by kernel_rfl) ?_))
  | (with_reducible (show wpList _ _ _ (⟨_,.store 43 (.tmp 15) _,_,_,_,none⟩ :: _) _ _);go_must (refine wpList_store_row rfl 43 _ _ rfl (w2.heap.size+1+1+1) #[.int .i64 3,.slice a k cap,.int .i64 1,.int .i64 r,.int .i64 1,.int .i64 (-1),.int .i64 (-1)] (by simp [Act.eval,Act.put]) rfl 43 _ r15 (by kernel_rfl) rfl (by simp [Value.oneCell']) ?_)))
 clear p12 p13 p14 p15 r12 r15
 obtain ⟨wy,hwy⟩:∃ wy,(w4.setRow (w2.heap.size+1+1) #[.int .i64 (-1),.slice none 0 0,.int .i64 (-1),.int .i64 0,.int .i64 (-1),.int .i64 4,.int .i64 (-1)]).setRow (w2.heap.size+1+1+1) #[.int .i64 3,.slice a k cap,.int .i64 1,.int .i64 r,.int .i64 1,.int .i64 (-1),.int .i64 (-1)]=wy:=⟨_,rfl⟩
 rw [hwy] at HY
 rw [hwy]
 clear hwy
 have C4:=hid (ks_current A HY.out.1)
 rw [show my0.cur=1 by kernel_rfl] at C4
 refine C4.out.mono ?_
 rintro e w4 ⟨rfl,B4,K4⟩
 have C5:=hid (ks_ipc A K4 (by omega) mtW none 0 (inl_nil w4) (fun k hk=>by simp [inBlock] at hk))
 rw [HE.out.2,my_ipc1] at C5
 have q14:=(B4.block _ (by have:=HY.out.2.2.2.1;omega)).trans HY.out.2.1
 have q15:=(B4.block _ HY.out.2.2.2.1).trans HY.out.2.2.1
 have z4:=B4.size
 have HQ4:=hid (And.intro q15 (Nat.lt_of_lt_of_le HY.out.2.2.2.1 z4))
 clear K4 B4 q15 z4
 go_wp2_with (with_reducible (show wpList _ _ _ (⟨_,.load 43 (.tmp 14),_,_,_,none⟩ :: _) _ _);go_must (refine wpList_load_row rfl 43 _ rfl (w2.heap.size+1+1) (by simp [Act.eval]) 43 #[.int .i64 (-1),.slice none 0 0,.int .i64 (-1),.int .i64 0,.int .i64 (-1),.int .i64 4,.int .i64 (-1)] (0,0) _ q14 Tryz.underlying43 rfl (by kernel_rfl) ?_))
 refine C5.out.mono ?_
 rintro e w5 ⟨rfl,S5,K5,o5,F5⟩
 have q15:=(F5.block _ HQ4.out.2 (fun hS=>by have:=HY.out.2.2.2.2 _ hS;omega)).trans HQ4.out.1
 have HQ5:=hid (And.intro q15 (Nat.lt_of_lt_of_le HQ4.out.2 F5.size))
 have C6:=hid (ks_current A K5)
 rw [show my1.cur=0 by kernel_rfl] at C6
 clear K5 o5 F5 q15 q14
 go_wp2_with fail
 refine C6.out.mono ?_
 rintro e w6 ⟨rfl,B6,K6⟩
 have q15:=(B6.block _ HQ5.out.2).trans HQ5.out.1
 have C7:=hid (ks_ipc A K6 (by omega) (mtC l r) a cap (by show Inl w6 1 (.slice a l.length cap) _;rw [HK.out.2.1];exact HX.out.2.2.below (by omega) K6.bel) (fun i hk hS=>by have h1:inBlock (.slice a l.length cap)=some i:=hk;rw [HK.out.2.1] at h1;have:=HX.out.2.2.inltK (by omega) h1;have:=K6.new i hS;omega))
 rw [HE.out.1,my_ipc2 (by have:=HK.out.2.1;omega) HW.out.2.2.2.2.2.2] at C7
 clear K6 B6
 go_wp2_with (with_reducible (show wpList _ _ _ (⟨_,.load 43 (.tmp 15),_,_,_,none⟩ :: _) _ _);go_must (refine wpList_load_row rfl 43 _ rfl (w2.heap.size+1+1+1) (by simp [Act.eval]) 43 #[.int .i64 3,.slice a k cap,.int .i64 1,.int .i64 r,.int .i64 1,.int .i64 (-1),.int .i64 (-1)] (0,0) _ q15 Tryz.underlying43 rfl (by kernel_rfl) ?_))
 refine C7.out.mono ?_
 rintro e w7 ⟨rfl,S7,K7,o7,F7⟩
 clear o7 F7 q15
 have S8:=hid (short_any ab mb cb bs w7 ((HW.out.2.1.below (by omega) HB1.out).below (by omega) K7.bel) HW.out.2.2.2.1 HW.out.2.2.2.2.2.1)
 have HK7:=hid K7
 clear K7
 go_wp2_with fail
 refine S8.out.mono ?_
 rintro e w8 ⟨k2,rfl,hk2,lk2,iK2,hw⟩
 have hw:=hw.symm
 subst hw
 have iK3:=(HW.out.2.1.below (by omega) HB1.out).take4 HW.out.2.2.2.1 lk2
 have C9:=hid (heard_any A HK7.out (by omega) l (bs.take 4) r (my_heard HW.out.2.2.2.2.2.2) HW.out.2.2.2.2.2.2 a ab k cap k2 cb HX.out.2.2 iK3 HK.out.2.1 lk2 (by rw [<- lk2];simp;omega) lk4)
 clear iK3 iK2 lk2 hk2
 go_wp2_with fail
 refine C9.out.mono ?_
 rintro e w9 ⟨rfl,B9⟩
 have HB9:=hid B9
 clear B9
 go_wp2_with fail
 go_ret
 exact ⟨rfl,HB1.out.trans (HB9.out.mono HB1.out.size)⟩
end
open Go.RowKit
theorem cur2b {K:RM}{a b:Th}(ht:K.threads=[a,b]) (hb:b.st=1) (h:a.st≠1\/(a.row=b.row/\b.ord < a.ord)):K.cur=1:=by
 show curM K.threads K.threads.length=_
 rw [ht]
 show curStep [a,b] (curStep [a,b] (-1) 0) 1=1
 by_cases ha:a.st=1
 ·have h2:a.row=b.row/\b.ord < a.ord:=by
   rcases h with h | h
   ·exact absurd ha h
   ·exact h
  have e1:curStep [a,b] (-1) 0=0:=by simp [curStep,ha]
  rw [e1]
  simp [curStep,hb,h2]
 ·have e1:curStep [a,b] (-1) 0=-1:=by simp [curStep,ha]
  rw [e1]
  simp [curStep,hb]
theorem cur2a {K:RM}{a b:Th}(ht:K.threads=[a,b]) (ha:a.st=1) (h:a.row=b.row/\a.ord < b.ord):K.cur=0:=by
 show curM K.threads K.threads.length=_
 rw [ht]
 show curStep [a,b] (curStep [a,b] (-1) 0) 1=0
 have e1:curStep [a,b] (-1) 0=0:=by simp [curStep,ha]
 rw [e1]
 have:¬ (a.row < b.row\/(b.row=a.row/\b.ord < a.ord)):=by omega
 by_cases hb:b.st=1
 ·simp [curStep,hb];omega
 ·simp [curStep,hb]
theorem spent0 {K:RM} {a b:Th} (ht:K.threads=[a,b]) (hc:K.cur=0):∃ l o L,K.spent={ K with threads:=[{ a with left:=l,ord:=o },b],last:=L }/\((o=a.ord/\L=K.last)\/(o=K.last/\L=K.last+1)):=by
 have e:K.spent=if a.left-1=0 then (K.setLeft 0 3).toLast 0 else K.setLeft 0 (a.left-1):=by
  unfold RM.spent
  rw [hc,ht]
  rfl
 rw [e]
 by_cases h:a.left-1=0
 ·rw [if_pos h]
  exact ⟨3,K.last,K.last+1,by simp [RM.setLeft,RM.toLast,RM.upd,ht],.inr ⟨rfl,rfl⟩⟩
 ·rw [if_neg h]
  exact ⟨a.left-1,a.ord,K.last,by simp [RM.setLeft,RM.upd,ht],.inl ⟨rfl,rfl⟩⟩
theorem spent1 {K:RM} {a b:Th} (ht:K.threads=[a,b]) (hc:K.cur=1):∃ l o L,K.spent={ K with threads:=[a,{ b with left:=l,ord:=o }],last:=L }/\((o=b.ord/\L=K.last)\/(o=K.last/\L=K.last+1)):=by
 have e:K.spent=if b.left-1=0 then (K.setLeft 1 3).toLast 1 else K.setLeft 1 (b.left-1):=by
  unfold RM.spent
  rw [hc,ht]
  rfl
 rw [e]
 by_cases h:b.left-1=0
 ·rw [if_pos h]
  exact ⟨3,K.last,K.last+1,by simp [RM.setLeft,RM.toLast,RM.upd,ht],.inr ⟨rfl,rfl⟩⟩
 ·rw [if_neg h]
  exact ⟨b.left-1,b.ord,K.last,by simp [RM.setLeft,RM.upd,ht],.inl ⟨rfl,rfl⟩⟩
structure T2 (K:RM) (a b:Th):Prop where
 th:K.threads=[a,b]
 ps:K.passes=twQ
 asp:a.sp=0
 ar:a.row=2
 br:b.row=2
 bst:b.st=1
 bt:b.time=-1
 al:a.ord < K.last
 bl:b.ord < K.last
 clk:0<=K.clock
def Rd (K:RM):Prop:=∃ a b,T2 K a b/\a.st=1/\a.time=-1/\a.ord≠b.ord
def Wt (s T:Int) (K:RM):Prop:=∃ a b,T2 K a b/\a.st=s/\a.time=T
def Aw (K:RM):Prop:=∃ a b,T2 K a b/\a.st=1/\a.time=-1/\b.ord < a.ord/\a.code=6/\a.who=-1/\a.ws=[]
theorem Aw.rd {K:RM}(h:Aw K):Rd K:=by
 obtain ⟨a,b,t,h1,h2,h3,_⟩:=h
 exact ⟨a,b,t,h1,h2,by omega⟩
theorem Rd.cur {K:RM}(h:Rd K):K.cur=0\/K.cur=1:=by
 obtain ⟨a,b,t,h1,h2,h3⟩:=h
 by_cases g:a.ord < b.ord
 ·exact .inl (cur2a t.th h1 ⟨by rw [t.ar,t.br],g⟩)
 ·exact .inr (cur2b t.th t.bst (.inr ⟨by rw [t.ar,t.br],by omega⟩))
theorem Wt.cur {K:RM}{s T:Int}(hs:s≠1) (h:Wt s T K):K.cur=1:=by
 obtain ⟨a,b,t,h1,h2⟩:=h
 exact cur2b t.th t.bst (.inl (by omega))
theorem rd_tw0:Rd tw0:=⟨tw0.nth 0,tw0.nth 1,⟨by kernel_rfl,by kernel_rfl,by kernel_rfl,by kernel_rfl,by kernel_rfl,by kernel_rfl,by kernel_rfl,by decide,by decide,by decide⟩,by kernel_rfl,by kernel_rfl,by decide⟩
theorem Rd.tick {K:RM}(h:Rd K):Rd K.tick:=by
 have hc:=h.cur
 obtain ⟨a,b,t,h1,h2,h3⟩:=h
 have hl:K.threads.length=2:=by rw [t.th];rfl
 unfold RM.tick
 rw [hl]
 have:=t.clk
 have:=t.al
 have:=t.bl
 have:=t.bt
 rcases hc with hc | hc
 ·obtain ⟨l,o,L,e,ho⟩:=spent0 (K:=K.ticked) (a:=a) (b:=b) t.th hc
  have ho:(o=a.ord/\L=K.last)\/(o=K.last/\L=K.last+1):=ho
  rw [e,tickTo_id]
  ·exact ⟨_,_,⟨rfl,t.ps,t.asp,t.ar,t.br,t.bst,t.bt,by show o < L;omega,by show b.ord < L;omega,by show 0<=K.clock+1;omega⟩,h1,h2,by show o≠b.ord;omega⟩
  ·intro i u hu
   have hu:[{ a with left:=l,ord:=o },b][i]? = some u:=hu
   show u.time≠K.clock+1
   rcases i with _ | _ | i
   ·simp at hu;rw [<- hu];show a.time≠_;omega
   ·simp at hu;rw [<- hu];omega
   ·simp at hu
 ·obtain ⟨l,o,L,e,ho⟩:=spent1 (K:=K.ticked) (a:=a) (b:=b) t.th hc
  have ho:(o=b.ord/\L=K.last)\/(o=K.last/\L=K.last+1):=ho
  rw [e,tickTo_id]
  ·exact ⟨_,_,⟨rfl,t.ps,t.asp,t.ar,t.br,t.bst,t.bt,by show a.ord < L;omega,by show o < L;omega,by show 0<=K.clock+1;omega⟩,h1,h2,by show a.ord≠o;omega⟩
  ·intro i u hu
   have hu:[a,{ b with left:=l,ord:=o }][i]? = some u:=hu
   show u.time≠K.clock+1
   rcases i with _ | _ | i
   ·simp at hu;rw [<- hu];omega
   ·simp at hu;rw [<- hu];show b.time≠_;omega
   ·simp at hu
theorem Rd.yield {K:RM}(h:Rd K):K.yield.1=0/\Rd K.yield.2/\(K.cur≠0->K.yield.2.cur=0):=by
 have hc:=h.cur
 obtain ⟨a,b,t,h1,h2,h3⟩:=h
 have:=t.al
 have:=t.bl
 rcases hc with hc | hc
 ·have e:K.yield=(0,{ K with threads:=[{ a with left:=3,ord:=K.last },b],last:=K.last+1 }):=by
   unfold RM.yield
   rw [hc]
   show (if (0:Int) < 0 then _ else (0,(K.setLeft 0 3).toLast 0))=_
   rw [if_neg (by omega)]
   simp [RM.setLeft,RM.toLast,RM.upd,t.th]
  rw [e]
  exact ⟨rfl,⟨_,_,⟨rfl,t.ps,t.asp,t.ar,t.br,t.bst,t.bt,by show K.last < K.last+1;omega,by show b.ord < K.last+1;omega,t.clk⟩,h1,h2,by show K.last≠b.ord;omega⟩,fun q=>absurd hc q⟩
 ·have e:K.yield=(0,{ K with threads:=[a,{ b with left:=3,ord:=K.last }],last:=K.last+1 }):=by
   unfold RM.yield
   rw [hc]
   show (if (1:Int) < 0 then _ else (0,(K.setLeft 1 3).toLast 1))=_
   rw [if_neg (by omega)]
   simp [RM.setLeft,RM.toLast,RM.upd,t.th]
  rw [e]
  refine ⟨rfl,⟨_,_,⟨rfl,t.ps,t.asp,t.ar,t.br,t.bst,t.bt,by show a.ord < K.last+1;omega,by show K.last < K.last+1;omega,t.clk⟩,h1,h2,by show a.ord≠K.last;omega⟩,fun _=>?_⟩
  exact cur2a (a:=a) (b:={ b with left:=3,ord:=K.last }) rfl h1 ⟨by show a.row=b.row;rw [t.ar,t.br],by show a.ord < K.last;omega⟩
def mtT (dst t:Int):Ms:=⟨dst,[],-1,0,1,-1,t⟩
theorem rd_ipc {K:RM}{t:Int}(ht:-1<=t) (h0:t≠0) (h:Rd K) (hc:K.cur=0) :
  (∃ K',K.ipc (mtT (-1) t)=(0,K')/\Wt 3 (tim K.clock t) K'/\K'.clock=K.clock)/\(∃ K',K.ipc (mtT 3 t)=(0,K')/\Wt 2 (tim K.clock t) K'/\K'.clock=K.clock):=by
 obtain ⟨a,b,T,h1,h2,h3⟩:=h
 have hl:K.threads.length=2:=by rw [T.th];rfl
 have:=T.al
 have:=T.bl
 have m1:isMs 2 (mtT (-1) t)=true:=by simp [isMs,mtT,inI];first | omega | exact decide_eq_true (by omega)
 have m2:isMs 2 (mtT 3 t)=true:=by simp [isMs,mtT,inI];first | omega | exact decide_eq_true (by omega)
 have ea:∀ d,(K.asks 0 (mtT d t)).threads=[{ a with dst:=d,mw:=[],item:=-1,rt:=0,frm:=1,win:=-1,wait:=t },b]:=fun d=>by
  simp [RM.asks,RM.upd,T.th,mtT]
 constructor
 ·refine ⟨(K.asks 0 (mtT (-1) t)).waits 0 3 (-1),?_,?_,rfl⟩
  ·rw [ipcR (t:=0) hc (by rw [hl];exact m1) (by show (-1:Int) < 0;omega),recvW (n:=6) (x:={ a with dst:=-1,mw:=[],item:=-1,rt:=0,frm:=1,win:=-1,wait:=t }) (by rw [ea];rfl) ?_ (by show t≠0;exact h0)]
   rcases senM_inv (K.asks 0 (mtT (-1) t)).threads ((0:Nat):Int) 1 (K.asks 0 (mtT (-1) t)).threads.length (Nat.le_refl _) with e | ⟨j,u,e,hj,hu,u2,_,hf⟩
   ·show senM _ _ 1 _ < 0
    rw [e];omega
   ·exfalso
    have:j=1:=by omega
    subst this
    rw [ea] at hu
    simp at hu
    rw [<- hu,T.bst] at u2
    omega
  ·refine ⟨{ a with dst:=-1,mw:=[],item:=-1,rt:=0,frm:=1,win:=-1,wait:=t,st:=3,other:=-1,turn:=K.last,time:=tim K.clock t },b,⟨?_,T.ps,T.asp,T.ar,T.br,T.bst,T.bt,by show a.ord < K.last+1;omega,by show b.ord < K.last+1;omega,T.clk⟩,rfl,rfl⟩
   show ((K.asks 0 (mtT (-1) t)).threads).modify 0 _=_
   rw [ea]
   rfl
 ·refine ⟨((K.asks 0 (mtT 3 t)).lendsTo 0 true).waits 0 2 1,?_,?_,rfl⟩
  ·rw [ipcS (t:=0) (r:=1) (u:=a) (p:=(0,3,1,3)) hc (by rw [T.th];rfl) (by rw [hl];exact m2) (by show ¬ (3:Int) < 0;omega) (by rw [T.ps,T.asp];rfl) (by decide) (by decide),sendsW (x:=b) (by
    show ((K.asks 0 (mtT 3 t)).threads.modify 0 _)[1]? = _
    rw [ea];rfl) (by rw [T.bst];omega) (by show t≠0;exact h0)]
   rfl
  ·refine ⟨{ a with dst:=3,mw:=[],item:=-1,rt:=0,frm:=1,win:=-1,wait:=t,lends:=true,st:=2,other:=1,turn:=K.last,time:=tim K.clock t },b,⟨?_,T.ps,T.asp,T.ar,T.br,T.bst,T.bt,by show a.ord < K.last+1;omega,by show b.ord < K.last+1;omega,T.clk⟩,rfl,rfl⟩
   show (((K.asks 0 (mtT 3 t)).threads).modify 0 _).modify 0 _=_
   rw [ea]
   rfl
theorem Wt.tick {K:RM}{s T:Int}(hs:s≠1) (h:Wt s T K) (hT:T≠K.clock+1):Wt s T K.tick/\K.tick.clock=K.clock+1:=by
 have hc:=h.cur hs
 obtain ⟨a,b,t,h1,h2⟩:=h
 have hl:K.threads.length=2:=by rw [t.th];rfl
 unfold RM.tick
 rw [hl]
 have:=t.clk
 have:=t.al
 have:=t.bl
 have:=t.bt
 obtain ⟨l,o,L,e,ho⟩:=spent1 (K:=K.ticked) (a:=a) (b:=b) t.th hc
 have ho:(o=b.ord/\L=K.last)\/(o=K.last/\L=K.last+1):=ho
 rw [e,tickTo_id]
 ·exact ⟨⟨_,_,⟨rfl,t.ps,t.asp,t.ar,t.br,t.bst,t.bt,by show a.ord < L;omega,by show o < L;omega,by show 0<=K.clock+1;omega⟩,h1,h2⟩,rfl⟩
 ·intro i u hu
  have hu:[a,{ b with left:=l,ord:=o }][i]? = some u:=hu
  show u.time≠K.clock+1
  rcases i with _ | _ | i
  ·simp at hu;rw [<- hu,h2];exact hT
  ·simp at hu;rw [<- hu];show b.time≠_;omega
  ·simp at hu
theorem Wt.wake {K:RM}{s T:Int}(hs:s≠1) (h:Wt s T K) (hT:T=K.clock+1):Aw K.tick:=by
 have hc:=h.cur hs
 obtain ⟨a,b,t,h1,h2⟩:=h
 have hl:K.threads.length=2:=by rw [t.th];rfl
 unfold RM.tick
 rw [hl]
 have:=t.clk
 have:=t.al
 have:=t.bl
 have:=t.bt
 obtain ⟨l,o,L,e,ho⟩:=spent1 (K:=K.ticked) (a:=a) (b:=b) t.th hc
 have ho:(o=b.ord/\L=K.last)\/(o=K.last/\L=K.last+1):=ho
 rw [e]
 obtain ⟨K1,hK1⟩:∃ K1:RM,{ K.ticked with threads:=[a,{ b with left:=l,ord:=o }],last:=L }=K1:=⟨_,rfl⟩
 have k1:K1.threads=[a,{ b with left:=l,ord:=o }]:=by rw [<- hK1]
 have k2:K1.clock=K.clock+1:=by rw [<- hK1];rfl
 have k3:K1.last=L:=by rw [<- hK1]
 have k4:K1.passes=twQ:=by rw [<- hK1];exact t.ps
 rw [hK1]
 have t1:K1.tickTo 1=(K1.over 0 6).toLast 0:=by
  show (match K1.threads[0]? with | none=>K1 | some x=>if x.time=K1.clock then (K1.over 0 6).toLast 0 else K1)=_
  rw [k1]
  show (if a.time=K1.clock then _ else _)=_
  rw [if_pos (by rw [h2,k2,hT])]
 have tt:((K1.over 0 6).toLast 0).threads=[{ a with st:=1,time:=-1,code:=6,who:=-1,ws:=[],got:=-1,ord:=L },{ b with left:=l,ord:=o }]:=by
  simp [RM.over,RM.toLast,RM.upd,k1,k3]
 have t2:K1.tickTo 2=(K1.over 0 6).toLast 0:=by
  show (match (K1.tickTo 1).threads[1]? with | none=>K1.tickTo 1 | some x=>if x.time=(K1.tickTo 1).clock then ((K1.tickTo 1).over 1 6).toLast 1 else K1.tickTo 1)=_
  rw [t1,tt]
  show (if b.time=K1.clock then _ else _)=_
  rw [if_neg (by omega)]
 rw [t2]
 refine ⟨_,_,⟨tt,k4,t.asp,t.ar,t.br,t.bst,t.bt,?_,?_,?_⟩,rfl,rfl,?_,rfl,rfl,rfl⟩
 ·show L < K1.last+1;omega
 ·show o < K1.last+1;omega
 ·show 0<=K1.clock;omega
 ·show o < L;omega
open Go.RowKit
abbrev Blk:=Nat×Array Value×TypeId
def KG (Rep:World->Nat->(Nat->Prop)->RM->Prop) (W w:World) (x:Nat) (K:RM) (n:Nat) (L:List Blk):Prop:=
 ∃ S,KS Rep W w x S K n/\∀ p∈L,¬ S p.1/\W.heap.size<=p.1/\p.1 < w.heap.size/\w.heap[p.1]? = some (.cells p.2.1 p.2.2 (0,0))
section
variable {Rep:World->Nat->(Nat->Prop)->RM->Prop}(A:ApM Rep){W w w':World}{x:Nat}{K:RM}{n:Nat}{L:List Blk}
theorem KG.get (h:KG Rep W w x K n L){g:Nat}{C:Array Value}{t:TypeId}(hm:(g,C,t)∈L):w.heap[g]? = some (.cells C t (0,0)):=by
 obtain ⟨S,_,hL⟩:=h
 exact (hL _ hm).2.2.2
theorem KG.lt (h:KG Rep W w x K n L){p:Blk}(hm:p∈L):p.1 < w.heap.size:=by
 obtain ⟨S,_,hL⟩:=h
 exact (hL _ hm).2.2.1
theorem KG.bel (h:KG Rep W w x K n L):Below W.heap.size W w:=by
 obtain ⟨S,k,_⟩:=h
 exact k.bel
theorem KG.mono (h:KG Rep W w x K n L){m:Nat}(hm:n<=m):KG Rep W w x K m L:=by
 obtain ⟨S,k,hL⟩:=h
 exact ⟨S,k.mono hm,hL⟩
theorem KG.left {S:Nat->Prop}(_hk:KS Rep W w x S K n){K':RM}{m:Nat}(hn:KN Rep W w x S K' m w') (hL:∀ p∈L,¬ S p.1/\W.heap.size<=p.1/\p.1 < w.heap.size/\w.heap[p.1]? = some (.cells p.2.1 p.2.2 (0,0))):KG Rep W w' x K' m L:=by
 obtain ⟨S',k,ho,hf⟩:=hn
 refine ⟨S',k,fun p hp=>?_⟩
 obtain ⟨h1,h2,h3,h4⟩:=hL p hp
 refine ⟨fun hS=>?_,h2,Nat.lt_of_lt_of_le h3 hf.size,(hf.block _ h3 h1).trans h4⟩
 rcases ho _ hS with g | g
 ·exact h1 g
 ·omega
include A
theorem KG.below (h:KG Rep W w x K n L) (hb:Below w.heap.size w w'):KG Rep W w' x K n L:=by
 obtain ⟨S,k,hL⟩:=h
 refine ⟨S,k.below A hb,fun p hp=>?_⟩
 obtain ⟨h1,h2,h3,h4⟩:=hL p hp
 exact ⟨h1,h2,Nat.lt_of_lt_of_le h3 hb.size,(hb.block _ h3).trans h4⟩
theorem KG.push (h:KG Rep W w x K n L) (C:Array Value) (t:TypeId):KG Rep W (w.alloc (.cells C t)) x K n ((w.heap.size,C,t) :: L):=by
 have hb:Below w.heap.size w (w.alloc (.cells C t)):=(Below.refl _ w).alloc (Nat.le_refl _) _
 obtain ⟨S,k,hL⟩:=h
 refine ⟨S,k.below A hb,fun p hp=>?_⟩
 rcases List.mem_cons.1 hp with rfl | hp
 ·exact ⟨fun hS=>absurd (k.lt A _ hS) (Nat.lt_irrefl _),k.bel.size,by simp,heap_alloc_new w _⟩
 ·obtain ⟨h1,h2,h3,h4⟩:=hL p hp
  exact ⟨h1,h2,Nat.lt_of_lt_of_le h3 hb.size,(hb.block _ h3).trans h4⟩
theorem KG.frame (h:KG Rep W w x K n L){g:Nat}{C C':Array Value}{t:TypeId}(hm:(g,C,t)∈L) (hf:Fr (fun k=>k=g) w w') (hg:w'.heap[g]? = some (.cells C' t (0,0))){L':List Blk}(hL':∀ p∈L',p=(g,C',t)\/(p∈L/\p.1≠g)):KG Rep W w' x K n L':=by
 obtain ⟨S,k,hL⟩:=h
 have hp0:=hL _ hm
 refine ⟨S,k.fr A hf (fun b hS e=>hp0.1 (e ▸ hS)) (fun b e=>by rw [e];exact hp0.2.1),fun p hp=>?_⟩
 rcases hL' p hp with rfl | ⟨hp,ne⟩
 ·exact ⟨hp0.1,hp0.2.1,Nat.lt_of_lt_of_le hp0.2.2.1 hf.size,hg⟩
 ·obtain ⟨h1,h2,h3,h4⟩:=hL p hp
  exact ⟨h1,h2,Nat.lt_of_lt_of_le h3 hf.size,(hf.block _ h3 ne).trans h4⟩
theorem kg_current (h:KG Rep W w x K n L):Calls Tryz.prog 18 #[.pointer (some ⟨x,0,none⟩)] w fun e w'=>e=.returned (.int .i64 K.cur)/\KG Rep W w' x K n L:=by
 obtain ⟨S,k,hL⟩:=id h
 exact (ks_current A k).mono (by rintro e w' ⟨rfl,b,_⟩;exact ⟨rfl,h.below A b⟩)
theorem kg_tick (h:KG Rep W w x K n L) (hn:n<=1000000000000000):Calls Tryz.prog 19 #[.pointer (some ⟨x,0,none⟩)] w fun e w'=>e=.returned (.tuple #[])/\KG Rep W w' x K.tick (n+1) L:=by
 obtain ⟨S,k,hL⟩:=h
 exact (ks_tick A k hn).mono (by rintro e w' ⟨rfl,b⟩;exact ⟨rfl,KG.left k b hL⟩)
theorem kg_yield (h:KG Rep W w x K n L) (hn:n<=1000000000000000):Calls Tryz.prog 22 #[.pointer (some ⟨x,0,none⟩)] w fun e w'=>e=.returned (.int .i64 K.yield.1)/\KG Rep W w' x K.yield.2 (n+1) L:=by
 obtain ⟨S,k,hL⟩:=h
 exact (ks_yield A k hn).mono (by rintro e w' ⟨rfl,b⟩;exact ⟨rfl,KG.left k b hL⟩)
theorem kg_ipc0 (h:KG Rep W w x K n L) (hn:n<=1000000000000000) (m:Ms) (hm:m.words=[]):Calls Tryz.prog 23 #[.pointer (some ⟨x,0,none⟩),msV m none 0] w fun e w'=>e=.returned (.int .i64 (K.ipc m).1)/\KG Rep W w' x (K.ipc m).2 (n+1) L:=by
 obtain ⟨S,k,hL⟩:=h
 exact (ks_ipc A k hn m none 0 (by rw [hm];exact inl_nil w) (fun k hk=>by simp [inBlock] at hk)).mono (by rintro e w' ⟨rfl,b⟩;exact ⟨rfl,KG.left k b hL⟩)
theorem kg_look (h:KG Rep W w x K n L) (t:Nat) (u:Th) (hu:K.threads[t]? = some u):Calls Tryz.prog 25 #[.pointer (some ⟨x,0,none⟩),.int .i64 t] w fun e w'=>∃ a c,e=.returned (.tuple #[.agg (c5 u.st u.code u.who a u.ws.length c u.got),.bool true])/\Sl w' 2 1 (.slice a u.ws.length c) (u.ws.map lnI)/\Below w.heap.size w w'/\(∀ b,Value.ownBlock (.slice a u.ws.length c)=some b->w.heap.size<=b)/\KG Rep W w' x K n L:=by
 obtain ⟨S,k,hL⟩:=id h
 refine (lookK_any A k t u hu).mono ?_
 rintro e w' ⟨a,c,rfl,s,B,N,_⟩
 exact ⟨a,c,rfl,s,B,N,h.below A B⟩
end
open Go.RowKit
section
variable {Rep:World->Nat->(Nat->Prop)->RM->Prop}(A:ApM Rep)
include A in
theorem timed_recv (t0 q0:Int) (w:World) (hg:Gl w) (h1:-9223372036854775808<=t0) (h2:t0<=9223372036854775807) (h3:-9223372036854775808<=q0) (h4:q0<=9223372036854775807) :
  Calls Tryz.prog 9 #[.int .i64 t0,.bool false,.int .i64 q0] w fun e w'=>e=.returned (.bool true)/\Below w.heap.size w w':=by
 have P1:=fun w=>pickK_any t0 200 w h1 h2 (by omega) (by omega)
 have P2:=fun w=>pickK_any q0 5 w h3 h4 (by omega) (by omega)
 obtain ⟨tn,htn⟩:∃ tn:Nat,1+pickI t0 200=tn:=Int.eq_ofNat_of_zero_le (by have:=pickI_in t0 (n:=200) (by omega);omega)
 have t1:1<=tn:=by have:=pickI_in t0 (n:=200) (by omega);omega
 have t2:tn<=200:=by have:=pickI_in t0 (n:=200) (by omega);omega
 obtain ⟨q,hq⟩:∃ q:Nat,pickI q0 5=q:=Int.eq_ofNat_of_zero_le (pickI_in q0 (n:=5) (by omega)).1
 have q5:q<=4:=by have:=(pickI_in q0 (n:=5) (by omega)).2;omega
 rw [hq] at P2
 obtain ⟨t,et⟩:∃ t:Int,(tn:Int)=t:=⟨_,rfl⟩
 rw [et] at htn
 have HT:=hid et
 have tb1:1<=t:=by omega
 have tb2:t<=200:=by omega
 have HK:=hid (known_any A w hg)
 have HP:=hid (And.intro P1 P2)
 clear P1 P2 hq h1 h2 h3 h4 et
 go_enter Tryz.func9,Tryz.ntmps9
 go_wp2_with fail
 refine HK.out.mono ?_
 rintro e w0 ⟨rfl,B0⟩
 have HB0:=hid B0
 have hg0:=hg.below B0
 clear B0 hg
 go_wp2_with fail
 refine (two_any w0).mono ?_
 rintro e w1 ⟨b1,b2,b3,rfl,i1,i2,i3,B1⟩
 have C2:=hid (boot_any A 2 _ _ _ _ _ _ _ _ _ twT twQ twL w1 (hg0.below B1) i1 i2 i3 fits_tw 0)
 have HB1:=hid B1
 clear i1 i2 i3 B1 hg0
 go_wp2_with fail
 refine C2.out.mono ?_
 rintro e w2 ⟨x,S2,rfl,KB,B2⟩
 have KB:KS Rep w1 w2 x S2 tw0 0:=KB
 have K3:KG Rep w1 (w2.alloc (.cells #[.int .i64 (-1),.slice none 0 0,.int .i64 (-1),.int .i64 0,.int .i64 1,.int .i64 (-1),.int .i64 t] 43)) x tw0 0 [(w2.heap.size,#[.int .i64 (-1),.slice none 0 0,.int .i64 (-1),.int .i64 0,.int .i64 1,.int .i64 (-1),.int .i64 t],43)]:=KG.push A (L:=[]) ⟨S2,KB,fun p hp=>absurd hp (by simp)⟩ _ _
 have HX:=hid K3
 clear KB B2 K3 C2
 go_wp2_with (first
  | (go_at_call 16;first | (with_reducible refine (HP.out.1 _).mono ?_;rintro e w3 ⟨rfl,hw⟩;have hw:=hw.symm;subst hw) | (with_reducible refine (HP.out.2 _).mono ?_;rintro e w3 ⟨rfl,hw⟩;have hw:=hw.symm;subst hw))
  | (with_reducible (show wpList _ _ _ (⟨_,.store 43 _ _,_,_,_,none⟩ :: _) _ _);go_must (refine wpList_store_new rfl 43 _ _ rfl w2 _ #[.int .i64 (-1),.slice none 0 0,.int .i64 (-1),.int .i64 0,.int .i64 1,.int .i64 (-1),.int .i64 t] 43 (by simp [Act.eval]) rfl (by kernel_rfl) rfl (by simp [Value.oneCell']) ?_)))
 obtain ⟨wx,hwx⟩:∃ wx,(w2.alloc (.cells #[.int .i64 (-1),.slice none 0 0,.int .i64 (-1),.int .i64 0,.int .i64 1,.int .i64 (-1),.int .i64 t] 43))=wx:=⟨_,rfl⟩
 rw [hwx] at HX
 rw [hwx]
 clear hwx
 go_loopw [13] (fun i wr=>∃ (k:Nat) (K:RM),k<=q/\i=.int .i64 k/\Hid (KG Rep w1 wr x K k [(w2.heap.size,#[.int .i64 (-1),.slice none 0 0,.int .i64 (-1),.int .i64 0,.int .i64 1,.int .i64 (-1),.int .i64 t],43)]/\Rd K)) (fun i _=>q-(intOf i).toNat)
 case atStart=>exact ⟨0,tw0,Nat.zero_le _,rfl,HX.out,rd_tw0⟩
 case round=>
  obtain ⟨k,K,hk,rfl,HC⟩:=hrel
  by_cases hkq:k < q
  ·have hkq':(k:Int) < (q:Int):=by omega
   go_wp2_with (go_at_call 19;refine (kg_tick A HC.out.1 (by omega)).mono ?_;rintro e w4 ⟨rfl,K4⟩;replace K4:=hid K4)
   first
    | exact ⟨⟨k+1,K.tick,by omega,by go_num,K4.out,HC.out.2.tick⟩,by simp [intOf];omega⟩
    | (
     go_roundw
     case rel=>first | exact ⟨k+1,K.tick,by omega,by go_num,K4.out,HC.out.2.tick⟩ | ((repeat apply Exists.intro);exact ⟨⟨k+1,K.tick,by omega,by go_num,K4.out,HC.out.2.tick⟩,rfl⟩)
     case measure=>simp [intOf];omega)
  have ek:k=q:=by omega
  clear hkq
  subst ek
  go_wp2_with fail
  have HD:=hid (And.intro (HC.out.1.mono (show k<=10 by omega)) HC.out.2)
  clear HC
  go_loopw [14] (fun i wr=>∃ (k:Nat) (K:RM),k<=1/\i=.int .i64 k/\Hid (KG Rep w1 wr x K (10+k) [(w2.heap.size,#[.int .i64 (-1),.slice none 0 0,.int .i64 (-1),.int .i64 0,.int .i64 1,.int .i64 (-1),.int .i64 t],43)]/\Rd K/\(k=1->K.cur=0))) (fun i _=>1-(intOf i).toNat)
  case atStart=>exact ⟨0,K,Nat.zero_le _,rfl,HD.out.1,HD.out.2,by omega⟩
  case round=>
   clear HD
   obtain ⟨k2,K2,hk2,rfl,HC⟩:=hrel
   have k5:(k2:Int) < 5:=by omega
   have C5:=hid (fun w' (hb:Below wr.heap.size wr w')=>kg_current A (HC.out.1.below A hb))
   by_cases hc:K2.cur=0
   ·rw [hc] at C5
    go_wp2_with (first
     | (go_at_call 18;refine (C5.out _ (Below.refl _ _)).mono ?_;rintro e w4 ⟨rfl,K4⟩;replace K4:=hid K4)
     | (with_reducible (show wpList _ _ _ (⟨_,.load 43 (.tmp 10),_,_,_,none⟩ :: _) _ _);go_must (refine wpList_load_row rfl 43 _ rfl w2.heap.size (by simp [Act.eval]) 43 #[.int .i64 (-1),.slice none 0 0,.int .i64 (-1),.int .i64 0,.int .i64 1,.int .i64 (-1),.int .i64 t] (0,0) _ (K4.out.get (List.mem_singleton.2 rfl)) Tryz.underlying43 rfl (by kernel_rfl) ?_)))
    have HE:=hid (And.intro (K4.out.mono (show 10+k2<=20 by omega)) HC.out.2.1)
    clear HC K4 C5
    obtain ⟨K3,e3,W3,c3⟩:=(rd_ipc (t:=t) (by omega) (by omega) HE.out.2 hc).1
    have EM:msV (mtT (-1) t) none 0=.agg #[.int .i64 (-1),.slice none 0 0,.int .i64 (-1),.int .i64 0,.int .i64 1,.int .i64 (-1),.int .i64 t]:=rfl
    have C6:=hid (kg_ipc0 A HE.out.1 (by omega) (mtT (-1) t) rfl)
    rw [EM,e3] at C6
    have tm:tim K2.clock t=K2.clock+t:=by
     obtain ⟨a,b,TT,_⟩:=HE.out.2
     have:=TT.clk
     obtain ⟨S9,k9,_⟩:=HE.out.1
     have:=k9.ok.c1
     unfold tim
     rw [if_pos (by omega)]
     unfold wrap64
     omega
    rw [tm] at W3
    have HW3:=hid (And.intro W3 c3)
    clear W3 c3 tm e3 EM hc
    refine C6.out.mono ?_
    rintro e w5 ⟨rfl,K5⟩
    have C7:=hid (kg_current A K5)
    rw [HW3.out.1.cur (by omega)] at C7
    clear K5 C6
    go_wp2_with (go_at_call 18;refine C7.out.mono ?_;rintro e w6 ⟨rfl,K6⟩;replace K6:=hid K6)
    have HA:=hid (And.intro K6.out HW3.out)
    clear HW3 C7 K6
    go_loopw [16] (fun i wr=>∃ (k:Nat) (K:RM),k<=tn/\i=.int .i64 k/\Hid (KG Rep w1 wr x K (21+k) [(w2.heap.size,#[.int .i64 (-1),.slice none 0 0,.int .i64 (-1),.int .i64 0,.int .i64 1,.int .i64 (-1),.int .i64 t],43)]/\((k < tn/\Wt 3 (K2.clock+t) K/\K.clock=K2.clock+k)\/(k=tn/\Aw K)))) (fun i _=>tn-(intOf i).toNat)
    case atStart=>exact ⟨0,K3,Nat.zero_le _,rfl,HA.out.1,.inl ⟨by omega,HA.out.2.1,by have:=HA.out.2.2;omega⟩⟩
    case round=>
     clear HA HE
     obtain ⟨k3,K4,hk3,rfl,HC⟩:=hrel
     by_cases hkt:k3 < tn
     ·have kt:(k3:Int) < t:=by have:=HT.out;omega
      have HC2:Hid (Wt 3 (K2.clock+t) K4/\K4.clock=K2.clock+k3):=hid (by
       rcases HC.out.2 with h | h
       ·exact h.2
       ·omega)
      obtain ⟨ua,ub,ut,u1,_⟩:=id HC2.out.1
      have hu:K4.threads[0]? = some ua:=by rw [ut.th];rfl
      have C8:=hid (kg_look A HC.out.1 0 ua hu)
      rw [u1] at C8
      obtain ⟨ul,hul⟩:∃ n,ua.ws.length=n:=⟨_,rfl⟩
      rw [hul] at C8
      clear u1 hu ut hul
      go_wp2_with fail
      refine C8.out.mono ?_
      rintro e w7 ⟨a7,c7,rfl,sl7,B7,N7,K7⟩
      have K8:=hid (K7.below A ((Below.refl _ w7).alloc (Nat.le_refl _) (.cells (c5 3 ua.code ua.who a7 ul c7 ua.got) 50)))
      have C9:=hid (kg_tick A K8.out (by omega))
      obtain ⟨p0,p1,p2,p3,p4⟩:=c5_cells (heap_alloc_new w7 (.cells (c5 3 ua.code ua.who a7 ul c7 ua.got) 50))
      clear sl7 B7 N7 K7 C8
      go_wp2_with (first
       | (with_reducible (show wpList _ _ _ (⟨_,.store 50 _ _,_,_,_,none⟩ :: _) _ _);go_must (refine wpList_store_new rfl 50 _ _ rfl w7 _ (c5 3 ua.code ua.who a7 ul c7 ua.got) 50 (by simp [Act.eval]) rfl (by kernel_rfl) rfl (c5_one _ _ _ _ _ _ _) ?_))
       | (go_at_call 19;refine C9.out.mono ?_;rintro e w8 ⟨rfl,K9⟩;replace K9:=hid K9))
      have HN:Hid ((k3+1 < tn/\Wt 3 (K2.clock+t) K4.tick/\K4.tick.clock=K2.clock+(k3+1:Nat))\/(k3+1=tn/\Aw K4.tick)):=hid (by
       have e1:=HC2.out.2
       have e2:=HT.out
       by_cases hl:k3+1 < tn
       ·have h9:=HC2.out.1.tick (by omega) (by omega)
        exact .inl ⟨hl,h9.1,by rw [h9.2];omega⟩
       ·exact .inr ⟨by omega,HC2.out.1.wake (by omega) (by omega)⟩)
      first
       | exact ⟨⟨k3+1,K4.tick,by omega,by go_num,K9.out,HN.out⟩,by simp [intOf];omega⟩
       | (
        go_roundw
        case rel=>first | exact ⟨k3+1,K4.tick,by omega,by go_num,K9.out,HN.out⟩ | ((repeat apply Exists.intro);exact ⟨⟨k3+1,K4.tick,by omega,by go_num,K9.out,HN.out⟩,rfl⟩)
        case measure=>simp [intOf];omega)
     have hA:Aw K4:=by
      rcases HC.out.2 with h | h
      ·omega
      ·exact h.2
     have kt:(k3:Int)=t:=by have:=HT.out;omega
     obtain ⟨ua,ub,ut,u1,_,_,u2,u3,u4⟩:=id hA
     have hu:K4.threads[0]? = some ua:=by rw [ut.th];rfl
     have HF:=hid (And.intro (HC.out.1.mono (show 21+k3<=300 by omega)) hA)
     have C8:=hid (kg_look A HF.out.1 0 ua hu)
     rw [u1,u2,u3,u4,List.length_nil] at C8
     have kd:decide ((k3:Int) < t)=false:=by simp;omega
     obtain ⟨ug,hug⟩:∃ n,ua.got=n:=⟨_,rfl⟩
     rw [hug] at C8
     clear u1 u2 u3 u4 hu ut HC hA hkt kt hug
     go_wp2_with fail
     refine C8.out.mono ?_
     rintro e w7 ⟨a7,c7,rfl,sl7,B7,N7,K7⟩
     have HLT:=hid (show w7.heap.size≠w2.heap.size from fun e=>absurd (K7.lt (List.mem_singleton.2 rfl)) (by rw [e];exact Nat.lt_irrefl _))
     have K8:=hid (K7.push A (c5 1 6 (-1) a7 0 c7 ug) 50)
     obtain ⟨p0,p1,p2,p3,p4⟩:=c5_cells (heap_alloc_new w7 (.cells (c5 1 6 (-1) a7 0 c7 ug) 50))
     have HF2:=hid HF.out.2
     clear sl7 B7 N7 K7 C8 HF
     go_wp2_with (with_reducible (show wpList _ _ _ (⟨_,.store 50 _ _,_,_,_,none⟩ :: _) _ _);go_must (refine wpList_store_new rfl 50 _ _ rfl w7 _ (c5 1 6 (-1) a7 0 c7 ug) 50 (by simp [Act.eval]) rfl (by kernel_rfl) rfl (c5_one _ _ _ _ _ _ _) ?_))
     clear p0 p1 p2 p3 p4 kd
     obtain ⟨h9,eh9⟩:∃ h,w7.heap.size=h:=⟨_,rfl⟩
     obtain ⟨w8,ew8⟩:∃ w8,w7.alloc (.cells (c5 1 6 (-1) a7 0 c7 ug) 50)=w8:=⟨_,rfl⟩
     have HG:=hid (show h9≠w2.heap.size from fun e=>by rw [<- eh9] at e;exact absurd e HLT.out)
     rw [ew8,eh9] at K8
     rw [ew8,eh9]
     clear ew8 eh9
     go_loopw [21] (fun i wr=>∃ (k:Nat) (K:RM),k<=1/\i=.int .i64 k/\Hid (KG Rep w1 wr x K (300+k) [(h9,c5 1 6 (-1) a7 0 c7 ug,50),(w2.heap.size,#[.int .i64 (-1),.slice none 0 0,.int .i64 (-1),.int .i64 0,.int .i64 1,.int .i64 (-1),.int .i64 t],43)]/\Rd K/\(k=1->K.cur=0))) (fun i _=>1-(intOf i).toNat)
     case atStart=>exact ⟨0,K4,Nat.zero_le _,rfl,K8.out,HF2.out.rd,by omega⟩
     case round=>
      clear K8 HF2
      obtain ⟨k4,K5,hk4,rfl,HC⟩:=hrel
      have k5:(k4:Int) < 5:=by omega
      have C5:=hid (fun w' (hb:Below wr.heap.size wr w')=>kg_current A (HC.out.1.below A hb))
      by_cases hc:K5.cur=0
      ·rw [hc] at C5
       go_wp2_with (first
        | (go_at_call 18;refine (C5.out _ (Below.refl _ _)).mono ?_;rintro e w9 ⟨rfl,K6⟩;have z6:w9.cell? ⟨w2.heap.size,6,none⟩=some (.int .i64 t):=(cell_of_row w9 w2.heap.size 6 _ _ _ (K6.get (List.mem_cons_of_mem _ (List.mem_singleton.2 rfl)))).trans rfl;have z6f:w9.frozen? ⟨w2.heap.size,6,none⟩=false:=frozen_of_row w9 w2.heap.size 6 _ _ (K6.get (List.mem_cons_of_mem _ (List.mem_singleton.2 rfl)));have ZQ:=hid (show (w9.setCell ⟨w2.heap.size,6,none⟩ (.int .i64 (-1))).heap[w2.heap.size]? = some (.cells #[.int .i64 (-1),.slice none 0 0,.int .i64 (-1),.int .i64 0,.int .i64 1,.int .i64 (-1),.int .i64 (-1)] 43 (0,0)) from heap_setCell_same _ w2.heap.size 6 _ 43 _ (K6.get (List.mem_cons_of_mem _ (List.mem_singleton.2 rfl))));replace K6:=hid K6)
        | (with_reducible (show wpList _ _ _ (⟨_,.load 43 (.tmp 10),_,_,_,none⟩ :: _) _ _);go_must (refine wpList_load_row rfl 43 _ rfl w2.heap.size (by simp [Act.eval]) 43 #[.int .i64 (-1),.slice none 0 0,.int .i64 (-1),.int .i64 0,.int .i64 1,.int .i64 (-1),.int .i64 (-1)] (0,0) _ ZQ.out Tryz.underlying43 rfl (by kernel_rfl) ?_)))
       have KZ:KG Rep w1 (w9.setCell ⟨w2.heap.size,6,none⟩ (.int .i64 (-1))) x K5 310 [(h9,c5 1 6 (-1) a7 0 c7 ug,50),(w2.heap.size,#[.int .i64 (-1),.slice none 0 0,.int .i64 (-1),.int .i64 0,.int .i64 1,.int .i64 (-1),.int .i64 (-1)],43)]:=(K6.out.mono (show 300+k4<=310 by omega)).frame A (g:=w2.heap.size) (C:=#[.int .i64 (-1),.slice none 0 0,.int .i64 (-1),.int .i64 0,.int .i64 1,.int .i64 (-1),.int .i64 t]) (t:=43) (List.mem_cons_of_mem _ (List.mem_singleton.2 rfl)) ((Fr.refl (fun k=>k=w2.heap.size) _).setCell (fun _=>rfl) _) (heap_setCell_same _ w2.heap.size 6 _ 43 _ (K6.out.get (List.mem_cons_of_mem _ (List.mem_singleton.2 rfl)))) (fun p hp=>by
        rcases List.mem_cons.1 hp with rfl | hp
        ·exact .inr ⟨List.mem_cons_self,HG.out⟩
        ·exact .inl (List.mem_singleton.1 hp))
       clear z6 z6f
       obtain ⟨K6',e6,W6,_⟩:=(rd_ipc (t:=-1) (by omega) (by omega) HC.out.2.1 hc).1
       have EM:msV (mtT (-1) (-1)) none 0=.agg #[.int .i64 (-1),.slice none 0 0,.int .i64 (-1),.int .i64 0,.int .i64 1,.int .i64 (-1),.int .i64 (-1)]:=rfl
       have C6:=hid (kg_ipc0 A KZ (by omega) (mtT (-1) (-1)) rfl)
       rw [EM,e6] at C6
       rw [show tim K5.clock (-1)=-1 from if_neg (by omega)] at W6
       have HW6:=hid W6
       clear W6 e6 EM hc KZ C5 K6 HC
       refine C6.out.mono ?_
       rintro e w10 ⟨rfl,K7⟩
       have HA:=hid (And.intro K7 HW6.out)
       clear K7 C6 HW6
       go_wp2_with fail
       go_loopw [22] (fun i wr=>∃ (k:Nat) (K:RM),k<=tn/\i=.int .i64 k/\Hid (KG Rep w1 wr x K (311+k) [(h9,c5 1 6 (-1) a7 0 c7 ug,50),(w2.heap.size,#[.int .i64 (-1),.slice none 0 0,.int .i64 (-1),.int .i64 0,.int .i64 1,.int .i64 (-1),.int .i64 (-1)],43)]/\Wt 3 (-1) K)) (fun i _=>tn-(intOf i).toNat)
       case atStart=>exact ⟨0,K6',Nat.zero_le _,rfl,HA.out⟩
       case round=>
        clear HA
        obtain ⟨k6,K7,hk6,rfl,HC⟩:=hrel
        by_cases hkt:k6 < tn
        ·have kt:(k6:Int) < t:=by have:=HT.out;omega
         have HN:=hid (show Wt 3 (-1) K7.tick by
          obtain ⟨a,b,T,_⟩:=id HC.out.2
          have:=T.clk
          exact (HC.out.2.tick (by omega) (by omega)).1)
         go_wp2_with (go_at_call 19;refine (kg_tick A HC.out.1 (by omega)).mono ?_;rintro e w11 ⟨rfl,K8⟩;replace K8:=hid K8)
         first
          | exact ⟨⟨k6+1,K7.tick,by omega,by go_num,K8.out,HN.out⟩,by simp [intOf];omega⟩
          | (
           go_roundw
           case rel=>first | exact ⟨k6+1,K7.tick,by omega,by go_num,K8.out,HN.out⟩ | ((repeat apply Exists.intro);exact ⟨⟨k6+1,K7.tick,by omega,by go_num,K8.out,HN.out⟩,rfl⟩)
           case measure=>simp [intOf];omega)
        have kd:decide ((k6:Int) < t)=false:=by have:=HT.out;simp;omega
        obtain ⟨ua,ub,ut,u1,_⟩:=id HC.out.2
        have hu:K7.threads[0]? = some ua:=by rw [ut.th];rfl
        have C8:=hid (kg_look A HC.out.1 0 ua hu)
        rw [u1] at C8
        obtain ⟨ul,hul⟩:∃ n,ua.ws.length=n:=⟨_,rfl⟩
        rw [hul] at C8
        clear u1 hu ut hul hkt
        go_wp2_with fail
        refine C8.out.mono ?_
        rintro e w12 ⟨a12,c12,rfl,sl12,B12,N12,K9⟩
        have q9:=K9.get (g:=h9) (C:=c5 1 6 (-1) a7 0 c7 ug) (t:=50) List.mem_cons_self
        have s9:=setRow_heap w12 h9 _ (c5 3 ua.code ua.who a12 ul c12 ua.got) 50 (0,0) q9
        have KF:=hid (K9.frame A (g:=h9) (C:=c5 1 6 (-1) a7 0 c7 ug) (t:=50) (L':=[]) List.mem_cons_self ((Fr.refl (fun k=>k=h9) _).setRow (fun _=>rfl) _) s9 (fun p hp=>absurd hp (by simp)))
        obtain ⟨p0,p1,p2,p3,p4⟩:=c5_cells s9
        clear sl12 B12 N12 K9 C8 s9
        go_wp2_with (with_reducible (show wpList _ _ _ (⟨_,.store 50 _ _,_,_,_,none⟩ :: _) _ _);go_must (refine wpList_store_row rfl 50 _ _ rfl h9 (c5 3 ua.code ua.who a12 ul c12 ua.got) (by simp [Act.eval]) rfl 50 _ q9 (by kernel_rfl) rfl (c5_one _ _ _ _ _ _ _) ?_))
        go_ret
        exact ⟨rfl,(HB0.out.trans (HB1.out.mono HB0.out.size)).trans (KF.out.bel.mono (Nat.le_trans HB0.out.size HB1.out.size))⟩
      ·have hc1:K5.cur=1:=by have:=HC.out.2.1.cur;omega
       have hk0:=hid (show k4=0 by
        rcases Nat.lt_or_ge k4 1 with g | g
        ·omega
        ·exact absurd (HC.out.2.2 (by omega)) hc)
       have HY:=hid (HC.out.2.1.yield)
       have HZ:=hid (HY.out.2.2 hc)
       clear hc
       rw [hc1] at C5
       clear hc1
       go_wp2_with (first
        | (go_at_call 18;refine (C5.out _ (Below.refl _ _)).mono ?_;rintro e w9 ⟨rfl,K6⟩;replace K6:=hid K6)
        | (go_at_call 22;refine (kg_yield A K6.out (by omega)).mono ?_;rintro e w10 ⟨rfl,K7⟩;replace K7:=hid K7))
       first
        | exact ⟨⟨k4+1,K5.yield.2,by have:=hk0.out;omega,by go_num,K7.out,HY.out.2.1,fun _=>HZ.out⟩,by have:=hk0.out;simp [intOf];omega⟩
        | (
         go_roundw
         case rel=>first | exact ⟨k4+1,K5.yield.2,by have:=hk0.out;omega,by go_num,K7.out,HY.out.2.1,fun _=>HZ.out⟩ | ((repeat apply Exists.intro);exact ⟨⟨k4+1,K5.yield.2,by have:=hk0.out;omega,by go_num,K7.out,HY.out.2.1,fun _=>HZ.out⟩,rfl⟩)
         case measure=>have:=hk0.out;simp [intOf];omega)
   ·have hc1:K2.cur=1:=by have:=HC.out.2.1.cur;omega
    have hk0:=hid (show k2=0 by
     rcases Nat.lt_or_ge k2 1 with g | g
     ·omega
     ·exact absurd (HC.out.2.2 (by omega)) hc)
    have HY:=hid (HC.out.2.1.yield)
    have HZ:=hid (HY.out.2.2 hc)
    clear hc
    rw [hc1] at C5
    clear hc1
    go_wp2_with (first
     | (go_at_call 18;refine (C5.out _ (Below.refl _ _)).mono ?_;rintro e w4 ⟨rfl,K4⟩;replace K4:=hid K4)
     | (go_at_call 22;refine (kg_yield A K4.out (by omega)).mono ?_;rintro e w5 ⟨rfl,K5⟩;replace K5:=hid K5))
    first
     | exact ⟨⟨k2+1,K2.yield.2,by have:=hk0.out;omega,by go_num,K5.out,HY.out.2.1,fun _=>HZ.out⟩,by have:=hk0.out;simp [intOf];omega⟩
     | (
      go_roundw
      case rel=>first | exact ⟨k2+1,K2.yield.2,by have:=hk0.out;omega,by go_num,K5.out,HY.out.2.1,fun _=>HZ.out⟩ | ((repeat apply Exists.intro);exact ⟨⟨k2+1,K2.yield.2,by have:=hk0.out;omega,by go_num,K5.out,HY.out.2.1,fun _=>HZ.out⟩,rfl⟩)
      case measure=>have:=hk0.out;simp [intOf];omega)
include A in
theorem timed_send (t0 q0:Int) (w:World) (hg:Gl w) (h1:-9223372036854775808<=t0) (h2:t0<=9223372036854775807) (h3:-9223372036854775808<=q0) (h4:q0<=9223372036854775807) :
  Calls Tryz.prog 9 #[.int .i64 t0,.bool true,.int .i64 q0] w fun e w'=>e=.returned (.bool true)/\Below w.heap.size w w':=by
 have P1:=fun w=>pickK_any t0 200 w h1 h2 (by omega) (by omega)
 have P2:=fun w=>pickK_any q0 5 w h3 h4 (by omega) (by omega)
 obtain ⟨tn,htn⟩:∃ tn:Nat,1+pickI t0 200=tn:=Int.eq_ofNat_of_zero_le (by have:=pickI_in t0 (n:=200) (by omega);omega)
 have t1:1<=tn:=by have:=pickI_in t0 (n:=200) (by omega);omega
 have t2:tn<=200:=by have:=pickI_in t0 (n:=200) (by omega);omega
 obtain ⟨q,hq⟩:∃ q:Nat,pickI q0 5=q:=Int.eq_ofNat_of_zero_le (pickI_in q0 (n:=5) (by omega)).1
 have q5:q<=4:=by have:=(pickI_in q0 (n:=5) (by omega)).2;omega
 rw [hq] at P2
 obtain ⟨t,et⟩:∃ t:Int,(tn:Int)=t:=⟨_,rfl⟩
 rw [et] at htn
 have HT:=hid et
 have tb1:1<=t:=by omega
 have tb2:t<=200:=by omega
 have HK:=hid (known_any A w hg)
 have HP:=hid (And.intro P1 P2)
 clear P1 P2 hq h1 h2 h3 h4 et
 go_enter Tryz.func9,Tryz.ntmps9
 go_wp2_with fail
 refine HK.out.mono ?_
 rintro e w0 ⟨rfl,B0⟩
 have HB0:=hid B0
 have hg0:=hg.below B0
 clear B0 hg
 go_wp2_with fail
 refine (two_any w0).mono ?_
 rintro e w1 ⟨b1,b2,b3,rfl,i1,i2,i3,B1⟩
 have C2:=hid (boot_any A 2 _ _ _ _ _ _ _ _ _ twT twQ twL w1 (hg0.below B1) i1 i2 i3 fits_tw 0)
 have HB1:=hid B1
 clear i1 i2 i3 B1 hg0
 go_wp2_with fail
 refine C2.out.mono ?_
 rintro e w2 ⟨x,S2,rfl,KB,B2⟩
 have KB:KS Rep w1 w2 x S2 tw0 0:=KB
 have K3:KG Rep w1 (w2.alloc (.cells #[.int .i64 3,.slice none 0 0,.int .i64 (-1),.int .i64 0,.int .i64 1,.int .i64 (-1),.int .i64 t] 43)) x tw0 0 [(w2.heap.size,#[.int .i64 3,.slice none 0 0,.int .i64 (-1),.int .i64 0,.int .i64 1,.int .i64 (-1),.int .i64 t],43)]:=KG.push A (L:=[]) ⟨S2,KB,fun p hp=>absurd hp (by simp)⟩ _ _
 have HX:=hid K3
 clear KB B2 K3 C2
 go_wp2_with (first
  | (go_at_call 16;first | (with_reducible refine (HP.out.1 _).mono ?_;rintro e w3 ⟨rfl,hw⟩;have hw:=hw.symm;subst hw) | (with_reducible refine (HP.out.2 _).mono ?_;rintro e w3 ⟨rfl,hw⟩;have hw:=hw.symm;subst hw))
  | (with_reducible (show wpList _ _ _ (⟨_,.store 43 _ _,_,_,_,none⟩ :: _) _ _);go_must (refine wpList_store_new rfl 43 _ _ rfl w2 _ #[.int .i64 (-1),.slice none 0 0,.int .i64 (-1),.int .i64 0,.int .i64 1,.int .i64 (-1),.int .i64 t] 43 (by simp [Act.eval]) rfl (by kernel_rfl) rfl (by simp [Value.oneCell']) ?_)))
 obtain ⟨wx,hwx⟩:∃ wx,(w2.alloc (.cells #[.int .i64 3,.slice none 0 0,.int .i64 (-1),.int .i64 0,.int .i64 1,.int .i64 (-1),.int .i64 t] 43))=wx:=⟨_,rfl⟩
 rw [hwx] at HX
 rw [hwx]
 clear hwx
 go_loopw [13] (fun i wr=>∃ (k:Nat) (K:RM),k<=q/\i=.int .i64 k/\Hid (KG Rep w1 wr x K k [(w2.heap.size,#[.int .i64 3,.slice none 0 0,.int .i64 (-1),.int .i64 0,.int .i64 1,.int .i64 (-1),.int .i64 t],43)]/\Rd K)) (fun i _=>q-(intOf i).toNat)
 case atStart=>exact ⟨0,tw0,Nat.zero_le _,rfl,HX.out,rd_tw0⟩
 case round=>
  obtain ⟨k,K,hk,rfl,HC⟩:=hrel
  by_cases hkq:k < q
  ·have hkq':(k:Int) < (q:Int):=by omega
   go_wp2_with (go_at_call 19;refine (kg_tick A HC.out.1 (by omega)).mono ?_;rintro e w4 ⟨rfl,K4⟩;replace K4:=hid K4)
   first
    | exact ⟨⟨k+1,K.tick,by omega,by go_num,K4.out,HC.out.2.tick⟩,by simp [intOf];omega⟩
    | (
     go_roundw
     case rel=>first | exact ⟨k+1,K.tick,by omega,by go_num,K4.out,HC.out.2.tick⟩ | ((repeat apply Exists.intro);exact ⟨⟨k+1,K.tick,by omega,by go_num,K4.out,HC.out.2.tick⟩,rfl⟩)
     case measure=>simp [intOf];omega)
  have ek:k=q:=by omega
  clear hkq
  subst ek
  go_wp2_with fail
  have HD:=hid (And.intro (HC.out.1.mono (show k<=10 by omega)) HC.out.2)
  clear HC
  go_loopw [14] (fun i wr=>∃ (k:Nat) (K:RM),k<=1/\i=.int .i64 k/\Hid (KG Rep w1 wr x K (10+k) [(w2.heap.size,#[.int .i64 3,.slice none 0 0,.int .i64 (-1),.int .i64 0,.int .i64 1,.int .i64 (-1),.int .i64 t],43)]/\Rd K/\(k=1->K.cur=0))) (fun i _=>1-(intOf i).toNat)
  case atStart=>exact ⟨0,K,Nat.zero_le _,rfl,HD.out.1,HD.out.2,by omega⟩
  case round=>
   clear HD
   obtain ⟨k2,K2,hk2,rfl,HC⟩:=hrel
   have k5:(k2:Int) < 5:=by omega
   have C5:=hid (fun w' (hb:Below wr.heap.size wr w')=>kg_current A (HC.out.1.below A hb))
   by_cases hc:K2.cur=0
   ·rw [hc] at C5
    go_wp2_with (first
     | (go_at_call 18;refine (C5.out _ (Below.refl _ _)).mono ?_;rintro e w4 ⟨rfl,K4⟩;replace K4:=hid K4)
     | (with_reducible (show wpList _ _ _ (⟨_,.load 43 (.tmp 10),_,_,_,none⟩ :: _) _ _);go_must (refine wpList_load_row rfl 43 _ rfl w2.heap.size (by simp [Act.eval]) 43 #[.int .i64 3,.slice none 0 0,.int .i64 (-1),.int .i64 0,.int .i64 1,.int .i64 (-1),.int .i64 t] (0,0) _ (K4.out.get (List.mem_singleton.2 rfl)) Tryz.underlying43 rfl (by kernel_rfl) ?_)))
    have HE:=hid (And.intro (K4.out.mono (show 10+k2<=20 by omega)) HC.out.2.1)
    clear HC K4 C5
    obtain ⟨K3,e3,W3,c3⟩:=(rd_ipc (t:=t) (by omega) (by omega) HE.out.2 hc).2
    have EM:msV (mtT 3 t) none 0=.agg #[.int .i64 3,.slice none 0 0,.int .i64 (-1),.int .i64 0,.int .i64 1,.int .i64 (-1),.int .i64 t]:=rfl
    have C6:=hid (kg_ipc0 A HE.out.1 (by omega) (mtT 3 t) rfl)
    rw [EM,e3] at C6
    have tm:tim K2.clock t=K2.clock+t:=by
     obtain ⟨a,b,TT,_⟩:=HE.out.2
     have:=TT.clk
     obtain ⟨S9,k9,_⟩:=HE.out.1
     have:=k9.ok.c1
     unfold tim
     rw [if_pos (by omega)]
     unfold wrap64
     omega
    rw [tm] at W3
    have HW3:=hid (And.intro W3 c3)
    clear W3 c3 tm e3 EM hc
    refine C6.out.mono ?_
    rintro e w5 ⟨rfl,K5⟩
    have C7:=hid (kg_current A K5)
    rw [HW3.out.1.cur (by omega)] at C7
    clear K5 C6
    go_wp2_with (go_at_call 18;refine C7.out.mono ?_;rintro e w6 ⟨rfl,K6⟩;replace K6:=hid K6)
    have HA:=hid (And.intro K6.out HW3.out)
    clear HW3 C7 K6
    go_loopw [16] (fun i wr=>∃ (k:Nat) (K:RM),k<=tn/\i=.int .i64 k/\Hid (KG Rep w1 wr x K (21+k) [(w2.heap.size,#[.int .i64 3,.slice none 0 0,.int .i64 (-1),.int .i64 0,.int .i64 1,.int .i64 (-1),.int .i64 t],43)]/\((k < tn/\Wt 2 (K2.clock+t) K/\K.clock=K2.clock+k)\/(k=tn/\Aw K)))) (fun i _=>tn-(intOf i).toNat)
    case atStart=>exact ⟨0,K3,Nat.zero_le _,rfl,HA.out.1,.inl ⟨by omega,HA.out.2.1,by have:=HA.out.2.2;omega⟩⟩
    case round=>
     clear HA HE
     obtain ⟨k3,K4,hk3,rfl,HC⟩:=hrel
     by_cases hkt:k3 < tn
     ·have kt:(k3:Int) < t:=by have:=HT.out;omega
      have HC2:Hid (Wt 2 (K2.clock+t) K4/\K4.clock=K2.clock+k3):=hid (by
       rcases HC.out.2 with h | h
       ·exact h.2
       ·omega)
      obtain ⟨ua,ub,ut,u1,_⟩:=id HC2.out.1
      have hu:K4.threads[0]? = some ua:=by rw [ut.th];rfl
      have C8:=hid (kg_look A HC.out.1 0 ua hu)
      rw [u1] at C8
      obtain ⟨ul,hul⟩:∃ n,ua.ws.length=n:=⟨_,rfl⟩
      rw [hul] at C8
      clear u1 hu ut hul
      go_wp2_with fail
      refine C8.out.mono ?_
      rintro e w7 ⟨a7,c7,rfl,sl7,B7,N7,K7⟩
      have K8:=hid (K7.below A ((Below.refl _ w7).alloc (Nat.le_refl _) (.cells (c5 2 ua.code ua.who a7 ul c7 ua.got) 50)))
      have C9:=hid (kg_tick A K8.out (by omega))
      obtain ⟨p0,p1,p2,p3,p4⟩:=c5_cells (heap_alloc_new w7 (.cells (c5 2 ua.code ua.who a7 ul c7 ua.got) 50))
      clear sl7 B7 N7 K7 C8
      go_wp2_with (first
       | (with_reducible (show wpList _ _ _ (⟨_,.store 50 _ _,_,_,_,none⟩ :: _) _ _);go_must (refine wpList_store_new rfl 50 _ _ rfl w7 _ (c5 2 ua.code ua.who a7 ul c7 ua.got) 50 (by simp [Act.eval]) rfl (by kernel_rfl) rfl (c5_one _ _ _ _ _ _ _) ?_))
       | (go_at_call 19;refine C9.out.mono ?_;rintro e w8 ⟨rfl,K9⟩;replace K9:=hid K9))
      have HN:Hid ((k3+1 < tn/\Wt 2 (K2.clock+t) K4.tick/\K4.tick.clock=K2.clock+(k3+1:Nat))\/(k3+1=tn/\Aw K4.tick)):=hid (by
       have e1:=HC2.out.2
       have e2:=HT.out
       by_cases hl:k3+1 < tn
       ·have h9:=HC2.out.1.tick (by omega) (by omega)
        exact .inl ⟨hl,h9.1,by rw [h9.2];omega⟩
       ·exact .inr ⟨by omega,HC2.out.1.wake (by omega) (by omega)⟩)
      first
       | exact ⟨⟨k3+1,K4.tick,by omega,by go_num,K9.out,HN.out⟩,by simp [intOf];omega⟩
       | (
        go_roundw
        case rel=>first | exact ⟨k3+1,K4.tick,by omega,by go_num,K9.out,HN.out⟩ | ((repeat apply Exists.intro);exact ⟨⟨k3+1,K4.tick,by omega,by go_num,K9.out,HN.out⟩,rfl⟩)
        case measure=>simp [intOf];omega)
     have hA:Aw K4:=by
      rcases HC.out.2 with h | h
      ·omega
      ·exact h.2
     have kt:(k3:Int)=t:=by have:=HT.out;omega
     obtain ⟨ua,ub,ut,u1,_,_,u2,u3,u4⟩:=id hA
     have hu:K4.threads[0]? = some ua:=by rw [ut.th];rfl
     have HF:=hid (And.intro (HC.out.1.mono (show 21+k3<=300 by omega)) hA)
     have C8:=hid (kg_look A HF.out.1 0 ua hu)
     rw [u1,u2,u3,u4,List.length_nil] at C8
     have kd:decide ((k3:Int) < t)=false:=by simp;omega
     obtain ⟨ug,hug⟩:∃ n,ua.got=n:=⟨_,rfl⟩
     rw [hug] at C8
     clear u1 u2 u3 u4 hu ut HC hA hkt kt hug
     go_wp2_with fail
     refine C8.out.mono ?_
     rintro e w7 ⟨a7,c7,rfl,sl7,B7,N7,K7⟩
     have HLT:=hid (show w7.heap.size≠w2.heap.size from fun e=>absurd (K7.lt (List.mem_singleton.2 rfl)) (by rw [e];exact Nat.lt_irrefl _))
     have K8:=hid (K7.push A (c5 1 6 (-1) a7 0 c7 ug) 50)
     obtain ⟨p0,p1,p2,p3,p4⟩:=c5_cells (heap_alloc_new w7 (.cells (c5 1 6 (-1) a7 0 c7 ug) 50))
     have HF2:=hid HF.out.2
     clear sl7 B7 N7 K7 C8 HF
     go_wp2_with (with_reducible (show wpList _ _ _ (⟨_,.store 50 _ _,_,_,_,none⟩ :: _) _ _);go_must (refine wpList_store_new rfl 50 _ _ rfl w7 _ (c5 1 6 (-1) a7 0 c7 ug) 50 (by simp [Act.eval]) rfl (by kernel_rfl) rfl (c5_one _ _ _ _ _ _ _) ?_))
     clear p0 p1 p2 p3 p4 kd
     obtain ⟨h9,eh9⟩:∃ h,w7.heap.size=h:=⟨_,rfl⟩
     obtain ⟨w8,ew8⟩:∃ w8,w7.alloc (.cells (c5 1 6 (-1) a7 0 c7 ug) 50)=w8:=⟨_,rfl⟩
     have HG:=hid (show h9≠w2.heap.size from fun e=>by rw [<- eh9] at e;exact absurd e HLT.out)
     rw [ew8,eh9] at K8
     rw [ew8,eh9]
     clear ew8 eh9
     go_loopw [21] (fun i wr=>∃ (k:Nat) (K:RM),k<=1/\i=.int .i64 k/\Hid (KG Rep w1 wr x K (300+k) [(h9,c5 1 6 (-1) a7 0 c7 ug,50),(w2.heap.size,#[.int .i64 3,.slice none 0 0,.int .i64 (-1),.int .i64 0,.int .i64 1,.int .i64 (-1),.int .i64 t],43)]/\Rd K/\(k=1->K.cur=0))) (fun i _=>1-(intOf i).toNat)
     case atStart=>exact ⟨0,K4,Nat.zero_le _,rfl,K8.out,HF2.out.rd,by omega⟩
     case round=>
      clear K8 HF2
      obtain ⟨k4,K5,hk4,rfl,HC⟩:=hrel
      have k5:(k4:Int) < 5:=by omega
      have C5:=hid (fun w' (hb:Below wr.heap.size wr w')=>kg_current A (HC.out.1.below A hb))
      by_cases hc:K5.cur=0
      ·rw [hc] at C5
       go_wp2_with (first
        | (go_at_call 18;refine (C5.out _ (Below.refl _ _)).mono ?_;rintro e w9 ⟨rfl,K6⟩;have z6:w9.cell? ⟨w2.heap.size,6,none⟩=some (.int .i64 t):=(cell_of_row w9 w2.heap.size 6 _ _ _ (K6.get (List.mem_cons_of_mem _ (List.mem_singleton.2 rfl)))).trans rfl;have z6f:w9.frozen? ⟨w2.heap.size,6,none⟩=false:=frozen_of_row w9 w2.heap.size 6 _ _ (K6.get (List.mem_cons_of_mem _ (List.mem_singleton.2 rfl)));have ZQ:=hid (show (w9.setCell ⟨w2.heap.size,6,none⟩ (.int .i64 (-1))).heap[w2.heap.size]? = some (.cells #[.int .i64 3,.slice none 0 0,.int .i64 (-1),.int .i64 0,.int .i64 1,.int .i64 (-1),.int .i64 (-1)] 43 (0,0)) from heap_setCell_same _ w2.heap.size 6 _ 43 _ (K6.get (List.mem_cons_of_mem _ (List.mem_singleton.2 rfl))));replace K6:=hid K6)
        | (with_reducible (show wpList _ _ _ (⟨_,.load 43 (.tmp 10),_,_,_,none⟩ :: _) _ _);go_must (refine wpList_load_row rfl 43 _ rfl w2.heap.size (by simp [Act.eval]) 43 #[.int .i64 3,.slice none 0 0,.int .i64 (-1),.int .i64 0,.int .i64 1,.int .i64 (-1),.int .i64 (-1)] (0,0) _ ZQ.out Tryz.underlying43 rfl (by kernel_rfl) ?_)))
       have KZ:KG Rep w1 (w9.setCell ⟨w2.heap.size,6,none⟩ (.int .i64 (-1))) x K5 310 [(h9,c5 1 6 (-1) a7 0 c7 ug,50),(w2.heap.size,#[.int .i64 3,.slice none 0 0,.int .i64 (-1),.int .i64 0,.int .i64 1,.int .i64 (-1),.int .i64 (-1)],43)]:=(K6.out.mono (show 300+k4<=310 by omega)).frame A (g:=w2.heap.size) (C:=#[.int .i64 3,.slice none 0 0,.int .i64 (-1),.int .i64 0,.int .i64 1,.int .i64 (-1),.int .i64 t]) (t:=43) (List.mem_cons_of_mem _ (List.mem_singleton.2 rfl)) ((Fr.refl (fun k=>k=w2.heap.size) _).setCell (fun _=>rfl) _) (heap_setCell_same _ w2.heap.size 6 _ 43 _ (K6.out.get (List.mem_cons_of_mem _ (List.mem_singleton.2 rfl)))) (fun p hp=>by
        rcases List.mem_cons.1 hp with rfl | hp
        ·exact .inr ⟨List.mem_cons_self,HG.out⟩
        ·exact .inl (List.mem_singleton.1 hp))
       clear z6 z6f
       obtain ⟨K6',e6,W6,_⟩:=(rd_ipc (t:=-1) (by omega) (by omega) HC.out.2.1 hc).2
       have EM:msV (mtT 3 (-1)) none 0=.agg #[.int .i64 3,.slice none 0 0,.int .i64 (-1),.int .i64 0,.int .i64 1,.int .i64 (-1),.int .i64 (-1)]:=rfl
       have C6:=hid (kg_ipc0 A KZ (by omega) (mtT 3 (-1)) rfl)
       rw [EM,e6] at C6
       rw [show tim K5.clock (-1)=-1 from if_neg (by omega)] at W6
       have HW6:=hid W6
       clear W6 e6 EM hc KZ C5 K6 HC
       refine C6.out.mono ?_
       rintro e w10 ⟨rfl,K7⟩
       have HA:=hid (And.intro K7 HW6.out)
       clear K7 C6 HW6
       go_wp2_with fail
       go_loopw [22] (fun i wr=>∃ (k:Nat) (K:RM),k<=tn/\i=.int .i64 k/\Hid (KG Rep w1 wr x K (311+k) [(h9,c5 1 6 (-1) a7 0 c7 ug,50),(w2.heap.size,#[.int .i64 3,.slice none 0 0,.int .i64 (-1),.int .i64 0,.int .i64 1,.int .i64 (-1),.int .i64 (-1)],43)]/\Wt 2 (-1) K)) (fun i _=>tn-(intOf i).toNat)
       case atStart=>exact ⟨0,K6',Nat.zero_le _,rfl,HA.out⟩
       case round=>
        clear HA
        obtain ⟨k6,K7,hk6,rfl,HC⟩:=hrel
        by_cases hkt:k6 < tn
        ·have kt:(k6:Int) < t:=by have:=HT.out;omega
         have HN:=hid (show Wt 2 (-1) K7.tick by
          obtain ⟨a,b,T,_⟩:=id HC.out.2
          have:=T.clk
          exact (HC.out.2.tick (by omega) (by omega)).1)
         go_wp2_with (go_at_call 19;refine (kg_tick A HC.out.1 (by omega)).mono ?_;rintro e w11 ⟨rfl,K8⟩;replace K8:=hid K8)
         first
          | exact ⟨⟨k6+1,K7.tick,by omega,by go_num,K8.out,HN.out⟩,by simp [intOf];omega⟩
          | (
           go_roundw
           case rel=>first | exact ⟨k6+1,K7.tick,by omega,by go_num,K8.out,HN.out⟩ | ((repeat apply Exists.intro);exact ⟨⟨k6+1,K7.tick,by omega,by go_num,K8.out,HN.out⟩,rfl⟩)
           case measure=>simp [intOf];omega)
        have kd:decide ((k6:Int) < t)=false:=by have:=HT.out;simp;omega
        obtain ⟨ua,ub,ut,u1,_⟩:=id HC.out.2
        have hu:K7.threads[0]? = some ua:=by rw [ut.th];rfl
        have C8:=hid (kg_look A HC.out.1 0 ua hu)
        rw [u1] at C8
        obtain ⟨ul,hul⟩:∃ n,ua.ws.length=n:=⟨_,rfl⟩
        rw [hul] at C8
        clear u1 hu ut hul hkt
        go_wp2_with fail
        refine C8.out.mono ?_
        rintro e w12 ⟨a12,c12,rfl,sl12,B12,N12,K9⟩
        have q9:=K9.get (g:=h9) (C:=c5 1 6 (-1) a7 0 c7 ug) (t:=50) List.mem_cons_self
        have s9:=setRow_heap w12 h9 _ (c5 2 ua.code ua.who a12 ul c12 ua.got) 50 (0,0) q9
        have KF:=hid (K9.frame A (g:=h9) (C:=c5 1 6 (-1) a7 0 c7 ug) (t:=50) (L':=[]) List.mem_cons_self ((Fr.refl (fun k=>k=h9) _).setRow (fun _=>rfl) _) s9 (fun p hp=>absurd hp (by simp)))
        obtain ⟨p0,p1,p2,p3,p4⟩:=c5_cells s9
        clear sl12 B12 N12 K9 C8 s9
        go_wp2_with (with_reducible (show wpList _ _ _ (⟨_,.store 50 _ _,_,_,_,none⟩ :: _) _ _);go_must (refine wpList_store_row rfl 50 _ _ rfl h9 (c5 2 ua.code ua.who a12 ul c12 ua.got) (by simp [Act.eval]) rfl 50 _ q9 (by kernel_rfl) rfl (c5_one _ _ _ _ _ _ _) ?_))
        go_ret
        exact ⟨rfl,(HB0.out.trans (HB1.out.mono HB0.out.size)).trans (KF.out.bel.mono (Nat.le_trans HB0.out.size HB1.out.size))⟩
      ·have hc1:K5.cur=1:=by have:=HC.out.2.1.cur;omega
       have hk0:=hid (show k4=0 by
        rcases Nat.lt_or_ge k4 1 with g | g
        ·omega
        ·exact absurd (HC.out.2.2 (by omega)) hc)
       have HY:=hid (HC.out.2.1.yield)
       have HZ:=hid (HY.out.2.2 hc)
       clear hc
       rw [hc1] at C5
       clear hc1
       go_wp2_with (first
        | (go_at_call 18;refine (C5.out _ (Below.refl _ _)).mono ?_;rintro e w9 ⟨rfl,K6⟩;replace K6:=hid K6)
        | (go_at_call 22;refine (kg_yield A K6.out (by omega)).mono ?_;rintro e w10 ⟨rfl,K7⟩;replace K7:=hid K7))
       first
        | exact ⟨⟨k4+1,K5.yield.2,by have:=hk0.out;omega,by go_num,K7.out,HY.out.2.1,fun _=>HZ.out⟩,by have:=hk0.out;simp [intOf];omega⟩
        | (
         go_roundw
         case rel=>first | exact ⟨k4+1,K5.yield.2,by have:=hk0.out;omega,by go_num,K7.out,HY.out.2.1,fun _=>HZ.out⟩ | ((repeat apply Exists.intro);exact ⟨⟨k4+1,K5.yield.2,by have:=hk0.out;omega,by go_num,K7.out,HY.out.2.1,fun _=>HZ.out⟩,rfl⟩)
         case measure=>have:=hk0.out;simp [intOf];omega)
   ·have hc1:K2.cur=1:=by have:=HC.out.2.1.cur;omega
    have hk0:=hid (show k2=0 by
     rcases Nat.lt_or_ge k2 1 with g | g
     ·omega
     ·exact absurd (HC.out.2.2 (by omega)) hc)
    have HY:=hid (HC.out.2.1.yield)
    have HZ:=hid (HY.out.2.2 hc)
    clear hc
    rw [hc1] at C5
    clear hc1
    go_wp2_with (first
     | (go_at_call 18;refine (C5.out _ (Below.refl _ _)).mono ?_;rintro e w4 ⟨rfl,K4⟩;replace K4:=hid K4)
     | (go_at_call 22;refine (kg_yield A K4.out (by omega)).mono ?_;rintro e w5 ⟨rfl,K5⟩;replace K5:=hid K5))
    first
     | exact ⟨⟨k2+1,K2.yield.2,by have:=hk0.out;omega,by go_num,K5.out,HY.out.2.1,fun _=>HZ.out⟩,by have:=hk0.out;simp [intOf];omega⟩
     | (
      go_roundw
      case rel=>first | exact ⟨k2+1,K2.yield.2,by have:=hk0.out;omega,by go_num,K5.out,HY.out.2.1,fun _=>HZ.out⟩ | ((repeat apply Exists.intro);exact ⟨⟨k2+1,K2.yield.2,by have:=hk0.out;omega,by go_num,K5.out,HY.out.2.1,fun _=>HZ.out⟩,rfl⟩)
      case measure=>have:=hk0.out;simp [intOf];omega)
end
open Go.RowKit
def quT:List (Int×Int):=[(0,2),(0,2),(0,2),(0,2),(0,2),(1,1)]
def quQ:List (Int×Int×Int×Int):=[(0,2,5,1)]
def qu0:RM:=(RK.new 2 quT quQ []).up
def quS (c:Int):Ms:=⟨2,[c],-1,0,5,-1,-1⟩
def quR (f:Int):Ms:=⟨-1,[],-1,0,f,-1,0⟩
theorem qu_fits:Fits 2 quT quQ []:=by
 have at3:∀ {α:Type}{l:List α}{i:Nat}{p:α},l[i]? = some p->p∈l:=fun h=>List.mem_of_getElem? h
 refine ⟨by omega,by decide,?_,?_,?_,fun i p hp=>by simp at hp,fun i k p q _ hp=>by simp at hp⟩
 ·intro i p hp
  have:=at3 hp
  simp [quT] at this
  rcases this with rfl | rfl <;> simp [okT]
 ·intro i p hp
  have:=at3 hp
  simp [quQ] at this
  subst this
  simp [okQ,quT]
 ·intro i k p q hi hp hq
  have l1:=(List.getElem?_eq_some_iff.1 hp).1
  have l2:=(List.getElem?_eq_some_iff.1 hq).1
  simp [quQ] at l1 l2
  omega
theorem nth_some {K:RM}{i:Nat}(h:i < K.threads.length):K.threads[i]? = some (K.nth i):=by
 unfold RM.nth
 rw [List.getElem?_eq_getElem h];rfl
theorem nth_of {K:RM}{i:Nat}{u:Th}(h:K.threads[i]? = some u):u=K.nth i:=by
 unfold RM.nth
 rw [h];rfl
theorem nth_upd {K:RM}{c i:Nat}{f:Th->Th}(h:i < K.threads.length):(K.upd c f).nth i=if i=c then f (K.nth i) else K.nth i:=by
 have e:(K.upd c f).threads[i]? = some (if i=c then f (K.nth i) else K.nth i):=by
  show (K.threads.modify c f)[i]? = _
  rw [List.getElem?_modify,nth_some h]
  by_cases q:c=i
  ·subst q;simp
  ·rw [if_neg (fun e:i=c=>q e.symm)];simp [q]
 exact (nth_of e).symm
theorem upd_len {K:RM}{c:Nat}{f:Th->Th}:(K.upd c f).threads.length=K.threads.length:=by simp [RM.upd]
structure Qw (K:RM) (i:Nat):Prop where
 st:(K.nth i).st=2
 ot:(K.nth i).other=5
 mw:(K.nth i).mw=[(i:Int)]
 fr:(K.nth i).frm=5
 it:(K.nth i).item=-1
 wa:(K.nth i).wait=-1
structure Q1 (K:RM) (row rest:List Nat):Prop where
 len:K.threads.length=6
 ps:K.passes=quQ
 cov:∀ i,i < 5->i∈row\/i∈rest
 rl:∀ i∈row,i < 5
 sl:∀ i∈rest,i < 5
 nd:row.Nodup
 nr:rest.Nodup
 dj:∀ i∈rest,i ∉ row
 rd:∀ i∈rest,(K.nth i).st=1/\(K.nth i).row=2/\(K.nth i).sp=0
 wt:∀ i∈row,Qw K i
 lo:(K.nth 5).st=1/\(K.nth 5).row=1
 tn:∀ i∈row,(K.nth i).turn < K.last
 od:row.Pairwise (fun i j=>(K.nth i).turn < (K.nth j).turn)
theorem Q1.cur {K:RM}{row rest:List Nat}(h:Q1 K row rest) (hr:rest≠[]):∃ c∈rest,K.cur=(c:Nat):=by
 obtain ⟨i,hi⟩:=List.exists_mem_of_ne_nil rest hr
 have hl:=h.sl i hi
 have hd:=h.rd i hi
 rcases curM_best K.threads K.threads.length (Nat.le_refl _) with ⟨_,hno⟩ | ⟨j,u,e,hj,hu,u1,hb⟩
 ·exact absurd hd.1 (hno i _ (by rw [h.len];omega) (nth_some (by rw [h.len];omega)))
 ·have hb:=hb i _ (by rw [h.len];omega) (nth_some (by rw [h.len];omega)) hd.1
  have eu:=nth_of hu
  rw [eu] at u1 hb
  rw [h.len] at hj
  have j5:j≠5:=fun e5=>by
   rw [e5] at hb
   have:=h.lo.2
   omega
  rcases h.cov j (by omega) with g | g
  ·have:=(h.wt j g).st
   omega
  ·exact ⟨j,g,e⟩
theorem Q1.cur5 {K:RM}{row:List Nat}(h:Q1 K row []):K.cur=5:=by
 rcases curM_best K.threads K.threads.length (Nat.le_refl _) with ⟨_,hno⟩ | ⟨j,u,e,hj,hu,u1,_⟩
 ·exact absurd h.lo.1 (hno 5 _ (by rw [h.len];omega) (nth_some (by rw [h.len];omega)))
 ·have eu:=nth_of hu
  rw [eu] at u1
  rw [h.len] at hj
  have j5:j=5:=by
   rcases Nat.lt_or_ge j 5 with g | g
   ·rcases h.cov j g with g | g
    ·have:=(h.wt j g).st
     omega
    ·simp at g
   ·omega
  show curM K.threads K.threads.length=_
  rw [e,j5];rfl
theorem Q1.keep {K K':RM}{row rest:List Nat}{c:Nat}(h:Q1 K row rest) (hc:c∈rest) (hl:K'.threads.length=6) (hp:K'.passes=K.passes) (ho:∀ i,i < 6->i≠c->K'.nth i=K.nth i) (hn:(K'.nth c).st=(K.nth c).st/\(K'.nth c).row=(K.nth c).row/\(K'.nth c).sp=(K.nth c).sp) (ht:K.last<=K'.last):Q1 K' row rest:=by
 have nr:∀ i∈row,K'.nth i=K.nth i:=fun i hi=>ho i (by have:=h.rl i hi;omega) (fun e=>h.dj c hc (e ▸ hi))
 refine ⟨hl,hp.trans h.ps,h.cov,h.rl,h.sl,h.nd,h.nr,h.dj,fun i hi=>?_,fun i hi=>?_,?_,fun i hi=>?_,?_⟩
 ·have d:=h.rd i hi
  by_cases e:i=c
  ·subst e;exact ⟨hn.1.trans d.1,hn.2.1.trans d.2.1,hn.2.2.trans d.2.2⟩
  ·rw [ho i (by have:=h.sl i hi;omega) e];exact d
 ·have w:=h.wt i hi
  have e:=nr i hi
  exact ⟨by rw [e];exact w.st,by rw [e];exact w.ot,by rw [e];exact w.mw,by rw [e];exact w.fr,by rw [e];exact w.it,by rw [e];exact w.wa⟩
 ·rw [ho 5 (by omega) (fun e=>by have:=h.sl c hc;omega)];exact h.lo
 ·rw [nr i hi];have:=h.tn i hi;omega
 ·exact h.od.imp_of_mem (fun ha hb g=>by rw [nr _ ha,nr _ hb];exact g)
theorem Q1.yield {K:RM}{row rest:List Nat}(h:Q1 K row rest) (hr:rest≠[]):K.yield.1=0/\Q1 K.yield.2 row rest:=by
 obtain ⟨c,hc,e⟩:=h.cur hr
 have c5:=h.sl c hc
 have ey:K.yield=(0,(K.setLeft c 3).toLast c):=by
  unfold RM.yield
  rw [e,if_neg (by omega),Int.toNat_natCast]
 rw [ey]
 have hn:∀ i,i < 6->((K.setLeft c 3).toLast c).nth i=if i=c then { K.nth i with left:=3,ord:=K.last } else K.nth i:=fun i hi=>by
  show (((K.upd c (fun u=>{ u with left:=3 })).upd c (fun u=>{ u with ord:=K.last }))).nth i=_
  rw [nth_upd (by rw [upd_len,h.len];exact hi),nth_upd (by rw [h.len];exact hi)]
  by_cases q:i=c
  ·rw [if_pos q,if_pos q,if_pos q]
  ·rw [if_neg q,if_neg q,if_neg q]
 refine ⟨rfl,h.keep hc ?_ rfl (fun i hi q=>by rw [hn i hi,if_neg q]) ?_ (by show K.last<=K.last+1;omega)⟩
 ·show ((K.threads.modify c _).modify c _).length=6
  simp [h.len]
 ·rw [hn c (by omega),if_pos rfl];exact ⟨rfl,rfl,rfl⟩
theorem Q1.send {K:RM}{row rest:List Nat}{c:Nat}(h:Q1 K row rest) (hc:c∈rest) (e:K.cur=c):∃ K',K.ipc (quS c)=(0,K')/\Q1 K' (row ++ [c]) (rest.erase c):=by
 have c5:=h.sl c hc
 have hd:=h.rd c hc
 have m1:isMs 6 (quS c)=true:=by simp [isMs,quS,inI]
 refine ⟨((K.asks c (quS c)).lendsTo c false).waits c 2 5,?_,?_⟩
 ·rw [ipcS (t:=c) (r:=5) (u:=K.nth c) (p:=(0,2,5,1)) e (nth_some (by rw [h.len];omega)) (by rw [h.len];exact m1) (by show ¬ (2:Int) < 0;omega) (by rw [h.ps,hd.2.2];rfl) (by
    show ¬ (bits .and .i64 1 1=0\/(5:Int)=c)
    rintro (g | g)
    ·exact absurd g (by decide)
    ·omega) (by decide),sendsW (x:=K.nth 5) (by
    show ((K.threads.modify c _).modify c _)[5]? = _
    rw [List.getElem?_modify,List.getElem?_modify,nth_some (by rw [h.len];omega)];simp [show ¬ c=5 by omega]) (by rw [h.lo.1];omega) (by show (-1:Int)≠0;omega)]
  rfl
 ·have hn:∀ i,i < 6->(((K.asks c (quS c)).lendsTo c false).waits c 2 5).nth i=if i=c then { K.nth i with dst:=2,mw:=[(c:Int)],item:=-1,rt:=0,frm:=5,win:=-1,wait:=-1,lends:=false,st:=2,other:=5,turn:=K.last,time:=tim K.clock (-1) } else K.nth i:=fun i hi=>by
   show ((((K.upd c (fun u=>{ u with dst:=2,mw:=[(c:Int)],item:=-1,rt:=0,frm:=5,win:=-1,wait:=-1 })).upd c (fun u=>{ u with lends:=false }))).upd c (fun u=>{ u with st:=2,other:=5,turn:=K.last,time:=tim K.clock u.wait })).nth i=_
   rw [nth_upd (by rw [upd_len,upd_len,h.len];exact hi),nth_upd (by rw [upd_len,h.len];exact hi),nth_upd (by rw [h.len];exact hi)]
   by_cases q:i=c
   ·rw [if_pos q,if_pos q,if_pos q,if_pos q]
   ·rw [if_neg q,if_neg q,if_neg q,if_neg q]
  have no:∀ i,i < 6->i≠c->(((K.asks c (quS c)).lendsTo c false).waits c 2 5).nth i=K.nth i:=fun i hi q=>by rw [hn i hi,if_neg q]
  have nc:=hn c (by omega)
  rw [if_pos rfl] at nc
  have rc:∀ i∈row,i≠c:=fun i hi q=>h.dj c hc (q ▸ hi)
  have nw:∀ i∈row,(((K.asks c (quS c)).lendsTo c false).waits c 2 5).nth i=K.nth i:=fun i hi=>no i (by have:=h.rl i hi;omega) (rc i hi)
  refine ⟨?_,h.ps,fun i hi=>?_,fun i hi=>?_,fun i hi=>h.sl i (List.mem_of_mem_erase hi),?_,h.nr.erase _,fun i hi hm=>?_,fun i hi=>?_,fun i hi=>?_,?_,fun i hi=>?_,?_⟩
  ·show (((K.threads.modify c _).modify c _).modify c _).length=6
   simp [h.len]
  ·by_cases q:i=c
   ·left;simp [q]
   ·rcases h.cov i hi with g | g
    ·left;simp [g]
    ·right;exact (List.mem_erase_of_ne q).2 g
  ·rcases List.mem_append.1 hi with g | g
   ·exact h.rl i g
   ·simp at g;omega
  ·rw [List.nodup_append]
   exact ⟨h.nd,by simp,fun a ha b hb=>by simp at hb;rw [hb];exact rc a ha⟩
  ·have:=h.nr.mem_erase_iff.1 hi
   rcases List.mem_append.1 hm with g | g
   ·exact h.dj i this.2 g
   ·simp at g;exact this.1 g
  ·have:=h.nr.mem_erase_iff.1 hi
   rw [no i (by have:=h.sl i this.2;omega) this.1]
   exact h.rd i this.2
  ·rcases List.mem_append.1 hi with g | g
   ·have w:=h.wt i g
    have e:=nw i g
    exact ⟨by rw [e];exact w.st,by rw [e];exact w.ot,by rw [e];exact w.mw,by rw [e];exact w.fr,by rw [e];exact w.it,by rw [e];exact w.wa⟩
   ·simp at g
    subst g
    exact ⟨by rw [nc],by rw [nc],by rw [nc],by rw [nc],by rw [nc],by rw [nc]⟩
  ·rw [no 5 (by omega) (by omega)];exact h.lo
  ·show _ < K.last+1
   rcases List.mem_append.1 hi with g | g
   ·rw [nw i g];have:=h.tn i g;omega
   ·simp at g
    subst g
    rw [nc];show K.last < K.last+1;omega
  ·rw [List.pairwise_append]
   refine ⟨h.od.imp_of_mem (fun ha hb g=>by rw [nw _ ha,nw _ hb];exact g),by simp,fun a ha b hb=>?_⟩
   simp at hb
   subst hb
   rw [nw a ha,nc]
   exact h.tn a ha
structure Q2 (K:RM) (rest:List Nat):Prop where
 len:K.threads.length=6
 lo:(K.nth 5).st=1
 lt:∀ i∈rest,i < 5
 wt:∀ i∈rest,Qw K i
 gn:∀ i,i < 5->i ∉ rest->(K.nth i).st=3
 nd:rest.Nodup
 od:rest.Pairwise (fun i j=>(K.nth i).turn < (K.nth j).turn)
theorem Q1.q2 {K:RM}{row:List Nat}(h:Q1 K row []):Q2 K row:=
 ⟨h.len,h.lo.1,h.rl,h.wt,fun i hi hn=>by rcases h.cov i hi with g | g;exact absurd g hn;simp at g,h.nd,h.od⟩
theorem Q2.cur {K:RM}{rest:List Nat}(h:Q2 K rest):K.cur=5:=by
 rcases curM_best K.threads K.threads.length (Nat.le_refl _) with ⟨_,hno⟩ | ⟨j,u,e,hj,hu,u1,_⟩
 ·exact absurd h.lo (hno 5 _ (by rw [h.len];omega) (nth_some (by rw [h.len];omega)))
 ·have eu:=nth_of hu
  rw [eu] at u1
  rw [h.len] at hj
  have j5:j=5:=by
   rcases Nat.lt_or_ge j 5 with g | g
   ·by_cases m:j∈rest
    ·have:=(h.wt j m).st
     omega
    ·have:=h.gn j g m
     omega
   ·omega
  show curM K.threads K.threads.length=_
  rw [e,j5];rfl
theorem qr_ms {f:Int}(h1:-1<=f) (h2:f < 5):isMs 6 (quR f)=true:=by
 have a1:inI f (-2) 5=true:=inI_true.2 ⟨by omega,by omega⟩
 have a2:decide (-2 < f)=true:=decide_eq_true (by omega)
 show (inI (-1) (-1) 5 && (inI f (-2) 5 && (inI (-1) (-1) 5 && (inI 0 0 3 && (inI (-1) (-1) 5 && (decide ((0:Int)<=4) && (decide ((-1:Int)<=0) && (decide ((0:Int)<=-1) || decide (-2 < f)))))))) )=true
 rw [a1,a2]
 decide
theorem asks_nth {K:RM} (h:K.threads.length=6) (f:Int) (i:Nat) (hi:i < 6):(K.asks 5 (quR f)).nth i=if i=5 then { K.nth i with dst:=-1,mw:=[],item:=-1,rt:=0,frm:=f,win:=-1,wait:=0 } else K.nth i:=by
 show (K.upd 5 (fun u=>{ u with dst:=-1,mw:=[],item:=-1,rt:=0,frm:=f,win:=-1,wait:=0 })).nth i=_
 rw [nth_upd (by rw [h];exact hi)]
theorem Q2.hear {K:RM}{rest:List Nat}{s:Nat}{f:Int}(h:Q2 K rest) (hs:s∈rest) (hf:f=s\/(f=-1/\∃ r,rest=s :: r)):∃ K',K.ipc (quR f)=(0,K')/\Q2 K' (rest.erase s)/\(K'.nth 5).code=0/\(K'.nth 5).who=s/\(K'.nth 5).ws=[(s:Int)]:=by
 have s5:=h.lt s hs
 have hw:=h.wt s hs
 have l1:(K.asks 5 (quR f)).threads.length=6:=by rw [RM.asks,upd_len];exact h.len
 have n1:=asks_nth h.len f
 have ne:∀ i,i < 5->(K.asks 5 (quR f)).nth i=K.nth i:=fun i hi=>by rw [n1 i (by omega),if_neg (by omega)]
 have nf:(K.asks 5 (quR f)).nth 5={ K.nth 5 with dst:=-1,mw:=[],item:=-1,rt:=0,frm:=f,win:=-1,wait:=0 }:=by rw [n1 5 (by omega),if_pos rfl]
 have sm:senM (K.asks 5 (quR f)).threads ((5:Nat):Int) f (K.asks 5 (quR f)).threads.length=(s:Nat):=by
  rcases senM_best (K.asks 5 (quR f)).threads ((5:Nat):Int) f (K.asks 5 (quR f)).threads.length (Nat.le_refl _) with ⟨_,hno⟩ | ⟨j,u,e,hj,hu,hc,hb⟩
  ·exact absurd ⟨by rw [ne s s5];exact hw.st,by rw [ne s s5];exact hw.ot,by rcases hf with g | g;exact .inr g;exact .inl g.1⟩ (hno s _ (by rw [l1];omega) (nth_some (by rw [l1];omega)))
  ·rw [e]
   have eu:=nth_of hu
   rw [l1] at hj
   have j5:j < 5:=by
    rcases Nat.lt_or_ge j 5 with g | g
    ·exact g
    ·exfalso
     have:j=5:=by omega
     rw [eu,this,nf] at hc
     have c1:(K.nth 5).st=2:=hc.1
     have:=h.lo
     omega
   rw [eu,ne j j5] at hc
   have jm:j∈rest:=by
    by_cases m:j∈rest
    ·exact m
    ·have:=h.gn j j5 m
     have:=hc.1
     omega
   have:j=s:=by
    rcases hf with g | ⟨g,r,er⟩
    ·have:=hc.2.2;omega
    ·by_cases q:j=s
     ·exact q
     ·exfalso
      have jr:j∈r:=by rw [er] at jm;rcases List.mem_cons.1 jm with z | z;exact absurd z q;exact z
      have o:=h.od
      rw [er,List.pairwise_cons] at o
      have o1:=o.1 j jr
      have b1:=hb s _ (by rw [l1];omega) (nth_some (by rw [l1];omega)) ⟨by rw [ne s s5];exact hw.st,by rw [ne s s5];exact hw.ot,.inl g⟩
      rw [eu,ne j j5,ne s s5] at b1
      omega
   rw [this]
 have sm2:∀ (K3:RM),K3.threads.length=6->(K3.nth 5).st=1->senM K3.threads (s:Int) 5 K3.threads.length < 0:=fun K3 h3 h4=>by
  rcases senM_inv K3.threads (s:Int) 5 K3.threads.length (Nat.le_refl _) with e | ⟨j,u,e,hj,hu,u2,_,hf⟩
  ·rw [e];omega
  ·exfalso
   have:j=5:=by omega
   subst this
   rw [nth_of hu,h4] at u2
   omega
 obtain ⟨K2,hK2⟩:∃ K2:RM,{ (K.asks 5 (quR f)).upd 5 (fun u=>{ u with st:=1,time:=-1,code:=0,who:=s,ws:=(K.nth s).mw,got:=-1 }) with leaves:=(K.asks 5 (quR f)).leaves }=K2:=⟨_,rfl⟩
 have l2:K2.threads.length=6:=by rw [<- hK2];show ((K.asks 5 (quR f)).threads.modify 5 _).length=6;simp [l1]
 have n2:∀ i,i < 6->K2.nth i=if i=5 then { (K.asks 5 (quR f)).nth i with st:=1,time:=-1,code:=0,who:=s,ws:=(K.nth s).mw,got:=-1 } else (K.asks 5 (quR f)).nth i:=fun i hi=>by
  rw [<- hK2]
  show ((K.asks 5 (quR f)).upd 5 _).nth i=_
  rw [nth_upd (by rw [l1];exact hi)]
 have n2e:∀ i,i < 5->K2.nth i=K.nth i:=fun i hi=>by rw [n2 i (by omega),if_neg (by omega),ne i hi]
 have n2f:=n2 5 (by omega)
 rw [if_pos rfl,nf] at n2f
 refine ⟨K2.waits s 3 (-1),?_,?_⟩
 ·rw [ipcR (t:=5) (by rw [h.cur];rfl) (by rw [h.len];exact qr_ms (by omega) (by omega)) (by show (-1:Int) < 0;omega),recv_some (n:=6) (s:=s) (x:=(K.asks 5 (quR f)).nth 5) (nth_some (by rw [l1];omega)) (by rw [nf];exact sm)]
  show (0,((K.asks 5 (quR f)).deliver s 5).goes 6 s false)=_
  rw [deliverE (a:=K.nth s) (b:=(K.asks 5 (quR f)).nth 5) (L:=(K.asks 5 (quR f)).leaves) (g:=-1) (by rw [nth_some (by rw [l1];omega),ne s s5]) (nth_some (by rw [l1];omega)) (lendN (.inl (by rw [hw.it];omega)))]
  rw [hK2,goesR (z:=K.nth s) (by rw [nth_some (by rw [l2];omega),n2e s s5]) (by rw [hw.fr];omega),recvW (n:=5) (x:=K.nth s) (by rw [nth_some (by rw [l2];omega),n2e s s5]) (by rw [hw.fr];exact sm2 K2 l2 (by rw [n2f])) (by rw [hw.wa];omega)]
 ·have n3:∀ i,i < 6->(K2.waits s 3 (-1)).nth i=if i=s then { K2.nth i with st:=3,other:=-1,turn:=K2.last,time:=tim K2.clock (K2.nth i).wait } else K2.nth i:=fun i hi=>by
   show (K2.upd s (fun u=>{ u with st:=3,other:=-1,turn:=K2.last,time:=tim K2.clock u.wait })).nth i=_
   rw [nth_upd (by rw [l2];exact hi)]
  have n3e:∀ i,i < 5->i≠s->(K2.waits s 3 (-1)).nth i=K.nth i:=fun i hi q=>by rw [n3 i (by omega),if_neg q,n2e i hi]
  have n3f:(K2.waits s 3 (-1)).nth 5=K2.nth 5:=by rw [n3 5 (by omega),if_neg (by omega)]
  refine ⟨⟨?_,?_,fun i hi=>h.lt i (List.mem_of_mem_erase hi),fun i hi=>?_,fun i hi hn=>?_,h.nd.erase _,?_⟩,?_,?_,?_⟩
  ·show (K2.threads.modify s _).length=6
   simp [l2]
  ·rw [n3f,n2f]
  ·have m:=h.nd.mem_erase_iff.1 hi
   have w:=h.wt i m.2
   have e:=n3e i (h.lt i m.2) m.1
   exact ⟨by rw [e];exact w.st,by rw [e];exact w.ot,by rw [e];exact w.mw,by rw [e];exact w.fr,by rw [e];exact w.it,by rw [e];exact w.wa⟩
  ·by_cases q:i=s
   ·rw [n3 i (by omega),if_pos q]
   ·rw [n3e i hi q]
    exact h.gn i hi (fun m=>hn (h.nd.mem_erase_iff.2 ⟨q,m⟩))
  ·refine (h.od.sublist List.erase_sublist).imp_of_mem (fun {a b} ha hb g=>?_)
   have ma:=h.nd.mem_erase_iff.1 ha
   have mb:=h.nd.mem_erase_iff.1 hb
   rw [n3e a (h.lt a ma.2) ma.1,n3e b (h.lt b mb.2) mb.1]
   exact g
  ·rw [n3f,n2f]
  ·rw [n3f,n2f]
  ·rw [n3f,n2f];exact hw.mw
theorem Q2.busy {K:RM}(h:Q2 K []):∃ K',K.ipc (quR (-1))=(0,K')/\K'.threads.length=6/\(K'.nth 5).code=5/\(K'.nth 5).who=-1:=by
 have l1:(K.asks 5 (quR (-1))).threads.length=6:=by rw [RM.asks,upd_len];exact h.len
 have n1:=asks_nth h.len (-1)
 have nf:(K.asks 5 (quR (-1))).nth 5={ K.nth 5 with dst:=-1,mw:=[],item:=-1,rt:=0,frm:=-1,win:=-1,wait:=0 }:=by rw [n1 5 (by omega),if_pos rfl]
 have sm:senM (K.asks 5 (quR (-1))).threads ((5:Nat):Int) (-1) (K.asks 5 (quR (-1))).threads.length < 0:=by
  rcases senM_inv (K.asks 5 (quR (-1))).threads ((5:Nat):Int) (-1) (K.asks 5 (quR (-1))).threads.length (Nat.le_refl _) with e | ⟨j,u,e,hj,hu,u2,_,_⟩
  ·rw [e];omega
  ·exfalso
   rw [l1] at hj
   rw [nth_of hu,n1 j hj] at u2
   by_cases q:j=5
   ·rw [if_pos q,q] at u2
    have c1:(K.nth 5).st=2:=u2
    have:=h.lo
    omega
   ·rw [if_neg q] at u2
    have:=h.gn j (by omega) (by simp)
    omega
 refine ⟨(K.asks 5 (quR (-1))).over 5 5,?_,?_,?_,?_⟩
 ·rw [ipcR (t:=5) (by rw [h.cur];rfl) (by rw [h.len];exact qr_ms (by omega) (by omega)) (by show (-1:Int) < 0;omega),recv_none (n:=6) (x:=(K.asks 5 (quR (-1))).nth 5) (nth_some (by rw [l1];omega)) (by rw [nf];exact sm),if_neg (by rw [nf];simp),if_pos rfl]
 ·show ((K.asks 5 (quR (-1))).threads.modify 5 _).length=6
  simp [l1]
 ·show (((K.asks 5 (quR (-1))).upd 5 _).nth 5).code=5
  rw [nth_upd (by rw [l1];omega),if_pos rfl]
 ·show (((K.asks 5 (quR (-1))).upd 5 _).nth 5).who=-1
  rw [nth_upd (by rw [l1];omega),if_pos rfl]
theorem q1_new:Q1 qu0 [] [0,1,2,3,4]:=by
 refine ⟨by kernel_rfl,by kernel_rfl,fun i hi=>.inr ?_,by simp,fun i hi=>?_,by simp,by decide,by simp,fun i hi=>?_,by simp,⟨by kernel_rfl,by kernel_rfl⟩,by simp,by simp⟩
 ·have:i=0\/i=1\/i=2\/i=3\/i=4:=by omega
  rcases this with rfl | rfl | rfl | rfl | rfl <;> simp
 ·simp at hi;omega
 ·simp at hi
  rcases hi with rfl | rfl | rfl | rfl | rfl <;> exact ⟨by kernel_rfl,by kernel_rfl,by kernel_rfl⟩
open Go.RowKit
def lnQ (t:Nat):List Value:=[.int .i64 t]
theorem sl_lit (w:World) (n:Nat):Sl (w.alloc (.cells #[.int .i64 n] 3)) 3 1 (.slice (some ⟨w.heap.size,0,none⟩) 1 1) ([n].map lnQ):=by
 refine ⟨⟨by simp [lnQ],.inr ⟨w.heap.size,1,#[.int .i64 n],rfl,Nat.zero_le _,heap_alloc_new w _,by simp,by decide,by simp,?_⟩⟩,fun r hr=>by simp at hr;subst hr;rfl⟩
 simp [lnQ]
def KV (Rep:World->Nat->(Nat->Prop)->RM->Prop) (W w:World) (x:Nat) (K:RM) (n:Nat) (v1:Value) (l1:List Nat) (v2:Value) (l2:List Nat):Prop:=
 ∃ S,KS Rep W w x S K n/\Sl w 3 1 v1 (l1.map lnQ)/\Sl w 3 1 v2 (l2.map lnQ)/\(∀ k,v1.ownBlock=some k->¬ S k/\W.heap.size<=k/\v2.ownBlock≠some k)/\(∀ k,v2.ownBlock=some k->¬ S k/\W.heap.size<=k)
section
variable {Rep:World->Nat->(Nat->Prop)->RM->Prop}(A:ApM Rep){W w w':World}{x:Nat}{K:RM}{n:Nat}{v1 v2:Value}{l1 l2:List Nat}
theorem KV.s1 (h:KV Rep W w x K n v1 l1 v2 l2):Sl w 3 1 v1 (l1.map lnQ):=by obtain ⟨S,_,h1,_⟩:=h;exact h1
theorem KV.s2 (h:KV Rep W w x K n v1 l1 v2 l2):Sl w 3 1 v2 (l2.map lnQ):=by obtain ⟨S,_,_,h1,_⟩:=h;exact h1
theorem KV.bel (h:KV Rep W w x K n v1 l1 v2 l2):Below W.heap.size W w:=by obtain ⟨S,k,_⟩:=h;exact k.bel
theorem KV.mono (h:KV Rep W w x K n v1 l1 v2 l2){m:Nat}(hm:n<=m):KV Rep W w x K m v1 l1 v2 l2:=by
 obtain ⟨S,k,h⟩:=h
 exact ⟨S,k.mono hm,h⟩
theorem KV.left {S:Nat->Prop}{K':RM}{m:Nat}(hn:KN Rep W w x S K' m w') (s1:Sl w 3 1 v1 (l1.map lnQ)) (s2:Sl w 3 1 v2 (l2.map lnQ)) (h1:∀ k,v1.ownBlock=some k->¬ S k/\W.heap.size<=k/\v2.ownBlock≠some k) (h2:∀ k,v2.ownBlock=some k->¬ S k/\W.heap.size<=k):KV Rep W w' x K' m v1 l1 v2 l2:=by
 obtain ⟨S',k,ho,hf⟩:=hn
 have g:∀ b,b < w.heap.size->¬ S b->¬ S' b:=fun b hb hS hS'=>by
  rcases ho b hS' with e | e
  ·exact hS e
  ·omega
 exact ⟨S',k,s1.kept hf (fun b hb=>(h1 b hb).1),s2.kept hf (fun b hb=>(h2 b hb).1),fun b hb=>⟨g b (s1.lt hb) (h1 b hb).1,(h1 b hb).2⟩,fun b hb=>⟨g b (s2.lt hb) (h2 b hb).1,(h2 b hb).2⟩⟩
include A
theorem KV.below (h:KV Rep W w x K n v1 l1 v2 l2) (hb:Below w.heap.size w w'):KV Rep W w' x K n v1 l1 v2 l2:=by
 obtain ⟨S,k,s1,s2,h1,h2⟩:=h
 exact ⟨S,k.below A hb,s1.kept (Fr.of_below hb (fun _=>False)) (fun _ _ e=>e),s2.kept (Fr.of_below hb (fun _=>False)) (fun _ _ e=>e),h1,h2⟩
theorem KV.grow1 (h:KV Rep W w x K n v1 l1 v2 l2){v':Value}{c:Nat}(G:Grew 3 1 v1 w v' (l1.map lnQ ++ [lnQ c]) w'):KV Rep W w' x K n v' (l1 ++ [c]) v2 l2:=by
 obtain ⟨S,k,s1,s2,h1,h2⟩:=h
 have F:Fr (fun k=>v1.ownBlock=some k) w w':=G.fr (Fr.refl _ w) (fun k hk _=>hk)
 refine ⟨S,k.fr A F (fun b hS e=>(h1 b e).1 hS) (fun b e=>(h1 b e).2.1),by rw [List.map_append];exact G.sl,s2.kept F (fun b hb e=>(h1 b e).2.2 hb),fun b hb=>?_,fun b hb=>h2 b hb⟩
 rcases G.at_ b hb with e | e
 ·exact ⟨fun hS=>by have:=k.lt A b hS;omega,by have:=k.bel.size;omega,fun e2=>by have:=s2.lt e2;omega⟩
 ·exact h1 b e
theorem KV.grow2 (h:KV Rep W w x K n v1 l1 v2 l2){v':Value}{c:Nat}(G:Grew 3 1 v2 w v' (l2.map lnQ ++ [lnQ c]) w'):KV Rep W w' x K n v1 l1 v' (l2 ++ [c]):=by
 obtain ⟨S,k,s1,s2,h1,h2⟩:=h
 have F:Fr (fun k=>v2.ownBlock=some k) w w':=G.fr (Fr.refl _ w) (fun k hk _=>hk)
 refine ⟨S,k.fr A F (fun b hS e=>(h2 b e).1 hS) (fun b e=>(h2 b e).2),s1.kept F (fun b hb e=>(h1 b hb).2.2 e),by rw [List.map_append];exact G.sl,fun b hb=>⟨(h1 b hb).1,(h1 b hb).2.1,fun e=>?_⟩,fun b hb=>?_⟩
 ·rcases G.at_ b e with g | g
  ·have:=s1.lt hb;omega
  ·exact (h1 b hb).2.2 g
 ·rcases G.at_ b hb with e | e
  ·exact ⟨fun hS=>by have:=k.lt A b hS;omega,by have:=k.bel.size;omega⟩
  ·exact h2 b e
theorem KV.lit (h:KV Rep W w x K n v1 l1 v2 l2) (c:Nat):KV Rep W (w.alloc (.cells #[.int .i64 c] 3)) x K n v1 l1 (.slice (some ⟨w.heap.size,0,none⟩) 1 1) [c]:=by
 have hb:Below w.heap.size w (w.alloc (.cells #[.int .i64 c] 3)):=(Below.refl _ w).alloc (Nat.le_refl _) _
 obtain ⟨S,k,s1,s2,h1,h2⟩:=h
 refine ⟨S,k.below A hb,s1.kept (Fr.of_below hb (fun _=>False)) (fun _ _ e=>e),sl_lit w c,fun b hb=>⟨(h1 b hb).1,(h1 b hb).2.1,fun e=>?_⟩,fun b hb=>?_⟩
 ·have:w.heap.size=b:=by simpa [Value.ownBlock] using e
  have:=s1.lt hb
  omega
 ·have:w.heap.size=b:=by simpa [Value.ownBlock] using hb
  exact ⟨fun hS=>by have:=k.lt A b hS;omega,by have:=k.bel.size;omega⟩
theorem kv_current (h:KV Rep W w x K n v1 l1 v2 l2):Calls Tryz.prog 18 #[.pointer (some ⟨x,0,none⟩)] w fun e w'=>e=.returned (.int .i64 K.cur)/\KV Rep W w' x K n v1 l1 v2 l2:=by
 obtain ⟨S,k,_⟩:=id h
 exact (ks_current A k).mono (by rintro e w' ⟨rfl,b,_⟩;exact ⟨rfl,h.below A b⟩)
theorem kv_yield (h:KV Rep W w x K n v1 l1 v2 l2) (hn:n<=1000000000000000):Calls Tryz.prog 22 #[.pointer (some ⟨x,0,none⟩)] w fun e w'=>e=.returned (.int .i64 K.yield.1)/\KV Rep W w' x K.yield.2 (n+1) v1 l1 v2 l2:=by
 obtain ⟨S,k,s1,s2,h1,h2⟩:=h
 exact (ks_yield A k hn).mono (by rintro e w' ⟨rfl,b⟩;exact ⟨rfl,KV.left b s1 s2 h1 h2⟩)
theorem kv_ipc0 (h:KV Rep W w x K n v1 l1 v2 l2) (hn:n<=1000000000000000) (m:Ms) (hm:m.words=[]):Calls Tryz.prog 23 #[.pointer (some ⟨x,0,none⟩),msV m none 0] w fun e w'=>e=.returned (.int .i64 (K.ipc m).1)/\KV Rep W w' x (K.ipc m).2 (n+1) v1 l1 v2 l2:=by
 obtain ⟨S,k,s1,s2,h1,h2⟩:=h
 exact (ks_ipc A k hn m none 0 (by rw [hm];exact inl_nil w) (fun k hk=>by simp [inBlock] at hk)).mono (by rintro e w' ⟨rfl,b⟩;exact ⟨rfl,KV.left b s1 s2 h1 h2⟩)
theorem kv_ipc1 (h:KV Rep W w x K n v1 l1 v2 l2) (hn:n<=1000000000000000) (c:Nat):Calls Tryz.prog 23 #[.pointer (some ⟨x,0,none⟩),.agg #[.int .i64 2,.slice (some ⟨w.heap.size,0,none⟩) 1 1,.int .i64 (-1),.int .i64 0,.int .i64 5,.int .i64 (-1),.int .i64 (-1)]] (w.alloc (.cells #[.int .i64 c] 2)) fun e w'=>e=.returned (.int .i64 (K.ipc (quS c)).1)/\KV Rep W w' x (K.ipc (quS c)).2 (n+1) v1 l1 v2 l2:=by
 have hb:Below w.heap.size w (w.alloc (.cells #[.int .i64 c] 2)):=(Below.refl _ w).alloc (Nat.le_refl _) _
 have hlt:∀ b S,KS Rep W w x S K n->S b->b < w.heap.size:=fun b S k hS=>k.lt A b hS
 have h0:=h.below A hb
 obtain ⟨S,k,s1,s2,h1,h2⟩:=h
 have s1:=s1.kept (Fr.of_below hb (fun _=>False)) (fun _ _ e=>e)
 have s2:=s2.kept (Fr.of_below hb (fun _=>False)) (fun _ _ e=>e)
 exact (ks_ipc A (k.below A hb) hn (quS c) (some ⟨w.heap.size,0,none⟩) 1 (inl_row [.int .i64 c] 2 rfl (by intro u hu;simp at hu;subst hu;rfl)) (fun b hk hS=>by
  have e:w.heap.size=b:=by simpa [inBlock,quS] using hk
  have:=k.lt A b hS
  omega)).mono (by rintro e w' ⟨rfl,b⟩;exact ⟨rfl,KV.left b s1 s2 h1 h2⟩)
theorem kv_look (h:KV Rep W w x K n v1 l1 v2 l2) (t:Nat) (u:Th) (hu:K.threads[t]? = some u):Calls Tryz.prog 25 #[.pointer (some ⟨x,0,none⟩),.int .i64 t] w fun e w'=>∃ a c,e=.returned (.tuple #[.agg (c5 u.st u.code u.who a u.ws.length c u.got),.bool true])/\Sl w' 2 1 (.slice a u.ws.length c) (u.ws.map lnI)/\KV Rep W w' x K n v1 l1 v2 l2:=by
 obtain ⟨S,k,_⟩:=id h
 refine (lookK_any A k t u hu).mono ?_
 rintro e w' ⟨a,c,rfl,s,B,N,_⟩
 exact ⟨a,c,rfl,s,h.below A B⟩
end
open Go.RowKit
theorem Tryz.infoN3q:(Tryz.prog.info? 3).map (fun i=>(i.zero,i.size,i.bytes))=some (some (.int .i64 0),1,8):=by kernel_rfl
theorem word_q {w:World}{g n c:Nat}{l:List Nat}(h:Sl w 3 1 (.slice (some ⟨g,0,none⟩) n c) (l.map lnQ)){k z:Nat}(hz:l[k]? = some z):w.cell? ⟨g,k,none⟩=some (.int .i64 z):=by
 have:=h.row (i:=k) (r:=[.int .i64 z]) (by rw [List.getElem?_map,hz];rfl) 0 _ rfl
 rwa [Nat.mul_one,Nat.add_zero] at this
theorem sl_lt {w:World}{g n c:Nat}{l:List Nat}(h:Sl w 3 1 (.slice (some ⟨g,0,none⟩) n c) (l.map lnQ)):g < w.heap.size:=h.lt rfl
section
variable {Rep:World->Nat->(Nat->Prop)->RM->Prop}(A:ApM Rep)
include A in
theorem queued_any (os:List Int) (hos:∀ z∈os,-9223372036854775808<=z/\z<=9223372036854775807) (a0:Option Addr) (m0 c0:Nat) (q0:Int) (w:World) (hg:Gl w) (iO:Inl w 1 (.slice a0 m0 c0) (os.map lnI)) (lO:os.length=m0) (h1:-9223372036854775808<=q0) (h2:q0<=9223372036854775807) :
  Calls Tryz.prog 10 #[.slice a0 m0 c0,.int .i64 q0] w fun e w'=>e=.returned (.bool true)/\Below w.heap.size w w':=by
 obtain ⟨i0,hi0,hz0,hz1,hz2⟩:=info_parts Tryz.infoN34
 obtain ⟨i3,hi3,hx0,hx1,hx2⟩:=info_parts Tryz.infoN3q
 have P2:=fun w=>pickK_any q0 5 w h1 h2 (by omega) (by omega)
 obtain ⟨q,hq⟩:∃ q:Nat,pickI q0 5=q:=Int.eq_ofNat_of_zero_le (pickI_in q0 (n:=5) (by omega)).1
 have q5:q<=4:=by have:=(pickI_in q0 (n:=5) (by omega)).2;omega
 rw [hq] at P2
 have HO:=hid (And.intro hos (And.intro iO lO))
 have HG:=hid hg
 have HP:=hid P2
 clear hq P2 hg h1 h2 hos iO lO
 go_enter Tryz.func10,Tryz.ntmps10
 go_wp2_with fail
 have C0:=hid (cfg_first (W:=w) 2 (Below.refl w.heap.size w))
 go_loopw [6] (fun i wr=>∃ (k:Nat) (a:Option Addr) (c:Nat),k<=5/\i=.int .i64 k/\Hid (CfgAt w wr w.heap.size 2 (List.replicate k (0,2)) [] [] (.slice a k c) (.slice none 0 0) (.slice none 0 0))) (fun i _=>5-(intOf i).toNat)
 case atStart=>exact ⟨0,none,0,Nat.zero_le _,rfl,C0.out⟩
 case round=>
  clear C0
  obtain ⟨k,a,c,hk,rfl,HC⟩:=hrel
  have lc:=HC.out.lt
  have k1:=(HC.out.cell 1).trans (show _=some (Value.slice a k c) from rfl)
  by_cases hkn:k < 5
  ·have hkn':(k:Int) < 5:=by omega
   go_wp2_with (at_builtin;go_must (refine wpList_append_n _ rfl _ _ 28 rfl 34 i0 _ 2 16 Tryz.underlying28 hi0 hz0 hz1 hz2 rfl (by decide) (.slice a k c) ((List.replicate k ((0:Int),(2:Int))).map tRow) rfl (HC.out.below ((Below.refl _ wr).alloc (Nat.le_refl _) _)).sT (some ⟨wr.heap.size,0,none⟩) 1 1 [tRow (0,2)] rfl (inl_row (tRow (0,2)) 34 rfl (t_oneK _)) (k+1) (by simp) (by unfold maxLen;omega) (by omega) ?_);intro a3 c3 w3 G3;obtain ⟨u1,u2,H3⟩:=HC.out.addT ((Fr.refl (fun _=>False) wr).alloc _) G3;replace H3:=hid H3;clear G3)
   refine ⟨⟨k+1,a3,c3,by omega,by go_num,?_⟩,by simp [intOf];omega⟩
   have:=H3.out
   rw [show List.replicate k ((0:Int),(2:Int)) ++ [(0,2)]=List.replicate (k+1) (0,2) by rw [List.replicate_succ']] at this
   exact this
  have e5:k=5:=by omega
  clear hkn
  subst e5
  go_wp2_with (first
   | (at_builtin;go_must (refine wpList_append_n _ rfl _ _ 28 rfl 34 i0 _ 2 16 Tryz.underlying28 hi0 hz0 hz1 hz2 rfl (by decide) (.slice a 5 c) ((List.replicate 5 ((0:Int),(2:Int))).map tRow) rfl (HC.out.below ((Below.refl _ wr).alloc (Nat.le_refl _) _)).sT (some ⟨wr.heap.size,0,none⟩) 1 1 [tRow (1,1)] rfl (inl_row (tRow (1,1)) 34 rfl (t_oneK _)) 6 (by simp) (by unfold maxLen;omega) (by omega) ?_);intro a3 c3 w3 G3;obtain ⟨u1,u2,H3⟩:=HC.out.addT ((Fr.refl (fun _=>False) wr).alloc _) G3;have H3a:=H3.below ((Below.refl _ (w3.setCell ⟨w.heap.size,1,none⟩ (.slice a3 6 c3))).alloc (Nat.le_refl _) (.cells #[.int .i64 0,.int .i64 2,.int .i64 5,.int .i64 1] 55));have x2:=(H3a.cell 2).trans (show _=some (Value.slice none 0 0) from rfl);have x2f:=frozen_of_row _ _ 2 _ _ H3a.blk;have l3:=H3.lt;have ZB:=hid (show (((w3.setCell ⟨w.heap.size,1,none⟩ (.slice a3 6 c3)).alloc (.cells #[.int .i64 0,.int .i64 2,.int .i64 5,.int .i64 1] 55)).setCell ⟨w.heap.size,2,none⟩ (.slice (some ⟨w3.heap.size,0,none⟩) 1 1)).heap[w.heap.size]? = some (.cells #[.int .i64 2,.slice a3 6 c3,(.slice (some ⟨w3.heap.size,0,none⟩) 1 1),.slice none 0 0] 32 (0,0)) from heap_setCell_same _ w.heap.size 2 _ 32 _ H3a.blk);replace H3:=hid H3;clear G3 H3a)
   | (with_reducible (show wpList _ _ _ (⟨_,.load 32 (.tmp 5),_,_,_,none⟩ :: _) _ _);go_must (refine wpList_load_row rfl 32 _ rfl w.heap.size (by simp [Act.eval]) 32 #[.int .i64 2,.slice a3 6 c3,(.slice (some ⟨w3.heap.size,0,none⟩) 1 1),.slice none 0 0] (0,0) _ ZB.out Tryz.underlying32 rfl (by kernel_rfl) ?_)))
  have zs:(w3.setCell ⟨w.heap.size,1,none⟩ (.slice a3 6 c3)).heap.size=w3.heap.size:=by simp
  have F:Fr (fun k=>k=w.heap.size) (w3.setCell ⟨w.heap.size,1,none⟩ (.slice a3 6 c3)) (((w3.setCell ⟨w.heap.size,1,none⟩ (.slice a3 6 c3)).alloc (.cells #[.int .i64 0,.int .i64 2,.int .i64 5,.int .i64 1] 55)).setCell ⟨w.heap.size,2,none⟩ (.slice (some ⟨w3.heap.size,0,none⟩) 1 1)):=((Fr.refl (fun k=>k=w.heap.size) (w3.setCell ⟨w.heap.size,1,none⟩ (.slice a3 6 c3))).alloc (.cells #[.int .i64 0,.int .i64 2,.int .i64 5,.int .i64 1] 55)).setCell (fun _=>rfl) _
  have b4:Below w.heap.size w (((w3.setCell ⟨w.heap.size,1,none⟩ (.slice a3 6 c3)).alloc (.cells #[.int .i64 0,.int .i64 2,.int .i64 5,.int .i64 1] 55)).setCell ⟨w.heap.size,2,none⟩ (.slice (some ⟨w3.heap.size,0,none⟩) 1 1)):=H3.out.bel.trans (F.to_below H3.out.bel.size (fun k e=>by rw [e];exact Nat.le_refl _))
  have iT:Inl (((w3.setCell ⟨w.heap.size,1,none⟩ (.slice a3 6 c3)).alloc (.cells #[.int .i64 0,.int .i64 2,.int .i64 5,.int .i64 1] 55)).setCell ⟨w.heap.size,2,none⟩ (.slice (some ⟨w3.heap.size,0,none⟩) 1 1)) 2 (.slice a3 6 c3) (quT.map tRow):=(show Sl (((w3.setCell ⟨w.heap.size,1,none⟩ (.slice a3 6 c3)).alloc (.cells #[.int .i64 0,.int .i64 2,.int .i64 5,.int .i64 1] 55)).setCell ⟨w.heap.size,2,none⟩ (.slice (some ⟨w3.heap.size,0,none⟩) 1 1)) 34 2 (.slice a3 6 c3) (quT.map tRow) from H3.out.sT.kept F (fun k hk e=>(H3.out.nT k hk).2 e)).inlT (by decide)
  have iP0:=(inl_row (w:=(w3.setCell ⟨w.heap.size,1,none⟩ (.slice a3 6 c3))) (qRow (0,2,5,1)) 55 rfl (q_oneK _))
  have iP:Inl (((w3.setCell ⟨w.heap.size,1,none⟩ (.slice a3 6 c3)).alloc (.cells #[.int .i64 0,.int .i64 2,.int .i64 5,.int .i64 1] 55)).setCell ⟨w.heap.size,2,none⟩ (.slice (some ⟨w3.heap.size,0,none⟩) 1 1)) 4 (.slice (some ⟨w3.heap.size,0,none⟩) 1 1) (quQ.map qRow):=by
   rw [zs] at iP0
   exact iP0.kept (show 0 < 4 by omega) ((Fr.refl (fun k=>k=w.heap.size) ((w3.setCell ⟨w.heap.size,1,none⟩ (.slice a3 6 c3)).alloc (.cells #[.int .i64 0,.int .i64 2,.int .i64 5,.int .i64 1] 55))).setCell (p:=⟨w.heap.size,2,none⟩) (fun _=>rfl) _) (fun k hk e=>by
    have:w3.heap.size=k:=by simpa [inBlock] using hk
    have:=H3.out.lt
    rw [zs] at this
    omega)
  have HT:=hid (boot_any A 2 a3 (some ⟨w3.heap.size,0,none⟩) none 6 1 0 c3 1 0 quT quQ [] (((w3.setCell ⟨w.heap.size,1,none⟩ (.slice a3 6 c3)).alloc (.cells #[.int .i64 0,.int .i64 2,.int .i64 5,.int .i64 1] 55)).setCell ⟨w.heap.size,2,none⟩ (.slice (some ⟨w3.heap.size,0,none⟩) 1 1)) (HG.out.below b4) iT iP ⟨by simp,by simp,none,0,rfl,by simp,.inl rfl⟩ qu_fits 0)
  have HB4:=hid (And.intro b4 (HG.out.below b4))
  clear F iT iP iP0 zs b4 x2 x2f u1 u2 l3 H3 ZB HC lc k1
  refine HT.out.mono ?_
  rintro e w5 ⟨x,S5,rfl,K5,B5⟩
  obtain ⟨WC,hWC⟩:∃ WC,(((w3.setCell ⟨w.heap.size,1,none⟩ (.slice a3 6 c3)).alloc (.cells #[.int .i64 0,.int .i64 2,.int .i64 5,.int .i64 1] 55)).setCell ⟨w.heap.size,2,none⟩ (.slice (some ⟨w3.heap.size,0,none⟩) 1 1))=WC:=⟨_,rfl⟩
  rw [hWC] at K5 B5 HB4
  have n0:∀ k,Value.ownBlock (.slice none 0 0)=some k->False:=fun k h=>by simp [Value.ownBlock] at h
  have HV:=hid (show KV Rep WC w5 x qu0 0 (.slice none 0 0) [] (.slice none 0 0) [] from ⟨S5,K5,Sl.nil _ _ _,Sl.nil _ _ _,fun k h=>(n0 k h).elim,fun k h=>(n0 k h).elim⟩)
  have C6:=hid (known_any A w5 (HB4.out.2.below B5))
  clear K5 B5 n0 HT hWC
  go_wp2_with fail
  refine C6.out.mono ?_
  rintro e w6 ⟨rfl,B6⟩
  have HV6:=hid (HV.out.below A B6)
  clear B6 HV C6
  go_wp2_with fail
  go_loopw [9,10] (fun r i wr=>∃ (k:Nat) (K:RM) (a:Option Addr) (c:Nat) (row rest:List Nat),k<=5/\r=.slice a k c/\i=.int .i64 k/\Hid (KV Rep WC wr x K (6*k) (.slice a k c) row (.slice none 0 0) []/\Q1 K row rest/\row.length=k/\rest.length+k=5)) (fun _ i _=>5-(intOf i).toNat)
  case atStart=>exact ⟨0,qu0,none,0,[],[0,1,2,3,4],by omega,rfl,rfl,HV6.out,q1_new,rfl,rfl⟩
  case round=>
   clear HV6
   obtain ⟨k,K,a,c,row,rest,hk,rfl,rfl,HC⟩:=hrel
   by_cases hk5:k < 5
   ·have hk5':(k:Int) < 5:=by omega
    have HR:=hid (And.intro HC.out.2.2.1 (And.intro HC.out.2.2.2 (show rest≠[] from fun e=>by have:=HC.out.2.2.2;rw [e] at this;simp at this;omega)))
    by_cases hm:k < m0
    ·have hm':(k:Int) < (m0:Int):=by omega
     obtain ⟨z,hz⟩:∃ z,os[k]? = some z:=⟨_,List.getElem?_eq_getElem (by have:=HO.out.2.2;omega)⟩
     have zb:=HO.out.1 z (List.mem_of_getElem? hz)
     obtain ⟨bl,ol,ea,cw⟩:=word_at ((HO.out.2.1.below (by omega) HB4.out.1).below (by omega) HC.out.1.bel) hz
     subst ea
     have P3:=fun w=>pickK_any z 5 w zb.1 zb.2 (by omega) (by omega)
     obtain ⟨nn,hnn⟩:∃ nn:Nat,pickI z 5=nn:=Int.eq_ofNat_of_zero_le (pickI_in z (n:=5) (by omega)).1
     have n4:nn<=4:=by have:=(pickI_in z (n:=5) (by omega)).2;omega
     rw [hnn] at P3
     have HP3:=hid P3
     clear P3 hnn hz zb
     go_wp2_with (go_at_call 16;refine (HP3.out _).mono ?_;rintro e w7 ⟨rfl,hw⟩;have hw:=hw.symm;subst hw)
     have HL:=hid (And.intro HC.out.1 HC.out.2.1)
     clear HC HP3 cw
     go_loopw [12] (fun i wr=>∃ (j:Nat) (K2:RM),j<=nn/\i=.int .i64 j/\Hid (KV Rep WC wr x K2 (6*k+j) (.slice a k c) row (.slice none 0 0) []/\Q1 K2 row rest)) (fun i _=>nn-(intOf i).toNat)
     case atStart=>exact ⟨0,K,Nat.zero_le _,rfl,HL.out.1,HL.out.2⟩
     case round=>
      clear HL
      obtain ⟨j,K2,hj,rfl,HC⟩:=hrel
      by_cases hjn:j < nn
      ·have hjn':(j:Int) < (nn:Int):=by omega
       have HY:=hid (HC.out.2.yield HR.out.2.2)
       have C5:=hid (kv_yield A HC.out.1 (by omega))
       rw [HY.out.1] at C5
       go_wp2_with (go_at_call 22;refine C5.out.mono ?_;rintro e w7 ⟨rfl,K7⟩;replace K7:=hid K7)
       first
        | exact ⟨⟨j+1,K2.yield.2,by omega,by go_num,K7.out,HY.out.2⟩,by simp [intOf];omega⟩
        | (
         go_roundw
         case rel=>first | exact ⟨j+1,K2.yield.2,by omega,by go_num,K7.out,HY.out.2⟩ | ((repeat apply Exists.intro);exact ⟨⟨j+1,K2.yield.2,by omega,by go_num,K7.out,HY.out.2⟩,rfl⟩)
         case measure=>simp [intOf];omega)
      obtain rfl:j=nn:=by omega
      clear hjn
      obtain ⟨c0,hc0,ec0⟩:=HC.out.2.cur HR.out.2.2
      have c05:=HC.out.2.sl c0 hc0
      obtain ⟨K3,e3,Q3⟩:=HC.out.2.send hc0 ec0
      have C6:=hid (kv_current A HC.out.1)
      rw [ec0] at C6
      have C7:=hid (fun w7 (h7:KV Rep WC w7 x K2 (6*k+j) (.slice a k c) row (.slice none 0 0) [])=>kv_ipc1 A h7 (by omega) c0)
      rw [e3] at C7
      have d1:decide ((c0:Int) < 0)=false:=by simp
      have d2:decide ((c0:Int) > 4)=false:=by simp;omega
      have HQ:=hid (And.intro Q3 (HC.out.2.nr |> fun h=>List.length_erase_of_mem hc0))
      clear ec0 e3 Q3 HC hc0
      go_wp2_with (first
       | (go_at_call 18;refine C6.out.mono ?_;rintro e w7 ⟨rfl,K7⟩;replace K7:=hid K7)
       | (go_at_call 23;refine (C7.out _ K7.out).mono ?_;rintro e w8 ⟨rfl,K8⟩;have S9:=(K8.below A ((Below.refl _ w8).alloc (Nat.le_refl _) (.cells #[.int .i64 c0] 3))).s1;replace K8:=hid K8;replace S9:=hid S9)
       | (at_builtin;go_must (refine wpList_append_n _ rfl _ _ 24 rfl 3 i3 _ 1 8 Tryz.underlying24 hi3 hx0 hx1 hx2 rfl (by decide) (.slice a k c) (row.map lnQ) rfl S9.out (some ⟨w8.heap.size,0,none⟩) 1 1 [lnQ c0] rfl (inl_row (lnQ c0) 3 rfl (by intro u hu;simp [lnQ] at hu;subst hu;rfl)) (k+1) (by rw [List.length_map,HR.out.1];rfl) (by unfold maxLen;omega) (by omega) ?_);intro a4 c4 w9 G9;have K9:=hid ((K8.out.below A ((Below.refl _ w8).alloc (Nat.le_refl _) (.cells #[.int .i64 c0] 3))).grow1 A G9);clear G9))
      clear d1 d2 C6 C7
      have HF:=hid (And.intro (K9.out.mono (show 6*k+j+1<=6*(k+1) by have:=n4;omega)) (And.intro HQ.out.1 (And.intro (show (row ++ [c0]).length=k+1 by rw [List.length_append,HR.out.1];rfl) (show (rest.erase c0).length+(k+1)=5 by rw [HQ.out.2];have:=HR.out.2.1;omega))))
      first
       | exact ⟨⟨k+1,K3,a4,c4,row ++ [c0],rest.erase c0,by omega,rfl,by go_num,HF.out⟩,by simp [intOf];omega⟩
       | (
        go_roundw
        case rel=>first | exact ⟨k+1,K3,a4,c4,row ++ [c0],rest.erase c0,by omega,rfl,by go_num,HF.out⟩ | ((repeat apply Exists.intro);exact ⟨⟨k+1,K3,a4,c4,row ++ [c0],rest.erase c0,by omega,rfl,by go_num,HF.out⟩,rfl⟩)
        case measure=>simp [intOf];omega)
    ·have hmd:decide ((k:Int) < (m0:Int))=false:=by simp;omega
     go_wp2_with fail
     have HL:=hid (And.intro HC.out.1 HC.out.2.1)
     clear HC
     go_loopw [12] (fun i wr=>∃ (j:Nat) (K2:RM),j<=0/\i=.int .i64 j/\Hid (KV Rep WC wr x K2 (6*k+j) (.slice a k c) row (.slice none 0 0) []/\Q1 K2 row rest)) (fun i _=>0-(intOf i).toNat)
     case atStart=>exact ⟨0,K,Nat.zero_le _,rfl,HL.out.1,HL.out.2⟩
     case round=>
      clear HL
      obtain ⟨j,K2,hj,rfl,HC⟩:=hrel
      have hjd:decide ((j:Int) < 0)=false:=by rw [decide_eq_false_iff_not];omega
      skip
      obtain ⟨c0,hc0,ec0⟩:=HC.out.2.cur HR.out.2.2
      have c05:=HC.out.2.sl c0 hc0
      obtain ⟨K3,e3,Q3⟩:=HC.out.2.send hc0 ec0
      have C6:=hid (kv_current A HC.out.1)
      rw [ec0] at C6
      have C7:=hid (fun w7 (h7:KV Rep WC w7 x K2 (6*k+j) (.slice a k c) row (.slice none 0 0) [])=>kv_ipc1 A h7 (by omega) c0)
      rw [e3] at C7
      have d1:decide ((c0:Int) < 0)=false:=by simp
      have d2:decide ((c0:Int) > 4)=false:=by simp;omega
      have HQ:=hid (And.intro Q3 (HC.out.2.nr |> fun h=>List.length_erase_of_mem hc0))
      clear ec0 e3 Q3 HC hc0
      go_wp2_with (first
       | (go_at_call 18;refine C6.out.mono ?_;rintro e w7 ⟨rfl,K7⟩;replace K7:=hid K7)
       | (go_at_call 23;refine (C7.out _ K7.out).mono ?_;rintro e w8 ⟨rfl,K8⟩;have S9:=(K8.below A ((Below.refl _ w8).alloc (Nat.le_refl _) (.cells #[.int .i64 c0] 3))).s1;replace K8:=hid K8;replace S9:=hid S9)
       | (at_builtin;go_must (refine wpList_append_n _ rfl _ _ 24 rfl 3 i3 _ 1 8 Tryz.underlying24 hi3 hx0 hx1 hx2 rfl (by decide) (.slice a k c) (row.map lnQ) rfl S9.out (some ⟨w8.heap.size,0,none⟩) 1 1 [lnQ c0] rfl (inl_row (lnQ c0) 3 rfl (by intro u hu;simp [lnQ] at hu;subst hu;rfl)) (k+1) (by rw [List.length_map,HR.out.1];rfl) (by unfold maxLen;omega) (by omega) ?_);intro a4 c4 w9 G9;have K9:=hid ((K8.out.below A ((Below.refl _ w8).alloc (Nat.le_refl _) (.cells #[.int .i64 c0] 3))).grow1 A G9);clear G9))
      clear d1 d2 hjd C6 C7
      have HF:=hid (And.intro (K9.out.mono (show 6*k+j+1<=6*(k+1) by have:=Nat.zero_le k;omega)) (And.intro HQ.out.1 (And.intro (show (row ++ [c0]).length=k+1 by rw [List.length_append,HR.out.1];rfl) (show (rest.erase c0).length+(k+1)=5 by rw [HQ.out.2];have:=HR.out.2.1;omega))))
      first
       | exact ⟨⟨k+1,K3,a4,c4,row ++ [c0],rest.erase c0,by omega,rfl,by go_num,HF.out⟩,by simp [intOf];omega⟩
       | (
        go_roundw
        case rel=>first | exact ⟨k+1,K3,a4,c4,row ++ [c0],rest.erase c0,by omega,rfl,by go_num,HF.out⟩ | ((repeat apply Exists.intro);exact ⟨⟨k+1,K3,a4,c4,row ++ [c0],rest.erase c0,by omega,rfl,by go_num,HF.out⟩,rfl⟩)
        case measure=>simp [intOf];omega)
   have e5:k=5:=by omega
   clear hk5
   subst e5
   have hre:rest=[]:=List.eq_nil_of_length_eq_zero (by have:=HC.out.2.2.2;omega)
   have HQ1:=hid (show Q1 K row [] from hre ▸ HC.out.2.1)
   obtain ⟨one,h1e⟩:∃ z,row[q]? = some z:=⟨_,List.getElem?_eq_getElem (by have:=HC.out.2.2.1;omega)⟩
   have S1:=HC.out.1.s1
   obtain ⟨ga,ea,hx⟩:=S1.is_some (by omega)
   clear hx
   subst ea
   have HK:=hid (And.intro (HC.out.1.mono (show 6*5<=40 by omega)) HC.out.2.2.1)
   have C6:=hid (kv_current A HK.out.1)
   rw [HQ1.out.cur5] at C6
   have HE1:=hid h1e
   clear HC hre S1 h1e
   have q5':(q:Int) < 5:=by omega
   go_wp2_with (first
    | (go_at_call 18;refine C6.out.mono ?_;rintro e w7 ⟨rfl,K7⟩;have cq:=word_q K7.s1 HE1.out;have lq:=sl_lt K7.s1;replace K7:=hid K7)
    | (go_at_call 16;refine (HP.out _).mono ?_;rintro e w8 ⟨rfl,hw⟩;have hw:=hw.symm;subst hw))
   have K8:=hid (K7.out.lit A one)
   clear cq lq C6
   go_loopw [17,18] (fun v i wr=>∃ (j:Nat) (a2:Option Addr) (c2 m2:Nat) (l2:List Nat),j<=5/\v=.slice a2 m2 c2/\i=.int .i64 j/\Hid (KV Rep WC wr x K 40 (.slice (some ⟨ga,0,none⟩) 5 c) row (.slice a2 m2 c2) l2/\l2=one :: (row.take j).filter (· != one)/\l2.length=m2)) (fun _ i _=>5-(intOf i).toNat)
   case atStart=>exact ⟨0,_,_,_,[one],by omega,rfl,rfl,K8.out,by simp,rfl⟩
   case round=>
    clear K8 K7
    obtain ⟨j,a2,c2,m2,l2,hj,rfl,rfl,HC⟩:=hrel
    by_cases hj5:j < 5
    ·have hj5':(j:Int) < 5:=by omega
     obtain ⟨z,hz⟩:∃ z,row[j]? = some z:=⟨_,List.getElem?_eq_getElem (by have:=HK.out.2;omega)⟩
     have cz:=word_q HC.out.1.s1 hz
     have lz:=sl_lt HC.out.1.s1
     have m6:m2<=6:=by
      rw [<- HC.out.2.2,HC.out.2.1]
      have:=List.length_filter_le (· != one) (row.take j)
      simp at this ⊢
      omega
     have tk:row.take (j+1)=row.take j ++ [z]:=by rw [List.take_add_one,hz];rfl
     by_cases hzo:z=one
     ·have HT2:=hid (show l2=one :: (row.take (j+1)).filter (· != one) by rw [tk,List.filter_append,HC.out.2.1,hzo];simp)
      clear tk hz
      subst hzo
      go_wp2_with fail
      first
       | exact ⟨⟨j+1,a2,c2,m2,l2,by omega,rfl,by go_num,HC.out.1,HT2.out,HC.out.2.2⟩,by simp [intOf];omega⟩
       | (
        go_roundw
        case rel=>first | exact ⟨j+1,a2,c2,m2,l2,by omega,rfl,by go_num,HC.out.1,HT2.out,HC.out.2.2⟩ | ((repeat apply Exists.intro);exact ⟨⟨j+1,a2,c2,m2,l2,by omega,rfl,by go_num,HC.out.1,HT2.out,HC.out.2.2⟩,rfl⟩)
        case measure=>simp [intOf];omega)
     ·have HT2:=hid (show l2 ++ [z]=one :: (row.take (j+1)).filter (· != one) by rw [tk,List.filter_append,HC.out.2.1];simp [hzo])
      have hb:((z:Int) != (one:Int))=true:=by simp;omega
      have S9:=hid ((HC.out.1.below A ((Below.refl _ wr).alloc (Nat.le_refl _) (.cells #[.int .i64 z] 3))).s2)
      clear tk hz hzo
      go_wp2_with (at_builtin;go_must (refine wpList_append_n _ rfl _ _ 24 rfl 3 i3 _ 1 8 Tryz.underlying24 hi3 hx0 hx1 hx2 rfl (by decide) (.slice a2 m2 c2) (l2.map lnQ) rfl S9.out (some ⟨wr.heap.size,0,none⟩) 1 1 [lnQ z] rfl (inl_row (lnQ z) 3 rfl (by intro u hu;simp [lnQ] at hu;subst hu;rfl)) (m2+1) (by rw [List.length_map,HC.out.2.2];rfl) (by unfold maxLen;omega) (by omega) ?_);intro a4 c4 w9 G9;have K9:=hid ((HC.out.1.below A ((Below.refl _ wr).alloc (Nat.le_refl _) (.cells #[.int .i64 z] 3))).grow2 A G9);clear G9)
      have HF:=hid (And.intro K9.out (And.intro HT2.out (show (l2 ++ [z]).length=m2+1 by rw [List.length_append,HC.out.2.2];rfl)))
      first
       | exact ⟨⟨j+1,a4,c4,m2+1,l2 ++ [z],by omega,rfl,by go_num,HF.out⟩,by simp [intOf];omega⟩
       | (
        go_roundw
        case rel=>first | exact ⟨j+1,a4,c4,m2+1,l2 ++ [z],by omega,rfl,by go_num,HF.out⟩ | ((repeat apply Exists.intro);exact ⟨⟨j+1,a4,c4,m2+1,l2 ++ [z],by omega,rfl,by go_num,HF.out⟩,rfl⟩)
        case measure=>simp [intOf];omega)
    have e5:j=5:=by omega
    clear hj5
    subst e5
    have om:one∈row:=List.mem_of_getElem? HE1.out
    have hl2:l2=one :: row.erase one:=by
     rw [HC.out.2.1,List.take_of_length_le (by have:=HK.out.2;omega),HQ1.out.nd.erase_eq_filter]
    have hm2:m2=5:=by
     rw [<- HC.out.2.2,hl2,List.length_cons,List.length_erase_of_mem om,HK.out.2]
    have HL2:=hid (And.intro hl2 om)
    have HC2:=hid HC.out.1
    have HLN:=hid HC.out.2.2
    clear HC hl2 om
    subst hm2
    obtain ⟨gb,ea,hx⟩:=(HC2.out.s2).is_some (by omega)
    clear hx
    subst ea
    go_wp2_with fail
    go_loopw [19] (fun i wr=>∃ (j:Nat) (K5:RM) (rest5:List Nat),j<=5/\i=.int .i64 j/\Hid (KV Rep WC wr x K5 (40+j) (.slice (some ⟨ga,0,none⟩) 5 c) row (.slice (some ⟨gb,0,none⟩) 5 c2) l2/\Q2 K5 rest5/\((j=0/\rest5=row)\/(0 < j/\rest5=l2.drop j)))) (fun i _=>5-(intOf i).toNat)
    case atStart=>exact ⟨0,K,row,by omega,rfl,HC2.out,HQ1.out.q2,.inl ⟨rfl,rfl⟩⟩
    case round=>
     clear HC2
     obtain ⟨j,K5,rest5,hj,rfl,HD⟩:=hrel
     by_cases hj5:j < 5
     ·have hj5':(j:Int) < 5:=by omega
      obtain ⟨s,hs⟩:∃ s,l2[j]? = some s:=⟨_,List.getElem?_eq_getElem (by have:=HLN.out;omega)⟩
      have HS:=hid hs
      by_cases j0:j=0
      ·have hr:rest5=row:=by rcases HD.out.2.2 with h | h;exact h.2;omega
       have so:s=one:=by rw [j0,HL2.out.1] at hs;simpa using hs.symm
       have HSO:=hid so
       obtain ⟨K6,e6,Q6,w61,w62,w63⟩:=HD.out.2.1.hear (s:=one) (f:=(one:Int)) (by rw [hr];exact HL2.out.2) (.inl rfl)
       have Q6:Q2 K6 (l2.drop (j+1)):=by
        rw [hr] at Q6
        rw [j0,HL2.out.1]
        exact Q6
       rw [<- so] at w62 w63
       have jb:((j:Int) == 0)=true:=by rw [j0];rfl
       clear hs so hr j0
       have EMs:msV (quR (one:Int)) none 0=.agg #[.int .i64 (-1),.slice none 0 0,.int .i64 (-1),.int .i64 0,.int .i64 (one:Int),.int .i64 (-1),.int .i64 0]:=rfl
       have C7:=hid (kv_ipc0 A HD.out.1 (by omega) (quR (one:Int)) rfl)
       rw [EMs,e6] at C7
       have HK6:=hid (And.intro Q6 (And.intro w61 (And.intro w62 w63)))
       clear EMs e6 Q6 w61 w62 w63
       go_wp2_with fail
       refine C7.out.mono ?_
       rintro e w8 ⟨rfl,K8⟩
       have C8:=hid (kv_look A K8 5 (K6.nth 5) (nth_some (by rw [HK6.out.1.len];omega)))
       rw [HK6.out.2.1,HK6.out.2.2.1,HK6.out.2.2.2,show ([(s:Int)]).length=1 from rfl] at C8
       clear K8 C7
       go_wp2_with fail
       refine C8.out.mono ?_
       rintro e w9 ⟨a7,c7,rfl,sl7,K9⟩
       obtain ⟨g7,ea,hx⟩:=sl7.is_some (by omega)
       clear hx
       subst ea
       have K10:=K9.below A ((Below.refl _ w9).alloc (Nat.le_refl _) (.cells (c5 (K6.nth 5).st 0 s (some ⟨g7,0,none⟩) 1 c7 (K6.nth 5).got) 50))
       have sl8:=sl7.kept (Fr.of_below ((Below.refl _ w9).alloc (Nat.le_refl _) (.cells (c5 (K6.nth 5).st 0 s (some ⟨g7,0,none⟩) 1 c7 (K6.nth 5).got) 50)) (fun _=>False)) (fun _ _ h=>h)
       have cw:=word_out (z:=(s:Int)) (k:=0) sl8 rfl
       have cz:=word_q K10.s2 HS.out
       have l7:g7 < w9.heap.size:=sl7.lt rfl
       have l8:=sl_lt K9.s2
       obtain ⟨p0,p1,p2,p3,p4⟩:=c5_cells (heap_alloc_new w9 (.cells (c5 (K6.nth 5).st 0 s (some ⟨g7,0,none⟩) 1 c7 (K6.nth 5).got) 50))
       have hss:((s:Int) != (s:Int))=false:=by simp
       have HKE:=hid K10
       clear sl7 sl8 K9 K10 C8
       go_wp2_with (with_reducible (show wpList _ _ _ (⟨_,.store 50 _ _,_,_,_,none⟩ :: _) _ _);go_must (refine wpList_store_new rfl 50 _ _ rfl w9 _ (c5 (K6.nth 5).st 0 s (some ⟨g7,0,none⟩) 1 c7 (K6.nth 5).got) 50 (by simp [Act.eval]) rfl (by kernel_rfl) rfl (c5_one _ _ _ _ _ _ _) ?_))
       go_quiet (fail)
       go_wp2
       first
        | exact ⟨⟨j+1,K6,l2.drop (j+1),by omega,by go_num,HKE.out.below A (below_drewN (Below.refl _ _) _),HK6.out.1,.inr ⟨by omega,rfl⟩⟩,by simp [intOf];omega⟩
        | (
         go_roundw
         case rel=>first | exact ⟨j+1,K6,l2.drop (j+1),by omega,by go_num,HKE.out.below A (below_drewN (Below.refl _ _) _),HK6.out.1,.inr ⟨by omega,rfl⟩⟩ | ((repeat apply Exists.intro);exact ⟨⟨j+1,K6,l2.drop (j+1),by omega,by go_num,HKE.out.below A (below_drewN (Below.refl _ _) _),HK6.out.1,.inr ⟨by omega,rfl⟩⟩,rfl⟩)
         case measure=>simp [intOf];omega)
      ·have hr:rest5=s :: l2.drop (j+1):=by
        rcases HD.out.2.2 with h | h
        ·exact absurd h.1 j0
        ·rw [h.2,List.drop_eq_getElem_cons (by have:=HLN.out;omega)]
         rw [List.getElem?_eq_getElem (by have:=HLN.out;omega)] at hs
         rw [Option.some.inj hs]
       obtain ⟨K6,e6,Q6,w61,w62,w63⟩:=HD.out.2.1.hear (s:=s) (f:=-1) (by rw [hr];exact List.mem_cons_self) (.inr ⟨rfl,_,hr⟩)
       rw [hr,List.erase_cons_head] at Q6
       have jb:((j:Int) == 0)=false:=by simp;omega
       clear hs hr j0
       have EMs:msV (quR (-1)) none 0=.agg #[.int .i64 (-1),.slice none 0 0,.int .i64 (-1),.int .i64 0,.int .i64 (-1),.int .i64 (-1),.int .i64 0]:=rfl
       have C7:=hid (kv_ipc0 A HD.out.1 (by omega) (quR (-1)) rfl)
       rw [EMs,e6] at C7
       have HK6:=hid (And.intro Q6 (And.intro w61 (And.intro w62 w63)))
       clear EMs e6 Q6 w61 w62 w63
       go_wp2_with fail
       refine C7.out.mono ?_
       rintro e w8 ⟨rfl,K8⟩
       have C8:=hid (kv_look A K8 5 (K6.nth 5) (nth_some (by rw [HK6.out.1.len];omega)))
       rw [HK6.out.2.1,HK6.out.2.2.1,HK6.out.2.2.2,show ([(s:Int)]).length=1 from rfl] at C8
       clear K8 C7
       go_wp2_with fail
       refine C8.out.mono ?_
       rintro e w9 ⟨a7,c7,rfl,sl7,K9⟩
       obtain ⟨g7,ea,hx⟩:=sl7.is_some (by omega)
       clear hx
       subst ea
       have K10:=K9.below A ((Below.refl _ w9).alloc (Nat.le_refl _) (.cells (c5 (K6.nth 5).st 0 s (some ⟨g7,0,none⟩) 1 c7 (K6.nth 5).got) 50))
       have sl8:=sl7.kept (Fr.of_below ((Below.refl _ w9).alloc (Nat.le_refl _) (.cells (c5 (K6.nth 5).st 0 s (some ⟨g7,0,none⟩) 1 c7 (K6.nth 5).got) 50)) (fun _=>False)) (fun _ _ h=>h)
       have cw:=word_out (z:=(s:Int)) (k:=0) sl8 rfl
       have cz:=word_q K10.s2 HS.out
       have l7:g7 < w9.heap.size:=sl7.lt rfl
       have l8:=sl_lt K9.s2
       obtain ⟨p0,p1,p2,p3,p4⟩:=c5_cells (heap_alloc_new w9 (.cells (c5 (K6.nth 5).st 0 s (some ⟨g7,0,none⟩) 1 c7 (K6.nth 5).got) 50))
       have hss:((s:Int) != (s:Int))=false:=by simp
       have HKE:=hid K10
       clear sl7 sl8 K9 K10 C8
       go_wp2_with (with_reducible (show wpList _ _ _ (⟨_,.store 50 _ _,_,_,_,none⟩ :: _) _ _);go_must (refine wpList_store_new rfl 50 _ _ rfl w9 _ (c5 (K6.nth 5).st 0 s (some ⟨g7,0,none⟩) 1 c7 (K6.nth 5).got) 50 (by simp [Act.eval]) rfl (by kernel_rfl) rfl (c5_one _ _ _ _ _ _ _) ?_))
       go_quiet (fail)
       go_wp2
       first
        | exact ⟨⟨j+1,K6,l2.drop (j+1),by omega,by go_num,HKE.out.below A (below_drewN (Below.refl _ _) _),HK6.out.1,.inr ⟨by omega,rfl⟩⟩,by simp [intOf];omega⟩
        | (
         go_roundw
         case rel=>first | exact ⟨j+1,K6,l2.drop (j+1),by omega,by go_num,HKE.out.below A (below_drewN (Below.refl _ _) _),HK6.out.1,.inr ⟨by omega,rfl⟩⟩ | ((repeat apply Exists.intro);exact ⟨⟨j+1,K6,l2.drop (j+1),by omega,by go_num,HKE.out.below A (below_drewN (Below.refl _ _) _),HK6.out.1,.inr ⟨by omega,rfl⟩⟩,rfl⟩)
         case measure=>simp [intOf];omega)
     have e5:j=5:=by omega
     clear hj5
     subst e5
     have hr:rest5=[]:=by
      rcases HD.out.2.2 with h | h
      ·omega
      ·rw [h.2];exact List.drop_of_length_le (by have:=HLN.out;omega)
     have Q5:=HD.out.2.1
     rw [hr] at Q5
     obtain ⟨K6,e6,l6,w61,w62⟩:=Q5.busy
     have EMs:msV (quR (-1)) none 0=.agg #[.int .i64 (-1),.slice none 0 0,.int .i64 (-1),.int .i64 0,.int .i64 (-1),.int .i64 (-1),.int .i64 0]:=rfl
     have C7:=hid (kv_ipc0 A HD.out.1 (by omega) (quR (-1)) rfl)
     rw [EMs,e6] at C7
     have HK6:=hid (And.intro l6 (And.intro w61 w62))
     clear EMs e6 l6 w61 w62 Q5 hr HD
     go_wp2_with fail
     refine C7.out.mono ?_
     rintro e w8 ⟨rfl,K8⟩
     have C8:=hid (kv_look A K8 5 (K6.nth 5) (nth_some (by rw [HK6.out.1];omega)))
     rw [HK6.out.2.1,HK6.out.2.2] at C8
     obtain ⟨ul,hul⟩:∃ n,(K6.nth 5).ws.length=n:=⟨_,rfl⟩
     rw [hul] at C8
     clear K8 C7 hul
     go_wp2_with fail
     refine C8.out.mono ?_
     rintro e w9 ⟨a7,c7,rfl,sl7,K9⟩
     have HKE:=hid (K9.below A ((Below.refl _ w9).alloc (Nat.le_refl _) (.cells (c5 (K6.nth 5).st 5 (-1) a7 ul c7 (K6.nth 5).got) 50)))
     obtain ⟨p0,p1,p2,p3,p4⟩:=c5_cells (heap_alloc_new w9 (.cells (c5 (K6.nth 5).st 5 (-1) a7 ul c7 (K6.nth 5).got) 50))
     clear sl7 K9 C8
     go_wp2_with (with_reducible (show wpList _ _ _ (⟨_,.store 50 _ _,_,_,_,none⟩ :: _) _ _);go_must (refine wpList_store_new rfl 50 _ _ rfl w9 _ (c5 (K6.nth 5).st 5 (-1) a7 ul c7 (K6.nth 5).got) 50 (by simp [Act.eval]) rfl (by kernel_rfl) rfl (c5_one _ _ _ _ _ _ _) ?_))
     go_ret
     exact ⟨rfl,HB4.out.1.trans (HKE.out.bel.mono HB4.out.1.size)⟩
end
end Go.Proofs.YteejjgbeknnmeaaGreatDoor
