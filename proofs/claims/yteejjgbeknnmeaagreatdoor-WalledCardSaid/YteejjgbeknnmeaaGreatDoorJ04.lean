import Derived.Test.YteejjgbeknnmeaaGreatDoorJ03
import Derived.Lib.SliceRun
set_option maxRecDepth 100000
set_option maxHeartbeats 20000000
namespace Go.Proofs.YteejjgbeknnmeaaGreatDoor
open Go.RowKit
theorem ipcR {K:RM}{m:Ms}{t:Nat}(hc:K.cur=t) (hm:isMs K.threads.length m=true) (hd:m.dst < 0):K.ipc m=(0,(K.asks t m).recv 7 t true):=by
 unfold RM.ipc
 rw [if_neg (by omega),if_neg (by rw [hm];simp),if_pos hd,hc,Int.toNat_natCast]
theorem ipcS {K:RM}{m:Ms}{t r:Nat}{u:Th}{p:Int×Int×Int×Int}(hc:K.cur=t) (hu:K.threads[t]? = some u) (hm:isMs K.threads.length m=true) (hd:¬ m.dst < 0) (hp:findQ K.passes u.sp m.dst=some p) (hb:¬ (bits .and .i64 p.2.2.2 1=0\/p.2.2.1=t)) (hr:p.2.2.1.toNat=r) :
  K.ipc m=(0,((K.asks t m).lendsTo t (bits .and .i64 p.2.2.2 2 != 0)).sends t r m):=by
 unfold RM.ipc
 rw [if_neg (by omega),if_neg (by rw [hm];simp),if_neg hd,hc,Int.toNat_natCast,hu]
 show (match findQ K.passes u.sp m.dst with | none=>_ | some p=>_)=_
 rw [hp]
 show (if bits .and .i64 p.2.2.2 1=0\/p.2.2.1=t then _ else _)=_
 rw [if_neg hb,hr]
theorem sendsW {K:RM}{t r:Nat}{m:Ms}{x:Th}(hx:K.threads[r]? = some x) (h:¬ (x.st=3/\(x.frm=-1\/x.frm=t))) (hw:m.wait≠0):K.sends t r m=K.waits t 2 r:=by
 unfold RM.sends
 rw [hx]
 show (if x.st=3/\(x.frm=-1\/x.frm=t) then _ else _)=_
 rw [if_neg h,if_neg hw]
theorem sendsN {K:RM}{t r:Nat}{m:Ms}{x:Th}(hx:K.threads[r]? = some x) (h:x.st=3/\(x.frm=-1\/x.frm=t)):K.sends t r m=((K.deliver t r).toFirst r).goes 7 t true:=by
 unfold RM.sends
 rw [hx]
 show (if x.st=3/\(x.frm=-1\/x.frm=t) then _ else _)=_
 rw [if_pos h]
theorem goesR {K:RM}{n s:Nat}{stands:Bool}{z:Th}(hz:K.threads[s]? = some z) (h:z.frm≠-2):K.goes n s stands=K.recv n s stands:=by
 unfold RM.goes
 rw [hz]
 show (if z.frm≠-2 then _ else _)=_
 rw [if_pos h]
theorem goesO {K:RM}{n s:Nat}{z:Th}(hz:K.threads[s]? = some z) (h:z.frm=-2):K.goes n s true=K.over s 0:=by
 unfold RM.goes
 rw [hz]
 show (if z.frm≠-2 then _ else _)=_
 rw [if_neg (by omega),if_pos rfl]
theorem recvW {n:Nat}{K:RM}{t:Nat}{stands:Bool}{x:Th}(hx:K.threads[t]? = some x) (hs:senM K.threads t x.frm K.threads.length < 0) (hw:x.wait≠0):K.recv (n+1) t stands=K.waits t 3 (-1):=by
 rw [recv_none hx hs,if_pos hw]
theorem deliverE {K:RM}{s r:Nat}{a b:Th}{L:List Lf}{g:Int}(hs:K.threads[s]? = some a) (hr:K.threads[r]? = some b) (hl:lendL K.leaves a b=(L,g)) :
  K.deliver s r={ K.upd r (fun u=>{ u with st:=1,time:=-1,code:=0,who:=s,ws:=a.mw,got:=g }) with leaves:=L }:=by
 unfold RM.deliver
 rw [hs,hr]
 show ({ K.upd r (fun u=>{ u with st:=1,time:=-1,code:=0,who:=s,ws:=a.mw,got:=(lendL K.leaves a b).2 }) with leaves:=(lendL K.leaves a b).1 }:RM)=_
 rw [hl]
theorem lendN {L:List Lf}{a b:Th}(h:a.item < 0\/b.win < 0\/a.lends=false):lendL L a b=(L,-1):=by
 unfold lendL
 rw [if_pos h]
theorem gone_same {L:List Lf}{s n:Int}{own:Bool}(h1:∀ l∈L,¬ (l.usp=s/\l.upg=n)) (h2:∀ l∈L,¬ (l.sp=s/\l.pg=n)):goneL L s n own=L:=by
 have hu:∀ l,Und L s n l->l∈L->False:=fun l hu=>by
  induction hu with
  | base l e1 e2=>exact fun hl=>h1 l hl ⟨e1,e2⟩
  | step l p hp _ _ _ ih=>exact fun _=>ih hp
 unfold goneL
 rw [List.filter_eq_self]
 intro l hl
 rw [stays_iff]
 exact ⟨fun h=>hu l h hl,fun h=>h2 l hl h.2⟩
theorem lendY {L:List Lf}{a b:Th}{l:Lf}(hi:¬ (a.item < 0\/b.win < 0\/a.lends=false)) (hg:goneL L b.sp b.win true=L) (hf:findLf L a.sp a.item=some l) (hz:¬ bits .and .i64 l.rt a.rt=0):lendL L a b=(L ++ [⟨b.sp,b.win,l.fr,bits .and .i64 l.rt a.rt,a.sp,a.item⟩],b.win):=by
 unfold lendL
 rw [if_neg hi,hg,hf]
 show (if bits .and .i64 l.rt a.rt=0 then _ else _)=_
 rw [if_neg hz]
def tw0:RM:=(RK.new 2 twT twQ twL).up
def kw1:RM:=tw0.stored 1 2 9
def km1:Ms:=⟨3,[4,-4],1,1,-1,-1,-1⟩
def kw2:RM:=((kw1.asks 0 km1).lendsTo 0 true).waits 0 2 1
def km2:Ms:=⟨-1,[],-1,0,0,5,-1⟩
def kw3:RM:=({ (kw2.asks 1 km2).upd 1 (fun u=>{ u with st:=1,time:=-1,code:=0,who:=0,ws:=[4,-4],got:=5 }) with leaves:=[⟨0,1,5,3,-1,-1⟩,⟨1,5,5,1,0,1⟩] }:RM).waits 0 3 (-1)
theorem kw_ipc1:kw1.ipc km1=(0,kw2):=by
 rw [ipcS (t:=0) (r:=1) (u:=kw1.threads[0]) (p:=(0,3,1,3)) (by kernel_rfl) (by kernel_rfl) (by kernel_rfl) (by decide) (by kernel_rfl) (by decide) (by decide)]
 rw [sendsW (x:=kw1.threads[1]) (by kernel_rfl) (by rintro ⟨h,_⟩;exact absurd h (by decide)) (by decide)]
 kernel_rfl
theorem kw_del:(kw2.asks 1 km2).deliver 0 1={ (kw2.asks 1 km2).upd 1 (fun u=>{ u with st:=1,time:=-1,code:=0,who:=0,ws:=[4,-4],got:=5 }) with leaves:=[⟨0,1,5,3,-1,-1⟩,⟨1,5,5,1,0,1⟩] }:=by
 have hl:lendL (kw2.asks 1 km2).leaves (kw2.asks 1 km2).threads[0] (kw2.asks 1 km2).threads[1]=([⟨0,1,5,3,-1,-1⟩,⟨1,5,5,1,0,1⟩],5):=by
  refine (lendY (l:=⟨0,1,5,3,-1,-1⟩) (by decide) (gone_same ?_ ?_) (by kernel_rfl) (by decide)).trans (by kernel_rfl)
  ·intro l hl
   have:l=⟨0,1,5,3,-1,-1⟩:=List.mem_singleton.1 hl
   subst this
   decide
  ·intro l hl
   have:l=⟨0,1,5,3,-1,-1⟩:=List.mem_singleton.1 hl
   subst this
   decide
 rw [deliverE (a:=(kw2.asks 1 km2).threads[0]) (b:=(kw2.asks 1 km2).threads[1]) (by kernel_rfl) (by kernel_rfl) hl]
 rfl
theorem kw_ipc2:kw2.ipc km2=(0,kw3):=by
 rw [ipcR (t:=1) (by kernel_rfl) (by kernel_rfl) (by decide),recv_some (n:=6) (s:=0) (x:=(kw2.asks 1 km2).threads[1]) (by kernel_rfl) (by kernel_rfl)]
 show (0,((kw2.asks 1 km2).deliver 0 1).goes 6 0 false)=_
 rw [kw_del]
 rw [goesR (z:=kw2.threads[0]) (by kernel_rfl) (by decide),recvW (n:=5) (x:=kw2.threads[0]) (by kernel_rfl) (by decide) (by decide)]
 rfl
section
variable {Rep:World->Nat->(Nat->Prop)->RM->Prop}(A:ApM Rep)
theorem Fr.cell0 {S:Nat->Prop}{w w':World}(h:Fr S w w'){b j:Nat}(hb:b < w.heap.size) (hs:¬ S b):w'.cell? ⟨b,j,none⟩=w.cell? ⟨b,j,none⟩:=World.cell?_of_block (h.block b hb hs)
theorem inl_two (w:World) (a b:Int):Inl (w.alloc (.cells #[.int .i64 a,.int .i64 b] 2)) 1 (.slice (some ⟨w.heap.size,0,none⟩) 2 2) ([a,b].map lnI):=
 inl_lit (heap_alloc_new w _) rfl rfl (by intro r hr;simp at hr;rcases hr with rfl | rfl <;> rfl) (by intro r hr u hu;simp at hr;rcases hr with rfl | rfl <;> (simp [lnI] at hu;subst hu;rfl)) (by decide)
theorem inl_nil (w:World):Inl w 1 (.slice none 0 0) (([]:List Int).map lnI):=⟨by simp,by simp,none,0,rfl,by simp,.inl rfl⟩
include A in
theorem known_any (w:World) (hg:Gl w):Calls Tryz.prog 15 #[] w fun e w'=>e=.returned (.bool true)/\Below w.heap.size w w':=by
 go_enter Tryz.func15,Tryz.ntmps15
 go_wp2_with fail
 refine (two_any w).mono ?_
 rintro e w1 ⟨b1,b2,b3,rfl,i1,i2,i3,B1⟩
 have C2:=hid (boot_any A 2 _ _ _ _ _ _ _ _ _ twT twQ twL w1 (hg.below B1) i1 i2 i3 fits_tw 0)
 have HB1:=hid B1
 clear i1 i2 i3 B1 hg
 go_wp2_with fail
 refine C2.out.mono ?_
 rintro e w2 ⟨x,S2,rfl,K2,B2⟩
 have HB2:=hid B2
 have C3:=hid (ks_current A K2)
 clear B2 K2
 go_wp2_with fail
 refine C3.out.mono ?_
 rintro e w3 ⟨rfl,B3,K3⟩
 rw [show (RK.new 2 twT twQ twL).up.cur=0 by kernel_rfl]
 have C4:=hid (ks_store A K3 1 2 9)
 clear B3 K3
 go_wp2_with fail
 refine C4.out.mono ?_
 rintro e w4 ⟨rfl,S4,K4,_⟩
 rw [show ((RK.new 2 twT twQ twL).up.touch 1 2 2).2=0 by kernel_rfl]
 have C5:=hid (ks_ipc A (K4.below A ((Below.refl _ w4).alloc (Nat.le_refl _) _)) (by omega) km1 (some ⟨w4.heap.size,0,none⟩) 2 (inl_two w4 4 (-4)) (fun k hk hS=>by
  have e:k=w4.heap.size:=by simpa [inBlock,km1] using hk.symm
  have:=K4.lt A k hS
  omega))
 clear K4
 go_wp2_with fail
 refine C5.out.mono ?_
 rintro e w5 ⟨rfl,S5,K5,_⟩
 have E5:(RK.new 2 twT twQ twL).up.stored 1 2 9=kw1:=rfl
 rw [E5,kw_ipc1] at K5
 rw [E5,kw_ipc1]
 have C6:=hid (ks_current A K5)
 clear K5 E5
 go_wp2_with fail
 refine C6.out.mono ?_
 rintro e w6 ⟨rfl,_,K6⟩
 rw [show kw2.cur=1 by kernel_rfl]
 have C7:=hid (ks_ipc A K6 (by omega) km2 none 0 (inl_nil w6) (fun k hk=>by simp [inBlock] at hk))
 clear K6
 go_wp2_with fail
 refine C7.out.mono ?_
 rintro e w7 ⟨rfl,S7,K7,_⟩
 rw [kw_ipc2] at K7
 rw [kw_ipc2]
 have C8:=hid (ks_look A K7 1 kw3.threads[1] (by kernel_rfl))
 have L7:=hid (K7.lt A)
 clear K7
 go_wp2_with fail
 refine C8.out.mono ?_
 rintro e w8 ⟨a8,c8,rfl,s8,B8,n8,K8⟩
 rw [show kw3.threads[1].st=1 by kernel_rfl,show kw3.threads[1].code=0 by kernel_rfl,show kw3.threads[1].who=0 by kernel_rfl,show kw3.threads[1].ws.length=2 by kernel_rfl,show kw3.threads[1].got=5 by kernel_rfl]
 rw [show kw3.threads[1].ws.length=2 by kernel_rfl,show kw3.threads[1].ws=[4,-4] by kernel_rfl] at s8
 rw [show kw3.threads[1].ws.length=2 by kernel_rfl] at n8
 obtain ⟨g8,ea,_⟩:=s8.is_some (by omega)
 subst ea
 have ng:w7.heap.size<=g8:=n8 g8 rfl
 have lg:g8 < w8.heap.size:=s8.lt rfl
 have r0:w8.cell? ⟨g8,0,none⟩=some (.int .i64 4):=s8.row (i:=0) (r:=[.int .i64 4]) rfl 0 _ rfl
 have r1:w8.cell? ⟨g8,1,none⟩=some (.int .i64 (-4)):=s8.row (i:=1) (r:=[.int .i64 (-4)]) rfl 0 _ rfl
 have K8':=K8.below A ((Below.refl _ w8).alloc (Nat.le_refl _) (.cells (c5 1 0 0 (some ⟨g8,0,none⟩) 2 c8 5) 50))
 have C9:=hid (ks_load A K8' 5 2)
 have HW:=hid (And.intro r0 (And.intro r1 (And.intro B8 K8.bel)))
 clear K8 K8' s8 n8 B8 r0 r1
 go_wp2_with (with_reducible (show wpList _ _ _ (⟨_,.store 50 _ _,_,_,_,none⟩ :: _) _ _);go_must (refine wpList_store_new rfl 50 _ _ rfl w8 _ (c5 1 0 0 (some ⟨g8,0,none⟩) 2 c8 5) 50 (by simp [Act.eval]) rfl (by kernel_rfl) rfl (c5_one _ _ _ _ _ _ _) ?_))
 refine C9.out.mono ?_
 rintro e w9 ⟨rfl,B9,K9⟩
 rw [show kw3.load 5 2=(9,0) by kernel_rfl]
 have z8:(w8.alloc (.cells (c5 1 0 0 (some ⟨g8,0,none⟩) 2 c8 5) 50)).heap.size=w8.heap.size+1:=by simp
 rw [z8] at B9
 have z9:=B9.size
 rw [z8] at z9
 have q0:w9.cell? ⟨g8,0,none⟩=some (.int .i64 4):=(World.cell?_of_block (B9.block g8 (by omega))).trans ((World.cell?_of_block (Below.heap_alloc _ _ _ lg)).trans HW.out.1)
 have q1:w9.cell? ⟨g8,1,none⟩=some (.int .i64 (-4)):=(World.cell?_of_block (B9.block g8 (by omega))).trans ((World.cell?_of_block (Below.heap_alloc _ _ _ lg)).trans HW.out.2.1)
 have qb:w9.heap[w8.heap.size]? = some (.cells (c5 1 0 0 (some ⟨g8,0,none⟩) 2 c8 5) 50 (0,0)):=(B9.block _ (by omega)).trans (heap_alloc_new w8 _)
 have C10:=hid (ks_store A K9 5 2 1)
 have HQ:=hid (And.intro q0 (And.intro q1 qb))
 clear K9 q0 q1 qb B9
 go_wp2_with fail
 refine C10.out.mono ?_
 rintro e w10 ⟨rfl,S10,K10,_,F10⟩
 rw [show (kw3.touch 5 2 2).2=7 by kernel_rfl]
 have z7:=HW.out.2.2.1.size
 have n1:¬ S7 g8:=fun h=>by have:=L7.out g8 h;omega
 have n2:¬ S7 w8.heap.size:=fun h=>by have:=L7.out _ h;omega
 have u0:=(F10.cell0 (j:=0) (by omega) n1).trans HQ.out.1
 have u1:=(F10.cell0 (j:=1) (by omega) n1).trans HQ.out.2.1
 have ub:=(F10.block w8.heap.size (by omega) n2).trans HQ.out.2.2
 have v0:=(cell_of_row w10 _ 0 _ _ _ ub).trans (show _=some (Value.int .i64 1) from rfl)
 have v2:=(cell_of_row w10 _ 2 _ _ _ ub).trans (show _=some (Value.int .i64 0) from rfl)
 have v3:=(cell_of_row w10 _ 3 _ _ _ ub).trans (show _=some (Value.slice (some ⟨g8,0,none⟩) 2 c8) from rfl)
 have v4:=(cell_of_row w10 _ 4 _ _ _ ub).trans (show _=some (Value.int .i64 5) from rfl)
 have HE:=hid (HB1.out.trans (K10.bel.mono HB1.out.size))
 clear K10 F10 n1 n2 ub
 go_wp2
 go_ret
 exact ⟨rfl,HE.out⟩
end
open Go.RowKit
def th0:Th:=thOf (0,0,0,0)
def RM.nth (K:RM) (i:Nat):Th:=(K.threads[i]?).getD th0
def mtC (l:List Int) (r:Int):Ms:=⟨3,l,1,r,1,-1,-1⟩
def mtW:Ms:=⟨-1,[],-1,0,-1,4,-1⟩
def mtB (b:List Int):Ms:=⟨0,b,-1,0,-2,-1,0⟩
def mtLv (r:Int):List Lf:=[⟨0,1,5,3,-1,-1⟩,⟨1,4,5,r,0,1⟩]
def RM.met (K:RM) (l:List Int) (r:Int):RM:={ K.upd 1 (fun u=>{ u with st:=1,time:=-1,code:=0,who:=0,ws:=l,got:=4 }) with leaves:=mtLv r }
def mf2 (l:List Int) (r:Int):RM:=((tw0.asks 0 (mtC l r)).lendsTo 0 true).waits 0 2 1
def mf3 (l:List Int) (r:Int):RM:=(((mf2 l r).asks 1 mtW).met l r).waits 0 3 (-1)
def my0:RM:=tw0.yield.2
def my1:RM:=(my0.asks 1 mtW).waits 1 3 (-1)
def my3 (l:List Int) (r:Int):RM:=(((((my1.asks 0 (mtC l r)).lendsTo 0 true).met l r).toFirst 1)).waits 0 3 (-1)
theorem isMs_c {l:List Int}{r:Int}(hl:l.length<=4) (hr:r=1\/r=2\/r=3):isMs 2 (mtC l r)=true:=by
 rcases hr with rfl | rfl | rfl <;> simp [isMs,mtC,inI] <;> exact decide_eq_true (by omega)
theorem isMs_b {b:List Int}(hl:b.length<=4):isMs 2 (mtB b)=true:=by
 simp [isMs,mtB,inI]
 exact decide_eq_true (by omega)
theorem met_lend {a b:Th}{r:Int}(hr:r=1\/r=2\/r=3) (h1:a.item=1) (h2:a.lends=true) (h3:a.rt=r) (h4:a.sp=0) (h5:b.win=4) (h6:b.sp=1):lendL [⟨0,1,5,3,-1,-1⟩] a b=(mtLv r,4):=by
 have hg:goneL [⟨0,1,5,3,-1,-1⟩] b.sp b.win true=[(⟨0,1,5,3,-1,-1⟩:Lf)]:=by
  rw [h5,h6]
  refine gone_same ?_ ?_
  ·intro l hl
   have:l=⟨0,1,5,3,-1,-1⟩:=List.mem_singleton.1 hl
   subst this
   decide
  ·intro l hl
   have:l=⟨0,1,5,3,-1,-1⟩:=List.mem_singleton.1 hl
   subst this
   decide
 have hz:∀ r:Int,r=1\/r=2\/r=3->bits .and .i64 3 r=r:=fun r hr=>by rcases hr with rfl | rfl | rfl <;> decide
 have hb:=hz r hr
 rw [lendY (l:=⟨0,1,5,3,-1,-1⟩) (by rw [h1,h2,h5];decide) hg (by rw [h4,h1];rfl) (by show ¬ bits .and .i64 3 a.rt=0;rw [h3,hb];omega)]
 show ([⟨0,1,5,3,-1,-1⟩] ++ [(⟨b.sp,b.win,5,bits .and .i64 3 a.rt,a.sp,a.item⟩:Lf)],b.win)=_
 rw [h1,h3,h4,h5,h6,hb]
 rfl
theorem mf_ipc1 {l:List Int}{r:Int}(hl:l.length<=4) (hr:r=1\/r=2\/r=3):tw0.ipc (mtC l r)=(0,mf2 l r):=by
 rw [ipcS (K:=tw0) (m:=mtC l r) (t:=0) (r:=1) (u:=tw0.nth 0) (p:=(0,3,1,3)) (by kernel_rfl) (by kernel_rfl) (show isMs 2 (mtC l r)=true from isMs_c hl hr) (by show ¬ (3:Int) < 0;decide) (by kernel_rfl) (by decide) (by decide)]
 rw [sendsW (x:=tw0.nth 1) (by kernel_rfl) (by rintro ⟨h,_⟩;exact absurd h (by decide)) (by show (-1:Int)≠0;decide)]
 rfl
theorem mf_ipc2 {l:List Int}{r:Int}(hr:r=1\/r=2\/r=3):(mf2 l r).ipc mtW=(0,mf3 l r):=by
 rw [ipcR (t:=1) (by kernel_rfl) (by kernel_rfl) (by decide),recv_some (n:=6) (s:=0) (x:=((mf2 l r).asks 1 mtW).nth 1) (by kernel_rfl) (by kernel_rfl)]
 show (0,(((mf2 l r).asks 1 mtW).deliver 0 1).goes 6 0 false)=_
 rw [deliverE (a:=((mf2 l r).asks 1 mtW).nth 0) (b:=((mf2 l r).asks 1 mtW).nth 1) (L:=mtLv r) (g:=4) (by kernel_rfl) (by kernel_rfl) (met_lend hr (by kernel_rfl) (by kernel_rfl) (by kernel_rfl) (by kernel_rfl) (by kernel_rfl) (by kernel_rfl))]
 rw [goesR (z:=(mf2 l r).nth 0) (by kernel_rfl) (by show (1:Int)≠-2;decide),recvW (n:=5) (x:=(mf2 l r).nth 0) (by kernel_rfl) (by show (-1:Int) < 0;decide) (by show (-1:Int)≠0;decide)]
 rfl
theorem my_ipc1:my0.ipc mtW=(0,my1):=by
 rw [ipcR (t:=1) (by kernel_rfl) (by kernel_rfl) (by decide),recvW (n:=6) (x:=(my0.asks 1 mtW).nth 1) (by kernel_rfl) (by decide) (by decide)]
 rfl
theorem my_ipc2 {l:List Int}{r:Int}(hl:l.length<=4) (hr:r=1\/r=2\/r=3):my1.ipc (mtC l r)=(0,my3 l r):=by
 rw [ipcS (K:=my1) (m:=mtC l r) (t:=0) (r:=1) (u:=my1.nth 0) (p:=(0,3,1,3)) (by kernel_rfl) (by kernel_rfl) (show isMs 2 (mtC l r)=true from isMs_c hl hr) (by show ¬ (3:Int) < 0;decide) (by kernel_rfl) (by decide) (by decide)]
 rw [sendsN (x:=my1.nth 1) (by kernel_rfl) ⟨by kernel_rfl,.inl (by kernel_rfl)⟩]
 rw [deliverE (a:=((my1.asks 0 (mtC l r)).lendsTo 0 true).nth 0) (b:=((my1.asks 0 (mtC l r)).lendsTo 0 true).nth 1) (L:=mtLv r) (g:=4) (by kernel_rfl) (by kernel_rfl) (met_lend hr (by kernel_rfl) (by kernel_rfl) (by kernel_rfl) (by kernel_rfl) (by kernel_rfl) (by kernel_rfl))]
 rw [goesR (z:=((my1.asks 0 (mtC l r)).lendsTo 0 true).nth 0) (by kernel_rfl) (by show (1:Int)≠-2;decide),recvW (n:=6) (x:=((my1.asks 0 (mtC l r)).lendsTo 0 true).nth 0) (by kernel_rfl) (by show (-1:Int) < 0;decide) (by show (-1:Int)≠0;decide)]
 rfl
structure HeardAt (K:RM) (l:List Int) (r:Int):Prop where
 len:K.threads.length=2
 t1:∃ u,K.threads[1]? = some u/\u.st=1/\u.code=0/\u.who=0/\u.ws=l/\u.got=4
 t0:∃ u,K.threads[0]? = some u/\u.st=3
 cur:K.cur=1
 ld:(K.load 4 0).2=if r=2 then 7 else 0
 sd:(K.touch 4 0 2).2=if r=1 then 7 else 0
 an:∀ b:List Int,b.length<=4->∃ K2,(K.stored 4 0 3).ipc (mtB b)=(0,K2)/\(∃ u,K2.threads[0]? = some u/\u.st=1/\u.who=1/\u.got=-1/\u.ws=b)/\K2.cur=0/\K2.load 1 0=(if r=1 then 0 else 3,0)
def RM.back (K:RM) (b:List Int):RM:=((((K.asks 1 (mtB b)).lendsTo 1 true).upd 0 (fun u=>{ u with st:=1,time:=-1,code:=0,who:=1,ws:=b,got:=-1 })).toFirst 0).over 1 0
theorem back_ipc {K:RM}{b:List Int}{u v:Th}(hb:b.length<=4) (hc:K.cur=1) (hn:K.threads.length=2) (hp:findQ K.passes v.sp 0=some (1,0,0,3)) (hu:K.threads[0]? = some u) (hv:K.threads[1]? = some v) (h3:u.st=3) (h1:u.frm=1):K.ipc (mtB b)=(0,K.back b):=by
 rw [ipcS (t:=1) (r:=0) (u:=v) (p:=(1,0,0,3)) hc hv (by rw [hn];exact isMs_b hb) (by show ¬ (0:Int) < 0;decide) hp (by decide) (by decide)]
 have hu2:((K.asks 1 (mtB b)).lendsTo 1 true).threads[0]? = some u:=by
  show ((K.threads.modify 1 _).modify 1 _)[0]? = _
  rw [List.getElem?_modify,List.getElem?_modify,hu];rfl
 have hv2:((K.asks 1 (mtB b)).lendsTo 1 true).threads[1]? = some { v with dst:=0,mw:=b,item:=-1,rt:=0,frm:=-2,win:=-1,wait:=0,lends:=true }:=by
  show ((K.threads.modify 1 _).modify 1 _)[1]? = _
  rw [List.getElem?_modify,List.getElem?_modify,hv];rfl
 show (0,((K.asks 1 (mtB b)).lendsTo 1 true).sends 1 0 (mtB b))=_
 rw [sendsN (x:=u) hu2 ⟨h3,.inr (by rw [h1];rfl)⟩,deliverE hv2 hu2 (lendN (.inl (by show (-1:Int) < 0;decide)))]
 rw [goesO (z:={ v with dst:=0,mw:=b,item:=-1,rt:=0,frm:=-2,win:=-1,wait:=0,lends:=true }) (by
  show ((((K.threads.modify 1 _).modify 1 _).modify 0 _).modify 0 _)[1]? = _
  rw [List.getElem?_modify,List.getElem?_modify,List.getElem?_modify,List.getElem?_modify,hv];rfl) rfl]
 rfl
theorem mf_heard {l:List Int}{r:Int}(hr:r=1\/r=2\/r=3):HeardAt (mf3 l r) l r:=by
 refine ⟨by kernel_rfl,⟨(mf3 l r).nth 1,by kernel_rfl,by kernel_rfl,by kernel_rfl,by kernel_rfl,by kernel_rfl,by kernel_rfl⟩,⟨(mf3 l r).nth 0,by kernel_rfl,by kernel_rfl⟩,by kernel_rfl,?_,?_,fun b hb=>?_⟩
 ·rcases hr with rfl | rfl | rfl <;> kernel_rfl
 ·rcases hr with rfl | rfl | rfl <;> kernel_rfl
 ·rcases hr with rfl | rfl | rfl
  ·exact ⟨_,back_ipc (u:=(mf3 l 1).nth 0) (v:=(mf3 l 1).nth 1) hb (by kernel_rfl) (by kernel_rfl) (by kernel_rfl) (by kernel_rfl) (by kernel_rfl) (by kernel_rfl) (by kernel_rfl),⟨(((mf3 l 1).stored 4 0 3).back b).nth 0,by kernel_rfl,by kernel_rfl,by kernel_rfl,by kernel_rfl,by kernel_rfl⟩,by kernel_rfl,by kernel_rfl⟩
  ·exact ⟨_,back_ipc (u:=(mf3 l 2).nth 0) (v:=(mf3 l 2).nth 1) hb (by kernel_rfl) (by kernel_rfl) (by kernel_rfl) (by kernel_rfl) (by kernel_rfl) (by kernel_rfl) (by kernel_rfl),⟨(((mf3 l 2).stored 4 0 3).back b).nth 0,by kernel_rfl,by kernel_rfl,by kernel_rfl,by kernel_rfl,by kernel_rfl⟩,by kernel_rfl,by kernel_rfl⟩
  ·exact ⟨_,back_ipc (u:=(mf3 l 3).nth 0) (v:=(mf3 l 3).nth 1) hb (by kernel_rfl) (by kernel_rfl) (by kernel_rfl) (by kernel_rfl) (by kernel_rfl) (by kernel_rfl) (by kernel_rfl),⟨(((mf3 l 3).stored 4 0 3).back b).nth 0,by kernel_rfl,by kernel_rfl,by kernel_rfl,by kernel_rfl,by kernel_rfl⟩,by kernel_rfl,by kernel_rfl⟩
theorem my_heard {l:List Int}{r:Int}(hr:r=1\/r=2\/r=3):HeardAt (my3 l r) l r:=by
 refine ⟨by kernel_rfl,⟨(my3 l r).nth 1,by kernel_rfl,by kernel_rfl,by kernel_rfl,by kernel_rfl,by kernel_rfl,by kernel_rfl⟩,⟨(my3 l r).nth 0,by kernel_rfl,by kernel_rfl⟩,by kernel_rfl,?_,?_,fun b hb=>?_⟩
 ·rcases hr with rfl | rfl | rfl <;> kernel_rfl
 ·rcases hr with rfl | rfl | rfl <;> kernel_rfl
 ·rcases hr with rfl | rfl | rfl
  ·exact ⟨_,back_ipc (u:=(my3 l 1).nth 0) (v:=(my3 l 1).nth 1) hb (by kernel_rfl) (by kernel_rfl) (by kernel_rfl) (by kernel_rfl) (by kernel_rfl) (by kernel_rfl) (by kernel_rfl),⟨(((my3 l 1).stored 4 0 3).back b).nth 0,by kernel_rfl,by kernel_rfl,by kernel_rfl,by kernel_rfl,by kernel_rfl⟩,by kernel_rfl,by kernel_rfl⟩
  ·exact ⟨_,back_ipc (u:=(my3 l 2).nth 0) (v:=(my3 l 2).nth 1) hb (by kernel_rfl) (by kernel_rfl) (by kernel_rfl) (by kernel_rfl) (by kernel_rfl) (by kernel_rfl) (by kernel_rfl),⟨(((my3 l 2).stored 4 0 3).back b).nth 0,by kernel_rfl,by kernel_rfl,by kernel_rfl,by kernel_rfl,by kernel_rfl⟩,by kernel_rfl,by kernel_rfl⟩
  ·exact ⟨_,back_ipc (u:=(my3 l 3).nth 0) (v:=(my3 l 3).nth 1) hb (by kernel_rfl) (by kernel_rfl) (by kernel_rfl) (by kernel_rfl) (by kernel_rfl) (by kernel_rfl) (by kernel_rfl),⟨(((my3 l 3).stored 4 0 3).back b).nth 0,by kernel_rfl,by kernel_rfl,by kernel_rfl,by kernel_rfl,by kernel_rfl⟩,by kernel_rfl,by kernel_rfl⟩
open Go.RowKit
theorem Inl.take {w:World}{a:Option Addr}{n c:Nat}{ws:List Int}(h:Inl w 1 (.slice a n c) (ws.map lnI)) (k:Nat) (hk:k<=n) (hl:ws.length=n):Inl w 1 (.slice a k c) ((ws.take k).map lnI):=by
 obtain ⟨a',c',e,hm,hf⟩:=h.form
 simp only [Value.slice.injEq,List.length_map] at e
 obtain ⟨rfl,e2,rfl⟩:=e
 have hlk:(ws.take k).length=k:=by simp;omega
 refine ⟨fun r hr=>by obtain ⟨z,_,rfl⟩:=List.mem_map.1 hr;rfl,fun r hr u hu=>by obtain ⟨z,_,rfl⟩:=List.mem_map.1 hr;simp [lnI] at hu;subst hu;rfl,a,c,by rw [List.length_map,hlk],by simp at hm ⊢;omega,?_⟩
 rcases hf with hf | ⟨b,off,rfl,hr⟩
 ·left
  have:ws=[]:=by simpa using hf
  subst this
  simp
 ·right
  refine ⟨b,off,rfl,fun j v hv=>hr j v ?_⟩
  have ef:∀ l:List Int,(l.map lnI).flatten=l.map (Value.int .i64):=fun l=>by
   induction l with
   | nil=>rfl
   | cons z r ih=>simp [lnI,ih]
  rw [ef] at hv ⊢
  rw [List.getElem?_map] at hv ⊢
  rcases hx:(ws.take k)[j]? with _ | z
  ·rw [hx] at hv;simp at hv
  ·rw [hx] at hv
   rw [List.getElem?_take] at hx
   split at hx
   ·rw [hx];exact hv
   ·simp at hx
theorem short_any (a:Option Addr) (n c:Nat) (ws:List Int) (w:World) (hI:Inl w 1 (.slice a n c) (ws.map lnI)) (hl:ws.length=n) (hc:n<=c) :
  Calls Tryz.prog 21 #[.slice a n c] w fun e w'=>∃ k,e=.returned (.slice a k c)/\k<=n/\(ws.take 4).length=k/\Inl w 1 (.slice a k c) ((ws.take 4).map lnI)/\w'=w:=by
 by_cases h4:4 < n
 ·obtain ⟨b,off,rfl⟩:∃ b off,a=some ⟨b,off,none⟩:=by
   obtain ⟨a',c',e,_,hf⟩:=hI.form
   simp only [Value.slice.injEq] at e
   rcases hf with hf | ⟨b,off,h,_⟩
   ·have:ws=[]:=by simpa using hf
    subst this
    simp at hl;omega
   ·exact ⟨b,off,by rw [e.1,h]⟩
  have HI:=hid (hI.take 4 (by omega) hl)
  have h4':(4:Int) < (n:Int):=by omega
  have hlt:(ws.take 4).length=4:=by simp;omega
  have HL:=hid hlt
  clear hI hl hlt
  go_enter Tryz.func21,Tryz.ntmps21
  go_wp2
  go_ret
  exact ⟨4,rfl,by omega,HL.out,HI.out,rfl⟩
 ·have hd:decide ((4:Int) < (n:Int))=false:=by simp;omega
  have e:ws.take 4=ws:=List.take_of_length_le (by omega)
  have HI:=hid (And.intro hI (And.intro e hl))
  clear hI e hl
  go_enter Tryz.func21,Tryz.ntmps21
  go_wp2
  go_ret
  exact ⟨n,rfl,Nat.le_refl _,by rw [HI.out.2.1];exact HI.out.2.2,by rw [HI.out.2.1];exact HI.out.1,rfl⟩
open Go.RowKit
theorem Inl.inltK {w:World}{size:Nat}{v:Value}{rows:List (List Value)}(h:Inl w size v rows) (hs:0 < size){k:Nat}(hk:inBlock v=some k):k < w.heap.size:=by
 refine h.lt hs (fun e=>?_) hk
 subst e
 obtain ⟨a,c,rfl,_⟩:=h.form
 cases a <;> simp [inBlock] at hk
theorem c5_cells {w:World}{g:Nat}{st code who got:Int}{a:Option Addr}{n c:Nat}(h:w.heap[g]? = some (.cells (c5 st code who a n c got) 50 (0,0))) :
  w.cell? ⟨g,0,none⟩=some (.int .i64 st)/\w.cell? ⟨g,1,none⟩=some (.int .i64 code)/\w.cell? ⟨g,2,none⟩=some (.int .i64 who)/\w.cell? ⟨g,3,none⟩=some (.slice a n c)/\w.cell? ⟨g,4,none⟩=some (.int .i64 got):=
 ⟨(cell_of_row w g 0 _ _ _ h).trans rfl,(cell_of_row w g 1 _ _ _ h).trans rfl,(cell_of_row w g 2 _ _ _ h).trans rfl,(cell_of_row w g 3 _ _ _ h).trans rfl,(cell_of_row w g 4 _ _ _ h).trans rfl⟩
theorem word_at {w:World}{a:Option Addr}{n c:Nat}{l:List Int}(h:Inl w 1 (.slice a n c) (l.map lnI)){k:Nat}{z:Int}(hz:l[k]? = some z):∃ b o,a=some ⟨b,o,none⟩/\w.cell? ⟨b,o+k,none⟩=some (.int .i64 z):=by
 obtain ⟨b,o,e,r⟩:=h.row (k:=k) (r:=[.int .i64 z]) (by rw [List.getElem?_map,hz];rfl)
 refine ⟨b,o,e,?_⟩
 have:=r 0 (.int .i64 z) rfl
 rwa [Nat.mul_one,Nat.add_zero] at this
theorem word_out {w:World}{g n c:Nat}{l:List Int}(h:Sl w 2 1 (.slice (some ⟨g,0,none⟩) n c) (l.map lnI)){k:Nat}{z:Int}(hz:l[k]? = some z):w.cell? ⟨g,k,none⟩=some (.int .i64 z):=by
 have:=h.row (i:=k) (r:=[.int .i64 z]) (by rw [List.getElem?_map,hz];rfl) 0 _ rfl
 rwa [Nat.mul_one,Nat.add_zero] at this
section
variable {Rep:World->Nat->(Nat->Prop)->RM->Prop}(A:ApM Rep)
include A in
theorem heard_any {W w:World}{x:Nat}{S:Nat->Prop}{K:RM}{n:Nat}(h:KS Rep W w x S K n) (hn:n<=1000) (l b:List Int) (r:Int) (HA:HeardAt K l r) (hr:r=1\/r=2\/r=3)
  (al ab:Option Addr) (nl cl nb cb:Nat) (iL:Inl W 1 (.slice al nl cl) (l.map lnI)) (iB:Inl W 1 (.slice ab nb cb) (b.map lnI)) (el:l.length=nl) (eb:b.length=nb) (lb:nb<=4) (ll:nl<=4) :
  Calls Tryz.prog 24 #[.pointer (some ⟨x,0,none⟩),.slice al nl cl,.slice ab nb cb,.int .i64 r] w fun e w'=>e=.returned (.bool true)/\Below W.heap.size W w':=by
 obtain ⟨u1,hu1,s1,c1,o1,g1,t1⟩:=HA.t1
 obtain ⟨u0,hu0,s0⟩:=HA.t0
 obtain ⟨K2,hI2,⟨v0,hv0,vs0,vo0,vg0,vw0⟩,hc2,hl2⟩:=HA.an b (by omega)
 obtain ⟨b1,b2,f1,f2,f3,f4,f5⟩:∃ b1 b2,((K.load 4 0).2 == 0)=b1/\(bits .and .i64 r 1 != 0)=b1/\((K.touch 4 0 2).2 == 0)=b2/\(bits .and .i64 r 2 != 0)=b2/\((K2.load 1 0).1 == 3)=b2:=by
  rw [HA.ld,HA.sd,hl2]
  rcases hr with rfl | rfl | rfl
  ·exact ⟨true,false,by decide,by decide,by decide,by decide,by decide⟩
  ·exact ⟨false,true,by decide,by decide,by decide,by decide,by decide⟩
  ·exact ⟨true,true,by decide,by decide,by decide,by decide,by decide⟩
 have f6:(K2.load 1 0).2=0:=by rw [hl2]
 have C1:=hid (lookK_any A h 1 u1 hu1)
 rw [s1,c1,o1,g1,t1,el] at C1
 have HW:=hid (And.intro iL (And.intro iB (And.intro el (And.intro eb (And.intro hu0 (And.intro hI2 (And.intro hv0 HA.cur)))))))
 have HS:=hid (And.intro (h.lt A) h.bel.size)
 have HV:=hid (And.intro s0 (And.intro vs0 (And.intro vo0 (And.intro vg0 (And.intro vw0 (And.intro hc2 (And.intro f1 (And.intro f2 (And.intro f3 (And.intro f4 (And.intro f5 f6)))))))))))
 clear h iL iB hu1 s1 c1 o1 t1 HA hr g1 hu0 s0 hI2 hv0 vs0 vo0 vg0 vw0 hc2 hl2 f1 f2 f3 f4 f5 f6 el eb
 go_enter Tryz.func24,Tryz.ntmps24
 go_wp2_with fail
 refine C1.out.mono ?_
 rintro e w1 ⟨a1,cc1,rfl,sl1,B1,N1,K1⟩
 have K1':=K1.below A ((Below.refl _ w1).alloc (Nat.le_refl _) (.cells (c5 1 0 0 a1 nl cc1 4) 50))
 have C2:=hid (lookK_any A K1' 0 u0 HW.out.2.2.2.2.1)
 rw [HV.out.1] at C2
 obtain ⟨m0,hm0⟩:∃ m,u0.ws.length=m:=⟨_,rfl⟩
 rw [hm0] at C2
 have H1:=hid (And.intro sl1 (heap_alloc_new w1 (.cells (c5 1 0 0 a1 nl cc1 4) 50)))
 have Z01:=hid B1.size
 clear sl1 B1 N1 K1 K1' hm0
 go_wp2_with (with_reducible (show wpList _ _ _ (⟨_,.store 50 _ _,_,_,_,none⟩ :: _) _ _);go_must (refine wpList_store_new rfl 50 _ _ rfl w1 _ (c5 1 0 0 a1 nl cc1 4) 50 (by simp [Act.eval]) rfl (by kernel_rfl) rfl (c5_one _ _ _ _ _ _ _) ?_))
 refine C2.out.mono ?_
 rintro e w2 ⟨a2,cc2,rfl,sl2,B2,N2,K2'⟩
 have z2:=B2.size
 simp only [size_alloc] at z2
 have KB:=K2'.below A ((Below.refl _ w2).alloc (Nat.le_refl _) (.cells (c5 3 u0.code u0.who a2 m0 cc2 u0.got) 50))
 have q1:(w2.alloc (.cells (c5 3 u0.code u0.who a2 m0 cc2 u0.got) 50)).heap[w1.heap.size]? = some (.cells (c5 1 0 0 a1 nl cc1 4) 50 (0,0)):=(Below.heap_alloc _ _ _ (by omega)).trans ((B2.block _ (by simp)).trans H1.out.2)
 have q2:=heap_alloc_new w2 (.cells (c5 3 u0.code u0.who a2 m0 cc2 u0.got) 50)
 have BB:Below w1.heap.size w1 (w2.alloc (.cells (c5 3 u0.code u0.who a2 m0 cc2 u0.got) 50)):=(((Below.refl _ w1).alloc (Nat.le_refl _) _).trans (B2.mono (by simp))).alloc (by omega) _
 have S1:Sl (w2.alloc (.cells (c5 3 u0.code u0.who a2 m0 cc2 u0.got) 50)) 2 1 (.slice a1 nl cc1) (l.map lnI):=H1.out.1.kept (Fr.of_below BB (fun _=>False)) (fun _ _ h=>h)
 obtain ⟨p0,p1,p2,p3,p4⟩:=c5_cells q1
 obtain ⟨r0,r1,r2,r3,r4⟩:=c5_cells q2
 have C3:=hid (ks_current A KB)
 rw [HW.out.2.2.2.2.2.2.2] at C3
 have HB:=hid (And.intro KB (And.intro S1 (And.intro q1 q2)))
 have hnn:((nl:Int) != (nl:Int))=false:=by simp
 have Z12:=hid z2
 clear B2 N2 K2' sl2 KB q1 q2 BB S1 z2
 go_wp2_with (first
  | (with_reducible (show wpList _ _ _ (⟨_,.store 50 _ _,_,_,_,none⟩ :: _) _ _);go_must (refine wpList_store_new rfl 50 _ _ rfl w2 _ (c5 3 u0.code u0.who a2 m0 cc2 u0.got) 50 (by simp [Act.eval]) rfl (by kernel_rfl) rfl (c5_one _ _ _ _ _ _ _) ?_))
  | (go_at_call 18;refine C3.out.mono ?_;rintro e w3 ⟨rfl,B3,K3⟩;have H3:=hid (And.intro B3 K3);clear B3 K3))
 obtain ⟨wB,hwB⟩:∃ wB,w2.alloc (.cells (c5 3 u0.code u0.who a2 m0 cc2 u0.got) 50)=wB:=⟨_,rfl⟩
 have zB:w2.heap.size < wB.heap.size:=by rw [<- hwB];simp
 have z12:w1.heap.size < w2.heap.size:=by have:=Z12.out;omega
 rw [hwB] at HB H3
 clear hwB C3
 go_loopw [13] (fun i wr=>∃ k:Nat,k<=nl/\i=.int .i64 k/\Hid (Below w3.heap.size w3 wr)) (fun i _=>nl-(intOf i).toNat)
 case atStart=>exact ⟨0,Nat.zero_le _,rfl,Below.refl _ _⟩
 case round=>
  obtain ⟨k,hk,rfl,HQ⟩:=hrel
  have Bq:Below wB.heap.size wB wr:=H3.out.1.trans (HQ.out.mono H3.out.1.size)
  have Kq:=H3.out.2.below A HQ.out
  by_cases hkn:k < nl
  ·obtain ⟨z,hz⟩:∃ z,l[k]? = some z:=⟨_,List.getElem?_eq_getElem (by have:=HW.out.2.2.1;omega)⟩
   obtain ⟨bl,ol,ea,cw⟩:=word_at ((HW.out.1.below (by omega) Kq.bel)) hz
   subst ea
   have S2:=HB.out.2.1.kept (Fr.of_below Bq (fun _=>False)) (fun _ _ h=>h)
   obtain ⟨ga,ea,hx⟩:=S2.is_some (by omega)
   clear hx
   subst ea
   have ct:=word_out S2 hz
   have t3:=(c5_cells ((Bq.block _ (by omega)).trans HB.out.2.2.1)).2.2.2.1
   have hkn':(k:Int) < (nl:Int):=by omega
   have hzz:(z != z)=false:=by simp
   have lw:w1.heap.size < wr.heap.size:=by have:=Bq.size;omega
   have HX:=hid HQ.out
   clear S2 hz Kq Bq HQ
   go_wp2_with fail
   go_quiet (fail)
   go_wp2
   exact ⟨⟨k+1,by omega,by go_num,below_drewN HX.out _⟩,by simp [intOf];omega⟩
  ·have:k=nl:=by omega
   subst this
   have C4:=hid (ks_load A Kq 4 0)
   obtain ⟨e4,v4,he4,hv4⟩:∃ e4 v4,(K.load 4 0).2=e4/\(K.load 4 0).1=v4:=⟨_,_,rfl,rfl⟩
   obtain ⟨e5,he5⟩:∃ e5,(K.touch 4 0 2).2=e5:=⟨_,rfl⟩
   rw [he4,hv4] at C4
   have g1:=HV.out.2.2.2.2.2.2.1
   have g2:=HV.out.2.2.2.2.2.2.2.1
   have g3:=HV.out.2.2.2.2.2.2.2.2.1
   have g4:=HV.out.2.2.2.2.2.2.2.2.2.1
   rw [he4] at g1
   rw [he5] at g3
   have HX:=hid (And.intro Bq he5)
   clear Kq Bq HQ he4 he5 hv4
   go_wp2_with fail
   refine C4.out.mono ?_
   rintro e w4 ⟨rfl,B4,K4⟩
   have C5:=hid (ks_store A K4 4 0 3)
   rw [HX.out.2] at C5
   have LS:=hid (K4.lt A)
   have HB4:=hid B4
   clear B4 K4
   go_wp2_with fail
   refine C5.out.mono ?_
   rintro e w5 ⟨rfl,S5,K5,o5,F5⟩
   have n5:¬ S w2.heap.size:=fun hS=>by have:=HS.out.1 _ hS;have:=Z01.out;omega
   have y4:w2.heap.size < w4.heap.size:=by have:=HX.out.1.size;have:=HB4.out.size;omega
   have q4:=(HB4.out.block _ (by have:=HX.out.1.size;omega)).trans ((HX.out.1.block _ zB).trans HB.out.2.2.2)
   have q5:=(F5.block _ y4 n5).trans q4
   have m5:¬ S5 w2.heap.size:=fun hS=>by
    rcases o5 _ hS with g | g
    ·exact n5 g
    ·omega
   have y5:w2.heap.size < w5.heap.size:=by have:=F5.size;omega
   have HQ5:=hid (And.intro q5 (And.intro m5 y5))
   clear n5 y4 q4 q5 m5 y5 o5
   have C6:=hid (ks_ipc A K5 (by omega) (mtB b) ab cb (by show Inl w5 1 (.slice ab b.length cb) _;rw [HW.out.2.2.2.1];exact HW.out.2.1.below (by omega) K5.bel) (fun k hk hS=>by
    have hk2:inBlock (.slice ab b.length cb)=some k:=hk
    rw [HW.out.2.2.2.1] at hk2
    have:=HW.out.2.1.inltK (by omega) hk2
    have:=K5.new k hS
    omega))
   have E6:msV (mtB b) ab cb=.agg #[.int .i64 0,.slice ab nb cb,.int .i64 (-1),.int .i64 0,.int .i64 (-2),.int .i64 (-1),.int .i64 0]:=by
    show Value.agg #[.int .i64 0,.slice ab b.length cb,.int .i64 (-1),.int .i64 0,.int .i64 (-2),.int .i64 (-1),.int .i64 0]=_
    rw [HW.out.2.2.2.1]
   rw [E6,HW.out.2.2.2.2.2.1] at C6
   clear K5 F5 E6
   go_wp2_with fail
   refine C6.out.mono ?_
   rintro e w6 ⟨rfl,S6,K6,o6,F6⟩
   have q6:=(F6.block _ HQ5.out.2.2 HQ5.out.2.1).trans HQ5.out.1
   have y6:w2.heap.size < w6.heap.size:=by have:=F6.size;have:=HQ5.out.2.2;omega
   have C7:=hid (lookK_any A K6 0 v0 HW.out.2.2.2.2.2.2.1)
   rw [HV.out.2.1,HV.out.2.2.1,HV.out.2.2.2.1,HV.out.2.2.2.2.1,HW.out.2.2.2.1] at C7
   have m6:¬ S6 w2.heap.size:=fun hS=>by
    rcases o6 _ hS with g | g
    ·exact HQ5.out.2.1 g
    ·have:=HQ5.out.2.2;omega
   have HQ6:=hid (And.intro q6 (And.intro y6 m6))
   clear K6 F6 q6 y6 o6 m6
   go_wp2_with fail
   refine C7.out.mono ?_
   rintro e w7 ⟨a7,cc7,rfl,sl7,B7,N7,K7⟩
   have q7:=(B7.block _ HQ6.out.2.1).trans HQ6.out.1
   have y7:w2.heap.size < w7.heap.size:=by have:=B7.size;have:=HQ6.out.2.1;omega
   have q8:=setRow_heap w7 w2.heap.size _ (c5 1 v0.code 1 a7 nb cc7 (-1)) 50 (0,0) q7
   have F8:Fr (fun k=>k=w2.heap.size) w7 (w7.setRow w2.heap.size (c5 1 v0.code 1 a7 nb cc7 (-1))):=(Fr.refl (fun k=>k=w2.heap.size) _).setRow (fun _=>rfl) _
   have S8:=sl7.kept F8 (fun k hk e=>by have:=N7 k hk;have:=HQ6.out.2.1;omega)
   have K8:=K7.fr A F8 (fun k hk e=>HQ6.out.2.2 (e ▸ hk)) (fun k e=>by have:=HS.out.2;have:=Z01.out;omega)
   have HQ8:=hid (And.intro q8 (And.intro S8 (And.intro K8 y7)))
   obtain ⟨p0,p1,p2,p3,p4⟩:=c5_cells q8
   have hnb:((nb:Int) != (nb:Int))=false:=by simp
   clear F8 S8 K8 K7 sl7 B7 N7 C6 C5 C4 C7 y7
   go_wp2_with (with_reducible (show wpList _ _ _ (⟨_,.store 50 _ _,_,_,_,none⟩ :: _) _ _);go_must (refine wpList_store_row rfl 50 _ _ rfl w2.heap.size (c5 1 v0.code 1 a7 nb cc7 (-1)) (by simp [Act.eval]) rfl 50 _ q7 (by kernel_rfl) rfl (c5_one _ _ _ _ _ _ _) ?_))
   obtain ⟨w8,hw8⟩:∃ w8,w7.setRow w2.heap.size (c5 1 v0.code 1 a7 nb cc7 (-1))=w8:=⟨_,rfl⟩
   have z8:w8.heap.size=w7.heap.size:=by rw [<- hw8];simp [World.setRow]
   rw [hw8] at HQ8
   clear p0 p1 p2 p3 p4 r0 r1 r2 r3 r4
   rw [hw8]
   clear hw8
   go_loopw [17] (fun i wr=>∃ j:Nat,j<=nb/\i=.int .i64 j/\Hid (Below w8.heap.size w8 wr)) (fun i _=>nb-(intOf i).toNat)
   case atStart=>exact ⟨0,Nat.zero_le _,rfl,Below.refl _ _⟩
   case round=>
    obtain ⟨j,hj,rfl,HJ⟩:=hrel
    have Kj:=HQ8.out.2.2.1.below A HJ.out
    by_cases hjn:j < nb
    ·obtain ⟨z,hz⟩:∃ z,b[j]? = some z:=⟨_,List.getElem?_eq_getElem (by have:=HW.out.2.2.2.1;omega)⟩
     obtain ⟨bl,ol,ea,cw⟩:=word_at ((HW.out.2.1.below (by omega) Kj.bel)) hz
     subst ea
     have S2:=HQ8.out.2.1.kept (Fr.of_below HJ.out (fun _=>False)) (fun _ _ h=>h)
     obtain ⟨ga,ea,hx⟩:=S2.is_some (by omega)
     clear hx
     subst ea
     have ct:=word_out S2 hz
     have y8:=HQ8.out.2.2.2
     have t3:=(c5_cells ((HJ.out.block _ (by omega)).trans HQ8.out.1)).2.2.2.1
     have hjn':(j:Int) < (nb:Int):=by omega
     have hzz:(z != z)=false:=by simp
     have lw:w2.heap.size < wr.heap.size:=by have:=HJ.out.size;omega
     have HX:=hid HJ.out
     clear S2 hz Kj HJ y8
     go_wp2_with fail
     go_quiet (fail)
     go_wp2
     exact ⟨⟨j+1,by omega,by go_num,below_drewN HX.out _⟩,by simp [intOf];omega⟩
    ·have:j=nb:=by omega
     subst this
     have C9:=hid (ks_load A Kj 1 0)
     obtain ⟨v9,hv9⟩:∃ v9,(K2.load 1 0).1=v9:=⟨_,rfl⟩
     have g5:=HV.out.2.2.2.2.2.2.2.2.2.2.1
     rw [HV.out.2.2.2.2.2.2.2.2.2.2.2,hv9] at C9
     rw [hv9] at g5
     clear Kj hv9
     go_wp2_with fail
     refine C9.out.mono ?_
     rintro e w9 ⟨rfl,B9,K9⟩
     have C10:=hid (ks_current A K9)
     rw [HV.out.2.2.2.2.2.1] at C10
     clear B9 K9
     go_wp2_with (go_at_call 18;refine C10.out.mono ?_;rintro e w10 ⟨rfl,B10,K10⟩;have HK:=hid K10.bel;clear B10 K10)
     go_ret
     exact ⟨rfl,HK.out⟩
end
open Go.RowKit
theorem al2 (w:World) (o o':Obj):((w.alloc o).alloc o').heap[w.heap.size]? = some o:=(Below.heap_alloc _ _ _ (by simp)).trans (heap_alloc_new w o)
theorem al4 (w:World) (o o1 o2 o3:Obj):((((w.alloc o).alloc o1).alloc o2).alloc o3).heap[w.heap.size]? = some o/\((((w.alloc o).alloc o1).alloc o2).alloc o3).heap[w.heap.size+1]? = some o1/\((((w.alloc o).alloc o1).alloc o2).alloc o3).heap[w.heap.size+1+1]? = some o2/\((((w.alloc o).alloc o1).alloc o2).alloc o3).heap[w.heap.size+1+1+1]? = some o3/\w.heap.size+1+1+1 < ((((w.alloc o).alloc o1).alloc o2).alloc o3).heap.size:=by
 refine ⟨?_,?_,?_,?_,by simp⟩
 ·rw [Below.heap_alloc _ _ _ (by simp only [size_alloc];omega),Below.heap_alloc _ _ _ (by simp only [size_alloc];omega),Below.heap_alloc _ _ _ (by simp only [size_alloc];omega)];exact heap_alloc_new w o
 ·have:=heap_alloc_new (w.alloc o) o1
  rw [size_alloc] at this
  rw [Below.heap_alloc _ _ _ (by simp only [size_alloc];omega),Below.heap_alloc _ _ _ (by simp only [size_alloc];omega)];exact this
 ·have:=heap_alloc_new ((w.alloc o).alloc o1) o2
  rw [size_alloc,size_alloc] at this
  rw [Below.heap_alloc _ _ _ (by simp only [size_alloc];omega)];exact this
 ·have:=heap_alloc_new (((w.alloc o).alloc o1).alloc o2) o3
  rwa [size_alloc,size_alloc,size_alloc] at this
theorem Inl.take4 {w:World}{a:Option Addr}{n c k:Nat}{ws:List Int}(h:Inl w 1 (.slice a n c) (ws.map lnI)) (hl:ws.length=n) (hk:(ws.take 4).length=k):Inl w 1 (.slice a k c) ((ws.take 4).map lnI):=by
 have e:ws.take 4=ws.take k:=by
  rw [<- hk,List.length_take]
  by_cases h4:4<=ws.length
  ·rw [Nat.min_eq_left h4]
  ·rw [Nat.min_eq_right (by omega),List.take_of_length_le (by omega),List.take_length]
 rw [e]
 exact h.take k (by rw [<- hk,<- hl];simp;omega) hl
theorem al3 (w:World) (o o1 o2:Obj):(((w.alloc o).alloc o1).alloc o2).heap[w.heap.size+1]? = some o1:=by
 have:=al2 (w.alloc o) o1 o2
 rwa [size_alloc] at this
section
variable {Rep:World->Nat->(Nat->Prop)->RM->Prop}(A:ApM Rep)
include A in
theorem met_first (ws bs:List Int) (r0:Int) (a ab:Option Addr) (m cap mb cb:Nat) (w:World) (hg:Gl w) (h1:-9223372036854775808<=r0) (h2:r0<=9223372036854775807) (iW:Inl w 1 (.slice a m cap) (ws.map lnI)) (iB:Inl w 1 (.slice ab mb cb) (bs.map lnI)) (lW:ws.length=m) (lB:bs.length=mb) (cW:m<=cap) (cB:mb<=cb) :
  Calls Tryz.prog 8 #[.slice a m cap,.slice ab mb cb,.bool false,.int .i64 r0] w fun e w'=>e=.returned (.bool true)/\Below w.heap.size w w':=by
 have P1:=fun w=>pickK_any r0 3 w h1 h2 (by omega) (by omega)
 obtain ⟨r,hr0⟩:∃ r,1+pickI r0 3=r:=⟨_,rfl⟩
 have hr1:1<=r:=by have:=pickI_in r0 (n:=3) (by omega);omega
 have hr3:r<=3:=by have:=pickI_in r0 (n:=3) (by omega);omega
 have hr:r=1\/r=2\/r=3:=by have:=pickI_in r0 (n:=3) (by omega);omega
 have HW:=hid (And.intro iW (And.intro iB (And.intro lW (And.intro lB (And.intro cW (And.intro cB hr))))))
 have HP:=hid P1
 clear P1 h1 h2 iW iB lW lB cW cB hr
 go_enter Tryz.func8,Tryz.ntmps8
 go_wp2_with fail
 refine (two_any w).mono ?_
 rintro e w1 ⟨b1,b2,b3,rfl,i1,i2,i3,B1⟩
 have C2:=hid (boot_any A 2 _ _ _ _ _ _ _ _ _ twT twQ twL w1 (hg.below B1) i1 i2 i3 fits_tw 0)
 have HB1:=hid B1
 clear i1 i2 i3 B1 hg
 go_wp2_with fail
 refine C2.out.mono ?_
 rintro e w2 ⟨x,S2,rfl,K2,B2⟩
 have S3:=hid (short_any a m cap ws w2 ((HW.out.1.below (by omega) HB1.out).below (by omega) (B2.mono (HB1.out.size |> fun _=>Nat.le_refl _))) HW.out.2.2.1 HW.out.2.2.2.2.1)
 have HB2:=hid (And.intro B2 K2)
 clear B2 K2
 go_wp2_with fail
 refine S3.out.mono ?_
 rintro e w3 ⟨k,rfl,hk,lk,iK,hw⟩
 have hw:=hw.symm
 subst hw
 have HK:=hid (And.intro hk (And.intro lk iK))
 obtain ⟨l,hl⟩:∃ l,ws.take 4=l:=⟨_,rfl⟩
 have HL:=hid hl
 rw [hl] at HK
 have lk4:k<=4:=by have:=HK.out.2.1;rw [<- hl] at this;simp at this;omega
 clear hk lk iK S3 C2 hl
 go_wp2_with (first
  | (go_at_call 16;refine (HP.out _).mono ?_;rintro e w3 ⟨rfl,hw⟩;have hw:=hw.symm;subst hw)
  | (with_reducible (show wpList _ _ _ (⟨_,.store 43 (.tmp 12) _,_,_,_,none⟩ :: _) _ _);go_must (refine wpList_store_new rfl 43 _ _ rfl w2 _ #[.int .i64 3,.slice a k cap,.int .i64 1,.int .i64 r,.int .i64 1,.int .i64 (-1),.int .i64 (-1)] 43 (by simp [Act.eval]) rfl (by kernel_rfl) rfl (by simp [Value.oneCell']) ?_))
  | (with_reducible (show wpList _ _ _ (⟨_,.store 43 (.tmp 13) _,_,_,_,none⟩ :: _) _ _);go_must (refine wpList_store_new rfl 43 _ _ rfl (w2.alloc (.cells #[.int .i64 3,.slice a k cap,.int .i64 1,.int .i64 r,.int .i64 1,.int .i64 (-1),.int .i64 (-1)] 43)) _ #[.int .i64 (-1),.slice none 0 0,.int .i64 (-1),.int .i64 0,.int .i64 (-1),.int .i64 4,.int .i64 (-1)] 43 (by simp [Act.eval]) rfl (by kernel_rfl) rfl (by simp [Value.oneCell']) ?_))
  | (with_reducible (show wpList _ _ _ (⟨_,.load 43 (.tmp 12),_,_,_,none⟩ :: _) _ _);go_must (refine wpList_load_row rfl 43 _ rfl w2.heap.size (by simp [Act.eval,Act.put]) 43 #[.int .i64 3,.slice a k cap,.int .i64 1,.int .i64 r,.int .i64 1,.int .i64 (-1),.int .i64 (-1)] (0,0) _ (al2 _ _ _) Tryz.underlying43 rfl (by kernel_rfl) ?_))
  | (with_reducible (show wpList _ _ _ (⟨_,.load 43 (.tmp 13),_,_,_,none⟩ :: _) _ _);go_must (refine wpList_load_row rfl 43 _ rfl (w2.heap.size+1) (by simp [Act.eval,Act.put]) 43 #[.int .i64 (-1),.slice none 0 0,.int .i64 (-1),.int .i64 0,.int .i64 (-1),.int .i64 4,.int .i64 (-1)] (0,0) _ (al3 _ _ _ _) Tryz.underlying43 rfl (by kernel_rfl) ?_))
  | (with_reducible (show wpList _ _ _ (⟨_,.store 43 (.tmp 14) _,_,_,_,none⟩ :: _) _ _);go_must (refine wpList_store_new rfl 43 _ _ rfl ((w2.alloc (.cells #[.int .i64 3,.slice a k cap,.int .i64 1,.int .i64 r,.int .i64 1,.int .i64 (-1),.int .i64 (-1)] 43)).alloc (.cells #[.int .i64 (-1),.slice none 0 0,.int .i64 (-1),.int .i64 0,.int .i64 (-1),.int .i64 4,.int .i64 (-1)] 43)) _ #[.int .i64 3,.slice a k cap,.int .i64 1,.int .i64 r,.int .i64 1,.int .i64 (-1),.int .i64 (-1)] 43 (by simp [Act.eval]) rfl (by kernel_rfl) rfl (by simp [Value.oneCell']) ?_))
  | (with_reducible (show wpList _ _ _ (⟨_,.store 43 (.tmp 15) _,_,_,_,none⟩ :: _) _ _);go_must (refine wpList_store_new rfl 43 _ _ rfl (((w2.alloc (.cells #[.int .i64 3,.slice a k cap,.int .i64 1,.int .i64 r,.int .i64 1,.int .i64 (-1),.int .i64 (-1)] 43)).alloc (.cells #[.int .i64 (-1),.slice none 0 0,.int .i64 (-1),.int .i64 0,.int .i64 (-1),.int .i64 4,.int .i64 (-1)] 43)).alloc (.cells #[.int .i64 3,.slice a k cap,.int .i64 1,.int .i64 r,.int .i64 1,.int .i64 (-1),.int .i64 (-1)] 43)) _ #[.int .i64 (-1),.slice none 0 0,.int .i64 (-1),.int .i64 0,.int .i64 (-1),.int .i64 4,.int .i64 (-1)] 43 (by simp [Act.eval]) rfl (by kernel_rfl) rfl (by simp [Value.oneCell']) ?_)))
 have hbw:Below w2.heap.size w2 ((((w2.alloc (.cells #[.int .i64 3,.slice a k cap,.int .i64 1,.int .i64 r,.int .i64 1,.int .i64 (-1),.int .i64 (-1)] 43)).alloc (.cells #[.int .i64 (-1),.slice none 0 0,.int .i64 (-1),.int .i64 0,.int .i64 (-1),.int .i64 4,.int .i64 (-1)] 43)).alloc (.cells #[.int .i64 3,.slice a k cap,.int .i64 1,.int .i64 r,.int .i64 1,.int .i64 (-1),.int .i64 (-1)] 43)).alloc (.cells #[.int .i64 (-1),.slice none 0 0,.int .i64 (-1),.int .i64 0,.int .i64 (-1),.int .i64 4,.int .i64 (-1)] 43)):=((((Below.refl _ w2).alloc (Nat.le_refl _) _).alloc (by simp only [size_alloc];omega) _).alloc (by simp only [size_alloc];omega) _).alloc (by simp only [size_alloc];omega) _
 have hq:=al4 w2 (.cells #[.int .i64 3,.slice a k cap,.int .i64 1,.int .i64 r,.int .i64 1,.int .i64 (-1),.int .i64 (-1)] 43) (.cells #[.int .i64 (-1),.slice none 0 0,.int .i64 (-1),.int .i64 0,.int .i64 (-1),.int .i64 4,.int .i64 (-1)] 43) (.cells #[.int .i64 3,.slice a k cap,.int .i64 1,.int .i64 r,.int .i64 1,.int .i64 (-1),.int .i64 (-1)] 43) (.cells #[.int .i64 (-1),.slice none 0 0,.int .i64 (-1),.int .i64 0,.int .i64 (-1),.int .i64 4,.int .i64 (-1)] 43)
 obtain ⟨wx,hwx⟩:∃ wx,((((w2.alloc (.cells #[.int .i64 3,.slice a k cap,.int .i64 1,.int .i64 r,.int .i64 1,.int .i64 (-1),.int .i64 (-1)] 43)).alloc (.cells #[.int .i64 (-1),.slice none 0 0,.int .i64 (-1),.int .i64 0,.int .i64 (-1),.int .i64 4,.int .i64 (-1)] 43)).alloc (.cells #[.int .i64 3,.slice a k cap,.int .i64 1,.int .i64 r,.int .i64 1,.int .i64 (-1),.int .i64 (-1)] 43)).alloc (.cells #[.int .i64 (-1),.slice none 0 0,.int .i64 (-1),.int .i64 0,.int .i64 (-1),.int .i64 4,.int .i64 (-1)] 43))=wx:=⟨_,rfl⟩
 rw [hwx] at hbw hq
 rw [hwx]
 clear hwx
 have iK1:=(HW.out.1.below (by omega) HB1.out).take4 HW.out.2.2.1 (HL.out ▸ HK.out.2.1)
 rw [HL.out] at iK1
 have HX:=hid (And.intro hbw (And.intro hq iK1))
 have KX:=HB2.out.2.below A hbw
 have LX:=hid (HB2.out.2.lt A)
 have HT:=hid (show (RK.new 2 twT twQ twL).up=tw0 from rfl)
 rw [HT.out] at KX
 have EC:msV (mtC l r) a cap=.agg #[.int .i64 3,.slice a k cap,.int .i64 1,.int .i64 r,.int .i64 1,.int .i64 (-1),.int .i64 (-1)]:=by
  show Value.agg #[.int .i64 3,.slice a l.length cap,.int .i64 1,.int .i64 r,.int .i64 1,.int .i64 (-1),.int .i64 (-1)]=_
  rw [HK.out.2.1]
 have EW:msV mtW none 0=.agg #[.int .i64 (-1),.slice none 0 0,.int .i64 (-1),.int .i64 0,.int .i64 (-1),.int .i64 4,.int .i64 (-1)]:=rfl
 have HE:=hid (And.intro EC EW)
 clear hbw hq iK1 EC EW
 have C4:=hid (ks_current A KX)
 rw [show tw0.cur=0 by kernel_rfl] at C4
 clear KX
 refine C4.out.mono ?_
 rintro e w4 ⟨rfl,B4,K4⟩
 have C5:=hid (ks_ipc A K4 (by omega) (mtC l r) a cap (by show Inl w4 1 (.slice a l.length cap) _;rw [HK.out.2.1];exact HX.out.2.2.below (by omega) K4.bel) (fun i hk hS=>by have h1:inBlock (.slice a l.length cap)=some i:=hk;rw [HK.out.2.1] at h1;have:=HX.out.2.2.inltK (by omega) h1;have:=K4.new i hS;omega))
 rw [HE.out.1,mf_ipc1 (by have:=HK.out.2.1;omega) HW.out.2.2.2.2.2.2] at C5
 have zx:=HX.out.2.1.2.2.2.2
 have q14:=(B4.block _ (by omega)).trans HX.out.2.1.2.2.1
 have q15:=(B4.block _ zx).trans HX.out.2.1.2.2.2.1
 have z4:=B4.size
 have HQ4:=hid (And.intro q15 (Nat.lt_of_lt_of_le zx z4))
 clear K4 B4 q15 zx z4
 go_wp2_with (with_reducible (show wpList _ _ _ (⟨_,.load 43 (.tmp 14),_,_,_,none⟩ :: _) _ _);go_must (refine wpList_load_row rfl 43 _ rfl (w2.heap.size+1+1) (by simp [Act.eval]) 43 #[.int .i64 3,.slice a k cap,.int .i64 1,.int .i64 r,.int .i64 1,.int .i64 (-1),.int .i64 (-1)] (0,0) _ q14 Tryz.underlying43 rfl (by kernel_rfl) ?_))
 refine C5.out.mono ?_
 rintro e w5 ⟨rfl,S5,K5,o5,F5⟩
 have q15:=(F5.block _ HQ4.out.2 (fun hS=>by have:=LX.out _ hS;omega)).trans HQ4.out.1
 have HQ5:=hid (And.intro q15 (Nat.lt_of_lt_of_le HQ4.out.2 F5.size))
 have C6:=hid (ks_current A K5)
 rw [show (mf2 l r).cur=1 by kernel_rfl] at C6
 clear K5 o5 F5 q15 q14
 go_wp2_with fail
 refine C6.out.mono ?_
 rintro e w6 ⟨rfl,B6,K6⟩
 have q15:=(B6.block _ HQ5.out.2).trans HQ5.out.1
 have C7:=hid (ks_ipc A K6 (by omega) mtW none 0 (inl_nil w6) (fun k hk=>by simp [inBlock] at hk))
 rw [HE.out.2,mf_ipc2 HW.out.2.2.2.2.2.2] at C7
 clear K6 B6
 go_wp2_with (with_reducible (show wpList _ _ _ (⟨_,.load 43 (.tmp 15),_,_,_,none⟩ :: _) _ _);go_must (refine wpList_load_row rfl 43 _ rfl (w2.heap.size+1+1+1) (by simp [Act.eval]) 43 #[.int .i64 (-1),.slice none 0 0,.int .i64 (-1),.int .i64 0,.int .i64 (-1),.int .i64 4,.int .i64 (-1)] (0,0) _ q15 Tryz.underlying43 rfl (by kernel_rfl) ?_))
 refine C7.out.mono ?_
 rintro e w7 ⟨rfl,S7,K7,o7,F7⟩
 clear o7 F7 q15
 have S8:=hid (short_any ab mb cb bs w7 ((HW.out.2.1.below (by omega) HB1.out).below (by omega) K7.bel) HW.out.2.2.2.1 HW.out.2.2.2.2.2.1)
 have HK7:=hid K7
 clear K7
 go_wp2_with fail
 refine S8.out.mono ?_
 rintro e w8 ⟨k2,rfl,hk2,lk2,iK2,hw⟩
 have hw:=hw.symm
 subst hw
 have iK3:=(HW.out.2.1.below (by omega) HB1.out).take4 HW.out.2.2.2.1 lk2
 have C9:=hid (heard_any A HK7.out (by omega) l (bs.take 4) r (mf_heard HW.out.2.2.2.2.2.2) HW.out.2.2.2.2.2.2 a ab k cap k2 cb HX.out.2.2 iK3 HK.out.2.1 lk2 (by rw [<- lk2];simp;omega) lk4)
 clear iK3 iK2 lk2 hk2
 go_wp2_with fail
 refine C9.out.mono ?_
 rintro e w9 ⟨rfl,B9⟩
 have HB9:=hid B9
 clear B9
 go_wp2_with fail
 go_ret
 exact ⟨rfl,HB1.out.trans (HB9.out.mono HB1.out.size)⟩
include A in
theorem met_yield (ws bs:List Int) (r0:Int) (a ab:Option Addr) (m cap mb cb:Nat) (w:World) (hg:Gl w) (h1:-9223372036854775808<=r0) (h2:r0<=9223372036854775807) (iW:Inl w 1 (.slice a m cap) (ws.map lnI)) (iB:Inl w 1 (.slice ab mb cb) (bs.map lnI)) (lW:ws.length=m) (lB:bs.length=mb) (cW:m<=cap) (cB:mb<=cb) :
  Calls Tryz.prog 8 #[.slice a m cap,.slice ab mb cb,.bool true,.int .i64 r0] w fun e w'=>e=.returned (.bool true)/\Below w.heap.size w w':=by
 have P1:=fun w=>pickK_any r0 3 w h1 h2 (by omega) (by omega)
 obtain ⟨r,hr0⟩:∃ r,1+pickI r0 3=r:=⟨_,rfl⟩
 have hr1:1<=r:=by have:=pickI_in r0 (n:=3) (by omega);omega
 have hr3:r<=3:=by have:=pickI_in r0 (n:=3) (by omega);omega
 have hr:r=1\/r=2\/r=3:=by have:=pickI_in r0 (n:=3) (by omega);omega
 have HW:=hid (And.intro iW (And.intro iB (And.intro lW (And.intro lB (And.intro cW (And.intro cB hr))))))
 have HP:=hid P1
 clear P1 h1 h2 iW iB lW lB cW cB hr
 go_enter Tryz.func8,Tryz.ntmps8
 go_wp2_with fail
 refine (two_any w).mono ?_
 rintro e w1 ⟨b1,b2,b3,rfl,i1,i2,i3,B1⟩
 have C2:=hid (boot_any A 2 _ _ _ _ _ _ _ _ _ twT twQ twL w1 (hg.below B1) i1 i2 i3 fits_tw 0)
 have HB1:=hid B1
 clear i1 i2 i3 B1 hg
 go_wp2_with fail
 refine C2.out.mono ?_
 rintro e w2 ⟨x,S2,rfl,K2,B2⟩
 have S3:=hid (short_any a m cap ws w2 ((HW.out.1.below (by omega) HB1.out).below (by omega) (B2.mono (HB1.out.size |> fun _=>Nat.le_refl _))) HW.out.2.2.1 HW.out.2.2.2.2.1)
 have HB2:=hid (And.intro B2 K2)
 clear B2 K2
 go_wp2_with fail
 refine S3.out.mono ?_
 rintro e w3 ⟨k,rfl,hk,lk,iK,hw⟩
 have hw:=hw.symm
 subst hw
 have HK:=hid (And.intro hk (And.intro lk iK))
 obtain ⟨l,hl⟩:∃ l,ws.take 4=l:=⟨_,rfl⟩
 have HL:=hid hl
 rw [hl] at HK
 have lk4:k<=4:=by have:=HK.out.2.1;rw [<- hl] at this;simp at this;omega
 clear hk lk iK S3 C2 hl
 go_wp2_with (first
  | (go_at_call 16;refine (HP.out _).mono ?_;rintro e w3 ⟨rfl,hw⟩;have hw:=hw.symm;subst hw)
  | (with_reducible (show wpList _ _ _ (⟨_,.store 43 (.tmp 12) _,_,_,_,none⟩ :: _) _ _);go_must (refine wpList_store_new rfl 43 _ _ rfl w2 _ #[.int .i64 3,.slice a k cap,.int .i64 1,.int .i64 r,.int .i64 1,.int .i64 (-1),.int .i64 (-1)] 43 (by simp [Act.eval]) rfl (by kernel_rfl) rfl (by simp [Value.oneCell']) ?_))
  | (with_reducible (show wpList _ _ _ (⟨_,.store 43 (.tmp 13) _,_,_,_,none⟩ :: _) _ _);go_must (refine wpList_store_new rfl 43 _ _ rfl (w2.alloc (.cells #[.int .i64 3,.slice a k cap,.int .i64 1,.int .i64 r,.int .i64 1,.int .i64 (-1),.int .i64 (-1)] 43)) _ #[.int .i64 (-1),.slice none 0 0,.int .i64 (-1),.int .i64 0,.int .i64 (-1),.int .i64 4,.int .i64 (-1)] 43 (by simp [Act.eval]) rfl (by kernel_rfl) rfl (by simp [Value.oneCell']) ?_))
  | (with_reducible (show wpList _ _ _ (⟨_,.load 43 (.tmp 12),_,_,_,none⟩ :: _) _ _);go_must (refine wpList_load_row rfl 43 _ rfl w2.heap.size (by simp [Act.eval,Act.put]) 43 #[.int .i64 3,.slice a k cap,.int .i64 1,.int .i64 r,.int .i64 1,.int .i64 (-1),.int .i64 (-1)] (0,0) _ (al2 _ _ _) Tryz.underlying43 rfl (by kernel_rfl) ?_))
  | (with_reducible (show wpList _ _ _ (⟨_,.load 43 (.tmp 13),_,_,_,none⟩ :: _) _ _);go_must (refine wpList_load_row rfl 43 _ rfl (w2.heap.size+1) (by simp [Act.eval,Act.put]) 43 #[.int .i64 (-1),.slice none 0 0,.int .i64 (-1),.int .i64 0,.int .i64 (-1),.int .i64 4,.int .i64 (-1)] (0,0) _ (al3 _ _ _ _) Tryz.underlying43 rfl (by kernel_rfl) ?_))
  | (with_reducible (show wpList _ _ _ (⟨_,.store 43 (.tmp 14) _,_,_,_,none⟩ :: _) _ _);go_must (refine wpList_store_new rfl 43 _ _ rfl ((w2.alloc (.cells #[.int .i64 3,.slice a k cap,.int .i64 1,.int .i64 r,.int .i64 1,.int .i64 (-1),.int .i64 (-1)] 43)).alloc (.cells #[.int .i64 (-1),.slice none 0 0,.int .i64 (-1),.int .i64 0,.int .i64 (-1),.int .i64 4,.int .i64 (-1)] 43)) _ #[.int .i64 3,.slice a k cap,.int .i64 1,.int .i64 r,.int .i64 1,.int .i64 (-1),.int .i64 (-1)] 43 (by simp [Act.eval]) rfl (by kernel_rfl) rfl (by simp [Value.oneCell']) ?_))
  | (with_reducible (show wpList _ _ _ (⟨_,.store 43 (.tmp 15) _,_,_,_,none⟩ :: _) _ _);go_must (refine wpList_store_new rfl 43 _ _ rfl (((w2.alloc (.cells #[.int .i64 3,.slice a k cap,.int .i64 1,.int .i64 r,.int .i64 1,.int .i64 (-1),.int .i64 (-1)] 43)).alloc (.cells #[.int .i64 (-1),.slice none 0 0,.int .i64 (-1),.int .i64 0,.int .i64 (-1),.int .i64 4,.int .i64 (-1)] 43)).alloc (.cells #[.int .i64 3,.slice a k cap,.int .i64 1,.int .i64 r,.int .i64 1,.int .i64 (-1),.int .i64 (-1)] 43)) _ #[.int .i64 (-1),.slice none 0 0,.int .i64 (-1),.int .i64 0,.int .i64 (-1),.int .i64 4,.int .i64 (-1)] 43 (by simp [Act.eval]) rfl (by kernel_rfl) rfl (by simp [Value.oneCell']) ?_)))
 have hbw:Below w2.heap.size w2 ((((w2.alloc (.cells #[.int .i64 3,.slice a k cap,.int .i64 1,.int .i64 r,.int .i64 1,.int .i64 (-1),.int .i64 (-1)] 43)).alloc (.cells #[.int .i64 (-1),.slice none 0 0,.int .i64 (-1),.int .i64 0,.int .i64 (-1),.int .i64 4,.int .i64 (-1)] 43)).alloc (.cells #[.int .i64 3,.slice a k cap,.int .i64 1,.int .i64 r,.int .i64 1,.int .i64 (-1),.int .i64 (-1)] 43)).alloc (.cells #[.int .i64 (-1),.slice none 0 0,.int .i64 (-1),.int .i64 0,.int .i64 (-1),.int .i64 4,.int .i64 (-1)] 43)):=((((Below.refl _ w2).alloc (Nat.le_refl _) _).alloc (by simp only [size_alloc];omega) _).alloc (by simp only [size_alloc];omega) _).alloc (by simp only [size_alloc];omega) _
 have hq:=al4 w2 (.cells #[.int .i64 3,.slice a k cap,.int .i64 1,.int .i64 r,.int .i64 1,.int .i64 (-1),.int .i64 (-1)] 43) (.cells #[.int .i64 (-1),.slice none 0 0,.int .i64 (-1),.int .i64 0,.int .i64 (-1),.int .i64 4,.int .i64 (-1)] 43) (.cells #[.int .i64 3,.slice a k cap,.int .i64 1,.int .i64 r,.int .i64 1,.int .i64 (-1),.int .i64 (-1)] 43) (.cells #[.int .i64 (-1),.slice none 0 0,.int .i64 (-1),.int .i64 0,.int .i64 (-1),.int .i64 4,.int .i64 (-1)] 43)
 obtain ⟨wx,hwx⟩:∃ wx,((((w2.alloc (.cells #[.int .i64 3,.slice a k cap,.int .i64 1,.int .i64 r,.int .i64 1,.int .i64 (-1),.int .i64 (-1)] 43)).alloc (.cells #[.int .i64 (-1),.slice none 0 0,.int .i64 (-1),.int .i64 0,.int .i64 (-1),.int .i64 4,.int .i64 (-1)] 43)).alloc (.cells #[.int .i64 3,.slice a k cap,.int .i64 1,.int .i64 r,.int .i64 1,.int .i64 (-1),.int .i64 (-1)] 43)).alloc (.cells #[.int .i64 (-1),.slice none 0 0,.int .i64 (-1),.int .i64 0,.int .i64 (-1),.int .i64 4,.int .i64 (-1)] 43))=wx:=⟨_,rfl⟩
 rw [hwx] at hbw hq
 rw [hwx]
 clear hwx
 have iK1:=(HW.out.1.below (by omega) HB1.out).take4 HW.out.2.2.1 (HL.out ▸ HK.out.2.1)
 rw [HL.out] at iK1
 have HX:=hid (And.intro hbw (And.intro hq iK1))
 have KX:=HB2.out.2.below A hbw
 have LX:=hid (HB2.out.2.lt A)
 have HT:=hid (show (RK.new 2 twT twQ twL).up=tw0 from rfl)
 rw [HT.out] at KX
 have EC:msV (mtC l r) a cap=.agg #[.int .i64 3,.slice a k cap,.int .i64 1,.int .i64 r,.int .i64 1,.int .i64 (-1),.int .i64 (-1)]:=by
  show Value.agg #[.int .i64 3,.slice a l.length cap,.int .i64 1,.int .i64 r,.int .i64 1,.int .i64 (-1),.int .i64 (-1)]=_
  rw [HK.out.2.1]
 have EW:msV mtW none 0=.agg #[.int .i64 (-1),.slice none 0 0,.int .i64 (-1),.int .i64 0,.int .i64 (-1),.int .i64 4,.int .i64 (-1)]:=rfl
 have HE:=hid (And.intro EC EW)
 clear hbw hq iK1 EC EW
 have C4:=hid (ks_yield A KX (by omega))
 rw [show tw0.yield.1=0 by kernel_rfl,show tw0.yield.2=my0 by kernel_rfl] at C4
 clear KX
 refine C4.out.mono ?_
 rintro e w4 ⟨rfl,S4,K4,o4,F4⟩
 have zx:=HX.out.2.1.2.2.2.2
 have z4:(w2.heap.size+1+1+1) < w4.heap.size:=by have:=F4.size;omega
 have n4:∀ i,S4 i->i < w2.heap.size\/(w2.heap.size+1+1+1) < i:=fun i hi=>by
  rcases o4 i hi with g | g
  ·exact .inl (LX.out _ g)
  ·right;omega
 have p12:=(F4.block w2.heap.size (by omega) (fun hS=>by have:=LX.out _ hS;omega)).trans HX.out.2.1.1
 have p13:=(F4.block (w2.heap.size+1) (by omega) (fun hS=>by have:=LX.out _ hS;omega)).trans HX.out.2.1.2.1
 have p14:=(F4.block (w2.heap.size+1+1) (by omega) (fun hS=>by have:=LX.out _ hS;omega)).trans HX.out.2.1.2.2.1
 have p15:=(F4.block (w2.heap.size+1+1+1) (by omega) (fun hS=>by have:=LX.out _ hS;omega)).trans HX.out.2.1.2.2.2.1
 have s14:=setRow_heap w4 (w2.heap.size+1+1) _ #[.int .i64 (-1),.slice none 0 0,.int .i64 (-1),.int .i64 0,.int .i64 (-1),.int .i64 4,.int .i64 (-1)] 43 (0,0) p14
 have D1:Fr (fun k=>k=(w2.heap.size+1+1)) w4 (w4.setRow (w2.heap.size+1+1) #[.int .i64 (-1),.slice none 0 0,.int .i64 (-1),.int .i64 0,.int .i64 (-1),.int .i64 4,.int .i64 (-1)]):=(Fr.refl (fun k=>k=(w2.heap.size+1+1)) _).setRow (fun _=>rfl) _
 have r12:=(D1.block w2.heap.size (by omega) (by omega)).trans p12
 have r15:=(D1.block (w2.heap.size+1+1+1) (by omega) (by omega)).trans p15
 have s15:=setRow_heap (w4.setRow (w2.heap.size+1+1) #[.int .i64 (-1),.slice none 0 0,.int .i64 (-1),.int .i64 0,.int .i64 (-1),.int .i64 4,.int .i64 (-1)]) (w2.heap.size+1+1+1) _ #[.int .i64 3,.slice a k cap,.int .i64 1,.int .i64 r,.int .i64 1,.int .i64 (-1),.int .i64 (-1)] 43 (0,0) r15
 have D2:Fr (fun k=>k=(w2.heap.size+1+1+1)) (w4.setRow (w2.heap.size+1+1) #[.int .i64 (-1),.slice none 0 0,.int .i64 (-1),.int .i64 0,.int .i64 (-1),.int .i64 4,.int .i64 (-1)]) ((w4.setRow (w2.heap.size+1+1) #[.int .i64 (-1),.slice none 0 0,.int .i64 (-1),.int .i64 0,.int .i64 (-1),.int .i64 4,.int .i64 (-1)]).setRow (w2.heap.size+1+1+1) #[.int .i64 3,.slice a k cap,.int .i64 1,.int .i64 r,.int .i64 1,.int .i64 (-1),.int .i64 (-1)]):=(Fr.refl (fun k=>k=(w2.heap.size+1+1+1)) _).setRow (fun _=>rfl) _
 have zd:w4.heap.size<=(w4.setRow (w2.heap.size+1+1) #[.int .i64 (-1),.slice none 0 0,.int .i64 (-1),.int .i64 0,.int .i64 (-1),.int .i64 4,.int .i64 (-1)]).heap.size:=D1.size
 have s14':=(D2.block (w2.heap.size+1+1) (by omega) (by omega)).trans s14
 have K4':=(K4.fr A D1 (fun i hi e=>by have:=n4 i hi;omega) (fun i e=>by have:=HB2.out.1.size;omega)).fr A D2 (fun i hi e=>by have:=n4 i hi;omega) (fun i e=>by have:=HB2.out.1.size;omega)
 have zz:w4.heap.size<=((w4.setRow (w2.heap.size+1+1) #[.int .i64 (-1),.slice none 0 0,.int .i64 (-1),.int .i64 0,.int .i64 (-1),.int .i64 4,.int .i64 (-1)]).setRow (w2.heap.size+1+1+1) #[.int .i64 3,.slice a k cap,.int .i64 1,.int .i64 r,.int .i64 1,.int .i64 (-1),.int .i64 (-1)]).heap.size:=Nat.le_trans zd D2.size
 have HY:=hid (And.intro K4' (And.intro s14' (And.intro s15 (And.intro (Nat.lt_of_lt_of_le z4 zz) n4))))
 clear K4 K4' s14 s14' s15 D1 D2 zd zz F4 o4 n4 zx z4
 go_wp2_with (first
  | (with_reducible (show wpList _ _ _ (⟨_,.load 43 (.tmp 13),_,_,_,none⟩ :: _) _ _);go_must (refine wpList_load_row rfl 43 _ rfl (w2.heap.size+1) (by simp [Act.eval]) 43 #[.int .i64 (-1),.slice none 0 0,.int .i64 (-1),.int .i64 0,.int .i64 (-1),.int .i64 4,.int .i64 (-1)] (0,0) _ p13 Tryz.underlying43 rfl (by kernel_rfl) ?_))
  | (with_reducible (show wpList _ _ _ (⟨_,.store 43 (.tmp 14) _,_,_,_,none⟩ :: _) _ _);go_must (refine wpList_store_row rfl 43 _ _ rfl (w2.heap.size+1+1) #[.int .i64 (-1),.slice none 0 0,.int .i64 (-1),.int .i64 0,.int .i64 (-1),.int .i64 4,.int .i64 (-1)] (by simp [Act.eval,Act.put]) rfl 43 _ p14 (by kernel_rfl) rfl (by simp [Value.oneCell']) ?_))
  | (with_reducible (show wpList _ _ _ (⟨_,.load 43 (.tmp 12),_,_,_,none⟩ :: _) _ _);go_must (refine wpList_load_row rfl 43 _ rfl w2.heap.size (by simp [Act.eval,Act.put]) 43 #[.int .i64 3,.slice a k cap,.int .i64 1,.int .i64 r,.int .i64 1,.int .i64 (-1),.int .i64 (-1)] (0,0) _ r12 Tryz.underlying43 rfl (by kernel_rfl) ?_))
  | (with_reducible (show wpList _ _ _ (⟨_,.store 43 (.tmp 15) _,_,_,_,none⟩ :: _) _ _);go_must (refine wpList_store_row rfl 43 _ _ rfl (w2.heap.size+1+1+1) #[.int .i64 3,.slice a k cap,.int .i64 1,.int .i64 r,.int .i64 1,.int .i64 (-1),.int .i64 (-1)] (by simp [Act.eval,Act.put]) rfl 43 _ r15 (by kernel_rfl) rfl (by simp [Value.oneCell']) ?_)))
 clear p12 p13 p14 p15 r12 r15
 obtain ⟨wy,hwy⟩:∃ wy,(w4.setRow (w2.heap.size+1+1) #[.int .i64 (-1),.slice none 0 0,.int .i64 (-1),.int .i64 0,.int .i64 (-1),.int .i64 4,.int .i64 (-1)]).setRow (w2.heap.size+1+1+1) #[.int .i64 3,.slice a k cap,.int .i64 1,.int .i64 r,.int .i64 1,.int .i64 (-1),.int .i64 (-1)]=wy:=⟨_,rfl⟩
 rw [hwy] at HY
 rw [hwy]
 clear hwy
 have C4:=hid (ks_current A HY.out.1)
 rw [show my0.cur=1 by kernel_rfl] at C4
 refine C4.out.mono ?_
 rintro e w4 ⟨rfl,B4,K4⟩
 have C5:=hid (ks_ipc A K4 (by omega) mtW none 0 (inl_nil w4) (fun k hk=>by simp [inBlock] at hk))
 rw [HE.out.2,my_ipc1] at C5
 have q14:=(B4.block _ (by have:=HY.out.2.2.2.1;omega)).trans HY.out.2.1
 have q15:=(B4.block _ HY.out.2.2.2.1).trans HY.out.2.2.1
 have z4:=B4.size
 have HQ4:=hid (And.intro q15 (Nat.lt_of_lt_of_le HY.out.2.2.2.1 z4))
 clear K4 B4 q15 z4
 go_wp2_with (with_reducible (show wpList _ _ _ (⟨_,.load 43 (.tmp 14),_,_,_,none⟩ :: _) _ _);go_must (refine wpList_load_row rfl 43 _ rfl (w2.heap.size+1+1) (by simp [Act.eval]) 43 #[.int .i64 (-1),.slice none 0 0,.int .i64 (-1),.int .i64 0,.int .i64 (-1),.int .i64 4,.int .i64 (-1)] (0,0) _ q14 Tryz.underlying43 rfl (by kernel_rfl) ?_))
 refine C5.out.mono ?_
 rintro e w5 ⟨rfl,S5,K5,o5,F5⟩
 have q15:=(F5.block _ HQ4.out.2 (fun hS=>by have:=HY.out.2.2.2.2 _ hS;omega)).trans HQ4.out.1
 have HQ5:=hid (And.intro q15 (Nat.lt_of_lt_of_le HQ4.out.2 F5.size))
 have C6:=hid (ks_current A K5)
 rw [show my1.cur=0 by kernel_rfl] at C6
 clear K5 o5 F5 q15 q14
 go_wp2_with fail
 refine C6.out.mono ?_
 rintro e w6 ⟨rfl,B6,K6⟩
 have q15:=(B6.block _ HQ5.out.2).trans HQ5.out.1
 have C7:=hid (ks_ipc A K6 (by omega) (mtC l r) a cap (by show Inl w6 1 (.slice a l.length cap) _;rw [HK.out.2.1];exact HX.out.2.2.below (by omega) K6.bel) (fun i hk hS=>by have h1:inBlock (.slice a l.length cap)=some i:=hk;rw [HK.out.2.1] at h1;have:=HX.out.2.2.inltK (by omega) h1;have:=K6.new i hS;omega))
 rw [HE.out.1,my_ipc2 (by have:=HK.out.2.1;omega) HW.out.2.2.2.2.2.2] at C7
 clear K6 B6
 go_wp2_with (with_reducible (show wpList _ _ _ (⟨_,.load 43 (.tmp 15),_,_,_,none⟩ :: _) _ _);go_must (refine wpList_load_row rfl 43 _ rfl (w2.heap.size+1+1+1) (by simp [Act.eval]) 43 #[.int .i64 3,.slice a k cap,.int .i64 1,.int .i64 r,.int .i64 1,.int .i64 (-1),.int .i64 (-1)] (0,0) _ q15 Tryz.underlying43 rfl (by kernel_rfl) ?_))
 refine C7.out.mono ?_
 rintro e w7 ⟨rfl,S7,K7,o7,F7⟩
 clear o7 F7 q15
 have S8:=hid (short_any ab mb cb bs w7 ((HW.out.2.1.below (by omega) HB1.out).below (by omega) K7.bel) HW.out.2.2.2.1 HW.out.2.2.2.2.2.1)
 have HK7:=hid K7
 clear K7
 go_wp2_with fail
 refine S8.out.mono ?_
 rintro e w8 ⟨k2,rfl,hk2,lk2,iK2,hw⟩
 have hw:=hw.symm
 subst hw
 have iK3:=(HW.out.2.1.below (by omega) HB1.out).take4 HW.out.2.2.2.1 lk2
 have C9:=hid (heard_any A HK7.out (by omega) l (bs.take 4) r (my_heard HW.out.2.2.2.2.2.2) HW.out.2.2.2.2.2.2 a ab k cap k2 cb HX.out.2.2 iK3 HK.out.2.1 lk2 (by rw [<- lk2];simp;omega) lk4)
 clear iK3 iK2 lk2 hk2
 go_wp2_with fail
 refine C9.out.mono ?_
 rintro e w9 ⟨rfl,B9⟩
 have HB9:=hid B9
 clear B9
 go_wp2_with fail
 go_ret
 exact ⟨rfl,HB1.out.trans (HB9.out.mono HB1.out.size)⟩
end
open Go.RowKit
structure CfgAt (W w:World) (cb:Nat) (sp:Int) (T:List (Int×Int)) (Q L:List (Int×Int×Int×Int)) (vT vP vL:Value):Prop where
 blk:w.heap[cb]? = some (.cells #[.int .i64 sp,vT,vP,vL] 32 (0,0))
 new:W.heap.size<=cb
 sT:Sl w 34 2 vT (T.map tRow)
 sP:Sl w 55 4 vP (Q.map qRow)
 sL:Sl w 67 4 vL (L.map qRow)
 nT:∀ k,vT.ownBlock=some k->W.heap.size<=k/\k≠cb
 nP:∀ k,vP.ownBlock=some k->W.heap.size<=k/\k≠cb
 nL:∀ k,vL.ownBlock=some k->W.heap.size<=k/\k≠cb
 TP:∀ k,vT.ownBlock=some k->vP.ownBlock≠some k
 TL:∀ k,vT.ownBlock=some k->vL.ownBlock≠some k
 PL:∀ k,vP.ownBlock=some k->vL.ownBlock≠some k
 bel:Below W.heap.size W w
def CfgOwn (cb:Nat) (vT vP vL:Value) (k:Nat):Prop:=k=cb\/vT.ownBlock=some k\/vP.ownBlock=some k\/vL.ownBlock=some k
section
variable {W w w1 w2:World}{cb:Nat}{sp:Int}{T:List (Int×Int)}{Q L:List (Int×Int×Int×Int)}{vT vP vL:Value}
theorem CfgAt.lt (h:CfgAt W w cb sp T Q L vT vP vL):cb < w.heap.size:=(Array.getElem?_eq_some_iff.1 h.blk).1
theorem CfgAt.kept (h:CfgAt W w cb sp T Q L vT vP vL){S:Nat->Prop}(hf:Fr S w w1) (hs:∀ k,CfgOwn cb vT vP vL k->¬ S k) (h0:∀ k,S k->W.heap.size<=k):CfgAt W w1 cb sp T Q L vT vP vL:=
 ⟨(hf.block cb h.lt (hs cb (.inl rfl))).trans h.blk,h.new,h.sT.kept hf (fun k hk=>hs k (.inr (.inl hk))),h.sP.kept hf (fun k hk=>hs k (.inr (.inr (.inl hk)))),h.sL.kept hf (fun k hk=>hs k (.inr (.inr (.inr hk)))),h.nT,h.nP,h.nL,h.TP,h.TL,h.PL,h.bel.trans (hf.to_below h.bel.size h0)⟩
theorem CfgAt.below (h:CfgAt W w cb sp T Q L vT vP vL) (hb:Below w.heap.size w w1):CfgAt W w1 cb sp T Q L vT vP vL:=h.kept (Fr.of_below hb (fun _=>False)) (fun _ _ e=>e) (fun _ e=>e.elim)
theorem CfgAt.cell (h:CfgAt W w cb sp T Q L vT vP vL) (j:Nat):w.cell? ⟨cb,j,none⟩=(#[.int .i64 sp,vT,vP,vL]:Array Value)[j]?:=cell_of_row w cb j _ _ _ h.blk
theorem CfgAt.addT (h:CfgAt W w cb sp T Q L vT vP vL) (hw:Fr (fun _=>False) w w1){v':Value}{p:Int×Int}(G:Grew 34 2 vT w1 v' (T.map tRow ++ [tRow p]) w2) :
  w2.cell? ⟨cb,1,none⟩=some vT/\w2.frozen? ⟨cb,1,none⟩=false/\CfgAt W (w2.setCell ⟨cb,1,none⟩ v') cb sp (T ++ [p]) Q L v' vP vL:=by
 have h1:=h.kept hw (fun _ _ e=>e) (fun _ e=>e.elim)
 have F2:Fr (fun k=>vT.ownBlock=some k) w1 w2:=G.fr (Fr.refl _ w1) (fun k hk _=>hk)
 have b2:w2.heap[cb]? = some (.cells #[.int .i64 sp,vT,vP,vL] 32 (0,0)):=(F2.block cb h1.lt (fun e=>(h.nT cb e).2 rfl)).trans h1.blk
 have F3:Fr (fun k=>k=cb) w2 (w2.setCell ⟨cb,1,none⟩ v'):=(Fr.refl (fun k=>k=cb) w2).setCell (p:=⟨cb,1,none⟩) (fun _=>rfl) _
 have nv:∀ k,v'.ownBlock=some k->w1.heap.size<=k\/vT.ownBlock=some k:=G.at_
 have lw:=h1.bel.size
 have nn:∀ k,v'.ownBlock=some k->W.heap.size<=k/\k≠cb:=fun k hk=>by
  rcases nv k hk with e | e
  ·have:=h1.lt;omega
  ·exact h.nT k e
 have F:=F2.join F3
 exact ⟨(cell_of_row w2 cb 1 _ _ _ b2).trans rfl,frozen_of_row _ _ _ _ _ b2,⟨heap_setCell_same w2 cb 1 _ 32 v' b2,h.new,by rw [List.map_append];exact G.sl.kept F3 (fun k hk e=>(nn k hk).2 e),h1.sP.kept F (fun k hk e=>by rcases e with e | e;exact h.TP k e hk;exact (h.nP k hk).2 e),h1.sL.kept F (fun k hk e=>by rcases e with e | e;exact h.TL k e hk;exact (h.nL k hk).2 e),nn,h.nP,h.nL,fun k hk e=>by rcases nv k hk with g | g;(have:=h1.sP.lt e;omega);exact h.TP k g e,fun k hk e=>by rcases nv k hk with g | g;(have:=h1.sL.lt e;omega);exact h.TL k g e,h.PL,h1.bel.trans (F.to_below lw (fun k e=>by rcases e with e | e;exact (h.nT k e).1;(have:=h.new;omega)))⟩⟩
theorem CfgAt.addP (h:CfgAt W w cb sp T Q L vT vP vL) (hw:Fr (fun _=>False) w w1){v':Value}{p:Int×Int×Int×Int}(G:Grew 55 4 vP w1 v' (Q.map qRow ++ [qRow p]) w2) :
  w2.cell? ⟨cb,2,none⟩=some vP/\w2.frozen? ⟨cb,2,none⟩=false/\CfgAt W (w2.setCell ⟨cb,2,none⟩ v') cb sp T (Q ++ [p]) L vT v' vL:=by
 have h1:=h.kept hw (fun _ _ e=>e) (fun _ e=>e.elim)
 have F2:Fr (fun k=>vP.ownBlock=some k) w1 w2:=G.fr (Fr.refl _ w1) (fun k hk _=>hk)
 have b2:w2.heap[cb]? = some (.cells #[.int .i64 sp,vT,vP,vL] 32 (0,0)):=(F2.block cb h1.lt (fun e=>(h.nP cb e).2 rfl)).trans h1.blk
 have F3:Fr (fun k=>k=cb) w2 (w2.setCell ⟨cb,2,none⟩ v'):=(Fr.refl (fun k=>k=cb) w2).setCell (p:=⟨cb,2,none⟩) (fun _=>rfl) _
 have nv:∀ k,v'.ownBlock=some k->w1.heap.size<=k\/vP.ownBlock=some k:=G.at_
 have lw:=h1.bel.size
 have nn:∀ k,v'.ownBlock=some k->W.heap.size<=k/\k≠cb:=fun k hk=>by
  rcases nv k hk with e | e
  ·have:=h1.lt;omega
  ·exact h.nP k e
 have F:=F2.join F3
 exact ⟨(cell_of_row w2 cb 2 _ _ _ b2).trans rfl,frozen_of_row _ _ _ _ _ b2,⟨heap_setCell_same w2 cb 2 _ 32 v' b2,h.new,h1.sT.kept F (fun k hk e=>by rcases e with e | e;exact h.TP k hk e;exact (h.nT k hk).2 e),by rw [List.map_append];exact G.sl.kept F3 (fun k hk e=>(nn k hk).2 e),h1.sL.kept F (fun k hk e=>by rcases e with e | e;exact h.PL k e hk;exact (h.nL k hk).2 e),h.nT,nn,h.nL,fun k hk e=>by rcases nv k e with g | g;(have:=h1.sT.lt hk;omega);exact h.TP k hk g,h.TL,fun k hk e=>by rcases nv k hk with g | g;(have:=h1.sL.lt e;omega);exact h.PL k g e,h1.bel.trans (F.to_below lw (fun k e=>by rcases e with e | e;exact (h.nP k e).1;(have:=h.new;omega)))⟩⟩
theorem CfgAt.addL (h:CfgAt W w cb sp T Q L vT vP vL) (hw:Fr (fun _=>False) w w1){v':Value}{p:Int×Int×Int×Int}(G:Grew 67 4 vL w1 v' (L.map qRow ++ [qRow p]) w2) :
  w2.cell? ⟨cb,3,none⟩=some vL/\w2.frozen? ⟨cb,3,none⟩=false/\CfgAt W (w2.setCell ⟨cb,3,none⟩ v') cb sp T Q (L ++ [p]) vT vP v':=by
 have h1:=h.kept hw (fun _ _ e=>e) (fun _ e=>e.elim)
 have F2:Fr (fun k=>vL.ownBlock=some k) w1 w2:=G.fr (Fr.refl _ w1) (fun k hk _=>hk)
 have b2:w2.heap[cb]? = some (.cells #[.int .i64 sp,vT,vP,vL] 32 (0,0)):=(F2.block cb h1.lt (fun e=>(h.nL cb e).2 rfl)).trans h1.blk
 have F3:Fr (fun k=>k=cb) w2 (w2.setCell ⟨cb,3,none⟩ v'):=(Fr.refl (fun k=>k=cb) w2).setCell (p:=⟨cb,3,none⟩) (fun _=>rfl) _
 have nv:∀ k,v'.ownBlock=some k->w1.heap.size<=k\/vL.ownBlock=some k:=G.at_
 have lw:=h1.bel.size
 have nn:∀ k,v'.ownBlock=some k->W.heap.size<=k/\k≠cb:=fun k hk=>by
  rcases nv k hk with e | e
  ·have:=h1.lt;omega
  ·exact h.nL k e
 have F:=F2.join F3
 exact ⟨(cell_of_row w2 cb 3 _ _ _ b2).trans rfl,frozen_of_row _ _ _ _ _ b2,⟨heap_setCell_same w2 cb 3 _ 32 v' b2,h.new,h1.sT.kept F (fun k hk e=>by rcases e with e | e;exact h.TL k hk e;exact (h.nT k hk).2 e),h1.sP.kept F (fun k hk e=>by rcases e with e | e;exact h.PL k hk e;exact (h.nP k hk).2 e),by rw [List.map_append];exact G.sl.kept F3 (fun k hk e=>(nn k hk).2 e),h.nT,h.nP,nn,h.TP,fun k hk e=>by rcases nv k e with g | g;(have:=h1.sT.lt hk;omega);exact h.TL k hk g,fun k hk e=>by rcases nv k e with g | g;(have:=h1.sP.lt hk;omega);exact h.PL k hk g,h1.bel.trans (F.to_below lw (fun k e=>by rcases e with e | e;exact (h.nL k e).1;(have:=h.new;omega)))⟩⟩
end
theorem inl_row {w:World}{size:Nat}(r:List Value) (t:TypeId) (hs:r.length=size) (h1:∀ u∈r,u.oneCell'=true):Inl (w.alloc (.cells r.toArray t)) size (.slice (some ⟨w.heap.size,0,none⟩) 1 1) [r]:=
 inl_lit (heap_alloc_new w _) (by simp) rfl (by intro q hq;rw [List.mem_singleton] at hq;rw [hq];exact hs) (by intro q hq;rw [List.mem_singleton] at hq;rw [hq];exact h1) (by decide)
theorem cfg_first {W:World}{w:World}(sp:Int) (hb:Below W.heap.size W w):CfgAt W (w.alloc (.cells #[.int .i64 sp,.slice none 0 0,.slice none 0 0,.slice none 0 0] 32)) w.heap.size sp [] [] [] (.slice none 0 0) (.slice none 0 0) (.slice none 0 0):=
 have n0:∀ k,Value.ownBlock (.slice none 0 0)=some k->False:=fun k h=>by simp [Value.ownBlock] at h
 ⟨heap_alloc_new w _,hb.size,Sl.nil _ _ _,Sl.nil _ _ _,Sl.nil _ _ _,fun k h=>(n0 k h).elim,fun k h=>(n0 k h).elim,fun k h=>(n0 k h).elim,fun k h=>(n0 k h).elim,fun k h=>(n0 k h).elim,fun k h=>(n0 k h).elim,hb.alloc hb.size _⟩
end Go.Proofs.YteejjgbeknnmeaaGreatDoor
