import Derived.Test.YteejjgbeknnmeaaGreatDoorJ25
import Derived.Test.YteejjgbeknnmeaaGreatDoorJ27
import Derived.Test.YteejjgbeknnmeaaGreatDoorJ03
import Derived.Test.YteejjgbeknnmeaaGreatDoorJ22
set_option maxRecDepth 100000
set_option maxHeartbeats 20000000
namespace Go.Proofs.YteejjgbeknnmeaaGreatDoor
open Go.RowKit
section
variable (IM:MsgOk) (B:Bk) (S:Nat->Prop) (K:RM) (n:Nat) (m:Ms) (sa:Option Addr) (sc:Nat) (w:World)
include IM in
theorem mIpc_any (h:KR w B S K) (ok:K.Ok n) (hI:Inl w 1 (.slice sa m.words.length sc) (m.words.map lnI)) (hN:∀ k,inBlock (.slice sa m.words.length sc)=some k->¬ S k) :
  Calls Tryz.prog 47 #[.pointer (some ⟨B.x,0,none⟩),.agg (mC m sa sc)] w fun e w'=>∃ cd,cd=(K.ipc m).1/\((cd=0/\e=.returned .nilIface)\/(∃ st,e=.returned (.iface 166 (.agg #[.string st,.iface 160 (.agg #[.int .i64 cd])]))/\Below w.heap.size w w'))/\KLeft B S none_ (K.ipc m).2 w w':=by
 by_cases hc:K.cur < 0
 ·have E:K.ipc m=(2,K):=by unfold RM.ipc;rw [if_pos hc]
  refine (mIpc_no B S K n m sa sc w h ok hc).mono ?_
  rintro e w' (⟨h0,_⟩ | ⟨st,rfl,b⟩)
  ·omega
  ·rw [E];exact ⟨2,rfl,.inr ⟨st,rfl,b⟩,h.left b⟩
 ·obtain ⟨t,u,hc',hu,s1⟩:=K.cur_in hc
  have hk:=h
  obtain ⟨M,hr,R⟩:=h
  obtain ⟨p,hp,_⟩:=R.get hu
  cases hm:isMs K.threads.length m with
  | false=>
   have E:K.ipc m=(3,K):=by unfold RM.ipc;rw [if_neg hc,if_pos hm]
   refine (mIpc_arg IM B S M K n t m sa sc w hr R ok hc' hm).mono ?_
   rintro e w' (⟨h0,_⟩ | ⟨st,rfl,b⟩)
   ·omega
   ·rw [E];exact ⟨3,rfl,.inr ⟨st,rfl,b⟩,hk.left b⟩
  | true=>
   have mi:=isMs_in hm
   by_cases hd:m.dst < 0
   ·refine (mIpc_recv IM B S M K n t u p m sa sc w hr R ok hc' hu s1 hp hm (by omega)).mono ?_
    rintro e w' ⟨rfl,L⟩
    exact ⟨0,by rw [ipc_recv hc' hm hd],.inl ⟨rfl,rfl⟩,L⟩
   ·refine (mIpc_send IM B S M K n t u p m sa sc w hr R ok hc' hu s1 hp hm (by omega) hI hN).mono ?_
    rintro e w' ⟨rfl,e0,L⟩
    exact ⟨0,e0.symm,.inl ⟨rfl,rfl⟩,L⟩
include IM in
theorem fIpc_any (hg:Gl w) (h:KR w B S K) (ok:K.Ok n) (hI:Inl w 1 (.slice sa m.words.length sc) (m.words.map lnI)) (hN:∀ k,inBlock (.slice sa m.words.length sc)=some k->¬ S k) :
  Calls Tryz.prog 23 #[.pointer (some ⟨B.x,0,none⟩),msV m sa sc] w fun e w'=>e=.returned (.int .i64 (K.ipc m).1)/\KLeft B S none_ (K.ipc m).2 w w':=by
 have hb:Below w.heap.size w (w.alloc (.cells (mC m sa sc) 43)).drew:=((Below.refl _ w).alloc (Nat.le_refl _) _).drew
 have HC:=hid (mIpc_any IM B S K n m sa sc _ (h.below hb) ok (hI.kept (by omega) (Fr.of_below hb (fun _=>False)) (fun _ _ h=>h)) hN)
 have HG:=hid (And.intro (hg.below hb) (Fr.of_below hb S))
 have lx:B.x < w.heap.size:=by obtain ⟨M,⟨cs,rv,sl,hq,_⟩,_⟩:=h;exact hq.lx
 show Calls Tryz.prog 23 #[.pointer (some ⟨B.x,0,none⟩),.agg (mC m sa sc)] w _
 clear h ok hg hI hN hb
 have HD:Hid (Calls Tryz.prog 47 #[.pointer (some ⟨B.x,0,none⟩),.agg (mC m sa sc)] (w.alloc (.cells (mC m sa sc) 43)).drew fun e w2=>∃ v,e=.returned v/\Hid (Calls Tryz.prog 45 #[v] w2 fun e w3=>e=.returned (.int .i64 (K.ipc m).1)/\Below w2.heap.size w2 w3)/\Hid (KLeft B S none_ (K.ipc m).2 (w.alloc (.cells (mC m sa sc) 43)).drew w2)):=by
  refine HC.out.mono ?_
  rintro e w2 ⟨cd,ec,⟨e0,rfl⟩ | ⟨st,rfl,b⟩,L⟩
  ·refine ⟨_,rfl,?_,L⟩
   show Calls _ _ _ _ _
   rw [<- ec,e0];exact number_nil w2
  ·refine ⟨_,rfl,?_,L⟩
   show Calls _ _ _ _ _
   rw [<- ec];exact number_met1 st cd w2 (HG.out.1.below b)
 clear HC
 generalize (K.ipc m).1=cd0 at *
 generalize (K.ipc m).2=K2 at *
 go_enter Tryz.func23,Tryz.ntmps23
 go_wp2
 go_region_with (first
  | (go_at_call 47;refine HD.out.mono ?_;rintro e w2 ⟨v,rfl,N2,L2⟩)
  | (go_at_call 45;refine N2.out.mono ?_;rintro e w3 ⟨rfl,H3⟩;replace H3:=hid H3))
 all_goals
  try go_wp2
  go_ret
  exact ⟨rfl,KLeft.from HG.out.2 (L2.out.after H3.out)⟩
end
def ProgRep (w:World) (x:Nat) (S:Nat->Prop) (K:RM):Prop:=∃ B:Bk,B.x=x/\KR w B S K
theorem KLeft.left {B:Bk}{S:Nat->Prop}{K:RM}{w w':World}(h:KLeft B S none_ K w w'):Left ProgRep B.x S K w w':=by
 obtain ⟨M,⟨⟨S',h1,h2⟩,h3⟩,R⟩:=h
 exact ⟨⟨S',⟨B,rfl,M,h1,R⟩,h2⟩,h3⟩
theorem KR.ltS {w:World}{B:Bk}{S:Nat->Prop}{K:RM}(h:KR w B S K):∀ b,S b->b < w.heap.size:=by
 obtain ⟨M,h,_⟩:=h
 exact fun b hb=>h.ltS hb
theorem KR.kept {w w':World}{B:Bk}{S T:Nat->Prop}{K:RM}(h:KR w B S K) (hf:Fr T w w') (hn:∀ b,S b->¬ T b):KR w' B S K:=by
 obtain ⟨M,h,R⟩:=h
 exact ⟨M,h.kept hf hn,R⟩
open Go.RowKit
theorem MAt.move {w w':World}{x x':Nat}{cs:Array Value}{cl:Int×(Nat->Int)}{ts:List (Int×Int×Int×Int)}{n:Nat}{Q L:List (Int×Int×Int×Int)}{ln:Nat->List Nat}{vt:Value}{rv:Nat->Value}{vs:Value}
  (h:MAt w x 109 cs cl ts n Q L ln vt rv vs) (hf:Fr (fun _=>False) w w') (hb:w'.heap[x']? = some (.cells cs 111 (0,0))) (hx:w.heap.size<=x'):MAt w' x' 111 cs cl ts n Q L ln vt rv vs:=by
 have h':=h.kept hf (fun _ _ h=>h)
 refine ⟨hb,h.size,h.c0,h.c1,h.row,h.c6,h'.th,h'.li,h'.sp,fun e=>?_,fun r hr e=>?_,fun e=>?_,h.n4,h.n5,h.n6,h.fr⟩
 ·have:=h.th.lt e;omega
 ·have:=(h.li r hr).lt e;omega
 ·have:=h.sp.lt e;omega
def ptOf (u:Int×Int×Int×Int):PT:={ sp:=u.1,row:=u.2.1,left:=u.2.2.2,st:=1,code:=0,who:=-1,ws:=[],got:=-1,tgt:=0,pw:=[],item:=0,rt:=0,frm:=0,win:=0,wait:=0,time:=0,wl:=[] }
def pmNew (T:List (Int×Int)) (n:Nat) (Q L:List (Int×Int×Int×Int)) (ln:Nat->List Nat):PM:=⟨(born 0 T).map ptOf,ln,n,Q,L.map lfOf,fr0,0⟩
def nilSl (m:Nat):List (Sv×Sv×Value):=List.replicate m (Sv.nil,Sv.nil,.slice none 0 0)
theorem sp_gs (n gs:Nat) (Q L:List (Int×Int×Int×Int)):spRowsM n gs Q (L.map lfOf)=spRowsM n 0 Q (L.map lfOf):=by
 have h:∀ s i:Int,cell3 gs (findLf (L.map lfOf) s i)=cell3 0 (findLf (L.map lfOf) s i):=fun s i=>by
  rw [find_lfOf]
  cases findQ L s i <;> rfl
 unfold spRowsM
 congr 1
 funext s
 unfold spRowM pages
 simp only [h]
theorem prows_new (ts:List (Int×Int×Int×Int)):prows (ts.map ptOf) (nilSl ts.length)=ts.map thRow:=by
 apply List.ext_getElem?
 intro i
 unfold prows nilSl
 rw [List.getElem?_zipWith,List.getElem?_map,List.getElem?_map,List.getElem?_replicate]
 rcases hx:ts[i]? with _ | u
 ·simp
 ·have hi:=(List.getElem?_eq_some_iff.1 hx).1
  simp [hi]
  rfl
theorem lnV_new (rv:Nat->Value) (m j:Nat):lnV rv (nilSl m) j=if j < 4 then rv j else .slice none 0 0:=by
 unfold lnV nilSl
 split
 ·rfl
 ·rw [List.getElem?_replicate]
  split <;> rfl
theorem pt_get {ts:List (Int×Int×Int×Int)}{i:Nat}{p:PT}(h:(ts.map ptOf)[i]? = some p):∃ u,ts[i]? = some u/\p=ptOf u:=by
 rw [List.getElem?_map] at h
 rcases hx:ts[i]? with _ | u
 ·rw [hx] at h;simp at h
 ·rw [hx] at h
  simp at h
  exact ⟨u,rfl,h.symm⟩
theorem th_get {ts:List (Int×Int×Int×Int)}{i:Nat}{p:Th}(h:(ts.map thOf)[i]? = some p):∃ u,ts[i]? = some u/\p=thOf u:=by
 rw [List.getElem?_map] at h
 rcases hx:ts[i]? with _ | u
 ·rw [hx] at h;simp at h
 ·rw [hx] at h
  simp at h
  exact ⟨u,rfl,h.symm⟩
theorem line_new (T:List (Int×Int)) (n:Nat) (Q L:List (Int×Int×Int×Int)) (ln:Nat->List Nat) (j:Nat):(pmNew T n Q L ln).line j=if j < 4 then ln j else []:=by
 unfold PM.line
 split
 ·rfl
 ·rcases hx:(pmNew T n Q L ln).threads[j-4]? with _ | p
  ·rfl
  ·obtain ⟨u,_,rfl⟩:=pt_get (ts:=born 0 T) hx
   rfl
theorem rel_new {T:List (Int×Int)}{n:Nat}{Q L:List (Int×Int×Int×Int)}{ln:Nat->List Nat}(h:Lined (born 0 T) T.length ln):Rel none_ (pmNew T n Q L ln) (RK.new n T Q L).up:=by
 have hs:∀ (i:Nat) t,(RK.new n T Q L).up.threads[i]? = some t->∃ u,(born 0 T)[i]? = some u/\t=thOf u:=fun i t ht=>th_get (ts:=born 0 T) ht
 refine ⟨by simp [pmNew,RK.up,RK.new],fun i t p ht hp=>?_,fun r hr=>⟨fun t=>?_,?_⟩,fun r p hp=>?_,rfl,rfl,rfl,rfl,rfl⟩
 ·obtain ⟨u,hu,rfl⟩:=hs i t ht
  obtain ⟨v,hv,rfl⟩:=pt_get (ts:=born 0 T) hp
  rw [hu] at hv
  cases hv
  exact ⟨rfl,rfl,rfl,rfl,rfl,rfl,rfl,rfl,fun _=>⟨rfl,fun _=>rfl⟩,fun e=>by rcases e with e | e;exact absurd rfl e;exact e.elim,fun e=>absurd rfl e,fun e=>by simp [thOf] at e⟩
 ·show t∈ln r↔_
  rw [h.mem]
  constructor
  ·rintro ⟨u,hu,e⟩
   exact ⟨thOf u,by show ((born 0 T).map thOf)[t]? = _;rw [List.getElem?_map,hu];rfl,rfl,e⟩
  ·rintro ⟨v,hv,_,e⟩
   obtain ⟨u,hu,rfl⟩:=hs t v hv
   exact ⟨u,hu,e⟩
 ·refine (h.sorted r).imp (fun {a b} hab=>?_)
  have e:∀ a,ordM (RK.new n T Q L).up.threads a=ordOf (born 0 T) a:=fun a=>by
   show ordM ((born 0 T).map thOf) a=_
   unfold ordM ordOf
   rw [List.getElem?_map]
   cases (born 0 T)[a]? <;> rfl
  rw [e,e];exact hab
 ·obtain ⟨u,hu,rfl⟩:=pt_get (ts:=born 0 T) hp
  refine ⟨fun t=>⟨fun e=>by simp [ptOf] at e,fun ⟨v,hv,e,_⟩=>?_⟩,by simp [ptOf]⟩
  obtain ⟨u,_,rfl⟩:=hs t v hv
  simp [thOf] at e
theorem prog_new {w:World}{x:Nat}{cs:Array Value}{T:List (Int×Int)}{n:Nat}{Q L:List (Int×Int×Int×Int)}{ln:Nat->List Nat}{vt:Value}{rv:Nat->Value}{vs:Value}
  (h:MAt w x 111 cs c00 (born 0 T) n Q L ln vt rv vs) (hl:Lined (born 0 T) T.length ln) (n1:1<=n) (t1:1<=T.length):∃ S,ProgRep w x S (RK.new n T Q L).up/\∀ k,S k->MOwn x vt rv vs k:=by
 have hb:(born 0 T).length=T.length:=born_length 0 T
 obtain ⟨a,c,e1⟩:=h.th.slice
 rw [List.length_map] at e1
 subst e1
 obtain ⟨g,ea,_⟩:=h.th.is_some (by omega)
 subst ea
 obtain ⟨a2,c2,e2⟩:=h.sp.slice
 have hlen:(spRows n Q L).length=n:=by simp [spRows,spRowsM]
 rw [hlen] at e2
 subst e2
 obtain ⟨gs,ea2,_⟩:=h.sp.is_some (by omega)
 subst ea2
 have tl:(pmNew T n Q L ln).threads.length=(born 0 T).length:=by simp [pmNew]
 have o4:∀ j k,(if j < 4 then rv j else Value.slice none 0 0).ownBlock=some k->j < 4/\(rv j).ownBlock=some k:=fun j k e=>by
  by_cases hj:j < 4
  ·rw [if_pos hj] at e;exact ⟨hj,e⟩
  ·rw [if_neg hj] at e;simp [Value.ownBlock] at e
 have en:(n:Int).toNat=n:=by simp
 have P:PmAt w ⟨x,111,g,c,gs,c2⟩ (pmNew T n Q L ln) cs rv (nilSl (born 0 T).length):=by
  refine ⟨h.blk,h.size,h.c0,?_,h.row,?_,h.fr,by simp [nilSl,tl],?_,?_,fun j hj=>?_,fun i p s hp hs=>?_,⟨fun e=>h.n1 (by show some g=some x;rw [show g=x from e]),fun e=>h.n3 (by show some gs=some x;rw [show gs=x from e]),fun e=>h.n6 g rfl (by show some gs=some g;rw [show g=gs from e])⟩,fun j hj k hk=>?_,fun i j hi hj hij k hk=>?_⟩
  ·rw [tl];exact h.c1
  ·exact h.c6.trans (by show _=some (Value.slice _ (n:Int).toNat _);rw [en])
  ·show Sl w 158 17 _ (prows ((born 0 T).map ptOf) _)
   rw [prows_new,tl];exact h.th
  ·show Sl w 232 30 (.slice _ (n:Int).toNat _) (spRowsM (n:Int).toNat gs Q (L.map lfOf))
   rw [sp_gs,en];exact h.sp
  ·rw [lnV_new,line_new]
   by_cases e:j < 4
   ·rw [if_pos e,if_pos e];exact h.li j e
   ·rw [if_neg e,if_neg e];exact Sl.nil _ _ _
  ·obtain ⟨u,_,rfl⟩:=pt_get (ts:=born 0 T) hp
   have es:s=(Sv.nil,Sv.nil,.slice none 0 0):=by
    unfold nilSl at hs
    rw [List.getElem?_replicate] at hs
    split at hs
    ·cases hs;rfl
    ·cases hs
   rw [es]
   exact ⟨PWd.nil _ _ _ _ _,PWd.nil _ _ _ _ _⟩
  ·rw [lnV_new] at hk
   obtain ⟨j4,hk⟩:=o4 j k hk
   exact ⟨fun e=>h.n2 j j4 (by rw [<- show k=x from e];exact hk),fun e=>(h.n4 j j4 k hk).1 (by show some g=some k;rw [show k=g from e]),fun e=>(h.n4 j j4 k hk).2 (by show some gs=some k;rw [show k=gs from e])⟩
  ·rw [lnV_new] at hk ⊢
   obtain ⟨i4,hk⟩:=o4 i k hk
   intro e
   obtain ⟨j4,e⟩:=o4 j k e
   exact h.n5 i j i4 j4 hij k hk e
 refine ⟨POwn ⟨x,111,g,c,gs,c2⟩ (pmNew T n Q L ln).threads.length rv (nilSl (born 0 T).length),⟨⟨x,111,g,c,gs,c2⟩,rfl,pmNew T n Q L ln,⟨cs,rv,_,P,fun _=>Iff.rfl⟩,rel_new hl⟩,fun k hk=>?_⟩
 rcases hk with (e | e | e | ⟨j,hj,e⟩) | ⟨i,s,hs,e⟩
 ·exact .inl e
 ·exact .inr (.inl (by show some g=some k;rw [show k=g from e]))
 ·exact .inr (.inr (.inr (by show some gs=some k;rw [show k=gs from e])))
 ·rw [lnV_new] at e
  obtain ⟨j4,e⟩:=o4 j k e
  exact .inr (.inr (.inl ⟨j,j4,e⟩))
 ·have es:s=(Sv.nil,Sv.nil,.slice none 0 0):=by
   unfold nilSl at hs
   rw [List.getElem?_replicate] at hs
   split at hs
   ·cases hs;rfl
   ·cases hs
  rw [es] at e
  rcases e with e | e <;> simp [inBlock,Sv.nil] at e
theorem fNew_yes (sp:Int) (vT vP vL:Value) (T:List (Int×Int)) (Q L:List (Int×Int×Int×Int)) (w:World) (iT:Inl w 2 vT (T.map tRow)) (iP:Inl w 4 vP (Q.map qRow)) (iL:Inl w 4 vL (L.map qRow)) (hf:Fits sp T Q L) :
  Calls Tryz.prog 42 #[.agg #[.int .i64 sp,vT,vP,vL]] w fun e w'=>∃ x S,e=.returned (.tuple #[.pointer (some ⟨x,0,none⟩),.int .i64 0])/\ProgRep w' x S (RK.new sp T Q L).up/\Below w.heap.size w w'/\∀ b,S b->w.heap.size<=b:=by
 obtain ⟨n,rfl⟩:=Int.eq_ofNat_of_zero_le (show 0<=sp by have:=hf.1;omega)
 obtain ⟨aT,cT,eT⟩:=iT.slice
 obtain ⟨aP,cP,eP⟩:=iP.slice
 obtain ⟨aL,cL,eL⟩:=iL.slice
 rw [List.length_map] at eT eP eL
 subst eT eP eL
 have B:=mNew_yes n aT aP aL T.length Q.length L.length cT cP cL T Q L (w.alloc (.cells #[.int .i64 n,.slice aT T.length cT,.slice aP Q.length cP,.slice aL L.length cL] 32)) (iT.alloc (by omega) _) (iP.alloc (by omega) _) (iL.alloc (by omega) _) rfl rfl rfl hf
 have HB:=hid B
 have HF:1<=n/\1<=T.length:=⟨by have:=hf.1;omega,by have:=hf.2.1;omega⟩
 clear B hf iT iP iL
 generalize hmT:T.length=mT at *
 generalize hmP:Q.length=mP at *
 generalize hmL:L.length=mL at *
 have HM:=hid (And.intro hmT (And.intro hmP (And.intro hmL HF)))
 clear hmT hmP hmL HF
 go_enter Tryz.func42,Tryz.ntmps42
 go_wp2_with fail
 refine HB.out.mono ?_
 rintro e w2 ⟨x,ln,vt,rv,vs,rfl,M,Ln,Bw,Ow⟩
 obtain ⟨a1,n1,c1,e1⟩:∃ a n c,vt=.slice a n c:=by obtain ⟨a,c,h⟩:=M.th.slice;exact ⟨_,_,_,h⟩
 obtain ⟨b0,k0,d0,e20⟩:∃ a n c,rv 0=.slice a n c:=by obtain ⟨a,c,h⟩:=(M.li 0 (by omega)).slice;exact ⟨_,_,_,h⟩
 obtain ⟨b1,k1,d1,e21⟩:∃ a n c,rv 1=.slice a n c:=by obtain ⟨a,c,h⟩:=(M.li 1 (by omega)).slice;exact ⟨_,_,_,h⟩
 obtain ⟨b2,k2,d2,e22⟩:∃ a n c,rv 2=.slice a n c:=by obtain ⟨a,c,h⟩:=(M.li 2 (by omega)).slice;exact ⟨_,_,_,h⟩
 obtain ⟨b3,k3,d3,e23⟩:∃ a n c,rv 3=.slice a n c:=by obtain ⟨a,c,h⟩:=(M.li 3 (by omega)).slice;exact ⟨_,_,_,h⟩
 obtain ⟨a6,n6,c6,e6⟩:∃ a n c,vs=.slice a n c:=by obtain ⟨a,c,h⟩:=M.sp.slice;exact ⟨_,_,_,h⟩
 have em:mcells 0 vt (rv 0) (rv 1) (rv 2) (rv 3) vs=#[.int .u64 0,.slice a1 n1 c1,.slice b0 k0 d0,.slice b1 k1 d1,.slice b2 k2 d2,.slice b3 k3 d3,.slice a6 n6 c6,.int .i64 0,.int .i64 0,.int .i64 0,.int .i64 0,.int .i64 0,.int .i64 0,.int .i64 0,.int .i64 0,.int .i64 0,.int .i64 0,.int .i64 0,.int .i64 0,.int .i64 0,.int .i64 0,.int .i64 0,.int .i64 0,.int .i64 0,.int .i64 0,.int .i64 0,.int .i64 0,.int .i64 0,.int .i64 0,.int .i64 0,.int .i64 0,.int .i64 0,.int .i64 0,.int .i64 0,.int .i64 0,.int .i64 0,.int .i64 0,.int .i64 0,.int .i64 0]:=by rw [e1,e20,e21,e22,e23,e6];rfl
 rw [em] at M ⊢
 have R:(w2.alloc (.cells #[.int .u64 0,.slice a1 n1 c1,.slice b0 k0 d0,.slice b1 k1 d1,.slice b2 k2 d2,.slice b3 k3 d3,.slice a6 n6 c6,.int .i64 0,.int .i64 0,.int .i64 0,.int .i64 0,.int .i64 0,.int .i64 0,.int .i64 0,.int .i64 0,.int .i64 0,.int .i64 0,.int .i64 0,.int .i64 0,.int .i64 0,.int .i64 0,.int .i64 0,.int .i64 0,.int .i64 0,.int .i64 0,.int .i64 0,.int .i64 0,.int .i64 0,.int .i64 0,.int .i64 0,.int .i64 0,.int .i64 0,.int .i64 0,.int .i64 0,.int .i64 0,.int .i64 0,.int .i64 0,.int .i64 0,.int .i64 0] 109)).rangeAt w2.heap.size 0 [.int .u64 0,.slice a1 n1 c1,.slice b0 k0 d0,.slice b1 k1 d1,.slice b2 k2 d2,.slice b3 k3 d3,.slice a6 n6 c6,.int .i64 0,.int .i64 0,.int .i64 0,.int .i64 0,.int .i64 0,.int .i64 0,.int .i64 0,.int .i64 0,.int .i64 0,.int .i64 0,.int .i64 0,.int .i64 0,.int .i64 0,.int .i64 0,.int .i64 0,.int .i64 0,.int .i64 0,.int .i64 0,.int .i64 0,.int .i64 0,.int .i64 0,.int .i64 0,.int .i64 0,.int .i64 0,.int .i64 0,.int .i64 0,.int .i64 0,.int .i64 0,.int .i64 0,.int .i64 0,.int .i64 0,.int .i64 0]:=fun j v hv=>by
  rw [cell_of_row _ _ (0+j) _ _ _ (heap_alloc_new w2 _),Nat.zero_add,List.getElem?_toArray];exact hv
 have HH:=hid (And.intro M (And.intro Ln (And.intro Bw (And.intro Ow R))))
 clear M Ln Bw Ow R e1 e20 e21 e22 e23 e6 em
 go_wp2_with (first
  | (with_reducible (show wpList _ _ _ (⟨_,.load 109 _,_,_,_,none⟩ :: _) _ _);go_must (refine wpList_load_mid rfl 109 _ rfl w2.heap.size 0 rfl _ _ HH.out.2.2.2.2 Tryz.underlying109 rfl (by kernel_rfl) ?_))
  | (with_reducible (show wpList _ _ _ (⟨_,.store 109 _ _,_,_,_,none⟩ :: _) _ _);go_must (refine wpList_store_new rfl 109 _ _ rfl w2 _ #[.int .u64 0,.slice a1 n1 c1,.slice b0 k0 d0,.slice b1 k1 d1,.slice b2 k2 d2,.slice b3 k3 d3,.slice a6 n6 c6,.int .i64 0,.int .i64 0,.int .i64 0,.int .i64 0,.int .i64 0,.int .i64 0,.int .i64 0,.int .i64 0,.int .i64 0,.int .i64 0,.int .i64 0,.int .i64 0,.int .i64 0,.int .i64 0,.int .i64 0,.int .i64 0,.int .i64 0,.int .i64 0,.int .i64 0,.int .i64 0,.int .i64 0,.int .i64 0,.int .i64 0,.int .i64 0,.int .i64 0,.int .i64 0,.int .i64 0,.int .i64 0,.int .i64 0,.int .i64 0,.int .i64 0,.int .i64 0] 109 (by simp [Act.eval]) rfl (by kernel_rfl) rfl ?_ ?_);(simp [Value.oneCell'])))
 go_ret2
 have hsz:=HH.out.2.2.1.size
 simp only [size_alloc] at hsz
 have MV:=fun A=>HH.out.1.move (((Fr.refl (fun _=>False) w2).alloc A).alloc _) (heap_alloc2_new w2 A _) (by omega)
 obtain ⟨S,RP,OS⟩:=prog_new (L:=L) (Q:=Q) (MV _) (by have:=HM.out.1;have:=HH.out.2.1;rw [HM.out.1];exact this) HM.out.2.2.2.1 (by have:=HM.out.2.2.2.2;have:=HM.out.1;omega)
 refine ⟨w2.heap.size+1,S,rfl,RP,?_,fun b hb=>?_⟩
 ·exact ((((Below.refl _ w).alloc (Nat.le_refl _) _).trans (HH.out.2.2.1.mono (by simp))).alloc (by omega) _).alloc (by simp;omega) _
 ·rcases OS b hb with e | e | e | e
  ·omega
  ·have:=HH.out.2.2.2.1 b (.inr (.inl e));simp at this;omega
  ·have:=HH.out.2.2.2.1 b (.inr (.inr (.inl e)));simp at this;omega
  ·have:=HH.out.2.2.2.1 b (.inr (.inr (.inr e)));simp at this;omega
theorem fNew_no (sp:Int) (vT vP vL:Value) (T:List (Int×Int)) (Q L:List (Int×Int×Int×Int)) (w:World) (hg:Gl w) (iT:Inl w 2 vT (T.map tRow)) (iP:Inl w 4 vP (Q.map qRow)) (iL:Inl w 4 vL (L.map qRow)) (hf:¬ Fits sp T Q L) :
  Calls Tryz.prog 42 #[.agg #[.int .i64 sp,vT,vP,vL]] w fun e w'=>e=.returned (.tuple #[.pointer none,.int .i64 1])/\Below w.heap.size w w':=by
 obtain ⟨aT,cT,eT⟩:=iT.slice
 obtain ⟨aP,cP,eP⟩:=iP.slice
 obtain ⟨aL,cL,eL⟩:=iL.slice
 rw [List.length_map] at eT eP eL
 subst eT eP eL
 by_cases hbad:¬ (1<=sp/\sp<=3)\/¬ (1<=T.length/\T.length<=6)
 ·have B:=mNew_se sp aT aP aL T.length Q.length L.length cT cP cL T Q L (w.alloc (.cells #[.int .i64 sp,.slice aT T.length cT,.slice aP Q.length cP,.slice aL L.length cL] 32)) (iT.alloc (by omega) _) (iP.alloc (by omega) _) (iL.alloc (by omega) _) rfl rfl rfl hbad
  have HB:=hid B
  clear B hf iT iP iL hbad
  generalize T.length=mT at *
  generalize Q.length=mP at *
  generalize L.length=mL at *
  go_enter Tryz.func42,Tryz.ntmps42
  go_wp2_with fail
  refine HB.out.mono ?_
  rintro e w2 ⟨s,rfl,Bw⟩
  have hg2:Gl (w2.alloc (.cells #[.int .u64 0,.slice none 0 0,.slice none 0 0,.slice none 0 0,.slice none 0 0,.slice none 0 0,.slice none 0 0,.int .i64 0,.int .i64 0,.int .i64 0,.int .i64 0,.int .i64 0,.int .i64 0,.int .i64 0,.int .i64 0,.int .i64 0,.int .i64 0,.int .i64 0,.int .i64 0,.int .i64 0,.int .i64 0,.int .i64 0,.int .i64 0,.int .i64 0,.int .i64 0,.int .i64 0,.int .i64 0,.int .i64 0,.int .i64 0,.int .i64 0,.int .i64 0,.int .i64 0,.int .i64 0,.int .i64 0,.int .i64 0,.int .i64 0,.int .i64 0,.int .i64 0,.int .i64 0] 109)):=(((hg.alloc _).below Bw).alloc _)
  have HBw:=hid (And.intro Bw hg2)
  clear Bw hg2
  unfold mcells
  go_wp2_with (first
   | (go_at_call 45;refine (number_met1 s 1 _ HBw.out.2).mono ?_;rintro e w3 ⟨rfl,H3⟩;replace H3:=hid H3)
   | (with_reducible (show wpList _ _ _ (⟨_,.store 109 _ _,_,_,_,none⟩ :: _) _ _);go_must (refine wpList_store_new rfl 109 _ _ rfl w2 _ #[.int .u64 0,.slice none 0 0,.slice none 0 0,.slice none 0 0,.slice none 0 0,.slice none 0 0,.slice none 0 0,.int .i64 0,.int .i64 0,.int .i64 0,.int .i64 0,.int .i64 0,.int .i64 0,.int .i64 0,.int .i64 0,.int .i64 0,.int .i64 0,.int .i64 0,.int .i64 0,.int .i64 0,.int .i64 0,.int .i64 0,.int .i64 0,.int .i64 0,.int .i64 0,.int .i64 0,.int .i64 0,.int .i64 0,.int .i64 0,.int .i64 0,.int .i64 0,.int .i64 0,.int .i64 0,.int .i64 0,.int .i64 0,.int .i64 0,.int .i64 0,.int .i64 0,.int .i64 0] 109 (by simp [Act.eval]) rfl (by kernel_rfl) rfl ?_ ?_);(simp [Value.oneCell'])))
  go_ret2
  have hsz:=HBw.out.1.size
  simp only [size_alloc] at hsz
  exact ⟨rfl,((((Below.refl _ w).alloc (Nat.le_refl _) _).trans (HBw.out.1.mono (by simp))).alloc (by omega) _).trans (H3.out.mono (by simp;omega))⟩
 ·have h1:1<=sp/\sp<=3:=Classical.byContradiction (fun h=>hbad (.inl h))
  have h2:1<=T.length/\T.length<=6:=Classical.byContradiction (fun h=>hbad (.inr h))
  have B:=mNew_me sp aT aP aL T.length Q.length L.length cT cP cL T Q L (w.alloc (.cells #[.int .i64 sp,.slice aT T.length cT,.slice aP Q.length cP,.slice aL L.length cL] 32)) (iT.alloc (by omega) _) (iP.alloc (by omega) _) (iL.alloc (by omega) _) rfl rfl rfl h1 h2 hf
  have HB:=hid B
  clear B hf iT iP iL hbad h2
  generalize T.length=mT at *
  generalize Q.length=mP at *
  generalize L.length=mL at *
  go_enter Tryz.func42,Tryz.ntmps42
  go_wp2_with fail
  refine HB.out.mono ?_
  rintro e w2 ⟨s,⟨s2,rfl⟩,Bw⟩
  have hg2:Gl (w2.alloc (.cells #[.int .u64 0,.slice none 0 0,.slice none 0 0,.slice none 0 0,.slice none 0 0,.slice none 0 0,.slice none 0 0,.int .i64 0,.int .i64 0,.int .i64 0,.int .i64 0,.int .i64 0,.int .i64 0,.int .i64 0,.int .i64 0,.int .i64 0,.int .i64 0,.int .i64 0,.int .i64 0,.int .i64 0,.int .i64 0,.int .i64 0,.int .i64 0,.int .i64 0,.int .i64 0,.int .i64 0,.int .i64 0,.int .i64 0,.int .i64 0,.int .i64 0,.int .i64 0,.int .i64 0,.int .i64 0,.int .i64 0,.int .i64 0,.int .i64 0,.int .i64 0,.int .i64 0,.int .i64 0] 109)):=(((hg.alloc _).below Bw).alloc _)
  have HBw:=hid (And.intro Bw hg2)
  clear Bw hg2
  unfold mcells
  go_wp2_with (first
   | (go_at_call 45;refine (number_met2 s s2 1 _ HBw.out.2).mono ?_;rintro e w3 ⟨rfl,H3⟩;replace H3:=hid H3)
   | (with_reducible (show wpList _ _ _ (⟨_,.store 109 _ _,_,_,_,none⟩ :: _) _ _);go_must (refine wpList_store_new rfl 109 _ _ rfl w2 _ #[.int .u64 0,.slice none 0 0,.slice none 0 0,.slice none 0 0,.slice none 0 0,.slice none 0 0,.slice none 0 0,.int .i64 0,.int .i64 0,.int .i64 0,.int .i64 0,.int .i64 0,.int .i64 0,.int .i64 0,.int .i64 0,.int .i64 0,.int .i64 0,.int .i64 0,.int .i64 0,.int .i64 0,.int .i64 0,.int .i64 0,.int .i64 0,.int .i64 0,.int .i64 0,.int .i64 0,.int .i64 0,.int .i64 0,.int .i64 0,.int .i64 0,.int .i64 0,.int .i64 0,.int .i64 0,.int .i64 0,.int .i64 0,.int .i64 0,.int .i64 0,.int .i64 0,.int .i64 0] 109 (by simp [Act.eval]) rfl (by kernel_rfl) rfl ?_ ?_);(simp [Value.oneCell'])))
  go_ret2
  have hsz:=HBw.out.1.size
  simp only [size_alloc] at hsz
  exact ⟨rfl,((((Below.refl _ w).alloc (Nat.le_refl _) _).trans (HBw.out.1.mono (by simp))).alloc (by omega) _).trans (H3.out.mono (by simp;omega))⟩
end Go.Proofs.YteejjgbeknnmeaaGreatDoor
