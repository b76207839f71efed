import Derived.Test.YteejjgbeknnmeaaGreatDoorH11
import Derived.Test.YteejjgbeknnmeaaGreatDoorH10
set_option maxRecDepth 100000
set_option maxHeartbeats 20000000
namespace Go.Proofs.YteejjgbeknnmeaaGreatDoor
open Go.RowKit
theorem tickTo_id {K:RM}(h:∀ (i:Nat) u,K.threads[i]? = some u->u.time≠K.clock):∀ n,K.tickTo n=K
 | 0=>rfl
 | n+1=>by
  have ih:=tickTo_id h n
  simp only [RM.tickTo]
  rw [ih]
  split
  ·rfl
  ·rename_i x hx
   rw [if_neg (h n x hx)]
def tuT (n:Nat):List (Int×Int):=List.replicate n (0,1) ++ [(0,0)]
theorem tu_fits {n:Nat}(_h1:1<=n) (h5:n<=5):Fits 1 (tuT n) [] []:=by
 refine ⟨by omega,by simp [tuT];omega,fun i p hp=>?_,fun i p hp=>by simp at hp,fun i k p q _ hp=>by simp at hp,fun i p hp=>by simp at hp,fun i k p q _ hp=>by simp at hp⟩
 have:=List.mem_of_getElem? hp
 simp [tuT] at this
 rcases this with ⟨_,rfl⟩ | rfl <;> simp [okT]
def plc (n i j:Nat):Nat:=(j+n-i / 3 % n) % n
structure TI (n i:Nat) (K:RM):Prop where
 len:K.threads.length=n+1
 th:∀ j,j < n->∃ u,K.threads[j]? = some u/\u.st=1/\u.row=1/\u.time=-1/\u.left=(if j=i / 3 % n then 3-((i % 3:Nat):Int) else 3)
 low:∃ u,K.threads[n]? = some u/\u.st=1/\u.row=0/\u.time=-1
 ord:∀ j k u v,j < n->k < n->K.threads[j]? = some u->K.threads[k]? = some v->plc n i j < plc n i k->u.ord < v.ord
 last:∀ (j:Nat) u,K.threads[j]? = some u->u.ord < K.last
 clk:0<=K.clock
theorem TI.cur {n i:Nat}{K:RM}(h1:1<=n) (h:TI n i K):K.cur=((i / 3 % n:Nat):Int):=by
 have hc:i / 3 % n < n:=Nat.mod_lt _ (by omega)
 obtain ⟨v,hv,v1,v2,_⟩:=h.th _ hc
 rcases curM_best K.threads K.threads.length (Nat.le_refl _) with ⟨_,hno⟩ | ⟨j,u,e,hj,hu,u1,hb⟩
 ·exact absurd v1 (hno _ v (by rw [h.len];omega) hv)
 ·show curM K.threads K.threads.length=_
  rw [e]
  have b:=hb _ v (by rw [h.len];omega) hv v1
  rw [h.len] at hj
  by_cases ej:j=i / 3 % n
  ·rw [ej]
  ·exfalso
   by_cases en:j=n
   ·obtain ⟨z,hz,_,z2,_⟩:=h.low
    rw [en,hz] at hu
    cases hu
    omega
   ·obtain ⟨z,hz,_,z2,_⟩:=h.th j (by omega)
    rw [hz] at hu
    have e9:=Option.some.inj hu
    rw [e9] at hz z2
    have hp:plc n i (i / 3 % n)=0:=by
     unfold plc
     rw [show i / 3 % n+n-i / 3 % n=n by omega,Nat.mod_self]
    have hq:0 < plc n i j:=by
     unfold plc
     rcases Nat.lt_or_ge j (i / 3 % n) with g | g
     ·rw [Nat.mod_eq_of_lt (by omega)];omega
     ·have e2:j+n-i / 3 % n=(j-i / 3 % n)+n:=by omega
      rw [e2,Nat.add_mod_right,Nat.mod_eq_of_lt (by omega)];omega
    have:=h.ord _ j v u hc (by omega) hv hz (by omega)
    omega
theorem plc_next {n i:Nat}(h1:1<=n) (h5:n<=5) (hr:i % 3=2){j:Nat}(hj:j < n):plc n (i+1) j=if j=i / 3 % n then n-1 else plc n i j-1:=by
 have e:(i+1) / 3=i / 3+1:=by omega
 unfold plc
 rw [e]
 generalize i / 3=q
 have hn:n=1\/n=2\/n=3\/n=4\/n=5:=by omega
 rcases hn with rfl | rfl | rfl | rfl | rfl <;> split <;> omega
theorem plc_same {n i:Nat}(hr:i % 3≠2) (j:Nat):plc n (i+1) j=plc n i j:=by
 have e:(i+1) / 3=i / 3:=by omega
 unfold plc
 rw [e]
theorem plc_pos {n i:Nat}(h5:n<=5){j:Nat}(hj:j < n) (hne:j≠i / 3 % n):0 < plc n i j/\plc n i j < n:=by
 unfold plc
 generalize i / 3=q at *
 have hn:n=1\/n=2\/n=3\/n=4\/n=5:=by omega
 rcases hn with rfl | rfl | rfl | rfl | rfl <;> omega
theorem TI.tick {n i:Nat}{K:RM}(h1:1<=n) (h5:n<=5) (h:TI n i K):TI n (i+1) K.tick:=by
 have hc:i / 3 % n < n:=Nat.mod_lt _ (by omega)
 have cu:K.ticked.cur=((i / 3 % n:Nat):Int):=by show K.cur=_;exact h.cur h1
 obtain ⟨v,hv,v1,v2,v3,v4⟩:=h.th _ hc
 rw [if_pos rfl] at v4
 have sp:K.ticked.spent=if v.left-1=0 then (K.ticked.setLeft (i / 3 % n) 3).toLast (i / 3 % n) else K.ticked.setLeft (i / 3 % n) (v.left-1):=by
  unfold RM.spent
  rw [cu,Int.toNat_natCast,show K.ticked.threads[i / 3 % n]? = some v from hv]
  show (if _ < _ then _ else _)=_
  rw [if_neg (by omega)]
 have nt:∀ (f:Th->Th) (K':RM),K'.threads=K.threads.modify (i / 3 % n) f->K'.clock=K.clock+1->(∀ u,(f u).time=u.time)->∀ (j:Nat) u,K'.threads[j]? = some u->u.time≠K'.clock:=by
  intro f K' ht hcl hf j u hu
  rw [ht] at hu
  obtain ⟨x,hx,c⟩:=upd_get (K:=K) (f:=f) hu
  have jl:j < n+1:=by rw [<- h.len];exact (List.getElem?_eq_some_iff.1 hx).1
  have xt:x.time=-1:=by
   by_cases ej:j=n
   ·obtain ⟨z,hz,_,_,z3⟩:=h.low
    rw [ej,hz] at hx;cases hx;exact z3
   ·obtain ⟨z,hz,_,_,z3,_⟩:=h.th j (by omega)
    rw [hz] at hx;cases hx;exact z3
  have ut:u.time=-1:=by
   rcases c with ⟨_,rfl⟩ | ⟨_,rfl⟩
   ·rw [hf];exact xt
   ·exact xt
  have:=h.clk
  omega
 by_cases hr:i % 3=2
 ·have e0:v.left-1=0:=by rw [v4,hr];rfl
  rw [if_pos e0] at sp
  have ht:((K.ticked.setLeft (i / 3 % n) 3).toLast (i / 3 % n)).threads=(K.threads.modify (i / 3 % n) (fun u=>{ u with left:=3 })).modify (i / 3 % n) (fun u=>{ u with ord:=K.last }):=rfl
  have ht2:((K.ticked.setLeft (i / 3 % n) 3).toLast (i / 3 % n)).threads=K.threads.modify (i / 3 % n) (fun u=>{ u with left:=3,ord:=K.last }):=by
   rw [ht,List.modify_modify_eq];rfl
  have tt:K.tick=(K.ticked.setLeft (i / 3 % n) 3).toLast (i / 3 % n):=by
   unfold RM.tick
   rw [sp]
   exact tickTo_id (nt _ _ ht2 rfl (by intro u;rfl)) _
  rw [tt]
  have get:∀ (j:Nat) u,((K.ticked.setLeft (i / 3 % n) 3).toLast (i / 3 % n)).threads[j]? = some u->∃ x,K.threads[j]? = some x/\((j=i / 3 % n/\u={ x with left:=3,ord:=K.last })\/(j≠i / 3 % n/\u=x)):=fun j u hu=>by
   rw [ht2] at hu;exact upd_get (K:=K) hu
  have put:∀ (j:Nat) x,K.threads[j]? = some x->((K.ticked.setLeft (i / 3 % n) 3).toLast (i / 3 % n)).threads[j]? = some (if j=i / 3 % n then { x with left:=3,ord:=K.last } else x):=fun j x hx=>by
   rw [ht2,List.getElem?_modify]
   by_cases e:i / 3 % n=j
   ·rw [hx];simp [e]
   ·rw [hx,if_neg (fun q=>e q.symm)];simp [e]
  have q3:(i+1) % 3=0:=by omega
  refine ⟨by rw [ht2];simp [h.len],fun j hj=>?_,?_,fun j k u w hj hk hu hw hp=>?_,fun j u hu=>?_,by show 0<=K.clock+1;have:=h.clk;omega⟩
  ·obtain ⟨z,hz,z1,z2,z3,z4⟩:=h.th j hj
   refine ⟨_,put j z hz,?_⟩
   rw [q3]
   by_cases e:j=i / 3 % n
   ·rw [if_pos e];exact ⟨z1,z2,z3,by split <;> rfl⟩
   ·rw [if_neg e];rw [if_neg e] at z4;exact ⟨z1,z2,z3,by rw [z4];split <;> rfl⟩
  ·obtain ⟨z,hz,z1,z2,z3⟩:=h.low
   have e:¬ n=i / 3 % n:=by omega
   exact ⟨z,by rw [put n z hz,if_neg e],z1,z2,z3⟩
  ·rw [plc_next h1 h5 hr hj,plc_next h1 h5 hr hk] at hp
   obtain ⟨x,hx,cx⟩:=get j u hu
   obtain ⟨y,hy,cy⟩:=get k w hw
   by_cases ej:j=i / 3 % n
   ·rw [if_pos ej] at hp
    by_cases ek:k=i / 3 % n
    ·rw [if_pos ek] at hp;omega
    ·rw [if_neg ek] at hp;have:=plc_pos h5 hk ek;omega
   ·rw [if_neg ej] at hp
    have ux:u=x:=by rcases cx with ⟨e,_⟩ | ⟨_,e⟩;exact absurd e ej;exact e
    by_cases ek:k=i / 3 % n
    ·have wy:w.ord=K.last:=by rcases cy with ⟨_,e⟩ | ⟨e,_⟩;(rw [e]);exact absurd ek e
     rw [ux,wy];exact h.last j x hx
    ·rw [if_neg ek] at hp
     have wy:w=y:=by rcases cy with ⟨e,_⟩ | ⟨_,e⟩;exact absurd e ek;exact e
     have:=plc_pos h5 hj ej
     have:=plc_pos h5 hk ek
     rw [ux,wy]
     exact h.ord j k x y hj hk hx hy (by omega)
  ·obtain ⟨x,hx,c⟩:=get j u hu
   show u.ord < K.last+1
   rcases c with ⟨_,rfl⟩ | ⟨_,rfl⟩
   ·show K.last < K.last+1;omega
   ·have:=h.last j u hx;omega
 ·have e0:¬ v.left-1=0:=by rw [v4];omega
  rw [if_neg e0] at sp
  have ht2:(K.ticked.setLeft (i / 3 % n) (v.left-1)).threads=K.threads.modify (i / 3 % n) (fun u=>{ u with left:=v.left-1 }):=rfl
  have tt:K.tick=K.ticked.setLeft (i / 3 % n) (v.left-1):=by
   unfold RM.tick
   rw [sp]
   exact tickTo_id (nt _ _ ht2 rfl (by intro u;rfl)) _
  rw [tt]
  have get:∀ (j:Nat) u,(K.ticked.setLeft (i / 3 % n) (v.left-1)).threads[j]? = some u->∃ x,K.threads[j]? = some x/\u.ord=x.ord:=fun j u hu=>by
   rw [ht2] at hu
   obtain ⟨x,hx,⟨_,rfl⟩ | ⟨_,rfl⟩⟩:=upd_get (K:=K) hu
   ·exact ⟨x,hx,rfl⟩
   ·exact ⟨u,hx,rfl⟩
  have put:∀ (j:Nat) x,K.threads[j]? = some x->(K.ticked.setLeft (i / 3 % n) (v.left-1)).threads[j]? = some (if j=i / 3 % n then { x with left:=v.left-1 } else x):=fun j x hx=>by
   rw [ht2,List.getElem?_modify]
   by_cases e:i / 3 % n=j
   ·rw [hx];simp [e]
   ·rw [hx,if_neg (fun q=>e q.symm)];simp [e]
  have q3:(i+1) / 3=i / 3:=by omega
  refine ⟨by rw [ht2];simp [h.len],fun j hj=>?_,?_,fun j k u w hj hk hu hw hp=>?_,fun j u hu=>?_,by show 0<=K.clock+1;have:=h.clk;omega⟩
  ·obtain ⟨z,hz,z1,z2,z3,z4⟩:=h.th j hj
   refine ⟨_,put j z hz,?_⟩
   rw [q3]
   by_cases e:j=i / 3 % n
   ·rw [if_pos e,if_pos e];exact ⟨z1,z2,z3,by show v.left-1=_;rw [v4];omega⟩
   ·rw [if_neg e,if_neg e];rw [if_neg e] at z4;exact ⟨z1,z2,z3,z4⟩
  ·obtain ⟨z,hz,z1,z2,z3⟩:=h.low
   have e:¬ n=i / 3 % n:=by omega
   exact ⟨z,by rw [put n z hz,if_neg e],z1,z2,z3⟩
  ·rw [plc_same hr,plc_same hr] at hp
   obtain ⟨x,hx,ex⟩:=get j u hu
   obtain ⟨y,hy,ey⟩:=get k w hw
   rw [ex,ey]
   exact h.ord j k x y hj hk hx hy hp
  ·obtain ⟨x,hx,ex⟩:=get j u hu
   rw [ex];exact h.last j x hx
theorem ti_new {n:Nat}(h1:1<=n):TI n 0 (RK.new 1 (tuT n) [] []).up:=by
 have hl:(tuT n).length=n+1:=by simp [tuT]
 have hs:∀ (i:Nat) t,(RK.new 1 (tuT n) [] []).up.threads[i]? = some t->∃ u,(born 0 (tuT n))[i]? = some u/\t=thOf u:=fun i t ht=>by
  have ht2:((born 0 (tuT n)).map thOf)[i]? = some t:=ht
  rw [List.getElem?_map] at ht2
  rcases hx:(born 0 (tuT n))[i]? with _ | u
  ·rw [hx] at ht2;simp at ht2
  ·rw [hx] at ht2;simp at ht2;exact ⟨u,rfl,ht2.symm⟩
 have hlen:(RK.new 1 (tuT n) [] []).up.threads.length=n+1:=by simp [RK.up,RK.new,born_length,hl]
 have ho:∀ (i:Nat) t,(RK.new 1 (tuT n) [] []).up.threads[i]? = some t->t.ord=i/\i < n+1:=fun i t ht=>by
  obtain ⟨u,hu,rfl⟩:=hs i t ht
  have:=born_ord 0 i u hu
  exact ⟨by show u.2.2.1=_;rw [this];simp,by rw [<- hlen];exact (List.getElem?_eq_some_iff.1 ht).1⟩
 have get:∀ j,j < n+1->∃ t,(RK.new 1 (tuT n) [] []).up.threads[j]? = some t/\t.st=1/\t.time=-1/\t.left=3/\t.row=(if j < n then 1 else 0):=fun j hj=>by
  have hj2:j < (RK.new 1 (tuT n) [] []).up.threads.length:=by omega
  refine ⟨_,List.getElem?_eq_getElem hj2,?_⟩
  obtain ⟨u,hu,e⟩:=hs j _ (List.getElem?_eq_getElem hj2)
  obtain ⟨p,hp,e1,e2,e3⟩:=born_at 0 j u hu
  rw [e]
  refine ⟨rfl,rfl,e3,?_⟩
  show u.2.1=_
  rw [e2]
  unfold tuT at hp
  by_cases q:j < n
  ·rw [List.getElem?_append_left (by simpa using q),List.getElem?_replicate,if_pos q] at hp
   cases hp
   rw [if_pos q]
  ·have:j=n:=by omega
   subst this
   rw [List.getElem?_append_right (by simp)] at hp
   simp at hp
   rw [<- hp,if_neg q]
 refine ⟨hlen,fun j hj=>?_,?_,fun j k u w hj hk hu hw hp=>?_,fun j u hu=>?_,by show (0:Int)<=0;omega⟩
 ·obtain ⟨t,ht,t1,t2,t3,t4⟩:=get j (by omega)
  rw [if_pos hj] at t4
  exact ⟨t,ht,t1,t4,t2,by rw [t3];split <;> rfl⟩
 ·obtain ⟨t,ht,t1,t2,t3,t4⟩:=get n (by omega)
  rw [if_neg (by omega)] at t4
  exact ⟨t,ht,t1,t4,t2⟩
 ·have h2:=(ho j u hu).1
  have h3:=(ho k w hw).1
  unfold plc at hp
  simp at hp
  rw [Nat.mod_eq_of_lt hj,Nat.mod_eq_of_lt hk] at hp
  omega
 ·have h2:=ho j u hu
  show u.ord < ((tuT n).length:Int)
  rw [hl];omega
open Go.RowKit
theorem t_oneK (p:Int×Int):∀ u∈tRow p,u.oneCell'=true:=by
 intro u hu;simp [tRow] at hu;rcases hu with rfl | rfl <;> rfl
theorem q_oneK (p:Int×Int×Int×Int):∀ u∈qRow p,u.oneCell'=true:=by
 intro u hu;simp [qRow] at hu;rcases hu with rfl | rfl | rfl | rfl <;> rfl
theorem Sl.inlAny {w:World}{e:TypeId}{size:Nat}{v:Value}{rows:List (List Value)}(h:Sl w e size v rows) (h1:∀ r∈rows,∀ u∈r,u.oneCell'=true) (hl:rows.length<=maxLen):Inl w size v rows:=by
 rcases h.form with ⟨rfl,rfl⟩ | ⟨g,cap,rfl,_⟩
 ·exact ⟨by simp,by simp,none,0,rfl,by simp,.inl rfl⟩
 ·have:=Sl.part h h1 0 rows.length cap (.inr (by omega)) (by simp) hl
  simpa using this
theorem Sl.inlT {w:World}{v:Value}{T:List (Int×Int)}(h:Sl w 34 2 v (T.map tRow)) (hl:T.length<=100):Inl w 2 v (T.map tRow):=
 h.inlAny (by intro r hr;obtain ⟨p,_,rfl⟩:=List.mem_map.1 hr;exact t_oneK p) (by simp;unfold maxLen;omega)
theorem Sl.inlQ {w:World}{e:TypeId}{v:Value}{Q:List (Int×Int×Int×Int)}(h:Sl w e 4 v (Q.map qRow)) (hl:Q.length<=100):Inl w 4 v (Q.map qRow):=
 h.inlAny (by intro r hr;obtain ⟨p,_,rfl⟩:=List.mem_map.1 hr;exact q_oneK p) (by simp;unfold maxLen;omega)
section
variable {Rep:World->Nat->(Nat->Prop)->RM->Prop}(A:ApM Rep)
include A in
theorem turns_any (th ti:Int) (w:World) (hg:Gl w) (h1:-9223372036854775808<=th) (h2:th<=9223372036854775807) (h3:-9223372036854775808<=ti) (h4:ti<=9223372036854775807) :
  Calls Tryz.prog 7 #[.int .i64 th,.int .i64 ti] w fun e w'=>e=.returned (.bool true)/\Below w.heap.size w w':=by
 obtain ⟨i0,hi0,hz0,hz1,hz2⟩:=info_parts Tryz.infoN34
 have P1:=fun w=>pickK_any th 5 w h1 h2 (by omega) (by omega)
 have P2:=fun w=>pickK_any ti 100 w h3 h4 (by omega) (by omega)
 obtain ⟨n0,hn0⟩:=Int.eq_ofNat_of_zero_le (pickI_in th (n:=5) (by omega)).1
 have n5:n0 < 5:=by have:=(pickI_in th (n:=5) (by omega)).2;omega
 obtain ⟨q,hq⟩:=Int.eq_ofNat_of_zero_le (pickI_in ti (n:=100) (by omega)).1
 have q100:q < 100:=by have:=(pickI_in ti (n:=100) (by omega)).2;omega
 rw [hn0] at P1
 rw [hq] at P2
 have HK:=hid (known_any A w hg)
 have HG:=hid hg
 have HP:=hid (And.intro P1 P2)
 clear hn0 hq P1 P2 hg h1 h2 h3 h4
 go_enter Tryz.func7,Tryz.ntmps7
 go_wp2_with fail
 refine HK.out.mono ?_
 rintro e w1 ⟨rfl,B1⟩
 have HB1:=hid B1
 clear B1
 go_wp2_with (go_at_call 16;refine (HP.out.1 _).mono ?_;rintro e w2 ⟨rfl,rfl⟩)
 have C0:=hid (cfg_first (W:=w) 1 HB1.out)
 go_loopw [8] (fun i wr=>∃ (k:Nat) (a:Option Addr) (c:Nat),k<=n0+1/\i=.int .i64 k/\Hid (CfgAt w wr w2.heap.size 1 (List.replicate k (0,1)) [] [] (.slice a k c) (.slice none 0 0) (.slice none 0 0))) (fun i _=>n0+1-(intOf i).toNat)
 case atStart=>exact ⟨0,none,0,Nat.zero_le _,rfl,C0.out⟩
 case round=>
  obtain ⟨k,a,c,hk,rfl,HC⟩:=hrel
  have lc:=HC.out.lt
  have k1:=(HC.out.cell 1).trans (show _=some (Value.slice a k c) from rfl)
  by_cases hkn:k < n0+1
  ·have hkn':(k:Int) < (n0:Int)+1:=by omega
   go_wp2_with (at_builtin;go_must (refine wpList_append_n _ rfl _ _ 28 rfl 34 i0 _ 2 16 Tryz.underlying28 hi0 hz0 hz1 hz2 rfl (by decide) (.slice a k c) ((List.replicate k ((0:Int),(1:Int))).map tRow) rfl (HC.out.below ((Below.refl _ wr).alloc (Nat.le_refl _) _)).sT (some ⟨wr.heap.size,0,none⟩) 1 1 [tRow (0,1)] rfl (inl_row (tRow (0,1)) 34 rfl (t_oneK _)) (k+1) (by simp) (by unfold maxLen;omega) (by omega) ?_);intro a3 c3 w3 G3;obtain ⟨u1,u2,H3⟩:=HC.out.addT ((Fr.refl (fun _=>False) wr).alloc _) G3;replace H3:=hid H3;clear G3)
   refine ⟨⟨k+1,a3,c3,by omega,by go_num,?_⟩,by simp [intOf];omega⟩
   have:=H3.out
   rw [show List.replicate k ((0:Int),(1:Int)) ++ [(0,1)]=List.replicate (k+1) (0,1) by rw [List.replicate_succ']] at this
   exact this
  ·have:k=n0+1:=by omega
   subst this
   go_wp2_with (first
    | (at_builtin;go_must (refine wpList_append_n _ rfl _ _ 28 rfl 34 i0 _ 2 16 Tryz.underlying28 hi0 hz0 hz1 hz2 rfl (by decide) (.slice a (n0+1) c) ((List.replicate (n0+1) ((0:Int),(1:Int))).map tRow) rfl (HC.out.below ((Below.refl _ wr).alloc (Nat.le_refl _) _)).sT (some ⟨wr.heap.size,0,none⟩) 1 1 [tRow (0,0)] rfl (inl_row (tRow (0,0)) 34 rfl (t_oneK _)) (n0+1+1) (by simp) (by unfold maxLen;omega) (by omega) ?_);intro a3 c3 w3 G3;obtain ⟨u1,u2,H3⟩:=HC.out.addT ((Fr.refl (fun _=>False) wr).alloc _) G3;have v0:=(H3.cell 0).trans (show _=some (Value.int .i64 1) from rfl);have v1:=(H3.cell 1).trans (show _=some (Value.slice a3 (n0+1+1) c3) from rfl);have v2:=(H3.cell 2).trans (show _=some (Value.slice none 0 0) from rfl);have v3:=(H3.cell 3).trans (show _=some (Value.slice none 0 0) from rfl);have l3:=H3.lt;replace H3:=hid H3;clear G3))
   have HT:Hid (Calls Tryz.prog 17 #[.agg #[.int .i64 1,.slice a3 (n0+1+1) c3,.slice none 0 0,.slice none 0 0]] (w3.setCell ⟨w2.heap.size,1,none⟩ (.slice a3 (n0+1+1) c3)) _):=boot_any A 1 a3 none none (n0+1+1) 0 0 c3 0 0 (tuT (n0+1)) [] [] _ (HG.out.below H3.out.bel) (H3.out.sT.inlT (by simp;omega)) (H3.out.sP.inlQ (by simp)) (H3.out.sL.inlQ (by simp)) (tu_fits (by omega) (by omega)) 0
   refine HT.out.mono ?_
   rintro e w4 ⟨x,S,rfl,K4,B4⟩
   have H4:=hid (And.intro K4 H3.out.bel)
   clear K4 B4 HT
   go_wp2_with fail
   have hne:((n0:Int)+1 == 0)=false:=by simp;omega
   go_loopw [10] (fun i wq=>∃ (k:Nat) (S':Nat->Prop) (K:RM),k<=q/\i=.int .i64 k/\Hid (KS Rep (w3.setCell ⟨w2.heap.size,1,none⟩ (.slice a3 (n0+1+1) c3)) wq x S' K k/\TI (n0+1) k K)) (fun i _=>q-(intOf i).toNat)
   case atStart=>exact ⟨0,S,_,Nat.zero_le _,rfl,H4.out.1,ti_new (by omega)⟩
   case round=>
    obtain ⟨k,S',K,hk,rfl,HC2⟩:=hrel
    by_cases hkq:k < q
    ·have hkq':(k:Int) < (q:Int):=by omega
     have hcur:=HC2.out.2.cur (by omega)
     have C5:=hid (fun w' (hb:Below wr.heap.size wr w')=>ks_current A (HC2.out.1.below A hb))
     rw [hcur] at C5
     go_wp2_with (go_at_call 16;refine (HP.out.2 _).mono ?_;rintro e w5 ⟨rfl,rfl⟩)
     obtain ⟨cc,hcc⟩:∃ cc,k / 3 % (n0+1)=cc:=⟨_,rfl⟩
     have hc1:((cc:Int) != (k:Int) / 3 % (1+(n0:Int)))=false:=by
      have:(cc:Int)=(k:Int) / 3 % (1+(n0:Int)):=by
       rw [<- hcc,Int.natCast_emod,Int.natCast_ediv,show ((n0+1:Nat):Int)=1+(n0:Int) by omega];rfl
      rw [<- this];simp
     rw [hcc] at C5
     have hb1:((1:Int)+(n0:Int) == 0)=false:=by simp;omega
     clear hcur
     go_region_with (go_at_call 18;refine (C5.out _ ((Below.refl _ _).drew)).mono ?_;rintro e w6 ⟨rfl,_,K6⟩;replace K6:=hid K6)
     all_goals
      go_wp2_with (go_at_call 19;refine (ks_tick A K6.out (by omega)).mono ?_;rintro e w7 ⟨rfl,S7,K7,_⟩;replace K7:=hid K7)
      exact ⟨⟨k+1,S7,K.tick,by omega,by go_num,K7.out,HC2.out.2.tick (by omega) (by omega)⟩,by simp [intOf];omega⟩
    ·go_wp2_with (go_at_call 16;refine (HP.out.2 _).mono ?_;rintro e w5 ⟨rfl,rfl⟩)
     go_ret
     exact ⟨rfl,H4.out.2.trans (HC2.out.1.bel.mono H4.out.2.size)⟩
end
end Go.Proofs.YteejjgbeknnmeaaGreatDoor
