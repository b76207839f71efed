import Derived.Test.YteejjgbeknnmeaaGreatDoorJ01
import Derived.Lib.SliceRun
import Derived.Deep.RegionHeld3
import Derived.Deep.DeepCutAuto
import Derived.Lib.Overlaps
import Derived.Lib.AppendZerosOnto
import Derived.Laws.IdiomCopy
import Derived.Test.YteejjgbeknnmeaaGreatDoorJ05
import Derived.Deep.QuietTactic
import Derived.BigQuiet
import Derived.BigRegion
import Derived.LaidEqlPtr
set_option maxRecDepth 100000
set_option maxHeartbeats 20000000
namespace Go.Proofs.YteejjgbeknnmeaaGreatDoor
open Go.RowKit
def lnRow (t:Nat):List Value:=[.int .i64 t]
theorem Tryz.infoN3:(Tryz.prog.info? 3).map (fun i=>(i.zero,i.size,i.bytes))=some (some (.int .i64 0),1,8):=by kernel_rfl
theorem index_any (v:Value) (l:List Nat) (x:Nat) (w:World) (hs:Sl w 3 1 v (l.map lnRow)) (hl:l.length<=1000) :
  Calls Tryz.prog 159 #[v,.int .i64 x] w fun e w'=>∃ r:Int,e=.returned (.int .i64 r)/\((r=-1/\x ∉ l)\/∃ i:Nat,r=i/\l[i]? = some x)/\w'=w:=by
 obtain ⟨a,c,ev⟩:=hs.slice
 rw [List.length_map] at ev
 subst ev
 obtain ⟨m,hn'⟩:∃ m,l.length=m:=⟨_,rfl⟩
 rw [hn'] at hs hl ⊢
 have HS:=hid hs
 have HN:=hid hn'
 clear hs hn'
 go_enter Tryz.func159,Tryz.ntmps159
 go_wp2
 go_loop [8] (fun i=>∃ k:Nat,k<=m/\i=.int .i64 k/\Hid (∀ (i:Nat) p,i < k->l[i]? = some p->p≠x)) (fun i=>m-(intOf i).toNat)
 case atStart=>exact ⟨0,Nat.zero_le _,rfl,fun i p h=>absurd h (by omega)⟩
 case round=>
  obtain ⟨k,hk,rfl,hno⟩:=hrel
  by_cases hlt:k < m
  ·obtain ⟨p,hp⟩:∃ p,l[k]? = some p:=⟨_,List.getElem?_eq_getElem (by have:=HN.out;omega)⟩
   obtain ⟨g,ea,hx⟩:=HS.out.is_some (by omega)
   clear hx
   subst ea
   have r1:=HS.out.row (i:=k) (r:=[.int .i64 p]) (by rw [List.getElem?_map,hp];rfl)
   have g0:=r1 0 (.int .i64 p) rfl
   simp only [Nat.add_zero,Nat.mul_one] at g0
   have HP:=hid hp
   clear r1 hp
   by_cases f0:p=x
   ·have d0:((x:Int) == (p:Int))=true:=by simp [f0]
    have F:=hid f0
    clear f0
    go_wp2
    go_ret
    exact ⟨_,rfl,.inr ⟨k,rfl,F.out ▸ HP.out⟩,rfl⟩
   ·have d0:((x:Int) == (p:Int))=false:=by simp;omega
    have F:=hid f0
    clear f0
    go_wp2
    refine ⟨⟨k+1,by omega,by go_num,?_⟩,by simp [intOf];omega⟩
    intro i q hi hq
    by_cases e:i < k
    ·exact hno.out i q e hq
    ·have:i=k:=by omega
     subst this
     have:=HP.out
     rw [this] at hq;cases hq
     exact F.out
  ·go_wp2
   go_ret
   refine ⟨_,rfl,.inl ⟨rfl,fun hm=>?_⟩,rfl⟩
   obtain ⟨i,hi⟩:=List.mem_iff_getElem?.1 hm
   exact hno.out i x (by have:=(List.getElem?_eq_some_iff.1 hi).1;have:=HN.out;omega) hi rfl
theorem flat_take:∀ (rows:List (List Value)) (k:Nat),(∀ r∈rows,r.length=1)->(rows.take k).flatten=rows.flatten.take k
 | [],k,_=>by simp
 | r :: rs,0,_=>by simp
 | r :: rs,k+1,h=>by
  have hr:=h r (by simp)
  obtain ⟨v,rfl⟩:∃ v,r=[v]:=by
   match r,hr with
   | [v],_=>exact ⟨v,rfl⟩
  simp [flat_take rs k (fun r hr=>h r (by simp [hr]))]
theorem flat_drop:∀ (rows:List (List Value)) (k:Nat),(∀ r∈rows,r.length=1)->(rows.drop k).flatten=rows.flatten.drop k
 | [],k,_=>by simp
 | r :: rs,0,_=>by simp
 | r :: rs,k+1,h=>by
  have hr:=h r (by simp)
  obtain ⟨v,rfl⟩:∃ v,r=[v]:=by
   match r,hr with
   | [v],_=>exact ⟨v,rfl⟩
  simp [flat_drop rs k (fun r hr=>h r (by simp [hr]))]
section
variable {P:Program}(w:World)
theorem run_delete (t ty e:TypeId) (i0:TypeInfo) (ht:P.underlying t=some (.slice e)) (hi:P.info? e=some i0) (hsize:i0.size=1) (g n cap:Nat) (rows:List (List Value)) (hs:Sl w e 1 (.slice (some ⟨g,0,none⟩) n cap) rows)
  (h1:∀ r∈rows,∀ u∈r,u.oneCell'=true) (i:Nat) (hin:i < n) (a:Addr) (c:Nat) (ha:i+1 < n->a=⟨g,i+1,none⟩) :
  ∃ w1,(Builtin.append_ #[t,t] ty #[.slice (some ⟨g,0,none⟩) i cap,.slice (some a) (n-(i+1)) c]).run P w=.ok (.slice (some ⟨g,0,none⟩) (n-1) cap) w1 /\
   Sl w1 e 1 (.slice (some ⟨g,0,none⟩) (n-1) cap) (rows.eraseIdx i)/\w.grownBy w1 (some g)/\(∃ u,w1.cell? ⟨g,n-1,none⟩=some u)/\w1.frozen? ⟨g,n-1,none⟩=false:=by
 have hn:=hs.n_eq
 have hfl:=flatten_len rows hs.len
 rcases hs.own.2 with ⟨hx,_⟩ | ⟨g',cap',cur,hx,_,hg,h3,h4,h5,h6⟩
 ·simp at hx
 ·simp only [Value.slice.injEq,Option.some.injEq,Addr.mk.injEq,and_true] at hx
  obtain ⟨rfl,_,rfl⟩:=hx
  rw [<- hn] at h3 h6
  rw [Nat.mul_one] at h5 h6 hfl
  have hnl:(rows.flatten.drop (i+1)).length=n-(i+1):=by rw [List.length_drop,hfl,hn]
  have hcell:∀ (j:Nat) (u:Value),j < n->rows.flatten[j]? = some u->w.cell? ⟨g,j,none⟩=some u:=by
   intro j u hj hu
   rw [cell_of_row w g j _ _ _ hg]
   rw [<- h6,List.getElem?_take_of_lt hj] at hu
   simpa using hu
  have hnews:∀ (j:Nat) (u:Value),(rows.flatten.drop (i+1))[j]? = some u->w.cell? (a.add j)=some u:=by
   intro j u hu
   have hj:j < (rows.flatten.drop (i+1)).length:=(List.getElem?_eq_some_iff.1 hu).1
   rw [hnl] at hj
   rw [ha (by omega)]
   rw [List.getElem?_drop] at hu
   rw [Addr.add_mid]
   exact hcell (i+1+j) u (by omega) hu
  have hone:∀ u∈rows.flatten.drop (i+1),u.oneCell'=true:=by
   intro u hu
   obtain ⟨r,hr,hur⟩:=List.mem_flatten.1 (List.mem_of_mem_drop hu)
   exact h1 r hr u hur
  have hr:=run_append_room (P:=P) w t ty e i0 ht hi g i cap cur hg a (n-(i+1)) c (rows.flatten.drop (i+1)) (by rw [hnl,hsize,Nat.mul_one]) hnews hone (by omega) (by rw [hnl,hsize,Nat.mul_one];omega)
  rw [hsize,Nat.mul_one,hnl,show i+(n-(i+1))=n-1 by omega] at hr
  have hcl:cur.toList.length=cap:=by rw [Array.length_toList,h5]
  refine ⟨_,hr,⟨⟨?_,.inr ⟨g,cap,_,?_,Nat.zero_le _,setRow_heap w g cur _ e _ hg,?_,h4,?_,?_⟩⟩,fun r hr=>hs.len r (List.mem_of_mem_eraseIdx hr)⟩,grown_setRow w g _,?_,?_⟩
  ·rw [flatten_len (rows.eraseIdx i) (fun r hr=>hs.len r (List.mem_of_mem_eraseIdx hr))]
  ·rw [List.length_eraseIdx_of_lt (by omega),<- hn]
  ·rw [List.length_eraseIdx_of_lt (by omega),<- hn];omega
  ·rw [Nat.mul_one,List.size_toArray,List.length_append,List.length_append,hnl,List.length_take,List.length_drop,hcl];omega
  ·rw [List.length_eraseIdx_of_lt (by omega),<- hn,Nat.mul_one,List.eraseIdx_eq_take_drop_succ,List.flatten_append,flat_take rows i hs.len,flat_drop rows (i+1) hs.len]
   show List.take (n-1) (List.take i cur.toList ++ rows.flatten.drop (i+1) ++ List.drop (n-1) cur.toList)=_
   have e1:List.take i cur.toList=rows.flatten.take i:=by rw [<- h6,List.take_take,Nat.min_eq_left (by omega)]
   rw [e1,List.take_append_of_le_length (by rw [List.length_append,hnl,List.length_take,hfl,<- hn];omega)]
   rw [List.take_of_length_le (by rw [List.length_append,hnl,List.length_take,hfl,<- hn];omega)]
  ·rw [cell_of_row _ g (n-1) _ _ _ (setRow_heap w g cur _ e _ hg)]
   refine ⟨_,Array.getElem?_eq_getElem ?_⟩
   rw [List.size_toArray,List.length_append,List.length_append,hnl,List.length_take,List.length_drop,hcl];omega
  ·unfold World.frozen?
   rw [setRow_heap w g cur _ e _ hg]
   simp
theorem step_delete {ops:Array Oper}{o:Oper}{ac:Act}{K:Act->World->Prop}{Q:Exit->Act->World->Prop}{E:Prop}(hgd:o.guard=none) (s x:Operand) (t:TypeId)
  (ho:o.op=.call { callee:=.builtin .append,args:=#[s,x],argTypes:=#[t,t] }) (e:TypeId) (i0:TypeInfo) (ht:P.underlying t=some (.slice e)) (hi:P.info? e=some i0) (hsize:i0.size=1) (g n cap:Nat) (rows:List (List Value)) (hs:Sl w e 1 (.slice (some ⟨g,0,none⟩) n cap) rows)
  (h1:∀ r∈rows,∀ u∈r,u.oneCell'=true) (i:Nat) (hin:i < n) (a:Addr) (m c:Nat) (hm:m=n-(i+1)) (ha:i+1 < n->a=⟨g,i+1,none⟩) (hsv:ac.eval s=.slice (some ⟨g,0,none⟩) i cap) (hxv:ac.eval x=.slice (some a) m c)
  (h:∀ w1,Sl w1 e 1 (.slice (some ⟨g,0,none⟩) (n-1) cap) (rows.eraseIdx i)/\w.grownBy w1 (some g)/\(∃ u,w1.cell? ⟨g,n-1,none⟩=some u)/\w1.frozen? ⟨g,n-1,none⟩=false->K (ac.put o.dst (.slice (some ⟨g,0,none⟩) (n-1) cap)) w1) :
  if Region.wanted o (yielded ops ac.tmps)=true then Oper.wp P o ac w K Q else E:=by
 subst hm
 obtain ⟨w1,hr,hG⟩:=run_delete (P:=P) w t o.type e i0 ht hi hsize g n cap rows hs h1 i hin a c ha
 have hw:Region.wanted o (yielded ops ac.tmps)=true:=by simp [Region.wanted,hgd]
 rw [if_pos hw]
 unfold Oper.wp
 simp [execOp,ho,resolve,invoke,builtin,hsv,hxv,hr,Result.andThen]
 exact h w1 hG
theorem wpList_clear1 {ops:Array Oper}{rest:List Oper}{o:Oper}{ac:Act}{Q:Exit->Act->World->Prop}(hgd:o.guard=none) (s:Operand) (t:TypeId)
  (ho:o.op=.call { callee:=.builtin .clear,args:=#[s],argTypes:=#[t] }) (e:TypeId) (z:Value) (ht:P.underlying t=some (.slice e)) (hv:∀ w,(zeroValue e).run P w=.ok z w) (hz:z.cells=#[z]) (h1:z.oneCell'=true) (g b m c:Nat) (hm:m=1) (hsv:ac.eval s=.slice (some ⟨g,b,none⟩) m c)
  (hc:∃ u,w.cell? ⟨g,b,none⟩=some u) (hf:w.frozen? ⟨g,b,none⟩=false)
  (h:wpList P ops Q rest (ac.put o.dst (.tuple #[])) (w.setCells g b [z])):wpList P ops Q (o :: rest) ac w:=by
 subst hm
 obtain ⟨u,hu⟩:=hc
 have hcc:∀ j,j < 1->(w.cell? ⟨g,b+j,none⟩).isSome=true:=by
  intro j hj
  obtain rfl:j=0:=by omega
  simp [hu]
 have hff:∀ j,j < 1->w.frozen? ⟨g,b+j,none⟩=false:=by
  intro j hj
  obtain rfl:j=0:=by omega
  simpa using hf
 have hr:=Go.Lib.run_clear_slice (P:=P) w t e o.type z ht hv hz h1 g b 1 c (by omega) hcc hff
 refine wpList_plain hgd fun K hK=>?_
 unfold Oper.wp
 simp [execOp,ho,resolve,invoke,builtin,hsv,hr,Result.andThen]
 exact hK _ _ h
end
open Go.RowKit
theorem Tryz.zero3 (w:World):(zeroValue 3).run Tryz.prog w=.ok (.int .i64 0) w:=by kernel_rfl
theorem ln_one (l:List Nat):∀ r∈l.map lnRow,∀ u∈r,u.oneCell'=true:=by
 intro r hr u hu
 obtain ⟨t,_,rfl⟩:=List.mem_map.1 hr
 simp [lnRow] at hu
 subst hu
 rfl
theorem del_end {w w1:World}{g n cap i:Nat}{l:List Nat}(h:Sl w1 3 1 (.slice (some ⟨g,0,none⟩) n cap) ((l.map lnRow).eraseIdx i)) (hg:w.grownBy w1 (some g)) :
  Ending.returned (.slice (some ⟨g,0,none⟩) n cap)=.returned (.slice (some ⟨g,0,none⟩) n cap)/\Sl (w1.setCells g n [.int .i64 0]) 3 1 (.slice (some ⟨g,0,none⟩) n cap) ((l.eraseIdx i).map lnRow)/\w.grownBy (w1.setCells g n [.int .i64 0]) (some g):=by
 have hn:=h.n_eq
 have e:(l.map lnRow).eraseIdx i=(l.eraseIdx i).map lnRow:=by simp [List.eraseIdx_eq_take_drop_succ]
 rw [e] at h hn
 subst hn
 have h2:=setCells_owns [.int .i64 0] ((l.eraseIdx i).map lnRow).length w1 _ h.own
 have hl:=flatten_len ((l.eraseIdx i).map lnRow) h.len
 have e2:setAt ((l.eraseIdx i).map lnRow).flatten ((l.eraseIdx i).map lnRow).length [.int .i64 0]=((l.eraseIdx i).map lnRow).flatten:=by
  simp only [setAt]
  rw [List.set_eq_of_length_le (by rw [hl];omega)]
 rw [e2] at h2
 refine ⟨rfl,⟨h2.1,h.len⟩,?_⟩
 have a:=hg
 have b:=h2.2
 exact ⟨b.os.trans a.os,b.tape.trans a.tape,b.output.trans a.output,Nat.le_trans a.size b.size,fun k hk hne=>(b.block k (Nat.lt_of_lt_of_le hk a.size) hne).trans (a.block k hk hne)⟩
theorem delete_any (g n cap:Nat) (l:List Nat) (i:Nat) (w:World) (hs:Sl w 3 1 (.slice (some ⟨g,0,none⟩) n cap) (l.map lnRow)) (hl:n<=1000) (hi:i < n) (hcap:n<=cap) (hcm:cap<=9223372036854775807) :
  Calls Tryz.prog 160 #[.slice (some ⟨g,0,none⟩) n cap,.int .i64 i,.int .i64 (i+1)] w fun e w'=>e=.returned (.slice (some ⟨g,0,none⟩) (n-1) cap)/\Sl w' 3 1 (.slice (some ⟨g,0,none⟩) (n-1) cap) ((l.eraseIdx i).map lnRow)/\w.grownBy w' (some g):=by
 obtain ⟨i0,hi0,hz0,hz1,hz2⟩:=info_parts Tryz.infoN3
 have HS:=hid hs
 have hz:=Tryz.zero3
 have b1:((i:Int) == (i:Int)+1)=false:=by simp;omega
 clear hs
 by_cases hc:cap=i+1
 ·have hn:n=i+1:=by omega
  subst hc hn
  have q1:(i:Int)<=(i:Int)+1:=by omega
  have q4:0<=(i:Int)+1:=by omega
  go_enter Tryz.func160,Tryz.ntmps160
  go_wp2_with fail
  go_region_law (refine step_delete _ rfl (.tmp 22) (.tmp 25) 24 rfl 3 i0 Tryz.underlying24 hi0 hz1 g (i+1) (i+1) (l.map lnRow) HS.out.drew (ln_one l) i (by omega) ⟨g,0,none⟩ 0 0 (by omega) (fun h=>absurd h (by omega)) (by simp [Act.eval,Act.put]) (by simp [Act.eval,Act.put]) ?_;intro w1 HG;rw [Nat.add_sub_cancel] at HG;replace HG:=hid HG)
  all_goals
   have hcc:=HG.out.2.2.1
   have hff:=HG.out.2.2.2
   go_wp2_with (with_reducible (show wpList _ _ _ (⟨_,.call { callee:=.builtin .clear,args:=#[_],argTypes:=#[24] },_,_,_,none⟩ :: _) _ _);go_must (refine wpList_clear1 _ rfl (.tmp 31) 24 rfl 3 (.int .i64 0) Tryz.underlying24 hz rfl rfl g i 1 1 rfl (by simp [Act.eval]) hcc hff ?_))
   go_ret
   exact del_end HG.out.1 ⟨HG.out.2.1.os,HG.out.2.1.tape,HG.out.2.1.output,HG.out.2.1.size,HG.out.2.1.block⟩
 ·have q1:i<=cap:=by omega
  have q2:(i:Int)+1<=(n:Int):=by omega
  have q3:i+1<=n:=by omega
  have q4:0<=(i:Int)+1:=by omega
  have q5:((i:Int)+1).toNat=i+1:=by omega
  go_enter Tryz.func160,Tryz.ntmps160
  go_wp2_with fail
  go_region_law (refine step_delete _ rfl (.tmp 22) (.tmp 25) 24 rfl 3 i0 Tryz.underlying24 hi0 hz1 g n cap (l.map lnRow) HS.out.drew (ln_one l) i (by omega) ⟨g,i+1,none⟩ (n-(i+1)) (cap-(i+1)) (by omega) (fun _=>rfl) (by simp [Act.eval,Act.put]) (by simp [Act.eval,Act.put]) ?_;intro w1 HG;replace HG:=hid HG)
  all_goals
   have hcc:=HG.out.2.2.1
   have hff:=HG.out.2.2.2
   have q6:¬ cap=n-1:=by omega
   have q7:n-1<=n:=by omega
   go_wp2_with (with_reducible (show wpList _ _ _ (⟨_,.call { callee:=.builtin .clear,args:=#[_],argTypes:=#[24] },_,_,_,none⟩ :: _) _ _);go_must (refine wpList_clear1 _ rfl (.tmp 31) 24 rfl 3 (.int .i64 0) Tryz.underlying24 hz rfl rfl g (n-1) (n-(n-1)) (cap-(n-1)) (by omega) (by simp [Act.eval]) hcc hff ?_))
   go_ret
   exact del_end HG.out.1 ⟨HG.out.2.1.os,HG.out.2.1.tape,HG.out.2.1.output,HG.out.2.1.size,HG.out.2.1.block⟩
theorem erase_idx:∀ {l:List Nat}{i x:Nat},l[i]? = some x->l.Nodup->l.eraseIdx i=l.erase x
 | [],i,x,h,_=>by simp at h
 | y :: r,0,x,h,_=>by simp at h;subst h;simp
 | y :: r,i+1,x,h,hn=>by
  simp at h
  have hm:x∈r:=List.mem_of_getElem? h
  have hy:y≠x:=fun e=>(List.nodup_cons.1 hn).1 (e ▸ hm)
  rw [List.erase_cons_tail (by simpa using hy),List.eraseIdx_cons_succ,erase_idx h (List.nodup_cons.1 hn).2]
open Go.RowKit
theorem Sl.cap {w:World}{e:TypeId}{size g n cap:Nat}{rows:List (List Value)}(h:Sl w e size (.slice (some ⟨g,0,none⟩) n cap) rows):n<=cap/\cap<=maxLen:=by
 rcases h.own.2 with ⟨hx,_⟩ | ⟨g',cap',cur,hx,_,hg,h3,h4,h5,h6⟩
 ·simp at hx
 ·simp only [Value.slice.injEq,Option.some.injEq,Addr.mk.injEq,and_true] at hx
  obtain ⟨rfl,h,rfl⟩:=hx
  rw [<- h] at h3
  exact ⟨h3,h4⟩
theorem index_no (v:Value) (l:List Nat) (x:Nat) (w:World) (hs:Sl w 3 1 v (l.map lnRow)) (hl:l.length<=1000) (hx:x ∉ l) :
  Calls Tryz.prog 159 #[v,.int .i64 x] w fun e w'=>e=.returned (.int .i64 (-1))/\w'=w:=by
 refine (index_any v l x w hs hl).mono ?_
 rintro e w' ⟨r,rfl,hr,rfl⟩
 rcases hr with ⟨rfl,_⟩ | ⟨i,_,hi⟩
 ·exact ⟨rfl,rfl⟩
 ·exact absurd (List.mem_of_getElem? hi) hx
theorem index_yes (v:Value) (l:List Nat) (x i:Nat) (w:World) (hs:Sl w 3 1 v (l.map lnRow)) (hl:l.length<=1000) (hx:l[i]? = some x) (hn:l.Nodup) :
  Calls Tryz.prog 159 #[v,.int .i64 x] w fun e w'=>e=.returned (.int .i64 i)/\w'=w:=by
 refine (index_any v l x w hs hl).mono ?_
 rintro e w' ⟨r,rfl,hr,rfl⟩
 rcases hr with ⟨rfl,h⟩ | ⟨j,rfl,hi⟩
 ·exact absurd (List.mem_of_getElem? hx) h
 ·have h1:=(List.getElem?_eq_some_iff.1 hx).1
  have:i=j:=(List.getElem?_inj h1 hn).1 (hx.trans hi.symm)
  subst this
  exact ⟨rfl,rfl⟩
theorem set_same {cs:Array Value}{off:Nat}{v:Value}(h:cs[off]? = some v):cs.setIfInBounds off v=cs:=by
 obtain ⟨hi,rfl⟩:=Array.getElem?_eq_some_iff.1 h
 exact Array.ext_getElem? (fun j=>by
  rw [Array.getElem?_setIfInBounds]
  split
  ·rename_i e;subst e;simp [hi]
  ·rfl)
theorem leave_any (x off:Nat) (v:Value) (l:List Nat) (t:Nat) (cs:Array Value) (ty:TypeId) (w:World) (hb:w.heap[x]? = some (.cells cs ty (0,0))) (hv:cs[off]? = some v) (hs:Sl w 3 1 v (l.map lnRow)) (hl:l.length<=1000) (hn:l.Nodup) (hne:v.ownBlock≠some x) :
  Calls Tryz.prog 124 #[.pointer (some ⟨x,off,none⟩),.int .i64 t] w fun e w'=>e=.returned (.tuple #[])/\∃ v',w'.heap[x]? = some (.cells (cs.setIfInBounds off v') ty (0,0))/\Sl w' 3 1 v' ((l.erase t).map lnRow)/\Fr (fun k=>k=x\/v.ownBlock=some k) w w'/\v'.ownBlock=v.ownBlock:=by
 have hc:w.cell? ⟨x,off,none⟩=some v:=(cell_of_row w x off _ _ _ hb).trans hv
 have hf:w.frozen? ⟨x,off,none⟩=false:=frozen_of_row w x off _ _ hb
 obtain ⟨a,c,ev⟩:=hs.slice
 rw [List.length_map] at ev
 subst ev
 obtain ⟨m,hm⟩:∃ m,l.length=m:=⟨_,rfl⟩
 rw [hm] at hs hl hc hne hv
 have HA:=hid (And.intro hs (And.intro hb (And.intro hn (And.intro hm (And.intro hne hv)))))
 clear hs hb hn hne hv
 rw [hm]
 clear hm
 by_cases hnm:t∈l
 ·obtain ⟨i,hi⟩:=List.mem_iff_getElem?.1 hnm
  have HI:=hid hi
  have hil:i < m:=by rw [<- HA.out.2.2.2.1];exact (List.getElem?_eq_some_iff.1 hi).1
  clear hi hnm
  obtain ⟨g,ea,hx⟩:=HA.out.1.is_some (by omega)
  clear hx
  subst ea
  have hcp:=HA.out.1.cap
  have hc1:=hcp.1
  have hc2:c<=9223372036854775807:=by have:=hcp.2;unfold maxLen at this;omega
  clear hcp
  go_enter Tryz.func124,Tryz.ntmps124
  go_wp2_with (first
   | (go_at_call 159;refine (index_yes (.slice (some ⟨g,0,none⟩) m c) l t i _ ?_ ?_ ?_ ?_).mono ?_;exact HA.out.1;exact HA.out.2.2.2.1 ▸ hl;exact HI.out;exact HA.out.2.2.1;rintro e w1 ⟨rfl,rfl⟩)
   | (go_at_call 160;refine (delete_any g m c l i _ ?_ ?_ ?_ ?_ ?_).mono ?_;exact HA.out.1;exact hl;exact hil;exact hc1;exact hc2;rintro e w2 ⟨rfl,H2⟩;replace H2:=hid H2;have hf2:=frozen_of_row w2 x off _ _ ((H2.out.2.block x (Array.getElem?_eq_some_iff.1 HA.out.2.1).1 (fun h=>HA.out.2.2.2.2.1 h.symm)).trans HA.out.2.1);have hc3:=(cell_of_row w2 x off _ _ _ ((H2.out.2.block x (Array.getElem?_eq_some_iff.1 HA.out.2.1).1 (fun h=>HA.out.2.2.2.2.1 h.symm)).trans HA.out.2.1)).trans HA.out.2.2.2.2.2))
  go_end0
  have hb2:=(H2.out.2.block x (Array.getElem?_eq_some_iff.1 HA.out.2.1).1 (fun h=>HA.out.2.2.2.2.1 h.symm)).trans HA.out.2.1
  have F1:Fr (fun k=>k=x\/Value.ownBlock (.slice (some ⟨g,0,none⟩) m c)=some k) w1 w2:=(Fr.grown H2.out.2).mono (fun k _ h=>.inr (by simpa [Value.ownBlock] using h))
  have F2:Fr (fun k=>k=x) w2 (w2.setCell ⟨x,off,none⟩ (.slice (some ⟨g,0,none⟩) (m-1) c)):=(Fr.refl (fun k=>k=x) w2).setCell (p:=⟨x,off,none⟩) (fun _=>rfl) _
  refine ⟨rfl,.slice (some ⟨g,0,none⟩) (m-1) c,heap_setCell_same w2 x off cs ty _ hb2,?_,F1.trans (F2.mono (fun k _ h=>.inl h)),rfl⟩
  rw [<- erase_idx HI.out HA.out.2.2.1]
  exact H2.out.1.kept F2 (fun k hk h=>HA.out.2.2.2.2.1 (by rw [<- h];exact hk))
 ·have HN:=hid hnm
  clear hnm
  go_enter Tryz.func124,Tryz.ntmps124
  go_wp2_with (go_at_call 159;refine (index_no (.slice a m c) l t _ ?_ ?_ ?_).mono ?_;exact HA.out.1;exact HA.out.2.2.2.1 ▸ hl;exact HN.out;rintro e w1 ⟨rfl,rfl⟩)
  go_end0
  refine ⟨rfl,.slice a m c,?_,?_,Fr.refl _ _,rfl⟩
  ·rw [set_same HA.out.2.2.2.2.2];exact HA.out.2.1
  ·rw [List.erase_of_not_mem HN.out];exact HA.out.1
theorem comeLast_any (x off:Nat) (v:Value) (l:List Nat) (t:Nat) (cs:Array Value) (ty:TypeId) (w:World) (hb:w.heap[x]? = some (.cells cs ty (0,0))) (hv:cs[off]? = some v) (hs:Sl w 3 1 v (l.map lnRow)) (hl:l.length<=1000) (hn:l.Nodup) (hne:v.ownBlock≠some x) :
  Calls Tryz.prog 131 #[.pointer (some ⟨x,off,none⟩),.int .i64 t] w fun e w'=>e=.returned (.tuple #[])/\∃ v',w'.heap[x]? = some (.cells (cs.setIfInBounds off v') ty (0,0))/\Sl w' 3 1 v' ((l.erase t ++ [t]).map lnRow)/\Fr (fun k=>k=x\/v.ownBlock=some k) w w'/\∀ k,v'.ownBlock=some k->w.heap.size<=k\/v.ownBlock=some k:=by
 obtain ⟨i0,hi0,hz0,hz1,hz2⟩:=info_parts Tryz.infoN3
 have hbl:=(Array.getElem?_eq_some_iff.1 hb).1
 have hlo:off < cs.size:=(Array.getElem?_eq_some_iff.1 hv).1
 have HA:=hid (And.intro hs (And.intro hb (And.intro hn (And.intro hl (And.intro hne hv)))))
 clear hs hb hn hl hne hv
 go_enter Tryz.func131,Tryz.ntmps131
 go_wp2_with fail
 go_at_call 124
 refine (leave_any x off v l t cs ty _ HA.out.2.1 HA.out.2.2.2.2.2 HA.out.1 HA.out.2.2.2.1 HA.out.2.2.1 HA.out.2.2.2.2.1).mono ?_
 rintro e w1 ⟨rfl,v1,H1⟩
 have hsl:=H1.2.1.slice
 rw [List.length_map] at hsl
 obtain ⟨a1,c1,rfl⟩:=hsl
 obtain ⟨m,hm⟩:∃ m,(l.erase t).length=m:=⟨_,rfl⟩
 rw [hm] at H1
 have hml:m<=1000:=by (have:=HA.out.2.2.2.1;have:=List.length_erase_le (a:=t) (l:=l);omega)
 replace H1:=hid (And.intro H1 hm)
 clear hm
 have hc1:w1.cell? ⟨x,off,none⟩=some (.slice a1 m c1):=(cell_of_row w1 x off _ _ _ H1.out.1.1).trans (by simp [hlo])
 have hbl1:=(Array.getElem?_eq_some_iff.1 H1.out.1.1).1
 have n1:Hid (Value.ownBlock (.slice a1 m c1)≠some x):=(by rw [H1.out.1.2.2.2];exact HA.out.2.2.2.2.1)
 go_wp2_with (at_builtin;go_must (refine wpList_append_sl _ rfl _ _ 24 rfl 3 i0 _ 1 8 Tryz.underlying24 hi0 hz0 hz1 hz2 rfl (by decide) (.slice a1 m c1) ((l.erase t).map lnRow) rfl (H1.out.1.2.1.alloc _) ⟨w1.heap.size,0,none⟩ 1 1 [[.int .i64 t]] rfl rfl (by decide) (by simp) (fun j u h=>cell_news w1 #[.int .i64 t] 3 j u (by simpa using h)) (fun u hu=>by simp at hu;subst hu;rfl) (by have:=H1.out.2;rw [List.length_map];unfold maxLen;omega) (by have:=H1.out.2;rw [List.length_map];omega) ?_);intro a4 c4 w4 G4;have hb4:Hid (w4.heap[x]? = some (.cells (cs.setIfInBounds off (.slice a1 m c1)) ty (0,0))):=(G4.old (by simp;omega) n1.out).trans (((Fr.refl (fun _=>False) w1).alloc _).block _ hbl1 id |>.trans H1.out.1.1);have hc4:w4.cell? ⟨x,off,none⟩=some (.slice a1 m c1):=(cell_of_row w4 _ off _ _ _ hb4.out).trans (by simp [hlo]);have hf4:w4.frozen? ⟨x,off,none⟩=false:=frozen_of_row _ _ _ _ _ hb4.out)
 go_end0
 rw [List.length_map] at G4
 generalize hv4:Value.slice a4 ((l.erase t).length+1) c4=v4 at G4 ⊢
 have F4:Fr (fun k=>k=x\/v.ownBlock=some k) w1 w4:=G4.fr ((Fr.refl _ w1).alloc _) (fun k hk _=>.inr (by rw [<- H1.out.1.2.2.2];exact hk))
 have F5:Fr (fun k=>k=x) w4 (w4.setCell ⟨x,off,none⟩ v4):=(Fr.refl (fun k=>k=x) w4).setCell (p:=⟨x,off,none⟩) (fun _=>rfl) _
 have hn4:∀ k,v4.ownBlock=some k->w.heap.size<=k\/v.ownBlock=some k:=by
  intro k hk
  rcases G4.at_ k hk with h | h
  ·left
   have:=H1.out.1.2.2.1.size
   simp at h
   omega
  ·right;rw [<- H1.out.1.2.2.2];exact h
 refine ⟨rfl,v4,?_,?_,(H1.out.1.2.2.1.trans F4).trans (F5.mono (fun k _ h=>.inl h)),hn4⟩
 ·have:=heap_setCell_same w4 x off _ ty v4 hb4.out
  rwa [Array.setIfInBounds_setIfInBounds] at this
 ·have h:=G4.sl
  rw [List.map_append]
  exact h.kept F5 (fun k hk e=>by
   subst e
   rcases hn4 _ hk with h | h
   ·omega
   ·exact HA.out.2.2.2.2.1 h)
open Go.RowKit
def allB (_:Nat):Bool:=true
def ixq (q:Nat->Bool):List Nat->Nat->Int
 | [],_=>-1
 | y :: r,k=>if q y=true then (k:Int) else ixq q r (k+1)
theorem ixq_at {q:Nat->Bool}:∀ {l:List Nat}{k p:Nat}(j:Nat),l[k]? = some p->q p=true->(∀ (i:Nat) z,i < k->l[i]? = some z->q z=false)->ixq q l j=(j:Int)+(k:Int)
 | [],k,p,_,h,_,_=>by simp at h
 | y :: r,0,p,j,h,hq,_=>by simp at h;subst h;simp [ixq,hq]
 | y :: r,k+1,p,j,h,hq,hn=>by
  have h0:=hn 0 y (by omega) rfl
  have:=ixq_at (l:=r) (k:=k) (j+1) (by simpa using h) hq (fun i z hi hz=>hn (i+1) z (by omega) (by simpa using hz))
  simp only [ixq,h0]
  simp only [Bool.false_eq_true,if_false]
  omega
theorem ixq_none {q:Nat->Bool}:∀ {l:List Nat}(j:Nat),(∀ z∈l,q z=false)->ixq q l j=-1
 | [],_,_=>rfl
 | y :: r,j,h=>by
  simp only [ixq,h y (by simp)]
  exact ixq_none (j+1) (fun z hz=>h z (by simp [hz]))
theorem ixq_find (q:Nat->Bool):∀ (l:List Nat) (j:Nat),(ixq q l j=-1/\l.find? q=none)\/∃ (k s:Nat),ixq q l j=(j:Int)+(k:Int)/\l[k]? = some s/\l.find? q=some s
 | [],_=>.inl ⟨rfl,rfl⟩
 | y :: r,j=>by
  cases hy:q y with
  | true=>exact .inr ⟨0,y,by simp [ixq,hy],rfl,by simp [hy]⟩
  | false=>
   rcases ixq_find q r (j+1) with ⟨a,b⟩ | ⟨k,s,a,b,c⟩
   ·exact .inl ⟨by simp only [ixq,hy];exact a,by simp [hy,b]⟩
   ·refine .inr ⟨k+1,s,?_,by simpa using b,by simp [hy,c]⟩
    simp only [ixq,hy]
    simp only [Bool.false_eq_true,if_false]
    omega
theorem always_any (t:Nat) (w:World):Calls Tryz.prog 123 #[.int .i64 t] w fun e w'=>e=.returned (.bool (allB t))/\w'=w:=by
 rw [show allB t=true from rfl]
 go_enter Tryz.func123,Tryz.ntmps123
 go_wp2
 go_ret
 exact ⟨rfl,rfl⟩
def hearsB (frm:Int) (i:Nat):Bool:=frm == -1 || frm == (i:Int)
theorem hears_any (g o:Nat) (frm:Int) (t:Nat) (w:World) (h:w.cell? ⟨g,o+4,none⟩=some (.int .i64 frm)):Calls Tryz.prog 133 #[.pointer (some ⟨g,o,none⟩),.int .i64 t] w fun e w'=>e=.returned (.bool (hearsB frm t))/\w'=w:=by
 unfold hearsB
 cases h1:(frm == -1) with
 | true=>
  have H:=hid h1
  go_enter Tryz.func133,Tryz.ntmps133
  go_wp2
  go_ret
  exact ⟨rfl,rfl⟩
 | false=>
  cases h2:(frm == (t:Int)) with
  | true=>
   go_enter Tryz.func133,Tryz.ntmps133
   go_wp2
   go_ret
   exact ⟨rfl,rfl⟩
  | false=>
   go_enter Tryz.func133,Tryz.ntmps133
   go_wp2
   go_ret
   exact ⟨rfl,rfl⟩
theorem indexAll (v:Value) (l:List Nat) (w:World) (hs:Sl w 3 1 v (l.map lnRow)) (hl:l.length<=1000) :
  Calls Tryz.prog 158 #[v,.func (.func 123) #[] #[]] w fun e w'=>e=.returned (.int .i64 (ixq (allB) l 0))/\w'=w:=by
 obtain ⟨a,c,ev⟩:=hs.slice
 rw [List.length_map] at ev
 subst ev
 obtain ⟨m,hn'⟩:∃ m,l.length=m:=⟨_,rfl⟩
 rw [hn'] at hs hl ⊢
 have HS:=hid hs
 have HN:=hid hn'
 clear hs hn'
 go_enter Tryz.func158,Tryz.ntmps158
 go_wp2
 go_loop [8] (fun i=>∃ k:Nat,k<=m/\i=.int .i64 k/\Hid (∀ (i:Nat) p,i < k->l[i]? = some p->(allB) p=false)) (fun i=>m-(intOf i).toNat)
 case atStart=>exact ⟨0,Nat.zero_le _,rfl,fun i p h=>absurd h (by omega)⟩
 case round=>
  obtain ⟨k,hk,rfl,hno⟩:=hrel
  by_cases hlt:k < m
  ·obtain ⟨p,hp⟩:∃ p,l[k]? = some p:=⟨_,List.getElem?_eq_getElem (by have:=HN.out;omega)⟩
   obtain ⟨g0,ea,hx⟩:=HS.out.is_some (by omega)
   clear hx
   subst ea
   have r1:=HS.out.row (i:=k) (r:=[.int .i64 p]) (by rw [List.getElem?_map,hp];rfl)
   have gg:=r1 0 (.int .i64 p) rfl
   simp only [Nat.add_zero,Nat.mul_one] at gg
   have HP:=hid hp
   clear r1 hp
   have hlt':(k:Int) < (m:Int):=by omega
   cases hq:(allB) p with
   | true=>
    have HQ:=hid hq
    go_wp2_with (go_at_call 123;refine (always_any p _).mono ?_;rintro e w1 ⟨rfl,rfl⟩;rw [HQ.out])
    go_ret
    exact ⟨ret_int (by rw [ixq_at 0 HP.out HQ.out hno.out];omega),rfl⟩
   | false=>
    have HQ:=hid hq
    go_wp2_with (go_at_call 123;refine (always_any p _).mono ?_;rintro e w1 ⟨rfl,rfl⟩;rw [HQ.out])
    refine ⟨⟨k+1,by omega,by go_num,?_⟩,by simp [intOf];omega⟩
    intro i z hi hz
    by_cases e:i < k
    ·exact hno.out i z e hz
    ·have:i=k:=by omega
     subst this
     have:=HP.out
     rw [this] at hz;cases hz
     exact HQ.out
  ·go_wp2
   go_ret
   refine ⟨ret_int (ixq_none 0 (fun z hz=>?_)).symm,rfl⟩
   obtain ⟨i,hi⟩:=List.mem_iff_getElem?.1 hz
   exact hno.out i z (by have:=(List.getElem?_eq_some_iff.1 hi).1;have:=HN.out;omega) hi
theorem indexHears (g o:Nat) (frm:Int) (v:Value) (l:List Nat) (w:World) (hs:Sl w 3 1 v (l.map lnRow)) (hl:l.length<=1000) (hh:w.cell? ⟨g,o+4,none⟩=some (.int .i64 frm)) :
  Calls Tryz.prog 158 #[v,.func (.func 133) #[.pointer (some ⟨g,o,none⟩)] #[]] w fun e w'=>e=.returned (.int .i64 (ixq (hearsB frm) l 0))/\w'=w:=by
 obtain ⟨a,c,ev⟩:=hs.slice
 rw [List.length_map] at ev
 subst ev
 obtain ⟨m,hn'⟩:∃ m,l.length=m:=⟨_,rfl⟩
 rw [hn'] at hs hl ⊢
 have HS:=hid hs
 have HN:=hid hn'
 clear hs hn'
 go_enter Tryz.func158,Tryz.ntmps158
 go_wp2
 go_loop [8] (fun i=>∃ k:Nat,k<=m/\i=.int .i64 k/\Hid (∀ (i:Nat) p,i < k->l[i]? = some p->(hearsB frm) p=false)) (fun i=>m-(intOf i).toNat)
 case atStart=>exact ⟨0,Nat.zero_le _,rfl,fun i p h=>absurd h (by omega)⟩
 case round=>
  obtain ⟨k,hk,rfl,hno⟩:=hrel
  by_cases hlt:k < m
  ·obtain ⟨p,hp⟩:∃ p,l[k]? = some p:=⟨_,List.getElem?_eq_getElem (by have:=HN.out;omega)⟩
   obtain ⟨g0,ea,hx⟩:=HS.out.is_some (by omega)
   clear hx
   subst ea
   have r1:=HS.out.row (i:=k) (r:=[.int .i64 p]) (by rw [List.getElem?_map,hp];rfl)
   have gg:=r1 0 (.int .i64 p) rfl
   simp only [Nat.add_zero,Nat.mul_one] at gg
   have HP:=hid hp
   clear r1 hp
   have hlt':(k:Int) < (m:Int):=by omega
   cases hq:(hearsB frm) p with
   | true=>
    have HQ:=hid hq
    go_wp2_with (go_at_call 133;refine (hears_any g o frm p _ hh).mono ?_;rintro e w1 ⟨rfl,rfl⟩;rw [HQ.out])
    go_ret
    exact ⟨ret_int (by rw [ixq_at 0 HP.out HQ.out hno.out];omega),rfl⟩
   | false=>
    have HQ:=hid hq
    go_wp2_with (go_at_call 133;refine (hears_any g o frm p _ hh).mono ?_;rintro e w1 ⟨rfl,rfl⟩;rw [HQ.out])
    refine ⟨⟨k+1,by omega,by go_num,?_⟩,by simp [intOf];omega⟩
    intro i z hi hz
    by_cases e:i < k
    ·exact hno.out i z e hz
    ·have:i=k:=by omega
     subst this
     have:=HP.out
     rw [this] at hz;cases hz
     exact HQ.out
  ·go_wp2
   go_ret
   refine ⟨ret_int (ixq_none 0 (fun z hz=>?_)).symm,rfl⟩
   obtain ⟨i,hi⟩:=List.mem_iff_getElem?.1 hz
   exact hno.out i z (by have:=(List.getElem?_eq_some_iff.1 hi).1;have:=HN.out;omega) hi
theorem firstAll (x off:Nat) (v:Value) (l:List Nat) (w:World) (hc:w.cell? ⟨x,off,none⟩=some v) (hs:Sl w 3 1 v (l.map lnRow)) (hl:l.length<=1000) :
  Calls Tryz.prog 122 #[.pointer (some ⟨x,off,none⟩),.func (.func 123) #[] #[]] w fun e w'=>e=.returned (.tuple #[.int .i64 (((l.find? (allB)).getD 0:Nat):Int),.bool (l.find? (allB)).isSome])/\w'=w:=by
 have HI:=hid (indexAll v l w hs hl)
 obtain ⟨a,c,ev⟩:=hs.slice
 rw [List.length_map] at ev
 subst ev
 have HS:=hid hs
 clear hs
 rcases ixq_find (allB) l 0 with ⟨er,hn⟩ | ⟨i,s,er,hi,hn⟩
 ·rw [er] at HI
  have HR:=hid hn
  clear hn er
  go_enter Tryz.func122,Tryz.ntmps122
  go_wp2_with (go_at_call 158;refine HI.out.mono ?_;rintro e w1 ⟨rfl,rfl⟩)
  go_ret2
  rw [HR.out]
  exact ⟨rfl,rfl⟩
 ·rw [er] at HI
  have hil:=(List.getElem?_eq_some_iff.1 hi).1
  obtain ⟨g0,ea,hx⟩:=HS.out.is_some (by omega)
  clear hx
  subst ea
  have r1:=HS.out.row (i:=i) (r:=[.int .i64 s]) (by rw [List.getElem?_map,hi];rfl)
  have gg:=r1 0 (.int .i64 s) rfl
  simp only [Nat.add_zero,Nat.mul_one] at gg
  have HR:=hid hn
  clear r1 hi hn er
  have hge:(0:Int)<=(i:Int):=by omega
  have hil':(i:Int) < (l.length:Int):=by omega
  rw [show ((0:Nat):Int)+(i:Int)=(i:Int) by omega] at HI
  generalize hm:l.length=m at *
  have HM:=hid hm
  clear hm
  go_enter Tryz.func122,Tryz.ntmps122
  go_wp2_with (go_at_call 158;refine HI.out.mono ?_;rintro e w1 ⟨rfl,rfl⟩)
  go_ret2
  rw [HR.out]
  exact ⟨rfl,rfl⟩
theorem firstHears (g o:Nat) (frm:Int) (x off:Nat) (v:Value) (l:List Nat) (w:World) (hc:w.cell? ⟨x,off,none⟩=some v) (hs:Sl w 3 1 v (l.map lnRow)) (hl:l.length<=1000) (hh:w.cell? ⟨g,o+4,none⟩=some (.int .i64 frm)) :
  Calls Tryz.prog 122 #[.pointer (some ⟨x,off,none⟩),.func (.func 133) #[.pointer (some ⟨g,o,none⟩)] #[]] w fun e w'=>e=.returned (.tuple #[.int .i64 (((l.find? (hearsB frm)).getD 0:Nat):Int),.bool (l.find? (hearsB frm)).isSome])/\w'=w:=by
 have HI:=hid (indexHears g o frm v l w hs hl hh)
 obtain ⟨a,c,ev⟩:=hs.slice
 rw [List.length_map] at ev
 subst ev
 have HS:=hid hs
 clear hs
 rcases ixq_find (hearsB frm) l 0 with ⟨er,hn⟩ | ⟨i,s,er,hi,hn⟩
 ·rw [er] at HI
  have HR:=hid hn
  clear hn er
  go_enter Tryz.func122,Tryz.ntmps122
  go_wp2_with (go_at_call 158;refine HI.out.mono ?_;rintro e w1 ⟨rfl,rfl⟩)
  go_ret2
  rw [HR.out]
  exact ⟨rfl,rfl⟩
 ·rw [er] at HI
  have hil:=(List.getElem?_eq_some_iff.1 hi).1
  obtain ⟨g0,ea,hx⟩:=HS.out.is_some (by omega)
  clear hx
  subst ea
  have r1:=HS.out.row (i:=i) (r:=[.int .i64 s]) (by rw [List.getElem?_map,hi];rfl)
  have gg:=r1 0 (.int .i64 s) rfl
  simp only [Nat.add_zero,Nat.mul_one] at gg
  have HR:=hid hn
  clear r1 hi hn er
  have hge:(0:Int)<=(i:Int):=by omega
  have hil':(i:Int) < (l.length:Int):=by omega
  rw [show ((0:Nat):Int)+(i:Int)=(i:Int) by omega] at HI
  generalize hm:l.length=m at *
  have HM:=hid hm
  clear hm
  go_enter Tryz.func122,Tryz.ntmps122
  go_wp2_with (go_at_call 158;refine HI.out.mono ?_;rintro e w1 ⟨rfl,rfl⟩)
  go_ret2
  rw [HR.out]
  exact ⟨rfl,rfl⟩
theorem first_any (x off:Nat) (v:Value) (l:List Nat) (w:World) (hc:w.cell? ⟨x,off,none⟩=some v) (hs:Sl w 3 1 v (l.map lnRow)) (hl:l.length<=1000) :
  Calls Tryz.prog 78 #[.pointer (some ⟨x,off,none⟩)] w fun e w'=>e=.returned (.tuple #[.int .i64 ((l.headD 0:Nat):Int),.bool (!l.isEmpty)])/\w'=w:=by
 have HI:=hid (firstAll x off v l w hc hs hl)
 clear hs hc
 go_enter Tryz.func78,Tryz.ntmps78
 go_wp2_with (go_at_call 122;refine HI.out.mono ?_;rintro e w1 ⟨rfl,rfl⟩)
 go_ret2
 refine ⟨?_,rfl⟩
 cases l <;> rfl
open Go.RowKit
section
variable {P:Program}
theorem wpList_copy_eq (w:World){ops:Array Oper}{rest:List Oper}{o:Oper}{a:Act}{Q:Exit->Act->World->Prop}(hgd:o.guard=none) (d s:Operand) (t t':TypeId)
  (ho:o.op=.call { callee:=.builtin .copy,args:=#[d,s],argTypes:=#[t,t'] }) (v u:Value) (hd:a.eval d=v) (hs:a.eval s=u){v':Value}{w':World}
  (hr:(Builtin.copy_ #[t,t'] o.type #[v,u]).run P w=.ok v' w') (h:wpList P ops Q rest (a.put o.dst v') w'):wpList P ops Q (o :: rest) a w:=by
 refine wpList_plain hgd fun _ hK=>?_
 unfold Oper.wp execOp
 simp only [ho,resolve,invoke,builtin,Sem.run_bind,Sem.run_pure,Result.andThen_ok,List.map_toArray,List.map_cons,List.map_nil,hd,hs,hr]
 exact hK _ _ h
theorem step_copy_eq {ops:Array Oper}{o:Oper}{a:Act}{w:World}{K:Act->World->Prop}{Q:Exit->Act->World->Prop}{E:Prop}(hg:o.guard=none) (d x:Operand) (dT sT:TypeId)
  (hop:o.op=Op.call { callee:=Callee.builtin Builtin.copy,args:=#[d,x],argTypes:=#[dT,sT] }) (v u:Value) (hd:a.eval d=v) (hx:a.eval x=u){v':Value}{w':World}(hr:(Builtin.copy_ #[dT,sT] o.type #[v,u]).run P w=.ok v' w') (hK:K (a.put o.dst v') w') :
  if Region.wanted o (yielded ops a.tmps)=true then Oper.wp P o a w K Q else E:=by
 have hw:Region.wanted o (yielded ops a.tmps)=true:=by simp [Region.wanted,hg]
 rw [if_pos hw]
 unfold Oper.wp
 simp [execOp,hop,resolve,invoke,builtin,hd,hx,hr,Result.andThen]
 exact hK
end
theorem Tryz.size3:(Tryz.prog.info? 3).map (·.size)=some 1:=by kernel_rfl
theorem Tryz.sizeOf3 (w:World):(Go.sizeOf 3).run Tryz.prog w=.ok 1 w:=by kernel_rfl
theorem overlaps_no (w:World) (vb b o lb cb kB:Nat) (hvb:vb≠b) (hsa:w.shape? vb=some (3,1)) (hsb:w.shape? b=some (3,kB)) (hkB:kB≠0) (hfa:w.frozen? ⟨vb,0,none⟩=false) (hfe:w.frozen? ⟨vb,1,none⟩=false) :
  (callFunc 174 #[.slice (some ⟨vb,0,none⟩) 1 1,.slice (some ⟨b,o,none⟩) lb cb]).run Tryz.prog w=.ok (.value (.bool false)) w:=by
 rw [run_callFunc_extern Tryz.func174 (by kernel_rfl) (by kernel_rfl) (by kernel_rfl) (e:=Extern.SlicesOverlaps.overlaps #[24,24] #[4]) (by kernel_rfl),
  Lib.run_overlaps_apart w 24 4 3 Tryz.underlying24 1 Tryz.sizeOf3 ⟨vb,0,none⟩ ⟨b,o,none⟩ 1 1 lb cb hvb 3 3 1 kB hsa hsb hkB hfa hfe]
 rfl
theorem isSome_set (b:Nat) (vs:List Value) (o:Nat) (w:World) (h:∀ j,j < vs.length->(w.cell? ⟨b,o+j,none⟩).isSome=true) (k:Nat) (hk:(w.cell? ⟨b,k,none⟩).isSome=true):((w.setCells b o vs).cell? ⟨b,k,none⟩).isSome=true:=by
 by_cases hin:o<=k/\k < o+vs.length
 ·have:=World.cell?_setCells_in b vs o w h (k-o) (by omega)
  rw [show o+(k-o)=k by omega] at this
  rw [this];rfl
 ·rw [World.cell?_setCells_out b vs o w ⟨b,k,none⟩ (fun _ _=>by show k < o\/o+vs.length<=k;omega)]
  exact hk
theorem insert_shift (b n c vb x:Nat) (cs:List Value) (w:World) (hn:0 < n) (hroom:n+1<=c) (hc63:c<=9223372036854775807) (hvb:vb≠b) (hcl:cs.length=n)
  (hcs:∀ j v,cs[j]? = some v->w.cell? ⟨b,j,none⟩=some v) (hsp:∀ j,j < n+1->(w.cell? ⟨b,j,none⟩).isSome=true) (hfz:∀ j,j < n+1->w.frozen? ⟨b,j,none⟩=false)
  (hvs:w.cell? ⟨vb,0,none⟩=some (.int .i64 x)) (h1c:∀ v∈cs,v.oneCell'=true) (hsa:w.shape? vb=some (3,1)) (hsb:w.shape? b=some (3,c)) (hfa:w.frozen? ⟨vb,0,none⟩=false) (hfe:w.frozen? ⟨vb,1,none⟩=false) :
  Calls Tryz.prog 172 #[.slice (some ⟨b,0,none⟩) n c,.int .i64 0,.slice (some ⟨vb,0,none⟩) 1 1] w fun e w'=>e=.returned (.slice (some ⟨b,0,none⟩) (n+1) c)/\w'=(w.drew.setCells b 1 cs).setCells b 0 [.int .i64 x]:=by
 have hov:=fun lb cb=>overlaps_no w vb b 1 lb cb c hvb hsa hsb (by omega) hfa hfe
 have hcp1:∀ ty dc sc,(Builtin.copy_ #[24,24] ty #[.slice (some ⟨b,1,none⟩) n dc,.slice (some ⟨b,0,none⟩) (n+1) sc]).run Tryz.prog w.drew=.ok (goInt cs.length) (w.drew.setCells b 1 cs):=fun ty dc sc=>
  run_copy_cells w.drew _ _ ty 3 b 1 n dc ⟨b,0,none⟩ (n+1) sc cs Tryz.underlying24 Tryz.size3 (by rw [hcl];simp only [Nat.min_def];split <;> omega)
   (fun j v hj=>by rw [Addr.add_lit,Nat.zero_add];exact hcs j v hj)
   (fun j hj=>by rw [hcl] at hj;exact hsp _ (by omega)) (fun j hj=>by rw [hcl] at hj;exact hfz _ (by omega)) h1c
 obtain ⟨W1,hW1⟩:∃ W1,W1=w.drew.setCells b 1 cs:=⟨_,rfl⟩
 have hsp1:∀ k,k < n+1->(W1.cell? ⟨b,k,none⟩).isSome=true:=fun k hk=>by
  rw [hW1]
  exact isSome_set b _ _ _ (fun j hj=>by rw [hcl] at hj;exact hsp _ (by omega)) _ (hsp k hk)
 have hcp2:∀ (W:World),(∀ x,W.cell? x=W1.cell? x)->(∀ x,W.frozen? x=W1.frozen? x)->∀ ty dc,(Builtin.copy_ #[24,24] ty #[.slice (some ⟨b,0,none⟩) (n+1) dc,.slice (some ⟨vb,0,none⟩) 1 1]).run Tryz.prog W=.ok (goInt [Value.int .i64 x].length) (W.setCells b 0 [.int .i64 x]):=fun W hWc hWf ty dc=>
  run_copy_cells W _ _ ty 3 b 0 (n+1) dc ⟨vb,0,none⟩ 1 1 [.int .i64 x] Tryz.underlying24 Tryz.size3 (by simp only [Nat.min_def,List.length_singleton];split <;> omega)
   (fun j v hj=>by
    rw [Addr.add_lit,hWc,hW1,World.cell?_setCells_out b _ _ _ _ (fun h _=>absurd h hvb)]
    cases j with
    | zero=>simp at hj;rw [<- hj];exact hvs
    | succ j=>simp at hj)
   (fun j hj=>by rw [hWc,Nat.zero_add];exact hsp1 _ (by simp at hj;omega)) (fun j hj=>by rw [hWf,hW1,World.frozen?_setCells,Nat.zero_add];exact hfz _ (by simp at hj;omega)) (fun v hv=>by simp at hv;rw [hv];rfl)
 rw [<- hW1] at hcp1
 have q1:((0:Int) == (n:Int))=false:=by simp;omega
 have q2:¬ ((c:Int) < (n:Int)+1):=by omega
 have q3:¬ c=1:=by omega
 have q4:¬ c=0:=by omega
 have q5:1<=n+1:=by omega
 have q6:n+1-1=n:=by omega
 have q7:(1:Int)<=(n:Int)+1:=by omega
 have q8:((n:Int)+1).toNat=n+1:=by omega
 have q9:(n:Int)+1<=(c:Int):=by omega
 have q10:¬ (0:Int)=(n:Int):=by omega
 have qw:IntKind.i64.wrap 1=1:=by decide
 have q11:(0:Int)<=(n:Int)+1:=by omega
 go_enter Tryz.func172,Tryz.ntmps172
 go_wp2_with (simp only [hov])
 go_region_law (refine step_copy_eq rfl _ _ 24 24 rfl _ _ (by simp [Act.eval,Act.put]) (by simp [Act.eval,Act.put]) (hcp1 _ _ _) ?_)
 go_wp2_with (at_builtin;refine wpList_copy_eq _ rfl _ _ 24 24 rfl _ _ rfl rfl (hcp2 _ (fun _=>rfl) (fun _=>rfl) _ _) ?_)
 go_ret
 first | exact ⟨rfl,rfl⟩ | exact ⟨rfl,by rw [hW1]⟩
theorem insert_zero (a:Option Addr) (c vb x:Nat) (w:World) (hs:Sl w 3 1 (.slice a 0 c) []) (hvs:w.cell? ⟨vb,0,none⟩=some (.int .i64 x)) :
  Calls Tryz.prog 172 #[.slice a 0 c,.int .i64 0,.slice (some ⟨vb,0,none⟩) 1 1] w fun e w'=>∃ a' c',e=.returned (.slice a' 1 c')/\Grew 3 1 (.slice a 0 c) w (.slice a' 1 c') [[.int .i64 x]] w':=by
 obtain ⟨i0,hi0,hz0,hz1,hz2⟩:=info_parts Tryz.infoN3
 have HS:=hid hs
 have hnews:∀ (j:Nat) u,([[Value.int .i64 x]]:List (List Value)).flatten[j]? = some u->w.cell? ((⟨vb,0,none⟩:Addr).add j)=some u:=by
  intro j u h
  cases j with
  | zero=>simp at h;subst h;exact hvs
  | succ j=>simp at h
 clear hs
 go_enter Tryz.func172,Tryz.ntmps172
 go_wp2_with (at_builtin;go_must (refine wpList_append_sl _ rfl _ _ 24 rfl 3 i0 _ 1 8 Tryz.underlying24 hi0 hz0 hz1 hz2 rfl (by decide) (.slice a 0 c) [] rfl HS.out ⟨vb,0,none⟩ 1 1 [[.int .i64 x]] rfl rfl (by decide) (by simp) hnews (fun u hu=>by simp at hu;subst hu;rfl) (by simp [maxLen]) (by simp) ?_);intro a4 c4 w4 G4;replace G4:=hid G4)
 go_ret
 exact ⟨a4,c4,rfl,G4.out⟩
theorem insert_grow (b n vb x:Nat) (cs:List Value) (w:World) (hn:0 < n) (hn9:n<=1000) (hcl:cs.length=n)
  (hcs:∀ j v,cs[j]? = some v->w.cell? ⟨b,j,none⟩=some v) (hvs:w.cell? ⟨vb,0,none⟩=some (.int .i64 x)) (h1c:∀ v∈cs,v.oneCell'=true) :
  Calls Tryz.prog 172 #[.slice (some ⟨b,0,none⟩) n n,.int .i64 0,.slice (some ⟨vb,0,none⟩) 1 1] w fun e w'=>∃ (G:Nat) (ROW:Array Value),n+1<=G/\G<=maxLen/\ROW.size=G/\e=.returned (.slice (some ⟨w.heap.size,0,none⟩) (n+1) G)/\w'=(((w.alloc (.cells ROW 3)).drew.setCells w.heap.size 0 [.int .i64 x]).drew).setCells w.heap.size 1 cs:=by
 obtain ⟨i0,hi0,hz0,hzs,hzb⟩:=info_parts Tryz.infoN3
 have hbw:b < w.heap.size:=block_lt_of_cell (hcs 0 _ (List.getElem?_eq_getElem (by omega)))
 have hvw:vb < w.heap.size:=block_lt_of_cell hvs
 have hold:(Builtin.firstCells i0.size 0 (.slice (some ⟨b,0,none⟩) 0 n)).run Tryz.prog w.drew=.ok ([]:List Value).toArray w.drew:=by
  rw [hzs]
  exact run_firstCells_some w.drew 1 0 ⟨b,0,none⟩ 0 n [] (by simp) (fun j v hj=>by simp at hj)
 obtain ⟨G,hG⟩:∃ G,G=grownCap w (n+1) n 3:=⟨_,rfl⟩
 have hGn:n+1<=G:=by rw [hG];exact grownCap_ge w _ _ _
 have hG63:G<=maxLen:=by rw [hG];exact grownCap_le_maxLen w (n+1) n 3 (by unfold maxLen;omega)
 have hrz:∀ ty,(Builtin.append_ #[24,3] ty #[.slice (some ⟨b,0,none⟩) 0 n,.int .i64 ((n:Int)+1)]).run Tryz.prog w =
   .ok (.slice (some ⟨w.heap.size,0,none⟩) (n+1) G) (w.drew.alloc (.cells (([]:List Value).toArray ++ Builtin.zeroCells (Value.int .i64 0).cells (n+1) ++ Builtin.zeroCells (Value.int .i64 0).cells (G-(n+1))) 3)):=fun ty=>by
  have h:=Lib.run_append_grow_zeros w 24 3 ty 3 i0 _ .i64 .i64 Tryz.underlying24 Tryz.underlying3 hi0 hz0 (some ⟨b,0,none⟩) 0 n [] hold (n+1) (by omega) (by omega) (by omega) (by omega) (by rw [hzb];omega) (by rw [hzb,Nat.zero_add];exact growslice_fits (by omega) (by omega))
  rw [Nat.zero_add,<- hG] at h
  rw [show (n:Int)+1=((n+1:Nat):Int) by omega]
  exact h
 obtain ⟨ROW,hROW⟩:∃ ROW:Array Value,ROW=([]:List Value).toArray ++ Builtin.zeroCells (Value.int .i64 0).cells (n+1) ++ Builtin.zeroCells (Value.int .i64 0).cells (G-(n+1)):=⟨_,rfl⟩
 rw [<- hROW] at hrz
 have hRl:ROW.size=G:=by
  rw [hROW]
  simp [Builtin.zeroCells,Value.cells]
  omega
 obtain ⟨W1,hW1⟩:∃ W1,W1=w.drew.alloc (.cells ROW 3):=⟨_,rfl⟩
 rw [<- hW1] at hrz
 have hN:∀ j,j < n+1->(W1.cell? ⟨w.heap.size,j,none⟩).isSome=true:=fun j hj=>by
  rw [hW1,World.cell?_alloc_at (w:=w.drew) ROW _ w.heap.size j rfl,Array.getElem?_eq_getElem (by omega)];rfl
 have hNf:∀ j,W1.frozen? ⟨w.heap.size,j,none⟩=false:=fun j=>by rw [hW1];exact World.frozen?_alloc_at (w:=w.drew) ROW _ w.heap.size j rfl
 have hOb:∀ j v,w.cell? ⟨b,j,none⟩=some v->W1.cell? ⟨b,j,none⟩=some v:=fun j v h=>by rw [hW1,World.cell?_alloc_past (w:=w.drew) _ b j hbw];exact h
 have hOv:∀ j v,w.cell? ⟨vb,j,none⟩=some v->W1.cell? ⟨vb,j,none⟩=some v:=fun j v h=>by rw [hW1,World.cell?_alloc_past (w:=w.drew) _ vb j hvw];exact h
 have hcpA:∀ (W:World),(∀ x,W.cell? x=W1.cell? x)->(∀ x,W.frozen? x=W1.frozen? x)->∀ ty dc,(Builtin.copy_ #[24,24] ty #[.slice (some ⟨w.heap.size,0,none⟩) (n+1) dc,.slice (some ⟨vb,0,none⟩) 1 1]).run Tryz.prog W=.ok (goInt [Value.int .i64 x].length) (W.setCells w.heap.size 0 [.int .i64 x]):=fun W hWc hWf ty dc=>
  run_copy_cells W _ _ ty 3 w.heap.size 0 (n+1) dc ⟨vb,0,none⟩ 1 1 [.int .i64 x] Tryz.underlying24 Tryz.size3 (by simp only [Nat.min_def,List.length_singleton];split <;> omega)
   (fun j v hj=>by
    rw [Addr.add_lit,hWc]
    cases j with
    | zero=>simp at hj;rw [<- hj];exact hOv _ _ hvs
    | succ j=>simp at hj)
   (fun j hj=>by rw [hWc,Nat.zero_add];exact hN _ (by simp at hj;omega)) (fun j hj=>by rw [hWf];exact hNf _) (fun v hv=>by simp at hv;rw [hv];rfl)
 have hbN:b≠w.heap.size:=by omega
 have hcpB:∀ (W:World),(∀ y,W.cell? y=(W1.setCells w.heap.size 0 [.int .i64 x]).cell? y)->(∀ y,W.frozen? y=(W1.setCells w.heap.size 0 [.int .i64 x]).frozen? y)->∀ ty dc sc,(Builtin.copy_ #[24,24] ty #[.slice (some ⟨w.heap.size,1,none⟩) n dc,.slice (some ⟨b,0,none⟩) n sc]).run Tryz.prog W=.ok (goInt cs.length) (W.setCells w.heap.size 1 cs):=fun W hWc hWf ty dc sc=>
  run_copy_cells W _ _ ty 3 w.heap.size 1 n dc ⟨b,0,none⟩ n sc cs Tryz.underlying24 Tryz.size3 (by rw [hcl];simp only [Nat.min_def];split <;> omega)
   (fun j v hj=>by
    rw [Addr.add_lit,hWc,World.cell?_setCells_out _ _ _ _ _ (fun h _=>absurd h hbN),Nat.zero_add]
    exact hOb _ v (hcs j v hj))
   (fun j hj=>by rw [hcl] at hj;rw [hWc];exact isSome_set _ _ _ _ (fun t ht=>by simp at ht;exact hN _ (by omega)) _ (hN _ (by omega)))
   (fun j hj=>by rw [hWf,World.frozen?_setCells];exact hNf _) h1c
 have HF:=hid (And.intro hGn (And.intro hG63 hRl))
 have q1:((0:Int) == (n:Int))=false:=by simp;omega
 have q2:(n:Int) < (n:Int)+1:=by omega
 have q3:¬ G=1:=by omega
 have q4:¬ G=0:=by omega
 have q4':¬ n=0:=by omega
 have q5:1<=n+1:=by omega
 have q6:n+1-1=n:=by omega
 have q7:(1:Int)<=(n:Int)+1:=by omega
 have q8:((n:Int)+1).toNat=n+1:=by omega
 have q10:¬ (0:Int)=(n:Int):=by omega
 have qw:IntKind.i64.wrap 1=1:=by decide
 have q11:(0:Int)<=(n:Int)+1:=by omega
 subst hW1
 have hE1:∀ x,((w.alloc (.cells ROW 3)).drew).cell? x=(w.drew.alloc (.cells ROW 3)).cell? x:=fun x=>rfl
 have hE2:∀ x,((w.alloc (.cells ROW 3)).drew).frozen? x=(w.drew.alloc (.cells ROW 3)).frozen? x:=fun x=>rfl
 have hF1:∀ y,(((w.alloc (.cells ROW 3)).drew.setCells w.heap.size 0 [.int .i64 x]).drew).cell? y=((w.drew.alloc (.cells ROW 3)).setCells w.heap.size 0 [.int .i64 x]).cell? y:=fun y=>rfl
 have hF2:∀ y,(((w.alloc (.cells ROW 3)).drew.setCells w.heap.size 0 [.int .i64 x]).drew).frozen? y=((w.drew.alloc (.cells ROW 3)).setCells w.heap.size 0 [.int .i64 x]).frozen? y:=fun y=>rfl
 clear hROW hRl hG hGn hG63 hold
 go_enter Tryz.func172,Tryz.ntmps172
 go_wp2_with (first
  | (at_builtin;refine Lib.wpList_append_run _ rfl _ _ _ _ rfl _ _ rfl rfl _ _ (hrz _) ?_)
  | (at_builtin;refine wpList_copy_eq _ rfl _ _ 24 24 rfl _ _ rfl rfl (hcpA _ hE1 hE2 _ _) ?_))
 go_region_law (refine step_copy_eq rfl _ _ 24 24 rfl (.slice (some ⟨w.heap.size,1,none⟩) n (G-1)) (.slice (some ⟨b,0,none⟩) n n) (by simp [Act.eval,Act.put]) (by simp [Act.eval,Act.put]) (hcpB _ hF1 hF2 3 (G-1) n) ?_)
 go_wp2
 go_ret
 exact ⟨G,ROW,HF.out.1,HF.out.2.1,HF.out.2.2,rfl,rfl⟩
theorem setAt_shift {ys cs:List Value}{x:Value}(h:ys.length=cs.length+1):setAt (setAt ys 1 cs) 0 [x]=x :: cs:=by
 have h1:(setAt ys 1 cs).length=cs.length+1:=by rw [length_setAt];exact h
 rw [setAt_eq [x] _ 0 (by simp;omega),setAt_eq cs ys 1 (by omega),List.drop_eq_nil_of_le (show ys.length<=1+cs.length by omega)]
 cases ys with
 | nil=>simp at h
 | cons y r=>simp
theorem setAt_grow {ys cs:List Value}{x:Value}(h:ys.length=cs.length+1):setAt (setAt ys 0 [x]) 1 cs=x :: cs:=by
 have h1:(setAt ys 0 [x]).length=cs.length+1:=by rw [length_setAt];exact h
 rw [setAt_eq cs _ 1 (by omega),setAt_eq [x] ys 0 (by simp;omega)]
 cases ys with
 | nil=>simp at h
 | cons y r=>
  simp at h
  simp
  omega
theorem ln_flat (l:List Nat):(l.map lnRow).flatten=l.map (fun (t:Nat)=>Value.int .i64 t):=by
 induction l with
 | nil=>rfl
 | cons y r ih=>simp [ih,lnRow]
theorem sl_lines {w:World}{v:Value}{l:List Nat}(h:w.ownsRow 0 3 1 v l.length (l.map (fun (t:Nat)=>Value.int .i64 t))):Sl w 3 1 v (l.map lnRow):=by
 refine ⟨by rw [ln_flat,List.length_map];exact h,?_⟩
 intro r hr
 obtain ⟨t,_,rfl⟩:=List.mem_map.1 hr
 rfl
theorem insert_any (v:Value) (l:List Nat) (vb x:Nat) (w:World) (hs:Sl w 3 1 v (l.map lnRow)) (hl:l.length<=1000) (hb:w.heap[vb]? = some (.cells #[.int .i64 x] 3 (0,0))) (hne:v.ownBlock≠some vb) :
  Calls Tryz.prog 172 #[v,.int .i64 0,.slice (some ⟨vb,0,none⟩) 1 1] w fun e w'=>∃ a' c',e=.returned (.slice a' (l.length+1) c')/\Sl w' 3 1 (.slice a' (l.length+1) c') ((x :: l).map lnRow)/\Fr (fun k=>v.ownBlock=some k) w w'/\∀ k,Value.ownBlock (.slice a' (l.length+1) c')=some k->w.heap.size<=k\/v.ownBlock=some k:=by
 have hvs:w.cell? ⟨vb,0,none⟩=some (.int .i64 x):=(cell_of_row w vb 0 _ _ _ hb).trans rfl
 have hl0:=hs.own
 rw [ln_flat,List.length_map] at hl0
 have hone:∀ v∈l.map (fun (t:Nat)=>Value.int .i64 t),v.oneCell'=true:=fun u hu=>by obtain ⟨t,_,rfl⟩:=List.mem_map.1 hu;rfl
 by_cases h0:l=[]
 ·subst h0
  obtain ⟨a,c,rfl⟩:=hs.slice
  refine (insert_zero a c vb x w hs hvs).mono ?_
  rintro e w' ⟨a',c',rfl,G⟩
  exact ⟨a',c',rfl,G.sl,Fr.grown G.by_,G.at_⟩
 ·have hn:0 < l.length:=List.length_pos_iff.2 h0
  rcases hl0.2 with ⟨_,h2⟩ | ⟨g,cap,cur,rfl,_,hg,h3,h4,h5,h6⟩
  ·omega
  ·rw [Nat.mul_one] at h5 h6
   have hcell:∀ (j:Nat) u,cur.toList[j]? = some u->w.cell? ⟨g,j,none⟩=some u:=fun j u hu=>by rw [cell_of_row w g j _ _ _ hg];simpa using hu
   have hcs:∀ j u,(l.map (fun (t:Nat)=>Value.int .i64 t))[j]? = some u->w.cell? ⟨g,j,none⟩=some u:=by
    intro j u hu
    have hj:=(List.getElem?_eq_some_iff.1 hu).1
    rw [List.length_map] at hj
    rw [<- h6,List.getElem?_take_of_lt hj] at hu
    exact hcell j u hu
   by_cases hroom:l.length+1<=cap
   ·have hm63:cap<=9223372036854775807:=by unfold maxLen at h4;omega
    refine (insert_shift g l.length cap vb x (l.map (fun (t:Nat)=>Value.int .i64 t)) w hn hroom hm63 (fun e=>hne (by rw [e];rfl)) (by simp) hcs (fun j hj=>?_) (fun j _=>frozen_of_row w g j _ _ hg) hvs hone (by simp [World.shape?,hb]) (by simp [World.shape?,hg,h5]) (frozen_of_row w vb 0 _ _ hb) (frozen_of_row w vb 1 _ _ hb)).mono ?_
    ·rw [cell_of_row w g j _ _ _ hg,Array.getElem?_eq_getElem (by omega)];rfl
    ·rintro e w' ⟨rfl,rfl⟩
     have hlen:(cur.toList.take (l.length+1)).length=(l.map (fun (t:Nat)=>Value.int .i64 t)).length+1:=by simp;omega
     have o1:w.drew.ownsRow 0 3 1 (.slice (some ⟨g,0,none⟩) (l.length+1) cap) (l.length+1) (cur.toList.take (l.length+1)):=⟨by rw [hlen];simp,.inr ⟨g,cap,cur,rfl,Nat.zero_le _,hg,hroom,h4,by rw [Nat.mul_one];exact h5,by rw [Nat.mul_one]⟩⟩
     have o2:=setCells_owns (l.map (fun (t:Nat)=>Value.int .i64 t)) 1 _ _ o1
     have o3:=setCells_owns [.int .i64 x] 0 _ _ o2.1
     rw [setAt_shift hlen] at o3
     refine ⟨some ⟨g,0,none⟩,cap,rfl,sl_lines (l:=x :: l) o3.1,?_,fun k hk=>.inr hk⟩
     exact ((Fr.refl _ w).drew.trans (Fr.grown o2.2)).trans (Fr.grown o3.2)
   ·have hcap:cap=l.length:=by omega
    subst hcap
    refine (insert_grow g l.length vb x (l.map (fun (t:Nat)=>Value.int .i64 t)) w hn hl (by simp) hcs hvs hone).mono ?_
    rintro e w' ⟨G,ROW,hG,hG9,hR,rfl,rfl⟩
    have hlen:(ROW.toList.take (l.length+1)).length=(l.map (fun (t:Nat)=>Value.int .i64 t)).length+1:=by simp;omega
    have o1:(w.alloc (.cells ROW 3)).drew.ownsRow 0 3 1 (.slice (some ⟨w.heap.size,0,none⟩) (l.length+1) G) (l.length+1) (ROW.toList.take (l.length+1)):=⟨by rw [hlen];simp,.inr ⟨w.heap.size,G,ROW,rfl,Nat.zero_le _,heap_alloc_new w _,hG,hG9,by rw [Nat.mul_one];exact hR,by rw [Nat.mul_one]⟩⟩
    have o2:=setCells_owns [.int .i64 x] 0 _ _ o1
    have o3:=setCells_owns (l.map (fun (t:Nat)=>Value.int .i64 t)) 1 _ _ (owns_drew o2.1)
    rw [setAt_grow hlen] at o3
    refine ⟨some ⟨w.heap.size,0,none⟩,G,rfl,sl_lines (l:=x :: l) o3.1,?_,fun k hk=>.inl (by simp [Value.ownBlock] at hk;omega)⟩
    have F1:Fr (fun k=>some w.heap.size=some k) w ((((w.alloc (.cells ROW 3)).drew.setCells w.heap.size 0 [.int .i64 x]).drew).setCells w.heap.size 1 (l.map (fun (t:Nat)=>Value.int .i64 t))):=(((((Fr.refl _ w).alloc _).drew).trans (Fr.grown o2.2)).drew).trans (Fr.grown o3.2)
    exact F1.mono (fun k hk e=>by simp at e;omega)
theorem comeFirst_any (x off:Nat) (v:Value) (l:List Nat) (t:Nat) (cs:Array Value) (ty:TypeId) (w:World) (hb:w.heap[x]? = some (.cells cs ty (0,0))) (hv:cs[off]? = some v) (hs:Sl w 3 1 v (l.map lnRow)) (hl:l.length<=1000) (hn:l.Nodup) (hne:v.ownBlock≠some x) :
  Calls Tryz.prog 166 #[.pointer (some ⟨x,off,none⟩),.int .i64 t] w fun e w'=>e=.returned (.tuple #[])/\∃ v',w'.heap[x]? = some (.cells (cs.setIfInBounds off v') ty (0,0))/\Sl w' 3 1 v' ((t :: l.erase t).map lnRow)/\Fr (fun k=>k=x\/v.ownBlock=some k) w w'/\∀ k,v'.ownBlock=some k->w.heap.size<=k\/v.ownBlock=some k:=by
 have hbl:=(Array.getElem?_eq_some_iff.1 hb).1
 have hlo:off < cs.size:=(Array.getElem?_eq_some_iff.1 hv).1
 have HA:=hid (And.intro hs (And.intro hb (And.intro hn (And.intro hl (And.intro hne hv)))))
 clear hs hb hn hl hne hv
 go_enter Tryz.func166,Tryz.ntmps166
 go_wp2_with fail
 go_at_call 124
 refine (leave_any x off v l t cs ty _ HA.out.2.1 HA.out.2.2.2.2.2 HA.out.1 HA.out.2.2.2.1 HA.out.2.2.1 HA.out.2.2.2.2.1).mono ?_
 rintro e w1 ⟨rfl,v1,H1⟩
 have hsl:=H1.2.1.slice
 rw [List.length_map] at hsl
 obtain ⟨a1,c1,rfl⟩:=hsl
 obtain ⟨m,hm⟩:∃ m,(l.erase t).length=m:=⟨_,rfl⟩
 rw [hm] at H1
 have hml:m<=1000:=by (have:=HA.out.2.2.2.1;have:=List.length_erase_le (a:=t) (l:=l);omega)
 replace H1:=hid (And.intro H1 hm)
 have hc1:w1.cell? ⟨x,off,none⟩=some (.slice a1 m c1):=(cell_of_row w1 x off _ _ _ H1.out.1.1).trans (by simp [hlo])
 have hbl1:=(Array.getElem?_eq_some_iff.1 H1.out.1.1).1
 have n1:Hid (Value.ownBlock (.slice a1 m c1)≠some x):=(by rw [H1.out.1.2.2.2];exact HA.out.2.2.2.2.1)
 have I:=insert_any (.slice a1 m c1) (l.erase t) w1.heap.size t (w1.alloc (.cells #[.int .i64 t] 3)) (H1.out.1.2.1.alloc _) (by rw [hm];omega) (heap_alloc_new w1 _) (fun e=>by have:=H1.out.1.2.1.lt e;omega)
 rw [hm] at I
 have HI:=hid I
 clear hm I
 go_wp2_with (go_at_call 172;refine HI.out.mono ?_;rintro e w4 ⟨a4,c4,rfl,G4⟩;replace G4:=hid G4;have hb4:Hid (w4.heap[x]? = some (.cells (cs.setIfInBounds off (.slice a1 m c1)) ty (0,0))):=(G4.out.2.1.block x (by simp;omega) n1.out).trans (((Fr.refl (fun _=>False) w1).alloc _).block _ hbl1 id |>.trans H1.out.1.1);have hc4:w4.cell? ⟨x,off,none⟩=some (.slice a1 m c1):=(cell_of_row w4 _ off _ _ _ hb4.out).trans (by simp [hlo]);have hf4:w4.frozen? ⟨x,off,none⟩=false:=frozen_of_row _ _ _ _ _ hb4.out)
 go_end0
 generalize hv4:Value.slice a4 (m+1) c4=v4 at G4 ⊢
 have F4:Fr (fun k=>k=x\/v.ownBlock=some k) w1 w4:=(((Fr.refl _ w1).alloc _).trans (G4.out.2.1.mono (fun k hk e=>.inr (by rw [<- H1.out.1.2.2.2];exact e))))
 have F5:Fr (fun k=>k=x) w4 (w4.setCell ⟨x,off,none⟩ v4):=(Fr.refl (fun k=>k=x) w4).setCell (p:=⟨x,off,none⟩) (fun _=>rfl) _
 have hn4:∀ k,v4.ownBlock=some k->w.heap.size<=k\/v.ownBlock=some k:=by
  intro k hk
  rcases G4.out.2.2 k hk with h | h
  ·left
   have:=H1.out.1.2.2.1.size
   simp at h
   omega
  ·right;rw [<- H1.out.1.2.2.2];exact h
 refine ⟨rfl,v4,?_,?_,(H1.out.1.2.2.1.trans F4).trans (F5.mono (fun k _ h=>.inl h)),hn4⟩
 ·have:=heap_setCell_same w4 x off _ ty v4 hb4.out
  rwa [Array.setIfInBounds_setIfInBounds] at this
 ·exact G4.out.1.kept F5 (fun k hk e=>by
   subst e
   rcases hn4 _ hk with h | h
   ·omega
   ·exact HA.out.2.2.2.2.1 h)
open Go.RowKit
theorem Sl.of_block {w w':World}{e:TypeId}{size g n c:Nat}{rows:List (List Value)}(h:Sl w e size (.slice (some ⟨g,0,none⟩) n c) rows) (hb:w'.heap[g]? = w.heap[g]?):Sl w' e size (.slice (some ⟨g,0,none⟩) n c) rows:=by
 refine ⟨⟨h.own.1,?_⟩,h.len⟩
 rcases h.own.2 with a | ⟨g',cap,cur,e1,a1,a2,a3⟩
 ·exact .inl a
 ·have e2:=e1
  simp only [Value.slice.injEq,Option.some.injEq,Addr.mk.injEq,and_true] at e2
  obtain ⟨e2a,_⟩:=e2
  subst e2a
  exact .inr ⟨g,cap,cur,e1,a1,hb.trans a2,a3⟩
structure Bk where
 x:Nat
 ty:TypeId
 g:Nat
 c:Nat
 gs:Nat
 cp:Nat
def prow (p:PT) (s:Sv×Sv×Value):List Value:=[.int .i64 p.sp,.int .i64 p.row,.int .i64 p.left,.int .i64 p.st,.int .i64 p.code,.int .i64 p.who,.slice s.1.a s.1.n s.1.c,.int .i64 p.got,.int .i64 p.tgt,.slice s.2.1.a s.2.1.n s.2.1.c,.int .i64 p.item,.int .i64 p.rt,.int .i64 p.frm,.int .i64 p.win,.int .i64 p.wait,.int .u64 p.time,s.2.2]
def prows (ts:List PT) (sl:List (Sv×Sv×Value)):List (List Value):=List.zipWith prow ts sl
theorem prows_len {ts:List PT}{sl:List (Sv×Sv×Value)}(h:sl.length=ts.length):(prows ts sl).length=ts.length:=by simp [prows,h]
theorem prows_get {ts:List PT}{sl:List (Sv×Sv×Value)}{i:Nat}{p:PT}{s:Sv×Sv×Value}(ht:ts[i]? = some p) (hs:sl[i]? = some s):(prows ts sl)[i]? = some (prow p s):=by
 simp [prows,List.getElem?_zipWith,ht,hs]
theorem prows_set {ts:List PT}{sl:List (Sv×Sv×Value)}{i:Nat}{p:PT}{s:Sv×Sv×Value}(f:PT->PT) (s':Sv×Sv×Value) (ht:ts[i]? = some p) (hs:sl[i]? = some s):(prows ts sl).set i (prow (f p) s')=prows (ts.modify i f) (sl.set i s'):=by
 have h1:=(List.getElem?_eq_some_iff.1 ht).1
 have h2:=(List.getElem?_eq_some_iff.1 hs).1
 apply List.ext_getElem?
 intro j
 rw [List.getElem?_set]
 unfold prows
 by_cases e:i=j
 ·subst e
  rw [if_pos rfl,if_pos (by simp;omega),List.getElem?_zipWith,List.getElem?_modify,List.getElem?_set_self h2,ht]
  simp
 ·simp only [if_neg e,List.getElem?_zipWith,List.getElem?_modify,List.getElem?_set_ne e]
  simp
def cell2 (o:Option (Int×Int×Int×Int)):List Value:=
 match o with
 | none=>[.int .i64 0,.int .i64 0]
 | some p=>[.int .i64 p.2.2.1,.int .i64 p.2.2.2]
def six (L:List (Int×Int×Int×Int)) (s:Int):List Value:=cell2 (findQ L s 0) ++ cell2 (findQ L s 1) ++ cell2 (findQ L s 2) ++ cell2 (findQ L s 3) ++ cell2 (findQ L s 4) ++ cell2 (findQ L s 5)
def upV (gs:Nat) (l:Lf):Value:=if l.usp < 0 then .pointer none else .pointer (some ⟨gs,l.usp.toNat*30+12+l.upg.toNat*3,none⟩)
def cell3 (gs:Nat) (o:Option Lf):List Value:=
 match o with
 | none=>[.int .i64 0,.int .i64 0,.pointer none]
 | some l=>[.int .i64 l.fr,.int .i64 l.rt,upV gs l]
def pages (gs:Nat) (L:List Lf) (s:Int):List Value:=cell3 gs (findLf L s 0) ++ cell3 gs (findLf L s 1) ++ cell3 gs (findLf L s 2) ++ cell3 gs (findLf L s 3) ++ cell3 gs (findLf L s 4) ++ cell3 gs (findLf L s 5)
def spRowM (gs:Nat) (Q:List (Int×Int×Int×Int)) (L:List Lf) (s:Nat):List Value:=six Q s ++ pages gs L s
def spRowsM (n gs:Nat) (Q:List (Int×Int×Int×Int)) (L:List Lf):List (List Value):=(List.range n).map (spRowM gs Q L)
def lnV (rv:Nat->Value) (sl:List (Sv×Sv×Value)) (j:Nat):Value:=if j < 4 then rv j else ((sl[j-4]?).map (fun s=>s.2.2)).getD (.slice none 0 0)
def PM.line (M:PM) (j:Nat):List Nat:=if j < 4 then M.ln j else ((M.threads[j-4]?).map PT.wl).getD []
def PWr (B:Bk) (n:Nat) (rv:Nat->Value) (sl:List (Sv×Sv×Value)) (k:Nat):Prop:=k=B.x\/k=B.g\/k=B.gs\/∃ j,j < 4+n/\(lnV rv sl j).ownBlock=some k
structure PWd (w:World) (B:Bk) (n:Nat) (rv:Nat->Value) (sl:List (Sv×Sv×Value)) (s:Sv) (l:List Int):Prop where
 inl:Inl w 1 s.v (l.map lnI)
 at_:∀ k,inBlock s.v=some k->k < w.heap.size/\¬ PWr B n rv sl k
def POwn (B:Bk) (n:Nat) (rv:Nat->Value) (sl:List (Sv×Sv×Value)) (k:Nat):Prop:=PWr B n rv sl k\/∃ (i:Nat) (s:Sv×Sv×Value),sl[i]? = some s/\(inBlock s.1.v=some k\/inBlock s.2.1.v=some k)
theorem PWd.nil (w:World) (B:Bk) (n:Nat) (rv:Nat->Value) (sl:List (Sv×Sv×Value)):PWd w B n rv sl Sv.nil []:=⟨⟨by simp,by simp,none,0,rfl,by simp,.inl rfl⟩,fun k h=>by simp [inBlock,Sv.nil] at h⟩
theorem PWd.kept {w w':World}{B:Bk}{n:Nat}{rv rv':Nat->Value}{sl sl':List (Sv×Sv×Value)}{s:Sv}{l:List Int}(h:PWd w B n rv sl s l){S:Nat->Prop}(hf:Fr S w w') (hs:∀ k,k < w.heap.size->¬ PWr B n rv sl k->¬ S k\/inBlock s.v≠some k) (hw:∀ k,k < w.heap.size->PWr B n rv' sl' k->PWr B n rv sl k):PWd w' B n rv' sl' s l:=
 ⟨h.inl.kept (by omega) hf (fun k hk=>by rcases hs k (h.at_ k hk).1 (h.at_ k hk).2 with g | g;exact g;exact absurd hk g),fun k hk=>⟨Nat.lt_of_lt_of_le (h.at_ k hk).1 hf.size,fun g=>(h.at_ k hk).2 (hw k (h.at_ k hk).1 g)⟩⟩
structure PmAt (w:World) (B:Bk) (M:PM) (cs:Array Value) (rv:Nat->Value) (sl:List (Sv×Sv×Value)):Prop where
 blk:w.heap[B.x]? = some (.cells cs B.ty (0,0))
 size:cs.size=39
 c0:cs[0]? = some (.int .u64 M.clock)
 c1:cs[1]? = some (.slice (some ⟨B.g,0,none⟩) M.threads.length B.c)
 row:∀ r,r < 4->cs[2+r]? = some (rv r)
 c6:cs[6]? = some (.slice (some ⟨B.gs,0,none⟩) M.sp.toNat B.cp)
 fr:∀ j,j < 32->cs[7+j]? = some (.int .i64 (M.fr j))
 ln:sl.length=M.threads.length
 th:Sl w 158 17 (.slice (some ⟨B.g,0,none⟩) M.threads.length B.c) (prows M.threads sl)
 sp:Sl w 232 30 (.slice (some ⟨B.gs,0,none⟩) M.sp.toNat B.cp) (spRowsM M.sp.toNat B.gs M.passes M.leaves)
 li:∀ j,j < 4+M.threads.length->Sl w 3 1 (lnV rv sl j) ((M.line j).map lnRow)
 wd:∀ (i:Nat) p s,M.threads[i]? = some p->sl[i]? = some s->PWd w B M.threads.length rv sl s.1 p.ws/\PWd w B M.threads.length rv sl s.2.1 p.pw
 n1:B.g≠B.x/\B.gs≠B.x/\B.g≠B.gs
 n2:∀ j,j < 4+M.threads.length->∀ k,(lnV rv sl j).ownBlock=some k->k≠B.x/\k≠B.g/\k≠B.gs
 n3:∀ i j,i < 4+M.threads.length->j < 4+M.threads.length->i≠j->∀ k,(lnV rv sl i).ownBlock=some k->(lnV rv sl j).ownBlock≠some k
section
variable {w w':World}{B:Bk}{M:PM}{cs:Array Value}{rv:Nat->Value}{sl:List (Sv×Sv×Value)}
theorem PmAt.lx (h:PmAt w B M cs rv sl):B.x < w.heap.size:=(Array.getElem?_eq_some_iff.1 h.blk).1
theorem PmAt.lg (h:PmAt w B M cs rv sl):B.g < w.heap.size:=h.th.lt rfl
theorem PmAt.ls (h:PmAt w B M cs rv sl):B.gs < w.heap.size:=h.sp.lt rfl
theorem PmAt.sl_get (h:PmAt w B M cs rv sl){i:Nat}{p:PT}(hp:M.threads[i]? = some p):∃ s,sl[i]? = some s:=
 ⟨_,List.getElem?_eq_getElem (by rw [h.ln];exact (List.getElem?_eq_some_iff.1 hp).1)⟩
theorem PmAt.wlt (h:PmAt w B M cs rv sl){k:Nat}(hk:PWr B M.threads.length rv sl k):k < w.heap.size:=by
 rcases hk with rfl | rfl | rfl | ⟨j,hj,hk⟩
 ·exact h.lx
 ·exact h.lg
 ·exact h.ls
 ·exact (h.li j hj).lt hk
theorem PmAt.lt (h:PmAt w B M cs rv sl){k:Nat}(hk:POwn B M.threads.length rv sl k):k < w.heap.size:=by
 rcases hk with hk | ⟨i,s,hs,hk⟩
 ·exact h.wlt hk
 ·have hi:i < M.threads.length:=by rw [<- h.ln];exact (List.getElem?_eq_some_iff.1 hs).1
  have hw:=h.wd i _ s (List.getElem?_eq_getElem hi) hs
  rcases hk with hk | hk
  ·exact (hw.1.at_ k hk).1
  ·exact (hw.2.at_ k hk).1
theorem PmAt.kept (h:PmAt w B M cs rv sl){S:Nat->Prop}(hf:Fr S w w') (hs:∀ k,POwn B M.threads.length rv sl k->¬ S k):PmAt w' B M cs rv sl:=
 ⟨(hf.block B.x h.lx (hs B.x (.inl (.inl rfl)))).trans h.blk,h.size,h.c0,h.c1,h.row,h.c6,h.fr,h.ln,h.th.kept hf (fun k hk=>by simp [Value.ownBlock] at hk;subst hk;exact hs _ (.inl (.inr (.inl rfl)))),h.sp.kept hf (fun k hk=>by simp [Value.ownBlock] at hk;subst hk;exact hs _ (.inl (.inr (.inr (.inl rfl))))),
 fun j hj=>(h.li j hj).kept hf (fun k hk=>hs k (.inl (.inr (.inr (.inr ⟨j,hj,hk⟩))))),
 fun i p s hp hsl=>⟨(h.wd i p s hp hsl).1.kept hf (fun k _ _=>by
   by_cases e:inBlock s.1.v=some k
   ·exact .inl (hs k (.inr ⟨i,s,hsl,.inl e⟩))
   ·exact .inr e) (fun _ _ h=>h),(h.wd i p s hp hsl).2.kept hf (fun k _ _=>by
   by_cases e:inBlock s.2.1.v=some k
   ·exact .inl (hs k (.inr ⟨i,s,hsl,.inr e⟩))
   ·exact .inr e) (fun _ _ h=>h)⟩,h.n1,h.n2,h.n3⟩
theorem PmAt.below (h:PmAt w B M cs rv sl) (hb:Below w.heap.size w w'):PmAt w' B M cs rv sl:=h.kept (Fr.of_below hb (fun _=>False)) (fun _ _ h=>h)
theorem PmAt.drew (h:PmAt w B M cs rv sl):PmAt w.drew B M cs rv sl:=h.kept ((Fr.refl (fun _=>False) w).drew) (fun _ _ h=>h)
theorem PmAt.alloc (h:PmAt w B M cs rv sl) (o:Obj):PmAt (w.alloc o) B M cs rv sl:=h.kept ((Fr.refl (fun _=>False) w).alloc o) (fun _ _ h=>h)
theorem PmAt.cell (h:PmAt w B M cs rv sl) (j:Nat):w.cell? ⟨B.x,j,none⟩=cs[j]?:=cell_of_row w B.x j _ _ _ h.blk
theorem PmAt.fro (h:PmAt w B M cs rv sl) (j:Nat):w.frozen? ⟨B.x,j,none⟩=false:=frozen_of_row _ _ _ _ _ h.blk
theorem PmAt.tcell (h:PmAt w B M cs rv sl){t:Nat}{p:PT}{s:Sv×Sv×Value}(hp:M.threads[t]? = some p) (hs:sl[t]? = some s) (j:Nat) (hj:j < 17):w.cell? ⟨B.g,t*17+j,none⟩=(prow p s)[j]?:=by
 have hl:t < (prows M.threads sl).length:=by rw [prows_len h.ln];exact (List.getElem?_eq_some_iff.1 hp).1
 have e:=prows_get hp hs
 rw [List.getElem?_eq_getElem hl] at e
 rw [h.th.cell t j hl hj,Option.some.inj e]
theorem PmAt.trange (h:PmAt w B M cs rv sl){t:Nat}{p:PT}{s:Sv×Sv×Value}(hp:M.threads[t]? = some p) (hs:sl[t]? = some s):w.rangeAt B.g (t*17) (prow p s):=h.th.row (prows_get hp hs)
theorem PmAt.tfro (h:PmAt w B M cs rv sl) (j:Nat):w.frozen? ⟨B.g,j,none⟩=false:=h.th.fro j
theorem PmAt.hrow (h:PmAt w B M cs rv sl){t:Nat}{p:PT}{s:Sv×Sv×Value}(hp:M.threads[t]? = some p) (hs:sl[t]? = some s):∃ hl:t < (prows M.threads sl).length,(prows M.threads sl)[t]=prow p s:=by
 have hl:t < (prows M.threads sl).length:=by rw [prows_len h.ln];exact (List.getElem?_eq_some_iff.1 hp).1
 have e:=prows_get hp hs
 rw [List.getElem?_eq_getElem hl] at e
 exact ⟨hl,Option.some.inj e⟩
end
theorem lnV_set {rv:Nat->Value}{sl:List (Sv×Sv×Value)}{t:Nat}{s s':Sv×Sv×Value}(hs:sl[t]? = some s) (e:s'.2.2=s.2.2) (j:Nat):lnV rv (sl.set t s') j=lnV rv sl j:=by
 unfold lnV
 split
 ·rfl
 ·rw [List.getElem?_set]
  by_cases e2:t=j-4
  ·rw [if_pos e2,if_pos (List.getElem?_eq_some_iff.1 hs).1,<- e2,hs];simp [e]
  ·rw [if_neg e2]
theorem line_upd {M:PM}{t:Nat}{f:PT->PT}(hf:∀ p,M.threads[t]? = some p->(f p).wl=p.wl) (j:Nat):(M.upd t f).line j=M.line j:=by
 unfold PM.line PM.upd
 split
 ·rfl
 ·show ((M.threads.modify t f)[j-4]?.map PT.wl).getD []=_
  rw [List.getElem?_modify]
  rcases hx:M.threads[j-4]? with _ | x
  ·rfl
  ·by_cases e:t=j-4
   ·simp [e,hf x (by rw [e];exact hx)]
   ·simp [e]
section
variable {w w':World}{B:Bk}{M:PM}{cs:Array Value}{rv:Nat->Value}{sl:List (Sv×Sv×Value)}
theorem PmAt.updTh (h:PmAt w B M cs rv sl){t:Nat}{p:PT}{s:Sv×Sv×Value}(f:PT->PT) (s':Sv×Sv×Value) (hp:M.threads[t]? = some p) (hs:sl[t]? = some s)
  (hw:Sl w' 158 17 (.slice (some ⟨B.g,0,none⟩) M.threads.length B.c) ((prows M.threads sl).set t (prow (f p) s'))) (F:Fr (fun q=>q=B.g) w w') (e2:s'.2.2=s.2.2) (e3:(f p).wl=p.wl)
  (hx:PWd w' B M.threads.length rv sl s'.1 (f p).ws) (hy:PWd w' B M.threads.length rv sl s'.2.1 (f p).pw):PmAt w' B (M.upd t f) cs rv (sl.set t s'):=by
 have hl:(M.threads.modify t f).length=M.threads.length:=by simp
 have el:∀ j,lnV rv (sl.set t s') j=lnV rv sl j:=lnV_set hs e2
 have em:∀ j,(M.upd t f).line j=M.line j:=line_upd (fun q hq=>by rw [hp] at hq;cases hq;exact e3)
 have ew:∀ k,PWr B M.threads.length rv (sl.set t s') k↔PWr B M.threads.length rv sl k:=fun k=>by unfold PWr;simp only [el]
 have ed:∀ {u:Sv}{l:List Int},PWd w' B M.threads.length rv sl u l->PWd w' B M.threads.length rv (sl.set t s') u l:=fun q=>⟨q.inl,fun k hk=>⟨(q.at_ k hk).1,fun g=>(q.at_ k hk).2 ((ew k).1 g)⟩⟩
 rw [prows_set f s' hp hs] at hw
 refine ⟨(F.block B.x h.lx (fun e=>h.n1.1 e.symm)).trans h.blk,h.size,h.c0,?_,h.row,h.c6,h.fr,?_,?_,?_,?_,?_,h.n1,?_,?_⟩
 ·show cs[1]? = some (.slice _ (M.threads.modify t f).length _);rw [hl];exact h.c1
 ·show (sl.set t s').length=(M.threads.modify t f).length;rw [hl,List.length_set];exact h.ln
 ·show Sl w' 158 17 (.slice _ (M.threads.modify t f).length _) (prows (M.threads.modify t f) _);rw [hl];exact hw
 ·exact h.sp.kept F (fun k hk e=>by simp [Value.ownBlock] at hk;subst hk;exact h.n1.2.2 e.symm)
 ·intro j hj
  have hj':j < 4+M.threads.length:=by rw [<- hl];exact hj
  rw [el,em]
  exact (h.li j hj').kept F (fun k hk e=>(h.n2 j hj' k hk).2.1 e)
 ·intro i q u hq hu
  show PWd w' B (M.threads.modify t f).length _ _ _ _/\PWd w' B (M.threads.modify t f).length _ _ _ _
  rw [hl]
  have hq2:(M.threads.modify t f)[i]? = some q:=hq
  rw [List.getElem?_modify] at hq2
  rw [List.getElem?_set] at hu
  by_cases e:t=i
  ·subst e
   rw [hp] at hq2
   rw [if_pos rfl,if_pos (List.getElem?_eq_some_iff.1 hs).1] at hu
   simp at hq2
   cases hu
   rw [<- hq2]
   exact ⟨ed hx,ed hy⟩
  ·rw [if_neg e] at hu
   rcases hz:M.threads[i]? with _ | z
   ·rw [hz] at hq2;simp at hq2
   ·rw [hz] at hq2
    simp [e] at hq2
    rw [<- hq2]
    have g:=h.wd i z u hz hu
    exact ⟨ed (g.1.kept F (fun k _ a=>.inl (fun e=>a (.inr (.inl e)))) (fun _ _ a=>a)),ed (g.2.kept F (fun k _ a=>.inl (fun e=>a (.inr (.inl e)))) (fun _ _ a=>a))⟩
 ·intro j hj k hk
  rw [el] at hk
  exact h.n2 j (by rw [<- hl];exact hj) k hk
 ·intro i j hi hj hn k hk
  rw [el] at hk ⊢
  exact h.n3 i j (by rw [<- hl];exact hi) (by rw [<- hl];exact hj) hn k hk
theorem PmAt.wdG (h:PmAt w B M cs rv sl){t:Nat}{p:PT}{s:Sv×Sv×Value}(hp:M.threads[t]? = some p) (hs:sl[t]? = some s) (F:Fr (fun q=>q=B.g) w w'):PWd w' B M.threads.length rv sl s.1 p.ws/\PWd w' B M.threads.length rv sl s.2.1 p.pw:=
 ⟨(h.wd t p s hp hs).1.kept F (fun _k _ a=>.inl (fun e=>a (.inr (.inl e)))) (fun _ _ a=>a),(h.wd t p s hp hs).2.kept F (fun _k _ a=>.inl (fun e=>a (.inr (.inl e)))) (fun _ _ a=>a)⟩
theorem PmAt.setTh (h:PmAt w B M cs rv sl){t j:Nat}{p:PT}{s:Sv×Sv×Value}(f:PT->PT) (x:Value) (hp:M.threads[t]? = some p) (hs:sl[t]? = some s) (hj:j < 17) (he:(prow p s).set j x=prow (f p) s) (e1:(f p).ws=p.ws) (e2:(f p).pw=p.pw) (e3:(f p).wl=p.wl) :
  PmAt (w.setCell ⟨B.g,t*17+j,none⟩ x) B (M.upd t f) cs rv sl/\Fr (fun q=>q=B.g) w (w.setCell ⟨B.g,t*17+j,none⟩ x):=by
 obtain ⟨hl,hrow⟩:=h.hrow hp hs
 have hset:=h.th.set t j x hl hj
 rw [hrow,he] at hset
 have F:Fr (fun q=>q=B.g) w (w.setCell ⟨B.g,t*17+j,none⟩ x):=(Fr.refl (fun q=>q=B.g) w).setCell (p:=⟨B.g,t*17+j,none⟩) (fun _=>rfl) _
 have W:=h.wdG hp hs F
 refine ⟨?_,F⟩
 have:=h.updTh f s hp hs hset F rfl e3 (by rw [e1];exact W.1) (by rw [e2];exact W.2)
 rwa [set_self hs] at this
end
section
variable {w w':World}{B:Bk}{M:PM}{cs:Array Value}{rv:Nat->Value}{sl:List (Sv×Sv×Value)}
theorem PmAt.turnLine (h:PmAt w B M cs rv sl){J:Nat}(hJ:J < 4+M.threads.length){M':PM}{cs':Array Value}{rv':Nat->Value}{sl':List (Sv×Sv×Value)}{v':Value}{l':List Nat}
  (ev:∀ j,lnV rv' sl' j=if j=J then v' else lnV rv sl j) (em:∀ j,M'.line j=if j=J then l' else M.line j) (hlen:M'.threads.length=M.threads.length) (hs:Sl w' 3 1 v' (l'.map lnRow))
  (hf:Fr (fun k=>(k=B.x\/k=B.g)\/(lnV rv sl J).ownBlock=some k) w w') (hn:∀ k,v'.ownBlock=some k->w.heap.size<=k\/(lnV rv sl J).ownBlock=some k)
  (blk:w'.heap[B.x]? = some (.cells cs' B.ty (0,0))) (size:cs'.size=39) (c0:cs'[0]? = some (.int .u64 M'.clock)) (c1:cs'[1]? = some (.slice (some ⟨B.g,0,none⟩) M'.threads.length B.c)) (row:∀ r,r < 4->cs'[2+r]? = some (rv' r))
  (c6:cs'[6]? = some (.slice (some ⟨B.gs,0,none⟩) M'.sp.toNat B.cp)) (fr:∀ j,j < 32->cs'[7+j]? = some (.int .i64 (M'.fr j))) (ln:sl'.length=M'.threads.length) (th:Sl w' 158 17 (.slice (some ⟨B.g,0,none⟩) M'.threads.length B.c) (prows M'.threads sl'))
  (e1:M'.sp=M.sp) (e2:M'.passes=M.passes) (e3:M'.leaves=M.leaves)
  (wds:∀ (i:Nat) p s,M'.threads[i]? = some p->sl'[i]? = some s->∃ p0 s0,M.threads[i]? = some p0/\sl[i]? = some s0/\p.ws=p0.ws/\p.pw=p0.pw/\s.1=s0.1/\s.2.1=s0.2.1) :
  PmAt w' B M' cs' rv' sl'/\∀ k,POwn B M'.threads.length rv' sl' k->POwn B M.threads.length rv sl k\/w.heap.size<=k:=by
 have nv:∀ k,v'.ownBlock=some k->(k≠B.x/\k≠B.g/\k≠B.gs)/\∀ j,j < 4+M.threads.length->j≠J->(lnV rv sl j).ownBlock≠some k:=by
  intro k hk
  rcases hn k hk with a | a
  ·have:=h.lx;have:=h.lg;have:=h.ls
   exact ⟨⟨by omega,by omega,by omega⟩,fun j hj _ e=>by have:=(h.li j hj).lt e;omega⟩
  ·exact ⟨h.n2 J hJ k a,fun j hj hne=>h.n3 J j hJ hj (Ne.symm hne) k a⟩
 have ew:∀ k,PWr B M.threads.length rv' sl' k->PWr B M.threads.length rv sl k\/w.heap.size<=k:=by
  rintro k (hk | hk | hk | ⟨j,hj,hk⟩)
  ·exact .inl (.inl hk)
  ·exact .inl (.inr (.inl hk))
  ·exact .inl (.inr (.inr (.inl hk)))
  ·rw [ev] at hk
   split at hk
   ·rcases hn k hk with a | a
    ·exact .inr a
    ·exact .inl (.inr (.inr (.inr ⟨J,hJ,a⟩)))
   ·exact .inl (.inr (.inr (.inr ⟨j,hj,hk⟩)))
 have inS:∀ k,((k=B.x\/k=B.g)\/(lnV rv sl J).ownBlock=some k)->PWr B M.threads.length rv sl k:=by
  rintro k ((e | e) | e)
  ·exact .inl e
  ·exact .inr (.inl e)
  ·exact .inr (.inr (.inr ⟨J,hJ,e⟩))
 refine ⟨⟨blk,size,c0,c1,row,c6,fr,ln,th,?_,?_,?_,h.n1,?_,?_⟩,?_⟩
 ·rw [e1,e2,e3]
  refine h.sp.kept hf (fun k hk e=>?_)
  simp [Value.ownBlock] at hk
  subst hk
  rcases e with (e | e) | e
  ·exact h.n1.2.1 e
  ·exact h.n1.2.2 e.symm
  ·exact (h.n2 J hJ _ e).2.2 rfl
 ·intro j hj
  rw [hlen] at hj
  rw [ev,em]
  by_cases e:j=J
  ·rw [if_pos e,if_pos e];exact hs
  ·rw [if_neg e,if_neg e]
   refine (h.li j hj).kept hf (fun k hk e'=>?_)
   rcases e' with (e' | e') | e'
   ·exact (h.n2 j hj k hk).1 e'
   ·exact (h.n2 j hj k hk).2.1 e'
   ·exact h.n3 J j hJ hj (Ne.symm e) k e' hk
 ·intro i p s hp hsl
  rw [hlen]
  obtain ⟨p0,s0,hp0,hs0,a1,a2,a3,a4⟩:=wds i p s hp hsl
  rw [a1,a2,a3,a4]
  have g:=h.wd i p0 s0 hp0 hs0
  exact ⟨g.1.kept hf (fun k _ a=>.inl (fun e=>a (inS k e))) (fun k hk a=>(ew k a).elim id (fun b=>by omega)),g.2.kept hf (fun k _ a=>.inl (fun e=>a (inS k e))) (fun k hk a=>(ew k a).elim id (fun b=>by omega))⟩
 ·intro j hj k hk
  rw [hlen] at hj
  rw [ev] at hk
  split at hk
  ·exact (nv k hk).1
  ·exact h.n2 j hj k hk
 ·intro i j hi hj hne k hk
  rw [hlen] at hi hj
  rw [ev] at hk ⊢
  by_cases ei:i=J
  ·rw [if_pos ei] at hk
   rw [if_neg (by omega)]
   exact (nv k hk).2 j hj (by omega)
  ·rw [if_neg ei] at hk
   by_cases ej:j=J
   ·rw [if_pos ej];exact fun a=>(nv k a).2 i hi ei hk
   ·rw [if_neg ej];exact h.n3 i j hi hj hne k hk
 ·rw [hlen]
  rintro k (hk | ⟨i,s,hsl,hk⟩)
  ·exact (ew k hk).imp .inl id
  ·have hi:i < M'.threads.length:=by rw [<- ln];exact (List.getElem?_eq_some_iff.1 hsl).1
   obtain ⟨p0,s0,hp0,hs0,a1,a2,a3,a4⟩:=wds i _ s (List.getElem?_eq_getElem hi) hsl
   rw [a3,a4] at hk
   exact .inl (.inr ⟨i,s0,hs0,hk⟩)
theorem PmAt.setRow (h:PmAt w B M cs rv sl){r:Nat}(hr:r < 4){v':Value}{l':List Nat}(hb:w'.heap[B.x]? = some (.cells (cs.setIfInBounds (2+r) v') B.ty (0,0))) (hs:Sl w' 3 1 v' (l'.map lnRow)) (hf:Fr (fun k=>k=B.x\/(rv r).ownBlock=some k) w w') (hn:∀ k,v'.ownBlock=some k->w.heap.size<=k\/(rv r).ownBlock=some k) :
  PmAt w' B (M.setLn r l') (cs.setIfInBounds (2+r) v') (fun s=>if s=r then v' else rv s) sl/\∀ k,POwn B M.threads.length (fun s=>if s=r then v' else rv s) sl k->POwn B M.threads.length rv sl k\/w.heap.size<=k:=by
 have eJ:lnV rv sl r=rv r:=by unfold lnV;rw [if_pos hr]
 have hJ:r < 4+M.threads.length:=by omega
 have nr:=h.n2 r hJ
 rw [eJ] at nr
 refine h.turnLine hJ (M':=M.setLn r l') (v':=v') (l':=l') (fun j=>?_) (fun j=>?_) rfl hs (by rw [eJ];exact hf.mono (fun k _ e=>e.elim (fun e=>.inl (.inl e)) .inr)) (by rw [eJ];exact hn) hb (by simpa using h.size) ?_ ?_ ?_ ?_ ?_ h.ln ?_ rfl rfl rfl (fun i p s hp hs=>⟨p,s,hp,hs,rfl,rfl,rfl,rfl⟩)
 ·unfold lnV
  by_cases e:j=r
  ·subst e;simp [hr]
  ·simp [e]
 ·unfold PM.line PM.setLn
  by_cases e:j=r
  ·subst e;simp [hr]
  ·simp [e]
 ·rw [Array.getElem?_setIfInBounds_ne (by omega)];exact h.c0
 ·rw [Array.getElem?_setIfInBounds_ne (by omega)];exact h.c1
 ·intro q hq
  by_cases e:q=r
  ·subst e;rw [if_pos rfl,Array.getElem?_setIfInBounds_self_of_lt (by have:=h.size;omega)]
  ·rw [if_neg e,Array.getElem?_setIfInBounds_ne (by omega)];exact h.row q hq
 ·rw [Array.getElem?_setIfInBounds_ne (by omega)];exact h.c6
 ·intro j hj;rw [Array.getElem?_setIfInBounds_ne (by omega)];exact h.fr j hj
 ·exact h.th.kept hf (fun k hk e=>by
   simp [Value.ownBlock] at hk
   subst hk
   rcases e with e | e
   ·exact h.n1.1 e
   ·exact (nr _ e).2.1 rfl)
theorem PmAt.setWl (h:PmAt w B M cs rv sl){t:Nat}{p:PT}{s:Sv×Sv×Value}(hp:M.threads[t]? = some p) (hs:sl[t]? = some s){v':Value}{l':List Nat}{cur:Array Value}(hcur:w.heap[B.g]? = some (.cells cur 158 (0,0))) (hb:w'.heap[B.g]? = some (.cells (cur.setIfInBounds (t*17+16) v') 158 (0,0))) (hsl:Sl w' 3 1 v' (l'.map lnRow)) (hf:Fr (fun k=>k=B.g\/s.2.2.ownBlock=some k) w w') (hn:∀ k,v'.ownBlock=some k->w.heap.size<=k\/s.2.2.ownBlock=some k) :
  PmAt w' B (M.upd t (fun p=>{ p with wl:=l' })) cs rv (sl.set t (s.1,s.2.1,v'))/\∀ k,POwn B M.threads.length rv (sl.set t (s.1,s.2.1,v')) k->POwn B M.threads.length rv sl k\/w.heap.size<=k:=by
 have htl:=(List.getElem?_eq_some_iff.1 hp).1
 have hsl':=(List.getElem?_eq_some_iff.1 hs).1
 have eJ:lnV rv sl (4+t)=s.2.2:=by unfold lnV;rw [if_neg (by omega),show 4+t-4=t by omega,hs];rfl
 have hJ:4+t < 4+M.threads.length:=by omega
 have nr:=h.n2 (4+t) hJ
 rw [eJ] at nr
 have hlen:(M.upd t (fun p=>{ p with wl:=l' })).threads.length=M.threads.length:=by simp [PM.upd]
 have key:=h.turnLine hJ (M':=M.upd t (fun p=>{ p with wl:=l' })) (cs':=cs) (rv':=rv) (sl':=sl.set t (s.1,s.2.1,v')) (v':=v') (l':=l') (fun j=>?_) (fun j=>?_) hlen hsl (by rw [eJ];exact hf.mono (fun k _ e=>e.elim (fun e=>.inl (.inr e)) .inr)) (by rw [eJ];exact hn) ((hf.block B.x h.lx (fun e=>by
   rcases e with e | e
   ·exact h.n1.1 e.symm
   ·exact (nr _ e).1 rfl)).trans h.blk) h.size h.c0 (by rw [hlen];exact h.c1) h.row h.c6 h.fr (by rw [hlen,List.length_set];exact h.ln) ?_ rfl rfl rfl ?_
 ·rw [hlen] at key;exact key
 ·unfold lnV
  by_cases e:j=4+t
  ·subst e
   rw [if_neg (by omega),if_pos rfl,show 4+t-4=t by omega,List.getElem?_set_self hsl']
   rfl
  ·rw [if_neg e]
   split
   ·rfl
   ·rw [List.getElem?_set_ne (by omega)]
 ·unfold PM.line
  by_cases e:j=4+t
  ·subst e
   rw [if_neg (by omega),if_pos rfl,show 4+t-4=t by omega]
   show ((M.threads.modify t _)[t]?.map PT.wl).getD []=_
   rw [get_modA hp]
   simp
  ·rw [if_neg e]
   split
   ·rfl
   ·show ((M.threads.modify t _)[j-4]?.map PT.wl).getD []=_
    rw [get_modA hp,if_neg (by omega)]
 ·rw [hlen]
  obtain ⟨hl,hrow⟩:=h.hrow hp hs
  have hset:=h.th.set t 16 v' hl (by omega)
  rw [hrow,show (prow p s).set 16 v'=prow ((fun p:PT=>{ p with wl:=l' }) p) (s.1,s.2.1,v') from rfl,prows_set (fun p:PT=>{ p with wl:=l' }) (s.1,s.2.1,v') hp hs] at hset
  have hb2:w'.heap[B.g]? = (w.setCell ⟨B.g,t*17+16,none⟩ v').heap[B.g]?:=by rw [hb,heap_setCell_same w B.g (t*17+16) cur 158 v' hcur]
  exact hset.of_block hb2
 ·intro i q u hq hu
  have hq2:(M.threads.modify t (fun p=>{ p with wl:=l' }))[i]? = some q:=hq
  rw [get_modA hp] at hq2
  rw [List.getElem?_set] at hu
  by_cases e:t=i
  ·subst e
   rw [if_pos rfl] at hq2
   rw [if_pos rfl,if_pos hsl'] at hu
   cases hq2
   cases hu
   exact ⟨p,s,hp,hs,rfl,rfl,rfl,rfl⟩
  ·rw [if_neg (fun a=>e a.symm)] at hq2
   rw [if_neg e] at hu
   exact ⟨q,u,hq2,hu,rfl,rfl,rfl,rfl⟩
theorem PmAt.cur (h:PmAt w B M cs rv sl):∃ cur,w.heap[B.g]? = some (.cells cur 158 (0,0))/\∀ (t:Nat) p s,M.threads[t]? = some p->sl[t]? = some s->cur[t*17+16]? = some s.2.2:=by
 rcases h.th.own.2 with ⟨a,_⟩ | ⟨g',cap,cur,e1,a1,a2,a3⟩
 ·simp at a
 ·simp only [Value.slice.injEq,Option.some.injEq,Addr.mk.injEq,and_true] at e1
  obtain ⟨e1a,e1b,e1c⟩:=e1
  subst e1a
  refine ⟨cur,a2,fun t p s hp hs=>?_⟩
  have:=h.tcell hp hs 16 (by omega)
  rw [cell_of_row w B.g _ _ _ _ a2] at this
  exact this.trans rfl
theorem PmAt.setX (h:PmAt w B M cs rv sl){j:Nat}{x:Value}{M':PM}(_hj:j < 39) (hj2:j=0\/7<=j) (e1:M'.threads=M.threads) (e2:M'.ln=M.ln) (e3:M'.sp=M.sp) (e4:M'.passes=M.passes) (e5:M'.leaves=M.leaves)
  (c0:(cs.setIfInBounds j x)[0]? = some (.int .u64 M'.clock)) (fr:∀ i,i < 32->(cs.setIfInBounds j x)[7+i]? = some (.int .i64 (M'.fr i))) :
  PmAt (w.setCell ⟨B.x,j,none⟩ x) B M' (cs.setIfInBounds j x) rv sl/\Fr (fun k=>k=B.x) w (w.setCell ⟨B.x,j,none⟩ x):=by
 have F:Fr (fun k=>k=B.x) w (w.setCell ⟨B.x,j,none⟩ x):=(Fr.refl (fun k=>k=B.x) w).setCell (p:=⟨B.x,j,none⟩) (fun _=>rfl) _
 have el:∀ j,M'.line j=M.line j:=fun j=>by unfold PM.line;rw [e1,e2]
 refine ⟨⟨heap_setCell_same w B.x j cs B.ty _ h.blk,by simpa using h.size,c0,?_,?_,?_,fr,?_,?_,?_,?_,?_,h.n1,?_,?_⟩,F⟩
 ·rw [e1,Array.getElem?_setIfInBounds_ne (by omega)];exact h.c1
 ·intro r hr;rw [Array.getElem?_setIfInBounds_ne (by omega)];exact h.row r hr
 ·rw [e3,Array.getElem?_setIfInBounds_ne (by omega)];exact h.c6
 ·rw [e1];exact h.ln
 ·rw [e1];exact h.th.kept F (fun k hk e=>by simp [Value.ownBlock] at hk;subst hk;exact h.n1.1 e)
 ·rw [e3,e4,e5];exact h.sp.kept F (fun k hk e=>by simp [Value.ownBlock] at hk;subst hk;exact h.n1.2.1 e)
 ·intro j hj;rw [e1] at hj;rw [el];exact (h.li j hj).kept F (fun k hk e=>(h.n2 j hj k hk).1 e)
 ·intro i p s hp hs
  rw [e1] at hp ⊢
  have g:=h.wd i p s hp hs
  exact ⟨g.1.kept F (fun k _ a=>.inl (fun e=>a (.inl e))) (fun _ _ a=>a),g.2.kept F (fun k _ a=>.inl (fun e=>a (.inl e))) (fun _ _ a=>a)⟩
 ·rw [e1];exact h.n2
 ·rw [e1];exact h.n3
theorem PmAt.setSp (h:PmAt w B M cs rv sl) {Q:List (Int×Int×Int×Int)} {L:List Lf} (hs:Sl w' 232 30 (.slice (some ⟨B.gs,0,none⟩) M.sp.toNat B.cp) (spRowsM M.sp.toNat B.gs Q L)) (F:Fr (fun k=>k=B.gs) w w'):PmAt w' B { M with passes:=Q,leaves:=L } cs rv sl:=by
 refine ⟨(F.block B.x h.lx (fun e=>h.n1.2.1 e.symm)).trans h.blk,h.size,h.c0,h.c1,h.row,h.c6,h.fr,h.ln,h.th.kept F (fun k hk e=>by simp [Value.ownBlock] at hk;subst hk;exact h.n1.2.2 e),hs,fun j hj=>(h.li j hj).kept F (fun k hk e=>(h.n2 j hj k hk).2.2 e),fun i p s hp hs=>?_,h.n1,h.n2,h.n3⟩
 have g:=h.wd i p s hp hs
 exact ⟨g.1.kept F (fun k _ a=>.inl (fun e=>a (.inr (.inr (.inl e))))) (fun _ _ a=>a),g.2.kept F (fun k _ a=>.inl (fun e=>a (.inr (.inr (.inl e))))) (fun _ _ a=>a)⟩
end
def PRep (w:World) (B:Bk) (S:Nat->Prop) (M:PM):Prop:=∃ cs rv sl,PmAt w B M cs rv sl/\∀ k,S k↔POwn B M.threads.length rv sl k
def PLeft (B:Bk) (S:Nat->Prop) (M:PM) (w w':World):Prop:=(∃ S',PRep w' B S' M/\∀ b,S' b->S b\/w.heap.size<=b)/\Fr S w w'
theorem PRep.kept {w w':World}{B:Bk}{S T:Nat->Prop}{M:PM}(h:PRep w B S M) (hf:Fr T w w') (ht:∀ b,S b->¬ T b):PRep w' B S M:=by
 obtain ⟨cs,rv,sl,h,hS⟩:=h
 exact ⟨cs,rv,sl,h.kept hf (fun k hk=>ht k ((hS k).2 hk)),hS⟩
theorem PRep.below {w w':World}{B:Bk}{S:Nat->Prop}{M:PM}(h:PRep w B S M) (hb:Below w.heap.size w w'):PRep w' B S M:=h.kept (Fr.of_below hb (fun _=>False)) (fun _ _ h=>h)
theorem PLeft.refl {w:World}{B:Bk}{S:Nat->Prop}{M:PM}(h:PRep w B S M):PLeft B S M w w:=⟨⟨S,h,fun _ h=>.inl h⟩,Fr.refl _ _⟩
theorem PLeft.below {w w':World}{B:Bk}{S:Nat->Prop}{M:PM}(h:PRep w B S M) (hb:Below w.heap.size w w'):PLeft B S M w w':=⟨⟨S,h.below hb,fun _ h=>.inl h⟩,Fr.of_below hb S⟩
theorem Fr.next {S S':Nat->Prop}{a b c:World}(h:Fr S a b) (k:Fr S' b c) (hs:∀ i,S' i->S i\/a.heap.size<=i):Fr S a c:=
 ⟨k.os.trans h.os,k.tape.trans h.tape,k.output.trans h.output,Nat.le_trans h.size k.size,fun i hi hn=>(k.block i (Nat.lt_of_lt_of_le hi h.size) (fun e=>(hs i e).elim hn (fun g=>by omega))).trans (h.block i hi hn)⟩
theorem PLeft.next {w w1 w2:World}{B:Bk}{S:Nat->Prop}{M1 M2:PM}(h:PLeft B S M1 w w1) (k:∀ S',PRep w1 B S' M1->PLeft B S' M2 w1 w2):PLeft B S M2 w w2:=by
 obtain ⟨⟨S1,h1,h2⟩,F1⟩:=h
 obtain ⟨⟨S2,k1,k2⟩,F2⟩:=k S1 h1
 refine ⟨⟨S2,k1,fun b hb=>?_⟩,F1.next F2 h2⟩
 rcases k2 b hb with e | e
 ·exact h2 b e
 ·exact .inr (Nat.le_trans F1.size e)
theorem PLeft.of {w w':World}{B:Bk}{S:Nat->Prop}{M M':PM}{cs':Array Value}{rv rv':Nat->Value}{sl sl':List (Sv×Sv×Value)}(hS:∀ k,S k↔POwn B M.threads.length rv sl k) (hl:M'.threads.length=M.threads.length) (h':PmAt w' B M' cs' rv' sl') (ho:∀ k,POwn B M.threads.length rv' sl' k->POwn B M.threads.length rv sl k\/w.heap.size<=k){T:Nat->Prop}(F:Fr T w w') (hT:∀ k,T k->POwn B M.threads.length rv sl k):PLeft B S M' w w':=
 ⟨⟨_,⟨cs',rv',sl',h',fun _=>Iff.rfl⟩,fun b hb=>by rw [hl] at hb;exact (ho b hb).imp (hS b).2 id⟩,F.mono (fun k _ e=>(hS k).2 (hT k e))⟩
theorem Sl.run {e:TypeId}{size g n cap i:Nat}:∀ (vs:List Value) (o:Nat) (w:World) (rows:List (List Value)),Sl w e size (.slice (some ⟨g,0,none⟩) n cap) rows->(hi:i < rows.length)->o+vs.length<=size ->
  Sl (w.setCells g (i*size+o) vs) e size (.slice (some ⟨g,0,none⟩) n cap) (rows.set i (setAt rows[i] o vs))/\Fr (fun q=>q=g) w (w.setCells g (i*size+o) vs)
 | [],o,w,rows,h,hi,_=>by
  refine ⟨?_,Fr.refl _ _⟩
  simp only [setAt,List.set_getElem_self]
  exact h
 | v :: r,o,w,rows,h,hi,ho=>by
  simp only [List.length_cons] at ho
  have h1:=h.set i o v hi (by omega)
  have h2:=Sl.run r (o+1) _ _ h1 (by simpa using hi) (by omega)
  have F1:Fr (fun q=>q=g) w (w.setCell ⟨g,i*size+o,none⟩ v):=(Fr.refl (fun q=>q=g) w).setCell (p:=⟨g,i*size+o,none⟩) (fun _=>rfl) _
  refine ⟨?_,F1.trans h2.2⟩
  have e:=h2.1
  rw [List.getElem_set_self,List.set_set] at e
  exact e
section
variable {w w':World}{B:Bk}{M:PM}{cs:Array Value}{rv:Nat->Value}{sl:List (Sv×Sv×Value)}
theorem PmAt.run (h:PmAt w B M cs rv sl){t:Nat}{p:PT}{s:Sv×Sv×Value}(hp:M.threads[t]? = some p) (hs:sl[t]? = some s) (o:Nat) (vs:List Value) (f:PT->PT) (s':Sv×Sv×Value) (ho:o+vs.length<=17) (he:setAt (prow p s) o vs=prow (f p) s') (e2:s'.2.2=s.2.2) (e3:(f p).wl=p.wl)
  (hx:PWd w B M.threads.length rv sl s'.1 (f p).ws) (hy:PWd w B M.threads.length rv sl s'.2.1 (f p).pw):PmAt (w.setCells B.g (t*17+o) vs) B (M.upd t f) cs rv (sl.set t s')/\Fr (fun q=>q=B.g) w (w.setCells B.g (t*17+o) vs):=by
 obtain ⟨hl,hrow⟩:=h.hrow hp hs
 have R:=Sl.run vs o w _ h.th hl ho
 rw [hrow,he] at R
 refine ⟨h.updTh f s' hp hs R.1 R.2 e2 e3 (hx.kept R.2 (fun k _ a=>.inl (fun e=>a (.inr (.inl e)))) (fun _ _ a=>a)) (hy.kept R.2 (fun k _ a=>.inl (fun e=>a (.inr (.inl e)))) (fun _ _ a=>a)),R.2⟩
theorem pown_set {n:Nat}{t:Nat}{s s':Sv×Sv×Value}(hs:sl[t]? = some s) (e:s'.2.2=s.2.2){b:Nat}(h1:∀ k,inBlock s'.1.v=some k->POwn B n rv sl k\/b<=k) (h2:∀ k,inBlock s'.2.1.v=some k->POwn B n rv sl k\/b<=k) (k:Nat) (hk:POwn B n rv (sl.set t s') k):POwn B n rv sl k\/b<=k:=by
 rcases hk with hk | ⟨i,u,hu,hk⟩
 ·refine .inl (.inl ?_)
  unfold PWr at hk ⊢
  simp only [lnV_set hs e] at hk
  exact hk
 ·rw [List.getElem?_set] at hu
  by_cases e2:t=i
  ·rw [if_pos e2,if_pos (List.getElem?_eq_some_iff.1 hs).1] at hu
   cases hu
   rcases hk with hk | hk
   ·exact h1 k hk
   ·exact h2 k hk
  ·rw [if_neg e2] at hu
   exact .inl (.inr ⟨i,u,hu,hk⟩)
theorem in_nil {k:Nat}(h:inBlock Sv.nil.v=some k):False:=by simp [inBlock,Sv.nil] at h
end
open Go.RowKit
def pa (o:Option (Int×Int×Int×Int)):Int:=match o with | none=>0 | some p=>p.2.2.1
def pb (o:Option (Int×Int×Int×Int)):Int:=match o with | none=>0 | some p=>p.2.2.2
def la (o:Option Lf):Int:=match o with | none=>0 | some l=>l.fr
def lb (o:Option Lf):Int:=match o with | none=>0 | some l=>l.rt
def lu (gs:Nat) (o:Option Lf):Value:=match o with | none=>.pointer none | some l=>upV gs l
theorem cell2_eq (o:Option (Int×Int×Int×Int)):cell2 o=[.int .i64 (pa o),.int .i64 (pb o)]:=by cases o <;> rfl
theorem cell3_eq (gs:Nat) (o:Option Lf):cell3 gs o=[.int .i64 (la o),.int .i64 (lb o),lu gs o]:=by cases o <;> rfl
theorem six_eq (L:List (Int×Int×Int×Int)) (s:Int):six L s=[.int .i64 (pa (findQ L s 0)),.int .i64 (pb (findQ L s 0)),.int .i64 (pa (findQ L s 1)),.int .i64 (pb (findQ L s 1)),.int .i64 (pa (findQ L s 2)),.int .i64 (pb (findQ L s 2)),.int .i64 (pa (findQ L s 3)),.int .i64 (pb (findQ L s 3)),.int .i64 (pa (findQ L s 4)),.int .i64 (pb (findQ L s 4)),.int .i64 (pa (findQ L s 5)),.int .i64 (pb (findQ L s 5))]:=by
 unfold six;simp only [cell2_eq];rfl
theorem pages_eq (gs:Nat) (L:List Lf) (s:Int):pages gs L s=[.int .i64 (la (findLf L s 0)),.int .i64 (lb (findLf L s 0)),lu gs (findLf L s 0),.int .i64 (la (findLf L s 1)),.int .i64 (lb (findLf L s 1)),lu gs (findLf L s 1),.int .i64 (la (findLf L s 2)),.int .i64 (lb (findLf L s 2)),lu gs (findLf L s 2),.int .i64 (la (findLf L s 3)),.int .i64 (lb (findLf L s 3)),lu gs (findLf L s 3),.int .i64 (la (findLf L s 4)),.int .i64 (lb (findLf L s 4)),lu gs (findLf L s 4),.int .i64 (la (findLf L s 5)),.int .i64 (lb (findLf L s 5)),lu gs (findLf L s 5)]:=by
 unfold pages;simp only [cell3_eq];rfl
theorem six_len (L:List (Int×Int×Int×Int)) (s:Int):(six L s).length=12:=by rw [six_eq];rfl
section
variable {gs:Nat}{Q Q':List (Int×Int×Int×Int)}{L L':List Lf}{s j:Nat}
theorem six_at (hj:j < 6):(six Q s)[j*2]? = some (.int .i64 (pa (findQ Q s j)))/\(six Q s)[j*2+1]? = some (.int .i64 (pb (findQ Q s j))):=by
 have h6:j=0\/j=1\/j=2\/j=3\/j=4\/j=5:=by omega
 rw [six_eq]
 rcases h6 with rfl | rfl | rfl | rfl | rfl | rfl <;> exact ⟨rfl,rfl⟩
theorem pages_at (hj:j < 6):(pages gs L s)[j*3]? = some (.int .i64 (la (findLf L s j)))/\(pages gs L s)[j*3+1]? = some (.int .i64 (lb (findLf L s j)))/\(pages gs L s)[j*3+2]? = some (lu gs (findLf L s j)):=by
 have h6:j=0\/j=1\/j=2\/j=3\/j=4\/j=5:=by omega
 rw [pages_eq]
 rcases h6 with rfl | rfl | rfl | rfl | rfl | rfl <;> exact ⟨rfl,rfl,rfl⟩
theorem six_upd {o:Option (Int×Int×Int×Int)}(hj:j < 6) (hf:∀ s' i:Int,findQ Q' s' i=if (s:Int)=s'/\(j:Int)=i then o else findQ Q s' i):six Q' s=setAt (six Q s) (j*2) [.int .i64 (pa o),.int .i64 (pb o)]:=by
 have h6:j=0\/j=1\/j=2\/j=3\/j=4\/j=5:=by omega
 rw [six_eq,six_eq]
 simp only [hf]
 rcases h6 with rfl | rfl | rfl | rfl | rfl | rfl <;> simp [setAt]
theorem six_same {o:Option (Int×Int×Int×Int)}(hf:∀ s' i:Int,findQ Q' s' i=if (s:Int)=s'/\(j:Int)=i then o else findQ Q s' i){t:Int}(hne:(s:Int)≠t):six Q' t=six Q t:=by
 rw [six_eq,six_eq]
 simp only [hf,hne,false_and,if_false]
theorem pages_upd {o:Option Lf}(hj:j < 6) (hf:∀ s' i:Int,findLf L' s' i=if (s:Int)=s'/\(j:Int)=i then o else findLf L s' i):pages gs L' s=setAt (pages gs L s) (j*3) [.int .i64 (la o),.int .i64 (lb o),lu gs o]:=by
 have h6:j=0\/j=1\/j=2\/j=3\/j=4\/j=5:=by omega
 rw [pages_eq,pages_eq]
 simp only [hf]
 rcases h6 with rfl | rfl | rfl | rfl | rfl | rfl <;> simp [setAt]
theorem pages_same {o:Option Lf}(hf:∀ s' i:Int,findLf L' s' i=if (s:Int)=s'/\(j:Int)=i then o else findLf L s' i){t:Int}(hne:(s:Int)≠t):pages gs L' t=pages gs L t:=by
 rw [pages_eq,pages_eq]
 simp only [hf,hne,false_and,if_false]
theorem setAt_left:∀ (vs xs ys:List Value) (o:Nat),o+vs.length<=xs.length->setAt (xs ++ ys) o vs=setAt xs o vs ++ ys
 | [],_,_,_,_=>rfl
 | v :: r,xs,ys,o,h=>by
  simp only [List.length_cons] at h
  simp only [setAt]
  rw [List.set_append_left _ _ (by omega),setAt_left r _ ys (o+1) (by rw [List.length_set];omega)]
theorem setAt_right:∀ (vs xs ys:List Value) (o:Nat),setAt (xs ++ ys) (xs.length+o) vs=xs ++ setAt ys o vs
 | [],_,_,_=>rfl
 | v :: r,xs,ys,o=>by
  simp only [setAt]
  rw [List.set_append_right _ _ (by omega),Nat.add_sub_cancel_left,show xs.length+o+1=xs.length+(o+1) by omega,setAt_right r xs _ (o+1)]
theorem rows_updP {o:Option (Int×Int×Int×Int)}(n:Nat) (hs:s < n) (hj:j < 6) (hf:∀ s' i:Int,findQ Q' s' i=if (s:Int)=s'/\(j:Int)=i then o else findQ Q s' i):(spRowsM n gs Q L).set s (setAt (spRowM gs Q L s) (j*2) [.int .i64 (pa o),.int .i64 (pb o)])=spRowsM n gs Q' L:=by
 apply List.ext_getElem?
 intro i
 rw [List.getElem?_set]
 unfold spRowsM
 by_cases e:s=i
 ·subst e
  rw [if_pos rfl]
  simp only [List.length_map,List.length_range,hs,if_true,List.getElem?_map,List.getElem?_range hs,Option.map_some]
  unfold spRowM
  rw [six_upd hj hf,setAt_left _ _ _ _ (by rw [six_len];simp;omega)]
 ·rw [if_neg e]
  simp only [List.getElem?_map]
  rcases Nat.lt_or_ge i n with hi | hi
  ·rw [List.getElem?_range hi]
   simp only [Option.map_some,spRowM]
   rw [six_same hf (t:=(i:Int)) (by omega)]
  ·rw [List.getElem?_eq_none (by simpa using hi)];rfl
theorem rows_updL {o:Option Lf}(n:Nat) (hs:s < n) (hj:j < 6) (hf:∀ s' i:Int,findLf L' s' i=if (s:Int)=s'/\(j:Int)=i then o else findLf L s' i):(spRowsM n gs Q L).set s (setAt (spRowM gs Q L s) (12+j*3) [.int .i64 (la o),.int .i64 (lb o),lu gs o])=spRowsM n gs Q L':=by
 apply List.ext_getElem?
 intro i
 rw [List.getElem?_set]
 unfold spRowsM
 by_cases e:s=i
 ·subst e
  rw [if_pos rfl]
  simp only [List.length_map,List.length_range,hs,if_true,List.getElem?_map,List.getElem?_range hs,Option.map_some]
  unfold spRowM
  rw [pages_upd hj hf]
  have:=setAt_right [.int .i64 (la o),.int .i64 (lb o),lu gs o] (six Q s) (pages gs L s) (j*3)
  rw [six_len] at this
  rw [this]
 ·rw [if_neg e]
  simp only [List.getElem?_map]
  rcases Nat.lt_or_ge i n with hi | hi
  ·rw [List.getElem?_range hi]
   simp only [Option.map_some,spRowM]
   rw [pages_same hf (t:=(i:Int)) (by omega)]
  ·rw [List.getElem?_eq_none (by simpa using hi)];rfl
end
section
variable {w:World}{B:Bk}{M:PM}{cs:Array Value}{rv:Nat->Value}{sl:List (Sv×Sv×Value)}{s j:Nat}
theorem sprows_get {n gs:Nat}{Q:List (Int×Int×Int×Int)}{L:List Lf}(hs:s < n):(spRowsM n gs Q L)[s]? = some (spRowM gs Q L s):=by
 unfold spRowsM
 rw [List.getElem?_map,List.getElem?_range hs]
 rfl
theorem PmAt.srow (_h:PmAt w B M cs rv sl) (hs:s < M.sp.toNat):∃ hl:s < (spRowsM M.sp.toNat B.gs M.passes M.leaves).length,(spRowsM M.sp.toNat B.gs M.passes M.leaves)[s]=spRowM B.gs M.passes M.leaves s:=by
 have hl:s < (spRowsM M.sp.toNat B.gs M.passes M.leaves).length:=by simpa [spRowsM] using hs
 have e:=sprows_get (gs:=B.gs) (Q:=M.passes) (L:=M.leaves) hs
 rw [List.getElem?_eq_getElem hl] at e
 exact ⟨hl,Option.some.inj e⟩
theorem PmAt.slotC (h:PmAt w B M cs rv sl) (hs:s < M.sp.toNat) (hj:j < 6):w.cell? ⟨B.gs,s*30+j*2,none⟩=some (.int .i64 (pa (findQ M.passes s j)))/\w.cell? ⟨B.gs,s*30+j*2+1,none⟩=some (.int .i64 (pb (findQ M.passes s j))):=by
 obtain ⟨hl,hr⟩:=h.srow hs
 have a:=six_at (Q:=M.passes) (s:=s) hj
 constructor
 ·rw [h.sp.cell s (j*2) hl (by omega),hr]
  unfold spRowM
  rw [List.getElem?_append_left (by rw [six_len];omega)]
  exact a.1
 ·rw [show s*30+j*2+1=s*30+(j*2+1) by omega,h.sp.cell s (j*2+1) hl (by omega),hr]
  unfold spRowM
  rw [List.getElem?_append_left (by rw [six_len];omega)]
  exact a.2
theorem PmAt.pageC (h:PmAt w B M cs rv sl) (hs:s < M.sp.toNat) (hj:j < 6):w.cell? ⟨B.gs,s*30+12+j*3,none⟩=some (.int .i64 (la (findLf M.leaves s j)))/\w.cell? ⟨B.gs,s*30+12+j*3+1,none⟩=some (.int .i64 (lb (findLf M.leaves s j)))/\w.cell? ⟨B.gs,s*30+12+j*3+2,none⟩=some (lu B.gs (findLf M.leaves s j)):=by
 obtain ⟨hl,hr⟩:=h.srow hs
 have a:=pages_at (gs:=B.gs) (L:=M.leaves) (s:=s) hj
 have key:∀ i,i < 3->w.cell? ⟨B.gs,s*30+12+j*3+i,none⟩=(pages B.gs M.leaves s)[j*3+i]?:=by
  intro i hi
  rw [show s*30+12+j*3+i=s*30+(12+(j*3+i)) by omega,h.sp.cell s (12+(j*3+i)) hl (by omega),hr]
  unfold spRowM
  rw [List.getElem?_append_right (by rw [six_len];omega),six_len,show 12+(j*3+i)-12=j*3+i by omega]
 exact ⟨(key 0 (by omega)).trans a.1,(key 1 (by omega)).trans a.2.1,(key 2 (by omega)).trans a.2.2⟩
theorem PmAt.sfro (h:PmAt w B M cs rv sl) (i:Nat):w.frozen? ⟨B.gs,i,none⟩=false:=h.sp.fro i
theorem PmAt.setSlot (h:PmAt w B M cs rv sl) (hs:s < M.sp.toNat) (hj:j < 6){o:Option (Int×Int×Int×Int)}{Q':List (Int×Int×Int×Int)}(hf:∀ s' i:Int,findQ Q' s' i=if (s:Int)=s'/\(j:Int)=i then o else findQ M.passes s' i) :
  PmAt (w.setCells B.gs (s*30+j*2) [.int .i64 (pa o),.int .i64 (pb o)]) B { M with passes:=Q',leaves:=M.leaves } cs rv sl/\Fr (fun k=>k=B.gs) w (w.setCells B.gs (s*30+j*2) [.int .i64 (pa o),.int .i64 (pb o)]):=by
 obtain ⟨hl,hr⟩:=h.srow hs
 have R:=Sl.run [.int .i64 (pa o),.int .i64 (pb o)] (j*2) w _ h.sp hl (by simp;omega)
 rw [hr,rows_updP _ hs hj hf] at R
 exact ⟨h.setSp R.1 R.2,R.2⟩
theorem PmAt.setPage (h:PmAt w B M cs rv sl) (hs:s < M.sp.toNat) (hj:j < 6){o:Option Lf}{L':List Lf}(hf:∀ s' i:Int,findLf L' s' i=if (s:Int)=s'/\(j:Int)=i then o else findLf M.leaves s' i) :
  PmAt (w.setCells B.gs (s*30+12+j*3) [.int .i64 (la o),.int .i64 (lb o),lu B.gs o]) B { M with leaves:=L' } cs rv sl/\Fr (fun k=>k=B.gs) w (w.setCells B.gs (s*30+12+j*3) [.int .i64 (la o),.int .i64 (lb o),lu B.gs o]):=by
 obtain ⟨hl,hr⟩:=h.srow hs
 have R:=Sl.run [.int .i64 (la o),.int .i64 (lb o),lu B.gs o] (12+j*3) w _ h.sp hl (by simp;omega)
 rw [hr,rows_updL _ hs hj hf,show s*30+(12+j*3)=s*30+12+j*3 by omega] at R
 exact ⟨h.setSp (Q:=M.passes) R.1 R.2,R.2⟩
end
theorem find_out (L:List Lf) (s n:Int) (a b:Int):findLf (L.filter (fun l=>!(l.sp == s && l.pg == n))) a b=if s=a/\n=b then none else findLf L a b:=by
 unfold findLf
 induction L with
 | nil=>simp
 | cons x L ih=>
  rw [List.filter_cons]
  by_cases e:x.sp=s/\x.pg=n
  ·have e1:(!(x.sp == s && x.pg == n))=false:=by simp [e.1,e.2]
   rw [e1]
   simp only [Bool.false_eq_true,if_false]
   rw [ih,List.find?_cons]
   by_cases q:s=a/\n=b
   ·rw [if_pos q,if_pos q]
   ·rw [if_neg q,if_neg q]
    have e2:(x.sp == a && x.pg == b)=false:=by simp [e.1,e.2];omega
    rw [e2]
  ·have e1:(!(x.sp == s && x.pg == n))=true:=by simp;omega
   rw [e1]
   simp only [if_true]
   rw [List.find?_cons,ih,List.find?_cons]
   by_cases q:s=a/\n=b
   ·have e2:(x.sp == a && x.pg == b)=false:=by simp;omega
    simp only [if_pos q,e2]
   ·rw [if_neg q,if_neg q]
theorem gone_own (L:List Lf) (s n:Int):goneL L s n true=(goneL L s n false).filter (fun l=>!(l.sp == s && l.pg == n)):=by
 unfold goneL
 rw [List.filter_filter]
 apply List.filter_congr
 intro l hl
 rw [Bool.eq_iff_iff,Bool.and_eq_true,stays_iff,stays_iff]
 simp
 constructor
 ·rintro ⟨a,b⟩;exact ⟨Decidable.not_or_of_imp b,a⟩
 ·rintro ⟨a,b⟩;exact ⟨b,fun e1 e2=>a.elim (fun f=>f e1) (fun f=>f e2)⟩
structure LOk (r:Int->Int->Nat) (sp:Int) (L:List Lf):Prop where
 ap:ApL L
 kin:Kin r L
 lf:∀ l∈L,l.sp<=sp-1/\0<=l.pg/\l.pg<=5
theorem LOk.gone {r:Int->Int->Nat}{sp:Int}{L:List Lf}(h:LOk r sp L) (s n:Int) (own:Bool):LOk r sp (goneL L s n own):=⟨gone_apl h.ap _ _ _,gone_kin h.kin _ _ _,fun l hl=>h.lf l (mem_gone.1 hl).1⟩
theorem upV_eq {r:Int->Int->Nat}{sp:Int}{L:List Lf}(h:LOk r sp L){l:Lf}(hl:l∈L) (gs:Nat){s j:Nat}(hj:j < 6) :
  ((l.usp=s/\l.upg=j)/\upV gs l=.pointer (some ⟨gs,s*30+12+j*3,none⟩))\/(¬ (l.usp=s/\l.upg=j)/\(upV gs l=.pointer none\/∃ o,upV gs l=.pointer (some ⟨gs,o,none⟩)/\o≠s*30+12+j*3)):=by
 rcases (h.kin l hl).2 with ⟨e1,e2⟩ | ⟨p,hp,e1,e2,_⟩
 ·refine .inr ⟨by omega,.inl ?_⟩
  unfold upV
  rw [if_pos (by omega)]
 ·have a:=(h.kin p hp).1
  have b:=h.lf p hp
  have eu:upV gs l=.pointer (some ⟨gs,l.usp.toNat*30+12+l.upg.toNat*3,none⟩):=by unfold upV;rw [if_neg (by omega)]
  by_cases q:l.usp=s/\l.upg=j
  ·refine .inl ⟨q,?_⟩
   rw [eu,q.1,q.2]
   rfl
  ·refine .inr ⟨q,.inr ⟨_,eu,by omega⟩⟩
def Took (B:Bk) (M:PM) (L':List Lf) (cs:Array Value) (rv:Nat->Value) (sl:List (Sv×Sv×Value)) (w w':World):Prop:=PmAt w' B { M with leaves:=L' } cs rv sl/\Fr (fun k=>k=B.gs) w w'
theorem remove_of (B:Bk) (M:PM) (cs:Array Value) (rv:Nat->Value) (sl:List (Sv×Sv×Value)) (s j:Nat) (w:World) (hs:s < M.sp.toNat) (hj:j < 6)
  (T:Calls Tryz.prog 91 #[.pointer (some ⟨B.x,0,none⟩),.pointer (some ⟨B.gs,s*30+12+j*3,none⟩)] w fun e w'=>e=.returned (.tuple #[])/\Took B M (goneL M.leaves s j false) cs rv sl w w') :
  Calls Tryz.prog 144 #[.pointer (some ⟨B.x,0,none⟩),.pointer (some ⟨B.gs,s*30+12+j*3,none⟩)] w fun e w'=>e=.returned (.tuple #[])/\Took B M (goneL M.leaves s j true) cs rv sl w w':=by
 have HT:=hid T
 have HS:=hid (And.intro hs hj)
 clear T hs hj
 go_enter Tryz.func144,Tryz.ntmps144
 go_wp2_with (go_at_call 91;refine HT.out.mono ?_;rintro e w1 ⟨rfl,H1⟩;have c0:=(H1.1.pageC (s:=s) (j:=j) HS.out.1 HS.out.2).1;have c1:=(H1.1.pageC (s:=s) (j:=j) HS.out.1 HS.out.2).2.1;have c2:=(H1.1.pageC (s:=s) (j:=j) HS.out.1 HS.out.2).2.2;have fz:=H1.1.sfro;replace H1:=hid H1)
 go_end0
 have P:=H1.out.1.setPage (s:=s) (j:=j) (o:=none) (L':=goneL M.leaves s j true) HS.out.1 HS.out.2 (fun a b=>by rw [gone_own,find_out])
 exact ⟨rfl,P.1,H1.out.2.trans P.2⟩
theorem Tryz.infoN179:(Tryz.prog.info? 179).map (fun i=>(i.zero,i.size,i.bytes))=some (some (.agg #[.int .i64 0,.int .i64 0,.pointer none]),3,24):=by kernel_rfl
theorem ptr_none (w:World) (a:Addr):(binOp .eql 174 (.pointer none) (.pointer (some a))).run Tryz.prog w=.ok (.bool false) w:=by
 have h:∀ d:Nat,(Op.equalIn (d+1) 174 (.pointer none) (.pointer (some a))).run Tryz.prog w=.ok false w:=fun d=>by
  simp [Op.equalIn,run_underlying Tryz.underlying174]
 simp only [binOp]
 simp [Op.equal,Op.maxDepth,h 9999]
theorem ptr_same (w:World) (a:Addr):(binOp .eql 174 (.pointer (some a)) (.pointer (some a))).run Tryz.prog w=.ok (.bool true) w:=by
 obtain ⟨i0,hi0,_⟩:=info_parts Tryz.infoN179
 exact run_eql_ptr_same w a Tryz.underlying174 hi0
theorem ptr_other (w:World) (g a b:Nat){cur:Array Value}{ty:TypeId}(hg:w.heap[g]? = some (.cells cur ty (0,0))) (h:a≠b):(binOp .eql 174 (.pointer (some ⟨g,a,none⟩)) (.pointer (some ⟨g,b,none⟩))).run Tryz.prog w=.ok (.bool false) w:=by
 obtain ⟨i0,hi0,_,hsz,_⟩:=info_parts Tryz.infoN179
 exact run_eql_ptr_other w Tryz.underlying174 hi0 (by rw [hsz];decide) (fun e=>h (congrArg Addr.off e)) hg hg
theorem eqg (o1 o2:Operand) (v:Value) (x:Option Addr):eqGuard .eql 174 o1 o2 v (.pointer x)=pure ():=by cases v <;> rfl
theorem PmAt.scur {w:World}{B:Bk}{M:PM}{cs:Array Value}{rv:Nat->Value}{sl:List (Sv×Sv×Value)}(h:PmAt w B M cs rv sl):∃ cur,w.heap[B.gs]? = some (.cells cur 232 (0,0)):=by
 rcases h.sp.own.2 with ⟨a,_⟩ | ⟨g',cap,cur,e1,a1,a2,a3⟩
 ·simp at a
 ·simp only [Value.slice.injEq,Option.some.injEq,Addr.mk.injEq,and_true] at e1
  obtain ⟨e1a,e1b,e1c⟩:=e1
  subst e1a
  exact ⟨cur,a2⟩
theorem child_of {w:World}{B:Bk}{M:PM}{cs:Array Value}{rv:Nat->Value}{sl:List (Sv×Sv×Value)}(h:PmAt w B M cs rv sl){r:Int->Int->Nat}{sp:Int}(ok:LOk r sp M.leaves){a b s j:Nat}(hj:j < 6) :
  ((∃ c∈M.leaves,c.sp=a/\c.pg=b/\c.usp=s/\c.upg=j)/\(binOp .eql 174 (lu B.gs (findLf M.leaves a b)) (.pointer (some ⟨B.gs,s*30+12+j*3,none⟩))).run Tryz.prog w=.ok (.bool true) w) \/
  ((∀ c∈M.leaves,c.sp=a->c.pg=b->¬ (c.usp=s/\c.upg=j))/\(binOp .eql 174 (lu B.gs (findLf M.leaves a b)) (.pointer (some ⟨B.gs,s*30+12+j*3,none⟩))).run Tryz.prog w=.ok (.bool false) w):=by
 obtain ⟨cur,hg⟩:=h.scur
 rcases hf:findLf M.leaves a b with _ | l
 ·refine .inr ⟨fun c hc e1 e2=>?_,ptr_none w _⟩
  have:=List.find?_eq_none.1 (show List.find? _ M.leaves=none from hf) c hc
  simp [e1,e2] at this
 ·have hm:=List.mem_of_find?_eq_some (show List.find? _ M.leaves=some l from hf)
  have hq:=List.find?_some (show List.find? _ M.leaves=some l from hf)
  simp at hq
  rcases upV_eq ok hm B.gs (s:=s) (j:=j) hj with ⟨q,e⟩ | ⟨q,e⟩
  ·refine .inl ⟨⟨l,hm,hq.1,hq.2,q.1,q.2⟩,?_⟩
   show (binOp .eql 174 (upV B.gs l) _).run _ _=_
   rw [e]
   exact ptr_same w _
  ·refine .inr ⟨fun c hc e1 e2=>?_,?_⟩
   ·have:c=l:=ok.ap.eq hc hm (by omega) (by omega)
    rw [this];exact q
   ·show (binOp .eql 174 (upV B.gs l) _).run _ _=_
    rcases e with e | ⟨o,e,hne⟩
    ·rw [e];exact ptr_none w _
    ·rw [e];exact ptr_other w B.gs o _ hg hne
theorem takeBack_any (N:Nat):∀ (B:Bk) (M:PM) (cs:Array Value) (rv:Nat->Value) (sl:List (Sv×Sv×Value)) (s j:Nat) (w:World) (r:Int->Int->Nat),PmAt w B M cs rv sl->LOk r M.sp M.leaves->s < M.sp.toNat->j < 6->M.sp<=3->younger r M.leaves (r s j) < N ->
  Calls Tryz.prog 91 #[.pointer (some ⟨B.x,0,none⟩),.pointer (some ⟨B.gs,s*30+12+j*3,none⟩)] w fun e w'=>e=.returned (.tuple #[])/\Took B M (goneL M.leaves s j false) cs rv sl w w':=by
 induction N with
 | zero=>intro B M cs rv sl s j w r h ok hs hj h3 hN;omega
 | succ N IH=>
  intro B M cs rv sl s j w r h ok hs hj h3 hN
  have HI:=hid IH
  obtain ⟨n,hn⟩:∃ n,M.sp.toNat=n:=⟨_,rfl⟩
  have hc6:=(h.cell 6).trans h.c6
  rw [hn] at hc6
  have hn3:n<=3:=by omega
  have HH:=hid (And.intro h (And.intro ok (And.intro hs (And.intro hj (And.intro hN (And.intro hn h3))))))
  clear IH h ok hs hj hN hn h3
  go_enter Tryz.func91,Tryz.ntmps91
  go_wp2
  go_loopw [12] (fun i wr=>∃ (a:Nat) (L:List Lf),a<=n/\i=.int .i64 a/\Hid (goneL L s j false=goneL M.leaves s j false/\LOk r M.sp L/\younger r L (r s j) < N+1/\(∀ c∈L,c.usp=s->c.upg=j->(a:Int)<=c.sp)/\Took B M L cs rv sl w wr)) (fun i _=>n-(intOf i).toNat)
  case atStart=>exact ⟨0,M.leaves,Nat.zero_le _,rfl,rfl,HH.out.2.1,HH.out.2.2.2.2.1,fun c hc _ _=>(HH.out.2.1.kin c hc).1,HH.out.1,Fr.refl _ _⟩
  case round=>
   obtain ⟨a,L,ha,rfl,HL⟩:=hrel
   rename World=>wa
   by_cases hlt:a < n
   ·have hlt':(a:Int) < (n:Int):=by omega
    go_wp2
    go_loopw [15] (fun i wr=>∃ (b:Nat) (L:List Lf),b<=6/\i=.int .i64 b/\Hid (goneL L s j false=goneL M.leaves s j false/\LOk r M.sp L/\younger r L (r s j) < N+1/\(∀ c∈L,c.usp=s->c.upg=j->(a:Int) < c.sp\/(c.sp=a/\(b:Int)<=c.pg))/\Took B M L cs rv sl w wr)) (fun i _=>6-(intOf i).toNat)
    case atStart=>
     refine ⟨0,L,Nat.zero_le _,rfl,HL.out.1,HL.out.2.1,HL.out.2.2.1,fun c hc e1 e2=>?_,HL.out.2.2.2.2⟩
     have h1:=HL.out.2.2.2.1 c hc e1 e2
     have h2:=HL.out.2.1.lf c hc
     omega
    case round=>
     obtain ⟨b,L2,hb,rfl,HV⟩:=hrel
     by_cases hlb:b < 6
     ·have hlb':(b:Int) < 6:=by omega
      have AT:=HV.out.2.2.2.2.1
      have ean:a < ({ M with leaves:=L2 }:PM).sp.toNat:=by show a < M.sp.toNat;have:=HH.out.2.2.2.2.2.1;omega
      have cc:=(AT.pageC (s:=a) (j:=b) ean hlb).2.2
      have c6:wr.cell? ⟨B.x,6,none⟩=some (.slice (some ⟨B.gs,0,none⟩) n B.cp):=by
       have:=(AT.cell 6).trans AT.c6
       rw [show ({ M with leaves:=L2 }:PM).sp.toNat=n from HH.out.2.2.2.2.2.1] at this
       exact this
      have CH:=child_of AT (sp:=M.sp) HV.out.2.1 (a:=a) (b:=b) (s:=s) (j:=j) HH.out.2.2.2.1
      generalize lu B.gs (findLf ({ M with leaves:=L2 }:PM).leaves a b)=pv at *
      have hg:=fun o1 o2=>eqg o1 o2 pv (some ⟨B.gs,s*30+12+j*3,none⟩)
      clear AT
      rcases CH with ⟨⟨c,hc,e1,e2,e3,e4⟩,hq⟩ | ⟨hno,hq⟩
      ·have hcm:c∈L2:=hc
       have Q:=hid (And.intro hcm (And.intro e1 (And.intro e2 (And.intro e3 e4))))
       have y1:=younger_lt (r:=r) hcm (kin_child HV.out.2.1.kin hcm (s:=(s:Int)) (n:=(j:Int)) (by omega) e3 e4)
       rw [e1,e2] at y1
       have T:=HI.out B { M with leaves:=L2 } cs rv sl a b wr r HV.out.2.2.2.2.1 HV.out.2.1 ean hlb HH.out.2.2.2.2.2.2 (by have:=HV.out.2.2.1;show younger r L2 _ < N;omega)
       have RM:=hid (remove_of B { M with leaves:=L2 } cs rv sl a b wr ean hlb T)
       clear T y1 hc hcm e1 e2 e3 e4
       go_wp2_with (go_at_call 144;refine RM.out.mono ?_;rintro e w3 ⟨rfl,H3⟩;replace H3:=hid H3)
       refine ⟨⟨b+1,goneL L2 a b true,by omega,by go_num,?_⟩,by simp [intOf];omega⟩
       have eg:=gone_step HV.out.2.1.ap Q.out.1 Q.out.2.2.2.1 Q.out.2.2.2.2 false
       rw [Q.out.2.1,Q.out.2.2.1] at eg
       refine ⟨eg.trans HV.out.1,HV.out.2.1.gone _ _ _,Nat.lt_of_le_of_lt (younger_gone _ _ _ _ _ _) HV.out.2.2.1,fun c hc f1 f2=>?_,H3.out.1,HV.out.2.2.2.2.2.trans H3.out.2⟩
       have m:=mem_gone.1 hc
       have h1:=HV.out.2.2.2.1 c m.1 f1 f2
       have h2:=m.2.2
       simp at h2
       omega
      ·have HNO:=hid hno
       clear hno
       go_wp2
       refine ⟨⟨b+1,L2,by omega,by go_num,HV.out.1,HV.out.2.1,HV.out.2.2.1,fun c hc f1 f2=>?_,HV.out.2.2.2.2⟩,by simp [intOf];omega⟩
       have h1:=HV.out.2.2.2.1 c hc f1 f2
       have h2:=HNO.out c hc
       by_cases g1:c.sp=a
       ·by_cases g2:c.pg=b
        ·exact absurd ⟨f1,f2⟩ (h2 g1 g2)
        ·omega
       ·omega
     ·go_wp2
      refine ⟨⟨a+1,L2,by omega,by go_num,HV.out.1,HV.out.2.1,HV.out.2.2.1,fun c hc f1 f2=>?_,HV.out.2.2.2.2⟩,by simp [intOf];omega⟩
      have h1:=HV.out.2.2.2.1 c hc f1 f2
      have h2:=HV.out.2.1.lf c hc
      omega
   ·go_wp2
    go_end0
    have e0:goneL L s j false=L:=by
     rw [gone_none (fun c hc e=>?_)]
     ·rfl
     ·have h1:=HL.out.2.2.2.1 c hc e.1 e.2
      have h2:=HL.out.2.1.lf c hc
      have:=HH.out.2.2.2.2.2.1
      omega
    refine ⟨rfl,?_⟩
    rw [<- HL.out.1,e0]
    exact HL.out.2.2.2.2
end Go.Proofs.YteejjgbeknnmeaaGreatDoor
