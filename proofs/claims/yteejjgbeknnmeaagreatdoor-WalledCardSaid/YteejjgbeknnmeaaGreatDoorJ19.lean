import Derived.Test.YteejjgbeknnmeaaGreatDoorJ01
import Derived.Test.YteejjgbeknnmeaaGreatDoorJ18
import Derived.Test.YteejjgbeknnmeaaGreatDoorJ02
import Derived.Deep.RegionLaw
import Derived.Deep.RegionLawGrows
set_option maxRecDepth 100000
set_option maxHeartbeats 20000000
namespace Go.Proofs.YteejjgbeknnmeaaGreatDoor
open Go.RowKit
def ordOf (ts:List (Int×Int×Int×Int)) (t:Nat):Int:=((ts[t]?).map (fun u=>u.2.2.1)).getD 0
structure Lined (ts:List (Int×Int×Int×Int)) (last:Int) (ln:Nat->List Nat):Prop where
 mem:∀ (r t:Nat),t∈ln r↔∃ u,ts[t]? = some u/\u.2.1=r
 sorted:∀ r,(ln r).Pairwise (fun a b=>ordOf ts a < ordOf ts b)
 row:∀ (t:Nat) u,ts[t]? = some u->0<=u.2.1/\u.2.1<=3
 last:∀ (t:Nat) u,ts[t]? = some u->u.2.2.1 < last
theorem Lined.nodup {ts:List (Int×Int×Int×Int)}{last:Int}{ln:Nat->List Nat}(h:Lined ts last ln) (r:Nat):(ln r).Nodup:=
 (h.sorted r).imp (fun h e=>by rw [e] at h;omega)
theorem Lined.lt {ts:List (Int×Int×Int×Int)}{last:Int}{ln:Nat->List Nat}(h:Lined ts last ln){r t:Nat}(ht:t∈ln r):t < ts.length:=by
 obtain ⟨u,hu,_⟩:=(h.mem r t).1 ht
 exact (List.getElem?_eq_some_iff.1 hu).1
def comeLast (ln:Nat->List Nat) (r t:Nat):Nat->List Nat:=fun s=>if s=r then (ln r).erase t ++ [t] else ln s
theorem Lined.add {ts:List (Int×Int×Int×Int)}{ln:Nat->List Nat}(h:Lined ts ts.length ln) (a:Int) (r:Nat) (hr:r<=3) (n:Int) :
  Lined (ts ++ [(a,(r:Int),(ts.length:Int),n)]) ((ts.length:Int)+1) (comeLast ln r ts.length):=by
 have hne:∀ s,ts.length ∉ ln s:=fun s hm=>Nat.lt_irrefl _ (h.lt hm)
 have hg:∀ i:Nat,(ts ++ [(a,(r:Int),(ts.length:Int),n)])[i]? = if i=ts.length then some (a,(r:Int),(ts.length:Int),n) else ts[i]?:=by
  intro i
  by_cases e:i=ts.length
  ·subst e;simp
  ·rw [if_neg e]
   rcases Nat.lt_or_ge i ts.length with hl | hl
   ·exact List.getElem?_append_left hl
   ·rw [List.getElem?_eq_none (by simp;omega),List.getElem?_eq_none hl]
 have hcl:∀ s,comeLast ln r ts.length s=if s=r then ln r ++ [ts.length] else ln s:=by
  intro s;unfold comeLast;rw [List.erase_of_not_mem (hne r)]
 refine ⟨?_,?_,?_,?_⟩
 ·intro s i
  rw [hcl,hg]
  by_cases hs:s=r
  ·subst hs
   rw [if_pos rfl,List.mem_append,List.mem_singleton,h.mem]
   by_cases e:i=ts.length
   ·subst e;simp
   ·simp [e]
  ·rw [if_neg hs,h.mem]
   by_cases e:i=ts.length
   ·subst e
    simp only [if_pos,Option.some.injEq,exists_eq_left']
    constructor
    ·rintro ⟨u,hu,_⟩
     simp at hu
    ·intro e;omega
   ·simp [e]
 ·intro s
  have hold:∀ s,(ln s).Pairwise (fun x y=>ordOf (ts ++ [(a,(r:Int),(ts.length:Int),n)]) x < ordOf (ts ++ [(a,(r:Int),(ts.length:Int),n)]) y):=by
   intro s
   refine (h.sorted s).imp_of_mem ?_
   intro x y hx hy hxy
   unfold ordOf at hxy ⊢
   rw [hg,hg,if_neg (show ¬ x=ts.length from fun e=>hne s (e ▸ hx)),if_neg (show ¬ y=ts.length from fun e=>hne s (e ▸ hy))]
   exact hxy
  rw [hcl]
  by_cases hs:s=r
  ·subst hs
   rw [if_pos rfl,List.pairwise_append]
   refine ⟨hold s,by simp,?_⟩
   intro x hx y hy
   rw [List.mem_singleton] at hy
   subst hy
   obtain ⟨u,hu,_⟩:=(h.mem s x).1 hx
   have:=h.last x u hu
   unfold ordOf
   rw [hg,hg,if_neg (show ¬ x=ts.length from fun e=>hne s (e ▸ hx)),if_pos rfl,hu]
   simpa using this
  ·rw [if_neg hs];exact hold s
 ·intro i v hv
  rw [hg] at hv
  by_cases e:i=ts.length
  ·rw [if_pos e] at hv;cases hv;simp;omega
  ·rw [if_neg e] at hv;exact h.row i v hv
 ·intro i v hv
  rw [hg] at hv
  by_cases e:i=ts.length
  ·rw [if_pos e] at hv;cases hv;simp;omega
  ·rw [if_neg e] at hv;have:=h.last i v hv;omega
theorem Lined.none:Lined [] 0 (fun _=>[]):=⟨by simp,by simp,by simp,by simp⟩
open Go.RowKit
theorem between_dec (n a b:Int) (w:World):Calls Tryz.prog 132 #[.int .i64 n,.int .i64 a,.int .i64 b] w fun e w'=>e=.returned (.bool (decide (a<=n/\n<=b)))/\w'=w:=between_any n a b w
theorem noConfig_any (w:World):Calls Tryz.prog 151 #[] w fun e w'=>e=.returned (.iface 160 (.agg #[.int .i64 1]))/\w'=w:=by
 go_enter Tryz.func151,Tryz.ntmps151
 go_wp2
 go_ret
 exact ⟨rfl,rfl⟩
def thRow (u:Int×Int×Int×Int):List Value:=[.int .i64 u.1,.int .i64 u.2.1,.int .i64 u.2.2.2,.int .i64 1,.int .i64 0,.int .i64 (-1),.slice none 0 0,.int .i64 (-1),.int .i64 0,.slice none 0 0,.int .i64 0,.int .i64 0,.int .i64 0,.int .i64 0,.int .i64 0,.int .u64 0,.slice none 0 0]
def spRows (n:Nat) (Q L:List (Int×Int×Int×Int)):List (List Value):=spRowsM n 0 Q (L.map lfOf)
abbrev c00:Int×(Nat->Int):=(0,fr0)
structure MAt (w:World) (x:Nat) (ty:TypeId) (cs:Array Value) (cl:Int×(Nat->Int)) (ts:List (Int×Int×Int×Int)) (n:Nat) (Q L:List (Int×Int×Int×Int)) (ln:Nat->List Nat) (vt:Value) (rv:Nat->Value) (vs:Value):Prop where
 blk:w.heap[x]? = some (.cells cs ty (0,0))
 size:cs.size=39
 c0:cs[0]? = some (.int .u64 cl.1)
 c1:cs[1]? = some vt
 row:∀ r,r < 4->cs[2+r]? = some (rv r)
 c6:cs[6]? = some vs
 th:Sl w 158 17 vt (ts.map thRow)
 li:∀ r,r < 4->Sl w 3 1 (rv r) ((ln r).map lnRow)
 sp:Sl w 232 30 vs (spRows n Q L)
 n1:vt.ownBlock≠some x
 n2:∀ r,r < 4->(rv r).ownBlock≠some x
 n3:vs.ownBlock≠some x
 n4:∀ r,r < 4->∀ k,(rv r).ownBlock=some k->vt.ownBlock≠some k/\vs.ownBlock≠some k
 n5:∀ r s,r < 4->s < 4->r≠s->∀ k,(rv r).ownBlock=some k->(rv s).ownBlock≠some k
 n6:∀ k,vt.ownBlock=some k->vs.ownBlock≠some k
 fr:∀ j,j < 32->cs[7+j]? = some (.int .i64 (cl.2 j))
def MOwn (x:Nat) (vt:Value) (rv:Nat->Value) (vs:Value) (k:Nat):Prop:=k=x\/vt.ownBlock=some k\/(∃ r,r < 4/\(rv r).ownBlock=some k)\/vs.ownBlock=some k
section
variable {w w':World}{x:Nat}{ty:TypeId}{cs:Array Value}{cl:Int×(Nat->Int)}{ts:List (Int×Int×Int×Int)}{n:Nat}{Q L:List (Int×Int×Int×Int)}{ln:Nat->List Nat}{vt:Value}{rv:Nat->Value}{vs:Value}
theorem MAt.kept (h:MAt w x ty cs cl ts n Q L ln vt rv vs){T:Nat->Prop}(hf:Fr T w w') (ht:∀ k,MOwn x vt rv vs k->¬ T k):MAt w' x ty cs cl ts n Q L ln vt rv vs:=
 ⟨(hf.block x (Array.getElem?_eq_some_iff.1 h.blk).1 (ht x (.inl rfl))).trans h.blk,h.size,h.c0,h.c1,h.row,h.c6,h.th.kept hf (fun k hk=>ht k (.inr (.inl hk))),fun r hr=>(h.li r hr).kept hf (fun k hk=>ht k (.inr (.inr (.inl ⟨r,hr,hk⟩)))),h.sp.kept hf (fun k hk=>ht k (.inr (.inr (.inr hk)))),
 h.n1,h.n2,h.n3,h.n4,h.n5,h.n6,h.fr⟩
theorem MAt.below (h:MAt w x ty cs cl ts n Q L ln vt rv vs) (hb:Below w.heap.size w w'):MAt w' x ty cs cl ts n Q L ln vt rv vs:=h.kept (Fr.of_below hb (fun _=>False)) (fun _ _ h=>h)
theorem MAt.lt (h:MAt w x ty cs cl ts n Q L ln vt rv vs){k:Nat}(hk:MOwn x vt rv vs k):k < w.heap.size:=by
 rcases hk with rfl | hk | ⟨r,hr,hk⟩ | hk
 ·exact (Array.getElem?_eq_some_iff.1 h.blk).1
 ·exact h.th.lt hk
 ·exact (h.li r hr).lt hk
 ·exact h.sp.lt hk
theorem MAt.cell (h:MAt w x ty cs cl ts n Q L ln vt rv vs) (j:Nat):w.cell? ⟨x,j,none⟩=cs[j]?:=cell_of_row w x j _ _ _ h.blk
end
theorem th_last (ts:List (Int×Int×Int×Int)) (t:Nat) (m:Int):(ts.modify t (fun u=>(u.1,u.2.1,m,u.2.2.2))).map thRow=ts.map thRow:=by
 apply List.ext_getElem?
 intro i
 simp only [List.getElem?_map,List.getElem?_modify]
 by_cases e:t=i <;> simp [e] <;> (cases ts[i]? <;> rfl)
theorem MAt.setRow {w w':World}{x:Nat}{ty:TypeId}{cs:Array Value}{cl:Int×(Nat->Int)}{ts:List (Int×Int×Int×Int)}{n:Nat}{Q L:List (Int×Int×Int×Int)}{ln:Nat->List Nat}{vt:Value}{rv:Nat->Value}{vs:Value}
  (h:MAt w x ty cs cl ts n Q L ln vt rv vs){r t:Nat}(hr:r < 4){v':Value}(hb:w'.heap[x]? = some (.cells (cs.setIfInBounds (2+r) v') ty (0,0))) (hs:Sl w' 3 1 v' (((ln r).erase t ++ [t]).map lnRow)) (hf:Fr (fun k=>k=x\/(rv r).ownBlock=some k) w w')
  (hn:∀ k,v'.ownBlock=some k->w.heap.size<=k\/(rv r).ownBlock=some k) (last:Int) :
  MAt w' x ty (cs.setIfInBounds (2+r) v') cl (ts.modify t (fun u=>(u.1,u.2.1,last,u.2.2.2))) n Q L (comeLast ln r t) vt (fun s=>if s=r then v' else rv s) vs/\(∀ k,MOwn x vt (fun s=>if s=r then v' else rv s) vs k->MOwn x vt rv vs k\/w.heap.size<=k):=by
 have hx:=(Array.getElem?_eq_some_iff.1 h.blk).1
 have nv:∀ k,v'.ownBlock=some k->k≠x/\vt.ownBlock≠some k/\vs.ownBlock≠some k/\∀ s,s < 4->s≠r->(rv s).ownBlock≠some k:=by
  intro k hk
  rcases hn k hk with h1 | h1
  ·exact ⟨by omega,fun e=>by have:=h.th.lt e;omega,fun e=>by have:=h.sp.lt e;omega,fun s hs _ e=>by have:=(h.li s hs).lt e;omega⟩
  ·exact ⟨fun e=>h.n2 r hr (e ▸ h1),(h.n4 r hr k h1).1,(h.n4 r hr k h1).2,fun s hs hne=>h.n5 r s hr hs (Ne.symm hne) k h1⟩
 refine ⟨⟨hb,by simpa using h.size,?_,?_,?_,?_,?_,?_,h.sp.kept hf (fun k hk q=>?_),h.n1,?_,h.n3,?_,?_,h.n6,fun j hj=>by rw [Array.getElem?_setIfInBounds_ne (by omega)];exact h.fr j hj⟩,?_⟩
 ·rw [Array.getElem?_setIfInBounds_ne (by omega)];exact h.c0
 ·rw [Array.getElem?_setIfInBounds_ne (by omega)];exact h.c1
 ·intro s hs4
  by_cases e:s=r
  ·subst e
   rw [if_pos rfl,Array.getElem?_setIfInBounds_self_of_lt (by have:=h.size;omega)]
  ·rw [if_neg e,Array.getElem?_setIfInBounds_ne (by omega)];exact h.row s hs4
 ·rw [Array.getElem?_setIfInBounds_ne (by omega)];exact h.c6
 ·rw [th_last]
  refine h.th.kept hf (fun k hk q=>?_)
  rcases q with q | q
  ·exact h.n1 (q ▸ hk)
  ·exact (h.n4 r hr k q).1 hk
 ·intro s hs4
  by_cases e:s=r
  ·subst e
   simp only [comeLast,if_pos]
   exact hs
  ·simp only [comeLast,if_neg e]
   refine (h.li s hs4).kept hf (fun k hk q=>?_)
   rcases q with q | q
   ·exact h.n2 s hs4 (q ▸ hk)
   ·exact h.n5 r s hr hs4 (Ne.symm e) k q hk
 ·rcases q with q | q
  ·exact h.n3 (q ▸ hk)
  ·exact (h.n4 r hr k q).2 hk
 ·intro s hs4
  by_cases e:s=r
  ·simp only [if_pos e];exact fun q=>(nv x q).1 rfl
  ·simp only [if_neg e];exact h.n2 s hs4
 ·intro s hs4 k hk
  by_cases e:s=r
  ·simp only [if_pos e] at hk;exact ⟨(nv k hk).2.1,(nv k hk).2.2.1⟩
  ·simp only [if_neg e] at hk;exact h.n4 s hs4 k hk
 ·intro s q hs4 hq4 hne k hk
  by_cases e:s=r
  ·simp only [if_pos e] at hk
   simp only [if_neg (show ¬ q=r by omega)]
   exact (nv k hk).2.2.2 q hq4 (by omega)
  ·simp only [if_neg e] at hk
   by_cases e2:q=r
   ·simp only [if_pos e2]
    exact fun h2=>(nv k h2).2.2.2 s hs4 e hk
   ·simp only [if_neg e2];exact h.n5 s q hs4 hq4 hne k hk
 ·rintro k (hk | hk | ⟨s,hs4,hk⟩ | hk)
  ·exact .inl (.inl hk)
  ·exact .inl (.inr (.inl hk))
  ·by_cases e:s=r
   ·simp only [if_pos e] at hk
    rcases hn k hk with h1 | h1
    ·exact .inr h1
    ·exact .inl (.inr (.inr (.inl ⟨r,hr,h1⟩)))
   ·simp only [if_neg e] at hk
    exact .inl (.inr (.inr (.inl ⟨s,hs4,hk⟩)))
  ·exact .inl (.inr (.inr (.inr hk)))
theorem MAt.setSp {w:World}{x:Nat}{ty:TypeId}{cs:Array Value}{cl:Int×(Nat->Int)}{ts:List (Int×Int×Int×Int)}{n:Nat}{Q L:List (Int×Int×Int×Int)}{ln:Nat->List Nat}{vt:Value}{rv:Nat->Value}{g m c:Nat}
  (h:MAt w x ty cs cl ts n Q L ln vt rv (.slice (some ⟨g,0,none⟩) m c)){s o:Nat}(hs:s < n) (vs:List Value) (ho:o+vs.length<=30){Q' L':List (Int×Int×Int×Int)}(hr:(spRows n Q L).set s (setAt (spRowM 0 Q (L.map lfOf) s) o vs)=spRows n Q' L') :
  MAt (w.setCells g (s*30+o) vs) x ty cs cl ts n Q' L' ln vt rv (.slice (some ⟨g,0,none⟩) m c)/\Fr (fun k=>k=g) w (w.setCells g (s*30+o) vs):=by
 have hl:s < (spRows n Q L).length:=by simp [spRows,spRowsM,hs]
 have R:=Sl.run vs o w _ h.sp hl ho
 have er:(spRows n Q L)[s]=spRowM 0 Q (L.map lfOf) s:=by simp [spRows,spRowsM]
 rw [er,hr] at R
 have F:=R.2
 exact ⟨⟨(F.block x (Array.getElem?_eq_some_iff.1 h.blk).1 (fun q=>h.n3 (by rw [q];rfl))).trans h.blk,h.size,h.c0,h.c1,h.row,h.c6,h.th.kept F (fun k hk q=>h.n6 k hk (by rw [q];rfl)),fun r hr=>(h.li r hr).kept F (fun k hk q=>(h.n4 r hr k hk).2 (by rw [q];rfl)),R.1,h.n1,h.n2,h.n3,h.n4,h.n5,h.n6,h.fr⟩,F⟩
theorem findQ_append (Q:List (Int×Int×Int×Int)) (p:Int×Int×Int×Int) (s n:Int):findQ (Q ++ [p]) s n=(findQ Q s n).or (if p.1=s/\p.2.1=n then some p else none):=by
 unfold findQ
 rw [List.find?_append]
 congr 1
 by_cases h:p.1=s/\p.2.1=n
 ·rw [if_pos h];simp [h.1,h.2]
 ·rw [if_neg h,List.find?_cons]
  have:(p.1 == s && p.2.1 == n)=false:=by
   rw [Bool.and_eq_false_iff]
   by_cases h1:p.1=s
   ·right;simp;exact fun h2=>h ⟨h1,h2⟩
   ·left;simpa using h1
  rw [this];rfl
theorem find_lfOf (L:List (Int×Int×Int×Int)) (s n:Int):findLf (L.map lfOf) s n=(findQ L s n).map lfOf:=by
 unfold findLf findQ
 rw [List.find?_map]
 rfl
theorem findQ_put {Q:List (Int×Int×Int×Int)}{s j a b:Int}(hn:findQ Q s j=none) (s' i:Int):findQ (Q ++ [(s,j,a,b)]) s' i=if s=s'/\j=i then some (s,j,a,b) else findQ Q s' i:=by
 rw [findQ_append]
 by_cases e:s=s'/\j=i
 ·obtain ⟨rfl,rfl⟩:=e;simp [hn]
 ·rw [if_neg e,if_neg e];simp
theorem rows_passes (n:Nat) (Q L:List (Int×Int×Int×Int)) (s j:Nat) (hs:s < n) (hj:j < 6) (a b:Int) (hn:findQ Q s j=none) :
  (spRows n Q L).set s (setAt (spRowM 0 Q (L.map lfOf) s) (j*2) [.int .i64 a,.int .i64 b])=spRows n (Q ++ [((s:Int),(j:Int),a,b)]) L:=
 rows_updP (o:=some ((s:Int),(j:Int),a,b)) n hs hj (findQ_put hn)
theorem rows_leaves (n:Nat) (Q L:List (Int×Int×Int×Int)) (s j:Nat) (hs:s < n) (hj:j < 6) (a b:Int) (hn:findQ L s j=none) :
  (spRows n Q L).set s (setAt (spRowM 0 Q (L.map lfOf) s) (12+j*3) [.int .i64 a,.int .i64 b,.pointer none])=spRows n Q (L ++ [((s:Int),(j:Int),a,b)]):=by
 have h:=rows_updL (gs:=0) (Q:=Q) (L:=L.map lfOf) (L':=(L ++ [((s:Int),(j:Int),a,b)]).map lfOf) (o:=some (lfOf ((s:Int),(j:Int),a,b))) n hs hj (fun s' i=>by
  rw [find_lfOf,find_lfOf,findQ_put hn]
  split <;> rfl)
 exact h
theorem sp_cells {w:World}{g m c n:Nat}{Q L:List (Int×Int×Int×Int)}(h:Sl w 232 30 (.slice (some ⟨g,0,none⟩) m c) (spRows n Q L)){s j:Nat}(hs:s < n) (hj:j < 6) :
  w.cell? ⟨g,s*30+j*2,none⟩=some (.int .i64 (pa (findQ Q s j)))/\w.cell? ⟨g,s*30+j*2+1,none⟩=some (.int .i64 (pb (findQ Q s j))) /\
  w.cell? ⟨g,s*30+12+j*3,none⟩=some (.int .i64 (pa (findQ L s j)))/\w.cell? ⟨g,s*30+12+j*3+1,none⟩=some (.int .i64 (pb (findQ L s j)))/\w.cell? ⟨g,s*30+12+j*3+2,none⟩=some (.pointer none):=by
 have R:=h.row (i:=s) (r:=spRowM 0 Q (L.map lfOf) s) (sprows_get hs)
 have a1:=six_at (Q:=Q) (s:=s) hj
 have a2:=pages_at (gs:=0) (L:=L.map lfOf) (s:=s) hj
 have ea:la (findLf (L.map lfOf) s j)=pa (findQ L s j)/\lb (findLf (L.map lfOf) s j)=pb (findQ L s j)/\lu 0 (findLf (L.map lfOf) s j)=.pointer none:=by
  rw [find_lfOf]
  cases findQ L s j <;> exact ⟨rfl,rfl,rfl⟩
 rw [ea.1,ea.2.1,ea.2.2] at a2
 have L1:∀ k v,(six Q s)[k]? = some v->w.cell? ⟨g,s*30+k,none⟩=some v:=fun k v hv=>R k v (by unfold spRowM;rw [List.getElem?_append_left (List.getElem?_eq_some_iff.1 hv).1];exact hv)
 have L2:∀ k v,(pages 0 (L.map lfOf) s)[k]? = some v->w.cell? ⟨g,s*30+12+k,none⟩=some v:=fun k v hv=>by
  have:=R (12+k) v (by unfold spRowM;rw [List.getElem?_append_right (by rw [six_len];omega),six_len,Nat.add_sub_cancel_left];exact hv)
  rwa [<- Nat.add_assoc] at this
 exact ⟨L1 _ _ a1.1,L1 _ _ a1.2,L2 _ _ a2.1,L2 _ _ a2.2.1,L2 _ _ a2.2.2⟩
open Go.RowKit
theorem ln_le {ts:List (Int×Int×Int×Int)}{last:Int}{ln:Nat->List Nat}(h:Lined ts last ln){m:Nat}(hm:ts.length=m) (h6:m<=6) (r:Nat):(ln r).length<=1000:=by
 have:=nodup_lt ts.length (ln r) (h.nodup r) (fun t ht=>h.lt ht)
 omega
theorem Tryz.infoN158:(Tryz.prog.info? 158).map (fun i=>(i.zero,i.size,i.bytes))=some (some (.agg #[.int .i64 0,.int .i64 0,.int .i64 0,.int .i64 0,.int .i64 0,.int .i64 0,.slice none 0 0,.int .i64 0,.int .i64 0,.slice none 0 0,.int .i64 0,.int .i64 0,.int .i64 0,.int .i64 0,.int .i64 0,.int .u64 0,.slice none 0 0]),17,184):=by kernel_rfl
theorem addThread_no (x:Nat) (ty:TypeId) (cs:Array Value) (cl:Int×(Nat->Int)) (ts:List (Int×Int×Int×Int)) (n:Nat) (Q L:List (Int×Int×Int×Int)) (ln:Nat->List Nat) (vt:Value) (rv:Nat->Value) (vs:Value) (s r:Int) (w:World)
  (h:MAt w x ty cs cl ts n Q L ln vt rv vs) (hb:¬ (0<=s/\s < n/\0<=r/\r < 4)) :
  Calls Tryz.prog 153 #[.pointer (some ⟨x,0,none⟩),.agg #[.int .i64 s,.int .i64 r]] w fun e w'=>e=.returned (.iface 160 (.agg #[.int .i64 1]))/\Below w.heap.size w w':=by
 have hc6:=(h.cell 6).trans h.c6
 have lx:=(Array.getElem?_eq_some_iff.1 h.blk).1
 obtain ⟨a,c,ev⟩:=h.sp.slice
 have hlen:(spRows n Q L).length=n:=by simp [spRows,spRowsM]
 rw [hlen] at ev
 subst ev
 clear h hlen
 by_cases h1:0<=s/\s < (n:Int)
 ·have d1:decide (0<=s/\s < (n:Int))=true:=by simpa using h1
  have d2:decide (0<=r/\r < 4)=false:=by simp;omega
  clear hb h1
  go_enter Tryz.func153,Tryz.ntmps153
  go_wp2_with fail
  go_quiet ((go_at_call 149;exact Calls.quiet_of_same (below_any _ _ _)))
  go_wp2_with (first | (go_at_call 149;refine (below_any _ _ _).mono ?_;rintro e w1 ⟨rfl,rfl⟩) | (go_at_call 151;refine (noConfig_any _).mono ?_;rintro e w1 ⟨rfl,rfl⟩))
  go_ret
  exact ⟨rfl,below_drewN ((Below.refl _ w).alloc (Nat.le_refl _) _) _⟩
 ·have d1:decide (0<=s/\s < (n:Int))=false:=by simpa using h1
  clear hb h1
  go_enter Tryz.func153,Tryz.ntmps153
  go_wp2_with fail
  go_quiet ((go_at_call 149;exact Calls.quiet_of_same (below_any _ _ _)))
  go_wp2_with (first | (go_at_call 149;refine (below_any _ _ _).mono ?_;rintro e w1 ⟨rfl,rfl⟩) | (go_at_call 151;refine (noConfig_any _).mono ?_;rintro e w1 ⟨rfl,rfl⟩))
  go_ret
  exact ⟨rfl,below_drewN ((Below.refl _ w).alloc (Nat.le_refl _) _) _⟩
theorem Fr.after {S T:Nat->Prop}{a b c:World}(h:Fr S a b) (k:Fr T b c) (ht:∀ i,i < a.heap.size->T i->S i):Fr S a c:=(h.join k).mono (fun i hi e=>e.elim id (ht i hi))
theorem MAt.addTh {w wX w4:World}{x:Nat}{ty:TypeId}{cs:Array Value}{cl:Int×(Nat->Int)}{ts:List (Int×Int×Int×Int)}{n:Nat}{Q L:List (Int×Int×Int×Int)}{ln:Nat->List Nat}{vt:Value}{rv:Nat->Value}{vs v4:Value}{u:Int×Int×Int×Int}
  (h:MAt w x ty cs cl ts n Q L ln vt rv vs) (hX:Fr (fun _=>False) w wX) (G:Grew 158 17 vt wX v4 (ts.map thRow ++ [thRow u]) w4) :
  MAt (w4.setCell ⟨x,1,none⟩ v4) x ty (cs.setIfInBounds 1 v4) cl (ts ++ [u]) n Q L ln v4 rv vs/\Fr (MOwn x vt rv vs) w (w4.setCell ⟨x,1,none⟩ v4)/\∀ k,MOwn x v4 rv vs k->MOwn x vt rv vs k\/w.heap.size<=k:=by
 have lx:=(Array.getElem?_eq_some_iff.1 h.blk).1
 have hX':=h.kept hX (fun _ _ h=>h)
 have F4:Fr (fun k=>vt.ownBlock=some k) w w4:=G.fr (hX.mono (fun _ _ h=>h.elim)) (fun k hk _=>hk)
 have F5:Fr (fun k=>k=x) w4 (w4.setCell ⟨x,1,none⟩ v4):=(Fr.refl (fun k=>k=x) w4).setCell (p:=⟨x,1,none⟩) (fun _=>rfl) _
 have hb4:w4.heap[x]? = some (.cells cs ty (0,0)):=(F4.block x lx h.n1).trans h.blk
 have nv:∀ k,v4.ownBlock=some k->w.heap.size<=k\/vt.ownBlock=some k:=fun k hk=>by
  rcases G.at_ k hk with e | e
  ·have:=hX.size;left;omega
  ·exact .inr e
 have nx:∀ k,v4.ownBlock=some k->k≠x:=fun k hk e=>by
  rcases nv k hk with h1 | h1
  ·omega
  ·exact h.n1 (e ▸ h1)
 have F:=F4.join F5
 refine ⟨⟨heap_setCell_same w4 x 1 cs ty v4 hb4,by simpa using h.size,?_,?_,?_,?_,?_,fun r hr=>(h.li r hr).kept F ?_,h.sp.kept F ?_,fun e=>nx x e rfl,h.n2,h.n3,?_,h.n5,?_,fun j hj=>by rw [Array.getElem?_setIfInBounds_ne (by omega)];exact h.fr j hj⟩,(F4.mono (fun k _ e=>.inr (.inl e))).trans (F5.mono (fun k _ e=>.inl e)),?_⟩
 ·rw [Array.getElem?_setIfInBounds_ne (by omega)];exact h.c0
 ·rw [Array.getElem?_setIfInBounds_self_of_lt (by have:=h.size;omega)]
 ·intro r hr;rw [Array.getElem?_setIfInBounds_ne (by omega)];exact h.row r hr
 ·rw [Array.getElem?_setIfInBounds_ne (by omega)];exact h.c6
 ·rw [List.map_append]
  exact G.sl.kept F5 (fun k hk e=>nx k hk e)
 ·rintro k hk (e | e)
  ·exact (h.n4 r hr k hk).1 e
  ·exact h.n2 r hr (e ▸ hk)
 ·rintro k hk (e | e)
  ·exact h.n6 k e hk
  ·exact h.n3 (e ▸ hk)
 ·intro r hr k hk
  refine ⟨fun e=>?_,(h.n4 r hr k hk).2⟩
  rcases nv k e with h1 | h1
  ·have:=(h.li r hr).lt hk;omega
  ·exact (h.n4 r hr k hk).1 h1
 ·intro k hk e
  rcases nv k hk with h1 | h1
  ·have:=h.sp.lt e;omega
  ·exact h.n6 k h1 e
 ·rintro k (hk | hk | hk | hk)
  ·exact .inl (.inl hk)
  ·rcases nv k hk with h1 | h1
   ·exact .inr h1
   ·exact .inl (.inr (.inl h1))
  ·exact .inl (.inr (.inr (.inl hk)))
  ·exact .inl (.inr (.inr (.inr hk)))
theorem modify_out (ts:List (Int×Int×Int×Int)) (f:(Int×Int×Int×Int)->(Int×Int×Int×Int)):ts.modify ts.length f=ts:=by
 apply List.ext_getElem?
 intro i
 rw [List.getElem?_modify]
 by_cases e:ts.length=i
 ·subst e;simp
 ·simp [e]
theorem addThread_yes (x:Nat) (ty:TypeId) (cs:Array Value) (cl:Int×(Nat->Int)) (ts:List (Int×Int×Int×Int)) (n:Nat) (Q L:List (Int×Int×Int×Int)) (ln:Nat->List Nat) (vt:Value) (rv:Nat->Value) (vs:Value) (s:Int) (r:Nat) (w:World)
  (h:MAt w x ty cs cl ts n Q L ln vt rv vs) (hl:Lined ts ts.length ln) (h0:0<=s) (h1:s < n) (hr4:r < 4) (h6:ts.length < 6) :
  Calls Tryz.prog 153 #[.pointer (some ⟨x,0,none⟩),.agg #[.int .i64 s,.int .i64 r]] w fun e w'=>e=.returned .nilIface/\∃ cs' vt' rv',MAt w' x ty cs' cl (ts ++ [(s,(r:Int),(ts.length:Int),3)]) n Q L (comeLast ln r ts.length) vt' rv' vs/\Fr (MOwn x vt rv vs) w w'/\∀ k,MOwn x vt' rv' vs k->MOwn x vt rv vs k\/w.heap.size<=k:=by
 obtain ⟨i0,hi0,hz0,hz1,hz2⟩:=info_parts Tryz.infoN158
 have hc6:=(h.cell 6).trans h.c6
 have hc1:=(h.cell 1).trans h.c1
 have lx:=(Array.getElem?_eq_some_iff.1 h.blk).1
 obtain ⟨a,c,ev⟩:=h.sp.slice
 have hlen:(spRows n Q L).length=n:=by simp [spRows,spRowsM]
 rw [hlen] at ev
 obtain ⟨a2,c2,ev2⟩:=h.th.slice
 rw [List.length_map] at ev2
 subst ev ev2
 obtain ⟨m,hm⟩:∃ m,ts.length=m:=⟨_,rfl⟩
 rw [hm] at hc1 h h6 hl ⊢
 have HM:=hid (And.intro h (And.intro hl hm))
 clear h hl hlen hm
 have d1:decide (0<=s/\s < (n:Int))=true:=by simp;omega
 have d2:decide (0<=(r:Int)/\(r:Int) < 4)=true:=by simp;omega
 have hr4':(r:Int) < 4:=by omega
 go_enter Tryz.func153,Tryz.ntmps153
 go_wp2_with fail
 go_quiet ((go_at_call 149;exact Calls.quiet_of_same (below_any _ _ _)))
 go_wp2_with (first | (go_at_call 149;refine (below_any _ _ _).mono ?_;rintro e w1 ⟨rfl,rfl⟩) | (go_at_call 151;refine (noConfig_any _).mono ?_;rintro e w1 ⟨rfl,rfl⟩))
 have hbl:Below w.heap.size w ((w.alloc (.cells #[.int .i64 s,.int .i64 r] 34)).drewN nq):=below_drewN ((Below.refl _ w).alloc (Nat.le_refl _) _) _
 have hbx:((w.alloc (.cells #[.int .i64 s,.int .i64 r] 34)).drewN nq).heap[w.heap.size]? = some (.cells #[.int .i64 s,.int .i64 r] 34 (0,0)):=heap_alloc_new w _
 generalize (w.alloc (.cells #[.int .i64 s,.int .i64 r] 34)).drewN nq=w1 at hbl hbx ⊢
 have M1:=HM.out.1.below hbl
 have cx1:=(M1.cell 1).trans M1.c1
 have cb0:w1.cell? ⟨w.heap.size,0,none⟩=some (.int .i64 s):=(cell_of_row w1 _ 0 _ _ _ hbx).trans rfl
 have cb1:w1.cell? ⟨w.heap.size,1,none⟩=some (.int .i64 r):=(cell_of_row w1 _ 1 _ _ _ hbx).trans rfl
 have HM1:=hid (And.intro M1 (And.intro hbl hbx))
 have l1:w.heap.size < w1.heap.size:=(Array.getElem?_eq_some_iff.1 hbx).1
 clear M1 hbl hbx
 go_cut [] (fun wc=>∃ cs' rv',Hid (MAt wc x ty cs' cl ts n Q L (comeLast ln r m) (.slice a2 m c2) rv' (.slice a n c)/\wc.heap[w.heap.size]? = some (.cells #[.int .i64 s,.int .i64 r] 34 (0,0))/\Fr (MOwn x (.slice a2 m c2) rv (.slice a n c)) w wc/\∀ k,MOwn x (.slice a2 m c2) rv' (.slice a n c) k->MOwn x (.slice a2 m c2) rv (.slice a n c) k\/w.heap.size+1<=k))
 case first=>
  go_region_with (go_at_call 131;refine (comeLast_any x (2+r) (rv r) (ln r) m cs ty w1.drew HM1.out.1.blk (HM1.out.1.row r hr4) (HM1.out.1.li r hr4).drew ?_ ?_ (HM1.out.1.n2 r hr4)).mono ?_;exact ln_le HM.out.2.1 HM.out.2.2 (Nat.le_of_lt h6) r;exact HM.out.2.1.nodup r;rintro e w2 ⟨rfl,v2,H2⟩;replace H2:=hid H2)
  all_goals
   go_wp2
   go_meet
   case rel=>
    obtain ⟨b2,s2,f2,o2⟩:=H2.out
    have f2':Fr (fun k=>k=x\/(rv r).ownBlock=some k) w1 w2:=⟨f2.os,f2.tape,f2.output,f2.size,f2.block⟩
    have R:=HM1.out.1.setRow hr4 b2 s2 f2' o2 0
    have em:=modify_out ts (fun u=>(u.1,u.2.1,(0:Int),u.2.2.2))
    rw [HM.out.2.2] at em
    rw [em] at R
    have fm:∀ k,(k=x\/(rv r).ownBlock=some k)->MOwn x (.slice a2 m c2) rv (.slice a n c) k:=fun k e=>by
     rcases e with e | e
     ·exact .inl e
     ·exact .inr (.inr (.inl ⟨r,hr4,e⟩))
    refine ⟨_,_,R.1,(f2'.block _ l1 (fun e=>?_)).trans HM1.out.2.2,(Fr.of_below HM1.out.2.1 _).trans (f2'.mono (fun k _ e=>fm k e)),fun k hk=>?_⟩
    ·have:=HM.out.1.lt (fm _ e);omega
    ·rcases R.2 k hk with h | h
     ·exact .inl h
     ·exact .inr (by omega)
 case rest=>
 obtain ⟨cs',rv',HC⟩:=hcut
 have lxc:=(Array.getElem?_eq_some_iff.1 HC.out.1.blk).1
 have dx1:=(HC.out.1.cell 1).trans HC.out.1.c1
 have fx1:=frozen_of_row wc x 1 _ _ HC.out.1.blk
 have db0:wc.cell? ⟨w.heap.size,0,none⟩=some (.int .i64 s):=(cell_of_row wc _ 0 _ _ _ HC.out.2.1).trans rfl
 have db1:wc.cell? ⟨w.heap.size,1,none⟩=some (.int .i64 r):=(cell_of_row wc _ 1 _ _ _ HC.out.2.1).trans rfl
 have lbc:w.heap.size < wc.heap.size:=(Array.getElem?_eq_some_iff.1 HC.out.2.1).1
 go_wp2_with fail
 go_region_law (refine step_append_sl _ rfl (.tmp 37) (.tmp 41) 100 rfl 158 i0 _ 17 184 Tryz.underlying100 hi0 hz0 hz1 hz2 rfl (by decide) (.slice a2 m c2) (ts.map thRow) (by simp [Act.eval]) ((HC.out.1.th.alloc _).drew) ⟨wc.heap.size,0,none⟩ 1 1 [[.int .i64 s,.int .i64 r,.int .i64 3,.int .i64 1,.int .i64 0,.int .i64 (-1),.slice none 0 0,.int .i64 (-1),.int .i64 0,.slice none 0 0,.int .i64 0,.int .i64 0,.int .i64 0,.int .i64 0,.int .i64 0,.int .u64 0,.slice none 0 0]] (by simp [Act.eval]) rfl (by decide) (by simp) (fun j u h=>cell_news wc #[.int .i64 s,.int .i64 r,.int .i64 3,.int .i64 1,.int .i64 0,.int .i64 (-1),.slice none 0 0,.int .i64 (-1),.int .i64 0,.slice none 0 0,.int .i64 0,.int .i64 0,.int .i64 0,.int .i64 0,.int .i64 0,.int .u64 0,.slice none 0 0] 158 j u (by simpa using h)) (fun u hu=>by simp at hu;rcases hu with rfl | rfl | rfl | rfl | rfl | rfl | rfl | rfl | rfl | rfl | rfl | rfl | rfl | rfl | rfl | rfl | rfl <;> rfl) (by rw [List.length_map,HM.out.2.2];unfold maxLen;omega) (by rw [List.length_map,HM.out.2.2];omega) ?_;intro a4 c4 w4 G4;have hb4:Hid (w4.heap[x]? = some (.cells cs' ty (0,0))):=(G4.old (by simp;omega) HC.out.1.n1).trans ((((Fr.refl (fun _=>False) wc).alloc _).drew).block x lxc id |>.trans HC.out.1.blk);have hc4:w4.cell? ⟨x,1,none⟩=some (.slice a2 m c2):=(cell_of_row w4 x 1 _ _ _ hb4.out).trans HC.out.1.c1;have hf4:w4.frozen? ⟨x,1,none⟩=false:=frozen_of_row _ _ _ _ _ hb4.out)
 all_goals
  go_wp2
  go_ret
  have A:=HC.out.1.addTh (u:=(s,(r:Int),(m:Int),3)) (((Fr.refl (fun _=>False) wc).alloc _).drew) G4
  rw [List.length_map] at A
  refine ⟨rfl,_,_,_,A.1,HC.out.2.2.1.after A.2.1 (fun k hk e=>?_),fun k hk=>?_⟩
  ·rcases HC.out.2.2.2 k e with h | h
   ·exact h
   ·omega
  ·rcases A.2.2 k hk with h | h
   ·rcases HC.out.2.2.2 k h with h | h
    ·exact .inl h
    ·exact .inr (by omega)
   ·exact .inr (by omega)
open Go.RowKit
theorem addPass_no (x:Nat) (ty:TypeId) (cs:Array Value) (cl:Int×(Nat->Int)) (ts:List (Int×Int×Int×Int)) (n:Nat) (Q L:List (Int×Int×Int×Int)) (ln:Nat->List Nat) (vt:Value) (rv:Nat->Value) (vs:Value) (s j t r:Int) (w:World)
  (h:MAt w x ty cs cl ts n Q L ln vt rv vs) (hb:¬ (0<=s/\s < n/\0<=j/\j < 6/\0<=t/\t < (ts.length:Int)/\1<=r/\r<=3)) :
  Calls Tryz.prog 155 #[.pointer (some ⟨x,0,none⟩),.agg #[.int .i64 s,.int .i64 j,.int .i64 t,.int .i64 r]] w fun e w'=>e=.returned (.iface 160 (.agg #[.int .i64 1]))/\Below w.heap.size w w':=by
 have hc6:=(h.cell 6).trans h.c6
 have hc1:=(h.cell 1).trans h.c1
 have lx:=(Array.getElem?_eq_some_iff.1 h.blk).1
 obtain ⟨a,c,ev⟩:=h.sp.slice
 have hlen:(spRows n Q L).length=n:=by simp [spRows,spRowsM]
 rw [hlen] at ev
 obtain ⟨a2,c2,ev2⟩:=h.th.slice
 rw [List.length_map] at ev2
 subst ev ev2
 generalize ts.length=m at *
 clear h hlen
 by_cases h1:0<=s/\s < (n:Int)
 ·have d1:decide (0<=s/\s < (n:Int))=true:=by simpa using h1
  by_cases h2:0<=j/\j < 6
  ·have d2:decide (0<=j/\j < 6)=true:=by simpa using h2
   by_cases h3:0<=t/\t < (m:Int)
   ·have d3:decide (0<=t/\t < (m:Int))=true:=by simpa using h3
    have d4:decide (1<=r/\r<=3)=false:=by simp;omega
    clear hb h1 h2 h3
    go_enter Tryz.func155,Tryz.ntmps155
    go_wp2_with fail
    go_quiet ((first | (go_at_call 149;exact Calls.quiet_of_same (below_any _ _ _)) | (go_at_call 132;exact Calls.quiet_of_same (between_dec _ _ _ _))))
    go_wp2_with (first | (go_at_call 149;refine (below_any _ _ _).mono ?_;rintro e w1 ⟨rfl,rfl⟩) | (go_at_call 132;refine (between_dec _ _ _ _).mono ?_;rintro e w1 ⟨rfl,rfl⟩) | (go_at_call 151;refine (noConfig_any _).mono ?_;rintro e w1 ⟨rfl,rfl⟩))
    go_ret
    exact ⟨rfl,below_drewN ((Below.refl _ w).alloc (Nat.le_refl _) _) _⟩
   ·have d3:decide (0<=t/\t < (m:Int))=false:=by simpa using h3
    clear hb h1 h2 h3
    go_enter Tryz.func155,Tryz.ntmps155
    go_wp2_with fail
    go_quiet ((first | (go_at_call 149;exact Calls.quiet_of_same (below_any _ _ _)) | (go_at_call 132;exact Calls.quiet_of_same (between_dec _ _ _ _))))
    go_wp2_with (first | (go_at_call 149;refine (below_any _ _ _).mono ?_;rintro e w1 ⟨rfl,rfl⟩) | (go_at_call 132;refine (between_dec _ _ _ _).mono ?_;rintro e w1 ⟨rfl,rfl⟩) | (go_at_call 151;refine (noConfig_any _).mono ?_;rintro e w1 ⟨rfl,rfl⟩))
    go_ret
    exact ⟨rfl,below_drewN ((Below.refl _ w).alloc (Nat.le_refl _) _) _⟩
  ·have d2:decide (0<=j/\j < 6)=false:=by simpa using h2
   clear hb h1 h2
   go_enter Tryz.func155,Tryz.ntmps155
   go_wp2_with fail
   go_quiet ((first | (go_at_call 149;exact Calls.quiet_of_same (below_any _ _ _)) | (go_at_call 132;exact Calls.quiet_of_same (between_dec _ _ _ _))))
   go_wp2_with (first | (go_at_call 149;refine (below_any _ _ _).mono ?_;rintro e w1 ⟨rfl,rfl⟩) | (go_at_call 132;refine (between_dec _ _ _ _).mono ?_;rintro e w1 ⟨rfl,rfl⟩) | (go_at_call 151;refine (noConfig_any _).mono ?_;rintro e w1 ⟨rfl,rfl⟩))
   go_ret
   exact ⟨rfl,below_drewN ((Below.refl _ w).alloc (Nat.le_refl _) _) _⟩
 ·have d1:decide (0<=s/\s < (n:Int))=false:=by simpa using h1
  clear hb h1
  go_enter Tryz.func155,Tryz.ntmps155
  go_wp2_with fail
  go_quiet ((first | (go_at_call 149;exact Calls.quiet_of_same (below_any _ _ _)) | (go_at_call 132;exact Calls.quiet_of_same (between_dec _ _ _ _))))
  go_wp2_with (first | (go_at_call 149;refine (below_any _ _ _).mono ?_;rintro e w1 ⟨rfl,rfl⟩) | (go_at_call 132;refine (between_dec _ _ _ _).mono ?_;rintro e w1 ⟨rfl,rfl⟩) | (go_at_call 151;refine (noConfig_any _).mono ?_;rintro e w1 ⟨rfl,rfl⟩))
  go_ret
  exact ⟨rfl,below_drewN ((Below.refl _ w).alloc (Nat.le_refl _) _) _⟩
theorem addPass_two (x:Nat) (ty:TypeId) (cs:Array Value) (cl:Int×(Nat->Int)) (ts:List (Int×Int×Int×Int)) (n:Nat) (Q L:List (Int×Int×Int×Int)) (ln:Nat->List Nat) (vt:Value) (rv:Nat->Value) (vs:Value) (s j:Nat) (t r:Int) (w:World)
  (h:MAt w x ty cs cl ts n Q L ln vt rv vs) (hs:s < n) (hj:j < 6) (ht0:0<=t) (ht1:t < (ts.length:Int)) (hr0:1<=r) (hr1:r<=3) (hn:pb (findQ Q s j)≠0) :
  Calls Tryz.prog 155 #[.pointer (some ⟨x,0,none⟩),.agg #[.int .i64 s,.int .i64 j,.int .i64 t,.int .i64 r]] w fun e w'=>e=.returned (.iface 160 (.agg #[.int .i64 1]))/\Below w.heap.size w w':=by
 have hc6:=(h.cell 6).trans h.c6
 have hc1:=(h.cell 1).trans h.c1
 have lx:=(Array.getElem?_eq_some_iff.1 h.blk).1
 obtain ⟨a,c,ev⟩:=h.sp.slice
 have hlen:(spRows n Q L).length=n:=by simp [spRows,spRowsM]
 rw [hlen] at ev
 obtain ⟨a2,c2,ev2⟩:=h.th.slice
 rw [List.length_map] at ev2
 subst ev ev2
 obtain ⟨g,ea,hx⟩:=h.sp.is_some (by omega)
 clear hx
 subst ea
 have K:=sp_cells h.sp hs hj
 have kp:=K.1
 have kq:=K.2.1
 have lg:g < w.heap.size:=h.sp.lt rfl
 have d1:decide (0<=(s:Int)/\(s:Int) < (n:Int))=true:=by simp;omega
 have d2:decide (0<=(j:Int)/\(j:Int) < 6)=true:=by simp;omega
 have d3:decide (0<=t/\t < (ts.length:Int))=true:=by simp;omega
 have d4:decide (1<=r/\r<=3)=true:=by simp;omega
 have sn:(s:Int) < (n:Int):=by omega
 have j6:(j:Int) < 6:=by omega
 generalize pb (findQ Q s j)=B at *
 generalize pa (findQ Q s j)=A at *
 generalize ts.length=m at *
 have hB:(B != 0)=true:=by simpa using hn
 clear h hlen K hn
 go_enter Tryz.func155,Tryz.ntmps155
 go_wp2_with fail
 go_quiet ((first | (go_at_call 149;exact Calls.quiet_of_same (below_any _ _ _)) | (go_at_call 132;exact Calls.quiet_of_same (between_dec _ _ _ _))))
 go_wp2_with (first | (go_at_call 149;refine (below_any _ _ _).mono ?_;rintro e w1 ⟨rfl,rfl⟩) | (go_at_call 132;refine (between_dec _ _ _ _).mono ?_;rintro e w1 ⟨rfl,rfl⟩) | (go_at_call 151;refine (noConfig_any _).mono ?_;rintro e w1 ⟨rfl,rfl⟩))
 go_quiet (fail)
 go_wp2_with (first | (go_at_call 149;refine (below_any _ _ _).mono ?_;rintro e w1 ⟨rfl,rfl⟩) | (go_at_call 132;refine (between_dec _ _ _ _).mono ?_;rintro e w1 ⟨rfl,rfl⟩) | (go_at_call 151;refine (noConfig_any _).mono ?_;rintro e w1 ⟨rfl,rfl⟩))
 go_ret
 exact ⟨rfl,below_drewN ((Below.refl _ w).alloc (Nat.le_refl _) _) _⟩
theorem addPass_yes (x:Nat) (ty:TypeId) (cs:Array Value) (cl:Int×(Nat->Int)) (ts:List (Int×Int×Int×Int)) (n:Nat) (Q L:List (Int×Int×Int×Int)) (ln:Nat->List Nat) (vt:Value) (rv:Nat->Value) (vs:Value) (s j:Nat) (t r:Int) (w:World)
  (h:MAt w x ty cs cl ts n Q L ln vt rv vs) (hs:s < n) (hj:j < 6) (ht0:0<=t) (ht1:t < (ts.length:Int)) (hr0:1<=r) (hr1:r<=3) (hn:findQ Q s j=none) :
  Calls Tryz.prog 155 #[.pointer (some ⟨x,0,none⟩),.agg #[.int .i64 s,.int .i64 j,.int .i64 t,.int .i64 r]] w fun e w'=>e=.returned .nilIface/\MAt w' x ty cs cl ts n (Q ++ [((s:Int),(j:Int),t,r)]) L ln vt rv vs/\Fr (MOwn x vt rv vs) w w':=by
 have hc6:=(h.cell 6).trans h.c6
 have hc1:=(h.cell 1).trans h.c1
 have lx:=(Array.getElem?_eq_some_iff.1 h.blk).1
 obtain ⟨a,c,ev⟩:=h.sp.slice
 have hlen:(spRows n Q L).length=n:=by simp [spRows,spRowsM]
 rw [hlen] at ev
 obtain ⟨a2,c2,ev2⟩:=h.th.slice
 rw [List.length_map] at ev2
 subst ev ev2
 obtain ⟨g,ea,hx⟩:=h.sp.is_some (by omega)
 clear hx
 subst ea
 have K:=sp_cells h.sp hs hj
 have kp:=K.1
 have kq:=K.2.1
 have lg:g < w.heap.size:=h.sp.lt rfl
 have d1:decide (0<=(s:Int)/\(s:Int) < (n:Int))=true:=by simp;omega
 have d2:decide (0<=(j:Int)/\(j:Int) < 6)=true:=by simp;omega
 have d3:decide (0<=t/\t < (ts.length:Int))=true:=by simp;omega
 have d4:decide (1<=r/\r<=3)=true:=by simp;omega
 have sn:(s:Int) < (n:Int):=by omega
 have j6:(j:Int) < 6:=by omega
 rw [hn] at kp kq
 simp only [pa,pb] at kp kq
 have fp:=h.sp.fro (s*30+j*2)
 have fq:=h.sp.fro (s*30+j*2+1)
 have RW:=rows_passes n Q L s j hs hj t r hn
 generalize ts.length=m at *
 have HM:=hid (And.intro h RW)
 clear h hlen K hn RW
 go_enter Tryz.func155,Tryz.ntmps155
 go_wp2_with fail
 go_quiet ((first | (go_at_call 149;exact Calls.quiet_of_same (below_any _ _ _)) | (go_at_call 132;exact Calls.quiet_of_same (between_dec _ _ _ _))))
 go_wp2_with (first | (go_at_call 149;refine (below_any _ _ _).mono ?_;rintro e w1 ⟨rfl,rfl⟩) | (go_at_call 132;refine (between_dec _ _ _ _).mono ?_;rintro e w1 ⟨rfl,rfl⟩) | (go_at_call 151;refine (noConfig_any _).mono ?_;rintro e w1 ⟨rfl,rfl⟩))
 go_quiet (fail)
 go_wp2_with (first | (go_at_call 149;refine (below_any _ _ _).mono ?_;rintro e w1 ⟨rfl,rfl⟩) | (go_at_call 132;refine (between_dec _ _ _ _).mono ?_;rintro e w1 ⟨rfl,rfl⟩) | (go_at_call 151;refine (noConfig_any _).mono ?_;rintro e w1 ⟨rfl,rfl⟩))
 go_ret
 have S:=fun q=>(HM.out.1.below (below_drewN ((Below.refl _ w).alloc (Nat.le_refl _) (.cells #[.int .i64 s,.int .i64 j,.int .i64 t,.int .i64 r] 55)) q)).setSp hs [.int .i64 t,.int .i64 r] (by simp;omega) HM.out.2
 refine ⟨rfl,(S _).1,(Fr.of_below (below_drewN ((Below.refl _ w).alloc (Nat.le_refl _) _) _) _).trans ((S _).2.mono (fun k _ e=>.inr (.inr (.inr (by rw [e];rfl)))))⟩
theorem addLeaf_no (x:Nat) (ty:TypeId) (cs:Array Value) (cl:Int×(Nat->Int)) (ts:List (Int×Int×Int×Int)) (n:Nat) (Q L:List (Int×Int×Int×Int)) (ln:Nat->List Nat) (vt:Value) (rv:Nat->Value) (vs:Value) (s j t r:Int) (w:World)
  (h:MAt w x ty cs cl ts n Q L ln vt rv vs) (hb:¬ (0<=s/\s < n/\0<=j/\j < 6/\0<=t/\t < 8/\1<=r/\r<=3)) :
  Calls Tryz.prog 157 #[.pointer (some ⟨x,0,none⟩),.agg #[.int .i64 s,.int .i64 j,.int .i64 t,.int .i64 r]] w fun e w'=>e=.returned (.iface 160 (.agg #[.int .i64 1]))/\Below w.heap.size w w':=by
 have hc6:=(h.cell 6).trans h.c6
 have hc1:=(h.cell 1).trans h.c1
 have lx:=(Array.getElem?_eq_some_iff.1 h.blk).1
 obtain ⟨a,c,ev⟩:=h.sp.slice
 have hlen:(spRows n Q L).length=n:=by simp [spRows,spRowsM]
 rw [hlen] at ev
 obtain ⟨a2,c2,ev2⟩:=h.th.slice
 rw [List.length_map] at ev2
 subst ev ev2
 skip
 clear h hlen
 by_cases h1:0<=s/\s < (n:Int)
 ·have d1:decide (0<=s/\s < (n:Int))=true:=by simpa using h1
  by_cases h2:0<=j/\j < 6
  ·have d2:decide (0<=j/\j < 6)=true:=by simpa using h2
   by_cases h3:0<=t/\t < 8
   ·have d3:decide (0<=t/\t < 8)=true:=by simpa using h3
    have d4:decide (1<=r/\r<=3)=false:=by simp;omega
    clear hb h1 h2 h3
    go_enter Tryz.func157,Tryz.ntmps157
    go_wp2_with fail
    go_quiet ((first | (go_at_call 149;exact Calls.quiet_of_same (below_any _ _ _)) | (go_at_call 132;exact Calls.quiet_of_same (between_dec _ _ _ _))))
    go_wp2_with (first | (go_at_call 149;refine (below_any _ _ _).mono ?_;rintro e w1 ⟨rfl,rfl⟩) | (go_at_call 132;refine (between_dec _ _ _ _).mono ?_;rintro e w1 ⟨rfl,rfl⟩) | (go_at_call 151;refine (noConfig_any _).mono ?_;rintro e w1 ⟨rfl,rfl⟩))
    go_ret
    exact ⟨rfl,below_drewN ((Below.refl _ w).alloc (Nat.le_refl _) _) _⟩
   ·have d3:decide (0<=t/\t < 8)=false:=by simpa using h3
    clear hb h1 h2 h3
    go_enter Tryz.func157,Tryz.ntmps157
    go_wp2_with fail
    go_quiet ((first | (go_at_call 149;exact Calls.quiet_of_same (below_any _ _ _)) | (go_at_call 132;exact Calls.quiet_of_same (between_dec _ _ _ _))))
    go_wp2_with (first | (go_at_call 149;refine (below_any _ _ _).mono ?_;rintro e w1 ⟨rfl,rfl⟩) | (go_at_call 132;refine (between_dec _ _ _ _).mono ?_;rintro e w1 ⟨rfl,rfl⟩) | (go_at_call 151;refine (noConfig_any _).mono ?_;rintro e w1 ⟨rfl,rfl⟩))
    go_ret
    exact ⟨rfl,below_drewN ((Below.refl _ w).alloc (Nat.le_refl _) _) _⟩
  ·have d2:decide (0<=j/\j < 6)=false:=by simpa using h2
   clear hb h1 h2
   go_enter Tryz.func157,Tryz.ntmps157
   go_wp2_with fail
   go_quiet ((first | (go_at_call 149;exact Calls.quiet_of_same (below_any _ _ _)) | (go_at_call 132;exact Calls.quiet_of_same (between_dec _ _ _ _))))
   go_wp2_with (first | (go_at_call 149;refine (below_any _ _ _).mono ?_;rintro e w1 ⟨rfl,rfl⟩) | (go_at_call 132;refine (between_dec _ _ _ _).mono ?_;rintro e w1 ⟨rfl,rfl⟩) | (go_at_call 151;refine (noConfig_any _).mono ?_;rintro e w1 ⟨rfl,rfl⟩))
   go_ret
   exact ⟨rfl,below_drewN ((Below.refl _ w).alloc (Nat.le_refl _) _) _⟩
 ·have d1:decide (0<=s/\s < (n:Int))=false:=by simpa using h1
  clear hb h1
  go_enter Tryz.func157,Tryz.ntmps157
  go_wp2_with fail
  go_quiet ((first | (go_at_call 149;exact Calls.quiet_of_same (below_any _ _ _)) | (go_at_call 132;exact Calls.quiet_of_same (between_dec _ _ _ _))))
  go_wp2_with (first | (go_at_call 149;refine (below_any _ _ _).mono ?_;rintro e w1 ⟨rfl,rfl⟩) | (go_at_call 132;refine (between_dec _ _ _ _).mono ?_;rintro e w1 ⟨rfl,rfl⟩) | (go_at_call 151;refine (noConfig_any _).mono ?_;rintro e w1 ⟨rfl,rfl⟩))
  go_ret
  exact ⟨rfl,below_drewN ((Below.refl _ w).alloc (Nat.le_refl _) _) _⟩
theorem addLeaf_two (x:Nat) (ty:TypeId) (cs:Array Value) (cl:Int×(Nat->Int)) (ts:List (Int×Int×Int×Int)) (n:Nat) (Q L:List (Int×Int×Int×Int)) (ln:Nat->List Nat) (vt:Value) (rv:Nat->Value) (vs:Value) (s j:Nat) (t r:Int) (w:World)
  (h:MAt w x ty cs cl ts n Q L ln vt rv vs) (hs:s < n) (hj:j < 6) (ht0:0<=t) (ht1:t < 8) (hr0:1<=r) (hr1:r<=3) (hn:pb (findQ L s j)≠0) :
  Calls Tryz.prog 157 #[.pointer (some ⟨x,0,none⟩),.agg #[.int .i64 s,.int .i64 j,.int .i64 t,.int .i64 r]] w fun e w'=>e=.returned (.iface 160 (.agg #[.int .i64 1]))/\Below w.heap.size w w':=by
 have hc6:=(h.cell 6).trans h.c6
 have hc1:=(h.cell 1).trans h.c1
 have lx:=(Array.getElem?_eq_some_iff.1 h.blk).1
 obtain ⟨a,c,ev⟩:=h.sp.slice
 have hlen:(spRows n Q L).length=n:=by simp [spRows,spRowsM]
 rw [hlen] at ev
 obtain ⟨a2,c2,ev2⟩:=h.th.slice
 rw [List.length_map] at ev2
 subst ev ev2
 obtain ⟨g,ea,hx⟩:=h.sp.is_some (by omega)
 clear hx
 subst ea
 have K:=sp_cells h.sp hs hj
 have kp:=K.2.2.1
 have kq:=K.2.2.2.1
 have ku:=K.2.2.2.2
 have lg:g < w.heap.size:=h.sp.lt rfl
 have d1:decide (0<=(s:Int)/\(s:Int) < (n:Int))=true:=by simp;omega
 have d2:decide (0<=(j:Int)/\(j:Int) < 6)=true:=by simp;omega
 have d3:decide (0<=t/\t < 8)=true:=by simp;omega
 have d4:decide (1<=r/\r<=3)=true:=by simp;omega
 have sn:(s:Int) < (n:Int):=by omega
 have j6:(j:Int) < 6:=by omega
 generalize pb (findQ L s j)=B at *
 generalize pa (findQ L s j)=A at *
 skip
 have hB:(B != 0)=true:=by simpa using hn
 clear h hlen K hn
 go_enter Tryz.func157,Tryz.ntmps157
 go_wp2_with fail
 go_quiet ((first | (go_at_call 149;exact Calls.quiet_of_same (below_any _ _ _)) | (go_at_call 132;exact Calls.quiet_of_same (between_dec _ _ _ _))))
 go_wp2_with (first | (go_at_call 149;refine (below_any _ _ _).mono ?_;rintro e w1 ⟨rfl,rfl⟩) | (go_at_call 132;refine (between_dec _ _ _ _).mono ?_;rintro e w1 ⟨rfl,rfl⟩) | (go_at_call 151;refine (noConfig_any _).mono ?_;rintro e w1 ⟨rfl,rfl⟩))
 go_quiet (fail)
 go_wp2_with (first | (go_at_call 149;refine (below_any _ _ _).mono ?_;rintro e w1 ⟨rfl,rfl⟩) | (go_at_call 132;refine (between_dec _ _ _ _).mono ?_;rintro e w1 ⟨rfl,rfl⟩) | (go_at_call 151;refine (noConfig_any _).mono ?_;rintro e w1 ⟨rfl,rfl⟩))
 go_ret
 exact ⟨rfl,below_drewN ((Below.refl _ w).alloc (Nat.le_refl _) _) _⟩
theorem addLeaf_yes (x:Nat) (ty:TypeId) (cs:Array Value) (cl:Int×(Nat->Int)) (ts:List (Int×Int×Int×Int)) (n:Nat) (Q L:List (Int×Int×Int×Int)) (ln:Nat->List Nat) (vt:Value) (rv:Nat->Value) (vs:Value) (s j:Nat) (t r:Int) (w:World)
  (h:MAt w x ty cs cl ts n Q L ln vt rv vs) (hs:s < n) (hj:j < 6) (ht0:0<=t) (ht1:t < 8) (hr0:1<=r) (hr1:r<=3) (hn:findQ L s j=none) :
  Calls Tryz.prog 157 #[.pointer (some ⟨x,0,none⟩),.agg #[.int .i64 s,.int .i64 j,.int .i64 t,.int .i64 r]] w fun e w'=>e=.returned .nilIface/\MAt w' x ty cs cl ts n Q (L ++ [((s:Int),(j:Int),t,r)]) ln vt rv vs/\Fr (MOwn x vt rv vs) w w':=by
 have hc6:=(h.cell 6).trans h.c6
 have hc1:=(h.cell 1).trans h.c1
 have lx:=(Array.getElem?_eq_some_iff.1 h.blk).1
 obtain ⟨a,c,ev⟩:=h.sp.slice
 have hlen:(spRows n Q L).length=n:=by simp [spRows,spRowsM]
 rw [hlen] at ev
 obtain ⟨a2,c2,ev2⟩:=h.th.slice
 rw [List.length_map] at ev2
 subst ev ev2
 obtain ⟨g,ea,hx⟩:=h.sp.is_some (by omega)
 clear hx
 subst ea
 have K:=sp_cells h.sp hs hj
 have kp:=K.2.2.1
 have kq:=K.2.2.2.1
 have ku:=K.2.2.2.2
 have lg:g < w.heap.size:=h.sp.lt rfl
 have d1:decide (0<=(s:Int)/\(s:Int) < (n:Int))=true:=by simp;omega
 have d2:decide (0<=(j:Int)/\(j:Int) < 6)=true:=by simp;omega
 have d3:decide (0<=t/\t < 8)=true:=by simp;omega
 have d4:decide (1<=r/\r<=3)=true:=by simp;omega
 have sn:(s:Int) < (n:Int):=by omega
 have j6:(j:Int) < 6:=by omega
 rw [hn] at kp kq
 simp only [pa,pb] at kp kq
 have fp:=h.sp.fro (s*30+12+j*3)
 have fq:=h.sp.fro (s*30+12+j*3+1)
 have fu:=h.sp.fro (s*30+12+j*3+2)
 have RW:=rows_leaves n Q L s j hs hj t r hn
 skip
 have HM:=hid (And.intro h RW)
 clear h hlen K hn RW
 go_enter Tryz.func157,Tryz.ntmps157
 go_wp2_with fail
 go_quiet ((first | (go_at_call 149;exact Calls.quiet_of_same (below_any _ _ _)) | (go_at_call 132;exact Calls.quiet_of_same (between_dec _ _ _ _))))
 go_wp2_with (first | (go_at_call 149;refine (below_any _ _ _).mono ?_;rintro e w1 ⟨rfl,rfl⟩) | (go_at_call 132;refine (between_dec _ _ _ _).mono ?_;rintro e w1 ⟨rfl,rfl⟩) | (go_at_call 151;refine (noConfig_any _).mono ?_;rintro e w1 ⟨rfl,rfl⟩))
 go_quiet (fail)
 go_wp2_with (first | (go_at_call 149;refine (below_any _ _ _).mono ?_;rintro e w1 ⟨rfl,rfl⟩) | (go_at_call 132;refine (between_dec _ _ _ _).mono ?_;rintro e w1 ⟨rfl,rfl⟩) | (go_at_call 151;refine (noConfig_any _).mono ?_;rintro e w1 ⟨rfl,rfl⟩))
 go_ret
 have S:=fun q=>(HM.out.1.below (below_drewN ((Below.refl _ w).alloc (Nat.le_refl _) (.cells #[.int .i64 s,.int .i64 j,.int .i64 t,.int .i64 r] 67)) q)).setSp hs [.int .i64 t,.int .i64 r,.pointer none] (by simp;omega) HM.out.2
 simp only [<- Nat.add_assoc] at S
 refine ⟨rfl,(S _).1,(Fr.of_below (below_drewN ((Below.refl _ w).alloc (Nat.le_refl _) _) _) _).trans ((S _).2.mono (fun k _ e=>.inr (.inr (.inr (by rw [e];rfl)))))⟩
end Go.Proofs.YteejjgbeknnmeaaGreatDoor
