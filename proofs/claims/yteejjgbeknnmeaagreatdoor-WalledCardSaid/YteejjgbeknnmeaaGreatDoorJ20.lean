import Derived.Test.YteejjgbeknnmeaaGreatDoorRows
import Derived.Test.YteejjgbeknnmeaaGreatDoorJ01
import Derived.Test.YteejjgbeknnmeaaGreatDoorJ03
import Derived.Test.YteejjgbeknnmeaaGreatDoorJ19
set_option maxRecDepth 100000
set_option maxHeartbeats 20000000
namespace Go.Proofs.YteejjgbeknnmeaaGreatDoor
open Go.RowKit
theorem ex_le (s:ByteArray) (a b:Nat) (h:s.size<=1000):(s.extract a b).size<=1000:=by
 rw [ByteArray.size_extract]
 omega
theorem small_any (n:Nat) (h:n < 100) (w:World):Calls Tryz.prog 178 #[.int .i64 n] w fun e w'=>∃ s,e=.returned (.string s)/\s.size<=1000/\w'=w:=by
 by_cases h10:n < 10
 ·have d:decide ((n:Int) < 10)=true:=by simp;omega
  go_enter Tryz.func178,Tryz.ntmps178
  go_wp2
  go_ret
  exact ⟨_,rfl,ex_le _ _ _ (by decide),rfl⟩
 ·have d:decide ((n:Int) < 10)=false:=by simp;omega
  go_enter Tryz.func178,Tryz.ntmps178
  go_wp2
  go_ret
  exact ⟨_,rfl,ex_le _ _ _ (by decide),rfl⟩
theorem formatInt_any (n:Nat) (h:n < 100) (w:World):Calls Tryz.prog 176 #[.int .i64 n,.int .i64 10] w fun e w'=>∃ s,e=.returned (.string s)/\s.size<=1000/\w'=w:=by
 have d:decide ((0:Int)<=(n:Int))=true:=by simp
 have d2:decide ((n:Int) < 100)=true:=by simp;omega
 go_enter Tryz.func176,Tryz.ntmps176
 go_wp2_with (go_at_call 178;refine (small_any n h _).mono ?_;rintro e w1 ⟨s,rfl,hs,rfl⟩)
 go_ret
 exact ⟨_,rfl,hs,rfl⟩
theorem itoa2_any (n:Nat) (h:n < 100) (w:World):Calls Tryz.prog 173 #[.int .i64 n] w fun e w'=>∃ s,e=.returned (.string s)/\s.size<=1000/\w'=w:=by
 go_enter Tryz.func173,Tryz.ntmps173
 go_wp2_with (go_at_call 176;refine (formatInt_any n h _).mono ?_;rintro e w1 ⟨s,rfl,hs,rfl⟩)
 go_ret
 exact ⟨_,rfl,hs,rfl⟩
theorem itoa_any (n:Nat) (h:n < 100) (w:World):Calls Tryz.prog 170 #[.int .i64 n] w fun e w'=>∃ s,e=.returned (.string s)/\s.size<=1000/\w'=w:=by
 go_enter Tryz.func170,Tryz.ntmps170
 go_wp2_with (go_at_call 173;refine (itoa2_any n h _).mono ?_;rintro e w1 ⟨s,rfl,hs,rfl⟩)
 go_ret
 exact ⟨_,rfl,hs,rfl⟩
open Go.RowKit
theorem run_concat (s t:ByteArray) (w:World) (h:s.size+t.size<=10000):(binOp .add 9 (.string s) (.string t)).run Tryz.prog w=.ok (.string (s ++ t)) w:=by
 have h2:(s.size:Int)+(t.size:Int)<=9223372036854775807:=by omega
 simp [binOp,Op.stringOp]
 exact h2
theorem eachT_any (x:Nat) (aT:Option Addr) (cT:Nat) (T:List (Int×Int)) (m:Nat) (n b:Nat) (cs:Array Value) (vt:Value) (rv:Nat->Value) (vs:Value) (w:World)
  (h:MAt w x 109 cs c00 [] n [] [] (fun _=>[]) vt rv vs) (iT:Inl w 2 (.slice aT m cT) (T.map tRow)) (hm:T.length=m) (h6:m<=6) (hb:b<=m) (ok:∀ (i:Nat) p,i < b->T[i]? = some p->okT n p) (bad:∀ p,T[b]? = some p->¬ okT n p) (hnb:∀ k,inBlock (.slice aT m cT)=some k->¬ MOwn x vt rv vs k) :
  Calls Tryz.prog 152 #[.string ⟨#[116,104,114,101,97,100]⟩,.slice aT m cT,.func (.func 153) #[.pointer (some ⟨x,0,none⟩)] #[]] w fun e w'=>(b=m/\e=.returned .nilIface/\∃ cs' ln' vt' rv',MAt w' x 109 cs' c00 (born 0 T) n [] [] ln' vt' rv' vs/\Lined (born 0 T) T.length ln'/\Fr (MOwn x vt rv vs) w w'/\∀ k,MOwn x vt' rv' vs k->MOwn x vt rv vs k\/w.heap.size<=k)\/(b < m/\∃ s,e=.returned (.iface 166 (.agg #[.string s,.iface 160 (.agg #[.int .i64 1])]))/\Fr (MOwn x vt rv vs) w w'):=by
 have HI:=hid (And.intro h (And.intro iT (And.intro hm (And.intro ok (And.intro bad hnb)))))
 clear h iT hm ok bad hnb
 go_enter Tryz.func152,Tryz.ntmps152
 go_wp2
 go_loopw [12] (fun i wr=>∃ (k:Nat) (cs':Array Value) (ln':Nat->List Nat) (vt':Value) (rv':Nat->Value),k<=b/\i=.int .i64 k/\Hid (MAt wr x 109 cs' c00 (born 0 (T.take k)) n [] [] ln' vt' rv' vs/\Lined (born 0 (T.take k)) k ln'/\Fr (MOwn x vt rv vs) w wr/\∀ k,MOwn x vt' rv' vs k->MOwn x vt rv vs k\/w.heap.size<=k)) (fun i _=>b-(intOf i).toNat)
 case atStart=>exact ⟨0,cs,fun _=>[],vt,rv,Nat.zero_le _,rfl,HI.out.1,Lined.none,Fr.refl _ _,fun _ h=>.inl h⟩
 case round=>
  obtain ⟨k,cs',ln',vt',rv',hk,rfl,HC⟩:=hrel
  by_cases hkm:k < m
  ·obtain ⟨p,hp⟩:∃ p,T[k]? = some p:=⟨_,List.getElem?_eq_getElem (by have:=HI.out.2.2.1;omega)⟩
   obtain ⟨b1,o1,ea,r0⟩:=HI.out.2.1.row (k:=k) (r:=[.int .i64 p.1,.int .i64 p.2]) (by rw [List.getElem?_map,hp];rfl)
   subst ea
   have lb0:b1 < w.heap.size:=block_lt_of_cell (r0 0 (.int .i64 p.1) rfl)
   have hib:inBlock (.slice (some ⟨b1,o1,none⟩) m cT)=some b1:=by
    obtain ⟨m',rfl⟩:∃ m',m=m'+1:=⟨m-1,by omega⟩
    rfl
   have r1:=rangeAt_cells r0 (HC.out.2.2.1.block b1 lb0 (HI.out.2.2.2.2.2 b1 hib))
   have g0:=r1 0 (.int .i64 p.1) rfl
   have g1:=r1 1 (.int .i64 p.2) rfl
   simp only [Nat.add_zero] at g0
   have lb:=block_lt_of_cell g0
   have hbl:(born 0 (T.take k)).length=k:=by rw [born_length];simp;have:=HI.out.2.2.1;omega
   have HP:=hid hp
   have hkm':(k:Int) < (m:Int):=by omega
   clear r1 r0 hp hib
   have HA:=fun X=>HC.out.1.below ((Below.refl _ wr).alloc (Nat.le_refl _) X)
   by_cases hkb:k < b
   ·have o:=HI.out.2.2.2.1 k p hkb HP.out
    obtain ⟨r,hr⟩:=Int.eq_ofNat_of_zero_le o.2.2.1
    have A:=addThread_yes x 109 cs' c00 _ n [] [] ln' vt' rv' vs p.1 r _ (HA (.cells #[.int .i64 p.1,.int .i64 p.2] 34)) (by rw [hbl];exact HC.out.2.1) o.1 (by have:=o.2.1;omega) (by have:=o.2.2.2;omega) (by rw [hbl];omega)
    rw [hbl,<- hr] at A
    have HX:=hid (And.intro A (And.intro hbl hr))
    clear A hbl hr HA o
    go_wp2_with (go_at_call 153;refine HX.out.1.mono ?_;rintro e w2 ⟨rfl,H2⟩;replace H2:=hid H2)
    obtain ⟨cs2,vt2,rv2,m2,f2,o2⟩:=H2.out
    have hl2:=(show Lined (born 0 (T.take k)) ((born 0 (T.take k)).length:Int) ln' by rw [HX.out.2.1];exact HC.out.2.1).add p.1 r (by have:=HI.out.2.2.2.1 k p hkb HP.out;have:=this.2.2.2;have:=HX.out.2.2;omega) 3
    rw [HX.out.2.1,<- HX.out.2.2] at hl2
    have eb:=born_step HP.out
    have hsz:(wr.alloc (.cells #[.int .i64 p.1,.int .i64 p.2] 34)).heap.size=wr.heap.size+1:=by simp
    have fz:=HC.out.2.2.1.size
    refine ⟨⟨k+1,cs2,comeLast ln' r k,vt2,rv2,by omega,by go_num,?_⟩,by simp [intOf];omega⟩
    rw [eb]
    refine ⟨m2,by rw [show ((k+1:Nat):Int)=(k:Int)+1 by omega];exact hl2,(HC.out.2.2.1.alloc _).after f2 (fun i hi e=>?_),fun i hi=>?_⟩
    ·rcases HC.out.2.2.2 i e with h | h
     ·exact h
     ·omega
    ·rcases o2 i hi with h | h
     ·exact HC.out.2.2.2 i h
     ·exact .inr (by omega)
   ·have hkb':k=b:=by omega
    subst hkb'
    have A:=addThread_no x 109 cs' c00 _ n [] [] ln' vt' rv' vs p.1 p.2 _ (HA (.cells #[.int .i64 p.1,.int .i64 p.2] 34)) (fun h=>HI.out.2.2.2.2.1 p HP.out ⟨h.1,by have:=h.2.1;omega,h.2.2.1,by have:=h.2.2.2;omega⟩)
    have HX:=hid A
    clear A hbl HA
    have hc1:=fun w=>run_concat ⟨#[116,104,114,101,97,100]⟩ ⟨#[32]⟩ w (by decide)
    go_wp2_with (first
     | (go_at_call 153;refine HX.out.mono ?_;rintro e w2 ⟨rfl,H2⟩;replace H2:=hid H2)
     | (go_at_call 170;refine (itoa_any k (by omega) _).mono ?_;rintro e w3 ⟨s,rfl,hs,rfl⟩;have hc2:=fun w=>run_concat (⟨#[116,104,114,101,97,100]⟩ ++ ⟨#[32]⟩) s w (by rw [ByteArray.size_append];have h1:ByteArray.size ⟨#[116,104,114,101,97,100]⟩=6:=rfl;have h2:ByteArray.size ⟨#[32]⟩=1:=rfl;omega)))
    go_ret
    refine .inr ⟨hkm,_,rfl,(HC.out.2.2.1.alloc _).after (Fr.of_below H2.out (fun _=>False)) (fun _ _ h=>h.elim)⟩
  ·have hkm':k=m:=by omega
   have hbm:b=m:=by omega
   subst hkm'
   have ek:T.take k=T:=List.take_of_length_le (by have:=HI.out.2.2.1;omega)
   go_wp2
   go_ret
   have H:=HC.out
   rw [ek] at H
   exact .inl ⟨hbm,rfl,cs',ln',vt',rv',H.1,by rw [HI.out.2.2.1];exact H.2.1,H.2.2.1,H.2.2.2⟩
open Go.RowKit
def good (n h:Int) (Q:List (Int×Int×Int×Int)) (i:Nat) (p:Int×Int×Int×Int):Prop:=okQ n h p/\∀ (j:Nat) q,j < i->Q[j]? = some q->¬ (q.1=p.1/\q.2.1=p.2.1)
theorem find_memN {L:List (Int×Int×Int×Int)}{s n:Int}{p:Int×Int×Int×Int}(h:findQ L s n=some p):(∃ i:Nat,L[i]? = some p)/\p.1=s/\p.2.1=n:=by
 unfold findQ at h
 have h1:=List.mem_of_find?_eq_some h
 have h2:=List.find?_some h
 simp at h2
 exact ⟨List.mem_iff_getElem?.1 h1,h2⟩
theorem find_none {Q:List (Int×Int×Int×Int)}{k:Nat}{s n:Int}(h:∀ (j:Nat) q,j < k->Q[j]? = some q->¬ (q.1=s/\q.2.1=n)):findQ (Q.take k) s n=none:=by
 unfold findQ
 rw [List.find?_eq_none]
 intro q hq
 obtain ⟨j,hj⟩:=List.mem_iff_getElem?.1 hq
 rw [List.getElem?_take] at hj
 split at hj
 ·have:=h j q (by assumption) hj
  simpa using this
 ·simp at hj
theorem find_some {Q:List (Int×Int×Int×Int)}{k:Nat}{s n:Int}(h:¬ ∀ (j:Nat) q,j < k->Q[j]? = some q->¬ (q.1=s/\q.2.1=n)) (hr:∀ (j:Nat) q,j < k->Q[j]? = some q->1<=q.2.2.2):pb (findQ (Q.take k) s n)≠0:=by
 rcases hf:findQ (Q.take k) s n with _ | p
 ·exfalso
  apply h
  intro j q hj hq he
  unfold findQ at hf
  rw [List.find?_eq_none] at hf
  have hm:q∈Q.take k:=List.mem_iff_getElem?.2 ⟨j,by rw [List.getElem?_take,if_pos hj];exact hq⟩
  have:=hf q hm
  simp [he.1,he.2] at this
 ·obtain ⟨⟨i,hi⟩,_⟩:=find_memN hf
  rw [List.getElem?_take] at hi
  split at hi
  ·have:=hr i p (by assumption) hi
   simp only [pb];omega
  ·simp at hi
theorem pigeon {n h:Int}{Q:List (Int×Int×Int×Int)}{b:Nat}(hb:b<=Q.length) (hn:n<=3) (hg:∀ (i:Nat) p,i < b->Q[i]? = some p->good n h Q i p):b<=18:=by
 have hlen:((Q.take b).map (fun p=>(p.1*6+p.2.1).toNat)).length=b:=by simp;omega
 rw [<- hlen]
 apply nodup_lt 18
 ·rw [List.nodup_iff_pairwise_ne,List.pairwise_iff_getElem]
  intro i j hi hj hij
  simp only [List.length_map,List.length_take] at hi hj
  simp only [List.getElem_map,List.getElem_take]
  have ei:Q[i]? = some (Q[i]'(by omega)):=List.getElem?_eq_getElem (by omega)
  have ej:Q[j]? = some (Q[j]'(by omega)):=List.getElem?_eq_getElem (by omega)
  have gi:=hg i _ (by omega) ei
  have gj:=hg j _ (by omega) ej
  have ne:=gj.2 i _ hij ei
  obtain ⟨a1,a2,a3,a4,_⟩:=gi.1
  obtain ⟨b1,b2,b3,b4,_⟩:=gj.1
  intro e
  apply ne
  generalize Q[i]=p at *
  generalize Q[j]=q at *
  omega
 ·intro t ht
  obtain ⟨p,hp,rfl⟩:=List.mem_map.1 ht
  obtain ⟨i,hi⟩:=List.mem_iff_getElem?.1 hp
  rw [List.getElem?_take] at hi
  split at hi
  ·obtain ⟨a1,a2,a3,a4,_⟩:=(hg i p (by assumption) hi).1
   omega
  ·simp at hi
theorem take_step {Q:List (Int×Int×Int×Int)}{k:Nat}{p:Int×Int×Int×Int}(h:Q[k]? = some p):Q.take (k+1)=Q.take k ++ [p]:=by
 obtain ⟨hl,e⟩:=List.getElem?_eq_some_iff.1 h
 rw [List.take_succ_eq_append_getElem hl,e]
theorem eachP_any (x:Nat) (aT:Option Addr) (cT:Nat) (Q:List (Int×Int×Int×Int)) (m:Nat) (n b:Nat) (ts:List (Int×Int×Int×Int)) (ln:Nat->List Nat) (cs:Array Value) (vt:Value) (rv:Nat->Value) (vs:Value) (w:World)
  (h:MAt w x 109 cs c00 ts n [] [] ln vt rv vs) (iT:Inl w 4 (.slice aT m cT) (Q.map qRow)) (hm:Q.length=m) (hmm:m<=9223372036854775807) (hb:b<=m) (hn3:n<=3) (ok:∀ (i:Nat) p,i < b->Q[i]? = some p->good n ((ts.length:Int)-1) Q i p) (bad:∀ p,Q[b]? = some p->¬ good n ((ts.length:Int)-1) Q b p) (hnb:∀ k,inBlock (.slice aT m cT)=some k->¬ MOwn x vt rv vs k) :
  Calls Tryz.prog 154 #[.string ⟨#[112,97,115,115]⟩,.slice aT m cT,.func (.func 155) #[.pointer (some ⟨x,0,none⟩)] #[]] w fun e w'=>(b=m/\e=.returned .nilIface/\MAt w' x 109 cs c00 ts n Q [] ln vt rv vs/\Fr (MOwn x vt rv vs) w w')\/(b < m/\∃ s,e=.returned (.iface 166 (.agg #[.string s,.iface 160 (.agg #[.int .i64 1])]))/\Fr (MOwn x vt rv vs) w w'):=by
 have b18:b<=18:=pigeon (by omega) (by omega) ok
 have HI:=hid (And.intro h (And.intro iT (And.intro hm (And.intro ok (And.intro bad hnb)))))
 clear h iT hm ok bad hnb
 go_enter Tryz.func154,Tryz.ntmps154
 go_wp2
 go_loopw [12] (fun i wr=>∃ (k:Nat),k<=b/\i=.int .i64 k/\Hid (MAt wr x 109 cs c00 ts n (Q.take k) [] ln vt rv vs/\Fr (MOwn x vt rv vs) w wr)) (fun i _=>b-(intOf i).toNat)
 case atStart=>exact ⟨0,Nat.zero_le _,rfl,HI.out.1,Fr.refl _ _⟩
 case round=>
  obtain ⟨k,hk,rfl,HC⟩:=hrel
  by_cases hkm:k < m
  ·obtain ⟨p,hp⟩:∃ p,Q[k]? = some p:=⟨_,List.getElem?_eq_getElem (by have:=HI.out.2.2.1;omega)⟩
   obtain ⟨b1,o1,ea,r0⟩:=HI.out.2.1.row (k:=k) (r:=[.int .i64 p.1,.int .i64 p.2.1,.int .i64 p.2.2.1,.int .i64 p.2.2.2]) (by rw [List.getElem?_map,hp];rfl)
   subst ea
   have lb0:b1 < w.heap.size:=block_lt_of_cell (r0 0 (.int .i64 p.1) rfl)
   have hib:inBlock (.slice (some ⟨b1,o1,none⟩) m cT)=some b1:=by
    obtain ⟨m',rfl⟩:∃ m',m=m'+1:=⟨m-1,by omega⟩
    rfl
   have r1:=rangeAt_cells r0 (HC.out.2.block b1 lb0 (HI.out.2.2.2.2.2 b1 hib))
   have g0:=r1 0 (.int .i64 p.1) rfl
   have g1:=r1 1 (.int .i64 p.2.1) rfl
   have g2:=r1 2 (.int .i64 p.2.2.1) rfl
   have g3:=r1 3 (.int .i64 p.2.2.2) rfl
   simp only [Nat.add_zero] at g0
   have lb:=block_lt_of_cell g0
   have HP:=hid hp
   have hkm':(k:Int) < (m:Int):=by omega
   clear r1 r0 hp hib
   have HA:=fun X=>HC.out.1.below ((Below.refl _ wr).alloc (Nat.le_refl _) X)
   by_cases hkb:k < b
   ·have o:=HI.out.2.2.2.1 k p hkb HP.out
    obtain ⟨s,hs⟩:=Int.eq_ofNat_of_zero_le o.1.1
    obtain ⟨j,hj⟩:=Int.eq_ofNat_of_zero_le o.1.2.2.1
    have A:=addPass_yes x 109 cs c00 ts n (Q.take k) [] ln vt rv vs s j p.2.2.1 p.2.2.2 _ (HA (.cells #[.int .i64 p.1,.int .i64 p.2.1,.int .i64 p.2.2.1,.int .i64 p.2.2.2] 55)) (by have:=o.1.2.1;omega) (by have:=o.1.2.2.2.1;omega) o.1.2.2.2.2.1 (by have:=o.1.2.2.2.2.2.1;omega) o.1.2.2.2.2.2.2.1 o.1.2.2.2.2.2.2.2 (by rw [<- hs,<- hj];exact find_none o.2)
    rw [<- hs,<- hj] at A
    have HX:=hid A
    clear A hs hj HA o
    go_wp2_with (go_at_call 155;refine HX.out.mono ?_;rintro e w2 ⟨rfl,H2⟩;replace H2:=hid H2)
    refine ⟨⟨k+1,by omega,by go_num,?_⟩,by simp [intOf];omega⟩
    rw [take_step HP.out]
    exact ⟨H2.out.1,(HC.out.2.alloc _).trans H2.out.2⟩
   ·have hkb':k=b:=by omega
    subst hkb'
    have A:Calls Tryz.prog 155 #[.pointer (some ⟨x,0,none⟩),.agg #[.int .i64 p.1,.int .i64 p.2.1,.int .i64 p.2.2.1,.int .i64 p.2.2.2]] (wr.alloc (.cells #[.int .i64 p.1,.int .i64 p.2.1,.int .i64 p.2.2.1,.int .i64 p.2.2.2] 55)) fun e w'=>e=.returned (.iface 160 (.agg #[.int .i64 1]))/\Below (wr.alloc (.cells #[.int .i64 p.1,.int .i64 p.2.1,.int .i64 p.2.2.1,.int .i64 p.2.2.2] 55)).heap.size (wr.alloc (.cells #[.int .i64 p.1,.int .i64 p.2.1,.int .i64 p.2.2.1,.int .i64 p.2.2.2] 55)) w':=by
     have nb:=HI.out.2.2.2.2.1 p HP.out
     by_cases ho:okQ n ((ts.length:Int)-1) p
     ·have hns:¬ ∀ (j:Nat) q,j < k->Q[j]? = some q->¬ (q.1=p.1/\q.2.1=p.2.1):=fun h=>nb ⟨ho,h⟩
      obtain ⟨s,hs⟩:=Int.eq_ofNat_of_zero_le ho.1
      obtain ⟨j,hj⟩:=Int.eq_ofNat_of_zero_le ho.2.2.1
      have A:=addPass_two x 109 cs c00 ts n (Q.take k) [] ln vt rv vs s j p.2.2.1 p.2.2.2 _ (HA (.cells #[.int .i64 p.1,.int .i64 p.2.1,.int .i64 p.2.2.1,.int .i64 p.2.2.2] 55)) (by have:=ho.2.1;omega) (by have:=ho.2.2.2.1;omega) ho.2.2.2.2.1 (by have:=ho.2.2.2.2.2.1;omega) ho.2.2.2.2.2.2.1 ho.2.2.2.2.2.2.2 (by rw [<- hs,<- hj];exact find_some hns (fun i q hi hq=>(HI.out.2.2.2.1 i q hi hq).1.2.2.2.2.2.2.1))
      rw [<- hs,<- hj] at A
      exact A
     ·exact addPass_no x 109 cs c00 ts n (Q.take k) [] ln vt rv vs p.1 p.2.1 p.2.2.1 p.2.2.2 _ (HA _) (fun h=>ho ⟨h.1,by have:=h.2.1;omega,h.2.2.1,by have:=h.2.2.2.1;omega,h.2.2.2.2.1,by have:=h.2.2.2.2.2.1;omega,h.2.2.2.2.2.2.1,h.2.2.2.2.2.2.2⟩)
    have HX:=hid A
    clear A HA
    have hc1:=fun w=>run_concat ⟨#[112,97,115,115]⟩ ⟨#[32]⟩ w (by decide)
    go_wp2_with (first
     | (go_at_call 155;refine HX.out.mono ?_;rintro e w2 ⟨rfl,H2⟩;replace H2:=hid H2)
     | (go_at_call 170;refine (itoa_any k (by omega) _).mono ?_;rintro e w3 ⟨s,rfl,hs,rfl⟩;have hc2:=fun w=>run_concat (⟨#[112,97,115,115]⟩ ++ ⟨#[32]⟩) s w (by rw [ByteArray.size_append];have h1:ByteArray.size ⟨#[112,97,115,115]⟩=4:=rfl;have h2:ByteArray.size ⟨#[32]⟩=1:=rfl;omega)))
    go_ret
    refine .inr ⟨hkm,_,rfl,(HC.out.2.alloc _).after (Fr.of_below H2.out (fun _=>False)) (fun _ _ h=>h.elim)⟩
  ·have hkm':k=m:=by omega
   have hbm:b=m:=by omega
   subst hkm'
   have ek:Q.take k=Q:=List.take_of_length_le (by have:=HI.out.2.2.1;omega)
   go_wp2
   go_ret
   have H:=HC.out
   rw [ek] at H
   exact .inl ⟨hbm,rfl,H.1,H.2⟩
theorem eachL_any (x:Nat) (aT:Option Addr) (cT:Nat) (Q:List (Int×Int×Int×Int)) (m:Nat) (n b:Nat) (Q0:List (Int×Int×Int×Int)) (ts:List (Int×Int×Int×Int)) (ln:Nat->List Nat) (cs:Array Value) (vt:Value) (rv:Nat->Value) (vs:Value) (w:World)
  (h:MAt w x 109 cs c00 ts n Q0 [] ln vt rv vs) (iT:Inl w 4 (.slice aT m cT) (Q.map qRow)) (hm:Q.length=m) (hmm:m<=9223372036854775807) (hb:b<=m) (hn3:n<=3) (ok:∀ (i:Nat) p,i < b->Q[i]? = some p->good n 7 Q i p) (bad:∀ p,Q[b]? = some p->¬ good n 7 Q b p) (hnb:∀ k,inBlock (.slice aT m cT)=some k->¬ MOwn x vt rv vs k) :
  Calls Tryz.prog 156 #[.string ⟨#[108,101,97,102]⟩,.slice aT m cT,.func (.func 157) #[.pointer (some ⟨x,0,none⟩)] #[]] w fun e w'=>(b=m/\e=.returned .nilIface/\MAt w' x 109 cs c00 ts n Q0 Q ln vt rv vs/\Fr (MOwn x vt rv vs) w w')\/(b < m/\∃ s,e=.returned (.iface 166 (.agg #[.string s,.iface 160 (.agg #[.int .i64 1])]))/\Fr (MOwn x vt rv vs) w w'):=by
 have b18:b<=18:=pigeon (by omega) (by omega) ok
 have HI:=hid (And.intro h (And.intro iT (And.intro hm (And.intro ok (And.intro bad hnb)))))
 clear h iT hm ok bad hnb
 go_enter Tryz.func156,Tryz.ntmps156
 go_wp2
 go_loopw [12] (fun i wr=>∃ (k:Nat),k<=b/\i=.int .i64 k/\Hid (MAt wr x 109 cs c00 ts n Q0 (Q.take k) ln vt rv vs/\Fr (MOwn x vt rv vs) w wr)) (fun i _=>b-(intOf i).toNat)
 case atStart=>exact ⟨0,Nat.zero_le _,rfl,HI.out.1,Fr.refl _ _⟩
 case round=>
  obtain ⟨k,hk,rfl,HC⟩:=hrel
  by_cases hkm:k < m
  ·obtain ⟨p,hp⟩:∃ p,Q[k]? = some p:=⟨_,List.getElem?_eq_getElem (by have:=HI.out.2.2.1;omega)⟩
   obtain ⟨b1,o1,ea,r0⟩:=HI.out.2.1.row (k:=k) (r:=[.int .i64 p.1,.int .i64 p.2.1,.int .i64 p.2.2.1,.int .i64 p.2.2.2]) (by rw [List.getElem?_map,hp];rfl)
   subst ea
   have lb0:b1 < w.heap.size:=block_lt_of_cell (r0 0 (.int .i64 p.1) rfl)
   have hib:inBlock (.slice (some ⟨b1,o1,none⟩) m cT)=some b1:=by
    obtain ⟨m',rfl⟩:∃ m',m=m'+1:=⟨m-1,by omega⟩
    rfl
   have r1:=rangeAt_cells r0 (HC.out.2.block b1 lb0 (HI.out.2.2.2.2.2 b1 hib))
   have g0:=r1 0 (.int .i64 p.1) rfl
   have g1:=r1 1 (.int .i64 p.2.1) rfl
   have g2:=r1 2 (.int .i64 p.2.2.1) rfl
   have g3:=r1 3 (.int .i64 p.2.2.2) rfl
   simp only [Nat.add_zero] at g0
   have lb:=block_lt_of_cell g0
   have HP:=hid hp
   have hkm':(k:Int) < (m:Int):=by omega
   clear r1 r0 hp hib
   have HA:=fun X=>HC.out.1.below ((Below.refl _ wr).alloc (Nat.le_refl _) X)
   by_cases hkb:k < b
   ·have o:=HI.out.2.2.2.1 k p hkb HP.out
    obtain ⟨s,hs⟩:=Int.eq_ofNat_of_zero_le o.1.1
    obtain ⟨j,hj⟩:=Int.eq_ofNat_of_zero_le o.1.2.2.1
    have A:=addLeaf_yes x 109 cs c00 ts n Q0 (Q.take k) ln vt rv vs s j p.2.2.1 p.2.2.2 _ (HA (.cells #[.int .i64 p.1,.int .i64 p.2.1,.int .i64 p.2.2.1,.int .i64 p.2.2.2] 67)) (by have:=o.1.2.1;omega) (by have:=o.1.2.2.2.1;omega) o.1.2.2.2.2.1 (by have:=o.1.2.2.2.2.2.1;omega) o.1.2.2.2.2.2.2.1 o.1.2.2.2.2.2.2.2 (by rw [<- hs,<- hj];exact find_none o.2)
    rw [<- hs,<- hj] at A
    have HX:=hid A
    clear A hs hj HA o
    go_wp2_with (go_at_call 157;refine HX.out.mono ?_;rintro e w2 ⟨rfl,H2⟩;replace H2:=hid H2)
    refine ⟨⟨k+1,by omega,by go_num,?_⟩,by simp [intOf];omega⟩
    rw [take_step HP.out]
    exact ⟨H2.out.1,(HC.out.2.alloc _).trans H2.out.2⟩
   ·have hkb':k=b:=by omega
    subst hkb'
    have A:Calls Tryz.prog 157 #[.pointer (some ⟨x,0,none⟩),.agg #[.int .i64 p.1,.int .i64 p.2.1,.int .i64 p.2.2.1,.int .i64 p.2.2.2]] (wr.alloc (.cells #[.int .i64 p.1,.int .i64 p.2.1,.int .i64 p.2.2.1,.int .i64 p.2.2.2] 67)) fun e w'=>e=.returned (.iface 160 (.agg #[.int .i64 1]))/\Below (wr.alloc (.cells #[.int .i64 p.1,.int .i64 p.2.1,.int .i64 p.2.2.1,.int .i64 p.2.2.2] 67)).heap.size (wr.alloc (.cells #[.int .i64 p.1,.int .i64 p.2.1,.int .i64 p.2.2.1,.int .i64 p.2.2.2] 67)) w':=by
     have nb:=HI.out.2.2.2.2.1 p HP.out
     by_cases ho:okQ n 7 p
     ·have hns:¬ ∀ (j:Nat) q,j < k->Q[j]? = some q->¬ (q.1=p.1/\q.2.1=p.2.1):=fun h=>nb ⟨ho,h⟩
      obtain ⟨s,hs⟩:=Int.eq_ofNat_of_zero_le ho.1
      obtain ⟨j,hj⟩:=Int.eq_ofNat_of_zero_le ho.2.2.1
      have A:=addLeaf_two x 109 cs c00 ts n Q0 (Q.take k) ln vt rv vs s j p.2.2.1 p.2.2.2 _ (HA (.cells #[.int .i64 p.1,.int .i64 p.2.1,.int .i64 p.2.2.1,.int .i64 p.2.2.2] 67)) (by have:=ho.2.1;omega) (by have:=ho.2.2.2.1;omega) ho.2.2.2.2.1 (by have:=ho.2.2.2.2.2.1;omega) ho.2.2.2.2.2.2.1 ho.2.2.2.2.2.2.2 (by rw [<- hs,<- hj];exact find_some hns (fun i q hi hq=>(HI.out.2.2.2.1 i q hi hq).1.2.2.2.2.2.2.1))
      rw [<- hs,<- hj] at A
      exact A
     ·exact addLeaf_no x 109 cs c00 ts n Q0 (Q.take k) ln vt rv vs p.1 p.2.1 p.2.2.1 p.2.2.2 _ (HA _) (fun h=>ho ⟨h.1,by have:=h.2.1;omega,h.2.2.1,by have:=h.2.2.2.1;omega,h.2.2.2.2.1,by have:=h.2.2.2.2.2.1;omega,h.2.2.2.2.2.2.1,h.2.2.2.2.2.2.2⟩)
    have HX:=hid A
    clear A HA
    have hc1:=fun w=>run_concat ⟨#[108,101,97,102]⟩ ⟨#[32]⟩ w (by decide)
    go_wp2_with (first
     | (go_at_call 157;refine HX.out.mono ?_;rintro e w2 ⟨rfl,H2⟩;replace H2:=hid H2)
     | (go_at_call 170;refine (itoa_any k (by omega) _).mono ?_;rintro e w3 ⟨s,rfl,hs,rfl⟩;have hc2:=fun w=>run_concat (⟨#[108,101,97,102]⟩ ++ ⟨#[32]⟩) s w (by rw [ByteArray.size_append];have h1:ByteArray.size ⟨#[108,101,97,102]⟩=4:=rfl;have h2:ByteArray.size ⟨#[32]⟩=1:=rfl;omega)))
    go_ret
    refine .inr ⟨hkm,_,rfl,(HC.out.2.alloc _).after (Fr.of_below H2.out (fun _=>False)) (fun _ _ h=>h.elim)⟩
  ·have hkm':k=m:=by omega
   have hbm:b=m:=by omega
   subst hkm'
   have ek:Q.take k=Q:=List.take_of_length_le (by have:=HI.out.2.2.1;omega)
   go_wp2
   go_ret
   have H:=HC.out
   rw [ek] at H
   exact .inl ⟨hbm,rfl,H.1,H.2⟩
end Go.Proofs.YteejjgbeknnmeaaGreatDoor
