import Derived.Test.YteejjgbeknnmeaaGreatDoorJ20
set_option maxRecDepth 100000
set_option maxHeartbeats 20000000
namespace Go.Proofs.YteejjgbeknnmeaaGreatDoor
open Go.RowKit
theorem Tryz.infoN232:(Tryz.prog.info? 232).map (fun i=>(i.zero,i.size,i.bytes))=some (some (.agg #[.int .i64 0,.int .i64 0,.int .i64 0,.int .i64 0,.int .i64 0,.int .i64 0,.int .i64 0,.int .i64 0,.int .i64 0,.int .i64 0,.int .i64 0,.int .i64 0,.int .i64 0,.int .i64 0,.pointer none,.int .i64 0,.int .i64 0,.pointer none,.int .i64 0,.int .i64 0,.pointer none,.int .i64 0,.int .i64 0,.pointer none,.int .i64 0,.int .i64 0,.pointer none,.int .i64 0,.int .i64 0,.pointer none]),30,240):=by kernel_rfl
def mcells (cl:Int) (vt r0 r1 r2 r3 vs:Value):Array Value:=#[.int .u64 cl,vt,r0,r1,r2,r3,vs,.int .i64 0,.int .i64 0,.int .i64 0,.int .i64 0,.int .i64 0,.int .i64 0,.int .i64 0,.int .i64 0,.int .i64 0,.int .i64 0,.int .i64 0,.int .i64 0,.int .i64 0,.int .i64 0,.int .i64 0,.int .i64 0,.int .i64 0,.int .i64 0,.int .i64 0,.int .i64 0,.int .i64 0,.int .i64 0,.int .i64 0,.int .i64 0,.int .i64 0,.int .i64 0,.int .i64 0,.int .i64 0,.int .i64 0,.int .i64 0,.int .i64 0,.int .i64 0]
theorem make_n {t e:TypeId}{z:Value}{size bytes:Nat}(ht:Tryz.prog.underlying t=some (.slice e)) (h:(Tryz.prog.info? e).map (fun i=>(i.zero,i.size,i.bytes))=some (some z,size,bytes)) (n:Nat) (hn:bytes*n<=281474976710656) (hb:0 < bytes) :
  ∀ w,(Instr.makeSlice t (.int .i64 n) (.int .i64 n)).run Tryz.prog w=.ok (.slice (some ⟨w.heap.size,0,none⟩) n n) (w.alloc (.cells (madeCells z.cells (n*size)) e)):=by
 intro w
 obtain ⟨i,hi,h0,h1,h2⟩:=info_parts h
 subst h1 h2
 have hb':(i.bytes:Int)*(n:Int)<=281474976710656:=by
  have h:((i.bytes*n:Nat):Int)<=281474976710656:=by omega
  rwa [Int.natCast_mul] at h
 have hle:n<=i.bytes*n:=Nat.le_mul_of_pos_left _ hb
 have:=run_make (P:=Tryz.prog) w t e i z ht hi h0 .i64 .i64 (n:Int) (n:Int) (by omega) (Int.le_refl _) hb' (by omega)
 rw [show ((n:Int)).toNat=n by omega] at this
 exact this
theorem openSpaces_no (x:Nat) (c:Int) (w:World) (h:¬ (1<=c/\c<=3)):Calls Tryz.prog 150 #[.pointer (some ⟨x,0,none⟩),.int .i64 c] w fun e w'=>e=.returned (.iface 160 (.agg #[.int .i64 1]))/\w'=w:=by
 have d:decide (1<=c/\c<=3)=false:=by simpa using h
 go_enter Tryz.func150,Tryz.ntmps150
 go_wp2_with (first | (go_at_call 132;refine (between_dec _ _ _ _).mono ?_;rintro e w' ⟨rfl,rfl⟩;rw [d]) | (go_at_call 151;refine (noConfig_any _).mono ?_;rintro e w1 ⟨rfl,rfl⟩))
 go_ret
 exact ⟨rfl,rfl⟩
theorem sp_empty (n:Nat) (hn:n<=3):spRows n [] []=List.replicate n [.int .i64 0,.int .i64 0,.int .i64 0,.int .i64 0,.int .i64 0,.int .i64 0,.int .i64 0,.int .i64 0,.int .i64 0,.int .i64 0,.int .i64 0,.int .i64 0,.int .i64 0,.int .i64 0,.pointer none,.int .i64 0,.int .i64 0,.pointer none,.int .i64 0,.int .i64 0,.pointer none,.int .i64 0,.int .i64 0,.pointer none,.int .i64 0,.int .i64 0,.pointer none,.int .i64 0,.int .i64 0,.pointer none]:=by
 have h:n=0\/n=1\/n=2\/n=3:=by omega
 rcases h with rfl | rfl | rfl | rfl <;> rfl
theorem mcells_fr (cl:Int) (vt r0 r1 r2 r3 vs:Value) (j:Nat) (hj:j < 32):(mcells cl vt r0 r1 r2 r3 vs)[7+j]? = some (.int .i64 0):=by
 have e:mcells cl vt r0 r1 r2 r3 vs=#[.int .u64 cl,vt,r0,r1,r2,r3,vs] ++ (List.replicate 32 (Value.int .i64 0)).toArray:=by apply Array.ext';simp [mcells,List.replicate_succ]
 rw [e,Array.getElem?_append_right (by simp)]
 generalize hv:Value.int .i64 0=v
 have h7:7+j-(#[Value.int .u64 cl,vt,r0,r1,r2,r3,vs]:Array Value).size=j:=by show 7+j-7=j;omega
 rw [h7,List.getElem?_toArray,List.getElem?_replicate,if_pos hj]
theorem mcells_size (cl:Int) (vt r0 r1 r2 r3 vs:Value):(mcells cl vt r0 r1 r2 r3 vs).size=39:=rfl
theorem cs_eq {cs:Array Value}{cl:Int}{vt r0 r1 r2 r3 vs:Value}(hs:cs.size=39) (c0:cs[0]? = some (.int .u64 cl)) (c1:cs[1]? = some vt) (c2:cs[2]? = some r0) (c3:cs[3]? = some r1) (c4:cs[4]? = some r2) (c5:cs[5]? = some r3) (c6:cs[6]? = some vs) (fr:∀ j,j < 32->cs[7+j]? = some (.int .i64 0)):cs=mcells cl vt r0 r1 r2 r3 vs:=by
 apply Array.ext_getElem?
 intro i
 by_cases h:i < 7
 ·have h:i=0\/i=1\/i=2\/i=3\/i=4\/i=5\/i=6:=by omega
  rcases h with rfl | rfl | rfl | rfl | rfl | rfl | rfl
  ·exact c0.trans rfl
  ·exact c1.trans rfl
  ·exact c2.trans rfl
  ·exact c3.trans rfl
  ·exact c4.trans rfl
  ·exact c5.trans rfl
  ·exact c6.trans rfl
 ·by_cases h2:i < 39
  ·obtain ⟨j,rfl⟩:∃ j,i=7+j:=⟨i-7,by omega⟩
   rw [fr j (by omega),mcells_fr _ _ _ _ _ _ _ j (by omega)]
  ·rw [Array.getElem?_eq_none (by omega),Array.getElem?_eq_none (by rw [mcells_size];omega)]
theorem MAt.cs_eq {w:World}{x:Nat}{ty:TypeId}{cs:Array Value}{ts:List (Int×Int×Int×Int)}{n:Nat}{Q L:List (Int×Int×Int×Int)}{ln:Nat->List Nat}{vt:Value}{rv:Nat->Value}{vs:Value}
  (h:MAt w x ty cs c00 ts n Q L ln vt rv vs):cs=mcells 0 vt (rv 0) (rv 1) (rv 2) (rv 3) vs:=
 Go.Proofs.YteejjgbeknnmeaaGreatDoor.cs_eq h.size h.c0 h.c1 (h.row 0 (by omega)) (h.row 1 (by omega)) (h.row 2 (by omega)) (h.row 3 (by omega)) h.c6 h.fr
def z30:Array Value:=#[.int .i64 0,.int .i64 0,.int .i64 0,.int .i64 0,.int .i64 0,.int .i64 0,.int .i64 0,.int .i64 0,.int .i64 0,.int .i64 0,.int .i64 0,.int .i64 0,.int .i64 0,.int .i64 0,.pointer none,.int .i64 0,.int .i64 0,.pointer none,.int .i64 0,.int .i64 0,.pointer none,.int .i64 0,.int .i64 0,.pointer none,.int .i64 0,.int .i64 0,.pointer none,.int .i64 0,.int .i64 0,.pointer none]
theorem open_end {w:World}{x n:Nat}(h3:n<=3) (hb:w.heap[x]? = some (.cells (mcells 0 (.slice none 0 0) (.slice none 0 0) (.slice none 0 0) (.slice none 0 0) (.slice none 0 0) (.slice none 0 0)) 109 (0,0))) :
  MAt ((w.setCell ⟨x,6,none⟩ (.slice (some ⟨w.heap.size,0,none⟩) n n)).alloc (.cells (madeCells z30 (n*30)) 232)) x 109 (mcells 0 (.slice none 0 0) (.slice none 0 0) (.slice none 0 0) (.slice none 0 0) (.slice none 0 0) (.slice (some ⟨w.heap.size,0,none⟩) n n)) c00 [] n [] [] (fun _=>[]) (.slice none 0 0) (fun _=>.slice none 0 0) (.slice (some ⟨w.heap.size,0,none⟩) n n) /\
  Fr (fun k=>k=x) w ((w.setCell ⟨x,6,none⟩ (.slice (some ⟨w.heap.size,0,none⟩) n n)).alloc (.cells (madeCells z30 (n*30)) 232))/\∀ k,Value.ownBlock (.slice (some ⟨w.heap.size,0,none⟩) n n)=some k->w.heap.size<=k:=by
 have lx:=(Array.getElem?_eq_some_iff.1 hb).1
 have hsz:(w.setCell ⟨x,6,none⟩ (.slice (some ⟨w.heap.size,0,none⟩) n n)).heap.size=w.heap.size:=by simp [World.setCell]
 have hb2:=heap_setCell_same w x 6 _ 109 (.slice (some ⟨w.heap.size,0,none⟩) n n) hb
 have hn:=heap_alloc_new (w.setCell ⟨x,6,none⟩ (.slice (some ⟨w.heap.size,0,none⟩) n n)) (.cells (madeCells z30 (n*30)) 232)
 rw [hsz] at hn
 have S:=made_sl (n:=n) (size:=30) rfl (by omega) (by unfold maxLen;omega) hn
 have es:List.replicate n z30.toList=spRows n [] []:=(sp_empty n h3).symm
 rw [es] at S
 refine ⟨⟨(Below.heap_alloc _ _ _ (by rw [hsz];exact lx)).trans hb2,rfl,rfl,rfl,?_,rfl,Sl.nil _ _ _,fun r _=>Sl.nil _ _ _,S,by simp [Value.ownBlock],by simp [Value.ownBlock],?_,by simp [Value.ownBlock],by simp [Value.ownBlock],by simp [Value.ownBlock],?_⟩,((Fr.refl (fun k=>k=x) w).setCell (p:=⟨x,6,none⟩) (fun _=>rfl) _).alloc _,?_⟩
 ·intro r hr
  have h:r=0\/r=1\/r=2\/r=3:=by omega
  rcases h with rfl | rfl | rfl | rfl <;> rfl
 ·simp only [Value.ownBlock,ne_eq,Option.some.injEq];omega
 ·exact fun j hj=>mcells_fr _ _ _ _ _ _ _ j hj
 ·intro k hk
  simp only [Value.ownBlock,Option.some.injEq] at hk
  omega
theorem openSpaces_yes (x n:Nat) (w:World) (h1:1<=n) (h3:n<=3) (hb:w.heap[x]? = some (.cells (mcells 0 (.slice none 0 0) (.slice none 0 0) (.slice none 0 0) (.slice none 0 0) (.slice none 0 0) (.slice none 0 0)) 109 (0,0))) :
  Calls Tryz.prog 150 #[.pointer (some ⟨x,0,none⟩),.int .i64 n] w fun e w'=>e=.returned .nilIface/\∃ cs vs,MAt w' x 109 cs c00 [] n [] [] (fun _=>[]) (.slice none 0 0) (fun _=>.slice none 0 0) vs/\Fr (fun k=>k=x) w w'/\∀ k,vs.ownBlock=some k->w.heap.size<=k:=by
 have d:decide (1<=(n:Int)/\(n:Int)<=3)=true:=by simp;omega
 have hm:=make_n Tryz.underlying104 Tryz.infoN232 n (by omega) (by decide)
 simp only [Value.cells] at hm
 have lx:=(Array.getElem?_eq_some_iff.1 hb).1
 have HB:=hid hb
 have hb1:Hid ((w.alloc (.cells (madeCells #[.int .i64 0,.int .i64 0,.int .i64 0,.int .i64 0,.int .i64 0,.int .i64 0,.int .i64 0,.int .i64 0,.int .i64 0,.int .i64 0,.int .i64 0,.int .i64 0,.int .i64 0,.int .i64 0,.pointer none,.int .i64 0,.int .i64 0,.pointer none,.int .i64 0,.int .i64 0,.pointer none,.int .i64 0,.int .i64 0,.pointer none,.int .i64 0,.int .i64 0,.pointer none,.int .i64 0,.int .i64 0,.pointer none] (n*30)) 232)).heap[x]? = _):=(Below.heap_alloc _ _ _ lx).trans hb
 have c6:=(cell_of_row _ x 6 _ _ _ hb1.out).trans (show _=some (Value.slice none 0 0) from rfl)
 have f6:=frozen_of_row _ x 6 _ _ hb1.out
 clear hb
 go_enter Tryz.func150,Tryz.ntmps150
 go_wp2_with (first | (go_at_call 132;refine (between_dec _ _ _ _).mono ?_;rintro e w' ⟨rfl,rfl⟩;rw [d]) | (go_at_call 151;refine (noConfig_any _).mono ?_;rintro e w1 ⟨rfl,rfl⟩))
 go_ret
 exact ⟨rfl,_,_,open_end h3 HB.out⟩
open Go.RowKit
theorem least (m:Nat) (g:Nat->Prop):∃ b,b<=m/\(∀ i,i < b->g i)/\(b < m->¬ g b):=by
 induction m with
 | zero=>exact ⟨0,Nat.le_refl _,fun i hi=>absurd hi (by omega),fun h=>absurd h (by omega)⟩
 | succ m ih=>
  obtain ⟨b,hb,h1,h2⟩:=ih
  by_cases hbm:b < m
  ·exact ⟨b,by omega,h1,fun _=>h2 hbm⟩
  ·have:b=m:=by omega
   subst this
   by_cases hg:g b
   ·exact ⟨b+1,Nat.le_refl _,fun i hi=>by
     by_cases e:i < b
     ·exact h1 i e
     ·have:i=b:=by omega
      subst this;exact hg,fun h=>absurd h (by omega)⟩
   ·exact ⟨b,by omega,h1,fun _=>hg⟩
theorem build_se (x:Nat) (sp:Int) (vT vP vL:Value) (T:List (Int×Int)) (w:World) (iT:Inl w 2 vT (T.map tRow)) (hP:∃ a n c,vP=.slice a n c) (hL:∃ a n c,vL=.slice a n c) (lx:x < w.heap.size)
  (hb:w.heap[x]? = some (.cells (mcells 0 (.slice none 0 0) (.slice none 0 0) (.slice none 0 0) (.slice none 0 0) (.slice none 0 0) (.slice none 0 0)) 109 (0,0))) (hbad:¬ (1<=sp/\sp<=3)\/¬ (1<=T.length/\T.length<=6)) :
  Calls Tryz.prog 121 #[.pointer (some ⟨x,0,none⟩),.agg #[.int .i64 sp,vT,vP,vL]] w fun e w'=>e=.returned (.iface 160 (.agg #[.int .i64 1]))/\Fr (fun k=>k=x) w w':=by
 obtain ⟨aT,cT,eT⟩:=iT.slice
 rw [List.length_map] at eT
 subst eT
 obtain ⟨aP,nP,cP,rfl⟩:=hP
 obtain ⟨aL,nL,cL,rfl⟩:=hL
 clear iT
 by_cases h1:1<=sp/\sp<=3
 ·obtain ⟨n,rfl⟩:=Int.eq_ofNat_of_zero_le (show 0<=sp by omega)
  have hT:¬ (1<=T.length/\T.length<=6):=by
   rcases hbad with h | h
   ·exact absurd h1 h
   ·exact h
  generalize T.length=m at *
  have d:decide (1<=(m:Int)/\(m:Int)<=6)=false:=by simp;omega
  have O:=hid (openSpaces_yes x n (w.alloc (.cells #[.int .i64 n,.slice aT m cT,.slice aP nP cP,.slice aL nL cL] 32)) (by omega) (by omega) ((Below.heap_alloc _ _ _ lx).trans hb))
  have h40:=heap_alloc_new w (.cells #[.int .i64 n,.slice aT m cT,.slice aP nP cP,.slice aL nL cL] 32)
  have HB:=hid (And.intro hb h40)
  clear hb hbad h1 hT h40
  go_enter Tryz.func121,Tryz.ntmps121
  go_wp2_with (first
   | (go_at_call 150;refine O.out.mono ?_;rintro e w1 ⟨rfl,cs,vs,H1⟩;have hb1:=(H1.2.1.block w.heap.size (by simp) (by omega)).trans HB.out.2;have c1:w1.cell? ⟨w.heap.size,1,none⟩=some (.slice aT m cT):=(cell_of_row w1 _ 1 _ _ _ hb1).trans rfl;replace H1:=hid (And.intro H1 hb1);clear hb1)
   | (go_at_call 132;refine (between_dec _ _ _ _).mono ?_;rintro e w2 ⟨rfl,rfl⟩;rw [d])
   | (go_at_call 151;refine (noConfig_any _).mono ?_;rintro e w2 ⟨rfl,rfl⟩))
  go_ret
  exact ⟨rfl,((Fr.refl _ w).alloc _).trans H1.out.1.2.1⟩
 ·have O:=fun w=>openSpaces_no x sp w h1
  have HB:=hid hb
  clear hb hbad h1
  go_enter Tryz.func121,Tryz.ntmps121
  go_wp2_with (go_at_call 150;refine (O _).mono ?_;rintro e w1 ⟨rfl,rfl⟩)
  go_ret
  exact ⟨rfl,(Fr.refl _ w).alloc _⟩
open Go.RowKit
theorem Inl.inlt {w:World}{size:Nat}{v:Value}{rows:List (List Value)}(h:Inl w size v rows) (hs:0 < size){k:Nat}(hk:inBlock v=some k):k < w.heap.size:=by
 refine h.lt hs (fun e=>?_) hk
 subst e
 obtain ⟨a,c,rfl,_⟩:=h.form
 cases a <;> simp [inBlock] at hk
structure Stage (w:World) (bx:Obj) (x:Nat) (vt:Value) (rv:Nat->Value) (vs:Value) (w':World):Prop where
 fr:Fr (fun k=>k=x) (w.alloc bx) w'
 own:∀ k,MOwn x vt rv vs k->k=x\/w.heap.size+1<=k
theorem Stage.box {w:World}{bx:Obj}{x:Nat}{vt:Value}{rv:Nat->Value}{vs:Value}{w':World}(h:Stage w bx x vt rv vs w') (lx:x < w.heap.size):w'.heap[w.heap.size]? = some bx:=
 (h.fr.block w.heap.size (by simp) (by omega)).trans (heap_alloc_new w bx)
theorem Stage.inl {w:World}{bx:Obj}{x:Nat}{vt:Value}{rv:Nat->Value}{vs:Value}{w':World}(h:Stage w bx x vt rv vs w'){size:Nat}{v:Value}{rows:List (List Value)}(hi:Inl w size v rows) (hs:0 < size) (hx:∀ k,inBlock v=some k->k≠x):Inl w' size v rows:=
 (hi.alloc hs bx).kept hs h.fr hx
theorem Stage.nb {w:World}{bx:Obj}{x:Nat}{vt:Value}{rv:Nat->Value}{vs:Value}{w':World}(h:Stage w bx x vt rv vs w'){size:Nat}{v:Value}{rows:List (List Value)}(hi:Inl w size v rows) (hs:0 < size) (hx:∀ k,inBlock v=some k->k≠x):∀ k,inBlock v=some k->¬ MOwn x vt rv vs k:=fun k hk ho=>by
 have:=hi.inlt hs hk
 rcases h.own k ho with e | e
 ·exact hx k hk e
 ·omega
theorem Stage.next {w:World}{bx:Obj}{x:Nat}{vt vt2:Value}{rv rv2:Nat->Value}{vs:Value}{w1 w2:World}(h:Stage w bx x vt rv vs w1) (hf:Fr (MOwn x vt rv vs) w1 w2) (ho:∀ k,MOwn x vt2 rv2 vs k->MOwn x vt rv vs k\/w1.heap.size<=k):Stage w bx x vt2 rv2 vs w2:=
 ⟨h.fr.after hf (fun i hi e=>by
  rcases h.own i e with e | e
  ·exact e
  ·simp at hi;omega),fun k hk=>by
  have:=h.fr.size
  simp at this
  rcases ho k hk with e | e
  ·exact h.own k e
  ·exact .inr (by omega)⟩
theorem build_any (x n:Nat) (aT aP aL:Option Addr) (mT mP mL cT cP cL:Nat) (T:List (Int×Int)) (Q L:List (Int×Int×Int×Int)) (w:World) (iT:Inl w 2 (.slice aT mT cT) (T.map tRow)) (iP:Inl w 4 (.slice aP mP cP) (Q.map qRow)) (iL:Inl w 4 (.slice aL mL cL) (L.map qRow)) (lx:x < w.heap.size)
  (eT:T.length=mT) (eP:Q.length=mP) (eL:L.length=mL)
  (xT:∀ k,inBlock (.slice aT mT cT)=some k->k≠x) (xP:∀ k,inBlock (.slice aP mP cP)=some k->k≠x) (xL:∀ k,inBlock (.slice aL mL cL)=some k->k≠x)
  (hb:w.heap[x]? = some (.cells (mcells 0 (.slice none 0 0) (.slice none 0 0) (.slice none 0 0) (.slice none 0 0) (.slice none 0 0) (.slice none 0 0)) 109 (0,0))) (n1:1<=n) (n3:n<=3) (t1:1<=mT) (t6:mT<=6) :
  Calls Tryz.prog 121 #[.pointer (some ⟨x,0,none⟩),.agg #[.int .i64 n,.slice aT mT cT,.slice aP mP cP,.slice aL mL cL]] w fun e w'=>(Fits n T Q L/\e=.returned .nilIface/\∃ cs ln vt rv vs,MAt w' x 109 cs c00 (born 0 T) n Q L ln vt rv vs/\Lined (born 0 T) T.length ln/\Stage w (.cells #[.int .i64 n,.slice aT mT cT,.slice aP mP cP,.slice aL mL cL] 32) x vt rv vs w') \/
   (¬ Fits n T Q L/\∃ s,e=.returned (.iface 166 (.agg #[.string s,.iface 160 (.agg #[.int .i64 1])]))/\Fr (fun k=>k=x) w w'):=by
 obtain ⟨bT,bT1,bT2,bT3⟩:=least mT (fun i=>∀ p,T[i]? = some p->okT n p)
 obtain ⟨bQ,bQ1,bQ2,bQ3⟩:=least mP (fun i=>∀ p,Q[i]? = some p->good n ((T.length:Int)-1) Q i p)
 obtain ⟨bL,bL1,bL2,bL3⟩:=least mL (fun i=>∀ p,L[i]? = some p->good n 7 L i p)
 have xP63:mP<=9223372036854775807:=by obtain ⟨_,_,_,h,_⟩:=iP.form;unfold maxLen at h;simp at h;omega
 have xL63:mL<=9223372036854775807:=by obtain ⟨_,_,_,h,_⟩:=iL.form;unfold maxLen at h;simp at h;omega
 have okT':∀ (i:Nat) p,i < bT->T[i]? = some p->okT n p:=fun i p hi hp=>bT2 i hi p hp
 have badT:∀ p,T[bT]? = some p->¬ okT n p:=fun p hp h=>by
  have hl:=(List.getElem?_eq_some_iff.1 hp).1
  exact bT3 (by omega) (fun q hq=>by rw [hp] at hq;cases hq;exact h)
 have okQ':∀ (i:Nat) p,i < bQ->Q[i]? = some p->good n ((T.length:Int)-1) Q i p:=fun i p hi hp=>bQ2 i hi p hp
 have badQ:∀ p,Q[bQ]? = some p->¬ good n ((T.length:Int)-1) Q bQ p:=fun p hp h=>by
  have hl:=(List.getElem?_eq_some_iff.1 hp).1
  exact bQ3 (by omega) (fun q hq=>by rw [hp] at hq;cases hq;exact h)
 have okL':∀ (i:Nat) p,i < bL->L[i]? = some p->good n 7 L i p:=fun i p hi hp=>bL2 i hi p hp
 have badL:∀ p,L[bL]? = some p->¬ good n 7 L bL p:=fun p hp h=>by
  have hl:=(List.getElem?_eq_some_iff.1 hp).1
  exact bL3 (by omega) (fun q hq=>by rw [hp] at hq;cases hq;exact h)
 have hlb:(born 0 T).length=T.length:=born_length 0 T
 have ET:∀ (cs:Array Value) (vt:Value) (rv:Nat->Value) (vs:Value) (w1:World),MAt w1 x 109 cs c00 [] n [] [] (fun _=>[]) vt rv vs->Stage w (.cells #[.int .i64 n,.slice aT mT cT,.slice aP mP cP,.slice aL mL cL] 32) x vt rv vs w1->_:=
  fun cs vt rv vs w1 h1 st=>eachT_any x aT cT T mT n bT cs vt rv vs w1 h1 (st.inl iT (by omega) xT) eT t6 bT1 okT' badT (st.nb iT (by omega) xT)
 have EP:∀ (ln:Nat->List Nat) (cs:Array Value) (vt:Value) (rv:Nat->Value) (vs:Value) (w1:World),MAt w1 x 109 cs c00 (born 0 T) n [] [] ln vt rv vs->Stage w (.cells #[.int .i64 n,.slice aT mT cT,.slice aP mP cP,.slice aL mL cL] 32) x vt rv vs w1->_:=
  fun ln cs vt rv vs w1 h1 st=>eachP_any x aP cP Q mP n bQ (born 0 T) ln cs vt rv vs w1 h1 (st.inl iP (by omega) xP) eP xP63 bQ1 n3 (by rw [hlb];exact okQ') (by rw [hlb];exact badQ) (st.nb iP (by omega) xP)
 have EL:∀ (ln:Nat->List Nat) (cs:Array Value) (vt:Value) (rv:Nat->Value) (vs:Value) (w1:World),MAt w1 x 109 cs c00 (born 0 T) n Q [] ln vt rv vs->Stage w (.cells #[.int .i64 n,.slice aT mT cT,.slice aP mP cP,.slice aL mL cL] 32) x vt rv vs w1->_:=
  fun ln cs vt rv vs w1 h1 st=>eachL_any x aL cL L mL n bL Q (born 0 T) ln cs vt rv vs w1 h1 (st.inl iL (by omega) xL) eL xL63 bL1 n3 okL' badL (st.nb iL (by omega) xL)
 have O:=openSpaces_yes x n (w.alloc (.cells #[.int .i64 n,.slice aT mT cT,.slice aP mP cP,.slice aL mL cL] 32)) n1 n3 ((Below.heap_alloc _ _ _ lx).trans hb)
 have FT:Fits n T Q L->bT=mT:=fun hf=>by
  by_cases e:bT < mT
  ·exact absurd (fun p hp=>hf.2.2.1 bT p hp) (bT3 e)
  ·omega
 have FQ:Fits n T Q L->bQ=mP:=fun hf=>by
  by_cases e:bQ < mP
  ·exact absurd (fun p hp=>⟨hf.2.2.2.1 bQ p hp,fun j q hj hq h=>hf.2.2.2.2.1 bQ j p q hj hp hq h⟩) (bQ3 e)
  ·omega
 have FL:Fits n T Q L->bL=mL:=fun hf=>by
  by_cases e:bL < mL
  ·exact absurd (fun p hp=>⟨hf.2.2.2.2.2.1 bL p hp,fun j q hj hq h=>hf.2.2.2.2.2.2 bL j p q hj hp hq h⟩) (bL3 e)
  ·omega
 have FF:bT=mT->bQ=mP->bL=mL->Fits n T Q L:=fun a b c=>by
  refine ⟨by omega,by omega,fun i p hp=>?_,fun i p hp=>?_,fun i k p q hk hp hq=>?_,fun i p hp=>?_,fun i k p q hk hp hq=>?_⟩
  ·exact okT' i p (by have:=(List.getElem?_eq_some_iff.1 hp).1;omega) hp
  ·exact (okQ' i p (by have:=(List.getElem?_eq_some_iff.1 hp).1;omega) hp).1
  ·exact (okQ' i p (by have:=(List.getElem?_eq_some_iff.1 hp).1;omega) hp).2 k q hk hq
  ·exact (okL' i p (by have:=(List.getElem?_eq_some_iff.1 hp).1;omega) hp).1
  ·exact (okL' i p (by have:=(List.getElem?_eq_some_iff.1 hp).1;omega) hp).2 k q hk hq
 have hd:decide (1<=(mT:Int)/\(mT:Int)<=6)=true:=by simp;omega
 have S1:∀ (cs:Array Value) (vs:Value) (w1:World),Fr (fun k=>k=x) (w.alloc (.cells #[.int .i64 n,.slice aT mT cT,.slice aP mP cP,.slice aL mL cL] 32)) w1->(∀ k,vs.ownBlock=some k->(w.alloc (.cells #[.int .i64 n,.slice aT mT cT,.slice aP mP cP,.slice aL mL cL] 32)).heap.size<=k)->Stage w (.cells #[.int .i64 n,.slice aT mT cT,.slice aP mP cP,.slice aL mL cL] 32) x (.slice none 0 0) (fun _=>.slice none 0 0) vs w1:=fun cs vs w1 hf hv=>⟨hf,fun k hk=>by
  rcases hk with e | e | ⟨r,_,e⟩ | e
  ·exact .inl e
  ·simp [Value.ownBlock] at e
  ·simp [Value.ownBlock] at e
  ·have:=hv k e;simp at this;exact .inr this⟩
 have HO:=hid O
 have HET:=hid ET
 have HEP:=hid EP
 have HEL:=hid EL
 have HF:=hid (And.intro FT (And.intro FQ (And.intro FL FF)))
 have HS1:=hid S1
 have HE:=hid (And.intro eT (And.intro eP eL))
 clear O ET EP EL FT FQ FL FF S1 hb iT iP iL xT xP xL okT' badT okQ' badQ okL' badL bT2 bT3 bQ2 bQ3 bL2 bL3 hlb eT eP eL
 by_cases hT:bT < mT
 ·have hnf:Hid (¬ Fits n T Q L):=fun hf=>by have:=HF.out.1 hf;omega
  go_enter Tryz.func121,Tryz.ntmps121
  go_wp2_with (first
   | (go_at_call 150;refine HO.out.mono ?_;rintro e w1 ⟨rfl,cs1,vs1,M1,F1,V1⟩;have st1:=HS1.out cs1 vs1 w1 F1 V1;have b1:=st1.box lx;have c11:w1.cell? ⟨w.heap.size,1,none⟩=some (.slice aT mT cT):=(cell_of_row w1 _ 1 _ _ _ b1).trans rfl;replace M1:=hid M1;replace st1:=hid st1;clear F1 V1 b1)
   | (go_at_call 132;refine (between_dec _ _ _ _).mono ?_;rintro e w2 ⟨rfl,rfl⟩;rw [hd])
   | (go_at_call 152;refine (HET.out cs1 _ _ vs1 _ M1.out st1.out).mono ?_;rintro e w2 hD;rcases hD with ⟨h,_⟩ | ⟨_,s,rfl,F2⟩;(exfalso;omega);replace F2:=hid (st1.out.next F2 (fun _ h=>.inl h))))
  go_ret
  exact .inr ⟨hnf.out,s,rfl,((Fr.refl _ w).alloc _).trans F2.out.fr⟩
 ·by_cases hQ:bQ < mP
  ·have hnf:Hid (¬ Fits n T Q L):=fun hf=>by have:=HF.out.2.1 hf;omega
   go_enter Tryz.func121,Tryz.ntmps121
   go_wp2_with (first
    | (go_at_call 150;refine HO.out.mono ?_;rintro e w1 ⟨rfl,cs1,vs1,M1,F1,V1⟩;have st1:=HS1.out cs1 vs1 w1 F1 V1;have b1:=st1.box lx;have c11:w1.cell? ⟨w.heap.size,1,none⟩=some (.slice aT mT cT):=(cell_of_row w1 _ 1 _ _ _ b1).trans rfl;replace M1:=hid M1;replace st1:=hid st1;clear F1 V1 b1)
    | (go_at_call 132;refine (between_dec _ _ _ _).mono ?_;rintro e w2 ⟨rfl,rfl⟩;rw [hd])
    | (go_at_call 152;refine (HET.out cs1 _ _ vs1 _ M1.out st1.out).mono ?_;rintro e w2 hD;rcases hD with ⟨_,rfl,cs2,ln2,vt2,rv2,M2,L2,F2,O2⟩ | ⟨h,_⟩;rotate_left;(exfalso;omega);have st2:=st1.out.next F2 O2;have b2:=st2.box lx;have c22:w2.cell? ⟨w.heap.size,2,none⟩=some (.slice aP mP cP):=(cell_of_row w2 _ 2 _ _ _ b2).trans rfl;replace M2:=hid M2;replace st2:=hid st2;replace L2:=hid L2;clear F2 O2 b2)
    | (go_at_call 154;refine (HEP.out ln2 cs2 vt2 rv2 vs1 _ M2.out st2.out).mono ?_;rintro e w3 hD;rcases hD with ⟨h,_⟩ | ⟨_,s,rfl,F3⟩;(exfalso;omega);replace F3:=hid (st2.out.next F3 (fun _ h=>.inl h))))
   go_ret
   exact .inr ⟨hnf.out,s,rfl,((Fr.refl _ w).alloc _).trans F3.out.fr⟩
  ·by_cases hL:bL < mL
   ·have hnf:Hid (¬ Fits n T Q L):=fun hf=>by have:=HF.out.2.2.1 hf;omega
    go_enter Tryz.func121,Tryz.ntmps121
    go_wp2_with (first
     | (go_at_call 150;refine HO.out.mono ?_;rintro e w1 ⟨rfl,cs1,vs1,M1,F1,V1⟩;have st1:=HS1.out cs1 vs1 w1 F1 V1;have b1:=st1.box lx;have c11:w1.cell? ⟨w.heap.size,1,none⟩=some (.slice aT mT cT):=(cell_of_row w1 _ 1 _ _ _ b1).trans rfl;replace M1:=hid M1;replace st1:=hid st1;clear F1 V1 b1)
     | (go_at_call 132;refine (between_dec _ _ _ _).mono ?_;rintro e w2 ⟨rfl,rfl⟩;rw [hd])
     | (go_at_call 152;refine (HET.out cs1 _ _ vs1 _ M1.out st1.out).mono ?_;rintro e w2 hD;rcases hD with ⟨_,rfl,cs2,ln2,vt2,rv2,M2,L2,F2,O2⟩ | ⟨h,_⟩;rotate_left;(exfalso;omega);have st2:=st1.out.next F2 O2;have b2:=st2.box lx;have c22:w2.cell? ⟨w.heap.size,2,none⟩=some (.slice aP mP cP):=(cell_of_row w2 _ 2 _ _ _ b2).trans rfl;replace M2:=hid M2;replace st2:=hid st2;replace L2:=hid L2;clear F2 O2 b2)
     | (go_at_call 154;refine (HEP.out ln2 cs2 vt2 rv2 vs1 _ M2.out st2.out).mono ?_;rintro e w3 hD;rcases hD with ⟨_,rfl,M3,F3⟩ | ⟨h,_⟩;rotate_left;(exfalso;omega);have st3:=st2.out.next F3 (fun _ h=>.inl h);have b3:=st3.box lx;have c33:w3.cell? ⟨w.heap.size,3,none⟩=some (.slice aL mL cL):=(cell_of_row w3 _ 3 _ _ _ b3).trans rfl;replace M3:=hid M3;replace st3:=hid st3;clear F3 b3)
     | (go_at_call 156;refine (HEL.out ln2 cs2 vt2 rv2 vs1 _ M3.out st3.out).mono ?_;rintro e w4 hD;rcases hD with ⟨h,_⟩ | ⟨_,s,rfl,F4⟩;(exfalso;omega);replace F4:=hid (st3.out.next F4 (fun _ h=>.inl h))))
    go_ret
    exact .inr ⟨hnf.out,s,rfl,((Fr.refl _ w).alloc _).trans F4.out.fr⟩
   ·have hf:Hid (Fits n T Q L):=HF.out.2.2.2 (by omega) (by omega) (by omega)
    go_enter Tryz.func121,Tryz.ntmps121
    go_wp2_with (first
     | (go_at_call 150;refine HO.out.mono ?_;rintro e w1 ⟨rfl,cs1,vs1,M1,F1,V1⟩;have st1:=HS1.out cs1 vs1 w1 F1 V1;have b1:=st1.box lx;have c11:w1.cell? ⟨w.heap.size,1,none⟩=some (.slice aT mT cT):=(cell_of_row w1 _ 1 _ _ _ b1).trans rfl;replace M1:=hid M1;replace st1:=hid st1;clear F1 V1 b1)
     | (go_at_call 132;refine (between_dec _ _ _ _).mono ?_;rintro e w2 ⟨rfl,rfl⟩;rw [hd])
     | (go_at_call 152;refine (HET.out cs1 _ _ vs1 _ M1.out st1.out).mono ?_;rintro e w2 hD;rcases hD with ⟨_,rfl,cs2,ln2,vt2,rv2,M2,L2,F2,O2⟩ | ⟨h,_⟩;rotate_left;(exfalso;omega);have st2:=st1.out.next F2 O2;have b2:=st2.box lx;have c22:w2.cell? ⟨w.heap.size,2,none⟩=some (.slice aP mP cP):=(cell_of_row w2 _ 2 _ _ _ b2).trans rfl;replace M2:=hid M2;replace st2:=hid st2;replace L2:=hid L2;clear F2 O2 b2)
     | (go_at_call 154;refine (HEP.out ln2 cs2 vt2 rv2 vs1 _ M2.out st2.out).mono ?_;rintro e w3 hD;rcases hD with ⟨_,rfl,M3,F3⟩ | ⟨h,_⟩;rotate_left;(exfalso;omega);have st3:=st2.out.next F3 (fun _ h=>.inl h);have b3:=st3.box lx;have c33:w3.cell? ⟨w.heap.size,3,none⟩=some (.slice aL mL cL):=(cell_of_row w3 _ 3 _ _ _ b3).trans rfl;replace M3:=hid M3;replace st3:=hid st3;clear F3 b3)
     | (go_at_call 156;refine (HEL.out ln2 cs2 vt2 rv2 vs1 _ M3.out st3.out).mono ?_;rintro e w4 hD;rcases hD with ⟨_,rfl,M4,F4⟩ | ⟨h,_⟩;rotate_left;(exfalso;omega);have st4:=hid (st3.out.next F4 (fun _ h=>.inl h));replace M4:=hid M4;clear F4))
    go_ret
    exact .inl ⟨hf.out,rfl,cs2,ln2,vt2,rv2,vs1,M4.out,L2.out,st4.out⟩
open Go.RowKit
abbrev nilS:Value:=.slice none 0 0
theorem mNew_yes (n:Nat) (aT aP aL:Option Addr) (mT mP mL cT cP cL:Nat) (T:List (Int×Int)) (Q L:List (Int×Int×Int×Int)) (w:World) (iT:Inl w 2 (.slice aT mT cT) (T.map tRow)) (iP:Inl w 4 (.slice aP mP cP) (Q.map qRow)) (iL:Inl w 4 (.slice aL mL cL) (L.map qRow))
  (eT:T.length=mT) (eP:Q.length=mP) (eL:L.length=mL) (hf:Fits n T Q L) :
  Calls Tryz.prog 77 #[.agg #[.int .i64 n,.slice aT mT cT,.slice aP mP cP,.slice aL mL cL]] w fun e w'=>∃ (x:Nat) (ln:Nat->List Nat) (vt:Value) (rv:Nat->Value) (vs:Value),e=.returned (.tuple #[.agg (mcells 0 vt (rv 0) (rv 1) (rv 2) (rv 3) vs),.nilIface])/\MAt w' x 109 (mcells 0 vt (rv 0) (rv 1) (rv 2) (rv 3) vs) c00 (born 0 T) n Q L ln vt rv vs/\Lined (born 0 T) T.length ln/\Below w.heap.size w w'/\∀ k,MOwn x vt rv vs k->w.heap.size<=k:=by
 obtain ⟨⟨s1,s3⟩,⟨t1,t6⟩,hf'⟩:=id hf
 have B:=build_any (w.heap.size+1+1) n aT aP aL mT mP mL cT cP cL T Q L (((w.alloc (.cells #[.int .i64 n,.slice aT mT cT,.slice aP mP cP,.slice aL mL cL] 32)).alloc (.cells (mcells 0 nilS nilS nilS nilS nilS nilS) 109)).alloc (.cells (mcells 0 nilS nilS nilS nilS nilS nilS) 109))
  (((iT.alloc (by omega) _).alloc (by omega) _).alloc (by omega) _) (((iP.alloc (by omega) _).alloc (by omega) _).alloc (by omega) _) (((iL.alloc (by omega) _).alloc (by omega) _).alloc (by omega) _) (by simp) eT eP eL
  (fun k hk=>by have:=iT.inlt (by omega) hk;omega) (fun k hk=>by have:=iP.inlt (by omega) hk;omega) (fun k hk=>by have:=iL.inlt (by omega) hk;omega)
  (by have:=heap_alloc_new ((w.alloc (.cells #[.int .i64 n,.slice aT mT cT,.slice aP mP cP,.slice aL mL cL] 32)).alloc (.cells (mcells 0 nilS nilS nilS nilS nilS nilS) 109)) (.cells (mcells 0 nilS nilS nilS nilS nilS nilS) 109);simpa using this) (by omega) (by omega) (by omega) (by omega)
 have HB:=hid (And.intro B hf)
 clear B hf hf' iT iP iL eT eP eL
 go_enter Tryz.func77,Tryz.ntmps77
 go_wp2_with fail
 refine HB.out.1.mono ?_
 rintro e w4 hD
 rcases hD with ⟨_,rfl,cs,ln,vt,rv,vs,M,Ln,St⟩ | ⟨h,_⟩
 rotate_left
 ·exact absurd HB.out.2 h
 obtain ⟨a1,n1,c1,e1⟩:∃ a n c,vt=.slice a n c:=by obtain ⟨a,c,h⟩:=M.th.slice;exact ⟨_,_,_,h⟩
 obtain ⟨b0,k0,d0,e20⟩:∃ a n c,rv 0=.slice a n c:=by obtain ⟨a,c,h⟩:=(M.li 0 (by omega)).slice;exact ⟨_,_,_,h⟩
 obtain ⟨b1,k1,d1,e21⟩:∃ a n c,rv 1=.slice a n c:=by obtain ⟨a,c,h⟩:=(M.li 1 (by omega)).slice;exact ⟨_,_,_,h⟩
 obtain ⟨b2,k2,d2,e22⟩:∃ a n c,rv 2=.slice a n c:=by obtain ⟨a,c,h⟩:=(M.li 2 (by omega)).slice;exact ⟨_,_,_,h⟩
 obtain ⟨b3,k3,d3,e23⟩:∃ a n c,rv 3=.slice a n c:=by obtain ⟨a,c,h⟩:=(M.li 3 (by omega)).slice;exact ⟨_,_,_,h⟩
 obtain ⟨a6,n6,c6,e6⟩:∃ a n c,vs=.slice a n c:=by obtain ⟨a,c,h⟩:=M.sp.slice;exact ⟨_,_,_,h⟩
 have ecs:=M.cs_eq
 subst ecs
 have em:mcells 0 vt (rv 0) (rv 1) (rv 2) (rv 3) vs=#[.int .u64 0,.slice a1 n1 c1,.slice b0 k0 d0,.slice b1 k1 d1,.slice b2 k2 d2,.slice b3 k3 d3,.slice a6 n6 c6,.int .i64 0,.int .i64 0,.int .i64 0,.int .i64 0,.int .i64 0,.int .i64 0,.int .i64 0,.int .i64 0,.int .i64 0,.int .i64 0,.int .i64 0,.int .i64 0,.int .i64 0,.int .i64 0,.int .i64 0,.int .i64 0,.int .i64 0,.int .i64 0,.int .i64 0,.int .i64 0,.int .i64 0,.int .i64 0,.int .i64 0,.int .i64 0,.int .i64 0,.int .i64 0,.int .i64 0,.int .i64 0,.int .i64 0,.int .i64 0,.int .i64 0,.int .i64 0]:=by rw [e1,e20,e21,e22,e23,e6];rfl
 have hblk:=M.blk
 rw [em] at hblk
 have R:w4.rangeAt (w.heap.size+1+1) 0 [.int .u64 0,.slice a1 n1 c1,.slice b0 k0 d0,.slice b1 k1 d1,.slice b2 k2 d2,.slice b3 k3 d3,.slice a6 n6 c6,.int .i64 0,.int .i64 0,.int .i64 0,.int .i64 0,.int .i64 0,.int .i64 0,.int .i64 0,.int .i64 0,.int .i64 0,.int .i64 0,.int .i64 0,.int .i64 0,.int .i64 0,.int .i64 0,.int .i64 0,.int .i64 0,.int .i64 0,.int .i64 0,.int .i64 0,.int .i64 0,.int .i64 0,.int .i64 0,.int .i64 0,.int .i64 0,.int .i64 0,.int .i64 0,.int .i64 0,.int .i64 0,.int .i64 0,.int .i64 0,.int .i64 0,.int .i64 0]:=fun j v hv=>by
  rw [cell_of_row w4 _ (0+j) _ _ _ hblk,Nat.zero_add,List.getElem?_toArray];exact hv
 have hres:w4.heap[w.heap.size+1]? = some (.cells (mcells 0 nilS nilS nilS nilS nilS nilS) 109 (0,0)):=by
  rw [St.fr.block _ (by simp) (by omega),Below.heap_alloc _ _ _ (by simp),Below.heap_alloc _ _ _ (by simp)]
  have:=heap_alloc_new (w.alloc (.cells #[.int .i64 n,.slice aT mT cT,.slice aP mP cP,.slice aL mL cL] 32)) (.cells (mcells 0 nilS nilS nilS nilS nilS nilS) 109)
  simpa using this
 have HH:=hid (And.intro M (And.intro Ln (And.intro St (And.intro em (And.intro R (And.intro hres hblk))))))
 clear M Ln St e1 e20 e21 e22 e23 e6 em hblk R hres
 go_wp2_with (first
  | (with_reducible (show wpList _ _ _ (⟨_,.load 109 _,_,_,_,none⟩ :: _) _ _);go_must (refine wpList_load_mid rfl 109 _ rfl (w.heap.size+1+1) 0 rfl _ _ HH.out.2.2.2.2.1 Tryz.underlying109 rfl (by kernel_rfl) ?_))
  | (with_reducible (show wpList _ _ _ (⟨_,.store 109 _ _,_,_,_,none⟩ :: _) _ _);go_must (refine wpList_store_row rfl 109 _ _ rfl (w.heap.size+1) #[.int .u64 0,.slice a1 n1 c1,.slice b0 k0 d0,.slice b1 k1 d1,.slice b2 k2 d2,.slice b3 k3 d3,.slice a6 n6 c6,.int .i64 0,.int .i64 0,.int .i64 0,.int .i64 0,.int .i64 0,.int .i64 0,.int .i64 0,.int .i64 0,.int .i64 0,.int .i64 0,.int .i64 0,.int .i64 0,.int .i64 0,.int .i64 0,.int .i64 0,.int .i64 0,.int .i64 0,.int .i64 0,.int .i64 0,.int .i64 0,.int .i64 0,.int .i64 0,.int .i64 0,.int .i64 0,.int .i64 0,.int .i64 0,.int .i64 0,.int .i64 0,.int .i64 0,.int .i64 0,.int .i64 0,.int .i64 0] (by simp [Act.eval,Act.put]) rfl 109 _ HH.out.2.2.2.2.2.1 (by kernel_rfl) rfl ?_ ?_);(simp [Value.oneCell'])))
 have St:=HH.out.2.2.1
 have hg:=setRow_heap w4 (w.heap.size+1) _ #[.int .u64 0,.slice a1 n1 c1,.slice b0 k0 d0,.slice b1 k1 d1,.slice b2 k2 d2,.slice b3 k3 d3,.slice a6 n6 c6,.int .i64 0,.int .i64 0,.int .i64 0,.int .i64 0,.int .i64 0,.int .i64 0,.int .i64 0,.int .i64 0,.int .i64 0,.int .i64 0,.int .i64 0,.int .i64 0,.int .i64 0,.int .i64 0,.int .i64 0,.int .i64 0,.int .i64 0,.int .i64 0,.int .i64 0,.int .i64 0,.int .i64 0,.int .i64 0,.int .i64 0,.int .i64 0,.int .i64 0,.int .i64 0,.int .i64 0,.int .i64 0,.int .i64 0,.int .i64 0,.int .i64 0,.int .i64 0] 109 (0,0) HH.out.2.2.2.2.2.1
 have F:Fr (fun k=>k=w.heap.size+1) w4 (w4.setRow (w.heap.size+1) #[.int .u64 0,.slice a1 n1 c1,.slice b0 k0 d0,.slice b1 k1 d1,.slice b2 k2 d2,.slice b3 k3 d3,.slice a6 n6 c6,.int .i64 0,.int .i64 0,.int .i64 0,.int .i64 0,.int .i64 0,.int .i64 0,.int .i64 0,.int .i64 0,.int .i64 0,.int .i64 0,.int .i64 0,.int .i64 0,.int .i64 0,.int .i64 0,.int .i64 0,.int .i64 0,.int .i64 0,.int .i64 0,.int .i64 0,.int .i64 0,.int .i64 0,.int .i64 0,.int .i64 0,.int .i64 0,.int .i64 0,.int .i64 0,.int .i64 0,.int .i64 0,.int .i64 0,.int .i64 0,.int .i64 0,.int .i64 0]):=(Fr.refl (fun k=>k=w.heap.size+1) w4).setRow (fun _=>rfl) _
 have hmo:∀ k,MOwn (w.heap.size+1+1) vt rv vs k->w.heap.size+2<=k:=fun k hk=>by
  rcases St.own k hk with e | e
  ·omega
  ·simp at e;omega
 refine bodyPost_ret (results_row_tmp Tryz.results77 _ _ (w.heap.size+1) 109 _ (0,0) _ _ rfl hg Tryz.underlying109 rfl (by kernel_rfl) rfl) rfl ⟨w.heap.size+1+1,ln,vt,rv,vs,by rw [HH.out.2.2.2.1];rfl,HH.out.1.kept F (fun k hk e=>by have:=hmo k hk;omega),HH.out.2.1,?_,fun k hk=>by have:=hmo k hk;omega⟩
 have F0:Below w.heap.size w (((w.alloc (.cells #[.int .i64 n,.slice aT mT cT,.slice aP mP cP,.slice aL mL cL] 32)).alloc (.cells (mcells 0 nilS nilS nilS nilS nilS nilS) 109)).alloc (.cells (mcells 0 nilS nilS nilS nilS nilS nilS) 109)):=
  (((Below.refl _ w).alloc (Nat.le_refl _) _).alloc (by simp) _).alloc (by simp;omega) _
 have F1:=(Fr.refl (fun k=>k=w.heap.size+1+1) _).alloc _ |>.trans St.fr
 refine F0.trans ((F1.to_below (by simp;omega) (fun k e=>by omega)).trans (F.to_below ?_ (fun k e=>by omega)))
 have:=F1.size
 simp at this
 omega
end Go.Proofs.YteejjgbeknnmeaaGreatDoor
