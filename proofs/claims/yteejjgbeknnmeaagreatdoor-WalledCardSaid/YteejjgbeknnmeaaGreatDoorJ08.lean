import Derived.Test.YteejjgbeknnmeaaGreatDoorJ07
import Derived.Test.YteejjgbeknnmeaaGreatDoorJ06
import Derived.Test.YteejjgbeknnmeaaGreatDoorJ09
set_option maxRecDepth 100000
set_option maxHeartbeats 20000000
namespace Go.Proofs.YteejjgbeknnmeaaGreatDoor
open Go.RowKit
theorem does_sp {n:Nat}{c:Ac}{K:RM}:(doesM n c K).sp=K.sp:=by
 refine does_keeps (P:=fun G=>G.sp=K.sp) ?_ ?_ (fun p q v=>?_) (fun p b=>?_) (fun a b r=>?_) (fun a=>?_) (fun m=>?_)
 ·exact ((same_clo K.ticked).tick (b:=0) (K:=K) (Same.refl _)).sp
 ·exact ((same_clo K).yield (b:=0) (Same.refl K)).sp
 ·unfold RM.stored;split <;> rfl
 ·unfold RM.unmap;split
  ·rfl
  ·split
   ·split <;> rfl
   ·rfl
 ·unfold RM.derive;split
  ·rfl
  ·split
   ·split
    ·split <;> rfl
    ·rfl
   ·rfl
 ·unfold RM.drop;split
  ·rfl
  ·split
   ·split <;> rfl
   ·rfl
 ·exact ((same_clo K).ipc (b:=0) m (Same.refl K)).sp
theorem does_len {n:Nat}{c:Ac}{K:RM}:(doesM n c K).threads.length=K.threads.length:=by
 refine does_keeps (P:=fun G=>G.threads.length=K.threads.length) ?_ ?_ (fun p q v=>?_) (fun p b=>?_) (fun a b r=>?_) (fun a=>?_) (fun m=>?_)
 ·exact ((same_clo K.ticked).tick (b:=0) (K:=K) (Same.refl _)).len
 ·exact ((same_clo K).yield (b:=0) (Same.refl K)).len
 ·unfold RM.stored;split <;> rfl
 ·unfold RM.unmap;split
  ·rfl
  ·split
   ·split <;> rfl
   ·rfl
 ·unfold RM.derive;split
  ·rfl
  ·split
   ·split
    ·split <;> rfl
    ·rfl
   ·rfl
 ·unfold RM.drop;split
  ·rfl
  ·split
   ·split <;> rfl
   ·rfl
 ·exact ((same_clo K).ipc (b:=0) m (Same.refl K)).len
theorem unmap_same {K:RM}{pg:Int}{own:Bool}:(K.unmap pg own).2.threads=K.threads/\(K.unmap pg own).2.sp=K.sp:=by
 unfold RM.unmap
 split
 ·exact ⟨rfl,rfl⟩
 ·split
  ·split <;> exact ⟨rfl,rfl⟩
  ·exact ⟨rfl,rfl⟩
theorem AcOk.below {w w':World}{c:Ac}{s:Sv}(h:AcOk w c s) (hb:Below w.heap.size w w'):AcOk w' c s:=⟨h.b0,h.b1,h.b2,h.b3,h.b4,h.b5,h.wd.below (by omega) hb,h.ln,h.cp⟩
structure KA (Rep:World->Nat->(Nat->Prop)->RM->Prop) (WB w:World) (x:Nat) (T:List (Int×Int)) (Q L:List (Int×Int×Int×Int)) (K:RM) (n:Nat):Prop where
 ks:∃ S,KS Rep WB w x S K n
 bd:Bd T Q L K
 rv:Rv L K.leaves
 sp:K.sp=3
 ln:K.threads.length=T.length
section
variable {Rep:World->Nat->(Nat->Prop)->RM->Prop}(A:ApM Rep){WB w w':World}{x n:Nat}{T:List (Int×Int)}{Q L:List (Int×Int×Int×Int)}{K:RM}
theorem KA.bel (h:KA Rep WB w x T Q L K n):Below WB.heap.size WB w:=by obtain ⟨S,h⟩:=h.ks;exact h.bel
include A in
theorem KA.below (h:KA Rep WB w x T Q L K n) (hb:Below w.heap.size w w'):KA Rep WB w' x T Q L K n:=by
 obtain ⟨S,hs⟩:=h.ks
 exact ⟨⟨S,hs.below A hb⟩,h.bd,h.rv,h.sp,h.ln⟩
theorem ka_new {S:Nat->Prop}(h:KS Rep WB w x S (RK.new 3 T Q L).up 0) (hf:Fits 3 T Q L):KA Rep WB w x T Q L (RK.new 3 T Q L).up 0:=
 ⟨⟨S,h⟩,bd_new hf,rv_new,rfl,by simp [RK.up,RK.new,born_length]⟩
include A in
theorem ka_does (h:KA Rep WB w x T Q L K n) (hn:n<=1000000000000000) (c:Ac) (s:Sv) (ha:AcOk WB c s) (M:Nat) (hM:M<=6) :
  Calls Tryz.prog 27 #[.pointer (some ⟨x,0,none⟩),.agg (acA c s),.int .i64 M] w fun e w'=>e=.returned (.tuple #[])/\KA Rep WB w' x T Q L (doesM M c K) (n+1):=by
 obtain ⟨S,hs⟩:=h.ks
 exact (does_any A hs hn c s ha M hM).mono (by rintro e w' ⟨rfl,S',k,_⟩;exact ⟨rfl,⟨S',k⟩,h.bd.does _ _,rv_does h.rv _ _,by rw [does_sp];exact h.sp,by rw [does_len];exact h.ln⟩)
end
open Go.RowKit
theorem two_boxes (w:World) (o o1:Obj):((w.alloc o).alloc o1).heap[w.heap.size]? = some o/\((w.alloc o).alloc o1).heap[w.heap.size+1]? = some o1/\Below w.heap.size w ((w.alloc o).alloc o1)/\((w.alloc o).alloc o1).heap.size=w.heap.size+1+1:=by
 refine ⟨al2 w o o1,?_,((Below.refl _ w).alloc (Nat.le_refl _) _).alloc (by simp) _,by simp⟩
 have:=heap_alloc_new (w.alloc o) o1
 rwa [size_alloc] at this
theorem sameThread_eq (st code who got:Int) (ws:List Int) (a a':Option Addr) (m c c':Nat) (w:World) (hm:m<=4) (lw:ws.length=m) (i1:Inl w 1 (.slice a m c) (ws.map lnI)) (i2:Inl w 1 (.slice a' m c') (ws.map lnI)) :
  Calls Tryz.prog 55 #[.agg (c5 st code who a m c got),.agg (c5 st code who a' m c' got)] w fun e w'=>e=.returned (.bool true)/\Below w.heap.size w w':=by
 obtain ⟨hx,hy,hb,hz⟩:=two_boxes w (.cells (c5 st code who a m c got) 50) (.cells (c5 st code who a' m c' got) 50)
 obtain ⟨W1,hW1⟩:∃ W1,(w.alloc (.cells (c5 st code who a m c got) 50)).alloc (.cells (c5 st code who a' m c' got) 50)=W1:=⟨_,rfl⟩
 rw [hW1] at hx hy hb hz
 have HX:=hid (And.intro hx (And.intro hy (And.intro hb hz)))
 have HI:=hid (And.intro (i1.below (by omega) hb) (And.intro (i2.below (by omega) hb) lw))
 have HW1:=hid hW1
 clear hx hy hb hz i1 i2 lw hW1
 go_enter Tryz.func55,Tryz.ntmps55
 go_upto_region 1 with fail
 rw [HW1.out]
 have lz:=HX.out.2.2.2
 have u0:=(cell_of_row W1 _ 0 _ _ _ HX.out.1).trans (show _=some (Value.int .i64 st) from rfl)
 have u1:=(cell_of_row W1 _ 1 _ _ _ HX.out.1).trans (show _=some (Value.int .i64 code) from rfl)
 have u2:=(cell_of_row W1 _ 2 _ _ _ HX.out.1).trans (show _=some (Value.int .i64 who) from rfl)
 have u3:=(cell_of_row W1 _ 3 _ _ _ HX.out.1).trans (show _=some (Value.slice a m c) from rfl)
 have u4:=(cell_of_row W1 _ 4 _ _ _ HX.out.1).trans (show _=some (Value.int .i64 got) from rfl)
 have v0:=(cell_of_row W1 _ 0 _ _ _ HX.out.2.1).trans (show _=some (Value.int .i64 st) from rfl)
 have v1:=(cell_of_row W1 _ 1 _ _ _ HX.out.2.1).trans (show _=some (Value.int .i64 code) from rfl)
 have v2:=(cell_of_row W1 _ 2 _ _ _ HX.out.2.1).trans (show _=some (Value.int .i64 who) from rfl)
 have v3:=(cell_of_row W1 _ 3 _ _ _ HX.out.2.1).trans (show _=some (Value.slice a' m c') from rfl)
 have v4:=(cell_of_row W1 _ 4 _ _ _ HX.out.2.1).trans (show _=some (Value.int .i64 got) from rfl)
 go_upto_block 0 with fail
 go_wp2_with fail
 clear u0 u1 u2 u3 u4 v0 v1 v2 v3 v4
 go_loopw [5] (fun i wr=>∃ k:Nat,k<=m/\i=.int .i64 k/\Hid (Below W1.heap.size W1 wr)) (fun i _=>m-(intOf i).toNat)
 case atStart=>exact ⟨0,Nat.zero_le _,rfl,Below.refl _ _⟩
 case round=>
  obtain ⟨k,hk,rfl,HD⟩:=hrel
  have u3:=(plan_cell HD.out HX.out.1 (by omega) 3).trans (show _=some (Value.slice a m c) from rfl)
  have v3:=(plan_cell HD.out HX.out.2.1 (by omega) 3).trans (show _=some (Value.slice a' m c') from rfl)
  have lu:=block_lt_of_cell u3
  have lv:=block_lt_of_cell v3
  by_cases hkm:k < m
  ·have hkm':(k:Int) < (m:Int):=by omega
   obtain ⟨z,hz⟩:∃ z,ws[k]? = some z:=⟨_,List.getElem?_eq_getElem (by have:=HI.out.2.2;omega)⟩
   obtain ⟨b1,o1,ea,cw1⟩:=word_at (HI.out.1.below (by omega) HD.out) hz
   subst ea
   obtain ⟨b2,o2,ea,cw2⟩:=word_at (HI.out.2.1.below (by omega) HD.out) hz
   subst ea
   have lb1:=block_lt_of_cell cw1
   have lb2:=block_lt_of_cell cw2
   have HN:=hid HD.out
   clear hz HD
   go_wp2_with fail
   go_quiet (fail)
   go_wp2_with fail
   first
    | exact ⟨⟨k+1,by omega,by go_num,(by first | exact HN.out | exact HN.out.drew | exact below_drewN HN.out _ | exact below_drewN (below_drewN HN.out _) _)⟩,by simp [intOf];omega⟩
    | (
     go_roundw
     case rel=>first | exact ⟨k+1,by omega,by go_num,(by first | exact HN.out | exact HN.out.drew | exact below_drewN HN.out _ | exact below_drewN (below_drewN HN.out _) _)⟩ | ((repeat apply Exists.intro);exact ⟨⟨k+1,by omega,by go_num,(by first | exact HN.out | exact HN.out.drew | exact below_drewN HN.out _ | exact below_drewN (below_drewN HN.out _) _)⟩,rfl⟩)
     case measure=>simp [intOf];omega)
  ·obtain rfl:k=m:=by omega
   have HN:=hid HD.out
   clear hkm HD
   go_wp2_with fail
   go_ret
   exact ⟨rfl,HX.out.2.2.1.trans (HN.out.mono HX.out.2.2.1.size)⟩
theorem sameSpace_eq (P L:List (Int×Int×Int×Int)) (a1 a2 b1 b2:Option Addr) (m1 m2 c1 c2 d1 d2:Nat) (w:World) (h1:m1<=6) (h2:m2<=6) (l1:P.length=m1) (l2:L.length=m2) (i1:Inl w 4 (.slice a1 m1 c1) (P.map qRow)) (i2:Inl w 4 (.slice a2 m2 c2) (L.map qRow)) (j1:Inl w 4 (.slice b1 m1 d1) (P.map qRow)) (j2:Inl w 4 (.slice b2 m2 d2) (L.map qRow)) :
  Calls Tryz.prog 54 #[.agg #[.slice a1 m1 c1,.slice a2 m2 c2],.agg #[.slice b1 m1 d1,.slice b2 m2 d2]] w fun e w'=>e=.returned (.bool true)/\Below w.heap.size w w':=by
 obtain ⟨hx,hy,hb,hz⟩:=two_boxes w (.cells #[.slice a1 m1 c1,.slice a2 m2 c2] 122) (.cells #[.slice b1 m1 d1,.slice b2 m2 d2] 122)
 obtain ⟨W1,hW1⟩:∃ W1,(w.alloc (.cells #[.slice a1 m1 c1,.slice a2 m2 c2] 122)).alloc (.cells #[.slice b1 m1 d1,.slice b2 m2 d2] 122)=W1:=⟨_,rfl⟩
 rw [hW1] at hx hy hb hz
 have HX:=hid (And.intro hx (And.intro hy (And.intro hb hz)))
 have HI:=hid (And.intro (i1.below (by omega) hb) (And.intro (i2.below (by omega) hb) (And.intro (j1.below (by omega) hb) (And.intro (j2.below (by omega) hb) (And.intro l1 l2)))))
 have HW1:=hid hW1
 clear hx hy hb hz i1 i2 j1 j2 l1 l2 hW1
 go_enter Tryz.func54,Tryz.ntmps54
 go_upto_region 1 with fail
 rw [HW1.out]
 have lz:=HX.out.2.2.2
 have u0:=(cell_of_row W1 _ 0 _ _ _ HX.out.1).trans (show _=some (Value.slice a1 m1 c1) from rfl)
 have u1:=(cell_of_row W1 _ 1 _ _ _ HX.out.1).trans (show _=some (Value.slice a2 m2 c2) from rfl)
 have v0:=(cell_of_row W1 _ 0 _ _ _ HX.out.2.1).trans (show _=some (Value.slice b1 m1 d1) from rfl)
 have v1:=(cell_of_row W1 _ 1 _ _ _ HX.out.2.1).trans (show _=some (Value.slice b2 m2 d2) from rfl)
 go_upto_block 0 with fail
 go_cut [5] from 27 to 62 (fun v wx=>Hid (Below W1.heap.size W1 wx))
 case first=>
  go_wp2_with fail
  clear u0 u1 v0 v1
  go_loopw [5] (fun i wr=>∃ k:Nat,k<=m1/\i=.int .i64 k/\Hid (Below W1.heap.size W1 wr)) (fun i _=>m1-(intOf i).toNat)
  case atStart=>exact ⟨0,Nat.zero_le _,rfl,Below.refl _ _⟩
  case round=>
   obtain ⟨k,hk,rfl,HD⟩:=hrel
   have u:=(plan_cell HD.out HX.out.1 (by omega) 0).trans (show _=some (Value.slice a1 m1 c1) from rfl)
   have v:=(plan_cell HD.out HX.out.2.1 (by omega) 0).trans (show _=some (Value.slice b1 m1 d1) from rfl)
   have lu:=block_lt_of_cell u
   have lv:=block_lt_of_cell v
   by_cases hkm:k < m1
   ·have hkm':(k:Int) < (m1:Int):=by omega
    obtain ⟨z,hz⟩:∃ z,P[k]? = some z:=⟨_,List.getElem?_eq_getElem (by have:=HI.out.2.2.2.2.1;omega)⟩
    obtain ⟨g1,o1,ea,r1⟩:=(HI.out.1.below (by omega) HD.out).row (k:=k) (r:=qRow z) (by rw [List.getElem?_map,hz];rfl)
    subst ea
    obtain ⟨g2,o2,ea,r2⟩:=(HI.out.2.2.1.below (by omega) HD.out).row (k:=k) (r:=qRow z) (by rw [List.getElem?_map,hz];rfl)
    subst ea
    have R1:=hid (show wr.rangeAt g1 (o1+k*4) [.int .i64 z.1,.int .i64 z.2.1,.int .i64 z.2.2.1,.int .i64 z.2.2.2] from r1)
    have R2:=hid (show wr.rangeAt g2 (o2+k*4) [.int .i64 z.1,.int .i64 z.2.1,.int .i64 z.2.2.1,.int .i64 z.2.2.2] from r2)
    have lg1:=block_lt_of_cell (r1 0 (.int .i64 z.1) rfl)
    have lg2:=block_lt_of_cell (r2 0 (.int .i64 z.1) rfl)
    obtain ⟨hx,hy,hb,hz'⟩:=two_boxes wr (.cells #[.int .i64 z.1,.int .i64 z.2.1,.int .i64 z.2.2.1,.int .i64 z.2.2.2] 55) (.cells #[.int .i64 z.1,.int .i64 z.2.1,.int .i64 z.2.2.1,.int .i64 z.2.2.2] 55)
    have HN:=hid (HD.out.trans (hb.mono HD.out.size))
    have R3:=hid (show (wr.alloc (.cells #[.int .i64 z.1,.int .i64 z.2.1,.int .i64 z.2.2.1,.int .i64 z.2.2.2] 55)).rangeAt g2 (o2+k*4) [.int .i64 z.1,.int .i64 z.2.1,.int .i64 z.2.2.1,.int .i64 z.2.2.2] from rangeAt_cells r2 (Below.heap_alloc _ _ _ lg2))
    clear hz HD hx hy hb hz' r1 r2
    go_wp2_with (first
     | (with_reducible (show wpList _ _ _ (⟨_,.load 55 (.tmp 37),_,_,_,none⟩ :: _) _ _);go_must (refine wpList_load_mid rfl 55 _ rfl g1 (o1+k*4) rfl _ _ R1.out Tryz.underlying55 rfl (by kernel_rfl) ?_))
     | (with_reducible (show wpList _ _ _ (⟨_,.load 55 (.tmp 42),_,_,_,none⟩ :: _) _ _);go_must (refine wpList_load_mid rfl 55 _ rfl g2 (o2+k*4) rfl _ _ R3.out Tryz.underlying55 rfl (by kernel_rfl) ?_)))
    first
     | exact ⟨⟨k+1,by omega,by go_num,(by first | exact HN.out | exact HN.out.drew | exact below_drewN HN.out _ | exact below_drewN (below_drewN HN.out _) _)⟩,by simp [intOf];omega⟩
     | (
      go_roundw
      case rel=>first | exact ⟨k+1,by omega,by go_num,(by first | exact HN.out | exact HN.out.drew | exact below_drewN HN.out _ | exact below_drewN (below_drewN HN.out _) _)⟩ | ((repeat apply Exists.intro);exact ⟨⟨k+1,by omega,by go_num,(by first | exact HN.out | exact HN.out.drew | exact below_drewN HN.out _ | exact below_drewN (below_drewN HN.out _) _)⟩,rfl⟩)
      case measure=>simp [intOf];omega)
   ·obtain rfl:k=m1:=by omega
    have HN:=hid HD.out
    clear hkm HD
    go_wp2_with fail
    go_meet
    exact HN.out
 case rest=>
  clear u0 u1 v0 v1
  have HD0:=hid hcut.out
  clear hcut
  go_upto_block 2 with fail
  go_wp2_with fail
  go_loopw [8] (fun i wr=>∃ k:Nat,k<=m2/\i=.int .i64 k/\Hid (Below W1.heap.size W1 wr)) (fun i _=>m2-(intOf i).toNat)
  case atStart=>exact ⟨0,Nat.zero_le _,rfl,HD0.out⟩
  case round=>
   clear HD0
   obtain ⟨k,hk,rfl,HD⟩:=hrel
   have u:=(plan_cell HD.out HX.out.1 (by omega) 1).trans (show _=some (Value.slice a2 m2 c2) from rfl)
   have v:=(plan_cell HD.out HX.out.2.1 (by omega) 1).trans (show _=some (Value.slice b2 m2 d2) from rfl)
   have lu:=block_lt_of_cell u
   have lv:=block_lt_of_cell v
   by_cases hkm:k < m2
   ·have hkm':(k:Int) < (m2:Int):=by omega
    obtain ⟨z,hz⟩:∃ z,L[k]? = some z:=⟨_,List.getElem?_eq_getElem (by have:=HI.out.2.2.2.2.2;omega)⟩
    obtain ⟨g1,o1,ea,r1⟩:=(HI.out.2.1.below (by omega) HD.out).row (k:=k) (r:=qRow z) (by rw [List.getElem?_map,hz];rfl)
    subst ea
    obtain ⟨g2,o2,ea,r2⟩:=(HI.out.2.2.2.1.below (by omega) HD.out).row (k:=k) (r:=qRow z) (by rw [List.getElem?_map,hz];rfl)
    subst ea
    have R1:=hid (show wr.rangeAt g1 (o1+k*4) [.int .i64 z.1,.int .i64 z.2.1,.int .i64 z.2.2.1,.int .i64 z.2.2.2] from r1)
    have R2:=hid (show wr.rangeAt g2 (o2+k*4) [.int .i64 z.1,.int .i64 z.2.1,.int .i64 z.2.2.1,.int .i64 z.2.2.2] from r2)
    have lg1:=block_lt_of_cell (r1 0 (.int .i64 z.1) rfl)
    have lg2:=block_lt_of_cell (r2 0 (.int .i64 z.1) rfl)
    obtain ⟨hx,hy,hb,hz'⟩:=two_boxes wr (.cells #[.int .i64 z.1,.int .i64 z.2.1,.int .i64 z.2.2.1,.int .i64 z.2.2.2] 67) (.cells #[.int .i64 z.1,.int .i64 z.2.1,.int .i64 z.2.2.1,.int .i64 z.2.2.2] 67)
    have HN:=hid (HD.out.trans (hb.mono HD.out.size))
    have R3:=hid (show (wr.alloc (.cells #[.int .i64 z.1,.int .i64 z.2.1,.int .i64 z.2.2.1,.int .i64 z.2.2.2] 67)).rangeAt g2 (o2+k*4) [.int .i64 z.1,.int .i64 z.2.1,.int .i64 z.2.2.1,.int .i64 z.2.2.2] from rangeAt_cells r2 (Below.heap_alloc _ _ _ lg2))
    clear hz HD hx hy hb hz' r1 r2
    go_wp2_with (first
     | (with_reducible (show wpList _ _ _ (⟨_,.load 67 (.tmp 73),_,_,_,none⟩ :: _) _ _);go_must (refine wpList_load_mid rfl 67 _ rfl g1 (o1+k*4) rfl _ _ R1.out Tryz.underlying67 rfl (by kernel_rfl) ?_))
     | (with_reducible (show wpList _ _ _ (⟨_,.load 67 (.tmp 78),_,_,_,none⟩ :: _) _ _);go_must (refine wpList_load_mid rfl 67 _ rfl g2 (o2+k*4) rfl _ _ R3.out Tryz.underlying67 rfl (by kernel_rfl) ?_)))
    first
     | exact ⟨⟨k+1,by omega,by go_num,(by first | exact HN.out | exact HN.out.drew | exact below_drewN HN.out _ | exact below_drewN (below_drewN HN.out _) _)⟩,by simp [intOf];omega⟩
     | (
      go_roundw
      case rel=>first | exact ⟨k+1,by omega,by go_num,(by first | exact HN.out | exact HN.out.drew | exact below_drewN HN.out _ | exact below_drewN (below_drewN HN.out _) _)⟩ | ((repeat apply Exists.intro);exact ⟨⟨k+1,by omega,by go_num,(by first | exact HN.out | exact HN.out.drew | exact below_drewN HN.out _ | exact below_drewN (below_drewN HN.out _) _)⟩,rfl⟩)
      case measure=>simp [intOf];omega)
   ·obtain rfl:k=m2:=by omega
    have HN:=hid HD.out
    clear hkm HD
    go_wp2_with fail
    go_ret
    exact ⟨rfl,HX.out.2.2.1.trans (HN.out.mono HX.out.2.2.1.size)⟩
section
variable {Rep:World->Nat->(Nat->Prop)->RM->Prop}(A:ApM Rep)
include A in
theorem memory_eq {WB w:World}{x y n:Nat}{S S2:Nat->Prop}{K K2:RM}(h:KS Rep WB w x S K n) (h2:KS Rep WB w y S2 K2 n) (he:∀ pg ce,K.load pg ce=K2.load pg ce) :
  Calls Tryz.prog 31 #[.pointer (some ⟨x,0,none⟩),.pointer (some ⟨y,0,none⟩)] w fun e w'=>e=.returned (.bool true)/\Below w.heap.size w w':=by
 have HK:=hid (And.intro h (And.intro h2 (Below.refl w.heap.size w)))
 have HE:=hid he
 clear h h2 he
 go_enter Tryz.func31,Tryz.ntmps31
 go_wp2_with fail
 go_loopw [5] (fun v wr=>∃ p:Nat,p<=6/\v=.int .i64 p/\Hid (KS Rep WB wr x S K n/\KS Rep WB wr y S2 K2 n/\Below w.heap.size w wr)) (fun v _=>6-(intOf v).toNat)
 case atStart=>exact ⟨0,Nat.zero_le _,rfl,HK.out⟩
 case round=>
  clear HK
  obtain ⟨p,hp,rfl,HD⟩:=hrel
  by_cases hp6:p < 6
  ·have hp6':(p:Int) < 6:=by omega
   have HD0:=hid HD.out
   clear HD
   go_wp2_with fail
   go_loopw [6] (fun v wr=>∃ c:Nat,c<=4/\v=.int .i64 c/\Hid (KS Rep WB wr x S K n/\KS Rep WB wr y S2 K2 n/\Below w.heap.size w wr)) (fun v _=>4-(intOf v).toNat)
   case atStart=>exact ⟨0,Nat.zero_le _,rfl,HD0.out⟩
   case round=>
    clear HD0
    obtain ⟨c,hc,rfl,HD⟩:=hrel
    by_cases hc4:c < 4
    ·have hc4':(c:Int) < 4:=by omega
     have C1:=hid (ks_load A HD.out.1 p c)
     rw [HE.out] at C1
     obtain ⟨r,hr⟩:∃ r,K2.load p c=r:=⟨_,rfl⟩
     have C2:=hid (fun w' (hb:Below wr.heap.size wr w')=>ks_load A (HD.out.2.1.below A hb) p c)
     rw [hr] at C1 C2
     have HD1:=hid HD.out
     clear HD hr
     go_wp2_with fail
     refine C1.out.mono ?_
     rintro e w1 ⟨rfl,b1,k1⟩
     have C3:=hid (C2.out w1 b1)
     have H1:=hid (And.intro b1 k1)
     clear b1 k1 C1 C2
     go_wp2_with fail
     refine C3.out.mono ?_
     rintro e w2 ⟨rfl,b2,k2⟩
     have HN:=hid (And.intro (H1.out.2.below A b2) (And.intro k2 (HD1.out.2.2.trans ((H1.out.1.trans (b2.mono H1.out.1.size)).mono HD1.out.2.2.size))))
     clear b2 k2 C3 H1
     go_wp2_with fail
     first
      | exact ⟨⟨c+1,by omega,by go_num,HN.out⟩,by simp [intOf];omega⟩
      | (
       go_roundw
       case rel=>first | exact ⟨c+1,by omega,by go_num,HN.out⟩ | ((repeat apply Exists.intro);exact ⟨⟨c+1,by omega,by go_num,HN.out⟩,rfl⟩)
       case measure=>simp [intOf];omega)
    ·obtain rfl:c=4:=by omega
     have HN:=hid HD.out
     clear HD hc4
     go_wp2_with fail
     first
      | exact ⟨⟨p+1,by omega,by go_num,HN.out⟩,by simp [intOf];omega⟩
      | (
       go_roundw
       case rel=>first | exact ⟨p+1,by omega,by go_num,HN.out⟩ | ((repeat apply Exists.intro);exact ⟨⟨p+1,by omega,by go_num,HN.out⟩,rfl⟩)
       case measure=>simp [intOf];omega)
  ·obtain rfl:p=6:=by omega
   have HN:=hid HD.out
   clear HD hp6
   go_wp2_with fail
   go_ret
   exact ⟨rfl,HN.out.2.2⟩
end
def tickB (c:Ac):Bool:=(pickI c.kd 12 == 6) && (c.B.tmod 4 != 0)
theorem ticks_any (c:Ac) (s:Sv) (w:World) (h0:-9223372036854775808<=c.kd/\c.kd<=9223372036854775807):Calls Tryz.prog 32 #[.agg (acA c s)] w fun e w'=>e=.returned (.bool (tickB c))/\Below w.heap.size w w':=by
 have PK:=hid (fun w=>pickK_any c.kd 12 w h0.1 h0.2 (by omega) (by omega))
 have HB:=hid ((Below.refl w.heap.size w).alloc (Nat.le_refl _) (.cells (acA c s) 63))
 have n2:((4:Int) == 0)=false:=by decide
 have t2:IntKind.i64.wrap (c.B.tmod 4)=c.B.tmod 4:=wrap_in (tmod_in (by omega)).1 (tmod_in (by omega)).2
 unfold tickB
 obtain ⟨pk,hpk⟩:∃ pk,pickI c.kd 12=pk:=⟨_,rfl⟩
 rw [hpk] at PK ⊢
 clear hpk h0
 by_cases e6:pk=6
 ·have f6:(pk == 6)=true:=by simpa using e6
  by_cases e4:c.B.tmod 4=0
  ·have f4:(c.B.tmod 4 == 0)=true:=by simpa using e4
   have f4':(c.B.tmod 4 != 0)=false:=by simpa using e4
   rw [f6,f4']
   clear e6 e4
   go_enter Tryz.func32,Tryz.ntmps32
   go_wp2_with (go_at_call 16;with_reducible refine (PK.out _).mono ?_;rintro e w1 ⟨rfl,rfl⟩)
   go_ret
   exact ⟨rfl,HB.out⟩
  ·have f4:(c.B.tmod 4 == 0)=false:=by simpa using e4
   have f4':(c.B.tmod 4 != 0)=true:=by simpa using e4
   rw [f6,f4']
   clear e6 e4
   go_enter Tryz.func32,Tryz.ntmps32
   go_wp2_with (go_at_call 16;with_reducible refine (PK.out _).mono ?_;rintro e w1 ⟨rfl,rfl⟩)
   go_ret
   exact ⟨rfl,HB.out⟩
 ·have f6:(pk == 6)=false:=by simpa using e6
  rw [f6,Bool.false_and]
  clear e6
  go_enter Tryz.func32,Tryz.ntmps32
  go_wp2_with (go_at_call 16;with_reducible refine (PK.out _).mono ?_;rintro e w1 ⟨rfl,rfl⟩)
  go_ret
  exact ⟨rfl,HB.out⟩
open Go.RowKit
theorem range_of {w:World}{B:Nat}{cs:List Value}{t:TypeId}(h:w.heap[B]? = some (.cells cs.toArray t (0,0))):w.rangeAt B 0 cs:=fun j v hv=>by
 rw [cell_of_row _ _ (0+j) _ _ _ h,Nat.zero_add,List.getElem?_toArray];exact hv
section
variable {Rep:World->Nat->(Nat->Prop)->RM->Prop}(A:ApM Rep)
include A in
theorem alike_eq {WB w:World}{x y n:Nat}{S S2:Nat->Prop}{K K2:RM}{T:List (Int×Int)}{F:Int->Prop}(h:KS Rep WB w x S K n) (h2:KS Rep WB w y S2 K2 n) (tw:Tw T F K K2) (h3:K.sp=3) (h32:K2.sp=3) (a1 a2 a3:Option Addr) (n1 n2 n3 c1 c2 c3:Nat) (jT:Inl w 2 (.slice a1 n1 c1) (T.map tRow)) (lT:T.length=n1) (b6:n1<=6) :
  Calls Tryz.prog 33 #[.pointer (some ⟨x,0,none⟩),.pointer (some ⟨y,0,none⟩),.agg #[.int .i64 3,.slice a1 n1 c1,.slice a2 n2 c2,.slice a3 n3 c3]] w fun e w'=>e=.returned (.bool true)/\Below w.heap.size w w':=by
 have hb:Below w.heap.size w (w.alloc (.cells #[.int .i64 3,.slice a1 n1 c1,.slice a2 n2 c2,.slice a3 n3 c3] 32)):=(Below.refl _ w).alloc (Nat.le_refl _) _
 have HB:=hid hb
 have HK:=hid (And.intro (h.below A hb) (h2.below A hb))
 have hC0:=heap_alloc_new w (.cells #[.int .i64 3,.slice a1 n1 c1,.slice a2 n2 c2,.slice a3 n3 c3] 32)
 have HT:=hid (And.intro (jT.below (by omega) hb) lT)
 obtain ⟨W1,hW1⟩:∃ W1,w.alloc (.cells #[.int .i64 3,.slice a1 n1 c1,.slice a2 n2 c2,.slice a3 n3 c3] 32)=W1:=⟨_,rfl⟩
 rw [hW1] at HB HK hC0 HT
 have l1:w.heap.size < W1.heap.size:=by rw [<- hW1];simp
 have HC:=hid hC0
 have HW1:=hid hW1
 have TW:=hid (And.intro tw (And.intro h.ok.ft h32))
 have C1:=hid (ks_space A HK.out.1 0 (by omega) (by omega))
 clear hb hC0 h h2 hW1 jT lT h3 h32 tw
 go_enter Tryz.func33,Tryz.ntmps33
 go_wp2_with fail
 rw [HW1.out]
 refine C1.out.mono ?_
 rintro e w5 ⟨v,u,rfl,s1,s2,b5,k5⟩
 obtain ⟨P,hP⟩:∃ P,told K.passes 0 6=P:=⟨_,rfl⟩
 obtain ⟨L,hL⟩:∃ L,told (K.leaves.map quad) 0 6=L:=⟨_,rfl⟩
 have hP2:=(told_two TW.out.1 6).symm.trans hP
 have hL2:=(toldL_two TW.out.1 6).symm.trans hL
 rw [hP] at s1
 rw [hL] at s2
 obtain ⟨p1,q1,e1⟩:=s1.slice
 obtain ⟨p2,q2,e2⟩:=s2.slice
 obtain ⟨m1,hm1⟩:∃ m,P.length=m:=⟨_,rfl⟩
 obtain ⟨m2,hm2⟩:∃ m,L.length=m:=⟨_,rfl⟩
 rw [List.length_map,hm1] at e1
 rw [List.length_map,hm2] at e2
 subst e1
 subst e2
 have m16:m1<=6:=by rw [<- hm1,<- hP];exact told_le _ _ _
 have m26:m2<=6:=by rw [<- hm2,<- hL];exact told_le _ _ _
 have hx:=heap_alloc_new w5 (.cells #[.slice p1 m1 q1,.slice p2 m2 q2] 122)
 have bx:Below w5.heap.size w5 (w5.alloc (.cells #[.slice p1 m1 q1,.slice p2 m2 q2] 122)):=(Below.refl _ w5).alloc (Nat.le_refl _) _
 obtain ⟨W6,hW6⟩:∃ W6,w5.alloc (.cells #[.slice p1 m1 q1,.slice p2 m2 q2] 122)=W6:=⟨_,rfl⟩
 have l6:w5.heap.size < W6.heap.size:=by rw [<- hW6];simp
 rw [hW6] at hx bx
 have b56:=b5.trans (bx.mono b5.size)
 have C2:=hid (ks_space A (HK.out.2.below A b56) 0 (by omega) (by rw [TW.out.2.2];omega))
 rw [hP2,hL2] at C2
 have H6:=hid (And.intro hx (And.intro (s1.below bx) (And.intro (s2.below bx) (And.intro (k5.below A bx) (And.intro b56 (And.intro hm1 hm2))))))
 have HW6:=hid hW6
 clear s1 s2 b5 k5 hm1 hm2 hx bx hW6 hP hL hP2 hL2 C1 HK b56
 go_upto_region 2 with fail
 rw [HW6.out]
 go_wp2_with fail
 refine C2.out.mono ?_
 rintro e w7 ⟨v,u,rfl,s1,s2,b7,k7⟩
 obtain ⟨p3,q3,e1⟩:=s1.slice
 obtain ⟨p4,q4,e2⟩:=s2.slice
 rw [List.length_map,H6.out.2.2.2.2.2.1] at e1
 rw [List.length_map,H6.out.2.2.2.2.2.2] at e2
 subst e1
 subst e2
 have hx:=heap_alloc_new w7 (.cells #[.slice p3 m1 q3,.slice p4 m2 q4] 122)
 have bx:Below w7.heap.size w7 (w7.alloc (.cells #[.slice p3 m1 q3,.slice p4 m2 q4] 122)):=(Below.refl _ w7).alloc (Nat.le_refl _) _
 obtain ⟨W8,hW8⟩:∃ W8,w7.alloc (.cells #[.slice p3 m1 q3,.slice p4 m2 q4] 122)=W8:=⟨_,rfl⟩
 have l8:w7.heap.size < W8.heap.size:=by rw [<- hW8];simp
 rw [hW8] at hx bx
 have b78:=b7.trans (bx.mono b7.size)
 have R1:=hid (range_of (cs:=[.slice p1 m1 q1,.slice p2 m2 q2]) ((b78.block _ l6).trans H6.out.1))
 have R2:=hid (range_of (cs:=[.slice p3 m1 q3,.slice p4 m2 q4]) hx)
 have C3:=hid (sameSpace_eq P L p1 p2 p3 p4 m1 m2 q1 q2 q3 q4 W8 m16 m26 H6.out.2.2.2.2.2.1 H6.out.2.2.2.2.2.2 ((H6.out.2.1.below b78).inlQ (by rw [H6.out.2.2.2.2.2.1];omega)) ((H6.out.2.2.1.below b78).inlQ (by rw [H6.out.2.2.2.2.2.2];omega)) ((s1.below bx).inlQ (by rw [H6.out.2.2.2.2.2.1];omega)) ((s2.below bx).inlQ (by rw [H6.out.2.2.2.2.2.2];omega)))
 have HK8:=hid (And.intro (H6.out.2.2.2.1.below A b78) (And.intro (k7.below A bx) (H6.out.2.2.2.2.1.trans (b78.mono H6.out.2.2.2.2.1.size))))
 have HW8:=hid hW8
 clear s1 s2 b7 k7 hx bx hW8 C2 H6 b78
 go_upto_region 3 with fail
 rw [HW8.out]
 go_wp2_with (first
  | (with_reducible (show wpList _ _ _ (⟨_,.load 122 (.tmp 7),_,_,_,none⟩ :: _) _ _);go_must (refine wpList_load_mid rfl 122 _ rfl w5.heap.size 0 rfl _ _ R1.out Tryz.underlying122 rfl (by kernel_rfl) ?_))
  | (with_reducible (show wpList _ _ _ (⟨_,.load 122 (.tmp 9),_,_,_,none⟩ :: _) _ _);go_must (refine wpList_load_mid rfl 122 _ rfl w7.heap.size 0 rfl _ _ R2.out Tryz.underlying122 rfl (by kernel_rfl) ?_)))
 refine C3.out.mono ?_
 rintro e w9 ⟨rfl,b9⟩
 have HD0:=hid (And.intro (HK8.out.1.below A b9) (And.intro (HK8.out.2.1.below A b9) (HK8.out.2.2.trans (b9.mono HK8.out.2.2.size))))
 clear b9 C3 HK8 R1 R2
 go_upto_block 0 with fail
 go_wp2_with fail
 go_loopw [12] (fun v wr=>∃ t:Nat,t<=n1/\v=.int .i64 t/\Hid (KS Rep WB wr x S K n/\KS Rep WB wr y S2 K2 n/\Below W1.heap.size W1 wr)) (fun v _=>n1-(intOf v).toNat)
 case atStart=>exact ⟨0,Nat.zero_le _,rfl,HD0.out⟩
 case round=>
  clear HD0
  obtain ⟨t,ht,rfl,HD⟩:=hrel
  have d1:=(plan_cell HD.out.2.2 HC.out l1 1).trans (show _=some (Value.slice a1 n1 c1) from rfl)
  have l3:=block_lt_of_cell d1
  by_cases htn:t < n1
  ·have htn':(t:Int) < (n1:Int):=by omega
   obtain ⟨p,hp⟩:∃ p,T[t]? = some p:=⟨_,List.getElem?_eq_getElem (by have:=HT.out.2;omega)⟩
   obtain ⟨bt,ot,ea,rt⟩:=(HT.out.1.below (by omega) HD.out.2.2).row (k:=t) (r:=tRow p) (by rw [List.getElem?_map,hp];rfl)
   subst ea
   have ct:wr.cell? ⟨bt,ot+t*2,none⟩=some (.int .i64 p.1):=rt 0 _ rfl
   have lbt:=block_lt_of_cell ct
   by_cases hz:p.1=0
   ·have f0:(p.1 == 0)=true:=by simpa using hz
    have f0':(p.1 != 0)=false:=by simpa using hz
    obtain ⟨u,hu⟩:∃ u,K.threads[t]? = some u:=⟨_,List.getElem?_eq_getElem (by rw [TW.out.1.s1.ln,HT.out.2];exact htn)⟩
    obtain ⟨u2,hu2⟩:=TW.out.1.s1.at TW.out.1.s2 hu
    have vv:=vis_eq (TW.out.1.rl.th t u u2 ⟨p,hp,hz⟩ hu hu2)
    have CL:=hid (lookK_any A HD.out.1 t u hu)
    have CM:=hid (fun w' (hb:Below wr.heap.size wr w')=>lookK_any A (HD.out.2.1.below A hb) t u2 hu2)
    rw [<- vv.2.2.1,<- vv.2.2.2.2.2.2.2.2.2.2.2.2.2.2.1,<- vv.2.2.2.2.2.2.2.2.2.2.2.2.2.2.2.1,<- vv.2.2.2.2.2.2.2.2.2.2.2.2.2.2.2.2.1,<- vv.2.2.2.2.2.2.2.2.2.2.2.2.2.2.2.2.2] at CM
    have w4:u.ws.length<=4:=(TW.out.2.1.th t u hu).ws
    obtain ⟨ws,hws⟩:∃ ws,u.ws=ws:=⟨_,rfl⟩
    rw [hws] at CL CM w4
    obtain ⟨m,hm⟩:∃ m,ws.length=m:=⟨_,rfl⟩
    rw [hm] at CL CM w4
    have HM:=hid hm
    have HD1:=hid HD.out
    clear hp rt hu hu2 vv hws hm HD hz
    go_upto_region 10 with fail
    go_wp2_with fail
    refine CL.out.mono ?_
    rintro e w10 ⟨aw,cw,rfl,s8,b8,nb,k8⟩
    have hx:=heap_alloc_new w10 (.cells (c5 u.st u.code u.who aw m cw u.got) 50)
    have bx:Below w10.heap.size w10 (w10.alloc (.cells (c5 u.st u.code u.who aw m cw u.got) 50)):=(Below.refl _ w10).alloc (Nat.le_refl _) _
    have b8x:=b8.trans (bx.mono b8.size)
    have C4:=hid (CM.out _ b8x)
    obtain ⟨WA,hWA⟩:∃ WA,w10.alloc (.cells (c5 u.st u.code u.who aw m cw u.got) 50)=WA:=⟨_,rfl⟩
    have lA:w10.heap.size < WA.heap.size:=by rw [<- hWA];simp
    rw [hWA] at hx bx b8x C4
    have HA:=hid (And.intro hx (And.intro (s8.below bx) (And.intro (k8.below A bx) b8x)))
    have HWA:=hid hWA
    clear s8 b8 nb k8 hx bx hWA CL CM b8x d1 l3 ct lbt
    go_upto_region 11 with (with_reducible (show wpList _ _ _ (⟨_,.store 50 _ _,_,_,_,none⟩ :: _) _ _);go_must (refine wpList_store_new rfl 50 _ _ rfl w10 _ (c5 u.st u.code u.who aw m cw u.got) 50 (by simp [Act.eval]) rfl (by kernel_rfl) rfl (c5_one _ _ _ _ _ _ _) ?_))
    rw [HWA.out]
    go_wp2_with fail
    refine C4.out.mono ?_
    rintro e w11 ⟨ax,cx,rfl,s9,b9,nb,k9⟩
    have hx:=heap_alloc_new w11 (.cells (c5 u.st u.code u.who ax m cx u.got) 50)
    have bx:Below w11.heap.size w11 (w11.alloc (.cells (c5 u.st u.code u.who ax m cx u.got) 50)):=(Below.refl _ w11).alloc (Nat.le_refl _) _
    have b9x:=b9.trans (bx.mono b9.size)
    obtain ⟨WC,hWC⟩:∃ WC,w11.alloc (.cells (c5 u.st u.code u.who ax m cx u.got) 50)=WC:=⟨_,rfl⟩
    have lC:w11.heap.size < WC.heap.size:=by rw [<- hWC];simp
    rw [hWC] at hx bx b9x
    have R1:=hid (range_of (cs:=(c5 u.st u.code u.who aw m cw u.got).toList) ((b9x.block _ lA).trans HA.out.1))
    have R2:=hid (range_of (cs:=(c5 u.st u.code u.who ax m cx u.got).toList) hx)
    have C5:=hid (sameThread_eq u.st u.code u.who u.got ws aw ax m cw cx WC w4 HM.out ((HA.out.2.1.below b9x).inlAny (by intro r hr v hv;obtain ⟨z,_,rfl⟩:=List.mem_map.1 hr;simp [lnI] at hv;subst hv;rfl) (by rw [List.length_map,HM.out];unfold maxLen;omega)) ((s9.below bx).inlAny (by intro r hr v hv;obtain ⟨z,_,rfl⟩:=List.mem_map.1 hr;simp [lnI] at hv;subst hv;rfl) (by rw [List.length_map,HM.out];unfold maxLen;omega)))
    have HN0:=hid (And.intro (HA.out.2.2.1.below A b9x) (And.intro (k9.below A bx) (HD1.out.2.2.trans ((HA.out.2.2.2.trans (b9x.mono HA.out.2.2.2.size)).mono HD1.out.2.2.size))))
    have HWC:=hid hWC
    clear s9 b9 nb k9 hx bx hWC C4 b9x HA
    go_upto_region 12 with (with_reducible (show wpList _ _ _ (⟨_,.store 50 _ _,_,_,_,none⟩ :: _) _ _);go_must (refine wpList_store_new rfl 50 _ _ rfl w11 _ (c5 u.st u.code u.who ax m cx u.got) 50 (by simp [Act.eval]) rfl (by kernel_rfl) rfl (c5_one _ _ _ _ _ _ _) ?_))
    rw [HWC.out]
    go_wp2_with (first
     | (with_reducible (show wpList _ _ _ (⟨_,.load 50 (.tmp 13),_,_,_,none⟩ :: _) _ _);go_must (refine wpList_load_mid rfl 50 _ rfl w10.heap.size 0 rfl _ _ R1.out Tryz.underlying50 rfl (by kernel_rfl) ?_))
     | (with_reducible (show wpList _ _ _ (⟨_,.load 50 (.tmp 15),_,_,_,none⟩ :: _) _ _);go_must (refine wpList_load_mid rfl 50 _ rfl w11.heap.size 0 rfl _ _ R2.out Tryz.underlying50 rfl (by kernel_rfl) ?_)))
    refine C5.out.mono ?_
    rintro e w12 ⟨rfl,b12⟩
    have HN:=hid (And.intro (HN0.out.1.below A b12) (And.intro (HN0.out.2.1.below A b12) (HN0.out.2.2.trans (b12.mono HN0.out.2.2.size))))
    clear b12 C5 HN0 R1 R2
    go_wp2_with fail
    first
     | exact ⟨⟨t+1,by omega,by go_num,HN.out⟩,by simp [intOf];omega⟩
     | (
      go_roundw
      case rel=>first | exact ⟨t+1,by omega,by go_num,HN.out⟩ | ((repeat apply Exists.intro);exact ⟨⟨t+1,by omega,by go_num,HN.out⟩,rfl⟩)
      case measure=>simp [intOf];omega)
   ·have f0:(p.1 == 0)=false:=by simpa using hz
    have f0':(p.1 != 0)=true:=by simpa using hz
    have HN:=hid HD.out
    clear hp rt hz HD
    go_wp2_with fail
    first
     | exact ⟨⟨t+1,by omega,by go_num,HN.out⟩,by simp [intOf];omega⟩
     | (
      go_roundw
      case rel=>first | exact ⟨t+1,by omega,by go_num,HN.out⟩ | ((repeat apply Exists.intro);exact ⟨⟨t+1,by omega,by go_num,HN.out⟩,rfl⟩)
      case measure=>simp [intOf];omega)
  ·obtain rfl:t=n1:=by omega
   have HN:=hid HD.out
   clear htn HD
   go_wp2_with fail
   go_ret
   exact ⟨rfl,HB.out.trans (HN.out.2.2.mono HB.out.size)⟩
end
open Go.RowKit
def KP (Rep:World->Nat->(Nat->Prop)->RM->Prop) (WB w:World) (x y:Nat) (K K2:RM) (n:Nat):Prop:=∃ S S2,KS Rep WB w x S K n/\KS Rep WB w y S2 K2 n/\∀ b,S b->¬ S2 b
theorem KS.base {Rep:World->Nat->(Nat->Prop)->RM->Prop}{W W1 w:World}{x n:Nat}{S:Nat->Prop}{K:RM}(h:KS Rep W1 w x S K n) (hg:Gl W) (hb:Below W.heap.size W W1):KS Rep W w x S K n:=
 ⟨h.rep,fun k hk=>Nat.le_trans hb.size (h.new k hk),hg,hb.trans (h.bel.mono hb.size),h.ok⟩
section
variable {Rep:World->Nat->(Nat->Prop)->RM->Prop}(A:ApM Rep){WB w w':World}{x y n:Nat}{K K2:RM}
theorem KP.bel (h:KP Rep WB w x y K K2 n):Below WB.heap.size WB w:=by obtain ⟨S,S2,h,_⟩:=h;exact h.bel
theorem KP.ok1 (h:KP Rep WB w x y K K2 n):K.Ok n:=by obtain ⟨S,S2,h,_⟩:=h;exact h.ok
theorem KP.ok2 (h:KP Rep WB w x y K K2 n):K2.Ok n:=by obtain ⟨S,S2,_,h,_⟩:=h;exact h.ok
theorem KP.mono (h:KP Rep WB w x y K K2 n){m:Nat}(hm:n<=m):KP Rep WB w x y K K2 m:=by obtain ⟨S,S2,h1,h2,h3⟩:=h;exact ⟨S,S2,h1.mono hm,h2.mono hm,h3⟩
include A
theorem KP.below (h:KP Rep WB w x y K K2 n) (hb:Below w.heap.size w w'):KP Rep WB w' x y K K2 n:=by
 obtain ⟨S,S2,h1,h2,h3⟩:=h
 exact ⟨S,S2,h1.below A hb,h2.below A hb,h3⟩
theorem kp_cur_x (h:KP Rep WB w x y K K2 n):Calls Tryz.prog 18 #[.pointer (some ⟨x,0,none⟩)] w fun e w'=>e=.returned (.int .i64 K.cur)/\KP Rep WB w' x y K K2 n:=by
 obtain ⟨S,S2,h1,h2,h3⟩:=h
 exact (ks_current A h1).mono (by rintro e w' ⟨rfl,b,k⟩;exact ⟨rfl,S,S2,k,h2.below A b,h3⟩)
theorem kp_cur_y (h:KP Rep WB w x y K K2 n):Calls Tryz.prog 18 #[.pointer (some ⟨y,0,none⟩)] w fun e w'=>e=.returned (.int .i64 K2.cur)/\KP Rep WB w' x y K K2 n:=by
 obtain ⟨S,S2,h1,h2,h3⟩:=h
 exact (ks_current A h2).mono (by rintro e w' ⟨rfl,b,k⟩;exact ⟨rfl,S,S2,h1.below A b,k,h3⟩)
theorem kp_mem (h:KP Rep WB w x y K K2 n) (he:∀ pg ce,K.load pg ce=K2.load pg ce):Calls Tryz.prog 31 #[.pointer (some ⟨x,0,none⟩),.pointer (some ⟨y,0,none⟩)] w fun e w'=>e=.returned (.bool true)/\KP Rep WB w' x y K K2 n:=by
 have h0:=h
 obtain ⟨S,S2,h1,h2,h3⟩:=h
 exact (memory_eq A h1 h2 he).mono (by rintro e w' ⟨rfl,b⟩;exact ⟨rfl,h0.below A b⟩)
theorem kp_does_x (h:KP Rep WB w x y K K2 n) (hn:n<=1000000000000000) (c:Ac) (s:Sv) (ha:AcOk WB c s) (M:Nat) (hM:M<=6) :
  Calls Tryz.prog 27 #[.pointer (some ⟨x,0,none⟩),.agg (acA c s),.int .i64 M] w fun e w'=>e=.returned (.tuple #[])/\KP Rep WB w' x y (doesM M c K) K2 (n+1):=by
 obtain ⟨S,S2,h1,h2,h3⟩:=h
 refine (does_any A h1 hn c s ha M hM).mono ?_
 rintro e w' ⟨rfl,S',k,sub,F⟩
 refine ⟨rfl,S',S2,k,(h2.fr A F (fun b h4 h5=>h3 b h5 h4) h1.new).mono (by omega),fun b h4 h5=>?_⟩
 rcases sub b h4 with g | g
 ·exact h3 b g h5
 ·have:=h2.lt A b h5;omega
theorem kp_does_y (h:KP Rep WB w x y K K2 n) (hn:n<=1000000000000000) (c:Ac) (s:Sv) (ha:AcOk WB c s) (M:Nat) (hM:M<=6) :
  Calls Tryz.prog 27 #[.pointer (some ⟨y,0,none⟩),.agg (acA c s),.int .i64 M] w fun e w'=>e=.returned (.tuple #[])/\KP Rep WB w' x y K (doesM M c K2) (n+1):=by
 obtain ⟨S,S2,h1,h2,h3⟩:=h
 refine (does_any A h2 hn c s ha M hM).mono ?_
 rintro e w' ⟨rfl,S',k,sub,F⟩
 refine ⟨rfl,S,S',(h1.fr A F (fun b h4 h5=>h3 b h4 h5) h2.new).mono (by omega),k,fun b h4 h5=>?_⟩
 rcases sub b h5 with g | g
 ·exact h3 b h4 g
 ·have:=h1.lt A b h4;omega
theorem kp_alike {T:List (Int×Int)}{F:Int->Prop}(h:KP Rep WB w x y K K2 n) (tw:Tw T F K K2) (h3:K.sp=3) (h32:K2.sp=3) (a1 a2 a3:Option Addr) (n1 n2 n3 c1 c2 c3:Nat) (jT:Inl w 2 (.slice a1 n1 c1) (T.map tRow)) (lT:T.length=n1) (b6:n1<=6) :
  Calls Tryz.prog 33 #[.pointer (some ⟨x,0,none⟩),.pointer (some ⟨y,0,none⟩),.agg #[.int .i64 3,.slice a1 n1 c1,.slice a2 n2 c2,.slice a3 n3 c3]] w fun e w'=>e=.returned (.bool true)/\KP Rep WB w' x y K K2 n:=by
 have h0:=h
 obtain ⟨S,S2,h1,h2,_⟩:=h
 exact (alike_eq A h1 h2 tw h3 h32 a1 a2 a3 n1 n2 n3 c1 c2 c3 jT lT b6).mono (by rintro e w' ⟨rfl,b⟩;exact ⟨rfl,h0.below A b⟩)
end
structure KW (Rep:World->Nat->(Nat->Prop)->RM->Prop) (WB w:World) (x y:Nat) (T:List (Int×Int)) (F:Int->Prop) (K K2:RM) (n:Nat):Prop where
 kp:KP Rep WB w x y K K2 n
 tw:Tw T F K K2
 s1:K.sp=3
 s2:K2.sp=3
theorem tickB_not {c:Ac}(h1:1 < pickI c.kd 12) (h2:tickB c=false):¬ isTick c:=by
 unfold tickB at h2
 rintro (e | e | ⟨e,e2⟩)
 ·omega
 ·omega
 ·simp [e,e2] at h2
theorem Tw.off_x {T:List (Int×Int)}{L:List (Int×Int×Int×Int)}{Q:List (Int×Int×Int×Int)}{K K2:RM}{n m:Nat}(hf:Fits 3 T Q L) (h:Tw T (F0 L) K K2) (ok:K.Ok n) (hz:∀ t:Nat,K.cur=t->¬ Z0 T t) (c:Ac) (hc:¬ isTick c):Tw T (F0 L) (doesM m c K) K2:=by
 have o:=OffS.does (F0.ge hf) ⟨Off.refl K,h.s1⟩ hz m c hc
 have ok2:=ok.does m c
 exact h.off o.o ⟨o.s,⟨_,ok2.nm⟩,ok2.ft.ap⟩
theorem Tw.off_y {T:List (Int×Int)}{L:List (Int×Int×Int×Int)}{Q:List (Int×Int×Int×Int)}{K K2:RM}{n m:Nat}(hf:Fits 3 T Q L) (h:Tw T (F0 L) K K2) (ok:K2.Ok n) (hz:∀ t:Nat,K2.cur=t->¬ Z0 T t) (c:Ac) (hc:¬ isTick c):Tw T (F0 L) K (doesM m c K2):=(Tw.off_x hf h.symm ok hz c hc).symm
theorem bool_of (P:Prop):∃ b:Bool,b=true↔P:=by
 rcases Classical.em P with h | h
 ·exact ⟨true,by simp [h]⟩
 ·exact ⟨false,by simp [h]⟩
end Go.Proofs.YteejjgbeknnmeaaGreatDoor
