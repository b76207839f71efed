import Derived.Test.YteejjgbeknnmeaaGreatDoorG01
import Derived.Deep.RegionHeld3
import Derived.BigRegion
import Derived.Deep.DeepCutAuto
import Derived.Test.YteejjgbeknnmeaaGreatDoorG10
import Derived.Test.YteejjgbeknnmeaaGreatDoorG12
set_option maxRecDepth 100000
set_option maxHeartbeats 20000000
namespace Go.Proofs.YteejjgbeknnmeaaGreatDoor
open Go.RowKit
theorem Tryz.infoN140:(Tryz.prog.info? 140).map (fun i=>(i.zero,i.size,i.bytes))=some (some (.agg #[.slice none 0 0,.slice none 0 0,.slice none 0 0,.slice none 0 0,.int .i64 0]),5,104):=by kernel_rfl
theorem Tryz.infoN142:(Tryz.prog.info? 142).map (fun i=>(i.zero,i.size,i.bytes))=some (some (.agg #[.slice none 0 0,.slice none 0 0,.slice none 0 0,.slice none 0 0,.int .i64 0]),5,104):=by kernel_rfl
abbrev mk4 (m:Int):List Value:=[.int .i64 0,.int .i64 (-1000-m),.int .i64 0,.int .i64 0]
structure Booked (st el:TypeId) (M:Int->List Value) (b j:Nat) (cs:Array Value) (old v:Value) (rows:List (List Value)) (w:World) (new v1 v2 v3:Value) (w':World):Prop where
 at_:w'.heap[b]? = some (.cells (cs.setIfInBounds j new) 84 (0,0))
 sl:Sl w' st 5 new (rows ++ [[v,v1,v2,v3,.int .i64 rows.length]])
 m0:Marked w' el (M rows.length) v
 m1:Marked w' el (M rows.length) v1
 m2:Marked w' el (M rows.length) v2
 m3:Marked w' el (M rows.length) v3
 fr:Fr (fun k=>k=b\/v.ownBlock=some k\/old.ownBlock=some k) w w'
 fresh:∀ k,new.ownBlock=some k->w.heap.size<=k\/old.ownBlock=some k
 own:∀ k,(v1.ownBlock=some k\/v2.ownBlock=some k\/v3.ownBlock=some k)->(w.heap.size<=k\/v.ownBlock=some k)/\new.ownBlock≠some k
theorem Booked.of {st el:TypeId}{M:Int->List Value}{b j:Nat}{cs:Array Value}{old v u:Value}{rows:List (List Value)}{w w0 wc X w4:World}{bx:Nat}{v1 v2 v3:Value}(hbl:b < w.heap.size) (HS:Sl w st 5 old rows)
  (hv:∀ k,v.ownBlock=some k->k < w.heap.size) (HD1:old.ownBlock≠some b) (HD2:v.ownBlock≠some b) (HD3:∀ k,v.ownBlock=some k->old.ownBlock≠some k) (F0:Fr (fun _=>False) w w0)
  (E:Entry st el (M rows.length) v w0 bx v1 v2 v3 rows.length wc) (FX:Fr (fun _=>False) wc X) (G4:Grew st 5 old X u (rows ++ [[v,v1,v2,v3,.int .i64 rows.length]]) w4) (hb4:w4.heap[b]? = some (.cells cs 84 (0,0))) :
  Booked st el M b j cs old v rows w u v1 v2 v3 (w4.setCell ⟨b,j,none⟩ u):=by
 have h:=book_end (j:=j) hbl HS hv HD1 HD2 HD3 E.m0 E.m1 E.m2 E.m3 ((F0.mono (fun _ _ h=>h.elim)).trans E.fr) (fun k hk=>by
  rcases E.own k hk with h | h
  ·left;have:=F0.size;omega
  ·exact .inr h) FX G4 hb4
 exact ⟨h.1,h.2.1,h.2.2.1,h.2.2.2.1,h.2.2.2.2.1,h.2.2.2.2.2.1,h.2.2.2.2.2.2.1,h.2.2.2.2.2.2.2.1,h.2.2.2.2.2.2.2.2⟩
theorem space_any (b:Nat) (ps nums pas lea v u:Value) (prow lrow:List (List Value)) (n m:Nat) (xs ys:List Value) (w:World)
  (hb:w.heap[b]? = some (.cells #[ps,nums,pas,lea] 84 (0,0))) (hs:Sl w 140 5 pas prow) (hr:prow.length<=1000000000000) (hsl:Sl w 142 5 lea lrow) (hrl:lrow.length<=1000000000000)
  (hown:w.ownsRow 0 55 4 v n xs) (hn:n<=1000000) (hownu:w.ownsRow 0 67 4 u m ys) (hm:m<=1000000)
  (d1:pas.ownBlock≠some b) (d2:lea.ownBlock≠some b) (d3:v.ownBlock≠some b) (d4:u.ownBlock≠some b)
  (d5:∀ k,v.ownBlock=some k->pas.ownBlock≠some k/\lea.ownBlock≠some k/\u.ownBlock≠some k) (d6:∀ k,u.ownBlock=some k->pas.ownBlock≠some k/\lea.ownBlock≠some k) (d7:∀ k,pas.ownBlock=some k->lea.ownBlock≠some k) :
  Calls Tryz.prog 114 #[.pointer (some ⟨b,1,none⟩),.agg #[v,u]] w fun e w'=>e=.returned (.tuple #[])/\∃ wm pas' v1 v2 v3 lea' u1 u2 u3,
   Booked 140 55 mk4 b 2 #[ps,nums,pas,lea] pas v prow w pas' v1 v2 v3 wm/\Booked 142 67 mk4 b 3 #[ps,nums,pas',lea] lea u lrow wm lea' u1 u2 u3 w':=by
 obtain ⟨an,cn,rfl⟩:=hs.slice
 obtain ⟨al,cl,rfl⟩:=hsl.slice
 obtain ⟨av,cv,rfl⟩:=owns_slice hown
 obtain ⟨au,cu,rfl⟩:=owns_slice hownu
 have hbl:b < w.heap.size:=(Array.getElem?_eq_some_iff.1 hb).1
 have hc2:w.cell? ⟨b,2,none⟩=some (.slice an prow.length cn):=by rw [cell_of_row w b 2 _ _ _ hb];rfl
 have HB:=hid hb
 have HS:=hid hs
 have HSL:=hid hsl
 have HU:=hid hownu
 have D:=hid (And.intro d1 (And.intro d2 (And.intro d3 (And.intro d4 (And.intro d5 (And.intro d6 d7))))))
 clear hs hb hsl hownu d1 d2 d3 d4 d5 d6 d7
 obtain ⟨i0,hi,hz0,hz1,hz2⟩:=info_parts Tryz.infoN140
 obtain ⟨i1,hj,hy0,hy1,hy2⟩:=info_parts Tryz.infoN142
 go_enter Tryz.func114,Tryz.ntmps114
 go_wp2_with fail
 go_cut [4] (fun t4 wc=>∃ bx v1 v2 v3,t4=.pointer (some ⟨bx,0,none⟩)/\Entry 140 55 (mk4 prow.length) (.slice av n cv) (w.alloc (.cells #[.slice av n cv,.slice au m cu] 122)) bx v1 v2 v3 prow.length wc)
 case first=>
  have hvl:Hid (∀ k,Value.ownBlock (.slice av n cv)=some k->k < (w.alloc (.cells #[.slice av n cv,.slice au m cu] 122)).heap.size):=fun k hk=>((hown.alloc (.cells #[.slice av n cv,.slice au m cu] 122)).lt k hk).2
  go_region_with (first | (go_at_call 147;refine (ownPasses_any (.slice av n cv) n xs prow.length _ (by omega) (by omega) (owns_drew (hown.alloc (.cells #[.slice av n cv,.slice au m cu] 122))) hn).mono ?_;rintro e w1 ⟨v1,v2,v3,rfl,M0,M1,M2,M3,F1,N1⟩;obtain ⟨n1,a1,c1,rfl⟩:=marked_slice M1;obtain ⟨n2,a2,c2,rfl⟩:=marked_slice M2;obtain ⟨n3,a3,c3,rfl⟩:=marked_slice M3;have H1:=hid (And.intro M0 (And.intro M1 (And.intro M2 (And.intro M3 (And.intro F1 N1)))));clear M0 M1 M2 M3 F1 N1) | (go_at_call 147;refine (ownPasses_any (.slice av n cv) n xs prow.length _ (by omega) (by omega) (owns_drew ((hown.alloc (.cells #[.slice av n cv,.slice au m cu] 122)).alloc _)) hn).mono ?_;rintro e w1 ⟨v1,v2,v3,rfl,M0,M1,M2,M3,F1,N1⟩;obtain ⟨n1,a1,c1,rfl⟩:=marked_slice M1;obtain ⟨n2,a2,c2,rfl⟩:=marked_slice M2;obtain ⟨n3,a3,c3,rfl⟩:=marked_slice M3;have H1:=hid (And.intro M0 (And.intro M1 (And.intro M2 (And.intro M3 (And.intro F1 N1)))));clear M0 M1 M2 M3 F1 N1;obtain ⟨⟨x0,x1,x2,x3,x4⟩,x5⟩:=cells5 (entry_zero H1.out.2.2.2.2.1 hvl.out);rw [size_alloc] at x0 x1 x2 x3 x4 x5))
  all_goals
   go_wp2
   go_meet
   case rel=>
    obtain ⟨M0,M1,M2,M3,F1,N1⟩:=H1.out
    first
     | with_reducible exact ⟨_,_,_,_,rfl,entry_after M0 M1 M2 M3 F1 N1⟩
     | (
      have E:=entry_before (mark:=prow.length) hvl.out M0 M1 M2 M3 F1 N1
      rw [size_alloc] at E
      exact ⟨_,_,_,_,rfl,E⟩)
 case rest=>
 obtain ⟨bx,v1,v2,v3,rfl,E1⟩:=hcut
 obtain ⟨n1,a1,c1,rfl⟩:=marked_slice E1.m1
 obtain ⟨n2,a2,c2,rfl⟩:=marked_slice E1.m2
 obtain ⟨n3,a3,c3,rfl⟩:=marked_slice E1.m3
 have hblc:b < wc.heap.size:=Nat.lt_of_lt_of_le (by simp;omega) E1.fr.size
 have hbx:Hid (wc.heap[b]? = some (.cells #[ps,nums,.slice an prow.length cn,.slice al lrow.length cl] 84 (0,0))):=(E1.fr.block b (by simp;omega) D.out.2.2.1).trans ((Below.heap_alloc _ _ _ hbl).trans HB.out)
 have hc2':wc.cell? ⟨b,2,none⟩=some (.slice an prow.length cn):=(cell_of_row wc b 2 _ _ _ hbx.out).trans rfl
 obtain ⟨e0,e1,e2,e3,e4⟩:=E1.cells
 have hsx:=hid ((HS.out.alloc (.cells #[.slice av n cv,.slice au m cu] 122)).kept E1.fr (fun k hk hv=>(D.out.2.2.2.2.1 k hv).1 hk))
 have HD1:Hid (Value.ownBlock (.slice an prow.length cn)≠some b):=D.out.1
 have hsb:Hid (wc.cell? ⟨w.heap.size,1,none⟩=some (.slice au m cu)):=(E1.fr.cell (p:=⟨w.heap.size,1,none⟩) (by simp) (fun h=>by have:=(hown.lt _ h).2;simp at this)).trans ((cell_of_row _ _ 1 _ _ _ (heap_alloc_new w _)).trans rfl)
 have HE1:=hid E1
 clear E1
 go_wp2_with fail
 go_cut [] (fun wm=>∃ pas' v1 v2 v3,Booked 140 55 mk4 b 2 #[ps,nums,.slice an prow.length cn,.slice al lrow.length cl] (.slice an prow.length cn) (.slice av n cv) prow w pas' v1 v2 v3 wm/\Hid (wm.cell? ⟨w.heap.size,1,none⟩=some (.slice au m cu)))
 case first=>
  go_region_law (refine step_append_sl _ rfl (.tmp 18) (.tmp 20) 79 rfl 140 i0 _ 5 104 Tryz.underlying79 hi hz0 hz1 hz2 rfl (by decide) (.slice an prow.length cn) prow (by simp [Act.eval]) (((hsx.out).alloc _).drew) ⟨wc.heap.size,0,none⟩ 1 1 [[.slice av n cv,.slice a1 n1 c1,.slice a2 n2 c2,.slice a3 n3 c3,.int .i64 prow.length]] (by simp [Act.eval]) rfl (by decide) (by simp) (fun j u h=>cell_news wc #[.slice av n cv,.slice a1 n1 c1,.slice a2 n2 c2,.slice a3 n3 c3,.int .i64 prow.length] 140 j u (by simpa using h)) (fun u hu=>by simp at hu;rcases hu with rfl | rfl | rfl | rfl | rfl <;> rfl) (by unfold maxLen;omega) (by omega) ?_;intro a4 c4 w4 G4;have hb4:Hid (w4.heap[b]? = some (.cells #[ps,nums,.slice an prow.length cn,.slice al lrow.length cl] 84 (0,0))):=(G4.old (by simp;omega) HD1.out).trans (((((Fr.refl (fun _=>False) wc).alloc _).drew).block b hblc id).trans hbx.out);have hc4:w4.cell? ⟨b,2,none⟩=some (.slice an prow.length cn):=(cell_of_row w4 b 2 _ _ _ hb4.out).trans rfl;have hf4:w4.frozen? ⟨b,2,none⟩=false:=frozen_of_row _ _ _ _ _ hb4.out)
  all_goals
   go_wp2
   go_meet
   case rel=>
    have hlt:w.heap.size < w4.heap.size:=Nat.lt_of_lt_of_le (Nat.lt_of_lt_of_le (by simp) HE1.out.fr.size) (Nat.le_trans (by simp) G4.by_.size)
    refine ⟨_,_,_,_,Booked.of hbl HS.out (fun k hk=>(hown.lt k hk).2) D.out.1 D.out.2.2.1 (fun k hk=>(D.out.2.2.2.2.1 k hk).1) ((Fr.refl (fun _=>False) w).alloc _) HE1.out (((Fr.refl (fun _=>False) wc).alloc _).drew) G4 hb4.out,?_⟩
    have hne:w.heap.size≠b:=by omega
    unfold Hid
    rw [World.cell?_of_block (w:=w4) (a:=⟨w.heap.size,1,none⟩) (Below.heap_setCell _ _ _ _ hne)]
    rw [World.cell?_of_block (w:=wc) (a:=⟨w.heap.size,1,none⟩) (((G4.old (Nat.lt_of_lt_of_le (Nat.lt_of_lt_of_le (by simp) HE1.out.fr.size) (by simp)) (fun h=>absurd (HS.out.lt h) (Nat.lt_irrefl _))).trans ((((Fr.refl (fun _=>False) wc).alloc _).drew).block _ (Nat.lt_of_lt_of_le (by simp) HE1.out.fr.size) id)))]
    exact hsb.out
 case rest=>
 obtain ⟨pas',p1,p2,p3,BK,hsc⟩:=hcut
 obtain ⟨ap,cp,rfl⟩:=BK.sl.slice
 clear hsx e0 e1 e2 e3 e4 hc2' hbx HE1 hsb hblc HD1 hc2
 have hbm:Hid (wc.heap[b]? = some (.cells #[ps,nums,.slice ap (prow ++ [[.slice av n cv,p1,p2,p3,.int .i64 prow.length]]).length cp,.slice al lrow.length cl] 84 (0,0))):=BK.at_
 have hblm:b < wc.heap.size:=(Array.getElem?_eq_some_iff.1 hbm.out).1
 have hc3:wc.cell? ⟨b,3,none⟩=some (.slice al lrow.length cl):=(cell_of_row wc b 3 _ _ _ hbm.out).trans rfl
 have hsb:=hsc.out
 have hwl:w.heap.size < wc.heap.size:=block_lt_of_cell hsb
 have nu:∀ k,Value.ownBlock (.slice au m cu)=some k->¬ (k=b\/Value.ownBlock (.slice av n cv)=some k\/Value.ownBlock (.slice an prow.length cn)=some k):=fun k hk h=>by
  rcases h with h | h | h
  ·exact D.out.2.2.2.1 (by rw [<- h];exact hk)
  ·exact (D.out.2.2.2.2.1 k h).2.2 hk
  ·exact (D.out.2.2.2.2.2.1 k hk).1 h
 have nl:∀ k,Value.ownBlock (.slice al lrow.length cl)=some k->¬ (k=b\/Value.ownBlock (.slice av n cv)=some k\/Value.ownBlock (.slice an prow.length cn)=some k):=fun k hk h=>by
  rcases h with h | h | h
  ·exact D.out.2.1 (by rw [<- h];exact hk)
  ·exact (D.out.2.2.2.2.1 k h).2.1 hk
  ·exact D.out.2.2.2.2.2.2 k h hk
 have hownm:=owns_fr HU.out BK.fr nu
 have hslm:=hid (HSL.out.kept BK.fr nl)
 clear nu nl
 generalize hwm:wc=wm at *
 have HWM:=hid hwm
 clear hwm
 have HBK:=hid BK
 clear BK
 go_wp2_with fail
 go_cut [5] (fun t4 wc=>∃ bx v1 v2 v3,t4=.pointer (some ⟨bx,0,none⟩)/\Entry 142 67 (mk4 lrow.length) (.slice au m cu) wm bx v1 v2 v3 lrow.length wc)
 case first=>
  have hvl:Hid (∀ k,Value.ownBlock (.slice au m cu)=some k->k < wm.heap.size):=fun k hk=>((hownm).lt k hk).2
  go_region_with (first | (go_at_call 148;refine (ownLeaves_any (.slice au m cu) m ys lrow.length _ (by omega) (by omega) (owns_drew (hownm)) hm).mono ?_;rintro e w1 ⟨v1,v2,v3,rfl,M0,M1,M2,M3,F1,N1⟩;obtain ⟨n1,a1,c1,rfl⟩:=marked_slice M1;obtain ⟨n2,a2,c2,rfl⟩:=marked_slice M2;obtain ⟨n3,a3,c3,rfl⟩:=marked_slice M3;have H1:=hid (And.intro M0 (And.intro M1 (And.intro M2 (And.intro M3 (And.intro F1 N1)))));clear M0 M1 M2 M3 F1 N1) | (go_at_call 148;refine (ownLeaves_any (.slice au m cu) m ys lrow.length _ (by omega) (by omega) (owns_drew ((hownm).alloc _)) hm).mono ?_;rintro e w1 ⟨v1,v2,v3,rfl,M0,M1,M2,M3,F1,N1⟩;obtain ⟨n1,a1,c1,rfl⟩:=marked_slice M1;obtain ⟨n2,a2,c2,rfl⟩:=marked_slice M2;obtain ⟨n3,a3,c3,rfl⟩:=marked_slice M3;have H1:=hid (And.intro M0 (And.intro M1 (And.intro M2 (And.intro M3 (And.intro F1 N1)))));clear M0 M1 M2 M3 F1 N1;obtain ⟨⟨x0,x1,x2,x3,x4⟩,x5⟩:=cells5 (entry_zero H1.out.2.2.2.2.1 hvl.out)))
  all_goals
   go_wp2
   go_meet
   case rel=>
    obtain ⟨M0,M1,M2,M3,F1,N1⟩:=H1.out
    first
     | with_reducible exact ⟨_,_,_,_,rfl,entry_after M0 M1 M2 M3 F1 N1⟩
     | (
      have E:=entry_before (mark:=lrow.length) hvl.out M0 M1 M2 M3 F1 N1
      skip
      exact ⟨_,_,_,_,rfl,E⟩)
 case rest=>
 obtain ⟨bx,v1,v2,v3,rfl,E1⟩:=hcut
 obtain ⟨n1,a1,c1,rfl⟩:=marked_slice E1.m1
 obtain ⟨n2,a2,c2,rfl⟩:=marked_slice E1.m2
 obtain ⟨n3,a3,c3,rfl⟩:=marked_slice E1.m3
 have hblc:b < wc.heap.size:=Nat.lt_of_lt_of_le hblm E1.fr.size
 have hbx:Hid (wc.heap[b]? = some (.cells #[ps,nums,.slice ap (prow ++ [[.slice av n cv,p1,p2,p3,.int .i64 prow.length]]).length cp,.slice al lrow.length cl] 84 (0,0))):=(E1.fr.block b hblm D.out.2.2.2.1).trans hbm.out
 have hc3':wc.cell? ⟨b,3,none⟩=some (.slice al lrow.length cl):=(cell_of_row wc b 3 _ _ _ hbx.out).trans rfl
 obtain ⟨e0,e1,e2,e3,e4⟩:=E1.cells
 have hsx:=hid (hslm.out.kept E1.fr (fun k hk hv=>(D.out.2.2.2.2.2.1 k hv).2 hk))
 have HD1:Hid (Value.ownBlock (.slice al lrow.length cl)≠some b):=D.out.2.1
 have HE1:=hid E1
 clear E1
 go_wp2_with fail
 go_region_law (refine step_append_sl _ rfl (.tmp 36) (.tmp 38) 80 rfl 142 i1 _ 5 104 Tryz.underlying80 hj hy0 hy1 hy2 rfl (by decide) (.slice al lrow.length cl) lrow (by simp [Act.eval]) (((hsx.out).alloc _).drew) ⟨wc.heap.size,0,none⟩ 1 1 [[.slice au m cu,.slice a1 n1 c1,.slice a2 n2 c2,.slice a3 n3 c3,.int .i64 lrow.length]] (by simp [Act.eval]) rfl (by decide) (by simp) (fun j u h=>cell_news wc #[.slice au m cu,.slice a1 n1 c1,.slice a2 n2 c2,.slice a3 n3 c3,.int .i64 lrow.length] 142 j u (by simpa using h)) (fun u hu=>by simp at hu;rcases hu with rfl | rfl | rfl | rfl | rfl <;> rfl) (by unfold maxLen;omega) (by omega) ?_;intro a4 c4 w4 G4;have hb4:Hid (w4.heap[b]? = some (.cells #[ps,nums,.slice ap (prow ++ [[.slice av n cv,p1,p2,p3,.int .i64 prow.length]]).length cp,.slice al lrow.length cl] 84 (0,0))):=(G4.old (by simp;omega) HD1.out).trans (((((Fr.refl (fun _=>False) wc).alloc _).drew).block b hblc id).trans hbx.out);have hc4:w4.cell? ⟨b,3,none⟩=some (.slice al lrow.length cl):=(cell_of_row w4 b 3 _ _ _ hb4.out).trans rfl;have hf4:w4.frozen? ⟨b,3,none⟩=false:=frozen_of_row _ _ _ _ _ hb4.out)
 all_goals
  go_wp2
  go_end0
  exact ⟨rfl,wm,_,_,_,_,_,_,_,_,HBK.out,Booked.of hblm hslm.out (fun k hk=>(hownm.lt k hk).2) D.out.2.1 D.out.2.2.2.1 (fun k hk=>(D.out.2.2.2.2.2.1 k hk).2) (Fr.refl (fun _=>False) wm) HE1.out (((Fr.refl (fun _=>False) wc).alloc _).drew) G4 hb4.out⟩
open Go.RowKit
structure Pr where
 x:Nat
 y:Nat
 S:Nat->Prop
 K:RM
 Z:Nat->Prop
def prRow (p:Pr):List Value:=[.pointer (some ⟨p.x,0,none⟩),.pointer (some ⟨p.y,0,none⟩)]
def stT (j:Nat):TypeId:=if j=1 then 138 else if j=2 then 140 else 142
def elT (j:Nat):TypeId:=if j=1 then 2 else if j=2 then 55 else 67
def mkM (j:Nat):Int->List Value:=if j=1 then mk1 else mk4
structure Inv (Rep:World->Nat->(Nat->Prop)->RM->Prop) (o:Nat->Nat) (b n:Nat) (w:World) (ps:Value) (lv:Nat->Value) (rows:Nat->List (List Value)) (prs:List Pr):Prop where
 lg:Loc o 0 Gl w
 lb:Loc o 1 (fun w=>w.heap[b]? = some (.cells #[ps,lv 1,lv 2,lv 3] 84 (0,0))) w
 cb:o b=1
 ls:Loc o 2 (fun w=>Sl w 91 2 ps (prs.map prRow)) w
 cs:∀ k,ps.ownBlock=some k->o k=2
 lj:∀ j,1<=j->j<=3->Loc o (2+j) (fun w=>Sl w (stT j) 5 (lv j) (rows j)) w
 cj:∀ j,1<=j->j<=3->∀ k,(lv j).ownBlock=some k->o k=2+j
 mj:∀ j,1<=j->j<=3->Loc o 0 (fun w=>Marks w (elT j) (mkM j) (rows j)) w
 lx:∀ (i:Nat) p,prs[i]? = some p->Loc o (8+2*i) (fun w=>Rep w p.x p.S p.K) w
 cx:∀ (i:Nat) p,prs[i]? = some p->∀ k,p.S k->o k=8+2*i
 ly:∀ (i:Nat) p,prs[i]? = some p->Loc o (9+2*i) (fun w=>RefRep w p.y p.Z p.K) w
 cy:∀ (i:Nat) p,prs[i]? = some p->∀ k,p.Z k->o k=9+2*i
 ok:∀ (i:Nat) p,prs[i]? = some p->p.K.Ok n
 nq:prs.length<=n+1
 nj:∀ j,1<=j->j<=3->(rows j).length<=n
theorem RefRep.lt {w:World}{y:Nat}{K:RM}{Z:Nat->Prop}(h:RefRep w y Z K){k:Nat}(hk:Z k):k < w.heap.size:=refRuns.lt h k hk
theorem Loc.ref {o:Nat->Nat}{c:Nat}{w:World}{y:Nat}{K:RM}{Z:Nat->Prop}(h:RefRep w y Z K) (hc:∀ k,Z k->o k=c):Loc o c (fun w=>RefRep w y Z K) w:=
 fun _ _ f t=>refRuns.kept h f (fun k hk ht=>t k (h.lt hk) ht (hc k hk))
theorem Loc.rep {Rep:World->Nat->(Nat->Prop)->RM->Prop}(A:ApM Rep){o:Nat->Nat}{c:Nat}{w:World}{x:Nat}{S:Nat->Prop}{K:RM}(h:Rep w x S K) (hc:∀ k,S k->o k=c):Loc o c (fun w=>Rep w x S K) w:=
 fun _ _ f t=>A.kept h f (fun k hk ht=>t k (A.lt h k hk) ht (hc k hk))
section
variable {Rep:World->Nat->(Nat->Prop)->RM->Prop}(A:ApM Rep){o o':Nat->Nat}{b n:Nat}{w w':World}{ps:Value}{lv:Nat->Value}{rows:Nat->List (List Value)}{prs:List Pr}
include A in
theorem Inv.below (h:Inv Rep o b n w ps lv rows prs) (hb:Below w.heap.size w w') (ho:∀ k,k < w.heap.size->o' k=o k):Inv Rep o' b n w' ps lv rows prs:=by
 have F:=Fr.of_below hb (fun _=>False)
 have T:∀ c k,k < w.heap.size->(fun _=>False) k->o k≠c:=fun _ _ _ h=>h.elim
 have H:∀ c k,k < w.heap.size->o k=c->o' k=c:=fun c k hk e=>(ho k hk).trans e
 exact ⟨h.lg.kept F (T 0) (H _),h.lb.kept F (T 1) (H _),(ho b (Array.getElem?_eq_some_iff.1 h.lb.now).1).trans h.cb,h.ls.kept F (T 2) (H _),fun k hk=>(ho k (h.ls.now.lt hk)).trans (h.cs k hk),
  fun j h1 h3=>(h.lj j h1 h3).kept F (T _) (H _),fun j h1 h3 k hk=>(ho k ((h.lj j h1 h3).now.lt hk)).trans (h.cj j h1 h3 k hk),fun j h1 h3=>(h.mj j h1 h3).kept F (T _) (H _),
  fun i p hp=>(h.lx i p hp).kept F (T _) (H _),fun i p hp k hk=>(ho k (A.lt (h.lx i p hp).now k hk)).trans (h.cx i p hp k hk),fun i p hp=>(h.ly i p hp).kept F (T _) (H _),fun i p hp k hk=>(ho k ((h.ly i p hp).now.lt hk)).trans (h.cy i p hp k hk),h.ok,h.nq,h.nj⟩
theorem Inv.mono (h:Inv Rep o b n w ps lv rows prs){m:Nat}(hm:n<=m):Inv Rep o b m w ps lv rows prs:=
 ⟨h.lg,h.lb,h.cb,h.ls,h.cs,h.lj,h.cj,h.mj,h.lx,h.cx,h.ly,h.cy,fun i p hp=>(h.ok i p hp).mono hm,by have:=h.nq;omega,fun j h1 h3=>Nat.le_trans (h.nj j h1 h3) hm⟩
theorem lv_set {ps:Value}{lv:Nat->Value}{j:Nat}(h1:1<=j) (h3:j<=3) (u:Value):(#[ps,lv 1,lv 2,lv 3]:Array Value).setIfInBounds j u=#[ps,(fun i=>if i=j then u else lv i) 1,(fun i=>if i=j then u else lv i) 2,(fun i=>if i=j then u else lv i) 3]:=by
 have h:j=1\/j=2\/j=3:=by omega
 rcases h with rfl | rfl | rfl <;> rfl
def oBook (o:Nat->Nat) (w:World) (cv j:Nat) (u:Value) (k:Nat):Nat:=if k < w.heap.size then (if o k=cv then 0 else o k) else if u.ownBlock=some k then 2+j else 0
theorem oBook_old {o:Nat->Nat}{w:World}{cv j:Nat}{u:Value}{k c:Nat}(hk:k < w.heap.size) (e:o k=c) (hc:c≠cv):oBook o w cv j u k=c:=by
 unfold oBook;rw [if_pos hk,if_neg (by rw [e];exact hc)];exact e
include A in
theorem Inv.book (h:Inv Rep o b n w ps lv rows prs){m:Nat}(hnm:n<=m){j:Nat}(h1:1<=j) (h3:j<=3) (hjm:(rows j).length+1<=m){cv:Nat}(hcv:cv=6\/cv=7){v u v1 v2 v3:Value}(hv:∀ k,v.ownBlock=some k->o k=cv) (hvl:∀ k,v.ownBlock=some k->k < w.heap.size)
  (hk:Booked (stT j) (elT j) (mkM j) b j #[ps,lv 1,lv 2,lv 3] (lv j) v (rows j) w u v1 v2 v3 w') :
  Inv Rep (oBook o w cv j u) b m w' ps (fun i=>if i=j then u else lv i) (fun i=>if i=j then rows j ++ [[v,v1,v2,v3,.int .i64 (rows j).length]] else rows i) prs:=by
 have T:∀ c,c≠1->c≠cv->c≠2+j->∀ k,k < w.heap.size->(k=b\/v.ownBlock=some k\/(lv j).ownBlock=some k)->o k≠c:=by
  intro c c1 c2 c3 k _ ht e
  rcases ht with rfl | ht | ht
  ·exact c1 (e.symm.trans h.cb)
  ·exact c2 (e.symm.trans (hv k ht))
  ·exact c3 (e.symm.trans (h.cj j h1 h3 k ht))
 have H:∀ c,c≠cv->∀ k,k < w.heap.size->o k=c->oBook o w cv j u k=c:=fun c hc k hk e=>oBook_old hk e hc
 have cu:∀ k,u.ownBlock=some k->oBook o w cv j u k=2+j:=fun k hu=>by
  rcases hk.fresh k hu with e | e
  ·unfold oBook;rw [if_neg (by omega),if_pos hu]
  ·exact H _ (by omega) k ((h.lj j h1 h3).now.lt e) (h.cj j h1 h3 k e)
 have cv0:∀ k,v.ownBlock=some k->oBook o w cv j u k=0:=fun k e=>by
  unfold oBook;rw [if_pos (hvl k e),if_pos (hv k e)]
 have cm:∀ k,(v1.ownBlock=some k\/v2.ownBlock=some k\/v3.ownBlock=some k)->oBook o w cv j u k=0:=fun k e=>by
  obtain ⟨a1,a2⟩:=hk.own k e
  rcases a1 with a1 | a1
  ·unfold oBook;rw [if_neg (by omega),if_neg a2]
  ·exact cv0 k a1
 have hb:=hk.at_
 rw [lv_set h1 h3] at hb
 refine ⟨h.lg.kept hk.fr (T 0 (by omega) (by omega) (by omega)) (H 0 (by omega)),Loc.heap hb (H 1 (by omega) b (Array.getElem?_eq_some_iff.1 h.lb.now).1 h.cb),H 1 (by omega) b (Array.getElem?_eq_some_iff.1 h.lb.now).1 h.cb,
  h.ls.kept hk.fr (T 2 (by omega) (by omega) (by omega)) (H 2 (by omega)),fun k e=>H 2 (by omega) k (h.ls.now.lt e) (h.cs k e),?_,?_,?_,
  fun i p hp=>(h.lx i p hp).kept hk.fr (T _ (by omega) (by omega) (by omega)) (H _ (by omega)),fun i p hp k e=>H _ (by omega) k (A.lt (h.lx i p hp).now k e) (h.cx i p hp k e),
  fun i p hp=>(h.ly i p hp).kept hk.fr (T _ (by omega) (by omega) (by omega)) (H _ (by omega)),fun i p hp k e=>H _ (by omega) k ((h.ly i p hp).now.lt e) (h.cy i p hp k e),fun i p hp=>(h.ok i p hp).mono (by omega),by have:=h.nq;omega,?_⟩
 ·intro i i1 i3
  by_cases e:i=j
  ·subst e
   simp only [if_pos]
   exact Loc.sl hk.sl cu
  ·simp only [if_neg e]
   exact (h.lj i i1 i3).kept hk.fr (T _ (by omega) (by omega) (by omega)) (H _ (by omega))
 ·intro i i1 i3 k hu
  by_cases e:i=j
  ·subst e
   simp only [if_pos] at hu
   exact cu k hu
  ·simp only [if_neg e] at hu
   exact H _ (by omega) k ((h.lj i i1 i3).now.lt hu) (h.cj i i1 i3 k hu)
 ·intro i i1 i3
  by_cases e:i=j
  ·subst e
   simp only [if_pos]
   have M0:=(h.mj i i1 i3).kept hk.fr (T 0 (by omega) (by omega) (by omega)) (H 0 (by omega))
   have N0:=Loc.marked hk.m0 cv0
   have N1:=Loc.marked hk.m1 (fun k e=>cm k (.inl e))
   have N2:=Loc.marked hk.m2 (fun k e=>cm k (.inr (.inl e)))
   have N3:=Loc.marked hk.m3 (fun k e=>cm k (.inr (.inr e)))
   refine (M0.and (N0.and (N1.and (N2.and N3)))).mono ?_
   rintro w2 ⟨m,a0,a1,a2,a3⟩ k hk2
   simp only [List.length_append,List.length_singleton] at hk2
   by_cases ek:k < (rows i).length
   ·obtain ⟨x0,x1,x2,x3,ex,y0,y1,y2,y3⟩:=m k ek
    exact ⟨x0,x1,x2,x3,by rw [List.getElem?_append_left ek];exact ex,y0,y1,y2,y3⟩
   ·have:k=(rows i).length:=by omega
    subst this
    exact ⟨v,v1,v2,v3,by simp,a0,a1,a2,a3⟩
  ·simp only [if_neg e]
   exact (h.mj i i1 i3).kept hk.fr (T 0 (by omega) (by omega) (by omega)) (H 0 (by omega))
 ·intro i i1 i3
  by_cases e:i=j
  ·subst e
   simp only [if_pos,List.length_append,List.length_singleton]
   have:=h.nj i i1 i3
   omega
  ·simp only [if_neg e]
   have:=h.nj i i1 i3
   omega
include A in
theorem Inv.pair (h:Inv Rep o b n w ps lv rows prs){i:Nat}{p p':Pr}(hp:prs[i]? = some p) (ex:p'.x=p.x) (ey:p'.y=p.y){T:Nat->Prop}(hf:Fr T w w') (hT:∀ k,k < w.heap.size->T k->o k=8+2*i\/o k=9+2*i) (ho:∀ k,k < w.heap.size->o' k=o k)
  (hx:Rep w' p'.x p'.S p'.K) (cx':∀ k,p'.S k->o' k=8+2*i) (hy:RefRep w' p'.y p'.Z p'.K) (cy':∀ k,p'.Z k->o' k=9+2*i) (hok:p'.K.Ok (n+1)) :
  Inv Rep o' b (n+1) w' ps lv rows (prs.set i p'):=by
 have Tn:∀ c,c≠8+2*i->c≠9+2*i->∀ k,k < w.heap.size->T k->o k≠c:=by
  intro c c1 c2 k hk ht e
  rcases hT k hk ht with q | q
  ·exact c1 (e.symm.trans q)
  ·exact c2 (e.symm.trans q)
 have H:∀ c k,k < w.heap.size->o k=c->o' k=c:=fun c k hk e=>(ho k hk).trans e
 have hil:=(List.getElem?_eq_some_iff.1 hp).1
 have em:(prs.set i p').map prRow=prs.map prRow:=by
  apply List.ext_getElem?
  intro q
  simp only [List.getElem?_map,List.getElem?_set]
  by_cases e:i=q
  ·subst e
   rw [if_pos rfl,if_pos hil,hp]
   simp [prRow,ex,ey]
  ·rw [if_neg e]
 have hget:∀ (q:Nat) r,(prs.set i p')[q]? = some r->(q=i/\r=p')\/(q≠i/\prs[q]? = some r):=by
  intro q r hr
  rw [List.getElem?_set] at hr
  by_cases e:i=q
  ·subst e
   rw [if_pos rfl,if_pos hil] at hr
   exact .inl ⟨rfl,(Option.some.inj hr).symm⟩
  ·rw [if_neg e] at hr
   exact .inr ⟨fun q=>e q.symm,hr⟩
 refine ⟨h.lg.kept hf (Tn 0 (by omega) (by omega)) (H _),h.lb.kept hf (Tn 1 (by omega) (by omega)) (H _),H 1 b (Array.getElem?_eq_some_iff.1 h.lb.now).1 h.cb,by rw [em];exact h.ls.kept hf (Tn 2 (by omega) (by omega)) (H _),fun k e=>H 2 k (h.ls.now.lt e) (h.cs k e),
  fun j h1 h3=>(h.lj j h1 h3).kept hf (Tn _ (by omega) (by omega)) (H _),fun j h1 h3 k e=>H _ k ((h.lj j h1 h3).now.lt e) (h.cj j h1 h3 k e),fun j h1 h3=>(h.mj j h1 h3).kept hf (Tn 0 (by omega) (by omega)) (H _),?_,?_,?_,?_,?_,by have:=h.nq;simp;omega,fun j h1 h3=>by have:=h.nj j h1 h3;omega⟩
 ·intro q r hr
  rcases hget q r hr with ⟨rfl,rfl⟩ | ⟨hne,hr⟩
  ·exact Loc.rep A hx cx'
  ·exact (h.lx q r hr).kept hf (Tn _ (by omega) (by omega)) (H _)
 ·intro q r hr k hk
  rcases hget q r hr with ⟨rfl,rfl⟩ | ⟨hne,hr⟩
  ·exact cx' k hk
  ·exact H _ k (A.lt (h.lx q r hr).now k hk) (h.cx q r hr k hk)
 ·intro q r hr
  rcases hget q r hr with ⟨rfl,rfl⟩ | ⟨hne,hr⟩
  ·exact Loc.ref hy cy'
  ·exact (h.ly q r hr).kept hf (Tn _ (by omega) (by omega)) (H _)
 ·intro q r hr k hk
  rcases hget q r hr with ⟨rfl,rfl⟩ | ⟨hne,hr⟩
  ·exact cy' k hk
  ·exact H _ k ((h.ly q r hr).now.lt hk) (h.cy q r hr k hk)
 ·intro q r hr
  rcases hget q r hr with ⟨rfl,rfl⟩ | ⟨hne,hr⟩
  ·exact hok
  ·exact (h.ok q r hr).mono (by omega)
structure Made (Rep:World->Nat->(Nat->Prop)->RM->Prop) (b:Nat) (K:RM) (ps l1 l2 l3:Value) (R:List (List Value)) (w:World) (x y:Nat) (S:Nat->Prop) (Z:Nat->Prop) (ps':Value) (w':World):Prop where
 at_:w'.heap[b]? = some (.cells #[ps',l1,l2,l3] 84 (0,0))
 sl:Sl w' 91 2 ps' (R ++ [[.pointer (some ⟨x,0,none⟩),.pointer (some ⟨y,0,none⟩)]])
 rx:Rep w' x S K
 ry:RefRep w' y Z K
 fr:Fr (fun k=>k=b\/ps.ownBlock=some k) w w'
 sx:∀ k,S k->w.heap.size<=k
 sy:∀ k,Z k->w.heap.size<=k/\¬ S k
 sp:∀ k,ps'.ownBlock=some k->(w.heap.size<=k/\¬ S k/\¬ Z k)\/ps.ownBlock=some k
open Classical in
noncomputable def oPush (o:Nat->Nat) (w:World) (i:Nat) (S T:Nat->Prop) (k:Nat):Nat:=if k < w.heap.size then o k else if S k then 8+2*i else if T k then 9+2*i else 2
include A in
theorem Inv.push (h:Inv Rep o b n w ps lv rows prs){K:RM}{x y:Nat}{S:Nat->Prop}{Z:Nat->Prop}{ps':Value}(hm:Made Rep b K ps (lv 1) (lv 2) (lv 3) (prs.map prRow) w x y S Z ps' w') (hok:K.Ok (n+1)) :
  Inv Rep (oPush o w prs.length S Z) b (n+1) w' ps' lv rows (prs ++ [⟨x,y,S,K,Z⟩]):=by
 have T:∀ c,c≠1->c≠2->∀ k,k < w.heap.size->(k=b\/ps.ownBlock=some k)->o k≠c:=by
  intro c c1 c2 k _ ht e
  rcases ht with rfl | ht
  ·exact c1 (e.symm.trans h.cb)
  ·exact c2 (e.symm.trans (h.cs k ht))
 have H:∀ c k,k < w.heap.size->o k=c->oPush o w prs.length S Z k=c:=fun c k hk e=>by unfold oPush;rw [if_pos hk];exact e
 have lb:=(Array.getElem?_eq_some_iff.1 h.lb.now).1
 have hget:∀ (q:Nat) r,(prs ++ [⟨x,y,S,K,Z⟩])[q]? = some r->(q=prs.length/\r=⟨x,y,S,K,Z⟩)\/(q < prs.length/\prs[q]? = some r):=by
  intro q r hr
  rcases Nat.lt_or_ge q prs.length with e | e
  ·rw [List.getElem?_append_left e] at hr;exact .inr ⟨e,hr⟩
  ·have hl:=(List.getElem?_eq_some_iff.1 hr).1
   simp at hl
   have:q=prs.length:=by omega
   subst this
   simp at hr
   exact .inl ⟨rfl,hr.symm⟩
 have csx:∀ k,S k->oPush o w prs.length S Z k=8+2*prs.length:=fun k hk=>by
  unfold oPush;rw [if_neg (by have:=hm.sx k hk;omega),if_pos hk]
 have csy:∀ k,Z k->oPush o w prs.length S Z k=9+2*prs.length:=fun k hk=>by
  have:=hm.sy k hk
  unfold oPush;rw [if_neg (by omega),if_neg this.2,if_pos hk]
 have csp:∀ k,ps'.ownBlock=some k->oPush o w prs.length S Z k=2:=fun k hk=>by
  rcases hm.sp k hk with e | e
  ·unfold oPush;rw [if_neg (by omega),if_neg e.2.1,if_neg e.2.2]
  ·exact H 2 k (h.ls.now.lt e) (h.cs k e)
 refine ⟨h.lg.kept hm.fr (T 0 (by omega) (by omega)) (H _),Loc.heap hm.at_ (H 1 b lb h.cb),H 1 b lb h.cb,Loc.sl (by rw [List.map_append];exact hm.sl) csp,csp,
  fun j h1 h3=>(h.lj j h1 h3).kept hm.fr (T _ (by omega) (by omega)) (H _),fun j h1 h3 k e=>H _ k ((h.lj j h1 h3).now.lt e) (h.cj j h1 h3 k e),fun j h1 h3=>(h.mj j h1 h3).kept hm.fr (T 0 (by omega) (by omega)) (H _),?_,?_,?_,?_,?_,by have:=h.nq;simp;omega,fun j h1 h3=>by have:=h.nj j h1 h3;omega⟩
 ·intro q r hr
  rcases hget q r hr with ⟨rfl,rfl⟩ | ⟨_,hr⟩
  ·exact Loc.rep A hm.rx csx
  ·exact (h.lx q r hr).kept hm.fr (T _ (by omega) (by omega)) (H _)
 ·intro q r hr k hk
  rcases hget q r hr with ⟨rfl,rfl⟩ | ⟨_,hr⟩
  ·exact csx k hk
  ·exact H _ k (A.lt (h.lx q r hr).now k hk) (h.cx q r hr k hk)
 ·intro q r hr
  rcases hget q r hr with ⟨rfl,rfl⟩ | ⟨_,hr⟩
  ·exact Loc.ref hm.ry csy
  ·exact (h.ly q r hr).kept hm.fr (T _ (by omega) (by omega)) (H _)
 ·intro q r hr k hk
  rcases hget q r hr with ⟨rfl,rfl⟩ | ⟨_,hr⟩
  ·exact csy k hk
  ·exact H _ k ((h.ly q r hr).now.lt hk) (h.cy q r hr k hk)
 ·intro q r hr
  rcases hget q r hr with ⟨rfl,rfl⟩ | ⟨_,hr⟩
  ·exact hok
  ·exact (h.ok q r hr).mono (by omega)
end
open Go.RowKit
theorem Inl.inlt' {w:World}{size:Nat}{v:Value}{rows:List (List Value)}(h:Inl w size v rows) (hs:0 < size){k:Nat}(hk:inBlock v=some k):k < w.heap.size:=by
 refine h.lt hs (fun e=>?_) hk
 subst e
 obtain ⟨a,c,rfl,_⟩:=h.form
 cases a <;> simp [inBlock] at hk
theorem t_one (T:List (Int×Int)):∀ r∈T.map tRow ++ List.replicate 8 [.int .i64 0,.int .i64 (-77)],∀ u∈r,u.oneCell'=true:=by
 intro r hr u hu
 rcases List.mem_append.1 hr with h | h
 ·obtain ⟨p,_,rfl⟩:=List.mem_map.1 h
  simp [tRow] at hu
  rcases hu with rfl | rfl <;> rfl
 ·rw [List.mem_replicate] at h
  rw [h.2] at hu
  simp at hu
  rcases hu with rfl | rfl <;> rfl
theorem q_one (T:List (Int×Int×Int×Int)):∀ r∈T.map qRow ++ List.replicate 8 [.int .i64 0,.int .i64 (-77),.int .i64 0,.int .i64 0],∀ u∈r,u.oneCell'=true:=by
 intro r hr u hu
 rcases List.mem_append.1 hr with h | h
 ·obtain ⟨p,_,rfl⟩:=List.mem_map.1 h
  simp [qRow] at hu
  rcases hu with rfl | rfl | rfl | rfl <;> rfl
 ·rw [List.mem_replicate] at h
  rw [h.2] at hu
  simp at hu
  rcases hu with rfl | rfl | rfl <;> rfl
theorem Tryz.infoN91:(Tryz.prog.info? 91).map (fun i=>(i.zero,i.size,i.bytes))=some (some (.agg #[.pointer none,.pointer none]),2,16):=by kernel_rfl
theorem Fr.after2 {S T:Nat->Prop}{a b c:World}(h:Fr S a b) (k:Fr T b c) (ht:∀ i,i < a.heap.size->T i->S i):Fr S a c:=(h.join k).mono (fun i hi e=>e.elim id (ht i hi))
theorem made_end {Rep:World->Nat->(Nat->Prop)->RM->Prop}(A:ApM Rep){b:Nat}{K:RM}{ps l1 l2 l3:Value}{R:List (List Value)}{w w5 w6 X w7:World}{x y:Nat}{S Z:Nat->Prop}{u:Value}
  (lb:b < w.heap.size) (hne:ps.ownBlock≠some b) (hps:Sl w 91 2 ps R) (B06:Below w.heap.size w w6) (RX:Rep w6 x S K) (SX:∀ k,S k->w.heap.size<=k) (SX5:∀ k,S k->k < w5.heap.size) (RY:RefRep w6 y Z K) (RYo:∀ k,Z k->w5.heap.size<=k) (z5:w.heap.size<=w5.heap.size) (z6:w5.heap.size<=w6.heap.size)
  (FX:Fr (fun _=>False) w6 X) (G:Grew 91 2 ps X u (R ++ [[.pointer (some ⟨x,0,none⟩),.pointer (some ⟨y,0,none⟩)]]) w7) (hb4:w7.heap[b]? = some (.cells #[ps,l1,l2,l3] 84 (0,0))) :
  Made Rep b K ps l1 l2 l3 R w x y S Z u (w7.setCell ⟨b,0,none⟩ u):=by
 have F7:Fr (fun k=>ps.ownBlock=some k) w6 w7:=G.fr (FX.mono (fun _ _ h=>h.elim)) (fun k hk _=>hk)
 have F8:Fr (fun k=>k=b) w7 (w7.setCell ⟨b,0,none⟩ u):=(Fr.refl (fun k=>k=b) w7).setCell (p:=⟨b,0,none⟩) (fun _=>rfl) _
 have F:=F7.join F8
 have lp:∀ k,ps.ownBlock=some k->k < w.heap.size:=fun k hk=>hps.lt hk
 have zX:=FX.size
 have uo:∀ k,u.ownBlock=some k->w6.heap.size<=k\/ps.ownBlock=some k:=fun k hk=>by
  rcases G.at_ k hk with e | e
  ·exact .inl (by omega)
  ·exact .inr e
 refine ⟨heap_setCell_same w7 b 0 _ 84 u hb4,G.sl.kept F8 (fun k hk e=>?_),A.kept RX F (fun k hk e=>?_),refRuns.kept RY F (fun k hk e=>?_),(Fr.of_below B06 _).after2 F (fun k _ e=>?_),SX,fun k hk=>⟨by have:=RYo k hk;omega,fun hs=>by have:=RYo k hk;have:=SX5 k hs;omega⟩,fun k hk=>?_⟩
 ·rcases uo k hk with h | h
  ·have:=B06.size;omega
  ·exact hne (e ▸ h)
 ·have:=SX k hk
  rcases e with e | e
  ·have:=lp k e;omega
  ·omega
 ·have:=RYo k hk
  rcases e with e | e
  ·have:=lp k e;omega
  ·omega
 ·rcases e with e | e
  ·exact .inr e
  ·exact .inl e
 ·rcases uo k hk with h | h
  ·left
   refine ⟨by have:=B06.size;omega,fun hs=>?_,fun hr=>?_⟩
   ·have:=SX5 k hs;omega
   ·have:=RY.lt hr;omega
  ·exact .inr h
structure Lent (sp:Int) (T:List (Int×Int)) (Q L:List (Int×Int×Int×Int)) (mT mP mL bt bp bl:Nat) (w:World):Prop where
 st:Sl w 34 2 (.slice (some ⟨bt,0,none⟩) (mT+8) (mT+8)) (T.map tRow ++ List.replicate 8 [.int .i64 0,.int .i64 (-77)])
 sq:Sl w 55 4 (.slice (some ⟨bp,0,none⟩) (mP+8) (mP+8)) (Q.map qRow ++ List.replicate 8 [.int .i64 0,.int .i64 (-77),.int .i64 0,.int .i64 0])
 sl:Sl w 67 4 (.slice (some ⟨bl,0,none⟩) (mL+8) (mL+8)) (L.map qRow ++ List.replicate 8 [.int .i64 0,.int .i64 (-77),.int .i64 0,.int .i64 0])
theorem Lent.below {sp:Int}{T:List (Int×Int)}{Q L:List (Int×Int×Int×Int)}{mT mP mL bt bp bl:Nat}{w w':World}(h:Lent sp T Q L mT mP mL bt bp bl w) (hb:Below w.heap.size w w'):Lent sp T Q L mT mP mL bt bp bl w':=⟨h.st.below hb,h.sq.below hb,h.sl.below hb⟩
theorem Lent.it {sp:Int}{T:List (Int×Int)}{Q L:List (Int×Int×Int×Int)}{mT mP mL bt bp bl:Nat}{w:World}(h:Lent sp T Q L mT mP mL bt bp bl w) (e:T.length=mT):Inl w 2 (.slice (some ⟨bt,0,none⟩) mT (mT+8)) (T.map tRow):=by
 have:=h.st.inl (t_one T) mT (mT+8) (by simp;omega)
 rwa [List.take_append_of_le_length (by simp;omega),List.take_of_length_le (by simp;omega)] at this
theorem Lent.iq {sp:Int}{T:List (Int×Int)}{Q L:List (Int×Int×Int×Int)}{mT mP mL bt bp bl:Nat}{w:World}(h:Lent sp T Q L mT mP mL bt bp bl w) (e:Q.length=mP):Inl w 4 (.slice (some ⟨bp,0,none⟩) mP (mP+8)) (Q.map qRow):=by
 have:=h.sq.inl (q_one Q) mP (mP+8) (by simp;omega)
 rwa [List.take_append_of_le_length (by simp;omega),List.take_of_length_le (by simp;omega)] at this
theorem Lent.il {sp:Int}{T:List (Int×Int)}{Q L:List (Int×Int×Int×Int)}{mT mP mL bt bp bl:Nat}{w:World}(h:Lent sp T Q L mT mP mL bt bp bl w) (e:L.length=mL):Inl w 4 (.slice (some ⟨bl,0,none⟩) mL (mL+8)) (L.map qRow):=by
 have:=h.sl.inl (q_one L) mL (mL+8) (by simp;omega)
 rwa [List.take_append_of_le_length (by simp;omega),List.take_of_length_le (by simp;omega)] at this
theorem cfg4 {w:World}{p:Nat}{c0 c1 c2 c3 c4 c5 c6 c7 c8 c9 c10 c11 c12 c13 a0 a1 a2 a3:Value}{t:TypeId}(h:w.heap[p]? = some (.cells #[c0,c1,c2,c3,c4,c5,c6,c7,c8,c9,c10,c11,c12,c13,a0,a1,a2,a3] t (0,0))) :
  w.cell? ⟨p,14,none⟩=some a0/\w.cell? ⟨p,15,none⟩=some a1/\w.cell? ⟨p,16,none⟩=some a2/\w.cell? ⟨p,17,none⟩=some a3:=
 ⟨(cell_of_row w p 14 _ _ _ h).trans rfl,(cell_of_row w p 15 _ _ _ h).trans rfl,(cell_of_row w p 16 _ _ _ h).trans rfl,(cell_of_row w p 17 _ _ _ h).trans rfl⟩
theorem cells3 {w:World}{p:Nat}{a0 a1 a2:Value}{t:TypeId}(h:w.heap[p]? = some (.cells #[a0,a1,a2] t (0,0))):w.cell? ⟨p,0,none⟩=some a0/\w.cell? ⟨p,1,none⟩=some a1/\w.cell? ⟨p,2,none⟩=some a2:=
 ⟨(cell_of_row w p 0 _ _ _ h).trans rfl,(cell_of_row w p 1 _ _ _ h).trans rfl,(cell_of_row w p 2 _ _ _ h).trans rfl⟩
theorem made_no {Rep:World->Nat->(Nat->Prop)->RM->Prop}(A:ApM Rep) (b:Nat) (kd ka kb kcc kd2 kn:Int) (ky:Bool) (m0 m2 m3 m4 m5 m6:Int) (aw:Option Addr) (nw cw:Nat) (sp:Int) (aT aP aL:Option Addr) (mT mP mL cT cP cL:Nat) (T:List (Int×Int)) (Q L:List (Int×Int×Int×Int)) (w:World) (hgl:Gl w) (bT:mT<=8796093022208) (bP:mP<=4398046511104) (bL:mL<=4398046511104) (eT:T.length=mT) (eP:Q.length=mP) (eL:L.length=mL) (iT:Inl w 2 (.slice aT mT cT) (T.map tRow)) (iP:Inl w 4 (.slice aP mP cP) (Q.map qRow)) (iL:Inl w 4 (.slice aL mL cL) (L.map qRow)) (hf:¬ Fits sp T Q L) :
  Calls Tryz.prog 34 #[.pointer (some ⟨b,0,none⟩),.agg #[.int .i64 kd,.int .i64 ka,.int .i64 kb,.int .i64 kcc,.int .i64 kd2,.int .i64 kn,.bool ky,.int .i64 m0,.slice aw nw cw,.int .i64 m2,.int .i64 m3,.int .i64 m4,.int .i64 m5,.int .i64 m6,.int .i64 sp,.slice aT mT cT,.slice aP mP cP,.slice aL mL cL]] w fun e w'=>e=.returned (.bool true)/\Below w.heap.size w w':=by
 have C:=lentConfig_any sp (.slice aT mT cT) (.slice aP mP cP) (.slice aL mL cL) T Q L (w.alloc (.cells #[.int .i64 kd,.int .i64 ka,.int .i64 kb,.int .i64 kcc,.int .i64 kd2,.int .i64 kn,.bool ky,.int .i64 m0,.slice aw nw cw,.int .i64 m2,.int .i64 m3,.int .i64 m4,.int .i64 m5,.int .i64 m6,.int .i64 sp,.slice aT mT cT,.slice aP mP cP,.slice aL mL cL] 87)) (by omega) (by omega) (by omega) (iT.alloc (by omega) _) (iP.alloc (by omega) _) (iL.alloc (by omega) _)
 rw [eT,eP,eL] at C
 have HC:=hid C
 have HI:=hid (And.intro iT (And.intro iP (And.intro iL (And.intro eT (And.intro eP (And.intro eL (And.intro hf hgl)))))))
 clear C iT iP iL eT eP eL hf hgl
 go_enter Tryz.func34,Tryz.ntmps34
 go_wp2_with fail
 refine HC.out.mono ?_
 rintro e w2 ⟨bt,bp,bl,rfl,s1,s2,s3,B2,z1,z2,z3,n1,n2,n3⟩
 have LE:Lent sp T Q L mT mP mL bt bp bl w2:=⟨s1,s2,s3⟩
 clear s1 s2 s3
 simp only [size_alloc] at z1 z2 z3
 have y2:=B2.size
 simp only [size_alloc] at y2
 have B2':Below w.heap.size w w2:=((Below.refl _ w).alloc (Nat.le_refl _) _).trans (B2.mono (by simp))
 have p2:w2.heap[w.heap.size]? = some (.cells #[.int .i64 kd,.int .i64 ka,.int .i64 kb,.int .i64 kcc,.int .i64 kd2,.int .i64 kn,.bool ky,.int .i64 m0,.slice aw nw cw,.int .i64 m2,.int .i64 m3,.int .i64 m4,.int .i64 m5,.int .i64 m6,.int .i64 sp,.slice aT mT cT,.slice aP mP cP,.slice aL mL cL] 87):=(B2.block _ (by simp)).trans (heap_alloc_new w _)
 have B3:Below w2.heap.size w2 ((w2.alloc (.cells #[.int .i64 sp,.slice (some ⟨bt,0,none⟩) mT (mT+8),.slice (some ⟨bp,0,none⟩) mP (mP+8),.slice (some ⟨bl,0,none⟩) mL (mL+8)] 32)).alloc (.cells #[.slice (some ⟨bt,0,none⟩) (mT+8) (mT+8),.slice (some ⟨bp,0,none⟩) (mP+8) (mP+8),.slice (some ⟨bl,0,none⟩) (mL+8) (mL+8)] 129)):=((Below.refl _ w2).alloc (Nat.le_refl _) _).alloc (by simp) _
 have LE3:=LE.below B3
 have g3:Gl ((w2.alloc (.cells #[.int .i64 sp,.slice (some ⟨bt,0,none⟩) mT (mT+8),.slice (some ⟨bp,0,none⟩) mP (mP+8),.slice (some ⟨bl,0,none⟩) mL (mL+8)] 32)).alloc (.cells #[.slice (some ⟨bt,0,none⟩) (mT+8) (mT+8),.slice (some ⟨bp,0,none⟩) (mP+8) (mP+8),.slice (some ⟨bl,0,none⟩) (mL+8) (mL+8)] 129)):=((HI.out.2.2.2.2.2.2.2.below B2').below B3)
 have D:=A.new_no sp _ _ _ T Q L ((w2.alloc (.cells #[.int .i64 sp,.slice (some ⟨bt,0,none⟩) mT (mT+8),.slice (some ⟨bp,0,none⟩) mP (mP+8),.slice (some ⟨bl,0,none⟩) mL (mL+8)] 32)).alloc (.cells #[.slice (some ⟨bt,0,none⟩) (mT+8) (mT+8),.slice (some ⟨bp,0,none⟩) (mP+8) (mP+8),.slice (some ⟨bl,0,none⟩) (mL+8) (mL+8)] 129)) g3 (LE3.it HI.out.2.2.2.1) (LE3.iq HI.out.2.2.2.2.1) (LE3.il HI.out.2.2.2.2.2.1) HI.out.2.2.2.2.2.2.1
 have h55:((w2.alloc (.cells #[.int .i64 sp,.slice (some ⟨bt,0,none⟩) mT (mT+8),.slice (some ⟨bp,0,none⟩) mP (mP+8),.slice (some ⟨bl,0,none⟩) mL (mL+8)] 32)).alloc (.cells #[.slice (some ⟨bt,0,none⟩) (mT+8) (mT+8),.slice (some ⟨bp,0,none⟩) (mP+8) (mP+8),.slice (some ⟨bl,0,none⟩) (mL+8) (mL+8)] 129)).heap[w2.heap.size+1]? = some (.cells #[.slice (some ⟨bt,0,none⟩) (mT+8) (mT+8),.slice (some ⟨bp,0,none⟩) (mP+8) (mP+8),.slice (some ⟨bl,0,none⟩) (mL+8) (mL+8)] 129):=heap_alloc2_new w2 _ _
 have p3:((w2.alloc (.cells #[.int .i64 sp,.slice (some ⟨bt,0,none⟩) mT (mT+8),.slice (some ⟨bp,0,none⟩) mP (mP+8),.slice (some ⟨bl,0,none⟩) mL (mL+8)] 32)).alloc (.cells #[.slice (some ⟨bt,0,none⟩) (mT+8) (mT+8),.slice (some ⟨bp,0,none⟩) (mP+8) (mP+8),.slice (some ⟨bl,0,none⟩) (mL+8) (mL+8)] 129)).heap[w.heap.size]? = some (.cells #[.int .i64 kd,.int .i64 ka,.int .i64 kb,.int .i64 kcc,.int .i64 kd2,.int .i64 kn,.bool ky,.int .i64 m0,.slice aw nw cw,.int .i64 m2,.int .i64 m3,.int .i64 m4,.int .i64 m5,.int .i64 m6,.int .i64 sp,.slice aT mT cT,.slice aP mP cP,.slice aL mL cL] 87):=(B3.block _ (by omega)).trans p2
 have HD:=hid (And.intro D (And.intro h55 (And.intro p3 (And.intro LE3 (And.intro B2' (And.intro B3 LE))))))
 have y3:((w2.alloc (.cells #[.int .i64 sp,.slice (some ⟨bt,0,none⟩) mT (mT+8),.slice (some ⟨bp,0,none⟩) mP (mP+8),.slice (some ⟨bl,0,none⟩) mL (mL+8)] 32)).alloc (.cells #[.slice (some ⟨bt,0,none⟩) (mT+8) (mT+8),.slice (some ⟨bp,0,none⟩) (mP+8) (mP+8),.slice (some ⟨bl,0,none⟩) (mL+8) (mL+8)] 129)).heap.size=w2.heap.size+2:=by simp
 clear D h55 p3 LE3 B2' B3 LE g3 p2 B2
 have BK:∀ w4,Lent sp T Q L mT mP mL bt bp bl w4->Below w.heap.size w w4->Calls Tryz.prog 57 #[.agg #[.slice (some ⟨bt,0,none⟩) (mT+8) (mT+8),.slice (some ⟨bp,0,none⟩) (mP+8) (mP+8),.slice (some ⟨bl,0,none⟩) (mL+8) (mL+8)],.agg #[.int .i64 sp,.slice aT mT cT,.slice aP mP cP,.slice aL mL cL]] w4 fun e w'=>e=.returned (.bool true)/\Fr (fun q=>q=bt\/q=bp\/q=bl) w4 w':=by
  intro w4 le bw
  have h:=backConfig_any sp (.slice aT mT cT) (.slice aP mP cP) (.slice aL mL cL) T Q L bt bp bl w4 (by have:=HI.out.2.2.2.1;omega) (by have:=HI.out.2.2.2.2.1;omega) (by have:=HI.out.2.2.2.2.2.1;omega) (HI.out.1.below (by omega) bw) (HI.out.2.1.below (by omega) bw) (HI.out.2.2.1.below (by omega) bw)
   (by rw [HI.out.2.2.2.1];exact le.st) (by rw [HI.out.2.2.2.2.1];exact le.sq) (by rw [HI.out.2.2.2.2.2.1];exact le.sl) (fun k hk=>by
    have:k < w.heap.size:=by
     rcases hk with h | h | h
     ·exact HI.out.1.inlt' (by omega) h
     ·exact HI.out.2.1.inlt' (by omega) h
     ·exact HI.out.2.2.1.inlt' (by omega) h
    omega) n1 n2 n3
  rw [HI.out.2.2.2.1,HI.out.2.2.2.2.1,HI.out.2.2.2.2.2.1] at h
  exact h
 have RN:∀ w5,Below w.heap.size w w5->Calls Tryz.prog 58 #[.agg #[.int .i64 sp,.slice aT mT cT,.slice aP mP cP,.slice aL mL cL]] w5 fun e w'=>e=.returned (.tuple #[.pointer none,.int .i64 1])/\Below w5.heap.size w5 w':=
  fun w5 bw=>refNew_no sp _ _ _ T Q L w5 (HI.out.1.below (by omega) bw) (HI.out.2.1.below (by omega) bw) (HI.out.2.2.1.below (by omega) bw) HI.out.2.2.2.2.2.2.1
 have HBK:=hid (And.intro BK RN)
 clear BK RN
 go_wp2_with (first
  | (go_at_call 42;refine HD.out.1.mono ?_;rintro e w4 ⟨rfl,B4⟩;rw [y3] at B4;have q55:=(B4.block (w2.heap.size+1) (by omega)).trans HD.out.2.1;have qp:=(B4.block w.heap.size (by omega)).trans HD.out.2.2.1;obtain ⟨e0,e1,e2⟩:=cells3 q55;obtain ⟨f0,f1,f2,f3⟩:=cfg4 qp;have LE4:=HD.out.2.2.2.1.below (by rw [y3];exact B4);have y4:=B4.size;rw [y3] at y4;have B04:Below w.heap.size w w4:=(HD.out.2.2.2.2.1.trans (HD.out.2.2.2.2.2.1.mono (by omega))).trans (B4.mono (by omega));have HQ:=hid (And.intro LE4 (And.intro B04 qp));clear B4 q55 qp LE4 B04)
  | (go_at_call 57;refine (HBK.out.1 w4 HQ.out.1 HQ.out.2.1).mono ?_;rintro e w5 ⟨rfl,F5⟩;have B05:Below w.heap.size w w5:=HQ.out.2.1.trans (F5.to_below HQ.out.2.1.size (fun k e=>by omega));have qp5:=(F5.block w.heap.size (Array.getElem?_eq_some_iff.1 HQ.out.2.2).1 (by omega)).trans HQ.out.2.2;obtain ⟨h0,h1,h2,h3⟩:=cfg4 qp5;replace B05:=hid B05;clear F5 qp5)
  | (go_at_call 58;refine (HBK.out.2 w5 B05.out).mono ?_;rintro e w6 ⟨rfl,B6⟩;replace B6:=hid B6))
 go_ret
 exact ⟨rfl,B05.out.trans (B6.out.mono B05.out.size)⟩
theorem made_yes {Rep:World->Nat->(Nat->Prop)->RM->Prop}(A:ApM Rep) (b:Nat) (kd ka kb kcc kd2 kn:Int) (ky:Bool) (m0 m2 m3 m4 m5 m6:Int) (aw:Option Addr) (nw cw:Nat) (sp:Int) (aT aP aL:Option Addr) (mT mP mL cT cP cL:Nat) (T:List (Int×Int)) (Q L:List (Int×Int×Int×Int)) (w:World) (hgl:Gl w) (bT:mT<=8796093022208) (bP:mP<=4398046511104) (bL:mL<=4398046511104) (eT:T.length=mT) (eP:Q.length=mP) (eL:L.length=mL) (iT:Inl w 2 (.slice aT mT cT) (T.map tRow)) (iP:Inl w 4 (.slice aP mP cP) (Q.map qRow)) (iL:Inl w 4 (.slice aL mL cL) (L.map qRow)) (hf:Fits sp T Q L) (bQQ:Q.length<=1000000000000) (bLL:L.length<=1000000000000) (ps l1 l2 l3:Value) (R:List (List Value)) (hwb:w.heap[b]? = some (.cells #[ps,l1,l2,l3] 84 (0,0))) (hps:Sl w 91 2 ps R) (hR:R.length<=1000000000000) (hne:ps.ownBlock≠some b) :
  Calls Tryz.prog 34 #[.pointer (some ⟨b,0,none⟩),.agg #[.int .i64 kd,.int .i64 ka,.int .i64 kb,.int .i64 kcc,.int .i64 kd2,.int .i64 kn,.bool ky,.int .i64 m0,.slice aw nw cw,.int .i64 m2,.int .i64 m3,.int .i64 m4,.int .i64 m5,.int .i64 m6,.int .i64 sp,.slice aT mT cT,.slice aP mP cP,.slice aL mL cL]] w fun e w'=>e=.returned (.bool true)/\∃ x y S Z ps',Made Rep b (RK.new sp T Q L).up ps l1 l2 l3 R w x y S Z ps' w':=by
 obtain ⟨i0,hi0,hz0,hz1,hz2⟩:=info_parts Tryz.infoN91
 obtain ⟨ap,cp,eps⟩:=hps.slice
 obtain ⟨mR,hmR⟩:∃ m,R.length=m:=⟨_,rfl⟩
 rw [hmR] at eps hR
 subst eps
 have lb:=(Array.getElem?_eq_some_iff.1 hwb).1
 have HW:=hid (And.intro hwb (And.intro hps (And.intro hne (And.intro hmR (And.intro bQQ bLL)))))
 clear hwb hps hne hmR bQQ bLL
 have C:=lentConfig_any sp (.slice aT mT cT) (.slice aP mP cP) (.slice aL mL cL) T Q L (w.alloc (.cells #[.int .i64 kd,.int .i64 ka,.int .i64 kb,.int .i64 kcc,.int .i64 kd2,.int .i64 kn,.bool ky,.int .i64 m0,.slice aw nw cw,.int .i64 m2,.int .i64 m3,.int .i64 m4,.int .i64 m5,.int .i64 m6,.int .i64 sp,.slice aT mT cT,.slice aP mP cP,.slice aL mL cL] 87)) (by omega) (by omega) (by omega) (iT.alloc (by omega) _) (iP.alloc (by omega) _) (iL.alloc (by omega) _)
 rw [eT,eP,eL] at C
 have HC:=hid C
 have HI:=hid (And.intro iT (And.intro iP (And.intro iL (And.intro eT (And.intro eP (And.intro eL (And.intro hf hgl)))))))
 clear C iT iP iL eT eP eL hf hgl
 go_enter Tryz.func34,Tryz.ntmps34
 go_wp2_with fail
 refine HC.out.mono ?_
 rintro e w2 ⟨bt,bp,bl,rfl,s1,s2,s3,B2,z1,z2,z3,n1,n2,n3⟩
 have LE:Lent sp T Q L mT mP mL bt bp bl w2:=⟨s1,s2,s3⟩
 clear s1 s2 s3
 simp only [size_alloc] at z1 z2 z3
 have y2:=B2.size
 simp only [size_alloc] at y2
 have B2':Below w.heap.size w w2:=((Below.refl _ w).alloc (Nat.le_refl _) _).trans (B2.mono (by simp))
 have p2:w2.heap[w.heap.size]? = some (.cells #[.int .i64 kd,.int .i64 ka,.int .i64 kb,.int .i64 kcc,.int .i64 kd2,.int .i64 kn,.bool ky,.int .i64 m0,.slice aw nw cw,.int .i64 m2,.int .i64 m3,.int .i64 m4,.int .i64 m5,.int .i64 m6,.int .i64 sp,.slice aT mT cT,.slice aP mP cP,.slice aL mL cL] 87):=(B2.block _ (by simp)).trans (heap_alloc_new w _)
 have B3:Below w2.heap.size w2 ((w2.alloc (.cells #[.int .i64 sp,.slice (some ⟨bt,0,none⟩) mT (mT+8),.slice (some ⟨bp,0,none⟩) mP (mP+8),.slice (some ⟨bl,0,none⟩) mL (mL+8)] 32)).alloc (.cells #[.slice (some ⟨bt,0,none⟩) (mT+8) (mT+8),.slice (some ⟨bp,0,none⟩) (mP+8) (mP+8),.slice (some ⟨bl,0,none⟩) (mL+8) (mL+8)] 129)):=((Below.refl _ w2).alloc (Nat.le_refl _) _).alloc (by simp) _
 have LE3:=LE.below B3
 have g3:Gl ((w2.alloc (.cells #[.int .i64 sp,.slice (some ⟨bt,0,none⟩) mT (mT+8),.slice (some ⟨bp,0,none⟩) mP (mP+8),.slice (some ⟨bl,0,none⟩) mL (mL+8)] 32)).alloc (.cells #[.slice (some ⟨bt,0,none⟩) (mT+8) (mT+8),.slice (some ⟨bp,0,none⟩) (mP+8) (mP+8),.slice (some ⟨bl,0,none⟩) (mL+8) (mL+8)] 129)):=((HI.out.2.2.2.2.2.2.2.below B2').below B3)
 have D:=A.new_yes sp _ _ _ T Q L ((w2.alloc (.cells #[.int .i64 sp,.slice (some ⟨bt,0,none⟩) mT (mT+8),.slice (some ⟨bp,0,none⟩) mP (mP+8),.slice (some ⟨bl,0,none⟩) mL (mL+8)] 32)).alloc (.cells #[.slice (some ⟨bt,0,none⟩) (mT+8) (mT+8),.slice (some ⟨bp,0,none⟩) (mP+8) (mP+8),.slice (some ⟨bl,0,none⟩) (mL+8) (mL+8)] 129)) (LE3.it HI.out.2.2.2.1) (LE3.iq HI.out.2.2.2.2.1) (LE3.il HI.out.2.2.2.2.2.1) HI.out.2.2.2.2.2.2.1
 have h55:((w2.alloc (.cells #[.int .i64 sp,.slice (some ⟨bt,0,none⟩) mT (mT+8),.slice (some ⟨bp,0,none⟩) mP (mP+8),.slice (some ⟨bl,0,none⟩) mL (mL+8)] 32)).alloc (.cells #[.slice (some ⟨bt,0,none⟩) (mT+8) (mT+8),.slice (some ⟨bp,0,none⟩) (mP+8) (mP+8),.slice (some ⟨bl,0,none⟩) (mL+8) (mL+8)] 129)).heap[w2.heap.size+1]? = some (.cells #[.slice (some ⟨bt,0,none⟩) (mT+8) (mT+8),.slice (some ⟨bp,0,none⟩) (mP+8) (mP+8),.slice (some ⟨bl,0,none⟩) (mL+8) (mL+8)] 129):=heap_alloc2_new w2 _ _
 have p3:((w2.alloc (.cells #[.int .i64 sp,.slice (some ⟨bt,0,none⟩) mT (mT+8),.slice (some ⟨bp,0,none⟩) mP (mP+8),.slice (some ⟨bl,0,none⟩) mL (mL+8)] 32)).alloc (.cells #[.slice (some ⟨bt,0,none⟩) (mT+8) (mT+8),.slice (some ⟨bp,0,none⟩) (mP+8) (mP+8),.slice (some ⟨bl,0,none⟩) (mL+8) (mL+8)] 129)).heap[w.heap.size]? = some (.cells #[.int .i64 kd,.int .i64 ka,.int .i64 kb,.int .i64 kcc,.int .i64 kd2,.int .i64 kn,.bool ky,.int .i64 m0,.slice aw nw cw,.int .i64 m2,.int .i64 m3,.int .i64 m4,.int .i64 m5,.int .i64 m6,.int .i64 sp,.slice aT mT cT,.slice aP mP cP,.slice aL mL cL] 87):=(B3.block _ (by omega)).trans p2
 have HD:=hid (And.intro D (And.intro h55 (And.intro p3 (And.intro LE3 (And.intro B2' (And.intro B3 LE))))))
 have y3:((w2.alloc (.cells #[.int .i64 sp,.slice (some ⟨bt,0,none⟩) mT (mT+8),.slice (some ⟨bp,0,none⟩) mP (mP+8),.slice (some ⟨bl,0,none⟩) mL (mL+8)] 32)).alloc (.cells #[.slice (some ⟨bt,0,none⟩) (mT+8) (mT+8),.slice (some ⟨bp,0,none⟩) (mP+8) (mP+8),.slice (some ⟨bl,0,none⟩) (mL+8) (mL+8)] 129)).heap.size=w2.heap.size+2:=by simp
 clear D h55 p3 LE3 B2' B3 LE g3 p2 B2
 have BK:∀ w4,Lent sp T Q L mT mP mL bt bp bl w4->Below w.heap.size w w4->Calls Tryz.prog 57 #[.agg #[.slice (some ⟨bt,0,none⟩) (mT+8) (mT+8),.slice (some ⟨bp,0,none⟩) (mP+8) (mP+8),.slice (some ⟨bl,0,none⟩) (mL+8) (mL+8)],.agg #[.int .i64 sp,.slice aT mT cT,.slice aP mP cP,.slice aL mL cL]] w4 fun e w'=>e=.returned (.bool true)/\Fr (fun q=>q=bt\/q=bp\/q=bl) w4 w':=by
  intro w4 le bw
  have h:=backConfig_any sp (.slice aT mT cT) (.slice aP mP cP) (.slice aL mL cL) T Q L bt bp bl w4 (by have:=HI.out.2.2.2.1;omega) (by have:=HI.out.2.2.2.2.1;omega) (by have:=HI.out.2.2.2.2.2.1;omega) (HI.out.1.below (by omega) bw) (HI.out.2.1.below (by omega) bw) (HI.out.2.2.1.below (by omega) bw)
   (by rw [HI.out.2.2.2.1];exact le.st) (by rw [HI.out.2.2.2.2.1];exact le.sq) (by rw [HI.out.2.2.2.2.2.1];exact le.sl) (fun k hk=>by
    have:k < w.heap.size:=by
     rcases hk with h | h | h
     ·exact HI.out.1.inlt' (by omega) h
     ·exact HI.out.2.1.inlt' (by omega) h
     ·exact HI.out.2.2.1.inlt' (by omega) h
    omega) n1 n2 n3
  rw [HI.out.2.2.2.1,HI.out.2.2.2.2.1,HI.out.2.2.2.2.2.1] at h
  exact h
 have RN:∀ w5,Below w.heap.size w w5->Calls Tryz.prog 58 #[.agg #[.int .i64 sp,.slice aT mT cT,.slice aP mP cP,.slice aL mL cL]] w5 fun e w'=>∃ y Z,e=.returned (.tuple #[.pointer (some ⟨y,0,none⟩),.int .i64 0])/\RefRep w' y Z (RK.new sp T Q L).up/\Below w5.heap.size w5 w'/\∀ k,Z k->w5.heap.size<=k:=
  fun w5 bw=>refNewM_yes sp _ _ _ T Q L w5 (HI.out.1.below (by omega) bw) (HI.out.2.1.below (by omega) bw) (HI.out.2.2.1.below (by omega) bw) HI.out.2.2.2.2.2.2.1
 have HBK:=hid (And.intro BK RN)
 clear BK RN
 go_wp2_with (first
  | (go_at_call 42;refine HD.out.1.mono ?_;rintro e w4 ⟨x,S,rfl,RX,B4,SX⟩;rw [y3] at B4 SX;have q55:=(B4.block (w2.heap.size+1) (by omega)).trans HD.out.2.1;have qp:=(B4.block w.heap.size (by omega)).trans HD.out.2.2.1;obtain ⟨e0,e1,e2⟩:=cells3 q55;obtain ⟨f0,f1,f2,f3⟩:=cfg4 qp;have LE4:=HD.out.2.2.2.1.below (by rw [y3];exact B4);have y4:=B4.size;rw [y3] at y4;have B04:Below w.heap.size w w4:=(HD.out.2.2.2.2.1.trans (HD.out.2.2.2.2.2.1.mono (by omega))).trans (B4.mono (by omega));have lt2:bt < w2.heap.size/\bp < w2.heap.size/\bl < w2.heap.size:=⟨HD.out.2.2.2.2.2.2.st.lt rfl,HD.out.2.2.2.2.2.2.sq.lt rfl,HD.out.2.2.2.2.2.2.sl.lt rfl⟩;have HQ:=hid (And.intro LE4 (And.intro B04 (And.intro qp (And.intro RX (And.intro SX lt2)))));clear B4 q55 qp LE4 B04 RX SX lt2)
  | (go_at_call 57;refine (HBK.out.1 w4 HQ.out.1 HQ.out.2.1).mono ?_;rintro e w5 ⟨rfl,F5⟩;have B05:Below w.heap.size w w5:=HQ.out.2.1.trans (F5.to_below HQ.out.2.1.size (fun k e=>by omega));have qp5:=(F5.block w.heap.size (Array.getElem?_eq_some_iff.1 HQ.out.2.2.1).1 (by omega)).trans HQ.out.2.2.1;obtain ⟨h0,h1,h2,h3⟩:=cfg4 qp5;have RX5:=A.kept HQ.out.2.2.2.1 F5 (fun k hk e=>by have h1:=HQ.out.2.2.2.2.1 k hk;have h2:=HQ.out.2.2.2.2.2;omega);have y5:=F5.size;have H5:=hid (And.intro B05 RX5);clear F5 qp5 B05 RX5)
  | (go_at_call 58;refine (HBK.out.2 w5 H5.out.1).mono ?_;rintro e w6 ⟨y,Z,rfl,RY,B6,Y2⟩;have Y1:True:=trivial;have B06:Below w.heap.size w w6:=H5.out.1.trans (B6.mono H5.out.1.size);have wb6:=(B06.block b lb).trans HW.out.1;have cps6:w6.cell? ⟨b,0,none⟩=some (.slice ap mR cp):=(cell_of_row w6 b 0 _ _ _ wb6).trans rfl;have lb6:b < w6.heap.size:=(Array.getElem?_eq_some_iff.1 wb6).1;have RX6:=A.kept H5.out.2 (Fr.of_below B6 (fun _=>False)) (fun _ _ h=>h);have sl6:=HW.out.2.1.below B06;have H6:=hid (And.intro RY (And.intro B6 (And.intro Y1 (And.intro Y2 (And.intro B06 (And.intro wb6 (And.intro RX6 sl6)))))));clear RY B6 Y1 Y2 B06 wb6 RX6 sl6)
  | (at_builtin;go_must (refine wpList_append_sl _ rfl _ _ 77 rfl 91 i0 _ 2 16 Tryz.underlying77 hi0 hz0 hz1 hz2 rfl (by decide) (.slice ap mR cp) R rfl (H6.out.2.2.2.2.2.2.2.alloc _) ⟨w6.heap.size,0,none⟩ 1 1 [[.pointer (some ⟨x,0,none⟩),.pointer (some ⟨y,0,none⟩)]] rfl rfl (by decide) (by simp) (fun j u h=>cell_news w6 #[.pointer (some ⟨x,0,none⟩),.pointer (some ⟨y,0,none⟩)] 91 j u (by simpa using h)) (fun u hu=>by simp at hu;rcases hu with rfl | rfl <;> rfl) (by have:=HW.out.2.2.2.1;unfold maxLen;omega) (by have:=HW.out.2.2.2.1;omega) ?_);intro a4 c4 w7 G4;have hb4:Hid (w7.heap[b]? = some (.cells #[.slice ap mR cp,l1,l2,l3] 84 (0,0))):=(G4.old (by simp;omega) HW.out.2.2.1).trans (((Fr.refl (fun _=>False) w6).alloc _).block _ lb6 id |>.trans H6.out.2.2.2.2.2.1);have hc4:w7.cell? ⟨b,0,none⟩=some (.slice ap mR cp):=(cell_of_row w7 _ 0 _ _ _ hb4.out).trans rfl;have hf4:w7.frozen? ⟨b,0,none⟩=false:=frozen_of_row _ _ _ _ _ hb4.out))
 go_ret
 have e6:=H6.out
 have hs5:∀ k,S k->k < w5.heap.size:=fun k hk=>A.lt H5.out.2 k hk
 refine ⟨rfl,x,y,S,Z,_,made_end A lb HW.out.2.2.1 HW.out.2.1 e6.2.2.2.2.1 e6.2.2.2.2.2.2.1 (fun k hk=>by have:=HQ.out.2.2.2.2.1 k hk;omega) hs5 e6.1 (fun k hk=>?_) H5.out.1.size e6.2.1.size ((Fr.refl (fun _=>False) w6).alloc _) G4 hb4.out⟩
 exact e6.2.2.2.1 k hk
open Go.RowKit
theorem Sl.asInl {w:World}{e:TypeId}{size:Nat}{v:Value}{rows:List (List Value)}(h:Sl w e size v rows) (h1:∀ r∈rows,∀ u∈r,u.oneCell'=true):Inl w size v rows:=by
 rcases h.own.2 with ⟨e1,e2⟩ | ⟨g,cap,cur,e1,_,hg,h3,h4,h5,h6⟩
 ·have:rows=[]:=List.eq_nil_of_length_eq_zero e2
  subst this
  exact ⟨by simp,by simp,none,0,e1,by simp,.inl rfl⟩
 ·subst e1
  have:=h.inl h1 rows.length cap (Nat.le_refl _)
  rwa [List.take_of_length_le (Nat.le_refl _)] at this
theorem opBox {w:World}{p:Nat}{c0 c1 c2 c3 c4 c5 c6 c7 c8 c9 c10 c11 c12 c13 a0 a1 a2 a3:Value}{t:TypeId}(h:w.heap[p]? = some (.cells #[c0,c1,c2,c3,c4,c5,c6,c7,c8,c9,c10,c11,c12,c13,a0,a1,a2,a3] t (0,0))) :
  w.cell? ⟨p,0,none⟩=some c0/\w.cell? ⟨p,2,none⟩=some c2:=⟨(cell_of_row w p 0 _ _ _ h).trans rfl,(cell_of_row w p 2 _ _ _ h).trans rfl⟩
theorem prBox {w:World}{p:Nat}{a0 a1:Value}{t:TypeId}(h:w.heap[p]? = some (.cells #[a0,a1] t (0,0))):w.cell? ⟨p,0,none⟩=some a0/\w.cell? ⟨p,1,none⟩=some a1:=⟨(cell_of_row w p 0 _ _ _ h).trans rfl,(cell_of_row w p 1 _ _ _ h).trans rfl⟩
theorem lnI_one {ws:List Int}:∀ r∈ws.map lnI,∀ u∈r,u.oneCell'=true:=by
 intro r hr u hu
 obtain ⟨p,_,rfl⟩:=List.mem_map.1 hr
 simp [lnI] at hu
 rw [hu];rfl
theorem lnI_flat (ws:List Int):(ws.map lnI).flatten=ws.map (Value.int .i64):=by
 induction ws with
 | nil=>rfl
 | cons a r ih=>simp only [List.map_cons,List.flatten_cons,ih];rfl
theorem told_look (b:Nat) (ws:List Int) (hws:ws.length<=4) (ka kb kcc kd2 kn:Int) (ky:Bool) (m0 m2 m3 m4 m5 m6:Int) (aw:Option Addr) (nw cw:Nat) (sp:Int) (aT aP aL:Option Addr) (mT mP mL cT cP cL:Nat) (x y:Nat) (q0 q1 q2 q3 q4:Int) (ps l1 l2 l3:Value) (rows:List (List Value)) (w:World)
  (HX:∀ w1,Below w.heap.size w w1->Calls Tryz.prog 40 #[.pointer (some ⟨x,0,none⟩),.int .i64 kb] w1 fun e w'=>∃ v,e=.returned (.tuple #[.agg #[.int .i64 q0,.int .i64 q1,.int .i64 q2,v,.int .i64 q3],.int .i64 q4])/\Sl w' 2 1 v (ws.map lnI)/\Below w1.heap.size w1 w'/\∀ b,v.ownBlock=some b->w1.heap.size<=b)
  (HY:∀ w1,Below w.heap.size w w1->Calls Tryz.prog 109 #[.pointer (some ⟨y,0,none⟩),.int .i64 kb] w1 fun e w'=>∃ v,e=.returned (.tuple #[.agg #[.int .i64 q0,.int .i64 q1,.int .i64 q2,v,.int .i64 q3],.int .i64 q4])/\Inl w' 1 v (ws.map lnI)/\Below w1.heap.size w1 w')
  (hb:w.heap[b]? = some (.cells #[ps,l1,l2,l3] 84 (0,0))) (hs:Sl w 138 5 l1 rows) (hr:rows.length<=1000000000000) (hne:l1.ownBlock≠some b) :
  Calls Tryz.prog 70 #[.pointer (some ⟨b,0,none⟩),.agg #[.int .i64 11,.int .i64 ka,.int .i64 kb,.int .i64 kcc,.int .i64 kd2,.int .i64 kn,.bool ky,.int .i64 m0,.slice aw nw cw,.int .i64 m2,.int .i64 m3,.int .i64 m4,.int .i64 m5,.int .i64 m6,.int .i64 sp,.slice aT mT cT,.slice aP mP cP,.slice aL mL cL],.agg #[.pointer (some ⟨x,0,none⟩),.pointer (some ⟨y,0,none⟩)]] w fun e w'=>e=.returned (.bool true)/\∃ v u v1 v2 v3 w0,Below w.heap.size w w0/\(∀ k,v.ownBlock=some k->w.heap.size<=k/\k < w0.heap.size)/\Booked 138 2 mk1 b 1 #[ps,l1,l2,l3] l1 v rows w0 u v1 v2 v3 w':=by
 have lb:=(Array.getElem?_eq_some_iff.1 hb).1
 have HW:=hid (And.intro hb (And.intro hs (And.intro hr hne)))
 have HC:=hid (And.intro HX HY)
 obtain ⟨mw,hmw⟩:∃ mw,ws.length=mw:=⟨_,rfl⟩
 have HM:=hid hmw
 rw [hmw] at hws
 clear HX HY hb hs hr hne
 go_enter Tryz.func70,Tryz.ntmps70
 go_wp2_with fail
 have B1:Below w.heap.size w ((w.alloc (.cells #[.int .i64 11,.int .i64 ka,.int .i64 kb,.int .i64 kcc,.int .i64 kd2,.int .i64 kn,.bool ky,.int .i64 m0,.slice aw nw cw,.int .i64 m2,.int .i64 m3,.int .i64 m4,.int .i64 m5,.int .i64 m6,.int .i64 sp,.slice aT mT cT,.slice aP mP cP,.slice aL mL cL] 87)).alloc (.cells #[.pointer (some ⟨x,0,none⟩),.pointer (some ⟨y,0,none⟩)] 91)):=((Below.refl _ w).alloc (Nat.le_refl _) _).alloc (by simp) _
 refine (HC.out.1 _ B1).mono ?_
 rintro e w2 ⟨v,rfl,sv,B2,V2⟩
 obtain ⟨av,cv,ev⟩:=sv.slice
 rw [List.length_map,hmw] at ev
 subst ev
 have y1:((w.alloc (.cells #[.int .i64 11,.int .i64 ka,.int .i64 kb,.int .i64 kcc,.int .i64 kd2,.int .i64 kn,.bool ky,.int .i64 m0,.slice aw nw cw,.int .i64 m2,.int .i64 m3,.int .i64 m4,.int .i64 m5,.int .i64 m6,.int .i64 sp,.slice aT mT cT,.slice aP mP cP,.slice aL mL cL] 87)).alloc (.cells #[.pointer (some ⟨x,0,none⟩),.pointer (some ⟨y,0,none⟩)] 91)).heap.size=w.heap.size+2:=by simp
 rw [y1] at B2 V2
 have p2:w2.heap[w.heap.size]? = some (.cells #[.int .i64 11,.int .i64 ka,.int .i64 kb,.int .i64 kcc,.int .i64 kd2,.int .i64 kn,.bool ky,.int .i64 m0,.slice aw nw cw,.int .i64 m2,.int .i64 m3,.int .i64 m4,.int .i64 m5,.int .i64 m6,.int .i64 sp,.slice aT mT cT,.slice aP mP cP,.slice aL mL cL] 87):=(B2.block _ (by omega)).trans (heap_alloc2_old w _ _)
 have r2:w2.heap[w.heap.size+1]? = some (.cells #[.pointer (some ⟨x,0,none⟩),.pointer (some ⟨y,0,none⟩)] 91):=(B2.block _ (by omega)).trans (heap_alloc2_new w _ _)
 have z2:=B2.size
 rw [y1] at z2
 have B02:Below w.heap.size w w2:=B1.trans (B2.mono (by omega))
 have H2:=hid (And.intro sv (And.intro B02 (And.intro p2 (And.intro r2 V2))))
 have lt2:w.heap.size+1 < w2.heap.size:=by omega
 have c2p:=(opBox ((Below.heap_alloc w2 (.cells #[.int .i64 q0,.int .i64 q1,.int .i64 q2,.slice av mw cv,.int .i64 q3] 50) _ (by omega)).trans p2)).2
 have c2r:=(prBox ((Below.heap_alloc w2 (.cells #[.int .i64 q0,.int .i64 q1,.int .i64 q2,.slice av mw cv,.int .i64 q3] 50) _ (by omega)).trans r2)).2
 clear sv B2 V2 p2 r2 B02
 go_wp2_with fail
 have B2a:Below w.heap.size w (w2.alloc (.cells #[.int .i64 q0,.int .i64 q1,.int .i64 q2,.slice av mw cv,.int .i64 q3] 50)):=H2.out.2.1.alloc (by omega) _
 refine (HC.out.2 _ B2a).mono ?_
 rintro e w3 ⟨v',rfl,iv',B3⟩
 obtain ⟨av',cv',ev'⟩:=iv'.slice
 rw [List.length_map,HM.out] at ev'
 subst ev'
 have y2a:(w2.alloc (.cells #[.int .i64 q0,.int .i64 q1,.int .i64 q2,.slice av mw cv,.int .i64 q3] 50)).heap.size=w2.heap.size+1:=by simp
 rw [y2a] at B3
 have z3:=B3.size
 rw [y2a] at z3
 have hA:w3.heap[w2.heap.size]? = some (.cells #[.int .i64 q0,.int .i64 q1,.int .i64 q2,.slice av mw cv,.int .i64 q3] 50 (0,0)):=(B3.block _ (by omega)).trans (heap_alloc_new w2 _)
 have hA4:(w3.alloc (.cells #[.int .i64 q0,.int .i64 q1,.int .i64 q2,.slice av' mw cv',.int .i64 q3] 50)).heap[w2.heap.size]? = some (.cells #[.int .i64 q0,.int .i64 q1,.int .i64 q2,.slice av mw cv,.int .i64 q3] 50 (0,0)):=(Below.heap_alloc w3 _ _ (by omega)).trans hA
 have B04:Below w.heap.size w (w3.alloc (.cells #[.int .i64 q0,.int .i64 q1,.int .i64 q2,.slice av' mw cv',.int .i64 q3] 50)):=(B2a.trans (B3.mono (by omega))).alloc (by omega) _
 obtain ⟨⟨a40,a41,a42,a43,a44⟩,_⟩:=cells5 hA4
 have sv4:Sl (w3.alloc (.cells #[.int .i64 q0,.int .i64 q1,.int .i64 q2,.slice av' mw cv',.int .i64 q3] 50)) 2 1 (.slice av mw cv) (ws.map lnI):=((H2.out.1.alloc _).kept (Fr.of_below (by rw [y2a];exact B3) (fun _=>False)) (fun _ _ h=>h)).alloc _
 have SM:=sameThread_any q0 q1 q2 q3 (.slice av mw cv) (.slice av' mw cv') ws (w3.alloc (.cells #[.int .i64 q0,.int .i64 q1,.int .i64 q2,.slice av' mw cv',.int .i64 q3] 50)) (sv4.asInl lnI_one) (iv'.alloc (by decide) _)
 have H4:=hid (And.intro B04 (And.intro hA4 (And.intro sv4 SM)))
 have hq:(q4 == q4)=true:=by simp
 clear B2a B3 hA hA4 B04 sv4 SM iv'
 go_wp2_with (go_at_call 110;refine H4.out.2.2.2.mono ?_;rintro e w5 ⟨rfl,B5⟩;have y4:(w3.alloc (.cells #[.int .i64 q0,.int .i64 q1,.int .i64 q2,.slice av' mw cv',.int .i64 q3] 50)).heap.size=w3.heap.size+1:=(by simp);rw [y4] at B5;have z5:=B5.size;rw [y4] at z5;have hA5:=(B5.block w2.heap.size (by omega)).trans H4.out.2.1;have a53:=(cell_of_row w5 w2.heap.size 3 _ _ _ hA5).trans (show _=some (Value.slice av mw cv) from rfl);have B05:Below w.heap.size w w5:=H4.out.1.trans (B5.mono (by omega));have sv5:=H4.out.2.2.1.kept (Fr.of_below (by rw [y4];exact B5) (fun _=>False)) (fun _ _ h=>h);have H5:=hid (And.intro B05 sv5);clear B5 hA5 B05 sv5)
 have hb5:=(H5.out.1.block b lb).trans HW.out.1
 have nvb:Value.ownBlock (.slice av mw cv)≠some b:=fun e=>by have:=H2.out.2.2.2.2 b e;omega
 have nvl:∀ k,Value.ownBlock (.slice av mw cv)=some k->l1.ownBlock≠some k:=fun k e h=>by have:=H2.out.2.2.2.2 k e;have:=HW.out.2.1.lt h;omega
 have NB:=number_any b ps l1 l2 l3 (.slice av mw cv) rows mw (ws.map (Value.int .i64)) w5.drew hb5 (HW.out.2.1.below H5.out.1).drew HW.out.2.2.1 (by have h:=H5.out.2.drew.own;rw [List.length_map,HM.out,lnI_flat] at h;exact h) (by omega) HW.out.2.2.2 nvb nvl
 have HN:=hid NB
 clear NB hb5 nvb nvl
 have lb5:b < w5.heap.size:=Nat.lt_of_lt_of_le lb H5.out.1.size
 go_region_with (go_at_call 111;refine HN.out.mono ?_;rintro e w6 ⟨rfl,u,v1,v2,v3,H6⟩;replace H6:=hid H6)
 all_goals
  go_wp2
  go_ret
  obtain ⟨h1,h2,h3,h4,h5,h6,h7,h8,h9⟩:=H6.out
  refine ⟨rfl,.slice av mw cv,u,v1,v2,v3,w5,H5.out.1,fun k hk=>⟨?_,H5.out.2.lt hk⟩,⟨h1,h2,h3,h4,h5,h6,⟨h7.os,h7.tape,h7.output,h7.size,h7.block⟩,h8,h9⟩⟩
  have:=H2.out.2.2.2.2 k hk
  omega
open Go.RowKit
theorem q_one' (T:List (Int×Int×Int×Int)):∀ r∈T.map qRow',∀ u∈r,u.oneCell'=true:=by
 intro r hr u hu
 obtain ⟨p,_,rfl⟩:=List.mem_map.1 hr
 simp [qRow'] at hu
 rcases hu with rfl | rfl | rfl | rfl <;> rfl
theorem qq (T:List (Int×Int×Int×Int)):T.map qRow=T.map qRow':=rfl
theorem told_space (b:Nat) (ka kb kcc kd2 kn:Int) (ky:Bool) (m0 m2 m3 m4 m5 m6:Int) (aw:Option Addr) (nw cw:Nat) (sp:Int) (aT aP aL:Option Addr) (mT mP mL cT cP cL:Nat) (x y:Nat) (q4:Int) (R1 R2:List (Int×Int×Int×Int)) (r1:R1.length<=6) (r2:R2.length<=6) (ps l1 l2 l3:Value) (prow lrow:List (List Value)) (w:World)
  (HX:∀ w1,Below w.heap.size w w1->Calls Tryz.prog 52 #[.pointer (some ⟨x,0,none⟩),.int .i64 kb] w1 fun e w'=>∃ v u,e=.returned (.tuple #[.agg #[v,u],.int .i64 q4])/\Sl w' 55 4 v (R1.map qRow)/\Sl w' 67 4 u (R2.map qRow)/\Below w1.heap.size w1 w'/\(∀ b,v.ownBlock=some b\/u.ownBlock=some b->w1.heap.size<=b)/\∀ b,v.ownBlock=some b->u.ownBlock≠some b)
  (HY:∀ w1,Below w.heap.size w w1->Calls Tryz.prog 112 #[.pointer (some ⟨y,0,none⟩),.int .i64 kb] w1 fun e w'=>∃ v u,e=.returned (.tuple #[.agg #[v,u],.int .i64 q4])/\Sl w' 55 4 v (R1.map qRow)/\Sl w' 67 4 u (R2.map qRow)/\Below w1.heap.size w1 w')
  (hb:w.heap[b]? = some (.cells #[ps,l1,l2,l3] 84 (0,0))) (hs:Sl w 140 5 l2 prow) (hr:prow.length<=1000000000000) (hsl:Sl w 142 5 l3 lrow) (hrl:lrow.length<=1000000000000) (hne:l2.ownBlock≠some b) (hne3:l3.ownBlock≠some b) (hne23:∀ k,l2.ownBlock=some k->l3.ownBlock≠some k) :
  Calls Tryz.prog 70 #[.pointer (some ⟨b,0,none⟩),.agg #[.int .i64 12,.int .i64 ka,.int .i64 kb,.int .i64 kcc,.int .i64 kd2,.int .i64 kn,.bool ky,.int .i64 m0,.slice aw nw cw,.int .i64 m2,.int .i64 m3,.int .i64 m4,.int .i64 m5,.int .i64 m6,.int .i64 sp,.slice aT mT cT,.slice aP mP cP,.slice aL mL cL],.agg #[.pointer (some ⟨x,0,none⟩),.pointer (some ⟨y,0,none⟩)]] w fun e w'=>e=.returned (.bool true)/\∃ v u w0,Below w.heap.size w w0/\(∀ k,v.ownBlock=some k\/u.ownBlock=some k->w.heap.size<=k/\k < w0.heap.size)/\(∀ k,v.ownBlock=some k->u.ownBlock≠some k) /\
   ∃ wm pas' v1 v2 v3 lea' u1 u2 u3,Booked 140 55 mk4 b 2 #[ps,l1,l2,l3] l2 v prow w0 pas' v1 v2 v3 wm/\Booked 142 67 mk4 b 3 #[ps,l1,pas',l3] l3 u lrow wm lea' u1 u2 u3 w':=by
 have lb:=(Array.getElem?_eq_some_iff.1 hb).1
 have HW:=hid (And.intro hb (And.intro hs (And.intro hr (And.intro hsl (And.intro hrl (And.intro hne (And.intro hne3 hne23)))))))
 have HC:=hid (And.intro HX HY)
 clear HX HY hb hs hr hsl hrl hne hne3 hne23
 go_enter Tryz.func70,Tryz.ntmps70
 go_wp2_with fail
 have B1:Below w.heap.size w ((w.alloc (.cells #[.int .i64 12,.int .i64 ka,.int .i64 kb,.int .i64 kcc,.int .i64 kd2,.int .i64 kn,.bool ky,.int .i64 m0,.slice aw nw cw,.int .i64 m2,.int .i64 m3,.int .i64 m4,.int .i64 m5,.int .i64 m6,.int .i64 sp,.slice aT mT cT,.slice aP mP cP,.slice aL mL cL] 87)).alloc (.cells #[.pointer (some ⟨x,0,none⟩),.pointer (some ⟨y,0,none⟩)] 91)):=((Below.refl _ w).alloc (Nat.le_refl _) _).alloc (by simp) _
 refine (HC.out.1 _ B1).mono ?_
 rintro e w2 ⟨v,u,rfl,sv,su,B2,V2,V2n⟩
 obtain ⟨av,nv,cv,rfl⟩:∃ a n c,v=.slice a n c:=by obtain ⟨a,c,h⟩:=sv.slice;exact ⟨_,_,_,h⟩
 obtain ⟨au,nu,cu,rfl⟩:∃ a n c,u=.slice a n c:=by obtain ⟨a,c,h⟩:=su.slice;exact ⟨_,_,_,h⟩
 have y1:((w.alloc (.cells #[.int .i64 12,.int .i64 ka,.int .i64 kb,.int .i64 kcc,.int .i64 kd2,.int .i64 kn,.bool ky,.int .i64 m0,.slice aw nw cw,.int .i64 m2,.int .i64 m3,.int .i64 m4,.int .i64 m5,.int .i64 m6,.int .i64 sp,.slice aT mT cT,.slice aP mP cP,.slice aL mL cL] 87)).alloc (.cells #[.pointer (some ⟨x,0,none⟩),.pointer (some ⟨y,0,none⟩)] 91)).heap.size=w.heap.size+2:=by simp
 rw [y1] at B2 V2
 have p2:w2.heap[w.heap.size]? = some (.cells #[.int .i64 12,.int .i64 ka,.int .i64 kb,.int .i64 kcc,.int .i64 kd2,.int .i64 kn,.bool ky,.int .i64 m0,.slice aw nw cw,.int .i64 m2,.int .i64 m3,.int .i64 m4,.int .i64 m5,.int .i64 m6,.int .i64 sp,.slice aT mT cT,.slice aP mP cP,.slice aL mL cL] 87):=(B2.block _ (by omega)).trans (heap_alloc2_old w _ _)
 have r2':w2.heap[w.heap.size+1]? = some (.cells #[.pointer (some ⟨x,0,none⟩),.pointer (some ⟨y,0,none⟩)] 91):=(B2.block _ (by omega)).trans (heap_alloc2_new w _ _)
 have z2:=B2.size
 rw [y1] at z2
 have B02:Below w.heap.size w w2:=B1.trans (B2.mono (by omega))
 have H2:=hid (And.intro sv (And.intro su (And.intro B02 (And.intro V2 V2n))))
 have lt2:w.heap.size+1 < w2.heap.size:=by omega
 have c2p:=(opBox ((Below.heap_alloc w2 (.cells #[.slice av nv cv,.slice au nu cu] 122) _ (by omega)).trans p2)).2
 have c2r:=(prBox ((Below.heap_alloc w2 (.cells #[.slice av nv cv,.slice au nu cu] 122) _ (by omega)).trans r2')).2
 clear sv su B2 V2 V2n p2 r2' B02
 go_wp2_with fail
 have B2a:Below w.heap.size w (w2.alloc (.cells #[.slice av nv cv,.slice au nu cu] 122)):=H2.out.2.2.1.alloc (by omega) _
 refine (HC.out.2 _ B2a).mono ?_
 rintro e w3 ⟨v',u',rfl,sv',su',B3⟩
 obtain ⟨av',nv',cv',rfl⟩:∃ a n c,v'=.slice a n c:=by obtain ⟨a,c,h⟩:=sv'.slice;exact ⟨_,_,_,h⟩
 obtain ⟨au',nu',cu',rfl⟩:∃ a n c,u'=.slice a n c:=by obtain ⟨a,c,h⟩:=su'.slice;exact ⟨_,_,_,h⟩
 have y2a:(w2.alloc (.cells #[.slice av nv cv,.slice au nu cu] 122)).heap.size=w2.heap.size+1:=by simp
 rw [y2a] at B3
 have z3:=B3.size
 rw [y2a] at z3
 have hA:w3.heap[w2.heap.size]? = some (.cells #[.slice av nv cv,.slice au nu cu] 122 (0,0)):=(B3.block _ (by omega)).trans (heap_alloc_new w2 _)
 have hA4:(w3.alloc (.cells #[.slice av' nv' cv',.slice au' nu' cu'] 122)).heap[w2.heap.size]? = some (.cells #[.slice av nv cv,.slice au nu cu] 122 (0,0)):=(Below.heap_alloc w3 _ _ (by omega)).trans hA
 have B04:Below w.heap.size w (w3.alloc (.cells #[.slice av' nv' cv',.slice au' nu' cu'] 122)):=(B2a.trans (B3.mono (by omega))).alloc (by omega) _
 obtain ⟨a40,a41⟩:=prBox hA4
 have F24:Fr (fun _=>False) w2 (w3.alloc (.cells #[.slice av' nv' cv',.slice au' nu' cu'] 122)):=(((Fr.refl (fun _=>False) w2).alloc _).trans (Fr.of_below (by rw [y2a];exact B3) _)).alloc _
 have sv4:=H2.out.1.kept F24 (fun _ _ h=>h)
 have su4:=H2.out.2.1.kept F24 (fun _ _ h=>h)
 have SM:=sameSpace_any (.slice av nv cv) (.slice au nu cu) (.slice av' nv' cv') (.slice au' nu' cu') R1 R2 (w3.alloc (.cells #[.slice av' nv' cv',.slice au' nu' cu'] 122)) (by rw [qq] at sv4;exact sv4.asInl (q_one' R1)) (by rw [qq] at sv';exact (sv'.alloc _).asInl (q_one' R1)) (by rw [qq] at su4;exact su4.asInl (q_one' R2)) (by rw [qq] at su';exact (su'.alloc _).asInl (q_one' R2))
 have H4:=hid (And.intro B04 (And.intro hA4 (And.intro sv4 (And.intro su4 SM))))
 have hq:(q4 == q4)=true:=by simp
 clear B2a B3 hA hA4 B04 sv4 su4 SM sv' su' F24
 go_wp2_with (go_at_call 113;refine H4.out.2.2.2.2.mono ?_;rintro e w5 ⟨rfl,B5⟩;have y4:(w3.alloc (.cells #[.slice av' nv' cv',.slice au' nu' cu'] 122)).heap.size=w3.heap.size+1:=(by simp);rw [y4] at B5;have z5:=B5.size;rw [y4] at z5;have hA5:=(B5.block w2.heap.size (by omega)).trans H4.out.2.1;have a53:=(prBox hA5).1;have a54:=(prBox hA5).2;have B05:Below w.heap.size w w5:=H4.out.1.trans (B5.mono (by omega));have sv5:=H4.out.2.2.1.kept (Fr.of_below (by rw [y4];exact B5) (fun _=>False)) (fun _ _ h=>h);have su5:=H4.out.2.2.2.1.kept (Fr.of_below (by rw [y4];exact B5) (fun _=>False)) (fun _ _ h=>h);have H5:=hid (And.intro B05 (And.intro sv5 su5));clear B5 hA5 B05 sv5 su5)
 have hb5:=(H5.out.1.block b lb).trans HW.out.1
 have VN:∀ k,Value.ownBlock (.slice av nv cv)=some k\/Value.ownBlock (.slice au nu cu)=some k->w.heap.size<=k:=fun k e=>by have:=H2.out.2.2.2.1 k e;omega
 have lo2:∀ k,l2.ownBlock=some k->k < w.heap.size:=fun k e=>HW.out.2.1.lt e
 have lo3:∀ k,l3.ownBlock=some k->k < w.heap.size:=fun k e=>HW.out.2.2.2.1.lt e
 have NB:=space_any b ps l1 l2 l3 (.slice av nv cv) (.slice au nu cu) prow lrow ((R1.map qRow).length) ((R2.map qRow).length) _ _ w5.drew hb5 (HW.out.2.1.below H5.out.1).drew HW.out.2.2.1 (HW.out.2.2.2.1.below H5.out.1).drew HW.out.2.2.2.2.1 H5.out.2.1.drew.own (by simp;omega) H5.out.2.2.drew.own (by simp;omega) HW.out.2.2.2.2.2.1 HW.out.2.2.2.2.2.2.1
  (fun e=>by have:=VN b (.inl e);omega) (fun e=>by have:=VN b (.inr e);omega) (fun k e=>⟨fun h=>by have:=VN k (.inl e);have:=lo2 k h;omega,fun h=>by have:=VN k (.inl e);have:=lo3 k h;omega,H2.out.2.2.2.2 k e⟩) (fun k e=>⟨fun h=>by have:=VN k (.inr e);have:=lo2 k h;omega,fun h=>by have:=VN k (.inr e);have:=lo3 k h;omega⟩) HW.out.2.2.2.2.2.2.2
 have HN:=hid (And.intro NB VN)
 clear NB hb5 VN lo2 lo3
 have lb5:b < w5.heap.size:=Nat.lt_of_lt_of_le lb H5.out.1.size
 go_region_with (go_at_call 114;refine HN.out.1.mono ?_;rintro e w6 ⟨rfl,H6⟩;replace H6:=hid H6)
 all_goals
  go_wp2
  go_ret
  obtain ⟨wm,pas',v1,v2,v3,lea',u1,u2,u3,k1,k2⟩:=H6.out
  refine ⟨rfl,.slice av nv cv,.slice au nu cu,w5,H5.out.1,fun k hk=>⟨HN.out.2 k hk,?_⟩,H2.out.2.2.2.2,wm,pas',v1,v2,v3,lea',u1,u2,u3,⟨k1.at_,k1.sl,k1.m0,k1.m1,k1.m2,k1.m3,⟨k1.fr.os,k1.fr.tape,k1.fr.output,k1.fr.size,k1.fr.block⟩,k1.fresh,k1.own⟩,k2⟩
  rcases hk with hk | hk
  ·exact H5.out.2.1.lt hk
  ·exact H5.out.2.2.lt hk
end Go.Proofs.YteejjgbeknnmeaaGreatDoor
