import Derived.Test.YteejjgbeknnmeaaGreatDoorH05
import Derived.BigRegion
import Derived.Deep.RegionHeld3
import Derived.Deep.RegionHeldLaw
import Derived.Deep.QuietTactic
import Derived.BigQuiet
import Derived.Deep.DeepCutAuto
import Derived.Test.YteejjgbeknnmeaaGreatDoorH01
import Derived.LaidEqlPtr
set_option maxRecDepth 100000
set_option maxHeartbeats 20000000
namespace Go.Proofs.YteejjgbeknnmeaaGreatDoor
open Go.RowKit
def RM.upd (K:RM) (t:Nat) (f:Th->Th):RM:={ K with threads:=K.threads.modify t f }
def RM.toFirst (K:RM) (t:Nat):RM:={ K.upd t (fun u=>{ u with ord:=K.first }) with first:=K.first-1 }
def RM.toLast (K:RM) (t:Nat):RM:={ K.upd t (fun u=>{ u with ord:=K.last }) with last:=K.last+1 }
def RM.over (K:RM) (t:Nat) (e:Int):RM:=K.upd t (fun u=>{ u with st:=1,time:=-1,code:=e,who:=-1,ws:=[],got:=-1 })
def tim (c w:Int):Int:=if 0 < w then wrap64 (c+w) else -1
def RM.waits (K:RM) (t:Nat) (st other:Int):RM:={ K.upd t (fun u=>{ u with st:=st,other:=other,turn:=K.last,time:=tim K.clock u.wait }) with last:=K.last+1 }
theorem get_modify {α:Type}{l:List α}{t:Nat}{u:α}(f:α->α) (h:l[t]? = some u):(l.modify t f)[t]? = some (f u):=by
 rw [List.getElem?_modify,h];simp
theorem modify_at {α:Type}{l:List α}{t:Nat}{u:α}{f h:α->α}(hu:l[t]? = some u) (e:f u=h u):l.modify t f=l.modify t h:=by
 apply List.ext_getElem?
 intro i
 rw [List.getElem?_modify,List.getElem?_modify]
 by_cases q:t=i
 ·subst q;rw [hu];simp [e]
 ·simp [q]
theorem modify_two {α:Type}{l:List α}{t:Nat}{u:α}{f g h:α->α}(hu:l[t]? = some u) (e:g (f u)=h u):(l.modify t f).modify t g=l.modify t h:=by
 apply List.ext_getElem?
 intro i
 rw [List.getElem?_modify,List.getElem?_modify,List.getElem?_modify]
 by_cases q:t=i
 ·subst q;rw [hu];simp [e]
 ·simp [q]
section
variable {w w':World}{y:Nat}{K:RM}{g n c:Nat}{vp vl:Value}{sl:List (Sv×Sv)}
end
open Go.RowKit
inductive Und (L:List Lf) (s n:Int):Lf->Prop
 | base (l:Lf):l.usp=s->l.upg=n->Und L s n l
 | step (l p:Lf):p∈L->p.sp=l.usp->p.pg=l.upg->Und L s n p->Und L s n l
def ApL (L:List Lf):Prop:=L.Pairwise (fun a b=>¬ (a.sp=b.sp/\a.pg=b.pg))
def Kin (r:Int->Int->Nat) (L:List Lf):Prop:=∀ l∈L,0<=l.sp/\((l.usp=-1/\l.upg=-1)\/∃ p∈L,p.sp=l.usp/\p.pg=l.upg/\r p.sp p.pg < r l.sp l.pg)
noncomputable def stays (L:List Lf) (s n:Int) (own:Bool) (l:Lf):Bool:=@decide (¬ Und L s n l/\¬ (own=true/\l.sp=s/\l.pg=n)) (Classical.propDecidable _)
theorem stays_iff {L:List Lf}{s n:Int}{own:Bool}{l:Lf}:stays L s n own l=true↔¬ Und L s n l/\¬ (own=true/\l.sp=s/\l.pg=n):=@decide_eq_true_iff _ (Classical.propDecidable _)
noncomputable def goneL (L:List Lf) (s n:Int) (own:Bool):List Lf:=L.filter (stays L s n own)
theorem ApL.eq {L:List Lf}(h:ApL L){a b:Lf}(ha:a∈L) (hb:b∈L) (h1:a.sp=b.sp) (h2:a.pg=b.pg):a=b:=by
 induction L with
 | nil=>simp at ha
 | cons x L ih=>
  rw [ApL,List.pairwise_cons] at h
  rcases List.mem_cons.1 ha with rfl | ha
  ·rcases List.mem_cons.1 hb with rfl | hb
   ·rfl
   ·exact absurd ⟨h1,h2⟩ (h.1 b hb)
  ·rcases List.mem_cons.1 hb with e | hb
   ·exact absurd ⟨by rw [<- e,h1],by rw [<- e,h2]⟩ (h.1 a ha)
   ·exact ih h.2 ha hb
theorem mem_gone {L:List Lf}{s n:Int}{own:Bool}{l:Lf}:l∈goneL L s n own↔l∈L/\¬ Und L s n l/\¬ (own=true/\l.sp=s/\l.pg=n):=by
 unfold goneL
 rw [List.mem_filter,stays_iff]
theorem gone_apl {L:List Lf}(h:ApL L) (s n:Int) (own:Bool):ApL (goneL L s n own):=List.Pairwise.filter _ h
theorem Und.sub {L L':List Lf}{s n:Int}(hs:∀ l∈L',l∈L){l:Lf}(h:Und L' s n l):Und L s n l:=by
 induction h with
 | base l h1 h2=>exact .base l h1 h2
 | step l p hp h1 h2 _ ih=>exact .step l p (hs p hp) h1 h2 ih
theorem Und.trans {L:List Lf}{s n:Int}{c l:Lf}(hc:c∈L) (h:Und L s n c) (hl:Und L c.sp c.pg l):Und L s n l:=by
 induction hl with
 | base l h1 h2=>exact .step l c hc h1.symm h2.symm h
 | step l p hp h1 h2 _ ih=>exact .step l p hp h1 h2 ih
theorem gone_kin {r:Int->Int->Nat}{L:List Lf}(h:Kin r L) (s n:Int) (own:Bool):Kin r (goneL L s n own):=by
 intro l hl
 obtain ⟨h1,h2,h3⟩:=mem_gone.1 hl
 refine ⟨(h l h1).1,?_⟩
 rcases (h l h1).2 with e | ⟨p,hp,e1,e2,e3⟩
 ·exact .inl e
 ·refine .inr ⟨p,mem_gone.2 ⟨hp,fun hu=>h2 (.step l p hp e1 e2 hu),fun ⟨_,g1,g2⟩=>h2 (.base l ?_ ?_)⟩,e1,e2,e3⟩
  ·rw [<- e1,g1]
  ·rw [<- e2,g2]
theorem gone_step {L:List Lf}(ha:ApL L){s n:Int}{c:Lf}(hc:c∈L) (h1:c.usp=s) (h2:c.upg=n) (own:Bool):goneL (goneL L c.sp c.pg true) s n own=goneL L s n own:=by
 have hsub:∀ l∈goneL L c.sp c.pg true,l∈L:=fun l hl=>(mem_gone.1 hl).1
 have hcu:Und L s n c:=.base c h1 h2
 have key:∀ l,Und L s n l->l∈goneL L c.sp c.pg true->Und (goneL L c.sp c.pg true) s n l:=by
  intro l hl
  induction hl with
  | base l g1 g2=>exact fun _=>.base l g1 g2
  | step l p hp g1 g2 _ ih=>
   intro hm
   obtain ⟨_,m2,_⟩:=mem_gone.1 hm
   have hpm:p∈goneL L c.sp c.pg true:=by
    refine mem_gone.2 ⟨hp,fun hu=>m2 (.step l p hp g1 g2 hu),fun ⟨_,k1,k2⟩=>m2 (.base l ?_ ?_)⟩
    ·rw [<- g1,k1]
    ·rw [<- g2,k2]
   exact .step l p hpm g1 g2 (ih hpm)
 have e:∀ l∈L,(¬ Und (goneL L c.sp c.pg true) s n l/\¬ (own=true/\l.sp=s/\l.pg=n))/\(¬ Und L c.sp c.pg l/\¬ (true=true/\l.sp=c.sp/\l.pg=c.pg))↔¬ Und L s n l/\¬ (own=true/\l.sp=s/\l.pg=n):=by
  intro l hl
  constructor
  ·rintro ⟨⟨a1,a2⟩,a3,a4⟩
   exact ⟨fun hu=>a1 (key l hu (mem_gone.2 ⟨hl,a3,a4⟩)),a2⟩
  ·rintro ⟨a1,a2⟩
   refine ⟨⟨fun hu=>a1 (hu.sub hsub),a2⟩,fun hu=>a1 (hcu.trans hc hu),fun ⟨_,k1,k2⟩=>a1 ?_⟩
   rw [ha.eq hl hc k1 k2];exact hcu
 have hr:goneL (goneL L c.sp c.pg true) s n own=(L.filter (stays L c.sp c.pg true)).filter (stays (goneL L c.sp c.pg true) s n own):=rfl
 rw [hr,List.filter_filter]
 apply List.filter_congr
 intro l hl
 rw [Bool.eq_iff_iff,Bool.and_eq_true,stays_iff,stays_iff,stays_iff]
 exact e l hl
theorem kin_child {r:Int->Int->Nat}{L:List Lf}(h:Kin r L){c:Lf}(hc:c∈L){s n:Int}(hs:0<=s) (h1:c.usp=s) (h2:c.upg=n):r s n < r c.sp c.pg:=by
 rcases (h c hc).2 with e | ⟨p,_,e1,e2,e3⟩
 ·omega
 ·rw [<- h1,<- h2,<- e1,<- e2];exact e3
theorem Und.child {L:List Lf}{s n:Int}{l:Lf}(hl:l∈L) (h:Und L s n l):∃ c∈L,c.usp=s/\c.upg=n:=by
 induction h with
 | base l h1 h2=>exact ⟨l,hl,h1,h2⟩
 | step l p hp _ _ _ ih=>exact ih hp
theorem gone_none {L:List Lf}{s n:Int}(h:∀ c∈L,¬ (c.usp=s/\c.upg=n)) (own:Bool):goneL L s n own=if own=true then L.filter (fun l=>!(l.sp == s && l.pg == n)) else L:=by
 have hno:∀ l∈L,¬ Und L s n l:=fun l hl hu=>by
  obtain ⟨c,hc,h1,h2⟩:=hu.child hl
  exact h c hc ⟨h1,h2⟩
 unfold goneL
 cases own with
 | true=>
  rw [if_pos rfl]
  apply List.filter_congr
  intro l hl
  rw [Bool.eq_iff_iff,stays_iff]
  have:=hno l hl
  simp [this]
  omega
 | false=>
  rw [if_neg (by simp)]
  rw [List.filter_eq_self]
  intro l hl
  rw [stays_iff]
  exact ⟨hno l hl,by simp⟩
def younger (r:Int->Int->Nat) (L:List Lf) (k:Nat):Nat:=(L.filter (fun l=>decide (k < r l.sp l.pg))).length
theorem younger_lt {r:Int->Int->Nat}{L:List Lf}{c:Lf}(hc:c∈L){k:Nat}(hk:k < r c.sp c.pg):younger r L (r c.sp c.pg) < younger r L k:=by
 unfold younger
 induction L with
 | nil=>simp at hc
 | cons x L ih=>
  have mono:∀ L:List Lf,(L.filter (fun l=>decide (r c.sp c.pg < r l.sp l.pg))).length<=(L.filter (fun l=>decide (k < r l.sp l.pg))).length:=by
   intro L
   induction L with
   | nil=>simp
   | cons z L ihz=>
    rw [List.filter_cons,List.filter_cons]
    by_cases h1:r c.sp c.pg < r z.sp z.pg
    ·have h2:k < r z.sp z.pg:=by omega
     simp [h1,h2];exact ihz
    ·by_cases h2:k < r z.sp z.pg
     ·simp [h1,h2];omega
     ·simp [h1,h2];exact ihz
  rw [List.filter_cons,List.filter_cons]
  rcases List.mem_cons.1 hc with rfl | hc
  ·have h1:¬ r c.sp c.pg < r c.sp c.pg:=by omega
   simp [hk]
   have:=mono L
   omega
  ·have:=ih hc
   by_cases h1:r c.sp c.pg < r x.sp x.pg
   ·have h2:k < r x.sp x.pg:=by omega
    simp [h1,h2];exact this
   ·by_cases h2:k < r x.sp x.pg
    ·simp [h1,h2];omega
    ·simp [h1,h2];exact this
theorem younger_gone (r:Int->Int->Nat) (L:List Lf) (k:Nat) (s n:Int) (own:Bool):younger r (goneL L s n own) k<=younger r L k:=by
 unfold younger goneL
 rw [List.filter_filter,List.filter_congr (fun l _=>Bool.and_comm _ _),<- List.filter_filter]
 exact List.length_filter_le _ _
open Go.RowKit
section
variable {P:Program}(w:World)
end
theorem Sl.toInl {w:World}{e:TypeId}{a:Option Addr}{n c:Nat}{l:List Int}(h:Sl w e 1 (.slice a n c) (l.map lnI)) (hl:l.length<=maxLen):Inl w 1 (.slice a n c) (l.map lnI):=by
 have hlen:∀ r∈l.map lnI,r.length=1:=h.len
 have hone:∀ r∈l.map lnI,∀ u∈r,u.oneCell'=true:=fun r hr u hu=>by
  obtain ⟨z,_,rfl⟩:=List.mem_map.1 hr
  simp [lnI] at hu
  subst hu;rfl
 rcases h.form with ⟨e1,e2⟩ | ⟨g,cap,e1,_,_⟩
 ·exact ⟨hlen,hone,_,_,e1.trans (by rw [e2];rfl),by simpa using hl,.inl e2⟩
 ·have e2:=e1
  simp only [Value.slice.injEq] at e2
  obtain ⟨rfl,rfl,rfl⟩:=e2
  refine ⟨hlen,hone,_,_,rfl,by simpa using hl,.inr ⟨g,0,rfl,fun j v hv=>?_⟩⟩
  have:=h.own.cells (g:=g) rfl j v hv
  rw [Addr.add_mid] at this
  exact this
def findLf (L:List Lf) (s n:Int):Option Lf:=L.find? (fun l=>l.sp == s && l.pg == n)
noncomputable def lendL (L:List Lf) (a b:Th):List Lf×Int:=
 if a.item < 0\/b.win < 0\/a.lends=false then (L,-1) else
  match findLf (goneL L b.sp b.win true) a.sp a.item with
  | none=>(goneL L b.sp b.win true,-1)
  | some l=>if bits .and .i64 l.rt a.rt=0 then (goneL L b.sp b.win true,-1) else (goneL L b.sp b.win true ++ [⟨b.sp,b.win,l.fr,bits .and .i64 l.rt a.rt,a.sp,a.item⟩],b.win)
noncomputable def RM.deliver (K:RM) (s r:Nat):RM:=
 match K.threads[s]?,K.threads[r]? with
 | some a,some b=>{ K.upd r (fun u=>{ u with st:=1,time:=-1,code:=0,who:=s,ws:=a.mw,got:=(lendL K.leaves a b).2 }) with leaves:=(lendL K.leaves a b).1 }
 | _,_=>K
open Go.RowKit
structure FitT (sp:Int) (i:Nat) (t:Th):Prop where
 s0:0<=t.sp
 s1:t.sp<=sp-1
 r0:0<=t.row
 r1:t.row<=3
 l0:1<=t.left
 l1:t.left<=3
 mw:t.mw.length<=4
 ws:t.ws.length<=4
 win:t.win<=5
 st:t.st=1\/t.st=2\/t.st=3
 ot:t.st=2->t.other≠i
structure RM.Fit (K:RM):Prop where
 one:0 < K.threads.length
 six:K.threads.length<=6
 sp1:1<=K.sp
 sp3:K.sp<=3
 th:∀ (i:Nat) t,K.threads[i]? = some t->FitT K.sp i t
 ap:ApL K.leaves
 kin:∃ r,Kin r K.leaves
 lf:∀ l∈K.leaves,l.sp<=K.sp-1/\0<=l.pg/\l.pg<=5
theorem nodup_lt:∀ (m:Nat) (l:List Nat),l.Nodup->(∀ t∈l,t < m)->l.length<=m
 | 0,l,_,h=>by
  cases l with
  | nil=>simp
  | cons a r=>exact absurd (h a (by simp)) (by omega)
 | m+1,l,hn,h=>by
  have h1:(l.erase m).length<=m:=nodup_lt m (l.erase m) (hn.sublist List.erase_sublist) (fun t ht=>by
   have h2:=(hn.mem_erase_iff).1 ht
   have:=h t h2.2
   have:=h2.1
   omega)
  have:l.length<=(l.erase m).length+1:=by
   by_cases hm:m∈l
   ·rw [List.length_erase_of_mem hm];omega
   ·rw [List.erase_of_not_mem hm];omega
  omega
theorem RM.Fit.upd {K:RM}(h:K.Fit) (r:Nat) (f:Th->Th) (hf:∀ t,K.threads[r]? = some t->FitT K.sp r (f t)):(K.upd r f).Fit:=by
 refine ⟨by simpa [RM.upd] using h.one,by simpa [RM.upd] using h.six,h.sp1,h.sp3,fun i t ht=>?_,h.ap,h.kin,h.lf⟩
 have ht2:(K.threads.modify r f)[i]? = some t:=ht
 rw [List.getElem?_modify] at ht2
 rcases hx:K.threads[i]? with _ | x
 ·rw [hx] at ht2;simp at ht2
 ·rw [hx] at ht2
  by_cases e:r=i
  ·subst e
   simp at ht2
   rw [<- ht2];exact hf x hx
  ·simp [e] at ht2
   rw [<- ht2];exact h.th i x hx
theorem RM.Fit.nums {K:RM} (h:K.Fit) (cl fi la:Int):({ K with clock:=cl,first:=fi,last:=la }:RM).Fit:=⟨h.one,h.six,h.sp1,h.sp3,h.th,h.ap,h.kin,h.lf⟩
theorem RM.Fit.setL {K:RM} (h:K.Fit) (L:List Lf) (ap:ApL L) (kin:∃ r,Kin r L) (lf:∀ l∈L,l.sp<=K.sp-1/\0<=l.pg/\l.pg<=5):({ K with leaves:=L }:RM).Fit:=⟨h.one,h.six,h.sp1,h.sp3,h.th,ap,kin,lf⟩
theorem RM.Fit.toFirst {K:RM} (h:K.Fit) (t:Nat):(K.toFirst t).Fit:=(h.upd t (fun u=>{ u with ord:=K.first }) (fun x hx=>by have f:=h.th t x hx;exact ⟨f.s0,f.s1,f.r0,f.r1,f.l0,f.l1,f.mw,f.ws,f.win,f.st,f.ot⟩)).nums _ _ _
theorem RM.Fit.toLast {K:RM} (h:K.Fit) (t:Nat):(K.toLast t).Fit:=(h.upd t (fun u=>{ u with ord:=K.last }) (fun x hx=>by have f:=h.th t x hx;exact ⟨f.s0,f.s1,f.r0,f.r1,f.l0,f.l1,f.mw,f.ws,f.win,f.st,f.ot⟩)).nums _ _ _
theorem RM.Fit.over {K:RM}(h:K.Fit) (t:Nat) (e:Int):(K.over t e).Fit:=h.upd t _ (fun x hx=>by have f:=h.th t x hx;exact ⟨f.s0,f.s1,f.r0,f.r1,f.l0,f.l1,f.mw,by simp,f.win,.inl rfl,fun g=>by simp at g⟩)
theorem RM.Fit.waits {K:RM} (h:K.Fit) (t:Nat) (st other:Int) (hs:st=2\/st=3) (ho:st=2->other≠t):(K.waits t st other).Fit:=(h.upd t (fun u=>{ u with st:=st,other:=other,turn:=K.last,time:=tim K.clock u.wait }) (fun x hx=>by have f:=h.th t x hx;exact ⟨f.s0,f.s1,f.r0,f.r1,f.l0,f.l1,f.mw,f.ws,f.win,.inr hs,ho⟩)).nums _ _ _
theorem lend_fit {L:List Lf}{sp:Int}(ap:ApL L) (kin:∃ r,Kin r L) (lf:∀ l∈L,l.sp<=sp-1/\0<=l.pg/\l.pg<=5) (a b:Th) (b0:0<=b.sp) (b1:b.sp<=sp-1) (b2:b.win<=5) :
  ApL (lendL L a b).1/\(∃ r,Kin r (lendL L a b).1)/\∀ l∈(lendL L a b).1,l.sp<=sp-1/\0<=l.pg/\l.pg<=5:=by
 obtain ⟨r,hk⟩:=kin
 have G1:=gone_apl ap b.sp b.win true
 have G2:=gone_kin hk b.sp b.win true
 have G3:∀ l∈goneL L b.sp b.win true,l.sp<=sp-1/\0<=l.pg/\l.pg<=5:=fun l hl=>lf l (mem_gone.1 hl).1
 unfold lendL
 split
 ·exact ⟨ap,⟨r,hk⟩,lf⟩
 ·rename_i hn
  split
  ·exact ⟨G1,⟨r,G2⟩,G3⟩
  ·rename_i l hl
   have hm:=List.mem_of_find?_eq_some hl
   have hq:=List.find?_some hl
   simp at hq
   split
   ·exact ⟨G1,⟨r,G2⟩,G3⟩
   ·have away:∀ z∈goneL L b.sp b.win true,¬ (z.sp=b.sp/\z.pg=b.win):=fun z hz e=>(mem_gone.1 hz).2.2 ⟨rfl,e⟩
    refine ⟨?_,⟨fun s n=>if s=b.sp/\n=b.win then r a.sp a.item+1 else r s n,?_⟩,?_⟩
    ·refine List.pairwise_append.2 ⟨G1,by simp,fun x hx z hz=>?_⟩
     rw [List.mem_singleton] at hz
     rw [hz]
     exact away x hx
    ·intro z hz
     rcases List.mem_append.1 hz with hz | hz
     ·refine ⟨(G2 z hz).1,?_⟩
      rcases (G2 z hz).2 with e | ⟨p,hp,e1,e2,e3⟩
      ·exact .inl e
      ·exact .inr ⟨p,List.mem_append_left _ hp,e1,e2,by dsimp only;rw [if_neg (away p hp),if_neg (away z hz)];exact e3⟩
     ·rw [List.mem_singleton] at hz
      rw [hz]
      refine ⟨b0,.inr ⟨l,List.mem_append_left _ hm,hq.1,hq.2,?_⟩⟩
      dsimp only
      rw [if_neg (away l hm),if_pos ⟨rfl,rfl⟩,hq.1,hq.2]
      omega
    ·intro z hz
     rcases List.mem_append.1 hz with hz | hz
     ·exact G3 z hz
     ·rw [List.mem_singleton] at hz
      rw [hz]
      exact ⟨b1,by dsimp only;omega,b2⟩
theorem RM.Fit.deliver {K:RM}(h:K.Fit) (s r:Nat):(K.deliver s r).Fit:=by
 unfold RM.deliver
 rcases hs:K.threads[s]? with _ | a
 ·exact h
 ·rcases hr:K.threads[r]? with _ | b
  ·exact h
  ·have fa:=h.th s a hs
   have fb:=h.th r b hr
   obtain ⟨g1,g2,g3⟩:=lend_fit h.ap h.kin h.lf a b fb.s0 fb.s1 fb.win
   exact (h.upd r _ (fun x hx=>by have f:=h.th r x hx;exact ⟨f.s0,f.s1,f.r0,f.r1,f.l0,f.l1,f.mw,fa.mw,f.win,.inl rfl,fun g=>by simp at g⟩)).setL _ g1 g2 g3
noncomputable def RM.heard (K:RM) (s t:Nat) (stands:Bool):RM:=if stands=true then K.deliver s t else (K.deliver s t).toFirst t
noncomputable def RM.recv:Nat->RM->Nat->Bool->RM
 | 0,K,_,_=>K
 | n+1,K,t,stands=>
  match K.threads[t]? with
  | none=>K
  | some x=>
   if senM K.threads t x.frm K.threads.length < 0 then
    if x.wait≠0 then K.waits t 3 (-1) else if stands=true then K.over t 5 else (K.over t 5).toLast t
   else
    match (K.heard (senM K.threads t x.frm K.threads.length).toNat t stands).threads[(senM K.threads t x.frm K.threads.length).toNat]? with
    | none=>K.heard (senM K.threads t x.frm K.threads.length).toNat t stands
    | some z=>
     if z.frm≠-2 then RM.recv n (K.heard (senM K.threads t x.frm K.threads.length).toNat t stands) (senM K.threads t x.frm K.threads.length).toNat false
     else if false=true then (K.heard (senM K.threads t x.frm K.threads.length).toNat t stands).over (senM K.threads t x.frm K.threads.length).toNat 0
     else ((K.heard (senM K.threads t x.frm K.threads.length).toNat t stands).over (senM K.threads t x.frm K.threads.length).toNat 0).toLast (senM K.threads t x.frm K.threads.length).toNat
noncomputable def RM.goes (n:Nat) (K:RM) (s:Nat) (stands:Bool):RM:=
 match K.threads[s]? with
 | none=>K
 | some z=>if z.frm≠-2 then K.recv n s stands else if stands=true then K.over s 0 else (K.over s 0).toLast s
theorem recv_none {n:Nat}{K:RM}{t:Nat}{stands:Bool}{x:Th}(hx:K.threads[t]? = some x) (hs:senM K.threads t x.frm K.threads.length < 0):K.recv (n+1) t stands=if x.wait≠0 then K.waits t 3 (-1) else if stands=true then K.over t 5 else (K.over t 5).toLast t:=by
 simp only [RM.recv,hx]
 rw [if_pos hs]
theorem recv_some {n:Nat}{K:RM}{t s:Nat}{stands:Bool}{x:Th}(hx:K.threads[t]? = some x) (hs:senM K.threads t x.frm K.threads.length=s):K.recv (n+1) t stands=(K.heard s t stands).goes n s false:=by
 simp only [RM.recv,hx,hs]
 rw [if_neg (by omega),Int.toNat_natCast]
 rfl
theorem RM.Fit.heard {K:RM}(h:K.Fit) (s t:Nat) (stands:Bool):(K.heard s t stands).Fit:=by
 unfold RM.heard
 split
 ·exact h.deliver s t
 ·exact (h.deliver s t).toFirst t
def sending (ts:List Th):Nat:=(ts.filter (fun t=>t.st == 2)).length
theorem sending_modify {ts:List Th}{t:Nat}{u:Th}(f:Th->Th) (hu:ts[t]? = some u) (h2:(f u).st≠2):sending (ts.modify t f)+(if u.st=2 then 1 else 0)=sending ts:=by
 unfold sending
 induction ts generalizing t with
 | nil=>simp at hu
 | cons x ts ih=>
  cases t with
  | zero=>
   simp at hu
   subst hu
   rw [List.modify_zero_cons,List.filter_cons,List.filter_cons]
   by_cases e:x.st=2
   ·simp [e,h2]
   ·simp [e,h2]
  | succ t=>
   have:=ih (t:=t) (by simpa using hu)
   rw [List.modify_succ_cons,List.filter_cons,List.filter_cons]
   by_cases e:x.st=2
   ·simp [e];omega
   ·simp [e];omega
theorem sending_pos {ts:List Th}{t:Nat}{u:Th}(hu:ts[t]? = some u) (h2:u.st=2):0 < sending ts:=by
 unfold sending
 exact List.length_pos_of_mem (List.mem_filter.2 ⟨List.mem_of_getElem? hu,by simp [h2]⟩)
open Go.RowKit
def quad (l:Lf):Int×Int×Int×Int:=(l.sp,l.pg,l.fr,l.rt)
theorem find_quad (L:List Lf) (s n:Int):findQ (L.map quad) s n=(findLf L s n).map quad:=by
 unfold findQ findLf
 rw [List.find?_map]
 rfl
open Go.RowKit
structure PT where
 sp:Int
 row:Int
 left:Int
 st:Int
 code:Int
 who:Int
 ws:List Int
 got:Int
 tgt:Int
 pw:List Int
 item:Int
 rt:Int
 frm:Int
 win:Int
 wait:Int
 time:Int
 wl:List Nat
structure PM where
 threads:List PT
 ln:Nat->List Nat
 sp:Int
 passes:List (Int×Int×Int×Int)
 leaves:List Lf
 fr:Nat->Int
 clock:Int
def PM.upd (M:PM) (i:Nat) (f:PT->PT):PM:={ M with threads:=M.threads.modify i f }
def PM.setLn (M:PM) (r:Nat) (l:List Nat):PM:={ M with ln:=fun s=>if s=r then l else M.ln s }
theorem get_modA {α:Type}{l:List α}{i t:Nat}{u:α}{g:α->α}(hu:l[i]? = some u):(l.modify i g)[t]? = if t=i then some (g u) else l[t]?:=by
 rw [List.getElem?_modify]
 by_cases e:i=t
 ·subst e;simp [hu]
 ·rw [if_neg (fun x=>e x.symm)];simp [e]
def overP (code who:Int) (ws:List Int) (got:Int) (p:PT):PT:={ p with st:=1,code:=code,who:=who,ws:=ws,got:=got,tgt:=0,pw:=[],item:=0,rt:=0,frm:=0,win:=0,wait:=0,time:=0 }
open Go.RowKit
theorem Sl.of_block {w w':World}{e:TypeId}{size g n c:Nat}{rows:List (List Value)}(h:Sl w e size (.slice (some ⟨g,0,none⟩) n c) rows) (hb:w'.heap[g]? = w.heap[g]?):Sl w' e size (.slice (some ⟨g,0,none⟩) n c) rows:=by
 refine ⟨⟨h.own.1,?_⟩,h.len⟩
 rcases h.own.2 with a | ⟨g',cap,cur,e1,a1,a2,a3⟩
 ·exact .inl a
 ·have e2:=e1
  simp only [Value.slice.injEq,Option.some.injEq,Addr.mk.injEq,and_true] at e2
  obtain ⟨e2a,_⟩:=e2
  subst e2a
  exact .inr ⟨g,cap,cur,e1,a1,hb.trans a2,a3⟩
structure Bk where
 x:Nat
 ty:TypeId
 g:Nat
 c:Nat
 gs:Nat
 cp:Nat
def prow (p:PT) (s:Sv×Sv×Value):List Value:=[.int .i64 p.sp,.int .i64 p.row,.int .i64 p.left,.int .i64 p.st,.int .i64 p.code,.int .i64 p.who,.slice s.1.a s.1.n s.1.c,.int .i64 p.got,.int .i64 p.tgt,.slice s.2.1.a s.2.1.n s.2.1.c,.int .i64 p.item,.int .i64 p.rt,.int .i64 p.frm,.int .i64 p.win,.int .i64 p.wait,.int .u64 p.time,s.2.2]
def prows (ts:List PT) (sl:List (Sv×Sv×Value)):List (List Value):=List.zipWith prow ts sl
theorem prows_len {ts:List PT}{sl:List (Sv×Sv×Value)}(h:sl.length=ts.length):(prows ts sl).length=ts.length:=by simp [prows,h]
theorem prows_get {ts:List PT}{sl:List (Sv×Sv×Value)}{i:Nat}{p:PT}{s:Sv×Sv×Value}(ht:ts[i]? = some p) (hs:sl[i]? = some s):(prows ts sl)[i]? = some (prow p s):=by
 simp [prows,List.getElem?_zipWith,ht,hs]
theorem prows_set {ts:List PT}{sl:List (Sv×Sv×Value)}{i:Nat}{p:PT}{s:Sv×Sv×Value}(f:PT->PT) (s':Sv×Sv×Value) (ht:ts[i]? = some p) (hs:sl[i]? = some s):(prows ts sl).set i (prow (f p) s')=prows (ts.modify i f) (sl.set i s'):=by
 have h1:=(List.getElem?_eq_some_iff.1 ht).1
 have h2:=(List.getElem?_eq_some_iff.1 hs).1
 apply List.ext_getElem?
 intro j
 rw [List.getElem?_set]
 unfold prows
 by_cases e:i=j
 ·subst e
  rw [if_pos rfl,if_pos (by simp;omega),List.getElem?_zipWith,List.getElem?_modify,List.getElem?_set_self h2,ht]
  simp
 ·simp only [if_neg e,List.getElem?_zipWith,List.getElem?_modify,List.getElem?_set_ne e]
  simp
def cell2 (o:Option (Int×Int×Int×Int)):List Value:=
 match o with
 | none=>[.int .i64 0,.int .i64 0]
 | some p=>[.int .i64 p.2.2.1,.int .i64 p.2.2.2]
def six (L:List (Int×Int×Int×Int)) (s:Int):List Value:=cell2 (findQ L s 0) ++ cell2 (findQ L s 1) ++ cell2 (findQ L s 2) ++ cell2 (findQ L s 3) ++ cell2 (findQ L s 4) ++ cell2 (findQ L s 5)
def upV (gs:Nat) (l:Lf):Value:=if l.usp < 0 then .pointer none else .pointer (some ⟨gs,l.usp.toNat*30+12+l.upg.toNat*3,none⟩)
def cell3 (gs:Nat) (o:Option Lf):List Value:=
 match o with
 | none=>[.int .i64 0,.int .i64 0,.pointer none]
 | some l=>[.int .i64 l.fr,.int .i64 l.rt,upV gs l]
def pages (gs:Nat) (L:List Lf) (s:Int):List Value:=cell3 gs (findLf L s 0) ++ cell3 gs (findLf L s 1) ++ cell3 gs (findLf L s 2) ++ cell3 gs (findLf L s 3) ++ cell3 gs (findLf L s 4) ++ cell3 gs (findLf L s 5)
def spRowM (gs:Nat) (Q:List (Int×Int×Int×Int)) (L:List Lf) (s:Nat):List Value:=six Q s ++ pages gs L s
def spRowsM (n gs:Nat) (Q:List (Int×Int×Int×Int)) (L:List Lf):List (List Value):=(List.range n).map (spRowM gs Q L)
def lnV (rv:Nat->Value) (sl:List (Sv×Sv×Value)) (j:Nat):Value:=if j < 4 then rv j else ((sl[j-4]?).map (fun s=>s.2.2)).getD (.slice none 0 0)
def PM.line (M:PM) (j:Nat):List Nat:=if j < 4 then M.ln j else ((M.threads[j-4]?).map PT.wl).getD []
def PWr (B:Bk) (n:Nat) (rv:Nat->Value) (sl:List (Sv×Sv×Value)) (k:Nat):Prop:=k=B.x\/k=B.g\/k=B.gs\/∃ j,j < 4+n/\(lnV rv sl j).ownBlock=some k
structure PWd (w:World) (B:Bk) (n:Nat) (rv:Nat->Value) (sl:List (Sv×Sv×Value)) (s:Sv) (l:List Int):Prop where
 inl:Inl w 1 s.v (l.map lnI)
 at_:∀ k,inBlock s.v=some k->k < w.heap.size/\¬ PWr B n rv sl k
def POwn (B:Bk) (n:Nat) (rv:Nat->Value) (sl:List (Sv×Sv×Value)) (k:Nat):Prop:=PWr B n rv sl k\/∃ (i:Nat) (s:Sv×Sv×Value),sl[i]? = some s/\(inBlock s.1.v=some k\/inBlock s.2.1.v=some k)
theorem PWd.nil (w:World) (B:Bk) (n:Nat) (rv:Nat->Value) (sl:List (Sv×Sv×Value)):PWd w B n rv sl Sv.nil []:=⟨⟨by simp,by simp,none,0,rfl,by simp,.inl rfl⟩,fun k h=>by simp [inBlock,Sv.nil] at h⟩
theorem PWd.kept {w w':World}{B:Bk}{n:Nat}{rv rv':Nat->Value}{sl sl':List (Sv×Sv×Value)}{s:Sv}{l:List Int}(h:PWd w B n rv sl s l){S:Nat->Prop}(hf:Fr S w w') (hs:∀ k,k < w.heap.size->¬ PWr B n rv sl k->¬ S k\/inBlock s.v≠some k) (hw:∀ k,k < w.heap.size->PWr B n rv' sl' k->PWr B n rv sl k):PWd w' B n rv' sl' s l:=
 ⟨h.inl.kept (by omega) hf (fun k hk=>by rcases hs k (h.at_ k hk).1 (h.at_ k hk).2 with g | g;exact g;exact absurd hk g),fun k hk=>⟨Nat.lt_of_lt_of_le (h.at_ k hk).1 hf.size,fun g=>(h.at_ k hk).2 (hw k (h.at_ k hk).1 g)⟩⟩
structure PmAt (w:World) (B:Bk) (M:PM) (cs:Array Value) (rv:Nat->Value) (sl:List (Sv×Sv×Value)):Prop where
 blk:w.heap[B.x]? = some (.cells cs B.ty (0,0))
 size:cs.size=39
 c0:cs[0]? = some (.int .u64 M.clock)
 c1:cs[1]? = some (.slice (some ⟨B.g,0,none⟩) M.threads.length B.c)
 row:∀ r,r < 4->cs[2+r]? = some (rv r)
 c6:cs[6]? = some (.slice (some ⟨B.gs,0,none⟩) M.sp.toNat B.cp)
 fr:∀ j,j < 32->cs[7+j]? = some (.int .i64 (M.fr j))
 ln:sl.length=M.threads.length
 th:Sl w 158 17 (.slice (some ⟨B.g,0,none⟩) M.threads.length B.c) (prows M.threads sl)
 sp:Sl w 232 30 (.slice (some ⟨B.gs,0,none⟩) M.sp.toNat B.cp) (spRowsM M.sp.toNat B.gs M.passes M.leaves)
 li:∀ j,j < 4+M.threads.length->Sl w 3 1 (lnV rv sl j) ((M.line j).map lnRow)
 wd:∀ (i:Nat) p s,M.threads[i]? = some p->sl[i]? = some s->PWd w B M.threads.length rv sl s.1 p.ws/\PWd w B M.threads.length rv sl s.2.1 p.pw
 n1:B.g≠B.x/\B.gs≠B.x/\B.g≠B.gs
 n2:∀ j,j < 4+M.threads.length->∀ k,(lnV rv sl j).ownBlock=some k->k≠B.x/\k≠B.g/\k≠B.gs
 n3:∀ i j,i < 4+M.threads.length->j < 4+M.threads.length->i≠j->∀ k,(lnV rv sl i).ownBlock=some k->(lnV rv sl j).ownBlock≠some k
section
variable {w w':World}{B:Bk}{M:PM}{cs:Array Value}{rv:Nat->Value}{sl:List (Sv×Sv×Value)}
theorem PmAt.lx (h:PmAt w B M cs rv sl):B.x < w.heap.size:=(Array.getElem?_eq_some_iff.1 h.blk).1
theorem PmAt.lg (h:PmAt w B M cs rv sl):B.g < w.heap.size:=h.th.lt rfl
theorem PmAt.ls (h:PmAt w B M cs rv sl):B.gs < w.heap.size:=h.sp.lt rfl
theorem PmAt.sl_get (h:PmAt w B M cs rv sl){i:Nat}{p:PT}(hp:M.threads[i]? = some p):∃ s,sl[i]? = some s:=
 ⟨_,List.getElem?_eq_getElem (by rw [h.ln];exact (List.getElem?_eq_some_iff.1 hp).1)⟩
theorem PmAt.wlt (h:PmAt w B M cs rv sl){k:Nat}(hk:PWr B M.threads.length rv sl k):k < w.heap.size:=by
 rcases hk with rfl | rfl | rfl | ⟨j,hj,hk⟩
 ·exact h.lx
 ·exact h.lg
 ·exact h.ls
 ·exact (h.li j hj).lt hk
theorem PmAt.lt (h:PmAt w B M cs rv sl){k:Nat}(hk:POwn B M.threads.length rv sl k):k < w.heap.size:=by
 rcases hk with hk | ⟨i,s,hs,hk⟩
 ·exact h.wlt hk
 ·have hi:i < M.threads.length:=by rw [<- h.ln];exact (List.getElem?_eq_some_iff.1 hs).1
  have hw:=h.wd i _ s (List.getElem?_eq_getElem hi) hs
  rcases hk with hk | hk
  ·exact (hw.1.at_ k hk).1
  ·exact (hw.2.at_ k hk).1
theorem PmAt.kept (h:PmAt w B M cs rv sl){S:Nat->Prop}(hf:Fr S w w') (hs:∀ k,POwn B M.threads.length rv sl k->¬ S k):PmAt w' B M cs rv sl:=
 ⟨(hf.block B.x h.lx (hs B.x (.inl (.inl rfl)))).trans h.blk,h.size,h.c0,h.c1,h.row,h.c6,h.fr,h.ln,h.th.kept hf (fun k hk=>by simp [Value.ownBlock] at hk;subst hk;exact hs _ (.inl (.inr (.inl rfl)))),h.sp.kept hf (fun k hk=>by simp [Value.ownBlock] at hk;subst hk;exact hs _ (.inl (.inr (.inr (.inl rfl))))),
 fun j hj=>(h.li j hj).kept hf (fun k hk=>hs k (.inl (.inr (.inr (.inr ⟨j,hj,hk⟩))))),
 fun i p s hp hsl=>⟨(h.wd i p s hp hsl).1.kept hf (fun k _ _=>by
   by_cases e:inBlock s.1.v=some k
   ·exact .inl (hs k (.inr ⟨i,s,hsl,.inl e⟩))
   ·exact .inr e) (fun _ _ h=>h),(h.wd i p s hp hsl).2.kept hf (fun k _ _=>by
   by_cases e:inBlock s.2.1.v=some k
   ·exact .inl (hs k (.inr ⟨i,s,hsl,.inr e⟩))
   ·exact .inr e) (fun _ _ h=>h)⟩,h.n1,h.n2,h.n3⟩
theorem PmAt.below (h:PmAt w B M cs rv sl) (hb:Below w.heap.size w w'):PmAt w' B M cs rv sl:=h.kept (Fr.of_below hb (fun _=>False)) (fun _ _ h=>h)
theorem PmAt.drew (h:PmAt w B M cs rv sl):PmAt w.drew B M cs rv sl:=h.kept ((Fr.refl (fun _=>False) w).drew) (fun _ _ h=>h)
theorem PmAt.alloc (h:PmAt w B M cs rv sl) (o:Obj):PmAt (w.alloc o) B M cs rv sl:=h.kept ((Fr.refl (fun _=>False) w).alloc o) (fun _ _ h=>h)
theorem PmAt.cell (h:PmAt w B M cs rv sl) (j:Nat):w.cell? ⟨B.x,j,none⟩=cs[j]?:=cell_of_row w B.x j _ _ _ h.blk
theorem PmAt.fro (h:PmAt w B M cs rv sl) (j:Nat):w.frozen? ⟨B.x,j,none⟩=false:=frozen_of_row _ _ _ _ _ h.blk
theorem PmAt.tcell (h:PmAt w B M cs rv sl){t:Nat}{p:PT}{s:Sv×Sv×Value}(hp:M.threads[t]? = some p) (hs:sl[t]? = some s) (j:Nat) (hj:j < 17):w.cell? ⟨B.g,t*17+j,none⟩=(prow p s)[j]?:=by
 have hl:t < (prows M.threads sl).length:=by rw [prows_len h.ln];exact (List.getElem?_eq_some_iff.1 hp).1
 have e:=prows_get hp hs
 rw [List.getElem?_eq_getElem hl] at e
 rw [h.th.cell t j hl hj,Option.some.inj e]
theorem PmAt.trange (h:PmAt w B M cs rv sl){t:Nat}{p:PT}{s:Sv×Sv×Value}(hp:M.threads[t]? = some p) (hs:sl[t]? = some s):w.rangeAt B.g (t*17) (prow p s):=h.th.row (prows_get hp hs)
theorem PmAt.tfro (h:PmAt w B M cs rv sl) (j:Nat):w.frozen? ⟨B.g,j,none⟩=false:=h.th.fro j
theorem PmAt.hrow (h:PmAt w B M cs rv sl){t:Nat}{p:PT}{s:Sv×Sv×Value}(hp:M.threads[t]? = some p) (hs:sl[t]? = some s):∃ hl:t < (prows M.threads sl).length,(prows M.threads sl)[t]=prow p s:=by
 have hl:t < (prows M.threads sl).length:=by rw [prows_len h.ln];exact (List.getElem?_eq_some_iff.1 hp).1
 have e:=prows_get hp hs
 rw [List.getElem?_eq_getElem hl] at e
 exact ⟨hl,Option.some.inj e⟩
end
theorem lnV_set {rv:Nat->Value}{sl:List (Sv×Sv×Value)}{t:Nat}{s s':Sv×Sv×Value}(hs:sl[t]? = some s) (e:s'.2.2=s.2.2) (j:Nat):lnV rv (sl.set t s') j=lnV rv sl j:=by
 unfold lnV
 split
 ·rfl
 ·rw [List.getElem?_set]
  by_cases e2:t=j-4
  ·rw [if_pos e2,if_pos (List.getElem?_eq_some_iff.1 hs).1,<- e2,hs];simp [e]
  ·rw [if_neg e2]
theorem line_upd {M:PM}{t:Nat}{f:PT->PT}(hf:∀ p,M.threads[t]? = some p->(f p).wl=p.wl) (j:Nat):(M.upd t f).line j=M.line j:=by
 unfold PM.line PM.upd
 split
 ·rfl
 ·show ((M.threads.modify t f)[j-4]?.map PT.wl).getD []=_
  rw [List.getElem?_modify]
  rcases hx:M.threads[j-4]? with _ | x
  ·rfl
  ·by_cases e:t=j-4
   ·simp [e,hf x (by rw [e];exact hx)]
   ·simp [e]
section
variable {w w':World}{B:Bk}{M:PM}{cs:Array Value}{rv:Nat->Value}{sl:List (Sv×Sv×Value)}
theorem PmAt.updTh (h:PmAt w B M cs rv sl){t:Nat}{p:PT}{s:Sv×Sv×Value}(f:PT->PT) (s':Sv×Sv×Value) (hp:M.threads[t]? = some p) (hs:sl[t]? = some s)
  (hw:Sl w' 158 17 (.slice (some ⟨B.g,0,none⟩) M.threads.length B.c) ((prows M.threads sl).set t (prow (f p) s'))) (F:Fr (fun q=>q=B.g) w w') (e2:s'.2.2=s.2.2) (e3:(f p).wl=p.wl)
  (hx:PWd w' B M.threads.length rv sl s'.1 (f p).ws) (hy:PWd w' B M.threads.length rv sl s'.2.1 (f p).pw):PmAt w' B (M.upd t f) cs rv (sl.set t s'):=by
 have hl:(M.threads.modify t f).length=M.threads.length:=by simp
 have el:∀ j,lnV rv (sl.set t s') j=lnV rv sl j:=lnV_set hs e2
 have em:∀ j,(M.upd t f).line j=M.line j:=line_upd (fun q hq=>by rw [hp] at hq;cases hq;exact e3)
 have ew:∀ k,PWr B M.threads.length rv (sl.set t s') k↔PWr B M.threads.length rv sl k:=fun k=>by unfold PWr;simp only [el]
 have ed:∀ {u:Sv}{l:List Int},PWd w' B M.threads.length rv sl u l->PWd w' B M.threads.length rv (sl.set t s') u l:=fun q=>⟨q.inl,fun k hk=>⟨(q.at_ k hk).1,fun g=>(q.at_ k hk).2 ((ew k).1 g)⟩⟩
 rw [prows_set f s' hp hs] at hw
 refine ⟨(F.block B.x h.lx (fun e=>h.n1.1 e.symm)).trans h.blk,h.size,h.c0,?_,h.row,h.c6,h.fr,?_,?_,?_,?_,?_,h.n1,?_,?_⟩
 ·show cs[1]? = some (.slice _ (M.threads.modify t f).length _);rw [hl];exact h.c1
 ·show (sl.set t s').length=(M.threads.modify t f).length;rw [hl,List.length_set];exact h.ln
 ·show Sl w' 158 17 (.slice _ (M.threads.modify t f).length _) (prows (M.threads.modify t f) _);rw [hl];exact hw
 ·exact h.sp.kept F (fun k hk e=>by simp [Value.ownBlock] at hk;subst hk;exact h.n1.2.2 e.symm)
 ·intro j hj
  have hj':j < 4+M.threads.length:=by rw [<- hl];exact hj
  rw [el,em]
  exact (h.li j hj').kept F (fun k hk e=>(h.n2 j hj' k hk).2.1 e)
 ·intro i q u hq hu
  show PWd w' B (M.threads.modify t f).length _ _ _ _/\PWd w' B (M.threads.modify t f).length _ _ _ _
  rw [hl]
  have hq2:(M.threads.modify t f)[i]? = some q:=hq
  rw [List.getElem?_modify] at hq2
  rw [List.getElem?_set] at hu
  by_cases e:t=i
  ·subst e
   rw [hp] at hq2
   rw [if_pos rfl,if_pos (List.getElem?_eq_some_iff.1 hs).1] at hu
   simp at hq2
   cases hu
   rw [<- hq2]
   exact ⟨ed hx,ed hy⟩
  ·rw [if_neg e] at hu
   rcases hz:M.threads[i]? with _ | z
   ·rw [hz] at hq2;simp at hq2
   ·rw [hz] at hq2
    simp [e] at hq2
    rw [<- hq2]
    have g:=h.wd i z u hz hu
    exact ⟨ed (g.1.kept F (fun k _ a=>.inl (fun e=>a (.inr (.inl e)))) (fun _ _ a=>a)),ed (g.2.kept F (fun k _ a=>.inl (fun e=>a (.inr (.inl e)))) (fun _ _ a=>a))⟩
 ·intro j hj k hk
  rw [el] at hk
  exact h.n2 j (by rw [<- hl];exact hj) k hk
 ·intro i j hi hj hn k hk
  rw [el] at hk ⊢
  exact h.n3 i j (by rw [<- hl];exact hi) (by rw [<- hl];exact hj) hn k hk
theorem PmAt.wdG (h:PmAt w B M cs rv sl){t:Nat}{p:PT}{s:Sv×Sv×Value}(hp:M.threads[t]? = some p) (hs:sl[t]? = some s) (F:Fr (fun q=>q=B.g) w w'):PWd w' B M.threads.length rv sl s.1 p.ws/\PWd w' B M.threads.length rv sl s.2.1 p.pw:=
 ⟨(h.wd t p s hp hs).1.kept F (fun _k _ a=>.inl (fun e=>a (.inr (.inl e)))) (fun _ _ a=>a),(h.wd t p s hp hs).2.kept F (fun _k _ a=>.inl (fun e=>a (.inr (.inl e)))) (fun _ _ a=>a)⟩
theorem PmAt.setTh (h:PmAt w B M cs rv sl){t j:Nat}{p:PT}{s:Sv×Sv×Value}(f:PT->PT) (x:Value) (hp:M.threads[t]? = some p) (hs:sl[t]? = some s) (hj:j < 17) (he:(prow p s).set j x=prow (f p) s) (e1:(f p).ws=p.ws) (e2:(f p).pw=p.pw) (e3:(f p).wl=p.wl) :
  PmAt (w.setCell ⟨B.g,t*17+j,none⟩ x) B (M.upd t f) cs rv sl/\Fr (fun q=>q=B.g) w (w.setCell ⟨B.g,t*17+j,none⟩ x):=by
 obtain ⟨hl,hrow⟩:=h.hrow hp hs
 have hset:=h.th.set t j x hl hj
 rw [hrow,he] at hset
 have F:Fr (fun q=>q=B.g) w (w.setCell ⟨B.g,t*17+j,none⟩ x):=(Fr.refl (fun q=>q=B.g) w).setCell (p:=⟨B.g,t*17+j,none⟩) (fun _=>rfl) _
 have W:=h.wdG hp hs F
 refine ⟨?_,F⟩
 have:=h.updTh f s hp hs hset F rfl e3 (by rw [e1];exact W.1) (by rw [e2];exact W.2)
 rwa [set_self hs] at this
end
section
variable {w w':World}{B:Bk}{M:PM}{cs:Array Value}{rv:Nat->Value}{sl:List (Sv×Sv×Value)}
theorem PmAt.turnLine (h:PmAt w B M cs rv sl){J:Nat}(hJ:J < 4+M.threads.length){M':PM}{cs':Array Value}{rv':Nat->Value}{sl':List (Sv×Sv×Value)}{v':Value}{l':List Nat}
  (ev:∀ j,lnV rv' sl' j=if j=J then v' else lnV rv sl j) (em:∀ j,M'.line j=if j=J then l' else M.line j) (hlen:M'.threads.length=M.threads.length) (hs:Sl w' 3 1 v' (l'.map lnRow))
  (hf:Fr (fun k=>(k=B.x\/k=B.g)\/(lnV rv sl J).ownBlock=some k) w w') (hn:∀ k,v'.ownBlock=some k->w.heap.size<=k\/(lnV rv sl J).ownBlock=some k)
  (blk:w'.heap[B.x]? = some (.cells cs' B.ty (0,0))) (size:cs'.size=39) (c0:cs'[0]? = some (.int .u64 M'.clock)) (c1:cs'[1]? = some (.slice (some ⟨B.g,0,none⟩) M'.threads.length B.c)) (row:∀ r,r < 4->cs'[2+r]? = some (rv' r))
  (c6:cs'[6]? = some (.slice (some ⟨B.gs,0,none⟩) M'.sp.toNat B.cp)) (fr:∀ j,j < 32->cs'[7+j]? = some (.int .i64 (M'.fr j))) (ln:sl'.length=M'.threads.length) (th:Sl w' 158 17 (.slice (some ⟨B.g,0,none⟩) M'.threads.length B.c) (prows M'.threads sl'))
  (e1:M'.sp=M.sp) (e2:M'.passes=M.passes) (e3:M'.leaves=M.leaves)
  (wds:∀ (i:Nat) p s,M'.threads[i]? = some p->sl'[i]? = some s->∃ p0 s0,M.threads[i]? = some p0/\sl[i]? = some s0/\p.ws=p0.ws/\p.pw=p0.pw/\s.1=s0.1/\s.2.1=s0.2.1) :
  PmAt w' B M' cs' rv' sl'/\∀ k,POwn B M'.threads.length rv' sl' k->POwn B M.threads.length rv sl k\/w.heap.size<=k:=by
 have nv:∀ k,v'.ownBlock=some k->(k≠B.x/\k≠B.g/\k≠B.gs)/\∀ j,j < 4+M.threads.length->j≠J->(lnV rv sl j).ownBlock≠some k:=by
  intro k hk
  rcases hn k hk with a | a
  ·have:=h.lx;have:=h.lg;have:=h.ls
   exact ⟨⟨by omega,by omega,by omega⟩,fun j hj _ e=>by have:=(h.li j hj).lt e;omega⟩
  ·exact ⟨h.n2 J hJ k a,fun j hj hne=>h.n3 J j hJ hj (Ne.symm hne) k a⟩
 have ew:∀ k,PWr B M.threads.length rv' sl' k->PWr B M.threads.length rv sl k\/w.heap.size<=k:=by
  rintro k (hk | hk | hk | ⟨j,hj,hk⟩)
  ·exact .inl (.inl hk)
  ·exact .inl (.inr (.inl hk))
  ·exact .inl (.inr (.inr (.inl hk)))
  ·rw [ev] at hk
   split at hk
   ·rcases hn k hk with a | a
    ·exact .inr a
    ·exact .inl (.inr (.inr (.inr ⟨J,hJ,a⟩)))
   ·exact .inl (.inr (.inr (.inr ⟨j,hj,hk⟩)))
 have inS:∀ k,((k=B.x\/k=B.g)\/(lnV rv sl J).ownBlock=some k)->PWr B M.threads.length rv sl k:=by
  rintro k ((e | e) | e)
  ·exact .inl e
  ·exact .inr (.inl e)
  ·exact .inr (.inr (.inr ⟨J,hJ,e⟩))
 refine ⟨⟨blk,size,c0,c1,row,c6,fr,ln,th,?_,?_,?_,h.n1,?_,?_⟩,?_⟩
 ·rw [e1,e2,e3]
  refine h.sp.kept hf (fun k hk e=>?_)
  simp [Value.ownBlock] at hk
  subst hk
  rcases e with (e | e) | e
  ·exact h.n1.2.1 e
  ·exact h.n1.2.2 e.symm
  ·exact (h.n2 J hJ _ e).2.2 rfl
 ·intro j hj
  rw [hlen] at hj
  rw [ev,em]
  by_cases e:j=J
  ·rw [if_pos e,if_pos e];exact hs
  ·rw [if_neg e,if_neg e]
   refine (h.li j hj).kept hf (fun k hk e'=>?_)
   rcases e' with (e' | e') | e'
   ·exact (h.n2 j hj k hk).1 e'
   ·exact (h.n2 j hj k hk).2.1 e'
   ·exact h.n3 J j hJ hj (Ne.symm e) k e' hk
 ·intro i p s hp hsl
  rw [hlen]
  obtain ⟨p0,s0,hp0,hs0,a1,a2,a3,a4⟩:=wds i p s hp hsl
  rw [a1,a2,a3,a4]
  have g:=h.wd i p0 s0 hp0 hs0
  exact ⟨g.1.kept hf (fun k _ a=>.inl (fun e=>a (inS k e))) (fun k hk a=>(ew k a).elim id (fun b=>by omega)),g.2.kept hf (fun k _ a=>.inl (fun e=>a (inS k e))) (fun k hk a=>(ew k a).elim id (fun b=>by omega))⟩
 ·intro j hj k hk
  rw [hlen] at hj
  rw [ev] at hk
  split at hk
  ·exact (nv k hk).1
  ·exact h.n2 j hj k hk
 ·intro i j hi hj hne k hk
  rw [hlen] at hi hj
  rw [ev] at hk ⊢
  by_cases ei:i=J
  ·rw [if_pos ei] at hk
   rw [if_neg (by omega)]
   exact (nv k hk).2 j hj (by omega)
  ·rw [if_neg ei] at hk
   by_cases ej:j=J
   ·rw [if_pos ej];exact fun a=>(nv k a).2 i hi ei hk
   ·rw [if_neg ej];exact h.n3 i j hi hj hne k hk
 ·rw [hlen]
  rintro k (hk | ⟨i,s,hsl,hk⟩)
  ·exact (ew k hk).imp .inl id
  ·have hi:i < M'.threads.length:=by rw [<- ln];exact (List.getElem?_eq_some_iff.1 hsl).1
   obtain ⟨p0,s0,hp0,hs0,a1,a2,a3,a4⟩:=wds i _ s (List.getElem?_eq_getElem hi) hsl
   rw [a3,a4] at hk
   exact .inl (.inr ⟨i,s0,hs0,hk⟩)
theorem PmAt.setRow (h:PmAt w B M cs rv sl){r:Nat}(hr:r < 4){v':Value}{l':List Nat}(hb:w'.heap[B.x]? = some (.cells (cs.setIfInBounds (2+r) v') B.ty (0,0))) (hs:Sl w' 3 1 v' (l'.map lnRow)) (hf:Fr (fun k=>k=B.x\/(rv r).ownBlock=some k) w w') (hn:∀ k,v'.ownBlock=some k->w.heap.size<=k\/(rv r).ownBlock=some k) :
  PmAt w' B (M.setLn r l') (cs.setIfInBounds (2+r) v') (fun s=>if s=r then v' else rv s) sl/\∀ k,POwn B M.threads.length (fun s=>if s=r then v' else rv s) sl k->POwn B M.threads.length rv sl k\/w.heap.size<=k:=by
 have eJ:lnV rv sl r=rv r:=by unfold lnV;rw [if_pos hr]
 have hJ:r < 4+M.threads.length:=by omega
 have nr:=h.n2 r hJ
 rw [eJ] at nr
 refine h.turnLine hJ (M':=M.setLn r l') (v':=v') (l':=l') (fun j=>?_) (fun j=>?_) rfl hs (by rw [eJ];exact hf.mono (fun k _ e=>e.elim (fun e=>.inl (.inl e)) .inr)) (by rw [eJ];exact hn) hb (by simpa using h.size) ?_ ?_ ?_ ?_ ?_ h.ln ?_ rfl rfl rfl (fun i p s hp hs=>⟨p,s,hp,hs,rfl,rfl,rfl,rfl⟩)
 ·unfold lnV
  by_cases e:j=r
  ·subst e;simp [hr]
  ·simp [e]
 ·unfold PM.line PM.setLn
  by_cases e:j=r
  ·subst e;simp [hr]
  ·simp [e]
 ·rw [Array.getElem?_setIfInBounds_ne (by omega)];exact h.c0
 ·rw [Array.getElem?_setIfInBounds_ne (by omega)];exact h.c1
 ·intro q hq
  by_cases e:q=r
  ·subst e;rw [if_pos rfl,Array.getElem?_setIfInBounds_self_of_lt (by have:=h.size;omega)]
  ·rw [if_neg e,Array.getElem?_setIfInBounds_ne (by omega)];exact h.row q hq
 ·rw [Array.getElem?_setIfInBounds_ne (by omega)];exact h.c6
 ·intro j hj;rw [Array.getElem?_setIfInBounds_ne (by omega)];exact h.fr j hj
 ·exact h.th.kept hf (fun k hk e=>by
   simp [Value.ownBlock] at hk
   subst hk
   rcases e with e | e
   ·exact h.n1.1 e
   ·exact (nr _ e).2.1 rfl)
theorem PmAt.setWl (h:PmAt w B M cs rv sl){t:Nat}{p:PT}{s:Sv×Sv×Value}(hp:M.threads[t]? = some p) (hs:sl[t]? = some s){v':Value}{l':List Nat}{cur:Array Value}(hcur:w.heap[B.g]? = some (.cells cur 158 (0,0))) (hb:w'.heap[B.g]? = some (.cells (cur.setIfInBounds (t*17+16) v') 158 (0,0))) (hsl:Sl w' 3 1 v' (l'.map lnRow)) (hf:Fr (fun k=>k=B.g\/s.2.2.ownBlock=some k) w w') (hn:∀ k,v'.ownBlock=some k->w.heap.size<=k\/s.2.2.ownBlock=some k) :
  PmAt w' B (M.upd t (fun p=>{ p with wl:=l' })) cs rv (sl.set t (s.1,s.2.1,v'))/\∀ k,POwn B M.threads.length rv (sl.set t (s.1,s.2.1,v')) k->POwn B M.threads.length rv sl k\/w.heap.size<=k:=by
 have htl:=(List.getElem?_eq_some_iff.1 hp).1
 have hsl':=(List.getElem?_eq_some_iff.1 hs).1
 have eJ:lnV rv sl (4+t)=s.2.2:=by unfold lnV;rw [if_neg (by omega),show 4+t-4=t by omega,hs];rfl
 have hJ:4+t < 4+M.threads.length:=by omega
 have nr:=h.n2 (4+t) hJ
 rw [eJ] at nr
 have hlen:(M.upd t (fun p=>{ p with wl:=l' })).threads.length=M.threads.length:=by simp [PM.upd]
 have key:=h.turnLine hJ (M':=M.upd t (fun p=>{ p with wl:=l' })) (cs':=cs) (rv':=rv) (sl':=sl.set t (s.1,s.2.1,v')) (v':=v') (l':=l') (fun j=>?_) (fun j=>?_) hlen hsl (by rw [eJ];exact hf.mono (fun k _ e=>e.elim (fun e=>.inl (.inr e)) .inr)) (by rw [eJ];exact hn) ((hf.block B.x h.lx (fun e=>by
   rcases e with e | e
   ·exact h.n1.1 e.symm
   ·exact (nr _ e).1 rfl)).trans h.blk) h.size h.c0 (by rw [hlen];exact h.c1) h.row h.c6 h.fr (by rw [hlen,List.length_set];exact h.ln) ?_ rfl rfl rfl ?_
 ·rw [hlen] at key;exact key
 ·unfold lnV
  by_cases e:j=4+t
  ·subst e
   rw [if_neg (by omega),if_pos rfl,show 4+t-4=t by omega,List.getElem?_set_self hsl']
   rfl
  ·rw [if_neg e]
   split
   ·rfl
   ·rw [List.getElem?_set_ne (by omega)]
 ·unfold PM.line
  by_cases e:j=4+t
  ·subst e
   rw [if_neg (by omega),if_pos rfl,show 4+t-4=t by omega]
   show ((M.threads.modify t _)[t]?.map PT.wl).getD []=_
   rw [get_modA hp]
   simp
  ·rw [if_neg e]
   split
   ·rfl
   ·show ((M.threads.modify t _)[j-4]?.map PT.wl).getD []=_
    rw [get_modA hp,if_neg (by omega)]
 ·rw [hlen]
  obtain ⟨hl,hrow⟩:=h.hrow hp hs
  have hset:=h.th.set t 16 v' hl (by omega)
  rw [hrow,show (prow p s).set 16 v'=prow ((fun p:PT=>{ p with wl:=l' }) p) (s.1,s.2.1,v') from rfl,prows_set (fun p:PT=>{ p with wl:=l' }) (s.1,s.2.1,v') hp hs] at hset
  have hb2:w'.heap[B.g]? = (w.setCell ⟨B.g,t*17+16,none⟩ v').heap[B.g]?:=by rw [hb,heap_setCell_same w B.g (t*17+16) cur 158 v' hcur]
  exact hset.of_block hb2
 ·intro i q u hq hu
  have hq2:(M.threads.modify t (fun p=>{ p with wl:=l' }))[i]? = some q:=hq
  rw [get_modA hp] at hq2
  rw [List.getElem?_set] at hu
  by_cases e:t=i
  ·subst e
   rw [if_pos rfl] at hq2
   rw [if_pos rfl,if_pos hsl'] at hu
   cases hq2
   cases hu
   exact ⟨p,s,hp,hs,rfl,rfl,rfl,rfl⟩
  ·rw [if_neg (fun a=>e a.symm)] at hq2
   rw [if_neg e] at hu
   exact ⟨q,u,hq2,hu,rfl,rfl,rfl,rfl⟩
theorem PmAt.cur (h:PmAt w B M cs rv sl):∃ cur,w.heap[B.g]? = some (.cells cur 158 (0,0))/\∀ (t:Nat) p s,M.threads[t]? = some p->sl[t]? = some s->cur[t*17+16]? = some s.2.2:=by
 rcases h.th.own.2 with ⟨a,_⟩ | ⟨g',cap,cur,e1,a1,a2,a3⟩
 ·simp at a
 ·simp only [Value.slice.injEq,Option.some.injEq,Addr.mk.injEq,and_true] at e1
  obtain ⟨e1a,e1b,e1c⟩:=e1
  subst e1a
  refine ⟨cur,a2,fun t p s hp hs=>?_⟩
  have:=h.tcell hp hs 16 (by omega)
  rw [cell_of_row w B.g _ _ _ _ a2] at this
  exact this.trans rfl
theorem PmAt.setX (h:PmAt w B M cs rv sl){j:Nat}{x:Value}{M':PM}(_hj:j < 39) (hj2:j=0\/7<=j) (e1:M'.threads=M.threads) (e2:M'.ln=M.ln) (e3:M'.sp=M.sp) (e4:M'.passes=M.passes) (e5:M'.leaves=M.leaves)
  (c0:(cs.setIfInBounds j x)[0]? = some (.int .u64 M'.clock)) (fr:∀ i,i < 32->(cs.setIfInBounds j x)[7+i]? = some (.int .i64 (M'.fr i))) :
  PmAt (w.setCell ⟨B.x,j,none⟩ x) B M' (cs.setIfInBounds j x) rv sl/\Fr (fun k=>k=B.x) w (w.setCell ⟨B.x,j,none⟩ x):=by
 have F:Fr (fun k=>k=B.x) w (w.setCell ⟨B.x,j,none⟩ x):=(Fr.refl (fun k=>k=B.x) w).setCell (p:=⟨B.x,j,none⟩) (fun _=>rfl) _
 have el:∀ j,M'.line j=M.line j:=fun j=>by unfold PM.line;rw [e1,e2]
 refine ⟨⟨heap_setCell_same w B.x j cs B.ty _ h.blk,by simpa using h.size,c0,?_,?_,?_,fr,?_,?_,?_,?_,?_,h.n1,?_,?_⟩,F⟩
 ·rw [e1,Array.getElem?_setIfInBounds_ne (by omega)];exact h.c1
 ·intro r hr;rw [Array.getElem?_setIfInBounds_ne (by omega)];exact h.row r hr
 ·rw [e3,Array.getElem?_setIfInBounds_ne (by omega)];exact h.c6
 ·rw [e1];exact h.ln
 ·rw [e1];exact h.th.kept F (fun k hk e=>by simp [Value.ownBlock] at hk;subst hk;exact h.n1.1 e)
 ·rw [e3,e4,e5];exact h.sp.kept F (fun k hk e=>by simp [Value.ownBlock] at hk;subst hk;exact h.n1.2.1 e)
 ·intro j hj;rw [e1] at hj;rw [el];exact (h.li j hj).kept F (fun k hk e=>(h.n2 j hj k hk).1 e)
 ·intro i p s hp hs
  rw [e1] at hp ⊢
  have g:=h.wd i p s hp hs
  exact ⟨g.1.kept F (fun k _ a=>.inl (fun e=>a (.inl e))) (fun _ _ a=>a),g.2.kept F (fun k _ a=>.inl (fun e=>a (.inl e))) (fun _ _ a=>a)⟩
 ·rw [e1];exact h.n2
 ·rw [e1];exact h.n3
theorem PmAt.setSp (h:PmAt w B M cs rv sl) {Q:List (Int×Int×Int×Int)} {L:List Lf} (hs:Sl w' 232 30 (.slice (some ⟨B.gs,0,none⟩) M.sp.toNat B.cp) (spRowsM M.sp.toNat B.gs Q L)) (F:Fr (fun k=>k=B.gs) w w'):PmAt w' B { M with passes:=Q,leaves:=L } cs rv sl:=by
 refine ⟨(F.block B.x h.lx (fun e=>h.n1.2.1 e.symm)).trans h.blk,h.size,h.c0,h.c1,h.row,h.c6,h.fr,h.ln,h.th.kept F (fun k hk e=>by simp [Value.ownBlock] at hk;subst hk;exact h.n1.2.2 e),hs,fun j hj=>(h.li j hj).kept F (fun k hk e=>(h.n2 j hj k hk).2.2 e),fun i p s hp hs=>?_,h.n1,h.n2,h.n3⟩
 have g:=h.wd i p s hp hs
 exact ⟨g.1.kept F (fun k _ a=>.inl (fun e=>a (.inr (.inr (.inl e))))) (fun _ _ a=>a),g.2.kept F (fun k _ a=>.inl (fun e=>a (.inr (.inr (.inl e))))) (fun _ _ a=>a)⟩
end
def PRep (w:World) (B:Bk) (S:Nat->Prop) (M:PM):Prop:=∃ cs rv sl,PmAt w B M cs rv sl/\∀ k,S k↔POwn B M.threads.length rv sl k
def PLeft (B:Bk) (S:Nat->Prop) (M:PM) (w w':World):Prop:=(∃ S',PRep w' B S' M/\∀ b,S' b->S b\/w.heap.size<=b)/\Fr S w w'
theorem PRep.kept {w w':World}{B:Bk}{S T:Nat->Prop}{M:PM}(h:PRep w B S M) (hf:Fr T w w') (ht:∀ b,S b->¬ T b):PRep w' B S M:=by
 obtain ⟨cs,rv,sl,h,hS⟩:=h
 exact ⟨cs,rv,sl,h.kept hf (fun k hk=>ht k ((hS k).2 hk)),hS⟩
theorem PRep.below {w w':World}{B:Bk}{S:Nat->Prop}{M:PM}(h:PRep w B S M) (hb:Below w.heap.size w w'):PRep w' B S M:=h.kept (Fr.of_below hb (fun _=>False)) (fun _ _ h=>h)
theorem PLeft.refl {w:World}{B:Bk}{S:Nat->Prop}{M:PM}(h:PRep w B S M):PLeft B S M w w:=⟨⟨S,h,fun _ h=>.inl h⟩,Fr.refl _ _⟩
theorem PLeft.below {w w':World}{B:Bk}{S:Nat->Prop}{M:PM}(h:PRep w B S M) (hb:Below w.heap.size w w'):PLeft B S M w w':=⟨⟨S,h.below hb,fun _ h=>.inl h⟩,Fr.of_below hb S⟩
theorem Fr.next {S S':Nat->Prop}{a b c:World}(h:Fr S a b) (k:Fr S' b c) (hs:∀ i,S' i->S i\/a.heap.size<=i):Fr S a c:=
 ⟨k.os.trans h.os,k.tape.trans h.tape,k.output.trans h.output,Nat.le_trans h.size k.size,fun i hi hn=>(k.block i (Nat.lt_of_lt_of_le hi h.size) (fun e=>(hs i e).elim hn (fun g=>by omega))).trans (h.block i hi hn)⟩
theorem PLeft.next {w w1 w2:World}{B:Bk}{S:Nat->Prop}{M1 M2:PM}(h:PLeft B S M1 w w1) (k:∀ S',PRep w1 B S' M1->PLeft B S' M2 w1 w2):PLeft B S M2 w w2:=by
 obtain ⟨⟨S1,h1,h2⟩,F1⟩:=h
 obtain ⟨⟨S2,k1,k2⟩,F2⟩:=k S1 h1
 refine ⟨⟨S2,k1,fun b hb=>?_⟩,F1.next F2 h2⟩
 rcases k2 b hb with e | e
 ·exact h2 b e
 ·exact .inr (Nat.le_trans F1.size e)
theorem PLeft.of {w w':World}{B:Bk}{S:Nat->Prop}{M M':PM}{cs':Array Value}{rv rv':Nat->Value}{sl sl':List (Sv×Sv×Value)}(hS:∀ k,S k↔POwn B M.threads.length rv sl k) (hl:M'.threads.length=M.threads.length) (h':PmAt w' B M' cs' rv' sl') (ho:∀ k,POwn B M.threads.length rv' sl' k->POwn B M.threads.length rv sl k\/w.heap.size<=k){T:Nat->Prop}(F:Fr T w w') (hT:∀ k,T k->POwn B M.threads.length rv sl k):PLeft B S M' w w':=
 ⟨⟨_,⟨cs',rv',sl',h',fun _=>Iff.rfl⟩,fun b hb=>by rw [hl] at hb;exact (ho b hb).imp (hS b).2 id⟩,F.mono (fun k _ e=>(hS k).2 (hT k e))⟩
theorem Sl.run {e:TypeId}{size g n cap i:Nat}:∀ (vs:List Value) (o:Nat) (w:World) (rows:List (List Value)),Sl w e size (.slice (some ⟨g,0,none⟩) n cap) rows->(hi:i < rows.length)->o+vs.length<=size ->
  Sl (w.setCells g (i*size+o) vs) e size (.slice (some ⟨g,0,none⟩) n cap) (rows.set i (setAt rows[i] o vs))/\Fr (fun q=>q=g) w (w.setCells g (i*size+o) vs)
 | [],o,w,rows,h,hi,_=>by
  refine ⟨?_,Fr.refl _ _⟩
  simp only [setAt,List.set_getElem_self]
  exact h
 | v :: r,o,w,rows,h,hi,ho=>by
  simp only [List.length_cons] at ho
  have h1:=h.set i o v hi (by omega)
  have h2:=Sl.run r (o+1) _ _ h1 (by simpa using hi) (by omega)
  have F1:Fr (fun q=>q=g) w (w.setCell ⟨g,i*size+o,none⟩ v):=(Fr.refl (fun q=>q=g) w).setCell (p:=⟨g,i*size+o,none⟩) (fun _=>rfl) _
  refine ⟨?_,F1.trans h2.2⟩
  have e:=h2.1
  rw [List.getElem_set_self,List.set_set] at e
  exact e
section
variable {w w':World}{B:Bk}{M:PM}{cs:Array Value}{rv:Nat->Value}{sl:List (Sv×Sv×Value)}
theorem PmAt.run (h:PmAt w B M cs rv sl){t:Nat}{p:PT}{s:Sv×Sv×Value}(hp:M.threads[t]? = some p) (hs:sl[t]? = some s) (o:Nat) (vs:List Value) (f:PT->PT) (s':Sv×Sv×Value) (ho:o+vs.length<=17) (he:setAt (prow p s) o vs=prow (f p) s') (e2:s'.2.2=s.2.2) (e3:(f p).wl=p.wl)
  (hx:PWd w B M.threads.length rv sl s'.1 (f p).ws) (hy:PWd w B M.threads.length rv sl s'.2.1 (f p).pw):PmAt (w.setCells B.g (t*17+o) vs) B (M.upd t f) cs rv (sl.set t s')/\Fr (fun q=>q=B.g) w (w.setCells B.g (t*17+o) vs):=by
 obtain ⟨hl,hrow⟩:=h.hrow hp hs
 have R:=Sl.run vs o w _ h.th hl ho
 rw [hrow,he] at R
 refine ⟨h.updTh f s' hp hs R.1 R.2 e2 e3 (hx.kept R.2 (fun k _ a=>.inl (fun e=>a (.inr (.inl e)))) (fun _ _ a=>a)) (hy.kept R.2 (fun k _ a=>.inl (fun e=>a (.inr (.inl e)))) (fun _ _ a=>a)),R.2⟩
theorem pown_set {n:Nat}{t:Nat}{s s':Sv×Sv×Value}(hs:sl[t]? = some s) (e:s'.2.2=s.2.2){b:Nat}(h1:∀ k,inBlock s'.1.v=some k->POwn B n rv sl k\/b<=k) (h2:∀ k,inBlock s'.2.1.v=some k->POwn B n rv sl k\/b<=k) (k:Nat) (hk:POwn B n rv (sl.set t s') k):POwn B n rv sl k\/b<=k:=by
 rcases hk with hk | ⟨i,u,hu,hk⟩
 ·refine .inl (.inl ?_)
  unfold PWr at hk ⊢
  simp only [lnV_set hs e] at hk
  exact hk
 ·rw [List.getElem?_set] at hu
  by_cases e2:t=i
  ·rw [if_pos e2,if_pos (List.getElem?_eq_some_iff.1 hs).1] at hu
   cases hu
   rcases hk with hk | hk
   ·exact h1 k hk
   ·exact h2 k hk
  ·rw [if_neg e2] at hu
   exact .inl (.inr ⟨i,u,hu,hk⟩)
theorem in_nil {k:Nat}(h:inBlock Sv.nil.v=some k):False:=by simp [inBlock,Sv.nil] at h
end
open Go.RowKit
def pa (o:Option (Int×Int×Int×Int)):Int:=match o with | none=>0 | some p=>p.2.2.1
def pb (o:Option (Int×Int×Int×Int)):Int:=match o with | none=>0 | some p=>p.2.2.2
def la (o:Option Lf):Int:=match o with | none=>0 | some l=>l.fr
def lb (o:Option Lf):Int:=match o with | none=>0 | some l=>l.rt
def lu (gs:Nat) (o:Option Lf):Value:=match o with | none=>.pointer none | some l=>upV gs l
theorem cell2_eq (o:Option (Int×Int×Int×Int)):cell2 o=[.int .i64 (pa o),.int .i64 (pb o)]:=by cases o <;> rfl
theorem cell3_eq (gs:Nat) (o:Option Lf):cell3 gs o=[.int .i64 (la o),.int .i64 (lb o),lu gs o]:=by cases o <;> rfl
theorem six_eq (L:List (Int×Int×Int×Int)) (s:Int):six L s=[.int .i64 (pa (findQ L s 0)),.int .i64 (pb (findQ L s 0)),.int .i64 (pa (findQ L s 1)),.int .i64 (pb (findQ L s 1)),.int .i64 (pa (findQ L s 2)),.int .i64 (pb (findQ L s 2)),.int .i64 (pa (findQ L s 3)),.int .i64 (pb (findQ L s 3)),.int .i64 (pa (findQ L s 4)),.int .i64 (pb (findQ L s 4)),.int .i64 (pa (findQ L s 5)),.int .i64 (pb (findQ L s 5))]:=by
 unfold six;simp only [cell2_eq];rfl
theorem pages_eq (gs:Nat) (L:List Lf) (s:Int):pages gs L s=[.int .i64 (la (findLf L s 0)),.int .i64 (lb (findLf L s 0)),lu gs (findLf L s 0),.int .i64 (la (findLf L s 1)),.int .i64 (lb (findLf L s 1)),lu gs (findLf L s 1),.int .i64 (la (findLf L s 2)),.int .i64 (lb (findLf L s 2)),lu gs (findLf L s 2),.int .i64 (la (findLf L s 3)),.int .i64 (lb (findLf L s 3)),lu gs (findLf L s 3),.int .i64 (la (findLf L s 4)),.int .i64 (lb (findLf L s 4)),lu gs (findLf L s 4),.int .i64 (la (findLf L s 5)),.int .i64 (lb (findLf L s 5)),lu gs (findLf L s 5)]:=by
 unfold pages;simp only [cell3_eq];rfl
theorem six_len (L:List (Int×Int×Int×Int)) (s:Int):(six L s).length=12:=by rw [six_eq];rfl
section
variable {gs:Nat}{Q Q':List (Int×Int×Int×Int)}{L L':List Lf}{s j:Nat}
theorem six_at (hj:j < 6):(six Q s)[j*2]? = some (.int .i64 (pa (findQ Q s j)))/\(six Q s)[j*2+1]? = some (.int .i64 (pb (findQ Q s j))):=by
 have h6:j=0\/j=1\/j=2\/j=3\/j=4\/j=5:=by omega
 rw [six_eq]
 rcases h6 with rfl | rfl | rfl | rfl | rfl | rfl <;> exact ⟨rfl,rfl⟩
theorem pages_at (hj:j < 6):(pages gs L s)[j*3]? = some (.int .i64 (la (findLf L s j)))/\(pages gs L s)[j*3+1]? = some (.int .i64 (lb (findLf L s j)))/\(pages gs L s)[j*3+2]? = some (lu gs (findLf L s j)):=by
 have h6:j=0\/j=1\/j=2\/j=3\/j=4\/j=5:=by omega
 rw [pages_eq]
 rcases h6 with rfl | rfl | rfl | rfl | rfl | rfl <;> exact ⟨rfl,rfl,rfl⟩
theorem six_upd {o:Option (Int×Int×Int×Int)}(hj:j < 6) (hf:∀ s' i:Int,findQ Q' s' i=if (s:Int)=s'/\(j:Int)=i then o else findQ Q s' i):six Q' s=setAt (six Q s) (j*2) [.int .i64 (pa o),.int .i64 (pb o)]:=by
 have h6:j=0\/j=1\/j=2\/j=3\/j=4\/j=5:=by omega
 rw [six_eq,six_eq]
 simp only [hf]
 rcases h6 with rfl | rfl | rfl | rfl | rfl | rfl <;> simp [setAt]
theorem six_same {o:Option (Int×Int×Int×Int)}(hf:∀ s' i:Int,findQ Q' s' i=if (s:Int)=s'/\(j:Int)=i then o else findQ Q s' i){t:Int}(hne:(s:Int)≠t):six Q' t=six Q t:=by
 rw [six_eq,six_eq]
 simp only [hf,hne,false_and,if_false]
theorem pages_upd {o:Option Lf}(hj:j < 6) (hf:∀ s' i:Int,findLf L' s' i=if (s:Int)=s'/\(j:Int)=i then o else findLf L s' i):pages gs L' s=setAt (pages gs L s) (j*3) [.int .i64 (la o),.int .i64 (lb o),lu gs o]:=by
 have h6:j=0\/j=1\/j=2\/j=3\/j=4\/j=5:=by omega
 rw [pages_eq,pages_eq]
 simp only [hf]
 rcases h6 with rfl | rfl | rfl | rfl | rfl | rfl <;> simp [setAt]
theorem pages_same {o:Option Lf}(hf:∀ s' i:Int,findLf L' s' i=if (s:Int)=s'/\(j:Int)=i then o else findLf L s' i){t:Int}(hne:(s:Int)≠t):pages gs L' t=pages gs L t:=by
 rw [pages_eq,pages_eq]
 simp only [hf,hne,false_and,if_false]
theorem setAt_left:∀ (vs xs ys:List Value) (o:Nat),o+vs.length<=xs.length->setAt (xs ++ ys) o vs=setAt xs o vs ++ ys
 | [],_,_,_,_=>rfl
 | v :: r,xs,ys,o,h=>by
  simp only [List.length_cons] at h
  simp only [setAt]
  rw [List.set_append_left _ _ (by omega),setAt_left r _ ys (o+1) (by rw [List.length_set];omega)]
theorem setAt_right:∀ (vs xs ys:List Value) (o:Nat),setAt (xs ++ ys) (xs.length+o) vs=xs ++ setAt ys o vs
 | [],_,_,_=>rfl
 | v :: r,xs,ys,o=>by
  simp only [setAt]
  rw [List.set_append_right _ _ (by omega),Nat.add_sub_cancel_left,show xs.length+o+1=xs.length+(o+1) by omega,setAt_right r xs _ (o+1)]
theorem rows_updP {o:Option (Int×Int×Int×Int)}(n:Nat) (hs:s < n) (hj:j < 6) (hf:∀ s' i:Int,findQ Q' s' i=if (s:Int)=s'/\(j:Int)=i then o else findQ Q s' i):(spRowsM n gs Q L).set s (setAt (spRowM gs Q L s) (j*2) [.int .i64 (pa o),.int .i64 (pb o)])=spRowsM n gs Q' L:=by
 apply List.ext_getElem?
 intro i
 rw [List.getElem?_set]
 unfold spRowsM
 by_cases e:s=i
 ·subst e
  rw [if_pos rfl]
  simp only [List.length_map,List.length_range,hs,if_true,List.getElem?_map,List.getElem?_range hs,Option.map_some]
  unfold spRowM
  rw [six_upd hj hf,setAt_left _ _ _ _ (by rw [six_len];simp;omega)]
 ·rw [if_neg e]
  simp only [List.getElem?_map]
  rcases Nat.lt_or_ge i n with hi | hi
  ·rw [List.getElem?_range hi]
   simp only [Option.map_some,spRowM]
   rw [six_same hf (t:=(i:Int)) (by omega)]
  ·rw [List.getElem?_eq_none (by simpa using hi)];rfl
theorem rows_updL {o:Option Lf}(n:Nat) (hs:s < n) (hj:j < 6) (hf:∀ s' i:Int,findLf L' s' i=if (s:Int)=s'/\(j:Int)=i then o else findLf L s' i):(spRowsM n gs Q L).set s (setAt (spRowM gs Q L s) (12+j*3) [.int .i64 (la o),.int .i64 (lb o),lu gs o])=spRowsM n gs Q L':=by
 apply List.ext_getElem?
 intro i
 rw [List.getElem?_set]
 unfold spRowsM
 by_cases e:s=i
 ·subst e
  rw [if_pos rfl]
  simp only [List.length_map,List.length_range,hs,if_true,List.getElem?_map,List.getElem?_range hs,Option.map_some]
  unfold spRowM
  rw [pages_upd hj hf]
  have:=setAt_right [.int .i64 (la o),.int .i64 (lb o),lu gs o] (six Q s) (pages gs L s) (j*3)
  rw [six_len] at this
  rw [this]
 ·rw [if_neg e]
  simp only [List.getElem?_map]
  rcases Nat.lt_or_ge i n with hi | hi
  ·rw [List.getElem?_range hi]
   simp only [Option.map_some,spRowM]
   rw [pages_same hf (t:=(i:Int)) (by omega)]
  ·rw [List.getElem?_eq_none (by simpa using hi)];rfl
end
section
variable {w:World}{B:Bk}{M:PM}{cs:Array Value}{rv:Nat->Value}{sl:List (Sv×Sv×Value)}{s j:Nat}
theorem sprows_get {n gs:Nat}{Q:List (Int×Int×Int×Int)}{L:List Lf}(hs:s < n):(spRowsM n gs Q L)[s]? = some (spRowM gs Q L s):=by
 unfold spRowsM
 rw [List.getElem?_map,List.getElem?_range hs]
 rfl
theorem PmAt.srow (_h:PmAt w B M cs rv sl) (hs:s < M.sp.toNat):∃ hl:s < (spRowsM M.sp.toNat B.gs M.passes M.leaves).length,(spRowsM M.sp.toNat B.gs M.passes M.leaves)[s]=spRowM B.gs M.passes M.leaves s:=by
 have hl:s < (spRowsM M.sp.toNat B.gs M.passes M.leaves).length:=by simpa [spRowsM] using hs
 have e:=sprows_get (gs:=B.gs) (Q:=M.passes) (L:=M.leaves) hs
 rw [List.getElem?_eq_getElem hl] at e
 exact ⟨hl,Option.some.inj e⟩
theorem PmAt.slotC (h:PmAt w B M cs rv sl) (hs:s < M.sp.toNat) (hj:j < 6):w.cell? ⟨B.gs,s*30+j*2,none⟩=some (.int .i64 (pa (findQ M.passes s j)))/\w.cell? ⟨B.gs,s*30+j*2+1,none⟩=some (.int .i64 (pb (findQ M.passes s j))):=by
 obtain ⟨hl,hr⟩:=h.srow hs
 have a:=six_at (Q:=M.passes) (s:=s) hj
 constructor
 ·rw [h.sp.cell s (j*2) hl (by omega),hr]
  unfold spRowM
  rw [List.getElem?_append_left (by rw [six_len];omega)]
  exact a.1
 ·rw [show s*30+j*2+1=s*30+(j*2+1) by omega,h.sp.cell s (j*2+1) hl (by omega),hr]
  unfold spRowM
  rw [List.getElem?_append_left (by rw [six_len];omega)]
  exact a.2
theorem PmAt.pageC (h:PmAt w B M cs rv sl) (hs:s < M.sp.toNat) (hj:j < 6):w.cell? ⟨B.gs,s*30+12+j*3,none⟩=some (.int .i64 (la (findLf M.leaves s j)))/\w.cell? ⟨B.gs,s*30+12+j*3+1,none⟩=some (.int .i64 (lb (findLf M.leaves s j)))/\w.cell? ⟨B.gs,s*30+12+j*3+2,none⟩=some (lu B.gs (findLf M.leaves s j)):=by
 obtain ⟨hl,hr⟩:=h.srow hs
 have a:=pages_at (gs:=B.gs) (L:=M.leaves) (s:=s) hj
 have key:∀ i,i < 3->w.cell? ⟨B.gs,s*30+12+j*3+i,none⟩=(pages B.gs M.leaves s)[j*3+i]?:=by
  intro i hi
  rw [show s*30+12+j*3+i=s*30+(12+(j*3+i)) by omega,h.sp.cell s (12+(j*3+i)) hl (by omega),hr]
  unfold spRowM
  rw [List.getElem?_append_right (by rw [six_len];omega),six_len,show 12+(j*3+i)-12=j*3+i by omega]
 exact ⟨(key 0 (by omega)).trans a.1,(key 1 (by omega)).trans a.2.1,(key 2 (by omega)).trans a.2.2⟩
theorem PmAt.sfro (h:PmAt w B M cs rv sl) (i:Nat):w.frozen? ⟨B.gs,i,none⟩=false:=h.sp.fro i
theorem PmAt.setSlot (h:PmAt w B M cs rv sl) (hs:s < M.sp.toNat) (hj:j < 6){o:Option (Int×Int×Int×Int)}{Q':List (Int×Int×Int×Int)}(hf:∀ s' i:Int,findQ Q' s' i=if (s:Int)=s'/\(j:Int)=i then o else findQ M.passes s' i) :
  PmAt (w.setCells B.gs (s*30+j*2) [.int .i64 (pa o),.int .i64 (pb o)]) B { M with passes:=Q',leaves:=M.leaves } cs rv sl/\Fr (fun k=>k=B.gs) w (w.setCells B.gs (s*30+j*2) [.int .i64 (pa o),.int .i64 (pb o)]):=by
 obtain ⟨hl,hr⟩:=h.srow hs
 have R:=Sl.run [.int .i64 (pa o),.int .i64 (pb o)] (j*2) w _ h.sp hl (by simp;omega)
 rw [hr,rows_updP _ hs hj hf] at R
 exact ⟨h.setSp R.1 R.2,R.2⟩
theorem PmAt.setPage (h:PmAt w B M cs rv sl) (hs:s < M.sp.toNat) (hj:j < 6){o:Option Lf}{L':List Lf}(hf:∀ s' i:Int,findLf L' s' i=if (s:Int)=s'/\(j:Int)=i then o else findLf M.leaves s' i) :
  PmAt (w.setCells B.gs (s*30+12+j*3) [.int .i64 (la o),.int .i64 (lb o),lu B.gs o]) B { M with leaves:=L' } cs rv sl/\Fr (fun k=>k=B.gs) w (w.setCells B.gs (s*30+12+j*3) [.int .i64 (la o),.int .i64 (lb o),lu B.gs o]):=by
 obtain ⟨hl,hr⟩:=h.srow hs
 have R:=Sl.run [.int .i64 (la o),.int .i64 (lb o),lu B.gs o] (12+j*3) w _ h.sp hl (by simp;omega)
 rw [hr,rows_updL _ hs hj hf,show s*30+(12+j*3)=s*30+12+j*3 by omega] at R
 exact ⟨h.setSp (Q:=M.passes) R.1 R.2,R.2⟩
end
theorem find_out (L:List Lf) (s n:Int) (a b:Int):findLf (L.filter (fun l=>!(l.sp == s && l.pg == n))) a b=if s=a/\n=b then none else findLf L a b:=by
 unfold findLf
 induction L with
 | nil=>simp
 | cons x L ih=>
  rw [List.filter_cons]
  by_cases e:x.sp=s/\x.pg=n
  ·have e1:(!(x.sp == s && x.pg == n))=false:=by simp [e.1,e.2]
   rw [e1]
   simp only [Bool.false_eq_true,if_false]
   rw [ih,List.find?_cons]
   by_cases q:s=a/\n=b
   ·rw [if_pos q,if_pos q]
   ·rw [if_neg q,if_neg q]
    have e2:(x.sp == a && x.pg == b)=false:=by simp [e.1,e.2];omega
    rw [e2]
  ·have e1:(!(x.sp == s && x.pg == n))=true:=by simp;omega
   rw [e1]
   simp only [if_true]
   rw [List.find?_cons,ih,List.find?_cons]
   by_cases q:s=a/\n=b
   ·have e2:(x.sp == a && x.pg == b)=false:=by simp;omega
    simp only [if_pos q,e2]
   ·rw [if_neg q,if_neg q]
theorem gone_own (L:List Lf) (s n:Int):goneL L s n true=(goneL L s n false).filter (fun l=>!(l.sp == s && l.pg == n)):=by
 unfold goneL
 rw [List.filter_filter]
 apply List.filter_congr
 intro l hl
 rw [Bool.eq_iff_iff,Bool.and_eq_true,stays_iff,stays_iff]
 simp
 constructor
 ·rintro ⟨a,b⟩;exact ⟨Decidable.not_or_of_imp b,a⟩
 ·rintro ⟨a,b⟩;exact ⟨b,fun e1 e2=>a.elim (fun f=>f e1) (fun f=>f e2)⟩
structure LOk (r:Int->Int->Nat) (sp:Int) (L:List Lf):Prop where
 ap:ApL L
 kin:Kin r L
 lf:∀ l∈L,l.sp<=sp-1/\0<=l.pg/\l.pg<=5
theorem LOk.gone {r:Int->Int->Nat}{sp:Int}{L:List Lf}(h:LOk r sp L) (s n:Int) (own:Bool):LOk r sp (goneL L s n own):=⟨gone_apl h.ap _ _ _,gone_kin h.kin _ _ _,fun l hl=>h.lf l (mem_gone.1 hl).1⟩
theorem upV_eq {r:Int->Int->Nat}{sp:Int}{L:List Lf}(h:LOk r sp L){l:Lf}(hl:l∈L) (gs:Nat){s j:Nat}(hj:j < 6) :
  ((l.usp=s/\l.upg=j)/\upV gs l=.pointer (some ⟨gs,s*30+12+j*3,none⟩))\/(¬ (l.usp=s/\l.upg=j)/\(upV gs l=.pointer none\/∃ o,upV gs l=.pointer (some ⟨gs,o,none⟩)/\o≠s*30+12+j*3)):=by
 rcases (h.kin l hl).2 with ⟨e1,e2⟩ | ⟨p,hp,e1,e2,_⟩
 ·refine .inr ⟨by omega,.inl ?_⟩
  unfold upV
  rw [if_pos (by omega)]
 ·have a:=(h.kin p hp).1
  have b:=h.lf p hp
  have eu:upV gs l=.pointer (some ⟨gs,l.usp.toNat*30+12+l.upg.toNat*3,none⟩):=by unfold upV;rw [if_neg (by omega)]
  by_cases q:l.usp=s/\l.upg=j
  ·refine .inl ⟨q,?_⟩
   rw [eu,q.1,q.2]
   rfl
  ·refine .inr ⟨q,.inr ⟨_,eu,by omega⟩⟩
def Took (B:Bk) (M:PM) (L':List Lf) (cs:Array Value) (rv:Nat->Value) (sl:List (Sv×Sv×Value)) (w w':World):Prop:=PmAt w' B { M with leaves:=L' } cs rv sl/\Fr (fun k=>k=B.gs) w w'
theorem remove_of (B:Bk) (M:PM) (cs:Array Value) (rv:Nat->Value) (sl:List (Sv×Sv×Value)) (s j:Nat) (w:World) (hs:s < M.sp.toNat) (hj:j < 6)
  (T:Calls Tryz.prog 91 #[.pointer (some ⟨B.x,0,none⟩),.pointer (some ⟨B.gs,s*30+12+j*3,none⟩)] w fun e w'=>e=.returned (.tuple #[])/\Took B M (goneL M.leaves s j false) cs rv sl w w') :
  Calls Tryz.prog 144 #[.pointer (some ⟨B.x,0,none⟩),.pointer (some ⟨B.gs,s*30+12+j*3,none⟩)] w fun e w'=>e=.returned (.tuple #[])/\Took B M (goneL M.leaves s j true) cs rv sl w w':=by
 have HT:=hid T
 have HS:=hid (And.intro hs hj)
 clear T hs hj
 go_enter Tryz.func144,Tryz.ntmps144
 go_wp2_with (go_at_call 91;refine HT.out.mono ?_;rintro e w1 ⟨rfl,H1⟩;have c0:=(H1.1.pageC (s:=s) (j:=j) HS.out.1 HS.out.2).1;have c1:=(H1.1.pageC (s:=s) (j:=j) HS.out.1 HS.out.2).2.1;have c2:=(H1.1.pageC (s:=s) (j:=j) HS.out.1 HS.out.2).2.2;have fz:=H1.1.sfro;replace H1:=hid H1)
 go_end0
 have P:=H1.out.1.setPage (s:=s) (j:=j) (o:=none) (L':=goneL M.leaves s j true) HS.out.1 HS.out.2 (fun a b=>by rw [gone_own,find_out])
 exact ⟨rfl,P.1,H1.out.2.trans P.2⟩
theorem Tryz.infoN179:(Tryz.prog.info? 179).map (fun i=>(i.zero,i.size,i.bytes))=some (some (.agg #[.int .i64 0,.int .i64 0,.pointer none]),3,24):=by kernel_rfl
theorem ptr_none (w:World) (a:Addr):(binOp .eql 174 (.pointer none) (.pointer (some a))).run Tryz.prog w=.ok (.bool false) w:=by
 have h:∀ d:Nat,(Op.equalIn (d+1) 174 (.pointer none) (.pointer (some a))).run Tryz.prog w=.ok false w:=fun d=>by
  simp [Op.equalIn,run_underlying Tryz.underlying174]
 simp only [binOp]
 simp [Op.equal,Op.maxDepth,h 9999]
theorem ptr_same (w:World) (a:Addr):(binOp .eql 174 (.pointer (some a)) (.pointer (some a))).run Tryz.prog w=.ok (.bool true) w:=by
 obtain ⟨i0,hi0,_⟩:=info_parts Tryz.infoN179
 exact run_eql_ptr_same w a Tryz.underlying174 hi0
theorem ptr_other (w:World) (g a b:Nat){cur:Array Value}{ty:TypeId}(hg:w.heap[g]? = some (.cells cur ty (0,0))) (h:a≠b):(binOp .eql 174 (.pointer (some ⟨g,a,none⟩)) (.pointer (some ⟨g,b,none⟩))).run Tryz.prog w=.ok (.bool false) w:=by
 obtain ⟨i0,hi0,_,hsz,_⟩:=info_parts Tryz.infoN179
 exact run_eql_ptr_other w Tryz.underlying174 hi0 (by rw [hsz];decide) (fun e=>h (congrArg Addr.off e)) hg hg
theorem eqg (o1 o2:Operand) (v:Value) (x:Option Addr):eqGuard .eql 174 o1 o2 v (.pointer x)=pure ():=by cases v <;> rfl
theorem PmAt.scur {w:World}{B:Bk}{M:PM}{cs:Array Value}{rv:Nat->Value}{sl:List (Sv×Sv×Value)}(h:PmAt w B M cs rv sl):∃ cur,w.heap[B.gs]? = some (.cells cur 232 (0,0)):=by
 rcases h.sp.own.2 with ⟨a,_⟩ | ⟨g',cap,cur,e1,a1,a2,a3⟩
 ·simp at a
 ·simp only [Value.slice.injEq,Option.some.injEq,Addr.mk.injEq,and_true] at e1
  obtain ⟨e1a,e1b,e1c⟩:=e1
  subst e1a
  exact ⟨cur,a2⟩
theorem child_of {w:World}{B:Bk}{M:PM}{cs:Array Value}{rv:Nat->Value}{sl:List (Sv×Sv×Value)}(h:PmAt w B M cs rv sl){r:Int->Int->Nat}{sp:Int}(ok:LOk r sp M.leaves){a b s j:Nat}(hj:j < 6) :
  ((∃ c∈M.leaves,c.sp=a/\c.pg=b/\c.usp=s/\c.upg=j)/\(binOp .eql 174 (lu B.gs (findLf M.leaves a b)) (.pointer (some ⟨B.gs,s*30+12+j*3,none⟩))).run Tryz.prog w=.ok (.bool true) w) \/
  ((∀ c∈M.leaves,c.sp=a->c.pg=b->¬ (c.usp=s/\c.upg=j))/\(binOp .eql 174 (lu B.gs (findLf M.leaves a b)) (.pointer (some ⟨B.gs,s*30+12+j*3,none⟩))).run Tryz.prog w=.ok (.bool false) w):=by
 obtain ⟨cur,hg⟩:=h.scur
 rcases hf:findLf M.leaves a b with _ | l
 ·refine .inr ⟨fun c hc e1 e2=>?_,ptr_none w _⟩
  have:=List.find?_eq_none.1 (show List.find? _ M.leaves=none from hf) c hc
  simp [e1,e2] at this
 ·have hm:=List.mem_of_find?_eq_some (show List.find? _ M.leaves=some l from hf)
  have hq:=List.find?_some (show List.find? _ M.leaves=some l from hf)
  simp at hq
  rcases upV_eq ok hm B.gs (s:=s) (j:=j) hj with ⟨q,e⟩ | ⟨q,e⟩
  ·refine .inl ⟨⟨l,hm,hq.1,hq.2,q.1,q.2⟩,?_⟩
   show (binOp .eql 174 (upV B.gs l) _).run _ _=_
   rw [e]
   exact ptr_same w _
  ·refine .inr ⟨fun c hc e1 e2=>?_,?_⟩
   ·have:c=l:=ok.ap.eq hc hm (by omega) (by omega)
    rw [this];exact q
   ·show (binOp .eql 174 (upV B.gs l) _).run _ _=_
    rcases e with e | ⟨o,e,hne⟩
    ·rw [e];exact ptr_none w _
    ·rw [e];exact ptr_other w B.gs o _ hg hne
theorem takeBack_any (N:Nat):∀ (B:Bk) (M:PM) (cs:Array Value) (rv:Nat->Value) (sl:List (Sv×Sv×Value)) (s j:Nat) (w:World) (r:Int->Int->Nat),PmAt w B M cs rv sl->LOk r M.sp M.leaves->s < M.sp.toNat->j < 6->M.sp<=3->younger r M.leaves (r s j) < N ->
  Calls Tryz.prog 91 #[.pointer (some ⟨B.x,0,none⟩),.pointer (some ⟨B.gs,s*30+12+j*3,none⟩)] w fun e w'=>e=.returned (.tuple #[])/\Took B M (goneL M.leaves s j false) cs rv sl w w':=by
 induction N with
 | zero=>intro B M cs rv sl s j w r h ok hs hj h3 hN;omega
 | succ N IH=>
  intro B M cs rv sl s j w r h ok hs hj h3 hN
  have HI:=hid IH
  obtain ⟨n,hn⟩:∃ n,M.sp.toNat=n:=⟨_,rfl⟩
  have hc6:=(h.cell 6).trans h.c6
  rw [hn] at hc6
  have hn3:n<=3:=by omega
  have HH:=hid (And.intro h (And.intro ok (And.intro hs (And.intro hj (And.intro hN (And.intro hn h3))))))
  clear IH h ok hs hj hN hn h3
  go_enter Tryz.func91,Tryz.ntmps91
  go_wp2
  go_loopw [12] (fun i wr=>∃ (a:Nat) (L:List Lf),a<=n/\i=.int .i64 a/\Hid (goneL L s j false=goneL M.leaves s j false/\LOk r M.sp L/\younger r L (r s j) < N+1/\(∀ c∈L,c.usp=s->c.upg=j->(a:Int)<=c.sp)/\Took B M L cs rv sl w wr)) (fun i _=>n-(intOf i).toNat)
  case atStart=>exact ⟨0,M.leaves,Nat.zero_le _,rfl,rfl,HH.out.2.1,HH.out.2.2.2.2.1,fun c hc _ _=>(HH.out.2.1.kin c hc).1,HH.out.1,Fr.refl _ _⟩
  case round=>
   obtain ⟨a,L,ha,rfl,HL⟩:=hrel
   rename World=>wa
   by_cases hlt:a < n
   ·have hlt':(a:Int) < (n:Int):=by omega
    go_wp2
    go_loopw [15] (fun i wr=>∃ (b:Nat) (L:List Lf),b<=6/\i=.int .i64 b/\Hid (goneL L s j false=goneL M.leaves s j false/\LOk r M.sp L/\younger r L (r s j) < N+1/\(∀ c∈L,c.usp=s->c.upg=j->(a:Int) < c.sp\/(c.sp=a/\(b:Int)<=c.pg))/\Took B M L cs rv sl w wr)) (fun i _=>6-(intOf i).toNat)
    case atStart=>
     refine ⟨0,L,Nat.zero_le _,rfl,HL.out.1,HL.out.2.1,HL.out.2.2.1,fun c hc e1 e2=>?_,HL.out.2.2.2.2⟩
     have h1:=HL.out.2.2.2.1 c hc e1 e2
     have h2:=HL.out.2.1.lf c hc
     omega
    case round=>
     obtain ⟨b,L2,hb,rfl,HV⟩:=hrel
     by_cases hlb:b < 6
     ·have hlb':(b:Int) < 6:=by omega
      have AT:=HV.out.2.2.2.2.1
      have ean:a < ({ M with leaves:=L2 }:PM).sp.toNat:=by show a < M.sp.toNat;have:=HH.out.2.2.2.2.2.1;omega
      have cc:=(AT.pageC (s:=a) (j:=b) ean hlb).2.2
      have c6:wr.cell? ⟨B.x,6,none⟩=some (.slice (some ⟨B.gs,0,none⟩) n B.cp):=by
       have:=(AT.cell 6).trans AT.c6
       rw [show ({ M with leaves:=L2 }:PM).sp.toNat=n from HH.out.2.2.2.2.2.1] at this
       exact this
      have CH:=child_of AT (sp:=M.sp) HV.out.2.1 (a:=a) (b:=b) (s:=s) (j:=j) HH.out.2.2.2.1
      generalize lu B.gs (findLf ({ M with leaves:=L2 }:PM).leaves a b)=pv at *
      have hg:=fun o1 o2=>eqg o1 o2 pv (some ⟨B.gs,s*30+12+j*3,none⟩)
      clear AT
      rcases CH with ⟨⟨c,hc,e1,e2,e3,e4⟩,hq⟩ | ⟨hno,hq⟩
      ·have hcm:c∈L2:=hc
       have Q:=hid (And.intro hcm (And.intro e1 (And.intro e2 (And.intro e3 e4))))
       have y1:=younger_lt (r:=r) hcm (kin_child HV.out.2.1.kin hcm (s:=(s:Int)) (n:=(j:Int)) (by omega) e3 e4)
       rw [e1,e2] at y1
       have T:=HI.out B { M with leaves:=L2 } cs rv sl a b wr r HV.out.2.2.2.2.1 HV.out.2.1 ean hlb HH.out.2.2.2.2.2.2 (by have:=HV.out.2.2.1;show younger r L2 _ < N;omega)
       have RM:=hid (remove_of B { M with leaves:=L2 } cs rv sl a b wr ean hlb T)
       clear T y1 hc hcm e1 e2 e3 e4
       go_wp2_with (go_at_call 144;refine RM.out.mono ?_;rintro e w3 ⟨rfl,H3⟩;replace H3:=hid H3)
       refine ⟨⟨b+1,goneL L2 a b true,by omega,by go_num,?_⟩,by simp [intOf];omega⟩
       have eg:=gone_step HV.out.2.1.ap Q.out.1 Q.out.2.2.2.1 Q.out.2.2.2.2 false
       rw [Q.out.2.1,Q.out.2.2.1] at eg
       refine ⟨eg.trans HV.out.1,HV.out.2.1.gone _ _ _,Nat.lt_of_le_of_lt (younger_gone _ _ _ _ _ _) HV.out.2.2.1,fun c hc f1 f2=>?_,H3.out.1,HV.out.2.2.2.2.2.trans H3.out.2⟩
       have m:=mem_gone.1 hc
       have h1:=HV.out.2.2.2.1 c m.1 f1 f2
       have h2:=m.2.2
       simp at h2
       omega
      ·have HNO:=hid hno
       clear hno
       go_wp2
       refine ⟨⟨b+1,L2,by omega,by go_num,HV.out.1,HV.out.2.1,HV.out.2.2.1,fun c hc f1 f2=>?_,HV.out.2.2.2.2⟩,by simp [intOf];omega⟩
       have h1:=HV.out.2.2.2.1 c hc f1 f2
       have h2:=HNO.out c hc
       by_cases g1:c.sp=a
       ·by_cases g2:c.pg=b
        ·exact absurd ⟨f1,f2⟩ (h2 g1 g2)
        ·omega
       ·omega
     ·go_wp2
      refine ⟨⟨a+1,L2,by omega,by go_num,HV.out.1,HV.out.2.1,HV.out.2.2.1,fun c hc f1 f2=>?_,HV.out.2.2.2.2⟩,by simp [intOf];omega⟩
      have h1:=HV.out.2.2.2.1 c hc f1 f2
      have h2:=HV.out.2.1.lf c hc
      omega
   ·go_wp2
    go_end0
    have e0:goneL L s j false=L:=by
     rw [gone_none (fun c hc e=>?_)]
     ·rfl
     ·have h1:=HL.out.2.2.2.1 c hc e.1 e.2
      have h2:=HL.out.2.1.lf c hc
      have:=HH.out.2.2.2.2.2.1
      omega
    refine ⟨rfl,?_⟩
    rw [<- HL.out.1,e0]
    exact HL.out.2.2.2.2
open Go.RowKit
theorem row_any (B:Bk) (M:PM) (cs:Array Value) (rv:Nat->Value) (sl:List (Sv×Sv×Value)) (t:Nat) (p:PT) (w:World) (h:PmAt w B M cs rv sl) (hp:M.threads[t]? = some p) (_h6:M.threads.length<=6) (r:Nat) (hr:p.row=r) (h4:r < 4) :
  Calls Tryz.prog 130 #[.pointer (some ⟨B.x,0,none⟩),.int .i64 t] w fun e w'=>e=.returned (.pointer (some ⟨B.x,2+r,none⟩))/\Below w.heap.size w w':=by
 have htl:=(List.getElem?_eq_some_iff.1 hp).1
 obtain ⟨s,hs⟩:=h.sl_get hp
 have hc1:=(h.cell 1).trans h.c1
 have k1:=(h.tcell hp hs 1 (by omega)).trans (show (prow p s)[1]? = some (.int .i64 p.row) from rfl)
 rw [hr] at k1
 generalize hm:M.threads.length=m at *
 have ht':(t:Int) < (m:Int):=by omega
 have hr':(r:Int) < 4:=by omega
 clear h hp hs hr hm
 go_enter Tryz.func130,Tryz.ntmps130
 go_wp2
 go_quiet (fail)
 go_wp2
 go_ret
 exact ⟨rfl,below_drewN (Below.refl _ _) _⟩
theorem over_at (B:Bk) (M:PM) (cs:Array Value) (rv:Nat->Value) (sl:List (Sv×Sv×Value)) (t:Nat) (p:PT) (s:Sv×Sv×Value) (st0 code who got:Int) (u:Sv) (ws:List Int) (w:World) (h:PmAt w B M cs rv sl) (hp:M.threads[t]? = some p) (hs:sl[t]? = some s) (_h6:M.threads.length<=6) (hu:PWd w B M.threads.length rv sl u ws) :
  Calls Tryz.prog 161 #[.pointer (some ⟨B.x,0,none⟩),.int .i64 t,.agg #[.int .i64 st0,.int .i64 code,.int .i64 who,.slice u.a u.n u.c,.int .i64 got]] w fun e w'=>e=.returned (.tuple #[])/\PmAt w' B (M.upd t (overP code who ws got)) cs rv (sl.set t (u,Sv.nil,s.2.2))/\Fr (fun q=>q=B.g) w w':=by
 have htl:=(List.getElem?_eq_some_iff.1 hp).1
 have hc1:=(h.cell 1).trans h.c1
 have R:=h.trange hp hs
 have g3:=R 3 (.int .i64 p.st) rfl
 have g4:=R 4 (.int .i64 p.code) rfl
 have g5:=R 5 (.int .i64 p.who) rfl
 have g6:=R 6 (.slice s.1.a s.1.n s.1.c) rfl
 have g7:=R 7 (.int .i64 p.got) rfl
 have g8:=R 8 (.int .i64 p.tgt) rfl
 have g9:=R 9 (.slice s.2.1.a s.2.1.n s.2.1.c) rfl
 have g10:=R 10 (.int .i64 p.item) rfl
 have g11:=R 11 (.int .i64 p.rt) rfl
 have g12:=R 12 (.int .i64 p.frm) rfl
 have g13:=R 13 (.int .i64 p.win) rfl
 have g14:=R 14 (.int .i64 p.wait) rfl
 have g15:=R 15 (.int .u64 p.time) rfl
 have fg:=h.tfro
 have lx:=h.lx
 have lg:=h.lg
 have hgx:B.g≠B.x:=h.n1.1
 have U:=h.run hp hs 3 [.int .i64 1,.int .i64 code,.int .i64 who,.slice u.a u.n u.c,.int .i64 got,.int .i64 0,.slice none 0 0,.int .i64 0,.int .i64 0,.int .i64 0,.int .i64 0,.int .i64 0,.int .u64 0] (overP code who ws got) (u,Sv.nil,s.2.2) (by simp) rfl rfl rfl hu (PWd.nil _ _ _ _ _)
 have HH:=hid U
 clear R h hp hs hu U
 generalize hm:M.threads.length=m at *
 have ht':(t:Int) < (m:Int):=by omega
 clear hm
 go_enter Tryz.func161,Tryz.ntmps161
 go_wp2
 go_region
 go_wp2
 go_end0
 exact ⟨rfl,(HH.out.1.alloc _).drew,(HH.out.2.alloc _).drew⟩
section
variable {w:World}{B:Bk}{M:PM}{cs:Array Value}{rv:Nat->Value}{sl:List (Sv×Sv×Value)}
theorem PmAt.rown (h:PmAt w B M cs rv sl){r:Nat}(hr:r < 4):Sl w 3 1 (rv r) ((M.ln r).map lnRow)/\(rv r).ownBlock≠some B.x:=by
 have a:=h.li r (by omega)
 have b:=h.n2 r (by omega)
 have e1:lnV rv sl r=rv r:=by unfold lnV;rw [if_pos hr]
 have e2:M.line r=M.ln r:=by unfold PM.line;rw [if_pos hr]
 rw [e1] at a b
 rw [e2] at a
 exact ⟨a,fun e=>(b _ e).1 rfl⟩
theorem PmAt.rowS (_h:PmAt w B M cs rv sl){r:Nat}(hr:r < 4) (k:Nat) (e:k=B.x\/(rv r).ownBlock=some k):POwn B M.threads.length rv sl k:=by
 rcases e with e | e
 ·exact .inl (.inl e)
 ·refine .inl (.inr (.inr (.inr ⟨r,by omega,?_⟩)))
  unfold lnV
  rw [if_pos hr]
  exact e
theorem rowLast_any (B:Bk) (M:PM) (cs:Array Value) (rv:Nat->Value) (sl:List (Sv×Sv×Value)) (r t:Nat) (w:World) (h:PmAt w B M cs rv sl) (hr:r < 4) (hl:(M.ln r).length<=1000) (hn:(M.ln r).Nodup) :
  Calls Tryz.prog 131 #[.pointer (some ⟨B.x,2+r,none⟩),.int .i64 t] w fun e w'=>e=.returned (.tuple #[])/\∃ v',PmAt w' B (M.setLn r ((M.ln r).erase t ++ [t])) (cs.setIfInBounds (2+r) v') (fun s=>if s=r then v' else rv s) sl/\(∀ k,POwn B M.threads.length (fun s=>if s=r then v' else rv s) sl k->POwn B M.threads.length rv sl k\/w.heap.size<=k)/\Fr (POwn B M.threads.length rv sl) w w':=by
 refine (comeLast_any B.x (2+r) (rv r) (M.ln r) t cs B.ty w h.blk (h.row r hr) (h.rown hr).1 hl hn (h.rown hr).2).mono ?_
 rintro e w' ⟨rfl,v',b,s,f,o⟩
 have R:=h.setRow hr b s f o
 exact ⟨rfl,v',R.1,R.2,f.mono (fun k _ e=>h.rowS hr k e)⟩
theorem rowLeave_any (B:Bk) (M:PM) (cs:Array Value) (rv:Nat->Value) (sl:List (Sv×Sv×Value)) (r t:Nat) (w:World) (h:PmAt w B M cs rv sl) (hr:r < 4) (hl:(M.ln r).length<=1000) (hn:(M.ln r).Nodup) :
  Calls Tryz.prog 124 #[.pointer (some ⟨B.x,2+r,none⟩),.int .i64 t] w fun e w'=>e=.returned (.tuple #[])/\∃ v',PmAt w' B (M.setLn r ((M.ln r).erase t)) (cs.setIfInBounds (2+r) v') (fun s=>if s=r then v' else rv s) sl/\(∀ k,POwn B M.threads.length (fun s=>if s=r then v' else rv s) sl k->POwn B M.threads.length rv sl k\/w.heap.size<=k)/\Fr (POwn B M.threads.length rv sl) w w':=by
 refine (leave_any B.x (2+r) (rv r) (M.ln r) t cs B.ty w h.blk (h.row r hr) (h.rown hr).1 hl hn (h.rown hr).2).mono ?_
 rintro e w' ⟨rfl,v',b,s,f,o⟩
 have R:=h.setRow hr b s f (fun k hk=>.inr (by rw [<- o];exact hk))
 exact ⟨rfl,v',R.1,R.2,f.mono (fun k _ e=>h.rowS hr k e)⟩
theorem PmAt.wown (h:PmAt w B M cs rv sl){t:Nat}{p:PT}{s:Sv×Sv×Value}(hp:M.threads[t]? = some p) (hs:sl[t]? = some s):Sl w 3 1 s.2.2 (p.wl.map lnRow)/\s.2.2.ownBlock≠some B.g/\lnV rv sl (4+t)=s.2.2:=by
 have htl:=(List.getElem?_eq_some_iff.1 hp).1
 have a:=h.li (4+t) (by omega)
 have b:=h.n2 (4+t) (by omega)
 have e1:lnV rv sl (4+t)=s.2.2:=by unfold lnV;rw [if_neg (by omega),show 4+t-4=t by omega,hs];rfl
 have e2:M.line (4+t)=p.wl:=by unfold PM.line;rw [if_neg (by omega),show 4+t-4=t by omega,hp];rfl
 rw [e1] at a b
 rw [e2] at a
 exact ⟨a,fun e=>(b _ e).2.1 rfl,e1⟩
theorem PmAt.wlS (h:PmAt w B M cs rv sl){t:Nat}{p:PT}{s:Sv×Sv×Value}(hp:M.threads[t]? = some p) (hs:sl[t]? = some s) (k:Nat) (e:k=B.g\/s.2.2.ownBlock=some k):POwn B M.threads.length rv sl k:=by
 have htl:=(List.getElem?_eq_some_iff.1 hp).1
 rcases e with e | e
 ·exact .inl (.inr (.inl e))
 ·exact .inl (.inr (.inr (.inr ⟨4+t,by omega,by rw [(h.wown hp hs).2.2];exact e⟩)))
theorem wlLast_any (B:Bk) (M:PM) (cs:Array Value) (rv:Nat->Value) (sl:List (Sv×Sv×Value)) (r t:Nat) (p:PT) (s:Sv×Sv×Value) (w:World) (h:PmAt w B M cs rv sl) (hp:M.threads[r]? = some p) (hs:sl[r]? = some s) (hl:p.wl.length<=1000) (hn:p.wl.Nodup) :
  Calls Tryz.prog 131 #[.pointer (some ⟨B.g,r*17+16,none⟩),.int .i64 t] w fun e w'=>e=.returned (.tuple #[])/\∃ v',PmAt w' B (M.upd r (fun q=>{ q with wl:=p.wl.erase t ++ [t] })) cs rv (sl.set r (s.1,s.2.1,v'))/\(∀ k,POwn B M.threads.length rv (sl.set r (s.1,s.2.1,v')) k->POwn B M.threads.length rv sl k\/w.heap.size<=k)/\Fr (POwn B M.threads.length rv sl) w w':=by
 obtain ⟨cur,hc,hg⟩:=h.cur
 refine (comeLast_any B.g (r*17+16) s.2.2 p.wl t cur 158 w hc (hg r p s hp hs) (h.wown hp hs).1 hl hn (h.wown hp hs).2.1).mono ?_
 rintro e w' ⟨rfl,v',b,sl',f,o⟩
 have R:=h.setWl hp hs hc b sl' f o
 exact ⟨rfl,v',R.1,R.2,f.mono (fun k _ e=>h.wlS hp hs k e)⟩
theorem wlLeave_any (B:Bk) (M:PM) (cs:Array Value) (rv:Nat->Value) (sl:List (Sv×Sv×Value)) (r t:Nat) (p:PT) (s:Sv×Sv×Value) (w:World) (h:PmAt w B M cs rv sl) (hp:M.threads[r]? = some p) (hs:sl[r]? = some s) (hl:p.wl.length<=1000) (hn:p.wl.Nodup) :
  Calls Tryz.prog 124 #[.pointer (some ⟨B.g,r*17+16,none⟩),.int .i64 t] w fun e w'=>e=.returned (.tuple #[])/\∃ v',PmAt w' B (M.upd r (fun q=>{ q with wl:=p.wl.erase t })) cs rv (sl.set r (s.1,s.2.1,v'))/\(∀ k,POwn B M.threads.length rv (sl.set r (s.1,s.2.1,v')) k->POwn B M.threads.length rv sl k\/w.heap.size<=k)/\Fr (POwn B M.threads.length rv sl) w w':=by
 obtain ⟨cur,hc,hg⟩:=h.cur
 refine (leave_any B.g (r*17+16) s.2.2 p.wl t cur 158 w hc (hg r p s hp hs) (h.wown hp hs).1 hl hn (h.wown hp hs).2.1).mono ?_
 rintro e w' ⟨rfl,v',b,sl',f,o⟩
 have R:=h.setWl hp hs hc b sl' f (fun k hk=>.inr (by rw [<- o];exact hk))
 exact ⟨rfl,v',R.1,R.2,f.mono (fun k _ e=>h.wlS hp hs k e)⟩
end
theorem end_ready (B:Bk) (S:Nat->Prop) (M:PM) (t:Nat) (p:PT) (code:Int) (w:World) (h:PRep w B S M) (hp:M.threads[t]? = some p) (h6:M.threads.length<=6) (s1:p.st=1) :
  Calls Tryz.prog 125 #[.pointer (some ⟨B.x,0,none⟩),.int .i64 t,.int .i64 code] w fun e w'=>e=.returned (.tuple #[])/\PLeft B S (M.upd t (overP code (-1) [] (-1))) w w':=by
 obtain ⟨cs,rv,sl,h,hS⟩:=h
 have htl:=(List.getElem?_eq_some_iff.1 hp).1
 obtain ⟨s,hs⟩:=h.sl_get hp
 have hc1:=(h.cell 1).trans h.c1
 have k3:=(h.tcell hp hs 3 (by omega)).trans (show (prow p s)[3]? = some (.int .i64 p.st) from rfl)
 rw [s1] at k3
 have O:=over_at B M cs rv sl t p s 0 code (-1) (-1) Sv.nil [] w h hp hs h6 (PWd.nil _ _ _ _ _)
 have HO:=hid O
 have HH:=hid (And.intro h (And.intro hs hS))
 generalize hm:M.threads.length=m at *
 have HM:=hid hm
 have ht':(t:Int) < (m:Int):=by omega
 clear h hp hs hS O s1 hm
 go_enter Tryz.func125,Tryz.ntmps125
 go_wp2_with (go_at_call 161;refine HO.out.mono ?_;rintro e w2 ⟨rfl,H2⟩)
 go_end0
 refine ⟨rfl,PLeft.of (M:=M) (by rw [HM.out];exact HH.out.2.2) (by simp [PM.upd]) H2.1 (fun k hk=>pown_set HH.out.2.1 (s':=(Sv.nil,Sv.nil,s.2.2)) rfl (fun k e=>(in_nil e).elim) (fun k e=>(in_nil e).elim) k hk) H2.2 (fun k e=>.inl (.inr (.inl e)))⟩
theorem end_wait (B:Bk) (S:Nat->Prop) (M:PM) (t:Nat) (p:PT) (code:Int) (r:Nat) (w:World) (h:PRep w B S M) (hp:M.threads[t]? = some p) (h6:M.threads.length<=6) (s1:p.st≠1) (hr:p.row=r) (h4:r < 4) (hl:(M.ln r).length<=1000) (hn:(M.ln r).Nodup) :
  Calls Tryz.prog 125 #[.pointer (some ⟨B.x,0,none⟩),.int .i64 t,.int .i64 code] w fun e w'=>e=.returned (.tuple #[])/\PLeft B S ((M.setLn r ((M.ln r).erase t ++ [t])).upd t (overP code (-1) [] (-1))) w w':=by
 obtain ⟨cs,rv,sl,h,hS⟩:=h
 have htl:=(List.getElem?_eq_some_iff.1 hp).1
 obtain ⟨s,hs⟩:=h.sl_get hp
 have hc1:=(h.cell 1).trans h.c1
 have k3:=(h.tcell hp hs 3 (by omega)).trans (show (prow p s)[3]? = some (.int .i64 p.st) from rfl)
 have d:(p.st != 1)=true:=by simpa using s1
 have HR:=hid (row_any B M cs rv sl t p w h hp h6 r hr h4)
 have HL:Hid (∀ w1,Below w.heap.size w w1->_):=fun w1 (hb:Below w.heap.size w w1)=>rowLast_any B M cs rv sl r t w1 (h.below hb) h4 hl hn
 have HH:=hid (And.intro h (And.intro hs (And.intro hS (And.intro hp h6))))
 generalize hm:M.threads.length=m at *
 have HM:=hid hm
 have ht':(t:Int) < (m:Int):=by omega
 generalize p.st=pst at *
 clear h hp hs hS s1 hm hr hl hn
 go_enter Tryz.func125,Tryz.ntmps125
 go_wp2_with (first
  | (go_at_call 130;refine HR.out.mono ?_;rintro e w1 ⟨rfl,hb1⟩;replace hb1:=hid hb1)
  | (go_at_call 131;refine (HL.out _ hb1.out).mono ?_;rintro e w2 ⟨rfl,H2⟩;replace H2:=hid H2;obtain ⟨v2,A2⟩:=H2.out;replace A2:=hid A2;have O2:=hid (over_at B (M.setLn r ((M.ln r).erase t ++ [t])) _ _ sl t p s 0 code (-1) (-1) Sv.nil [] w2 A2.out.1 HH.out.2.2.2.1 HH.out.2.1 (by have:=HM.out;have:=HH.out.2.2.2.2;show M.threads.length<=6;omega) (PWd.nil _ _ _ _ _)))
  | (go_at_call 161;refine O2.out.mono ?_;rintro e w3 ⟨rfl,H3⟩;replace H3:=hid H3))
 go_end0
 have hm:=HM.out
 subst hm
 have z1:=hb1.out.size
 have z2:=A2.out.2.2.size
 refine ⟨rfl,PLeft.of (M:=M) HH.out.2.2.1 (by simp [PM.upd,PM.setLn]) H3.out.1 (fun k hk=>?_) (T:=POwn B M.threads.length rv sl) (((Fr.of_below hb1.out _).trans A2.out.2.2).trans (H3.out.2.mono (fun k _ e=>.inl (.inr (.inl e))))) (fun k e=>e)⟩
 rcases pown_set HH.out.2.1 (s':=(Sv.nil,Sv.nil,s.2.2)) (b:=w.heap.size) rfl (fun k e=>(in_nil e).elim) (fun k e=>(in_nil e).elim) k hk with e | e
 ·exact (A2.out.2.1 k e).imp id (fun e=>by omega)
 ·exact .inr e
theorem PM.upd_get {M:PM}{t:Nat}{p:PT}(hp:M.threads[t]? = some p) (f:PT->PT):(M.upd t f).threads[t]? = some (f p):=(get_modA (g:=f) hp).trans (if_pos rfl)
theorem PM.upd_two {M:PM}{t:Nat}{p:PT}{f g h:PT->PT}(hp:M.threads[t]? = some p) (e:g (f p)=h p):(M.upd t f).upd t g=M.upd t h:=by
 unfold PM.upd
 simp only
 rw [modify_two (h:=h) hp e]
theorem timU {c q:Int}(_h:0 < q):IntKind.u64.wrap (c+IntKind.u64.wrap q)=(c+q) % 18446744073709551616:=by
 rw [IntKind.wrap_u64,IntKind.wrap_u64];omega
theorem pause_any (B:Bk) (S:Nat->Prop) (M:PM) (t:Nat) (p:PT) (state:Int) (r:Nat) (w:World) (h:PRep w B S M) (hp:M.threads[t]? = some p) (h6:M.threads.length<=6) (hr:p.row=r) (h4:r < 4) (hl:(M.ln r).length<=1000) (hn:(M.ln r).Nodup) :
  Calls Tryz.prog 136 #[.pointer (some ⟨B.x,0,none⟩),.int .i64 t,.int .i64 state] w fun e w'=>e=.returned (.tuple #[])/\PLeft B S ((M.setLn r ((M.ln r).erase t)).upd t (fun p=>{ p with st:=state,time:=if 0 < p.wait then (M.clock+p.wait) % 18446744073709551616 else p.time })) w w':=by
 obtain ⟨cs,rv,sl,h,hS⟩:=h
 have htl:=(List.getElem?_eq_some_iff.1 hp).1
 obtain ⟨s,hs⟩:=h.sl_get hp
 have hc1:=(h.cell 1).trans h.c1
 have HR:Hid (∀ w1,Below w.heap.size w w1->_):=fun w1 (hb:Below w.heap.size w w1)=>row_any B M cs rv sl t p w1 (h.below hb) hp h6 r hr h4
 have HL:Hid (∀ w1,Below w.heap.size w w1->_):=fun w1 (hb:Below w.heap.size w w1)=>rowLeave_any B M cs rv sl r t w1 (h.below hb) h4 hl hn
 have HH:=hid (And.intro h (And.intro hs (And.intro hS (And.intro hp h6))))
 generalize hm:M.threads.length=m at *
 have HM:=hid hm
 have ht':(t:Int) < (m:Int):=by omega
 clear h hp hs hS hm hr hl hn
 have HB:Hid (Below w.heap.size w w):=Below.refl _ _
 go_enter Tryz.func136,Tryz.ntmps136
 go_wp2_with (first
  | (go_at_call 130;refine (HR.out _ HB.out).mono ?_;rintro e w1 ⟨rfl,hb1⟩;replace hb1:=hid hb1)
  | (go_at_call 124;refine (HL.out _ hb1.out).mono ?_;rintro e w2 ⟨rfl,H2⟩;replace H2:=hid H2;obtain ⟨v2,A2⟩:=H2.out;replace A2:=hid A2;have k3:=(A2.out.1.tcell (t:=t) HH.out.2.2.2.1 HH.out.2.1 3 (by omega)).trans (show (prow p s)[3]? = some (.int .i64 p.st) from rfl);have k14:=(A2.out.1.tcell (t:=t) HH.out.2.2.2.1 HH.out.2.1 14 (by omega)).trans (show (prow p s)[14]? = some (.int .i64 p.wait) from rfl);have k15:=(A2.out.1.tcell (t:=t) HH.out.2.2.2.1 HH.out.2.1 15 (by omega)).trans (show (prow p s)[15]? = some (.int .u64 p.time) from rfl);have kc:w2.cell? ⟨B.x,0,none⟩=some (.int .u64 M.clock):=(A2.out.1.cell 0).trans A2.out.1.c0;have kf:=A2.out.1.tfro;have hgx:=A2.out.1.n1.1))
 ·rename 0 < p.wait=>hq
  have HQ:=hid hq
  go_region
  go_wp2
  go_end0
  have hm:=HM.out
  subst hm
  have z1:=hb1.out.size
  have z2:=A2.out.2.2.size
  have A:=A2.out.1.setTh (t:=t) (j:=3) (fun p=>{ p with st:=state }) (.int .i64 state) HH.out.2.2.2.1 HH.out.2.1 (by omega) rfl rfl rfl rfl
  have C:=A.1.setTh (t:=t) (j:=15) (fun p=>{ p with time:=(M.clock+p.wait) % 18446744073709551616 }) (.int .u64 ((M.clock+p.wait) % 18446744073709551616)) (PM.upd_get (M:=M.setLn r ((M.ln r).erase t)) (p:=p) HH.out.2.2.2.1 _) HH.out.2.1 (by omega) rfl rfl rfl rfl
  rw [PM.upd_two (M:=M.setLn r ((M.ln r).erase t)) (p:=p) (h:=fun p=>{ p with st:=state,time:=if 0 < p.wait then (M.clock+p.wait) % 18446744073709551616 else p.time }) HH.out.2.2.2.1 (by simp [HQ.out])] at C
  first
   | rw [timU HQ.out]
   | skip
  exact ⟨rfl,PLeft.of (M:=M) HH.out.2.2.1 (by simp [PM.upd,PM.setLn]) C.1.drew (fun k hk=>(A2.out.2.1 k hk).imp id (fun e=>by omega)) (T:=POwn B M.threads.length rv sl) ((((Fr.of_below hb1.out _).trans A2.out.2.2).trans ((A.2.trans C.2).mono (fun k _ e=>.inl (.inr (.inl e))))).drew) (fun k e=>e)⟩
 ·have hq:¬ 0 < p.wait:=by omega
  have HQ:=hid hq
  go_end0
  have hm:=HM.out
  subst hm
  have z1:=hb1.out.size
  have z2:=A2.out.2.2.size
  have A:=A2.out.1.setTh (t:=t) (j:=3) (fun p=>{ p with st:=state,time:=if 0 < p.wait then (M.clock+p.wait) % 18446744073709551616 else p.time }) (.int .i64 state) HH.out.2.2.2.1 HH.out.2.1 (by omega) (by simp [HQ.out,prow]) rfl rfl rfl
  exact ⟨rfl,PLeft.of (M:=M) HH.out.2.2.1 (by simp [PM.upd,PM.setLn]) A.1 (fun k hk=>(A2.out.2.1 k hk).imp id (fun e=>by omega)) (T:=POwn B M.threads.length rv sl) (((Fr.of_below hb1.out _).trans A2.out.2.2).trans (A.2.mono (fun k _ e=>.inl (.inr (.inl e))))) (fun k e=>e)⟩
theorem endTurn_any (B:Bk) (S:Nat->Prop) (M:PM) (t:Nat) (p:PT) (r:Nat) (w:World) (h:PRep w B S M) (hp:M.threads[t]? = some p) (h6:M.threads.length<=6) (hr:p.row=r) (h4:r < 4) (hl:(M.ln r).length<=1000) (hn:(M.ln r).Nodup) :
  Calls Tryz.prog 83 #[.pointer (some ⟨B.x,0,none⟩),.int .i64 t] w fun e w'=>e=.returned (.tuple #[])/\PLeft B S ((M.upd t (fun p=>{ p with left:=3 })).setLn r ((M.ln r).erase t ++ [t])) w w':=by
 obtain ⟨cs,rv,sl,h,hS⟩:=h
 have htl:=(List.getElem?_eq_some_iff.1 hp).1
 obtain ⟨s,hs⟩:=h.sl_get hp
 have hc1:=(h.cell 1).trans h.c1
 have k2:=(h.tcell hp hs 2 (by omega)).trans (show (prow p s)[2]? = some (.int .i64 p.left) from rfl)
 have kf:=h.tfro
 have A:=h.setTh (t:=t) (j:=2) (fun p=>{ p with left:=3 }) (.int .i64 3) hp hs (by omega) rfl rfl rfl rfl
 have HA:=hid A
 have h6':(M.upd t (fun p=>{ p with left:=3 })).threads.length<=6:=by simpa [PM.upd] using h6
 have HR:=hid (row_any B (M.upd t (fun p=>{ p with left:=3 })) cs rv sl t _ _ A.1 (PM.upd_get hp _) h6' r hr h4)
 have HL:Hid (∀ w1,Below _ (w.setCell ⟨B.g,t*17+2,none⟩ (.int .i64 3)) w1->_):=fun w1 hb=>rowLast_any B (M.upd t (fun p=>{ p with left:=3 })) cs rv sl r t w1 (A.1.below hb) h4 hl hn
 have HH:=hid (And.intro h (And.intro hs (And.intro hS (And.intro hp h6))))
 generalize hm:M.threads.length=m at *
 have HM:=hid hm
 have ht':(t:Int) < (m:Int):=by omega
 clear h hp hs hS hm hr hl hn A h6'
 go_enter Tryz.func83,Tryz.ntmps83
 go_wp2_with (first
  | (go_at_call 130;refine HR.out.mono ?_;rintro e w1 ⟨rfl,hb1⟩;replace hb1:=hid hb1)
  | (go_at_call 131;refine (HL.out _ hb1.out).mono ?_;rintro e w2 ⟨rfl,H2⟩;replace H2:=hid H2))
 go_end0
 obtain ⟨v2,a1,a2,a3⟩:=H2.out
 have hm:=HM.out
 subst hm
 have el:(M.upd t (fun p=>{ p with left:=3 })).threads.length=M.threads.length:=by simp [PM.upd]
 rw [el] at a2 a3
 have z1:=hb1.out.size
 have z0:w.heap.size=(w.setCell ⟨B.g,t*17+2,none⟩ (.int .i64 3)).heap.size:=by simp [World.setCell]
 exact ⟨rfl,PLeft.of (M:=M) HH.out.2.2.1 el a1 (fun k hk=>(a2 k hk).imp id (fun e=>by omega)) (T:=POwn B M.threads.length rv sl) (((HA.out.2.mono (fun k _ e=>.inl (.inr (.inl e)))).trans (Fr.of_below hb1.out _)).trans a3) (fun k e=>e)⟩
theorem spend_more (B:Bk) (S:Nat->Prop) (M:PM) (t:Nat) (p:PT) (w:World) (h:PRep w B S M) (hp:M.threads[t]? = some p) (h6:M.threads.length<=6) (hl1:2<=p.left) (hl2:p.left<=3) :
  Calls Tryz.prog 79 #[.pointer (some ⟨B.x,0,none⟩),.int .i64 t] w fun e w'=>e=.returned (.tuple #[])/\PLeft B S (M.upd t (fun p=>{ p with left:=p.left-1 })) w w':=by
 obtain ⟨cs,rv,sl,h,hS⟩:=h
 have htl:=(List.getElem?_eq_some_iff.1 hp).1
 obtain ⟨s,hs⟩:=h.sl_get hp
 have hc1:=(h.cell 1).trans h.c1
 have k2:=(h.tcell hp hs 2 (by omega)).trans (show (prow p s)[2]? = some (.int .i64 p.left) from rfl)
 have kf:=h.tfro
 have A:=h.setTh (t:=t) (j:=2) (fun p=>{ p with left:=p.left-1 }) (.int .i64 (p.left-1)) hp hs (by omega) rfl rfl rfl rfl
 have HA:=hid (And.intro A hS)
 have hgx:=h.n1.1
 generalize hm:M.threads.length=m at *
 have HM:=hid hm
 have ht':(t:Int) < (m:Int):=by omega
 clear h hp hs hS hm A
 generalize p.left=lf at *
 have hz:((lf-1:Int) == 0)=false:=by simp;omega
 go_enter Tryz.func79,Tryz.ntmps79
 go_wp2
 go_end0
 have hm:=HM.out
 subst hm
 exact ⟨rfl,PLeft.of (M:=M) HA.out.2 (by simp [PM.upd]) HA.out.1.1 (fun k hk=>.inl hk) HA.out.1.2 (fun k e=>.inl (.inr (.inl e)))⟩
theorem spend_end (B:Bk) (S:Nat->Prop) (M:PM) (t:Nat) (p:PT) (r:Nat) (w:World) (h:PRep w B S M) (hp:M.threads[t]? = some p) (h6:M.threads.length<=6) (hl1:p.left=1) (hr:p.row=r) (h4:r < 4) (hl:(M.ln r).length<=1000) (hn:(M.ln r).Nodup) :
  Calls Tryz.prog 79 #[.pointer (some ⟨B.x,0,none⟩),.int .i64 t] w fun e w'=>e=.returned (.tuple #[])/\PLeft B S ((M.upd t (fun p=>{ p with left:=3 })).setLn r ((M.ln r).erase t ++ [t])) w w':=by
 obtain ⟨cs,rv,sl,h,hS⟩:=h
 have htl:=(List.getElem?_eq_some_iff.1 hp).1
 obtain ⟨s,hs⟩:=h.sl_get hp
 have hc1:=(h.cell 1).trans h.c1
 have k2:=(h.tcell hp hs 2 (by omega)).trans (show (prow p s)[2]? = some (.int .i64 p.left) from rfl)
 rw [hl1] at k2
 have kf:=h.tfro
 have A:=h.setTh (t:=t) (j:=2) (fun p=>{ p with left:=0 }) (.int .i64 0) hp hs (by omega) rfl rfl rfl rfl
 have L1:PLeft B S (M.upd t (fun p=>{ p with left:=0 })) w (w.setCell ⟨B.g,t*17+2,none⟩ (.int .i64 0)):=PLeft.of (M:=M) hS (by simp [PM.upd]) A.1 (fun k hk=>.inl hk) A.2 (fun k e=>.inl (.inr (.inl e)))
 have e2:(M.upd t (fun p=>{ p with left:=0 })).upd t (fun p=>{ p with left:=3 })=M.upd t (fun p=>{ p with left:=3 }):=PM.upd_two hp rfl
 have h6':(M.upd t (fun p=>{ p with left:=0 })).threads.length<=6:=by simpa [PM.upd] using h6
 obtain ⟨⟨S1,R1,o1⟩,F1⟩:=L1
 have E:=endTurn_any B S1 (M.upd t (fun p=>{ p with left:=0 })) t _ r _ R1 (PM.upd_get hp _) h6' hr h4 hl hn
 rw [e2] at E
 have HE:=hid (And.intro E (And.intro o1 F1))
 have hgx:=h.n1.1
 generalize hm:M.threads.length=m at *
 have ht':(t:Int) < (m:Int):=by omega
 clear h hp hs hS hm A E e2 h6' hr hl hn R1 o1 F1
 go_enter Tryz.func79,Tryz.ntmps79
 go_wp2_with (go_at_call 83;refine HE.out.1.mono ?_;rintro e w2 ⟨rfl,H2⟩)
 go_end0
 obtain ⟨⟨S2,R2,o2⟩,F2⟩:=H2
 have z:=HE.out.2.2.size
 exact ⟨rfl,⟨S2,R2,fun b hb=>(o2 b hb).elim (HE.out.2.1 b) (fun e=>.inr (by omega))⟩,HE.out.2.2.next F2 HE.out.2.1⟩
end Go.Proofs.YteejjgbeknnmeaaGreatDoor
