import Derived.Test.YtgiiegppaleldaaGreatDoorS
import Derived.Test.YtgiiegppaleldaaGreatDoorL2
import Derived.Test.YtgiiegppaleldaaGreatDoorD
/- What holds between the steps of a script: no call is walked here. -/
namespace Go.Proofs.YtgiiegppaleldaaGreatDoor
open Go.RowKit

structure Pr where
  x : Nat
  y : Nat
  S : Nat → Prop
  K : RK
  vt : Value
  vp : Value
  vl : Value
def prRow (p : Pr) : List Value := [.pointer (some ⟨p.x, 0, none⟩), .pointer (some ⟨p.y, 0, none⟩)]

def stT (j : Nat) : TypeId := if j = 1 then 83 else if j = 2 then 85 else 87
def elT (j : Nat) : TypeId := if j = 1 then 2 else if j = 2 then 67 else 69
def mkM (j : Nat) : Int → List Value := if j = 1 then mk1 else mk4

structure Inv (Rep : World → Nat → (Nat → Prop) → RK → Prop) (o : Nat → Nat) (b n : Nat) (w : World) (ps : Value) (lv : Nat → Value) (rows : Nat → List (List Value)) (prs : List Pr) : Prop where
  lg : Loc o 0 Gl w
  lb : Loc o 1 (fun w => w.heap[b]? = some (.cells #[ps, lv 1, lv 2, lv 3] 34 (0, 0))) w
  cb : o b = 1
  ls : Loc o 2 (fun w => Sl w 51 2 ps (prs.map prRow)) w
  cs : ∀ k, ps.ownBlock = some k → o k = 2
  lj : ∀ j, 1 ≤ j → j ≤ 3 → Loc o (2 + j) (fun w => Sl w (stT j) 5 (lv j) (rows j)) w
  cj : ∀ j, 1 ≤ j → j ≤ 3 → ∀ k, (lv j).ownBlock = some k → o k = 2 + j
  mj : ∀ j, 1 ≤ j → j ≤ 3 → Loc o 0 (fun w => Marks w (elT j) (mkM j) (rows j)) w
  lx : ∀ (i : Nat) p, prs[i]? = some p → Loc o (8 + 2 * i) (fun w => Rep w p.x p.S p.K) w
  cx : ∀ (i : Nat) p, prs[i]? = some p → ∀ k, p.S k → o k = 8 + 2 * i
  ly : ∀ (i : Nat) p, prs[i]? = some p → Loc o (9 + 2 * i) (fun w => RefAt w p.y p.K p.vt p.vp p.vl) w
  cy : ∀ (i : Nat) p, prs[i]? = some p → ∀ k, RefOwn p.y p.vt p.vp p.vl k → o k = 9 + 2 * i
  ok : ∀ (i : Nat) p, prs[i]? = some p → p.K.Ok n
  nq : prs.length ≤ n + 1
  nj : ∀ j, 1 ≤ j → j ≤ 3 → (rows j).length ≤ n

theorem RefAt.lt {w : World} {y : Nat} {K : RK} {vt vp vl : Value} (h : RefAt w y K vt vp vl) {k : Nat} (hk : RefOwn y vt vp vl k) : k < w.heap.size := by
  rcases hk with rfl | hk | hk | hk
  · exact (Array.getElem?_eq_some_iff.1 h.blk).1
  · exact h.th.lt hk
  · exact h.pa.lt hk
  · exact h.le.lt hk
theorem Loc.ref {o : Nat → Nat} {c : Nat} {w : World} {y : Nat} {K : RK} {vt vp vl : Value} (h : RefAt w y K vt vp vl) (hc : ∀ k, RefOwn y vt vp vl k → o k = c) : Loc o c (fun w => RefAt w y K vt vp vl) w :=
  fun _ _ f t => h.kept f (fun k hk ht => t k (h.lt hk) ht (hc k hk))
theorem Loc.rep {Rep : World → Nat → (Nat → Prop) → RK → Prop} (A : Api Rep) {o : Nat → Nat} {c : Nat} {w : World} {x : Nat} {S : Nat → Prop} {K : RK} (h : Rep w x S K) (hc : ∀ k, S k → o k = c) : Loc o c (fun w => Rep w x S K) w :=
  fun _ _ f t => A.kept h f (fun k hk ht => t k (A.lt h k hk) ht (hc k hk))

theorem RK.Ok.mono {K : RK} {n m : Nat} (h : K.Ok n) (hm : n ≤ m) : K.Ok m :=
  ⟨h.one, h.six, h.sp1, h.sp3, h.left, h.apq, h.apl, h.clock0, by have := h.clock1; omega, h.last0, by have := h.last1; omega, h.bq, h.bl, h.rq, h.rl, h.oq, h.ol, h.hm⟩

section
variable {Rep : World → Nat → (Nat → Prop) → RK → Prop} (A : Api Rep) {o o' : Nat → Nat} {b n : Nat} {w w' : World} {ps : Value} {lv : Nat → Value} {rows : Nat → List (List Value)} {prs : List Pr}

include A in
theorem Inv.below (h : Inv Rep o b n w ps lv rows prs) (hb : Below w.heap.size w w') (ho : ∀ k, k < w.heap.size → o' k = o k) : Inv Rep o' b n w' ps lv rows prs := by
  have F := Fr.of_below hb (fun _ => False)
  have T : ∀ c k, k < w.heap.size → (fun _ => False) k → o k ≠ c := fun _ _ _ h => h.elim
  have H : ∀ c k, k < w.heap.size → o k = c → o' k = c := fun c k hk e => (ho k hk).trans e
  exact ⟨h.lg.kept F (T 0) (H _), h.lb.kept F (T 1) (H _), (ho b (Array.getElem?_eq_some_iff.1 h.lb.now).1).trans h.cb, h.ls.kept F (T 2) (H _), fun k hk => (ho k (h.ls.now.lt hk)).trans (h.cs k hk),
    fun j h1 h3 => (h.lj j h1 h3).kept F (T _) (H _), fun j h1 h3 k hk => (ho k ((h.lj j h1 h3).now.lt hk)).trans (h.cj j h1 h3 k hk), fun j h1 h3 => (h.mj j h1 h3).kept F (T _) (H _),
    fun i p hp => (h.lx i p hp).kept F (T _) (H _), fun i p hp k hk => (ho k (A.lt (h.lx i p hp).now k hk)).trans (h.cx i p hp k hk), fun i p hp => (h.ly i p hp).kept F (T _) (H _), fun i p hp k hk => (ho k ((h.ly i p hp).now.lt hk)).trans (h.cy i p hp k hk), h.ok, h.nq, h.nj⟩

theorem Inv.mono (h : Inv Rep o b n w ps lv rows prs) {m : Nat} (hm : n ≤ m) : Inv Rep o b m w ps lv rows prs :=
  ⟨h.lg, h.lb, h.cb, h.ls, h.cs, h.lj, h.cj, h.mj, h.lx, h.cx, h.ly, h.cy, fun i p hp => (h.ok i p hp).mono hm, by have := h.nq; omega, fun j h1 h3 => Nat.le_trans (h.nj j h1 h3) hm⟩

theorem lv_set {ps : Value} {lv : Nat → Value} {j : Nat} (h1 : 1 ≤ j) (h3 : j ≤ 3) (u : Value) : (#[ps, lv 1, lv 2, lv 3] : Array Value).setIfInBounds j u = #[ps, (fun i => if i = j then u else lv i) 1, (fun i => if i = j then u else lv i) 2, (fun i => if i = j then u else lv i) 3] := by
  have h : j = 1 ∨ j = 2 ∨ j = 3 := by omega
  rcases h with rfl | rfl | rfl <;> rfl

/-- The colours behind a booking. -/
def oBook (o : Nat → Nat) (w : World) (cv j : Nat) (u : Value) (k : Nat) : Nat := if k < w.heap.size then (if o k = cv then 0 else o k) else if u.ownBlock = some k then 2 + j else 0

theorem oBook_old {o : Nat → Nat} {w : World} {cv j : Nat} {u : Value} {k c : Nat} (hk : k < w.heap.size) (e : o k = c) (hc : c ≠ cv) : oBook o w cv j u k = c := by
  unfold oBook; rw [if_pos hk, if_neg (by rw [e]; exact hc)]; exact e

include A in
/-- A list that came out is booked. -/
theorem Inv.book (h : Inv Rep o b n w ps lv rows prs) {m : Nat} (hnm : n ≤ m) {j : Nat} (h1 : 1 ≤ j) (h3 : j ≤ 3) (hjm : (rows j).length + 1 ≤ m) {cv : Nat} (hcv : cv = 6 ∨ cv = 7) {v u v1 v2 v3 : Value} (hv : ∀ k, v.ownBlock = some k → o k = cv) (hvl : ∀ k, v.ownBlock = some k → k < w.heap.size)
    (hk : Booked (stT j) (elT j) (mkM j) b j #[ps, lv 1, lv 2, lv 3] (lv j) v (rows j) w u v1 v2 v3 w') :
    Inv Rep (oBook o w cv j u) b m w' ps (fun i => if i = j then u else lv i) (fun i => if i = j then rows j ++ [[v, v1, v2, v3, .int .i64 (rows j).length]] else rows i) prs := by
  have T : ∀ c, c ≠ 1 → c ≠ cv → c ≠ 2 + j → ∀ k, k < w.heap.size → (k = b ∨ v.ownBlock = some k ∨ (lv j).ownBlock = some k) → o k ≠ c := by
    intro c c1 c2 c3 k _ ht e
    rcases ht with rfl | ht | ht
    · exact c1 (e.symm.trans h.cb)
    · exact c2 (e.symm.trans (hv k ht))
    · exact c3 (e.symm.trans (h.cj j h1 h3 k ht))
  have H : ∀ c, c ≠ cv → ∀ k, k < w.heap.size → o k = c → oBook o w cv j u k = c := fun c hc k hk e => oBook_old hk e hc
  have cu : ∀ k, u.ownBlock = some k → oBook o w cv j u k = 2 + j := fun k hu => by
    rcases hk.fresh k hu with e | e
    · unfold oBook; rw [if_neg (by omega), if_pos hu]
    · exact H _ (by omega) k ((h.lj j h1 h3).now.lt e) (h.cj j h1 h3 k e)
  have cv0 : ∀ k, v.ownBlock = some k → oBook o w cv j u k = 0 := fun k e => by
    unfold oBook; rw [if_pos (hvl k e), if_pos (hv k e)]
  have cm : ∀ k, (v1.ownBlock = some k ∨ v2.ownBlock = some k ∨ v3.ownBlock = some k) → oBook o w cv j u k = 0 := fun k e => by
    obtain ⟨a1, a2⟩ := hk.own k e
    rcases a1 with a1 | a1
    · unfold oBook; rw [if_neg (by omega), if_neg a2]
    · exact cv0 k a1
  have hb := hk.at_
  rw [lv_set h1 h3] at hb
  refine ⟨h.lg.kept hk.fr (T 0 (by omega) (by omega) (by omega)) (H 0 (by omega)), Loc.heap hb (H 1 (by omega) b (Array.getElem?_eq_some_iff.1 h.lb.now).1 h.cb), H 1 (by omega) b (Array.getElem?_eq_some_iff.1 h.lb.now).1 h.cb,
    h.ls.kept hk.fr (T 2 (by omega) (by omega) (by omega)) (H 2 (by omega)), fun k e => H 2 (by omega) k (h.ls.now.lt e) (h.cs k e), ?_, ?_, ?_,
    fun i p hp => (h.lx i p hp).kept hk.fr (T _ (by omega) (by omega) (by omega)) (H _ (by omega)), fun i p hp k e => H _ (by omega) k (A.lt (h.lx i p hp).now k e) (h.cx i p hp k e),
    fun i p hp => (h.ly i p hp).kept hk.fr (T _ (by omega) (by omega) (by omega)) (H _ (by omega)), fun i p hp k e => H _ (by omega) k ((h.ly i p hp).now.lt e) (h.cy i p hp k e), fun i p hp => (h.ok i p hp).mono (by omega), by have := h.nq; omega, ?_⟩
  · intro i i1 i3
    by_cases e : i = j
    · subst e
      simp only [if_pos]
      exact Loc.sl hk.sl cu
    · simp only [if_neg e]
      exact (h.lj i i1 i3).kept hk.fr (T _ (by omega) (by omega) (by omega)) (H _ (by omega))
  · intro i i1 i3 k hu
    by_cases e : i = j
    · subst e
      simp only [if_pos] at hu
      exact cu k hu
    · simp only [if_neg e] at hu
      exact H _ (by omega) k ((h.lj i i1 i3).now.lt hu) (h.cj i i1 i3 k hu)
  · intro i i1 i3
    by_cases e : i = j
    · subst e
      simp only [if_pos]
      have M0 := (h.mj i i1 i3).kept hk.fr (T 0 (by omega) (by omega) (by omega)) (H 0 (by omega))
      have N0 := Loc.marked hk.m0 cv0
      have N1 := Loc.marked hk.m1 (fun k e => cm k (.inl e))
      have N2 := Loc.marked hk.m2 (fun k e => cm k (.inr (.inl e)))
      have N3 := Loc.marked hk.m3 (fun k e => cm k (.inr (.inr e)))
      refine (M0.and (N0.and (N1.and (N2.and N3)))).mono ?_
      rintro w2 ⟨m, a0, a1, a2, a3⟩ k hk2
      simp only [List.length_append, List.length_singleton] at hk2
      by_cases ek : k < (rows i).length
      · obtain ⟨x0, x1, x2, x3, ex, y0, y1, y2, y3⟩ := m k ek
        exact ⟨x0, x1, x2, x3, by rw [List.getElem?_append_left ek]; exact ex, y0, y1, y2, y3⟩
      · have : k = (rows i).length := by omega
        subst this
        exact ⟨v, v1, v2, v3, by simp, a0, a1, a2, a3⟩
    · simp only [if_neg e]
      exact (h.mj i i1 i3).kept hk.fr (T 0 (by omega) (by omega) (by omega)) (H 0 (by omega))
  · intro i i1 i3
    by_cases e : i = j
    · subst e
      simp only [if_pos, List.length_append, List.length_singleton]
      have := h.nj i i1 i3
      omega
    · simp only [if_neg e]
      have := h.nj i i1 i3
      omega

include A in
/-- A pair has gone on. -/
theorem Inv.pair (h : Inv Rep o b n w ps lv rows prs) {i : Nat} {p p' : Pr} (hp : prs[i]? = some p) (ex : p'.x = p.x) (ey : p'.y = p.y) {T : Nat → Prop} (hf : Fr T w w') (hT : ∀ k, k < w.heap.size → T k → o k = 8 + 2 * i ∨ o k = 9 + 2 * i) (ho : ∀ k, k < w.heap.size → o' k = o k)
    (hx : Rep w' p'.x p'.S p'.K) (cx' : ∀ k, p'.S k → o' k = 8 + 2 * i) (hy : RefAt w' p'.y p'.K p'.vt p'.vp p'.vl) (cy' : ∀ k, RefOwn p'.y p'.vt p'.vp p'.vl k → o' k = 9 + 2 * i) (hok : p'.K.Ok (n + 1)) :
    Inv Rep o' b (n + 1) w' ps lv rows (prs.set i p') := by
  have Tn : ∀ c, c ≠ 8 + 2 * i → c ≠ 9 + 2 * i → ∀ k, k < w.heap.size → T k → o k ≠ c := by
    intro c c1 c2 k hk ht e
    rcases hT k hk ht with q | q
    · exact c1 (e.symm.trans q)
    · exact c2 (e.symm.trans q)
  have H : ∀ c k, k < w.heap.size → o k = c → o' k = c := fun c k hk e => (ho k hk).trans e
  have hil := (List.getElem?_eq_some_iff.1 hp).1
  have em : (prs.set i p').map prRow = prs.map prRow := by
    apply List.ext_getElem?
    intro q
    simp only [List.getElem?_map, List.getElem?_set]
    by_cases e : i = q
    · subst e
      rw [if_pos rfl, if_pos hil, hp]
      simp [prRow, ex, ey]
    · rw [if_neg e]
  have hget : ∀ (q : Nat) r, (prs.set i p')[q]? = some r → (q = i ∧ r = p') ∨ (q ≠ i ∧ prs[q]? = some r) := by
    intro q r hr
    rw [List.getElem?_set] at hr
    by_cases e : i = q
    · subst e
      rw [if_pos rfl, if_pos hil] at hr
      exact .inl ⟨rfl, (Option.some.inj hr).symm⟩
    · rw [if_neg e] at hr
      exact .inr ⟨fun q => e q.symm, hr⟩
  refine ⟨h.lg.kept hf (Tn 0 (by omega) (by omega)) (H _), h.lb.kept hf (Tn 1 (by omega) (by omega)) (H _), H 1 b (Array.getElem?_eq_some_iff.1 h.lb.now).1 h.cb, by rw [em]; exact h.ls.kept hf (Tn 2 (by omega) (by omega)) (H _), fun k e => H 2 k (h.ls.now.lt e) (h.cs k e),
    fun j h1 h3 => (h.lj j h1 h3).kept hf (Tn _ (by omega) (by omega)) (H _), fun j h1 h3 k e => H _ k ((h.lj j h1 h3).now.lt e) (h.cj j h1 h3 k e), fun j h1 h3 => (h.mj j h1 h3).kept hf (Tn 0 (by omega) (by omega)) (H _), ?_, ?_, ?_, ?_, ?_, by have := h.nq; simp; omega, fun j h1 h3 => by have := h.nj j h1 h3; omega⟩
  · intro q r hr
    rcases hget q r hr with ⟨rfl, rfl⟩ | ⟨hne, hr⟩
    · exact Loc.rep A hx cx'
    · exact (h.lx q r hr).kept hf (Tn _ (by omega) (by omega)) (H _)
  · intro q r hr k hk
    rcases hget q r hr with ⟨rfl, rfl⟩ | ⟨hne, hr⟩
    · exact cx' k hk
    · exact H _ k (A.lt (h.lx q r hr).now k hk) (h.cx q r hr k hk)
  · intro q r hr
    rcases hget q r hr with ⟨rfl, rfl⟩ | ⟨hne, hr⟩
    · exact Loc.ref hy cy'
    · exact (h.ly q r hr).kept hf (Tn _ (by omega) (by omega)) (H _)
  · intro q r hr k hk
    rcases hget q r hr with ⟨rfl, rfl⟩ | ⟨hne, hr⟩
    · exact cy' k hk
    · exact H _ k ((h.ly q r hr).now.lt hk) (h.cy q r hr k hk)
  · intro q r hr
    rcases hget q r hr with ⟨rfl, rfl⟩ | ⟨hne, hr⟩
    · exact hok
    · exact (h.ok q r hr).mono (by omega)

/-- What a New leaves that is taken. -/
structure Made (Rep : World → Nat → (Nat → Prop) → RK → Prop) (b : Nat) (K : RK) (ps l1 l2 l3 : Value) (R : List (List Value)) (w : World) (x y : Nat) (S : Nat → Prop) (vt vp vl ps' : Value) (w' : World) : Prop where
  at_ : w'.heap[b]? = some (.cells #[ps', l1, l2, l3] 34 (0, 0))
  sl : Sl w' 51 2 ps' (R ++ [[.pointer (some ⟨x, 0, none⟩), .pointer (some ⟨y, 0, none⟩)]])
  rx : Rep w' x S K
  ry : RefAt w' y K vt vp vl
  fr : Fr (fun k => k = b ∨ ps.ownBlock = some k) w w'
  sx : ∀ k, S k → w.heap.size ≤ k
  sy : ∀ k, RefOwn y vt vp vl k → w.heap.size ≤ k ∧ ¬ S k
  sp : ∀ k, ps'.ownBlock = some k → (w.heap.size ≤ k ∧ ¬ S k ∧ ¬ RefOwn y vt vp vl k) ∨ ps.ownBlock = some k

open Classical in
noncomputable def oPush (o : Nat → Nat) (w : World) (i : Nat) (S T : Nat → Prop) (k : Nat) : Nat := if k < w.heap.size then o k else if S k then 8 + 2 * i else if T k then 9 + 2 * i else 2

include A in
theorem Inv.push (h : Inv Rep o b n w ps lv rows prs) {K : RK} {x y : Nat} {S : Nat → Prop} {vt vp vl ps' : Value} (hm : Made Rep b K ps (lv 1) (lv 2) (lv 3) (prs.map prRow) w x y S vt vp vl ps' w') (hok : K.Ok (n + 1)) :
    Inv Rep (oPush o w prs.length S (RefOwn y vt vp vl)) b (n + 1) w' ps' lv rows (prs ++ [⟨x, y, S, K, vt, vp, vl⟩]) := by
  have T : ∀ c, c ≠ 1 → c ≠ 2 → ∀ k, k < w.heap.size → (k = b ∨ ps.ownBlock = some k) → o k ≠ c := by
    intro c c1 c2 k _ ht e
    rcases ht with rfl | ht
    · exact c1 (e.symm.trans h.cb)
    · exact c2 (e.symm.trans (h.cs k ht))
  have H : ∀ c k, k < w.heap.size → o k = c → oPush o w prs.length S (RefOwn y vt vp vl) k = c := fun c k hk e => by unfold oPush; rw [if_pos hk]; exact e
  have lb := (Array.getElem?_eq_some_iff.1 h.lb.now).1
  have hget : ∀ (q : Nat) r, (prs ++ [⟨x, y, S, K, vt, vp, vl⟩])[q]? = some r → (q = prs.length ∧ r = ⟨x, y, S, K, vt, vp, vl⟩) ∨ (q < prs.length ∧ prs[q]? = some r) := by
    intro q r hr
    rcases Nat.lt_or_ge q prs.length with e | e
    · rw [List.getElem?_append_left e] at hr; exact .inr ⟨e, hr⟩
    · have hl := (List.getElem?_eq_some_iff.1 hr).1
      simp at hl
      have : q = prs.length := by omega
      subst this
      simp at hr
      exact .inl ⟨rfl, hr.symm⟩
  have csx : ∀ k, S k → oPush o w prs.length S (RefOwn y vt vp vl) k = 8 + 2 * prs.length := fun k hk => by
    unfold oPush; rw [if_neg (by have := hm.sx k hk; omega), if_pos hk]
  have csy : ∀ k, RefOwn y vt vp vl k → oPush o w prs.length S (RefOwn y vt vp vl) k = 9 + 2 * prs.length := fun k hk => by
    have := hm.sy k hk
    unfold oPush; rw [if_neg (by omega), if_neg this.2, if_pos hk]
  have csp : ∀ k, ps'.ownBlock = some k → oPush o w prs.length S (RefOwn y vt vp vl) k = 2 := fun k hk => by
    rcases hm.sp k hk with e | e
    · unfold oPush; rw [if_neg (by omega), if_neg e.2.1, if_neg e.2.2]
    · exact H 2 k (h.ls.now.lt e) (h.cs k e)
  refine ⟨h.lg.kept hm.fr (T 0 (by omega) (by omega)) (H _), Loc.heap hm.at_ (H 1 b lb h.cb), H 1 b lb h.cb, Loc.sl (by rw [List.map_append]; exact hm.sl) csp, csp,
    fun j h1 h3 => (h.lj j h1 h3).kept hm.fr (T _ (by omega) (by omega)) (H _), fun j h1 h3 k e => H _ k ((h.lj j h1 h3).now.lt e) (h.cj j h1 h3 k e), fun j h1 h3 => (h.mj j h1 h3).kept hm.fr (T 0 (by omega) (by omega)) (H _), ?_, ?_, ?_, ?_, ?_, by have := h.nq; simp; omega, fun j h1 h3 => by have := h.nj j h1 h3; omega⟩
  · intro q r hr
    rcases hget q r hr with ⟨rfl, rfl⟩ | ⟨_, hr⟩
    · exact Loc.rep A hm.rx csx
    · exact (h.lx q r hr).kept hm.fr (T _ (by omega) (by omega)) (H _)
  · intro q r hr k hk
    rcases hget q r hr with ⟨rfl, rfl⟩ | ⟨_, hr⟩
    · exact csx k hk
    · exact H _ k (A.lt (h.lx q r hr).now k hk) (h.cx q r hr k hk)
  · intro q r hr
    rcases hget q r hr with ⟨rfl, rfl⟩ | ⟨_, hr⟩
    · exact Loc.ref hm.ry csy
    · exact (h.ly q r hr).kept hm.fr (T _ (by omega) (by omega)) (H _)
  · intro q r hr k hk
    rcases hget q r hr with ⟨rfl, rfl⟩ | ⟨_, hr⟩
    · exact csy k hk
    · exact H _ k ((h.ly q r hr).now.lt hk) (h.cy q r hr k hk)
  · intro q r hr
    rcases hget q r hr with ⟨rfl, rfl⟩ | ⟨_, hr⟩
    · exact hok
    · exact (h.ok q r hr).mono (by omega)
end
end Go.Proofs.YtgiiegppaleldaaGreatDoor
