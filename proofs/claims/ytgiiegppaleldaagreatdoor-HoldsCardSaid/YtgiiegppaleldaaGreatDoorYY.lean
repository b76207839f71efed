import Derived.Test.YtgiiegppaleldaaGreatDoorXY
import Derived.Test.YtgiiegppaleldaaGreatDoorLL
/- One step of a script, over what holds between the steps. -/
namespace Go.Proofs.YtgiiegppaleldaaGreatDoor
open Go.RowKit

/-- A step of a script, as its cells are. -/
structure OpV where
  kd : Int
  ka : Int
  kb : Int
  kcc : Int
  kd2 : Int
  kn : Int
  ky : Bool
  m0 : Int
  m2 : Int
  m3 : Int
  m4 : Int
  m5 : Int
  m6 : Int
  aw : Option Addr
  nw : Nat
  cw : Nat
  sp : Int
  aT : Option Addr
  aP : Option Addr
  aL : Option Addr
  mT : Nat
  mP : Nat
  mL : Nat
  cT : Nat
  cP : Nat
  cL : Nat
  T : List (Int × Int)
  Q : List (Int × Int × Int × Int)
  L : List (Int × Int × Int × Int)

def OpV.row (v : OpV) : List Value := [.int .i64 v.kd, .int .i64 v.ka, .int .i64 v.kb, .int .i64 v.kcc, .int .i64 v.kd2, .int .i64 v.kn, .bool v.ky, .int .i64 v.m0, .slice v.aw v.nw v.cw, .int .i64 v.m2, .int .i64 v.m3, .int .i64 v.m4, .int .i64 v.m5, .int .i64 v.m6, .int .i64 v.sp, .slice v.aT v.mT v.cT, .slice v.aP v.mP v.cP, .slice v.aL v.mL v.cL]

/-- What is known of a step's lists. -/
structure OpV.Ok (v : OpV) (w : World) : Prop where
  iT : Inl w 2 (.slice v.aT v.mT v.cT) (v.T.map tRow)
  iP : Inl w 4 (.slice v.aP v.mP v.cP) (v.Q.map qRow)
  iL : Inl w 4 (.slice v.aL v.mL v.cL) (v.L.map qRow)
  eT : v.T.length = v.mT
  eP : v.Q.length = v.mP
  eL : v.L.length = v.mL
  bT : v.mT ≤ 8796093022208
  bP : v.mP ≤ 4398046511104
  bL : v.mL ≤ 4398046511104
  a1 : -9223372036854775808 ≤ v.ka
  a2 : v.ka ≤ 9223372036854775807

theorem OpV.Ok.below {v : OpV} {w w' : World} (h : v.Ok w) (hb : Below w.heap.size w w') : v.Ok w' := ⟨h.iT.below (by omega) hb, h.iP.below (by omega) hb, h.iL.below (by omega) hb, h.eT, h.eP, h.eL, h.bT, h.bP, h.bL, h.a1, h.a2⟩

theorem pigeon18 {sp h : Int} {Q : List (Int × Int × Int × Int)} (hn : sp ≤ 3) (ho : ∀ (i : Nat) p, Q[i]? = some p → okQ sp h p) (ap : Apart Q) (bd : Q.length ≤ 4398046511104) : Q.length ≤ 1000000000000 := by
  have := pigeon (Q := Q) (b := Q.length) (n := sp) (h := h) (Nat.le_refl _) hn (fun i p _ hp => ⟨ho i p hp, fun j q hj hq e => ap i j p q hj hp hq e⟩)
  omega

theorem ownP {y : Nat} {vt vp vp' vl : Value} {m k : Nat} (hk : RefOwn y vt vp' vl k) (h : ∀ q, vp'.ownBlock = some q → vp.ownBlock = some q ∨ m ≤ q) : RefOwn y vt vp vl k ∨ m ≤ k := by
  rcases hk with hk | hk | hk | hk
  · exact .inl (.inl hk)
  · exact .inl (.inr (.inl hk))
  · rcases h k hk with h | h
    · exact .inl (.inr (.inr (.inl h)))
    · exact .inr h
  · exact .inl (.inr (.inr (.inr hk)))
theorem ownL {y : Nat} {vt vp vl vl' : Value} {m k : Nat} (hk : RefOwn y vt vp vl' k) (h : ∀ q, vl'.ownBlock = some q → vl.ownBlock = some q ∨ m ≤ q) : RefOwn y vt vp vl k ∨ m ≤ k := by
  rcases hk with hk | hk | hk | hk
  · exact .inl (.inl hk)
  · exact .inl (.inr (.inl hk))
  · exact .inl (.inr (.inr (.inl hk)))
  · rcases h k hk with h | h
    · exact .inl (.inr (.inr (.inr h)))
    · exact .inr h
theorem home_ok {K : RK} {n : Nat} (h : K.Ok n) : 0 ≤ K.home ∧ K.home ≤ K.sp - 1 := by
  obtain ⟨t, u, et, hu⟩ := cur_nat h.one
  have : K.home = u.1 := by unfold RK.home; rw [et, Int.toNat_natCast, hu]
  rw [this]
  exact h.hm t u hu

theorem modify_home {ts : List (Int × Int × Int × Int)} {b : Int} (h : ∀ (i : Nat) u, ts[i]? = some u → 0 ≤ u.1 ∧ u.1 ≤ b) (t : Nat) (f : Int × Int × Int × Int → Int × Int × Int × Int) (hf : ∀ u, (f u).1 = u.1) : ∀ (i : Nat) u, (ts.modify t f)[i]? = some u → 0 ≤ u.1 ∧ u.1 ≤ b := by
  intro i u hu
  rw [List.getElem?_modify] at hu
  rcases hx : ts[i]? with _ | x
  · rw [hx] at hu; simp at hu
  · rw [hx] at hu
    have := h i x hx
    by_cases e : t = i
    · simp [e] at hu; rw [← hu, hf]; exact this
    · simp [e] at hu; rw [← hu]; exact this

theorem tick_ok {K : RK} {n : Nat} (h : K.Ok n) : K.tick.Ok (n + 1) := by
  obtain ⟨t, u, et, hu⟩ := cur_nat h.one
  have etn : (curTo K.threads K.threads.length).toNat = t := by rw [et]; simp
  have hl := h.left t u hu
  have mleft : ∀ (a : Int), 1 ≤ a → a ≤ 3 → ∀ (i : Nat) v, (K.threads.modify t (fun u => (u.1, u.2.1, u.2.2.1, a)))[i]? = some v → 1 ≤ v.2.2.2 ∧ v.2.2.2 ≤ 3 := by
    intro a a1 a3 i v hv
    rw [List.getElem?_modify] at hv
    rcases hx : K.threads[i]? with _ | x
    · rw [hx] at hv; simp at hv
    · rw [hx] at hv
      by_cases e : t = i
      · simp [e] at hv; rw [← hv]; exact ⟨a1, a3⟩
      · simp [e] at hv; rw [← hv]; exact h.left i x hx
  unfold RK.tick
  rw [etn, hu]
  by_cases h1 : u.2.2.2 - 1 = 0
  · simp only [h1, if_pos]
    refine ⟨by simpa [RK.toLast, RK.setLeft, RK.ticked] using h.one, by simpa [RK.toLast, RK.setLeft, RK.ticked] using h.six, h.sp1, h.sp3, ?_, h.apq, h.apl, by have := h.clock0; simp [RK.toLast, RK.setLeft, RK.ticked]; omega, by have := h.clock1; simp [RK.toLast, RK.setLeft, RK.ticked]; omega, by have := h.last0; simp [RK.toLast, RK.setLeft, RK.ticked]; omega, by have := h.last1; simp [RK.toLast, RK.setLeft, RK.ticked]; omega, h.bq, h.bl, h.rq, h.rl, fun i p hp => by have := h.oq i p hp; simpa [RK.toLast, RK.setLeft, RK.ticked] using this, h.ol, modify_home (modify_home h.hm t (fun u => (u.1, u.2.1, u.2.2.1, 3)) (fun _ => rfl)) t (fun u => (u.1, u.2.1, K.last, u.2.2.2)) (fun _ => rfl)⟩
    intro i v hv
    simp only [RK.toLast, RK.setLeft, RK.ticked] at hv
    rw [List.getElem?_modify] at hv
    rcases hx : (K.threads.modify t (fun u => (u.1, u.2.1, u.2.2.1, 3)))[i]? with _ | x
    · rw [hx] at hv; simp at hv
    · have := mleft 3 (by omega) (by omega) i x hx
      rw [hx] at hv
      by_cases e : t = i
      · simp [e] at hv; rw [← hv]; exact this
      · simp [e] at hv; rw [← hv]; exact this
  · simp only [h1, if_neg, not_false_eq_true]
    refine ⟨by simpa [RK.setLeft, RK.ticked] using h.one, by simpa [RK.setLeft, RK.ticked] using h.six, h.sp1, h.sp3, ?_, h.apq, h.apl, by have := h.clock0; simp [RK.setLeft, RK.ticked]; omega, by have := h.clock1; simp [RK.setLeft, RK.ticked]; omega, h.last0, by have := h.last1; simp [RK.setLeft, RK.ticked]; omega, h.bq, h.bl, h.rq, h.rl, fun i p hp => by have := h.oq i p hp; simpa [RK.setLeft, RK.ticked] using this, h.ol, modify_home h.hm t (fun v => (v.1, v.2.1, v.2.2.1, u.2.2.2 - 1)) (fun _ => rfl)⟩
    exact mleft (u.2.2.2 - 1) (by omega) (by omega)

theorem yield_ok {K : RK} {n : Nat} (h : K.Ok n) (t : Nat) : ((K.setLeft t 3).toLast t).Ok (n + 1) := by
  refine ⟨by simpa [RK.toLast, RK.setLeft] using h.one, by simpa [RK.toLast, RK.setLeft] using h.six, h.sp1, h.sp3, ?_, h.apq, h.apl, h.clock0, by have := h.clock1; simp [RK.toLast, RK.setLeft]; omega, by have := h.last0; simp [RK.toLast, RK.setLeft]; omega, by have := h.last1; simp [RK.toLast, RK.setLeft]; omega, h.bq, h.bl, h.rq, h.rl, fun i p hp => by have := h.oq i p hp; simpa [RK.toLast, RK.setLeft] using this, h.ol, modify_home (modify_home h.hm t (fun u => (u.1, u.2.1, u.2.2.1, 3)) (fun _ => rfl)) t (fun u => (u.1, u.2.1, K.last, u.2.2.2)) (fun _ => rfl)⟩
  intro i v hv
  simp only [RK.toLast, RK.setLeft] at hv
  rw [List.getElem?_modify, List.getElem?_modify] at hv
  rcases hx : K.threads[i]? with _ | x
  · rw [hx] at hv; simp at hv
  · rw [hx] at hv
    have := h.left i x hx
    by_cases e : t = i
    · simp [e] at hv; rw [← hv]; simp
    · simp [e] at hv; rw [← hv]; exact this

theorem RK.Ok.frames {K : RK} {n : Nat} (h : K.Ok n) (f : Nat → Int) : ({ K with fr := f } : RK).Ok n :=
  ⟨h.one, h.six, h.sp1, h.sp3, h.left, h.apq, h.apl, h.clock0, h.clock1, h.last0, h.last1, h.bq, h.bl, h.rq, h.rl, h.oq, h.ol, h.hm⟩
theorem RK.Ok.setPasses {K : RK} {n : Nat} (h : K.Ok n) {Q : List (Int × Int × Int × Int)} (ha : Apart Q) (ho : ∀ (i : Nat) p, Q[i]? = some p → okQ K.sp ((K.threads.length : Int) - 1) p) (hl : Q.length ≤ K.passes.length + 1) : ({ K with passes := Q } : RK).Ok n :=
  ⟨h.one, h.six, h.sp1, h.sp3, h.left, ha, h.apl, h.clock0, h.clock1, h.last0, h.last1, pigeon18 h.sp3 ho ha (by have := h.bq; show Q.length ≤ _; omega), h.bl, fun i p hp => by have g := (ho i p hp).2.2.2.2.2.2.1; omega, h.rl, ho, h.ol, h.hm⟩
theorem RK.Ok.setLeaves {K : RK} {n : Nat} (h : K.Ok n) {L : List (Int × Int × Int × Int)} (ha : Apart L) (ho : ∀ (i : Nat) p, L[i]? = some p → okQ K.sp 7 p) (hl : L.length ≤ K.leaves.length + 1) : ({ K with leaves := L } : RK).Ok n :=
  ⟨h.one, h.six, h.sp1, h.sp3, h.left, h.apq, ha, h.clock0, h.clock1, h.last0, h.last1, h.bq, pigeon18 h.sp3 ho ha (by have := h.bl; show L.length ≤ _; omega), h.rq, fun i p hp => by have g := (ho i p hp).2.2.2.2.2.2.1; omega, h.oq, ho, h.hm⟩

theorem stored_ok {K : RK} {n : Nat} (h : K.Ok n) (pg ce v : Int) : (K.stored pg ce v).Ok (n + 1) := by
  unfold RK.stored
  split
  · exact (h.frames _).mono (by omega)
  · exact h.mono (by omega)
theorem drop_ok {K : RK} {n : Nat} (h : K.Ok n) (a : Int) : (K.drop a).2.Ok (n + 1) := by
  unfold RK.drop
  split
  · split
    · exact (h.setPasses (outQ_apart h.apq _ _) (fun i p hp => by obtain ⟨j, hj⟩ := outQ_mem hp; exact h.oq j p hj) (Nat.le_trans (outQ_len _ _ _) (by omega))).mono (by omega)
    · exact h.mono (by omega)
  · exact h.mono (by omega)
theorem unmap_ok {K : RK} {n : Nat} (h : K.Ok n) (a : Int) (own : Bool) : (K.unmap a own).2.Ok (n + 1) := by
  unfold RK.unmap
  split
  · split
    · cases own with
      | true => exact (h.setLeaves (outQ_apart h.apl _ _) (fun i p hp => by obtain ⟨j, hj⟩ := outQ_mem hp; exact h.ol j p hj) (Nat.le_trans (outQ_len _ _ _) (by omega))).mono (by omega)
      | false => exact h.mono (by omega)
    · exact h.mono (by omega)
  · exact h.mono (by omega)
theorem derive_ok {K : RK} {n : Nat} (h : K.Ok n) (a b r : Int) : (K.derive a b r).2.Ok (n + 1) := by
  unfold RK.derive
  split
  · rename_i hc
    split
    · rename_i p hp
      split
      · refine (h.setPasses (putQ_apart h.apq _ _ _ _) (fun i q hq => ?_) (putQ_len _ _ _ _ _)).mono (by omega)
        rcases putQ_mem (List.mem_of_getElem? hq) with rfl | hm
        · have hh := home_ok h
          obtain ⟨⟨j, hj⟩, _⟩ := find_mem hp
          have ho := h.oq j p hj
          have i1 := inI_true.1 hc.2.1
          have i2 := inI_true.1 hc.2.2
          exact ⟨hh.1, hh.2, i1.1, i1.2, ho.2.2.2.2.1, ho.2.2.2.2.2.1, i2.1, i2.2⟩
        · obtain ⟨j, hj⟩ := List.getElem?_of_mem hm
          exact h.oq j q hj
      · exact h.mono (by omega)
    · exact h.mono (by omega)
  · exact h.mono (by omega)

/-- What a step leaves. -/
def Stepped (Rep : World → Nat → (Nat → Prop) → RK → Prop) (o : Nat → Nat) (b n m : Nat) (w : World) (w' : World) : Prop :=
  ∃ o' ps lv rows prs, Inv Rep o' b (n + 1) w' ps lv rows prs ∧ m ≤ prs.length ∧ 0 < prs.length ∧ ∀ p, Loc o 0 p w → Loc o' 0 p w'

section
variable {Rep : World → Nat → (Nat → Prop) → RK → Prop} (A : Api Rep) {o : Nat → Nat} {b n : Nat} {w : World} {ps : Value} {lv : Nat → Value} {rows : Nat → List (List Value)} {prs : List Pr}

theorem Loc.belowStay {o o' : Nat → Nat} {p : World → Prop} {w w' : World} (h : Loc o 0 p w) (hb : Below w.heap.size w w') (ho : ∀ k, k < w.heap.size → o' k = o k) : Loc o' 0 p w' :=
  h.kept (Fr.of_below hb (fun _ => False)) (fun _ _ h => h.elim) (fun k hk e => (ho k hk).trans e)

include A in
theorem step_below (h : Inv Rep o b n w ps lv rows prs) (hp : 0 < prs.length) {w' : World} (hb : Below w.heap.size w w') : Stepped Rep o b n prs.length w w' :=
  ⟨o, ps, lv, rows, prs, (h.below A hb (fun _ _ => rfl)).mono (by omega), Nat.le_refl _, hp, fun p hl => hl.belowStay hb (fun _ _ => rfl)⟩

include A in
theorem step_made (h : Inv Rep o b n w ps lv rows prs) (hp : 0 < prs.length) (hn : n ≤ 999999999999) (v : OpV) (hv : v.Ok w) :
    Calls Tryz.prog 6 #[.pointer (some ⟨b, 0, none⟩), .agg v.row.toArray] w fun e w' => e = .returned (.bool true) ∧ Stepped Rep o b n prs.length w w' := by
  by_cases hf : Fits v.sp v.T v.Q v.L
  · have bq := pigeon18 hf.1.2 hf.2.2.2.1 hf.2.2.2.2.1 (by rw [hv.eP]; exact hv.bP)
    have bl := pigeon18 hf.1.2 hf.2.2.2.2.2.1 hf.2.2.2.2.2.2 (by rw [hv.eL]; exact hv.bL)
    refine (made_yes A b v.kd v.ka v.kb v.kcc v.kd2 v.kn v.ky v.m0 v.m2 v.m3 v.m4 v.m5 v.m6 v.aw v.nw v.cw v.sp v.aT v.aP v.aL v.mT v.mP v.mL v.cT v.cP v.cL v.T v.Q v.L w h.lg.now hv.bT hv.bP hv.bL hv.eT hv.eP hv.eL hv.iT hv.iP hv.iL hf bq bl ps (lv 1) (lv 2) (lv 3) (prs.map prRow) h.lb.now h.ls.now (by have := h.nq; simp; omega) (fun e => by have := h.cs b e; have := h.cb; omega)).mono ?_
    rintro e w' ⟨rfl, x, y, S, vt, vp, vl, ps', M⟩
    refine ⟨rfl, _, _, _, _, _, h.push A M (new_ok hf bq bl _), by simp, by simp, fun p hl => hl.kept M.fr (fun k _ ht => ?_) (fun k hk e => ?_)⟩
    · rcases ht with rfl | ht
      · rw [h.cb]; omega
      · rw [h.cs k ht]; omega
    · unfold oPush; rw [if_pos hk]; exact e
  · refine (made_no A b v.kd v.ka v.kb v.kcc v.kd2 v.kn v.ky v.m0 v.m2 v.m3 v.m4 v.m5 v.m6 v.aw v.nw v.cw v.sp v.aT v.aP v.aL v.mT v.mP v.mL v.cT v.cP v.cL v.T v.Q v.L w h.lg.now hv.bT hv.bP hv.bL hv.eT hv.eP hv.eL hv.iT hv.iP hv.iL hf).mono ?_
    rintro e w' ⟨rfl, hb⟩
    exact ⟨rfl, step_below A h hp hb⟩

include A in
theorem step_pair (h : Inv Rep o b n w ps lv rows prs) {i : Nat} {p : Pr} (hp : prs[i]? = some p) {K' : RK} (hok : K'.Ok (n + 1)) {w' : World} {S' : Nat → Prop} (hx : Rep w' p.x S' K') (hy : RefAt w' p.y K' p.vt p.vp p.vl) (hf : Fr (fun q => p.S q ∨ RefOwn p.y p.vt p.vp p.vl q) w w') (hs : ∀ q, S' q → p.S q ∨ w.heap.size ≤ q) :
    Stepped Rep o b n prs.length w w' := by
  have hT : ∀ k, k < w.heap.size → (p.S k ∨ RefOwn p.y p.vt p.vp p.vl k) → o k = 8 + 2 * i ∨ o k = 9 + 2 * i := by
    rintro k _ (e | e)
    · exact .inl (h.cx i p hp k e)
    · exact .inr (h.cy i p hp k e)
  have hil := (List.getElem?_eq_some_iff.1 hp).1
  refine ⟨fun k => if k < w.heap.size then o k else 8 + 2 * i, ps, lv, rows, prs.set i ⟨p.x, p.y, S', K', p.vt, p.vp, p.vl⟩, h.pair A (p' := ⟨p.x, p.y, S', K', p.vt, p.vp, p.vl⟩) hp rfl rfl hf hT (fun k hk => if_pos hk) hx (fun k hk => ?_) hy (fun k hk => ?_) hok, by simp, by simp; omega, fun q hl => hl.kept hf (fun k hk ht e => ?_) (fun k hk e => by simp only [if_pos hk]; exact e)⟩
  · rcases hs k hk with e | e
    · have hlt := A.lt (h.lx i p hp).now k e
      simp only [if_pos hlt]
      exact h.cx i p hp k e
    · simp only [if_neg (show ¬ k < w.heap.size by omega)]
  · have hlt := (h.ly i p hp).now.lt hk
    simp only [if_pos hlt]
    exact h.cy i p hp k hk
  · have := hT k hk ht
    omega

include A in
theorem step_pair2 (h : Inv Rep o b n w ps lv rows prs) {i : Nat} {p : Pr} (hp : prs[i]? = some p) {K' : RK} (hok : K'.Ok (n + 1)) {w' : World} {S' : Nat → Prop} {vp' vl' : Value} (hx : Rep w' p.x S' K') (hy : RefAt w' p.y K' p.vt vp' vl') (hf : Fr (fun q => p.S q ∨ RefOwn p.y p.vt p.vp p.vl q) w w') (hs : ∀ q, S' q → p.S q ∨ w.heap.size ≤ q)
    (hr : ∀ q, RefOwn p.y p.vt vp' vl' q → RefOwn p.y p.vt p.vp p.vl q ∨ w.heap.size ≤ q) (hd : ∀ q, S' q → ¬ RefOwn p.y p.vt vp' vl' q) :
    Stepped Rep o b n prs.length w w' := by
  classical
  have hT : ∀ k, k < w.heap.size → (p.S k ∨ RefOwn p.y p.vt p.vp p.vl k) → o k = 8 + 2 * i ∨ o k = 9 + 2 * i := by
    rintro k _ (e | e)
    · exact .inl (h.cx i p hp k e)
    · exact .inr (h.cy i p hp k e)
  have hil := (List.getElem?_eq_some_iff.1 hp).1
  refine ⟨fun k => if k < w.heap.size then o k else if RefOwn p.y p.vt vp' vl' k then 9 + 2 * i else 8 + 2 * i, ps, lv, rows, prs.set i ⟨p.x, p.y, S', K', p.vt, vp', vl'⟩, h.pair A (p' := ⟨p.x, p.y, S', K', p.vt, vp', vl'⟩) hp rfl rfl hf hT (fun k hk => if_pos hk) hx (fun k hk => ?_) hy (fun k hk => ?_) hok, by simp, by simp; omega, fun q hl => hl.kept hf (fun k hk ht e => ?_) (fun k hk e => by simp only [if_pos hk]; exact e)⟩
  · rcases hs k hk with e | e
    · have hlt := A.lt (h.lx i p hp).now k e
      simp only [if_pos hlt]
      exact h.cx i p hp k e
    · simp only [if_neg (show ¬ k < w.heap.size by omega), if_neg (hd k hk)]
  · rcases hr k hk with e | e
    · have hlt := (h.ly i p hp).now.lt e
      simp only [if_pos hlt]
      exact h.cy i p hp k e
    · simp only [if_neg (show ¬ k < w.heap.size by omega)]
      exact if_pos hk
  · have := hT k hk ht
    omega

include A in
theorem step_works (h : Inv Rep o b n w ps lv rows prs) (hn : n ≤ 999999999999) {i : Nat} {p : Pr} (hp : prs[i]? = some p) (v : OpV) (hk : v.kd = 2 ∨ v.kd = 3 ∨ v.kd = 5 ∨ v.kd = 6 ∨ v.kd = 7 ∨ v.kd = 8 ∨ v.kd = 9 ∨ v.kd = 10 ∨ v.kd = 11 ∨ v.kd = 12) :
    Calls Tryz.prog 8 #[.pointer (some ⟨b, 0, none⟩), .agg v.row.toArray, .agg #[.pointer (some ⟨p.x, 0, none⟩), .pointer (some ⟨p.y, 0, none⟩)]] w fun e w' => e = .returned (.bool true) ∧ Stepped Rep o b n prs.length w w' := by
  have hil := (List.getElem?_eq_some_iff.1 hp).1
  have rx := (h.lx i p hp).now
  have ry := (h.ly i p hp).now
  have ok := h.ok i p hp
  have hd : ∀ k, p.S k → ¬ RefOwn p.y p.vt p.vp p.vl k := fun k e1 e2 => by have := h.cx i p hp k e1; have := h.cy i p hp k e2; omega
  obtain ⟨kd, ka, kb, kcc, kd2, kn, ky, m0, m2, m3, m4, m5, m6, aw, nw, cw, sp, aT, aP, aL, mT, mP, mL, cT, cP, cL, T, Q, L⟩ := v
  simp only at hk
  have lr : ∀ (i : Nat) q, p.K.leaves[i]? = some q → 1 ≤ q.2.2.2 ∧ q.2.2.2 ≤ 3 := fun i q hq => ⟨(ok.ol i q hq).2.2.2.2.2.2.1, (ok.ol i q hq).2.2.2.2.2.2.2⟩
  have lf : ∀ (i : Nat) q, p.K.leaves[i]? = some q → 0 ≤ q.2.2.1 ∧ q.2.2.1 ≤ 7 := fun i q hq => ⟨(ok.ol i q hq).2.2.2.2.1, (ok.ol i q hq).2.2.2.2.2.1⟩
  have qr : ∀ (i : Nat) q, p.K.passes[i]? = some q → 1 ≤ q.2.2.2 ∧ q.2.2.2 ≤ 3 := fun i q hq => ⟨(ok.oq i q hq).2.2.2.2.2.2.1, (ok.oq i q hq).2.2.2.2.2.2.2⟩
  rcases hk with rfl | rfl | rfl | rfl | rfl | rfl | rfl | rfl | rfl | rfl
  · refine (works_current A b ka kb kcc kd2 kn ky m0 m2 m3 m4 m5 m6 aw nw cw sp aT aP aL mT mP mL cT cP cL p.x p.y p.S p.K p.vt p.vp p.vl n w rx ry ok (by omega)).mono ?_
    rintro e w' ⟨rfl, hb⟩
    exact ⟨rfl, step_below A h (by omega) hb⟩
  · refine (works_tick A b ka kb kcc kd2 kn ky m0 m2 m3 m4 m5 m6 aw nw cw sp aT aP aL mT mP mL cT cP cL p.x p.y p.S p.K p.vt p.vp p.vl n w rx ry ok (by omega) hd).mono ?_
    rintro e w' ⟨rfl, S', hx, hy, hf, hs⟩
    exact ⟨rfl, step_pair A h hp (tick_ok ok) hx hy hf hs⟩
  · refine (works_yield A b ka kb kcc kd2 kn ky m0 m2 m3 m4 m5 m6 aw nw cw sp aT aP aL mT mP mL cT cP cL p.x p.y p.S p.K p.vt p.vp p.vl n w rx ry ok (by omega) hd).mono ?_
    rintro e w' ⟨rfl, S', hx, hy, hf, hs⟩
    exact ⟨rfl, step_pair A h hp (yield_ok ok _) hx hy hf hs⟩
  · refine (works_load A b ka kb kcc kd2 kn ky m0 m2 m3 m4 m5 m6 aw nw cw sp aT aP aL mT mP mL cT cP cL p.x p.y p.S p.K p.vt p.vp p.vl n w rx ry ok h.lg.now).mono ?_
    rintro e w' ⟨rfl, hb⟩
    exact ⟨rfl, step_below A h (by omega) hb⟩
  · refine (works_store A b ka kb kcc kd2 kn ky m0 m2 m3 m4 m5 m6 aw nw cw sp aT aP aL mT mP mL cT cP cL p.x p.y p.S p.K (p.K.stored kb kcc kn) (p.K.touch kb kcc 2).2 p.vt p.vp p.vl w rx ry hd (fun w1 bw => A.store p.x p.S p.K n kb kcc kn w1 (h.lg.now.below bw) (A.kept rx (Fr.of_below bw (fun _ => False)) (fun _ _ h => h)) ok) (fun w2 ry2 => (refStore_any p.y p.K p.vt p.vp p.vl kb kcc kn w2 ry2 ok.six ok.one ok.bl ok.apl lr lf).mono ?_)).mono ?_
    · rintro e w' ⟨rfl, h1, h2⟩
      exact ⟨rfl, p.vp, p.vl, h1, h2, fun k hk => .inl hk⟩
    rintro e w' ⟨rfl, S', vp', vl', hx, hy, hf, hs, hr, hd'⟩
    exact ⟨rfl, step_pair2 A h hp (stored_ok ok kb kcc kn) hx hy hf hs hr hd'⟩
  · refine (works_unmap A b ka kb kcc kd2 kn ky m0 m2 m3 m4 m5 m6 aw nw cw sp aT aP aL mT mP mL cT cP cL p.x p.y p.S p.K (p.K.unmap kb ky).2 (p.K.unmap kb ky).1 p.vt p.vp p.vl w rx ry hd (fun w1 bw => A.unmap p.x p.S p.K n kb ky w1 (h.lg.now.below bw) (A.kept rx (Fr.of_below bw (fun _ => False)) (fun _ _ h => h)) ok) (fun w2 ry2 => (refUnmap_any p.y p.K p.vt p.vp p.vl kb ky w2 ry2 ok.six ok.one ok.bl ok.apl (home_ok ok).1).mono ?_)).mono ?_
    · rintro e w' ⟨vl', rfl, h1, h2, h3⟩
      exact ⟨rfl, p.vp, vl', h1, h2, fun k hk => ownL hk h3⟩
    rintro e w' ⟨rfl, S', vp', vl', hx, hy, hf, hs, hr, hd'⟩
    exact ⟨rfl, step_pair2 A h hp (unmap_ok ok kb ky) hx hy hf hs hr hd'⟩
  · refine (works_derive A b ka kb kcc kd2 kn ky m0 m2 m3 m4 m5 m6 aw nw cw sp aT aP aL mT mP mL cT cP cL p.x p.y p.S p.K (p.K.derive kb kcc kd2).2 (p.K.derive kb kcc kd2).1 p.vt p.vp p.vl w rx ry hd (fun w1 bw => A.derive p.x p.S p.K n kb kcc kd2 w1 (h.lg.now.below bw) (A.kept rx (Fr.of_below bw (fun _ => False)) (fun _ _ h => h)) ok) (fun w2 ry2 => (refDerive_any p.y p.K p.vt p.vp p.vl kb kcc kd2 w2 ry2 ok.six ok.one ok.bq ok.apq qr).mono ?_)).mono ?_
    · rintro e w' ⟨vp', rfl, h1, h2, h3⟩
      exact ⟨rfl, vp', p.vl, h1, h2, fun k hk => ownP hk h3⟩
    rintro e w' ⟨rfl, S', vp', vl', hx, hy, hf, hs, hr, hd'⟩
    exact ⟨rfl, step_pair2 A h hp (derive_ok ok kb kcc kd2) hx hy hf hs hr hd'⟩
  · refine (works_drop A b ka kb kcc kd2 kn ky m0 m2 m3 m4 m5 m6 aw nw cw sp aT aP aL mT mP mL cT cP cL p.x p.y p.S p.K (p.K.drop kb).2 (p.K.drop kb).1 p.vt p.vp p.vl w rx ry hd (fun w1 bw => A.drop p.x p.S p.K n kb w1 (h.lg.now.below bw) (A.kept rx (Fr.of_below bw (fun _ => False)) (fun _ _ h => h)) ok) (fun w2 ry2 => (refDrop_any p.y p.K p.vt p.vp p.vl kb w2 ry2 ok.six ok.one ok.bq ok.apq).mono ?_)).mono ?_
    · rintro e w' ⟨vp', rfl, h1, h2, h3⟩
      exact ⟨rfl, vp', p.vl, h1, h2, fun k hk => ownP hk h3⟩
    rintro e w' ⟨rfl, S', vp', vl', hx, hy, hf, hs, hr, hd'⟩
    exact ⟨rfl, step_pair2 A h hp (drop_ok ok kb) hx hy hf hs hr hd'⟩
  · refine (works_look A b ka kb kcc kd2 kn ky m0 m2 m3 m4 m5 m6 aw nw cw sp aT aP aL mT mP mL cT cP cL p.x p.y p.S p.K p.vt p.vp p.vl n w rx ry ok h.lg.now ps (lv 1) (lv 2) (lv 3) (rows 1) h.lb.now (h.lj 1 (by omega) (by omega)).now (by have := h.nj 1 (by omega) (by omega); omega) (fun e => by have := h.cj 1 (by omega) (by omega) b e; have := h.cb; omega)).mono ?_
    rintro e w' ⟨rfl, x, u, v1, v2, v3, w0, b0, vk, bk⟩
    have h0 := h.below A (o' := fun k => if k < w.heap.size then o k else 6) b0 (fun k hk => if_pos hk)
    have hB := h0.book A (m := n + 1) (by omega) (j := 1) (by omega) (by omega) (by have := h.nj 1 (by omega) (by omega); omega) (cv := 6) (.inl rfl) (fun k e => if_neg (by have := vk k e; omega)) (fun k e => (vk k e).2) bk
    refine ⟨rfl, _, _, _, _, _, hB, Nat.le_refl _, by omega, fun q hl => (hl.belowStay b0 (o' := fun k => if k < w.heap.size then o k else 6) (fun k hk => if_pos hk)).kept bk.fr (fun k hk ht => ?_) (fun k hk e => oBook_old hk e (by omega))⟩
    rcases ht with rfl | ht | ht
    · rw [h0.cb]; omega
    · simp only [if_neg (show ¬ k < w.heap.size by have := vk k ht; omega)]; omega
    · rw [h0.cj 1 (by omega) (by omega) k ht]; omega
  · refine (works_space A b ka kb kcc kd2 kn ky m0 m2 m3 m4 m5 m6 aw nw cw sp aT aP aL mT mP mL cT cP cL p.x p.y p.S p.K p.vt p.vp p.vl n w rx ry ok h.lg.now ps (lv 1) (lv 2) (lv 3) (rows 2) (rows 3) h.lb.now (h.lj 2 (by omega) (by omega)).now (by have := h.nj 2 (by omega) (by omega); omega) (h.lj 3 (by omega) (by omega)).now (by have := h.nj 3 (by omega) (by omega); omega) (fun e => by have := h.cj 2 (by omega) (by omega) b e; have := h.cb; omega) (fun e => by have := h.cj 3 (by omega) (by omega) b e; have := h.cb; omega) (fun k e1 e2 => by have := h.cj 2 (by omega) (by omega) k e1; have := h.cj 3 (by omega) (by omega) k e2; omega)).mono ?_
    rintro e w' ⟨rfl, x, u, w0, b0, vk, ne, wm, pas', v1, v2, v3, lea', u1, u2, u3, bk, bk2⟩
    have ho : ∀ k, k < w.heap.size → (fun k => if k < w.heap.size then o k else if x.ownBlock = some k then 6 else 7) k = o k := fun k hk => if_pos hk
    have h0 := h.below A b0 ho
    have cx6 : ∀ k, x.ownBlock = some k → (fun k => if k < w.heap.size then o k else if x.ownBlock = some k then 6 else 7) k = 6 := fun k e => by
      simp only [if_neg (show ¬ k < w.heap.size by have := vk k (.inl e); omega), if_pos e]
    have cu7 : ∀ k, u.ownBlock = some k → (fun k => if k < w.heap.size then o k else if x.ownBlock = some k then 6 else 7) k = 7 := fun k e => by
      simp only [if_neg (show ¬ k < w.heap.size by have := vk k (.inr e); omega), if_neg (fun e2 => ne k e2 e)]
    have hB := h0.book A (m := n + 1) (by omega) (j := 2) (by omega) (by omega) (by have := h.nj 2 (by omega) (by omega); omega) (cv := 6) (.inl rfl) cx6 (fun k e => (vk k (.inl e)).2) bk
    have cu7' : ∀ k, u.ownBlock = some k → oBook (fun k => if k < w.heap.size then o k else if x.ownBlock = some k then 6 else 7) w0 6 2 pas' k = 7 := fun k e => oBook_old (vk k (.inr e)).2 (cu7 k e) (by omega)
    have hB2 := hB.book A (m := n + 1) (by omega) (j := 3) (by omega) (by omega) (by have := h.nj 3 (by omega) (by omega); show (rows 3).length + 1 ≤ n + 1; omega) (cv := 7) (.inr rfl) cu7' (fun k e => Nat.lt_of_lt_of_le (vk k (.inr e)).2 bk.fr.size) bk2
    refine ⟨rfl, _, _, _, _, _, hB2, Nat.le_refl _, by omega, fun q hl => ((hl.belowStay b0 ho).kept bk.fr (fun k hk ht => ?_) (fun k hk e => oBook_old hk e (by omega))).kept bk2.fr (fun k hk ht => ?_) (fun k hk e => oBook_old hk e (by omega))⟩
    · rcases ht with rfl | ht | ht
      · rw [h0.cb]; omega
      · intro e; have := (cx6 k ht).symm.trans e; omega
      · rw [h0.cj 2 (by omega) (by omega) k ht]; omega
    · rcases ht with rfl | ht | ht
      · rw [hB.cb]; omega
      · rw [cu7' k ht]; omega
      · rw [hB.cj 3 (by omega) (by omega) k ht]; omega
end
end Go.Proofs.YtgiiegppaleldaaGreatDoor
