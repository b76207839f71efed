import Derived.Test.YtgiiegppaleldaaGreatDoorHA
import Derived.Test.YtgiiegppaleldaaGreatDoorW
/- What the statement's side asks of the program, over whatever representation: to be proved of the code at a commit. -/
namespace Go.Proofs.YtgiiegppaleldaaGreatDoor
open Go.RowKit

/-- What holds of every state that a script without messages comes to; n: how many steps were played. -/
structure RK.Ok (K : RK) (n : Nat) : Prop where
  one : 0 < K.threads.length
  six : K.threads.length ≤ 6
  sp1 : 1 ≤ K.sp
  sp3 : K.sp ≤ 3
  left : ∀ (i : Nat) u, K.threads[i]? = some u → 1 ≤ u.2.2.2 ∧ u.2.2.2 ≤ 3
  apq : Apart K.passes
  apl : Apart K.leaves
  clock0 : 0 ≤ K.clock
  clock1 : K.clock ≤ n
  last0 : 0 ≤ K.last
  last1 : K.last ≤ n + 6
  bq : K.passes.length ≤ 1000000000000
  bl : K.leaves.length ≤ 1000000000000
  rq : ∀ (i : Nat) p, K.passes[i]? = some p → p.2.2.2 ≠ 0
  rl : ∀ (i : Nat) p, K.leaves[i]? = some p → p.2.2.2 ≠ 0
  oq : ∀ (i : Nat) p, K.passes[i]? = some p → okQ K.sp ((K.threads.length : Int) - 1) p
  ol : ∀ (i : Nat) p, K.leaves[i]? = some p → okQ K.sp 7 p
  hm : ∀ (i : Nat) u, K.threads[i]? = some u → 0 ≤ u.1 ∧ u.1 ≤ K.sp - 1

theorem new_ok {sp : Int} {T : List (Int × Int)} {Q L : List (Int × Int × Int × Int)} (h : Fits sp T Q L) (bq : Q.length ≤ 1000000000000) (bl : L.length ≤ 1000000000000) (n : Nat) : (RK.new sp T Q L).Ok n := by
  obtain ⟨⟨s1, s2⟩, ⟨t1, t2⟩, ot, oq, aq, ol, al⟩ := h
  refine ⟨by simp [RK.new, born_length]; omega, by simp [RK.new, born_length]; omega, s1, s2, ?_, aq, al, by simp [RK.new], by simp [RK.new], by simp [RK.new], by simp [RK.new]; omega, bq, bl, fun i p hp => by have h := (oq i p hp).2.2.2.2.2.2.1; omega, fun i p hp => by have h := (ol i p hp).2.2.2.2.2.2.1; omega, fun i p hp => by have h := oq i p hp; simp only [RK.new, born_length]; exact h, ol, ?_⟩
  rotate_left
  · have hb : ∀ (T : List (Int × Int)) (i0 i : Nat) u, (born i0 T)[i]? = some u → ∃ p, T[i]? = some p ∧ u.1 = p.1 := by
      intro T
      induction T with
      | nil => intro i0 i u h; simp [born] at h
      | cons p r ih =>
        intro i0 i u h
        cases i with
        | zero => simp [born] at h; exact ⟨p, rfl, by rw [← h]⟩
        | succ i => simp [born] at h; obtain ⟨q, h1, h2⟩ := ih _ _ _ h; exact ⟨q, by simpa using h1, h2⟩
    intro i u hu
    obtain ⟨p, h1, h2⟩ := hb T 0 i u hu
    have := ot i p h1
    rw [h2]
    exact ⟨this.1, this.2.1⟩
  have hb : ∀ (T : List (Int × Int)) (i0 i : Nat) u, (born i0 T)[i]? = some u → u.2.2.2 = 3 := by
    intro T
    induction T with
    | nil => intro i0 i u h; simp [born] at h
    | cons p r ih =>
      intro i0 i u h
      cases i with
      | zero => simp [born] at h; rw [← h]
      | succ i => simp [born] at h; exact ih _ _ _ h
  intro i u hu
  have := hb T 0 i u hu
  omega

/-- The program's calls, held against the document's kernel K, over a representation Rep: S holds the blocks that are its own. -/
structure Api (Rep : World → Nat → (Nat → Prop) → RK → Prop) : Prop where
  kept : ∀ {w w' : World} {x : Nat} {S T : Nat → Prop} {K : RK}, Rep w x S K → Fr T w w' → (∀ b, S b → ¬ T b) → Rep w' x S K
  lt : ∀ {w : World} {x : Nat} {S : Nat → Prop} {K : RK}, Rep w x S K → ∀ b, S b → b < w.heap.size
  new_no : ∀ (sp : Int) (vT vP vL : Value) (T : List (Int × Int)) (Q L : List (Int × Int × Int × Int)) (w : World), Gl w → Inl w 2 vT (T.map tRow) → Inl w 4 vP (Q.map qRow) → Inl w 4 vL (L.map qRow) → ¬ Fits sp T Q L →
    Calls Tryz.prog 12 #[.agg #[.int .i64 sp, vT, vP, vL]] w fun e w' => e = .returned (.tuple #[.pointer none, .int .i64 1]) ∧ Below w.heap.size w w'
  new_yes : ∀ (sp : Int) (vT vP vL : Value) (T : List (Int × Int)) (Q L : List (Int × Int × Int × Int)) (w : World), Inl w 2 vT (T.map tRow) → Inl w 4 vP (Q.map qRow) → Inl w 4 vL (L.map qRow) → Fits sp T Q L →
    Calls Tryz.prog 12 #[.agg #[.int .i64 sp, vT, vP, vL]] w fun e w' => ∃ x S, e = .returned (.tuple #[.pointer (some ⟨x, 0, none⟩), .int .i64 0]) ∧ Rep w' x S (RK.new sp T Q L) ∧ Below w.heap.size w w' ∧ ∀ b, S b → w.heap.size ≤ b
  current : ∀ (x : Nat) (S : Nat → Prop) (K : RK) (n : Nat) (w : World), Rep w x S K → K.Ok n →
    Calls Tryz.prog 15 #[.pointer (some ⟨x, 0, none⟩)] w fun e w' => e = .returned (.int .i64 (curTo K.threads K.threads.length)) ∧ Below w.heap.size w w'
  tick : ∀ (x : Nat) (S : Nat → Prop) (K : RK) (n : Nat) (w : World), Rep w x S K → K.Ok n → n ≤ 1000000000000000 →
    Calls Tryz.prog 17 #[.pointer (some ⟨x, 0, none⟩)] w fun e w' => e = .returned (.tuple #[]) ∧ (∃ S', Rep w' x S' K.tick ∧ ∀ b, S' b → S b ∨ w.heap.size ≤ b) ∧ Fr S w w'
  yield : ∀ (x : Nat) (S : Nat → Prop) (K : RK) (n : Nat) (w : World), Rep w x S K → K.Ok n → n ≤ 1000000000000000 →
    Calls Tryz.prog 23 #[.pointer (some ⟨x, 0, none⟩)] w fun e w' => e = .returned (.int .i64 0) ∧ (∃ S', Rep w' x S' ((K.setLeft (curTo K.threads K.threads.length).toNat 3).toLast (curTo K.threads K.threads.length).toNat) ∧ ∀ b, S' b → S b ∨ w.heap.size ≤ b) ∧ Fr S w w'
  look_no : ∀ (x : Nat) (S : Nat → Prop) (K : RK) (n : Nat) (t : Int) (w : World), Gl w → Rep w x S K → K.Ok n → ¬ (0 ≤ t ∧ t < K.threads.length) →
    Calls Tryz.prog 66 #[.pointer (some ⟨x, 0, none⟩), .int .i64 t] w fun e w' => ∃ v, e = .returned (.tuple #[.agg #[.int .i64 0, .int .i64 0, .int .i64 0, v, .int .i64 0], .int .i64 3]) ∧ Sl w' 2 1 v [] ∧ Below w.heap.size w w' ∧ ∀ b, v.ownBlock = some b → w.heap.size ≤ b
  look_yes : ∀ (x : Nat) (S : Nat → Prop) (K : RK) (n : Nat) (t : Nat) (w : World), Rep w x S K → K.Ok n → t < K.threads.length →
    Calls Tryz.prog 66 #[.pointer (some ⟨x, 0, none⟩), .int .i64 t] w fun e w' => ∃ v, e = .returned (.tuple #[.agg #[.int .i64 1, .int .i64 0, .int .i64 (-1), v, .int .i64 (-1)], .int .i64 0]) ∧ Sl w' 2 1 v [] ∧ Below w.heap.size w w' ∧ ∀ b, v.ownBlock = some b → w.heap.size ≤ b
  space_no : ∀ (x : Nat) (S : Nat → Prop) (K : RK) (n : Nat) (t : Int) (w : World), Gl w → Rep w x S K → K.Ok n → ¬ (0 ≤ t ∧ t < K.sp) →
    Calls Tryz.prog 70 #[.pointer (some ⟨x, 0, none⟩), .int .i64 t] w fun e w' => ∃ v u, e = .returned (.tuple #[.agg #[v, u], .int .i64 3]) ∧ Sl w' 67 4 v [] ∧ Sl w' 69 4 u [] ∧ Below w.heap.size w w' ∧ (∀ b, v.ownBlock = some b ∨ u.ownBlock = some b → w.heap.size ≤ b) ∧ ∀ b, v.ownBlock = some b → u.ownBlock ≠ some b
  space_yes : ∀ (x : Nat) (S : Nat → Prop) (K : RK) (n : Nat) (t : Int) (w : World), Rep w x S K → K.Ok n → 0 ≤ t → t < K.sp →
    Calls Tryz.prog 70 #[.pointer (some ⟨x, 0, none⟩), .int .i64 t] w fun e w' => ∃ v u, e = .returned (.tuple #[.agg #[v, u], .int .i64 0]) ∧ Sl w' 67 4 v ((told K.passes t 6).map qRow) ∧ Sl w' 69 4 u ((told K.leaves t 6).map qRow) ∧ Below w.heap.size w w' ∧ (∀ b, v.ownBlock = some b ∨ u.ownBlock = some b → w.heap.size ≤ b) ∧ ∀ b, v.ownBlock = some b → u.ownBlock ≠ some b
  load : ∀ (x : Nat) (S : Nat → Prop) (K : RK) (n : Nat) (pg ce : Int) (w : World), Gl w → Rep w x S K → K.Ok n →
    Calls Tryz.prog 25 #[.pointer (some ⟨x, 0, none⟩), .int .i64 pg, .int .i64 ce] w fun e w' => e = .returned (.tuple #[.int .i64 (K.load pg ce).1, .int .i64 (K.load pg ce).2]) ∧ Below w.heap.size w w'
  store : ∀ (x : Nat) (S : Nat → Prop) (K : RK) (n : Nat) (pg ce v : Int) (w : World), Gl w → Rep w x S K → K.Ok n →
    Calls Tryz.prog 27 #[.pointer (some ⟨x, 0, none⟩), .int .i64 pg, .int .i64 ce, .int .i64 v] w fun e w' => e = .returned (.int .i64 (K.touch pg ce 2).2) ∧ (∃ S', Rep w' x S' (K.stored pg ce v) ∧ ∀ b, S' b → S b ∨ w.heap.size ≤ b) ∧ Fr S w w'
  unmap : ∀ (x : Nat) (S : Nat → Prop) (K : RK) (n : Nat) (pg : Int) (own : Bool) (w : World), Gl w → Rep w x S K → K.Ok n →
    Calls Tryz.prog 29 #[.pointer (some ⟨x, 0, none⟩), .int .i64 pg, .bool own] w fun e w' => e = .returned (.int .i64 (K.unmap pg own).1) ∧ (∃ S', Rep w' x S' (K.unmap pg own).2 ∧ ∀ b, S' b → S b ∨ w.heap.size ≤ b) ∧ Fr S w w'
  derive : ∀ (x : Nat) (S : Nat → Prop) (K : RK) (n : Nat) (a b r : Int) (w : World), Gl w → Rep w x S K → K.Ok n →
    Calls Tryz.prog 31 #[.pointer (some ⟨x, 0, none⟩), .int .i64 a, .int .i64 b, .int .i64 r] w fun e w' => e = .returned (.int .i64 (K.derive a b r).1) ∧ (∃ S', Rep w' x S' (K.derive a b r).2 ∧ ∀ b, S' b → S b ∨ w.heap.size ≤ b) ∧ Fr S w w'
  drop : ∀ (x : Nat) (S : Nat → Prop) (K : RK) (n : Nat) (a : Int) (w : World), Gl w → Rep w x S K → K.Ok n →
    Calls Tryz.prog 33 #[.pointer (some ⟨x, 0, none⟩), .int .i64 a] w fun e w' => e = .returned (.int .i64 (K.drop a).1) ∧ (∃ S', Rep w' x S' (K.drop a).2 ∧ ∀ b, S' b → S b ∨ w.heap.size ≤ b) ∧ Fr S w w'
end Go.Proofs.YtgiiegppaleldaaGreatDoor
