import Derived.WalkKit
import Derived.WalkSpells
import Derived.WalkLawsBesides
import Derived.Deep.MidRow
import Derived.Deep.RegionLaw
import Derived.Deep.RegionLawGrows
/- Worlds, rows and marks: no program is named here. -/
namespace Go.Proofs.YtgiiegppaleldaaGreatDoor
open Go.RowKit

theorem ret_int {k : IntKind} {a b : Int} (h : a = b) : Ending.returned (.int k a) = .returned (.int k b) := by rw [h]
theorem ret_bool {a b : Bool} (h : a = b) : Ending.returned (.bool a) = .returned (.bool b) := by rw [h]

theorem hid {p : Prop} (h : p) : Hid p := h

/-- Outside S the world is as it was. -/
structure Fr (S : Nat → Prop) (w w' : World) : Prop where
  os : w'.os = w.os
  tape : w'.tape = w.tape
  output : w'.output = w.output
  size : w.heap.size ≤ w'.heap.size
  block : ∀ k, k < w.heap.size → ¬ S k → w'.heap[k]? = w.heap[k]?

theorem Fr.refl (S : Nat → Prop) (w : World) : Fr S w w := ⟨rfl, rfl, rfl, Nat.le_refl _, fun _ _ _ => rfl⟩
theorem Fr.trans {S : Nat → Prop} {a b c : World} (h : Fr S a b) (k : Fr S b c) : Fr S a c :=
  ⟨k.os.trans h.os, k.tape.trans h.tape, k.output.trans h.output, Nat.le_trans h.size k.size,
   fun i hi hs => (k.block i (Nat.lt_of_lt_of_le hi h.size) hs).trans (h.block i hi hs)⟩
theorem Fr.mono {S T : Nat → Prop} {w w' : World} (h : Fr S w w') (hST : ∀ k, k < w.heap.size → S k → T k) : Fr T w w' :=
  ⟨h.os, h.tape, h.output, h.size, fun k hk hs => h.block k hk (fun hS => hs (hST k hk hS))⟩
theorem Fr.of_below {w w' : World} (h : Below w.heap.size w w') (S : Nat → Prop) : Fr S w w' := ⟨h.os, h.tape, h.output, h.size, fun k hk _ => h.block k hk⟩
theorem Fr.below {B : Nat} {w w' : World} (h : Below B w w') : Fr (fun k => B ≤ k) w w' := ⟨h.os, h.tape, h.output, h.size, fun k _ hs => h.block k (by omega)⟩
theorem Fr.to_below {S : Nat → Prop} {B : Nat} {w w' : World} (h : Fr S w w') (hB : B ≤ w.heap.size) (hS : ∀ k, S k → B ≤ k) : Below B w w' :=
  ⟨h.os, h.tape, h.output, h.size, fun k hk => h.block k (by omega) (fun hs => by have := hS k hs; omega)⟩
theorem Fr.grown {w w' : World} {row : Option Nat} (hg : w.grownBy w' row) : Fr (fun k => row = some k) w w' :=
  ⟨hg.os, hg.tape, hg.output, hg.size, fun k hk hs => hg.block k hk (fun e => hs e.symm)⟩
theorem Fr.alloc {S : Nat → Prop} {a w : World} (h : Fr S a w) (o : Obj) : Fr S a (w.alloc o) :=
  h.trans ⟨rfl, rfl, rfl, by simp, fun k hk _ => Below.heap_alloc _ _ _ hk⟩
theorem Fr.drew {S : Nat → Prop} {a w : World} (h : Fr S a w) : Fr S a w.drew := ⟨h.os, h.tape, h.output, h.size, h.block⟩
theorem Fr.setCell {S : Nat → Prop} {a w : World} (h : Fr S a w) {p : Addr} (hp : p.block < a.heap.size → S p.block) (u : Value) : Fr S a (w.setCell p u) :=
  ⟨h.os, h.tape, h.output, by simpa [World.setCell] using h.size, fun k hk hs => by
    rw [Below.heap_setCell _ _ _ _ (fun e => hs (by rw [e]; exact hp (by omega)))]; exact h.block k hk hs⟩
theorem Fr.cell {S : Nat → Prop} {w w' : World} (h : Fr S w w') {p : Addr} (hp : p.block < w.heap.size) (hs : ¬ S p.block) : w'.cell? p = w.cell? p := World.cell?_of_block (w := w) (h.block p.block hp hs)

/-- n times the cells P. -/
def rep (n : Nat) (P : List Value) : List Value := (List.replicate n P).flatten
theorem rep_zero (P : List Value) : rep 0 P = [] := rfl
theorem rep_add (n m : Nat) (P : List Value) : rep (n + m) P = rep n P ++ rep m P := by simp [rep, ← List.replicate_append_replicate]
theorem length_rep (n : Nat) (P : List Value) : (rep n P).length = n * P.length := by
  induction n with
  | zero => simp [rep]
  | succ n ih => rw [rep_add, List.length_append, ih, Nat.succ_mul]; simp [rep]
theorem take_rep (n k : Nat) (P : List Value) (h : k ≤ n) : (rep n P).take (k * P.length) = rep k P := by
  obtain ⟨d, rfl⟩ := Nat.exists_eq_add_of_le h
  rw [rep_add, ← length_rep k P]; exact List.take_left
theorem rep_get (n : Nat) (P : List Value) (k j : Nat) (hk : k < n) (hj : j < P.length) : (rep n P)[k * P.length + j]? = P[j]? := by
  induction n generalizing k with
  | zero => omega
  | succ n ih =>
    rw [Nat.add_comm n 1, rep_add]
    have e : rep 1 P = P := by simp [rep]
    rw [e]
    rcases k with _ | k
    · simp only [Nat.zero_mul, Nat.zero_add]; exact List.getElem?_append_left hj
    · rw [List.getElem?_append_right (by rw [Nat.succ_mul]; omega)]
      rw [show (k + 1) * P.length + j - P.length = k * P.length + j by rw [Nat.succ_mul]; omega]
      exact ih k (by omega)

theorem owns_slice {w : World} {base : Nat} {e : TypeId} {size : Nat} {v : Value} {n : Nat} {xs : List Value} (h : w.ownsRow base e size v n xs) : ∃ a c, v = .slice a n c := by
  rcases h.2 with ⟨rfl, rfl⟩ | ⟨g, cap, cur, rfl, _⟩
  · exact ⟨_, _, rfl⟩
  · exact ⟨_, _, rfl⟩

/-- A slice all of whose elements are P. -/
def Marked (w : World) (e : TypeId) (P : List Value) (v : Value) : Prop := ∃ n, w.ownsRow 0 e P.length v n (rep n P)

theorem Marked.kept {w w' : World} {e : TypeId} {P : List Value} {v : Value} (h : Marked w e P v) {S : Nat → Prop} (hf : Fr S w w') (hs : ∀ k, v.ownBlock = some k → ¬ S k) : Marked w' e P v := by
  obtain ⟨n, h1, h2⟩ := h
  refine ⟨n, h1, ?_⟩
  rcases h2 with h2 | ⟨g, cap, cur, rfl, hb, hg, r⟩
  · exact .inl h2
  · exact .inr ⟨g, cap, cur, rfl, hb, by rw [hf.block g (Array.getElem?_eq_some_iff.1 hg).1 (hs g rfl)]; exact hg, r⟩

theorem splice_marks (n m k : Nat) (P L : List Value) (hk : k * P.length ≤ L.length) (hl : L.take (k * P.length) = rep k P) (hn : L.take (n * P.length) = rep n P) (_hnm : (n + m) * P.length ≤ L.length) :
    (L.take (n * P.length) ++ rep m P ++ L.drop (n * P.length + (rep m P).length)).take (k * P.length) = rep k P := by
  rw [length_rep, hn]
  by_cases h1 : k ≤ n
  · rw [List.append_assoc, List.take_append_of_le_length (by rw [length_rep]; exact Nat.mul_le_mul_right _ h1)]
    exact take_rep n k P h1
  · by_cases h2 : k ≤ n + m
    · rw [List.take_append_of_le_length (by rw [List.length_append, length_rep, length_rep, ← Nat.add_mul]; exact Nat.mul_le_mul_right _ h2), ← rep_add]
      exact take_rep _ _ P h2
    · obtain ⟨d, rfl⟩ := Nat.exists_eq_add_of_le (show n + m ≤ k by omega)
      rw [← rep_add, ← Nat.add_mul]
      have e : L.take ((n + m) * P.length) = rep (n + m) P := by
        have := congrArg (List.take ((n + m) * P.length)) hl
        rw [List.take_take, take_rep _ _ P (by omega)] at this
        rwa [Nat.min_eq_left (Nat.mul_le_mul_right _ (by omega))] at this
      rw [← e, List.take_append_drop]
      exact hl

/-- One append of marks, as the law leaves it. -/
def Appended (e : TypeId) (M : List Value) (v : Value) (w : World) (v' : Value) (n' : Nat) (w' : World) : Prop :=
  w'.ownsRow 0 e M.length v' n' (rep n' M) ∧ w.grownBy w' v.ownBlock ∧ (∀ k, v'.ownBlock = some k → w.heap.size ≤ k ∨ v.ownBlock = some k) ∧
      (∀ u k, w.ownsRow 0 e M.length u k (rep k M) → w'.ownsRow 0 e M.length u k (rep k M))


section
variable {P : Program} (w : World)

theorem run_append_marks (t ty e : TypeId) (i : TypeInfo) (z : Value) (M : List Value) (bytes : Nat) (ht : P.underlying t = some (.slice e)) (hi : P.info? e = some i) (hz : i.zero = some z)
    (hsize : i.size = M.length) (hby : i.bytes = bytes) (hzs : z.cells.size = M.length) (hsz : 0 < M.length)
    (v : Value) (n : Nat) (hown : w.ownsRow 0 e M.length v n (rep n M))
    (a : Addr) (m c : Nat) (hm : 0 < m) (hnews : ∀ j u, (rep m M)[j]? = some u → w.cell? (a.add j) = some u) (h1 : ∀ u ∈ M, u.oneCell' = true)
    (h63 : n + m ≤ maxLen) (hbytes : (n + m) * bytes ≤ 140737488355328) :
    ∃ v' w', (Builtin.append_ #[t, t] ty #[v, .slice (some a) m c]).run P w = .ok v' w' ∧ w'.ownsRow 0 e M.length v' (n + m) (rep (n + m) M) ∧ w.grownBy w' v.ownBlock ∧
      (∀ k, v'.ownBlock = some k → w.heap.size ≤ k ∨ v.ownBlock = some k) ∧ (∀ u k, w.ownsRow 0 e M.length u k (rep k M) → w'.ownsRow 0 e M.length u k (rep k M)) := by
  subst hby
  have hl : (rep m M).length = m * i.size := by rw [length_rep, hsize]
  have h1' : ∀ u ∈ rep m M, u.oneCell' = true := by
    intro u hu
    simp only [rep, List.mem_flatten, List.mem_replicate] at hu
    obtain ⟨l, ⟨_, rfl⟩, hu⟩ := hu
    exact h1 u hu
  have hold : ∀ (o : Obj) (u : Value) (k : Nat), w.ownsRow 0 e M.length u k (rep k M) → (w.drew.alloc o).ownsRow 0 e M.length u k (rep k M) := by
    intro o u k h
    exact World.ownsRow.kept (row := none) h ⟨rfl, rfl, rfl, by simp, fun k hk _ => Below.heap_alloc w.drew _ k hk⟩ (by cases hv : u.ownBlock <;> simp)
  obtain ⟨v', w', hr, hO, hG, _⟩ := run_append_own (P := P) w 0 t ty e i z M.length i.bytes ht hi hz hsize rfl hzs hsz v n (rep n M) hown a m c (rep m M) (by rw [length_rep]) hnews h1' h63 hbytes (Nat.zero_le _)
  rw [← rep_add] at hO
  refine ⟨v', w', hr, hO, hG, ?_⟩
  rcases hown.2 with ⟨rfl, rfl⟩ | ⟨g, cap, cur, rfl, hbg, hg, hnc, hcm, hcs, htake⟩
  · have hr2 := run_append_nil (P := P) w t ty e i z ht hi hz a m c (rep m M) hl hnews hm (by simp only [maxLen] at h63; omega) (by simp only [Nat.zero_add] at hbytes; omega)
    rw [hr2] at hr
    simp only [Result.ok.injEq] at hr
    obtain ⟨rfl, rfl⟩ := hr
    refine ⟨fun k hk => by simp [Value.ownBlock] at hk; left; omega, hold _⟩
  · by_cases hroom : n + m ≤ cap
    · have hfit : n * i.size + (rep m M).length ≤ cur.size := by rw [length_rep, hcs, hsize, ← Nat.add_mul]; exact Nat.mul_le_mul_right _ hroom
      have hr2 := run_append_room (P := P) w t ty e i ht hi g n cap cur hg a m c (rep m M) hl hnews h1' hroom hfit
      rw [hr2] at hr
      simp only [Result.ok.injEq] at hr
      obtain ⟨rfl, rfl⟩ := hr
      refine ⟨fun k hk => by simp [Value.ownBlock] at hk ⊢; right; omega, ?_⟩
      intro u k hu
      refine ⟨hu.1, ?_⟩
      rcases hu.2 with h | ⟨g2, cap2, cur2, rfl, _, hg2, hk2, hc2, hs2, ht2⟩
      · exact .inl h
      · by_cases hgg : g2 = g
        · subst hgg
          have ec : cur2 = cur := by rw [hg] at hg2; simpa using hg2.symm
          subst ec
          refine .inr ⟨g2, cap2, _, rfl, Nat.zero_le _, setRow_heap w g2 cur2 _ e _ hg, hk2, hc2, ?_, ?_⟩
          · simp only [List.size_toArray, List.length_append, List.length_take, List.length_drop, Array.length_toList]
            rw [← hs2]; omega
          · have hlen : cur2.toList.length = cap * M.length := by rw [Array.length_toList, hcs]
            have hlen2 : cur2.toList.length = cap2 * M.length := by rw [Array.length_toList, hs2]
            have e2 := splice_marks n m k M cur2.toList (by rw [hlen2]; exact Nat.mul_le_mul_right _ hk2) ht2 htake (by rw [hlen]; exact Nat.mul_le_mul_right _ hroom)
            rw [← hsize] at e2 ⊢
            simpa using e2
        · exact .inr ⟨g2, cap2, cur2, rfl, Nat.zero_le _, by rw [setRow_other w g g2 _ hgg]; exact hg2, hk2, hc2, hs2, ht2⟩
    · have holds : ∀ j u, (rep n M)[j]? = some u → w.cell? ((⟨g, 0, none⟩ : Addr).add j) = some u := hown.cells (g := g) rfl
      have hr2 := run_append_grow (P := P) w t ty e i z ht hi hz ⟨g, 0, none⟩ n cap (rep n M) (by rw [length_rep, hsize]) holds a m c (rep m M) hl hnews (by omega) (by simp only [maxLen] at h63; omega) (growslice_fits (by omega) hbytes)
      rw [hr2] at hr
      simp only [Result.ok.injEq] at hr
      obtain ⟨rfl, rfl⟩ := hr
      refine ⟨fun k hk => by simp [Value.ownBlock] at hk; left; omega, hold _⟩

theorem wpList_append_marks {ops : Array Oper} {rest : List Oper} {o : Oper} {ac : Act} {Q : Exit → Act → World → Prop} (hgd : o.guard = none) (s x : Operand) (t : TypeId)
    (ho : o.op = .call { callee := .builtin .append, args := #[s, x], argTypes := #[t, t] })
    (e : TypeId) (i : TypeInfo) (z : Value) (M : List Value) (bytes : Nat) (ht : P.underlying t = some (.slice e)) (hi : P.info? e = some i) (hz : i.zero = some z)
    (hsize : i.size = M.length) (hby : i.bytes = bytes) (hzs : z.cells.size = M.length) (hsz : 0 < M.length)
    (v : Value) (n : Nat) (hs : ac.eval s = v) (hown : w.ownsRow 0 e M.length v n (rep n M))
    (a : Addr) (m c : Nat) (hx : ac.eval x = .slice (some a) m c) (hm : 0 < m) (hnews : ∀ j u, (rep m M)[j]? = some u → w.cell? (a.add j) = some u) (h1 : ∀ u ∈ M, u.oneCell' = true)
    (h63 : n + m ≤ maxLen) (hbytes : (n + m) * bytes ≤ 140737488355328)
    (h : ∀ a' c' w', Appended e M v w (.slice a' (n + m) c') (n + m) w' → wpList P ops Q rest (ac.put o.dst (.slice a' (n + m) c')) w') : wpList P ops Q (o :: rest) ac w := by
  obtain ⟨v', w', hr, h2, h3, h4, h5⟩ := run_append_marks (P := P) w t o.type e i z M bytes ht hi hz hsize hby hzs hsz v n hown a m c hm hnews h1 h63 hbytes
  obtain ⟨a', c', rfl⟩ := owns_slice h2
  refine wpList_plain hgd fun _ hK => ?_
  unfold Oper.wp execOp
  simp only [ho, resolve, invoke, builtin, Sem.run_bind, Sem.run_pure, Result.andThen_ok, List.map_toArray, List.map_cons, List.map_nil, hs, hx, hr]
  exact hK _ _ (h a' c' w' ⟨h2, h3, h4, h5⟩)
end

def setAt : List Value → Nat → List Value → List Value
  | ys, _, [] => ys
  | ys, o, v :: r => setAt (ys.set o v) (o + 1) r

theorem length_setAt : ∀ (vs : List Value) (ys : List Value) (o : Nat), (setAt ys o vs).length = ys.length
  | [], _, _ => rfl
  | v :: r, ys, o => by rw [setAt, length_setAt r]; simp

theorem setAt_eq : ∀ (vs : List Value) (ys : List Value) (o : Nat), o + vs.length ≤ ys.length → setAt ys o vs = ys.take o ++ vs ++ ys.drop (o + vs.length)
  | [], ys, o, _ => by simp [setAt]
  | v :: r, ys, o, h => by
    simp only [List.length_cons] at h
    rw [setAt, setAt_eq r _ _ (by simp; omega)]
    rw [List.drop_set_of_lt (by omega), List.length_cons]
    have e : (ys.set o v).take (o + 1) = ys.take o ++ [v] := by
      rw [List.take_succ_eq_append_getElem (by simp; omega), List.take_set_of_le (Nat.le_refl _)]
      simp
    rw [e, show o + 1 + r.length = o + (r.length + 1) by omega]
    simp

theorem take_setAt_mark (k : Nat) (M ys : List Value) (h : (k + 1) * M.length ≤ ys.length) (ht : ys.take (k * M.length) = rep k M) :
    (setAt ys (k * M.length) M).take ((k + 1) * M.length) = rep (k + 1) M := by
  rw [Nat.succ_mul] at h ⊢
  rw [setAt_eq _ _ _ h, ht, rep_add]
  have e1 : rep 1 M = M := by simp [rep]
  rw [e1, List.take_append_of_le_length (by simp [length_rep]), List.take_of_length_le (by simp [length_rep])]

theorem setCells_owns {base : Nat} {e : TypeId} {size g n cap : Nat} : ∀ (vs : List Value) (o : Nat) (w : World) (ys : List Value), w.ownsRow base e size (.slice (some ⟨g, 0, none⟩) n cap) n ys →
    (w.setCells g o vs).ownsRow base e size (.slice (some ⟨g, 0, none⟩) n cap) n (setAt ys o vs) ∧ w.grownBy (w.setCells g o vs) (some g)
  | [], _, w, _, h => ⟨h, rfl, rfl, rfl, Nat.le_refl _, fun _ _ _ => rfl⟩
  | v :: r, o, w, ys, h => by
    have h1 := h.stored o v
    have h2 := setCells_owns r (o + 1) _ _ h1.1
    refine ⟨h2.1, ?_⟩
    have a := h1.2
    have b := h2.2
    exact ⟨b.os.trans a.os, b.tape.trans a.tape, b.output.trans a.output, Nat.le_trans a.size b.size, fun k hk hne => (b.block k (Nat.lt_of_lt_of_le hk a.size) hne).trans (a.block k hk hne)⟩

theorem grown_setRow (w : World) (g : Nat) (cs : Array Value) : w.grownBy (w.setRow g cs) (some g) :=
  ⟨rfl, rfl, rfl, by simp, fun k _ hk => setRow_other w g k _ (fun e => hk (by simp [e]))⟩
theorem Fr.setRow {S : Nat → Prop} {a w : World} (h : Fr S a w) {g : Nat} (hp : g < a.heap.size → S g) (cs : Array Value) : Fr S a (w.setRow g cs) :=
  ⟨h.os, h.tape, h.output, by simpa using h.size, fun k hk hs => by
    rw [setRow_other w g k _ (fun e => hs (by rw [e]; exact hp (by omega)))]; exact h.block k hk hs⟩

theorem Appended.block {e : TypeId} {M : List Value} {v : Value} {w : World} {o : Obj} {v' : Value} {n' : Nat} {w' : World} (h : Appended e M v (w.alloc o) v' n' w') {g : Nat} (hg : g < w.heap.size) (hv : v.ownBlock ≠ some g) :
    w'.heap[g]? = w.heap[g]? := by
  rw [h.2.1.block g (by simp; omega) (fun x => hv x.symm), Below.heap_alloc _ _ _ hg]

theorem Appended.size {e : TypeId} {M : List Value} {v : Value} {w : World} {o : Obj} {v' : Value} {n' : Nat} {w' : World} (h : Appended e M v (w.alloc o) v' n' w') : w.heap.size < w'.heap.size := by
  have := h.2.1.size
  simp at this
  omega

theorem Appended.fr {e : TypeId} {M : List Value} {v : Value} {a w : World} {o : Obj} {v' : Value} {n' : Nat} {w' : World} (h : Appended e M v (w.alloc o) v' n' w') (hf : Fr (fun k => v.ownBlock = some k) a w) : Fr (fun k => v.ownBlock = some k) a w' :=
  (hf.alloc o).trans (Fr.grown h.2.1)

theorem marks_end {e : TypeId} {M : List Value} {v v1 v2 v3 : Value} {n n1 n2 n3 : Nat} {w wr w1 w2 w3 : World} {o1 o2 o3 : Obj} (hf : Fr (fun k => v.ownBlock = some k) w wr) (hz : w.heap.size < wr.heap.size)
    (hbz : v.ownBlock ≠ some w.heap.size) (HO : wr.ownsRow 0 e M.length v n (rep n M)) (H1 : Appended e M v (wr.alloc o1) v1 n1 w1) (H2 : Appended e M v (w1.alloc o2) v2 n2 w2) (H3 : Appended e M v (w2.alloc o3) v3 n3 w3) (cs : Array Value) :
    Marked (w3.setRow w.heap.size cs) e M v ∧ Marked (w3.setRow w.heap.size cs) e M v1 ∧ Marked (w3.setRow w.heap.size cs) e M v2 ∧ Marked (w3.setRow w.heap.size cs) e M v3 ∧
    Fr (fun k => v.ownBlock = some k) w (w3.setRow w.heap.size cs) ∧ (∀ k, (v1.ownBlock = some k ∨ v2.ownBlock = some k ∨ v3.ownBlock = some k) → w.heap.size ≤ k ∨ v.ownBlock = some k) := by
  have z1 := H1.size
  have z2 := H2.size
  have z3 := H3.size
  have b1 : v1.ownBlock ≠ some w.heap.size := fun h => by
    rcases H1.2.2.1 _ h with h | h
    · simp at h; omega
    · exact hbz h
  have b2 : v2.ownBlock ≠ some w.heap.size := fun h => by
    rcases H2.2.2.1 _ h with h | h
    · simp at h; omega
    · exact hbz h
  have b3 : v3.ownBlock ≠ some w.heap.size := fun h => by
    rcases H3.2.2.1 _ h with h | h
    · simp at h; omega
    · exact hbz h
  have k0 := H3.2.2.2 _ _ ((H2.2.2.2 _ _ ((H1.2.2.2 _ _ (HO.alloc o1)).alloc o2)).alloc o3)
  have k1 := H3.2.2.2 _ _ ((H2.2.2.2 _ _ (H1.1.alloc o2)).alloc o3)
  have k2 := H3.2.2.2 _ _ (H2.1.alloc o3)
  have G := grown_setRow w3 w.heap.size cs
  refine ⟨⟨_, k0.kept G (.inr hbz)⟩, ⟨_, k1.kept G (.inr b1)⟩, ⟨_, k2.kept G (.inr b2)⟩, ⟨_, H3.1.kept G (.inr b3)⟩, (H3.fr (H2.fr (H1.fr hf))).setRow (fun h => absurd h (Nat.lt_irrefl _)) cs, ?_⟩
  intro k hk
  rcases hk with h | h | h
  · rcases H1.2.2.1 _ h with h | h
    · simp at h; left; omega
    · exact .inr h
  · rcases H2.2.2.1 _ h with h | h
    · simp at h; left; omega
    · exact .inr h
  · rcases H3.2.2.1 _ h with h | h
    · simp at h; left; omega
    · exact .inr h

theorem cell_news (w : World) (cs : Array Value) (t : TypeId) : ∀ j u, cs.toList[j]? = some u → (w.alloc (.cells cs t)).cell? ((⟨w.heap.size, 0, none⟩ : Addr).add j) = some u := by
  intro j u hj
  rw [Addr.add_mid, cell_of_row _ _ _ cs t (0, 0) (heap_alloc_new w _)]
  simpa using hj

theorem size_alloc (w : World) (o : Obj) : (w.alloc o).heap.size = w.heap.size + 1 := by simp
theorem cell_news2 (w : World) (A : Obj) (cs : Array Value) (t : TypeId) : ∀ j u, cs.toList[j]? = some u → ((w.alloc A).alloc (.cells cs t)).cell? ((⟨w.heap.size + 1, 0, none⟩ : Addr).add j) = some u := by
  have h := cell_news (w.alloc A) cs t
  rw [size_alloc] at h
  exact h

theorem owns_there {base : Nat} {e : TypeId} {size g n cap : Nat} {w : World} {ys : List Value} (h : w.ownsRow base e size (.slice (some ⟨g, 0, none⟩) n cap) n ys) (o m : Nat) (hm : o + m ≤ n * size) : w.there g o m := fun j hj => by
  refine ⟨?_, h.frozenAt _⟩
  rw [h.cellAt _ (by omega), List.getElem?_eq_getElem (by have := h.1; omega)]
  rfl

end Go.Proofs.YtgiiegppaleldaaGreatDoor
