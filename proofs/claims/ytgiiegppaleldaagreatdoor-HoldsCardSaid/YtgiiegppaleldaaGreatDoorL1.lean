import Derived.Test.YtgiiegppaleldaaGreatDoorL0
/- Slices of structs, row by row: no program is named here. -/
namespace Go.Proofs.YtgiiegppaleldaaGreatDoor
open Go.RowKit

theorem flatten_len {s : Nat} : ∀ (rows : List (List Value)), (∀ r ∈ rows, r.length = s) → rows.flatten.length = rows.length * s
  | [], _ => by simp
  | r :: rs, h => by
    rw [List.flatten_cons, List.length_append, h r (by simp), flatten_len rs (fun x hx => h x (by simp [hx])), List.length_cons, Nat.succ_mul]; omega

theorem flatten_get {s : Nat} : ∀ (rows : List (List Value)) (i j : Nat), (∀ r ∈ rows, r.length = s) → (hi : i < rows.length) → j < s → rows.flatten[i * s + j]? = rows[i][j]?
  | [], i, j, _, hi, _ => by simp at hi
  | r :: rs, 0, j, h, _, hj => by
    have e : r.length = s := h r (by simp)
    rw [List.flatten_cons, List.getElem?_append_left (by omega)]; simp
  | r :: rs, i + 1, j, h, hi, hj => by
    have e : r.length = s := h r (by simp)
    rw [List.flatten_cons, List.getElem?_append_right (by rw [e, Nat.succ_mul]; omega), e, show (i + 1) * s + j - s = i * s + j by rw [Nat.succ_mul]; omega,
      flatten_get rs i j (fun x hx => h x (by simp [hx])) (by simpa using hi) hj]
    simp

theorem flatten_set {s : Nat} : ∀ (rows : List (List Value)) (i j : Nat) (u : Value), (∀ r ∈ rows, r.length = s) → (hi : i < rows.length) → j < s →
    rows.flatten.set (i * s + j) u = (rows.set i (rows[i].set j u)).flatten
  | [], i, j, _, _, hi, _ => by simp at hi
  | r :: rs, 0, j, u, h, _, hj => by
    have e : r.length = s := h r (by simp)
    rw [List.flatten_cons, Nat.zero_mul, Nat.zero_add, List.set_append_left _ _ (by omega)]; simp
  | r :: rs, i + 1, j, u, h, hi, hj => by
    have e : r.length = s := h r (by simp)
    rw [List.flatten_cons, List.set_append_right _ _ (by rw [e, Nat.succ_mul]; omega), e, show (i + 1) * s + j - s = i * s + j by rw [Nat.succ_mul]; omega,
      flatten_set rs i j u (fun x hx => h x (by simp [hx])) (by simpa using hi) hj]
    simp

/-- A slice of its own block (or nil), row by row. -/
structure Sl (w : World) (e : TypeId) (size : Nat) (v : Value) (rows : List (List Value)) : Prop where
  own : w.ownsRow 0 e size v rows.length rows.flatten
  len : ∀ r ∈ rows, r.length = size

theorem Sl.nil (w : World) (e : TypeId) (size : Nat) : Sl w e size (.slice none 0 0) [] := ⟨World.ownsRow_nil w 0 e size, by simp⟩

theorem Sl.slice {w : World} {e : TypeId} {size : Nat} {v : Value} {rows : List (List Value)} (h : Sl w e size v rows) : ∃ a c, v = .slice a rows.length c := owns_slice h.own

theorem Sl.form {w : World} {e : TypeId} {size : Nat} {v : Value} {rows : List (List Value)} (h : Sl w e size v rows) :
    (v = .slice none 0 0 ∧ rows = []) ∨ ∃ g cap, v = .slice (some ⟨g, 0, none⟩) rows.length cap ∧ rows.length ≤ cap ∧ cap ≤ maxLen ∧ g < w.heap.size := by
  rcases h.own.2 with ⟨rfl, hn⟩ | ⟨g, cap, cur, rfl, _, hg, h1, h2, _⟩
  · exact .inl ⟨rfl, List.eq_nil_of_length_eq_zero hn⟩
  · exact .inr ⟨g, cap, rfl, h1, h2, (Array.getElem?_eq_some_iff.1 hg).1⟩

theorem Sl.is_some {w : World} {e : TypeId} {size : Nat} {a : Option Addr} {n c : Nat} {rows : List (List Value)} (h : Sl w e size (.slice a n c) rows) (hp : 0 < n) : ∃ g, a = some ⟨g, 0, none⟩ ∧ n = rows.length := by
  rcases h.form with ⟨h1, h2⟩ | ⟨g, cap, h1, _⟩
  · simp at h1; omega
  · simp at h1; exact ⟨g, h1.1, h1.2.1⟩

theorem Sl.lt {w : World} {e : TypeId} {size : Nat} {v : Value} {rows : List (List Value)} (h : Sl w e size v rows) {k : Nat} (hk : v.ownBlock = some k) : k < w.heap.size := (h.own.lt k hk).2

theorem Sl.kept {w w' : World} {e : TypeId} {size : Nat} {v : Value} {rows : List (List Value)} (h : Sl w e size v rows) {S : Nat → Prop} (hf : Fr S w w') (hs : ∀ k, v.ownBlock = some k → ¬ S k) : Sl w' e size v rows := by
  refine ⟨⟨h.own.1, ?_⟩, h.len⟩
  rcases h.own.2 with h2 | ⟨g, cap, cur, rfl, hb, hg, r⟩
  · exact .inl h2
  · exact .inr ⟨g, cap, cur, rfl, hb, by rw [hf.block g (Array.getElem?_eq_some_iff.1 hg).1 (hs g rfl)]; exact hg, r⟩

theorem Sl.alloc {w : World} {e : TypeId} {size : Nat} {v : Value} {rows : List (List Value)} (h : Sl w e size v rows) (o : Obj) : Sl (w.alloc o) e size v rows := ⟨h.own.alloc o, h.len⟩
theorem owns_fr {w w' : World} {base : Nat} {e : TypeId} {size : Nat} {v : Value} {n : Nat} {xs : List Value} (h : w.ownsRow base e size v n xs) {S : Nat → Prop} (hf : Fr S w w') (hs : ∀ k, v.ownBlock = some k → ¬ S k) : w'.ownsRow base e size v n xs := by
  refine ⟨h.1, ?_⟩
  rcases h.2 with h2 | ⟨g, cap, cur, rfl, hb, hg, r⟩
  · exact .inl h2
  · exact .inr ⟨g, cap, cur, rfl, hb, by rw [hf.block g (Array.getElem?_eq_some_iff.1 hg).1 (hs g rfl)]; exact hg, r⟩
theorem owns_drew {w : World} {base : Nat} {e : TypeId} {size : Nat} {v : Value} {n : Nat} {xs : List Value} (h : w.ownsRow base e size v n xs) : w.drew.ownsRow base e size v n xs := h
theorem Sl.drew {w : World} {e : TypeId} {size : Nat} {v : Value} {rows : List (List Value)} (h : Sl w e size v rows) : Sl w.drew e size v rows := ⟨h.own, h.len⟩
theorem Sl.below {w w' : World} {e : TypeId} {size : Nat} {v : Value} {rows : List (List Value)} (h : Sl w e size v rows) (hb : Below w.heap.size w w') : Sl w' e size v rows := h.kept (Fr.of_below hb (fun _ => False)) (fun _ _ h => h)

section
variable {w : World} {e : TypeId} {size g n cap : Nat} {rows : List (List Value)}

theorem Sl.cell (h : Sl w e size (.slice (some ⟨g, 0, none⟩) n cap) rows) (i j : Nat) (hi : i < rows.length) (hj : j < size) : w.cell? ⟨g, i * size + j, none⟩ = rows[i][j]? := by
  have hn : n = rows.length := by
    rcases h.own.2 with ⟨h1, _⟩ | ⟨g', cap', cur, h1, _⟩
    · simp at h1
    · simp at h1; exact h1.2.1
  subst hn
  rw [h.own.cellAt (i * size + j) (by have := Nat.mul_le_mul_right size (show i + 1 ≤ rows.length from hi); rw [Nat.succ_mul] at this; omega)]
  exact flatten_get rows i j h.len hi hj

theorem Sl.range (h : Sl w e size (.slice (some ⟨g, 0, none⟩) n cap) rows) (i : Nat) (hi : i < rows.length) : w.rangeAt g (i * size) rows[i] := fun j v hv => by
  have hl := h.len rows[i] (List.getElem_mem hi)
  have hj : j < size := by have := (List.getElem?_eq_some_iff.1 hv).1; omega
  rw [h.cell i j hi hj]; exact hv

theorem Sl.fro (h : Sl w e size (.slice (some ⟨g, 0, none⟩) n cap) rows) (j : Nat) : w.frozen? ⟨g, j, none⟩ = false := by
  rcases h.own.2 with ⟨h', _⟩ | ⟨g', cap', cur, h', _, hg, _⟩
  · simp at h'
  · simp only [Value.slice.injEq, Option.some.injEq, Addr.mk.injEq, and_true] at h'
    obtain ⟨rfl, _⟩ := h'
    exact frozen_of_row w g j cur e hg

theorem Sl.n_eq (h : Sl w e size (.slice (some ⟨g, 0, none⟩) n cap) rows) : n = rows.length := by
  rcases h.own.2 with ⟨h1, _⟩ | ⟨g', cap', cur, h1, _⟩
  · simp at h1
  · simp at h1; exact h1.2.1

theorem Sl.set (h : Sl w e size (.slice (some ⟨g, 0, none⟩) n cap) rows) (i j : Nat) (u : Value) (hi : i < rows.length) (hj : j < size) :
    Sl (w.setCell ⟨g, i * size + j, none⟩ u) e size (.slice (some ⟨g, 0, none⟩) n cap) (rows.set i (rows[i].set j u)) := by
  have hn := h.n_eq
  subst hn
  have h1 := (h.own.stored (i * size + j) u).1
  rw [flatten_set rows i j u h.len hi hj] at h1
  refine ⟨by simpa using h1, ?_⟩
  intro r hr
  rcases List.mem_or_eq_of_mem_set hr with hr | rfl
  · exact h.len r hr
  · simp [h.len rows[i] (List.getElem_mem hi)]
end

section
variable {P : Program} (w : World)

/-- What an append leaves: the row, what may have turned, where it lies. -/
structure Grew (e : TypeId) (size : Nat) (v : Value) (w : World) (v' : Value) (rows : List (List Value)) (w' : World) : Prop where
  sl : Sl w' e size v' rows
  by_ : w.grownBy w' v.ownBlock
  at_ : ∀ k, v'.ownBlock = some k → w.heap.size ≤ k ∨ v.ownBlock = some k

theorem Grew.old {e : TypeId} {size : Nat} {v : Value} {w : World} {v' : Value} {rows : List (List Value)} {w' : World} (h : Grew e size v w v' rows w') {g : Nat} (hg : g < w.heap.size) (hv : v.ownBlock ≠ some g) : w'.heap[g]? = w.heap[g]? :=
  h.by_.block g hg (fun x => hv x.symm)
theorem Grew.fr {e : TypeId} {size : Nat} {v : Value} {a w : World} {v' : Value} {rows : List (List Value)} {w' : World} (h : Grew e size v w v' rows w') {S : Nat → Prop} (hf : Fr S a w) (hs : ∀ k, v.ownBlock = some k → k < a.heap.size → S k) : Fr S a w' :=
  ⟨h.by_.os.trans hf.os, h.by_.tape.trans hf.tape, h.by_.output.trans hf.output, Nat.le_trans hf.size h.by_.size, fun k hk hn =>
    (h.by_.block k (Nat.lt_of_lt_of_le hk hf.size) (fun x => hn (hs k x.symm hk))).trans (hf.block k hk hn)⟩

theorem run_append_sl (t ty e : TypeId) (i : TypeInfo) (z : Value) (size bytes : Nat) (ht : P.underlying t = some (.slice e)) (hi : P.info? e = some i) (hz : i.zero = some z)
    (hsize : i.size = size) (hby : i.bytes = bytes) (hzs : z.cells.size = size) (hsz : 0 < size)
    (v : Value) (rows : List (List Value)) (hown : Sl w e size v rows)
    (a : Addr) (m c : Nat) (news : List (List Value)) (hm : news.length = m) (hm0 : 0 < m) (hl : ∀ r ∈ news, r.length = size) (hnews : ∀ j u, news.flatten[j]? = some u → w.cell? (a.add j) = some u) (h1 : ∀ u ∈ news.flatten, u.oneCell' = true)
    (h63 : rows.length + m ≤ maxLen) (hbytes : (rows.length + m) * bytes ≤ 140737488355328) :
    ∃ a' c' w', (Builtin.append_ #[t, t] ty #[v, .slice (some a) m c]).run P w = .ok (.slice a' (rows.length + m) c') w' ∧ Grew e size v w (.slice a' (rows.length + m) c') (rows ++ news) w' := by
  subst hby
  subst hm
  have hfl : news.flatten.length = news.length * size := flatten_len news hl
  obtain ⟨v', w', hr, hO, hG, _⟩ := run_append_own (P := P) w 0 t ty e i z size i.bytes ht hi hz hsize rfl hzs hsz v rows.length rows.flatten hown.own a news.length c news.flatten hfl hnews h1 h63 hbytes (Nat.zero_le _)
  obtain ⟨a', c', rfl⟩ := owns_slice hO
  refine ⟨a', c', w', hr, ⟨⟨by simpa using hO, ?_⟩, hG, ?_⟩⟩
  · intro r hr
    rcases List.mem_append.1 hr with h | h
    · exact hown.len r h
    · exact hl r h
  · rcases hown.own.2 with ⟨rfl, hn0⟩ | ⟨g, cap, cur, rfl, hbg, hg, hnc, hcm, hcs, htake⟩
    · have hr2 := run_append_nil (P := P) w t ty e i z ht hi hz a news.length c news.flatten (by rw [hfl, hsize]) hnews hm0 (by simp only [maxLen] at h63; omega) (by rw [hn0, Nat.zero_add] at hbytes; omega)
      rw [hr2] at hr
      simp only [Result.ok.injEq, Value.slice.injEq] at hr
      obtain ⟨⟨rfl, _⟩, _⟩ := hr
      intro k hk
      simp [Value.ownBlock] at hk; left; omega
    · by_cases hroom : rows.length + news.length ≤ cap
      · have hfit : rows.length * i.size + news.flatten.length ≤ cur.size := by rw [hfl, hcs, hsize, ← Nat.add_mul]; exact Nat.mul_le_mul_right _ hroom
        have hr2 := run_append_room (P := P) w t ty e i ht hi g rows.length cap cur hg a news.length c news.flatten (by rw [hfl, hsize]) hnews h1 hroom hfit
        rw [hr2] at hr
        simp only [Result.ok.injEq, Value.slice.injEq] at hr
        obtain ⟨⟨rfl, _⟩, _⟩ := hr
        intro k hk
        simp [Value.ownBlock] at hk ⊢; right; omega
      · have holds : ∀ j u, rows.flatten[j]? = some u → w.cell? ((⟨g, 0, none⟩ : Addr).add j) = some u := hown.own.cells (g := g) rfl
        have hr2 := run_append_grow (P := P) w t ty e i z ht hi hz ⟨g, 0, none⟩ rows.length cap rows.flatten (by rw [flatten_len rows hown.len, hsize]) holds a news.length c news.flatten (by rw [hfl, hsize]) hnews (by omega) (by simp only [maxLen] at h63; omega) (growslice_fits (by omega) hbytes)
        rw [hr2] at hr
        simp only [Result.ok.injEq, Value.slice.injEq] at hr
        obtain ⟨⟨rfl, _⟩, _⟩ := hr
        intro k hk
        simp [Value.ownBlock] at hk; left; omega

theorem wpList_append_sl {ops : Array Oper} {rest : List Oper} {o : Oper} {ac : Act} {Q : Exit → Act → World → Prop} (hgd : o.guard = none) (s x : Operand) (t : TypeId)
    (ho : o.op = .call { callee := .builtin .append, args := #[s, x], argTypes := #[t, t] })
    (e : TypeId) (i : TypeInfo) (z : Value) (size bytes : Nat) (ht : P.underlying t = some (.slice e)) (hi : P.info? e = some i) (hz : i.zero = some z)
    (hsize : i.size = size) (hby : i.bytes = bytes) (hzs : z.cells.size = size) (hsz : 0 < size)
    (v : Value) (rows : List (List Value)) (hs : ac.eval s = v) (hown : Sl w e size v rows)
    (a : Addr) (m c : Nat) (news : List (List Value)) (hx : ac.eval x = .slice (some a) m c) (hm : news.length = m) (hm0 : 0 < m) (hl : ∀ r ∈ news, r.length = size) (hnews : ∀ j u, news.flatten[j]? = some u → w.cell? (a.add j) = some u) (h1 : ∀ u ∈ news.flatten, u.oneCell' = true)
    (h63 : rows.length + m ≤ maxLen) (hbytes : (rows.length + m) * bytes ≤ 140737488355328)
    (h : ∀ a' c' w', Grew e size v w (.slice a' (rows.length + m) c') (rows ++ news) w' → wpList P ops Q rest (ac.put o.dst (.slice a' (rows.length + m) c')) w') : wpList P ops Q (o :: rest) ac w := by
  obtain ⟨a', c', w', hr, hG⟩ := run_append_sl (P := P) w t o.type e i z size bytes ht hi hz hsize hby hzs hsz v rows hown a m c news hm hm0 hl hnews h1 h63 hbytes
  refine wpList_plain hgd fun _ hK => ?_
  unfold Oper.wp execOp
  simp only [ho, resolve, invoke, builtin, Sem.run_bind, Sem.run_pure, Result.andThen_ok, List.map_toArray, List.map_cons, List.map_nil, hs, hx, hr]
  exact hK _ _ (h a' c' w' hG)

theorem step_append_sl {ops : Array Oper} {o : Oper} {ac : Act} {K : Act → World → Prop} {Q : Exit → Act → World → Prop} {E : Prop} (hgd : o.guard = none) (s x : Operand) (t : TypeId)
    (ho : o.op = .call { callee := .builtin .append, args := #[s, x], argTypes := #[t, t] })
    (e : TypeId) (i : TypeInfo) (z : Value) (size bytes : Nat) (ht : P.underlying t = some (.slice e)) (hi : P.info? e = some i) (hz : i.zero = some z)
    (hsize : i.size = size) (hby : i.bytes = bytes) (hzs : z.cells.size = size) (hsz : 0 < size)
    (v : Value) (rows : List (List Value)) (hs : ac.eval s = v) (hown : Sl w e size v rows)
    (a : Addr) (m c : Nat) (news : List (List Value)) (hx : ac.eval x = .slice (some a) m c) (hm : news.length = m) (hm0 : 0 < m) (hl : ∀ r ∈ news, r.length = size) (hnews : ∀ j u, news.flatten[j]? = some u → w.cell? (a.add j) = some u) (h1 : ∀ u ∈ news.flatten, u.oneCell' = true)
    (h63 : rows.length + m ≤ maxLen) (hbytes : (rows.length + m) * bytes ≤ 140737488355328)
    (h : ∀ a' c' w', Grew e size v w (.slice a' (rows.length + m) c') (rows ++ news) w' → K (ac.put o.dst (.slice a' (rows.length + m) c')) w') :
    if Region.wanted o (yielded ops ac.tmps) = true then Oper.wp P o ac w K Q else E := by
  obtain ⟨a', c', w', hr, hG⟩ := run_append_sl (P := P) w t o.type e i z size bytes ht hi hz hsize hby hzs hsz v rows hown a m c news hm hm0 hl hnews h1 h63 hbytes
  have hw : Region.wanted o (yielded ops ac.tmps) = true := by simp [Region.wanted, hgd]
  rw [if_pos hw]
  unfold Oper.wp
  simp [execOp, ho, resolve, invoke, builtin, hs, hx, hr, Result.andThen]
  exact h a' c' w' hG
end

theorem Marked.lt {w : World} {e : TypeId} {P : List Value} {v : Value} (h : Marked w e P v) {k : Nat} (hk : v.ownBlock = some k) : k < w.heap.size := by
  obtain ⟨n, h⟩ := h
  exact (h.lt k hk).2

/-- A new entry: it lies in a block of its own; its lists bear their marks. -/
structure Entry (st el : TypeId) (M : List Value) (v : Value) (w0 : World) (bx : Nat) (v1 v2 v3 : Value) (mark : Int) (wc : World) : Prop where
  at_ : wc.heap[bx]? = some (.cells #[v, v1, v2, v3, .int .i64 mark] st (0, 0))
  m0 : Marked wc el M v
  m1 : Marked wc el M v1
  m2 : Marked wc el M v2
  m3 : Marked wc el M v3
  fr : Fr (fun k => v.ownBlock = some k) w0 wc
  new : w0.heap.size ≤ bx
  own : ∀ k, (v1.ownBlock = some k ∨ v2.ownBlock = some k ∨ v3.ownBlock = some k) → w0.heap.size ≤ k ∨ v.ownBlock = some k

theorem Entry.cells {st el : TypeId} {M : List Value} {v : Value} {w0 : World} {bx : Nat} {v1 v2 v3 : Value} {mark : Int} {wc : World} (h : Entry st el M v w0 bx v1 v2 v3 mark wc) :
    wc.cell? ⟨bx, 0, none⟩ = some v ∧ wc.cell? ⟨bx, 1, none⟩ = some v1 ∧ wc.cell? ⟨bx, 2, none⟩ = some v2 ∧ wc.cell? ⟨bx, 3, none⟩ = some v3 ∧ wc.cell? ⟨bx, 4, none⟩ = some (.int .i64 mark) :=
  ⟨(cell_of_row wc bx 0 _ _ _ h.at_).trans rfl, (cell_of_row wc bx 1 _ _ _ h.at_).trans rfl, (cell_of_row wc bx 2 _ _ _ h.at_).trans rfl, (cell_of_row wc bx 3 _ _ _ h.at_).trans rfl, (cell_of_row wc bx 4 _ _ _ h.at_).trans rfl⟩

theorem entry_after {st el : TypeId} {M : List Value} {v : Value} {w0 : World} {v1 v2 v3 : Value} {mark : Int} {w1 : World} (M0 : Marked w1 el M v) (M1 : Marked w1 el M v1) (M2 : Marked w1 el M v2) (M3 : Marked w1 el M v3)
    (F1 : Fr (fun k => v.ownBlock = some k) w0.drew w1) (N1 : ∀ k, (v1.ownBlock = some k ∨ v2.ownBlock = some k ∨ v3.ownBlock = some k) → w0.drew.heap.size ≤ k ∨ v.ownBlock = some k) :
    Entry st el M v w0 w1.heap.size v1 v2 v3 mark (w1.alloc (.cells #[v, v1, v2, v3, .int .i64 mark] st)) := by
  have K := (Fr.refl (fun _ => False) w1).alloc (.cells #[v, v1, v2, v3, .int .i64 mark] st)
  exact ⟨heap_alloc_new _ _, M0.kept K (fun _ _ h => h), M1.kept K (fun _ _ h => h), M2.kept K (fun _ _ h => h), M3.kept K (fun _ _ h => h), Fr.alloc (a := w0) ⟨F1.os, F1.tape, F1.output, F1.size, F1.block⟩ _, F1.size, N1⟩

theorem set5 {w : World} {g : Nat} {a0 a1 a2 a3 a4 b0 b1 b2 b3 b4 : Value} {t : TypeId} (h : w.heap[g]? = some (.cells #[a0, a1, a2, a3, a4] t (0, 0))) :
    (((((w.setCell ⟨g, 0, none⟩ b0).setCell ⟨g, 1, none⟩ b1).setCell ⟨g, 2, none⟩ b2).setCell ⟨g, 3, none⟩ b3).setCell ⟨g, 4, none⟩ b4).heap[g]? = some (.cells #[b0, b1, b2, b3, b4] t (0, 0)) := by
  have h0 := heap_setCell_same w g 0 _ t b0 h
  have h1 := heap_setCell_same _ g 1 _ t b1 h0
  have h2 := heap_setCell_same _ g 2 _ t b2 h1
  have h3 := heap_setCell_same _ g 3 _ t b3 h2
  have h4 := heap_setCell_same _ g 4 _ t b4 h3
  exact h4

theorem cells5 {w : World} {g : Nat} {a0 a1 a2 a3 a4 : Value} {t : TypeId} (h : w.heap[g]? = some (.cells #[a0, a1, a2, a3, a4] t (0, 0))) :
    (w.cell? ⟨g, 0, none⟩ = some a0 ∧ w.cell? ⟨g, 1, none⟩ = some a1 ∧ w.cell? ⟨g, 2, none⟩ = some a2 ∧ w.cell? ⟨g, 3, none⟩ = some a3 ∧ w.cell? ⟨g, 4, none⟩ = some a4) ∧ (∀ j, w.frozen? ⟨g, j, none⟩ = false) :=
  ⟨⟨(cell_of_row w g 0 _ _ _ h).trans rfl, (cell_of_row w g 1 _ _ _ h).trans rfl, (cell_of_row w g 2 _ _ _ h).trans rfl, (cell_of_row w g 3 _ _ _ h).trans rfl, (cell_of_row w g 4 _ _ _ h).trans rfl⟩, fun j => frozen_of_row w g j _ _ h⟩

theorem entry_zero {v : Value} {w0 w1 : World} {Z : Obj} (F1 : Fr (fun k => v.ownBlock = some k) (w0.alloc Z).drew w1) (hv : ∀ k, v.ownBlock = some k → k < w0.heap.size) : w1.heap[w0.heap.size]? = some Z := by
  rw [F1.block w0.heap.size (by simp) (fun h => by have := hv _ h; omega)]
  exact heap_alloc_new w0 Z

theorem entry_before {st el : TypeId} {M : List Value} {v : Value} {w0 : World} {v1 v2 v3 : Value} {mark : Int} {w1 : World} {a0 a1 a2 a3 a4 : Value} (hv : ∀ k, v.ownBlock = some k → k < w0.heap.size) (M0 : Marked w1 el M v) (M1 : Marked w1 el M v1) (M2 : Marked w1 el M v2) (M3 : Marked w1 el M v3)
    (F1 : Fr (fun k => v.ownBlock = some k) (w0.alloc (.cells #[a0, a1, a2, a3, a4] st)).drew w1) (N1 : ∀ k, (v1.ownBlock = some k ∨ v2.ownBlock = some k ∨ v3.ownBlock = some k) → (w0.alloc (.cells #[a0, a1, a2, a3, a4] st)).drew.heap.size ≤ k ∨ v.ownBlock = some k) :
    Entry st el M v w0 w0.heap.size v1 v2 v3 mark (((((w1.setCell ⟨w0.heap.size, 0, none⟩ v).setCell ⟨w0.heap.size, 1, none⟩ v1).setCell ⟨w0.heap.size, 2, none⟩ v2).setCell ⟨w0.heap.size, 3, none⟩ v3).setCell ⟨w0.heap.size, 4, none⟩ (.int .i64 mark)) := by
  have K : Fr (fun k => k = w0.heap.size) w1 (((((w1.setCell ⟨w0.heap.size, 0, none⟩ v).setCell ⟨w0.heap.size, 1, none⟩ v1).setCell ⟨w0.heap.size, 2, none⟩ v2).setCell ⟨w0.heap.size, 3, none⟩ v3).setCell ⟨w0.heap.size, 4, none⟩ (.int .i64 mark)) :=
    (((((Fr.refl (fun k => k = w0.heap.size) w1).setCell (fun _ => rfl) _).setCell (fun _ => rfl) _).setCell (fun _ => rfl) _).setCell (fun _ => rfl) _).setCell (fun _ => rfl) _
  have N2 : ∀ k, (v1.ownBlock = some k ∨ v2.ownBlock = some k ∨ v3.ownBlock = some k) → ¬ k = w0.heap.size := fun k hk h => by
    rcases N1 k hk with h1 | h1
    · have : w0.heap.size + 1 ≤ k := by simpa using h1
      omega
    · have := hv k h1; omega
  refine ⟨set5 (entry_zero F1 hv), M0.kept K (fun k hk h => by have := hv k hk; omega), M1.kept K (fun k hk => N2 k (.inl hk)), M2.kept K (fun k hk => N2 k (.inr (.inl hk))), M3.kept K (fun k hk => N2 k (.inr (.inr hk))), ?_, Nat.le_refl _, ?_⟩
  · have F0 : Fr (fun k => v.ownBlock = some k) w0 w1 := (((Fr.refl _ w0).alloc _).drew).trans F1
    exact (((((F0.setCell (fun h => absurd h (Nat.lt_irrefl _)) _).setCell (fun h => absurd h (Nat.lt_irrefl _)) _).setCell (fun h => absurd h (Nat.lt_irrefl _)) _).setCell (fun h => absurd h (Nat.lt_irrefl _)) _).setCell (fun h => absurd h (Nat.lt_irrefl _)) _)
  · intro k hk
    rcases N1 k hk with h1 | h1
    · left
      have : w0.heap.size + 1 ≤ k := by simpa using h1
      omega
    · exact .inr h1

/-- The end of a book's entry: the marks, the longer list, its place in the book. -/
theorem book_end {st el : TypeId} {sz : Nat} {M : List Value} {b j : Nat} {cs : Array Value} {bt : TypeId} {nums v v1 v2 v3 u : Value} {rows rows' : List (List Value)} {w w1 X w4 : World} (hbl : b < w.heap.size)
    (HS : Sl w st sz nums rows) (_hv : ∀ k, v.ownBlock = some k → k < w.heap.size)
    (HD1 : nums.ownBlock ≠ some b) (HD2 : v.ownBlock ≠ some b) (HD3 : ∀ k, v.ownBlock = some k → nums.ownBlock ≠ some k)
    (M0 : Marked w1 el M v) (M1 : Marked w1 el M v1) (M2 : Marked w1 el M v2) (M3 : Marked w1 el M v3) (F1 : Fr (fun k => v.ownBlock = some k) w w1)
    (N1 : ∀ k, (v1.ownBlock = some k ∨ v2.ownBlock = some k ∨ v3.ownBlock = some k) → w.heap.size ≤ k ∨ v.ownBlock = some k)
    (FX : Fr (fun _ => False) w1 X) (G4 : Grew st sz nums X u rows' w4) (hb4 : w4.heap[b]? = some (.cells cs bt (0, 0))) :
      (w4.setCell ⟨b, j, none⟩ u).heap[b]? = some (.cells (cs.setIfInBounds j u) bt (0, 0)) ∧ Sl (w4.setCell ⟨b, j, none⟩ u) st sz u rows' ∧
      Marked (w4.setCell ⟨b, j, none⟩ u) el M v ∧ Marked (w4.setCell ⟨b, j, none⟩ u) el M v1 ∧ Marked (w4.setCell ⟨b, j, none⟩ u) el M v2 ∧ Marked (w4.setCell ⟨b, j, none⟩ u) el M v3 ∧
      Fr (fun k => k = b ∨ v.ownBlock = some k ∨ nums.ownBlock = some k) w (w4.setCell ⟨b, j, none⟩ u) ∧ (∀ k, u.ownBlock = some k → w.heap.size ≤ k ∨ nums.ownBlock = some k) ∧
      (∀ k, (v1.ownBlock = some k ∨ v2.ownBlock = some k ∨ v3.ownBlock = some k) → (w.heap.size ≤ k ∨ v.ownBlock = some k) ∧ u.ownBlock ≠ some k) := by
  have z1 := F1.size
  have zX := FX.size
  have nlt : ∀ k, nums.ownBlock = some k → k < w.heap.size := fun k hk => HS.lt hk
  have F4 : Fr (fun k => nums.ownBlock = some k) w1 w4 := G4.fr (FX.mono (fun _ _ h => h.elim)) (fun k hk _ => hk)
  have F5 : Fr (fun k => nums.ownBlock = some k ∨ k = b) w1 (w4.setCell ⟨b, j, none⟩ u) := (F4.mono (fun _ _ h => .inl h)).setCell (fun _ => .inr rfl) u
  have ne : ∀ (x : Value), (∀ k, x.ownBlock = some k → w.heap.size ≤ k ∨ v.ownBlock = some k) → ∀ k, x.ownBlock = some k → ¬ (nums.ownBlock = some k ∨ k = b) := by
    intro x hx k hk h
    rcases hx k hk with h1 | h1
    · rcases h with h | h
      · have := nlt k h; omega
      · omega
    · rcases h with h | h
      · exact HD3 k h1 h
      · exact HD2 (by rw [← h]; exact h1)
  have ub : u.ownBlock ≠ some b := fun h => by
    rcases G4.at_ b h with h | h
    · omega
    · exact HD1 h
  refine ⟨heap_setCell_same w4 b j cs bt u hb4, G4.sl.kept ((Fr.refl (fun k => k = b) w4).setCell (p := ⟨b, j, none⟩) (fun _ => rfl) u) (fun k hk h => ub (by rw [← h]; exact hk)),
    M0.kept F5 (ne v (fun k hk => .inr hk)), M1.kept F5 (ne v1 (fun k hk => N1 k (.inl hk))), M2.kept F5 (ne v2 (fun k hk => N1 k (.inr (.inl hk)))), M3.kept F5 (ne v3 (fun k hk => N1 k (.inr (.inr hk)))), ?_, ?_, ?_⟩
  · refine (F1.mono (fun _ _ h => .inr (.inl h))).trans (F5.mono (fun k _ h => ?_))
    rcases h with h | h
    · exact .inr (.inr h)
    · exact .inl h
  · intro k hk
    rcases G4.at_ k hk with h | h
    · left; omega
    · exact .inr h
  · intro k hk
    refine ⟨N1 k hk, fun h => ?_⟩
    have hlt : k < w1.heap.size := by
      rcases hk with hk | hk | hk
      · exact M1.lt hk
      · exact M2.lt hk
      · exact M3.lt hk
    rcases G4.at_ k h with h | h
    · omega
    · rcases N1 k hk with h1 | h1
      · have := nlt k h; omega
      · exact HD3 k h1 h

end Go.Proofs.YtgiiegppaleldaaGreatDoor
