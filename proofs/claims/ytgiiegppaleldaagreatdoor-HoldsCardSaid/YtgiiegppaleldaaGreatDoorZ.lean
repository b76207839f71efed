import Derived.Test.YtgiiegppaleldaaGreatDoorE
import Derived.Test.YtgiiegppaleldaaGreatDoorL2
import Derived.Lib.SliceRun
import Derived.Deep.RegionHeld3
import Derived.Deep.DeepCutAuto
/- slices.Index, slices.Delete over lists of threads' numbers. -/
namespace Go.Proofs.YtgiiegppaleldaaGreatDoor
open Go.RowKit

def lnRow (t : Nat) : List Value := [.int .i64 t]

theorem Tryz.infoN3 : (Tryz.prog.info? 3).map (fun i => (i.zero, i.size, i.bytes)) = some (some (.int .i64 0), 1, 8) := by kernel_rfl

set_option maxRecDepth 100000 in
set_option maxHeartbeats 2000000 in
theorem index_any (v : Value) (l : List Nat) (x : Nat) (w : World) (hs : Sl w 3 1 v (l.map lnRow)) (hl : l.length ≤ 1000) :
    Calls Tryz.prog 124 #[v, .int .i64 x] w fun e w' => ∃ r : Int, e = .returned (.int .i64 r) ∧ ((r = -1 ∧ x ∉ l) ∨ ∃ i : Nat, r = i ∧ l[i]? = some x) ∧ w' = w := by
  obtain ⟨a, c, ev⟩ := hs.slice
  rw [List.length_map] at ev
  subst ev
  obtain ⟨m, hn'⟩ : ∃ m, l.length = m := ⟨_, rfl⟩
  rw [hn'] at hs hl ⊢
  have HS := hid hs
  have HN := hid hn'
  clear hs hn'
  go_enter Tryz.func124, Tryz.ntmps124
  go_wp2
  go_loop [8] (fun i => ∃ k : Nat, k ≤ m ∧ i = .int .i64 k ∧ Hid (∀ (i : Nat) p, i < k → l[i]? = some p → p ≠ x)) (fun i => m - (intOf i).toNat)
  case atStart => exact ⟨0, Nat.zero_le _, rfl, fun i p h => absurd h (by omega)⟩
  case round =>
    obtain ⟨k, hk, rfl, hno⟩ := hrel
    by_cases hlt : k < m
    · obtain ⟨p, hp⟩ : ∃ p, l[k]? = some p := ⟨_, List.getElem?_eq_getElem (by have := HN.out; omega)⟩
      obtain ⟨g, ea, hx⟩ := HS.out.is_some (by omega)
      clear hx
      subst ea
      have r1 := HS.out.row (i := k) (r := [.int .i64 p]) (by rw [List.getElem?_map, hp]; rfl)
      have g0 := r1 0 (.int .i64 p) rfl
      simp only [Nat.add_zero, Nat.mul_one] at g0
      have HP := hid hp
      clear r1 hp
      by_cases f0 : p = x
      · have d0 : ((x : Int) == (p : Int)) = true := by simp [f0]
        have F := hid f0
        clear f0
        go_wp2
        go_ret
        exact ⟨_, rfl, .inr ⟨k, rfl, F.out ▸ HP.out⟩, rfl⟩
      · have d0 : ((x : Int) == (p : Int)) = false := by simp; omega
        have F := hid f0
        clear f0
        go_wp2
        refine ⟨⟨k + 1, by omega, by go_num, ?_⟩, by simp [intOf]; omega⟩
        intro i q hi hq
        by_cases e : i < k
        · exact hno.out i q e hq
        · have : i = k := by omega
          subst this
          have := HP.out
          rw [this] at hq; cases hq
          exact F.out
    · go_wp2
      go_ret
      refine ⟨_, rfl, .inl ⟨rfl, fun hm => ?_⟩, rfl⟩
      obtain ⟨i, hi⟩ := List.mem_iff_getElem?.1 hm
      exact hno.out i x (by have := (List.getElem?_eq_some_iff.1 hi).1; have := HN.out; omega) hi rfl

theorem flat_take : ∀ (rows : List (List Value)) (k : Nat), (∀ r ∈ rows, r.length = 1) → (rows.take k).flatten = rows.flatten.take k
  | [], k, _ => by simp
  | r :: rs, 0, _ => by simp
  | r :: rs, k + 1, h => by
    have hr := h r (by simp)
    obtain ⟨v, rfl⟩ : ∃ v, r = [v] := by
      match r, hr with
      | [v], _ => exact ⟨v, rfl⟩
    simp [flat_take rs k (fun r hr => h r (by simp [hr]))]
theorem flat_drop : ∀ (rows : List (List Value)) (k : Nat), (∀ r ∈ rows, r.length = 1) → (rows.drop k).flatten = rows.flatten.drop k
  | [], k, _ => by simp
  | r :: rs, 0, _ => by simp
  | r :: rs, k + 1, h => by
    have hr := h r (by simp)
    obtain ⟨v, rfl⟩ : ∃ v, r = [v] := by
      match r, hr with
      | [v], _ => exact ⟨v, rfl⟩
    simp [flat_drop rs k (fun r hr => h r (by simp [hr]))]

section
variable {P : Program} (w : World)

theorem run_delete (t ty e : TypeId) (i0 : TypeInfo) (ht : P.underlying t = some (.slice e)) (hi : P.info? e = some i0) (hsize : i0.size = 1) (g n cap : Nat) (rows : List (List Value)) (hs : Sl w e 1 (.slice (some ⟨g, 0, none⟩) n cap) rows)
    (h1 : ∀ r ∈ rows, ∀ u ∈ r, u.oneCell' = true) (i : Nat) (hin : i < n) (a : Addr) (c : Nat) (ha : i + 1 < n → a = ⟨g, i + 1, none⟩) :
    ∃ w1, (Builtin.append_ #[t, t] ty #[.slice (some ⟨g, 0, none⟩) i cap, .slice (some a) (n - (i + 1)) c]).run P w = .ok (.slice (some ⟨g, 0, none⟩) (n - 1) cap) w1 ∧
      Sl w1 e 1 (.slice (some ⟨g, 0, none⟩) (n - 1) cap) (rows.eraseIdx i) ∧ w.grownBy w1 (some g) ∧ (∃ u, w1.cell? ⟨g, n - 1, none⟩ = some u) ∧ w1.frozen? ⟨g, n - 1, none⟩ = false := by
  have hn := hs.n_eq
  have hfl := flatten_len rows hs.len
  rcases hs.own.2 with ⟨hx, _⟩ | ⟨g', cap', cur, hx, _, hg, h3, h4, h5, h6⟩
  · simp at hx
  · simp only [Value.slice.injEq, Option.some.injEq, Addr.mk.injEq, and_true] at hx
    obtain ⟨rfl, _, rfl⟩ := hx
    rw [← hn] at h3 h6
    rw [Nat.mul_one] at h5 h6 hfl
    have hnl : (rows.flatten.drop (i + 1)).length = n - (i + 1) := by rw [List.length_drop, hfl, hn]
    have hcell : ∀ (j : Nat) (u : Value), j < n → rows.flatten[j]? = some u → w.cell? ⟨g, j, none⟩ = some u := by
      intro j u hj hu
      rw [cell_of_row w g j _ _ _ hg]
      rw [← h6, List.getElem?_take_of_lt hj] at hu
      simpa using hu
    have hnews : ∀ (j : Nat) (u : Value), (rows.flatten.drop (i + 1))[j]? = some u → w.cell? (a.add j) = some u := by
      intro j u hu
      have hj : j < (rows.flatten.drop (i + 1)).length := (List.getElem?_eq_some_iff.1 hu).1
      rw [hnl] at hj
      rw [ha (by omega)]
      rw [List.getElem?_drop] at hu
      rw [Addr.add_mid]
      exact hcell (i + 1 + j) u (by omega) hu
    have hone : ∀ u ∈ rows.flatten.drop (i + 1), u.oneCell' = true := by
      intro u hu
      obtain ⟨r, hr, hur⟩ := List.mem_flatten.1 (List.mem_of_mem_drop hu)
      exact h1 r hr u hur
    have hr := run_append_room (P := P) w t ty e i0 ht hi g i cap cur hg a (n - (i + 1)) c (rows.flatten.drop (i + 1)) (by rw [hnl, hsize, Nat.mul_one]) hnews hone (by omega) (by rw [hnl, hsize, Nat.mul_one]; omega)
    rw [hsize, Nat.mul_one, hnl, show i + (n - (i + 1)) = n - 1 by omega] at hr
    have hcl : cur.toList.length = cap := by rw [Array.length_toList, h5]
    refine ⟨_, hr, ⟨⟨?_, .inr ⟨g, cap, _, ?_, Nat.zero_le _, setRow_heap w g cur _ e _ hg, ?_, h4, ?_, ?_⟩⟩, fun r hr => hs.len r (List.mem_of_mem_eraseIdx hr)⟩, grown_setRow w g _, ?_, ?_⟩
    · rw [flatten_len (rows.eraseIdx i) (fun r hr => hs.len r (List.mem_of_mem_eraseIdx hr))]
    · rw [List.length_eraseIdx_of_lt (by omega), ← hn]
    · rw [List.length_eraseIdx_of_lt (by omega), ← hn]; omega
    · rw [Nat.mul_one, List.size_toArray, List.length_append, List.length_append, hnl, List.length_take, List.length_drop, hcl]; omega
    · rw [List.length_eraseIdx_of_lt (by omega), ← hn, Nat.mul_one, List.eraseIdx_eq_take_drop_succ, List.flatten_append, flat_take rows i hs.len, flat_drop rows (i + 1) hs.len]
      show List.take (n - 1) (List.take i cur.toList ++ rows.flatten.drop (i + 1) ++ List.drop (n - 1) cur.toList) = _
      have e1 : List.take i cur.toList = rows.flatten.take i := by rw [← h6, List.take_take, Nat.min_eq_left (by omega)]
      rw [e1, List.take_append_of_le_length (by rw [List.length_append, hnl, List.length_take, hfl, ← hn]; omega)]
      rw [List.take_of_length_le (by rw [List.length_append, hnl, List.length_take, hfl, ← hn]; omega)]
    · rw [cell_of_row _ g (n - 1) _ _ _ (setRow_heap w g cur _ e _ hg)]
      refine ⟨_, Array.getElem?_eq_getElem ?_⟩
      rw [List.size_toArray, List.length_append, List.length_append, hnl, List.length_take, List.length_drop, hcl]; omega
    · unfold World.frozen?
      rw [setRow_heap w g cur _ e _ hg]
      simp

theorem step_delete {ops : Array Oper} {o : Oper} {ac : Act} {K : Act → World → Prop} {Q : Exit → Act → World → Prop} {E : Prop} (hgd : o.guard = none) (s x : Operand) (t : TypeId)
    (ho : o.op = .call { callee := .builtin .append, args := #[s, x], argTypes := #[t, t] }) (e : TypeId) (i0 : TypeInfo) (ht : P.underlying t = some (.slice e)) (hi : P.info? e = some i0) (hsize : i0.size = 1) (g n cap : Nat) (rows : List (List Value)) (hs : Sl w e 1 (.slice (some ⟨g, 0, none⟩) n cap) rows)
    (h1 : ∀ r ∈ rows, ∀ u ∈ r, u.oneCell' = true) (i : Nat) (hin : i < n) (a : Addr) (m c : Nat) (hm : m = n - (i + 1)) (ha : i + 1 < n → a = ⟨g, i + 1, none⟩) (hsv : ac.eval s = .slice (some ⟨g, 0, none⟩) i cap) (hxv : ac.eval x = .slice (some a) m c)
    (h : ∀ w1, Sl w1 e 1 (.slice (some ⟨g, 0, none⟩) (n - 1) cap) (rows.eraseIdx i) ∧ w.grownBy w1 (some g) ∧ (∃ u, w1.cell? ⟨g, n - 1, none⟩ = some u) ∧ w1.frozen? ⟨g, n - 1, none⟩ = false → K (ac.put o.dst (.slice (some ⟨g, 0, none⟩) (n - 1) cap)) w1) :
    if Region.wanted o (yielded ops ac.tmps) = true then Oper.wp P o ac w K Q else E := by
  subst hm
  obtain ⟨w1, hr, hG⟩ := run_delete (P := P) w t o.type e i0 ht hi hsize g n cap rows hs h1 i hin a c ha
  have hw : Region.wanted o (yielded ops ac.tmps) = true := by simp [Region.wanted, hgd]
  rw [if_pos hw]
  unfold Oper.wp
  simp [execOp, ho, resolve, invoke, builtin, hsv, hxv, hr, Result.andThen]
  exact h w1 hG

theorem wpList_clear1 {ops : Array Oper} {rest : List Oper} {o : Oper} {ac : Act} {Q : Exit → Act → World → Prop} (hgd : o.guard = none) (s : Operand) (t : TypeId)
    (ho : o.op = .call { callee := .builtin .clear, args := #[s], argTypes := #[t] }) (e : TypeId) (z : Value) (ht : P.underlying t = some (.slice e)) (hv : ∀ w, (zeroValue e).run P w = .ok z w) (hz : z.cells = #[z]) (h1 : z.oneCell' = true) (g b m c : Nat) (hm : m = 1) (hsv : ac.eval s = .slice (some ⟨g, b, none⟩) m c)
    (hc : ∃ u, w.cell? ⟨g, b, none⟩ = some u) (hf : w.frozen? ⟨g, b, none⟩ = false)
    (h : wpList P ops Q rest (ac.put o.dst (.tuple #[])) (w.setCells g b [z])) : wpList P ops Q (o :: rest) ac w := by
  subst hm
  obtain ⟨u, hu⟩ := hc
  have hcc : ∀ j, j < 1 → (w.cell? ⟨g, b + j, none⟩).isSome = true := by
    intro j hj
    obtain rfl : j = 0 := by omega
    simp [hu]
  have hff : ∀ j, j < 1 → w.frozen? ⟨g, b + j, none⟩ = false := by
    intro j hj
    obtain rfl : j = 0 := by omega
    simpa using hf
  have hr := Go.Lib.run_clear_slice (P := P) w t e o.type z ht hv hz h1 g b 1 c (by omega) hcc hff
  refine wpList_plain hgd fun K hK => ?_
  unfold Oper.wp
  simp [execOp, ho, resolve, invoke, builtin, hsv, hr, Result.andThen]
  exact hK _ _ h
end
end Go.Proofs.YtgiiegppaleldaaGreatDoor

/- slices.Delete, Leave, ComeLast, First. -/
namespace Go.Proofs.YtgiiegppaleldaaGreatDoor
open Go.RowKit

theorem Tryz.zero3 (w : World) : (zeroValue 3).run Tryz.prog w = .ok (.int .i64 0) w := by kernel_rfl

theorem ln_one (l : List Nat) : ∀ r ∈ l.map lnRow, ∀ u ∈ r, u.oneCell' = true := by
  intro r hr u hu
  obtain ⟨t, _, rfl⟩ := List.mem_map.1 hr
  simp [lnRow] at hu
  subst hu
  rfl

theorem del_end {w w1 : World} {g n cap i : Nat} {l : List Nat} (h : Sl w1 3 1 (.slice (some ⟨g, 0, none⟩) n cap) ((l.map lnRow).eraseIdx i)) (hg : w.grownBy w1 (some g)) :
    Ending.returned (.slice (some ⟨g, 0, none⟩) n cap) = .returned (.slice (some ⟨g, 0, none⟩) n cap) ∧ Sl (w1.setCells g n [.int .i64 0]) 3 1 (.slice (some ⟨g, 0, none⟩) n cap) ((l.eraseIdx i).map lnRow) ∧ w.grownBy (w1.setCells g n [.int .i64 0]) (some g) := by
  have hn := h.n_eq
  have e : (l.map lnRow).eraseIdx i = (l.eraseIdx i).map lnRow := by simp [List.eraseIdx_eq_take_drop_succ]
  rw [e] at h hn
  subst hn
  have h2 := setCells_owns [.int .i64 0] ((l.eraseIdx i).map lnRow).length w1 _ h.own
  have hl := flatten_len ((l.eraseIdx i).map lnRow) h.len
  have e2 : setAt ((l.eraseIdx i).map lnRow).flatten ((l.eraseIdx i).map lnRow).length [.int .i64 0] = ((l.eraseIdx i).map lnRow).flatten := by
    simp only [setAt]
    rw [List.set_eq_of_length_le (by rw [hl]; omega)]
  rw [e2] at h2
  refine ⟨rfl, ⟨h2.1, h.len⟩, ?_⟩
  have a := hg
  have b := h2.2
  exact ⟨b.os.trans a.os, b.tape.trans a.tape, b.output.trans a.output, Nat.le_trans a.size b.size, fun k hk hne => (b.block k (Nat.lt_of_lt_of_le hk a.size) hne).trans (a.block k hk hne)⟩

set_option maxRecDepth 100000 in
set_option maxHeartbeats 4000000 in
theorem delete_any (g n cap : Nat) (l : List Nat) (i : Nat) (w : World) (hs : Sl w 3 1 (.slice (some ⟨g, 0, none⟩) n cap) (l.map lnRow)) (hl : n ≤ 1000) (hi : i < n) (hcap : n ≤ cap) (hcm : cap ≤ 9223372036854775807) :
    Calls Tryz.prog 125 #[.slice (some ⟨g, 0, none⟩) n cap, .int .i64 i, .int .i64 (i + 1)] w fun e w' => e = .returned (.slice (some ⟨g, 0, none⟩) (n - 1) cap) ∧ Sl w' 3 1 (.slice (some ⟨g, 0, none⟩) (n - 1) cap) ((l.eraseIdx i).map lnRow) ∧ w.grownBy w' (some g) := by
  obtain ⟨i0, hi0, hz0, hz1, hz2⟩ := info_parts Tryz.infoN3
  have HS := hid hs
  have hz := Tryz.zero3
  have b1 : ((i : Int) == (i : Int) + 1) = false := by simp; omega
  clear hs
  by_cases hc : cap = i + 1
  · have hn : n = i + 1 := by omega
    subst hc hn
    have q1 : (i : Int) ≤ (i : Int) + 1 := by omega
    have q4 : 0 ≤ (i : Int) + 1 := by omega
    go_enter Tryz.func125, Tryz.ntmps125
    go_wp2_with fail
    go_region_law (refine step_delete _ rfl (.tmp 22) (.tmp 25) 24 rfl 3 i0 Tryz.underlying24 hi0 hz1 g (i + 1) (i + 1) (l.map lnRow) HS.out.drew (ln_one l) i (by omega) ⟨g, 0, none⟩ 0 0 (by omega) (fun h => absurd h (by omega)) (by simp [Act.eval, Act.put]) (by simp [Act.eval, Act.put]) ?_; intro w1 HG; rw [Nat.add_sub_cancel] at HG; replace HG := hid HG)
    all_goals
      have hcc := HG.out.2.2.1
      have hff := HG.out.2.2.2
      go_wp2_with (with_reducible (show wpList _ _ _ (⟨_, .call { callee := .builtin .clear, args := #[_], argTypes := #[24] }, _, _, _, none⟩ :: _) _ _); go_must (refine wpList_clear1 _ rfl (.tmp 31) 24 rfl 3 (.int .i64 0) Tryz.underlying24 hz rfl rfl g i 1 1 rfl (by simp [Act.eval]) hcc hff ?_))
      go_ret
      exact del_end HG.out.1 ⟨HG.out.2.1.os, HG.out.2.1.tape, HG.out.2.1.output, HG.out.2.1.size, HG.out.2.1.block⟩
  · have q1 : i ≤ cap := by omega
    have q2 : (i : Int) + 1 ≤ (n : Int) := by omega
    have q3 : i + 1 ≤ n := by omega
    have q4 : 0 ≤ (i : Int) + 1 := by omega
    have q5 : ((i : Int) + 1).toNat = i + 1 := by omega
    go_enter Tryz.func125, Tryz.ntmps125
    go_wp2_with fail
    go_region_law (refine step_delete _ rfl (.tmp 22) (.tmp 25) 24 rfl 3 i0 Tryz.underlying24 hi0 hz1 g n cap (l.map lnRow) HS.out.drew (ln_one l) i (by omega) ⟨g, i + 1, none⟩ (n - (i + 1)) (cap - (i + 1)) (by omega) (fun _ => rfl) (by simp [Act.eval, Act.put]) (by simp [Act.eval, Act.put]) ?_; intro w1 HG; replace HG := hid HG)
    all_goals
      have hcc := HG.out.2.2.1
      have hff := HG.out.2.2.2
      have q6 : ¬ cap = n - 1 := by omega
      have q7 : n - 1 ≤ n := by omega
      go_wp2_with (with_reducible (show wpList _ _ _ (⟨_, .call { callee := .builtin .clear, args := #[_], argTypes := #[24] }, _, _, _, none⟩ :: _) _ _); go_must (refine wpList_clear1 _ rfl (.tmp 31) 24 rfl 3 (.int .i64 0) Tryz.underlying24 hz rfl rfl g (n - 1) (n - (n - 1)) (cap - (n - 1)) (by omega) (by simp [Act.eval]) hcc hff ?_))
      go_ret
      exact del_end HG.out.1 ⟨HG.out.2.1.os, HG.out.2.1.tape, HG.out.2.1.output, HG.out.2.1.size, HG.out.2.1.block⟩

theorem erase_idx : ∀ {l : List Nat} {i x : Nat}, l[i]? = some x → l.Nodup → l.eraseIdx i = l.erase x
  | [], i, x, h, _ => by simp at h
  | y :: r, 0, x, h, _ => by simp at h; subst h; simp
  | y :: r, i + 1, x, h, hn => by
    simp at h
    have hm : x ∈ r := List.mem_of_getElem? h
    have hy : y ≠ x := fun e => (List.nodup_cons.1 hn).1 (e ▸ hm)
    rw [List.erase_cons_tail (by simpa using hy), List.eraseIdx_cons_succ, erase_idx h (List.nodup_cons.1 hn).2]

end Go.Proofs.YtgiiegppaleldaaGreatDoor

/- Leave, ComeLast, First. -/
namespace Go.Proofs.YtgiiegppaleldaaGreatDoor
open Go.RowKit

theorem Sl.cap {w : World} {e : TypeId} {size g n cap : Nat} {rows : List (List Value)} (h : Sl w e size (.slice (some ⟨g, 0, none⟩) n cap) rows) : n ≤ cap ∧ cap ≤ maxLen := by
  rcases h.own.2 with ⟨hx, _⟩ | ⟨g', cap', cur, hx, _, hg, h3, h4, h5, h6⟩
  · simp at hx
  · simp only [Value.slice.injEq, Option.some.injEq, Addr.mk.injEq, and_true] at hx
    obtain ⟨rfl, h, rfl⟩ := hx
    rw [← h] at h3
    exact ⟨h3, h4⟩

theorem index_no (v : Value) (l : List Nat) (x : Nat) (w : World) (hs : Sl w 3 1 v (l.map lnRow)) (hl : l.length ≤ 1000) (hx : x ∉ l) :
    Calls Tryz.prog 124 #[v, .int .i64 x] w fun e w' => e = .returned (.int .i64 (-1)) ∧ w' = w := by
  refine (index_any v l x w hs hl).mono ?_
  rintro e w' ⟨r, rfl, hr, rfl⟩
  rcases hr with ⟨rfl, _⟩ | ⟨i, _, hi⟩
  · exact ⟨rfl, rfl⟩
  · exact absurd (List.mem_of_getElem? hi) hx
theorem index_yes (v : Value) (l : List Nat) (x i : Nat) (w : World) (hs : Sl w 3 1 v (l.map lnRow)) (hl : l.length ≤ 1000) (hx : l[i]? = some x) (hn : l.Nodup) :
    Calls Tryz.prog 124 #[v, .int .i64 x] w fun e w' => e = .returned (.int .i64 i) ∧ w' = w := by
  refine (index_any v l x w hs hl).mono ?_
  rintro e w' ⟨r, rfl, hr, rfl⟩
  rcases hr with ⟨rfl, h⟩ | ⟨j, rfl, hi⟩
  · exact absurd (List.mem_of_getElem? hx) h
  · have h1 := (List.getElem?_eq_some_iff.1 hx).1
    have : i = j := (List.getElem?_inj h1 hn).1 (hx.trans hi.symm)
    subst this
    exact ⟨rfl, rfl⟩

theorem set_same {cs : Array Value} {off : Nat} {v : Value} (h : cs[off]? = some v) : cs.setIfInBounds off v = cs := by
  obtain ⟨hi, rfl⟩ := Array.getElem?_eq_some_iff.1 h
  exact Array.ext_getElem? (fun j => by
    rw [Array.getElem?_setIfInBounds]
    split
    · rename_i e; subst e; simp [hi]
    · rfl)

set_option maxRecDepth 100000 in
set_option maxHeartbeats 4000000 in
theorem leave_any (x off : Nat) (v : Value) (l : List Nat) (t : Nat) (cs : Array Value) (ty : TypeId) (w : World) (hb : w.heap[x]? = some (.cells cs ty (0, 0))) (hv : cs[off]? = some v) (hs : Sl w 3 1 v (l.map lnRow)) (hl : l.length ≤ 1000) (hn : l.Nodup) (hne : v.ownBlock ≠ some x) :
    Calls Tryz.prog 121 #[.pointer (some ⟨x, off, none⟩), .int .i64 t] w fun e w' => e = .returned (.tuple #[]) ∧ ∃ v', w'.heap[x]? = some (.cells (cs.setIfInBounds off v') ty (0, 0)) ∧ Sl w' 3 1 v' ((l.erase t).map lnRow) ∧ Fr (fun k => k = x ∨ v.ownBlock = some k) w w' ∧ v'.ownBlock = v.ownBlock := by
  have hc : w.cell? ⟨x, off, none⟩ = some v := (cell_of_row w x off _ _ _ hb).trans hv
  have hf : w.frozen? ⟨x, off, none⟩ = false := frozen_of_row w x off _ _ hb
  obtain ⟨a, c, ev⟩ := hs.slice
  rw [List.length_map] at ev
  subst ev
  obtain ⟨m, hm⟩ : ∃ m, l.length = m := ⟨_, rfl⟩
  rw [hm] at hs hl hc hne hv
  have HA := hid (And.intro hs (And.intro hb (And.intro hn (And.intro hm (And.intro hne hv)))))
  clear hs hb hn hne hv
  rw [hm]
  clear hm
  by_cases hnm : t ∈ l
  · obtain ⟨i, hi⟩ := List.mem_iff_getElem?.1 hnm
    have HI := hid hi
    have hil : i < m := by rw [← HA.out.2.2.2.1]; exact (List.getElem?_eq_some_iff.1 hi).1
    clear hi hnm
    obtain ⟨g, ea, hx⟩ := HA.out.1.is_some (by omega)
    clear hx
    subst ea
    have hcp := HA.out.1.cap
    have hc1 := hcp.1
    have hc2 : c ≤ 9223372036854775807 := by have := hcp.2; unfold maxLen at this; omega
    clear hcp
    go_enter Tryz.func121, Tryz.ntmps121
    go_wp2_with (first
      | (go_at_call 124; refine (index_yes (.slice (some ⟨g, 0, none⟩) m c) l t i _ ?_ ?_ ?_ ?_).mono ?_; exact HA.out.1; exact HA.out.2.2.2.1 ▸ hl; exact HI.out; exact HA.out.2.2.1; rintro e w1 ⟨rfl, rfl⟩)
      | (go_at_call 125; refine (delete_any g m c l i _ ?_ ?_ ?_ ?_ ?_).mono ?_; exact HA.out.1; exact hl; exact hil; exact hc1; exact hc2; rintro e w2 ⟨rfl, H2⟩; replace H2 := hid H2; have hf2 := frozen_of_row w2 x off _ _ ((H2.out.2.block x (Array.getElem?_eq_some_iff.1 HA.out.2.1).1 (fun h => HA.out.2.2.2.2.1 h.symm)).trans HA.out.2.1); have hc3 := (cell_of_row w2 x off _ _ _ ((H2.out.2.block x (Array.getElem?_eq_some_iff.1 HA.out.2.1).1 (fun h => HA.out.2.2.2.2.1 h.symm)).trans HA.out.2.1)).trans HA.out.2.2.2.2.2))
    go_end0
    have hb2 := (H2.out.2.block x (Array.getElem?_eq_some_iff.1 HA.out.2.1).1 (fun h => HA.out.2.2.2.2.1 h.symm)).trans HA.out.2.1
    have F1 : Fr (fun k => k = x ∨ Value.ownBlock (.slice (some ⟨g, 0, none⟩) m c) = some k) w1 w2 := (Fr.grown H2.out.2).mono (fun k _ h => .inr (by simpa [Value.ownBlock] using h))
    have F2 : Fr (fun k => k = x) w2 (w2.setCell ⟨x, off, none⟩ (.slice (some ⟨g, 0, none⟩) (m - 1) c)) := (Fr.refl (fun k => k = x) w2).setCell (p := ⟨x, off, none⟩) (fun _ => rfl) _
    refine ⟨rfl, .slice (some ⟨g, 0, none⟩) (m - 1) c, heap_setCell_same w2 x off cs ty _ hb2, ?_, F1.trans (F2.mono (fun k _ h => .inl h)), rfl⟩
    rw [← erase_idx HI.out HA.out.2.2.1]
    exact H2.out.1.kept F2 (fun k hk h => HA.out.2.2.2.2.1 (by rw [← h]; exact hk))
  · have HN := hid hnm
    clear hnm
    go_enter Tryz.func121, Tryz.ntmps121
    go_wp2_with (go_at_call 124; refine (index_no (.slice a m c) l t _ ?_ ?_ ?_).mono ?_; exact HA.out.1; exact HA.out.2.2.2.1 ▸ hl; exact HN.out; rintro e w1 ⟨rfl, rfl⟩)
    go_end0
    refine ⟨rfl, .slice a m c, ?_, ?_, Fr.refl _ _, rfl⟩
    · rw [set_same HA.out.2.2.2.2.2]; exact HA.out.2.1
    · rw [List.erase_of_not_mem HN.out]; exact HA.out.1

set_option maxRecDepth 100000 in
set_option maxHeartbeats 4000000 in
theorem comeLast_any (x off : Nat) (v : Value) (l : List Nat) (t : Nat) (cs : Array Value) (ty : TypeId) (w : World) (hb : w.heap[x]? = some (.cells cs ty (0, 0))) (hv : cs[off]? = some v) (hs : Sl w 3 1 v (l.map lnRow)) (hl : l.length ≤ 1000) (hn : l.Nodup) (hne : v.ownBlock ≠ some x) :
    Calls Tryz.prog 106 #[.pointer (some ⟨x, off, none⟩), .int .i64 t] w fun e w' => e = .returned (.tuple #[]) ∧ ∃ v', w'.heap[x]? = some (.cells (cs.setIfInBounds off v') ty (0, 0)) ∧ Sl w' 3 1 v' ((l.erase t ++ [t]).map lnRow) ∧ Fr (fun k => k = x ∨ v.ownBlock = some k) w w' ∧ ∀ k, v'.ownBlock = some k → w.heap.size ≤ k ∨ v.ownBlock = some k := by
  obtain ⟨i0, hi0, hz0, hz1, hz2⟩ := info_parts Tryz.infoN3
  have hbl := (Array.getElem?_eq_some_iff.1 hb).1
  have hlo : off < cs.size := (Array.getElem?_eq_some_iff.1 hv).1
  have HA := hid (And.intro hs (And.intro hb (And.intro hn (And.intro hl (And.intro hne hv)))))
  clear hs hb hn hl hne hv
  go_enter Tryz.func106, Tryz.ntmps106
  go_wp2_with fail
  go_at_call 121
  refine (leave_any x off v l t cs ty _ HA.out.2.1 HA.out.2.2.2.2.2 HA.out.1 HA.out.2.2.2.1 HA.out.2.2.1 HA.out.2.2.2.2.1).mono ?_
  rintro e w1 ⟨rfl, v1, H1⟩
  have hsl := H1.2.1.slice
  rw [List.length_map] at hsl
  obtain ⟨a1, c1, rfl⟩ := hsl
  obtain ⟨m, hm⟩ : ∃ m, (l.erase t).length = m := ⟨_, rfl⟩
  rw [hm] at H1
  have hml : m ≤ 1000 := by (have := HA.out.2.2.2.1; have := List.length_erase_le (a := t) (l := l); omega)
  replace H1 := hid (And.intro H1 hm)
  clear hm
  have hc1 : w1.cell? ⟨x, off, none⟩ = some (.slice a1 m c1) := (cell_of_row w1 x off _ _ _ H1.out.1.1).trans (by simp [hlo])
  have hbl1 := (Array.getElem?_eq_some_iff.1 H1.out.1.1).1
  have n1 : Hid (Value.ownBlock (.slice a1 m c1) ≠ some x) := (by rw [H1.out.1.2.2.2]; exact HA.out.2.2.2.2.1)
  go_wp2_with (at_builtin; go_must (refine wpList_append_sl _ rfl _ _ 24 rfl 3 i0 _ 1 8 Tryz.underlying24 hi0 hz0 hz1 hz2 rfl (by decide) (.slice a1 m c1) ((l.erase t).map lnRow) rfl (H1.out.1.2.1.alloc _) ⟨w1.heap.size, 0, none⟩ 1 1 [[.int .i64 t]] rfl rfl (by decide) (by simp) (fun j u h => cell_news w1 #[.int .i64 t] 3 j u (by simpa using h)) (fun u hu => by simp at hu; subst hu; rfl) (by have := H1.out.2; rw [List.length_map]; unfold maxLen; omega) (by have := H1.out.2; rw [List.length_map]; omega) ?_); intro a4 c4 w4 G4; have hb4 : Hid (w4.heap[x]? = some (.cells (cs.setIfInBounds off (.slice a1 m c1)) ty (0, 0))) := (G4.old (by simp; omega) n1.out).trans (((Fr.refl (fun _ => False) w1).alloc _).block _ hbl1 id |>.trans H1.out.1.1); have hc4 : w4.cell? ⟨x, off, none⟩ = some (.slice a1 m c1) := (cell_of_row w4 _ off _ _ _ hb4.out).trans (by simp [hlo]); have hf4 : w4.frozen? ⟨x, off, none⟩ = false := frozen_of_row _ _ _ _ _ hb4.out)
  go_end0
  rw [List.length_map] at G4
  generalize hv4 : Value.slice a4 ((l.erase t).length + 1) c4 = v4 at G4 ⊢
  have F4 : Fr (fun k => k = x ∨ v.ownBlock = some k) w1 w4 := G4.fr ((Fr.refl _ w1).alloc _) (fun k hk _ => .inr (by rw [← H1.out.1.2.2.2]; exact hk))
  have F5 : Fr (fun k => k = x) w4 (w4.setCell ⟨x, off, none⟩ v4) := (Fr.refl (fun k => k = x) w4).setCell (p := ⟨x, off, none⟩) (fun _ => rfl) _
  have hn4 : ∀ k, v4.ownBlock = some k → w.heap.size ≤ k ∨ v.ownBlock = some k := by
    intro k hk
    rcases G4.at_ k hk with h | h
    · left
      have := H1.out.1.2.2.1.size
      simp at h
      omega
    · right; rw [← H1.out.1.2.2.2]; exact h
  refine ⟨rfl, v4, ?_, ?_, (H1.out.1.2.2.1.trans F4).trans (F5.mono (fun k _ h => .inl h)), hn4⟩
  · have := heap_setCell_same w4 x off _ ty v4 hb4.out
    rwa [Array.setIfInBounds_setIfInBounds] at this
  · have h := G4.sl
    rw [List.map_append]
    exact h.kept F5 (fun k hk e => by
      subst e
      rcases hn4 _ hk with h | h
      · omega
      · exact HA.out.2.2.2.2.1 h)

set_option maxRecDepth 100000 in
theorem first_no (x off : Nat) (a : Option Addr) (c : Nat) (w : World) (hc : w.cell? ⟨x, off, none⟩ = some (.slice a 0 c)) :
    Calls Tryz.prog 79 #[.pointer (some ⟨x, off, none⟩)] w fun e w' => e = .returned (.tuple #[.int .i64 0, .bool false]) ∧ w' = w := by
  go_enter Tryz.func79, Tryz.ntmps79
  go_wp2
  go_ret2
  exact ⟨rfl, rfl⟩

set_option maxRecDepth 100000 in
theorem first_yes (x off g n c t : Nat) (w : World) (hc : w.cell? ⟨x, off, none⟩ = some (.slice (some ⟨g, 0, none⟩) n c)) (hn : 0 < n) (ht : w.cell? ⟨g, 0, none⟩ = some (.int .i64 t)) :
    Calls Tryz.prog 79 #[.pointer (some ⟨x, off, none⟩)] w fun e w' => e = .returned (.tuple #[.int .i64 t, .bool true]) ∧ w' = w := by
  have h0 : ((n : Int) == 0) = false := by simp; omega
  go_enter Tryz.func79, Tryz.ntmps79
  go_wp2
  go_ret2
  exact ⟨rfl, rfl⟩
end Go.Proofs.YtgiiegppaleldaaGreatDoor
