import Derived.Test.YtgiiegppaleldaaGreatDoorQQ
import Derived.Test.YtgiiegppaleldaaGreatDoorHG
/- New of the face. -/
namespace Go.Proofs.YtgiiegppaleldaaGreatDoor
open Go.RowKit

theorem MAt.move {w w' : World} {x x' : Nat} {cs : Array Value} {cl : Int × (Nat → Int)} {ts : List (Int × Int × Int × Int)} {n : Nat} {Q L : List (Int × Int × Int × Int)} {ln : Nat → List Nat} {vt : Value} {rv : Nat → Value} {vs : Value}
    (h : MAt w x 98 cs cl ts n Q L ln vt rv vs) (hf : Fr (fun _ => False) w w') (hb : w'.heap[x']? = some (.cells cs 105 (0, 0))) (hx : w.heap.size ≤ x') : MAt w' x' 105 cs cl ts n Q L ln vt rv vs := by
  have h' := h.kept hf (fun _ _ h => h)
  refine ⟨hb, h.size, h.c0, h.c1, h.row, h.c6, h'.th, h'.li, h'.sp, fun e => ?_, fun r hr e => ?_, fun e => ?_, h.n4, h.n5, h.n6, h.fr⟩
  · have := h.th.lt e; omega
  · have := (h.li r hr).lt e; omega
  · have := h.sp.lt e; omega

theorem mrep_new {w : World} {x : Nat} {ty : TypeId} {cs : Array Value} {T : List (Int × Int)} {n : Nat} {Q L : List (Int × Int × Int × Int)} {ln : Nat → List Nat} {vt : Value} {rv : Nat → Value} {vs : Value}
    (h : MAt w x ty cs c00 (born 0 T) n Q L ln vt rv vs) : MAt w x ty cs ((RK.new n T Q L).clock, (RK.new n T Q L).fr) (RK.new n T Q L).threads (RK.new n T Q L).sp.toNat (RK.new n T Q L).passes (RK.new n T Q L).leaves ln vt rv vs := by
  have e : (n : Int).toNat = n := by simp
  unfold RK.new
  simp only
  rw [e]
  exact h
theorem lined_new {T : List (Int × Int)} {n m : Nat} {Q L : List (Int × Int × Int × Int)} {ln : Nat → List Nat} (hm : T.length = m) (h : Lined (born 0 T) m ln) : Lined (RK.new n T Q L).threads (RK.new n T Q L).last ln := by
  unfold RK.new
  simp only
  rw [hm]; exact h

set_option maxRecDepth 100000 in
set_option maxHeartbeats 8000000 in
theorem fNew_yes (sp : Int) (vT vP vL : Value) (T : List (Int × Int)) (Q L : List (Int × Int × Int × Int)) (w : World) (iT : Inl w 2 vT (T.map tRow)) (iP : Inl w 4 vP (Q.map qRow)) (iL : Inl w 4 vL (L.map qRow)) (hf : Fits sp T Q L) :
    Calls Tryz.prog 12 #[.agg #[.int .i64 sp, vT, vP, vL]] w fun e w' => ∃ x S, e = .returned (.tuple #[.pointer (some ⟨x, 0, none⟩), .int .i64 0]) ∧ MRep w' x 105 S (RK.new sp T Q L) ∧ Below w.heap.size w w' ∧ ∀ b, S b → w.heap.size ≤ b := by
  obtain ⟨n, rfl⟩ := Int.eq_ofNat_of_zero_le (show 0 ≤ sp by have := hf.1; omega)
  obtain ⟨aT, cT, eT⟩ := iT.slice
  obtain ⟨aP, cP, eP⟩ := iP.slice
  obtain ⟨aL, cL, eL⟩ := iL.slice
  rw [List.length_map] at eT eP eL
  subst eT eP eL
  have B := mNew_yes n aT aP aL T.length Q.length L.length cT cP cL T Q L (w.alloc (.cells #[.int .i64 n, .slice aT T.length cT, .slice aP Q.length cP, .slice aL L.length cL] 40)) (iT.alloc (by omega) _) (iP.alloc (by omega) _) (iL.alloc (by omega) _) rfl rfl rfl hf
  have HB := hid B
  clear B hf iT iP iL
  generalize hmT : T.length = mT at *
  generalize hmP : Q.length = mP at *
  generalize hmL : L.length = mL at *
  have HM := hid (And.intro hmT (And.intro hmP hmL))
  clear hmT hmP hmL
  go_enter Tryz.func12, Tryz.ntmps12
  go_wp2_with fail
  refine HB.out.mono ?_
  rintro e w2 ⟨x, ln, vt, rv, vs, rfl, M, Ln, Bw, Ow⟩
  obtain ⟨a1, n1, c1, e1⟩ : ∃ a n c, vt = .slice a n c := by obtain ⟨a, c, h⟩ := M.th.slice; exact ⟨_, _, _, h⟩
  obtain ⟨b0, k0, d0, e20⟩ : ∃ a n c, rv 0 = .slice a n c := by obtain ⟨a, c, h⟩ := (M.li 0 (by omega)).slice; exact ⟨_, _, _, h⟩
  obtain ⟨b1, k1, d1, e21⟩ : ∃ a n c, rv 1 = .slice a n c := by obtain ⟨a, c, h⟩ := (M.li 1 (by omega)).slice; exact ⟨_, _, _, h⟩
  obtain ⟨b2, k2, d2, e22⟩ : ∃ a n c, rv 2 = .slice a n c := by obtain ⟨a, c, h⟩ := (M.li 2 (by omega)).slice; exact ⟨_, _, _, h⟩
  obtain ⟨b3, k3, d3, e23⟩ : ∃ a n c, rv 3 = .slice a n c := by obtain ⟨a, c, h⟩ := (M.li 3 (by omega)).slice; exact ⟨_, _, _, h⟩
  obtain ⟨a6, n6, c6, e6⟩ : ∃ a n c, vs = .slice a n c := by obtain ⟨a, c, h⟩ := M.sp.slice; exact ⟨_, _, _, h⟩
  have em : mcells 0 vt (rv 0) (rv 1) (rv 2) (rv 3) vs = #[.int .u64 0, .slice a1 n1 c1, .slice b0 k0 d0, .slice b1 k1 d1, .slice b2 k2 d2, .slice b3 k3 d3, .slice a6 n6 c6, .int .i64 0, .int .i64 0, .int .i64 0, .int .i64 0, .int .i64 0, .int .i64 0, .int .i64 0, .int .i64 0, .int .i64 0, .int .i64 0, .int .i64 0, .int .i64 0, .int .i64 0, .int .i64 0, .int .i64 0, .int .i64 0, .int .i64 0, .int .i64 0, .int .i64 0, .int .i64 0, .int .i64 0, .int .i64 0, .int .i64 0, .int .i64 0, .int .i64 0, .int .i64 0, .int .i64 0, .int .i64 0, .int .i64 0, .int .i64 0, .int .i64 0, .int .i64 0] := by rw [e1, e20, e21, e22, e23, e6]; rfl
  rw [em] at M ⊢
  have R : (w2.alloc (.cells #[.int .u64 0, .slice a1 n1 c1, .slice b0 k0 d0, .slice b1 k1 d1, .slice b2 k2 d2, .slice b3 k3 d3, .slice a6 n6 c6, .int .i64 0, .int .i64 0, .int .i64 0, .int .i64 0, .int .i64 0, .int .i64 0, .int .i64 0, .int .i64 0, .int .i64 0, .int .i64 0, .int .i64 0, .int .i64 0, .int .i64 0, .int .i64 0, .int .i64 0, .int .i64 0, .int .i64 0, .int .i64 0, .int .i64 0, .int .i64 0, .int .i64 0, .int .i64 0, .int .i64 0, .int .i64 0, .int .i64 0, .int .i64 0, .int .i64 0, .int .i64 0, .int .i64 0, .int .i64 0, .int .i64 0, .int .i64 0] 98)).rangeAt w2.heap.size 0 [.int .u64 0, .slice a1 n1 c1, .slice b0 k0 d0, .slice b1 k1 d1, .slice b2 k2 d2, .slice b3 k3 d3, .slice a6 n6 c6, .int .i64 0, .int .i64 0, .int .i64 0, .int .i64 0, .int .i64 0, .int .i64 0, .int .i64 0, .int .i64 0, .int .i64 0, .int .i64 0, .int .i64 0, .int .i64 0, .int .i64 0, .int .i64 0, .int .i64 0, .int .i64 0, .int .i64 0, .int .i64 0, .int .i64 0, .int .i64 0, .int .i64 0, .int .i64 0, .int .i64 0, .int .i64 0, .int .i64 0, .int .i64 0, .int .i64 0, .int .i64 0, .int .i64 0, .int .i64 0, .int .i64 0, .int .i64 0] := fun j v hv => by
    rw [cell_of_row _ _ (0 + j) _ _ _ (heap_alloc_new w2 _), Nat.zero_add, List.getElem?_toArray]; exact hv
  have HH := hid (And.intro M (And.intro Ln (And.intro Bw (And.intro Ow R))))
  clear M Ln Bw Ow R e1 e20 e21 e22 e23 e6 em
  go_wp2_with (first
    | (with_reducible (show wpList _ _ _ (⟨_, .load 98 _, _, _, _, none⟩ :: _) _ _); go_must (refine wpList_load_mid rfl 98 _ rfl w2.heap.size 0 rfl _ _ HH.out.2.2.2.2 Tryz.underlying98 rfl (by kernel_rfl) ?_))
    | (with_reducible (show wpList _ _ _ (⟨_, .store 98 _ _, _, _, _, none⟩ :: _) _ _); go_must (refine wpList_store_new rfl 98 _ _ rfl w2 _ #[.int .u64 0, .slice a1 n1 c1, .slice b0 k0 d0, .slice b1 k1 d1, .slice b2 k2 d2, .slice b3 k3 d3, .slice a6 n6 c6, .int .i64 0, .int .i64 0, .int .i64 0, .int .i64 0, .int .i64 0, .int .i64 0, .int .i64 0, .int .i64 0, .int .i64 0, .int .i64 0, .int .i64 0, .int .i64 0, .int .i64 0, .int .i64 0, .int .i64 0, .int .i64 0, .int .i64 0, .int .i64 0, .int .i64 0, .int .i64 0, .int .i64 0, .int .i64 0, .int .i64 0, .int .i64 0, .int .i64 0, .int .i64 0, .int .i64 0, .int .i64 0, .int .i64 0, .int .i64 0, .int .i64 0, .int .i64 0] 98 (by simp [Act.eval]) rfl (by kernel_rfl) rfl ?_ ?_); (simp [Value.oneCell'])))
  go_ret2
  have hsz := HH.out.2.2.1.size
  simp only [size_alloc] at hsz
  have MV := fun A => HH.out.1.move (((Fr.refl (fun _ => False) w2).alloc A).alloc _) (heap_alloc2_new w2 A _) (by omega)
  refine ⟨w2.heap.size + 1, MOwn (w2.heap.size + 1) vt rv vs, rfl, ⟨_, ln, vt, rv, vs, mrep_new (MV _), lined_new HM.out.1 HH.out.2.1, fun _ => Iff.rfl⟩, ?_, fun b hb => ?_⟩
  · exact ((((Below.refl _ w).alloc (Nat.le_refl _) _).trans (HH.out.2.2.1.mono (by simp))).alloc (by omega) _).alloc (by simp; omega) _
  · rcases hb with e | e | e | e
    · omega
    · have := HH.out.2.2.2.1 b (.inr (.inl e)); simp at this; omega
    · have := HH.out.2.2.2.1 b (.inr (.inr (.inl e))); simp at this; omega
    · have := HH.out.2.2.2.1 b (.inr (.inr (.inr e))); simp at this; omega

set_option maxRecDepth 100000 in
set_option maxHeartbeats 8000000 in
theorem fNew_no (sp : Int) (vT vP vL : Value) (T : List (Int × Int)) (Q L : List (Int × Int × Int × Int)) (w : World) (hg : Gl w) (iT : Inl w 2 vT (T.map tRow)) (iP : Inl w 4 vP (Q.map qRow)) (iL : Inl w 4 vL (L.map qRow)) (hf : ¬ Fits sp T Q L) :
    Calls Tryz.prog 12 #[.agg #[.int .i64 sp, vT, vP, vL]] w fun e w' => e = .returned (.tuple #[.pointer none, .int .i64 1]) ∧ Below w.heap.size w w' := by
  obtain ⟨aT, cT, eT⟩ := iT.slice
  obtain ⟨aP, cP, eP⟩ := iP.slice
  obtain ⟨aL, cL, eL⟩ := iL.slice
  rw [List.length_map] at eT eP eL
  subst eT eP eL
  by_cases hbad : ¬ (1 ≤ sp ∧ sp ≤ 3) ∨ ¬ (1 ≤ T.length ∧ T.length ≤ 6)
  · have B := mNew_se sp aT aP aL T.length Q.length L.length cT cP cL T Q L (w.alloc (.cells #[.int .i64 sp, .slice aT T.length cT, .slice aP Q.length cP, .slice aL L.length cL] 40)) (iT.alloc (by omega) _) (iP.alloc (by omega) _) (iL.alloc (by omega) _) rfl rfl rfl hbad
    have HB := hid B
    clear B hf iT iP iL hbad
    generalize T.length = mT at *
    generalize Q.length = mP at *
    generalize L.length = mL at *
    go_enter Tryz.func12, Tryz.ntmps12
    go_wp2_with fail
    refine HB.out.mono ?_
    rintro e w2 ⟨s, rfl, Bw⟩
    have hg2 : Gl (w2.alloc (.cells #[.int .u64 0, .slice none 0 0, .slice none 0 0, .slice none 0 0, .slice none 0 0, .slice none 0 0, .slice none 0 0, .int .i64 0, .int .i64 0, .int .i64 0, .int .i64 0, .int .i64 0, .int .i64 0, .int .i64 0, .int .i64 0, .int .i64 0, .int .i64 0, .int .i64 0, .int .i64 0, .int .i64 0, .int .i64 0, .int .i64 0, .int .i64 0, .int .i64 0, .int .i64 0, .int .i64 0, .int .i64 0, .int .i64 0, .int .i64 0, .int .i64 0, .int .i64 0, .int .i64 0, .int .i64 0, .int .i64 0, .int .i64 0, .int .i64 0, .int .i64 0, .int .i64 0, .int .i64 0] 98)) := (((hg.alloc _).below Bw).alloc _)
    have HBw := hid (And.intro Bw hg2)
    clear Bw hg2
    unfold mcells
    go_wp2_with (first
      | (go_at_call 40; refine (number_met1 s 1 _ HBw.out.2).mono ?_; rintro e w3 ⟨rfl, H3⟩; replace H3 := hid H3)
      | (with_reducible (show wpList _ _ _ (⟨_, .store 98 _ _, _, _, _, none⟩ :: _) _ _); go_must (refine wpList_store_new rfl 98 _ _ rfl w2 _ #[.int .u64 0, .slice none 0 0, .slice none 0 0, .slice none 0 0, .slice none 0 0, .slice none 0 0, .slice none 0 0, .int .i64 0, .int .i64 0, .int .i64 0, .int .i64 0, .int .i64 0, .int .i64 0, .int .i64 0, .int .i64 0, .int .i64 0, .int .i64 0, .int .i64 0, .int .i64 0, .int .i64 0, .int .i64 0, .int .i64 0, .int .i64 0, .int .i64 0, .int .i64 0, .int .i64 0, .int .i64 0, .int .i64 0, .int .i64 0, .int .i64 0, .int .i64 0, .int .i64 0, .int .i64 0, .int .i64 0, .int .i64 0, .int .i64 0, .int .i64 0, .int .i64 0, .int .i64 0] 98 (by simp [Act.eval]) rfl (by kernel_rfl) rfl ?_ ?_); (simp [Value.oneCell'])))
    go_ret2
    have hsz := HBw.out.1.size
    simp only [size_alloc] at hsz
    exact ⟨rfl, ((((Below.refl _ w).alloc (Nat.le_refl _) _).trans (HBw.out.1.mono (by simp))).alloc (by omega) _).trans (H3.out.mono (by simp; omega))⟩
  · have h1 : 1 ≤ sp ∧ sp ≤ 3 := Classical.byContradiction (fun h => hbad (.inl h))
    have h2 : 1 ≤ T.length ∧ T.length ≤ 6 := Classical.byContradiction (fun h => hbad (.inr h))
    have B := mNew_me sp aT aP aL T.length Q.length L.length cT cP cL T Q L (w.alloc (.cells #[.int .i64 sp, .slice aT T.length cT, .slice aP Q.length cP, .slice aL L.length cL] 40)) (iT.alloc (by omega) _) (iP.alloc (by omega) _) (iL.alloc (by omega) _) rfl rfl rfl h1 h2 hf
    have HB := hid B
    clear B hf iT iP iL hbad h2
    generalize T.length = mT at *
    generalize Q.length = mP at *
    generalize L.length = mL at *
    go_enter Tryz.func12, Tryz.ntmps12
    go_wp2_with fail
    refine HB.out.mono ?_
    rintro e w2 ⟨s, ⟨s2, rfl⟩, Bw⟩
    have hg2 : Gl (w2.alloc (.cells #[.int .u64 0, .slice none 0 0, .slice none 0 0, .slice none 0 0, .slice none 0 0, .slice none 0 0, .slice none 0 0, .int .i64 0, .int .i64 0, .int .i64 0, .int .i64 0, .int .i64 0, .int .i64 0, .int .i64 0, .int .i64 0, .int .i64 0, .int .i64 0, .int .i64 0, .int .i64 0, .int .i64 0, .int .i64 0, .int .i64 0, .int .i64 0, .int .i64 0, .int .i64 0, .int .i64 0, .int .i64 0, .int .i64 0, .int .i64 0, .int .i64 0, .int .i64 0, .int .i64 0, .int .i64 0, .int .i64 0, .int .i64 0, .int .i64 0, .int .i64 0, .int .i64 0, .int .i64 0] 98)) := (((hg.alloc _).below Bw).alloc _)
    have HBw := hid (And.intro Bw hg2)
    clear Bw hg2
    unfold mcells
    go_wp2_with (first
      | (go_at_call 40; refine (number_met2 s s2 1 _ HBw.out.2).mono ?_; rintro e w3 ⟨rfl, H3⟩; replace H3 := hid H3)
      | (with_reducible (show wpList _ _ _ (⟨_, .store 98 _ _, _, _, _, none⟩ :: _) _ _); go_must (refine wpList_store_new rfl 98 _ _ rfl w2 _ #[.int .u64 0, .slice none 0 0, .slice none 0 0, .slice none 0 0, .slice none 0 0, .slice none 0 0, .slice none 0 0, .int .i64 0, .int .i64 0, .int .i64 0, .int .i64 0, .int .i64 0, .int .i64 0, .int .i64 0, .int .i64 0, .int .i64 0, .int .i64 0, .int .i64 0, .int .i64 0, .int .i64 0, .int .i64 0, .int .i64 0, .int .i64 0, .int .i64 0, .int .i64 0, .int .i64 0, .int .i64 0, .int .i64 0, .int .i64 0, .int .i64 0, .int .i64 0, .int .i64 0, .int .i64 0, .int .i64 0, .int .i64 0, .int .i64 0, .int .i64 0, .int .i64 0, .int .i64 0] 98 (by simp [Act.eval]) rfl (by kernel_rfl) rfl ?_ ?_); (simp [Value.oneCell'])))
    go_ret2
    have hsz := HBw.out.1.size
    simp only [size_alloc] at hsz
    exact ⟨rfl, ((((Below.refl _ w).alloc (Nat.le_refl _) _).trans (HBw.out.1.mono (by simp))).alloc (by omega) _).trans (H3.out.mono (by simp; omega))⟩

theorem api : Api (fun w x S K => MRep w x 105 S K) where
  kept := fun h f t => h.kept f t
  lt := fun h b hb => h.lt b hb
  new_no := fun sp vT vP vL T Q L w hg iT iP iL hf => fNew_no sp vT vP vL T Q L w hg iT iP iL hf
  new_yes := fun sp vT vP vL T Q L w iT iP iL hf => fNew_yes sp vT vP vL T Q L w iT iP iL hf
  current := fun x S K _ w h ok => (fCurrent_any x S K w h ok.one).mono (by rintro e w' ⟨h9, rfl⟩; exact ⟨h9, Below.refl _ _⟩)
  tick := fun x S K n w h ok hn => fTick_any x S K n w h ok hn
  yield := fun x S K _ w h ok _ => fYield_any x S K w h ok.one ok.six
  look_no := fun x S K _ t w hg h ok ht => (fLook_no x S K t w hg h ok.six ht).mono (by rintro e w' ⟨h, b⟩; exact ⟨_, h, Sl.nil _ _ _, b, fun b hb => by simp [Value.ownBlock] at hb⟩)
  look_yes := fun x S K _ t w h ok ht => (fLook_yes x S K t w h ok.six ht).mono (by rintro e w' ⟨h, b⟩; exact ⟨_, h, Sl.nil _ _ _, b, fun b hb => by simp [Value.ownBlock] at hb⟩)
  space_no := fun x S K _ t w hg h ok ht => (fSpace_no x S K t w hg h ok.sp1 ok.sp3 ht).mono (by rintro e w' ⟨h, b⟩; exact ⟨_, _, h, Sl.nil _ _ _, Sl.nil _ _ _, b, fun b hb => by simp [Value.ownBlock] at hb, fun b hb => by simp [Value.ownBlock] at hb⟩)
  space_yes := fun x S K _ t w h ok t0 t1 => by
    obtain ⟨t, rfl⟩ := Int.eq_ofNat_of_zero_le t0
    exact (fSpace_yes x S K t w h ok.sp1 ok.sp3 t1 ok.rq ok.rl).mono (by rintro e w' ⟨av, nv, cv, au, nu, cu, h, N⟩; exact ⟨_, _, h, N.vs, N.us, N.below, N.new, N.ne⟩)
  load := fun x S K n pg ce w hg h ok => fLoad_any x S K n pg ce w hg h ok
  store := fun x S K n pg ce v w hg h ok => fStore_any x S K n pg ce v w hg h ok
  unmap := fun x S K n pg own w hg h ok => fUnmap_any x S K n pg own w hg h ok
  derive := fun x S K n a b r w hg h ok => fDerive_any x S K n a b r w hg h ok
  drop := fun x S K n a w hg h ok => fDrop_any x S K n a w hg h ok
end Go.Proofs.YtgiiegppaleldaaGreatDoor
