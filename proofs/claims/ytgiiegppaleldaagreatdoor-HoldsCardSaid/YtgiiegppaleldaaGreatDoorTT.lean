import Derived.Test.YtgiiegppaleldaaGreatDoorSS
import Derived.Test.YtgiiegppaleldaaGreatDoorG
import Derived.Test.YtgiiegppaleldaaGreatDoorH
/- made. -/
namespace Go.Proofs.YtgiiegppaleldaaGreatDoor
open Go.RowKit

theorem Inl.inlt' {w : World} {size : Nat} {v : Value} {rows : List (List Value)} (h : Inl w size v rows) (hs : 0 < size) {k : Nat} (hk : inBlock v = some k) : k < w.heap.size := by
  refine h.lt hs (fun e => ?_) hk
  subst e
  obtain ⟨a, c, rfl, _⟩ := h.form
  cases a <;> simp [inBlock] at hk

theorem t_one (T : List (Int × Int)) : ∀ r ∈ T.map tRow ++ List.replicate 8 [.int .i64 0, .int .i64 (-77)], ∀ u ∈ r, u.oneCell' = true := by
  intro r hr u hu
  rcases List.mem_append.1 hr with h | h
  · obtain ⟨p, _, rfl⟩ := List.mem_map.1 h
    simp [tRow] at hu
    rcases hu with rfl | rfl <;> rfl
  · rw [List.mem_replicate] at h
    rw [h.2] at hu
    simp at hu
    rcases hu with rfl | rfl <;> rfl
theorem q_one (T : List (Int × Int × Int × Int)) : ∀ r ∈ T.map qRow ++ List.replicate 8 [.int .i64 0, .int .i64 (-77), .int .i64 0, .int .i64 0], ∀ u ∈ r, u.oneCell' = true := by
  intro r hr u hu
  rcases List.mem_append.1 hr with h | h
  · obtain ⟨p, _, rfl⟩ := List.mem_map.1 h
    simp [qRow] at hu
    rcases hu with rfl | rfl | rfl | rfl <;> rfl
  · rw [List.mem_replicate] at h
    rw [h.2] at hu
    simp at hu
    rcases hu with rfl | rfl | rfl <;> rfl

theorem Tryz.infoN51 : (Tryz.prog.info? 51).map (fun i => (i.zero, i.size, i.bytes)) = some (some (.agg #[.pointer none, .pointer none]), 2, 16) := by kernel_rfl

theorem Fr.after2 {S T : Nat → Prop} {a b c : World} (h : Fr S a b) (k : Fr T b c) (ht : ∀ i, i < a.heap.size → T i → S i) : Fr S a c := (h.join k).mono (fun i hi e => e.elim id (ht i hi))

theorem made_end {Rep : World → Nat → (Nat → Prop) → RK → Prop} (A : Api Rep) {b : Nat} {K : RK} {ps l1 l2 l3 : Value} {R : List (List Value)} {w w5 w6 X w7 : World} {x y : Nat} {S : Nat → Prop} {vt vp vl u : Value}
    (lb : b < w.heap.size) (hne : ps.ownBlock ≠ some b) (hps : Sl w 51 2 ps R) (B06 : Below w.heap.size w w6) (RX : Rep w6 x S K) (SX : ∀ k, S k → w.heap.size ≤ k) (SX5 : ∀ k, S k → k < w5.heap.size) (RY : RefAt w6 y K vt vp vl) (RYo : ∀ k, RefOwn y vt vp vl k → w5.heap.size ≤ k) (z5 : w.heap.size ≤ w5.heap.size) (z6 : w5.heap.size ≤ w6.heap.size)
    (FX : Fr (fun _ => False) w6 X) (G : Grew 51 2 ps X u (R ++ [[.pointer (some ⟨x, 0, none⟩), .pointer (some ⟨y, 0, none⟩)]]) w7) (hb4 : w7.heap[b]? = some (.cells #[ps, l1, l2, l3] 34 (0, 0))) :
    Made Rep b K ps l1 l2 l3 R w x y S vt vp vl u (w7.setCell ⟨b, 0, none⟩ u) := by
  have F7 : Fr (fun k => ps.ownBlock = some k) w6 w7 := G.fr (FX.mono (fun _ _ h => h.elim)) (fun k hk _ => hk)
  have F8 : Fr (fun k => k = b) w7 (w7.setCell ⟨b, 0, none⟩ u) := (Fr.refl (fun k => k = b) w7).setCell (p := ⟨b, 0, none⟩) (fun _ => rfl) _
  have F := F7.join F8
  have lp : ∀ k, ps.ownBlock = some k → k < w.heap.size := fun k hk => hps.lt hk
  have zX := FX.size
  have uo : ∀ k, u.ownBlock = some k → w6.heap.size ≤ k ∨ ps.ownBlock = some k := fun k hk => by
    rcases G.at_ k hk with e | e
    · exact .inl (by omega)
    · exact .inr e
  refine ⟨heap_setCell_same w7 b 0 _ 34 u hb4, G.sl.kept F8 (fun k hk e => ?_), A.kept RX F (fun k hk e => ?_), RY.kept F (fun k hk e => ?_), (Fr.of_below B06 _).after2 F (fun k _ e => ?_), SX, fun k hk => ⟨by have := RYo k hk; omega, fun hs => by have := RYo k hk; have := SX5 k hs; omega⟩, fun k hk => ?_⟩
  · rcases uo k hk with h | h
    · have := B06.size; omega
    · exact hne (e ▸ h)
  · have := SX k hk
    rcases e with e | e
    · have := lp k e; omega
    · omega
  · have := RYo k hk
    rcases e with e | e
    · have := lp k e; omega
    · omega
  · rcases e with e | e
    · exact .inr e
    · exact .inl e
  · rcases uo k hk with h | h
    · left
      refine ⟨by have := B06.size; omega, fun hs => ?_, fun hr => ?_⟩
      · have := SX5 k hs; omega
      · have := RY.lt hr; omega
    · exact .inr h

/-- The lent lists, as the program has them. -/
structure Lent (sp : Int) (T : List (Int × Int)) (Q L : List (Int × Int × Int × Int)) (mT mP mL bt bp bl : Nat) (w : World) : Prop where
  st : Sl w 65 2 (.slice (some ⟨bt, 0, none⟩) (mT + 8) (mT + 8)) (T.map tRow ++ List.replicate 8 [.int .i64 0, .int .i64 (-77)])
  sq : Sl w 67 4 (.slice (some ⟨bp, 0, none⟩) (mP + 8) (mP + 8)) (Q.map qRow ++ List.replicate 8 [.int .i64 0, .int .i64 (-77), .int .i64 0, .int .i64 0])
  sl : Sl w 69 4 (.slice (some ⟨bl, 0, none⟩) (mL + 8) (mL + 8)) (L.map qRow ++ List.replicate 8 [.int .i64 0, .int .i64 (-77), .int .i64 0, .int .i64 0])

theorem Lent.below {sp : Int} {T : List (Int × Int)} {Q L : List (Int × Int × Int × Int)} {mT mP mL bt bp bl : Nat} {w w' : World} (h : Lent sp T Q L mT mP mL bt bp bl w) (hb : Below w.heap.size w w') : Lent sp T Q L mT mP mL bt bp bl w' := ⟨h.st.below hb, h.sq.below hb, h.sl.below hb⟩
theorem Lent.it {sp : Int} {T : List (Int × Int)} {Q L : List (Int × Int × Int × Int)} {mT mP mL bt bp bl : Nat} {w : World} (h : Lent sp T Q L mT mP mL bt bp bl w) (e : T.length = mT) : Inl w 2 (.slice (some ⟨bt, 0, none⟩) mT (mT + 8)) (T.map tRow) := by
  have := h.st.inl (t_one T) mT (mT + 8) (by simp; omega)
  rwa [List.take_append_of_le_length (by simp; omega), List.take_of_length_le (by simp; omega)] at this
theorem Lent.iq {sp : Int} {T : List (Int × Int)} {Q L : List (Int × Int × Int × Int)} {mT mP mL bt bp bl : Nat} {w : World} (h : Lent sp T Q L mT mP mL bt bp bl w) (e : Q.length = mP) : Inl w 4 (.slice (some ⟨bp, 0, none⟩) mP (mP + 8)) (Q.map qRow) := by
  have := h.sq.inl (q_one Q) mP (mP + 8) (by simp; omega)
  rwa [List.take_append_of_le_length (by simp; omega), List.take_of_length_le (by simp; omega)] at this
theorem Lent.il {sp : Int} {T : List (Int × Int)} {Q L : List (Int × Int × Int × Int)} {mT mP mL bt bp bl : Nat} {w : World} (h : Lent sp T Q L mT mP mL bt bp bl w) (e : L.length = mL) : Inl w 4 (.slice (some ⟨bl, 0, none⟩) mL (mL + 8)) (L.map qRow) := by
  have := h.sl.inl (q_one L) mL (mL + 8) (by simp; omega)
  rwa [List.take_append_of_le_length (by simp; omega), List.take_of_length_le (by simp; omega)] at this

theorem cfg4 {w : World} {p : Nat} {c0 c1 c2 c3 c4 c5 c6 c7 c8 c9 c10 c11 c12 c13 a0 a1 a2 a3 : Value} {t : TypeId} (h : w.heap[p]? = some (.cells #[c0, c1, c2, c3, c4, c5, c6, c7, c8, c9, c10, c11, c12, c13, a0, a1, a2, a3] t (0, 0))) :
    w.cell? ⟨p, 14, none⟩ = some a0 ∧ w.cell? ⟨p, 15, none⟩ = some a1 ∧ w.cell? ⟨p, 16, none⟩ = some a2 ∧ w.cell? ⟨p, 17, none⟩ = some a3 :=
  ⟨(cell_of_row w p 14 _ _ _ h).trans rfl, (cell_of_row w p 15 _ _ _ h).trans rfl, (cell_of_row w p 16 _ _ _ h).trans rfl, (cell_of_row w p 17 _ _ _ h).trans rfl⟩
theorem cells3 {w : World} {p : Nat} {a0 a1 a2 : Value} {t : TypeId} (h : w.heap[p]? = some (.cells #[a0, a1, a2] t (0, 0))) : w.cell? ⟨p, 0, none⟩ = some a0 ∧ w.cell? ⟨p, 1, none⟩ = some a1 ∧ w.cell? ⟨p, 2, none⟩ = some a2 :=
  ⟨(cell_of_row w p 0 _ _ _ h).trans rfl, (cell_of_row w p 1 _ _ _ h).trans rfl, (cell_of_row w p 2 _ _ _ h).trans rfl⟩

set_option maxRecDepth 100000 in
set_option maxHeartbeats 8000000 in
theorem made_no {Rep : World → Nat → (Nat → Prop) → RK → Prop} (A : Api Rep) (b : Nat) (kd ka kb kcc kd2 kn : Int) (ky : Bool) (m0 m2 m3 m4 m5 m6 : Int) (aw : Option Addr) (nw cw : Nat) (sp : Int) (aT aP aL : Option Addr) (mT mP mL cT cP cL : Nat) (T : List (Int × Int)) (Q L : List (Int × Int × Int × Int)) (w : World) (hgl : Gl w) (bT : mT ≤ 8796093022208) (bP : mP ≤ 4398046511104) (bL : mL ≤ 4398046511104) (eT : T.length = mT) (eP : Q.length = mP) (eL : L.length = mL) (iT : Inl w 2 (.slice aT mT cT) (T.map tRow)) (iP : Inl w 4 (.slice aP mP cP) (Q.map qRow)) (iL : Inl w 4 (.slice aL mL cL) (L.map qRow)) (hf : ¬ Fits sp T Q L) :
    Calls Tryz.prog 6 #[.pointer (some ⟨b, 0, none⟩), .agg #[.int .i64 kd, .int .i64 ka, .int .i64 kb, .int .i64 kcc, .int .i64 kd2, .int .i64 kn, .bool ky, .int .i64 m0, .slice aw nw cw, .int .i64 m2, .int .i64 m3, .int .i64 m4, .int .i64 m5, .int .i64 m6, .int .i64 sp, .slice aT mT cT, .slice aP mP cP, .slice aL mL cL]] w fun e w' => e = .returned (.bool true) ∧ Below w.heap.size w w' := by
  have C := lentConfig_any sp (.slice aT mT cT) (.slice aP mP cP) (.slice aL mL cL) T Q L (w.alloc (.cells #[.int .i64 kd, .int .i64 ka, .int .i64 kb, .int .i64 kcc, .int .i64 kd2, .int .i64 kn, .bool ky, .int .i64 m0, .slice aw nw cw, .int .i64 m2, .int .i64 m3, .int .i64 m4, .int .i64 m5, .int .i64 m6, .int .i64 sp, .slice aT mT cT, .slice aP mP cP, .slice aL mL cL] 46)) (by omega) (by omega) (by omega) (iT.alloc (by omega) _) (iP.alloc (by omega) _) (iL.alloc (by omega) _)
  rw [eT, eP, eL] at C
  have HC := hid C
  have HI := hid (And.intro iT (And.intro iP (And.intro iL (And.intro eT (And.intro eP (And.intro eL (And.intro hf hgl)))))))
  clear C iT iP iL eT eP eL hf hgl
  go_enter Tryz.func6, Tryz.ntmps6
  go_wp2_with fail
  refine HC.out.mono ?_
  rintro e w2 ⟨bt, bp, bl, rfl, s1, s2, s3, B2, z1, z2, z3, n1, n2, n3⟩
  have LE : Lent sp T Q L mT mP mL bt bp bl w2 := ⟨s1, s2, s3⟩
  clear s1 s2 s3
  simp only [size_alloc] at z1 z2 z3
  have y2 := B2.size
  simp only [size_alloc] at y2
  have B2' : Below w.heap.size w w2 := ((Below.refl _ w).alloc (Nat.le_refl _) _).trans (B2.mono (by simp))
  have p2 : w2.heap[w.heap.size]? = some (.cells #[.int .i64 kd, .int .i64 ka, .int .i64 kb, .int .i64 kcc, .int .i64 kd2, .int .i64 kn, .bool ky, .int .i64 m0, .slice aw nw cw, .int .i64 m2, .int .i64 m3, .int .i64 m4, .int .i64 m5, .int .i64 m6, .int .i64 sp, .slice aT mT cT, .slice aP mP cP, .slice aL mL cL] 46) := (B2.block _ (by simp)).trans (heap_alloc_new w _)
  have B3 : Below w2.heap.size w2 ((w2.alloc (.cells #[.int .i64 sp, .slice (some ⟨bt, 0, none⟩) mT (mT + 8), .slice (some ⟨bp, 0, none⟩) mP (mP + 8), .slice (some ⟨bl, 0, none⟩) mL (mL + 8)] 40)).alloc (.cells #[.slice (some ⟨bt, 0, none⟩) (mT + 8) (mT + 8), .slice (some ⟨bp, 0, none⟩) (mP + 8) (mP + 8), .slice (some ⟨bl, 0, none⟩) (mL + 8) (mL + 8)] 55)) := ((Below.refl _ w2).alloc (Nat.le_refl _) _).alloc (by simp) _
  have LE3 := LE.below B3
  have g3 : Gl ((w2.alloc (.cells #[.int .i64 sp, .slice (some ⟨bt, 0, none⟩) mT (mT + 8), .slice (some ⟨bp, 0, none⟩) mP (mP + 8), .slice (some ⟨bl, 0, none⟩) mL (mL + 8)] 40)).alloc (.cells #[.slice (some ⟨bt, 0, none⟩) (mT + 8) (mT + 8), .slice (some ⟨bp, 0, none⟩) (mP + 8) (mP + 8), .slice (some ⟨bl, 0, none⟩) (mL + 8) (mL + 8)] 55)) := ((HI.out.2.2.2.2.2.2.2.below B2').below B3)
  have D := A.new_no sp _ _ _ T Q L ((w2.alloc (.cells #[.int .i64 sp, .slice (some ⟨bt, 0, none⟩) mT (mT + 8), .slice (some ⟨bp, 0, none⟩) mP (mP + 8), .slice (some ⟨bl, 0, none⟩) mL (mL + 8)] 40)).alloc (.cells #[.slice (some ⟨bt, 0, none⟩) (mT + 8) (mT + 8), .slice (some ⟨bp, 0, none⟩) (mP + 8) (mP + 8), .slice (some ⟨bl, 0, none⟩) (mL + 8) (mL + 8)] 55)) g3 (LE3.it HI.out.2.2.2.1) (LE3.iq HI.out.2.2.2.2.1) (LE3.il HI.out.2.2.2.2.2.1) HI.out.2.2.2.2.2.2.1
  have h55 : ((w2.alloc (.cells #[.int .i64 sp, .slice (some ⟨bt, 0, none⟩) mT (mT + 8), .slice (some ⟨bp, 0, none⟩) mP (mP + 8), .slice (some ⟨bl, 0, none⟩) mL (mL + 8)] 40)).alloc (.cells #[.slice (some ⟨bt, 0, none⟩) (mT + 8) (mT + 8), .slice (some ⟨bp, 0, none⟩) (mP + 8) (mP + 8), .slice (some ⟨bl, 0, none⟩) (mL + 8) (mL + 8)] 55)).heap[w2.heap.size + 1]? = some (.cells #[.slice (some ⟨bt, 0, none⟩) (mT + 8) (mT + 8), .slice (some ⟨bp, 0, none⟩) (mP + 8) (mP + 8), .slice (some ⟨bl, 0, none⟩) (mL + 8) (mL + 8)] 55) := heap_alloc2_new w2 _ _
  have p3 : ((w2.alloc (.cells #[.int .i64 sp, .slice (some ⟨bt, 0, none⟩) mT (mT + 8), .slice (some ⟨bp, 0, none⟩) mP (mP + 8), .slice (some ⟨bl, 0, none⟩) mL (mL + 8)] 40)).alloc (.cells #[.slice (some ⟨bt, 0, none⟩) (mT + 8) (mT + 8), .slice (some ⟨bp, 0, none⟩) (mP + 8) (mP + 8), .slice (some ⟨bl, 0, none⟩) (mL + 8) (mL + 8)] 55)).heap[w.heap.size]? = some (.cells #[.int .i64 kd, .int .i64 ka, .int .i64 kb, .int .i64 kcc, .int .i64 kd2, .int .i64 kn, .bool ky, .int .i64 m0, .slice aw nw cw, .int .i64 m2, .int .i64 m3, .int .i64 m4, .int .i64 m5, .int .i64 m6, .int .i64 sp, .slice aT mT cT, .slice aP mP cP, .slice aL mL cL] 46) := (B3.block _ (by omega)).trans p2
  have HD := hid (And.intro D (And.intro h55 (And.intro p3 (And.intro LE3 (And.intro B2' (And.intro B3 LE))))))
  have y3 : ((w2.alloc (.cells #[.int .i64 sp, .slice (some ⟨bt, 0, none⟩) mT (mT + 8), .slice (some ⟨bp, 0, none⟩) mP (mP + 8), .slice (some ⟨bl, 0, none⟩) mL (mL + 8)] 40)).alloc (.cells #[.slice (some ⟨bt, 0, none⟩) (mT + 8) (mT + 8), .slice (some ⟨bp, 0, none⟩) (mP + 8) (mP + 8), .slice (some ⟨bl, 0, none⟩) (mL + 8) (mL + 8)] 55)).heap.size = w2.heap.size + 2 := by simp
  clear D h55 p3 LE3 B2' B3 LE g3 p2 B2
  have BK : ∀ w4, Lent sp T Q L mT mP mL bt bp bl w4 → Below w.heap.size w w4 → Calls Tryz.prog 13 #[.agg #[.slice (some ⟨bt, 0, none⟩) (mT + 8) (mT + 8), .slice (some ⟨bp, 0, none⟩) (mP + 8) (mP + 8), .slice (some ⟨bl, 0, none⟩) (mL + 8) (mL + 8)], .agg #[.int .i64 sp, .slice aT mT cT, .slice aP mP cP, .slice aL mL cL]] w4 fun e w' => e = .returned (.bool true) ∧ Fr (fun q => q = bt ∨ q = bp ∨ q = bl) w4 w' := by
    intro w4 le bw
    have h := backConfig_any sp (.slice aT mT cT) (.slice aP mP cP) (.slice aL mL cL) T Q L bt bp bl w4 (by have := HI.out.2.2.2.1; omega) (by have := HI.out.2.2.2.2.1; omega) (by have := HI.out.2.2.2.2.2.1; omega) (HI.out.1.below (by omega) bw) (HI.out.2.1.below (by omega) bw) (HI.out.2.2.1.below (by omega) bw)
      (by rw [HI.out.2.2.2.1]; exact le.st) (by rw [HI.out.2.2.2.2.1]; exact le.sq) (by rw [HI.out.2.2.2.2.2.1]; exact le.sl) (fun k hk => by
        have : k < w.heap.size := by
          rcases hk with h | h | h
          · exact HI.out.1.inlt' (by omega) h
          · exact HI.out.2.1.inlt' (by omega) h
          · exact HI.out.2.2.1.inlt' (by omega) h
        omega) n1 n2 n3
    rw [HI.out.2.2.2.1, HI.out.2.2.2.2.1, HI.out.2.2.2.2.2.1] at h
    exact h
  have RN : ∀ w5, Below w.heap.size w w5 → Calls Tryz.prog 14 #[.agg #[.int .i64 sp, .slice aT mT cT, .slice aP mP cP, .slice aL mL cL]] w5 fun e w' => e = .returned (.tuple #[.pointer none, .int .i64 1]) ∧ Below w5.heap.size w5 w' :=
    fun w5 bw => refNew_no sp _ _ _ T Q L w5 (HI.out.1.below (by omega) bw) (HI.out.2.1.below (by omega) bw) (HI.out.2.2.1.below (by omega) bw) HI.out.2.2.2.2.2.2.1
  have HBK := hid (And.intro BK RN)
  clear BK RN
  go_wp2_with (first
    | (go_at_call 12; refine HD.out.1.mono ?_; rintro e w4 ⟨rfl, B4⟩; rw [y3] at B4; have q55 := (B4.block (w2.heap.size + 1) (by omega)).trans HD.out.2.1; have qp := (B4.block w.heap.size (by omega)).trans HD.out.2.2.1; obtain ⟨e0, e1, e2⟩ := cells3 q55; obtain ⟨f0, f1, f2, f3⟩ := cfg4 qp; have LE4 := HD.out.2.2.2.1.below (by rw [y3]; exact B4); have y4 := B4.size; rw [y3] at y4; have B04 : Below w.heap.size w w4 := (HD.out.2.2.2.2.1.trans (HD.out.2.2.2.2.2.1.mono (by omega))).trans (B4.mono (by omega)); have HQ := hid (And.intro LE4 (And.intro B04 qp)); clear B4 q55 qp LE4 B04)
    | (go_at_call 13; refine (HBK.out.1 w4 HQ.out.1 HQ.out.2.1).mono ?_; rintro e w5 ⟨rfl, F5⟩; have B05 : Below w.heap.size w w5 := HQ.out.2.1.trans (F5.to_below HQ.out.2.1.size (fun k e => by omega)); have qp5 := (F5.block w.heap.size (Array.getElem?_eq_some_iff.1 HQ.out.2.2).1 (by omega)).trans HQ.out.2.2; obtain ⟨h0, h1, h2, h3⟩ := cfg4 qp5; replace B05 := hid B05; clear F5 qp5)
    | (go_at_call 14; refine (HBK.out.2 w5 B05.out).mono ?_; rintro e w6 ⟨rfl, B6⟩; replace B6 := hid B6))
  go_ret
  exact ⟨rfl, B05.out.trans (B6.out.mono B05.out.size)⟩
set_option maxRecDepth 100000 in
set_option maxHeartbeats 8000000 in
theorem made_yes {Rep : World → Nat → (Nat → Prop) → RK → Prop} (A : Api Rep) (b : Nat) (kd ka kb kcc kd2 kn : Int) (ky : Bool) (m0 m2 m3 m4 m5 m6 : Int) (aw : Option Addr) (nw cw : Nat) (sp : Int) (aT aP aL : Option Addr) (mT mP mL cT cP cL : Nat) (T : List (Int × Int)) (Q L : List (Int × Int × Int × Int)) (w : World) (hgl : Gl w) (bT : mT ≤ 8796093022208) (bP : mP ≤ 4398046511104) (bL : mL ≤ 4398046511104) (eT : T.length = mT) (eP : Q.length = mP) (eL : L.length = mL) (iT : Inl w 2 (.slice aT mT cT) (T.map tRow)) (iP : Inl w 4 (.slice aP mP cP) (Q.map qRow)) (iL : Inl w 4 (.slice aL mL cL) (L.map qRow)) (hf : Fits sp T Q L) (bQQ : Q.length ≤ 1000000000000) (bLL : L.length ≤ 1000000000000) (ps l1 l2 l3 : Value) (R : List (List Value)) (hwb : w.heap[b]? = some (.cells #[ps, l1, l2, l3] 34 (0, 0))) (hps : Sl w 51 2 ps R) (hR : R.length ≤ 1000000000000) (hne : ps.ownBlock ≠ some b) :
    Calls Tryz.prog 6 #[.pointer (some ⟨b, 0, none⟩), .agg #[.int .i64 kd, .int .i64 ka, .int .i64 kb, .int .i64 kcc, .int .i64 kd2, .int .i64 kn, .bool ky, .int .i64 m0, .slice aw nw cw, .int .i64 m2, .int .i64 m3, .int .i64 m4, .int .i64 m5, .int .i64 m6, .int .i64 sp, .slice aT mT cT, .slice aP mP cP, .slice aL mL cL]] w fun e w' => e = .returned (.bool true) ∧ ∃ x y S vt vp vl ps', Made Rep b (RK.new sp T Q L) ps l1 l2 l3 R w x y S vt vp vl ps' w' := by
  obtain ⟨i0, hi0, hz0, hz1, hz2⟩ := info_parts Tryz.infoN51
  obtain ⟨ap, cp, eps⟩ := hps.slice
  obtain ⟨mR, hmR⟩ : ∃ m, R.length = m := ⟨_, rfl⟩
  rw [hmR] at eps hR
  subst eps
  have lb := (Array.getElem?_eq_some_iff.1 hwb).1
  have HW := hid (And.intro hwb (And.intro hps (And.intro hne (And.intro hmR (And.intro bQQ bLL)))))
  clear hwb hps hne hmR bQQ bLL
  have C := lentConfig_any sp (.slice aT mT cT) (.slice aP mP cP) (.slice aL mL cL) T Q L (w.alloc (.cells #[.int .i64 kd, .int .i64 ka, .int .i64 kb, .int .i64 kcc, .int .i64 kd2, .int .i64 kn, .bool ky, .int .i64 m0, .slice aw nw cw, .int .i64 m2, .int .i64 m3, .int .i64 m4, .int .i64 m5, .int .i64 m6, .int .i64 sp, .slice aT mT cT, .slice aP mP cP, .slice aL mL cL] 46)) (by omega) (by omega) (by omega) (iT.alloc (by omega) _) (iP.alloc (by omega) _) (iL.alloc (by omega) _)
  rw [eT, eP, eL] at C
  have HC := hid C
  have HI := hid (And.intro iT (And.intro iP (And.intro iL (And.intro eT (And.intro eP (And.intro eL (And.intro hf hgl)))))))
  clear C iT iP iL eT eP eL hf hgl
  go_enter Tryz.func6, Tryz.ntmps6
  go_wp2_with fail
  refine HC.out.mono ?_
  rintro e w2 ⟨bt, bp, bl, rfl, s1, s2, s3, B2, z1, z2, z3, n1, n2, n3⟩
  have LE : Lent sp T Q L mT mP mL bt bp bl w2 := ⟨s1, s2, s3⟩
  clear s1 s2 s3
  simp only [size_alloc] at z1 z2 z3
  have y2 := B2.size
  simp only [size_alloc] at y2
  have B2' : Below w.heap.size w w2 := ((Below.refl _ w).alloc (Nat.le_refl _) _).trans (B2.mono (by simp))
  have p2 : w2.heap[w.heap.size]? = some (.cells #[.int .i64 kd, .int .i64 ka, .int .i64 kb, .int .i64 kcc, .int .i64 kd2, .int .i64 kn, .bool ky, .int .i64 m0, .slice aw nw cw, .int .i64 m2, .int .i64 m3, .int .i64 m4, .int .i64 m5, .int .i64 m6, .int .i64 sp, .slice aT mT cT, .slice aP mP cP, .slice aL mL cL] 46) := (B2.block _ (by simp)).trans (heap_alloc_new w _)
  have B3 : Below w2.heap.size w2 ((w2.alloc (.cells #[.int .i64 sp, .slice (some ⟨bt, 0, none⟩) mT (mT + 8), .slice (some ⟨bp, 0, none⟩) mP (mP + 8), .slice (some ⟨bl, 0, none⟩) mL (mL + 8)] 40)).alloc (.cells #[.slice (some ⟨bt, 0, none⟩) (mT + 8) (mT + 8), .slice (some ⟨bp, 0, none⟩) (mP + 8) (mP + 8), .slice (some ⟨bl, 0, none⟩) (mL + 8) (mL + 8)] 55)) := ((Below.refl _ w2).alloc (Nat.le_refl _) _).alloc (by simp) _
  have LE3 := LE.below B3
  have g3 : Gl ((w2.alloc (.cells #[.int .i64 sp, .slice (some ⟨bt, 0, none⟩) mT (mT + 8), .slice (some ⟨bp, 0, none⟩) mP (mP + 8), .slice (some ⟨bl, 0, none⟩) mL (mL + 8)] 40)).alloc (.cells #[.slice (some ⟨bt, 0, none⟩) (mT + 8) (mT + 8), .slice (some ⟨bp, 0, none⟩) (mP + 8) (mP + 8), .slice (some ⟨bl, 0, none⟩) (mL + 8) (mL + 8)] 55)) := ((HI.out.2.2.2.2.2.2.2.below B2').below B3)
  have D := A.new_yes sp _ _ _ T Q L ((w2.alloc (.cells #[.int .i64 sp, .slice (some ⟨bt, 0, none⟩) mT (mT + 8), .slice (some ⟨bp, 0, none⟩) mP (mP + 8), .slice (some ⟨bl, 0, none⟩) mL (mL + 8)] 40)).alloc (.cells #[.slice (some ⟨bt, 0, none⟩) (mT + 8) (mT + 8), .slice (some ⟨bp, 0, none⟩) (mP + 8) (mP + 8), .slice (some ⟨bl, 0, none⟩) (mL + 8) (mL + 8)] 55)) (LE3.it HI.out.2.2.2.1) (LE3.iq HI.out.2.2.2.2.1) (LE3.il HI.out.2.2.2.2.2.1) HI.out.2.2.2.2.2.2.1
  have h55 : ((w2.alloc (.cells #[.int .i64 sp, .slice (some ⟨bt, 0, none⟩) mT (mT + 8), .slice (some ⟨bp, 0, none⟩) mP (mP + 8), .slice (some ⟨bl, 0, none⟩) mL (mL + 8)] 40)).alloc (.cells #[.slice (some ⟨bt, 0, none⟩) (mT + 8) (mT + 8), .slice (some ⟨bp, 0, none⟩) (mP + 8) (mP + 8), .slice (some ⟨bl, 0, none⟩) (mL + 8) (mL + 8)] 55)).heap[w2.heap.size + 1]? = some (.cells #[.slice (some ⟨bt, 0, none⟩) (mT + 8) (mT + 8), .slice (some ⟨bp, 0, none⟩) (mP + 8) (mP + 8), .slice (some ⟨bl, 0, none⟩) (mL + 8) (mL + 8)] 55) := heap_alloc2_new w2 _ _
  have p3 : ((w2.alloc (.cells #[.int .i64 sp, .slice (some ⟨bt, 0, none⟩) mT (mT + 8), .slice (some ⟨bp, 0, none⟩) mP (mP + 8), .slice (some ⟨bl, 0, none⟩) mL (mL + 8)] 40)).alloc (.cells #[.slice (some ⟨bt, 0, none⟩) (mT + 8) (mT + 8), .slice (some ⟨bp, 0, none⟩) (mP + 8) (mP + 8), .slice (some ⟨bl, 0, none⟩) (mL + 8) (mL + 8)] 55)).heap[w.heap.size]? = some (.cells #[.int .i64 kd, .int .i64 ka, .int .i64 kb, .int .i64 kcc, .int .i64 kd2, .int .i64 kn, .bool ky, .int .i64 m0, .slice aw nw cw, .int .i64 m2, .int .i64 m3, .int .i64 m4, .int .i64 m5, .int .i64 m6, .int .i64 sp, .slice aT mT cT, .slice aP mP cP, .slice aL mL cL] 46) := (B3.block _ (by omega)).trans p2
  have HD := hid (And.intro D (And.intro h55 (And.intro p3 (And.intro LE3 (And.intro B2' (And.intro B3 LE))))))
  have y3 : ((w2.alloc (.cells #[.int .i64 sp, .slice (some ⟨bt, 0, none⟩) mT (mT + 8), .slice (some ⟨bp, 0, none⟩) mP (mP + 8), .slice (some ⟨bl, 0, none⟩) mL (mL + 8)] 40)).alloc (.cells #[.slice (some ⟨bt, 0, none⟩) (mT + 8) (mT + 8), .slice (some ⟨bp, 0, none⟩) (mP + 8) (mP + 8), .slice (some ⟨bl, 0, none⟩) (mL + 8) (mL + 8)] 55)).heap.size = w2.heap.size + 2 := by simp
  clear D h55 p3 LE3 B2' B3 LE g3 p2 B2
  have BK : ∀ w4, Lent sp T Q L mT mP mL bt bp bl w4 → Below w.heap.size w w4 → Calls Tryz.prog 13 #[.agg #[.slice (some ⟨bt, 0, none⟩) (mT + 8) (mT + 8), .slice (some ⟨bp, 0, none⟩) (mP + 8) (mP + 8), .slice (some ⟨bl, 0, none⟩) (mL + 8) (mL + 8)], .agg #[.int .i64 sp, .slice aT mT cT, .slice aP mP cP, .slice aL mL cL]] w4 fun e w' => e = .returned (.bool true) ∧ Fr (fun q => q = bt ∨ q = bp ∨ q = bl) w4 w' := by
    intro w4 le bw
    have h := backConfig_any sp (.slice aT mT cT) (.slice aP mP cP) (.slice aL mL cL) T Q L bt bp bl w4 (by have := HI.out.2.2.2.1; omega) (by have := HI.out.2.2.2.2.1; omega) (by have := HI.out.2.2.2.2.2.1; omega) (HI.out.1.below (by omega) bw) (HI.out.2.1.below (by omega) bw) (HI.out.2.2.1.below (by omega) bw)
      (by rw [HI.out.2.2.2.1]; exact le.st) (by rw [HI.out.2.2.2.2.1]; exact le.sq) (by rw [HI.out.2.2.2.2.2.1]; exact le.sl) (fun k hk => by
        have : k < w.heap.size := by
          rcases hk with h | h | h
          · exact HI.out.1.inlt' (by omega) h
          · exact HI.out.2.1.inlt' (by omega) h
          · exact HI.out.2.2.1.inlt' (by omega) h
        omega) n1 n2 n3
    rw [HI.out.2.2.2.1, HI.out.2.2.2.2.1, HI.out.2.2.2.2.2.1] at h
    exact h
  have RN : ∀ w5, Below w.heap.size w w5 → Calls Tryz.prog 14 #[.agg #[.int .i64 sp, .slice aT mT cT, .slice aP mP cP, .slice aL mL cL]] w5 fun e w' => ∃ y vt vp vl, e = .returned (.tuple #[.pointer (some ⟨y, 0, none⟩), .int .i64 0]) ∧ RefAt w' y (RK.new sp T Q L) vt vp vl ∧ Below w5.heap.size w5 w' ∧ w5.heap.size ≤ y ∧ ∀ k, (vt.ownBlock = some k ∨ vp.ownBlock = some k ∨ vl.ownBlock = some k) → w5.heap.size ≤ k :=
    fun w5 bw => refNew_yes sp _ _ _ T Q L w5 (HI.out.1.below (by omega) bw) (HI.out.2.1.below (by omega) bw) (HI.out.2.2.1.below (by omega) bw) HI.out.2.2.2.2.2.2.1 HW.out.2.2.2.2.1 HW.out.2.2.2.2.2
  have HBK := hid (And.intro BK RN)
  clear BK RN
  go_wp2_with (first
    | (go_at_call 12; refine HD.out.1.mono ?_; rintro e w4 ⟨x, S, rfl, RX, B4, SX⟩; rw [y3] at B4 SX; have q55 := (B4.block (w2.heap.size + 1) (by omega)).trans HD.out.2.1; have qp := (B4.block w.heap.size (by omega)).trans HD.out.2.2.1; obtain ⟨e0, e1, e2⟩ := cells3 q55; obtain ⟨f0, f1, f2, f3⟩ := cfg4 qp; have LE4 := HD.out.2.2.2.1.below (by rw [y3]; exact B4); have y4 := B4.size; rw [y3] at y4; have B04 : Below w.heap.size w w4 := (HD.out.2.2.2.2.1.trans (HD.out.2.2.2.2.2.1.mono (by omega))).trans (B4.mono (by omega)); have lt2 : bt < w2.heap.size ∧ bp < w2.heap.size ∧ bl < w2.heap.size := ⟨HD.out.2.2.2.2.2.2.st.lt rfl, HD.out.2.2.2.2.2.2.sq.lt rfl, HD.out.2.2.2.2.2.2.sl.lt rfl⟩; have HQ := hid (And.intro LE4 (And.intro B04 (And.intro qp (And.intro RX (And.intro SX lt2))))); clear B4 q55 qp LE4 B04 RX SX lt2)
    | (go_at_call 13; refine (HBK.out.1 w4 HQ.out.1 HQ.out.2.1).mono ?_; rintro e w5 ⟨rfl, F5⟩; have B05 : Below w.heap.size w w5 := HQ.out.2.1.trans (F5.to_below HQ.out.2.1.size (fun k e => by omega)); have qp5 := (F5.block w.heap.size (Array.getElem?_eq_some_iff.1 HQ.out.2.2.1).1 (by omega)).trans HQ.out.2.2.1; obtain ⟨h0, h1, h2, h3⟩ := cfg4 qp5; have RX5 := A.kept HQ.out.2.2.2.1 F5 (fun k hk e => by have h1 := HQ.out.2.2.2.2.1 k hk; have h2 := HQ.out.2.2.2.2.2; omega); have y5 := F5.size; have H5 := hid (And.intro B05 RX5); clear F5 qp5 B05 RX5)
    | (go_at_call 14; refine (HBK.out.2 w5 H5.out.1).mono ?_; rintro e w6 ⟨y, vt, vp, vl, rfl, RY, B6, Y1, Y2⟩; have B06 : Below w.heap.size w w6 := H5.out.1.trans (B6.mono H5.out.1.size); have wb6 := (B06.block b lb).trans HW.out.1; have cps6 : w6.cell? ⟨b, 0, none⟩ = some (.slice ap mR cp) := (cell_of_row w6 b 0 _ _ _ wb6).trans rfl; have lb6 : b < w6.heap.size := (Array.getElem?_eq_some_iff.1 wb6).1; have RX6 := A.kept H5.out.2 (Fr.of_below B6 (fun _ => False)) (fun _ _ h => h); have sl6 := HW.out.2.1.below B06; have H6 := hid (And.intro RY (And.intro B6 (And.intro Y1 (And.intro Y2 (And.intro B06 (And.intro wb6 (And.intro RX6 sl6))))))); clear RY B6 Y1 Y2 B06 wb6 RX6 sl6)
    | (at_builtin; go_must (refine wpList_append_sl _ rfl _ _ 27 rfl 51 i0 _ 2 16 Tryz.underlying27 hi0 hz0 hz1 hz2 rfl (by decide) (.slice ap mR cp) R rfl (H6.out.2.2.2.2.2.2.2.alloc _) ⟨w6.heap.size, 0, none⟩ 1 1 [[.pointer (some ⟨x, 0, none⟩), .pointer (some ⟨y, 0, none⟩)]] rfl rfl (by decide) (by simp) (fun j u h => cell_news w6 #[.pointer (some ⟨x, 0, none⟩), .pointer (some ⟨y, 0, none⟩)] 51 j u (by simpa using h)) (fun u hu => by simp at hu; rcases hu with rfl | rfl <;> rfl) (by have := HW.out.2.2.2.1; unfold maxLen; omega) (by have := HW.out.2.2.2.1; omega) ?_); intro a4 c4 w7 G4; have hb4 : Hid (w7.heap[b]? = some (.cells #[.slice ap mR cp, l1, l2, l3] 34 (0, 0))) := (G4.old (by simp; omega) HW.out.2.2.1).trans (((Fr.refl (fun _ => False) w6).alloc _).block _ lb6 id |>.trans H6.out.2.2.2.2.2.1); have hc4 : w7.cell? ⟨b, 0, none⟩ = some (.slice ap mR cp) := (cell_of_row w7 _ 0 _ _ _ hb4.out).trans rfl; have hf4 : w7.frozen? ⟨b, 0, none⟩ = false := frozen_of_row _ _ _ _ _ hb4.out))
  go_ret
  have e6 := H6.out
  have hs5 : ∀ k, S k → k < w5.heap.size := fun k hk => A.lt H5.out.2 k hk
  refine ⟨rfl, x, y, S, vt, vp, vl, _, made_end A lb HW.out.2.2.1 HW.out.2.1 e6.2.2.2.2.1 e6.2.2.2.2.2.2.1 (fun k hk => by have := HQ.out.2.2.2.2.1 k hk; omega) hs5 e6.1 (fun k hk => ?_) H5.out.1.size e6.2.1.size ((Fr.refl (fun _ => False) w6).alloc _) G4 hb4.out⟩
  rcases hk with rfl | hk
  · exact e6.2.2.1
  · exact e6.2.2.2.1 k hk
end Go.Proofs.YtgiiegppaleldaaGreatDoor
