import Derived.Test.YtgiiegppaleldaaGreatDoorXX
/- works, where it asks for memory and passes. -/
namespace Go.Proofs.YtgiiegppaleldaaGreatDoor
open Go.RowKit

set_option maxRecDepth 100000 in
set_option maxHeartbeats 8000000 in
theorem works_load {Rep : World → Nat → (Nat → Prop) → RK → Prop} (A : Api Rep) (b : Nat) (ka kb kcc kd2 kn : Int) (ky : Bool) (m0 m2 m3 m4 m5 m6 : Int) (aw : Option Addr) (nw cw : Nat) (sp : Int) (aT aP aL : Option Addr) (mT mP mL cT cP cL : Nat) (x y : Nat) (S : Nat → Prop) (K : RK) (vt vp vl : Value) (n : Nat) (w : World) (rx : Rep w x S K) (ry : RefAt w y K vt vp vl) (ok : K.Ok n) (hgl : Gl w) :
    Calls Tryz.prog 8 #[.pointer (some ⟨b, 0, none⟩), .agg #[.int .i64 6, .int .i64 ka, .int .i64 kb, .int .i64 kcc, .int .i64 kd2, .int .i64 kn, .bool ky, .int .i64 m0, .slice aw nw cw, .int .i64 m2, .int .i64 m3, .int .i64 m4, .int .i64 m5, .int .i64 m6, .int .i64 sp, .slice aT mT cT, .slice aP mP cP, .slice aL mL cL], .agg #[.pointer (some ⟨x, 0, none⟩), .pointer (some ⟨y, 0, none⟩)]] w fun e w' => e = .returned (.bool true) ∧ Below w.heap.size w w' := by
  have B1 : Below w.heap.size w ((w.alloc (.cells #[.int .i64 6, .int .i64 ka, .int .i64 kb, .int .i64 kcc, .int .i64 kd2, .int .i64 kn, .bool ky, .int .i64 m0, .slice aw nw cw, .int .i64 m2, .int .i64 m3, .int .i64 m4, .int .i64 m5, .int .i64 m6, .int .i64 sp, .slice aT mT cT, .slice aP mP cP, .slice aL mL cL] 46)).alloc (.cells #[.pointer (some ⟨x, 0, none⟩), .pointer (some ⟨y, 0, none⟩)] 51)) := ((Below.refl _ w).alloc (Nat.le_refl _) _).alloc (by simp) _
  have CX := A.load x S K n kb kcc ((w.alloc (.cells #[.int .i64 6, .int .i64 ka, .int .i64 kb, .int .i64 kcc, .int .i64 kd2, .int .i64 kn, .bool ky, .int .i64 m0, .slice aw nw cw, .int .i64 m2, .int .i64 m3, .int .i64 m4, .int .i64 m5, .int .i64 m6, .int .i64 sp, .slice aT mT cT, .slice aP mP cP, .slice aL mL cL] 46)).alloc (.cells #[.pointer (some ⟨x, 0, none⟩), .pointer (some ⟨y, 0, none⟩)] 51)) (hgl.below B1) (A.kept rx (Fr.of_below B1 (fun _ => False)) (fun _ _ h => h)) ok
  have CY : ∀ w2, Below w.heap.size w w2 → _ := fun w2 bw => refLoad_any y K vt vp vl kb kcc w2 (ry.below bw) ok.six ok.one ok.bl ok.apl (fun i p hp => ⟨(ok.ol i p hp).2.2.2.2.2.2.1, (ok.ol i p hp).2.2.2.2.2.2.2⟩) (fun i p hp => ⟨(ok.ol i p hp).2.2.2.2.1, (ok.ol i p hp).2.2.2.2.2.1⟩)
  generalize (K.load kb kcc).1 = va at *
  generalize (K.load kb kcc).2 = vc at *
  have hq1 : (va == va) = true := by simp
  have hq2 : (vc == vc) = true := by simp
  have HC := hid (And.intro CX (And.intro CY B1))
  clear CX CY B1 rx ry ok hgl
  go_enter Tryz.func8, Tryz.ntmps8
  go_wp2_with (first
    | (go_at_call 25; refine HC.out.1.mono ?_; rintro e w2 ⟨rfl, B2⟩; have y1 : ((w.alloc (.cells #[.int .i64 6, .int .i64 ka, .int .i64 kb, .int .i64 kcc, .int .i64 kd2, .int .i64 kn, .bool ky, .int .i64 m0, .slice aw nw cw, .int .i64 m2, .int .i64 m3, .int .i64 m4, .int .i64 m5, .int .i64 m6, .int .i64 sp, .slice aT mT cT, .slice aP mP cP, .slice aL mL cL] 46)).alloc (.cells #[.pointer (some ⟨x, 0, none⟩), .pointer (some ⟨y, 0, none⟩)] 51)).heap.size = w.heap.size + 2 := (by simp); rw [y1] at B2; have r2 := (B2.block (w.heap.size + 1) (by omega)).trans (heap_alloc2_new w _ _); have c2r := (prBox r2).2; have r0 := (B2.block w.heap.size (by omega)).trans (heap_alloc2_old w _ _); have d2 : w2.cell? ⟨w.heap.size, 2, none⟩ = some (.int .i64 kb) := (cell_of_row _ _ 2 _ _ _ r0).trans rfl; have d3 : w2.cell? ⟨w.heap.size, 3, none⟩ = some (.int .i64 kcc) := (cell_of_row _ _ 3 _ _ _ r0).trans rfl; have B02 := hid (HC.out.2.2.trans (B2.mono (by omega))); clear B2 r2 r0 y1)
    | (go_at_call 26; refine (HC.out.2.1 w2 B02.out).mono ?_; rintro e w3 ⟨rfl, B3⟩; replace B3 := hid B3))
  go_ret
  exact ⟨rfl, B02.out.trans (B3.out.mono B02.out.size)⟩

set_option maxRecDepth 100000 in
set_option maxHeartbeats 8000000 in
theorem works_store {Rep : World → Nat → (Nat → Prop) → RK → Prop} (A : Api Rep) (b : Nat) (ka kb kcc kd2 kn : Int) (ky : Bool) (m0 m2 m3 m4 m5 m6 : Int) (aw : Option Addr) (nw cw : Nat) (sp : Int) (aT aP aL : Option Addr) (mT mP mL cT cP cL : Nat) (x y : Nat) (S : Nat → Prop) (K K2 : RK) (c : Int) (vt vp vl : Value) (w : World) (rx : Rep w x S K) (ry : RefAt w y K vt vp vl) (hd : ∀ k, S k → ¬ RefOwn y vt vp vl k)
    (CX0 : ∀ w1, Below w.heap.size w w1 → Calls Tryz.prog 27 #[.pointer (some ⟨x, 0, none⟩), .int .i64 kb, .int .i64 kcc, .int .i64 kn] w1 fun e w' => e = .returned (.int .i64 c) ∧ (∃ S', Rep w' x S' K2 ∧ ∀ b, S' b → S b ∨ w1.heap.size ≤ b) ∧ Fr S w1 w')
    (CY : ∀ w2, RefAt w2 y K vt vp vl → Calls Tryz.prog 28 #[.pointer (some ⟨y, 0, none⟩), .int .i64 kb, .int .i64 kcc, .int .i64 kn] w2 fun e w' => e = .returned (.int .i64 c) ∧ ∃ vp' vl', RefAt w' y K2 vt vp' vl' ∧ Fr (RefOwn y vt vp vl) w2 w' ∧ ∀ k, RefOwn y vt vp' vl' k → RefOwn y vt vp vl k ∨ w2.heap.size ≤ k) :
    Calls Tryz.prog 8 #[.pointer (some ⟨b, 0, none⟩), .agg #[.int .i64 7, .int .i64 ka, .int .i64 kb, .int .i64 kcc, .int .i64 kd2, .int .i64 kn, .bool ky, .int .i64 m0, .slice aw nw cw, .int .i64 m2, .int .i64 m3, .int .i64 m4, .int .i64 m5, .int .i64 m6, .int .i64 sp, .slice aT mT cT, .slice aP mP cP, .slice aL mL cL], .agg #[.pointer (some ⟨x, 0, none⟩), .pointer (some ⟨y, 0, none⟩)]] w fun e w' => e = .returned (.bool true) ∧ ∃ S' vp' vl', Rep w' x S' K2 ∧ RefAt w' y K2 vt vp' vl' ∧ Fr (fun q => S q ∨ RefOwn y vt vp vl q) w w' ∧ (∀ q, S' q → S q ∨ w.heap.size ≤ q) ∧ (∀ q, RefOwn y vt vp' vl' q → RefOwn y vt vp vl q ∨ w.heap.size ≤ q) ∧ ∀ q, S' q → ¬ RefOwn y vt vp' vl' q := by
  have B1 : Below w.heap.size w ((w.alloc (.cells #[.int .i64 7, .int .i64 ka, .int .i64 kb, .int .i64 kcc, .int .i64 kd2, .int .i64 kn, .bool ky, .int .i64 m0, .slice aw nw cw, .int .i64 m2, .int .i64 m3, .int .i64 m4, .int .i64 m5, .int .i64 m6, .int .i64 sp, .slice aT mT cT, .slice aP mP cP, .slice aL mL cL] 46)).alloc (.cells #[.pointer (some ⟨x, 0, none⟩), .pointer (some ⟨y, 0, none⟩)] 51)) := ((Below.refl _ w).alloc (Nat.le_refl _) _).alloc (by simp) _
  have CX := CX0 _ B1
  have hs : ∀ q, S q → q < w.heap.size := fun q hq => A.lt rx q hq
  have hyl : ∀ q, RefOwn y vt vp vl q → q < w.heap.size := fun q hq => ry.lt hq
  have hq1 : (c == c) = true := by simp
  have HC := hid (And.intro CX (And.intro CY (And.intro B1 (And.intro ry (And.intro hd (And.intro hs hyl))))))
  clear CX CX0 CY B1 rx ry hd hs hyl
  go_enter Tryz.func8, Tryz.ntmps8
  go_wp2_with (first
    | (go_at_call 27; refine HC.out.1.mono ?_; rintro e w2 ⟨rfl, RX, F2⟩; have y1 : ((w.alloc (.cells #[.int .i64 7, .int .i64 ka, .int .i64 kb, .int .i64 kcc, .int .i64 kd2, .int .i64 kn, .bool ky, .int .i64 m0, .slice aw nw cw, .int .i64 m2, .int .i64 m3, .int .i64 m4, .int .i64 m5, .int .i64 m6, .int .i64 sp, .slice aT mT cT, .slice aP mP cP, .slice aL mL cL] 46)).alloc (.cells #[.pointer (some ⟨x, 0, none⟩), .pointer (some ⟨y, 0, none⟩)] 51)).heap.size = w.heap.size + 2 := (by simp); have z2 := F2.size; rw [y1] at z2; have r2 := (F2.block (w.heap.size + 1) (by omega) (fun h => by have := HC.out.2.2.2.2.2.1 _ h; omega)).trans (heap_alloc2_new w _ _); have c2r := (prBox r2).2; have r0 := (F2.block w.heap.size (by omega) (fun h => by have := HC.out.2.2.2.2.2.1 _ h; omega)).trans (heap_alloc2_old w _ _); have d2 : w2.cell? ⟨w.heap.size, 2, none⟩ = some (.int .i64 kb) := (cell_of_row _ _ 2 _ _ _ r0).trans rfl; have d3 : w2.cell? ⟨w.heap.size, 3, none⟩ = some (.int .i64 kcc) := (cell_of_row _ _ 3 _ _ _ r0).trans rfl; have d5 : w2.cell? ⟨w.heap.size, 5, none⟩ = some (.int .i64 kn) := (cell_of_row _ _ 5 _ _ _ r0).trans rfl; have ry2 := (HC.out.2.2.2.1.below HC.out.2.2.1).kept F2 (fun q hq hs => HC.out.2.2.2.2.1 q hs hq); rw [y1] at RX; have H2 := hid (And.intro RX (And.intro F2 ry2)); clear RX F2 ry2 r2 r0 y1)
    | (go_at_call 28; refine (HC.out.2.1 w2 H2.out.2.2).mono ?_; rintro e w3 ⟨rfl, H3⟩; replace H3 := hid H3))
  go_ret
  obtain ⟨⟨S', rs, so⟩, f2, _⟩ := H2.out
  obtain ⟨vp', vl', ra, f3, ro⟩ := H3.out
  have F12 : Fr S w w2 := (Fr.of_below HC.out.2.2.1 S).trans f2
  have sw : ∀ q, S' q → q < w2.heap.size := fun q hq => A.lt rs q hq
  refine ⟨rfl, S', vp', vl', A.kept rs f3 (fun q hq hr => ?_), ra, (F12.mono (fun _ _ h => .inl h)).trans (f3.mono (fun _ _ h => .inr h)), fun q hq => ?_, fun q hq => ?_, fun q hq hr => ?_⟩
  · rcases so q hq with h | h
    · exact HC.out.2.2.2.2.1 q h hr
    · have := HC.out.2.2.2.2.2.2 q hr; omega
  · rcases so q hq with h | h
    · exact .inl h
    · exact .inr (by omega)
  · rcases ro q hq with h | h
    · exact .inl h
    · exact .inr (by omega)
  · rcases ro q hr with h | h
    · rcases so q hq with h2 | h2
      · exact HC.out.2.2.2.2.1 q h2 h
      · have := HC.out.2.2.2.2.2.2 q h; omega
    · have := sw q hq; omega

set_option maxRecDepth 100000 in
set_option maxHeartbeats 8000000 in
theorem works_unmap {Rep : World → Nat → (Nat → Prop) → RK → Prop} (A : Api Rep) (b : Nat) (ka kb kcc kd2 kn : Int) (ky : Bool) (m0 m2 m3 m4 m5 m6 : Int) (aw : Option Addr) (nw cw : Nat) (sp : Int) (aT aP aL : Option Addr) (mT mP mL cT cP cL : Nat) (x y : Nat) (S : Nat → Prop) (K K2 : RK) (c : Int) (vt vp vl : Value) (w : World) (rx : Rep w x S K) (ry : RefAt w y K vt vp vl) (hd : ∀ k, S k → ¬ RefOwn y vt vp vl k)
    (CX0 : ∀ w1, Below w.heap.size w w1 → Calls Tryz.prog 29 #[.pointer (some ⟨x, 0, none⟩), .int .i64 kb, .bool ky] w1 fun e w' => e = .returned (.int .i64 c) ∧ (∃ S', Rep w' x S' K2 ∧ ∀ b, S' b → S b ∨ w1.heap.size ≤ b) ∧ Fr S w1 w')
    (CY : ∀ w2, RefAt w2 y K vt vp vl → Calls Tryz.prog 30 #[.pointer (some ⟨y, 0, none⟩), .int .i64 kb, .bool ky] w2 fun e w' => e = .returned (.int .i64 c) ∧ ∃ vp' vl', RefAt w' y K2 vt vp' vl' ∧ Fr (RefOwn y vt vp vl) w2 w' ∧ ∀ k, RefOwn y vt vp' vl' k → RefOwn y vt vp vl k ∨ w2.heap.size ≤ k) :
    Calls Tryz.prog 8 #[.pointer (some ⟨b, 0, none⟩), .agg #[.int .i64 8, .int .i64 ka, .int .i64 kb, .int .i64 kcc, .int .i64 kd2, .int .i64 kn, .bool ky, .int .i64 m0, .slice aw nw cw, .int .i64 m2, .int .i64 m3, .int .i64 m4, .int .i64 m5, .int .i64 m6, .int .i64 sp, .slice aT mT cT, .slice aP mP cP, .slice aL mL cL], .agg #[.pointer (some ⟨x, 0, none⟩), .pointer (some ⟨y, 0, none⟩)]] w fun e w' => e = .returned (.bool true) ∧ ∃ S' vp' vl', Rep w' x S' K2 ∧ RefAt w' y K2 vt vp' vl' ∧ Fr (fun q => S q ∨ RefOwn y vt vp vl q) w w' ∧ (∀ q, S' q → S q ∨ w.heap.size ≤ q) ∧ (∀ q, RefOwn y vt vp' vl' q → RefOwn y vt vp vl q ∨ w.heap.size ≤ q) ∧ ∀ q, S' q → ¬ RefOwn y vt vp' vl' q := by
  have B1 : Below w.heap.size w ((w.alloc (.cells #[.int .i64 8, .int .i64 ka, .int .i64 kb, .int .i64 kcc, .int .i64 kd2, .int .i64 kn, .bool ky, .int .i64 m0, .slice aw nw cw, .int .i64 m2, .int .i64 m3, .int .i64 m4, .int .i64 m5, .int .i64 m6, .int .i64 sp, .slice aT mT cT, .slice aP mP cP, .slice aL mL cL] 46)).alloc (.cells #[.pointer (some ⟨x, 0, none⟩), .pointer (some ⟨y, 0, none⟩)] 51)) := ((Below.refl _ w).alloc (Nat.le_refl _) _).alloc (by simp) _
  have CX := CX0 _ B1
  have hs : ∀ q, S q → q < w.heap.size := fun q hq => A.lt rx q hq
  have hyl : ∀ q, RefOwn y vt vp vl q → q < w.heap.size := fun q hq => ry.lt hq
  have hq1 : (c == c) = true := by simp
  have HC := hid (And.intro CX (And.intro CY (And.intro B1 (And.intro ry (And.intro hd (And.intro hs hyl))))))
  clear CX CX0 CY B1 rx ry hd hs hyl
  go_enter Tryz.func8, Tryz.ntmps8
  go_wp2_with (first
    | (go_at_call 29; refine HC.out.1.mono ?_; rintro e w2 ⟨rfl, RX, F2⟩; have y1 : ((w.alloc (.cells #[.int .i64 8, .int .i64 ka, .int .i64 kb, .int .i64 kcc, .int .i64 kd2, .int .i64 kn, .bool ky, .int .i64 m0, .slice aw nw cw, .int .i64 m2, .int .i64 m3, .int .i64 m4, .int .i64 m5, .int .i64 m6, .int .i64 sp, .slice aT mT cT, .slice aP mP cP, .slice aL mL cL] 46)).alloc (.cells #[.pointer (some ⟨x, 0, none⟩), .pointer (some ⟨y, 0, none⟩)] 51)).heap.size = w.heap.size + 2 := (by simp); have z2 := F2.size; rw [y1] at z2; have r2 := (F2.block (w.heap.size + 1) (by omega) (fun h => by have := HC.out.2.2.2.2.2.1 _ h; omega)).trans (heap_alloc2_new w _ _); have c2r := (prBox r2).2; have r0 := (F2.block w.heap.size (by omega) (fun h => by have := HC.out.2.2.2.2.2.1 _ h; omega)).trans (heap_alloc2_old w _ _); have d2 : w2.cell? ⟨w.heap.size, 2, none⟩ = some (.int .i64 kb) := (cell_of_row _ _ 2 _ _ _ r0).trans rfl; have d6 : w2.cell? ⟨w.heap.size, 6, none⟩ = some (.bool ky) := (cell_of_row _ _ 6 _ _ _ r0).trans rfl; have ry2 := (HC.out.2.2.2.1.below HC.out.2.2.1).kept F2 (fun q hq hs => HC.out.2.2.2.2.1 q hs hq); rw [y1] at RX; have H2 := hid (And.intro RX (And.intro F2 ry2)); clear RX F2 ry2 r2 r0 y1)
    | (go_at_call 30; refine (HC.out.2.1 w2 H2.out.2.2).mono ?_; rintro e w3 ⟨rfl, H3⟩; replace H3 := hid H3))
  go_ret
  obtain ⟨⟨S', rs, so⟩, f2, _⟩ := H2.out
  obtain ⟨vp', vl', ra, f3, ro⟩ := H3.out
  have F12 : Fr S w w2 := (Fr.of_below HC.out.2.2.1 S).trans f2
  have sw : ∀ q, S' q → q < w2.heap.size := fun q hq => A.lt rs q hq
  refine ⟨rfl, S', vp', vl', A.kept rs f3 (fun q hq hr => ?_), ra, (F12.mono (fun _ _ h => .inl h)).trans (f3.mono (fun _ _ h => .inr h)), fun q hq => ?_, fun q hq => ?_, fun q hq hr => ?_⟩
  · rcases so q hq with h | h
    · exact HC.out.2.2.2.2.1 q h hr
    · have := HC.out.2.2.2.2.2.2 q hr; omega
  · rcases so q hq with h | h
    · exact .inl h
    · exact .inr (by omega)
  · rcases ro q hq with h | h
    · exact .inl h
    · exact .inr (by omega)
  · rcases ro q hr with h | h
    · rcases so q hq with h2 | h2
      · exact HC.out.2.2.2.2.1 q h2 h
      · have := HC.out.2.2.2.2.2.2 q h; omega
    · have := sw q hq; omega

set_option maxRecDepth 100000 in
set_option maxHeartbeats 8000000 in
theorem works_derive {Rep : World → Nat → (Nat → Prop) → RK → Prop} (A : Api Rep) (b : Nat) (ka kb kcc kd2 kn : Int) (ky : Bool) (m0 m2 m3 m4 m5 m6 : Int) (aw : Option Addr) (nw cw : Nat) (sp : Int) (aT aP aL : Option Addr) (mT mP mL cT cP cL : Nat) (x y : Nat) (S : Nat → Prop) (K K2 : RK) (c : Int) (vt vp vl : Value) (w : World) (rx : Rep w x S K) (ry : RefAt w y K vt vp vl) (hd : ∀ k, S k → ¬ RefOwn y vt vp vl k)
    (CX0 : ∀ w1, Below w.heap.size w w1 → Calls Tryz.prog 31 #[.pointer (some ⟨x, 0, none⟩), .int .i64 kb, .int .i64 kcc, .int .i64 kd2] w1 fun e w' => e = .returned (.int .i64 c) ∧ (∃ S', Rep w' x S' K2 ∧ ∀ b, S' b → S b ∨ w1.heap.size ≤ b) ∧ Fr S w1 w')
    (CY : ∀ w2, RefAt w2 y K vt vp vl → Calls Tryz.prog 32 #[.pointer (some ⟨y, 0, none⟩), .int .i64 kb, .int .i64 kcc, .int .i64 kd2] w2 fun e w' => e = .returned (.int .i64 c) ∧ ∃ vp' vl', RefAt w' y K2 vt vp' vl' ∧ Fr (RefOwn y vt vp vl) w2 w' ∧ ∀ k, RefOwn y vt vp' vl' k → RefOwn y vt vp vl k ∨ w2.heap.size ≤ k) :
    Calls Tryz.prog 8 #[.pointer (some ⟨b, 0, none⟩), .agg #[.int .i64 9, .int .i64 ka, .int .i64 kb, .int .i64 kcc, .int .i64 kd2, .int .i64 kn, .bool ky, .int .i64 m0, .slice aw nw cw, .int .i64 m2, .int .i64 m3, .int .i64 m4, .int .i64 m5, .int .i64 m6, .int .i64 sp, .slice aT mT cT, .slice aP mP cP, .slice aL mL cL], .agg #[.pointer (some ⟨x, 0, none⟩), .pointer (some ⟨y, 0, none⟩)]] w fun e w' => e = .returned (.bool true) ∧ ∃ S' vp' vl', Rep w' x S' K2 ∧ RefAt w' y K2 vt vp' vl' ∧ Fr (fun q => S q ∨ RefOwn y vt vp vl q) w w' ∧ (∀ q, S' q → S q ∨ w.heap.size ≤ q) ∧ (∀ q, RefOwn y vt vp' vl' q → RefOwn y vt vp vl q ∨ w.heap.size ≤ q) ∧ ∀ q, S' q → ¬ RefOwn y vt vp' vl' q := by
  have B1 : Below w.heap.size w ((w.alloc (.cells #[.int .i64 9, .int .i64 ka, .int .i64 kb, .int .i64 kcc, .int .i64 kd2, .int .i64 kn, .bool ky, .int .i64 m0, .slice aw nw cw, .int .i64 m2, .int .i64 m3, .int .i64 m4, .int .i64 m5, .int .i64 m6, .int .i64 sp, .slice aT mT cT, .slice aP mP cP, .slice aL mL cL] 46)).alloc (.cells #[.pointer (some ⟨x, 0, none⟩), .pointer (some ⟨y, 0, none⟩)] 51)) := ((Below.refl _ w).alloc (Nat.le_refl _) _).alloc (by simp) _
  have CX := CX0 _ B1
  have hs : ∀ q, S q → q < w.heap.size := fun q hq => A.lt rx q hq
  have hyl : ∀ q, RefOwn y vt vp vl q → q < w.heap.size := fun q hq => ry.lt hq
  have hq1 : (c == c) = true := by simp
  have HC := hid (And.intro CX (And.intro CY (And.intro B1 (And.intro ry (And.intro hd (And.intro hs hyl))))))
  clear CX CX0 CY B1 rx ry hd hs hyl
  go_enter Tryz.func8, Tryz.ntmps8
  go_wp2_with (first
    | (go_at_call 31; refine HC.out.1.mono ?_; rintro e w2 ⟨rfl, RX, F2⟩; have y1 : ((w.alloc (.cells #[.int .i64 9, .int .i64 ka, .int .i64 kb, .int .i64 kcc, .int .i64 kd2, .int .i64 kn, .bool ky, .int .i64 m0, .slice aw nw cw, .int .i64 m2, .int .i64 m3, .int .i64 m4, .int .i64 m5, .int .i64 m6, .int .i64 sp, .slice aT mT cT, .slice aP mP cP, .slice aL mL cL] 46)).alloc (.cells #[.pointer (some ⟨x, 0, none⟩), .pointer (some ⟨y, 0, none⟩)] 51)).heap.size = w.heap.size + 2 := (by simp); have z2 := F2.size; rw [y1] at z2; have r2 := (F2.block (w.heap.size + 1) (by omega) (fun h => by have := HC.out.2.2.2.2.2.1 _ h; omega)).trans (heap_alloc2_new w _ _); have c2r := (prBox r2).2; have r0 := (F2.block w.heap.size (by omega) (fun h => by have := HC.out.2.2.2.2.2.1 _ h; omega)).trans (heap_alloc2_old w _ _); have d2 : w2.cell? ⟨w.heap.size, 2, none⟩ = some (.int .i64 kb) := (cell_of_row _ _ 2 _ _ _ r0).trans rfl; have d3 : w2.cell? ⟨w.heap.size, 3, none⟩ = some (.int .i64 kcc) := (cell_of_row _ _ 3 _ _ _ r0).trans rfl; have d4 : w2.cell? ⟨w.heap.size, 4, none⟩ = some (.int .i64 kd2) := (cell_of_row _ _ 4 _ _ _ r0).trans rfl; have ry2 := (HC.out.2.2.2.1.below HC.out.2.2.1).kept F2 (fun q hq hs => HC.out.2.2.2.2.1 q hs hq); rw [y1] at RX; have H2 := hid (And.intro RX (And.intro F2 ry2)); clear RX F2 ry2 r2 r0 y1)
    | (go_at_call 32; refine (HC.out.2.1 w2 H2.out.2.2).mono ?_; rintro e w3 ⟨rfl, H3⟩; replace H3 := hid H3))
  go_ret
  obtain ⟨⟨S', rs, so⟩, f2, _⟩ := H2.out
  obtain ⟨vp', vl', ra, f3, ro⟩ := H3.out
  have F12 : Fr S w w2 := (Fr.of_below HC.out.2.2.1 S).trans f2
  have sw : ∀ q, S' q → q < w2.heap.size := fun q hq => A.lt rs q hq
  refine ⟨rfl, S', vp', vl', A.kept rs f3 (fun q hq hr => ?_), ra, (F12.mono (fun _ _ h => .inl h)).trans (f3.mono (fun _ _ h => .inr h)), fun q hq => ?_, fun q hq => ?_, fun q hq hr => ?_⟩
  · rcases so q hq with h | h
    · exact HC.out.2.2.2.2.1 q h hr
    · have := HC.out.2.2.2.2.2.2 q hr; omega
  · rcases so q hq with h | h
    · exact .inl h
    · exact .inr (by omega)
  · rcases ro q hq with h | h
    · exact .inl h
    · exact .inr (by omega)
  · rcases ro q hr with h | h
    · rcases so q hq with h2 | h2
      · exact HC.out.2.2.2.2.1 q h2 h
      · have := HC.out.2.2.2.2.2.2 q h; omega
    · have := sw q hq; omega

set_option maxRecDepth 100000 in
set_option maxHeartbeats 8000000 in
theorem works_drop {Rep : World → Nat → (Nat → Prop) → RK → Prop} (A : Api Rep) (b : Nat) (ka kb kcc kd2 kn : Int) (ky : Bool) (m0 m2 m3 m4 m5 m6 : Int) (aw : Option Addr) (nw cw : Nat) (sp : Int) (aT aP aL : Option Addr) (mT mP mL cT cP cL : Nat) (x y : Nat) (S : Nat → Prop) (K K2 : RK) (c : Int) (vt vp vl : Value) (w : World) (rx : Rep w x S K) (ry : RefAt w y K vt vp vl) (hd : ∀ k, S k → ¬ RefOwn y vt vp vl k)
    (CX0 : ∀ w1, Below w.heap.size w w1 → Calls Tryz.prog 33 #[.pointer (some ⟨x, 0, none⟩), .int .i64 kb] w1 fun e w' => e = .returned (.int .i64 c) ∧ (∃ S', Rep w' x S' K2 ∧ ∀ b, S' b → S b ∨ w1.heap.size ≤ b) ∧ Fr S w1 w')
    (CY : ∀ w2, RefAt w2 y K vt vp vl → Calls Tryz.prog 34 #[.pointer (some ⟨y, 0, none⟩), .int .i64 kb] w2 fun e w' => e = .returned (.int .i64 c) ∧ ∃ vp' vl', RefAt w' y K2 vt vp' vl' ∧ Fr (RefOwn y vt vp vl) w2 w' ∧ ∀ k, RefOwn y vt vp' vl' k → RefOwn y vt vp vl k ∨ w2.heap.size ≤ k) :
    Calls Tryz.prog 8 #[.pointer (some ⟨b, 0, none⟩), .agg #[.int .i64 10, .int .i64 ka, .int .i64 kb, .int .i64 kcc, .int .i64 kd2, .int .i64 kn, .bool ky, .int .i64 m0, .slice aw nw cw, .int .i64 m2, .int .i64 m3, .int .i64 m4, .int .i64 m5, .int .i64 m6, .int .i64 sp, .slice aT mT cT, .slice aP mP cP, .slice aL mL cL], .agg #[.pointer (some ⟨x, 0, none⟩), .pointer (some ⟨y, 0, none⟩)]] w fun e w' => e = .returned (.bool true) ∧ ∃ S' vp' vl', Rep w' x S' K2 ∧ RefAt w' y K2 vt vp' vl' ∧ Fr (fun q => S q ∨ RefOwn y vt vp vl q) w w' ∧ (∀ q, S' q → S q ∨ w.heap.size ≤ q) ∧ (∀ q, RefOwn y vt vp' vl' q → RefOwn y vt vp vl q ∨ w.heap.size ≤ q) ∧ ∀ q, S' q → ¬ RefOwn y vt vp' vl' q := by
  have B1 : Below w.heap.size w ((w.alloc (.cells #[.int .i64 10, .int .i64 ka, .int .i64 kb, .int .i64 kcc, .int .i64 kd2, .int .i64 kn, .bool ky, .int .i64 m0, .slice aw nw cw, .int .i64 m2, .int .i64 m3, .int .i64 m4, .int .i64 m5, .int .i64 m6, .int .i64 sp, .slice aT mT cT, .slice aP mP cP, .slice aL mL cL] 46)).alloc (.cells #[.pointer (some ⟨x, 0, none⟩), .pointer (some ⟨y, 0, none⟩)] 51)) := ((Below.refl _ w).alloc (Nat.le_refl _) _).alloc (by simp) _
  have CX := CX0 _ B1
  have hs : ∀ q, S q → q < w.heap.size := fun q hq => A.lt rx q hq
  have hyl : ∀ q, RefOwn y vt vp vl q → q < w.heap.size := fun q hq => ry.lt hq
  have hq1 : (c == c) = true := by simp
  have HC := hid (And.intro CX (And.intro CY (And.intro B1 (And.intro ry (And.intro hd (And.intro hs hyl))))))
  clear CX CX0 CY B1 rx ry hd hs hyl
  go_enter Tryz.func8, Tryz.ntmps8
  go_wp2_with (first
    | (go_at_call 33; refine HC.out.1.mono ?_; rintro e w2 ⟨rfl, RX, F2⟩; have y1 : ((w.alloc (.cells #[.int .i64 10, .int .i64 ka, .int .i64 kb, .int .i64 kcc, .int .i64 kd2, .int .i64 kn, .bool ky, .int .i64 m0, .slice aw nw cw, .int .i64 m2, .int .i64 m3, .int .i64 m4, .int .i64 m5, .int .i64 m6, .int .i64 sp, .slice aT mT cT, .slice aP mP cP, .slice aL mL cL] 46)).alloc (.cells #[.pointer (some ⟨x, 0, none⟩), .pointer (some ⟨y, 0, none⟩)] 51)).heap.size = w.heap.size + 2 := (by simp); have z2 := F2.size; rw [y1] at z2; have r2 := (F2.block (w.heap.size + 1) (by omega) (fun h => by have := HC.out.2.2.2.2.2.1 _ h; omega)).trans (heap_alloc2_new w _ _); have c2r := (prBox r2).2; have r0 := (F2.block w.heap.size (by omega) (fun h => by have := HC.out.2.2.2.2.2.1 _ h; omega)).trans (heap_alloc2_old w _ _); have d2 : w2.cell? ⟨w.heap.size, 2, none⟩ = some (.int .i64 kb) := (cell_of_row _ _ 2 _ _ _ r0).trans rfl; have ry2 := (HC.out.2.2.2.1.below HC.out.2.2.1).kept F2 (fun q hq hs => HC.out.2.2.2.2.1 q hs hq); rw [y1] at RX; have H2 := hid (And.intro RX (And.intro F2 ry2)); clear RX F2 ry2 r2 r0 y1)
    | (go_at_call 34; refine (HC.out.2.1 w2 H2.out.2.2).mono ?_; rintro e w3 ⟨rfl, H3⟩; replace H3 := hid H3))
  go_ret
  obtain ⟨⟨S', rs, so⟩, f2, _⟩ := H2.out
  obtain ⟨vp', vl', ra, f3, ro⟩ := H3.out
  have F12 : Fr S w w2 := (Fr.of_below HC.out.2.2.1 S).trans f2
  have sw : ∀ q, S' q → q < w2.heap.size := fun q hq => A.lt rs q hq
  refine ⟨rfl, S', vp', vl', A.kept rs f3 (fun q hq hr => ?_), ra, (F12.mono (fun _ _ h => .inl h)).trans (f3.mono (fun _ _ h => .inr h)), fun q hq => ?_, fun q hq => ?_, fun q hq hr => ?_⟩
  · rcases so q hq with h | h
    · exact HC.out.2.2.2.2.1 q h hr
    · have := HC.out.2.2.2.2.2.2 q hr; omega
  · rcases so q hq with h | h
    · exact .inl h
    · exact .inr (by omega)
  · rcases ro q hq with h | h
    · exact .inl h
    · exact .inr (by omega)
  · rcases ro q hr with h | h
    · rcases so q hq with h2 | h2
      · exact HC.out.2.2.2.2.1 q h2 h
      · have := HC.out.2.2.2.2.2.2 q h; omega
    · have := sw q hq; omega
end Go.Proofs.YtgiiegppaleldaaGreatDoor
