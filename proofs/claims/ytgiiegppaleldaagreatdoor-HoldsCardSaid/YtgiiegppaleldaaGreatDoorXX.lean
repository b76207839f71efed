import Derived.Test.YtgiiegppaleldaaGreatDoorVV
/- works. -/
namespace Go.Proofs.YtgiiegppaleldaaGreatDoor
open Go.RowKit

set_option maxRecDepth 100000 in
set_option maxHeartbeats 8000000 in
theorem works_current {Rep : World → Nat → (Nat → Prop) → RK → Prop} (A : Api Rep) (b : Nat) (ka kb kcc kd2 kn : Int) (ky : Bool) (m0 m2 m3 m4 m5 m6 : Int) (aw : Option Addr) (nw cw : Nat) (sp : Int) (aT aP aL : Option Addr) (mT mP mL cT cP cL : Nat) (x y : Nat) (S : Nat → Prop) (K : RK) (vt vp vl : Value) (n : Nat) (w : World) (rx : Rep w x S K) (ry : RefAt w y K vt vp vl) (ok : K.Ok n) (_hn : n ≤ 1000000000000000) :
    Calls Tryz.prog 8 #[.pointer (some ⟨b, 0, none⟩), .agg #[.int .i64 2, .int .i64 ka, .int .i64 kb, .int .i64 kcc, .int .i64 kd2, .int .i64 kn, .bool ky, .int .i64 m0, .slice aw nw cw, .int .i64 m2, .int .i64 m3, .int .i64 m4, .int .i64 m5, .int .i64 m6, .int .i64 sp, .slice aT mT cT, .slice aP mP cP, .slice aL mL cL], .agg #[.pointer (some ⟨x, 0, none⟩), .pointer (some ⟨y, 0, none⟩)]] w fun e w' => e = .returned (.bool true) ∧ Below w.heap.size w w' := by
  have B1 : Below w.heap.size w ((w.alloc (.cells #[.int .i64 2, .int .i64 ka, .int .i64 kb, .int .i64 kcc, .int .i64 kd2, .int .i64 kn, .bool ky, .int .i64 m0, .slice aw nw cw, .int .i64 m2, .int .i64 m3, .int .i64 m4, .int .i64 m5, .int .i64 m6, .int .i64 sp, .slice aT mT cT, .slice aP mP cP, .slice aL mL cL] 46)).alloc (.cells #[.pointer (some ⟨x, 0, none⟩), .pointer (some ⟨y, 0, none⟩)] 51)) := ((Below.refl _ w).alloc (Nat.le_refl _) _).alloc (by simp) _
  have CX := A.current x S K n ((w.alloc (.cells #[.int .i64 2, .int .i64 ka, .int .i64 kb, .int .i64 kcc, .int .i64 kd2, .int .i64 kn, .bool ky, .int .i64 m0, .slice aw nw cw, .int .i64 m2, .int .i64 m3, .int .i64 m4, .int .i64 m5, .int .i64 m6, .int .i64 sp, .slice aT mT cT, .slice aP mP cP, .slice aL mL cL] 46)).alloc (.cells #[.pointer (some ⟨x, 0, none⟩), .pointer (some ⟨y, 0, none⟩)] 51)) (A.kept rx (Fr.of_below B1 (fun _ => False)) (fun _ _ h => h)) ok
  have CY : ∀ w2, Below w.heap.size w w2 → _ := fun w2 bw => refCurrent_any y K vt vp vl w2 (ry.below bw) ok.six
  have hq : (curTo K.threads K.threads.length == curTo K.threads K.threads.length) = true := by simp
  generalize curTo K.threads K.threads.length = c at *
  have HC := hid (And.intro CX (And.intro CY B1))
  clear CX CY B1 rx ry ok
  go_enter Tryz.func8, Tryz.ntmps8
  go_wp2_with (first
    | (go_at_call 15; refine HC.out.1.mono ?_; rintro e w2 ⟨rfl, B2⟩; have y1 : ((w.alloc (.cells #[.int .i64 2, .int .i64 ka, .int .i64 kb, .int .i64 kcc, .int .i64 kd2, .int .i64 kn, .bool ky, .int .i64 m0, .slice aw nw cw, .int .i64 m2, .int .i64 m3, .int .i64 m4, .int .i64 m5, .int .i64 m6, .int .i64 sp, .slice aT mT cT, .slice aP mP cP, .slice aL mL cL] 46)).alloc (.cells #[.pointer (some ⟨x, 0, none⟩), .pointer (some ⟨y, 0, none⟩)] 51)).heap.size = w.heap.size + 2 := (by simp); rw [y1] at B2; have r2 := (B2.block (w.heap.size + 1) (by omega)).trans (heap_alloc2_new w _ _); have c2r := (prBox r2).2; have B02 := hid (HC.out.2.2.trans (B2.mono (by omega))); clear B2 r2 y1)
    | (go_at_call 16; refine (HC.out.2.1 w2 B02.out).mono ?_; rintro e w3 ⟨rfl, B3⟩; replace B3 := hid B3))
  go_ret
  exact ⟨rfl, B02.out.trans (B3.out.mono B02.out.size)⟩

set_option maxRecDepth 100000 in
set_option maxHeartbeats 8000000 in
theorem works_tick {Rep : World → Nat → (Nat → Prop) → RK → Prop} (A : Api Rep) (b : Nat) (ka kb kcc kd2 kn : Int) (ky : Bool) (m0 m2 m3 m4 m5 m6 : Int) (aw : Option Addr) (nw cw : Nat) (sp : Int) (aT aP aL : Option Addr) (mT mP mL cT cP cL : Nat) (x y : Nat) (S : Nat → Prop) (K : RK) (vt vp vl : Value) (n : Nat) (w : World) (rx : Rep w x S K) (ry : RefAt w y K vt vp vl) (ok : K.Ok n) (hn : n ≤ 1000000000000000) (hd : ∀ k, S k → ¬ RefOwn y vt vp vl k) :
    Calls Tryz.prog 8 #[.pointer (some ⟨b, 0, none⟩), .agg #[.int .i64 3, .int .i64 ka, .int .i64 kb, .int .i64 kcc, .int .i64 kd2, .int .i64 kn, .bool ky, .int .i64 m0, .slice aw nw cw, .int .i64 m2, .int .i64 m3, .int .i64 m4, .int .i64 m5, .int .i64 m6, .int .i64 sp, .slice aT mT cT, .slice aP mP cP, .slice aL mL cL], .agg #[.pointer (some ⟨x, 0, none⟩), .pointer (some ⟨y, 0, none⟩)]] w fun e w' => e = .returned (.bool true) ∧ ∃ S', Rep w' x S' K.tick ∧ RefAt w' y K.tick vt vp vl ∧ Fr (fun q => S q ∨ RefOwn y vt vp vl q) w w' ∧ ∀ q, S' q → S q ∨ w.heap.size ≤ q := by
  have B1 : Below w.heap.size w ((w.alloc (.cells #[.int .i64 3, .int .i64 ka, .int .i64 kb, .int .i64 kcc, .int .i64 kd2, .int .i64 kn, .bool ky, .int .i64 m0, .slice aw nw cw, .int .i64 m2, .int .i64 m3, .int .i64 m4, .int .i64 m5, .int .i64 m6, .int .i64 sp, .slice aT mT cT, .slice aP mP cP, .slice aL mL cL] 46)).alloc (.cells #[.pointer (some ⟨x, 0, none⟩), .pointer (some ⟨y, 0, none⟩)] 51)) := ((Below.refl _ w).alloc (Nat.le_refl _) _).alloc (by simp) _
  have CX := A.tick x S K n ((w.alloc (.cells #[.int .i64 3, .int .i64 ka, .int .i64 kb, .int .i64 kcc, .int .i64 kd2, .int .i64 kn, .bool ky, .int .i64 m0, .slice aw nw cw, .int .i64 m2, .int .i64 m3, .int .i64 m4, .int .i64 m5, .int .i64 m6, .int .i64 sp, .slice aT mT cT, .slice aP mP cP, .slice aL mL cL] 46)).alloc (.cells #[.pointer (some ⟨x, 0, none⟩), .pointer (some ⟨y, 0, none⟩)] 51)) (A.kept rx (Fr.of_below B1 (fun _ => False)) (fun _ _ h => h)) ok hn
  have CY : ∀ w2, RefAt w2 y K vt vp vl → _ := fun w2 ry2 => refTick_any y K vt vp vl w2 ry2 ok.six ok.one ok.last0 (by have := ok.last1; omega) ok.clock0 (by have := ok.clock1; omega) ok.left
  have hs : ∀ q, S q → q < w.heap.size := fun q hq => A.lt rx q hq
  have hyl : ∀ q, RefOwn y vt vp vl q → q < w.heap.size := fun q hq => ry.lt hq
  generalize hK2 : K.tick = K2 at *
  have HC := hid (And.intro CX (And.intro CY (And.intro B1 (And.intro ry (And.intro hd (And.intro hs hyl))))))
  clear CX CY B1 rx ry ok hd hs hyl hK2
  go_enter Tryz.func8, Tryz.ntmps8
  go_wp2_with (first
    | (go_at_call 17; refine HC.out.1.mono ?_; rintro e w2 ⟨rfl, RX, F2⟩; have y1 : ((w.alloc (.cells #[.int .i64 3, .int .i64 ka, .int .i64 kb, .int .i64 kcc, .int .i64 kd2, .int .i64 kn, .bool ky, .int .i64 m0, .slice aw nw cw, .int .i64 m2, .int .i64 m3, .int .i64 m4, .int .i64 m5, .int .i64 m6, .int .i64 sp, .slice aT mT cT, .slice aP mP cP, .slice aL mL cL] 46)).alloc (.cells #[.pointer (some ⟨x, 0, none⟩), .pointer (some ⟨y, 0, none⟩)] 51)).heap.size = w.heap.size + 2 := (by simp); have z2 := F2.size; rw [y1] at z2; have r2 := (F2.block (w.heap.size + 1) (by omega) (fun h => by have := HC.out.2.2.2.2.2.1 _ h; omega)).trans (heap_alloc2_new w _ _); have c2r := (prBox r2).2; have ry2 := (HC.out.2.2.2.1.below HC.out.2.2.1).kept F2 (fun q hq hs => HC.out.2.2.2.2.1 q hs hq); rw [y1] at RX; have H2 := hid (And.intro RX (And.intro F2 ry2)); clear RX F2 ry2 r2 y1)
    | (go_at_call 18; refine (HC.out.2.1 w2 H2.out.2.2).mono ?_; rintro e w3 ⟨rfl, RY, F3⟩; have H3 := hid (And.intro RY F3); clear RY F3))
  go_ret
  obtain ⟨⟨S', rs, so⟩, f2, _⟩ := H2.out
  have F12 : Fr S w w2 := (Fr.of_below HC.out.2.2.1 S).trans f2
  refine ⟨rfl, S', A.kept rs H3.out.2 (fun q hq hr => ?_), H3.out.1, (F12.mono (fun _ _ h => .inl h)).trans (H3.out.2.mono (fun _ _ h => .inr h)), fun q hq => ?_⟩
  · rcases so q hq with h | h
    · exact HC.out.2.2.2.2.1 q h hr
    · have := HC.out.2.2.2.2.2.2 q hr; omega
  · rcases so q hq with h | h
    · exact .inl h
    · exact .inr (by omega)

set_option maxRecDepth 100000 in
set_option maxHeartbeats 8000000 in
theorem works_yield {Rep : World → Nat → (Nat → Prop) → RK → Prop} (A : Api Rep) (b : Nat) (ka kb kcc kd2 kn : Int) (ky : Bool) (m0 m2 m3 m4 m5 m6 : Int) (aw : Option Addr) (nw cw : Nat) (sp : Int) (aT aP aL : Option Addr) (mT mP mL cT cP cL : Nat) (x y : Nat) (S : Nat → Prop) (K : RK) (vt vp vl : Value) (n : Nat) (w : World) (rx : Rep w x S K) (ry : RefAt w y K vt vp vl) (ok : K.Ok n) (hn : n ≤ 1000000000000000) (hd : ∀ k, S k → ¬ RefOwn y vt vp vl k) :
    Calls Tryz.prog 8 #[.pointer (some ⟨b, 0, none⟩), .agg #[.int .i64 5, .int .i64 ka, .int .i64 kb, .int .i64 kcc, .int .i64 kd2, .int .i64 kn, .bool ky, .int .i64 m0, .slice aw nw cw, .int .i64 m2, .int .i64 m3, .int .i64 m4, .int .i64 m5, .int .i64 m6, .int .i64 sp, .slice aT mT cT, .slice aP mP cP, .slice aL mL cL], .agg #[.pointer (some ⟨x, 0, none⟩), .pointer (some ⟨y, 0, none⟩)]] w fun e w' => e = .returned (.bool true) ∧ ∃ S', Rep w' x S' ((K.setLeft (curTo K.threads K.threads.length).toNat 3).toLast (curTo K.threads K.threads.length).toNat) ∧ RefAt w' y ((K.setLeft (curTo K.threads K.threads.length).toNat 3).toLast (curTo K.threads K.threads.length).toNat) vt vp vl ∧ Fr (fun q => S q ∨ RefOwn y vt vp vl q) w w' ∧ ∀ q, S' q → S q ∨ w.heap.size ≤ q := by
  have B1 : Below w.heap.size w ((w.alloc (.cells #[.int .i64 5, .int .i64 ka, .int .i64 kb, .int .i64 kcc, .int .i64 kd2, .int .i64 kn, .bool ky, .int .i64 m0, .slice aw nw cw, .int .i64 m2, .int .i64 m3, .int .i64 m4, .int .i64 m5, .int .i64 m6, .int .i64 sp, .slice aT mT cT, .slice aP mP cP, .slice aL mL cL] 46)).alloc (.cells #[.pointer (some ⟨x, 0, none⟩), .pointer (some ⟨y, 0, none⟩)] 51)) := ((Below.refl _ w).alloc (Nat.le_refl _) _).alloc (by simp) _
  have CX := A.yield x S K n ((w.alloc (.cells #[.int .i64 5, .int .i64 ka, .int .i64 kb, .int .i64 kcc, .int .i64 kd2, .int .i64 kn, .bool ky, .int .i64 m0, .slice aw nw cw, .int .i64 m2, .int .i64 m3, .int .i64 m4, .int .i64 m5, .int .i64 m6, .int .i64 sp, .slice aT mT cT, .slice aP mP cP, .slice aL mL cL] 46)).alloc (.cells #[.pointer (some ⟨x, 0, none⟩), .pointer (some ⟨y, 0, none⟩)] 51)) (A.kept rx (Fr.of_below B1 (fun _ => False)) (fun _ _ h => h)) ok hn
  have CY : ∀ w2, RefAt w2 y K vt vp vl → _ := fun w2 ry2 => refYield_any y K vt vp vl w2 ry2 ok.six ok.one ok.last0 (by have := ok.last1; omega)
  have hs : ∀ q, S q → q < w.heap.size := fun q hq => A.lt rx q hq
  have hyl : ∀ q, RefOwn y vt vp vl q → q < w.heap.size := fun q hq => ry.lt hq
  generalize hK2 : ((K.setLeft (curTo K.threads K.threads.length).toNat 3).toLast (curTo K.threads K.threads.length).toNat) = K2 at *
  have HC := hid (And.intro CX (And.intro CY (And.intro B1 (And.intro ry (And.intro hd (And.intro hs hyl))))))
  clear CX CY B1 rx ry ok hd hs hyl hK2
  go_enter Tryz.func8, Tryz.ntmps8
  go_wp2_with (first
    | (go_at_call 23; refine HC.out.1.mono ?_; rintro e w2 ⟨rfl, RX, F2⟩; have y1 : ((w.alloc (.cells #[.int .i64 5, .int .i64 ka, .int .i64 kb, .int .i64 kcc, .int .i64 kd2, .int .i64 kn, .bool ky, .int .i64 m0, .slice aw nw cw, .int .i64 m2, .int .i64 m3, .int .i64 m4, .int .i64 m5, .int .i64 m6, .int .i64 sp, .slice aT mT cT, .slice aP mP cP, .slice aL mL cL] 46)).alloc (.cells #[.pointer (some ⟨x, 0, none⟩), .pointer (some ⟨y, 0, none⟩)] 51)).heap.size = w.heap.size + 2 := (by simp); have z2 := F2.size; rw [y1] at z2; have r2 := (F2.block (w.heap.size + 1) (by omega) (fun h => by have := HC.out.2.2.2.2.2.1 _ h; omega)).trans (heap_alloc2_new w _ _); have c2r := (prBox r2).2; have ry2 := (HC.out.2.2.2.1.below HC.out.2.2.1).kept F2 (fun q hq hs => HC.out.2.2.2.2.1 q hs hq); rw [y1] at RX; have H2 := hid (And.intro RX (And.intro F2 ry2)); clear RX F2 ry2 r2 y1)
    | (go_at_call 24; refine (HC.out.2.1 w2 H2.out.2.2).mono ?_; rintro e w3 ⟨rfl, RY, F3⟩; have H3 := hid (And.intro RY F3); clear RY F3))
  go_ret
  obtain ⟨⟨S', rs, so⟩, f2, _⟩ := H2.out
  have F12 : Fr S w w2 := (Fr.of_below HC.out.2.2.1 S).trans f2
  refine ⟨rfl, S', A.kept rs H3.out.2 (fun q hq hr => ?_), H3.out.1, (F12.mono (fun _ _ h => .inl h)).trans (H3.out.2.mono (fun _ _ h => .inr h)), fun q hq => ?_⟩
  · rcases so q hq with h | h
    · exact HC.out.2.2.2.2.1 q h hr
    · have := HC.out.2.2.2.2.2.2 q hr; omega
  · rcases so q hq with h | h
    · exact .inl h
    · exact .inr (by omega)
end Go.Proofs.YtgiiegppaleldaaGreatDoor

/- works, where it tells. -/
namespace Go.Proofs.YtgiiegppaleldaaGreatDoor
open Go.RowKit

set_option maxRecDepth 100000 in
set_option maxHeartbeats 8000000 in
theorem works_look {Rep : World → Nat → (Nat → Prop) → RK → Prop} (A : Api Rep) (b : Nat) (ka kb kcc kd2 kn : Int) (ky : Bool) (m0 m2 m3 m4 m5 m6 : Int) (aw : Option Addr) (nw cw : Nat) (sp : Int) (aT aP aL : Option Addr) (mT mP mL cT cP cL : Nat) (x y : Nat) (S : Nat → Prop) (K : RK) (vt vp vl : Value) (n : Nat) (w : World) (rx : Rep w x S K) (ry : RefAt w y K vt vp vl) (ok : K.Ok n) (hgl : Gl w) (ps l1 l2 l3 : Value) (rows : List (List Value)) (hb : w.heap[b]? = some (.cells #[ps, l1, l2, l3] 34 (0, 0))) (hs : Sl w 83 5 l1 rows) (hr : rows.length ≤ 1000000000000) (hne : l1.ownBlock ≠ some b) :
    Calls Tryz.prog 8 #[.pointer (some ⟨b, 0, none⟩), .agg #[.int .i64 11, .int .i64 ka, .int .i64 kb, .int .i64 kcc, .int .i64 kd2, .int .i64 kn, .bool ky, .int .i64 m0, .slice aw nw cw, .int .i64 m2, .int .i64 m3, .int .i64 m4, .int .i64 m5, .int .i64 m6, .int .i64 sp, .slice aT mT cT, .slice aP mP cP, .slice aL mL cL], .agg #[.pointer (some ⟨x, 0, none⟩), .pointer (some ⟨y, 0, none⟩)]] w fun e w' => e = .returned (.bool true) ∧ ∃ v u v1 v2 v3 w0, Below w.heap.size w w0 ∧ (∀ k, v.ownBlock = some k → w.heap.size ≤ k ∧ k < w0.heap.size) ∧ Booked 83 2 mk1 b 1 #[ps, l1, l2, l3] l1 v rows w0 u v1 v2 v3 w' := by
  have B1 : Below w.heap.size w ((w.alloc (.cells #[.int .i64 11, .int .i64 ka, .int .i64 kb, .int .i64 kcc, .int .i64 kd2, .int .i64 kn, .bool ky, .int .i64 m0, .slice aw nw cw, .int .i64 m2, .int .i64 m3, .int .i64 m4, .int .i64 m5, .int .i64 m6, .int .i64 sp, .slice aT mT cT, .slice aP mP cP, .slice aL mL cL] 46)).alloc (.cells #[.pointer (some ⟨x, 0, none⟩), .pointer (some ⟨y, 0, none⟩)] 51)) := ((Below.refl _ w).alloc (Nat.le_refl _) _).alloc (by simp) _
  have C : Calls Tryz.prog 35 #[.pointer (some ⟨b, 0, none⟩), .agg #[.int .i64 11, .int .i64 ka, .int .i64 kb, .int .i64 kcc, .int .i64 kd2, .int .i64 kn, .bool ky, .int .i64 m0, .slice aw nw cw, .int .i64 m2, .int .i64 m3, .int .i64 m4, .int .i64 m5, .int .i64 m6, .int .i64 sp, .slice aT mT cT, .slice aP mP cP, .slice aL mL cL], .agg #[.pointer (some ⟨x, 0, none⟩), .pointer (some ⟨y, 0, none⟩)]] ((w.alloc (.cells #[.int .i64 11, .int .i64 ka, .int .i64 kb, .int .i64 kcc, .int .i64 kd2, .int .i64 kn, .bool ky, .int .i64 m0, .slice aw nw cw, .int .i64 m2, .int .i64 m3, .int .i64 m4, .int .i64 m5, .int .i64 m6, .int .i64 sp, .slice aT mT cT, .slice aP mP cP, .slice aL mL cL] 46)).alloc (.cells #[.pointer (some ⟨x, 0, none⟩), .pointer (some ⟨y, 0, none⟩)] 51)) fun e w' => e = .returned (.bool true) ∧ ∃ v u v1 v2 v3 w0, Below ((w.alloc (.cells #[.int .i64 11, .int .i64 ka, .int .i64 kb, .int .i64 kcc, .int .i64 kd2, .int .i64 kn, .bool ky, .int .i64 m0, .slice aw nw cw, .int .i64 m2, .int .i64 m3, .int .i64 m4, .int .i64 m5, .int .i64 m6, .int .i64 sp, .slice aT mT cT, .slice aP mP cP, .slice aL mL cL] 46)).alloc (.cells #[.pointer (some ⟨x, 0, none⟩), .pointer (some ⟨y, 0, none⟩)] 51)).heap.size ((w.alloc (.cells #[.int .i64 11, .int .i64 ka, .int .i64 kb, .int .i64 kcc, .int .i64 kd2, .int .i64 kn, .bool ky, .int .i64 m0, .slice aw nw cw, .int .i64 m2, .int .i64 m3, .int .i64 m4, .int .i64 m5, .int .i64 m6, .int .i64 sp, .slice aT mT cT, .slice aP mP cP, .slice aL mL cL] 46)).alloc (.cells #[.pointer (some ⟨x, 0, none⟩), .pointer (some ⟨y, 0, none⟩)] 51)) w0 ∧ (∀ k, v.ownBlock = some k → ((w.alloc (.cells #[.int .i64 11, .int .i64 ka, .int .i64 kb, .int .i64 kcc, .int .i64 kd2, .int .i64 kn, .bool ky, .int .i64 m0, .slice aw nw cw, .int .i64 m2, .int .i64 m3, .int .i64 m4, .int .i64 m5, .int .i64 m6, .int .i64 sp, .slice aT mT cT, .slice aP mP cP, .slice aL mL cL] 46)).alloc (.cells #[.pointer (some ⟨x, 0, none⟩), .pointer (some ⟨y, 0, none⟩)] 51)).heap.size ≤ k ∧ k < w0.heap.size) ∧ Booked 83 2 mk1 b 1 #[ps, l1, l2, l3] l1 v rows w0 u v1 v2 v3 w' := by
    have rx1 := A.kept rx (Fr.of_below B1 (fun _ => False)) (fun _ _ h => h)
    have ry1 := ry.below B1
    have g1 := hgl.below B1
    have hb1 := (B1.block b (Array.getElem?_eq_some_iff.1 hb).1).trans hb
    have hs1 := hs.below B1
    by_cases ht : 0 ≤ kb ∧ kb < K.threads.length
    · obtain ⟨t, rfl⟩ := Int.eq_ofNat_of_zero_le ht.1
      exact told_look b ka t kcc kd2 kn ky m0 m2 m3 m4 m5 m6 aw nw cw sp aT aP aL mT mP mL cT cP cL x y 1 0 (-1) (-1) 0 ps l1 l2 l3 rows _
        (fun w2 bw => A.look_yes x S K n t w2 (A.kept rx1 (Fr.of_below bw (fun _ => False)) (fun _ _ h => h)) ok (by omega))
        (fun w2 bw => refLook_yes y K vt vp vl t w2 (ry1.below bw) ok.six (by omega)) hb1 hs1 hr hne
    · exact told_look b ka kb kcc kd2 kn ky m0 m2 m3 m4 m5 m6 aw nw cw sp aT aP aL mT mP mL cT cP cL x y 0 0 0 0 3 ps l1 l2 l3 rows _
        (fun w2 bw => A.look_no x S K n kb w2 (g1.below bw) (A.kept rx1 (Fr.of_below bw (fun _ => False)) (fun _ _ h => h)) ok ht)
        (fun w2 bw => refLook_no y K vt vp vl kb w2 (ry1.below bw) ok.six ht) hb1 hs1 hr hne
  have R1 : ((w.alloc (.cells #[.int .i64 11, .int .i64 ka, .int .i64 kb, .int .i64 kcc, .int .i64 kd2, .int .i64 kn, .bool ky, .int .i64 m0, .slice aw nw cw, .int .i64 m2, .int .i64 m3, .int .i64 m4, .int .i64 m5, .int .i64 m6, .int .i64 sp, .slice aT mT cT, .slice aP mP cP, .slice aL mL cL] 46)).alloc (.cells #[.pointer (some ⟨x, 0, none⟩), .pointer (some ⟨y, 0, none⟩)] 51)).rangeAt w.heap.size 0 [.int .i64 11, .int .i64 ka, .int .i64 kb, .int .i64 kcc, .int .i64 kd2, .int .i64 kn, .bool ky, .int .i64 m0, .slice aw nw cw, .int .i64 m2, .int .i64 m3, .int .i64 m4, .int .i64 m5, .int .i64 m6, .int .i64 sp, .slice aT mT cT, .slice aP mP cP, .slice aL mL cL] := fun j v hv => by
    rw [cell_of_row _ _ (0 + j) _ _ _ (heap_alloc2_old w _ _), Nat.zero_add, List.getElem?_toArray]; exact hv
  have HC := hid (And.intro C (And.intro B1 R1))
  clear R1
  clear C B1
  clear rx ry ok hgl hb hs hr hne
  go_enter Tryz.func8, Tryz.ntmps8
  go_wp2_with (first
    | (go_at_call 35; refine HC.out.1.mono ?_; rintro e w2 ⟨rfl, H2⟩; replace H2 := hid H2)
    | (with_reducible (show wpList _ _ _ (⟨_, .load 46 _, _, _, _, none⟩ :: _) _ _); go_must (refine wpList_load_mid rfl 46 _ rfl w.heap.size 0 rfl _ _ HC.out.2.2 Tryz.underlying46 rfl (by kernel_rfl) ?_)))
  go_ret
  obtain ⟨v, u, v1, v2, v3, w0, b0, vk, bk⟩ := H2.out
  refine ⟨rfl, v, u, v1, v2, v3, w0, HC.out.2.1.trans (b0.mono (by simp; omega)), fun k hk => ?_, bk⟩
  have := vk k hk
  simp at this
  omega

set_option maxRecDepth 100000 in
set_option maxHeartbeats 8000000 in
theorem works_space {Rep : World → Nat → (Nat → Prop) → RK → Prop} (A : Api Rep) (b : Nat) (ka kb kcc kd2 kn : Int) (ky : Bool) (m0 m2 m3 m4 m5 m6 : Int) (aw : Option Addr) (nw cw : Nat) (sp : Int) (aT aP aL : Option Addr) (mT mP mL cT cP cL : Nat) (x y : Nat) (S : Nat → Prop) (K : RK) (vt vp vl : Value) (n : Nat) (w : World) (rx : Rep w x S K) (ry : RefAt w y K vt vp vl) (ok : K.Ok n) (hgl : Gl w) (ps l1 l2 l3 : Value) (prow lrow : List (List Value)) (hb : w.heap[b]? = some (.cells #[ps, l1, l2, l3] 34 (0, 0))) (hs : Sl w 85 5 l2 prow) (hr : prow.length ≤ 1000000000000) (hsl : Sl w 87 5 l3 lrow) (hrl : lrow.length ≤ 1000000000000) (hne : l2.ownBlock ≠ some b) (hne3 : l3.ownBlock ≠ some b) (hne23 : ∀ k, l2.ownBlock = some k → l3.ownBlock ≠ some k) :
    Calls Tryz.prog 8 #[.pointer (some ⟨b, 0, none⟩), .agg #[.int .i64 12, .int .i64 ka, .int .i64 kb, .int .i64 kcc, .int .i64 kd2, .int .i64 kn, .bool ky, .int .i64 m0, .slice aw nw cw, .int .i64 m2, .int .i64 m3, .int .i64 m4, .int .i64 m5, .int .i64 m6, .int .i64 sp, .slice aT mT cT, .slice aP mP cP, .slice aL mL cL], .agg #[.pointer (some ⟨x, 0, none⟩), .pointer (some ⟨y, 0, none⟩)]] w fun e w' => e = .returned (.bool true) ∧ ∃ v u w0, Below w.heap.size w w0 ∧ (∀ k, v.ownBlock = some k ∨ u.ownBlock = some k → w.heap.size ≤ k ∧ k < w0.heap.size) ∧ (∀ k, v.ownBlock = some k → u.ownBlock ≠ some k) ∧
      ∃ wm pas' v1 v2 v3 lea' u1 u2 u3, Booked 85 67 mk4 b 2 #[ps, l1, l2, l3] l2 v prow w0 pas' v1 v2 v3 wm ∧ Booked 87 69 mk4 b 3 #[ps, l1, pas', l3] l3 u lrow wm lea' u1 u2 u3 w' := by
  have B1 : Below w.heap.size w ((w.alloc (.cells #[.int .i64 12, .int .i64 ka, .int .i64 kb, .int .i64 kcc, .int .i64 kd2, .int .i64 kn, .bool ky, .int .i64 m0, .slice aw nw cw, .int .i64 m2, .int .i64 m3, .int .i64 m4, .int .i64 m5, .int .i64 m6, .int .i64 sp, .slice aT mT cT, .slice aP mP cP, .slice aL mL cL] 46)).alloc (.cells #[.pointer (some ⟨x, 0, none⟩), .pointer (some ⟨y, 0, none⟩)] 51)) := ((Below.refl _ w).alloc (Nat.le_refl _) _).alloc (by simp) _
  have C : Calls Tryz.prog 35 #[.pointer (some ⟨b, 0, none⟩), .agg #[.int .i64 12, .int .i64 ka, .int .i64 kb, .int .i64 kcc, .int .i64 kd2, .int .i64 kn, .bool ky, .int .i64 m0, .slice aw nw cw, .int .i64 m2, .int .i64 m3, .int .i64 m4, .int .i64 m5, .int .i64 m6, .int .i64 sp, .slice aT mT cT, .slice aP mP cP, .slice aL mL cL], .agg #[.pointer (some ⟨x, 0, none⟩), .pointer (some ⟨y, 0, none⟩)]] ((w.alloc (.cells #[.int .i64 12, .int .i64 ka, .int .i64 kb, .int .i64 kcc, .int .i64 kd2, .int .i64 kn, .bool ky, .int .i64 m0, .slice aw nw cw, .int .i64 m2, .int .i64 m3, .int .i64 m4, .int .i64 m5, .int .i64 m6, .int .i64 sp, .slice aT mT cT, .slice aP mP cP, .slice aL mL cL] 46)).alloc (.cells #[.pointer (some ⟨x, 0, none⟩), .pointer (some ⟨y, 0, none⟩)] 51)) fun e w' => e = .returned (.bool true) ∧ ∃ v u w0, Below ((w.alloc (.cells #[.int .i64 12, .int .i64 ka, .int .i64 kb, .int .i64 kcc, .int .i64 kd2, .int .i64 kn, .bool ky, .int .i64 m0, .slice aw nw cw, .int .i64 m2, .int .i64 m3, .int .i64 m4, .int .i64 m5, .int .i64 m6, .int .i64 sp, .slice aT mT cT, .slice aP mP cP, .slice aL mL cL] 46)).alloc (.cells #[.pointer (some ⟨x, 0, none⟩), .pointer (some ⟨y, 0, none⟩)] 51)).heap.size ((w.alloc (.cells #[.int .i64 12, .int .i64 ka, .int .i64 kb, .int .i64 kcc, .int .i64 kd2, .int .i64 kn, .bool ky, .int .i64 m0, .slice aw nw cw, .int .i64 m2, .int .i64 m3, .int .i64 m4, .int .i64 m5, .int .i64 m6, .int .i64 sp, .slice aT mT cT, .slice aP mP cP, .slice aL mL cL] 46)).alloc (.cells #[.pointer (some ⟨x, 0, none⟩), .pointer (some ⟨y, 0, none⟩)] 51)) w0 ∧ (∀ k, v.ownBlock = some k ∨ u.ownBlock = some k → ((w.alloc (.cells #[.int .i64 12, .int .i64 ka, .int .i64 kb, .int .i64 kcc, .int .i64 kd2, .int .i64 kn, .bool ky, .int .i64 m0, .slice aw nw cw, .int .i64 m2, .int .i64 m3, .int .i64 m4, .int .i64 m5, .int .i64 m6, .int .i64 sp, .slice aT mT cT, .slice aP mP cP, .slice aL mL cL] 46)).alloc (.cells #[.pointer (some ⟨x, 0, none⟩), .pointer (some ⟨y, 0, none⟩)] 51)).heap.size ≤ k ∧ k < w0.heap.size) ∧ (∀ k, v.ownBlock = some k → u.ownBlock ≠ some k) ∧
      ∃ wm pas' v1 v2 v3 lea' u1 u2 u3, Booked 85 67 mk4 b 2 #[ps, l1, l2, l3] l2 v prow w0 pas' v1 v2 v3 wm ∧ Booked 87 69 mk4 b 3 #[ps, l1, pas', l3] l3 u lrow wm lea' u1 u2 u3 w' := by
    have rx1 := A.kept rx (Fr.of_below B1 (fun _ => False)) (fun _ _ h => h)
    have ry1 := ry.below B1
    have g1 := hgl.below B1
    have hb1 := (B1.block b (Array.getElem?_eq_some_iff.1 hb).1).trans hb
    by_cases ht : 0 ≤ kb ∧ kb < K.sp
    · exact told_space b ka kb kcc kd2 kn ky m0 m2 m3 m4 m5 m6 aw nw cw sp aT aP aL mT mP mL cT cP cL x y 0 (told K.passes kb 6) (told K.leaves kb 6) (told_le _ _ _) (told_le _ _ _) ps l1 l2 l3 prow lrow _
        (fun w2 bw => A.space_yes x S K n kb w2 (A.kept rx1 (Fr.of_below bw (fun _ => False)) (fun _ _ h => h)) ok ht.1 ht.2)
        (fun w2 bw => (refSpace_yes y K vt vp vl kb w2 (ry1.below bw) ok.sp1 ok.sp3 ht.1 ht.2 ok.apq ok.apl ok.bq ok.bl).mono (by rintro e w' ⟨v, u, h1, h2, h3, h4, _⟩; exact ⟨v, u, h1, h2, h3, h4⟩)) hb1 (hs.below B1) hr (hsl.below B1) hrl hne hne3 hne23
    · exact told_space b ka kb kcc kd2 kn ky m0 m2 m3 m4 m5 m6 aw nw cw sp aT aP aL mT mP mL cT cP cL x y 3 [] [] (by simp) (by simp) ps l1 l2 l3 prow lrow _
        (fun w2 bw => A.space_no x S K n kb w2 (g1.below bw) (A.kept rx1 (Fr.of_below bw (fun _ => False)) (fun _ _ h => h)) ok ht)
        (fun w2 bw => (refSpace_no y K vt vp vl kb w2 (ry1.below bw) ok.sp1 ok.sp3 ht).mono (by rintro e w' ⟨h1, h2⟩; exact ⟨_, _, h1, Sl.nil _ _ _, Sl.nil _ _ _, h2⟩)) hb1 (hs.below B1) hr (hsl.below B1) hrl hne hne3 hne23
  have R1 : ((w.alloc (.cells #[.int .i64 12, .int .i64 ka, .int .i64 kb, .int .i64 kcc, .int .i64 kd2, .int .i64 kn, .bool ky, .int .i64 m0, .slice aw nw cw, .int .i64 m2, .int .i64 m3, .int .i64 m4, .int .i64 m5, .int .i64 m6, .int .i64 sp, .slice aT mT cT, .slice aP mP cP, .slice aL mL cL] 46)).alloc (.cells #[.pointer (some ⟨x, 0, none⟩), .pointer (some ⟨y, 0, none⟩)] 51)).rangeAt w.heap.size 0 [.int .i64 12, .int .i64 ka, .int .i64 kb, .int .i64 kcc, .int .i64 kd2, .int .i64 kn, .bool ky, .int .i64 m0, .slice aw nw cw, .int .i64 m2, .int .i64 m3, .int .i64 m4, .int .i64 m5, .int .i64 m6, .int .i64 sp, .slice aT mT cT, .slice aP mP cP, .slice aL mL cL] := fun j v hv => by
    rw [cell_of_row _ _ (0 + j) _ _ _ (heap_alloc2_old w _ _), Nat.zero_add, List.getElem?_toArray]; exact hv
  have HC := hid (And.intro C (And.intro B1 R1))
  clear R1
  clear C B1
  clear rx ry ok hgl hb hs hr hsl hrl hne hne3 hne23
  go_enter Tryz.func8, Tryz.ntmps8
  go_wp2_with (first
    | (go_at_call 35; refine HC.out.1.mono ?_; rintro e w2 ⟨rfl, H2⟩; replace H2 := hid H2)
    | (with_reducible (show wpList _ _ _ (⟨_, .load 46 _, _, _, _, none⟩ :: _) _ _); go_must (refine wpList_load_mid rfl 46 _ rfl w.heap.size 0 rfl _ _ HC.out.2.2 Tryz.underlying46 rfl (by kernel_rfl) ?_)))
  go_ret
  obtain ⟨v, u, w0, b0, vk, ne, bk⟩ := H2.out
  refine ⟨rfl, v, u, w0, HC.out.2.1.trans (b0.mono (by simp; omega)), fun k hk => ?_, ne, bk⟩
  have := vk k hk
  simp at this
  omega
end Go.Proofs.YtgiiegppaleldaaGreatDoor
