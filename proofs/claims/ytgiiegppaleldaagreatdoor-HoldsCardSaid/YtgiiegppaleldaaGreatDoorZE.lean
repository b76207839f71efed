import Derived.Test.YtgiiegppaleldaaGreatDoorYY
import Derived.Deep.Slices
import Derived.DataReads
import GoSem.ClaimJoined
/- The script, opened. -/
namespace Go.Proofs.YtgiiegppaleldaaGreatDoor
open Go.RowKit Go.ChangeShapes Go.WideShapes Go.Deep

theorem inl_of_cells {w : World} {base : Nat} {a : Addr} {len cap s : Nat} (R : Nat → List Value) (hs : 0 < s) (hl : len ≤ maxLen) (h : ∀ i, i < len → w.cells? base (a.add (i * s)) s = some (R i)) (h1 : ∀ i, i < len → ∀ u ∈ R i, u.oneCell' = true) :
    Inl w s (.slice (some a) len cap) ((List.range len).map R) := by
  have hR : ∀ i, i < len → (R i).length = s := fun i hi => (World.cells?_some (h i hi)).2.1
  have hlen : ∀ r ∈ (List.range len).map R, r.length = s := by
    intro r hr
    obtain ⟨i, hi, rfl⟩ := List.mem_map.1 hr
    exact hR i (List.mem_range.1 hi)
  refine ⟨hlen, ?_, some a, cap, by simp, by simpa using hl, ?_⟩
  · intro r hr u hu
    obtain ⟨i, hi, rfl⟩ := List.mem_map.1 hr
    exact h1 i (List.mem_range.1 hi) u hu
  · by_cases h0 : len = 0
    · left; subst h0; rfl
    · right
      have c0 := (World.cells?_some (h 0 (by omega))).2.2 0 hs
      have hsp : a.spot = none := by
        have hx : (R 0)[0]? = some ((R 0)[0]'(by rw [hR 0 (by omega)]; exact hs)) := List.getElem?_eq_getElem _
        rw [hx] at c0
        have := World.cell?_spot c0
        simpa [Addr.add] using this
      obtain ⟨b, off, sp⟩ := a
      simp only at hsp
      subst hsp
      refine ⟨b, off, rfl, fun j v hv => ?_⟩
      have hj := (List.getElem?_eq_some_iff.1 hv).1
      rw [flatten_len _ hlen] at hj
      simp only [List.length_map, List.length_range] at hj
      have hq : j / s < len := Nat.div_lt_of_lt_mul (by rw [Nat.mul_comm]; exact hj)
      have hm : j % s < s := Nat.mod_lt _ hs
      have e : j = j / s * s + j % s := by rw [Nat.mul_comm]; exact (Nat.div_add_mod j s).symm
      have hc := (World.cells?_some (h (j / s) hq)).2.2 (j % s) hm
      rw [add_add, ← e, Addr.add_mid] at hc
      rw [hc]
      have hg := flatten_get ((List.range len).map R) (j / s) (j % s) hlen (by simpa using hq) hm
      rw [← e] at hg
      rw [hg] at hv
      simpa using hv

section
variable {H : Type} {enc : TypeId × Value → H} {w : World} {base : Nat} {sp : Nat → Bool} {held : Bool}

theorem wf64 {z : Int} (h : (Lit.int .i64 z).wf = true) : -9223372036854775808 ≤ z ∧ z ≤ 9223372036854775807 := by
  simp [Lit.wf, IntKind.min, IntKind.max, IntKind.signed, IntKind.bits] at h
  omega

set_option maxRecDepth 100000 in
theorem two_ints {fuel : Nat} {cs : List Value} {x : DataW H × List MemPlace} (h : DataW.trod enc Tryz.prog w base sp held fuel 65 cs = some x) : ∃ p : Int × Int, cs = tRow p := by
  obtain ⟨xs, n, _, _, hl, hx, hf⟩ := DataW.trod_struct Tryz.underlying65 h
  have hc : Tryz.prog.cellsOf 65 = 2 := by kernel_rfl
  have hc3 : Tryz.prog.cellsOf 3 = 1 := by kernel_rfl
  rw [hc] at hl
  match cs, hl with
  | [c0, c1], _ =>
    have f0 := hf 0 { name := "Space", type := 3, offset := 0, embedded := false, tag := "", pkgPath := "", byteOffset := 0 } rfl
    have f1 := hf 1 { name := "Row", type := 3, offset := 1, embedded := false, tag := "", pkgPath := "", byteOffset := 8 } rfl
    simp only [hc3, List.drop_zero, List.take_succ_cons, List.take_zero, List.drop_succ_cons] at f0 f1
    obtain ⟨y0, e0⟩ : ∃ y, xs[0]? = some y := ⟨_, List.getElem?_eq_getElem (by rw [hx]; decide)⟩
    obtain ⟨y1, e1⟩ : ∃ y, xs[1]? = some y := ⟨_, List.getElem?_eq_getElem (by rw [hx]; decide)⟩
    rw [e0] at f0
    rw [e1] at f1
    obtain ⟨a, ha, _⟩ := DataW.trod_int Tryz.underlying3 f0
    obtain ⟨b, hb, _⟩ := DataW.trod_int Tryz.underlying3 f1
    simp at ha hb
    subst ha hb
    exact ⟨(a, b), rfl⟩

set_option maxRecDepth 100000 in
theorem four_ints {t : TypeId} {f0 f1 f2 f3 : Field} (ht : Tryz.prog.underlying t = some (.struct #[f0, f1, f2, f3])) (hc : Tryz.prog.cellsOf t = 4) (h0 : f0.type = 3 ∧ f0.offset = 0) (h1 : f1.type = 3 ∧ f1.offset = 1) (h2 : f2.type = 3 ∧ f2.offset = 2) (h3 : f3.type = 3 ∧ f3.offset = 3)
    {fuel : Nat} {cs : List Value} {x : DataW H × List MemPlace} (h : DataW.trod enc Tryz.prog w base sp held fuel t cs = some x) : ∃ p : Int × Int × Int × Int, cs = qRow p := by
  obtain ⟨xs, n, _, _, hl, hx, hf⟩ := DataW.trod_struct ht h
  have hc3 : Tryz.prog.cellsOf 3 = 1 := by kernel_rfl
  rw [hc] at hl
  match cs, hl with
  | [c0, c1, c2, c3], _ =>
    have g0 := hf 0 f0 rfl
    have g1 := hf 1 f1 rfl
    have g2 := hf 2 f2 rfl
    have g3 := hf 3 f3 rfl
    rw [h0.1, h0.2] at g0
    rw [h1.1, h1.2] at g1
    rw [h2.1, h2.2] at g2
    rw [h3.1, h3.2] at g3
    simp only [hc3, List.drop_zero, List.take_succ_cons, List.take_zero, List.drop_succ_cons] at g0 g1 g2 g3
    obtain ⟨y0, e0⟩ : ∃ y, xs[0]? = some y := ⟨_, List.getElem?_eq_getElem (by rw [hx]; simp)⟩
    obtain ⟨y1, e1⟩ : ∃ y, xs[1]? = some y := ⟨_, List.getElem?_eq_getElem (by rw [hx]; simp)⟩
    obtain ⟨y2, e2⟩ : ∃ y, xs[2]? = some y := ⟨_, List.getElem?_eq_getElem (by rw [hx]; simp)⟩
    obtain ⟨y3, e3⟩ : ∃ y, xs[3]? = some y := ⟨_, List.getElem?_eq_getElem (by rw [hx]; simp)⟩
    rw [e0] at g0
    rw [e1] at g1
    rw [e2] at g2
    rw [e3] at g3
    obtain ⟨a, ha, _⟩ := DataW.trod_int Tryz.underlying3 g0
    obtain ⟨b, hb, _⟩ := DataW.trod_int Tryz.underlying3 g1
    obtain ⟨c, hc, _⟩ := DataW.trod_int Tryz.underlying3 g2
    obtain ⟨d, hd, _⟩ := DataW.trod_int Tryz.underlying3 g3
    simp at ha hb hc hd
    subst ha hb hc hd
    exact ⟨(a, b, c, d), rfl⟩

set_option maxRecDepth 100000 in
/-- A slice of rows, opened. -/
theorem open_rows {α : Type} [Inhabited α] {t e : TypeId} {s bytes : Nat} (f : α → List Value) (ht : Tryz.prog.underlying t = some (.slice e)) (hc : Tryz.prog.cellsOf e = s) (hby : Tryz.prog.bytesOf e = bytes) (hs : 0 < s) (hf : ∀ (x : α), ∀ u ∈ f x, u.oneCell' = true)
    (hop : ∀ {fuel : Nat} {cs : List Value} {x : DataW H × List MemPlace}, DataW.trod enc Tryz.prog w base sp held fuel e cs = some x → ∃ p : α, cs = f p)
    {fuel : Nat} {cs : List Value} {x : DataW H × List MemPlace} (h : DataW.trod enc Tryz.prog w base sp held fuel t cs = some x) (hw : ∀ q ∈ DataW.weights Tryz.prog t x.1, q ≤ reachBytes) :
    ∃ a m c, ∃ T : List α, cs = [.slice a m c] ∧ T.length = m ∧ Inl w s (.slice a m c) (T.map f) ∧ m * bytes ≤ reachBytes := by
  rcases open_slice ht h with ⟨rfl, rfl⟩ | ⟨a, len, cap, m, n, D, Pl, rfl, _, hl, hmx, hm, rfl, hx⟩
  · exact ⟨none, 0, 0, [], rfl, rfl, ⟨by simp, by simp, none, 0, rfl, by simp, .inl rfl⟩, by simp⟩
  · have hlm : len ≤ m := by rw [hm]; split <;> omega
    obtain ⟨F, hF⟩ := choose_lt (α := α) (n := len) (p := fun i q => w.cells? base (a.add (i * s)) s = some (f q)) (fun i hi => by
      obtain ⟨cs', h1, h2⟩ := hx i (by omega)
      obtain ⟨q, rfl⟩ := hop h2
      rw [hc] at h1
      exact ⟨q, h1⟩)
    refine ⟨some a, len, cap, (List.range len).map F, rfl, by simp, ?_, ?_⟩
    · rw [List.map_map]
      exact inl_of_cells (f ∘ F) hs (by omega) hF (fun i _ => hf (F i))
    · have := hw ((len + (m - len)) * Tryz.prog.bytesOf e) (by
        simp only [DataW.weights, ht, List.length_map, List.length_range]
        exact List.mem_cons_self)
      rw [hby] at this
      refine Nat.le_trans (Nat.mul_le_mul_right _ (by omega)) this

theorem mem_each {P : Program} : ∀ (ts : List TypeId) (ds : List (DataW H)) (i : Nat) (t : TypeId) (d : DataW H) (q : Nat), ts[i]? = some t → ds[i]? = some d → q ∈ DataW.weights P t d → q ∈ DataW.weightsEach P ts ds
  | [], _, i, t, d, q, h, _, _ => by simp at h
  | _ :: _, [], i, t, d, q, _, h, _ => by simp at h
  | t0 :: ts, d0 :: ds, 0, t, d, q, h1, h2, h3 => by
    simp at h1 h2
    subst h1 h2
    simp only [DataW.weightsEach]
    exact List.mem_append_left _ h3
  | t0 :: ts, d0 :: ds, i + 1, t, d, q, h1, h2, h3 => by
    simp at h1 h2
    simp only [DataW.weightsEach]
    exact List.mem_append_right _ (mem_each ts ds i t d q h1 h2 h3)

theorem mem_all {P : Program} {e : TypeId} : ∀ (ds : List (DataW H)) (d : DataW H) (q : Nat), d ∈ ds → q ∈ DataW.weights P e d → q ∈ DataW.weightsAll P e ds
  | [], d, q, h, _ => by simp at h
  | d0 :: ds, d, q, h1, h2 => by
    simp only [DataW.weightsAll]
    rcases List.mem_cons.1 h1 with rfl | h1
    · exact List.mem_append_left _ h2
    · exact List.mem_append_right _ (mem_all ds d q h1 h2)

theorem t_one2 (p : Int × Int) : ∀ u ∈ tRow p, u.oneCell' = true := by
  intro u hu; simp [tRow] at hu; rcases hu with rfl | rfl <;> rfl
theorem q_one2 (p : Int × Int × Int × Int) : ∀ u ∈ qRow p, u.oneCell' = true := by
  intro u hu; simp [qRow] at hu; rcases hu with rfl | rfl | rfl | rfl <;> rfl

set_option maxRecDepth 100000 in
theorem open_config {fuel : Nat} {cs : List Value} {x : DataW H × List MemPlace} (h : DataW.trod enc Tryz.prog w base sp held fuel 40 cs = some x) (hw : ∀ q ∈ DataW.weights Tryz.prog 40 x.1, q ≤ reachBytes) :
    ∃ (s : Int) (aT aP aL : Option Addr) (mT mP mL cT cP cL : Nat) (T : List (Int × Int)) (Q L : List (Int × Int × Int × Int)), cs = [.int .i64 s, .slice aT mT cT, .slice aP mP cP, .slice aL mL cL] ∧ T.length = mT ∧ Q.length = mP ∧ L.length = mL ∧
      Inl w 2 (.slice aT mT cT) (T.map tRow) ∧ Inl w 4 (.slice aP mP cP) (Q.map qRow) ∧ Inl w 4 (.slice aL mL cL) (L.map qRow) ∧ mT * 16 ≤ reachBytes ∧ mP * 32 ≤ reachBytes ∧ mL * 32 ≤ reachBytes := by
  obtain ⟨xs, n, _, rfl, hl, hx, hf⟩ := DataW.trod_struct Tryz.underlying40 h
  have hc : Tryz.prog.cellsOf 40 = 4 := by kernel_rfl
  have hc3 : Tryz.prog.cellsOf 3 = 1 := by kernel_rfl
  have hc36 : Tryz.prog.cellsOf 36 = 1 := by kernel_rfl
  have hc37 : Tryz.prog.cellsOf 37 = 1 := by kernel_rfl
  have hc38 : Tryz.prog.cellsOf 38 = 1 := by kernel_rfl
  rw [hc] at hl
  match cs, hl with
  | [c0, c1, c2, c3], _ =>
    have g0 := hf 0 { name := "Spaces", type := 3, offset := 0, embedded := false, tag := "", pkgPath := "", byteOffset := 0 } rfl
    have g1 := hf 1 { name := "Threads", type := 36, offset := 1, embedded := false, tag := "", pkgPath := "", byteOffset := 8 } rfl
    have g2 := hf 2 { name := "Passes", type := 37, offset := 2, embedded := false, tag := "", pkgPath := "", byteOffset := 32 } rfl
    have g3 := hf 3 { name := "Leaves", type := 38, offset := 3, embedded := false, tag := "", pkgPath := "", byteOffset := 56 } rfl
    simp only [hc3, hc36, hc37, hc38, List.drop_zero, List.take_succ_cons, List.take_zero, List.drop_succ_cons] at g0 g1 g2 g3
    obtain ⟨y0, e0⟩ : ∃ y, xs[0]? = some y := ⟨_, List.getElem?_eq_getElem (by rw [hx]; decide)⟩
    obtain ⟨y1, e1⟩ : ∃ y, xs[1]? = some y := ⟨_, List.getElem?_eq_getElem (by rw [hx]; decide)⟩
    obtain ⟨y2, e2⟩ : ∃ y, xs[2]? = some y := ⟨_, List.getElem?_eq_getElem (by rw [hx]; decide)⟩
    obtain ⟨y3, e3⟩ : ∃ y, xs[3]? = some y := ⟨_, List.getElem?_eq_getElem (by rw [hx]; decide)⟩
    rw [e0] at g0
    rw [e1] at g1
    rw [e2] at g2
    rw [e3] at g3
    simp only [DataW.weights, Tryz.underlying40] at hw
    have wt : ∀ (i : Nat) (t : TypeId) y, ([3, 36, 37, 38] : List TypeId)[i]? = some t → xs[i]? = some y → ∀ q ∈ DataW.weights Tryz.prog t y.1, q ≤ reachBytes := fun i t y hi hy q hq =>
      hw q (mem_each _ _ i t y.1 q hi (by rw [List.getElem?_map, hy]; rfl) hq)
    obtain ⟨s, hs, _⟩ := DataW.trod_int Tryz.underlying3 g0
    obtain ⟨aT, mT, cT, T, eT, lT, iT, bT⟩ := open_rows (s := 2) (bytes := 16) tRow Tryz.underlying36 (by kernel_rfl) (by kernel_rfl) (by omega) t_one2 two_ints g1 (wt 1 36 y1 rfl e1)
    obtain ⟨aP, mP, cP, Q, eP, lP, iP, bP⟩ := open_rows (s := 4) (bytes := 32) qRow Tryz.underlying37 (by kernel_rfl) (by kernel_rfl) (by omega) q_one2 (four_ints Tryz.underlying67 (by kernel_rfl) ⟨rfl, rfl⟩ ⟨rfl, rfl⟩ ⟨rfl, rfl⟩ ⟨rfl, rfl⟩) g2 (wt 2 37 y2 rfl e2)
    obtain ⟨aL, mL, cL, L, eL, lL, iL, bL⟩ := open_rows (s := 4) (bytes := 32) qRow Tryz.underlying38 (by kernel_rfl) (by kernel_rfl) (by omega) q_one2 (four_ints Tryz.underlying69 (by kernel_rfl) ⟨rfl, rfl⟩ ⟨rfl, rfl⟩ ⟨rfl, rfl⟩ ⟨rfl, rfl⟩) g3 (wt 3 38 y3 rfl e3)
    simp at hs eT eP eL
    subst hs eT eP eL
    exact ⟨s, aT, aP, aL, mT, mP, mL, cT, cP, cL, T, Q, L, rfl, lT, lP, lL, iT, iP, iL, bT, bP, bL⟩

set_option maxRecDepth 100000 in
theorem open_message {fuel : Nat} {cs : List Value} {x : DataW H × List MemPlace} (h : DataW.trod enc Tryz.prog w base sp held fuel 44 cs = some x) :
    ∃ (m0 m2 m3 m4 m5 m6 : Int) (aw : Option Addr) (nw cw : Nat), cs = [.int .i64 m0, .slice aw nw cw, .int .i64 m2, .int .i64 m3, .int .i64 m4, .int .i64 m5, .int .i64 m6] := by
  obtain ⟨xs, n, _, rfl, hl, hx, hf⟩ := DataW.trod_struct Tryz.underlying44 h
  have hc : Tryz.prog.cellsOf 44 = 7 := by kernel_rfl
  have hc3 : Tryz.prog.cellsOf 3 = 1 := by kernel_rfl
  have hc42 : Tryz.prog.cellsOf 42 = 1 := by kernel_rfl
  rw [hc] at hl
  match cs, hl with
  | [c0, c1, c2, c3, c4, c5, c6], _ =>
    have g0 := hf 0 { name := "To", type := 3, offset := 0, embedded := false, tag := "", pkgPath := "", byteOffset := 0 } rfl
    have g1 := hf 1 { name := "Words", type := 42, offset := 1, embedded := false, tag := "", pkgPath := "", byteOffset := 8 } rfl
    have g2 := hf 2 { name := "Item", type := 3, offset := 2, embedded := false, tag := "", pkgPath := "", byteOffset := 32 } rfl
    have g3 := hf 3 { name := "Rights", type := 3, offset := 3, embedded := false, tag := "", pkgPath := "", byteOffset := 40 } rfl
    have g4 := hf 4 { name := "From", type := 3, offset := 4, embedded := false, tag := "", pkgPath := "", byteOffset := 48 } rfl
    have g5 := hf 5 { name := "Window", type := 3, offset := 5, embedded := false, tag := "", pkgPath := "", byteOffset := 56 } rfl
    have g6 := hf 6 { name := "Wait", type := 3, offset := 6, embedded := false, tag := "", pkgPath := "", byteOffset := 64 } rfl
    simp only [hc3, hc42, List.drop_zero, List.take_succ_cons, List.take_zero, List.drop_succ_cons] at g0 g1 g2 g3 g4 g5 g6
    obtain ⟨y0, e0⟩ : ∃ y, xs[0]? = some y := ⟨_, List.getElem?_eq_getElem (by rw [hx]; decide)⟩
    obtain ⟨y1, e1⟩ : ∃ y, xs[1]? = some y := ⟨_, List.getElem?_eq_getElem (by rw [hx]; decide)⟩
    obtain ⟨y2, e2⟩ : ∃ y, xs[2]? = some y := ⟨_, List.getElem?_eq_getElem (by rw [hx]; decide)⟩
    obtain ⟨y3, e3⟩ : ∃ y, xs[3]? = some y := ⟨_, List.getElem?_eq_getElem (by rw [hx]; decide)⟩
    obtain ⟨y4, e4⟩ : ∃ y, xs[4]? = some y := ⟨_, List.getElem?_eq_getElem (by rw [hx]; decide)⟩
    obtain ⟨y5, e5⟩ : ∃ y, xs[5]? = some y := ⟨_, List.getElem?_eq_getElem (by rw [hx]; decide)⟩
    obtain ⟨y6, e6⟩ : ∃ y, xs[6]? = some y := ⟨_, List.getElem?_eq_getElem (by rw [hx]; decide)⟩
    rw [e0] at g0
    rw [e1] at g1
    rw [e2] at g2
    rw [e3] at g3
    rw [e4] at g4
    rw [e5] at g5
    rw [e6] at g6
    obtain ⟨z0, h0, _⟩ := DataW.trod_int Tryz.underlying3 g0
    obtain ⟨z2, h2, _⟩ := DataW.trod_int Tryz.underlying3 g2
    obtain ⟨z3, h3, _⟩ := DataW.trod_int Tryz.underlying3 g3
    obtain ⟨z4, h4, _⟩ := DataW.trod_int Tryz.underlying3 g4
    obtain ⟨z5, h5, _⟩ := DataW.trod_int Tryz.underlying3 g5
    obtain ⟨z6, h6, _⟩ := DataW.trod_int Tryz.underlying3 g6
    simp at h0 h2 h3 h4 h5 h6
    subst h0 h2 h3 h4 h5 h6
    rcases open_slice Tryz.underlying42 g1 with ⟨h1, _⟩ | ⟨a, len, cap, _, _, _, _, h1, _⟩
    · simp at h1
      subst h1
      exact ⟨_, _, _, _, _, _, _, _, _, rfl⟩
    · simp at h1
      subst h1
      exact ⟨_, _, _, _, _, _, _, _, _, rfl⟩

set_option maxRecDepth 100000 in
theorem open_op {fuel : Nat} {cs : List Value} {x : DataW H × List MemPlace} (h : DataW.trod enc Tryz.prog w base sp held fuel 46 cs = some x) (hw : ∀ q ∈ DataW.weights Tryz.prog 46 x.1, q ≤ reachBytes) : ∃ v : OpV, cs = v.row ∧ v.Ok w := by
  obtain ⟨xs, n, _, rfl, hl, hx, hf⟩ := DataW.trod_struct Tryz.underlying46 h
  have hc : Tryz.prog.cellsOf 46 = 18 := by kernel_rfl
  have hc3 : Tryz.prog.cellsOf 3 = 1 := by kernel_rfl
  have hc2 : Tryz.prog.cellsOf 2 = 1 := by kernel_rfl
  have hc4 : Tryz.prog.cellsOf 4 = 1 := by kernel_rfl
  have hc44 : Tryz.prog.cellsOf 44 = 7 := by kernel_rfl
  have hc40 : Tryz.prog.cellsOf 40 = 4 := by kernel_rfl
  rw [hc] at hl
  match cs, hl with
  | [c0, c1, c2, c3, c4, c5, c6, c7, c8, c9, c10, c11, c12, c13, c14, c15, c16, c17], _ =>
    have g0 := hf 0 { name := "Kind", type := 3, offset := 0, embedded := false, tag := "", pkgPath := "", byteOffset := 0 } rfl
    have g1 := hf 1 { name := "A", type := 3, offset := 1, embedded := false, tag := "", pkgPath := "", byteOffset := 8 } rfl
    have g2 := hf 2 { name := "B", type := 3, offset := 2, embedded := false, tag := "", pkgPath := "", byteOffset := 16 } rfl
    have g3 := hf 3 { name := "C", type := 3, offset := 3, embedded := false, tag := "", pkgPath := "", byteOffset := 24 } rfl
    have g4 := hf 4 { name := "D", type := 3, offset := 4, embedded := false, tag := "", pkgPath := "", byteOffset := 32 } rfl
    have g5 := hf 5 { name := "N", type := 2, offset := 5, embedded := false, tag := "", pkgPath := "", byteOffset := 40 } rfl
    have g6 := hf 6 { name := "Yes", type := 4, offset := 6, embedded := false, tag := "", pkgPath := "", byteOffset := 48 } rfl
    have g7 := hf 7 { name := "M", type := 44, offset := 7, embedded := false, tag := "", pkgPath := "", byteOffset := 56 } rfl
    have g8 := hf 8 { name := "Config", type := 40, offset := 14, embedded := false, tag := "", pkgPath := "", byteOffset := 128 } rfl
    simp only [hc3, hc2, hc4, hc44, hc40, List.drop_zero, List.take_succ_cons, List.take_zero, List.drop_succ_cons] at g0 g1 g2 g3 g4 g5 g6 g7 g8
    obtain ⟨y0, e0⟩ : ∃ y, xs[0]? = some y := ⟨_, List.getElem?_eq_getElem (by rw [hx]; decide)⟩
    obtain ⟨y1, e1⟩ : ∃ y, xs[1]? = some y := ⟨_, List.getElem?_eq_getElem (by rw [hx]; decide)⟩
    obtain ⟨y2, e2⟩ : ∃ y, xs[2]? = some y := ⟨_, List.getElem?_eq_getElem (by rw [hx]; decide)⟩
    obtain ⟨y3, e3⟩ : ∃ y, xs[3]? = some y := ⟨_, List.getElem?_eq_getElem (by rw [hx]; decide)⟩
    obtain ⟨y4, e4⟩ : ∃ y, xs[4]? = some y := ⟨_, List.getElem?_eq_getElem (by rw [hx]; decide)⟩
    obtain ⟨y5, e5⟩ : ∃ y, xs[5]? = some y := ⟨_, List.getElem?_eq_getElem (by rw [hx]; decide)⟩
    obtain ⟨y6, e6⟩ : ∃ y, xs[6]? = some y := ⟨_, List.getElem?_eq_getElem (by rw [hx]; decide)⟩
    obtain ⟨y7, e7⟩ : ∃ y, xs[7]? = some y := ⟨_, List.getElem?_eq_getElem (by rw [hx]; decide)⟩
    obtain ⟨y8, e8⟩ : ∃ y, xs[8]? = some y := ⟨_, List.getElem?_eq_getElem (by rw [hx]; decide)⟩
    rw [e0] at g0
    rw [e1] at g1
    rw [e2] at g2
    rw [e3] at g3
    rw [e4] at g4
    rw [e5] at g5
    rw [e6] at g6
    rw [e7] at g7
    rw [e8] at g8
    simp only [DataW.weights, Tryz.underlying46] at hw
    obtain ⟨z0, h0, _⟩ := DataW.trod_int Tryz.underlying3 g0
    obtain ⟨z1, h1, _, w1⟩ := DataW.trod_int Tryz.underlying3 g1
    obtain ⟨z2, h2, _⟩ := DataW.trod_int Tryz.underlying3 g2
    obtain ⟨z3, h3, _⟩ := DataW.trod_int Tryz.underlying3 g3
    obtain ⟨z4, h4, _⟩ := DataW.trod_int Tryz.underlying3 g4
    obtain ⟨z5, h5, _⟩ := DataW.trod_int Tryz.underlying2 g5
    obtain ⟨z6, h6, _⟩ := DataW.trod_bool Tryz.underlying4 g6
    obtain ⟨m0, m2, m3, m4, m5, m6, aw, nw, cw, h7⟩ := open_message g7
    obtain ⟨s, aT, aP, aL, mT, mP, mL, cT, cP, cL, T, Q, L, h8, lT, lP, lL, iT, iP, iL, bT, bP, bL⟩ := open_config g8 (fun q hq => hw q (mem_each _ _ 8 40 y8.1 q rfl (by rw [List.getElem?_map, e8]; rfl) hq))
    simp at h0 h1 h2 h3 h4 h5 h6 h7 h8
    obtain ⟨rfl, rfl, rfl, rfl, rfl, rfl, rfl⟩ := h7
    obtain ⟨rfl, rfl, rfl, rfl⟩ := h8
    subst h0 h1 h2 h3 h4 h5 h6
    unfold reachBytes at bT bP bL
    have hz := wf64 w1
    exact ⟨⟨z0, z1, z2, z3, z4, z5, z6, m0, m2, m3, m4, m5, m6, aw, nw, cw, s, aT, aP, aL, mT, mP, mL, cT, cP, cL, T, Q, L⟩, rfl, ⟨iT, iP, iL, lT, lP, lL, by simp only; omega, by simp only; omega, by simp only; omega, hz.1, hz.2⟩⟩
end
end Go.Proofs.YtgiiegppaleldaaGreatDoor
