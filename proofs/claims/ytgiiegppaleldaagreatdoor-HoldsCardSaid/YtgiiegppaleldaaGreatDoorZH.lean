import Derived.Test.YtgiiegppaleldaaGreatDoorZA
import Derived.Test.YtgiiegppaleldaaGreatDoorZE
import Derived.Test.YtgiiegppaleldaaGreatDoorRR
import Derived.ChangeSame
import Derived.ChangeVars
import Derived.JoinedOf
import Derived.RowKit
import Derived.RowKitTokens
import Derived.LaidLaws
import Derived.LaidHandle
import Derived.Stop.Joined
import Derived.Carry
import Derived.LaidMore
/- The row of Holds. -/
namespace Go.Proofs.YtgiiegppaleldaaGreatDoor
open Go.ChangeShapes Go.WideShapes Go.RowKit Go.Deep

theorem Tryz.own : ownKnob Tryz.prog.godebug = none := by kernel_rfl
theorem Tryz.laidOut : laidOutB Tryz.prog = true := by kernel_rfl
theorem Tryz.et : Tryz.prog.globalNamed "errors.errorType" = some 0 := by kernel_rfl
theorem Tryz.rt : (Tryz.prog.cutTypes.find? (·.1 == "internal/reflectlite.rtype")).map (·.2) = some 224 := by kernel_rfl
theorem Tryz.oneRow : ((List.range 285).filter fun t => Tryz.prog.rowNamed t [101, 114, 114, 111, 114]) = [100] := by kernel_rfl
theorem Tryz.sizeT : Tryz.prog.types.size = 285 := by kernel_rfl

theorem handle_of_laid {W : World} (h : laidMetH Tryz.prog Rows.holdsRow.laid W) : Gl W := by
  have h' : laidMet Tryz.prog [("math/bits.deBruijn32tab", Rows.laid_math_bits_deBruijn32tab), ("math/bits.deBruijn64tab", Rows.laid_math_bits_deBruijn64tab), ("internal/strconv.uint64pow10", Rows.laid_internal_strconv_uint64pow10)] W ∧ handlesMet Tryz.prog [("errors.errorType", Rows.laid_errors_errorType)] W := h
  obtain ⟨name, u, ty, e1, e2, e3, e4, e5⟩ := h'.2 _ (List.mem_singleton.2 rfl)
  have en : name = [101, 114, 114, 111, 114] := (Option.some.inj e1).symm
  subst en
  obtain rfl := Option.some.inj (Tryz.rt.symm.trans e2)
  have hm : ty ∈ (List.range 285).filter fun t => Tryz.prog.rowNamed t [101, 114, 114, 111, 114] := List.mem_filter.2 ⟨List.mem_range.2 (by rw [← Tryz.sizeT]; exact e3), e4⟩
  rw [Tryz.oneRow] at hm
  obtain rfl := List.mem_singleton.1 hm
  have hh : typeHandle Tryz.prog 100 = .pointer (some ⟨4, 100, none⟩) := by kernel_rfl
  rw [hh] at e5
  unfold Gl
  simpa using World.var?_cell Tryz.et e5 0

instance : Inhabited OpV := ⟨⟨0, 0, 0, 0, 0, 0, false, 0, 0, 0, 0, 0, 0, none, 0, 0, 0, none, none, none, 0, 0, 0, 0, 0, 0, [], [], []⟩⟩

theorem row_one (v : OpV) : ∀ u ∈ v.row, u.oneCell' = true := by
  intro u hu
  simp [OpV.row] at hu
  rcases hu with rfl | rfl | rfl | rfl | rfl | rfl | rfl | rfl | rfl | rfl | rfl | rfl | rfl | rfl | rfl | rfl | rfl | rfl <;> rfl

set_option maxRecDepth 100000 in
theorem open_script {H : Type} {enc : TypeId × Value → H} {w : World} {base : Nat} {sp : Nat → Bool} {held : Bool} {fuel : Nat} {a : Option Addr} {len cap : Nat} {x : DataW H × List MemPlace} (h : DataW.trod enc Tryz.prog w base sp held fuel 22 [.slice a len cap] = some x) (hw : ∀ q ∈ DataW.weights Tryz.prog 22 x.1, q ≤ reachBytes) :
    ∃ vs : List OpV, vs.length = len ∧ Inl w 18 (.slice a len cap) (vs.map OpV.row) ∧ (∀ (i : Nat) v, vs[i]? = some v → v.Ok w) ∧ len * 208 ≤ reachBytes := by
  have hc : Tryz.prog.cellsOf 46 = 18 := by kernel_rfl
  have hby : Tryz.prog.bytesOf 46 = 208 := by kernel_rfl
  rcases open_slice Tryz.underlying22 h with ⟨e, rfl⟩ | ⟨a', len', cap', m, n, D, Pl, e, _, hl, hmx, hm, rfl, hx⟩
  · simp at e
    obtain ⟨rfl, rfl, rfl⟩ := e
    exact ⟨[], rfl, ⟨by simp, by simp, none, 0, rfl, by simp, .inl rfl⟩, by simp, by simp⟩
  · simp at e
    obtain ⟨rfl, rfl, rfl⟩ := e
    have hlm : len ≤ m := by rw [hm]; split <;> omega
    simp only [DataW.weights, Tryz.underlying22, List.length_map, List.length_range] at hw
    obtain ⟨F, hF⟩ := choose_lt (α := OpV) (n := len) (p := fun i q => w.cells? base (a'.add (i * 18)) 18 = some q.row ∧ q.Ok w) (fun i hi => by
      obtain ⟨cs', h1, h2⟩ := hx i (by omega)
      obtain ⟨q, rfl, hq⟩ := open_op h2 (fun z hz => hw z (List.mem_cons_of_mem _ (List.mem_append_left _ (mem_all _ (D i) z (List.mem_map.2 ⟨i, List.mem_range.2 hi, rfl⟩) hz))))
      rw [hc] at h1
      exact ⟨q, h1, hq⟩)
    refine ⟨(List.range len).map F, by simp, ?_, ?_, ?_⟩
    · rw [List.map_map]
      exact inl_of_cells (OpV.row ∘ F) (by omega) (by omega) (fun i hi => (hF i hi).1) (fun i _ => row_one (F i))
    · intro i v hv
      rw [List.getElem?_map] at hv
      rcases Nat.lt_or_ge i len with hi | hi
      · rw [List.getElem?_range hi] at hv
        simp at hv
        rw [← hv]
        exact (hF i hi).2
      · rw [List.getElem?_eq_none (by simpa using hi)] at hv
        simp at hv
    · have := hw ((len + (m - len)) * Tryz.prog.bytesOf 46) List.mem_cons_self
      rw [hby] at this
      exact Nat.le_trans (Nat.mul_le_mul_right _ (by omega)) this

theorem laid_met (os : Os) (args : Array Value) : laidMetH Tryz.prog Rows.holdsRow.laid ((World.doorLaid Tryz.prog 200 os).forCall (fun _ _ => 0) ⟨#[], args, []⟩).memory :=
  laidMetH_of_parts (laidMet_of_run' 8 (by kernel_rfl) (by kernel_rfl)) (by kernel_rfl)

set_option maxRecDepth 100000 in
theorem law_lifted (os : Os) (started : os.Started) (H : Type) (enc : TypeId × Value → H) :
    ReturnsInHanded {} Tryz.checked os 4 .any (fun w args => (Rows.holdsSpec.pre enc Tryz.prog Tryz.f4 [] false w args ∧ laidMetH Tryz.prog Rows.holdsRow.laid w) ∧ sizedMet enc Tryz.prog Tryz.f4 (OpenSpec.ofChange Rows.holdsSpec) false w args)
      (Rows.holdsSpec.post enc Tryz.prog Tryz.f4 false true false false) := by
  refine returnsInHanded_of_change_and (C := Tryz.checked) (X := fun w _ => laidMetH Tryz.prog Rows.holdsRow.laid w) (fun _ _ _ hh h => h.of_heap hh) Tryz.own started (by kernel_rfl) Tryz.func4
    (ChangeSpec.witness_at (enc := enc) (C := Tryz.checked) (os := os) (X := fun w _ => laidMetH Tryz.prog Rows.holdsRow.laid w) false (World.doorLaid Tryz.prog 200 os) #[.slice none 0 0] 8 rfl (by kernel_rfl) (by kernel_rfl) (by kernel_rfl) (by kernel_rfl) (by kernel_rfl) (laid_met os _)) ?_
  intro W base args ds gs before hval0 hW _ hwt hL _
  have hval : ∀ (j : Nat) t v, Tryz.f4.params[j]? = some t → args[j]? = some v → Value.okWide Tryz.prog W .any base t v := hval0
  have hW' := hW
  obtain ⟨p, q, hA0, hV0, rfl, hfz, hnd⟩ := hW
  have hA : DataW.TrodAll enc Tryz.prog W 0 (fun _ => true) true Tryz.f4.params.toList args.toList ds p := hA0
  have hV : DataW.TrodVars enc Tryz.prog W (fun _ => true) [] gs q := hV0
  rw [Tryz.params4] at hA hval
  obtain ⟨v0, d0, rfl, rfl, h0⟩ := trodAll_one hA
  obtain ⟨rfl, rfl⟩ : gs = [] ∧ q = [] := by
    cases gs with
    | nil => exact ⟨rfl, hV⟩
    | cons g r => exact absurd hV (by intro h; cases h)
  obtain ⟨a0, len, cap, rfl⟩ := okWide_slice Tryz.underlying22 (hval 0 22 v0 rfl rfl)
  simp only [List.append_nil] at hW'
  have hlt : ∀ x ∈ p, x.block < W.heap.size := fun x hx => by simpa using hW'.lt x hx
  have hwt2 : ∀ z ∈ DataW.weights Tryz.prog 22 d0, z ≤ reachBytes := fun z hz => by
    have hm : z ∈ DataW.weightsEach Tryz.checked.prog (Tryz.f4.params.toList ++ DataSpec.varTypes Tryz.checked.prog Rows.holdsSpec.plain) ([d0] ++ []) := by
      rw [Tryz.params4]
      exact mem_each _ _ 0 22 d0 z rfl rfl hz
    simpa using List.all_eq_true.1 hwt z hm
  have h0' := h0
  obtain ⟨fuel, hf⟩ := h0'
  obtain ⟨vs, hl, hI, hO, hB⟩ := open_script hf hwt2
  unfold reachBytes at hB
  refine (holds_any api a0 len cap vs W (handle_of_laid hL) hI hO hl (by omega)).mono fun e W' ⟨he, bel⟩ => ?_
  subst he
  have e1 : Rows.holdsSpec.fn H ([d0] ++ []) = { results := [.lit (.bool true)], args := [d0] } := by simp [Rows.holdsSpec]
  refine ⟨_, rfl, _, _, _, [], p, [], hW', ?_, ?_, ?_, bel.frame _, fun h => by cases h⟩
  · rw [e1]; exact trodAll_mk1 (shut_bool Tryz.underlying4 true)
  · rw [e1]; exact trodAll_mk1 (Below.trod Tryz.laidOut (by kernel_rfl) (of_decide_eq_true (by kernel_rfl)) h0 bel hlt)
  · rw [e1]; rfl

theorem holds_said : Rows.HoldsSaid :=
  OpenClaim.holds_of_wide 4 Tryz.f4 rfl rfl rfl rfl rfl rfl rfl ⟨rfl, rfl, rfl, rfl, rfl⟩ rfl rfl rfl rfl rfl (by kernel_rfl) Tryz.func4 (by kernel_rfl)
    (of_decide_eq_true (by kernel_rfl)) (by unfold Func.isWrapper; rw [if_neg (of_decide_eq_false (by kernel_rfl))]; exact ⟨rfl, rfl⟩)
    (fun os started H enc _ => law_lifted os started H enc)
end Go.Proofs.YtgiiegppaleldaaGreatDoor
