import Derived.Test.YtgiiegppaleldaaGreatDoorYY
import Derived.Test.YtgiiegppaleldaaGreatDoorZB
/- The region of plays that picks a kernel and lets it work. -/
namespace Go.Proofs.YtgiiegppaleldaaGreatDoor
open Go.RowKit

set_option maxRecDepth 100000 in
set_option maxHeartbeats 20000000 in
theorem region16 {Q : Exit → Act → World → Prop} {R8 : World → Prop} (u1 u2 u3 u4 u6 u8 u9 u10 u11 u12 u13 u14 u15 u16 u17 u18 u19 u20 u21 u22 u23 u24 u25 u26 u27 u28 u29 u30 u31 u32 u33 u34 u35 u36 u37 u38 u39 u40 u41 u42 u43 u44 u45 u46 u47 u48 u49 u50 u51 u52 u53 u54 u55 u56 u57 u58 u59 u60 u61 u62 u63 u64 u65 u66 u67 u68 u69 u70 u71 u72 u73 u74 u75 u76 u77 u78 u79 u80 u81 u82 u83 u84 u85 u86 u87 u88 u89 u90 u91 u92 u93 u94 u95 : Value) (b b1 o1 nS cS k g nP cp i x y : Nat) (v : OpV) (w : World) (hk : k < nS) (_hnS : nS ≤ 900000000000) (hi : i < nP) (_hnP : nP ≤ 900000000002)
    (R : w.rangeAt b1 (o1 + k * 18) v.row) (cps : w.cell? ⟨b, 0, none⟩ = some (.slice (some ⟨g, 0, none⟩) nP cp)) (pc0 : w.cell? ⟨g, i * 2, none⟩ = some (.pointer (some ⟨x, 0, none⟩))) (pc1 : w.cell? ⟨g, i * 2 + 1, none⟩ = some (.pointer (some ⟨y, 0, none⟩)))
    (P9 : Calls Tryz.prog 9 #[.int .i64 v.ka, .int .i64 nP] w.drew fun e w' => e = .returned (.int .i64 i) ∧ w' = w.drew)
    (P8 : Calls Tryz.prog 8 #[.pointer (some ⟨b, 0, none⟩), .agg v.row.toArray, .agg #[.pointer (some ⟨x, 0, none⟩), .pointer (some ⟨y, 0, none⟩)]] w.drew fun e w' => e = .returned (.bool true) ∧ R8 w')
    (hQ : ∀ (z65 z66 z67 z68 z69 z70 z71 z72 z73 z74 z75 z76 z77 z78 z79 z80 z81 z82 z83 z84 z85 z86 z87 : Value) (w4 : World), R8 w4 → Q .normal ⟨#[.slice (some ⟨b1, o1, none⟩) nS cS, u1, u2, u3, u4, .pointer (some ⟨b, 0, none⟩), .bool true, .int .i64 k, u8, u9, u10, u11, u12, u13, u14, u15, u16, u17, u18, u19, u20, u21, u22, u23, u24, u25, u26, u27, u28, u29, u30, u31, u32, u33, u34, u35, u36, u37, u38, u39, u40, u41, u42, u43, u44, u45, u46, u47, u48, u49, u50, u51, u52, u53, u54, u55, u56, u57, u58, u59, u60, u61, u62, u63, u64, z65, z66, z67, z68, z69, z70, z71, z72, z73, z74, z75, z76, z77, z78, z79, z80, z81, z82, z83, z84, z85, z86, z87, u88, u89, u90, u91, u92, u93, u94, u95], []⟩ w4) :
    (Code.region 16 ops16.toArray true).wp Tryz.prog Q ⟨#[.slice (some ⟨b1, o1, none⟩) nS cS, u1, u2, u3, u4, .pointer (some ⟨b, 0, none⟩), u6, .int .i64 k, u8, u9, u10, u11, u12, u13, u14, u15, u16, u17, u18, u19, u20, u21, u22, u23, u24, u25, u26, u27, u28, u29, u30, u31, u32, u33, u34, u35, u36, u37, u38, u39, u40, u41, u42, u43, u44, u45, u46, u47, u48, u49, u50, u51, u52, u53, u54, u55, u56, u57, u58, u59, u60, u61, u62, u63, u64, u65, u66, u67, u68, u69, u70, u71, u72, u73, u74, u75, u76, u77, u78, u79, u80, u81, u82, u83, u84, u85, u86, u87, u88, u89, u90, u91, u92, u93, u94, u95], []⟩ w := by
  have hk' : (k : Int) < (nS : Int) := by omega
  have hi' : (i : Int) < (nP : Int) := by omega
  have gg0 : w.cell? ⟨b1, o1 + k * 18, none⟩ = some (.int .i64 v.kd) := R 0 (.int .i64 v.kd) rfl
  have gg1 : w.cell? ⟨b1, o1 + k * 18 + 1, none⟩ = some (.int .i64 v.ka) := R 1 (.int .i64 v.ka) rfl
  have gg2 : w.cell? ⟨b1, o1 + k * 18 + 2, none⟩ = some (.int .i64 v.kb) := R 2 (.int .i64 v.kb) rfl
  have gg3 : w.cell? ⟨b1, o1 + k * 18 + 3, none⟩ = some (.int .i64 v.kcc) := R 3 (.int .i64 v.kcc) rfl
  have gg4 : w.cell? ⟨b1, o1 + k * 18 + 4, none⟩ = some (.int .i64 v.kd2) := R 4 (.int .i64 v.kd2) rfl
  have gg5 : w.cell? ⟨b1, o1 + k * 18 + 5, none⟩ = some (.int .i64 v.kn) := R 5 (.int .i64 v.kn) rfl
  have gg6 : w.cell? ⟨b1, o1 + k * 18 + 6, none⟩ = some (.bool v.ky) := R 6 (.bool v.ky) rfl
  have gg7 : w.cell? ⟨b1, o1 + k * 18 + 7, none⟩ = some (.int .i64 v.m0) := R 7 (.int .i64 v.m0) rfl
  have gg8 : w.cell? ⟨b1, o1 + k * 18 + 8, none⟩ = some (.slice v.aw v.nw v.cw) := R 8 (.slice v.aw v.nw v.cw) rfl
  have gg9 : w.cell? ⟨b1, o1 + k * 18 + 9, none⟩ = some (.int .i64 v.m2) := R 9 (.int .i64 v.m2) rfl
  have gg10 : w.cell? ⟨b1, o1 + k * 18 + 10, none⟩ = some (.int .i64 v.m3) := R 10 (.int .i64 v.m3) rfl
  have gg11 : w.cell? ⟨b1, o1 + k * 18 + 11, none⟩ = some (.int .i64 v.m4) := R 11 (.int .i64 v.m4) rfl
  have gg12 : w.cell? ⟨b1, o1 + k * 18 + 12, none⟩ = some (.int .i64 v.m5) := R 12 (.int .i64 v.m5) rfl
  have gg13 : w.cell? ⟨b1, o1 + k * 18 + 13, none⟩ = some (.int .i64 v.m6) := R 13 (.int .i64 v.m6) rfl
  have gg14 : w.cell? ⟨b1, o1 + k * 18 + 14, none⟩ = some (.int .i64 v.sp) := R 14 (.int .i64 v.sp) rfl
  have gg15 : w.cell? ⟨b1, o1 + k * 18 + 15, none⟩ = some (.slice v.aT v.mT v.cT) := R 15 (.slice v.aT v.mT v.cT) rfl
  have gg16 : w.cell? ⟨b1, o1 + k * 18 + 16, none⟩ = some (.slice v.aP v.mP v.cP) := R 16 (.slice v.aP v.mP v.cP) rfl
  have gg17 : w.cell? ⟨b1, o1 + k * 18 + 17, none⟩ = some (.slice v.aL v.mL v.cL) := R 17 (.slice v.aL v.mL v.cL) rfl
  have HP := hid (And.intro P9 (And.intro P8 hQ))
  clear P9 P8 hQ R
  refine wp_region_still_tail (l := ops16) 22 mx lex16 ?_
  simp only [List.take_succ_cons, List.take_zero, List.drop_succ_cons, List.drop_zero]
  still_step
  still_step
  still_step
  still_step
  still_step
  still_step
  still_step
  still_step
  still_step
  still_step
  still_step
  still_step
  still_step
  still_step
  still_step
  still_step
  still_step
  still_step
  still_step
  still_call HP.out.1
  still_step
  still_step
  refine wpStill_nil ?_
  go_wp2_with (go_at_call 8; refine HP.out.2.1.mono ?_; rintro e w4 ⟨rfl, h8⟩)
  exact HP.out.2.2 _ _ _ _ _ _ _ _ _ _ _ _ _ _ _ _ _ _ _ _ _ _ _ w4 h8
end Go.Proofs.YtgiiegppaleldaaGreatDoor
