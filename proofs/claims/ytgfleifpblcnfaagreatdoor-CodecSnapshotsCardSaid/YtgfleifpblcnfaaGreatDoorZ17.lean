/- Joined texts, part 17: HH JG. -/
import Derived.Test.YtgfleifpblcnfaaGreatDoorZ15
import Derived.Test.YtgfleifpblcnfaaGreatDoorZ16
import Derived.Test.YtgfleifpblcnfaaGreatDoorZ12
import Derived.Test.YtgfleifpblcnfaaGreatDoorZ13
import Derived.Test.YtgfleifpblcnfaaGreatDoorZ14
import Derived.Test.YtgfleifpblcnfaaGreatDoorZ11
import Derived.Deep.RegionHeldLaw

/- dunnageref04.ReadSnapshot, whole. -/
namespace Go.Proofs.YtgfleifpblcnfaaGreatDoor
set_option linter.unusedSimpArgs false
open Go.RowKit
set_option linter.unusedVariables false

set_option maxHeartbeats 25600000 in
set_option maxRecDepth 1000000 in
theorem rReadSnapshot04_any (ns rest : List Int) (A : Option Addr) (n c : Nat) (w : World) (hn : n = (encs ns ++ rest).length) (hl : n ≤ 100000) (hns : Nums ns) (hb : Octs rest) (hm : rest = [] ∨ (rest ≠ [] ∧ Miss rest)) (hr : Row w w.heap.size A (u8s (encs ns ++ rest))) :
    Calls Tryz.prog 13 #[.slice A n c] w (RNTo (rdB noSnap rdSnap ns rest) w) := by
  have b0 : Below w.heap.size w (w.alloc (.cells #[.slice none 0 0, .slice none 0 0, .slice none 0 0] 26)) := (Below.refl _ _).alloc (Nat.le_refl _) _
  have HX := Lib.hid (Box.new w [.slice none 0 0, .slice none 0 0, .slice none 0 0] 26)
  have HALL := Lib.hid (rAll_any ns rest A n c (w.alloc (.cells #[.slice none 0 0, .slice none 0 0, .slice none 0 0] 26)) hn hl hns hb hm ((hr.below b0 (Nat.le_refl _)).more b0.size))
  have HB0 := Lib.hid b0
  have HNS := Lib.hid hns
  have HLN : Hid (ns.length ≤ 100000) := by
    have := encs_len_ge ns
    show _ ≤ _
    simp at hn; omega
  clear hn hl hns hb hm hr b0
  go_enter Tryz.func13, Tryz.ntmps13
  go_wp2_with fail
  refine HALL.out.mono ?_
  clear HALL
  rintro e w1 ⟨h, hb1⟩
  have hz0 : w.heap.size + 1 ≤ w1.heap.size := by have := hb1.size; simpa using this
  have HX1 : Hid (Box w1 w.heap.size [.slice none 0 0, .slice none 0 0, .slice none 0 0]) := HX.out.turn (Turn.of_below (r := w1.heap.size) hb1) (by omega)
  have HB1 := Lib.hid (HB0.out.trans (hb1.mono HB0.out.size))
  have HBEE : Hid (∀ (v : World) (x0 x1 x2 : Value), Below w.heap.size w v → Below w.heap.size w (((v.setCell ⟨w.heap.size, 0, none⟩ x0).setCell ⟨w.heap.size, 1, none⟩ x1).setCell ⟨w.heap.size, 2, none⟩ x2)) := fun v x0 x1 x2 h => ((h.setCell (p := ⟨w.heap.size, 0, none⟩) (Nat.le_refl _) x0).setCell (p := ⟨w.heap.size, 1, none⟩) (Nat.le_refl _) x1).setCell (p := ⟨w.heap.size, 2, none⟩) (Nat.le_refl _) x2
  have hsz : (w.alloc (.cells #[.slice none 0 0, .slice none 0 0, .slice none 0 0] 26)).heap.size = w.heap.size + 1 := by simp
  have hwl : w.heap.size < w1.heap.size := by omega
  clear hb1 HX
  obtain ⟨g0, k0⟩ := HX1.out.at 0 (.slice none 0 0) rfl
  obtain ⟨g1, k1⟩ := HX1.out.at 1 (.slice none 0 0) rfl
  obtain ⟨g2, k2⟩ := HX1.out.at 2 (.slice none 0 0) rfl
  rcases h with ⟨hre, v, rfl, hown⟩ | ⟨hre, rfl⟩
  · rw [hsz] at hown
    obtain ⟨A1, c1, rfl, hc1, hcm1, hn1, _⟩ := own_cap hown
    have hlen : (u64s ns).length = ns.length := by simp
    rw [hlen]
    have HOWN := Lib.hid hown
    have HRE := Lib.hid hre
    have hln := HLN.out
    clear hre hown hn1 hc1 hcm1 hlen hsz
    obtain ⟨q, hq⟩ : ∃ q, ns.length = q := ⟨_, rfl⟩
    rw [hq] at hln ⊢
    have HQ := Lib.hid hq
    clear hq
    by_cases h1 : q < 3
    · have HE : Hid (rdB noSnap rdSnap ns rest = (noSnap, 2, -1)) := by have := HQ.out; show _ = _; rw [rdB, if_pos HRE.out, rdSnap, if_pos (by omega)]
      go_wp2
      refine bodyPost_ret (v := .tuple #[.agg #[.slice none 0 0, .slice none 0 0, .slice none 0 0], .int .i64 2, .int .i64 (-1)]) ?_ rfl ?_
      · simp [results, Tryz.results13, go_sem, *]
      · exact rnTo_err HE.out (HBEE.out _ _ _ _ HB1.out)
    · obtain ⟨b, o, rfl, hbb, hcell⟩ := row_nums (Row.of_own HOWN.out).1 (by have := HQ.out; omega)
      have HBW : Hid (b ≠ w.heap.size) := by
        have := (HOWN.out.lt b rfl).1
        show _ ≠ _; omega
      clear HOWN
      have e0 : w1.cell? ⟨b, o, none⟩ = some (.int .u64 (ns.getD 0 0)) := by have := hcell 0 (by have := HQ.out; omega); simpa using this
      have e1 : w1.cell? ⟨b, o + 1, none⟩ = some (.int .u64 (ns.getD 1 0)) := hcell 1 (by have := HQ.out; omega)
      have e2 : w1.cell? ⟨b, o + 2, none⟩ = some (.int .u64 (ns.getD 2 0)) := hcell 2 (by have := HQ.out; omega)
      have HCELL := Lib.hid hcell
      obtain ⟨hx0a, hx0b⟩ := nums_at HNS.out 0
      obtain ⟨hx1a, hx1b⟩ := nums_at HNS.out 1
      obtain ⟨hx2a, hx2b⟩ := nums_at HNS.out 2
      clear hcell
      have h3q : (2 : Int) < (q : Int) := by omega
      have h2q : (1 : Int) < (q : Int) := by omega
      have h1q : (0 : Int) < (q : Int) := by omega
      by_cases hbig : 8 < ns.getD 0 0 ∨ 8 < ns.getD 1 0 ∨ 12 < ns.getD 2 0
      · have HE : Hid (rdB noSnap rdSnap ns rest = (noSnap, 3, -1)) := by have := HQ.out; show _ = _; rw [rdB, if_pos HRE.out, rdSnap, if_neg (by omega), if_pos hbig]
        generalize ns.getD 0 0 = x0 at *
        generalize ns.getD 1 0 = x1 at *
        generalize ns.getD 2 0 = x2 at *
        by_cases h8 : 8 < x0
        · clear hbig
          go_wp2
          refine bodyPost_ret (v := .tuple #[.agg #[.slice none 0 0, .slice none 0 0, .slice none 0 0], .int .i64 3, .int .i64 (-1)]) ?_ rfl ?_
          · simp [results, Tryz.results13, go_sem, *]
          · exact rnTo_err HE.out (HBEE.out _ _ _ _ HB1.out)
        · by_cases h81 : 8 < x1
          · clear hbig
            go_wp2
            refine bodyPost_ret (v := .tuple #[.agg #[.slice none 0 0, .slice none 0 0, .slice none 0 0], .int .i64 3, .int .i64 (-1)]) ?_ rfl ?_
            · simp [results, Tryz.results13, go_sem, *]
            · exact rnTo_err HE.out (HBEE.out _ _ _ _ HB1.out)
          · have h12 : 12 < x2 := by omega
            clear hbig
            go_wp2
            refine bodyPost_ret (v := .tuple #[.agg #[.slice none 0 0, .slice none 0 0, .slice none 0 0], .int .i64 3, .int .i64 (-1)]) ?_ rfl ?_
            · simp [results, Tryz.results13, go_sem, *]
            · exact rnTo_err HE.out (HBEE.out _ _ _ _ HB1.out)
      · obtain ⟨m1, hm1⟩ : ∃ m : Nat, ns.getD 0 0 = (m : Int) := ⟨(ns.getD 0 0).toNat, by omega⟩
        obtain ⟨m2, hm2⟩ : ∃ m : Nat, ns.getD 1 0 = (m : Int) := ⟨(ns.getD 1 0).toNat, by omega⟩
        obtain ⟨m3, hm3⟩ : ∃ m : Nat, ns.getD 2 0 = (m : Int) := ⟨(ns.getD 2 0).toNat, by omega⟩
        have HRD : Hid (rdB noSnap rdSnap ns rest = if q ≠ 3 + 10 * m1 + 5 * m2 + 8 * m3 then (noSnap, 2, -1) else if snapFine m1 m2 m3 (ns.drop 3) = false then (noSnap, 2, -1) else if (check (snapOf m1 m2 m3 (ns.drop 3))).1 ≠ 0 then (noSnap, check (snapOf m1 m2 m3 (ns.drop 3))) else (snapOf m1 m2 m3 (ns.drop 3), 0, -1)) := by
          have := HQ.out
          show _ = _
          rw [rdB, if_pos HRE.out, rdSnap, if_neg (by omega), if_neg hbig, hm1, hm2, hm3, Int.toNat_natCast, Int.toNat_natCast, Int.toNat_natCast, this]
        rw [hm1] at e0 hbig hx0a hx0b
        rw [hm2] at e1 hbig hx1a hx1b
        rw [hm3] at e2 hbig hx2a hx2b
        have hc1 : m1 ≤ 8 := by omega
        have hc2 : m2 ≤ 8 := by omega
        have hc3 : m3 ≤ 12 := by omega
        clear hbig hx0a hx0b hx1a hx1b hx2a hx2b hm1 hm2 hm3
        have hw1 : IntKind.i64.wrap (m1 : Int) = m1 := IntWalk.i64_in _ (by omega)
        have hw2 : IntKind.i64.wrap (m2 : Int) = m2 := IntWalk.i64_in _ (by omega)
        have hw3 : IntKind.i64.wrap (m3 : Int) = m3 := IntWalk.i64_in _ (by omega)
        have hw4 : IntKind.i64.wrap (10 * (m1 : Int)) = 10 * m1 := IntWalk.i64_in _ (by omega)
        have hw5 : IntKind.i64.wrap (3 + 10 * (m1 : Int)) = 3 + 10 * m1 := IntWalk.i64_in _ (by omega)
        have hw6 : IntKind.i64.wrap (5 * (m2 : Int)) = 5 * m2 := IntWalk.i64_in _ (by omega)
        have hw7 : IntKind.i64.wrap (3 + 10 * (m1 : Int) + 5 * m2) = 3 + 10 * m1 + 5 * m2 := IntWalk.i64_in _ (by omega)
        have hw8 : IntKind.i64.wrap (8 * (m3 : Int)) = 8 * m3 := IntWalk.i64_in _ (by omega)
        have hw9 : IntKind.i64.wrap (3 + 10 * (m1 : Int) + 5 * m2 + 8 * m3) = 3 + 10 * m1 + 5 * m2 + 8 * m3 := IntWalk.i64_in _ (by omega)
        by_cases hqq : q = 3 + 10 * m1 + 5 * m2 + 8 * m3
        · have hbe : ((q : Int) != 3 + 10 * (m1 : Int) + 5 * (m2 : Int) + 8 * (m3 : Int)) = false := by rw [bne_eq_false_iff_eq]; omega
          have HF := Lib.hid (HRD.out.trans (if_neg (fun h => h hqq)))
          have HQQ := Lib.hid hqq
          clear hqq HRD g0 k0 g1 k1 g2 k2
          go_wp2
          go_quiet (fail)
          clear hw1 hw2 hw3 hw4 hw5 hw6 hw7 hw8 hw9
          have hd : Below w1.heap.size w1 (w1.drewN nq) := below_drewn (Below.refl _ _) _
          have HD := Lib.hid hd
          have HB2 := Lib.hid (HB1.out.trans (hd.mono HB1.out.size))
          have HX2 : Hid (Box (w1.drewN nq) w.heap.size [.slice none 0 0, .slice none 0 0, .slice none 0 0]) := HX1.out.turn (Turn.of_below (r := w1.heap.size) hd) (by omega)
          have HC2 : Hid (∀ j, j < ns.length → (w1.drewN nq).cell? ⟨b, o + j, none⟩ = some (.int .u64 (ns.getD j 0))) := fun j hj => (hd.cell (p := ⟨b, o + j, none⟩) hbb).trans (HCELL.out j hj)
          have e0' : (w1.drewN nq).cell? ⟨b, o, none⟩ = some (.int .u64 (m1 : Int)) := (hd.cell (p := ⟨b, o, none⟩) hbb).trans e0
          have e1' : (w1.drewN nq).cell? ⟨b, o + 1, none⟩ = some (.int .u64 (m2 : Int)) := (hd.cell (p := ⟨b, o + 1, none⟩) hbb).trans e1
          have e2' : (w1.drewN nq).cell? ⟨b, o + 2, none⟩ = some (.int .u64 (m3 : Int)) := (hd.cell (p := ⟨b, o + 2, none⟩) hbb).trans e2
          have hz2 : w1.heap.size ≤ (w1.drewN nq).heap.size := hd.size
          clear e0 e1 e2 hd HX1
          generalize w1.drewN nq = w2 at *
          have hb2 : b < w2.heap.size := by omega
          have HE0 : Hid (∀ v : World, Turn w2.heap.size (w2.alloc (.cells #[.slice none 0 0, .slice none 0 0, .slice none 0 0] 26)) v → v.cell? ⟨b, o, none⟩ = some (.int .u64 (m1 : Int)) ∧ v.cell? ⟨b, o + 1, none⟩ = some (.int .u64 (m2 : Int)) ∧ v.cell? ⟨b, o + 2, none⟩ = some (.int .u64 (m3 : Int)) ∧ ∀ j, j < ns.length → v.cell? ⟨b, o + j, none⟩ = some (.int .u64 (ns.getD j 0))) := fun v ht => by
            have key : ∀ q, v.cell? ⟨b, q, none⟩ = w2.cell? ⟨b, q, none⟩ := fun q => (ht.cell (by simp; omega) (by omega)).trans (World.cell?_alloc_lt _ _ _ hb2)
            exact ⟨(key _).trans e0', (key _).trans e1', (key _).trans e2', fun j hj => (key _).trans (HC2.out j hj)⟩
          have HBX0 := Lib.hid (Box.new w2 [.slice none 0 0, .slice none 0 0, .slice none 0 0] 26)
          have hzW1 : w2.heap.size < (w2.alloc (.cells #[.slice none 0 0, .slice none 0 0, .slice none 0 0] 26)).heap.size := by simp
          clear e0' e1' e2'
          go_wp2
          have hbx : b ≠ w2.heap.size := by omega
          refine rsnLoop1 _ _ _ _ _ _ _ _ _ _ _ _ _ _ _ _ _ _ _ _ _ _ _ _ _ _ _ _ _ _ _ _ _ _ _ _ _ _ _ _ _ _ _ _ _ _ _ _ _ _ _ _ _ _ _ _ _ _ _ _ _ _ _ _ _ _ _ _ _ _ _ _ _ _ _ _ _ _ _ _ _ _ _ _ _ _ _ _ _ _ _ _ _ _ _ _ _ _ _ _ _ _ _ _ _ _ _ _ _ _ _ _ _ _ _ _ _ _ _ _ _ _ _ _ _ _ _ _ _ _ _ _ _ _ _ _ _ _ _ _ _ _ _ _ _ _ _ _ _ _ _ _ _ _ _ _ _ _ _ _ _ _ _ _ _ _ _ _ _ _ _ _ _ _ _ _ _ _ _ _ _ _ _ _ _ _ _ _ _ _ _ _ _ _ _ _ _ _ _ _ _ _ _ _ _ _ _ _ _ _ _ _ _ _ _ _ _ _ _ _ _ _ _ _ _ _ _ _ _ _ _ _ _ _ _ _ _ _ _ _ _ _ _ _ _ _ _ _ _ _ _ _ _ _ _ _ _ _ _ _ _ _ _ _ _ _ _ _ _ _ _ _ _ _ _ _ _ _ _ _ _ _ _ _ _ _ _ _ _ _ _ _ _ _ _ _ _ _ _ _ _ _ _ _ _ _ _ _ _ _ _ _ _ _ _ _ _ _ _ _ _ _ _ _ _ _ _ _ _ _ _ _ _ _ _ _ _ _ _ _ _ _ _ _ _ _ _ _ _ _ _ ns b o q c1 w2.heap.size 3 m1 true (.slice none 0 0) (.slice none 0 0) (w2.alloc (.cells #[.slice none 0 0, .slice none 0 0, .slice none 0 0] 26)) HNS.out HQ.out hln (by omega) (by have := HQQ.out; omega) hbx (by simp; omega) (by simp) (fun v ht => ⟨(HE0.out v ht).1, (HE0.out v ht).2.2.2⟩) (by omega) HBX0.out ?_
          intro n1_11 n1_12 n1_13 n1_14 n1_87 n1_88 n1_89 n1_90 n1_91 n1_92 n1_93 n1_94 n1_95 n1_96 n1_97 n1_98 n1_99 n1_100 n1_101 n1_102 n1_103 n1_104 n1_105 n1_106 n1_107 n1_108 n1_109 n1_110 n1_111 n1_112 n1_113 n1_114 n1_115 n1_116 n1_117 n1_118 n1_119 n1_120 n1_121 n1_122 n1_123 n1_124 n1_125 n1_126 n1_127 n1_128 n1_129 n1_130 n1_131 n1_132 n1_133 n1_134 n1_135 n1_136 n1_137 n1_138 n1_139 n1_140 n1_141 n1_142 n1_143 n1_144 n1_145 n1_146 n1_147 n1_148 n1_149 n1_150 n1_151 n1_152 n1_153 n1_154 n1_155 n1_156 n1_157 n1_158 n1_159 n1_160 n1_161 n1_162 n1_163 n1_164 n1_165 n1_166 n1_167 n1_168 n1_169 n1_170 xs1 E1 a1 f1 p1 W2 hp hf hxs hxl hbox hown hbr
          have HP1 := Lib.hid hp
          have HFF1 := Lib.hid hf
          have HXS1 := Lib.hid hxs
          have HXL1 := Lib.hid hxl
          have HBOX1 := Lib.hid hbox
          have HOW1 := Lib.hid hown
          have HBR1 := Lib.hid hbr
          have HT1 := Lib.hid (hbr)
          have hz2 : w2.heap.size < W2.heap.size := by have := HT1.out.size; simp at this; omega
          clear hp hf hxs hxl hbox hown hbr
          dsimp only
          go_wp2
          refine rsnLoop2 _ _ _ _ _ _ _ _ _ _ _ _ _ _ _ _ _ _ _ _ _ _ _ _ _ _ _ _ _ _ _ _ _ _ _ _ _ _ _ _ _ _ _ _ _ _ _ _ _ _ _ _ _ _ _ _ _ _ _ _ _ _ _ _ _ _ _ _ _ _ _ _ _ _ _ _ _ _ _ _ _ _ _ _ _ _ _ _ _ _ _ _ _ _ _ _ _ _ _ _ _ _ _ _ _ _ _ _ _ _ _ _ _ _ _ _ _ _ _ _ _ _ _ _ _ _ _ _ _ _ _ _ _ _ _ _ _ _ _ _ _ _ _ _ _ _ _ _ _ _ _ _ _ _ _ _ _ _ _ _ _ _ _ _ _ _ _ _ _ _ _ _ _ _ _ _ _ _ _ _ _ _ _ _ _ _ _ _ _ _ _ _ _ _ _ _ _ _ _ _ _ _ _ _ _ _ _ _ _ _ _ _ _ _ _ _ _ _ _ _ _ _ _ _ _ _ _ _ _ _ _ _ _ _ _ _ _ _ _ _ _ _ _ _ _ _ _ _ _ _ _ _ _ _ _ _ _ _ _ _ _ _ _ _ _ _ _ _ _ _ _ _ _ _ _ _ _ _ _ _ _ _ _ _ _ _ _ _ _ _ _ _ _ _ _ _ _ _ _ _ _ _ _ _ _ _ _ _ _ _ _ _ _ _ _ _ _ _ _ _ _ _ _ _ _ _ _ _ _ _ _ _ _ _ _ _ _ _ _ _ _ _ _ _ _ _ _ _ _ _ _ ns b o q c1 w2.heap.size p1 m2 f1 (.slice E1 m1 a1) (.slice none 0 0) W2 HNS.out HQ.out hln (by omega) (by have := HQQ.out; have := HP1.out; omega) hbx (by omega) hz2 (fun v ht => ⟨(HE0.out v (HT1.out.trans ht)).2.1, (HE0.out v (HT1.out.trans ht)).2.2.2⟩) (by omega) HBOX1.out ?_
          intro n2_16 n2_17 n2_18 n2_19 n2_20 n2_21 n2_22 n2_23 n2_171 n2_172 n2_173 n2_174 n2_175 n2_176 n2_177 n2_178 n2_179 n2_180 n2_181 n2_182 n2_183 n2_184 n2_185 n2_186 n2_187 n2_188 n2_189 n2_190 n2_191 n2_192 n2_193 n2_194 n2_195 n2_196 n2_197 n2_198 n2_199 n2_200 n2_201 n2_202 n2_203 n2_204 n2_205 n2_206 n2_207 n2_208 n2_209 n2_210 n2_211 n2_212 n2_213 n2_214 n2_215 n2_216 n2_217 n2_218 n2_219 n2_220 n2_221 n2_222 n2_223 n2_224 n2_225 n2_226 n2_227 n2_228 n2_229 n2_230 n2_231 n2_232 n2_233 n2_234 n2_235 n2_236 n2_237 n2_238 n2_239 n2_240 n2_241 n2_242 n2_243 n2_244 n2_245 n2_246 n2_247 n2_248 n2_249 n2_250 n2_251 n2_252 xs2 E2 a2 f2 p2 W3 hp hf hxs hxl hbox hown hbr
          have HP2 := Lib.hid hp
          have HFF2 := Lib.hid hf
          have HXS2 := Lib.hid hxs
          have HXL2 := Lib.hid hxl
          have HBOX2 := Lib.hid hbox
          have HOW2 := Lib.hid hown
          have HBR2 := Lib.hid hbr
          have HT2 := Lib.hid (HT1.out.trans hbr)
          have hz3 : w2.heap.size < W3.heap.size := by have := HT2.out.size; simp at this; omega
          have hy2 : W2.heap.size ≤ W3.heap.size := hbr.size
          clear hp hf hxs hxl hbox hown hbr
          dsimp only
          go_wp2
          refine rsnLoop3 _ _ _ _ _ _ _ _ _ _ _ _ _ _ _ _ _ _ _ _ _ _ _ _ _ _ _ _ _ _ _ _ _ _ _ _ _ _ _ _ _ _ _ _ _ _ _ _ _ _ _ _ _ _ _ _ _ _ _ _ _ _ _ _ _ _ _ _ _ _ _ _ _ _ _ _ _ _ _ _ _ _ _ _ _ _ _ _ _ _ _ _ _ _ _ _ _ _ _ _ _ _ _ _ _ _ _ _ _ _ _ _ _ _ _ _ _ _ _ _ _ _ _ _ _ _ _ _ _ _ _ _ _ _ _ _ _ _ _ _ _ _ _ _ _ _ _ _ _ _ _ _ _ _ _ _ _ _ _ _ _ _ _ _ _ _ _ _ _ _ _ _ _ _ _ _ _ _ _ _ _ _ _ _ _ _ _ _ _ _ _ _ _ _ _ _ _ _ _ _ _ _ _ _ _ _ _ _ _ _ _ _ _ _ _ _ _ _ _ _ _ _ _ _ _ _ _ _ _ _ _ _ _ _ _ _ _ _ _ _ _ _ _ _ _ _ _ _ _ _ _ _ _ _ _ _ _ _ _ _ _ _ _ _ _ _ _ _ _ _ _ _ _ _ _ _ _ _ _ _ _ _ _ _ _ _ _ _ _ _ _ _ _ _ _ _ _ _ _ _ _ _ _ _ _ _ _ _ _ _ _ _ _ _ _ _ _ _ _ _ _ _ _ _ _ _ _ _ _ _ _ _ _ _ _ _ _ _ _ _ _ _ _ _ _ _ _ _ _ _ _ ns b o q c1 w2.heap.size p2 m3 f2 (.slice E1 m1 a1) (.slice E2 m2 a2) W3 HNS.out HQ.out hln (by omega) (by have := HQQ.out; have := HP1.out; have := HP2.out; omega) hbx (by omega) hz3 (fun v ht => ⟨(HE0.out v (HT2.out.trans ht)).2.2.1, (HE0.out v (HT2.out.trans ht)).2.2.2⟩) (by omega) HBOX2.out ?_
          intro n3_25 n3_26 n3_27 n3_28 n3_29 n3_30 n3_31 n3_32 n3_253 n3_254 n3_255 n3_256 n3_257 n3_258 n3_259 n3_260 n3_261 n3_262 n3_263 n3_264 n3_265 n3_266 n3_267 n3_268 n3_269 n3_270 n3_271 n3_272 n3_273 n3_274 n3_275 n3_276 n3_277 n3_278 n3_279 n3_280 n3_281 n3_282 n3_283 n3_284 n3_285 n3_286 n3_287 n3_288 n3_289 n3_290 n3_291 n3_292 n3_293 n3_294 n3_295 n3_296 n3_297 n3_298 n3_299 n3_300 n3_301 n3_302 n3_303 n3_304 n3_305 n3_306 n3_307 n3_308 n3_309 n3_310 n3_311 n3_312 n3_313 n3_314 n3_315 n3_316 n3_317 n3_318 n3_319 n3_320 n3_321 n3_322 n3_323 n3_324 n3_325 n3_326 n3_327 n3_328 n3_329 n3_330 n3_331 n3_332 n3_333 n3_334 n3_335 n3_336 n3_337 n3_338 n3_339 n3_340 n3_341 xs3 E3 a3 f3 p3 wr hp hf hxs hxl hbox hown hbr
          have HP3 := Lib.hid hp
          have HFF3 := Lib.hid hf
          have HXS3 := Lib.hid hxs
          have HXL3 := Lib.hid hxl
          have HBOX3 := Lib.hid hbox
          have HOW3 := Lib.hid hown
          have HBR3 := Lib.hid hbr
          have HT3 := Lib.hid (HT2.out.trans hbr)
          have hz4 : w2.heap.size < wr.heap.size := by have := HT3.out.size; simp at this; omega
          have hy3 : W3.heap.size ≤ wr.heap.size := hbr.size
          clear hp hf hxs hxl hbox hown hbr
          dsimp only
          have HT := HT3
          have HX3 : Hid (∀ v : World, Turn w2.heap.size (w2.alloc (.cells #[.slice none 0 0, .slice none 0 0, .slice none 0 0] 26)) v → Box v w.heap.size [.slice none 0 0, .slice none 0 0, .slice none 0 0]) := fun v ht => (HX2.out.alloc (.cells #[.slice none 0 0, .slice none 0 0, .slice none 0 0] 26)).turn ht (by omega)
          have hx3 := HX3.out wr HT.out
          obtain ⟨g0, k0⟩ := hx3.at 0 (.slice none 0 0) rfl
          obtain ⟨g1, k1⟩ := hx3.at 1 (.slice none 0 0) rfl
          obtain ⟨g2, k2⟩ := hx3.at 2 (.slice none 0 0) rfl
          obtain ⟨s0, _⟩ := HBOX3.out.at 0 (.slice E1 m1 a1) rfl
          obtain ⟨s1, _⟩ := HBOX3.out.at 1 (.slice E2 m2 a2) rfl
          obtain ⟨s2, _⟩ := HBOX3.out.at 2 (.slice E3 m3 a3) rfl
          have hwr : w.heap.size < wr.heap.size := by omega
          have HBF : Hid (Below w.heap.size w wr) := HB2.out.trans (((Below.refl w2.heap.size w2).alloc (Nat.le_refl _) _ |>.trans (HT.out.below (by simp))).mono (by omega))
          have HPT := Lib.hid (snap_parts (l := ns) (m3 := m3) HP1.out HP2.out)
          clear hx3
          cases f3 with
          | false =>
            have HE := Lib.hid (HF.out.trans (if_pos (by rw [HPT.out.2]; have a1 := HFF1.out; have a2 := HFF2.out; have a3 := HFF3.out; rw [Bool.true_and] at a1; rw [← a1, ← Bool.and_assoc, ← a2]; exact a3.symm)))
            go_wp2
            refine bodyPost_ret (v := .tuple #[.agg #[.slice none 0 0, .slice none 0 0, .slice none 0 0], .int .i64 2, .int .i64 (-1)]) ?_ rfl ?_
            · simp [results, Tryz.results13, go_sem, *]
            · exact rnTo_err HE.out (HBEE.out _ _ _ _ HBF.out)
          | true =>
            have g3 := HFF3.out.symm
            rw [Bool.and_eq_true] at g3
            have g4 := HFF2.out.symm.trans g3.1
            rw [Bool.and_eq_true] at g4
            have g5 := HFF1.out.symm.trans g4.1
            rw [Bool.true_and] at g5
            have HE := Lib.hid (HF.out.trans (if_neg (by rw [HPT.out.2, g5, g4.2, g3.2]; decide)))
            rw [HPT.out.1, ← HXS1.out g5, ← HXS2.out g4.2, ← HXS3.out g3.2] at HE
            have HO1 := Lib.hid (own_turn (own_turn HOW1.out HBR2.out (by simp)) HBR3.out (by simp))
            have HO2 := Lib.hid (own_turn HOW2.out HBR3.out (by omega))
            have HU1 := Lib.hid (out_of_own (cells := cellsN) (size := 10) (fun _ => rfl) HXL1.out.symm HO1.out)
            have HU2 := Lib.hid (out_of_own (cells := cellsL) (size := 5) (fun _ => rfl) HXL2.out.symm HO2.out)
            have HU3 := Lib.hid (out_of_own (cells := cellsP) (size := 8) (fun _ => rfl) HXL3.out.symm HOW3.out)
            clear g3 g4 g5
            go_wp2_with fail
            refine (rCheck_any ⟨xs1, xs2, xs3⟩ E1 E2 E3 m1 a1 m2 a2 m3 a3 wr.heap.size _ HXL1.out.symm HXL2.out.symm HXL3.out.symm (by omega) (by omega) (by omega) (Nat.le_refl _) HU1.out.2.2.2 HU2.out.2.2.2 HU3.out.2.2.2).mono ?_
            rintro e w5 ⟨rfl, hb5⟩
            have ht5 : Turn w2.heap.size (w2.alloc (.cells #[.slice none 0 0, .slice none 0 0, .slice none 0 0] 26)) w5 := HT.out.trans (.of_below hb5)
            have HBG := Lib.hid (HBF.out.trans (hb5.mono HBF.out.size))
            have hx5 := HX3.out w5 ht5
            clear g0 k0 g1 k1 g2 k2 s0 s1 s2
            obtain ⟨g0, k0⟩ := hx5.at 0 (.slice none 0 0) rfl
            obtain ⟨g1, k1⟩ := hx5.at 1 (.slice none 0 0) rfl
            obtain ⟨g2, k2⟩ := hx5.at 2 (.slice none 0 0) rfl
            have hbx5 := HBOX3.out.turn (Turn.of_below (r := wr.heap.size) hb5) (by omega)
            obtain ⟨s0, _⟩ := hbx5.at 0 (.slice E1 m1 a1) rfl
            obtain ⟨s1, _⟩ := hbx5.at 1 (.slice E2 m2 a2) rfl
            obtain ⟨s2, _⟩ := hbx5.at 2 (.slice E3 m3 a3) rfl
            have HV1 := Lib.hid (own_later HO1.out hb5)
            have HV2 := Lib.hid (own_later HO2.out hb5)
            have HV3 := Lib.hid (own_later HOW3.out hb5)
            have hw5 : w.heap.size < w5.heap.size := by have := hb5.size; omega
            clear hb5 ht5 hx5 hbx5
            generalize check ⟨xs1, xs2, xs3⟩ = C at *
            obtain ⟨C1, C2⟩ := C
            by_cases hC : C1 = 0
            · have hbe2 : (C1 != 0) = false := by rw [bne_eq_false_iff_eq]; exact hC
              have HE2 := Lib.hid (HE.out.trans (if_neg (fun h => h hC)))
              clear hC
              go_wp2
              refine bodyPost_ret (v := .tuple #[.agg #[.slice E1 m1 a1, .slice E2 m2 a2, .slice E3 m3 a3], .int .i64 0, .int .i64 (-1)]) ?_ rfl ?_
              · simp [results, Tryz.results13, go_sem, *]
              · unfold RNTo
                rw [HE2.out]
                refine ⟨E1, E2, E3, a1, a2, a3, by rw [← HXL1.out, ← HXL2.out, ← HXL3.out], ?_, ?_, ?_, HBEE.out _ _ _ _ HBG.out⟩
                · exact out_of_own (cells := cellsN) (size := 10) (fun _ => rfl) HXL1.out.symm (own_set (own_set (own_set HV1.out (p := ⟨w.heap.size, 0, none⟩) (by simp; omega) _) (p := ⟨w.heap.size, 1, none⟩) (by simp; omega) _) (p := ⟨w.heap.size, 2, none⟩) (by simp; omega) _)
                · exact out_of_own (cells := cellsL) (size := 5) (fun _ => rfl) HXL2.out.symm (own_set (own_set (own_set HV2.out (p := ⟨w.heap.size, 0, none⟩) (by show w.heap.size < _; omega) _) (p := ⟨w.heap.size, 1, none⟩) (by show w.heap.size < _; omega) _) (p := ⟨w.heap.size, 2, none⟩) (by show w.heap.size < _; omega) _)
                · exact out_of_own (cells := cellsP) (size := 8) (fun _ => rfl) HXL3.out.symm (own_set (own_set (own_set HV3.out (p := ⟨w.heap.size, 0, none⟩) (by show w.heap.size < _; omega) _) (p := ⟨w.heap.size, 1, none⟩) (by show w.heap.size < _; omega) _) (p := ⟨w.heap.size, 2, none⟩) (by show w.heap.size < _; omega) _)
            · have hbe2 : (C1 != 0) = true := by rw [bne_iff_ne]; exact hC
              have HE2 := Lib.hid (HE.out.trans (if_pos hC))
              clear hC
              go_wp2
              refine bodyPost_ret (v := .tuple #[.agg #[.slice none 0 0, .slice none 0 0, .slice none 0 0], .int .i64 C1, .int .i64 C2]) ?_ rfl ?_
              · simp [results, Tryz.results13, go_sem, *]
              · exact rnTo_err HE2.out (HBEE.out _ _ _ _ HBG.out)
        · have hbe : ((q : Int) != 3 + 10 * (m1 : Int) + 5 * (m2 : Int) + 8 * (m3 : Int)) = true := by rw [bne_iff_ne]; omega
          have HE := Lib.hid (HRD.out.trans (if_pos hqq))
          have HBD := Lib.hid (fun nq => below_drewn HB1.out nq)
          have HXD := Lib.hid (fun nq => HX1.out.turn (Turn.of_below (r := w1.heap.size) (below_drewn (Below.refl _ _) nq)) (by omega))
          clear g0 k0 g1 k1 g2 k2 hqq HRD
          go_wp2
          go_quiet (fail)
          have hxd := HXD.out nq
          obtain ⟨g0, k0⟩ := hxd.at 0 (.slice none 0 0) rfl
          obtain ⟨g1, k1⟩ := hxd.at 1 (.slice none 0 0) rfl
          obtain ⟨g2, k2⟩ := hxd.at 2 (.slice none 0 0) rfl
          have hbd := Lib.hid (HBD.out nq)
          have hzd : w.heap.size < (w1.drewN nq).heap.size := by have := (below_drewn (Below.refl w1.heap.size w1) nq).size; omega
          clear hxd HXD HBD
          generalize w1.drewN nq = w2 at *
          go_wp2
          refine bodyPost_ret (v := .tuple #[.agg #[.slice none 0 0, .slice none 0 0, .slice none 0 0], .int .i64 2, .int .i64 (-1)]) ?_ rfl ?_
          · simp [results, Tryz.results13, go_sem, *]
          · exact rnTo_err HE.out (HBEE.out _ _ _ _ hbd.out)
  · have HE := Lib.hid (show rdB noSnap rdSnap ns rest = (noSnap, 2, (((encs ns).length : Nat) : Int)) from if_neg hre)
    clear hre
    go_wp2
    refine bodyPost_ret (v := .tuple #[.agg #[.slice none 0 0, .slice none 0 0, .slice none 0 0], .int .i64 2, .int .i64 ((((encs ns).length : Nat) : Int))]) ?_ rfl ?_
    · simp [results, Tryz.results13, go_sem, *]
    · exact rnTo_err HE.out (HBEE.out _ _ _ _ HB1.out)
end Go.Proofs.YtgfleifpblcnfaaGreatDoor

namespace Go.Proofs.YtgfleifpblcnfaaGreatDoor
set_option linter.unusedSimpArgs false
open Go.RowKit
set_option linter.unusedVariables false

theorem rdB_snap_sound {ns rest : List Int} (h : Nums ns) : (rdB noSnap rdSnap ns rest).1.nodes.length ≤ 40 ∧ (rdB noSnap rdSnap ns rest).1.loads.length ≤ 40 ∧ (rdB noSnap rdSnap ns rest).1.pods.length ≤ 40 := by
  rcases rdB_cases noSnap rdSnap ns rest with e | e
  · rw [e]; exact ⟨Nat.zero_le _, Nat.zero_le _, Nat.zero_le _⟩
  · rw [e]; exact (rdSnap_sound h).2
theorem check_zero4 {s : SnapD} (h : (check s).1 = 0) : check s = (0, -1) := by
  obtain ⟨h0, h1, h2, h3⟩ := check_ok.1 h
  exact check_fine (by rw [h0]; decide) h1 h2 h3
/-- A row of numbers, its length by a name. -/
theorem RefRow.q {l : List Int} {q : Nat} {w w' : World} {e : Ending} (hq : l.length = q) (h : RefRow l w e w') : ∃ A c, e = .returned (.slice A q c) ∧ Row w' w'.heap.size A (u64s l) ∧ Below w.heap.size w w' := by
  obtain ⟨v, rfl, ho, hb⟩ := h
  obtain ⟨A, c, rfl, _, _, _⟩ := own_form ho
  have hlen : (u64s l).length = q := by simpa using hq
  rw [hlen] at ho ⊢
  exact ⟨A, c, rfl, (Row.of_own ho).1, hb⟩
set_option maxHeartbeats 3200000 in
theorem codecSnapshots_long (s : SnapD) (A1 A2 A3 B : Option Addr) (n1 c1 n2 c2 n3 c3 k d : Nat) (w : World) (hk : k ≤ maxLen) (hlong : ¬ (n1 ≤ 40 ∧ n2 ≤ 40 ∧ n3 ≤ 40) ∨ 5000 < k) :
    Calls Tryz.prog 3 #[snapV A1 A2 A3 n1 c1 n2 c2 n3 c3, .slice B k d] w fun e w' => e = .returned (.bool true) ∧ Below w.heap.size w w' := by
  unfold maxLen at hk
  have b00 : Below w.heap.size w (w.alloc (.cells #[.slice A1 n1 c1, .slice A2 n2 c2, .slice A3 n3 c3] 26)) := (Below.refl _ _).alloc (Nat.le_refl _) _
  have HB0 := Lib.hid b00
  have HL := Lib.hid hlong
  clear b00 hlong
  go_enter Tryz.func3, Tryz.ntmps3
  go_wp2_with fail
  refine (up4_any _).mono ?_
  rintro e w1 ⟨rfl, hb1⟩
  have k1 : Below (w.heap.size + 1) (w.alloc (.cells #[.slice A1 n1 c1, .slice A2 n2 c2, .slice A3 n3 c3] 26)) w1 := hb1.mono (by simp)
  obtain ⟨b0, b1, b2⟩ := box_cells k1
  have hwl : w.heap.size < w1.heap.size := by have := k1.size; simp at this; omega
  have K1 := Lib.hid (HB0.out.trans (k1.mono (by omega)))
  clear hb1 k1
  go_wp2_with fail
  refine (few_any _ _ _ _ _ _ _ _ _ _).mono ?_
  rintro e w2 ⟨rfl, hb2⟩
  have K2 := Lib.hid (K1.out.trans (hb2.mono K1.out.size))
  clear hb2
  by_cases hf : n1 ≤ 40 ∧ n2 ≤ 40 ∧ n3 ≤ 40
  · have hfew : decide (n1 ≤ 40 ∧ n2 ≤ 40 ∧ n3 ≤ 40) = true := decide_eq_true hf
    have h2 : 5000 < k := by have := HL.out; omega
    clear hf HL
    go_wp2
    go_ret
    exact ⟨rfl, K2.out⟩
  · have hfew : decide (n1 ≤ 40 ∧ n2 ≤ 40 ∧ n3 ≤ 40) = false := decide_eq_false hf
    clear hf HL
    go_wp2
    go_ret
    exact ⟨rfl, K2.out⟩

set_option maxHeartbeats 12800000 in
set_option maxRecDepth 100000 in
theorem codecSnapshots_in (s : SnapD) (ns rest : List Int) (A1 A2 A3 B : Option Addr) (n1 c1 n2 c2 n3 c3 k d : Nat) (w : World) (hg : Laid w) (hok : s.Ok) (hn1 : n1 = s.nodes.length) (hn2 : n2 = s.loads.length) (hn3 : n3 = s.pods.length) (hl1 : n1 ≤ 40) (hl2 : n2 ≤ 40) (hl3 : n3 ≤ 40)
    (p1 : n1 ≤ c1) (p2 : n2 ≤ c2) (p3 : n3 ≤ c3) (q1 : c1 ≤ maxLen) (q2 : c2 ≤ maxLen) (q3 : c3 ≤ maxLen) (hr1 : Recs 10 cellsN w w.heap.size A1 s.nodes) (hr2 : Recs 5 cellsL w w.heap.size A2 s.loads) (hr3 : Recs 8 cellsP w w.heap.size A3 s.pods)
    (hk : k = (encs ns ++ rest).length) (hkl : k ≤ 5000) (hc : k ≤ d) (hc' : d ≤ maxLen) (hns : Nums ns) (hb : Octs rest) (hm : rest = [] ∨ (rest ≠ [] ∧ Miss rest)) (hrb : Row w w.heap.size B (u8s (encs ns ++ rest))) :
    Calls Tryz.prog 3 #[snapV A1 A2 A3 n1 c1 n2 c2 n3 c3, .slice B k d] w fun e w' => e = .returned (.bool true) ∧ Below w.heap.size w w' := by
  have b00 : Below w.heap.size w (w.alloc (.cells #[.slice A1 n1 c1, .slice A2 n2 c2, .slice A3 n3 c3] 26)) := (Below.refl _ _).alloc (Nat.le_refl _) _
  have HB0 := Lib.hid b00
  have HP := Lib.hid (fun (v : World) (q : Below w.heap.size w v) => snapshot_any s A1 A2 A3 n1 c1 n2 c2 n3 c3 v hok hn1 hn2 hn3 hl1 hl2 hl3 p1 p2 p3 q1 q2 q3 ((hr1.below q (Nat.le_refl _)).more q.size) ((hr2.below q (Nat.le_refl _)).more q.size) ((hr3.below q (Nat.le_refl _)).more q.size))
  have HC := Lib.hid (fun (v : World) (q : Below w.heap.size w v) => rCheck_any s A1 A2 A3 n1 c1 n2 c2 n3 c3 w.heap.size v hn1 hn2 hn3 hl1 hl2 hl3 q.size (hr1.below q (Nat.le_refl _)) (hr2.below q (Nat.le_refl _)) (hr3.below q (Nat.le_refl _)))
  have HSN := Lib.hid (fun (h1 : ∀ x ∈ s.nodes, OknN x) (h2 : ∀ x ∈ s.loads, OknL x) (h3 : ∀ x ∈ s.pods, OknP x) (v : World) (q : Below w.heap.size w v) => rSnapshot04_any s A1 A2 A3 n1 c1 n2 c2 n3 c3 v hn1 hn2 hn3 hl1 hl2 hl3 h1 h2 h3 ((hr1.below q (Nat.le_refl _)).more q.size) ((hr2.below q (Nat.le_refl _)).more q.size) ((hr3.below q (Nat.le_refl _)).more q.size))
  have HRP := Lib.hid (fun (v : World) (q : Below w.heap.size w v) => readSnapshot_any ns rest B k d v hk (by omega) hc hc' hns hb hm ((hrb.below q (Nat.le_refl _)).more q.size))
  have HRQ := Lib.hid (fun (v : World) (q : Below w.heap.size w v) => rReadSnapshot04_any ns rest B k d v hk (by omega) hns hb hm ((hrb.below q (Nat.le_refl _)).more q.size))
  have HG := Lib.hid hg
  have HLE := Lib.hid (rdB_snap_sound (rest := rest) hns)
  have HOK := Lib.hid hok
  have hmaxk : (k : Int) ≤ 5000 := by omega
  have hfew : decide (n1 ≤ 40 ∧ n2 ≤ 40 ∧ n3 ≤ 40) = true := decide_eq_true ⟨hl1, hl2, hl3⟩
  have HN1 := Lib.hid hn1
  have HN2 := Lib.hid hn2
  have HN3 := Lib.hid hn3
  clear hn1 hn2 hn3 hr1 hr2 hr3 hk hc hc' hns hb hm hrb hg b00 hok p1 p2 p3 q1 q2 q3
  go_enter Tryz.func3, Tryz.ntmps3
  go_wp2_with fail
  refine (up4_any _).mono ?_
  rintro e w1 ⟨rfl, hb1⟩
  have k1 : Below (w.heap.size + 1) (w.alloc (.cells #[.slice A1 n1 c1, .slice A2 n2 c2, .slice A3 n3 c3] 26)) w1 := hb1.mono (by simp)
  obtain ⟨b0, b1, b2⟩ := box_cells k1
  have hwl1 : w.heap.size < w1.heap.size := by have := k1.size; simp at this; omega
  have KK1 := Lib.hid k1
  clear hb1 k1
  go_wp2_with fail
  refine (few_any _ _ _ _ _ _ _ _ _ _).mono ?_
  rintro e w2 ⟨rfl, hb2⟩
  have k2 := KK1.out.trans (hb2.mono (show w.heap.size + 1 ≤ w1.heap.size by omega))
  clear b0 b1 b2
  obtain ⟨b0, b1, b2⟩ := box_cells k2
  have hwl2 : w.heap.size < w2.heap.size := by have := hb2.size; omega
  have KK2 := Lib.hid k2
  have K2 := Lib.hid (HB0.out.trans (k2.mono (by omega)))
  clear hb2 k2
  go_wp2_with fail
  refine (HP.out w2 K2.out).mono ?_
  rintro e w3 hw3
  by_cases hck : (check s).1 = 0
  · obtain ⟨_, hwt⟩ | ⟨h0, _⟩ := hw3
    · obtain ⟨C, e1, rfl, he1, he2, hrow, hb3⟩ := hwt.row rfl
      have k3 := KK2.out.trans (hb3.mono (show w.heap.size + 1 ≤ w2.heap.size by omega))
      clear b0 b1 b2
      obtain ⟨b0, b1, b2⟩ := box_cells k3
      have hwl3 : w.heap.size < w3.heap.size := by have := hb3.size; omega
      have KK3 := Lib.hid k3
      have K3 := Lib.hid (HB0.out.trans (k3.mono (by omega)))
      have HROW := Lib.hid hrow
      have HCK := Lib.hid hck
      have HCZ := Lib.hid (check_zero4 hck)
      clear hwt hb3 hrow he1 he2 k3 hck
      obtain ⟨q2, hq2⟩ : ∃ q, (encs (snapNums s)).length = q := ⟨_, rfl⟩
      rw [hq2]
      have HQ2 := Lib.hid hq2
      clear hq2
      go_wp2_with fail
      refine (HC.out w3 K3.out).mono ?_
      rw [HCZ.out]
      rintro e w4 ⟨rfl, hb4⟩
      have k4 := KK3.out.trans (hb4.mono (show w.heap.size + 1 ≤ w3.heap.size by omega))
      clear b0 b1 b2
      obtain ⟨b0, b1, b2⟩ := box_cells k4
      have hwl4 : w.heap.size < w4.heap.size := by have := hb4.size; omega
      have KK4 := Lib.hid k4
      have K4a := Lib.hid (HB0.out.trans (k4.mono (by omega)))
      have HROW4 := Lib.hid ((HROW.out.below hb4 (Nat.le_refl _)).more hb4.size)
      have HG4 := Lib.hid (HG.out.below K4a.out (Nat.le_refl _))
      clear hb4 k4 HROW
      go_wp2_with fail
      refine (told_any (0, -1) w4.heap.size .nilIface _ HG4.out (.inl ⟨rfl, rfl⟩)).mono ?_
      rintro e w5 ⟨rfl, hb5⟩
      have k5 := KK4.out.trans (hb5.mono (show w.heap.size + 1 ≤ w4.heap.size by omega))
      clear b0 b1 b2
      obtain ⟨b0, b1, b2⟩ := box_cells k5
      have hwl5 : w.heap.size < w5.heap.size := by have := hb5.size; omega
      have K5a := Lib.hid (HB0.out.trans (k5.mono (by omega)))
      have HROW5 := Lib.hid ((HROW4.out.below hb5 (Nat.le_refl _)).more hb5.size)
      have HOKN := Lib.hid (snap_okn HCK.out HOK.out)
      have hml : (snapNums s).length ≤ 5000 := by
        have := snapNums_length s
        have a1 := HN1.out
        have a2 := HN2.out
        have a3 := HN3.out
        omega
      clear hb5 k5 HROW4
      obtain ⟨q1, hq1⟩ : ∃ q, (snapNums s).length = q := ⟨_, rfl⟩
      have HQ1 := Lib.hid hq1
      have HS4 := Lib.hid (fun (v : World) (q : Below w5.heap.size w5 v) => (HSN.out HOKN.out.1 HOKN.out.2.1 HOKN.out.2.2.1 v (K5a.out.trans (q.mono K5a.out.size))))
      have HPU := Lib.hid (fun (v : World) (D : Option Addr) (g : Nat) (h : Row v v.heap.size D (u64s (snapNums s))) => rPut_any (snapNums s) D g v hml HOKN.out.2.2.2 h)
      have HCP := Lib.hid (fun (v : World) (q : Below w5.heap.size w5 v) => conv_row (encs (snapNums s)) C q2 e1 _ v HQ2.out.symm (HROW5.out.below q (Nat.le_refl _)))
      have HCL := Lib.hid (fun (v : World) (X : Option Addr) (y : Nat) (R : Nat) (h : Row v R X (u8s (encs (snapNums s)))) => conv_row (encs (snapNums s)) X q2 y R v HQ2.out.symm h)
      rw [hq1] at HPU
      generalize strOfNums (encs (snapNums s)) = z at *
      have hse := str_neq z
      have hc0 := HCP.out w5 (Below.refl _ _)
      have hc1 := HCP.out w5.drew (Below.drew (Below.refl _ _))
      clear hml hq1
      have hund : undef = Value.tuple #[] := rfl
      go_wp2
      refine wp_region_noPanic ?_
      (first
        | (go_region_held_law (fun w' => (∀ b o, b < w5.heap.size → w'.cell? ⟨b, o, none⟩ = w5.cell? ⟨b, o, none⟩) ∧ Below w5.heap.size w5 w')
                    (first | (with_reducible assumption) | (show Keeps w5 _; with_reducible (repeat (first | exact Keeps.refl _ | refine Keeps.drew ?_ | refine Keeps.alloc ?_ _ | refine Keeps.step ?_ (by assumption)))))
                    (first
                      | (go_at_call 11; have hkp : Keeps w5 _ := (by assumption); refine (HS4.out _ hkp.2).mono ?_; rintro e w6 hto; obtain ⟨D, g, rfl, hr6, hb6⟩ := hto.q HQ1.out; have hkb6 := hkp.2.trans (hb6.mono hkp.2.size); have hcp6 := HCP.out w6 hkb6; have HR6 := Lib.hid hr6; have HB6 := Lib.hid hkb6; clear hto hr6 hkp hkb6)
                      | (go_at_call 10; refine (HPU.out _ _ _ HR6.out).mono ?_; rintro e w7 hto; obtain ⟨E, x1, rfl, ho7, hb7⟩ := hto.q HQ2.out; have hkb := HB6.out.trans (hb7.mono HB6.out.size); have hcp := HCP.out w7 hkb; have hcl := HCL.out w7 E x1 _ (Row.of_own ho7).1; have HB7 := Lib.hid hkb; clear hto ho7 hkb)))
        | fail "held")
      all_goals
        refine NoPanic.normal ?_
        have K4 := Lib.hid (K5a.out.trans (HB7.out.mono K5a.out.size))
        clear hc0 hc1 hcp6 hcp hcl hb6 hb7 HB6 HB7 b0 b1 b2
        go_wp2_with fail
        refine (HRP.out _ K4.out).mono ?_
        rintro e x5 ⟨X1, X2, X3, e1, e2, e3, u, rfl, o1, o2, o3, hu, hb5⟩
        have K5 := Lib.hid (K4.out.trans (hb5.mono K4.out.size))
        have HU := Lib.hid hu
        have HO1 := Lib.hid o1.recs
        have HO2 := Lib.hid o2.recs
        have HO3 := Lib.hid o3.recs
        clear hu hb5 o1 o2 o3
        generalize rdB noSnap rdSnap ns rest = R at *
        have HBa := Lib.hid (Box.new x5 [.slice X1 R.1.nodes.length e1, .slice X2 R.1.loads.length e2, .slice X3 R.1.pods.length e3] 26)
        have HA5 : Hid (Below w.heap.size w (x5.alloc (.cells #[.slice X1 R.1.nodes.length e1, .slice X2 R.1.loads.length e2, .slice X3 R.1.pods.length e3] 26))) := K5.out.alloc K5.out.size _
        have HL5 : Hid (Below x5.heap.size x5 (x5.alloc (.cells #[.slice X1 R.1.nodes.length e1, .slice X2 R.1.loads.length e2, .slice X3 R.1.pods.length e3] 26))) := (Below.refl _ _).alloc (Nat.le_refl _) _
        go_wp2_with fail
        refine (HRQ.out _ HA5.out).mono ?_
        rintro e x6 ⟨Y1, Y2, Y3, g1, g2, g3, rfl, q1, q2, q3, hb6⟩
        have K6 := Lib.hid (HA5.out.trans (hb6.mono HA5.out.size))
        have hs5 : x5.heap.size < x6.heap.size := by have := hb6.size; simp at this; omega
        have HS6 := Lib.hid (HL5.out.trans (hb6.mono HL5.out.size))
        have HU6 := Lib.hid (HU.out.below HS6.out)
        have HP1 := Lib.hid ((HO1.out.below HS6.out (Nat.le_refl _)).more HS6.out.size)
        have HP2 := Lib.hid ((HO2.out.below HS6.out (Nat.le_refl _)).more HS6.out.size)
        have HP3 := Lib.hid ((HO3.out.below HS6.out (Nat.le_refl _)).more HS6.out.size)
        have HQ1 := Lib.hid q1.recs
        have HQ2 := Lib.hid q2.recs
        have HQ3 := Lib.hid q3.recs
        have HBb := Lib.hid (HBa.out.later hb6)
        clear hb6 q1 q2 q3 HU HO1 HO2 HO3 HBa
        have HBc := Lib.hid (Box.new x6 [.slice Y1 R.1.nodes.length g1, .slice Y2 R.1.loads.length g2, .slice Y3 R.1.pods.length g3] 26)
        have HBd := Lib.hid (HBb.out.alloc (.cells #[.slice Y1 R.1.nodes.length g1, .slice Y2 R.1.loads.length g2, .slice Y3 R.1.pods.length g3] 26))
        have HA6 : Hid (Below w.heap.size w (x6.alloc (.cells #[.slice Y1 R.1.nodes.length g1, .slice Y2 R.1.loads.length g2, .slice Y3 R.1.pods.length g3] 26))) := K6.out.alloc K6.out.size _
        have HL6 : Hid (Below x6.heap.size x6 (x6.alloc (.cells #[.slice Y1 R.1.nodes.length g1, .slice Y2 R.1.loads.length g2, .slice Y3 R.1.pods.length g3] 26))) := (Below.refl _ _).alloc (Nat.le_refl _) _
        have HG6 := Lib.hid (HG.out.below HA6.out (Nat.le_refl _))
        have HU7 := Lib.hid (HU6.out.below HL6.out)
        go_wp2_with fail
        refine (told_any R.2 _ u _ HG6.out HU7.out).mono ?_
        rintro e x7 ⟨rfl, hb7⟩
        have K7 := Lib.hid (HA6.out.trans (hb7.mono HA6.out.size))
        have hs6 : x6.heap.size < x7.heap.size := by have := hb7.size; simp at this; omega
        have HS7 := Lib.hid (HL6.out.trans (hb7.mono HL6.out.size))
        have HBe := HBd.out.later hb7
        have HBf := HBc.out.later hb7
        obtain ⟨a0, _⟩ := HBe.at 0 _ rfl
        obtain ⟨a1, _⟩ := HBe.at 1 _ rfl
        obtain ⟨a2, _⟩ := HBe.at 2 _ rfl
        obtain ⟨d0, _⟩ := HBf.at 0 _ rfl
        obtain ⟨d1, _⟩ := HBf.at 1 _ rfl
        obtain ⟨d2, _⟩ := HBf.at 2 _ rfl
        have hs57 : x5.heap.size < x7.heap.size := by omega
        have HSA := Lib.hid (same_any R.1 X1 X2 X3 Y1 Y2 Y3 R.1.nodes.length e1 R.1.loads.length e2 R.1.pods.length e3 g1 g2 g3 x7 rfl rfl rfl (by have := HLE.out.1; omega) (by have := HLE.out.2.1; omega) (by have := HLE.out.2.2; omega)
          ((HP1.out.below HS7.out (Nat.le_refl _)).more HS7.out.size) ((HP2.out.below HS7.out (Nat.le_refl _)).more HS7.out.size) ((HP3.out.below HS7.out (Nat.le_refl _)).more HS7.out.size)
          ((HQ1.out.below HS7.out (Nat.le_refl _)).more HS7.out.size) ((HQ2.out.below HS7.out (Nat.le_refl _)).more HS7.out.size) ((HQ3.out.below HS7.out (Nat.le_refl _)).more HS7.out.size))
        clear hb7 HBe HBf
        go_wp2_with fail
        refine HSA.out.mono ?_
        rintro e x8 ⟨rfl, hb8⟩
        go_wp2
        go_ret
        exact ⟨rfl, K7.out.trans (hb8.mono K7.out.size)⟩
    · exact absurd hck h0
  · obtain ⟨h0, _⟩ | ⟨_, u0, rfl, hu0, hb3⟩ := hw3
    · exact absurd h0 hck
    · have k3 := KK2.out.trans (hb3.mono (show w.heap.size + 1 ≤ w2.heap.size by omega))
      clear b0 b1 b2
      obtain ⟨b0, b1, b2⟩ := box_cells k3
      have hwl3 : w.heap.size < w3.heap.size := by have := hb3.size; omega
      have KK3 := Lib.hid k3
      have K3 := Lib.hid (HB0.out.trans (k3.mono (by omega)))
      have HU0 := Lib.hid hu0
      clear hb3 k3 hu0
      go_wp2_with fail
      refine (HC.out w3 K3.out).mono ?_
      generalize check s = ch at *
      obtain ⟨ch1, ch2⟩ := ch
      rintro e w4 ⟨rfl, hb4⟩
      have K4a := Lib.hid (K3.out.trans (hb4.mono K3.out.size))
      have HG4 := Lib.hid (HG.out.below K4a.out (Nat.le_refl _))
      have HU4 := Lib.hid (HU0.out.below hb4)
      have hne : (ch1 != 0) = true := by rw [bne_iff_ne]; exact hck
      have heq : (ch1 == 0) = false := by simpa using hck
      clear hb4 b0 b1 b2 hck
      go_wp2_with fail
      refine (told_any (ch1, ch2) _ u0 _ HG4.out HU4.out).mono ?_
      rintro e w5 ⟨rfl, hb5⟩
      have K5a := Lib.hid (K4a.out.trans (hb5.mono K4a.out.size))
      clear hb5
      go_wp2
      go_quiet (fail)
      all_goals
        have K4 := Lib.hid (Below.drewN' (n := nq) K5a.out)
        clear hne heq
        go_wp2_with fail
        refine (HRP.out _ K4.out).mono ?_
        rintro e x5 ⟨X1, X2, X3, e1, e2, e3, u, rfl, o1, o2, o3, hu, hb5⟩
        have K5 := Lib.hid (K4.out.trans (hb5.mono K4.out.size))
        have HU := Lib.hid hu
        have HO1 := Lib.hid o1.recs
        have HO2 := Lib.hid o2.recs
        have HO3 := Lib.hid o3.recs
        clear hu hb5 o1 o2 o3
        generalize rdB noSnap rdSnap ns rest = R at *
        have HBa := Lib.hid (Box.new x5 [.slice X1 R.1.nodes.length e1, .slice X2 R.1.loads.length e2, .slice X3 R.1.pods.length e3] 26)
        have HA5 : Hid (Below w.heap.size w (x5.alloc (.cells #[.slice X1 R.1.nodes.length e1, .slice X2 R.1.loads.length e2, .slice X3 R.1.pods.length e3] 26))) := K5.out.alloc K5.out.size _
        have HL5 : Hid (Below x5.heap.size x5 (x5.alloc (.cells #[.slice X1 R.1.nodes.length e1, .slice X2 R.1.loads.length e2, .slice X3 R.1.pods.length e3] 26))) := (Below.refl _ _).alloc (Nat.le_refl _) _
        go_wp2_with fail
        refine (HRQ.out _ HA5.out).mono ?_
        rintro e x6 ⟨Y1, Y2, Y3, g1, g2, g3, rfl, q1, q2, q3, hb6⟩
        have K6 := Lib.hid (HA5.out.trans (hb6.mono HA5.out.size))
        have hs5 : x5.heap.size < x6.heap.size := by have := hb6.size; simp at this; omega
        have HS6 := Lib.hid (HL5.out.trans (hb6.mono HL5.out.size))
        have HU6 := Lib.hid (HU.out.below HS6.out)
        have HP1 := Lib.hid ((HO1.out.below HS6.out (Nat.le_refl _)).more HS6.out.size)
        have HP2 := Lib.hid ((HO2.out.below HS6.out (Nat.le_refl _)).more HS6.out.size)
        have HP3 := Lib.hid ((HO3.out.below HS6.out (Nat.le_refl _)).more HS6.out.size)
        have HQ1 := Lib.hid q1.recs
        have HQ2 := Lib.hid q2.recs
        have HQ3 := Lib.hid q3.recs
        have HBb := Lib.hid (HBa.out.later hb6)
        clear hb6 q1 q2 q3 HU HO1 HO2 HO3 HBa
        have HBc := Lib.hid (Box.new x6 [.slice Y1 R.1.nodes.length g1, .slice Y2 R.1.loads.length g2, .slice Y3 R.1.pods.length g3] 26)
        have HBd := Lib.hid (HBb.out.alloc (.cells #[.slice Y1 R.1.nodes.length g1, .slice Y2 R.1.loads.length g2, .slice Y3 R.1.pods.length g3] 26))
        have HA6 : Hid (Below w.heap.size w (x6.alloc (.cells #[.slice Y1 R.1.nodes.length g1, .slice Y2 R.1.loads.length g2, .slice Y3 R.1.pods.length g3] 26))) := K6.out.alloc K6.out.size _
        have HL6 : Hid (Below x6.heap.size x6 (x6.alloc (.cells #[.slice Y1 R.1.nodes.length g1, .slice Y2 R.1.loads.length g2, .slice Y3 R.1.pods.length g3] 26))) := (Below.refl _ _).alloc (Nat.le_refl _) _
        have HG6 := Lib.hid (HG.out.below HA6.out (Nat.le_refl _))
        have HU7 := Lib.hid (HU6.out.below HL6.out)
        go_wp2_with fail
        refine (told_any R.2 _ u _ HG6.out HU7.out).mono ?_
        rintro e x7 ⟨rfl, hb7⟩
        have K7 := Lib.hid (HA6.out.trans (hb7.mono HA6.out.size))
        have hs6 : x6.heap.size < x7.heap.size := by have := hb7.size; simp at this; omega
        have HS7 := Lib.hid (HL6.out.trans (hb7.mono HL6.out.size))
        have HBe := HBd.out.later hb7
        have HBf := HBc.out.later hb7
        obtain ⟨a0, _⟩ := HBe.at 0 _ rfl
        obtain ⟨a1, _⟩ := HBe.at 1 _ rfl
        obtain ⟨a2, _⟩ := HBe.at 2 _ rfl
        obtain ⟨d0, _⟩ := HBf.at 0 _ rfl
        obtain ⟨d1, _⟩ := HBf.at 1 _ rfl
        obtain ⟨d2, _⟩ := HBf.at 2 _ rfl
        have hs57 : x5.heap.size < x7.heap.size := by omega
        have HSA := Lib.hid (same_any R.1 X1 X2 X3 Y1 Y2 Y3 R.1.nodes.length e1 R.1.loads.length e2 R.1.pods.length e3 g1 g2 g3 x7 rfl rfl rfl (by have := HLE.out.1; omega) (by have := HLE.out.2.1; omega) (by have := HLE.out.2.2; omega)
          ((HP1.out.below HS7.out (Nat.le_refl _)).more HS7.out.size) ((HP2.out.below HS7.out (Nat.le_refl _)).more HS7.out.size) ((HP3.out.below HS7.out (Nat.le_refl _)).more HS7.out.size)
          ((HQ1.out.below HS7.out (Nat.le_refl _)).more HS7.out.size) ((HQ2.out.below HS7.out (Nat.le_refl _)).more HS7.out.size) ((HQ3.out.below HS7.out (Nat.le_refl _)).more HS7.out.size))
        clear hb7 HBe HBf
        go_wp2_with fail
        refine HSA.out.mono ?_
        rintro e x8 ⟨rfl, hb8⟩
        go_wp2
        go_ret
        exact ⟨rfl, K7.out.trans (hb8.mono K7.out.size)⟩
end Go.Proofs.YtgfleifpblcnfaaGreatDoor
