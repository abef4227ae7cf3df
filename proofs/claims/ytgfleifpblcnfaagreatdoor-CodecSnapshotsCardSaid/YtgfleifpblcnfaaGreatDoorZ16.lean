/- Joined texts, part 16: HHl2 HHl3. -/
import Derived.Test.YtgfleifpblcnfaaGreatDoorZ14

/- dunnageref04.ReadSnapshot: loop 2, by itself. -/
namespace Go.Proofs.YtgfleifpblcnfaaGreatDoor
set_option linter.unusedSimpArgs false
open Go.RowKit
set_option linter.unusedVariables false

set_option maxHeartbeats 25600000 in
set_option maxRecDepth 1000000 in
theorem rsnLoop2 {Q0 : Exit → Act → World → Prop} (c0 c1 c2 c3 c4 c6 c10 c11 c12 c13 c14 c16 c17 c18 c19 c20 c21 c22 c23 c24 c25 c26 c27 c28 c29 c30 c31 c32 c33 c34 c35 c36 c37 c38 c39 c40 c41 c42 c43 c44 c45 c46 c47 c48 c49 c50 c51 c52 c53 c54 c55 c56 c57 c58 c59 c60 c61 c62 c63 c64 c65 c66 c67 c68 c69 c70 c71 c72 c73 c74 c75 c76 c77 c78 c79 c80 c81 c82 c83 c84 c85 c86 c87 c88 c89 c90 c91 c92 c93 c94 c95 c96 c97 c98 c99 c100 c101 c102 c103 c104 c105 c106 c107 c108 c109 c110 c111 c112 c113 c114 c115 c116 c117 c118 c119 c120 c121 c122 c123 c124 c125 c126 c127 c128 c129 c130 c131 c132 c133 c134 c135 c136 c137 c138 c139 c140 c141 c142 c143 c144 c145 c146 c147 c148 c149 c150 c151 c152 c153 c154 c155 c156 c157 c158 c159 c160 c161 c162 c163 c164 c165 c166 c167 c168 c169 c170 c171 c172 c173 c174 c175 c176 c177 c178 c179 c180 c181 c182 c183 c184 c185 c186 c187 c188 c189 c190 c191 c192 c193 c194 c195 c196 c197 c198 c199 c200 c201 c202 c203 c204 c205 c206 c207 c208 c209 c210 c211 c212 c213 c214 c215 c216 c217 c218 c219 c220 c221 c222 c223 c224 c225 c226 c227 c228 c229 c230 c231 c232 c233 c234 c235 c236 c237 c238 c239 c240 c241 c242 c243 c244 c245 c246 c247 c248 c249 c250 c251 c252 c253 c254 c255 c256 c257 c258 c259 c260 c261 c262 c263 c264 c265 c266 c267 c268 c269 c270 c271 c272 c273 c274 c275 c276 c277 c278 c279 c280 c281 c282 c283 c284 c285 c286 c287 c288 c289 c290 c291 c292 c293 c294 c295 c296 c297 c298 c299 c300 c301 c302 c303 c304 c305 c306 c307 c308 c309 c310 c311 c312 c313 c314 c315 c316 c317 c318 c319 c320 c321 c322 c323 c324 c325 c326 c327 c328 c329 c330 c331 c332 c333 c334 c335 c336 c337 c338 c339 c340 c341 c342 c343 c344 c345 c346 c347 c348 c349 c350 c351 c352 c353 c354 c355 : Value) (ns : List Int) (b o q cq xb base m : Nat) (f0 : Bool) (X Y : Value) (W : World) (hns : Nums ns) (hq : ns.length = q) (hl : q ≤ 100000) (hm : m ≤ 12) (hbase : base + m * 5 ≤ q)
    (hbx : b ≠ xb) (hbW : b < W.heap.size) (hxW : xb < W.heap.size) (hcell : ∀ v : World, Turn xb W v → v.cell? ⟨b, o + 1, none⟩ = some (.int .u64 (m : Int)) ∧ ∀ i, i < ns.length → v.cell? ⟨b, o + i, none⟩ = some (.int .u64 (ns.getD i 0)))
    (hq0 : 1 < q) (hbox : Box W xb [X, .slice none 0 0, Y])
    (hexit : ∀ (n16 n17 n18 n19 n20 n21 n22 n23 n171 n172 n173 n174 n175 n176 n177 n178 n179 n180 n181 n182 n183 n184 n185 n186 n187 n188 n189 n190 n191 n192 n193 n194 n195 n196 n197 n198 n199 n200 n201 n202 n203 n204 n205 n206 n207 n208 n209 n210 n211 n212 n213 n214 n215 n216 n217 n218 n219 n220 n221 n222 n223 n224 n225 n226 n227 n228 n229 n230 n231 n232 n233 n234 n235 n236 n237 n238 n239 n240 n241 n242 n243 n244 n245 n246 n247 n248 n249 n250 n251 n252 : Value) (xs : List LoadD) (E : Option Addr) (a : Nat) (f : Bool) (p : Nat) (wr : World), p = base + m * 5 → f = (f0 && fine loadK m (ns.drop base)) → (fine loadK m (ns.drop base) = true → xs = parse loadK m (ns.drop base)) → xs.length = m →
      Box wr xb [X, .slice E m a, Y] → wr.ownsRow W.heap.size 75 5 (.slice E m a) m (xs.flatMap cellsL) → Turn xb W wr → Q0 (.exit 2) ⟨#[c0, c1, c2, c3, c4, .slice (some ⟨b, o, none⟩) q cq, c6, .pointer (some ⟨xb, 0, none⟩), .bool f, .int .i64 (p : Int), c10, c11, c12, c13, c14, .int .i64 (m : Int), n16, n17, n18, n19, n20, n21, n22, n23, c24, c25, c26, c27, c28, c29, c30, c31, c32, c33, c34, c35, c36, c37, c38, c39, c40, c41, c42, c43, c44, c45, c46, c47, c48, c49, c50, c51, c52, c53, c54, c55, c56, c57, c58, c59, c60, c61, c62, c63, c64, c65, c66, c67, c68, c69, c70, c71, c72, c73, c74, c75, c76, c77, c78, c79, c80, c81, c82, c83, c84, c85, c86, c87, c88, c89, c90, c91, c92, c93, c94, c95, c96, c97, c98, c99, c100, c101, c102, c103, c104, c105, c106, c107, c108, c109, c110, c111, c112, c113, c114, c115, c116, c117, c118, c119, c120, c121, c122, c123, c124, c125, c126, c127, c128, c129, c130, c131, c132, c133, c134, c135, c136, c137, c138, c139, c140, c141, c142, c143, c144, c145, c146, c147, c148, c149, c150, c151, c152, c153, c154, c155, c156, c157, c158, c159, c160, c161, c162, c163, c164, c165, c166, c167, c168, c169, c170, n171, n172, n173, n174, n175, n176, n177, n178, n179, n180, n181, n182, n183, n184, n185, n186, n187, n188, n189, n190, n191, n192, n193, n194, n195, n196, n197, n198, n199, n200, n201, n202, n203, n204, n205, n206, n207, n208, n209, n210, n211, n212, n213, n214, n215, n216, n217, n218, n219, n220, n221, n222, n223, n224, n225, n226, n227, n228, n229, n230, n231, n232, n233, n234, n235, n236, n237, n238, n239, n240, n241, n242, n243, n244, n245, n246, n247, n248, n249, n250, n251, n252, c253, c254, c255, c256, c257, c258, c259, c260, c261, c262, c263, c264, c265, c266, c267, c268, c269, c270, c271, c272, c273, c274, c275, c276, c277, c278, c279, c280, c281, c282, c283, c284, c285, c286, c287, c288, c289, c290, c291, c292, c293, c294, c295, c296, c297, c298, c299, c300, c301, c302, c303, c304, c305, c306, c307, c308, c309, c310, c311, c312, c313, c314, c315, c316, c317, c318, c319, c320, c321, c322, c323, c324, c325, c326, c327, c328, c329, c330, c331, c332, c333, c334, c335, c336, c337, c338, c339, c340, c341, c342, c343, c344, c345, c346, c347, c348, c349, c350, c351, c352, c353, c354, c355], []⟩ wr) :
    Code.wp Tryz.prog (snapLoop 1) Q0 ⟨#[c0, c1, c2, c3, c4, .slice (some ⟨b, o, none⟩) q cq, c6, .pointer (some ⟨xb, 0, none⟩), .bool f0, .int .i64 (base : Int), c10, c11, c12, c13, c14, .int .i64 0, c16, c17, c18, c19, c20, c21, c22, c23, c24, c25, c26, c27, c28, c29, c30, c31, c32, c33, c34, c35, c36, c37, c38, c39, c40, c41, c42, c43, c44, c45, c46, c47, c48, c49, c50, c51, c52, c53, c54, c55, c56, c57, c58, c59, c60, c61, c62, c63, c64, c65, c66, c67, c68, c69, c70, c71, c72, c73, c74, c75, c76, c77, c78, c79, c80, c81, c82, c83, c84, c85, c86, c87, c88, c89, c90, c91, c92, c93, c94, c95, c96, c97, c98, c99, c100, c101, c102, c103, c104, c105, c106, c107, c108, c109, c110, c111, c112, c113, c114, c115, c116, c117, c118, c119, c120, c121, c122, c123, c124, c125, c126, c127, c128, c129, c130, c131, c132, c133, c134, c135, c136, c137, c138, c139, c140, c141, c142, c143, c144, c145, c146, c147, c148, c149, c150, c151, c152, c153, c154, c155, c156, c157, c158, c159, c160, c161, c162, c163, c164, c165, c166, c167, c168, c169, c170, c171, c172, c173, c174, c175, c176, c177, c178, c179, c180, c181, c182, c183, c184, c185, c186, c187, c188, c189, c190, c191, c192, c193, c194, c195, c196, c197, c198, c199, c200, c201, c202, c203, c204, c205, c206, c207, c208, c209, c210, c211, c212, c213, c214, c215, c216, c217, c218, c219, c220, c221, c222, c223, c224, c225, c226, c227, c228, c229, c230, c231, c232, c233, c234, c235, c236, c237, c238, c239, c240, c241, c242, c243, c244, c245, c246, c247, c248, c249, c250, c251, c252, c253, c254, c255, c256, c257, c258, c259, c260, c261, c262, c263, c264, c265, c266, c267, c268, c269, c270, c271, c272, c273, c274, c275, c276, c277, c278, c279, c280, c281, c282, c283, c284, c285, c286, c287, c288, c289, c290, c291, c292, c293, c294, c295, c296, c297, c298, c299, c300, c301, c302, c303, c304, c305, c306, c307, c308, c309, c310, c311, c312, c313, c314, c315, c316, c317, c318, c319, c320, c321, c322, c323, c324, c325, c326, c327, c328, c329, c330, c331, c332, c333, c334, c335, c336, c337, c338, c339, c340, c341, c342, c343, c344, c345, c346, c347, c348, c349, c350, c351, c352, c353, c354, c355], []⟩ W := by
  have HNS := Lib.hid hns
  have HQ := Lib.hid hq
  have HCE := Lib.hid hcell
  have HBS := Lib.hid hbox
  have HEX := Lib.hid hexit
  have HBASE := Lib.hid hbase
  have hq1 : (1 : Int) < (q : Int) := by omega
  clear hns hq hcell hbox hexit hbase
  conv => arg 2; whnf
  dsimp only
  go_loopw [8, 9, 15] (BxRel loadK 75 5 cellsL ns base m f0 xb (fun v => [X, v, Y]) W) (fun _ _ i _ => m - (intOf i).toNat)
  case atStart => exact bx_start HBS.out
  case round =>
    obtain ⟨k, xs, E, a, f, p, hk, rfl, hp, rfl, rfl, hf, hxs, hxl, hbox, hown, hbr⟩ := hrel
    have HP := Lib.hid hp
    have HFF := Lib.hid hf
    have HXS := Lib.hid hxs
    have HXL := Lib.hid hxl
    have HBOX := Lib.hid hbox
    have HOW := Lib.hid hown
    have HBR := Lib.hid hbr
    have hzr : W.heap.size ≤ wr.heap.size := hbr.size
    obtain ⟨f0c, hcw⟩ := HCE.out wr hbr
    have HCW := Lib.hid hcw
    clear hp hf hxs hxl hbox hown hbr hcw
    by_cases hlt : k < m
    · have hpq : p + 4 < q := by have := HBASE.out; have := HP.out; omega
      have cc0 : wr.cell? ⟨b, o + p, none⟩ = some (.int .u64 (ns.getD p 0)) := HCW.out p (by have := HQ.out; omega)
      have cc1 : wr.cell? ⟨b, o + (p + 1), none⟩ = some (.int .u64 (ns.getD (p + 1) 0)) := HCW.out (p + 1) (by have := HQ.out; omega)
      have cc2 : wr.cell? ⟨b, o + (p + 2), none⟩ = some (.int .u64 (ns.getD (p + 2) 0)) := HCW.out (p + 2) (by have := HQ.out; omega)
      have cc3 : wr.cell? ⟨b, o + (p + 3), none⟩ = some (.int .u64 (ns.getD (p + 3) 0)) := HCW.out (p + 3) (by have := HQ.out; omega)
      have cc4 : wr.cell? ⟨b, o + (p + 4), none⟩ = some (.int .u64 (ns.getD (p + 4) 0)) := HCW.out (p + 4) (by have := HQ.out; omega)
      have HCH := Lib.hid (load_chunk (l := ns) HP.out)
      have mm0 := Lib.hid (nums_at HNS.out p)
      have mm2 := Lib.hid (nums_at HNS.out (p + 2))
      have mm3 := Lib.hid (nums_at HNS.out (p + 3))
      have mm4 := Lib.hid (nums_at HNS.out (p + 4))
      have mm1 := Lib.hid (nums_at HNS.out (p + 1))
      generalize ns.getD p 0 = y0 at *
      generalize ns.getD (p + 1) 0 = y1 at *
      generalize ns.getD (p + 2) 0 = y2 at *
      generalize ns.getD (p + 3) 0 = y3 at *
      generalize ns.getD (p + 4) 0 = y4 at *
      have hp0 : (0 : Int) ≤ (p : Int) := by omega
      have hpp : (p : Int) < (q : Int) := by omega
      have hp1 : (p : Int) + 1 < (q : Int) := by omega
      have r1 : (0 : Int) ≤ (p : Int) + 1 := by omega
      have hp2 : (p : Int) + 2 < (q : Int) := by omega
      have r2 : (0 : Int) ≤ (p : Int) + 2 := by omega
      have hp3 : (p : Int) + 3 < (q : Int) := by omega
      have r3 : (0 : Int) ≤ (p : Int) + 3 := by omega
      have hp4 : (p : Int) + 4 < (q : Int) := by omega
      have r4 : (0 : Int) ≤ (p : Int) + 4 := by omega
      have HT1t := Lib.hid (show ((p : Int) + 1).toNat = p + 1 by omega)
      have HT2t := Lib.hid (show ((p : Int) + 2).toNat = p + 2 by omega)
      have HT3t := Lib.hid (show ((p : Int) + 3).toNat = p + 3 by omega)
      have HT4t := Lib.hid (show ((p : Int) + 4).toNat = p + 4 by omega)
      have hbl : b < wr.heap.size := by omega
      have hxl : xb < wr.heap.size := by omega
      have HBX := Lib.hid hbx
      have HZ8 : Hid (p + 5 = base + (k + 1) * 5) := by have := HP.out; show _ = _; omega
      have HW5 : Hid (k + 1 ≤ 2000000) := by show _ ≤ _; omega
      have HNX : Hid (some xb ≠ (Value.slice E k a).ownBlock) := fun e => by have := (HOW.out.lt _ e.symm).1; omega
      have HNB : Hid (some b ≠ (Value.slice E k a).ownBlock) := fun e => by have := (HOW.out.lt _ e.symm).1; omega
      go_wp2_with fail
      refine (number04_any y0 _ mm0.out.1 mm0.out.2).mono ?_
      rintro e w9 ⟨z0, d0, rfl, hd, hz, rfl⟩
      have HD0 := Lib.hid hd
      have HZ0 := Lib.hid hz
      clear hd hz
      have t2 := HT2t.out
      go_wp2_with fail
      refine (number04_any y2 _ mm2.out.1 mm2.out.2).mono ?_
      rintro e w9 ⟨z2, d2, rfl, hd, hz, rfl⟩
      have HD2 := Lib.hid hd
      have HZ2 := Lib.hid hz
      clear hd hz t2
      have t3 := HT3t.out
      go_wp2_with fail
      refine (number04_any y3 _ mm3.out.1 mm3.out.2).mono ?_
      rintro e w9 ⟨z3, d3, rfl, hd, hz, rfl⟩
      have HD3 := Lib.hid hd
      have HZ3 := Lib.hid hz
      clear hd hz t3
      have t4 := HT4t.out
      go_wp2_with fail
      refine (number04_any y4 _ mm4.out.1 mm4.out.2).mono ?_
      rintro e w9 ⟨z4, d4, rfl, hd, hz, rfl⟩
      have HD4 := Lib.hid hd
      have HZ4 := Lib.hid hz
      clear hd hz t4
      obtain ⟨tb, htb⟩ : ∃ t, decide (y1 ≤ 1) = t := ⟨_, rfl⟩
      have HTB : Hid (tb = bitN y1) := by show _ = _; rw [← htb]; exact le_bit mm1.out.1
      obtain ⟨f', hf'⟩ : ∃ f', (f && (d0 && (d2 && (d3 && (d4 && tb))))) = f' := ⟨_, rfl⟩
      have HF' := Lib.hid hf'
      clear hf'
      have t1 := HT1t.out
      go_upto_region 28 with fail
      go_cut [8, 17, 19, 21, 23] from 179 to 234 (fun v v17 v19 v21 v23 wx => v = .bool f' ∧ v17 = .bool d0 ∧ v19 = .bool d2 ∧ v21 = .bool d3 ∧ v23 = .bool d4 ∧ wr = wx)
      case first =>
        cases f with
        | false => go_wp2_with fail; go_meet; exact ⟨by rw [← HF'.out]; rfl, rfl, rfl, rfl, rfl, rfl⟩
        | true =>
          cases d0 with
          | false => go_wp2_with fail; go_meet; exact ⟨by rw [← HF'.out]; rfl, rfl, rfl, rfl, rfl, rfl⟩
          | true =>
            cases d2 with
            | false => go_wp2_with fail; go_meet; exact ⟨by rw [← HF'.out]; rfl, rfl, rfl, rfl, rfl, rfl⟩
            | true =>
              cases d3 with
              | false => go_wp2_with fail; go_meet; exact ⟨by rw [← HF'.out]; rfl, rfl, rfl, rfl, rfl, rfl⟩
              | true =>
                cases d4 with
                | false => go_wp2_with fail; go_meet; exact ⟨by rw [← HF'.out]; rfl, rfl, rfl, rfl, rfl, rfl⟩
                | true =>
                  go_wp2_with fail; go_meet; exact ⟨by rw [← HF'.out]; rfl, rfl, rfl, rfl, rfl, rfl⟩
      case rest =>
      obtain ⟨rfl, rfl, rfl, rfl, rfl, rfl⟩ := hcut
      clear htb t1
      obtain ⟨s0, q0⟩ := HBOX.out.at 1 (.slice E k a) rfl
      have hsn : fine loadK (k + 1) (ns.drop base) = (fine loadK k (ns.drop base) && (smallN y0 && (smallN y2 && (smallN y3 && (smallN y4 && bitN y1))))) := by rw [fine_snoc, HCH.out.2]
      have HFN : Hid (f' = (f0 && fine loadK (k + 1) (ns.drop base))) := by show _ = _; rw [hsn, ← HF'.out, HFF.out, HD0.out, HD2.out, HD3.out, HD4.out, HTB.out, Bool.and_assoc]
      have HXN : Hid (fine loadK (k + 1) (ns.drop base) = true → xs ++ [⟨z0, y1 == 1, z2, z3, z4⟩] = parse loadK (k + 1) (ns.drop base)) := fun h => by
        rw [hsn] at h
        simp only [Bool.and_eq_true] at h
        rw [parse_snoc, HCH.out.1, HXS.out h.1, HZ0.out (HD0.out.trans h.2.1), HZ2.out (HD2.out.trans h.2.2.1), HZ3.out (HD3.out.trans h.2.2.2.1), HZ4.out (HD4.out.trans h.2.2.2.2.1)]
      have HZB : Hid (W.heap.size ≤ (wr.alloc (.cells (cellsL ⟨z0, y1 == 1, z2, z3, z4⟩).toArray 75)).heap.size) := by show _ ≤ _; simp; omega
      clear hsn
      go_wp2
      have w1' : IntKind.i64.wrap ((p : Int) + 1) = (p : Int) + 1 := IntWalk.i64_in _ (by omega)
      have t1 := HT1t.out
      refine wp_region_noPanic ?_
      refine wp_region_held_drew (S := fun w' => (∀ q, w'.cell? ⟨b, q, none⟩ = wr.cell? ⟨b, q, none⟩) ∧ wr.heap.size ≤ w'.heap.size) (by kernel_rfl) ?_ (fun hHeld => ?_)
      · show SameBox wr b _; exact (SameBox.refl _ _).drew
      refine wpAnyH_take (i := 0) (v := ?v49_0) rfl (by kernel_rfl) (by kernel_rfl) (by kernel_rfl) (fun _ _ _ h => h) (Or.inl ⟨by rfl, ?y49_0⟩) (by assumption) ?r49_0
      case y49_0 => (intro w hSw; (try dsimp only at hSw); go_simp; try with_reducible rfl)
      try simp only [Act.put, List.setIfInBounds_toArray, List.set_cons_zero, List.set_cons_succ]
      refine wpAnyH_take (i := 2) (v := ?v50_2) rfl (by kernel_rfl) (by kernel_rfl) (by kernel_rfl) (fun _ _ _ h => h) (Or.inl ⟨by rfl, ?y50_2⟩) (by assumption) ?r50_2
      case y50_2 => (intro w hSw; (try dsimp only at hSw); go_simp; try with_reducible rfl)
      try simp only [Act.put, List.setIfInBounds_toArray, List.set_cons_zero, List.set_cons_succ]
      refine wpAnyH_take (i := 3) (v := ?v51_3) rfl (by kernel_rfl) (by kernel_rfl) (by kernel_rfl) (fun _ _ _ h => h) (Or.inl ⟨by rfl, ?y51_3⟩) (by assumption) ?r51_3
      case y51_3 => (intro w hSw; (try dsimp only at hSw); go_simp; try with_reducible rfl)
      try simp only [Act.put, List.setIfInBounds_toArray, List.set_cons_zero, List.set_cons_succ]
      refine wpAnyH_take (i := 4) (v := ?v52_4) rfl (by kernel_rfl) (by kernel_rfl) (by kernel_rfl) (fun _ _ _ h => h) (Or.inl ⟨by rfl, ?y52_4⟩) (by assumption) ?r52_4
      case y52_4 => (intro w hSw; (try dsimp only at hSw); go_simp; try with_reducible rfl)
      try simp only [Act.put, List.setIfInBounds_toArray, List.set_cons_zero, List.set_cons_succ]
      refine wpAnyH_take (i := 5) (v := ?v53_5) rfl (by kernel_rfl) (by kernel_rfl) (by kernel_rfl) (fun _ _ _ h => h) (Or.inl ⟨by rfl, ?y53_5⟩) (by assumption) ?r53_5
      case y53_5 => (intro w hSw; (try dsimp only at hSw); go_simp; try with_reducible rfl)
      try simp only [Act.put, List.setIfInBounds_toArray, List.set_cons_zero, List.set_cons_succ]
      refine wpAnyH_take (i := 6) (v := ?v54_6) rfl (by kernel_rfl) (by kernel_rfl) (by kernel_rfl) (fun _ _ _ h => h) (Or.inl ⟨by rfl, ?y54_6⟩) (by assumption) ?r54_6
      case y54_6 => (intro w hSw; (try dsimp only at hSw); go_simp; try with_reducible rfl)
      try simp only [Act.put, List.setIfInBounds_toArray, List.set_cons_zero, List.set_cons_succ]
      refine wpAnyH_take (i := 7) (v := ?v55_7) rfl (by kernel_rfl) (by kernel_rfl) (by kernel_rfl) (fun _ _ _ h => h) (Or.inl ⟨by rfl, ?y55_7⟩) (by assumption) ?r55_7
      case y55_7 => (intro w hSw; (try dsimp only at hSw); go_simp; try with_reducible rfl)
      try simp only [Act.put, List.setIfInBounds_toArray, List.set_cons_zero, List.set_cons_succ]
      refine wpAnyH_take (i := 8) (v := ?v56_8) rfl (by kernel_rfl) (by kernel_rfl) (by kernel_rfl) (fun _ _ _ h => h) (Or.inl ⟨by rfl, ?y56_8⟩) (by assumption) ?r56_8
      case y56_8 => (intro w hSw; (try dsimp only at hSw); go_simp; try with_reducible rfl)
      try simp only [Act.put, List.setIfInBounds_toArray, List.set_cons_zero, List.set_cons_succ]
      refine wpAnyH_take (i := 9) (v := ?v57_9) rfl (by kernel_rfl) (by kernel_rfl) (by kernel_rfl) (fun _ _ _ h => h) (Or.inl ⟨by rfl, ?y57_9⟩) (by assumption) ?r57_9
      case y57_9 => (intro w hSw; (try dsimp only at hSw); go_simp; try with_reducible rfl)
      try simp only [Act.put, List.setIfInBounds_toArray, List.set_cons_zero, List.set_cons_succ]
      refine wpAnyH_take (i := 10) (v := ?v58_10) rfl (by kernel_rfl) (by kernel_rfl) (by kernel_rfl) (fun _ _ _ h => h) (Or.inl ⟨by rfl, ?y58_10⟩) (by assumption) ?r58_10
      case y58_10 => (intro w hSw; (try dsimp only at hSw); go_simp; try with_reducible rfl)
      try simp only [Act.put, List.setIfInBounds_toArray, List.set_cons_zero, List.set_cons_succ]
      refine wpAnyH_take (i := 11) (v := ?v59_11) rfl (by kernel_rfl) (by kernel_rfl) (by kernel_rfl) (fun _ _ _ h => h) (Or.inl ⟨by rfl, ?y59_11⟩) (by assumption) ?r59_11
      case y59_11 => (intro w hSw; (try dsimp only at hSw); go_simp; try with_reducible rfl)
      try simp only [Act.put, List.setIfInBounds_toArray, List.set_cons_zero, List.set_cons_succ]
      refine wpAnyH_take (i := 12) (v := ?v60_12) rfl (by kernel_rfl) (by kernel_rfl) (by kernel_rfl) (fun _ _ _ h => h) (Or.inl ⟨by rfl, ?y60_12⟩) (by assumption) ?r60_12
      case y60_12 => (intro w hSw; (try dsimp only at hSw); go_simp; try with_reducible rfl)
      try simp only [Act.put, List.setIfInBounds_toArray, List.set_cons_zero, List.set_cons_succ]
      clear w1' t1
      refine wpAnyH_ready (rs := [1, 13]) (by kernel_rfl) (by simp) ?_
      refine AllReadyH.cons rfl (fun K hK => ?_) ?_
      · go_simp
        refine hK.out _ _ ?_ (fun hHeld1 => ?_)
        · show SameBox wr b _; with_reducible (repeat (first | exact SameBox.refl _ _ | assumption | refine SameBox.drew ?_ | refine SameBox.alloc ?_ hbl _))
        clear hK K
        try simp only [Act.put, List.setIfInBounds_toArray, List.set_cons_zero, List.set_cons_succ]
        refine wpAnyH_ready (rs := [13]) (by kernel_rfl) (by simp) ?_
        refine AllReadyH.cons rfl (fun K hK => ?_) AllReadyH.nil
        go_simp
        refine hK.out _ _ ?_ (fun hHeld2 => ?_)
        · show SameBox wr b _; with_reducible (repeat (first | exact SameBox.refl _ _ | assumption | refine SameBox.drew ?_ | refine SameBox.alloc ?_ hbl _))
        clear hK K
        try simp only [Act.put, List.setIfInBounds_toArray, List.set_cons_zero, List.set_cons_succ]
        refine wpAnyH_ready (rs := [14]) (by kernel_rfl) (by simp) ?_
        refine AllReadyH.cons rfl (fun K hK => ?_) AllReadyH.nil
        refine step_lit 23 75 (.agg #[.int .i64 0, .bool false, .int .i64 0, .int .i64 0, .int .i64 0]) 5 40 Tryz.underSlL Tryz.info75 rfl (by decide) (by decide) rfl (.tmp 236) (.tmp 248) rfl (g := wr.heap.size) W.heap.size _ _ (cellsL ⟨z0, y1 == 1, z2, z3, z4⟩) (one_cellsL ⟨z0, y1 == 1, z2, z3, z4⟩) (HOW.out.alloc _) HZB.out HW5.out rfl rfl rfl (by decide) (lit_cells wr (cellsL ⟨z0, y1 == 1, z2, z3, z4⟩) 75) ?_; intro A' c' w8 hown8 hb8 hB8 hbx8 hsz8
        have hbox8 : Box w8 xb [X, .slice E k a, Y] := Box.far (HBOX.out.drew.alloc _) hbx8 HNX.out
        obtain ⟨sx, fx⟩ := hbox8.at 1 (.slice E k a) rfl
        refine hK.out _ _ ?_ (fun hHeld3 => ?_)
        · show SameBox wr b _; exact SameBox.far (((SameBox.refl wr b).drew).alloc hbl _) hbx8 hsz8 HNB.out hbl
        clear hK K
        try simp only [Act.put, List.setIfInBounds_toArray, List.set_cons_zero, List.set_cons_succ]
        refine wpAnyH_take (i := 15) (v := ?v61_15) rfl (by kernel_rfl) (by kernel_rfl) (by kernel_rfl) (fun _ _ _ h => h) (Or.inl ⟨by rfl, ?y61_15⟩) (by assumption) ?r61_15
        case y61_15 => (intro w hSw; (try dsimp only at hSw); go_simp; try with_reducible rfl)
        try simp only [Act.put, List.setIfInBounds_toArray, List.set_cons_zero, List.set_cons_succ]
        refine wpAnyH_ready (rs := [16]) (by kernel_rfl) (by simp) ?_
        refine AllReadyH.cons rfl (fun K hK => ?_) AllReadyH.nil
        go_simp
        refine hK.out _ _ ?_ (fun hHeld4 => ?_)
        · show SameBox wr b _; exact SameBox.set (by assumption : SameBox wr b w8) (p := ⟨xb, 1, none⟩) HBX.out.symm _
        clear hK K
        try simp only [Act.put, List.setIfInBounds_toArray, List.set_cons_zero, List.set_cons_succ]
        refine wpAnyH_done (by kernel_rfl) ?_ _
        refine NoPanic.normal ?_
        go_wp2
        go_roundw
        case rel => exact ⟨k + 1, xs ++ [⟨z0, y1 == 1, z2, z3, z4⟩], A', c', f', p + 5, by omega, by go_num, HZ8.out, by go_num, rfl, HFN.out, HXN.out, by simp [HXL.out], hbox8.set 1 _, own_set (by rw [List.flatMap_append]; simpa using hown8) (p := ⟨xb, 1, none⟩) hxW _, (((HBR.out.alloc _).drew.later hb8).set (p := ⟨xb, 1, none⟩) (.inl rfl) _)⟩
        case measure => simp [intOf]; omega
      refine AllReadyH.cons rfl (fun K hK => ?_) ?_
      · go_simp
        refine hK.out _ _ ?_ (fun hHeld1 => ?_)
        · show SameBox wr b _; with_reducible (repeat (first | exact SameBox.refl _ _ | assumption | refine SameBox.drew ?_ | refine SameBox.alloc ?_ hbl _))
        clear hK K
        try simp only [Act.put, List.setIfInBounds_toArray, List.set_cons_zero, List.set_cons_succ]
        refine wpAnyH_ready (rs := [1]) (by kernel_rfl) (by simp) ?_
        refine AllReadyH.cons rfl (fun K hK => ?_) AllReadyH.nil
        go_simp
        refine hK.out _ _ ?_ (fun hHeld2 => ?_)
        · show SameBox wr b _; with_reducible (repeat (first | exact SameBox.refl _ _ | assumption | refine SameBox.drew ?_ | refine SameBox.alloc ?_ hbl _))
        clear hK K
        try simp only [Act.put, List.setIfInBounds_toArray, List.set_cons_zero, List.set_cons_succ]
        refine wpAnyH_ready (rs := [14]) (by kernel_rfl) (by simp) ?_
        refine AllReadyH.cons rfl (fun K hK => ?_) AllReadyH.nil
        refine step_lit 23 75 (.agg #[.int .i64 0, .bool false, .int .i64 0, .int .i64 0, .int .i64 0]) 5 40 Tryz.underSlL Tryz.info75 rfl (by decide) (by decide) rfl (.tmp 236) (.tmp 248) rfl (g := wr.heap.size) W.heap.size _ _ (cellsL ⟨z0, y1 == 1, z2, z3, z4⟩) (one_cellsL ⟨z0, y1 == 1, z2, z3, z4⟩) (HOW.out.alloc _) HZB.out HW5.out rfl rfl rfl (by decide) (lit_cells wr (cellsL ⟨z0, y1 == 1, z2, z3, z4⟩) 75) ?_; intro A' c' w8 hown8 hb8 hB8 hbx8 hsz8
        have hbox8 : Box w8 xb [X, .slice E k a, Y] := Box.far (HBOX.out.drew.alloc _) hbx8 HNX.out
        obtain ⟨sx, fx⟩ := hbox8.at 1 (.slice E k a) rfl
        refine hK.out _ _ ?_ (fun hHeld3 => ?_)
        · show SameBox wr b _; exact SameBox.far (((SameBox.refl wr b).drew).alloc hbl _) hbx8 hsz8 HNB.out hbl
        clear hK K
        try simp only [Act.put, List.setIfInBounds_toArray, List.set_cons_zero, List.set_cons_succ]
        refine wpAnyH_take (i := 15) (v := ?v62_15) rfl (by kernel_rfl) (by kernel_rfl) (by kernel_rfl) (fun _ _ _ h => h) (Or.inl ⟨by rfl, ?y62_15⟩) (by assumption) ?r62_15
        case y62_15 => (intro w hSw; (try dsimp only at hSw); go_simp; try with_reducible rfl)
        try simp only [Act.put, List.setIfInBounds_toArray, List.set_cons_zero, List.set_cons_succ]
        refine wpAnyH_ready (rs := [16]) (by kernel_rfl) (by simp) ?_
        refine AllReadyH.cons rfl (fun K hK => ?_) AllReadyH.nil
        go_simp
        refine hK.out _ _ ?_ (fun hHeld4 => ?_)
        · show SameBox wr b _; exact SameBox.set (by assumption : SameBox wr b w8) (p := ⟨xb, 1, none⟩) HBX.out.symm _
        clear hK K
        try simp only [Act.put, List.setIfInBounds_toArray, List.set_cons_zero, List.set_cons_succ]
        refine wpAnyH_done (by kernel_rfl) ?_ _
        refine NoPanic.normal ?_
        go_wp2
        go_roundw
        case rel => exact ⟨k + 1, xs ++ [⟨z0, y1 == 1, z2, z3, z4⟩], A', c', f', p + 5, by omega, by go_num, HZ8.out, by go_num, rfl, HFN.out, HXN.out, by simp [HXL.out], hbox8.set 1 _, own_set (by rw [List.flatMap_append]; simpa using hown8) (p := ⟨xb, 1, none⟩) hxW _, (((HBR.out.alloc _).drew.later hb8).set (p := ⟨xb, 1, none⟩) (.inl rfl) _)⟩
        case measure => simp [intOf]; omega
      exact AllReadyH.nil
    · obtain rfl : m = k := by omega
      go_wp2
      exact HEX.out _ _ _ _ _ _ _ _ _ _ _ _ _ _ _ _ _ _ _ _ _ _ _ _ _ _ _ _ _ _ _ _ _ _ _ _ _ _ _ _ _ _ _ _ _ _ _ _ _ _ _ _ _ _ _ _ _ _ _ _ _ _ _ _ _ _ _ _ _ _ _ _ _ _ _ _ _ _ _ _ _ _ _ _ _ _ _ _ _ _ xs E a f p wr HP.out HFF.out HXS.out HXL.out HBOX.out HOW.out HBR.out
end Go.Proofs.YtgfleifpblcnfaaGreatDoor

namespace Go.Proofs.YtgfleifpblcnfaaGreatDoor
set_option linter.unusedSimpArgs false
open Go.RowKit
set_option linter.unusedVariables false

set_option maxHeartbeats 25600000 in
set_option maxRecDepth 1000000 in
theorem rsnLoop3 {Q0 : Exit → Act → World → Prop} (c0 c1 c2 c3 c4 c6 c10 c11 c12 c13 c14 c15 c16 c17 c18 c19 c20 c21 c22 c23 c25 c26 c27 c28 c29 c30 c31 c32 c33 c34 c35 c36 c37 c38 c39 c40 c41 c42 c43 c44 c45 c46 c47 c48 c49 c50 c51 c52 c53 c54 c55 c56 c57 c58 c59 c60 c61 c62 c63 c64 c65 c66 c67 c68 c69 c70 c71 c72 c73 c74 c75 c76 c77 c78 c79 c80 c81 c82 c83 c84 c85 c86 c87 c88 c89 c90 c91 c92 c93 c94 c95 c96 c97 c98 c99 c100 c101 c102 c103 c104 c105 c106 c107 c108 c109 c110 c111 c112 c113 c114 c115 c116 c117 c118 c119 c120 c121 c122 c123 c124 c125 c126 c127 c128 c129 c130 c131 c132 c133 c134 c135 c136 c137 c138 c139 c140 c141 c142 c143 c144 c145 c146 c147 c148 c149 c150 c151 c152 c153 c154 c155 c156 c157 c158 c159 c160 c161 c162 c163 c164 c165 c166 c167 c168 c169 c170 c171 c172 c173 c174 c175 c176 c177 c178 c179 c180 c181 c182 c183 c184 c185 c186 c187 c188 c189 c190 c191 c192 c193 c194 c195 c196 c197 c198 c199 c200 c201 c202 c203 c204 c205 c206 c207 c208 c209 c210 c211 c212 c213 c214 c215 c216 c217 c218 c219 c220 c221 c222 c223 c224 c225 c226 c227 c228 c229 c230 c231 c232 c233 c234 c235 c236 c237 c238 c239 c240 c241 c242 c243 c244 c245 c246 c247 c248 c249 c250 c251 c252 c253 c254 c255 c256 c257 c258 c259 c260 c261 c262 c263 c264 c265 c266 c267 c268 c269 c270 c271 c272 c273 c274 c275 c276 c277 c278 c279 c280 c281 c282 c283 c284 c285 c286 c287 c288 c289 c290 c291 c292 c293 c294 c295 c296 c297 c298 c299 c300 c301 c302 c303 c304 c305 c306 c307 c308 c309 c310 c311 c312 c313 c314 c315 c316 c317 c318 c319 c320 c321 c322 c323 c324 c325 c326 c327 c328 c329 c330 c331 c332 c333 c334 c335 c336 c337 c338 c339 c340 c341 c342 c343 c344 c345 c346 c347 c348 c349 c350 c351 c352 c353 c354 c355 : Value) (ns : List Int) (b o q cq xb base m : Nat) (f0 : Bool) (X Y : Value) (W : World) (hns : Nums ns) (hq : ns.length = q) (hl : q ≤ 100000) (hm : m ≤ 12) (hbase : base + m * 8 ≤ q)
    (hbx : b ≠ xb) (hbW : b < W.heap.size) (hxW : xb < W.heap.size) (hcell : ∀ v : World, Turn xb W v → v.cell? ⟨b, o + 2, none⟩ = some (.int .u64 (m : Int)) ∧ ∀ i, i < ns.length → v.cell? ⟨b, o + i, none⟩ = some (.int .u64 (ns.getD i 0)))
    (hq0 : 2 < q) (hbox : Box W xb [X, Y, .slice none 0 0])
    (hexit : ∀ (n25 n26 n27 n28 n29 n30 n31 n32 n253 n254 n255 n256 n257 n258 n259 n260 n261 n262 n263 n264 n265 n266 n267 n268 n269 n270 n271 n272 n273 n274 n275 n276 n277 n278 n279 n280 n281 n282 n283 n284 n285 n286 n287 n288 n289 n290 n291 n292 n293 n294 n295 n296 n297 n298 n299 n300 n301 n302 n303 n304 n305 n306 n307 n308 n309 n310 n311 n312 n313 n314 n315 n316 n317 n318 n319 n320 n321 n322 n323 n324 n325 n326 n327 n328 n329 n330 n331 n332 n333 n334 n335 n336 n337 n338 n339 n340 n341 : Value) (xs : List PodD) (E : Option Addr) (a : Nat) (f : Bool) (p : Nat) (wr : World), p = base + m * 8 → f = (f0 && fine podK m (ns.drop base)) → (fine podK m (ns.drop base) = true → xs = parse podK m (ns.drop base)) → xs.length = m →
      Box wr xb [X, Y, .slice E m a] → wr.ownsRow W.heap.size 79 8 (.slice E m a) m (xs.flatMap cellsP) → Turn xb W wr → Q0 (.exit 4) ⟨#[c0, c1, c2, c3, c4, .slice (some ⟨b, o, none⟩) q cq, c6, .pointer (some ⟨xb, 0, none⟩), .bool f, .int .i64 (p : Int), c10, c11, c12, c13, c14, c15, c16, c17, c18, c19, c20, c21, c22, c23, .int .i64 (m : Int), n25, n26, n27, n28, n29, n30, n31, n32, c33, c34, c35, c36, c37, c38, c39, c40, c41, c42, c43, c44, c45, c46, c47, c48, c49, c50, c51, c52, c53, c54, c55, c56, c57, c58, c59, c60, c61, c62, c63, c64, c65, c66, c67, c68, c69, c70, c71, c72, c73, c74, c75, c76, c77, c78, c79, c80, c81, c82, c83, c84, c85, c86, c87, c88, c89, c90, c91, c92, c93, c94, c95, c96, c97, c98, c99, c100, c101, c102, c103, c104, c105, c106, c107, c108, c109, c110, c111, c112, c113, c114, c115, c116, c117, c118, c119, c120, c121, c122, c123, c124, c125, c126, c127, c128, c129, c130, c131, c132, c133, c134, c135, c136, c137, c138, c139, c140, c141, c142, c143, c144, c145, c146, c147, c148, c149, c150, c151, c152, c153, c154, c155, c156, c157, c158, c159, c160, c161, c162, c163, c164, c165, c166, c167, c168, c169, c170, c171, c172, c173, c174, c175, c176, c177, c178, c179, c180, c181, c182, c183, c184, c185, c186, c187, c188, c189, c190, c191, c192, c193, c194, c195, c196, c197, c198, c199, c200, c201, c202, c203, c204, c205, c206, c207, c208, c209, c210, c211, c212, c213, c214, c215, c216, c217, c218, c219, c220, c221, c222, c223, c224, c225, c226, c227, c228, c229, c230, c231, c232, c233, c234, c235, c236, c237, c238, c239, c240, c241, c242, c243, c244, c245, c246, c247, c248, c249, c250, c251, c252, n253, n254, n255, n256, n257, n258, n259, n260, n261, n262, n263, n264, n265, n266, n267, n268, n269, n270, n271, n272, n273, n274, n275, n276, n277, n278, n279, n280, n281, n282, n283, n284, n285, n286, n287, n288, n289, n290, n291, n292, n293, n294, n295, n296, n297, n298, n299, n300, n301, n302, n303, n304, n305, n306, n307, n308, n309, n310, n311, n312, n313, n314, n315, n316, n317, n318, n319, n320, n321, n322, n323, n324, n325, n326, n327, n328, n329, n330, n331, n332, n333, n334, n335, n336, n337, n338, n339, n340, n341, c342, c343, c344, c345, c346, c347, c348, c349, c350, c351, c352, c353, c354, c355], []⟩ wr) :
    Code.wp Tryz.prog (snapLoop 2) Q0 ⟨#[c0, c1, c2, c3, c4, .slice (some ⟨b, o, none⟩) q cq, c6, .pointer (some ⟨xb, 0, none⟩), .bool f0, .int .i64 (base : Int), c10, c11, c12, c13, c14, c15, c16, c17, c18, c19, c20, c21, c22, c23, .int .i64 0, c25, c26, c27, c28, c29, c30, c31, c32, c33, c34, c35, c36, c37, c38, c39, c40, c41, c42, c43, c44, c45, c46, c47, c48, c49, c50, c51, c52, c53, c54, c55, c56, c57, c58, c59, c60, c61, c62, c63, c64, c65, c66, c67, c68, c69, c70, c71, c72, c73, c74, c75, c76, c77, c78, c79, c80, c81, c82, c83, c84, c85, c86, c87, c88, c89, c90, c91, c92, c93, c94, c95, c96, c97, c98, c99, c100, c101, c102, c103, c104, c105, c106, c107, c108, c109, c110, c111, c112, c113, c114, c115, c116, c117, c118, c119, c120, c121, c122, c123, c124, c125, c126, c127, c128, c129, c130, c131, c132, c133, c134, c135, c136, c137, c138, c139, c140, c141, c142, c143, c144, c145, c146, c147, c148, c149, c150, c151, c152, c153, c154, c155, c156, c157, c158, c159, c160, c161, c162, c163, c164, c165, c166, c167, c168, c169, c170, c171, c172, c173, c174, c175, c176, c177, c178, c179, c180, c181, c182, c183, c184, c185, c186, c187, c188, c189, c190, c191, c192, c193, c194, c195, c196, c197, c198, c199, c200, c201, c202, c203, c204, c205, c206, c207, c208, c209, c210, c211, c212, c213, c214, c215, c216, c217, c218, c219, c220, c221, c222, c223, c224, c225, c226, c227, c228, c229, c230, c231, c232, c233, c234, c235, c236, c237, c238, c239, c240, c241, c242, c243, c244, c245, c246, c247, c248, c249, c250, c251, c252, c253, c254, c255, c256, c257, c258, c259, c260, c261, c262, c263, c264, c265, c266, c267, c268, c269, c270, c271, c272, c273, c274, c275, c276, c277, c278, c279, c280, c281, c282, c283, c284, c285, c286, c287, c288, c289, c290, c291, c292, c293, c294, c295, c296, c297, c298, c299, c300, c301, c302, c303, c304, c305, c306, c307, c308, c309, c310, c311, c312, c313, c314, c315, c316, c317, c318, c319, c320, c321, c322, c323, c324, c325, c326, c327, c328, c329, c330, c331, c332, c333, c334, c335, c336, c337, c338, c339, c340, c341, c342, c343, c344, c345, c346, c347, c348, c349, c350, c351, c352, c353, c354, c355], []⟩ W := by
  have HNS := Lib.hid hns
  have HQ := Lib.hid hq
  have HCE := Lib.hid hcell
  have HBS := Lib.hid hbox
  have HEX := Lib.hid hexit
  have HBASE := Lib.hid hbase
  have hq1 : (2 : Int) < (q : Int) := by omega
  clear hns hq hcell hbox hexit hbase
  conv => arg 2; whnf
  dsimp only
  go_loopw [8, 9, 24] (BxRel podK 79 8 cellsP ns base m f0 xb (fun v => [X, Y, v]) W) (fun _ _ i _ => m - (intOf i).toNat)
  case atStart => exact bx_start HBS.out
  case round =>
    obtain ⟨k, xs, E, a, f, p, hk, rfl, hp, rfl, rfl, hf, hxs, hxl, hbox, hown, hbr⟩ := hrel
    have HP := Lib.hid hp
    have HFF := Lib.hid hf
    have HXS := Lib.hid hxs
    have HXL := Lib.hid hxl
    have HBOX := Lib.hid hbox
    have HOW := Lib.hid hown
    have HBR := Lib.hid hbr
    have hzr : W.heap.size ≤ wr.heap.size := hbr.size
    obtain ⟨f0c, hcw⟩ := HCE.out wr hbr
    have HCW := Lib.hid hcw
    clear hp hf hxs hxl hbox hown hbr hcw
    by_cases hlt : k < m
    · have hpq : p + 7 < q := by have := HBASE.out; have := HP.out; omega
      have cc0 : wr.cell? ⟨b, o + p, none⟩ = some (.int .u64 (ns.getD p 0)) := HCW.out p (by have := HQ.out; omega)
      have cc1 : wr.cell? ⟨b, o + (p + 1), none⟩ = some (.int .u64 (ns.getD (p + 1) 0)) := HCW.out (p + 1) (by have := HQ.out; omega)
      have cc2 : wr.cell? ⟨b, o + (p + 2), none⟩ = some (.int .u64 (ns.getD (p + 2) 0)) := HCW.out (p + 2) (by have := HQ.out; omega)
      have cc3 : wr.cell? ⟨b, o + (p + 3), none⟩ = some (.int .u64 (ns.getD (p + 3) 0)) := HCW.out (p + 3) (by have := HQ.out; omega)
      have cc4 : wr.cell? ⟨b, o + (p + 4), none⟩ = some (.int .u64 (ns.getD (p + 4) 0)) := HCW.out (p + 4) (by have := HQ.out; omega)
      have cc5 : wr.cell? ⟨b, o + (p + 5), none⟩ = some (.int .u64 (ns.getD (p + 5) 0)) := HCW.out (p + 5) (by have := HQ.out; omega)
      have cc6 : wr.cell? ⟨b, o + (p + 6), none⟩ = some (.int .u64 (ns.getD (p + 6) 0)) := HCW.out (p + 6) (by have := HQ.out; omega)
      have cc7 : wr.cell? ⟨b, o + (p + 7), none⟩ = some (.int .u64 (ns.getD (p + 7) 0)) := HCW.out (p + 7) (by have := HQ.out; omega)
      have HCH := Lib.hid (pod_chunk (l := ns) HP.out)
      have mm0 := Lib.hid (nums_at HNS.out p)
      have mm1 := Lib.hid (nums_at HNS.out (p + 1))
      have mm2 := Lib.hid (nums_at HNS.out (p + 2))
      have mm7 := Lib.hid (nums_at HNS.out (p + 7))
      generalize ns.getD p 0 = y0 at *
      generalize ns.getD (p + 1) 0 = y1 at *
      generalize ns.getD (p + 2) 0 = y2 at *
      generalize ns.getD (p + 3) 0 = y3 at *
      generalize ns.getD (p + 4) 0 = y4 at *
      generalize ns.getD (p + 5) 0 = y5 at *
      generalize ns.getD (p + 6) 0 = y6 at *
      generalize ns.getD (p + 7) 0 = y7 at *
      have hp0 : (0 : Int) ≤ (p : Int) := by omega
      have hpp : (p : Int) < (q : Int) := by omega
      have hp1 : (p : Int) + 1 < (q : Int) := by omega
      have r1 : (0 : Int) ≤ (p : Int) + 1 := by omega
      have hp2 : (p : Int) + 2 < (q : Int) := by omega
      have r2 : (0 : Int) ≤ (p : Int) + 2 := by omega
      have hp3 : (p : Int) + 3 < (q : Int) := by omega
      have r3 : (0 : Int) ≤ (p : Int) + 3 := by omega
      have hp4 : (p : Int) + 4 < (q : Int) := by omega
      have r4 : (0 : Int) ≤ (p : Int) + 4 := by omega
      have hp5 : (p : Int) + 5 < (q : Int) := by omega
      have r5 : (0 : Int) ≤ (p : Int) + 5 := by omega
      have hp6 : (p : Int) + 6 < (q : Int) := by omega
      have r6 : (0 : Int) ≤ (p : Int) + 6 := by omega
      have hp7 : (p : Int) + 7 < (q : Int) := by omega
      have r7 : (0 : Int) ≤ (p : Int) + 7 := by omega
      have HT1t := Lib.hid (show ((p : Int) + 1).toNat = p + 1 by omega)
      have HT2t := Lib.hid (show ((p : Int) + 2).toNat = p + 2 by omega)
      have HT3t := Lib.hid (show ((p : Int) + 3).toNat = p + 3 by omega)
      have HT4t := Lib.hid (show ((p : Int) + 4).toNat = p + 4 by omega)
      have HT5t := Lib.hid (show ((p : Int) + 5).toNat = p + 5 by omega)
      have HT6t := Lib.hid (show ((p : Int) + 6).toNat = p + 6 by omega)
      have HT7t := Lib.hid (show ((p : Int) + 7).toNat = p + 7 by omega)
      have hbl : b < wr.heap.size := by omega
      have hxl : xb < wr.heap.size := by omega
      have HBX := Lib.hid hbx
      have HZ8 : Hid (p + 8 = base + (k + 1) * 8) := by have := HP.out; show _ = _; omega
      have HW5 : Hid (k + 1 ≤ 2000000) := by show _ ≤ _; omega
      have HNX : Hid (some xb ≠ (Value.slice E k a).ownBlock) := fun e => by have := (HOW.out.lt _ e.symm).1; omega
      have HNB : Hid (some b ≠ (Value.slice E k a).ownBlock) := fun e => by have := (HOW.out.lt _ e.symm).1; omega
      go_wp2_with fail
      refine (number04_any y0 _ mm0.out.1 mm0.out.2).mono ?_
      rintro e w9 ⟨z0, d0, rfl, hd, hz, rfl⟩
      have HD0 := Lib.hid hd
      have HZ0 := Lib.hid hz
      clear hd hz
      have t1 := HT1t.out
      go_wp2_with fail
      refine (number04_any y1 _ mm1.out.1 mm1.out.2).mono ?_
      rintro e w9 ⟨z1, d1, rfl, hd, hz, rfl⟩
      have HD1 := Lib.hid hd
      have HZ1 := Lib.hid hz
      clear hd hz t1
      have t2 := HT2t.out
      go_wp2_with fail
      refine (number04_any y2 _ mm2.out.1 mm2.out.2).mono ?_
      rintro e w9 ⟨z2, d2, rfl, hd, hz, rfl⟩
      have HD2 := Lib.hid hd
      have HZ2 := Lib.hid hz
      clear hd hz t2
      have t7 := HT7t.out
      go_wp2_with fail
      refine (number04_any y7 _ mm7.out.1 mm7.out.2).mono ?_
      rintro e w9 ⟨z7, d7, rfl, hd, hz, rfl⟩
      have HD7 := Lib.hid hd
      have HZ7 := Lib.hid hz
      clear hd hz t7
      obtain ⟨f', hf'⟩ : ∃ f', (f && (d0 && (d1 && (d2 && d7)))) = f' := ⟨_, rfl⟩
      have HF' := Lib.hid hf'
      clear hf'
      go_upto_region 38 with fail
      go_cut [8, 26, 28, 30, 32] from 261 to 308 (fun v v26 v28 v30 v32 wx => v = .bool f' ∧ v26 = .bool d0 ∧ v28 = .bool d1 ∧ v30 = .bool d2 ∧ v32 = .bool d7 ∧ wr = wx)
      case first =>
        cases f with
        | false => go_wp2_with fail; go_meet; exact ⟨by rw [← HF'.out]; rfl, rfl, rfl, rfl, rfl, rfl⟩
        | true =>
          cases d0 with
          | false => go_wp2_with fail; go_meet; exact ⟨by rw [← HF'.out]; rfl, rfl, rfl, rfl, rfl, rfl⟩
          | true =>
            cases d1 with
            | false => go_wp2_with fail; go_meet; exact ⟨by rw [← HF'.out]; rfl, rfl, rfl, rfl, rfl, rfl⟩
            | true =>
              cases d2 with
              | false => go_wp2_with fail; go_meet; exact ⟨by rw [← HF'.out]; rfl, rfl, rfl, rfl, rfl, rfl⟩
              | true =>
                cases d7 with
                | false => go_wp2_with fail; go_meet; exact ⟨by rw [← HF'.out]; rfl, rfl, rfl, rfl, rfl, rfl⟩
                | true =>
                  go_wp2_with fail; go_meet; exact ⟨by rw [← HF'.out]; rfl, rfl, rfl, rfl, rfl, rfl⟩
      case rest =>
      obtain ⟨rfl, rfl, rfl, rfl, rfl, rfl⟩ := hcut
      obtain ⟨s0, q0⟩ := HBOX.out.at 2 (.slice E k a) rfl
      have hsn : fine podK (k + 1) (ns.drop base) = (fine podK k (ns.drop base) && (smallN y0 && (smallN y1 && (smallN y2 && smallN y7)))) := by rw [fine_snoc, HCH.out.2]
      have HFN : Hid (f' = (f0 && fine podK (k + 1) (ns.drop base))) := by show _ = _; rw [hsn, ← HF'.out, HFF.out, HD0.out, HD1.out, HD2.out, HD7.out, Bool.and_assoc]
      have HXN : Hid (fine podK (k + 1) (ns.drop base) = true → xs ++ [⟨z0, z1, z2, ⟨y3, y4, y5, y6⟩, z7⟩] = parse podK (k + 1) (ns.drop base)) := fun h => by
        rw [hsn] at h
        simp only [Bool.and_eq_true] at h
        rw [parse_snoc, HCH.out.1, HXS.out h.1, HZ0.out (HD0.out.trans h.2.1), HZ1.out (HD1.out.trans h.2.2.1), HZ2.out (HD2.out.trans h.2.2.2.1), HZ7.out (HD7.out.trans h.2.2.2.2)]
      have HZB : Hid (W.heap.size ≤ (wr.alloc (.cells (cellsP ⟨z0, z1, z2, ⟨y3, y4, y5, y6⟩, z7⟩).toArray 79)).heap.size) := by show _ ≤ _; simp; omega
      clear hsn
      go_wp2
      have w3' : IntKind.i64.wrap ((p : Int) + 3) = (p : Int) + 3 := IntWalk.i64_in _ (by omega)
      have w4' : IntKind.i64.wrap ((p : Int) + 4) = (p : Int) + 4 := IntWalk.i64_in _ (by omega)
      have w5' : IntKind.i64.wrap ((p : Int) + 5) = (p : Int) + 5 := IntWalk.i64_in _ (by omega)
      have w6' : IntKind.i64.wrap ((p : Int) + 6) = (p : Int) + 6 := IntWalk.i64_in _ (by omega)
      have t3 := HT3t.out
      have t4 := HT4t.out
      have t5 := HT5t.out
      have t6 := HT6t.out
      refine wp_region_noPanic ?_
      refine wp_region_held_drew (S := fun w' => (∀ q, w'.cell? ⟨b, q, none⟩ = wr.cell? ⟨b, q, none⟩) ∧ wr.heap.size ≤ w'.heap.size) (by kernel_rfl) ?_ (fun hHeld => ?_)
      · show SameBox wr b _; exact (SameBox.refl _ _).drew
      refine wpAnyH_take (i := 0) (v := ?v63_0) rfl (by kernel_rfl) (by kernel_rfl) (by kernel_rfl) (fun _ _ _ h => h) (Or.inl ⟨by rfl, ?y63_0⟩) (by assumption) ?r63_0
      case y63_0 => (intro w hSw; (try dsimp only at hSw); go_simp; try with_reducible rfl)
      try simp only [Act.put, List.setIfInBounds_toArray, List.set_cons_zero, List.set_cons_succ]
      refine wpAnyH_take (i := 2) (v := ?v64_2) rfl (by kernel_rfl) (by kernel_rfl) (by kernel_rfl) (fun _ _ _ h => h) (Or.inl ⟨by rfl, ?y64_2⟩) (by assumption) ?r64_2
      case y64_2 => (intro w hSw; (try dsimp only at hSw); go_simp; try with_reducible rfl)
      try simp only [Act.put, List.setIfInBounds_toArray, List.set_cons_zero, List.set_cons_succ]
      refine wpAnyH_take (i := 3) (v := ?v65_3) rfl (by kernel_rfl) (by kernel_rfl) (by kernel_rfl) (fun _ _ _ h => h) (Or.inl ⟨by rfl, ?y65_3⟩) (by assumption) ?r65_3
      case y65_3 => (intro w hSw; (try dsimp only at hSw); go_simp; try with_reducible rfl)
      try simp only [Act.put, List.setIfInBounds_toArray, List.set_cons_zero, List.set_cons_succ]
      refine wpAnyH_take (i := 4) (v := ?v66_4) rfl (by kernel_rfl) (by kernel_rfl) (by kernel_rfl) (fun _ _ _ h => h) (Or.inl ⟨by rfl, ?y66_4⟩) (by assumption) ?r66_4
      case y66_4 => (intro w hSw; (try dsimp only at hSw); go_simp; try with_reducible rfl)
      try simp only [Act.put, List.setIfInBounds_toArray, List.set_cons_zero, List.set_cons_succ]
      refine wpAnyH_take (i := 5) (v := ?v67_5) rfl (by kernel_rfl) (by kernel_rfl) (by kernel_rfl) (fun _ _ _ h => h) (Or.inl ⟨by rfl, ?y67_5⟩) (by assumption) ?r67_5
      case y67_5 => (intro w hSw; (try dsimp only at hSw); go_simp; try with_reducible rfl)
      try simp only [Act.put, List.setIfInBounds_toArray, List.set_cons_zero, List.set_cons_succ]
      refine wpAnyH_take (i := 6) (v := ?v68_6) rfl (by kernel_rfl) (by kernel_rfl) (by kernel_rfl) (fun _ _ _ h => h) (Or.inl ⟨by rfl, ?y68_6⟩) (by assumption) ?r68_6
      case y68_6 => (intro w hSw; (try dsimp only at hSw); go_simp; try with_reducible rfl)
      try simp only [Act.put, List.setIfInBounds_toArray, List.set_cons_zero, List.set_cons_succ]
      refine wpAnyH_take (i := 7) (v := ?v69_7) rfl (by kernel_rfl) (by kernel_rfl) (by kernel_rfl) (fun _ _ _ h => h) (Or.inl ⟨by rfl, ?y69_7⟩) (by assumption) ?r69_7
      case y69_7 => (intro w hSw; (try dsimp only at hSw); go_simp; try with_reducible rfl)
      try simp only [Act.put, List.setIfInBounds_toArray, List.set_cons_zero, List.set_cons_succ]
      refine wpAnyH_take (i := 8) (v := ?v70_8) rfl (by kernel_rfl) (by kernel_rfl) (by kernel_rfl) (fun _ _ _ h => h) (Or.inl ⟨by rfl, ?y70_8⟩) (by assumption) ?r70_8
      case y70_8 => (intro w hSw; (try dsimp only at hSw); go_simp; try with_reducible rfl)
      try simp only [Act.put, List.setIfInBounds_toArray, List.set_cons_zero, List.set_cons_succ]
      refine wpAnyH_take (i := 9) (v := ?v71_9) rfl (by kernel_rfl) (by kernel_rfl) (by kernel_rfl) (fun _ _ _ h => h) (Or.inl ⟨by rfl, ?y71_9⟩) (by assumption) ?r71_9
      case y71_9 => (intro w hSw; (try dsimp only at hSw); go_simp; try with_reducible rfl)
      try simp only [Act.put, List.setIfInBounds_toArray, List.set_cons_zero, List.set_cons_succ]
      refine wpAnyH_take (i := 10) (v := ?v72_10) rfl (by kernel_rfl) (by kernel_rfl) (by kernel_rfl) (fun _ _ _ h => h) (Or.inl ⟨by rfl, ?y72_10⟩) (by assumption) ?r72_10
      case y72_10 => (intro w hSw; (try dsimp only at hSw); go_simp; try with_reducible rfl)
      try simp only [Act.put, List.setIfInBounds_toArray, List.set_cons_zero, List.set_cons_succ]
      refine wpAnyH_take (i := 11) (v := ?v73_11) rfl (by kernel_rfl) (by kernel_rfl) (by kernel_rfl) (fun _ _ _ h => h) (Or.inl ⟨by rfl, ?y73_11⟩) (by assumption) ?r73_11
      case y73_11 => (intro w hSw; (try dsimp only at hSw); go_simp; try with_reducible rfl)
      try simp only [Act.put, List.setIfInBounds_toArray, List.set_cons_zero, List.set_cons_succ]
      refine wpAnyH_take (i := 12) (v := ?v74_12) rfl (by kernel_rfl) (by kernel_rfl) (by kernel_rfl) (fun _ _ _ h => h) (Or.inl ⟨by rfl, ?y74_12⟩) (by assumption) ?r74_12
      case y74_12 => (intro w hSw; (try dsimp only at hSw); go_simp; try with_reducible rfl)
      try simp only [Act.put, List.setIfInBounds_toArray, List.set_cons_zero, List.set_cons_succ]
      refine wpAnyH_take (i := 13) (v := ?v75_13) rfl (by kernel_rfl) (by kernel_rfl) (by kernel_rfl) (fun _ _ _ h => h) (Or.inl ⟨by rfl, ?y75_13⟩) (by assumption) ?r75_13
      case y75_13 => (intro w hSw; (try dsimp only at hSw); go_simp; try with_reducible rfl)
      try simp only [Act.put, List.setIfInBounds_toArray, List.set_cons_zero, List.set_cons_succ]
      refine wpAnyH_take (i := 14) (v := ?v76_14) rfl (by kernel_rfl) (by kernel_rfl) (by kernel_rfl) (fun _ _ _ h => h) (Or.inl ⟨by rfl, ?y76_14⟩) (by assumption) ?r76_14
      case y76_14 => (intro w hSw; (try dsimp only at hSw); go_simp; try with_reducible rfl)
      try simp only [Act.put, List.setIfInBounds_toArray, List.set_cons_zero, List.set_cons_succ]
      refine wpAnyH_take (i := 15) (v := ?v77_15) rfl (by kernel_rfl) (by kernel_rfl) (by kernel_rfl) (fun _ _ _ h => h) (Or.inl ⟨by rfl, ?y77_15⟩) (by assumption) ?r77_15
      case y77_15 => (intro w hSw; (try dsimp only at hSw); go_simp; try with_reducible rfl)
      try simp only [Act.put, List.setIfInBounds_toArray, List.set_cons_zero, List.set_cons_succ]
      refine wpAnyH_take (i := 16) (v := ?v78_16) rfl (by kernel_rfl) (by kernel_rfl) (by kernel_rfl) (fun _ _ _ h => h) (Or.inl ⟨by rfl, ?y78_16⟩) (by assumption) ?r78_16
      case y78_16 => (intro w hSw; (try dsimp only at hSw); go_simp; try with_reducible rfl)
      try simp only [Act.put, List.setIfInBounds_toArray, List.set_cons_zero, List.set_cons_succ]
      refine wpAnyH_take (i := 17) (v := ?v79_17) rfl (by kernel_rfl) (by kernel_rfl) (by kernel_rfl) (fun _ _ _ h => h) (Or.inl ⟨by rfl, ?y79_17⟩) (by assumption) ?r79_17
      case y79_17 => (intro w hSw; (try dsimp only at hSw); go_simp; try with_reducible rfl)
      try simp only [Act.put, List.setIfInBounds_toArray, List.set_cons_zero, List.set_cons_succ]
      refine wpAnyH_take (i := 18) (v := ?v80_18) rfl (by kernel_rfl) (by kernel_rfl) (by kernel_rfl) (fun _ _ _ h => h) (Or.inl ⟨by rfl, ?y80_18⟩) (by assumption) ?r80_18
      case y80_18 => (intro w hSw; (try dsimp only at hSw); go_simp; try with_reducible rfl)
      try simp only [Act.put, List.setIfInBounds_toArray, List.set_cons_zero, List.set_cons_succ]
      refine wpAnyH_take (i := 19) (v := ?v81_19) rfl (by kernel_rfl) (by kernel_rfl) (by kernel_rfl) (fun _ _ _ h => h) (Or.inl ⟨by rfl, ?y81_19⟩) (by assumption) ?r81_19
      case y81_19 => (intro w hSw; (try dsimp only at hSw); go_simp; try with_reducible rfl)
      try simp only [Act.put, List.setIfInBounds_toArray, List.set_cons_zero, List.set_cons_succ]
      refine wpAnyH_take (i := 20) (v := ?v82_20) rfl (by kernel_rfl) (by kernel_rfl) (by kernel_rfl) (fun _ _ _ h => h) (Or.inl ⟨by rfl, ?y82_20⟩) (by assumption) ?r82_20
      case y82_20 => (intro w hSw; (try dsimp only at hSw); go_simp; try with_reducible rfl)
      try simp only [Act.put, List.setIfInBounds_toArray, List.set_cons_zero, List.set_cons_succ]
      refine wpAnyH_take (i := 21) (v := ?v83_21) rfl (by kernel_rfl) (by kernel_rfl) (by kernel_rfl) (fun _ _ _ h => h) (Or.inl ⟨by rfl, ?y83_21⟩) (by assumption) ?r83_21
      case y83_21 => (intro w hSw; (try dsimp only at hSw); go_simp; try with_reducible rfl)
      try simp only [Act.put, List.setIfInBounds_toArray, List.set_cons_zero, List.set_cons_succ]
      refine wpAnyH_take (i := 22) (v := ?v84_22) rfl (by kernel_rfl) (by kernel_rfl) (by kernel_rfl) (fun _ _ _ h => h) (Or.inl ⟨by rfl, ?y84_22⟩) (by assumption) ?r84_22
      case y84_22 => (intro w hSw; (try dsimp only at hSw); go_simp; try with_reducible rfl)
      try simp only [Act.put, List.setIfInBounds_toArray, List.set_cons_zero, List.set_cons_succ]
      refine wpAnyH_take (i := 23) (v := ?v85_23) rfl (by kernel_rfl) (by kernel_rfl) (by kernel_rfl) (fun _ _ _ h => h) (Or.inl ⟨by rfl, ?y85_23⟩) (by assumption) ?r85_23
      case y85_23 => (intro w hSw; (try dsimp only at hSw); go_simp; try with_reducible rfl)
      try simp only [Act.put, List.setIfInBounds_toArray, List.set_cons_zero, List.set_cons_succ]
      refine wpAnyH_take (i := 24) (v := ?v86_24) rfl (by kernel_rfl) (by kernel_rfl) (by kernel_rfl) (fun _ _ _ h => h) (Or.inl ⟨by rfl, ?y86_24⟩) (by assumption) ?r86_24
      case y86_24 => (intro w hSw; (try dsimp only at hSw); go_simp; try with_reducible rfl)
      try simp only [Act.put, List.setIfInBounds_toArray, List.set_cons_zero, List.set_cons_succ]
      refine wpAnyH_take (i := 25) (v := ?v87_25) rfl (by kernel_rfl) (by kernel_rfl) (by kernel_rfl) (fun _ _ _ h => h) (Or.inl ⟨by rfl, ?y87_25⟩) (by assumption) ?r87_25
      case y87_25 => (intro w hSw; (try dsimp only at hSw); go_simp; try with_reducible rfl)
      try simp only [Act.put, List.setIfInBounds_toArray, List.set_cons_zero, List.set_cons_succ]
      refine wpAnyH_take (i := 26) (v := ?v88_26) rfl (by kernel_rfl) (by kernel_rfl) (by kernel_rfl) (fun _ _ _ h => h) (Or.inl ⟨by rfl, ?y88_26⟩) (by assumption) ?r88_26
      case y88_26 => (intro w hSw; (try dsimp only at hSw); go_simp; try with_reducible rfl)
      try simp only [Act.put, List.setIfInBounds_toArray, List.set_cons_zero, List.set_cons_succ]
      refine wpAnyH_take (i := 27) (v := ?v89_27) rfl (by kernel_rfl) (by kernel_rfl) (by kernel_rfl) (fun _ _ _ h => h) (Or.inl ⟨by rfl, ?y89_27⟩) (by assumption) ?r89_27
      case y89_27 => (intro w hSw; (try dsimp only at hSw); go_simp; try with_reducible rfl)
      try simp only [Act.put, List.setIfInBounds_toArray, List.set_cons_zero, List.set_cons_succ]
      clear w3' t3 w4' t4 w5' t5 w6' t6
      refine wpAnyH_ready (rs := [1, 28]) (by kernel_rfl) (by simp) ?_
      refine AllReadyH.cons rfl (fun K hK => ?_) ?_
      · go_simp
        refine hK.out _ _ ?_ (fun hHeld1 => ?_)
        · show SameBox wr b _; with_reducible (repeat (first | exact SameBox.refl _ _ | assumption | refine SameBox.drew ?_ | refine SameBox.alloc ?_ hbl _))
        clear hK K
        try simp only [Act.put, List.setIfInBounds_toArray, List.set_cons_zero, List.set_cons_succ]
        refine wpAnyH_ready (rs := [28]) (by kernel_rfl) (by simp) ?_
        refine AllReadyH.cons rfl (fun K hK => ?_) AllReadyH.nil
        go_simp
        refine hK.out _ _ ?_ (fun hHeld2 => ?_)
        · show SameBox wr b _; with_reducible (repeat (first | exact SameBox.refl _ _ | assumption | refine SameBox.drew ?_ | refine SameBox.alloc ?_ hbl _))
        clear hK K
        try simp only [Act.put, List.setIfInBounds_toArray, List.set_cons_zero, List.set_cons_succ]
        refine wpAnyH_ready (rs := [29]) (by kernel_rfl) (by simp) ?_
        refine AllReadyH.cons rfl (fun K hK => ?_) AllReadyH.nil
        refine step_lit 24 79 (.agg #[.int .i64 0, .int .i64 0, .int .i64 0, .int .u64 0, .int .u64 0, .int .u64 0, .int .u64 0, .int .i64 0]) 8 64 Tryz.underSlP Tryz.info79 rfl (by decide) (by decide) rfl (.tmp 310) (.tmp 337) rfl (g := wr.heap.size) W.heap.size _ _ (cellsP ⟨z0, z1, z2, ⟨y3, y4, y5, y6⟩, z7⟩) (one_cellsP ⟨z0, z1, z2, ⟨y3, y4, y5, y6⟩, z7⟩) (HOW.out.alloc _) HZB.out HW5.out rfl rfl rfl (by decide) (lit_cells wr (cellsP ⟨z0, z1, z2, ⟨y3, y4, y5, y6⟩, z7⟩) 79) ?_; intro A' c' w8 hown8 hb8 hB8 hbx8 hsz8
        have hbox8 : Box w8 xb [X, Y, .slice E k a] := Box.far (HBOX.out.drew.alloc _) hbx8 HNX.out
        obtain ⟨sx, fx⟩ := hbox8.at 2 (.slice E k a) rfl
        refine hK.out _ _ ?_ (fun hHeld3 => ?_)
        · show SameBox wr b _; exact SameBox.far (((SameBox.refl wr b).drew).alloc hbl _) hbx8 hsz8 HNB.out hbl
        clear hK K
        try simp only [Act.put, List.setIfInBounds_toArray, List.set_cons_zero, List.set_cons_succ]
        refine wpAnyH_take (i := 30) (v := ?v90_30) rfl (by kernel_rfl) (by kernel_rfl) (by kernel_rfl) (fun _ _ _ h => h) (Or.inl ⟨by rfl, ?y90_30⟩) (by assumption) ?r90_30
        case y90_30 => (intro w hSw; (try dsimp only at hSw); go_simp; try with_reducible rfl)
        try simp only [Act.put, List.setIfInBounds_toArray, List.set_cons_zero, List.set_cons_succ]
        refine wpAnyH_ready (rs := [31]) (by kernel_rfl) (by simp) ?_
        refine AllReadyH.cons rfl (fun K hK => ?_) AllReadyH.nil
        go_simp
        refine hK.out _ _ ?_ (fun hHeld4 => ?_)
        · show SameBox wr b _; exact SameBox.set (by assumption : SameBox wr b w8) (p := ⟨xb, 2, none⟩) HBX.out.symm _
        clear hK K
        try simp only [Act.put, List.setIfInBounds_toArray, List.set_cons_zero, List.set_cons_succ]
        refine wpAnyH_done (by kernel_rfl) ?_ _
        refine NoPanic.normal ?_
        go_wp2
        go_roundw
        case rel => exact ⟨k + 1, xs ++ [⟨z0, z1, z2, ⟨y3, y4, y5, y6⟩, z7⟩], A', c', f', p + 8, by omega, by go_num, HZ8.out, by go_num, rfl, HFN.out, HXN.out, by simp [HXL.out], hbox8.set 2 _, own_set (by rw [List.flatMap_append]; simpa using hown8) (p := ⟨xb, 2, none⟩) hxW _, (((HBR.out.alloc _).drew.later hb8).set (p := ⟨xb, 2, none⟩) (.inl rfl) _)⟩
        case measure => simp [intOf]; omega
      refine AllReadyH.cons rfl (fun K hK => ?_) ?_
      · go_simp
        refine hK.out _ _ ?_ (fun hHeld1 => ?_)
        · show SameBox wr b _; with_reducible (repeat (first | exact SameBox.refl _ _ | assumption | refine SameBox.drew ?_ | refine SameBox.alloc ?_ hbl _))
        clear hK K
        try simp only [Act.put, List.setIfInBounds_toArray, List.set_cons_zero, List.set_cons_succ]
        refine wpAnyH_ready (rs := [1]) (by kernel_rfl) (by simp) ?_
        refine AllReadyH.cons rfl (fun K hK => ?_) AllReadyH.nil
        go_simp
        refine hK.out _ _ ?_ (fun hHeld2 => ?_)
        · show SameBox wr b _; with_reducible (repeat (first | exact SameBox.refl _ _ | assumption | refine SameBox.drew ?_ | refine SameBox.alloc ?_ hbl _))
        clear hK K
        try simp only [Act.put, List.setIfInBounds_toArray, List.set_cons_zero, List.set_cons_succ]
        refine wpAnyH_ready (rs := [29]) (by kernel_rfl) (by simp) ?_
        refine AllReadyH.cons rfl (fun K hK => ?_) AllReadyH.nil
        refine step_lit 24 79 (.agg #[.int .i64 0, .int .i64 0, .int .i64 0, .int .u64 0, .int .u64 0, .int .u64 0, .int .u64 0, .int .i64 0]) 8 64 Tryz.underSlP Tryz.info79 rfl (by decide) (by decide) rfl (.tmp 310) (.tmp 337) rfl (g := wr.heap.size) W.heap.size _ _ (cellsP ⟨z0, z1, z2, ⟨y3, y4, y5, y6⟩, z7⟩) (one_cellsP ⟨z0, z1, z2, ⟨y3, y4, y5, y6⟩, z7⟩) (HOW.out.alloc _) HZB.out HW5.out rfl rfl rfl (by decide) (lit_cells wr (cellsP ⟨z0, z1, z2, ⟨y3, y4, y5, y6⟩, z7⟩) 79) ?_; intro A' c' w8 hown8 hb8 hB8 hbx8 hsz8
        have hbox8 : Box w8 xb [X, Y, .slice E k a] := Box.far (HBOX.out.drew.alloc _) hbx8 HNX.out
        obtain ⟨sx, fx⟩ := hbox8.at 2 (.slice E k a) rfl
        refine hK.out _ _ ?_ (fun hHeld3 => ?_)
        · show SameBox wr b _; exact SameBox.far (((SameBox.refl wr b).drew).alloc hbl _) hbx8 hsz8 HNB.out hbl
        clear hK K
        try simp only [Act.put, List.setIfInBounds_toArray, List.set_cons_zero, List.set_cons_succ]
        refine wpAnyH_take (i := 30) (v := ?v91_30) rfl (by kernel_rfl) (by kernel_rfl) (by kernel_rfl) (fun _ _ _ h => h) (Or.inl ⟨by rfl, ?y91_30⟩) (by assumption) ?r91_30
        case y91_30 => (intro w hSw; (try dsimp only at hSw); go_simp; try with_reducible rfl)
        try simp only [Act.put, List.setIfInBounds_toArray, List.set_cons_zero, List.set_cons_succ]
        refine wpAnyH_ready (rs := [31]) (by kernel_rfl) (by simp) ?_
        refine AllReadyH.cons rfl (fun K hK => ?_) AllReadyH.nil
        go_simp
        refine hK.out _ _ ?_ (fun hHeld4 => ?_)
        · show SameBox wr b _; exact SameBox.set (by assumption : SameBox wr b w8) (p := ⟨xb, 2, none⟩) HBX.out.symm _
        clear hK K
        try simp only [Act.put, List.setIfInBounds_toArray, List.set_cons_zero, List.set_cons_succ]
        refine wpAnyH_done (by kernel_rfl) ?_ _
        refine NoPanic.normal ?_
        go_wp2
        go_roundw
        case rel => exact ⟨k + 1, xs ++ [⟨z0, z1, z2, ⟨y3, y4, y5, y6⟩, z7⟩], A', c', f', p + 8, by omega, by go_num, HZ8.out, by go_num, rfl, HFN.out, HXN.out, by simp [HXL.out], hbox8.set 2 _, own_set (by rw [List.flatMap_append]; simpa using hown8) (p := ⟨xb, 2, none⟩) hxW _, (((HBR.out.alloc _).drew.later hb8).set (p := ⟨xb, 2, none⟩) (.inl rfl) _)⟩
        case measure => simp [intOf]; omega
      exact AllReadyH.nil
    · obtain rfl : m = k := by omega
      go_wp2
      exact HEX.out _ _ _ _ _ _ _ _ _ _ _ _ _ _ _ _ _ _ _ _ _ _ _ _ _ _ _ _ _ _ _ _ _ _ _ _ _ _ _ _ _ _ _ _ _ _ _ _ _ _ _ _ _ _ _ _ _ _ _ _ _ _ _ _ _ _ _ _ _ _ _ _ _ _ _ _ _ _ _ _ _ _ _ _ _ _ _ _ _ _ _ _ _ _ _ _ _ xs E a f p wr HP.out HFF.out HXS.out HXL.out HBOX.out HOW.out HBR.out
end Go.Proofs.YtgfleifpblcnfaaGreatDoor
