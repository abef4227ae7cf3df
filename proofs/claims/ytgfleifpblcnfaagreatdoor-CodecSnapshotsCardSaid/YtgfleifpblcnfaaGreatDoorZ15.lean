/- Joined texts, part 15: HHl1. -/
import Derived.Test.YtgfleifpblcnfaaGreatDoorZ14

namespace Go.Proofs.YtgfleifpblcnfaaGreatDoor
set_option linter.unusedSimpArgs false
open Go.RowKit
set_option linter.unusedVariables false

set_option maxHeartbeats 25600000 in
set_option maxRecDepth 1000000 in
theorem rsnLoop1 {Q0 : Exit → Act → World → Prop} (c0 c1 c2 c3 c4 c6 c11 c12 c13 c14 c15 c16 c17 c18 c19 c20 c21 c22 c23 c24 c25 c26 c27 c28 c29 c30 c31 c32 c33 c34 c35 c36 c37 c38 c39 c40 c41 c42 c43 c44 c45 c46 c47 c48 c49 c50 c51 c52 c53 c54 c55 c56 c57 c58 c59 c60 c61 c62 c63 c64 c65 c66 c67 c68 c69 c70 c71 c72 c73 c74 c75 c76 c77 c78 c79 c80 c81 c82 c83 c84 c85 c86 c87 c88 c89 c90 c91 c92 c93 c94 c95 c96 c97 c98 c99 c100 c101 c102 c103 c104 c105 c106 c107 c108 c109 c110 c111 c112 c113 c114 c115 c116 c117 c118 c119 c120 c121 c122 c123 c124 c125 c126 c127 c128 c129 c130 c131 c132 c133 c134 c135 c136 c137 c138 c139 c140 c141 c142 c143 c144 c145 c146 c147 c148 c149 c150 c151 c152 c153 c154 c155 c156 c157 c158 c159 c160 c161 c162 c163 c164 c165 c166 c167 c168 c169 c170 c171 c172 c173 c174 c175 c176 c177 c178 c179 c180 c181 c182 c183 c184 c185 c186 c187 c188 c189 c190 c191 c192 c193 c194 c195 c196 c197 c198 c199 c200 c201 c202 c203 c204 c205 c206 c207 c208 c209 c210 c211 c212 c213 c214 c215 c216 c217 c218 c219 c220 c221 c222 c223 c224 c225 c226 c227 c228 c229 c230 c231 c232 c233 c234 c235 c236 c237 c238 c239 c240 c241 c242 c243 c244 c245 c246 c247 c248 c249 c250 c251 c252 c253 c254 c255 c256 c257 c258 c259 c260 c261 c262 c263 c264 c265 c266 c267 c268 c269 c270 c271 c272 c273 c274 c275 c276 c277 c278 c279 c280 c281 c282 c283 c284 c285 c286 c287 c288 c289 c290 c291 c292 c293 c294 c295 c296 c297 c298 c299 c300 c301 c302 c303 c304 c305 c306 c307 c308 c309 c310 c311 c312 c313 c314 c315 c316 c317 c318 c319 c320 c321 c322 c323 c324 c325 c326 c327 c328 c329 c330 c331 c332 c333 c334 c335 c336 c337 c338 c339 c340 c341 c342 c343 c344 c345 c346 c347 c348 c349 c350 c351 c352 c353 c354 c355 : Value) (ns : List Int) (b o q cq xb base m : Nat) (f0 : Bool) (X Y : Value) (W : World) (hns : Nums ns) (hq : ns.length = q) (hl : q ≤ 100000) (hm : m ≤ 12) (hbase : base + m * 10 ≤ q)
    (hbx : b ≠ xb) (hbW : b < W.heap.size) (hxW : xb < W.heap.size) (hcell : ∀ v : World, Turn xb W v → v.cell? ⟨b, o, none⟩ = some (.int .u64 (m : Int)) ∧ ∀ i, i < ns.length → v.cell? ⟨b, o + i, none⟩ = some (.int .u64 (ns.getD i 0)))
    (hq0 : 0 < q) (hbox : Box W xb [.slice none 0 0, X, Y])
    (hexit : ∀ (n11 n12 n13 n14 n87 n88 n89 n90 n91 n92 n93 n94 n95 n96 n97 n98 n99 n100 n101 n102 n103 n104 n105 n106 n107 n108 n109 n110 n111 n112 n113 n114 n115 n116 n117 n118 n119 n120 n121 n122 n123 n124 n125 n126 n127 n128 n129 n130 n131 n132 n133 n134 n135 n136 n137 n138 n139 n140 n141 n142 n143 n144 n145 n146 n147 n148 n149 n150 n151 n152 n153 n154 n155 n156 n157 n158 n159 n160 n161 n162 n163 n164 n165 n166 n167 n168 n169 n170 : Value) (xs : List NodeD) (E : Option Addr) (a : Nat) (f : Bool) (p : Nat) (wr : World), p = base + m * 10 → f = (f0 && fine nodeK m (ns.drop base)) → (fine nodeK m (ns.drop base) = true → xs = parse nodeK m (ns.drop base)) → xs.length = m →
      Box wr xb [.slice E m a, X, Y] → wr.ownsRow W.heap.size 71 10 (.slice E m a) m (xs.flatMap cellsN) → Turn xb W wr → Q0 (.exit 0) ⟨#[c0, c1, c2, c3, c4, .slice (some ⟨b, o, none⟩) q cq, c6, .pointer (some ⟨xb, 0, none⟩), .bool f, .int .i64 (p : Int), .int .i64 (m : Int), n11, n12, n13, n14, c15, c16, c17, c18, c19, c20, c21, c22, c23, c24, c25, c26, c27, c28, c29, c30, c31, c32, c33, c34, c35, c36, c37, c38, c39, c40, c41, c42, c43, c44, c45, c46, c47, c48, c49, c50, c51, c52, c53, c54, c55, c56, c57, c58, c59, c60, c61, c62, c63, c64, c65, c66, c67, c68, c69, c70, c71, c72, c73, c74, c75, c76, c77, c78, c79, c80, c81, c82, c83, c84, c85, c86, n87, n88, n89, n90, n91, n92, n93, n94, n95, n96, n97, n98, n99, n100, n101, n102, n103, n104, n105, n106, n107, n108, n109, n110, n111, n112, n113, n114, n115, n116, n117, n118, n119, n120, n121, n122, n123, n124, n125, n126, n127, n128, n129, n130, n131, n132, n133, n134, n135, n136, n137, n138, n139, n140, n141, n142, n143, n144, n145, n146, n147, n148, n149, n150, n151, n152, n153, n154, n155, n156, n157, n158, n159, n160, n161, n162, n163, n164, n165, n166, n167, n168, n169, n170, c171, c172, c173, c174, c175, c176, c177, c178, c179, c180, c181, c182, c183, c184, c185, c186, c187, c188, c189, c190, c191, c192, c193, c194, c195, c196, c197, c198, c199, c200, c201, c202, c203, c204, c205, c206, c207, c208, c209, c210, c211, c212, c213, c214, c215, c216, c217, c218, c219, c220, c221, c222, c223, c224, c225, c226, c227, c228, c229, c230, c231, c232, c233, c234, c235, c236, c237, c238, c239, c240, c241, c242, c243, c244, c245, c246, c247, c248, c249, c250, c251, c252, c253, c254, c255, c256, c257, c258, c259, c260, c261, c262, c263, c264, c265, c266, c267, c268, c269, c270, c271, c272, c273, c274, c275, c276, c277, c278, c279, c280, c281, c282, c283, c284, c285, c286, c287, c288, c289, c290, c291, c292, c293, c294, c295, c296, c297, c298, c299, c300, c301, c302, c303, c304, c305, c306, c307, c308, c309, c310, c311, c312, c313, c314, c315, c316, c317, c318, c319, c320, c321, c322, c323, c324, c325, c326, c327, c328, c329, c330, c331, c332, c333, c334, c335, c336, c337, c338, c339, c340, c341, c342, c343, c344, c345, c346, c347, c348, c349, c350, c351, c352, c353, c354, c355], []⟩ wr) :
    Code.wp Tryz.prog (snapLoop 0) Q0 ⟨#[c0, c1, c2, c3, c4, .slice (some ⟨b, o, none⟩) q cq, c6, .pointer (some ⟨xb, 0, none⟩), .bool f0, .int .i64 (base : Int), .int .i64 0, c11, c12, c13, c14, c15, c16, c17, c18, c19, c20, c21, c22, c23, c24, c25, c26, c27, c28, c29, c30, c31, c32, c33, c34, c35, c36, c37, c38, c39, c40, c41, c42, c43, c44, c45, c46, c47, c48, c49, c50, c51, c52, c53, c54, c55, c56, c57, c58, c59, c60, c61, c62, c63, c64, c65, c66, c67, c68, c69, c70, c71, c72, c73, c74, c75, c76, c77, c78, c79, c80, c81, c82, c83, c84, c85, c86, c87, c88, c89, c90, c91, c92, c93, c94, c95, c96, c97, c98, c99, c100, c101, c102, c103, c104, c105, c106, c107, c108, c109, c110, c111, c112, c113, c114, c115, c116, c117, c118, c119, c120, c121, c122, c123, c124, c125, c126, c127, c128, c129, c130, c131, c132, c133, c134, c135, c136, c137, c138, c139, c140, c141, c142, c143, c144, c145, c146, c147, c148, c149, c150, c151, c152, c153, c154, c155, c156, c157, c158, c159, c160, c161, c162, c163, c164, c165, c166, c167, c168, c169, c170, c171, c172, c173, c174, c175, c176, c177, c178, c179, c180, c181, c182, c183, c184, c185, c186, c187, c188, c189, c190, c191, c192, c193, c194, c195, c196, c197, c198, c199, c200, c201, c202, c203, c204, c205, c206, c207, c208, c209, c210, c211, c212, c213, c214, c215, c216, c217, c218, c219, c220, c221, c222, c223, c224, c225, c226, c227, c228, c229, c230, c231, c232, c233, c234, c235, c236, c237, c238, c239, c240, c241, c242, c243, c244, c245, c246, c247, c248, c249, c250, c251, c252, c253, c254, c255, c256, c257, c258, c259, c260, c261, c262, c263, c264, c265, c266, c267, c268, c269, c270, c271, c272, c273, c274, c275, c276, c277, c278, c279, c280, c281, c282, c283, c284, c285, c286, c287, c288, c289, c290, c291, c292, c293, c294, c295, c296, c297, c298, c299, c300, c301, c302, c303, c304, c305, c306, c307, c308, c309, c310, c311, c312, c313, c314, c315, c316, c317, c318, c319, c320, c321, c322, c323, c324, c325, c326, c327, c328, c329, c330, c331, c332, c333, c334, c335, c336, c337, c338, c339, c340, c341, c342, c343, c344, c345, c346, c347, c348, c349, c350, c351, c352, c353, c354, c355], []⟩ W := by
  have HNS := Lib.hid hns
  have HQ := Lib.hid hq
  have HCE := Lib.hid hcell
  have HBS := Lib.hid hbox
  have HEX := Lib.hid hexit
  have HBASE := Lib.hid hbase
  have hq1 : (0 : Int) < (q : Int) := by omega
  clear hns hq hcell hbox hexit hbase
  conv => arg 2; whnf
  dsimp only
  go_loopw [8, 9, 10] (BxRel nodeK 71 10 cellsN ns base m f0 xb (fun v => [v, X, Y]) W) (fun _ _ i _ => m - (intOf i).toNat)
  case atStart => exact bx_start HBS.out
  case round =>
    obtain ⟨k, xs, E, a, f, p, hk, rfl, hp, rfl, rfl, hf, hxs, hxl, hbox, hown, hbr⟩ := hrel
    have HP := Lib.hid hp
    have HFF := Lib.hid hf
    have HXS := Lib.hid hxs
    have HXL := Lib.hid hxl
    have HBOX := Lib.hid hbox
    have HOW := Lib.hid hown
    have HBR := Lib.hid hbr
    have hzr : W.heap.size ≤ wr.heap.size := hbr.size
    obtain ⟨f0c, hcw⟩ := HCE.out wr hbr
    have HCW := Lib.hid hcw
    clear hp hf hxs hxl hbox hown hbr hcw
    by_cases hlt : k < m
    · have hpq : p + 9 < q := by have := HBASE.out; have := HP.out; omega
      have cc0 : wr.cell? ⟨b, o + p, none⟩ = some (.int .u64 (ns.getD p 0)) := HCW.out p (by have := HQ.out; omega)
      have cc1 : wr.cell? ⟨b, o + (p + 1), none⟩ = some (.int .u64 (ns.getD (p + 1) 0)) := HCW.out (p + 1) (by have := HQ.out; omega)
      have cc2 : wr.cell? ⟨b, o + (p + 2), none⟩ = some (.int .u64 (ns.getD (p + 2) 0)) := HCW.out (p + 2) (by have := HQ.out; omega)
      have cc3 : wr.cell? ⟨b, o + (p + 3), none⟩ = some (.int .u64 (ns.getD (p + 3) 0)) := HCW.out (p + 3) (by have := HQ.out; omega)
      have cc4 : wr.cell? ⟨b, o + (p + 4), none⟩ = some (.int .u64 (ns.getD (p + 4) 0)) := HCW.out (p + 4) (by have := HQ.out; omega)
      have cc5 : wr.cell? ⟨b, o + (p + 5), none⟩ = some (.int .u64 (ns.getD (p + 5) 0)) := HCW.out (p + 5) (by have := HQ.out; omega)
      have cc6 : wr.cell? ⟨b, o + (p + 6), none⟩ = some (.int .u64 (ns.getD (p + 6) 0)) := HCW.out (p + 6) (by have := HQ.out; omega)
      have cc7 : wr.cell? ⟨b, o + (p + 7), none⟩ = some (.int .u64 (ns.getD (p + 7) 0)) := HCW.out (p + 7) (by have := HQ.out; omega)
      have cc8 : wr.cell? ⟨b, o + (p + 8), none⟩ = some (.int .u64 (ns.getD (p + 8) 0)) := HCW.out (p + 8) (by have := HQ.out; omega)
      have cc9 : wr.cell? ⟨b, o + (p + 9), none⟩ = some (.int .u64 (ns.getD (p + 9) 0)) := HCW.out (p + 9) (by have := HQ.out; omega)
      have HCH := Lib.hid (node_chunk (l := ns) HP.out)
      have mm0 := Lib.hid (nums_at HNS.out p)
      have mm1 := Lib.hid (nums_at HNS.out (p + 1))
      generalize ns.getD p 0 = y0 at *
      generalize ns.getD (p + 1) 0 = y1 at *
      generalize ns.getD (p + 2) 0 = y2 at *
      generalize ns.getD (p + 3) 0 = y3 at *
      generalize ns.getD (p + 4) 0 = y4 at *
      generalize ns.getD (p + 5) 0 = y5 at *
      generalize ns.getD (p + 6) 0 = y6 at *
      generalize ns.getD (p + 7) 0 = y7 at *
      generalize ns.getD (p + 8) 0 = y8 at *
      generalize ns.getD (p + 9) 0 = y9 at *
      have hp0 : (0 : Int) ≤ (p : Int) := by omega
      have hpp : (p : Int) < (q : Int) := by omega
      have hp1 : (p : Int) + 1 < (q : Int) := by omega
      have r1 : (0 : Int) ≤ (p : Int) + 1 := by omega
      have hp2 : (p : Int) + 2 < (q : Int) := by omega
      have r2 : (0 : Int) ≤ (p : Int) + 2 := by omega
      have hp3 : (p : Int) + 3 < (q : Int) := by omega
      have r3 : (0 : Int) ≤ (p : Int) + 3 := by omega
      have hp4 : (p : Int) + 4 < (q : Int) := by omega
      have r4 : (0 : Int) ≤ (p : Int) + 4 := by omega
      have hp5 : (p : Int) + 5 < (q : Int) := by omega
      have r5 : (0 : Int) ≤ (p : Int) + 5 := by omega
      have hp6 : (p : Int) + 6 < (q : Int) := by omega
      have r6 : (0 : Int) ≤ (p : Int) + 6 := by omega
      have hp7 : (p : Int) + 7 < (q : Int) := by omega
      have r7 : (0 : Int) ≤ (p : Int) + 7 := by omega
      have hp8 : (p : Int) + 8 < (q : Int) := by omega
      have r8 : (0 : Int) ≤ (p : Int) + 8 := by omega
      have hp9 : (p : Int) + 9 < (q : Int) := by omega
      have r9 : (0 : Int) ≤ (p : Int) + 9 := by omega
      have HT1t := Lib.hid (show ((p : Int) + 1).toNat = p + 1 by omega)
      have HT2t := Lib.hid (show ((p : Int) + 2).toNat = p + 2 by omega)
      have HT3t := Lib.hid (show ((p : Int) + 3).toNat = p + 3 by omega)
      have HT4t := Lib.hid (show ((p : Int) + 4).toNat = p + 4 by omega)
      have HT5t := Lib.hid (show ((p : Int) + 5).toNat = p + 5 by omega)
      have HT6t := Lib.hid (show ((p : Int) + 6).toNat = p + 6 by omega)
      have HT7t := Lib.hid (show ((p : Int) + 7).toNat = p + 7 by omega)
      have HT8t := Lib.hid (show ((p : Int) + 8).toNat = p + 8 by omega)
      have HT9t := Lib.hid (show ((p : Int) + 9).toNat = p + 9 by omega)
      have hbl : b < wr.heap.size := by omega
      have hxl : xb < wr.heap.size := by omega
      have HBX := Lib.hid hbx
      have HZ8 : Hid (p + 10 = base + (k + 1) * 10) := by have := HP.out; show _ = _; omega
      have HW5 : Hid (k + 1 ≤ 2000000) := by show _ ≤ _; omega
      have HNX : Hid (some xb ≠ (Value.slice E k a).ownBlock) := fun e => by have := (HOW.out.lt _ e.symm).1; omega
      have HNB : Hid (some b ≠ (Value.slice E k a).ownBlock) := fun e => by have := (HOW.out.lt _ e.symm).1; omega
      go_wp2_with fail
      refine (number04_any y0 _ mm0.out.1 mm0.out.2).mono ?_
      rintro e w9 ⟨z0, d0, rfl, hd, hz, rfl⟩
      have HD0 := Lib.hid hd
      have HZ0 := Lib.hid hz
      clear hd hz
      have t1 := HT1t.out
      go_wp2_with fail
      refine (number04_any y1 _ mm1.out.1 mm1.out.2).mono ?_
      rintro e w9 ⟨z1, d1, rfl, hd, hz, rfl⟩
      have HD1 := Lib.hid hd
      have HZ1 := Lib.hid hz
      clear hd hz t1
      obtain ⟨f', hf'⟩ : ∃ f', (f && (d0 && d1)) = f' := ⟨_, rfl⟩
      have HF' := Lib.hid hf'
      clear hf'
      go_upto_region 18 with fail
      go_cut [8, 12, 14] from 95 to 118 (fun v v12 v14 wx => v = .bool f' ∧ v12 = .bool d0 ∧ v14 = .bool d1 ∧ wr = wx)
      case first =>
        cases f with
        | false => go_wp2_with fail; go_meet; exact ⟨by rw [← HF'.out]; rfl, rfl, rfl, rfl⟩
        | true =>
          cases d0 with
          | false => go_wp2_with fail; go_meet; exact ⟨by rw [← HF'.out]; rfl, rfl, rfl, rfl⟩
          | true =>
            cases d1 with
            | false => go_wp2_with fail; go_meet; exact ⟨by rw [← HF'.out]; rfl, rfl, rfl, rfl⟩
            | true =>
              go_wp2_with fail; go_meet; exact ⟨by rw [← HF'.out]; rfl, rfl, rfl, rfl⟩
      case rest =>
      obtain ⟨rfl, rfl, rfl, rfl⟩ := hcut
      obtain ⟨s0, q0⟩ := HBOX.out.at 0 (.slice E k a) rfl
      have hsn : fine nodeK (k + 1) (ns.drop base) = (fine nodeK k (ns.drop base) && (smallN y0 && smallN y1)) := by rw [fine_snoc, HCH.out.2]
      have HFN : Hid (f' = (f0 && fine nodeK (k + 1) (ns.drop base))) := by show _ = _; rw [hsn, ← HF'.out, HFF.out, HD0.out, HD1.out, Bool.and_assoc]
      have HXN : Hid (fine nodeK (k + 1) (ns.drop base) = true → xs ++ [⟨z0, z1, ⟨y2, y3, y4, y5⟩, ⟨y6, y7, y8, y9⟩⟩] = parse nodeK (k + 1) (ns.drop base)) := fun h => by
        rw [hsn] at h
        simp only [Bool.and_eq_true] at h
        rw [parse_snoc, HCH.out.1, HXS.out h.1, HZ0.out (HD0.out.trans h.2.1), HZ1.out (HD1.out.trans h.2.2)]
      have HZB : Hid (W.heap.size ≤ (wr.alloc (.cells (cellsN ⟨z0, z1, ⟨y2, y3, y4, y5⟩, ⟨y6, y7, y8, y9⟩⟩).toArray 71)).heap.size) := by show _ ≤ _; simp; omega
      clear hsn
      go_wp2
      have w2' : IntKind.i64.wrap ((p : Int) + 2) = (p : Int) + 2 := IntWalk.i64_in _ (by omega)
      have w3' : IntKind.i64.wrap ((p : Int) + 3) = (p : Int) + 3 := IntWalk.i64_in _ (by omega)
      have w4' : IntKind.i64.wrap ((p : Int) + 4) = (p : Int) + 4 := IntWalk.i64_in _ (by omega)
      have w5' : IntKind.i64.wrap ((p : Int) + 5) = (p : Int) + 5 := IntWalk.i64_in _ (by omega)
      have w6' : IntKind.i64.wrap ((p : Int) + 6) = (p : Int) + 6 := IntWalk.i64_in _ (by omega)
      have w7' : IntKind.i64.wrap ((p : Int) + 7) = (p : Int) + 7 := IntWalk.i64_in _ (by omega)
      have w8' : IntKind.i64.wrap ((p : Int) + 8) = (p : Int) + 8 := IntWalk.i64_in _ (by omega)
      have w9' : IntKind.i64.wrap ((p : Int) + 9) = (p : Int) + 9 := IntWalk.i64_in _ (by omega)
      have t2 := HT2t.out
      have t3 := HT3t.out
      have t4 := HT4t.out
      have t5 := HT5t.out
      have t6 := HT6t.out
      have t7 := HT7t.out
      have t8 := HT8t.out
      have t9 := HT9t.out
      refine wp_region_noPanic ?_
      refine wp_region_held_drew (S := fun w' => (∀ q, w'.cell? ⟨b, q, none⟩ = wr.cell? ⟨b, q, none⟩) ∧ wr.heap.size ≤ w'.heap.size) (by kernel_rfl) ?_ (fun hHeld => ?_)
      · show SameBox wr b _; exact (SameBox.refl _ _).drew
      refine wpAnyH_take (i := 0) (v := ?v1_0) rfl (by kernel_rfl) (by kernel_rfl) (by kernel_rfl) (fun _ _ _ h => h) (Or.inl ⟨by rfl, ?y1_0⟩) (by assumption) ?r1_0
      case y1_0 => (intro w hSw; (try dsimp only at hSw); go_simp; try with_reducible rfl)
      try simp only [Act.put, List.setIfInBounds_toArray, List.set_cons_zero, List.set_cons_succ]
      refine wpAnyH_take (i := 2) (v := ?v2_2) rfl (by kernel_rfl) (by kernel_rfl) (by kernel_rfl) (fun _ _ _ h => h) (Or.inl ⟨by rfl, ?y2_2⟩) (by assumption) ?r2_2
      case y2_2 => (intro w hSw; (try dsimp only at hSw); go_simp; try with_reducible rfl)
      try simp only [Act.put, List.setIfInBounds_toArray, List.set_cons_zero, List.set_cons_succ]
      refine wpAnyH_take (i := 3) (v := ?v3_3) rfl (by kernel_rfl) (by kernel_rfl) (by kernel_rfl) (fun _ _ _ h => h) (Or.inl ⟨by rfl, ?y3_3⟩) (by assumption) ?r3_3
      case y3_3 => (intro w hSw; (try dsimp only at hSw); go_simp; try with_reducible rfl)
      try simp only [Act.put, List.setIfInBounds_toArray, List.set_cons_zero, List.set_cons_succ]
      refine wpAnyH_take (i := 4) (v := ?v4_4) rfl (by kernel_rfl) (by kernel_rfl) (by kernel_rfl) (fun _ _ _ h => h) (Or.inl ⟨by rfl, ?y4_4⟩) (by assumption) ?r4_4
      case y4_4 => (intro w hSw; (try dsimp only at hSw); go_simp; try with_reducible rfl)
      try simp only [Act.put, List.setIfInBounds_toArray, List.set_cons_zero, List.set_cons_succ]
      refine wpAnyH_take (i := 5) (v := ?v5_5) rfl (by kernel_rfl) (by kernel_rfl) (by kernel_rfl) (fun _ _ _ h => h) (Or.inl ⟨by rfl, ?y5_5⟩) (by assumption) ?r5_5
      case y5_5 => (intro w hSw; (try dsimp only at hSw); go_simp; try with_reducible rfl)
      try simp only [Act.put, List.setIfInBounds_toArray, List.set_cons_zero, List.set_cons_succ]
      refine wpAnyH_take (i := 6) (v := ?v6_6) rfl (by kernel_rfl) (by kernel_rfl) (by kernel_rfl) (fun _ _ _ h => h) (Or.inl ⟨by rfl, ?y6_6⟩) (by assumption) ?r6_6
      case y6_6 => (intro w hSw; (try dsimp only at hSw); go_simp; try with_reducible rfl)
      try simp only [Act.put, List.setIfInBounds_toArray, List.set_cons_zero, List.set_cons_succ]
      refine wpAnyH_take (i := 7) (v := ?v7_7) rfl (by kernel_rfl) (by kernel_rfl) (by kernel_rfl) (fun _ _ _ h => h) (Or.inl ⟨by rfl, ?y7_7⟩) (by assumption) ?r7_7
      case y7_7 => (intro w hSw; (try dsimp only at hSw); go_simp; try with_reducible rfl)
      try simp only [Act.put, List.setIfInBounds_toArray, List.set_cons_zero, List.set_cons_succ]
      refine wpAnyH_take (i := 8) (v := ?v8_8) rfl (by kernel_rfl) (by kernel_rfl) (by kernel_rfl) (fun _ _ _ h => h) (Or.inl ⟨by rfl, ?y8_8⟩) (by assumption) ?r8_8
      case y8_8 => (intro w hSw; (try dsimp only at hSw); go_simp; try with_reducible rfl)
      try simp only [Act.put, List.setIfInBounds_toArray, List.set_cons_zero, List.set_cons_succ]
      refine wpAnyH_take (i := 9) (v := ?v9_9) rfl (by kernel_rfl) (by kernel_rfl) (by kernel_rfl) (fun _ _ _ h => h) (Or.inl ⟨by rfl, ?y9_9⟩) (by assumption) ?r9_9
      case y9_9 => (intro w hSw; (try dsimp only at hSw); go_simp; try with_reducible rfl)
      try simp only [Act.put, List.setIfInBounds_toArray, List.set_cons_zero, List.set_cons_succ]
      refine wpAnyH_take (i := 10) (v := ?v10_10) rfl (by kernel_rfl) (by kernel_rfl) (by kernel_rfl) (fun _ _ _ h => h) (Or.inl ⟨by rfl, ?y10_10⟩) (by assumption) ?r10_10
      case y10_10 => (intro w hSw; (try dsimp only at hSw); go_simp; try with_reducible rfl)
      try simp only [Act.put, List.setIfInBounds_toArray, List.set_cons_zero, List.set_cons_succ]
      refine wpAnyH_take (i := 11) (v := ?v11_11) rfl (by kernel_rfl) (by kernel_rfl) (by kernel_rfl) (fun _ _ _ h => h) (Or.inl ⟨by rfl, ?y11_11⟩) (by assumption) ?r11_11
      case y11_11 => (intro w hSw; (try dsimp only at hSw); go_simp; try with_reducible rfl)
      try simp only [Act.put, List.setIfInBounds_toArray, List.set_cons_zero, List.set_cons_succ]
      refine wpAnyH_take (i := 12) (v := ?v12_12) rfl (by kernel_rfl) (by kernel_rfl) (by kernel_rfl) (fun _ _ _ h => h) (Or.inl ⟨by rfl, ?y12_12⟩) (by assumption) ?r12_12
      case y12_12 => (intro w hSw; (try dsimp only at hSw); go_simp; try with_reducible rfl)
      try simp only [Act.put, List.setIfInBounds_toArray, List.set_cons_zero, List.set_cons_succ]
      refine wpAnyH_take (i := 13) (v := ?v13_13) rfl (by kernel_rfl) (by kernel_rfl) (by kernel_rfl) (fun _ _ _ h => h) (Or.inl ⟨by rfl, ?y13_13⟩) (by assumption) ?r13_13
      case y13_13 => (intro w hSw; (try dsimp only at hSw); go_simp; try with_reducible rfl)
      try simp only [Act.put, List.setIfInBounds_toArray, List.set_cons_zero, List.set_cons_succ]
      refine wpAnyH_take (i := 14) (v := ?v14_14) rfl (by kernel_rfl) (by kernel_rfl) (by kernel_rfl) (fun _ _ _ h => h) (Or.inl ⟨by rfl, ?y14_14⟩) (by assumption) ?r14_14
      case y14_14 => (intro w hSw; (try dsimp only at hSw); go_simp; try with_reducible rfl)
      try simp only [Act.put, List.setIfInBounds_toArray, List.set_cons_zero, List.set_cons_succ]
      refine wpAnyH_take (i := 15) (v := ?v15_15) rfl (by kernel_rfl) (by kernel_rfl) (by kernel_rfl) (fun _ _ _ h => h) (Or.inl ⟨by rfl, ?y15_15⟩) (by assumption) ?r15_15
      case y15_15 => (intro w hSw; (try dsimp only at hSw); go_simp; try with_reducible rfl)
      try simp only [Act.put, List.setIfInBounds_toArray, List.set_cons_zero, List.set_cons_succ]
      refine wpAnyH_take (i := 16) (v := ?v16_16) rfl (by kernel_rfl) (by kernel_rfl) (by kernel_rfl) (fun _ _ _ h => h) (Or.inl ⟨by rfl, ?y16_16⟩) (by assumption) ?r16_16
      case y16_16 => (intro w hSw; (try dsimp only at hSw); go_simp; try with_reducible rfl)
      try simp only [Act.put, List.setIfInBounds_toArray, List.set_cons_zero, List.set_cons_succ]
      refine wpAnyH_take (i := 17) (v := ?v17_17) rfl (by kernel_rfl) (by kernel_rfl) (by kernel_rfl) (fun _ _ _ h => h) (Or.inl ⟨by rfl, ?y17_17⟩) (by assumption) ?r17_17
      case y17_17 => (intro w hSw; (try dsimp only at hSw); go_simp; try with_reducible rfl)
      try simp only [Act.put, List.setIfInBounds_toArray, List.set_cons_zero, List.set_cons_succ]
      refine wpAnyH_take (i := 18) (v := ?v18_18) rfl (by kernel_rfl) (by kernel_rfl) (by kernel_rfl) (fun _ _ _ h => h) (Or.inl ⟨by rfl, ?y18_18⟩) (by assumption) ?r18_18
      case y18_18 => (intro w hSw; (try dsimp only at hSw); go_simp; try with_reducible rfl)
      try simp only [Act.put, List.setIfInBounds_toArray, List.set_cons_zero, List.set_cons_succ]
      refine wpAnyH_take (i := 19) (v := ?v19_19) rfl (by kernel_rfl) (by kernel_rfl) (by kernel_rfl) (fun _ _ _ h => h) (Or.inl ⟨by rfl, ?y19_19⟩) (by assumption) ?r19_19
      case y19_19 => (intro w hSw; (try dsimp only at hSw); go_simp; try with_reducible rfl)
      try simp only [Act.put, List.setIfInBounds_toArray, List.set_cons_zero, List.set_cons_succ]
      refine wpAnyH_take (i := 20) (v := ?v20_20) rfl (by kernel_rfl) (by kernel_rfl) (by kernel_rfl) (fun _ _ _ h => h) (Or.inl ⟨by rfl, ?y20_20⟩) (by assumption) ?r20_20
      case y20_20 => (intro w hSw; (try dsimp only at hSw); go_simp; try with_reducible rfl)
      try simp only [Act.put, List.setIfInBounds_toArray, List.set_cons_zero, List.set_cons_succ]
      refine wpAnyH_take (i := 21) (v := ?v21_21) rfl (by kernel_rfl) (by kernel_rfl) (by kernel_rfl) (fun _ _ _ h => h) (Or.inl ⟨by rfl, ?y21_21⟩) (by assumption) ?r21_21
      case y21_21 => (intro w hSw; (try dsimp only at hSw); go_simp; try with_reducible rfl)
      try simp only [Act.put, List.setIfInBounds_toArray, List.set_cons_zero, List.set_cons_succ]
      refine wpAnyH_take (i := 22) (v := ?v22_22) rfl (by kernel_rfl) (by kernel_rfl) (by kernel_rfl) (fun _ _ _ h => h) (Or.inl ⟨by rfl, ?y22_22⟩) (by assumption) ?r22_22
      case y22_22 => (intro w hSw; (try dsimp only at hSw); go_simp; try with_reducible rfl)
      try simp only [Act.put, List.setIfInBounds_toArray, List.set_cons_zero, List.set_cons_succ]
      refine wpAnyH_take (i := 23) (v := ?v23_23) rfl (by kernel_rfl) (by kernel_rfl) (by kernel_rfl) (fun _ _ _ h => h) (Or.inl ⟨by rfl, ?y23_23⟩) (by assumption) ?r23_23
      case y23_23 => (intro w hSw; (try dsimp only at hSw); go_simp; try with_reducible rfl)
      try simp only [Act.put, List.setIfInBounds_toArray, List.set_cons_zero, List.set_cons_succ]
      refine wpAnyH_take (i := 24) (v := ?v24_24) rfl (by kernel_rfl) (by kernel_rfl) (by kernel_rfl) (fun _ _ _ h => h) (Or.inl ⟨by rfl, ?y24_24⟩) (by assumption) ?r24_24
      case y24_24 => (intro w hSw; (try dsimp only at hSw); go_simp; try with_reducible rfl)
      try simp only [Act.put, List.setIfInBounds_toArray, List.set_cons_zero, List.set_cons_succ]
      refine wpAnyH_take (i := 25) (v := ?v25_25) rfl (by kernel_rfl) (by kernel_rfl) (by kernel_rfl) (fun _ _ _ h => h) (Or.inl ⟨by rfl, ?y25_25⟩) (by assumption) ?r25_25
      case y25_25 => (intro w hSw; (try dsimp only at hSw); go_simp; try with_reducible rfl)
      try simp only [Act.put, List.setIfInBounds_toArray, List.set_cons_zero, List.set_cons_succ]
      refine wpAnyH_take (i := 26) (v := ?v26_26) rfl (by kernel_rfl) (by kernel_rfl) (by kernel_rfl) (fun _ _ _ h => h) (Or.inl ⟨by rfl, ?y26_26⟩) (by assumption) ?r26_26
      case y26_26 => (intro w hSw; (try dsimp only at hSw); go_simp; try with_reducible rfl)
      try simp only [Act.put, List.setIfInBounds_toArray, List.set_cons_zero, List.set_cons_succ]
      refine wpAnyH_take (i := 27) (v := ?v27_27) rfl (by kernel_rfl) (by kernel_rfl) (by kernel_rfl) (fun _ _ _ h => h) (Or.inl ⟨by rfl, ?y27_27⟩) (by assumption) ?r27_27
      case y27_27 => (intro w hSw; (try dsimp only at hSw); go_simp; try with_reducible rfl)
      try simp only [Act.put, List.setIfInBounds_toArray, List.set_cons_zero, List.set_cons_succ]
      refine wpAnyH_take (i := 28) (v := ?v28_28) rfl (by kernel_rfl) (by kernel_rfl) (by kernel_rfl) (fun _ _ _ h => h) (Or.inl ⟨by rfl, ?y28_28⟩) (by assumption) ?r28_28
      case y28_28 => (intro w hSw; (try dsimp only at hSw); go_simp; try with_reducible rfl)
      try simp only [Act.put, List.setIfInBounds_toArray, List.set_cons_zero, List.set_cons_succ]
      refine wpAnyH_take (i := 29) (v := ?v29_29) rfl (by kernel_rfl) (by kernel_rfl) (by kernel_rfl) (fun _ _ _ h => h) (Or.inl ⟨by rfl, ?y29_29⟩) (by assumption) ?r29_29
      case y29_29 => (intro w hSw; (try dsimp only at hSw); go_simp; try with_reducible rfl)
      try simp only [Act.put, List.setIfInBounds_toArray, List.set_cons_zero, List.set_cons_succ]
      refine wpAnyH_take (i := 30) (v := ?v30_30) rfl (by kernel_rfl) (by kernel_rfl) (by kernel_rfl) (fun _ _ _ h => h) (Or.inl ⟨by rfl, ?y30_30⟩) (by assumption) ?r30_30
      case y30_30 => (intro w hSw; (try dsimp only at hSw); go_simp; try with_reducible rfl)
      try simp only [Act.put, List.setIfInBounds_toArray, List.set_cons_zero, List.set_cons_succ]
      refine wpAnyH_take (i := 31) (v := ?v31_31) rfl (by kernel_rfl) (by kernel_rfl) (by kernel_rfl) (fun _ _ _ h => h) (Or.inl ⟨by rfl, ?y31_31⟩) (by assumption) ?r31_31
      case y31_31 => (intro w hSw; (try dsimp only at hSw); go_simp; try with_reducible rfl)
      try simp only [Act.put, List.setIfInBounds_toArray, List.set_cons_zero, List.set_cons_succ]
      refine wpAnyH_take (i := 32) (v := ?v32_32) rfl (by kernel_rfl) (by kernel_rfl) (by kernel_rfl) (fun _ _ _ h => h) (Or.inl ⟨by rfl, ?y32_32⟩) (by assumption) ?r32_32
      case y32_32 => (intro w hSw; (try dsimp only at hSw); go_simp; try with_reducible rfl)
      try simp only [Act.put, List.setIfInBounds_toArray, List.set_cons_zero, List.set_cons_succ]
      refine wpAnyH_take (i := 33) (v := ?v33_33) rfl (by kernel_rfl) (by kernel_rfl) (by kernel_rfl) (fun _ _ _ h => h) (Or.inl ⟨by rfl, ?y33_33⟩) (by assumption) ?r33_33
      case y33_33 => (intro w hSw; (try dsimp only at hSw); go_simp; try with_reducible rfl)
      try simp only [Act.put, List.setIfInBounds_toArray, List.set_cons_zero, List.set_cons_succ]
      refine wpAnyH_take (i := 34) (v := ?v34_34) rfl (by kernel_rfl) (by kernel_rfl) (by kernel_rfl) (fun _ _ _ h => h) (Or.inl ⟨by rfl, ?y34_34⟩) (by assumption) ?r34_34
      case y34_34 => (intro w hSw; (try dsimp only at hSw); go_simp; try with_reducible rfl)
      try simp only [Act.put, List.setIfInBounds_toArray, List.set_cons_zero, List.set_cons_succ]
      refine wpAnyH_take (i := 35) (v := ?v35_35) rfl (by kernel_rfl) (by kernel_rfl) (by kernel_rfl) (fun _ _ _ h => h) (Or.inl ⟨by rfl, ?y35_35⟩) (by assumption) ?r35_35
      case y35_35 => (intro w hSw; (try dsimp only at hSw); go_simp; try with_reducible rfl)
      try simp only [Act.put, List.setIfInBounds_toArray, List.set_cons_zero, List.set_cons_succ]
      refine wpAnyH_take (i := 36) (v := ?v36_36) rfl (by kernel_rfl) (by kernel_rfl) (by kernel_rfl) (fun _ _ _ h => h) (Or.inl ⟨by rfl, ?y36_36⟩) (by assumption) ?r36_36
      case y36_36 => (intro w hSw; (try dsimp only at hSw); go_simp; try with_reducible rfl)
      try simp only [Act.put, List.setIfInBounds_toArray, List.set_cons_zero, List.set_cons_succ]
      refine wpAnyH_take (i := 37) (v := ?v37_37) rfl (by kernel_rfl) (by kernel_rfl) (by kernel_rfl) (fun _ _ _ h => h) (Or.inl ⟨by rfl, ?y37_37⟩) (by assumption) ?r37_37
      case y37_37 => (intro w hSw; (try dsimp only at hSw); go_simp; try with_reducible rfl)
      try simp only [Act.put, List.setIfInBounds_toArray, List.set_cons_zero, List.set_cons_succ]
      refine wpAnyH_take (i := 38) (v := ?v38_38) rfl (by kernel_rfl) (by kernel_rfl) (by kernel_rfl) (fun _ _ _ h => h) (Or.inl ⟨by rfl, ?y38_38⟩) (by assumption) ?r38_38
      case y38_38 => (intro w hSw; (try dsimp only at hSw); go_simp; try with_reducible rfl)
      try simp only [Act.put, List.setIfInBounds_toArray, List.set_cons_zero, List.set_cons_succ]
      refine wpAnyH_take (i := 39) (v := ?v39_39) rfl (by kernel_rfl) (by kernel_rfl) (by kernel_rfl) (fun _ _ _ h => h) (Or.inl ⟨by rfl, ?y39_39⟩) (by assumption) ?r39_39
      case y39_39 => (intro w hSw; (try dsimp only at hSw); go_simp; try with_reducible rfl)
      try simp only [Act.put, List.setIfInBounds_toArray, List.set_cons_zero, List.set_cons_succ]
      refine wpAnyH_take (i := 40) (v := ?v40_40) rfl (by kernel_rfl) (by kernel_rfl) (by kernel_rfl) (fun _ _ _ h => h) (Or.inl ⟨by rfl, ?y40_40⟩) (by assumption) ?r40_40
      case y40_40 => (intro w hSw; (try dsimp only at hSw); go_simp; try with_reducible rfl)
      try simp only [Act.put, List.setIfInBounds_toArray, List.set_cons_zero, List.set_cons_succ]
      refine wpAnyH_take (i := 41) (v := ?v41_41) rfl (by kernel_rfl) (by kernel_rfl) (by kernel_rfl) (fun _ _ _ h => h) (Or.inl ⟨by rfl, ?y41_41⟩) (by assumption) ?r41_41
      case y41_41 => (intro w hSw; (try dsimp only at hSw); go_simp; try with_reducible rfl)
      try simp only [Act.put, List.setIfInBounds_toArray, List.set_cons_zero, List.set_cons_succ]
      refine wpAnyH_take (i := 42) (v := ?v42_42) rfl (by kernel_rfl) (by kernel_rfl) (by kernel_rfl) (fun _ _ _ h => h) (Or.inl ⟨by rfl, ?y42_42⟩) (by assumption) ?r42_42
      case y42_42 => (intro w hSw; (try dsimp only at hSw); go_simp; try with_reducible rfl)
      try simp only [Act.put, List.setIfInBounds_toArray, List.set_cons_zero, List.set_cons_succ]
      refine wpAnyH_take (i := 43) (v := ?v43_43) rfl (by kernel_rfl) (by kernel_rfl) (by kernel_rfl) (fun _ _ _ h => h) (Or.inl ⟨by rfl, ?y43_43⟩) (by assumption) ?r43_43
      case y43_43 => (intro w hSw; (try dsimp only at hSw); go_simp; try with_reducible rfl)
      try simp only [Act.put, List.setIfInBounds_toArray, List.set_cons_zero, List.set_cons_succ]
      refine wpAnyH_take (i := 44) (v := ?v44_44) rfl (by kernel_rfl) (by kernel_rfl) (by kernel_rfl) (fun _ _ _ h => h) (Or.inl ⟨by rfl, ?y44_44⟩) (by assumption) ?r44_44
      case y44_44 => (intro w hSw; (try dsimp only at hSw); go_simp; try with_reducible rfl)
      try simp only [Act.put, List.setIfInBounds_toArray, List.set_cons_zero, List.set_cons_succ]
      refine wpAnyH_take (i := 45) (v := ?v45_45) rfl (by kernel_rfl) (by kernel_rfl) (by kernel_rfl) (fun _ _ _ h => h) (Or.inl ⟨by rfl, ?y45_45⟩) (by assumption) ?r45_45
      case y45_45 => (intro w hSw; (try dsimp only at hSw); go_simp; try with_reducible rfl)
      try simp only [Act.put, List.setIfInBounds_toArray, List.set_cons_zero, List.set_cons_succ]
      refine wpAnyH_take (i := 46) (v := ?v46_46) rfl (by kernel_rfl) (by kernel_rfl) (by kernel_rfl) (fun _ _ _ h => h) (Or.inl ⟨by rfl, ?y46_46⟩) (by assumption) ?r46_46
      case y46_46 => (intro w hSw; (try dsimp only at hSw); go_simp; try with_reducible rfl)
      try simp only [Act.put, List.setIfInBounds_toArray, List.set_cons_zero, List.set_cons_succ]
      clear w2' t2 w3' t3 w4' t4 w5' t5 w6' t6 w7' t7 w8' t8 w9' t9
      refine wpAnyH_ready (rs := [1, 47]) (by kernel_rfl) (by simp) ?_
      refine AllReadyH.cons rfl (fun K hK => ?_) ?_
      · go_simp
        refine hK.out _ _ ?_ (fun hHeld1 => ?_)
        · show SameBox wr b _; with_reducible (repeat (first | exact SameBox.refl _ _ | assumption | refine SameBox.drew ?_ | refine SameBox.alloc ?_ hbl _))
        clear hK K
        try simp only [Act.put, List.setIfInBounds_toArray, List.set_cons_zero, List.set_cons_succ]
        refine wpAnyH_ready (rs := [47]) (by kernel_rfl) (by simp) ?_
        refine AllReadyH.cons rfl (fun K hK => ?_) AllReadyH.nil
        go_simp
        refine hK.out _ _ ?_ (fun hHeld2 => ?_)
        · show SameBox wr b _; with_reducible (repeat (first | exact SameBox.refl _ _ | assumption | refine SameBox.drew ?_ | refine SameBox.alloc ?_ hbl _))
        clear hK K
        try simp only [Act.put, List.setIfInBounds_toArray, List.set_cons_zero, List.set_cons_succ]
        refine wpAnyH_ready (rs := [48]) (by kernel_rfl) (by simp) ?_
        refine AllReadyH.cons rfl (fun K hK => ?_) AllReadyH.nil
        refine step_lit 22 71 (.agg #[.int .i64 0, .int .i64 0, .int .u64 0, .int .u64 0, .int .u64 0, .int .u64 0, .int .u64 0, .int .u64 0, .int .u64 0, .int .u64 0]) 10 80 Tryz.underSlN Tryz.info71 rfl (by decide) (by decide) rfl (.tmp 120) (.tmp 166) rfl (g := wr.heap.size) W.heap.size _ _ (cellsN ⟨z0, z1, ⟨y2, y3, y4, y5⟩, ⟨y6, y7, y8, y9⟩⟩) (one_cellsN ⟨z0, z1, ⟨y2, y3, y4, y5⟩, ⟨y6, y7, y8, y9⟩⟩) (HOW.out.alloc _) HZB.out HW5.out rfl rfl rfl (by decide) (lit_cells wr (cellsN ⟨z0, z1, ⟨y2, y3, y4, y5⟩, ⟨y6, y7, y8, y9⟩⟩) 71) ?_; intro A' c' w8 hown8 hb8 hB8 hbx8 hsz8
        have hbox8 : Box w8 xb [.slice E k a, X, Y] := Box.far (HBOX.out.drew.alloc _) hbx8 HNX.out
        obtain ⟨sx, fx⟩ := hbox8.at 0 (.slice E k a) rfl
        refine hK.out _ _ ?_ (fun hHeld3 => ?_)
        · show SameBox wr b _; exact SameBox.far (((SameBox.refl wr b).drew).alloc hbl _) hbx8 hsz8 HNB.out hbl
        clear hK K
        try simp only [Act.put, List.setIfInBounds_toArray, List.set_cons_zero, List.set_cons_succ]
        refine wpAnyH_take (i := 49) (v := ?v47_49) rfl (by kernel_rfl) (by kernel_rfl) (by kernel_rfl) (fun _ _ _ h => h) (Or.inl ⟨by rfl, ?y47_49⟩) (by assumption) ?r47_49
        case y47_49 => (intro w hSw; (try dsimp only at hSw); go_simp; try with_reducible rfl)
        try simp only [Act.put, List.setIfInBounds_toArray, List.set_cons_zero, List.set_cons_succ]
        refine wpAnyH_ready (rs := [50]) (by kernel_rfl) (by simp) ?_
        refine AllReadyH.cons rfl (fun K hK => ?_) AllReadyH.nil
        go_simp
        refine hK.out _ _ ?_ (fun hHeld4 => ?_)
        · show SameBox wr b _; exact SameBox.set (by assumption : SameBox wr b w8) (p := ⟨xb, 0, none⟩) HBX.out.symm _
        clear hK K
        try simp only [Act.put, List.setIfInBounds_toArray, List.set_cons_zero, List.set_cons_succ]
        refine wpAnyH_done (by kernel_rfl) ?_ _
        refine NoPanic.normal ?_
        go_wp2
        go_roundw
        case rel => exact ⟨k + 1, xs ++ [⟨z0, z1, ⟨y2, y3, y4, y5⟩, ⟨y6, y7, y8, y9⟩⟩], A', c', f', p + 10, by omega, by go_num, HZ8.out, by go_num, rfl, HFN.out, HXN.out, by simp [HXL.out], hbox8.set 0 _, own_set (by rw [List.flatMap_append]; simpa using hown8) (p := ⟨xb, 0, none⟩) hxW _, (((HBR.out.alloc _).drew.later hb8).set (p := ⟨xb, 0, none⟩) (.inl rfl) _)⟩
        case measure => simp [intOf]; omega
      refine AllReadyH.cons rfl (fun K hK => ?_) ?_
      · go_simp
        refine hK.out _ _ ?_ (fun hHeld1 => ?_)
        · show SameBox wr b _; with_reducible (repeat (first | exact SameBox.refl _ _ | assumption | refine SameBox.drew ?_ | refine SameBox.alloc ?_ hbl _))
        clear hK K
        try simp only [Act.put, List.setIfInBounds_toArray, List.set_cons_zero, List.set_cons_succ]
        refine wpAnyH_ready (rs := [1]) (by kernel_rfl) (by simp) ?_
        refine AllReadyH.cons rfl (fun K hK => ?_) AllReadyH.nil
        go_simp
        refine hK.out _ _ ?_ (fun hHeld2 => ?_)
        · show SameBox wr b _; with_reducible (repeat (first | exact SameBox.refl _ _ | assumption | refine SameBox.drew ?_ | refine SameBox.alloc ?_ hbl _))
        clear hK K
        try simp only [Act.put, List.setIfInBounds_toArray, List.set_cons_zero, List.set_cons_succ]
        refine wpAnyH_ready (rs := [48]) (by kernel_rfl) (by simp) ?_
        refine AllReadyH.cons rfl (fun K hK => ?_) AllReadyH.nil
        refine step_lit 22 71 (.agg #[.int .i64 0, .int .i64 0, .int .u64 0, .int .u64 0, .int .u64 0, .int .u64 0, .int .u64 0, .int .u64 0, .int .u64 0, .int .u64 0]) 10 80 Tryz.underSlN Tryz.info71 rfl (by decide) (by decide) rfl (.tmp 120) (.tmp 166) rfl (g := wr.heap.size) W.heap.size _ _ (cellsN ⟨z0, z1, ⟨y2, y3, y4, y5⟩, ⟨y6, y7, y8, y9⟩⟩) (one_cellsN ⟨z0, z1, ⟨y2, y3, y4, y5⟩, ⟨y6, y7, y8, y9⟩⟩) (HOW.out.alloc _) HZB.out HW5.out rfl rfl rfl (by decide) (lit_cells wr (cellsN ⟨z0, z1, ⟨y2, y3, y4, y5⟩, ⟨y6, y7, y8, y9⟩⟩) 71) ?_; intro A' c' w8 hown8 hb8 hB8 hbx8 hsz8
        have hbox8 : Box w8 xb [.slice E k a, X, Y] := Box.far (HBOX.out.drew.alloc _) hbx8 HNX.out
        obtain ⟨sx, fx⟩ := hbox8.at 0 (.slice E k a) rfl
        refine hK.out _ _ ?_ (fun hHeld3 => ?_)
        · show SameBox wr b _; exact SameBox.far (((SameBox.refl wr b).drew).alloc hbl _) hbx8 hsz8 HNB.out hbl
        clear hK K
        try simp only [Act.put, List.setIfInBounds_toArray, List.set_cons_zero, List.set_cons_succ]
        refine wpAnyH_take (i := 49) (v := ?v48_49) rfl (by kernel_rfl) (by kernel_rfl) (by kernel_rfl) (fun _ _ _ h => h) (Or.inl ⟨by rfl, ?y48_49⟩) (by assumption) ?r48_49
        case y48_49 => (intro w hSw; (try dsimp only at hSw); go_simp; try with_reducible rfl)
        try simp only [Act.put, List.setIfInBounds_toArray, List.set_cons_zero, List.set_cons_succ]
        refine wpAnyH_ready (rs := [50]) (by kernel_rfl) (by simp) ?_
        refine AllReadyH.cons rfl (fun K hK => ?_) AllReadyH.nil
        go_simp
        refine hK.out _ _ ?_ (fun hHeld4 => ?_)
        · show SameBox wr b _; exact SameBox.set (by assumption : SameBox wr b w8) (p := ⟨xb, 0, none⟩) HBX.out.symm _
        clear hK K
        try simp only [Act.put, List.setIfInBounds_toArray, List.set_cons_zero, List.set_cons_succ]
        refine wpAnyH_done (by kernel_rfl) ?_ _
        refine NoPanic.normal ?_
        go_wp2
        go_roundw
        case rel => exact ⟨k + 1, xs ++ [⟨z0, z1, ⟨y2, y3, y4, y5⟩, ⟨y6, y7, y8, y9⟩⟩], A', c', f', p + 10, by omega, by go_num, HZ8.out, by go_num, rfl, HFN.out, HXN.out, by simp [HXL.out], hbox8.set 0 _, own_set (by rw [List.flatMap_append]; simpa using hown8) (p := ⟨xb, 0, none⟩) hxW _, (((HBR.out.alloc _).drew.later hb8).set (p := ⟨xb, 0, none⟩) (.inl rfl) _)⟩
        case measure => simp [intOf]; omega
      exact AllReadyH.nil
    · obtain rfl : m = k := by omega
      go_wp2
      exact HEX.out _ _ _ _ _ _ _ _ _ _ _ _ _ _ _ _ _ _ _ _ _ _ _ _ _ _ _ _ _ _ _ _ _ _ _ _ _ _ _ _ _ _ _ _ _ _ _ _ _ _ _ _ _ _ _ _ _ _ _ _ _ _ _ _ _ _ _ _ _ _ _ _ _ _ _ _ _ _ _ _ _ _ _ _ _ _ _ _ xs E a f p wr HP.out HFF.out HXS.out HXL.out HBOX.out HOW.out HBR.out
end Go.Proofs.YtgfleifpblcnfaaGreatDoor
