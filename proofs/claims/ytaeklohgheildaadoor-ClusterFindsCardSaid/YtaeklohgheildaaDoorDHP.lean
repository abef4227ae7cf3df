/- The program's checkEach, at one kind of record. -/
import Derived.Test.YtaeklohgheildaaDoorDH
namespace Go.Proofs.YtaeklohgheildaaDoor
open Go.RowKit
set_option linter.unusedVariables false

set_option maxHeartbeats 6400000 in
set_option maxRecDepth 100000 in
theorem eachP_any (l : List PodD) (nodes : List NodeD) (loads : List LoadD) (g : Nat) (first : Nat) (A : Option Addr) (n c : Nat) (w : World) (hn : n = l.length) (hl : n ≤ 1000) (hfi : first ≤ 1000) (hr : Recs 8 cellsP w w.heap.size A l)
    (hot : ∀ (x : PodD) (v : World), Below w.heap.size w v → Calls Tryd.prog 37 #[aggP x, .pointer (some ⟨g, 0, none⟩)] v fun e w' => e = .returned (.int .i64 (podF nodes loads x)) ∧ Below v.heap.size v w') :
    Calls Tryd.prog 35 #[.slice A n c, .int .i64 (first : Int), .func (.func 36) #[] #[], .func (.func 37) #[] #[.pointer (some ⟨g, 0, none⟩)]] w (EachTo (firstBad (podBad nodes loads) PodD.id 0 first l) w) := by
  have HR := Lib.hid hr
  have HN := Lib.hid hn
  have HOTT := Lib.hid hot
  clear hr hn hot
  go_enter Tryd.func35, Tryd.ntmps35
  go_wp2
  go_loopw [14] (EachRel (podBad nodes loads) PodD.id l first w) (fun i _ => n - (intOf i).toNat)
  case atStart => exact ⟨0, first, 0, by omega, by omega, rfl, .inl ⟨rfl, rfl⟩, rfl, Below.refl _ _⟩
  case round =>
    obtain ⟨k, m, la, hk, hm, rfl, hla, hfb, hbr⟩ := hrel
    have HFB := Lib.hid hfb
    have HM := Lib.hid hm
    have HLA := Lib.hid hla
    have hzr := hbr.size
    clear hfb hm hla
    by_cases hlt : k < n
    · have hkl : k < l.length := by have := HN.out; omega
      have HIK := Lib.hid (id_key HLA.out hkl)
      have HIF := Lib.hid (fun (v : World) (hv : Below w.heap.size w v) => idFaultP_any l k A n c v HN.out hl hkl ((HR.out.below hv (Nat.le_refl _)).more hv.size))
      obtain ⟨b, o, rfl, hb, he⟩ := HR.out.at hkl
      generalize hx : l[k] = x at *
      have HX := Lib.hid hx
      clear hx
      have e0 : wr.cell? ⟨b, o + k * 8, none⟩ = some (.int .i64 x.id) := (hbr.cell (p := ⟨b, o + k * 8, none⟩) hb).trans (he 0 _ rfl)
      have e1 : wr.cell? ⟨b, o + k * 8 + 1, none⟩ = some (.int .i64 x.load) := (hbr.cell (p := ⟨b, o + k * 8 + 1, none⟩) hb).trans (he 1 _ rfl)
      have e2 : wr.cell? ⟨b, o + k * 8 + 2, none⟩ = some (.int .i64 x.prio) := (hbr.cell (p := ⟨b, o + k * 8 + 2, none⟩) hb).trans (he 2 _ rfl)
      have e3 : wr.cell? ⟨b, o + k * 8 + 3, none⟩ = some (.int .u64 x.req.a) := (hbr.cell (p := ⟨b, o + k * 8 + 3, none⟩) hb).trans (he 3 _ rfl)
      have e4 : wr.cell? ⟨b, o + k * 8 + 4, none⟩ = some (.int .u64 x.req.b) := (hbr.cell (p := ⟨b, o + k * 8 + 4, none⟩) hb).trans (he 4 _ rfl)
      have e5 : wr.cell? ⟨b, o + k * 8 + 5, none⟩ = some (.int .u64 x.req.c) := (hbr.cell (p := ⟨b, o + k * 8 + 5, none⟩) hb).trans (he 5 _ rfl)
      have e6 : wr.cell? ⟨b, o + k * 8 + 6, none⟩ = some (.int .u64 x.req.d) := (hbr.cell (p := ⟨b, o + k * 8 + 6, none⟩) hb).trans (he 6 _ rfl)
      have e7 : wr.cell? ⟨b, o + k * 8 + 7, none⟩ = some (.int .i64 x.node) := (hbr.cell (p := ⟨b, o + k * 8 + 7, none⟩) hb).trans (he 7 _ rfl)
      have hbw : b < wr.heap.size := by omega
      clear he
      go_wp2
      generalize hW : wr.alloc (.cells #[.int .i64 x.id, .int .i64 x.load, .int .i64 x.prio, .int .u64 x.req.a, .int .u64 x.req.b, .int .u64 x.req.c, .int .u64 x.req.d, .int .i64 x.node] 68) = W at *
      have kW : Below w.heap.size w W := by rw [← hW]; exact hbr.alloc hzr _
      have hgW : wr.heap.size < W.heap.size := by rw [← hW]; simp
      have f0 : W.cell? ⟨wr.heap.size, 0, none⟩ = some (.int .i64 x.id) := by rw [← hW]; simp
      have f1 : W.cell? ⟨wr.heap.size, 1, none⟩ = some (.int .i64 x.load) := by rw [← hW]; simp
      have f2 : W.cell? ⟨wr.heap.size, 2, none⟩ = some (.int .i64 x.prio) := by rw [← hW]; simp
      have f3 : W.cell? ⟨wr.heap.size, 3, none⟩ = some (.int .u64 x.req.a) := by rw [← hW]; simp
      have f4 : W.cell? ⟨wr.heap.size, 4, none⟩ = some (.int .u64 x.req.b) := by rw [← hW]; simp
      have f5 : W.cell? ⟨wr.heap.size, 5, none⟩ = some (.int .u64 x.req.c) := by rw [← hW]; simp
      have f6 : W.cell? ⟨wr.heap.size, 6, none⟩ = some (.int .u64 x.req.d) := by rw [← hW]; simp
      have f7 : W.cell? ⟨wr.heap.size, 7, none⟩ = some (.int .i64 x.node) := by rw [← hW]; simp
      clear hW
      generalize hq : idI (ordAt PodD.id l k) x.id = q at *
      generalize ht : podF nodes loads x = t
      have HQ := Lib.hid hq
      have HT := Lib.hid ht
      clear hq ht
      have HIF2 : Hid (∀ v : World, ((∀ b o, b < W.heap.size → v.cell? ⟨b, o, none⟩ = W.cell? ⟨b, o, none⟩) ∧ Below W.heap.size W v) → Calls Tryd.prog 56 #[.slice (some ⟨b, o, none⟩) n c, .int .i64 (k : Int), .func (.func 36) #[] #[]] v fun e w' => e = .returned (.int .i64 q) ∧ Below v.heap.size v w') := fun v hv => HIF.out v (kW.trans (hv.2.mono kW.size))
      have HOT2 : Hid (∀ v : World, ((∀ b o, b < W.heap.size → v.cell? ⟨b, o, none⟩ = W.cell? ⟨b, o, none⟩) ∧ Below W.heap.size W v) → Calls Tryd.prog 37 #[aggP x, .pointer (some ⟨g, 0, none⟩)] v fun e w' => e = .returned (.int .i64 t) ∧ Below v.heap.size v w') := by have := HT.out; subst this; exact (fun v hv => HOTT.out x v (kW.trans (hv.2.mono kW.size)))
      go_region_held3 (fun w' => (∀ b o, b < W.heap.size → w'.cell? ⟨b, o, none⟩ = W.cell? ⟨b, o, none⟩) ∧ Below W.heap.size W w')
        (first | (with_reducible assumption) | exact Keeps.of (Below.drew (Below.refl _ _)) | exact Keeps.step (by assumption) (by assumption) | exact Keeps.alloc (by assumption) _)
        (first
          | (go_at_call 56; refine (HIF2.out _ (by assumption)).mono ?_; rintro e w' ⟨rfl, hb⟩)
          | (go_at_call 37; refine (HOT2.out _ (by assumption)).mono ?_; rintro e w' ⟨rfl, hb⟩)
          | (go_at_call 40; refine (or_any q t _ _ (by simp) (by simp)).mono ?_; rintro e w' ⟨rfl, rfl⟩))
      have HV := Lib.hid (show (podBad nodes loads) la x = orI q t by rw [pod_key nodes loads, ← HIK.out, HT.out])
      have HFA := Lib.hid (firstBad_place hkl HX.out HFB.out HV.out)
      by_cases h0 : orI q t = 0
      · have hz : (orI q t != 0) = false := by simp [h0]
        have HL2 := Lib.hid (lastOk_next (f := PodD.id) hkl HX.out (by rw [← HIK.out]; exact orI_zero h0))
        have HE := Lib.hid (HFA.out.2 h0)
        clear h0
        go_wp2
        go_roundw
        case rel => exact ⟨k + 1, m + 1, x.id, by omega, by have := HM.out; omega, by go_num, HL2.out, HE.out, kW.trans ((by assumption : Keeps W _).2.mono kW.size)⟩
        case measure => simp [intOf]; omega
      · have hz : (orI q t != 0) = true := by simpa using h0
        have HE := Lib.hid (HFA.out.1 h0)
        clear h0
        go_wp2_with fail
        refine (spot_any _ _ _).mono ?_
        rintro e w2 ⟨rfl, rfl⟩
        go_wp2
        go_ret
        refine each_end kW ?_ HE.out ?_ ?_
        · assumption
        · have := HM.out; omega
        · simp
    · have HE := Lib.hid (firstBad_end (by have := HN.out; omega) HFB.out)
      go_wp2
      go_ret
      exact ⟨hbr, .inl ⟨HE.out, rfl⟩⟩
end Go.Proofs.YtaeklohgheildaaDoor
