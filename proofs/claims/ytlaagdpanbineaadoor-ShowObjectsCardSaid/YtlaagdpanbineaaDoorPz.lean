/- the document's Depth and Size of a value in memory: what they answer. -/
import Derived.Test.YtlaagdpanbineaaDoorSa
import Derived.Test.YtlaagdpanbineaaDoorRgc
import Derived.Deep.DeepCutAuto
namespace Go.Proofs.YtlaagdpanbineaaDoor
open Go.RowKit

set_option maxRecDepth 100000 in
set_option maxHeartbeats 1000000 in
theorem rdepth_any (ok : Nat → Prop) : ∀ (h : Nat) (t : NT) (v : Value) (w : World), NIs ok h w t v → dep t ≤ 1000000 → cnt t ≤ 1000000 →
    Calls Tryd.prog 20 #[v] w fun e w' => e = .returned (.int .i64 (dep t)) ∧ Below w.heap.size w w'
  | 0, _, _, _, hN, _, _ => hN.elim
  | h + 1, .mk kd nn tx ks kids, v, w, hN, hbd, hct => by
    have ih := rdepth_any ok h
    obtain ⟨kv, S, c1, rfl, ⟨S1, c0, rfl, _⟩, hk⟩ := hN
    have hlen := len_le_cntL kids
    simp only [cnt] at hct
    have HIH := Lib.hid ih
    have HK := Lib.hid hk
    have HCT := Lib.hid hct
    have hlen2 : kids.length ≤ 1000000 := by omega
    simp only [dep] at hbd
    have HBD := Lib.hid hbd
    clear ih hk hlen hct hbd
    show Calls Tryd.prog _ #[.agg #[.int .i64 kd, .int .i64 nn, .string ⟨tx.toArray⟩, .slice S1 ks.length c0, .slice S kids.length c1]] w _
    go_enter Tryd.func20, Tryd.ntmps20
    go_wp2
    go_loopw [3, 10] (fun c i wr => ∃ k : Nat, k ≤ kids.length ∧ i = .int .i64 k ∧ c = .int .i64 (depL (kids.take k) : Nat) ∧ Hid (Below w.heap.size w wr)) (fun _ i _ => kids.length - (intOf i).toNat)
    case atStart => exact ⟨0, Nat.zero_le _, rfl, by simp [depL], (Below.refl _ _).alloc (Nat.le_refl _) _⟩
    case round =>
      obtain ⟨k, hkl, rfl, rfl, HB⟩ := hrel
      by_cases hlt : k < kids.length
      · obtain ⟨b, off, rfl, hb0, hc⟩ : ∃ b off, S = some ⟨b, off, none⟩ ∧ b < w.heap.size ∧ ∀ j (hj : j < kids.length), ∃ c0 c1 c2 c3 c4,
            w.cell? ⟨b, off + 5 * j, none⟩ = some c0 ∧ w.cell? ⟨b, off + 5 * j + 1, none⟩ = some c1 ∧ w.cell? ⟨b, off + 5 * j + 2, none⟩ = some c2 ∧ w.cell? ⟨b, off + 5 * j + 3, none⟩ = some c3 ∧ w.cell? ⟨b, off + 5 * j + 4, none⟩ = some c4 ∧
            NIs ok h w kids[j] (.agg #[c0, c1, c2, c3, c4]) := by
          rcases HK.out with e | ⟨b, off, e, _, h1, h2⟩
          · rw [e] at hlt; simp at hlt
          · exact ⟨b, off, e, h1, h2⟩
        obtain ⟨x0, x1, x2, x3, x4, e0, e1, e2, e3, e4, hNk⟩ := hc k hlt
        obtain ⟨kk, n2, t2, S3, l3, m3, S4, l4, m4, hv⟩ := hNk.nd
        simp only [Value.agg.injEq, Array.mk.injEq, List.cons.injEq, and_true] at hv
        obtain ⟨rfl, rfl, rfl, rfl, rfl⟩ := hv
        have hcell : ∀ {j : Nat} {x : Value}, w.cell? ⟨b, off + 5 * k + j, none⟩ = some x → wr.cell? ⟨b, off + k * 5 + j, none⟩ = some x := fun {j x} hx => by
          rw [show off + k * 5 + j = off + 5 * k + j by omega]
          exact (HB.out.cell (p := ⟨b, off + 5 * k + j, none⟩) hb0).trans hx
        have f0 : wr.cell? ⟨b, off + k * 5, none⟩ = _ := hcell (j := 0) e0
        have f1 := hcell e1
        have f2 := hcell e2
        have f3 := hcell e3
        have f4 := hcell e4
        have hba : ∀ o, Below w.heap.size w (wr.alloc o) := fun o => HB.out.alloc (HB.out.size) _
        have hT := fun o => HIH.out kids[k] _ (wr.alloc o) (hNk.below (hba o)) (by have h1 := HBD.out; have h2 := depL_take kids k hlt; have h3 := depL_le kids (k + 1); omega) (by have h1 := HCT.out; have h2 := cntL_take kids k hlt; have h3 := cntL_le kids (k + 1); omega)
        have HT := depL_take kids k hlt
        have HL := depL_le kids (k + 1)
        have HBA := Lib.hid hba
        have HT2 := Lib.hid HT
        have hq1 : depL (kids.take (k + 1)) ≤ 1000000 := by have h1 := HBD.out; omega
        have hq2 : dep kids[k] ≤ 1000000 := by omega
        clear e0 e1 e2 e3 e4 hc hcell hba HT hNk
        have e9 : IntKind.i64.wrap (1 + (dep kids[k] : Int)) = 1 + (dep kids[k] : Int) := by rw [IntKind.wrap_i64]; omega
        go_wp2_with fail
        refine (hT _).mono ?_
        rintro e w2 ⟨rfl, hb2⟩
        have HB2 : Hid (Below w.heap.size w w2) := (HBA.out _).trans (hb2.mono (HBA.out _).size)
        clear hT hb2
        by_cases hgt : depL (kids.take k) < 1 + dep kids[k]
        · have q : decide ((depL (kids.take k) : Int) < 1 + (dep kids[k] : Int)) = true := decide_eq_true (by omega)
          have HG : Hid (((depL (kids.take (k + 1)) : Nat) : Int) = 1 + (dep kids[k] : Int)) := by show _ = _; rw [HT2.out]; omega
          clear hgt
          go_wp2
          go_roundw
          case rel => exact ⟨k + 1, by omega, by go_num, by rw [HG.out], HB2⟩
          case measure => simp [intOf]; omega
        · have q : decide ((depL (kids.take k) : Int) < 1 + (dep kids[k] : Int)) = false := decide_eq_false (by omega)
          have HG : Hid (depL (kids.take (k + 1)) = depL (kids.take k)) := by show _ = _; rw [HT2.out]; omega
          clear hgt
          go_wp2
          go_roundw
          case rel => exact ⟨k + 1, by omega, by go_num, by rw [HG.out], HB2⟩
          case measure => simp [intOf]; omega
      · obtain rfl : k = kids.length := by omega
        go_wp2
        go_ret
        refine ⟨?_, HB.out⟩
        rw [List.take_length]
        rfl

theorem w64 {x : Int} (h0 : -1000000000 ≤ x) (h1 : x ≤ 1000000000) : wrap64 x = x := by unfold wrap64; omega
theorem kySum_snoc {ks : List (List UInt8)} {k : Nat} (hk : k < ks.length) : kySum (ks.take (k + 1)) = kySum (ks.take k) + (ks[k].length + 1) := by
  rw [List.take_succ_eq_append_getElem hk]
  simp only [kySum, List.map_append, List.sum_append, List.map_cons, List.map_nil, List.sum_cons, List.sum_nil]
  omega
theorem szL_snoc {l : List NT} {k : Nat} (hk : k < l.length) : szL (l.take (k + 1)) = szL (l.take k) + szT l[k] := by
  rw [List.take_succ_eq_append_getElem hk, szL_append]
  simp only [szL]
  omega
def Size2C (h : Nat) : Prop := ∀ (ok : Nat → Prop) (t : NT) (v : Value) (w : World) (most depth : Int), NIs ok h w t v → okLen t → 0 ≤ most → most ≤ 100000 →
  Calls Tryd.prog 9 #[v, .int .i64 most, .int .i64 depth] w fun e w' => (∃ z : Int, e = .returned (.int .i64 z) ∧ 0 ≤ z ∧ z ≤ 2 * most + 2 ∧ (z ≤ most → (szT t : Int) ≤ z)) ∧ Below w.heap.size w w'

set_option maxRecDepth 100000 in
set_option maxHeartbeats 4000000 in
theorem size2_any : ∀ h : Nat, Size2C h
  | 0 => fun _ _ _ _ _ _ h1 _ _ _ => h1.elim
  | h + 1 => by
    intro ok t v w most depth hN ho hm0 hm1
    have IH := Lib.hid (size2_any h)
    obtain ⟨kd, nn, tx, ks, kids⟩ := t
    obtain ⟨kv, S, c1, rfl, ⟨S1, c0, rfl, hs⟩, hk⟩ := hN
    obtain ⟨p1, p2, p3⟩ := okLen_kids ho
    have HS := Lib.hid hs
    have HK : Hid (KidsAt ok h w S kids) := hk
    have HO := Lib.hid p3
    have hszT : szT (.mk kd nn tx ks kids) = 1 + tx.length + kySum ks + szL kids := rfl
    rw [hszT]
    clear hs hk p3 ho hszT
    show Calls Tryd.prog _ #[aggV kd nn ⟨tx.toArray⟩ S1 ks.length c0 S kids.length c1, _, _] w _
    obtain ⟨X, hX⟩ : ∃ X, (⟨tx.toArray⟩ : ByteArray) = X := ⟨_, rfl⟩
    have hXs : X.size = tx.length := by rw [← hX]; show tx.toArray.size = _; simp
    rw [hX, ← hXs]
    clear hX hXs
    unfold aggV
    go_enter Tryd.func9, Tryd.ntmps9
    go_upto_region 1 with fail
    refine wp_gen (fun w1 => Hid (Below w.heap.size w w1) ∧ w.heap.size < w1.heap.size ∧ w1.cell? ⟨w.heap.size, 2, none⟩ = some (.string X) ∧ w1.cell? ⟨w.heap.size, 3, none⟩ = some (.slice S1 ks.length c0) ∧ w1.cell? ⟨w.heap.size, 4, none⟩ = some (.slice S kids.length c1)) ⟨(Below.refl _ _).alloc (Nat.le_refl _) _, by simp, ?_, ?_, ?_⟩ ?_
    · simp only [World.cell?]; rw [heap_alloc_new w _]; rfl
    · simp only [World.cell?]; rw [heap_alloc_new w _]; rfl
    · simp only [World.cell?]; rw [heap_alloc_new w _]; rfl
    intro w1 ⟨HB1, hs1, f2, f3, f4⟩
    go_cut [27] (fun b wx => (b = .bool true ∨ (b = .bool false ∧ (X.size : Int) ≤ most ∧ (ks.length : Int) ≤ most)) ∧ wx = w1)
    case first =>
      by_cases g1 : 100 < depth
      · have q : decide (100 < depth) = true := decide_eq_true g1
        go_wp2
        go_meet
        exact ⟨.inl rfl, rfl⟩
      have q1 : decide (100 < depth) = false := decide_eq_false g1
      by_cases g2 : most < (X.size : Int)
      · have q : decide (most < (X.size : Int)) = true := decide_eq_true g2
        go_wp2
        go_meet
        exact ⟨.inl rfl, rfl⟩
      have q2 : decide (most < (X.size : Int)) = false := decide_eq_false g2
      by_cases g3 : most < (ks.length : Int)
      · have q : decide (most < (ks.length : Int)) = true := decide_eq_true g3
        go_wp2
        go_meet
        exact ⟨.inl rfl, rfl⟩
      have q3 : decide (most < (ks.length : Int)) = false := decide_eq_false g3
      go_wp2
      go_meet
      exact ⟨.inr ⟨rfl, by omega, by omega⟩, rfl⟩
    case rest =>
    obtain ⟨hbb, hw⟩ := hcut
    subst hw
    have hmw : IntKind.i64.wrap (most + 1) = most + 1 := by rw [IntKind.wrap_i64]; omega
    rcases hbb with rfl | ⟨rfl, hx1, hx2⟩
    · go_wp2
      go_ret
      exact ⟨⟨_, rfl, by omega, by omega, fun h => by omega⟩, HB1.out⟩
    go_upto_region 3 with fail
    go_cut [7] (fun v wx => v = .int .i64 (1 + (X.size : Int) + ks.length) ∧ wx = wc)
    case first =>
      have a1 : IntKind.i64.wrap (1 + (X.size : Int)) = 1 + (X.size : Int) := by rw [IntKind.wrap_i64]; omega
      have a2 : IntKind.i64.wrap (1 + (X.size : Int) + ks.length) = 1 + (X.size : Int) + ks.length := by rw [IntKind.wrap_i64]; omega
      go_wp2
      go_meet
      exact ⟨rfl, rfl⟩
    case rest =>
    obtain ⟨rfl, hw⟩ := hcut
    subst hw
    by_cases hcm : most < 1 + (X.size : Int) + ks.length
    · have q : decide (most < 1 + (X.size : Int) + ks.length) = true := decide_eq_true hcm
      go_wp2
      go_ret
      exact ⟨⟨_, rfl, by omega, by omega, fun h => by omega⟩, HB1.out⟩
    have q : decide (most < 1 + (X.size : Int) + ks.length) = false := decide_eq_false hcm
    go_wp2
    clear q
    go_loopw [7, 46] (fun c i wr => ∃ k : Nat, k ≤ ks.length ∧ i = .int .i64 k ∧ (∃ z : Int, c = .int .i64 z ∧ Hid (z + k = 1 + (X.size : Int) + ks.length + kySum (ks.take k)) ∧ z ≤ most ∧ 0 ≤ z) ∧ wc = wr) (fun _ i _ => ks.length - (intOf i).toNat)
    case atStart => exact ⟨0, Nat.zero_le _, rfl, ⟨_, rfl, by show _ = _; simp [kySum], by omega, by omega⟩, rfl⟩
    case round =>
      obtain ⟨k, hkl, rfl, ⟨z, rfl, HZ, hz1, hz0⟩, hw⟩ := hrel
      subst hw
      by_cases hlt : k < ks.length
      · obtain ⟨b, f, rfl, d1⟩ : ∃ b off, S1 = some ⟨b, off, none⟩ ∧ wc.cell? ⟨b, off + k, none⟩ = some (.string ⟨(ks.getD k []).toArray⟩) := by
          rcases HS.out with e | ⟨b, off, e, _, hbl, h2⟩
          · rw [e] at hlt; simp at hlt
          · exact ⟨b, off, e, (HB1.out.cell (p := ⟨b, off + k, none⟩) hbl).trans (h2 k hlt)⟩
        rw [List.getD_eq_getElem?_getD, List.getElem?_eq_getElem hlt, Option.getD_some] at d1
        have hsn := kySum_snoc hlt
        obtain ⟨Y, hY⟩ : ∃ Y, (⟨(ks[k]).toArray⟩ : ByteArray) = Y := ⟨_, rfl⟩
        have hYs : Y.size = ks[k].length := by rw [← hY]; show ks[k].toArray.size = _; simp
        rw [hY] at d1
        rw [← hYs] at hsn
        have HSN := Lib.hid hsn
        clear hY hYs hsn
        by_cases hq1 : most < (Y.size : Int)
        · have q : decide (most < (Y.size : Int)) = true := decide_eq_true hq1
          go_wp2
          go_ret
          exact ⟨⟨_, rfl, by omega, by omega, fun h => by omega⟩, HB1.out⟩
        · have q : decide (most < (Y.size : Int)) = false := decide_eq_false hq1
          have hw2 : IntKind.i64.wrap (z + (Y.size : Int)) = z + (Y.size : Int) := by rw [IntKind.wrap_i64]; omega
          by_cases hq2 : most < z + (Y.size : Int)
          · have q2 : decide (most < z + (Y.size : Int)) = true := decide_eq_true hq2
            go_wp2
            go_ret
            exact ⟨⟨_, rfl, by omega, by omega, fun h => by omega⟩, HB1.out⟩
          · have q2 : decide (most < z + (Y.size : Int)) = false := decide_eq_false hq2
            have HZ2 : Hid (z + (Y.size : Int) + ((k + 1 : Nat) : Int) = 1 + (X.size : Int) + ks.length + kySum (ks.take (k + 1))) := by show _ = _; have := HZ.out; rw [HSN.out]; omega
            go_wp2
            go_roundw
            case rel => exact ⟨k + 1, by omega, by go_num, ⟨_, rfl, HZ2, by omega, by omega⟩, trivial⟩
            case measure => simp [intOf]; omega
      · obtain rfl : k = ks.length := by omega
        have hzz : z = 1 + (X.size : Int) + kySum ks := by have := HZ.out; rw [List.take_length] at this; omega
        have HZZ := Lib.hid hzz
        clear hzz HZ
        go_wp2
        go_loopw [7, 68] (fun c i wr => ∃ k : Nat, k ≤ kids.length ∧ i = .int .i64 k ∧ (∃ z : Int, c = .int .i64 z ∧ Hid (1 + (X.size : Int) + kySum ks + szL (kids.take k) ≤ z) ∧ z ≤ most ∧ 0 ≤ z) ∧ Hid (Below wc.heap.size wc wr)) (fun _ i _ => kids.length - (intOf i).toNat)
        case atStart => exact ⟨0, Nat.zero_le _, rfl, ⟨_, rfl, by show _ ≤ _; rw [HZZ.out]; simp [szL], hz1, hz0⟩, Below.refl _ _⟩
        case round =>
          obtain ⟨k, hkl, rfl, ⟨z, rfl, HZ, hz1, hz0⟩, HR⟩ := hrel
          have HBR : Hid (Below w.heap.size w wr) := HB1.out.trans (HR.out.mono HB1.out.size)
          by_cases hlt : k < kids.length
          · obtain ⟨b1, e1, rfl, hb1, kk, n3, t, S3, l3, m3, S4, l4, m4, a0, a1, a2, a3, a4, hN1⟩ := kid_at HK.out HBR.out hlt
            have hal : ∀ o : Obj, Below wr.heap.size wr (wr.alloc o) := fun o => (Below.refl _ _).alloc (Nat.le_refl _) o
            have hmz : IntKind.i64.wrap (most - z) = most - z := by rw [IntKind.wrap_i64]; omega
            have hT := fun o b => IH.out ok _ _ (wr.alloc o) (most - z) b (hN1.below (hal o)) (HO.out _ (List.getElem_mem hlt)) (by omega) (by omega)
            have HA := Lib.hid hal
            have HSN := Lib.hid (szL_snoc hlt)
            clear hN1 hal
            go_wp2_with fail
            refine (hT _ _).mono ?_
            rintro e w3 ⟨⟨z2, rfl, g0, g1, g2⟩, hb3⟩
            have HR2 : Hid (Below wc.heap.size wc w3) := HR.out.trans (((HA.out _).trans (hb3.mono (HA.out _).size)).mono HR.out.size)
            have HG2 := Lib.hid g2
            clear hT hb3 g2
            have hw2 : IntKind.i64.wrap (z + z2) = z + z2 := by rw [IntKind.wrap_i64]; omega
            by_cases hq2 : most < z + z2
            · have q2 : decide (most < z + z2) = true := decide_eq_true hq2
              go_wp2
              go_ret
              exact ⟨⟨_, rfl, by omega, by omega, fun h => by omega⟩, HB1.out.trans (HR2.out.mono HB1.out.size)⟩
            · have q2 : decide (most < z + z2) = false := decide_eq_false hq2
              have HZ2 : Hid (1 + (X.size : Int) + kySum ks + szL (kids.take (k + 1)) ≤ z + z2) := by show _ ≤ _; have h1 := HZ.out; have h2 := HG2.out (by omega); rw [HSN.out]; omega
              go_wp2
              go_roundw
              case rel => exact ⟨k + 1, by omega, by go_num, ⟨_, rfl, HZ2, by omega, by omega⟩, HR2⟩
              case measure => simp [intOf]; omega
          · obtain rfl : k = kids.length := by omega
            have hf : 1 + (X.size : Int) + kySum ks + szL kids ≤ z := by have := HZ.out; rwa [List.take_length] at this
            have HF := Lib.hid hf
            clear hf
            go_wp2
            go_ret
            exact ⟨⟨_, rfl, by omega, by omega, fun _ => by have := HF.out; omega⟩, HBR.out⟩

end Go.Proofs.YtlaagdpanbineaaDoor

