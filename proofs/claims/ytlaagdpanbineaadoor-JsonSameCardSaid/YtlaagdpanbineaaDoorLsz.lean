/- the document's Size of a value in memory: it answers some number. -/
import Derived.Test.YtlaagdpanbineaaDoorLsr
import Derived.Deep.DeepCutAuto
namespace Go.Proofs.YtlaagdpanbineaaDoor
open Go.RowKit

def SizeC (h : Nat) : Prop := ∀ (ok : Nat → Prop) (t : NT) (v : Value) (w : World) (most depth : Int), NIs ok h w t v → okLen t →
  Calls Tryd.prog 9 #[v, .int .i64 most, .int .i64 depth] w fun e w' => (∃ z : Int, e = .returned (.int .i64 z)) ∧ Below w.heap.size w w'

set_option maxRecDepth 100000 in
set_option maxHeartbeats 2000000 in
theorem size_any : ∀ h : Nat, SizeC h
  | 0 => fun _ _ _ _ _ _ h1 _ => h1.elim
  | h + 1 => by
    intro ok t v w most depth hN ho
    have IH := Lib.hid (size_any h)
    obtain ⟨kd, nn, tx, ks, kids⟩ := t
    obtain ⟨kv, S, c1, rfl, ⟨S1, c0, rfl, hs⟩, hk⟩ := hN
    obtain ⟨p1, p2, p3⟩ := okLen_kids ho
    have HS := Lib.hid hs
    have HK : Hid (KidsAt ok h w S kids) := hk
    have HO := Lib.hid p3
    clear hs hk p3 ho
    show Calls Tryd.prog _ #[aggV kd nn ⟨tx.toArray⟩ S1 ks.length c0 S kids.length c1, _, _] w _
    obtain ⟨X, hX⟩ : ∃ X, (⟨tx.toArray⟩ : ByteArray) = X := ⟨_, rfl⟩
    rw [hX]
    clear hX
    unfold aggV
    go_enter Tryd.func9, Tryd.ntmps9
    go_upto_region 1 with fail
    refine wp_gen (fun w1 => Hid (Below w.heap.size w w1) ∧ w.heap.size < w1.heap.size ∧ w1.cell? ⟨w.heap.size, 2, none⟩ = some (.string X) ∧ w1.cell? ⟨w.heap.size, 3, none⟩ = some (.slice S1 ks.length c0) ∧ w1.cell? ⟨w.heap.size, 4, none⟩ = some (.slice S kids.length c1)) ⟨(Below.refl _ _).alloc (Nat.le_refl _) _, by simp, ?_, ?_, ?_⟩ ?_
    · simp only [World.cell?]; rw [heap_alloc_new w _]; rfl
    · simp only [World.cell?]; rw [heap_alloc_new w _]; rfl
    · simp only [World.cell?]; rw [heap_alloc_new w _]; rfl
    intro w1 ⟨HB1, hs1, f2, f3, f4⟩
    go_cut [27] (fun b wx => (∃ bb, b = .bool bb) ∧ wx = w1)
    case first =>
      go_wp2
      all_goals
        go_meet
        exact ⟨⟨_, rfl⟩, rfl⟩
    case rest =>
    obtain ⟨⟨bb, rfl⟩, rfl⟩ := hcut
    cases bb
    rotate_left
    · go_wp2
      go_ret
      exact ⟨⟨_, rfl⟩, HB1.out⟩
    go_upto_region 3 with fail
    go_cut [7] (fun v wx => (∃ c, v = .int .i64 c) ∧ wx = wc)
    case first =>
      go_wp2
      go_meet
      exact ⟨⟨_, rfl⟩, rfl⟩
    case rest =>
    obtain ⟨⟨c, rfl⟩, hw⟩ := hcut
    subst hw
    by_cases hcm : most < c
    · have q : decide (most < c) = true := decide_eq_true hcm
      go_wp2
      go_ret
      exact ⟨⟨_, rfl⟩, HB1.out⟩
    have q : decide (most < c) = false := decide_eq_false hcm
    go_wp2
    clear q hcm
    go_loopw [7, 46] (fun c i wr => ∃ k : Nat, k ≤ ks.length ∧ i = .int .i64 k ∧ (∃ z : Int, c = .int .i64 z) ∧ wc = wr) (fun _ i _ => ks.length - (intOf i).toNat)
    case atStart => exact ⟨0, Nat.zero_le _, rfl, ⟨_, rfl⟩, rfl⟩
    case round =>
      obtain ⟨k, hkl, rfl, ⟨z, rfl⟩, hw⟩ := hrel
      subst hw
      by_cases hlt : k < ks.length
      · obtain ⟨b, f, rfl, d1⟩ : ∃ b off, S1 = some ⟨b, off, none⟩ ∧ wc.cell? ⟨b, off + k, none⟩ = some (.string ⟨(ks.getD k []).toArray⟩) := by
          rcases HS.out with e | ⟨b, off, e, _, hbl, h2⟩
          · rw [e] at hlt; simp at hlt
          · exact ⟨b, off, e, (HB1.out.cell (p := ⟨b, off + k, none⟩) hbl).trans (h2 k hlt)⟩
        obtain ⟨Y, hY⟩ : ∃ Y, (⟨(ks.getD k []).toArray⟩ : ByteArray) = Y := ⟨_, rfl⟩
        rw [hY] at d1
        clear hY
        by_cases hq1 : most < (Y.size : Int)
        · have q : decide (most < (Y.size : Int)) = true := decide_eq_true hq1
          go_wp2
          go_ret
          exact ⟨⟨_, rfl⟩, HB1.out⟩
        · have q : decide (most < (Y.size : Int)) = false := decide_eq_false hq1
          by_cases hq2 : most < wrap64 (z + (Y.size : Int))
          · have q2 : decide (most < wrap64 (z + (Y.size : Int))) = true := decide_eq_true hq2
            go_wp2
            go_ret
            exact ⟨⟨_, rfl⟩, HB1.out⟩
          · have q2 : decide (most < wrap64 (z + (Y.size : Int))) = false := decide_eq_false hq2
            go_wp2
            go_roundw
            case rel => exact ⟨k + 1, by omega, by go_num, ⟨_, rfl⟩, trivial⟩
            case measure => simp [intOf]; omega
      · obtain rfl : k = ks.length := by omega
        go_wp2
        go_loopw [7, 68] (fun c i wr => ∃ k : Nat, k ≤ kids.length ∧ i = .int .i64 k ∧ (∃ z : Int, c = .int .i64 z) ∧ Hid (Below wc.heap.size wc wr)) (fun _ i _ => kids.length - (intOf i).toNat)
        case atStart => exact ⟨0, Nat.zero_le _, rfl, ⟨_, rfl⟩, Below.refl _ _⟩
        case round =>
          obtain ⟨k, hkl, rfl, ⟨z, rfl⟩, HR⟩ := hrel
          have HBR : Hid (Below w.heap.size w wr) := HB1.out.trans (HR.out.mono HB1.out.size)
          by_cases hlt : k < kids.length
          · obtain ⟨b1, e1, rfl, hb1, kk, n3, t, S3, l3, m3, S4, l4, m4, a0, a1, a2, a3, a4, hN1⟩ := kid_at HK.out HBR.out hlt
            have hal : ∀ o : Obj, Below wr.heap.size wr (wr.alloc o) := fun o => (Below.refl _ _).alloc (Nat.le_refl _) o
            have hT := fun o a b => IH.out ok _ _ (wr.alloc o) a b (hN1.below (hal o)) (HO.out _ (List.getElem_mem hlt))
            have HA := Lib.hid hal
            clear hN1 hal
            go_wp2_with fail
            refine (hT _ _ _).mono ?_
            rintro e w3 ⟨⟨z2, rfl⟩, hb3⟩
            have HR2 : Hid (Below wc.heap.size wc w3) := HR.out.trans (((HA.out _).trans (hb3.mono (HA.out _).size)).mono HR.out.size)
            clear hT hb3
            by_cases hq2 : most < wrap64 (z + z2)
            · have q2 : decide (most < wrap64 (z + z2)) = true := decide_eq_true hq2
              go_wp2
              go_ret
              exact ⟨⟨_, rfl⟩, HB1.out.trans (HR2.out.mono HB1.out.size)⟩
            · have q2 : decide (most < wrap64 (z + z2)) = false := decide_eq_false hq2
              go_wp2
              go_roundw
              case rel => exact ⟨k + 1, by omega, by go_num, ⟨_, rfl⟩, HR2⟩
              case measure => simp [intOf]; omega
          · obtain rfl : k = kids.length := by omega
            go_wp2
            go_ret
            exact ⟨⟨_, rfl⟩, HBR.out⟩

end Go.Proofs.YtlaagdpanbineaaDoor

