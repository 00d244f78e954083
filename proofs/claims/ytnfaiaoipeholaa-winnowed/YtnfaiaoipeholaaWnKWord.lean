/- winnowkeep's word. -/
import Derived.Test.YtnfaiaoipeholaaWnKWorks
import Derived.Test.YtnfaiaoipeholaaWnPar
namespace Go.Proofs.Ytnfaiaoipeholaa
open Go.RowKit
theorem Nums.under {w w' : World} {ao : Option Addr} {len : Nat} (h : Nums w ao len) (g : Below w.heap.size w w') : Nums w' ao len :=
  ⟨h.hl, fun i hi => by
    obtain ⟨b, o, v, e, hb, hc, hv⟩ := h.at_ i hi
    exact ⟨b, o, v, e, Nat.lt_of_lt_of_le hb g.size, (g.cell (p := ⟨b, o + i, none⟩) hb).trans hc, hv⟩⟩
theorem piece_one (t : ByteArray) {k : Nat} (h : k < t.size) : t.extract k (k + 1) = strOfNums [((t[k].toNat : Nat) : Int)] := by
  refine ByteArray.ext_getElem (by rw [ByteArray.size_extract, strOfNums_size]; simp; omega) fun i hi hi' => ?_
  have h0 : i = 0 := by rw [strOfNums_size] at hi'; simp at hi'; omega
  subst h0
  rw [ByteArray.getElem_extract]
  show t[k] = UInt8.ofNat ((t[k].toNat : Int).toNat)
  simp
set_option maxHeartbeats 400000 in
set_option maxRecDepth 1000000 in
theorem word_any (t : ByteArray) (w : World) (ht : t.size ≤ maxLen) : Calls Try.prog 12 #[.string t] w fun e w' => e = .returned (.string (wd t)) ∧ w' = w := by
  have ht' := ht
  unfold maxLen at ht'
  generalize hR : wd t = R
  unfold wd seg at hR
  have HR := hide hR
  clear hR
  go_enter Try.func12, Try.ntmps12
  go_wp2
  go_loop [3, 4] (fun ov iv => ∃ (k : Nat) (L : List Int), iv = .int .i64 k ∧ ov = .string (strOfNums L) ∧ k ≤ t.size ∧ L.length ≤ k ∧ Hid (L = (segF t k 0).filter cL)) (fun _ jv => t.size - (intOf jv).toNat)
  case atStart => exact ⟨0, [], rfl, rfl, Nat.zero_le _, Nat.le_refl _, hide rfl⟩
  case round =>
    obtain ⟨k, L, rfl, rfl, hk, hL, hD⟩ := hrel
    by_cases hlt : k < t.size
    · have hbt := bt_at t k hlt
      have hz1 : (strOfNums L).size = L.length := strOfNums_size L
      have hp := piece_one t hlt
      have hstep : (segF t (k + 1) 0).filter cL = (segF t k 0).filter cL ++ [bt t k].filter cL := by
        rw [segF_add, List.filter_append, Nat.zero_add]; rfl
      rw [hbt] at hstep
      have hbd := (t[k]).toNat_lt
      generalize hx : ((t[k].toNat : Nat) : Int) = x at *
      have HP := hide hp
      clear hp
      by_cases h1 : 97 ≤ x
      · by_cases h2 : x ≤ 122
        · have HF : Hid (L ++ [x] = (segF t (k + 1) 0).filter cL) := hide (by rw [hstep, unhide hD]; simp [cL, h1, h2])
          have HA := hide (kstrs_append L [x])
          clear hstep
          go_wp2
          exact ⟨⟨k + 1, L ++ [x], by go_num, by rw [unhide HP, unhide HA], by omega, by simp; omega, HF⟩, by simp [intOf]; omega⟩
        · have HF : Hid (L = (segF t (k + 1) 0).filter cL) := hide (by rw [hstep, unhide hD]; simp [cL, h2])
          clear hstep
          go_wp2
          exact ⟨⟨k + 1, L, by go_num, rfl, by omega, by omega, HF⟩, by simp [intOf]; omega⟩
      · have HF : Hid (L = (segF t (k + 1) 0).filter cL) := hide (by rw [hstep, unhide hD]; simp [cL, h1])
        clear hstep
        go_wp2
        exact ⟨⟨k + 1, L, by go_num, rfl, by omega, by omega, HF⟩, by simp [intOf]; omega⟩
    · have HF : Hid (R = strOfNums L) := hide (by rw [← unhide HR, unhide hD, show t.size - 0 = k by omega])
      clear HR
      go_wp2
      go_ret
      exact ⟨by rw [unhide HF]; rfl, rfl⟩
end Go.Proofs.Ytnfaiaoipeholaa
