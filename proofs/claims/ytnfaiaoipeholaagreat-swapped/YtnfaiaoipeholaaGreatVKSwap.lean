/- winnowkeep's swapped. -/
import Derived.Test.YtnfaiaoipeholaaGreatVKWord
import Derived.Test.YtnfaiaoipeholaaGreatVSws
namespace Go.Proofs.YtnfaiaoipeholaaGreat
open Go.RowKit
/-- the text with two names for one another -/
def swS (a b : Int) (s : ByteArray) : ByteArray := strOfNums ((seg s 0 s.size).map (sw a b))
theorem seg_byts (s : ByteArray) : ∀ n i, Byts (segF s n i)
  | 0, _ => Byts.nil
  | n + 1, i => Byts.cons (bt_byte s i) (seg_byts s n (i + 1))
theorem swS_sw {a b : Int} (n : NN a b) (s : ByteArray) : Sw a b s (swS a b s) := by
  have h := Sw.strs (L := seg s 0 s.size) n (seg_byts s _ _)
  rw [strs_seg] at h
  exact h
theorem swS_size (a b : Int) (s : ByteArray) : (swS a b s).size = s.size := by unfold swS seg; rw [strOfNums_size, List.length_map, segF_len]; omega
theorem sw_unique {a b : Int} {s s' s'' : ByteArray} (h : Sw a b s s') (g : Sw a b s s'') : s' = s'' := by
  have e : seg s' 0 s'.size = seg s'' 0 s''.size := by
    unfold seg
    rw [h.sz, g.sz]
    have : ∀ n i, segF s' n i = segF s'' n i := by
      intro n
      induction n with
      | zero => intro i; rfl
      | succ n ih => intro i; unfold segF; rw [h.at_, g.at_, ih]
    exact this _ _
  rw [← strs_seg s', ← strs_seg s'', e]

set_option maxHeartbeats 400000 in
set_option maxRecDepth 1000000 in
theorem swapped_any (s : ByteArray) (a b : Int) (w : World) (hs : s.size ≤ maxLen) (n : NN a b) : Calls Tryz.prog 21 #[.string s, .int .u8 a, .int .u8 b] w fun e w' => e = .returned (.string (swS a b s)) ∧ Below w.heap.size w w' := by
  have hs' := hs
  unfold maxLen at hs'
  obtain ⟨ha, hb⟩ := n
  generalize hR : swS a b s = R
  unfold swS seg at hR
  have HR := hide hR
  clear hR
  go_enter Tryz.func21, Tryz.ntmps21
  go_wp2
  go_loopw [7, 8] (fun ov iv wr => ∃ (k : Nat) (L : List Int), iv = .int .i64 k ∧ ov = .string (strOfNums L) ∧ k ≤ s.size ∧ L.length = k ∧ Hid (L = (segF s k 0).map (sw a b)) ∧ Hid (Below w.heap.size w wr)) (fun _ jv _ => s.size - (intOf jv).toNat)
  case atStart => exact ⟨0, [], rfl, rfl, Nat.zero_le _, rfl, hide rfl, hide (Below.refl _ _)⟩
  case round =>
    obtain ⟨k, L, rfl, rfl, hk, hL, hD, hB⟩ := hrel
    by_cases hlt : k < s.size
    · have hbt := bt_at s k hlt
      have hz1 : (strOfNums L).size = L.length := strOfNums_size L
      have hstep : (segF s (k + 1) 0).map (sw a b) = (segF s k 0).map (sw a b) ++ [sw a b (bt s k)] := by
        rw [segF_add, List.map_append, Nat.zero_add]; rfl
      rw [hbt] at hstep
      have hbd := (s[k]).toNat_lt
      generalize hx : ((s[k].toNat : Nat) : Int) = x at *
      have fin : ∀ y, sw a b x = y → Hid (L ++ [y] = (segF s (k + 1) 0).map (sw a b)) := fun y hy => hide (by rw [hstep, unhide hD, hy])
      have HFIN := hide fin
      clear hstep fin
      by_cases h1 : x = a
      · have HF := unhide HFIN b (by unfold sw; rw [if_pos h1])
        have hcv := kconv_one wr b
        have hcd := kconv_drew wr b
        have hz2 : (strOfNums [b]).size = 1 := by rw [strOfNums_size]; rfl
        have HA := hide (kstrs_append L [b])
        have HB2 : Hid (Below w.heap.size w (wr.alloc (.cells #[.int .u8 b] 5))) := hide ((unhide hB).alloc (unhide hB).size _)
        clear HFIN
        go_wp2
        exact ⟨⟨k + 1, L ++ [b], by go_num, by rw [unhide HA], by omega, by simp [hL], HF, HB2⟩, by simp [intOf]; omega⟩
      · by_cases h2 : x = b
        · have HF := unhide HFIN a (by unfold sw; rw [if_neg h1, if_pos h2])
          have hcv := kconv_one wr a
          have hcd := kconv_drew wr a
          have hz2 : (strOfNums [a]).size = 1 := by rw [strOfNums_size]; rfl
          have HA := hide (kstrs_append L [a])
          have HB2 : Hid (Below w.heap.size w (wr.alloc (.cells #[.int .u8 a] 5))) := hide ((unhide hB).alloc (unhide hB).size _)
          clear HFIN
          go_wp2
          exact ⟨⟨k + 1, L ++ [a], by go_num, by rw [unhide HA], by omega, by simp [hL], HF, HB2⟩, by simp [intOf]; omega⟩
        · have HF := unhide HFIN x (by unfold sw; rw [if_neg h1, if_neg h2])
          have hcv := kconv_one wr x
          have hcd := kconv_drew wr x
          have hz2 : (strOfNums [x]).size = 1 := by rw [strOfNums_size]; rfl
          have HA := hide (kstrs_append L [x])
          have HB2 : Hid (Below w.heap.size w (wr.alloc (.cells #[.int .u8 x] 5))) := hide ((unhide hB).alloc (unhide hB).size _)
          clear HFIN
          go_wp2
          exact ⟨⟨k + 1, L ++ [x], by go_num, by rw [unhide HA], by omega, by simp [hL], HF, HB2⟩, by simp [intOf]; omega⟩
    · have HF : Hid (R = strOfNums L) := hide (by rw [← unhide HR, unhide hD, show s.size - 0 = k by omega])
      clear HR
      go_wp2
      go_ret
      exact ⟨by rw [unhide HF]; rfl, unhide hB⟩
end Go.Proofs.YtnfaiaoipeholaaGreat
