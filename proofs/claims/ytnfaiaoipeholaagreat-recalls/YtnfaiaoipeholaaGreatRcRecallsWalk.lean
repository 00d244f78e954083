/- The law Recalls, walked. -/
import Derived.Test.YtnfaiaoipeholaaGreatOps
import Derived.Test.YtnfaiaoipeholaaGreatRcRec
import Derived.Test.YtnfaiaoipeholaaGreatRcRrt
namespace Go.Proofs.YtnfaiaoipeholaaGreat
open Go.RowKit

set_option maxHeartbeats 400000 in
theorem numR_any (x : Int) (w : World) : Calls Tryz.prog 32 #[.int .i64 x] w fun e w' => e = .returned (.int .i64 x) ∧ w' = w := by
  go_enter Tryz.func32, Tryz.ntmps32
  go_wp2
  go_ret; exact ⟨rfl, rfl⟩

set_option maxHeartbeats 400000 in
set_option maxRecDepth 1000000 in
theorem plays_recall (n m : Int) (s t u : ByteArray) (w : World) (hs : s.size ≤ maxLen) (ht : t.size ≤ maxLen) :
    Calls Tryz.prog 24 #[.agg #[.int .i64 4, .int .i64 n, .int .i64 m, .string s, .string t, .string u]] w fun e w' => e = .returned (.bool true) ∧ Below w.heap.size w w' := by
  generalize hR : rcl s t n m = R
  have HR := hide hR; clear hR
  go_enter Tryz.func24, Tryz.ntmps24
  go_wp2_with fail
  refine (recall_any _ _ _ hs ht).mono ?_
  rw [unhide HR]
  rintro e w1 ⟨rfl, hb1⟩
  obtain ⟨hc1, _⟩ := bcell' hb1
  have hz := hb1.size
  simp at hz
  go_wp2_with fail
  refine (refRecall_any _ _ _ hs ht).mono ?_
  rw [unhide HR]
  rintro e w2 ⟨rfl, hb2⟩
  go_wp2_with (go_at_call 32; refine (numR_any _ _).mono ?_; rintro e w' ⟨rfl, hw⟩; subst hw)
  go_ret
  refine ⟨rfl, ?_⟩
  exact (((Below.refl _ _).alloc (Nat.le_refl _) _).trans (hb1.mono (by simp))).trans (hb2.mono (by omega))

theorem head_recall : rcl ⟨#[83, 61, 123, 97, 124, 66, 125, 91, 99, 93, 59, 66, 61, 60, 98, 62, 59]⟩ ⟨#[83, 40, 48, 123, 48, 97, 44, 49, 66, 40, 48, 60, 48, 98, 44, 48, 98, 62, 41, 125, 91, 48, 99, 93, 41]⟩ 2 2 = (⟨#[50, 48, 49, 49, 49]⟩, 0) := by decide +kernel

set_option maxHeartbeats 400000 in
set_option maxRecDepth 1000000 in
theorem heads_recall (w : World) : Calls Tryz.prog 23 #[.int .i64 4] w fun e w' => e = .returned (.bool true) ∧ Below w.heap.size w w' := by
  have hsz : (⟨#[83, 61, 123, 97, 124, 66, 125, 91, 99, 93, 59, 66, 61, 60, 98, 62, 59]⟩ : ByteArray).size ≤ maxLen := by decide +kernel
  have htz : (⟨#[83, 40, 48, 123, 48, 97, 44, 49, 66, 40, 48, 60, 48, 98, 44, 48, 98, 62, 41, 125, 91, 48, 99, 93, 41]⟩ : ByteArray).size ≤ maxLen := by decide +kernel
  have hh := hide head_recall
  go_enter Tryz.func23, Tryz.ntmps23
  go_wp2_with fail
  refine (recall_any _ _ _ hsz htz).mono ?_
  rw [unhide hh]
  rintro e w1 ⟨rfl, hb1⟩
  go_wp2
  go_ret
  exact ⟨rfl, hb1⟩
set_option maxHeartbeats 400000 in
set_option maxRecDepth 1000000 in
theorem upTo_recall (b off len cap : Nat) (w : World) (hl : len ≤ maxLen) (hb : b < w.heap.size) (hops : ∀ i, i < len → ∃ kd n m s t u, OpAt w b (off + i * 6) kd n m s t u) :
    Calls Tryz.prog 11 #[.slice (some ⟨b, off, none⟩) len cap, .int .i64 4] w fun e w' => e = .returned (.int .i64 (-1)) ∧ Below w.heap.size w w' := by
  unfold maxLen at hl
  have HO := hide hops; clear hops
  go_enter Tryz.func11, Tryz.ntmps11
  go_wp2_with (go_at_call 23; refine (heads_recall _).mono ?_; rintro e w1 ⟨rfl, hb1⟩)
  go_loopw [6] (fun i wr => ∃ k : Nat, k ≤ len ∧ i = .int .i64 k ∧ Below w.heap.size w wr) (fun i _ => len - (intOf i).toNat)
  case atStart => exact ⟨0, Nat.zero_le _, rfl, hb1⟩
  case round =>
    obtain ⟨k, hk, rfl, hB⟩ := hrel
    by_cases hlt : k < len
    · obtain ⟨kd, n, m, s, t, u, hop⟩ := unhide HO k hlt
      obtain ⟨c0, c1, c2, c3, c4, c5, hs, ht, _⟩ := hop.below hB hb
      by_cases hkd : kd = 4
      · subst hkd
        go_wp2_with fail
        refine (plays_recall _ _ _ _ _ _ hs ht).mono ?_
        rintro e w2 ⟨rfl, hb2⟩
        go_wp2
        go_roundw
        case rel => exact ⟨k + 1, by omega, by go_num, hB.trans (hb2.mono hB.size)⟩
        case measure => simp [intOf]; omega
      · have hkd' : (kd == 4) = false := by simp [hkd]
        go_wp2
        go_roundw
        case rel => exact ⟨k + 1, by omega, by go_num, hB⟩
        case measure => simp [intOf]; omega
    · go_wp2
      go_ret
      exact ⟨rfl, hB⟩

set_option maxHeartbeats 400000 in
set_option maxRecDepth 1000000 in
theorem upTo_recall0 (ao : Option Addr) (cap : Nat) (w : World) :
    Calls Tryz.prog 11 #[.slice ao 0 cap, .int .i64 4] w fun e w' => e = .returned (.int .i64 (-1)) ∧ Below w.heap.size w w' := by
  go_enter Tryz.func11, Tryz.ntmps11
  go_wp2_with (go_at_call 23; refine (heads_recall _).mono ?_; rintro e w1 ⟨rfl, hb1⟩)
  refine wp_loop_rounds 1 ?_
  rw [rounds_succ]
  go_wp2
  go_ret
  exact ⟨rfl, hb1⟩

set_option maxHeartbeats 400000 in
theorem recalls_any (b off len cap : Nat) (w : World) (hl : len ≤ maxLen) (hb : b < w.heap.size) (hops : ∀ i, i < len → ∃ kd n m s t u, OpAt w b (off + i * 6) kd n m s t u) :
    Calls Tryz.prog 6 #[.slice (some ⟨b, off, none⟩) len cap] w fun e w' => e = .returned (.bool true) ∧ Below w.heap.size w w' := by
  have HO := hide hops; clear hops
  go_enter Tryz.func6, Tryz.ntmps6
  go_wp2_with (go_at_call 11; refine (upTo_recall _ _ _ _ _ hl hb (unhide HO)).mono ?_; rintro e w1 ⟨rfl, hb1⟩)
  go_ret
  exact ⟨rfl, hb1⟩
set_option maxHeartbeats 400000 in
theorem recalls_any0 (ao : Option Addr) (cap : Nat) (w : World) :
    Calls Tryz.prog 6 #[.slice ao 0 cap] w fun e w' => e = .returned (.bool true) ∧ Below w.heap.size w w' := by
  go_enter Tryz.func6, Tryz.ntmps6
  go_wp2_with (go_at_call 11; refine (upTo_recall0 _ _ _).mono ?_; rintro e w1 ⟨rfl, hb1⟩)
  go_ret
  exact ⟨rfl, hb1⟩
end Go.Proofs.YtnfaiaoipeholaaGreat
