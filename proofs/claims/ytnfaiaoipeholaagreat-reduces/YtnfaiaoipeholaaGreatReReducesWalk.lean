/- The law Reduces, walked. -/
import Derived.Test.YtnfaiaoipeholaaGreatReReducesPlays
namespace Go.Proofs.YtnfaiaoipeholaaGreat
open Go.RowKit
set_option maxHeartbeats 400000 in
set_option maxRecDepth 1000000 in
theorem upTo_reduce (b off len cap : Nat) (w : World) (hl : len ≤ maxLen) (hb : b < w.heap.size) (hops : ∀ i, i < len → ∃ kd n m s t u, OpAt w b (off + i * 6) kd n m s t u) :
    Calls Tryz.prog 11 #[.slice (some ⟨b, off, none⟩) len cap, .int .i64 6] w fun e w' => e = .returned (.int .i64 (-1)) ∧ Below w.heap.size w w' := by
  unfold maxLen at hl
  have HO := hide hops; clear hops
  go_enter Tryz.func11, Tryz.ntmps11
  go_wp2_with (go_at_call 23; refine (heads_reduce _).mono ?_; rintro e w1 ⟨rfl, hb1⟩)
  go_loopw [6] (fun i wr => ∃ k : Nat, k ≤ len ∧ i = .int .i64 k ∧ Below w.heap.size w wr) (fun i _ => len - (intOf i).toNat)
  case atStart => exact ⟨0, Nat.zero_le _, rfl, hb1⟩
  case round =>
    obtain ⟨k, hk, rfl, hB⟩ := hrel
    by_cases hlt : k < len
    · obtain ⟨kd, n, m, s, t, u, hop⟩ := unhide HO k hlt
      obtain ⟨c0, c1, c2, c3, c4, c5, hs, ht, hu⟩ := hop.below hB hb
      by_cases hkd : kd = 6
      · subst hkd
        go_wp2_with fail
        refine (plays_reduce _ _ _ _ _ _ hs ht hu).mono ?_
        rintro e w2 ⟨rfl, hb2⟩
        go_wp2
        go_roundw
        case rel => exact ⟨k + 1, by omega, by go_num, hB.trans (hb2.mono hB.size)⟩
        case measure => simp [intOf]; omega
      · have hkd' : (kd == 6) = false := by simp [hkd]
        go_wp2
        go_roundw
        case rel => exact ⟨k + 1, by omega, by go_num, hB⟩
        case measure => simp [intOf]; omega
    · go_wp2
      go_ret
      exact ⟨rfl, hB⟩

set_option maxHeartbeats 400000 in
set_option maxRecDepth 1000000 in
theorem upTo_reduce0 (ao : Option Addr) (cap : Nat) (w : World) :
    Calls Tryz.prog 11 #[.slice ao 0 cap, .int .i64 6] w fun e w' => e = .returned (.int .i64 (-1)) ∧ Below w.heap.size w w' := by
  go_enter Tryz.func11, Tryz.ntmps11
  go_wp2_with (go_at_call 23; refine (heads_reduce _).mono ?_; rintro e w1 ⟨rfl, hb1⟩)
  refine wp_loop_rounds 1 ?_
  rw [rounds_succ]
  go_wp2
  go_ret
  exact ⟨rfl, hb1⟩

set_option maxHeartbeats 400000 in
theorem reduces_any (b off len cap : Nat) (w : World) (hl : len ≤ maxLen) (hb : b < w.heap.size) (hops : ∀ i, i < len → ∃ kd n m s t u, OpAt w b (off + i * 6) kd n m s t u) :
    Calls Tryz.prog 10 #[.slice (some ⟨b, off, none⟩) len cap] w fun e w' => e = .returned (.bool true) ∧ Below w.heap.size w w' := by
  have HO := hide hops; clear hops
  go_enter Tryz.func10, Tryz.ntmps10
  go_wp2_with (go_at_call 11; refine (upTo_reduce _ _ _ _ _ hl hb (unhide HO)).mono ?_; rintro e w1 ⟨rfl, hb1⟩)
  go_ret
  exact ⟨rfl, hb1⟩
set_option maxHeartbeats 400000 in
theorem reduces_any0 (ao : Option Addr) (cap : Nat) (w : World) :
    Calls Tryz.prog 10 #[.slice ao 0 cap] w fun e w' => e = .returned (.bool true) ∧ Below w.heap.size w w' := by
  go_enter Tryz.func10, Tryz.ntmps10
  go_wp2_with (go_at_call 11; refine (upTo_reduce0 _ _ _).mono ?_; rintro e w1 ⟨rfl, hb1⟩)
  go_ret
  exact ⟨rfl, hb1⟩
end Go.Proofs.YtnfaiaoipeholaaGreat
