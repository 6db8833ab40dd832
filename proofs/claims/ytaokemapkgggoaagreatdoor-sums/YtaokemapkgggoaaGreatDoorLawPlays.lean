import Derived.Test.YtaokemapkgggoaaGreatDoorLawStep
namespace Go.Proofs.YtaokemapkgggoaaGreatDoor
open Go.RowKit

/-- a script in memory: where its steps lie -/
def ScriptAt (w : World) (ao : Option Addr) (len : Nat) : Prop := ∀ i, i < len → ∃ b off kd wn n s t rest, ao = some ⟨b, off, none⟩ ∧ b < w.heap.size ∧ w.rangeAt b (off + i * 20) (opCells kd wn n s t rest) ∧ n ≤ 9223372036854775807 ∧ rest.length = 15

set_option maxRecDepth 100000 in
set_option maxHeartbeats 4000000 in
theorem law_plays (hsum : SumSaid sumSpecRef) (ao : Option Addr) (len cap : Nat) (w : World) (hG : Glob w) (hv : ScriptAt w ao len) (hlen : len < 9223372036854775808) :
    Calls Tryz.prog 6 #[.slice ao len cap, .int .i64 1, .int .i64 3] w fun r w' => r = .returned (.bool true) ∧ Below w.heap.size w w' := by
  go_enter Tryz.func6, Tryz.ntmps6
  go_wp2_with (first | (go_at_call 7; refine (ref_newSummer _).mono ?_; rintro _ w1 ⟨gs, rfl, hS1, hgs, hb1⟩) | (go_at_call 8; have P1 : PlayAt w w1.heap.size gs (w1.alloc (.cells [.pointer (some ⟨gs, 0, none⟩), .slice none 0 0].toArray 30)) := ⟨(Row.made w1 _ _).cell.trans rfl, (Row.made w1 _ _).cell.trans rfl, hS1.below ((Below.refl _ _).alloc (Nat.le_refl _) _) (Nat.le_refl _), (hG.below hb1 (Nat.le_refl _)).alloc _, hb1.alloc hb1.size _⟩; refine (law_sums1 hsum 0 0 _ _ _ _ gs _ P1.c0 P1.summ P1.glob).mono ?_; rintro _ w2 ⟨rfl, hb2⟩; have P2 := P1.next hb2; clear hb2 P1))
  generalize w1.heap.size = g at *
  go_loopw [10] (fun c wr => ∃ i : Nat, i ≤ len ∧ c = .int .i64 i ∧ PlayAt w g gs wr) (fun c _ => len - (intOf c).toNat)
  case atStart => exact ⟨0, by omega, rfl, P2⟩
  case round =>
    clear P2 hS1
    obtain ⟨i, hi, rfl, P⟩ := hrel
    have k0 := P.c0
    have k1 := P.c1
    by_cases hlt : i < len
    · have hlt' : (i : Int) < len := by omega
      obtain ⟨b, off, kd, wn, n, s, t, rest, rfl, hb, hR0, hn, hrl⟩ := hv i hlt
      have hR : wr.rangeAt b (off + i * 20) (opCells kd wn n s t rest) := range_below hR0 P.below hb
      have kc : wr.cell? ⟨b, off + i * 20, none⟩ = some (.int .i64 kd) := hR 0 _ rfl
      obtain ⟨fs, hu⟩ := underOp
      have hcl : (opCells kd wn n s t rest).length = 20 := by simp [opCells, hrl]
      obtain ⟨cs, HC⟩ : ∃ cs, Hid (cs = opCells kd wn n s t rest) := ⟨_, rfl⟩
      rw [← HC.out] at hR hcl
      by_cases h1 : 1 ≤ kd
      · by_cases h3 : kd ≤ 3
        · go_wp2_with (first | (refine wpList_load_mid rfl 36 _ rfl b (off + i * 20) rfl cs _ hR hu rfl (by rw [sizeOp, hcl]) ?_; go_simp) | (go_at_call 10; rw [HC.out]; refine (law_step hsum kd wn n s t rest g gs _ P.c0 P.summ P.glob (by omega) hn hrl).mono ?_; rintro _ w3 ⟨rfl, hb3⟩; rw [← HC.out]; have P3 := P.next hb3))
          exact ⟨⟨i + 1, by omega, by go_num, P3⟩, by simp [intOf]; omega⟩
        · go_wp2
          exact ⟨⟨i + 1, by omega, by go_num, P⟩, by simp [intOf]; omega⟩
      · go_wp2
        exact ⟨⟨i + 1, by omega, by go_num, P⟩, by simp [intOf]; omega⟩
    · have hlt' : ¬ (i : Int) < len := by omega
      go_wp2
      go_loopw [13] (fun c ws => c = .int .i64 0 ∧ PlayAt w g gs ws) (fun _ _ => 0)
      case atStart => exact ⟨rfl, P⟩
      case round =>
        obtain ⟨rfl, P5⟩ := hrel
        have j0 := P5.c0
        have j1 := P5.c1
        go_wp2
        go_ret
        exact ⟨rfl, P5.below⟩

theorem law_Sums (hsum : SumSaid sumSpecRef) (ao : Option Addr) (len cap : Nat) (w : World) (hG : Glob w) (hv : ScriptAt w ao len) (hlen : len < 9223372036854775808) :
    Calls Tryz.prog 3 #[.slice ao len cap] w fun r w' => r = .returned (.bool true) ∧ Below w.heap.size w w' := by
  go_enter Tryz.func3, Tryz.ntmps3
  go_wp2_with (first | (go_at_call 6; refine (law_plays hsum ao len cap _ hG hv hlen).mono ?_; rintro _ w2 ⟨rfl, hb2⟩))
  go_ret
  exact ⟨rfl, hb2⟩
end Go.Proofs.YtaokemapkgggoaaGreatDoor
