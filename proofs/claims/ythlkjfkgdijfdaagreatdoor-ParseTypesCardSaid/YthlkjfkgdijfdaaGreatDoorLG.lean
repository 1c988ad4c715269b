/- Contracts: the document's Lex, whatever the text: as the program's. -/
import Derived.Test.YthlkjfkgdijfdaaGreatDoorLF
import Derived.Test.YthlkjfkgdijfdaaGreatDoorXC
namespace Go.Proofs.YthlkjfkgdijfdaaGreatDoor
open Go.RowKit
set_option maxHeartbeats 2000000 in
theorem rlext_any (s : ByteArray) (hs : (s.size : Int) ≤ 9223372036854775807) (w : World) : Calls Tryz.prog 19 #[.string s] w (Lext s w) := by
  by_cases hb : s.size > 16384
  · have hz : (s.size : Int) > 16384 := by omega
    have HR : Hid (lexR s = .bad 5 16384) := by show _ = _; unfold lexR; rw [if_pos hb]
    clear hb
    go_enter Tryz.func19, Tryz.ntmps19
    go_wp2_with fail
    go_ret3
    refine ⟨Below.refl _ _, ?_⟩
    rw [HR.out]
    rfl
  · by_cases hg : badAt s.data.toList = none
    · have hx : lexR s = lexF s (s.size + 1) 0 0 := by unfold lexR; rw [if_neg hb, if_neg (by simp [hg])]
      refine (rlex_any s (by omega) hg w).mono fun e w' h => lext_of ?_
      unfold Lexed
      rw [hx]
      exact h
    · have c := rbad_any s w (by omega)
      have hn : 0 ≤ badI s.data.toList := by
        unfold badI
        split
        · rename_i h'; exact absurd h' hg
        · omega
      have HR : Hid (lexR s = .bad 20 (badI s.data.toList)) := by show _ = _; unfold lexR; rw [if_neg hb, if_pos (by simpa using hg)]
      obtain ⟨b, hb'⟩ : ∃ b, b = badI s.data.toList := ⟨_, rfl⟩
      rw [← hb'] at c hn HR
      have C := Lib.hid c
      have hz : ¬ (s.size : Int) > 16384 := by omega
      have hbz : b ≥ 0 := hn
      clear c hb hg hn hb'
      go_enter Tryz.func19, Tryz.ntmps19
      go_wp2_with fail
      refine C.out.mono ?_
      rintro e w1 ⟨rfl, rfl⟩
      go_wp2_with fail
      go_ret3
      refine ⟨Below.refl _ _, ?_⟩
      rw [HR.out]
      rfl
end Go.Proofs.YthlkjfkgdijfdaaGreatDoor
