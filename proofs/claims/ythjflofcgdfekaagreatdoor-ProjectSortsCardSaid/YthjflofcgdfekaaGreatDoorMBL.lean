import Derived.Test.YthjflofcgdfekaaGreatDoorUA
import Derived.Test.YthjflofcgdfekaaGreatDoorMAZ
import Derived.Test.YthjflofcgdfekaaGreatDoorMAW
import Derived.BigQuiet
import Derived.Laws.AppendOwn
import Derived.Maps.OwnSet
import Derived.Deep.AppendLies
import Derived.Deep.RegionHeld3
import Derived.BigRegion
import Derived.RegionTactic
import Derived.ChangeAlike
import Derived.Test.YthjflofcgdfekaaGreatDoorGT
import Derived.Test.YthjflofcgdfekaaGreatDoorMAY
import Derived.Test.YthjflofcgdfekaaGreatDoorMBA
import Derived.Deep.LoopGhost
namespace Go.Proofs.YthjflofcgdfekaaGreatDoor
namespace Ps
open Pg
variable {l : List Tok}
def fc : Fo → Nat
  | .nil => 0
  | .cons _ k r => fc k + fc r + 1
theorem fc_nil : fc .nil = 0 := rfl
theorem fc_one (h : Hd) (k : Fo) : fc (.one h k) = fc k + 1 := rfl
theorem fc_zero : fc .zero = 1 := rfl
theorem fc_app : ∀ a b : Fo, fc (a.app b) = fc a + fc b
  | .nil, b => by rw [Fo.app, fc]; omega
  | .cons h k r, b => by rw [Fo.app, fc, fc, fc_app r]; omega
def cT : TT → Nat
  | .kind => 3
  | _ => 0
def cX : XT → Nat
  | .lambda => 6
  | .block => 7
  | .expr | .sum | .term | .post | .atom => 3
  | _ => 0
def cA : XT → Nat
  | .sumL a | .termL a | .postL a => fc a
  | _ => 0
theorem ty_cnt : ∀ (f : Nat) (t : TT) (b : Int) (i : Nat) (r : Fo × Nat × Int), tyM l f t b i = some r → r.2.2 < 0 → fc r.1 + 4 * i + cT t ≤ 4 * r.2.1 := by
  intro f
  induction f with
  | zero => intro t b i r h; rw [tyM] at h; cases h
  | succ f ih =>
    intro t b i r h hr
    have hb := ty_was h hr
    cases t with
    | kind =>
      rw [tyM, if_neg (by omega)] at h
      split at h
      · injection h with h; subst h; (try simp only [fc_one, fc_nil, cT]) <;> (try dsimp only at *) <;> omega
      · split at h
        · injection h with h; subst h; (try simp only [fc_one, fc_nil, cT]) <;> (try dsimp only at *) <;> omega
        · split at h
          · injection h with h; subst h; (try simp only [fc_one, fc_nil, cT]) <;> (try dsimp only at *) <;> omega
          · split at h
            · obtain ⟨x, hx, h⟩ := Option.bind_eq_some_iff.1 h
              injection h with h; subst h
              obtain ⟨g1, g2, _⟩ := want_g hr
              have a1 := ih _ _ _ _ hx g1
              try simp only [cT] at a1
              dsimp only at *
              (try simp only [fc_one, cT]) <;> (try dsimp only at *) <;> omega
            · obtain ⟨x, hx, h⟩ := Option.bind_eq_some_iff.1 h
              obtain ⟨t, ht, h⟩ := Option.bind_eq_some_iff.1 h
              injection h with h; subst h
              have b1 := ih _ _ _ _ ht hr
              try simp only [cT] at b1
              have g4 := ty_was ht hr
              obtain ⟨g3, q4, _⟩ := want_g g4
              obtain ⟨g2, q3, _⟩ := want_g g3
              have a1 := ih _ _ _ _ hx g2
              try simp only [cT] at a1
              have g1 := ty_was hx g2
              obtain ⟨g0, q2, _⟩ := want_g g1
              obtain ⟨_, q1, _⟩ := want_g g0
              dsimp only at *
              (try simp only [fc_one, fc_app, cT]) <;> (try dsimp only at *) <;> omega
    | recL first =>
      rw [tyM] at h
      split at h
      · obtain ⟨t, ht, h⟩ := Option.bind_eq_some_iff.1 h
        have key : t.2.2 < 0 → fc (Fo.one { (wordM l b ⟨33, i, 0, e0, 0⟩ i).1 with til := t.2.1 } t.1) + 4 * i ≤ 4 * t.2.1 := fun hg => by
          have a1 := ih _ _ _ _ ht hg
          try simp only [cT] at a1
          have g2 := ty_was ht hg
          obtain ⟨g1, q2, _⟩ := want_g g2
          obtain ⟨_, q0, q1, _⟩ := word_g g1
          rw [q0]
          (try simp only [fc_one]) <;> (try dsimp only at *) <;> omega
        split at h
        · injection h with h; subst h
          exact key hr
        · obtain ⟨x, hx, h⟩ := Option.map_eq_some_iff.1 h
          subst h
          have c1 := ih _ _ _ _ hx hr
          try simp only [cT] at c1
          have g4 := ty_was hx hr
          obtain ⟨g3, q3, _⟩ := want_g g4
          have d1 := key g3
          try simp only [fc_one] at d1
          (try simp only [fc_one, fc_app, cT]) <;> (try dsimp only at *) <;> omega
      · injection h with h; subst h; (try simp only [fc_nil, cT]) <;> (try dsimp only at *) <;> omega
    | fnL first =>
      rw [tyM] at h
      split at h
      · obtain ⟨t, ht, h⟩ := Option.bind_eq_some_iff.1 h
        split at h
        · injection h with h; subst h
          have a1 := ih _ _ _ _ ht hr
          try simp only [cT] at a1
          (try simp only [cT]) <;> (try dsimp only at *) <;> omega
        · obtain ⟨x, hx, h⟩ := Option.map_eq_some_iff.1 h
          subst h
          have c1 := ih _ _ _ _ hx hr
          try simp only [cT] at c1
          have g4 := ty_was hx hr
          obtain ⟨g3, q3, _⟩ := want_g g4
          have d1 := ih _ _ _ _ ht g3
          try simp only [cT] at d1
          (try simp only [fc_app, cT]) <;> (try dsimp only at *) <;> omega
      · injection h with h; subst h; (try simp only [fc_nil, cT]) <;> (try dsimp only at *) <;> omega
theorem typed_cnt {f : Nat} {b : Int} {i : Nat} {r : Fo × Nat × Int} (h : typedM l f b i = some r) (hr : r.2.2 < 0) : fc r.1 + 4 * i ≤ 4 * r.2.1 + 1 := by
  unfold typedM at h
  split at h
  · injection h with h; subst h; (try simp only [fc_zero]) <;> (try dsimp only at *) <;> omega
  · have a1 := ty_cnt _ _ _ _ _ h hr
    try simp only [cT] at a1
    (try simp only [fc_one, fc_app, fc_zero, fc_nil, cT, cX, cA]) <;> (try dsimp only at *) <;> omega
theorem par_cnt : ∀ (f : Nat) (first : Bool) (b : Int) (i : Nat) (r : Fo × Nat × Int), parL l f first b i = some r → r.2.2 < 0 → fc r.1 + 4 * i ≤ 4 * r.2.1 := by
  intro f
  induction f with
  | zero => intro first b i r h; rw [parL] at h; cases h
  | succ f ih =>
    intro first b i r h hr
    rw [parL] at h
    split at h
    · obtain ⟨t, ht, h⟩ := Option.bind_eq_some_iff.1 h
      have key : t.2.2 < 0 → fc (Fo.one { (wordM l b ⟨5, i, 0, e0, 0⟩ i).1 with til := t.2.1 } t.1) + 4 * i ≤ 4 * t.2.1 := fun hg => by
        have a1 := typed_cnt ht hg
        try simp only [fc_one, fc_app, fc_zero, fc_nil, cT, cX, cA] at a1
        have g1 := typed_was ht hg
        obtain ⟨_, q0, q1, _⟩ := word_g g1
        rw [q0]
        (try simp only [fc_one]) <;> (try dsimp only at *) <;> omega
      split at h
      · injection h with h; subst h; exact key hr
      · obtain ⟨x, hx, h⟩ := Option.map_eq_some_iff.1 h
        subst h
        have c1 := ih _ _ _ _ hx hr
        try simp only [fc_one, fc_app, fc_zero, fc_nil, cT, cX, cA] at c1
        have g4 := parL_was hx hr
        obtain ⟨g3, q3, _⟩ := want_g g4
        have d1 := key g3
        try simp only [fc_one] at d1
        (try simp only [fc_one, fc_app]) <;> (try dsimp only at *) <;> omega
    · injection h with h; subst h; (try simp only [fc_nil]) <;> (try dsimp only at *) <;> omega
theorem params_cnt {f : Nat} {b : Int} {i : Nat} {r : Fo × Nat × Int} (h : paramsM l f b i = some r) (hr : r.2.2 < 0) : fc r.1 + 4 * i + 7 ≤ 4 * r.2.1 := by
  unfold paramsM at h
  obtain ⟨x, hx, h⟩ := Option.bind_eq_some_iff.1 h
  injection h with h; subst h
  obtain ⟨g2, q2, _⟩ := want_g hr
  have a1 := par_cnt _ _ _ _ _ hx g2
  try simp only [fc_one, fc_app, fc_zero, fc_nil, cT, cX, cA] at a1
  have g1 := parL_was hx g2
  obtain ⟨_, q1, _⟩ := want_g g1
  dsimp only at *
  (try simp only [fc_one]) <;> (try dsimp only at *) <;> omega
theorem ex_cnt : ∀ (f : Nat) (t : XT) (b : Int) (i : Nat) (r : Fo × Nat × Int), exM l f t b i = some r → r.2.2 < 0 → fc r.1 + 4 * i + cX t ≤ 4 * r.2.1 + cA t := by
  intro f
  induction f with
  | zero => intro t b i r h; rw [exM] at h; cases h
  | succ f ih =>
    intro t b i r h hr
    have hb := exM_was h hr
    cases t with
    | lambda =>
      rw [exM] at h
      obtain ⟨p, h1, h⟩ := Option.bind_eq_some_iff.1 h
      obtain ⟨t, h2, h⟩ := Option.bind_eq_some_iff.1 h
      obtain ⟨k, h3, h⟩ := Option.bind_eq_some_iff.1 h
      injection h with h; subst h
      have a3 := ih _ _ _ _ h3 hr
      try simp only [cX, cA] at a3
      have g2 := exM_was h3 hr
      have a2 := typed_cnt h2 g2
      try simp only [fc_one, fc_app, fc_zero, fc_nil, cT, cX, cA] at a2
      have g1 := typed_was h2 g2
      have a1 := params_cnt h1 g1
      try simp only [fc_one, fc_app, fc_zero, fc_nil, cT, cX, cA] at a1
      (try simp only [fc_app, cX, cA]) <;> (try dsimp only at *) <;> omega
    | block =>
      rw [exM] at h
      obtain ⟨x, h1, h⟩ := Option.bind_eq_some_iff.1 h
      injection h with h; subst h
      obtain ⟨g2, q2, _⟩ := want_g hr
      have a1 := ih _ _ _ _ h1 g2
      try simp only [cX, cA] at a1
      have g1 := exM_was h1 g2
      obtain ⟨_, q0, _⟩ := want_g g1
      dsimp only at *
      (try simp only [fc_one, cX, cA]) <;> (try dsimp only at *) <;> omega
    | stmts =>
      rw [exM] at h
      split at h
      · obtain ⟨x, h1, h⟩ := Option.bind_eq_some_iff.1 h
        obtain ⟨y, h2, h⟩ := Option.map_eq_some_iff.1 h
        subst h
        have a2 := ih _ _ _ _ h2 hr
        try simp only [cX, cA] at a2
        have a1 := ih _ _ _ _ h1 (exM_was h2 hr)
        try simp only [cX, cA] at a1
        (try simp only [fc_app, cX, cA]) <;> (try dsimp only at *) <;> omega
      · injection h with h; subst h; (try simp only [fc_nil, cX, cA]) <;> (try dsimp only at *) <;> omega
    | stmt =>
      by_cases hif : isM l i kIf = true
      · obtain ⟨c, k, o, hc, hk, ho, e⟩ := st_if h rfl hif
        subst e
        have gk : k.2.2 < 0 := by
          by_cases hh : 0 ≤ k.2.2
          · have := other_bad hh ho; dsimp only at hr; omega
          · omega
        have ao : fc o.1 + 4 * k.2.1 ≤ 4 * o.2.1 + 1 := by
          unfold otherM at ho
          split at ho
          · have a3 := ih _ _ _ _ ho hr
            try simp only [cX, cA] at a3
            (try simp only [fc_one, fc_app, fc_zero, fc_nil, cT, cX, cA]) <;> (try dsimp only at *) <;> omega
          · injection ho with ho; rw [← ho]; (try simp only [fc_zero]) <;> (try dsimp only at *) <;> omega
        have a2 := ih _ _ _ _ hk gk
        try simp only [cX, cA] at a2
        have a1 := ih _ _ _ _ hc (exM_was hk gk)
        try simp only [cX, cA] at a1
        (try simp only [fc_one, fc_app, cX, cA]) <;> (try dsimp only at *) <;> omega
      · by_cases hwh : isM l i kWhile = true
        · obtain ⟨c, k, hc, hk, e⟩ := st_while h rfl hwh
          subst e
          have a2 := ih _ _ _ _ hk hr
          try simp only [cX, cA] at a2
          have a1 := ih _ _ _ _ hc (exM_was hk hr)
          try simp only [cX, cA] at a1
          (try simp only [fc_one, fc_app, cX, cA]) <;> (try dsimp only at *) <;> omega
        · by_cases hlet : isM l i kLet = true
          · obtain ⟨t, v, ht, hv, e⟩ := st_let h rfl hlet
            subst e
            obtain ⟨g3, q3, _⟩ := want_g hr
            have a2 := ih _ _ _ _ hv g3
            try simp only [cX, cA] at a2
            have g2 := exM_was hv g3
            obtain ⟨g1, q1, _⟩ := want_g g2
            have a1 := typed_cnt ht g1
            try simp only [fc_one, fc_app, fc_zero, fc_nil, cT, cX, cA] at a1
            have g0 := typed_was ht g1
            have e1 : (wordM l b ⟨7, i, 0, e0, 0⟩ (i + 1)).2 = (wordM l b ⟨0, 0, 0, e0, 0⟩ (i + 1)).2 := wordM_snd _ _ _ _
            rw [← e1] at g0 a1
            obtain ⟨_, w0, w1, _⟩ := word_g g0
            rw [w0]
            dsimp only at *
            (try simp only [fc_one, fc_app, cX, cA]) <;> (try dsimp only at *) <;> omega
          · have close : ∀ (kd j : Nat), kd ≠ 0 → kd ≠ 2 → ¬ named kd → i ≤ j → closeM l f kd i (j, b) = some r → fc r.1 + 4 * i + cX .stmt ≤ 4 * r.2.1 + cA .stmt := fun kd j k0 k2 kn hj hc => by
              unfold closeM at hc
              obtain ⟨v, hv, e⟩ := Option.bind_eq_some_iff.1 hc
              injection e with e; subst e
              obtain ⟨g1, q1, _⟩ := want_g hr
              have a1 := ih _ _ _ _ hv g1
              try simp only [cX, cA] at a1
              dsimp only at *
              (try simp only [fc_one, cX, cA]) <;> (try dsimp only at *) <;> omega
            by_cases hpr : isM l i kPrint = true
            · exact close 11 (i + 1) (by omega) (by omega) (by unfold named; omega) (by omega) (st_print h rfl hpr)
            · by_cases hre : isM l i kReturn = true
              · exact close 12 (i + 1) (by omega) (by omega) (by unfold named; omega) (by omega) (st_return h rfl hre)
              · by_cases hse : kindAt l i = 1 ∧ isM l (i + 1) sEq = true
                · obtain ⟨v, hv, e⟩ := st_word h rfl hb hse.1 hse.2
                  subst e
                  obtain ⟨g1, q1, _⟩ := want_g hr
                  have a1 := ih _ _ _ _ hv g1
                  try simp only [cX, cA] at a1
                  dsimp only at *
                  (try simp only [fc_one, cX, cA]) <;> (try dsimp only at *) <;> omega
                · exact close 13 i (by omega) (by omega) (by unfold named; omega) (by omega) (st_do h rfl (by simpa using hlet) (by simpa using hif) (by simpa using hwh) (by simpa using hpr) (by simpa using hre) hse)
    | expr =>
      rw [exM] at h
      obtain ⟨a, h1, h⟩ := Option.bind_eq_some_iff.1 h
      split at h
      · injection h with h; subst h
        have hh := ih _ _ _ _ h1 hr
        exact hh
      · obtain ⟨c, h2, h⟩ := Option.bind_eq_some_iff.1 h
        injection h with h; subst h
        have a2 := ih _ _ _ _ h2 hr
        try simp only [cX, cA] at a2
        have a1 := ih _ _ _ _ h1 (exM_was h2 hr)
        try simp only [cX, cA] at a1
        dsimp only at *
        (try simp only [fc_one, fc_app, cX, cA]) <;> (try dsimp only at *) <;> omega
    | sum =>
      rw [exM] at h
      obtain ⟨a, h1, h⟩ := Option.bind_eq_some_iff.1 h
      have a1 := ih _ _ _ _ h1 (exM_was h hr)
      try simp only [cX, cA] at a1
      have a2 := ih _ _ _ _ h hr
      try simp only [cX, cA] at a2
      (try simp only [cX, cA]) <;> (try dsimp only at *) <;> omega
    | term =>
      rw [exM] at h
      obtain ⟨a, h1, h⟩ := Option.bind_eq_some_iff.1 h
      have a1 := ih _ _ _ _ h1 (exM_was h hr)
      try simp only [cX, cA] at a1
      have a2 := ih _ _ _ _ h hr
      try simp only [cX, cA] at a2
      (try simp only [cX, cA]) <;> (try dsimp only at *) <;> omega
    | post =>
      rw [exM] at h
      obtain ⟨a, h1, h⟩ := Option.bind_eq_some_iff.1 h
      have a1 := ih _ _ _ _ h1 (exM_was h hr)
      try simp only [cX, cA] at a1
      have a2 := ih _ _ _ _ h hr
      try simp only [cX, cA] at a2
      (try simp only [cX, cA]) <;> (try dsimp only at *) <;> omega
    | sumL a =>
      rw [exM] at h
      split at h
      · obtain ⟨c, h1, h⟩ := Option.bind_eq_some_iff.1 h
        have a1 := ih _ _ _ _ h1 (exM_was h hr)
        try simp only [cX, cA] at a1
        have a2 := ih _ _ _ _ h hr
        try simp only [fc_one, fc_app, cX, cA] at a2
        (try simp only [cX, cA]) <;> (try dsimp only at *) <;> omega
      · injection h with h; subst h; (try simp only [cX, cA]) <;> (try dsimp only at *) <;> omega
    | termL a =>
      rw [exM] at h
      split at h
      · obtain ⟨c, h1, h⟩ := Option.bind_eq_some_iff.1 h
        have a1 := ih _ _ _ _ h1 (exM_was h hr)
        try simp only [cX, cA] at a1
        have a2 := ih _ _ _ _ h hr
        try simp only [fc_one, fc_app, cX, cA] at a2
        (try simp only [cX, cA]) <;> (try dsimp only at *) <;> omega
      · injection h with h; subst h; (try simp only [cX, cA]) <;> (try dsimp only at *) <;> omega
    | postL a =>
      rw [exM] at h
      split at h
      · split at h
        · have g1 := exM_was h hr
          obtain ⟨_, w0, w1, _⟩ := word_g g1
          dsimp only at h
          rw [w0] at h
          have a2 := ih _ _ _ _ h hr
          try simp only [fc_one, cX, cA] at a2
          (try simp only [cX, cA]) <;> (try dsimp only at *) <;> omega
        · obtain ⟨k, h1, h⟩ := Option.bind_eq_some_iff.1 h
          have g2 := exM_was h hr
          obtain ⟨g1, q3, _⟩ := want_g g2
          have a1 := ih _ _ _ _ h1 g1
          try simp only [cX, cA] at a1
          have a2 := ih _ _ _ _ h hr
          try simp only [fc_one, fc_app, cX, cA] at a2
          (try simp only [cX, cA]) <;> (try dsimp only at *) <;> omega
      · injection h with h; subst h; (try simp only [cX, cA]) <;> (try dsimp only at *) <;> omega
    | args first =>
      rw [exM] at h
      split at h
      · obtain ⟨t, h1, h⟩ := Option.bind_eq_some_iff.1 h
        split at h
        · injection h with h; subst h
          have a1 := ih _ _ _ _ h1 hr
          try simp only [cX, cA] at a1
          (try simp only [cX, cA]) <;> (try dsimp only at *) <;> omega
        · obtain ⟨y, h2, h⟩ := Option.map_eq_some_iff.1 h
          subst h
          have a2 := ih _ _ _ _ h2 hr
          try simp only [cX, cA] at a2
          obtain ⟨g1, q3, _⟩ := want_g (exM_was h2 hr)
          have a1 := ih _ _ _ _ h1 g1
          try simp only [cX, cA] at a1
          (try simp only [fc_app, cX, cA]) <;> (try dsimp only at *) <;> omega
      · injection h with h; subst h; (try simp only [fc_nil, cX, cA]) <;> (try dsimp only at *) <;> omega
    | atom =>
      have leaf : ∀ kd : Nat, kd ≠ 0 → kd ≠ 2 → r = (.one ⟨kd, i, i + 1, textAt l i, i⟩ .nil, i + 1, b) → fc r.1 + 4 * i + cX .atom ≤ 4 * r.2.1 + cA .atom := fun kd k0 k2 e => by
        subst e
        (try simp only [fc_one, fc_nil, cX, cA]) <;> (try dsimp only at *) <;> omega
      rw [exM, if_neg (by omega)] at h
      split at h
      · injection h with h; exact leaf 21 (by omega) (by omega) h.symm
      · split at h
        · injection h with h; exact leaf 22 (by omega) (by omega) h.symm
        · split at h
          · injection h with h; exact leaf 23 (by omega) (by omega) h.symm
          · split at h
            · injection h with h; subst h
              (try simp only [fc_one, fc_nil, cX, cA]) <;> (try dsimp only at *) <;> omega
            · split at h
              · obtain ⟨x, h1, h⟩ := Option.bind_eq_some_iff.1 h
                injection h with h; subst h
                obtain ⟨g1, q1, _⟩ := want_g hr
                have a1 := ih _ _ _ _ h1 g1
                try simp only [cX, cA] at a1
                dsimp only at *
                (try simp only [fc_one, cX, cA]) <;> (try dsimp only at *) <;> omega
              · split at h
                · obtain ⟨x, h1, h⟩ := Option.bind_eq_some_iff.1 h
                  injection h with h; subst h
                  obtain ⟨g1, q1, _⟩ := want_g hr
                  have a1 := ih _ _ _ _ h1 g1
                  try simp only [cX, cA] at a1
                  dsimp only at *
                  (try simp only [fc_one, cX, cA]) <;> (try dsimp only at *) <;> omega
                · obtain ⟨x, h1, h⟩ := Option.bind_eq_some_iff.1 h
                  injection h with h; subst h
                  have a1 := ih _ _ _ _ h1 hr
                  try simp only [cX, cA] at a1
                  obtain ⟨_, q1, _⟩ := want_g (exM_was h1 hr)
                  dsimp only at *
                  (try simp only [fc_one, cX, cA]) <;> (try dsimp only at *) <;> omega
    | entries first =>
      rw [exM] at h
      split at h
      · obtain ⟨t, h1, h⟩ := Option.bind_eq_some_iff.1 h
        have key : t.2.2 < 0 → fc (Fo.one { (wordM l b ⟨27, i, 0, e0, 0⟩ i).1 with til := t.2.1 } t.1) + 4 * i ≤ 4 * t.2.1 := fun hg => by
          have a1 := ih _ _ _ _ h1 hg
          try simp only [cX, cA] at a1
          obtain ⟨g1, q2, _⟩ := want_g (exM_was h1 hg)
          obtain ⟨_, q0, q1, _⟩ := word_g g1
          rw [q0]
          (try simp only [fc_one]) <;> (try dsimp only at *) <;> omega
        split at h
        · injection h with h; subst h; exact key hr
        · obtain ⟨y, h2, h⟩ := Option.map_eq_some_iff.1 h
          subst h
          have a2 := ih _ _ _ _ h2 hr
          try simp only [cX, cA] at a2
          obtain ⟨g1, q3, _⟩ := want_g (exM_was h2 hr)
          have a1 := key g1
          try simp only [fc_one] at a1
          (try simp only [fc_one, fc_app, cX, cA]) <;> (try dsimp only at *) <;> omega
      · injection h with h; subst h; (try simp only [fc_nil, cX, cA]) <;> (try dsimp only at *) <;> omega
theorem use_cnt {b : Int} {i : Nat} (hr : (useM l b i).2.2 < 0) : fc (useM l b i).1 + 4 * i ≤ 4 * (useM l b i).2.1 := by
  unfold useM at hr ⊢
  dsimp only at *
  obtain ⟨g3, q3, _⟩ := want_g hr
  obtain ⟨g2, w2, q2, _⟩ := word_g g3
  obtain ⟨g1, q1, _⟩ := want_g g2
  obtain ⟨_, w0, q0, _⟩ := word_g g1
  (try simp only [fc_one, fc_nil]) <;> (try dsimp only at *) <;> omega
theorem def_cnt {f : Nat} {b : Int} {i : Nat} {r : Fo × Nat × Int} (h : defM l f b i = some r) (hr : r.2.2 < 0) : fc r.1 + 4 * i ≤ 4 * r.2.1 := by
  unfold defM at h
  obtain ⟨k, h1, h⟩ := Option.bind_eq_some_iff.1 h
  injection h with h; subst h
  have a1 := ex_cnt _ _ _ _ _ h1 hr
  try simp only [cX, cA] at a1
  obtain ⟨g1, w0, q0, _⟩ := word_g (exM_was h1 hr)
  obtain ⟨_, q1, _⟩ := want_g g1
  dsimp only at *
  rw [w0]
  (try simp only [fc_one]) <;> (try dsimp only at *) <;> omega
theorem items_cnt : ∀ (f : Nat) (b : Int) (i : Nat) (r : Fo × Nat × Int), itemsM l f b i = some r → r.2.2 < 0 → fc r.1 + 4 * i ≤ 4 * r.2.1 := by
  intro f
  induction f with
  | zero => intro b i r h; rw [itemsM] at h; cases h
  | succ f ih =>
    intro b i r h hr
    have hb : b < 0 := by
      by_cases hh : 0 ≤ b
      · have := items_bad hh h; omega
      · omega
    have was : ∀ {g : Nat} {c : Int} {j : Nat} {y : Fo × Nat × Int}, itemsM l g c j = some y → y.2.2 < 0 → c < 0 := fun hy hg => by
      rename_i c _ _
      by_cases hh : 0 ≤ c
      · have := items_bad hh hy; omega
      · omega
    rw [itemsM] at h
    split at h
    · split at h
      · obtain ⟨x, h1, h⟩ := Option.map_eq_some_iff.1 h
        subst h
        have a2 := ih _ _ _ h1 hr
        try simp only [fc_one, fc_app, fc_zero, fc_nil, cT, cX, cA] at a2
        have a1 := use_cnt (was h1 hr)
        try simp only [fc_one, fc_app, fc_zero, fc_nil, cT, cX, cA] at a1
        (try simp only [fc_app]) <;> (try dsimp only at *) <;> omega
      · obtain ⟨t, h0, h⟩ := Option.bind_eq_some_iff.1 h
        obtain ⟨x, h1, h⟩ := Option.map_eq_some_iff.1 h
        subst h
        have a2 := ih _ _ _ h1 hr
        try simp only [fc_one, fc_app, fc_zero, fc_nil, cT, cX, cA] at a2
        have a1 := def_cnt h0 (was h1 hr)
        try simp only [fc_one, fc_app, fc_zero, fc_nil, cT, cX, cA] at a1
        (try simp only [fc_app]) <;> (try dsimp only at *) <;> omega
    · rename_i hc
      injection h with h; subst h
      (try simp only [fc_nil]) <;> (try dsimp only at *) <;> omega
end Ps
end Go.Proofs.YthjflofcgdfekaaGreatDoor













namespace Go.Proofs.YthjflofcgdfekaaGreatDoor
open Go.RowKit
namespace Ps
def Fo.drop : Fo → Nat → Fo
  | k, 0 => k
  | .nil, _ + 1 => .nil
  | .cons _ _ r, i + 1 => r.drop i
theorem Fo.drop_zero (k : Fo) : k.drop 0 = k := by cases k <;> rfl
theorem Fo.drop_end : ∀ (k : Fo) (i : Nat), k.len ≤ i → k.drop i = .nil
  | .nil, 0, _ => rfl
  | .nil, i + 1, _ => rfl
  | .cons h k r, 0, hh => by simp [Fo.len] at hh
  | .cons h k r, i + 1, hh => by rw [Fo.drop]; exact Fo.drop_end r i (by rw [Fo.len] at hh; omega)
theorem Fo.drop_cons : ∀ (k : Fo) (i : Nat), i < k.len → ∃ h kk, k.drop i = .cons h kk (k.drop (i + 1))
  | .nil, i, hh => by simp [Fo.len] at hh
  | .cons h k r, 0, hh => ⟨h, k, by rw [Fo.drop, Fo.drop, Fo.drop_zero]⟩
  | .cons h k r, i + 1, hh => by
    obtain ⟨h', kk, e⟩ := Fo.drop_cons r i (by rw [Fo.len] at hh; omega)
    exact ⟨h', kk, by rw [Fo.drop, Fo.drop]; exact e⟩
theorem Fo.drop_len : ∀ (k : Fo) (i : Nat), (k.drop i).len = k.len - i
  | k, 0 => by rw [Fo.drop_zero]; rfl
  | .nil, i + 1 => by simp [Fo.drop, Fo.len]
  | .cons h k r, i + 1 => by rw [Fo.drop, Fo.drop_len r i, Fo.len]; omega
theorem FC.nth {w : World} {P : Nat → Prop} : ∀ (k : Fo) (cs : List Value) (i : Nat) (h : Hd) (kk r : Fo), FC w P k cs → k.drop i = .cons h kk r →
    ∃ A cap, KV w P kk A cap ∧ ∀ j u, [Value.int .i64 h.kind, .int .i64 h.fro, .int .i64 h.til, .string h.word, .int .i64 h.at_, .slice A kk.len cap][j]? = some u → cs[i * 6 + j]? = some u
  | .nil, cs, i, h, kk, r, hf, e => by cases i <;> simp [Fo.drop] at e
  | .cons h' k' r', cs, 0, h, kk, r, hf, e => by
    rw [Fo.drop] at e
    injection e with e1 e2 e3
    subst e1 e2 e3
    rw [FC] at hf
    obtain ⟨A, cap, cs', rfl, hc, hk, hr⟩ := hf
    refine ⟨A, cap, ⟨hc, hk⟩, fun j u hu => ?_⟩
    rw [Nat.zero_mul, Nat.zero_add, List.getElem?_append_left (List.getElem?_eq_some_iff.1 hu).1]
    exact hu
  | .cons h' k' r', cs, i + 1, h, kk, r, hf, e => by
    rw [Fo.drop] at e
    rw [FC] at hf
    obtain ⟨A, cap, cs', rfl, hc, hk, hr⟩ := hf
    obtain ⟨A2, c2, h1, h2⟩ := FC.nth r' cs' i h kk r hr e
    refine ⟨A2, c2, h1, fun j u hu => ?_⟩
    have := h2 j u hu
    rw [List.getElem?_append_right (by simp; omega)]
    rw [← this]
    congr 1
    simp only [List.length_cons, List.length_nil]
    omega
theorem KV.nth {w : World} {P : Nat → Prop} {k : Fo} {A : Option Addr} {cap i : Nat} {h : Hd} {kk r : Fo} (hk : KV w P k A cap) (e : k.drop i = .cons h kk r) :
    ∃ g o A2 c2, A = some ⟨g, o, none⟩ ∧ P g ∧ g < w.heap.size ∧ KV w P kk A2 c2 ∧ w.cell? ⟨g, o + i * 6, none⟩ = some (.int .i64 h.kind) ∧ w.cell? ⟨g, o + i * 6 + 1, none⟩ = some (.int .i64 h.fro) ∧ w.cell? ⟨g, o + i * 6 + 2, none⟩ = some (.int .i64 h.til) ∧
      w.cell? ⟨g, o + i * 6 + 3, none⟩ = some (.string h.word) ∧ w.cell? ⟨g, o + i * 6 + 4, none⟩ = some (.int .i64 h.at_) ∧ w.cell? ⟨g, o + i * 6 + 5, none⟩ = some (.slice A2 kk.len c2) := by
  have hl : 0 < k.len := by
    have := Fo.drop_len k i
    rw [e, Fo.len] at this
    omega
  obtain ⟨g, o, ck, hA, hP, hg, hc, hf⟩ := hk.2 hl
  obtain ⟨A2, c2, h1, h2⟩ := FC.nth k ck i h kk r hf e
  have key := fun j u hu => hc _ _ (h2 j u hu)
  exact ⟨g, o, A2, c2, hA, hP, hg, h1, key 0 _ rfl, key 1 _ rfl, key 2 _ rfl, key 3 _ rfl, key 4 _ rfl, key 5 _ rfl⟩
theorem KV.below {w w' : World} {P : Nat → Prop} {k : Fo} {A : Option Addr} {cap : Nat} (h : KV w P k A cap) (hb : Below w.heap.size w w') : KV w' P k A cap :=
  h.keep hb.size (fun g hg hl => ⟨hb.block g hl, hg⟩)
theorem Fo.drop_bounds : ∀ (k : Fo) (i : Nat) (h : Hd) (kk r : Fo), k.drop i = .cons h kk r → kk.len ≤ k.wide ∧ kk.wide ≤ k.wide ∧ 1 + kk.deep ≤ k.deep
  | .nil, i, h, kk, r, e => by cases i <;> simp [Fo.drop] at e
  | .cons h' k' r', 0, h, kk, r, e => by
    rw [Fo.drop] at e
    injection e with e1 e2 e3
    subst e1 e2 e3
    rw [Fo.wide, Fo.deep]
    omega
  | .cons h' k' r', i + 1, h, kk, r, e => by
    rw [Fo.drop] at e
    have := Fo.drop_bounds r' i h kk r e
    rw [Fo.wide, Fo.deep]
    omega
end Ps
namespace Pg
open Ps
theorem fo_deep_cons (h : Hd) (k r : Fo) : (Fo.cons h k r).deep = max (1 + k.deep) r.deep := rfl
set_option maxHeartbeats 4000000 in
set_option maxRecDepth 100000 in
theorem depth_any : ∀ (n : Nat) (h : Hd) (k : Fo) (A : Option Addr) (cap : Nat) (P : Nat → Prop) (w : World), k.deep ≤ n → n ≤ 1000000000001 → k.len ≤ 1000001 → k.wide ≤ 1000001 → KV w P k A cap →
    Calls Tryz.prog 170 #[nvv h A k.len cap] w fun e w' => e = .returned (.int .i64 ((1 + k.deep : Nat) : Int)) ∧ Below w.heap.size w w' := by
  intro n
  induction n using Nat.strongRecOn with
  | _ n ih =>
  intro h k A cap P w hd hn hl hw hk
  have HK := Lib.hid hk
  have IH := Lib.hid ih
  have B0 := Lib.hid (bel1 w (.cells #[.int .i64 h.kind, .int .i64 h.fro, .int .i64 h.til, .string h.word, .int .i64 h.at_, .slice A k.len cap] 38))
  obtain ⟨n0, hn0⟩ : ∃ n0, n0 = k.len := ⟨_, rfl⟩
  obtain ⟨d0, hd0⟩ : ∃ d0, d0 = k.deep := ⟨_, rfl⟩
  have HN := Lib.hid hn0
  have HD := Lib.hid hd0
  have HW := Lib.hid hw
  rw [← hd0] at hd ⊢
  rw [← hn0] at hl B0 ⊢
  clear hk hn0 hd0 hw ih
  go_enter Tryz.func170, Tryz.ntmps170
  go_wp2_with fail
  go_loopg [3, 9] (n0 + 1) (fun kx s3 s9 wr => ∃ (i m : Nat), s9 = .int .i64 i ∧ s3 = .int .i64 m ∧ n0 - i ≤ kx ∧ i ≤ n0 ∧ m ≤ d0 ∧ Hid (max m (k.drop i).deep = d0) ∧ Hid (Below w.heap.size w wr))
  case atStart => exact ⟨0, 0, rfl, rfl, by omega, by omega, by omega, by unfold Hid; rw [Fo.drop_zero, HD.out]; omega, B0.out⟩
  case round =>
    obtain ⟨i, m, rfl, rfl, hkx, hin, hmd, HM, HB⟩ := hrel
    by_cases hi : i < n0
    · have hil : (i : Int) < (n0 : Int) := by omega
      obtain ⟨h', kk, e⟩ := Fo.drop_cons k i (by rw [← HN.out]; exact hi)
      obtain ⟨g, o, A2, c2, rfl, hP, hg, hkk, c0, c1, c2', c3, c4, c5⟩ := KV.nth (HK.out.below HB.out) e
      obtain ⟨b1, b2, b3⟩ := Fo.drop_bounds k i _ _ _ e
      have hdd : (k.drop i).deep = max (1 + kk.deep) (k.drop (i + 1)).deep := by rw [e, fo_deep_cons]
      obtain ⟨dk, hdk⟩ : ∃ dk, dk = 1 + kk.deep := ⟨_, rfl⟩
      obtain ⟨j, hj⟩ : ∃ j, j = i + 1 := ⟨_, rfl⟩
      have e1 : IntKind.i64.wrap ((i : Int) + 1) = (j : Int) := by rw [IntKind.wrap_i64]; omega
      have CC : Hid (∀ w', Below wr.heap.size wr w' → Calls Tryz.prog 170 #[nvv h' A2 kk.len c2] w' fun e w'' => e = .returned (.int .i64 (dk : Int)) ∧ Below w'.heap.size w' w'') := fun w' hb => by
        rw [hdk]
        exact IH.out kk.deep (by rw [← HD.out] at b3; omega) h' kk A2 c2 P w' (Nat.le_refl _) (by rw [← HD.out] at b3; omega) (by have := HW.out; omega) (by have := HW.out; omega) (hkk.below hb)
      have hdk2 : dk ≤ d0 := by rw [← HD.out] at b3; omega
      have HM2 : Hid (max (max m dk) (k.drop j).deep = d0) := by
        have := HM.out
        rw [hdd, ← hdk, ← hj] at this
        unfold Hid
        omega
      have B1 := Lib.hid (bel1 wr (.cells (ncc h' A2 kk.len c2) 38))
      have HJ := Lib.hid hj
      clear e hkk b1 b2 b3 hdd hdk hj HM
      go_wp2_with fail
      refine (CC.out _ B1.out).mono ?_
      rintro e2 w2 ⟨rfl, hb2⟩
      have B2 := Lib.hid (HB.out.trans ((B1.out.trans (hb2.mono (by simp))).mono HB.out.size))
      clear hb2 CC B1
      go_wp2_with fail
      have hj := HJ.out
      go_roundg (n0 - j)
      case measure => omega
      case rel => exact ⟨j, max m dk, rfl, by rw [show (max (m : Int) (dk : Int)) = ((max m dk : Nat) : Int) by omega], by omega, by omega, by omega, HM2.out, B2.out⟩
    · have hi2 : i = n0 := by omega
      have hm : m = d0 := by
        have := HM.out
        rw [Fo.drop_end k i (by rw [← HN.out]; omega)] at this
        simp only [Fo.deep] at this
        omega
      have hd1 : decide ((i : Int) < (n0 : Int)) = false := decide_eq_false (by omega)
      have hd2 : decide (i < n0) = false := decide_eq_false (by omega)
      obtain ⟨d1, hd3⟩ : ∃ d1, d1 = 1 + m := ⟨_, rfl⟩
      have e1 : IntKind.i64.wrap (1 + (m : Int)) = (d1 : Int) := by rw [IntKind.wrap_i64]; omega
      have HE : Hid (d1 = 1 + d0) := by unfold Hid; omega
      clear hi hi2 HM hd3 hm
      go_wp2_with fail
      go_ret
      exact ⟨by rw [HE.out]; rfl, HB.out⟩
end Pg
end Go.Proofs.YthjflofcgdfekaaGreatDoor

