/- Mathematics: a text's tree has few nodes. -/
import Derived.Test.YtnefnnoleeeedaaMAY
import Derived.Test.YtnefnnoleeeedaaMAW
namespace Go.Proofs.Ytnefnnoleeeedaa
namespace Ps
open Pg
variable {l : List Tok}
/-- How many nodes. -/
def fc : Fo → Nat
  | .nil => 0
  | .cons _ k r => fc k + fc r + 1
theorem fc_nil : fc .nil = 0 := rfl
theorem fc_one (h : Hd) (k : Fo) : fc (.one h k) = fc k + 1 := rfl
theorem fc_zero : fc .zero = 1 := rfl
theorem fc_app : ∀ a b : Fo, fc (a.app b) = fc a + fc b
  | .nil, b => by rw [Fo.app, fc]; omega
  | .cons h k r, b => by rw [Fo.app, fc, fc, fc_app r]; omega
def cT : TT → Nat
  | .kind => 3
  | _ => 0
def cX : XT → Nat
  | .lambda => 6
  | .block => 7
  | .expr | .sum | .term | .post | .atom => 3
  | _ => 0
def cA : XT → Nat
  | .sumL a | .termL a | .postL a => fc a
  | _ => 0
theorem ty_cnt : ∀ (f : Nat) (t : TT) (b : Int) (i : Nat) (r : Fo × Nat × Int), tyM l f t b i = some r → r.2.2 < 0 → fc r.1 + 4 * i + cT t ≤ 4 * r.2.1 := by
  intro f
  induction f with
  | zero => intro t b i r h; rw [tyM] at h; cases h
  | succ f ih =>
    intro t b i r h hr
    have hb := ty_was h hr
    cases t with
    | kind =>
      rw [tyM, if_neg (by omega)] at h
      split at h
      · injection h with h; subst h; (try simp only [fc_one, fc_nil, cT]) <;> (try dsimp only at *) <;> omega
      · split at h
        · injection h with h; subst h; (try simp only [fc_one, fc_nil, cT]) <;> (try dsimp only at *) <;> omega
        · split at h
          · injection h with h; subst h; (try simp only [fc_one, fc_nil, cT]) <;> (try dsimp only at *) <;> omega
          · split at h
            · obtain ⟨x, hx, h⟩ := Option.bind_eq_some_iff.1 h
              injection h with h; subst h
              obtain ⟨g1, g2, _⟩ := want_g hr
              have a1 := ih _ _ _ _ hx g1
              try simp only [cT] at a1
              dsimp only at *
              (try simp only [fc_one, cT]) <;> (try dsimp only at *) <;> omega
            · obtain ⟨x, hx, h⟩ := Option.bind_eq_some_iff.1 h
              obtain ⟨t, ht, h⟩ := Option.bind_eq_some_iff.1 h
              injection h with h; subst h
              have b1 := ih _ _ _ _ ht hr
              try simp only [cT] at b1
              have g4 := ty_was ht hr
              obtain ⟨g3, q4, _⟩ := want_g g4
              obtain ⟨g2, q3, _⟩ := want_g g3
              have a1 := ih _ _ _ _ hx g2
              try simp only [cT] at a1
              have g1 := ty_was hx g2
              obtain ⟨g0, q2, _⟩ := want_g g1
              obtain ⟨_, q1, _⟩ := want_g g0
              dsimp only at *
              (try simp only [fc_one, fc_app, cT]) <;> (try dsimp only at *) <;> omega
    | recL first =>
      rw [tyM] at h
      split at h
      · obtain ⟨t, ht, h⟩ := Option.bind_eq_some_iff.1 h
        have key : t.2.2 < 0 → fc (Fo.one { (wordM l b ⟨33, i, 0, e0, 0⟩ i).1 with til := t.2.1 } t.1) + 4 * i ≤ 4 * t.2.1 := fun hg => by
          have a1 := ih _ _ _ _ ht hg
          try simp only [cT] at a1
          have g2 := ty_was ht hg
          obtain ⟨g1, q2, _⟩ := want_g g2
          obtain ⟨_, q0, q1, _⟩ := word_g g1
          rw [q0]
          (try simp only [fc_one]) <;> (try dsimp only at *) <;> omega
        split at h
        · injection h with h; subst h
          exact key hr
        · obtain ⟨x, hx, h⟩ := Option.map_eq_some_iff.1 h
          subst h
          have c1 := ih _ _ _ _ hx hr
          try simp only [cT] at c1
          have g4 := ty_was hx hr
          obtain ⟨g3, q3, _⟩ := want_g g4
          have d1 := key g3
          try simp only [fc_one] at d1
          (try simp only [fc_one, fc_app, cT]) <;> (try dsimp only at *) <;> omega
      · injection h with h; subst h; (try simp only [fc_nil, cT]) <;> (try dsimp only at *) <;> omega
    | fnL first =>
      rw [tyM] at h
      split at h
      · obtain ⟨t, ht, h⟩ := Option.bind_eq_some_iff.1 h
        split at h
        · injection h with h; subst h
          have a1 := ih _ _ _ _ ht hr
          try simp only [cT] at a1
          (try simp only [cT]) <;> (try dsimp only at *) <;> omega
        · obtain ⟨x, hx, h⟩ := Option.map_eq_some_iff.1 h
          subst h
          have c1 := ih _ _ _ _ hx hr
          try simp only [cT] at c1
          have g4 := ty_was hx hr
          obtain ⟨g3, q3, _⟩ := want_g g4
          have d1 := ih _ _ _ _ ht g3
          try simp only [cT] at d1
          (try simp only [fc_app, cT]) <;> (try dsimp only at *) <;> omega
      · injection h with h; subst h; (try simp only [fc_nil, cT]) <;> (try dsimp only at *) <;> omega
theorem typed_cnt {f : Nat} {b : Int} {i : Nat} {r : Fo × Nat × Int} (h : typedM l f b i = some r) (hr : r.2.2 < 0) : fc r.1 + 4 * i ≤ 4 * r.2.1 + 1 := by
  unfold typedM at h
  split at h
  · injection h with h; subst h; (try simp only [fc_zero]) <;> (try dsimp only at *) <;> omega
  · have a1 := ty_cnt _ _ _ _ _ h hr
    try simp only [cT] at a1
    (try simp only [fc_one, fc_app, fc_zero, fc_nil, cT, cX, cA]) <;> (try dsimp only at *) <;> omega
theorem par_cnt : ∀ (f : Nat) (first : Bool) (b : Int) (i : Nat) (r : Fo × Nat × Int), parL l f first b i = some r → r.2.2 < 0 → fc r.1 + 4 * i ≤ 4 * r.2.1 := by
  intro f
  induction f with
  | zero => intro first b i r h; rw [parL] at h; cases h
  | succ f ih =>
    intro first b i r h hr
    rw [parL] at h
    split at h
    · obtain ⟨t, ht, h⟩ := Option.bind_eq_some_iff.1 h
      have key : t.2.2 < 0 → fc (Fo.one { (wordM l b ⟨5, i, 0, e0, 0⟩ i).1 with til := t.2.1 } t.1) + 4 * i ≤ 4 * t.2.1 := fun hg => by
        have a1 := typed_cnt ht hg
        try simp only [fc_one, fc_app, fc_zero, fc_nil, cT, cX, cA] at a1
        have g1 := typed_was ht hg
        obtain ⟨_, q0, q1, _⟩ := word_g g1
        rw [q0]
        (try simp only [fc_one]) <;> (try dsimp only at *) <;> omega
      split at h
      · injection h with h; subst h; exact key hr
      · obtain ⟨x, hx, h⟩ := Option.map_eq_some_iff.1 h
        subst h
        have c1 := ih _ _ _ _ hx hr
        try simp only [fc_one, fc_app, fc_zero, fc_nil, cT, cX, cA] at c1
        have g4 := parL_was hx hr
        obtain ⟨g3, q3, _⟩ := want_g g4
        have d1 := key g3
        try simp only [fc_one] at d1
        (try simp only [fc_one, fc_app]) <;> (try dsimp only at *) <;> omega
    · injection h with h; subst h; (try simp only [fc_nil]) <;> (try dsimp only at *) <;> omega
theorem params_cnt {f : Nat} {b : Int} {i : Nat} {r : Fo × Nat × Int} (h : paramsM l f b i = some r) (hr : r.2.2 < 0) : fc r.1 + 4 * i + 7 ≤ 4 * r.2.1 := by
  unfold paramsM at h
  obtain ⟨x, hx, h⟩ := Option.bind_eq_some_iff.1 h
  injection h with h; subst h
  obtain ⟨g2, q2, _⟩ := want_g hr
  have a1 := par_cnt _ _ _ _ _ hx g2
  try simp only [fc_one, fc_app, fc_zero, fc_nil, cT, cX, cA] at a1
  have g1 := parL_was hx g2
  obtain ⟨_, q1, _⟩ := want_g g1
  dsimp only at *
  (try simp only [fc_one]) <;> (try dsimp only at *) <;> omega
theorem ex_cnt : ∀ (f : Nat) (t : XT) (b : Int) (i : Nat) (r : Fo × Nat × Int), exM l f t b i = some r → r.2.2 < 0 → fc r.1 + 4 * i + cX t ≤ 4 * r.2.1 + cA t := by
  intro f
  induction f with
  | zero => intro t b i r h; rw [exM] at h; cases h
  | succ f ih =>
    intro t b i r h hr
    have hb := exM_was h hr
    cases t with
    | lambda =>
      rw [exM] at h
      obtain ⟨p, h1, h⟩ := Option.bind_eq_some_iff.1 h
      obtain ⟨t, h2, h⟩ := Option.bind_eq_some_iff.1 h
      obtain ⟨k, h3, h⟩ := Option.bind_eq_some_iff.1 h
      injection h with h; subst h
      have a3 := ih _ _ _ _ h3 hr
      try simp only [cX, cA] at a3
      have g2 := exM_was h3 hr
      have a2 := typed_cnt h2 g2
      try simp only [fc_one, fc_app, fc_zero, fc_nil, cT, cX, cA] at a2
      have g1 := typed_was h2 g2
      have a1 := params_cnt h1 g1
      try simp only [fc_one, fc_app, fc_zero, fc_nil, cT, cX, cA] at a1
      (try simp only [fc_app, cX, cA]) <;> (try dsimp only at *) <;> omega
    | block =>
      rw [exM] at h
      obtain ⟨x, h1, h⟩ := Option.bind_eq_some_iff.1 h
      injection h with h; subst h
      obtain ⟨g2, q2, _⟩ := want_g hr
      have a1 := ih _ _ _ _ h1 g2
      try simp only [cX, cA] at a1
      have g1 := exM_was h1 g2
      obtain ⟨_, q0, _⟩ := want_g g1
      dsimp only at *
      (try simp only [fc_one, cX, cA]) <;> (try dsimp only at *) <;> omega
    | stmts =>
      rw [exM] at h
      split at h
      · obtain ⟨x, h1, h⟩ := Option.bind_eq_some_iff.1 h
        obtain ⟨y, h2, h⟩ := Option.map_eq_some_iff.1 h
        subst h
        have a2 := ih _ _ _ _ h2 hr
        try simp only [cX, cA] at a2
        have a1 := ih _ _ _ _ h1 (exM_was h2 hr)
        try simp only [cX, cA] at a1
        (try simp only [fc_app, cX, cA]) <;> (try dsimp only at *) <;> omega
      · injection h with h; subst h; (try simp only [fc_nil, cX, cA]) <;> (try dsimp only at *) <;> omega
    | stmt =>
      by_cases hif : isM l i kIf = true
      · obtain ⟨c, k, o, hc, hk, ho, e⟩ := st_if h rfl hif
        subst e
        have gk : k.2.2 < 0 := by
          by_cases hh : 0 ≤ k.2.2
          · have := other_bad hh ho; dsimp only at hr; omega
          · omega
        have ao : fc o.1 + 4 * k.2.1 ≤ 4 * o.2.1 + 1 := by
          unfold otherM at ho
          split at ho
          · have a3 := ih _ _ _ _ ho hr
            try simp only [cX, cA] at a3
            (try simp only [fc_one, fc_app, fc_zero, fc_nil, cT, cX, cA]) <;> (try dsimp only at *) <;> omega
          · injection ho with ho; rw [← ho]; (try simp only [fc_zero]) <;> (try dsimp only at *) <;> omega
        have a2 := ih _ _ _ _ hk gk
        try simp only [cX, cA] at a2
        have a1 := ih _ _ _ _ hc (exM_was hk gk)
        try simp only [cX, cA] at a1
        (try simp only [fc_one, fc_app, cX, cA]) <;> (try dsimp only at *) <;> omega
      · by_cases hwh : isM l i kWhile = true
        · obtain ⟨c, k, hc, hk, e⟩ := st_while h rfl hwh
          subst e
          have a2 := ih _ _ _ _ hk hr
          try simp only [cX, cA] at a2
          have a1 := ih _ _ _ _ hc (exM_was hk hr)
          try simp only [cX, cA] at a1
          (try simp only [fc_one, fc_app, cX, cA]) <;> (try dsimp only at *) <;> omega
        · by_cases hlet : isM l i kLet = true
          · obtain ⟨t, v, ht, hv, e⟩ := st_let h rfl hlet
            subst e
            obtain ⟨g3, q3, _⟩ := want_g hr
            have a2 := ih _ _ _ _ hv g3
            try simp only [cX, cA] at a2
            have g2 := exM_was hv g3
            obtain ⟨g1, q1, _⟩ := want_g g2
            have a1 := typed_cnt ht g1
            try simp only [fc_one, fc_app, fc_zero, fc_nil, cT, cX, cA] at a1
            have g0 := typed_was ht g1
            have e1 : (wordM l b ⟨7, i, 0, e0, 0⟩ (i + 1)).2 = (wordM l b ⟨0, 0, 0, e0, 0⟩ (i + 1)).2 := wordM_snd _ _ _ _
            rw [← e1] at g0 a1
            obtain ⟨_, w0, w1, _⟩ := word_g g0
            rw [w0]
            dsimp only at *
            (try simp only [fc_one, fc_app, cX, cA]) <;> (try dsimp only at *) <;> omega
          · have close : ∀ (kd j : Nat), kd ≠ 0 → kd ≠ 2 → ¬ named kd → i ≤ j → closeM l f kd i (j, b) = some r → fc r.1 + 4 * i + cX .stmt ≤ 4 * r.2.1 + cA .stmt := fun kd j k0 k2 kn hj hc => by
              unfold closeM at hc
              obtain ⟨v, hv, e⟩ := Option.bind_eq_some_iff.1 hc
              injection e with e; subst e
              obtain ⟨g1, q1, _⟩ := want_g hr
              have a1 := ih _ _ _ _ hv g1
              try simp only [cX, cA] at a1
              dsimp only at *
              (try simp only [fc_one, cX, cA]) <;> (try dsimp only at *) <;> omega
            by_cases hpr : isM l i kPrint = true
            · exact close 11 (i + 1) (by omega) (by omega) (by unfold named; omega) (by omega) (st_print h rfl hpr)
            · by_cases hre : isM l i kReturn = true
              · exact close 12 (i + 1) (by omega) (by omega) (by unfold named; omega) (by omega) (st_return h rfl hre)
              · by_cases hse : kindAt l i = 1 ∧ isM l (i + 1) sEq = true
                · obtain ⟨v, hv, e⟩ := st_word h rfl hb hse.1 hse.2
                  subst e
                  obtain ⟨g1, q1, _⟩ := want_g hr
                  have a1 := ih _ _ _ _ hv g1
                  try simp only [cX, cA] at a1
                  dsimp only at *
                  (try simp only [fc_one, cX, cA]) <;> (try dsimp only at *) <;> omega
                · exact close 13 i (by omega) (by omega) (by unfold named; omega) (by omega) (st_do h rfl (by simpa using hlet) (by simpa using hif) (by simpa using hwh) (by simpa using hpr) (by simpa using hre) hse)
    | expr =>
      rw [exM] at h
      obtain ⟨a, h1, h⟩ := Option.bind_eq_some_iff.1 h
      split at h
      · injection h with h; subst h
        have hh := ih _ _ _ _ h1 hr
        exact hh
      · obtain ⟨c, h2, h⟩ := Option.bind_eq_some_iff.1 h
        injection h with h; subst h
        have a2 := ih _ _ _ _ h2 hr
        try simp only [cX, cA] at a2
        have a1 := ih _ _ _ _ h1 (exM_was h2 hr)
        try simp only [cX, cA] at a1
        dsimp only at *
        (try simp only [fc_one, fc_app, cX, cA]) <;> (try dsimp only at *) <;> omega
    | sum =>
      rw [exM] at h
      obtain ⟨a, h1, h⟩ := Option.bind_eq_some_iff.1 h
      have a1 := ih _ _ _ _ h1 (exM_was h hr)
      try simp only [cX, cA] at a1
      have a2 := ih _ _ _ _ h hr
      try simp only [cX, cA] at a2
      (try simp only [cX, cA]) <;> (try dsimp only at *) <;> omega
    | term =>
      rw [exM] at h
      obtain ⟨a, h1, h⟩ := Option.bind_eq_some_iff.1 h
      have a1 := ih _ _ _ _ h1 (exM_was h hr)
      try simp only [cX, cA] at a1
      have a2 := ih _ _ _ _ h hr
      try simp only [cX, cA] at a2
      (try simp only [cX, cA]) <;> (try dsimp only at *) <;> omega
    | post =>
      rw [exM] at h
      obtain ⟨a, h1, h⟩ := Option.bind_eq_some_iff.1 h
      have a1 := ih _ _ _ _ h1 (exM_was h hr)
      try simp only [cX, cA] at a1
      have a2 := ih _ _ _ _ h hr
      try simp only [cX, cA] at a2
      (try simp only [cX, cA]) <;> (try dsimp only at *) <;> omega
    | sumL a =>
      rw [exM] at h
      split at h
      · obtain ⟨c, h1, h⟩ := Option.bind_eq_some_iff.1 h
        have a1 := ih _ _ _ _ h1 (exM_was h hr)
        try simp only [cX, cA] at a1
        have a2 := ih _ _ _ _ h hr
        try simp only [fc_one, fc_app, cX, cA] at a2
        (try simp only [cX, cA]) <;> (try dsimp only at *) <;> omega
      · injection h with h; subst h; (try simp only [cX, cA]) <;> (try dsimp only at *) <;> omega
    | termL a =>
      rw [exM] at h
      split at h
      · obtain ⟨c, h1, h⟩ := Option.bind_eq_some_iff.1 h
        have a1 := ih _ _ _ _ h1 (exM_was h hr)
        try simp only [cX, cA] at a1
        have a2 := ih _ _ _ _ h hr
        try simp only [fc_one, fc_app, cX, cA] at a2
        (try simp only [cX, cA]) <;> (try dsimp only at *) <;> omega
      · injection h with h; subst h; (try simp only [cX, cA]) <;> (try dsimp only at *) <;> omega
    | postL a =>
      rw [exM] at h
      split at h
      · split at h
        · have g1 := exM_was h hr
          obtain ⟨_, w0, w1, _⟩ := word_g g1
          dsimp only at h
          rw [w0] at h
          have a2 := ih _ _ _ _ h hr
          try simp only [fc_one, cX, cA] at a2
          (try simp only [cX, cA]) <;> (try dsimp only at *) <;> omega
        · obtain ⟨k, h1, h⟩ := Option.bind_eq_some_iff.1 h
          have g2 := exM_was h hr
          obtain ⟨g1, q3, _⟩ := want_g g2
          have a1 := ih _ _ _ _ h1 g1
          try simp only [cX, cA] at a1
          have a2 := ih _ _ _ _ h hr
          try simp only [fc_one, fc_app, cX, cA] at a2
          (try simp only [cX, cA]) <;> (try dsimp only at *) <;> omega
      · injection h with h; subst h; (try simp only [cX, cA]) <;> (try dsimp only at *) <;> omega
    | args first =>
      rw [exM] at h
      split at h
      · obtain ⟨t, h1, h⟩ := Option.bind_eq_some_iff.1 h
        split at h
        · injection h with h; subst h
          have a1 := ih _ _ _ _ h1 hr
          try simp only [cX, cA] at a1
          (try simp only [cX, cA]) <;> (try dsimp only at *) <;> omega
        · obtain ⟨y, h2, h⟩ := Option.map_eq_some_iff.1 h
          subst h
          have a2 := ih _ _ _ _ h2 hr
          try simp only [cX, cA] at a2
          obtain ⟨g1, q3, _⟩ := want_g (exM_was h2 hr)
          have a1 := ih _ _ _ _ h1 g1
          try simp only [cX, cA] at a1
          (try simp only [fc_app, cX, cA]) <;> (try dsimp only at *) <;> omega
      · injection h with h; subst h; (try simp only [fc_nil, cX, cA]) <;> (try dsimp only at *) <;> omega
    | atom =>
      have leaf : ∀ kd : Nat, kd ≠ 0 → kd ≠ 2 → r = (.one ⟨kd, i, i + 1, textAt l i, i⟩ .nil, i + 1, b) → fc r.1 + 4 * i + cX .atom ≤ 4 * r.2.1 + cA .atom := fun kd k0 k2 e => by
        subst e
        (try simp only [fc_one, fc_nil, cX, cA]) <;> (try dsimp only at *) <;> omega
      rw [exM, if_neg (by omega)] at h
      split at h
      · injection h with h; exact leaf 21 (by omega) (by omega) h.symm
      · split at h
        · injection h with h; exact leaf 22 (by omega) (by omega) h.symm
        · split at h
          · injection h with h; exact leaf 23 (by omega) (by omega) h.symm
          · split at h
            · injection h with h; subst h
              (try simp only [fc_one, fc_nil, cX, cA]) <;> (try dsimp only at *) <;> omega
            · split at h
              · obtain ⟨x, h1, h⟩ := Option.bind_eq_some_iff.1 h
                injection h with h; subst h
                obtain ⟨g1, q1, _⟩ := want_g hr
                have a1 := ih _ _ _ _ h1 g1
                try simp only [cX, cA] at a1
                dsimp only at *
                (try simp only [fc_one, cX, cA]) <;> (try dsimp only at *) <;> omega
              · split at h
                · obtain ⟨x, h1, h⟩ := Option.bind_eq_some_iff.1 h
                  injection h with h; subst h
                  obtain ⟨g1, q1, _⟩ := want_g hr
                  have a1 := ih _ _ _ _ h1 g1
                  try simp only [cX, cA] at a1
                  dsimp only at *
                  (try simp only [fc_one, cX, cA]) <;> (try dsimp only at *) <;> omega
                · obtain ⟨x, h1, h⟩ := Option.bind_eq_some_iff.1 h
                  injection h with h; subst h
                  have a1 := ih _ _ _ _ h1 hr
                  try simp only [cX, cA] at a1
                  obtain ⟨_, q1, _⟩ := want_g (exM_was h1 hr)
                  dsimp only at *
                  (try simp only [fc_one, cX, cA]) <;> (try dsimp only at *) <;> omega
    | entries first =>
      rw [exM] at h
      split at h
      · obtain ⟨t, h1, h⟩ := Option.bind_eq_some_iff.1 h
        have key : t.2.2 < 0 → fc (Fo.one { (wordM l b ⟨27, i, 0, e0, 0⟩ i).1 with til := t.2.1 } t.1) + 4 * i ≤ 4 * t.2.1 := fun hg => by
          have a1 := ih _ _ _ _ h1 hg
          try simp only [cX, cA] at a1
          obtain ⟨g1, q2, _⟩ := want_g (exM_was h1 hg)
          obtain ⟨_, q0, q1, _⟩ := word_g g1
          rw [q0]
          (try simp only [fc_one]) <;> (try dsimp only at *) <;> omega
        split at h
        · injection h with h; subst h; exact key hr
        · obtain ⟨y, h2, h⟩ := Option.map_eq_some_iff.1 h
          subst h
          have a2 := ih _ _ _ _ h2 hr
          try simp only [cX, cA] at a2
          obtain ⟨g1, q3, _⟩ := want_g (exM_was h2 hr)
          have a1 := key g1
          try simp only [fc_one] at a1
          (try simp only [fc_one, fc_app, cX, cA]) <;> (try dsimp only at *) <;> omega
      · injection h with h; subst h; (try simp only [fc_nil, cX, cA]) <;> (try dsimp only at *) <;> omega
theorem use_cnt {b : Int} {i : Nat} (hr : (useM l b i).2.2 < 0) : fc (useM l b i).1 + 4 * i ≤ 4 * (useM l b i).2.1 := by
  unfold useM at hr ⊢
  dsimp only at *
  obtain ⟨g3, q3, _⟩ := want_g hr
  obtain ⟨g2, w2, q2, _⟩ := word_g g3
  obtain ⟨g1, q1, _⟩ := want_g g2
  obtain ⟨_, w0, q0, _⟩ := word_g g1
  (try simp only [fc_one, fc_nil]) <;> (try dsimp only at *) <;> omega
theorem def_cnt {f : Nat} {b : Int} {i : Nat} {r : Fo × Nat × Int} (h : defM l f b i = some r) (hr : r.2.2 < 0) : fc r.1 + 4 * i ≤ 4 * r.2.1 := by
  unfold defM at h
  obtain ⟨k, h1, h⟩ := Option.bind_eq_some_iff.1 h
  injection h with h; subst h
  have a1 := ex_cnt _ _ _ _ _ h1 hr
  try simp only [cX, cA] at a1
  obtain ⟨g1, w0, q0, _⟩ := word_g (exM_was h1 hr)
  obtain ⟨_, q1, _⟩ := want_g g1
  dsimp only at *
  rw [w0]
  (try simp only [fc_one]) <;> (try dsimp only at *) <;> omega
theorem items_cnt : ∀ (f : Nat) (b : Int) (i : Nat) (r : Fo × Nat × Int), itemsM l f b i = some r → r.2.2 < 0 → fc r.1 + 4 * i ≤ 4 * r.2.1 := by
  intro f
  induction f with
  | zero => intro b i r h; rw [itemsM] at h; cases h
  | succ f ih =>
    intro b i r h hr
    have hb : b < 0 := by
      by_cases hh : 0 ≤ b
      · have := items_bad hh h; omega
      · omega
    have was : ∀ {g : Nat} {c : Int} {j : Nat} {y : Fo × Nat × Int}, itemsM l g c j = some y → y.2.2 < 0 → c < 0 := fun hy hg => by
      rename_i c _ _
      by_cases hh : 0 ≤ c
      · have := items_bad hh hy; omega
      · omega
    rw [itemsM] at h
    split at h
    · split at h
      · obtain ⟨x, h1, h⟩ := Option.map_eq_some_iff.1 h
        subst h
        have a2 := ih _ _ _ h1 hr
        try simp only [fc_one, fc_app, fc_zero, fc_nil, cT, cX, cA] at a2
        have a1 := use_cnt (was h1 hr)
        try simp only [fc_one, fc_app, fc_zero, fc_nil, cT, cX, cA] at a1
        (try simp only [fc_app]) <;> (try dsimp only at *) <;> omega
      · obtain ⟨t, h0, h⟩ := Option.bind_eq_some_iff.1 h
        obtain ⟨x, h1, h⟩ := Option.map_eq_some_iff.1 h
        subst h
        have a2 := ih _ _ _ h1 hr
        try simp only [fc_one, fc_app, fc_zero, fc_nil, cT, cX, cA] at a2
        have a1 := def_cnt h0 (was h1 hr)
        try simp only [fc_one, fc_app, fc_zero, fc_nil, cT, cX, cA] at a1
        (try simp only [fc_app]) <;> (try dsimp only at *) <;> omega
    · rename_i hc
      injection h with h; subst h
      (try simp only [fc_nil]) <;> (try dsimp only at *) <;> omega
end Ps
end Go.Proofs.Ytnefnnoleeeedaa
/- Mathematics: whatever a text means by a local stands in the item that binds it. -/
namespace Go.Proofs.Ytnefnnoleeeedaa
open Go.RowKit Go.Op
namespace Sc
open Vm

open Ps Pg
def Vis (bs : List Bd) (q p v : Int) : Prop := ∀ i : Nat, v = (i : Int) → ∀ b, bs[i]? = some b → 2 < b.kind → b.item = q ∧ b.at_ < p
def Bok (In : Int → Int → Prop) (len : Int) (b : Bd) : Prop := (isItem b = true ∨ 2 < b.kind) ∧ 0 ≤ b.item ∧ b.item < len ∧ (2 < b.kind → In b.item b.at_)
def Mok (In : Int → Int → Prop) (bs : List Bd) (u : Mn) : Prop := u.to < (bs.length : Int) ∧ ∀ i : Nat, u.to = (i : Int) → ∀ b, bs[i]? = some b → 2 < b.kind → b.at_ ≤ u.at_ ∧ In b.item u.at_
theorem ext_get {bs l : List Bd} {i : Nat} (h : i < bs.length) : (bs ++ l)[i]? = bs[i]? := List.getElem?_append_left h
theorem Vis.ext {bs l : List Bd} {q p v : Int} (h : Vis bs q p v) (hv : v < (bs.length : Int)) : Vis (bs ++ l) q p v := fun i e b hb => by
  rw [ext_get (by omega)] at hb
  exact h i e b hb
theorem Vis.mono {bs : List Bd} {q p p' v : Int} (h : Vis bs q p v) (hp : p ≤ p') : Vis bs q p' v := fun i e b hb hk => ⟨(h i e b hb hk).1, by have := (h i e b hb hk).2; omega⟩
theorem Mok.ext {In : Int → Int → Prop} {bs l : List Bd} {u : Mn} (h : Mok In bs u) : Mok In (bs ++ l) u := by
  refine ⟨by rw [List.length_append]; have := h.1; omega, fun i e b hb => ?_⟩
  rw [ext_get (by have := h.1; omega)] at hb
  exact h.2 i e b hb
/-- What is true of the walker in item q, at the token p. -/
structure Inv (In : Int → Int → Prop) (len q p : Int) (s : St) : Prop where
  it : s.item = q
  bd : ∀ b ∈ s.bs, Bok In len b
  mn : ∀ u ∈ s.ms, Mok In s.bs u
  me : ∀ x, s.means x < (s.bs.length : Int) ∧ Vis s.bs q p (s.means x)
  he : ∀ x v, s.here x = some v → v < (s.bs.length : Int) ∧ Vis s.bs q p v
variable {In : Int → Int → Prop} {len q : Int}
theorem Inv.mono {p p' : Int} {s : St} (h : Inv In len q p s) (hp : p ≤ p') : Inv In len q p' s :=
  ⟨h.it, h.bd, h.mn, fun x => ⟨(h.me x).1, (h.me x).2.mono hp⟩, fun x v e => ⟨(h.he x v e).1, (h.he x v e).2.mono hp⟩⟩
theorem Inv.wrong {p : Int} {s : St} (h : Inv In len q p s) (a e : Int) : Inv In len q p (s.wrong a e) := ⟨h.it, h.bd, h.mn, h.me, h.he⟩
theorem bind0_bs (a : Int) (wd : ByteArray) (s : St) : (bind0 a wd s).bs = s.bs ∧ (bind0 a wd s).ms = s.ms ∧ (bind0 a wd s).means = s.means ∧ (bind0 a wd s).item = s.item := by
  unfold bind0
  split <;> exact ⟨rfl, rfl, rfl, rfl⟩
theorem Inv.bind0 {p : Int} {s : St} (h : Inv In len q p s) (a : Int) (wd : ByteArray) : Inv In len q p (bind0 a wd s) := by
  unfold Sc.bind0
  split
  · exact h.wrong a 31
  · refine ⟨h.it, h.bd, h.mn, h.me, fun x v e => ?_⟩
    by_cases hx : x = wd
    · have e' : (if x = wd then some (s.means wd) else s.here x) = some v := e
      rw [if_pos hx] at e'
      injection e' with e'
      rw [← e']
      exact h.me wd
    · have e' : (if x = wd then some (s.means wd) else s.here x) = some v := e
      rw [if_neg hx] at e'
      exact h.he x v e'
theorem Inv.bind {p : Int} {s : St} (h : Inv In len q p s) (a : Int) (wd : ByteArray) (kd : Int) (hq : 0 ≤ q ∧ q < len) (hk : isItem ⟨a, kd, wd, q⟩ = true ∧ ¬ 2 < kd ∨ 2 < kd ∧ In q a ∧ a < p) : Inv In len q p (bind a wd kd s) := by
  have h0 := h.bind0 a wd
  obtain ⟨e1, e2, e3, e4⟩ := bind0_bs a wd s
  have eb : (Sc.bind a wd kd s).bs = s.bs ++ [⟨a, kd, wd, s.item⟩] := rfl
  have hl : (Sc.bind a wd kd s).bs.length = s.bs.length + 1 := by rw [eb]; simp
  have hit : s.item = q := h.it
  refine ⟨e4.trans h.it, fun b hb => ?_, fun u hu => ?_, fun x => ?_, fun x v e => ?_⟩
  · rw [eb] at hb
    rcases List.mem_append.1 hb with hb | hb
    · exact h.bd b hb
    · rw [List.mem_singleton] at hb
      subst hb
      rw [hit]
      rcases hk with ⟨k1, k2⟩ | ⟨k1, k2, _⟩
      · exact ⟨.inl k1, hq.1, hq.2, fun hh => absurd hh k2⟩
      · exact ⟨.inr k1, hq.1, hq.2, fun _ => k2⟩
  · rw [eb]
    exact (h.mn u (by rw [← e2]; exact hu)).ext
  · rw [hl, eb]
    show (if x = wd then (s.bs.length : Int) else s.means x) < _ ∧ Vis _ q p (if x = wd then (s.bs.length : Int) else s.means x)
    by_cases hx : x = wd
    · rw [if_pos hx]
      refine ⟨by omega, fun i e b hb hbk => ?_⟩
      have : i = s.bs.length := by omega
      subst this
      rw [List.getElem?_append_right (Nat.le_refl _)] at hb
      simp at hb
      subst hb
      rcases hk with ⟨_, k2⟩ | ⟨_, _, k3⟩
      · exact absurd hbk k2
      · exact ⟨hit, k3⟩
    · rw [if_neg hx]
      exact ⟨by have := (h.me x).1; omega, (h.me x).2.ext (h.me x).1⟩
  · have hv := h0.he x v e
    rw [e1] at hv
    rw [hl, eb]
    exact ⟨by have := hv.1; omega, hv.2.ext hv.1⟩
theorem men0_bs (a : Int) (wd : ByteArray) (wr : Bool) (s : St) : (men0 a wd wr s).1.bs = s.bs ∧ (men0 a wd wr s).1.ms = s.ms ∧ (men0 a wd wr s).1.means = s.means ∧ (men0 a wd wr s).1.here = s.here ∧ (men0 a wd wr s).1.item = s.item := by
  unfold men0
  split
  · exact ⟨rfl, rfl, rfl, rfl, rfl⟩
  · split
    · exact ⟨rfl, rfl, rfl, rfl, rfl⟩
    · split
      · exact ⟨rfl, rfl, rfl, rfl, rfl⟩
      · split <;> exact ⟨rfl, rfl, rfl, rfl, rfl⟩
theorem Inv.mention {p : Int} {s : St} (h : Inv In len q p s) (a : Int) (wd : ByteArray) (wr : Bool) (ha : p ≤ a) (hi : In q a) : Inv In len q p (mention a wd wr s) := by
  obtain ⟨e1, e2, e3, e4, e5⟩ := men0_bs a wd wr s
  have hbs : (Sc.mention a wd wr s).bs = s.bs := e1
  refine ⟨e5.trans h.it, fun b hb => h.bd b (by rw [← e1]; exact hb), fun u hu => ?_, fun x => ?_, fun x v e => ?_⟩
  · rw [hbs]
    have hu' : u ∈ s.ms ++ [⟨a, s.means wd, wr, (men0 a wd wr s).2⟩] := hu
    rcases List.mem_append.1 hu' with hu' | hu'
    · exact h.mn u hu'
    · rw [List.mem_singleton] at hu'
      subst hu'
      refine ⟨(h.me wd).1, fun i e b hb hbk => ?_⟩
      obtain ⟨k1, k2⟩ := (h.me wd).2 i e b hb hbk
      exact ⟨by show b.at_ ≤ a; omega, by show In b.item a; rw [k1]; exact hi⟩
  · rw [hbs]
    have : (Sc.mention a wd wr s).means = s.means := e3
    rw [this]
    exact h.me x
  · rw [hbs]
    exact h.he x v (by rw [← e4]; exact e)
theorem Inv.enter {p : Int} {s : St} (h : Inv In len q p s) (l : Int) : Inv In len q p (enter l s) := ⟨h.it, h.bd, h.mn, h.me, fun _ _ e => (nomatch e)⟩
theorem Inv.leave {p p' : Int} {o s : St} (ho : Inv In len q p o) (h : Inv In len q p' s) (hp : p ≤ p') (hx : ∃ l, s.bs = o.bs ++ l) : Inv In len q p' (leave o s) := by
  obtain ⟨l, hl⟩ := hx
  refine ⟨h.it, h.bd, h.mn, fun x => ?_, fun x v e => ?_⟩
  · show (s.here x).getD (s.means x) < _ ∧ Vis s.bs q p' ((s.here x).getD (s.means x))
    cases e : s.here x with
    | none => exact h.me x
    | some v => exact h.he x v e
  · have hv := ho.he x v e
    show v < (s.bs.length : Int) ∧ Vis s.bs q p' v
    rw [hl]
    exact ⟨by rw [List.length_append]; have := hv.1; omega, (hv.2.mono hp).ext hv.1⟩

theorem bind_ext (a : Int) (wd : ByteArray) (kd : Int) (s : St) : ∃ l, (bind a wd kd s).bs = s.bs ++ l := ⟨_, rfl⟩
theorem mention_ext (a : Int) (wd : ByteArray) (wr : Bool) (s : St) : (mention a wd wr s).bs = s.bs := (men0_bs a wd wr s).1
theorem ext_trans {a b c : List Bd} (h : ∃ l, b = a ++ l) (k : ∃ l, c = b ++ l) : ∃ l, c = a ++ l := by
  obtain ⟨l, rfl⟩ := h
  obtain ⟨m, rfl⟩ := k
  exact ⟨l ++ m, by rw [List.append_assoc]⟩
theorem nodes_inv {l : List Tok} (hq : 0 ≤ q ∧ q < len) : ∀ (k : Fo) (a t : Nat) (s : St), Apt l k a t → a ≤ t → (∀ n : Nat, a ≤ n → n < t → In q n) → Inv In len q a s → Inv In len q t (nodes (tr k) s) ∧ ∃ m, (nodes (tr k) s).bs = s.bs ++ m
  | .nil, a, t, s, _, hat, _, hs => by
    rw [tr, nodes]
    exact ⟨hs.mono (by omega), [], by simp⟩
  | .cons h k r, a, t, s, ⟨h1, h2, h3, h4, h5⟩, hat, hin, hs => by
    rw [tr, nodes]
    by_cases h0 : h.kind = 0
    · have hk := h2 h0
      subst hk
      rw [if_pos h0] at h5
      have e : node (hi_ h) (nodes (tr .nil)) s = s := by
        unfold node
        simp only [hi_, h0]
        rw [if_neg (by decide), if_neg (by decide), if_neg (by decide), if_neg (by decide), if_neg (by decide), if_neg (by decide), if_neg (by decide)]
        rw [tr, nodes]
      rw [e]
      exact nodes_inv hq r a t s h5 hat hin hs
    · unfold nodeOK at h1
      rw [if_neg h0] at h1
      rw [if_neg h0] at h5
      obtain ⟨k1, k2, k3, k4⟩ := h1
      have key : Inv In len q h.til (node (hi_ h) (nodes (tr k)) s) ∧ ∃ m, (node (hi_ h) (nodes (tr k)) s).bs = s.bs ++ m := by
        have hs1 : Inv In len q h.fro s := hs.mono (by omega)
        by_cases c2 : h.kind = 2
        · have e : node (hi_ h) (nodes (tr k)) s = s := by unfold node; rw [if_pos (by simp only [hi_]; omega)]
          rw [e]
          exact ⟨hs.mono (by omega), [], by simp⟩
        have ih := fun (s' : St) (h' : Inv In len q h.fro s') => nodes_inv hq k h.fro h.til s' (h4 h0 c2) k3 (fun n n1 n2 => hin n (by omega) (by omega)) h'
        unfold node
        rw [if_neg (by simp only [hi_]; omega)]
        by_cases c3 : h.kind = 3 ∨ h.kind = 6
        · rw [if_pos (by simp only [hi_]; omega)]
          obtain ⟨i1, i2⟩ := ih (enter 0 s) (hs1.enter 0)
          exact ⟨hs1.leave i1 (by omega) i2, i2⟩
        rw [if_neg (by simp only [hi_]; omega)]
        by_cases c28 : h.kind = 28
        · rw [if_pos (by simp only [hi_]; omega)]
          obtain ⟨i1, i2⟩ := ih (enter 1 s) (hs1.enter 1)
          exact ⟨hs1.leave i1 (by omega) i2, i2⟩
        rw [if_neg (by simp only [hi_]; omega)]
        have hn : named h.kind → h.fro ≤ h.at_ ∧ h.at_ < h.til := fun hn => by
          rcases k4 with ⟨_, k⟩ | ⟨_, k⟩
          · exact absurd hn k
          · exact k
        by_cases c5 : h.kind = 5
        · rw [if_pos (by simp only [hi_]; omega)]
          obtain ⟨n1, n2⟩ := hn (by unfold named; omega)
          exact ⟨(hs.mono (by omega : (a : Int) ≤ h.til)).bind _ _ 3 hq (.inr ⟨by omega, hin _ (by omega) (by omega), by simp only [hi_]; omega⟩), bind_ext _ _ _ _⟩
        rw [if_neg (by simp only [hi_]; omega)]
        by_cases c7 : h.kind = 7
        · rw [if_pos (by simp only [hi_]; omega)]
          obtain ⟨n1, n2⟩ := hn (by unfold named; omega)
          obtain ⟨i1, i2⟩ := ih s hs1
          exact ⟨i1.bind _ _ 4 hq (.inr ⟨by omega, hin _ (by omega) (by omega), by simp only [hi_]; omega⟩), ext_trans i2 (bind_ext _ _ _ _)⟩
        rw [if_neg (by simp only [hi_]; omega)]
        by_cases c8 : h.kind = 8
        · rw [if_pos (by simp only [hi_]; omega)]
          obtain ⟨n1, n2⟩ := hn (by unfold named; omega)
          obtain ⟨i1, i2⟩ := ih _ (hs1.mention (hi_ h).at_ (hi_ h).word true (by simp only [hi_]; omega) (hin _ (by omega) (by omega)))
          exact ⟨i1, by rw [mention_ext] at i2; exact i2⟩
        rw [if_neg (by simp only [hi_]; omega)]
        by_cases c23 : h.kind = 23
        · rw [if_pos (by simp only [hi_]; omega)]
          obtain ⟨n1, n2⟩ := hn (by unfold named; omega)
          exact ⟨(hs1.mention (hi_ h).at_ (hi_ h).word false (by simp only [hi_]; omega) (hin _ (by omega) (by omega))).mono (by omega), [], by rw [mention_ext]; simp⟩
        rw [if_neg (by simp only [hi_]; omega)]
        exact ih s hs1
      obtain ⟨j1, j2⟩ := key
      obtain ⟨m1, m2⟩ := nodes_inv hq r h.til t _ h5 k2 (fun n n1 n2 => hin n (by omega) n2) j1
      exact ⟨m1, ext_trans j2 m2⟩
/-- What words mean once the innermost scope is left. -/
def base (s : St) (x : ByteArray) : Int := (s.here x).getD (s.means x)
theorem base_bind (a : Int) (wd : ByteArray) (kd : Int) (s : St) (x : ByteArray) : base (bind a wd kd s) x = base s x := by
  have e : (bind a wd kd s).here = (bind0 a wd s).here := rfl
  have m : (bind a wd kd s).means x = if x = wd then (s.bs.length : Int) else s.means x := rfl
  unfold base
  rw [e, m]
  unfold bind0
  split
  · rename_i hs
    show (s.here x).getD _ = _
    by_cases hx : x = wd
    · subst hx
      cases hh : s.here x with
      | none => rw [hh] at hs; cases hs
      | some v => rfl
    · rw [if_neg hx]
  · rename_i hs
    show (if x = wd then some (s.means wd) else s.here x).getD _ = _
    by_cases hx : x = wd
    · subst hx
      rw [if_pos rfl]
      cases hh : s.here x with
      | none => rfl
      | some v => rw [hh] at hs; exact absurd rfl hs
    · rw [if_neg hx, if_neg hx]
theorem base_mention (a : Int) (wd : ByteArray) (wr : Bool) (s : St) (x : ByteArray) : base (mention a wd wr s) x = base s x := by
  have e : (mention a wd wr s).here = s.here := (men0_bs a wd wr s).2.2.2.1
  have m : (mention a wd wr s).means = s.means := (men0_bs a wd wr s).2.2.1
  unfold base
  rw [e, m]
theorem leave_means {l : Int} {s t : St} (h : ∀ x, base t x = base (enter l s) x) : (leave s t).means = s.means ∧ (leave s t).here = s.here := by
  refine ⟨funext fun x => ?_, rfl⟩
  exact h x
theorem base_leave {l : Int} {s t : St} (h : ∀ x, base t x = base (enter l s) x) (x : ByteArray) : base (leave s t) x = base s x := by
  unfold base
  rw [(leave_means h).1, (leave_means h).2]
theorem base_nodes : ∀ (k : Tr) (s : St) (x : ByteArray), base (nodes k s) x = base s x
  | .nil, s, x => by rw [nodes]
  | .cons h k r, s, x => by
    rw [nodes, base_nodes r]
    unfold node
    split
    · rfl
    · split
      · exact base_leave (fun x => base_nodes k _ x) x
      · split
        · exact base_leave (fun x => base_nodes k _ x) x
        · split
          · exact base_bind _ _ _ _ _
          · split
            · rw [base_bind, base_nodes k]
            · split
              · rw [base_nodes k, base_mention]
              · split
                · exact base_mention _ _ _ _ _
                · exact base_nodes k s x
end Sc
end Go.Proofs.Ytnefnnoleeeedaa
/- Contracts: nothing is free. -/
namespace Go.Proofs.Ytnefnnoleeeedaa
open Go.RowKit Go.Op
namespace Sc
open Vm

open Sb
/-- Is that a binding from outside, and no item? -/
def outB (f t : Int) (x : Bd) : Bool := !isItem x && (decide (x.at_ < f) || decide (t ≤ x.at_))
set_option maxHeartbeats 4000000 in
set_option maxRecDepth 100000 in
theorem w36_any (x : Bd) (f t : Int) (q1 q2 : Nat) (w : World) (r1 : RowB w q1 3 #[.int .i64 f]) (r2 : RowB w q2 3 #[.int .i64 t]) :
    Calls Try.prog 36 #[.agg #[.int .i64 x.at_, .int .i64 x.kind, .string x.word, .int .i64 x.item], .pointer (some ⟨q1, 0, none⟩), .pointer (some ⟨q2, 0, none⟩)] w fun e w' => e = .returned (.bool (outB f t x)) ∧ Below w.heap.size w w' := by
  have HB := Lib.hid (belA w (.cells #[.int .i64 x.at_, .int .i64 x.kind, .string x.word, .int .i64 x.item] 45))
  have CC := Lib.hid (isItem_any x (w.alloc (.cells #[.int .i64 x.at_, .int .i64 x.kind, .string x.word, .int .i64 x.item] 45)))
  have R1 := Lib.hid (r1.alloc (.cells #[.int .i64 x.at_, .int .i64 x.kind, .string x.word, .int .i64 x.item] 45))
  have R2 := Lib.hid (r2.alloc (.cells #[.int .i64 x.at_, .int .i64 x.kind, .string x.word, .int .i64 x.item] 45))
  have RN := Lib.hid (RowB.new w 45 #[.int .i64 x.at_, .int .i64 x.kind, .string x.word, .int .i64 x.item])
  obtain ⟨p, hp⟩ : ∃ p, p = isItem x := ⟨_, rfl⟩
  have HO : Hid (outB f t x = (!p && (decide (x.at_ < f) || decide (t ≤ x.at_)))) := by rw [hp]; rfl
  rw [← hp] at CC
  obtain ⟨o, ho⟩ : ∃ o, o = outB f t x := ⟨_, rfl⟩
  rw [← ho] at HO ⊢
  obtain ⟨a, k, wd, it⟩ := x
  simp only at *
  clear r1 r2 hp ho
  cases p with
  | true =>
    have ho : o = false := by rw [HO.out]; rfl
    subst ho
    go_enter Try.func36, Try.ntmps36
    go_wp2_with fail
    refine CC.out.mono ?_
    rintro e w2 ⟨rfl, h2⟩
    have H2 := Lib.hid (HB.out.trans (h2.mono (by simp)))
    clear h2 CC
    go_wp2_with fail
    (first | go_ret | go_ret2)
    exact ⟨by first | rfl | simp, H2.out⟩
  | false =>
    by_cases h1 : a < f
    · have ho : o = true := by rw [HO.out]; simp [h1]
      subst ho
      have h1' : decide (a < f) = true := decide_eq_true h1
      go_enter Try.func36, Try.ntmps36
      go_wp2_with fail
      refine CC.out.mono ?_
      rintro e w2 ⟨rfl, h2⟩
      have H2 := Lib.hid (HB.out.trans (h2.mono (by simp)))
      have y0 := (RN.out.below h2 RN.out.lt).cell
      have y1 := (R1.out.below h2 R1.out.lt).cell
      have y2 := (R2.out.below h2 R2.out.lt).cell
      clear h2 CC
      go_wp2_with fail
      (first | go_ret | go_ret2)
      exact ⟨by first | rfl | simp, H2.out⟩
    · have h1' : decide (a < f) = false := decide_eq_false h1
      have ho : o = decide (t ≤ a) := by rw [HO.out]; simp [h1]
      subst ho
      go_enter Try.func36, Try.ntmps36
      go_wp2_with fail
      refine CC.out.mono ?_
      rintro e w2 ⟨rfl, h2⟩
      have H2 := Lib.hid (HB.out.trans (h2.mono (by simp)))
      have y0 := (RN.out.below h2 RN.out.lt).cell
      have y1 := (R1.out.below h2 R1.out.lt).cell
      have y2 := (R2.out.below h2 R2.out.lt).cell
      clear h2 CC
      go_wp2_with fail
      (first | go_ret | go_ret2)
      exact ⟨by first | rfl | simp, H2.out⟩
set_option maxHeartbeats 4000000 in
set_option maxRecDepth 100000 in
theorem cmp_none (A : Option Addr) (c : Nat) (w : World) : Calls Try.prog 57 #[.slice A 0 c] w fun e w' => e = .returned (.slice A 0 c) ∧ Below w.heap.size w w' := by
  have HB := Lib.hid (Below.refl w.heap.size w)
  go_enter Try.func57, Try.ntmps57
  go_wp2_with fail
  (first | go_ret | go_ret2)
  exact ⟨by first | rfl | simp, HB.out⟩

/-- No token from the one place up to the other one means a local from outside. -/
def NoOut (f t : Int) (bs : List Bd) (ms : List Mn) : Prop := ∀ u, u ∈ ms → f ≤ u.at_ → u.at_ < t → ∀ i : Nat, u.to = (i : Int) → ∀ x, bs[i]? = some x → outB f t x = false
set_option maxHeartbeats 8000000 in
set_option maxRecDepth 100000 in
theorem among_none (f t : Int) (q1 q2 : Nat) (w : World) (r1 : RowB w q1 3 #[.int .i64 f]) (r2 : RowB w q2 3 #[.int .i64 t]) {A1 A2 A3 : Option Addr} {c1 c2 n3 c3 lo hi : Nat} {bs : List Bd} {ms : List Mn}
    (h1 : RowAt w lo hi bdC 4 A1 bs) (h2 : RowAt w lo hi mnC 4 A2 ms) (hh : hi ≤ w.heap.size) (hb : bs.length ≤ 1000000000) (hn : ms.length ≤ 1000000000) (hno : NoOut f t bs ms) :
    Calls Try.prog 35 #[mapv A1 bs.length c1 A2 ms.length c2 A3 n3 c3, .int .i64 f, .int .i64 t, .func (.func 36) #[] #[.pointer (some ⟨q1, 0, none⟩), .pointer (some ⟨q2, 0, none⟩)]] w fun e w' => e = .returned (.slice none 0 0) ∧ Below w.heap.size w w' := by
  have HL := Lib.hid h2
  have HK := Lib.hid h1
  have R1 := Lib.hid r1
  have R2 := Lib.hid r2
  have HNO := Lib.hid hno
  have HH := Lib.hid hh
  have e36 : ∀ args w, (callFunc 36 args).run Try.prog w = .ok (.enter 36 args) w := enters_of Try.func36 (by kernel_rfl) rfl
  obtain ⟨n, hn0⟩ : ∃ n, n = ms.length := ⟨_, rfl⟩
  obtain ⟨nb, hb0⟩ : ∃ nb, nb = bs.length := ⟨_, rfl⟩
  have HN0 := Lib.hid hn0
  have HB0 := Lib.hid hb0
  rw [← hn0] at hn ⊢
  rw [← hb0] at hb ⊢
  obtain ⟨bx, hbx⟩ : ∃ bx, bx = w.heap.size := ⟨_, rfl⟩
  obtain ⟨W1, hW1⟩ : ∃ W1, W1 = w.alloc (.cells #[.slice A1 nb c1, .slice A2 n c2, .slice A3 n3 c3] 34) := ⟨_, rfl⟩
  have RB := Lib.hid (show RowB W1 bx 34 #[.slice A1 nb c1, .slice A2 n c2, .slice A3 n3 c3] by rw [hW1, hbx]; exact RowB.new w 34 _)
  have HB1 := Lib.hid (show Below w.heap.size w W1 by rw [hW1]; exact belA w _)
  have HWA := Lib.hid hW1
  have HBX := Lib.hid hbx
  clear h1 h2 r1 r2 hn0 hb0 hno hh hW1 hbx
  simp only [mapv]
  go_enter Try.func35, Try.ntmps35
  have y0 := RB.out.cell
  rw [HBX.out] at y0
  rw [HWA.out] at y0
  go_wp2_with fail
  clear y0
  rw [← HWA.out, ← HBX.out]
  go_loopg [9, 15] (n + 1) (fun kx s9 s15 wr => s9 = .slice none 0 0 ∧ ∃ (j : Nat), s15 = .int .i64 j ∧ n - j ≤ kx ∧ j ≤ n ∧ Hid (Below w.heap.size w wr) ∧ Hid (RowB wr bx 34 #[.slice A1 nb c1, .slice A2 n c2, .slice A3 n3 c3]))
  case atStart => exact ⟨rfl, 0, rfl, by omega, by omega, HB1.out, RB.out⟩
  case round =>
    obtain ⟨rfl, j, rfl, hkx, hjn, HB, RX⟩ := hrel
    by_cases hj : j < n
    · have hjl : (j : Int) < (n : Int) := by omega
      obtain ⟨u, hu⟩ : ∃ u, ms[j]? = some u := ⟨ms[j]'(by rw [← HN0.out]; exact hj), List.getElem?_eq_getElem _⟩
      obtain ⟨g, rfl, hg1, hg2, hc⟩ := HL.out (by rw [← HN0.out]; omega)
      have hcc := fun o v hv => (HB.out.cell (p := ⟨g, j * 4 + o, none⟩) (by show g < w.heap.size; have := HH.out; omega)).trans (hc j u hu o v hv)
      have d0 : wr.cell? ⟨g, j * 4, none⟩ = some (.int .i64 u.at_) := hcc 0 _ rfl
      have d1 : wr.cell? ⟨g, j * 4 + 1, none⟩ = some (.int .i64 u.to) := hcc 1 _ rfl
      have d2 : wr.cell? ⟨g, j * 4 + 2, none⟩ = some (.bool u.write) := hcc 2 _ rfl
      have d3 : wr.cell? ⟨g, j * 4 + 3, none⟩ = some (.int .i64 u.far) := hcc 3 _ rfl
      have HU := Lib.hid (HNO.out u (List.mem_of_getElem? hu))
      obtain ⟨k, hk⟩ : ∃ k, k = j + 1 := ⟨_, rfl⟩
      have ek : IntKind.i64.wrap ((j : Int) + 1) = (k : Int) := by rw [IntKind.wrap_i64]; omega
      have HKK := Lib.hid hk
      obtain ⟨W2, hW2⟩ : ∃ W2, W2 = wr.alloc (.cells #[.int .i64 u.at_, .int .i64 u.to, .bool u.write, .int .i64 u.far] 47) := ⟨_, rfl⟩
      have HB2 := Lib.hid (show Below w.heap.size w W2 by rw [hW2]; exact HB.out.alloc HB.out.size _)
      have RX2 := Lib.hid (show RowB W2 bx 34 _ by rw [hW2]; exact RX.out.alloc _)
      have RU := Lib.hid (show RowB W2 wr.heap.size 47 #[.int .i64 u.at_, .int .i64 u.to, .bool u.write, .int .i64 u.far] by rw [hW2]; exact RowB.new wr 47 _)
      clear hu hc hcc hk
      by_cases k1 : f ≤ u.at_
      · by_cases k2 : u.at_ < t
        · have k1' : decide (f ≤ u.at_) = true := decide_eq_true k1
          have k2' : decide (u.at_ < t) = true := decide_eq_true k2
          have HU2 := Lib.hid (HU.out k1 k2)
          have y0 := (RX.out.alloc (.cells #[.int .i64 u.at_, .int .i64 u.to, .bool u.write, .int .i64 u.far] 47)).cell
          have HG := HH.out
          have CH := has_any A1 nb c1 (some ⟨g, 0, none⟩) n c2 A3 n3 c3 u.to W2
          rw [hW2] at CH
          have CH := Lib.hid CH
          have HW2 := Lib.hid hW2
          obtain ⟨hb2, hhb⟩ : ∃ v, v = hasB nb u.to := ⟨_, rfl⟩
          rw [← hhb] at CH
          clear hW2
          cases hb2 with
          | false =>
            clear hhb HU2
            go_wp2_with fail
            refine CH.out.mono ?_
            rintro e w3 ⟨rfl, h3⟩
            rw [← HW2.out] at h3
            have HB3 := Lib.hid (HB2.out.trans (h3.mono HB2.out.size))
            have RX3 := Lib.hid (RX2.out.below h3 RX2.out.lt)
            clear h3 CH y0 d0 d1 d2 d3
            go_wp2_with fail
            have hk := HKK.out
            go_roundg (n - k)
            case measure => omega
            case rel => exact ⟨rfl, k, rfl, by omega, by omega, HB3.out, RX3.out⟩
          | true =>
            have hh2 : 0 ≤ u.to ∧ u.to < (nb : Int) := by
              unfold hasB at hhb
              have := hhb.symm
              simpa using this
            clear hhb
            obtain ⟨i, hi⟩ : ∃ i : Nat, u.to = (i : Int) := ⟨u.to.toNat, by omega⟩
            have hil : (i : Int) < (nb : Int) := by omega
            obtain ⟨x, hx⟩ : ∃ x, bs[i]? = some x := ⟨bs[i]'(by rw [← HB0.out]; omega), List.getElem?_eq_getElem _⟩
            have HOX := Lib.hid (HU2.out i hi x hx)
            obtain ⟨gb, eA1, _, hgb, hcb⟩ := HK.out (by rw [← HB0.out]; omega)
            subst eA1
            rw [hi] at CH y0 d1 RU HW2
            have HCB := Lib.hid (hcb i x hx)
            have HHI := Lib.hid hi
            clear hcb hx HU2 hh2 hi
            go_wp2_with fail
            refine CH.out.mono ?_
            rintro e w3 ⟨rfl, h3⟩
            have HB3 : Hid (Below w.heap.size w w3) := HB2.out.trans ((show Below W2.heap.size W2 w3 by rw [HW2.out]; exact h3).mono HB2.out.size)
            have RX3 : Hid (RowB w3 bx 34 _) := RX2.out.below (show Below W2.heap.size W2 w3 by rw [HW2.out]; exact h3) RX2.out.lt
            have RU3 : Hid (RowB w3 wr.heap.size 47 #[.int .i64 u.at_, .int .i64 (i : Int), .bool u.write, .int .i64 u.far]) := RU.out.below (show Below W2.heap.size W2 w3 by rw [HW2.out]; exact h3) RU.out.lt
            have CX := Lib.hid (w36_any x f t q1 q2 w3 (R1.out.below HB3.out R1.out.lt) (R2.out.below HB3.out R2.out.lt))
            rw [HOX.out] at CX
            have hcc3 := fun o v hv => (HB3.out.cell (p := ⟨gb, i * 4 + o, none⟩) (by show gb < w.heap.size; have := HH.out; omega)).trans (HCB.out o v hv)
            have b0 : w3.cell? ⟨gb, i * 4, none⟩ = some (.int .i64 x.at_) := hcc3 0 _ rfl
            have b1 : w3.cell? ⟨gb, i * 4 + 1, none⟩ = some (.int .i64 x.kind) := hcc3 1 _ rfl
            have b2 : w3.cell? ⟨gb, i * 4 + 2, none⟩ = some (.string x.word) := hcc3 2 _ rfl
            have b3 : w3.cell? ⟨gb, i * 4 + 3, none⟩ = some (.int .i64 x.item) := hcc3 3 _ rfl
            have y3 := RX3.out.cell
            have y4 := RU3.out.cell
            clear h3 CH y0 d0 d1 d2 d3 hcc3
            go_wp2_with fail
            refine CX.out.mono ?_
            rintro e w4 ⟨rfl, h4⟩
            have HB4 := Lib.hid (HB3.out.trans (h4.mono HB3.out.size))
            have RX4 := Lib.hid (RX3.out.below h4 RX3.out.lt)
            clear h4 CX b0 b1 b2 b3 y3 y4
            go_wp2_with fail
            have hk := HKK.out
            go_roundg (n - k)
            case measure => omega
            case rel => exact ⟨rfl, k, rfl, by omega, by omega, HB4.out, RX4.out⟩
        · have k1' : decide (f ≤ u.at_) = true := decide_eq_true k1
          have k2' : decide (u.at_ < t) = false := decide_eq_false k2
          go_wp2_with fail
          rw [← hW2]
          have hk := HKK.out
          go_roundg (n - k)
          case measure => omega
          case rel => exact ⟨rfl, k, rfl, by omega, by omega, HB2.out, RX2.out⟩
      · have k1' : decide (f ≤ u.at_) = false := decide_eq_false k1
        go_wp2_with fail
        rw [← hW2]
        have hk := HKK.out
        go_roundg (n - k)
        case measure => omega
        case rel => exact ⟨rfl, k, rfl, by omega, by omega, HB2.out, RX2.out⟩
    · have hd1 : decide ((j : Int) < (n : Int)) = false := decide_eq_false (by omega)
      have cs := AnyM.slices_Sort_int_none srtI none 0 wr
      change Calls Try.prog 32 _ _ _ at cs
      have CS := Lib.hid cs
      have CP := Lib.hid (cmp_none none 0 wr)
      clear cs
      go_wp2_with fail
      refine CS.out.mono ?_
      rintro e w3 ⟨rfl, rfl⟩
      clear CS
      go_wp2_with fail
      refine CP.out.mono ?_
      rintro e w4 ⟨rfl, h4⟩
      have H4 := Lib.hid (HB.out.trans (h4.mono HB.out.size))
      clear h4 CP
      go_wp2_with fail
      (first | go_ret | go_ret2)
      exact ⟨by first | rfl | simp, H4.out⟩

set_option maxHeartbeats 4000000 in
set_option maxRecDepth 100000 in
theorem free_none (f t : Int) {w : World} {A1 A2 A3 : Option Addr} {c1 c2 n3 c3 lo hi : Nat} {bs : List Bd} {ms : List Mn}
    (h1 : RowAt w lo hi bdC 4 A1 bs) (h2 : RowAt w lo hi mnC 4 A2 ms) (hh : hi ≤ w.heap.size) (hb : bs.length ≤ 1000000000) (hn : ms.length ≤ 1000000000) (hno : NoOut f t bs ms) :
    Calls Try.prog 16 #[mapv A1 bs.length c1 A2 ms.length c2 A3 n3 c3, .int .i64 f, .int .i64 t] w fun e w' => e = .returned (.slice none 0 0) ∧ Below w.heap.size w w' := by
  obtain ⟨n, hn0⟩ : ∃ n, n = ms.length := ⟨_, rfl⟩
  obtain ⟨nb, hb0⟩ : ∃ nb, nb = bs.length := ⟨_, rfl⟩
  have hmf : ∀ (fn : Fn) (first cap : Array Value) (w : World), (Instr.makeFunc fn first cap).run Try.prog w = .ok (.func fn first cap) w := fun _ _ _ _ => rfl
  obtain ⟨W1, hW1⟩ : ∃ W1, W1 = ((w.alloc (.cells #[.slice A1 nb c1, .slice A2 n c2, .slice A3 n3 c3] 34)).alloc (.cells #[.int .i64 f] 3)).alloc (.cells #[.int .i64 t] 3) := ⟨_, rfl⟩
  have B1 : Below w.heap.size w W1 := by rw [hW1]; exact ((belA w _).alloc (by simp) _).alloc (by simp; omega) _
  have r0 : RowB W1 w.heap.size 34 #[.slice A1 nb c1, .slice A2 n c2, .slice A3 n3 c3] := by rw [hW1]; exact ((RowB.new w 34 _).alloc _).alloc _
  have r1 : RowB W1 (w.heap.size + 1) 3 #[.int .i64 f] := by
    have := RowB.new (w.alloc (.cells #[.slice A1 nb c1, .slice A2 n c2, .slice A3 n3 c3] 34)) 3 #[.int .i64 f]
    rw [show (w.alloc (.cells #[.slice A1 nb c1, .slice A2 n c2, .slice A3 n3 c3] 34)).heap.size = w.heap.size + 1 by simp] at this
    rw [hW1]
    exact this.alloc _
  have r2 : RowB W1 (w.heap.size + 2) 3 #[.int .i64 t] := by
    have := RowB.new ((w.alloc (.cells #[.slice A1 nb c1, .slice A2 n c2, .slice A3 n3 c3] 34)).alloc (.cells #[.int .i64 f] 3)) 3 #[.int .i64 t]
    rw [show ((w.alloc (.cells #[.slice A1 nb c1, .slice A2 n c2, .slice A3 n3 c3] 34)).alloc (.cells #[.int .i64 f] 3)).heap.size = w.heap.size + 2 by simp] at this
    rw [hW1]
    exact this
  have CA := Lib.hid (among_none (A3 := A3) (c1 := c1) (c2 := c2) (n3 := n3) (c3 := c3) f t (w.heap.size + 1) (w.heap.size + 2) W1 r1 r2 (h1.keep fun g k1 k2 => B1.block g (by omega)) (h2.keep fun g k1 k2 => B1.block g (by omega)) (Nat.le_trans hh B1.size) hb hn hno)
  have HB1 := Lib.hid B1
  have HW1 := Lib.hid hW1
  rw [← hn0, ← hb0] at CA ⊢
  simp only [mapv] at CA ⊢
  clear B1 r0 r1 r2 h1 h2 hn0 hb0 hW1 hno hb hn
  go_enter Try.func16, Try.ntmps16
  go_wp2_with fail
  rw [show w.heap.size + 1 + 1 = w.heap.size + 2 from rfl, ← HW1.out]
  refine CA.out.mono ?_
  rintro e w2 ⟨rfl, hb2⟩
  have HB2 := Lib.hid (HB1.out.trans (hb2.mono HB1.out.size))
  clear hb2 CA HB1 HW1
  go_wp2_with fail
  (first | go_ret | go_ret2)
  exact ⟨by first | rfl | simp, HB2.out⟩
end Sc
end Go.Proofs.Ytnefnnoleeeedaa
