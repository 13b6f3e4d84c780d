/- Who sits where: plain. Three rounds over the ids in rising order: who goes on, who comes back, the others. -/
import Derived.Test.YtnmdidglfegdcaaDoorA1
namespace Go.Proofs.YtnmdidglfegdcaaDoor
set_option linter.unusedVariables false

/-- A function turned at one id. -/
def up {α : Type} (f : Int → α) (x : Int) (v : α) : Int → α := fun i => if i = x then v else f i
theorem up_same {α : Type} (f : Int → α) (x : Int) (v : α) : up f x v x = v := by simp [up]
theorem up_other {α : Type} (f : Int → α) {x y : Int} (v : α) (h : y ≠ x) : up f x v y = f y := by simp [up, h]

/-- What is dealt out: by id its core; whether a core is taken. -/
structure Sg where
  G : Int → Option Nat
  T : Nat → Bool
theorem Sg.ext' {s t : Sg} (h1 : s.G = t.G) (h2 : s.T = t.T) : s = t := by cases s; cases t; simp_all
def Sg.on (s : Sg) (x : Int) (c : Nat) : Sg := ⟨up s.G x (some c), upd s.T c true⟩
def step (el : Sg → Int → Option Nat) (s : Sg) (x : Int) : Sg := match el s x with
  | some c => s.on x c
  | none => s
theorem step_some {el : Sg → Int → Option Nat} {s : Sg} {x : Int} {c : Nat} (h : el s x = some c) : step el s x = s.on x c := by unfold step; rw [h]
theorem step_none {el : Sg → Int → Option Nat} {s : Sg} {x : Int} (h : el s x = none) : step el s x = s := by unfold step; rw [h]
/-- One round. -/
def pass (el : Sg → Int → Option Nat) (l : List Int) (s : Sg) : Sg := l.foldl (step el) s
theorem pass_cons (el : Sg → Int → Option Nat) (x : Int) (l : List Int) (s : Sg) : pass el (x :: l) s = pass el l (step el s x) := rfl
theorem pass_append (el : Sg → Int → Option Nat) (l m : List Int) (s : Sg) : pass el (l ++ m) s = pass el m (pass el l s) := List.foldl_append
theorem pass_take {el : Sg → Int → Option Nat} {l : List Int} {s : Sg} {i : Nat} (h : i < l.length) : pass el (l.take (i + 1)) s = step el (pass el (l.take i) s) (l.getD i 0) := by
  rw [List.take_succ_eq_append_getElem h, pass_append]
  simp [pass, List.getD_eq_getElem?_getD, List.getElem?_eq_getElem h]

/-- Who may have which core in each round. -/
def el1 (A : Int → Option Nat) (N : Int → Bool) (s : Sg) (x : Int) : Option Nat := if s.G x = none ∧ N x = true then A x else none
def el2 (A : Int → Option Nat) (s : Sg) (x : Int) : Option Nat := if s.G x = none then (A x).bind fun c => if s.T c = true then none else some c else none
def low (T : Nat → Bool) : Nat := ((List.range 64).find? fun c => !T c).getD 64
def el3 (s : Sg) (x : Int) : Option Nat := if s.G x = none then some (low s.T) else none
def start (k : Nat) : Sg := ⟨fun _ => none, fun c => decide (k ≤ c)⟩
def r1 (k : Nat) (A : Int → Option Nat) (N : Int → Bool) (l : List Int) : Sg := pass (el1 A N) l (start k)
def r2 (k : Nat) (A : Int → Option Nat) (N : Int → Bool) (l : List Int) : Sg := pass (el2 A) l (r1 k A N l)
def sit (k : Nat) (A : Int → Option Nat) (N : Int → Bool) (l : List Int) : Sg := pass el3 l (r2 k A N l)

theorem low_eq {T : Nat → Bool} {m : Nat} (h : T m = false) (hm : m < 64) (hl : ∀ j, j < m → T j = true) : low T = m := by
  unfold low
  have : (List.range 64).find? (fun c => !T c) = some m := by
    rw [List.find?_range_eq_some]
    exact ⟨by simp [h], List.mem_range.2 hm, fun j hj => by simp [hl j hj]⟩
  rw [this]; rfl
theorem low_spec {T : Nat → Bool} {c : Nat} (h : T c = false) (hc : c < 64) : T (low T) = false ∧ low T ≤ c ∧ ∀ j, j < low T → T j = true := by
  cases e : (List.range 64).find? (fun c => !T c) with
  | none =>
    rw [List.find?_range_eq_none] at e
    have := e c hc
    simp [h] at this
  | some m =>
    have hlow : low T = m := by unfold low; rw [e]; rfl
    rw [List.find?_range_eq_some] at e
    obtain ⟨a, b, d⟩ := e
    rw [hlow]
    refine ⟨by simpa using a, ?_, fun j hj => by simpa using d j hj⟩
    rcases Nat.lt_or_ge c m with q | q
    · have := d c q; simp [h] at this
    · exact q

/-- What holds of the cores that ids had, and of those that sit now. -/
structure Ok (k : Nat) (A : Int → Option Nat) (N : Int → Bool) : Prop where
  lt : ∀ x c, A x = some c → c < k
  has : ∀ x, N x = true → A x ≠ none
  inj : ∀ x y c, N x = true → N y = true → A x = some c → A y = some c → x = y
structure Iv (k : Nat) (l : List Int) (s : Sg) : Prop where
  mem : ∀ x c, s.G x = some c → x ∈ l ∧ c < k ∧ s.T c = true
  tk : ∀ c, s.T c = true → k ≤ c ∨ ∃ x, s.G x = some c
  out : ∀ c, k ≤ c → s.T c = true
  inj : ∀ x y c, s.G x = some c → s.G y = some c → x = y
theorem Ok.begin (k : Nat) : Ok k (fun _ => none) (fun _ => false) := ⟨fun x c h => (by cases h), fun x h => (by cases h), fun x y c h => (by cases h)⟩
theorem Iv.begin (k : Nat) (l : List Int) : Iv k l (start k) := ⟨fun x c h => (by cases h), fun c h => .inl (by simpa [start] using h), fun c h => (by simpa [start] using h), fun x y c h => (by cases h)⟩

section
variable {k : Nat} {l : List Int} {s : Sg} {A : Int → Option Nat} {N : Int → Bool} {el : Sg → Int → Option Nat} {x y : Int} {c : Nat}
theorem on_same : (s.on x c).G x = some c := up_same _ _ _
theorem on_other (h : y ≠ x) : (s.on x c).G y = s.G y := up_other _ _ h
theorem on_T : (s.on x c).T c = true := upd_same _ _ _
theorem on_To {d : Nat} (h : d ≠ c) : (s.on x c).T d = s.T d := upd_other _ _ h
theorem on_T' {d : Nat} (h : s.T d = true) : (s.on x c).T d = true := by
  by_cases e : d = c
  · subst e; exact on_T
  · rw [on_To e, h]
theorem Iv.on (h : Iv k l s) (hx : x ∈ l) (hG : s.G x = none) (hc : c < k) (hT : s.T c = false) : Iv k l (s.on x c) := by
  refine ⟨fun y d hy => ?_, fun d hd => ?_, fun d hd => on_T' (h.out d hd), fun y z d hy hz => ?_⟩
  · by_cases e : y = x
    · subst e; rw [on_same] at hy; cases hy; exact ⟨hx, hc, on_T⟩
    · rw [on_other e] at hy
      obtain ⟨a, b, e⟩ := h.mem y d hy
      exact ⟨a, b, on_T' e⟩
  · by_cases e : d = c
    · subst e; exact .inr ⟨x, on_same⟩
    · rw [on_To e] at hd
      rcases h.tk d hd with q | ⟨y, q⟩
      · exact .inl q
      · refine .inr ⟨y, ?_⟩
        rw [on_other (fun e => by subst e; rw [hG] at q; cases q)]; exact q
  · by_cases e1 : y = x
    · by_cases e2 : z = x
      · rw [e1, e2]
      · subst e1; rw [on_same] at hy; cases hy; rw [on_other e2] at hz
        rw [(h.mem z c hz).2.2] at hT; cases hT
    · rw [on_other e1] at hy
      by_cases e2 : z = x
      · subst e2; rw [on_same] at hz; cases hz
        rw [(h.mem y c hy).2.2] at hT; cases hT
      · rw [on_other e2] at hz; exact h.inj y z d hy hz

theorem pass_inv {P : Sg → Prop} (h : ∀ s x c, x ∈ l → P s → el s x = some c → P (s.on x c)) : ∀ {m : List Int}, (∀ x ∈ m, x ∈ l) → ∀ {s : Sg}, P s → P (pass el m s)
  | [], _, _, hs => hs
  | x :: m, hm, s, hs => by
    rw [pass_cons]
    refine pass_inv h (fun y hy => hm y (by simp [hy])) ?_
    cases e : el s x with
    | none => rw [step_none e]; exact hs
    | some c => rw [step_some e]; exact h s x c (hm x (by simp)) hs e
/-- What has a core is asked no more. -/
def Fresh (el : Sg → Int → Option Nat) : Prop := ∀ s x, s.G x ≠ none → el s x = none
theorem fresh1 : Fresh (el1 A N) := fun s x h => by unfold el1; rw [if_neg (fun q => h q.1)]
theorem fresh2 : Fresh (el2 A) := fun s x h => by unfold el2; rw [if_neg h]
theorem fresh3 : Fresh el3 := fun s x h => by unfold el3; rw [if_neg h]
theorem Fresh.none (hf : Fresh el) (h : el s x = some c) : s.G x = none := Classical.byContradiction fun q => by rw [hf s x q] at h; cases h
theorem step_keep (hf : Fresh el) (h : s.G x = some c) : (step el s y).G x = some c := by
  cases e : el s y with
  | none => rw [step_none e]; exact h
  | some d =>
    rw [step_some e, on_other (fun q => by subst q; rw [hf.none e] at h; cases h)]; exact h
theorem pass_keep (hf : Fresh el) : ∀ {m : List Int} {s : Sg}, s.G x = some c → (pass el m s).G x = some c
  | [], _, h => h
  | y :: m, s, h => by rw [pass_cons]; exact pass_keep hf (step_keep hf h)
/-- Whoever is asked, and would have a core whenever asked, has one in the end. -/
theorem pass_done (hf : Fresh el) (hx : ∀ s, s.G x = none → el s x ≠ none) : ∀ {m : List Int} {s : Sg}, x ∈ m → (pass el m s).G x ≠ none
  | y :: m, s, h => by
    rw [pass_cons]
    by_cases e : y = x
    · subst e
      have : (step el s y).G y ≠ none := by
        by_cases q : s.G y = none
        · cases e : el s y with
          | none => exact absurd e (hx s q)
          | some d => rw [step_some e, on_same]; simp
        · cases e : s.G y with
          | none => exact absurd e q
          | some d => rw [step_keep hf e]; simp
      cases e : (step el s y).G y with
      | none => exact absurd e this
      | some d => rw [pass_keep hf e]; simp
    · rcases List.mem_cons.1 h with q | q
      · exact absurd q.symm e
      · exact pass_done hf hx q

/-- After the first round. -/
structure P1 (k : Nat) (l : List Int) (A : Int → Option Nat) (N : Int → Bool) (s : Sg) : Prop where
  iv : Iv k l s
  on : ∀ x c, s.G x = some c → N x = true ∧ A x = some c
theorem P1.step (ok : Ok k A N) (s : Sg) (x : Int) (c : Nat) (hx : x ∈ l) (h : P1 k l A N s) (he : el1 A N s x = some c) : P1 k l A N (s.on x c) := by
  unfold el1 at he
  by_cases q : s.G x = none ∧ N x = true
  · rw [if_pos q] at he
    obtain ⟨hG, hN⟩ := q
    have hT : s.T c = false := by
      cases e : s.T c with
      | false => rfl
      | true =>
        rcases h.iv.tk c e with z | ⟨y, hy⟩
        · have := ok.lt x c he; omega
        · obtain ⟨a, b⟩ := h.on y c hy
          have := ok.inj y x c a hN b he
          subst this; rw [hG] at hy; cases hy
    refine ⟨h.iv.on hx hG (ok.lt x c he) hT, fun y d hy => ?_⟩
    by_cases e : y = x
    · subst e; rw [on_same] at hy; cases hy; exact ⟨hN, he⟩
    · rw [on_other e] at hy; exact h.on y d hy
  · rw [if_neg q] at he; cases he
theorem r1_p1 (ok : Ok k A N) : P1 k l A N (r1 k A N l) := pass_inv (P := P1 k l A N) (P1.step ok) (fun _ h => h) ⟨Iv.begin k l, fun x c h => (by cases h)⟩
theorem r1_G (ok : Ok k A N) (x : Int) : (r1 k A N l).G x = if x ∈ l ∧ N x = true then A x else none := by
  have p := r1_p1 (l := l) ok
  by_cases q : x ∈ l ∧ N x = true
  · rw [if_pos q]
    have := pass_done (el := el1 A N) (s := start k) (x := x) fresh1 (fun s hs => by unfold el1; rw [if_pos ⟨hs, q.2⟩]; exact ok.has x q.2) q.1
    cases e : (r1 k A N l).G x with
    | none => exact absurd e this
    | some c => exact (p.on x c e).2.symm
  · rw [if_neg q]
    cases e : (r1 k A N l).G x with
    | none => rfl
    | some c => exact absurd ⟨(p.iv.mem x c e).1, (p.on x c e).1⟩ q
/-- In whatever order they are asked. -/
theorem r1_perm {m : List Int} (ok : Ok k A N) (h : ∀ x, x ∈ m ↔ x ∈ l) : r1 k A N m = r1 k A N l := by
  have hG : (r1 k A N m).G = (r1 k A N l).G := funext fun x => by simp only [r1_G ok, h x]
  refine Sg.ext' hG (funext fun c => ?_)
  have p := (r1_p1 (l := l) ok).iv
  have p' := (r1_p1 (l := m) ok).iv
  cases e : (r1 k A N l).T c with
  | true =>
    rcases p.tk c e with q | ⟨x, q⟩
    · exact p'.out c q
    · rw [← hG] at q; exact (p'.mem x c q).2.2
  | false =>
    cases e' : (r1 k A N m).T c with
    | false => rfl
    | true =>
      rcases p'.tk c e' with q | ⟨x, q⟩
      · rw [p.out c q] at e; cases e
      · rw [hG] at q; rw [(p.mem x c q).2.2] at e; cases e

theorem el2_spec (he : el2 A s x = some c) : s.G x = none ∧ A x = some c ∧ s.T c = false := by
  unfold el2 at he
  by_cases q : s.G x = none
  · rw [if_pos q] at he
    cases e : A x with
    | none => rw [e] at he; cases he
    | some d =>
      rw [e] at he
      simp only [Option.bind_some] at he
      by_cases z : s.T d = true
      · rw [if_pos z] at he; cases he
      · rw [if_neg z] at he; cases he; exact ⟨q, rfl, by simpa using z⟩
  · rw [if_neg q] at he; cases he
theorem r2_iv (ok : Ok k A N) : Iv k l (r2 k A N l) := pass_inv (P := Iv k l) (fun s x c hx h he => by
  obtain ⟨a, b, d⟩ := el2_spec he
  exact h.on hx a (ok.lt x c b) d) (fun _ h => h) (r1_p1 ok).iv

/-- There is a free core while one of the ids has none. -/
theorem free_left (h : Iv k l s) (hl : l.length ≤ k) (hx : x ∈ l) (hG : s.G x = none) : ∃ c, c < k ∧ s.T c = false := by
  refine Classical.byContradiction fun q => ?_
  have all : ∀ c, c < k → ∃ y, s.G y = some c := fun c hc => by
    have : s.T c = true := by
      cases e : s.T c with
      | true => rfl
      | false => exact absurd ⟨c, hc, e⟩ q
    rcases h.tk c this with z | z
    · omega
    · exact z
  have sub : List.range k ⊆ (l.filter fun y => (s.G y).isSome).map fun y => (s.G y).getD 0 := fun c hc => by
    obtain ⟨y, hy⟩ := all c (List.mem_range.1 hc)
    exact List.mem_map.2 ⟨y, List.mem_filter.2 ⟨(h.mem y c hy).1, by rw [hy]; rfl⟩, by rw [hy]; rfl⟩
  have h1 := List.nodup_range.length_le_of_subset sub
  rw [List.length_map, List.length_range] at h1
  have h2 : (l.filter fun y => (s.G y).isSome).length < l.length := by
    refine List.length_filter_lt_length_iff_exists.2 ⟨x, hx, by rw [hG]; simp⟩
  omega
theorem el3_low (h : Iv k l s) (hk : k ≤ 64) (hl : l.length ≤ k) (hx : x ∈ l) (he : el3 s x = some c) : s.G x = none ∧ c = low s.T ∧ c < k ∧ s.T c = false := by
  unfold el3 at he
  by_cases q : s.G x = none
  · rw [if_pos q] at he
    cases he
    obtain ⟨d, hd, hT⟩ := free_left h hl hx q
    obtain ⟨a, b, _⟩ := low_spec hT (by omega)
    exact ⟨q, rfl, by omega, a⟩
  · rw [if_neg q] at he; cases he
theorem iv3 (hk : k ≤ 64) (hl : l.length ≤ k) (s : Sg) (x : Int) (c : Nat) (hx : x ∈ l) (h : Iv k l s) (he : el3 s x = some c) : Iv k l (s.on x c) := by
  obtain ⟨a, b, d, e⟩ := el3_low h hk hl hx he
  exact h.on hx a d e
theorem sit_iv (ok : Ok k A N) (hk : k ≤ 64) (hl : l.length ≤ k) : Iv k l (sit k A N l) := pass_inv (P := Iv k l) (iv3 hk hl) (fun _ h => h) (r2_iv ok)
theorem sit_all (hx : x ∈ l) : (sit k A N l).G x ≠ none := pass_done fresh3 (fun s hs => by unfold el3; rw [if_pos hs]; simp) hx
theorem sit_on (ok : Ok k A N) (hx : x ∈ l) (hN : N x = true) : (sit k A N l).G x = A x := by
  have h1 := r1_G (l := l) ok x
  rw [if_pos ⟨hx, hN⟩] at h1
  cases e : A x with
  | none => exact absurd e (ok.has x hN)
  | some c =>
    rw [e] at h1
    exact pass_keep fresh3 (pass_keep fresh2 h1)
theorem sit_out (ok : Ok k A N) (hk : k ≤ 64) (hl : l.length ≤ k) (hx : x ∉ l) : (sit k A N l).G x = none := by
  cases e : (sit k A N l).G x with
  | none => rfl
  | some c => exact absurd ((sit_iv ok hk hl).mem x c e).1 hx

/-- What ids had, and who sits, afterwards. -/
def nxA (s : Sg) (A : Int → Option Nat) (x : Int) : Option Nat := match s.G x with
  | some c => some c
  | none => A x
def nxN (s : Sg) (x : Int) : Bool := (s.G x).isSome
theorem nxA_some (h : s.G x = some c) : nxA s A x = some c := by unfold nxA; rw [h]
theorem nxA_none (h : s.G x = none) : nxA s A x = A x := by unfold nxA; rw [h]
theorem Ok.next (ok : Ok k A N) (h : Iv k l s) : Ok k (nxA s A) (nxN s) := by
  have one : ∀ x, nxN s x = true → ∃ c, s.G x = some c := fun x hx => by
    unfold nxN at hx
    exact Option.isSome_iff_exists.1 hx
  refine ⟨fun x c hx => ?_, fun x hx => ?_, fun x y c hx hy ax ay => ?_⟩
  · cases e : s.G x with
    | none => rw [nxA_none e] at hx; exact ok.lt x c hx
    | some d => rw [nxA_some e] at hx; cases hx; exact (h.mem x c e).2.1
  · obtain ⟨c, e⟩ := one x hx
    rw [nxA_some e]; simp
  · obtain ⟨d, e⟩ := one x hx
    obtain ⟨d', e'⟩ := one y hy
    rw [nxA_some e] at ax
    rw [nxA_some e'] at ay
    cases ax; cases ay
    exact h.inj x y c e e'
theorem Ok.forget (ok : Ok k A N) (x : Int) : Ok k (up A x none) (up N x false) := by
  refine ⟨fun y c hy => ?_, fun y hy => ?_, fun y z c hy hz ay az => ?_⟩
  · by_cases e : y = x
    · subst e; rw [up_same] at hy; cases hy
    · rw [up_other _ _ e] at hy; exact ok.lt y c hy
  · by_cases e : y = x
    · subst e; rw [up_same] at hy; cases hy
    · rw [up_other _ _ e] at hy ⊢; exact ok.has y hy
  · by_cases e : y = x
    · subst e; rw [up_same] at hy; cases hy
    · by_cases e' : z = x
      · subst e'; rw [up_same] at hz; cases hz
      · rw [up_other _ _ e] at hy ay
        rw [up_other _ _ e'] at hz az
        exact ok.inj y z c hy hz ay az

/-! ### the least one that may, again and again -/
structure Sel (el : Sg → Int → Option Nat) : Prop where
  fresh : Fresh el
  mono : ∀ s x y c, el s x = some c → el s y = none → el (s.on x c) y = none
theorem Sel.self (h : Sel el) : el (s.on x c) x = none := h.fresh _ _ (by rw [on_same]; simp)
theorem sel2 : Sel (el2 A) := ⟨fresh2, fun s x y c hx hy => by
  by_cases e : y = x
  · subst e; rw [hx] at hy; cases hy
  · unfold el2 at hy ⊢
    rw [on_other e]
    by_cases q : s.G y = none
    · rw [if_pos q] at hy ⊢
      cases h : A y with
      | none => rfl
      | some d =>
        rw [h] at hy
        simp only [Option.bind_some] at hy ⊢
        by_cases z : s.T d = true
        · rw [if_pos (on_T' z)]
        · rw [if_neg z] at hy; cases hy
    · rw [if_neg q]⟩
theorem sel3 : Sel el3 := ⟨fresh3, fun s x y c hx hy => by
  by_cases e : y = x
  · subst e; rw [hx] at hy; cases hy
  · unfold el3 at hy ⊢
    rw [on_other e]
    by_cases q : s.G y = none
    · rw [if_pos q] at hy; cases hy
    · rw [if_neg q]⟩
theorem pass_none : ∀ {m : List Int}, (∀ x ∈ m, el s x = none) → pass el m s = s
  | [], _ => rfl
  | x :: m, h => by rw [pass_cons, step_none (h x (by simp))]; exact pass_none (fun y hy => h y (by simp [hy]))
theorem pass_least (hs : Sel el) : ∀ {m : List Int}, m.Pairwise (· < ·) → x ∈ m → el s x = some c → (∀ y ∈ m, y < x → el s y = none) → pass el m (s.on x c) = pass el m s
  | z :: m, hp, hx, he, hl => by
    obtain ⟨h1, h2⟩ := List.pairwise_cons.1 hp
    rw [pass_cons, pass_cons]
    by_cases e : z = x
    · subst e
      rw [step_some he, step_none hs.self]
    · have hx' : x ∈ m := by
        rcases List.mem_cons.1 hx with q | q
        · exact absurd q.symm e
        · exact q
      have hz := hl z (by simp) (h1 x hx')
      rw [step_none hz, step_none (hs.mono s x z c he hz)]
      exact pass_least hs h2 hx' he (fun y hy => hl y (by simp [hy]))
end

/-! ### ids in rising order -/
/-- The ids, sorted. -/
def rise (l : List Int) : List Int := l.mergeSort fun x y => decide (x ≤ y)
theorem rise_perm (l : List Int) : (rise l).Perm l := List.mergeSort_perm l _
theorem rise_mem (l : List Int) (x : Int) : x ∈ rise l ↔ x ∈ l := (rise_perm l).mem_iff
theorem rise_length (l : List Int) : (rise l).length = l.length := (rise_perm l).length_eq
theorem rise_le (l : List Int) : (rise l).Pairwise (· ≤ ·) := by
  have := List.pairwise_mergeSort (le := fun x y : Int => decide (x ≤ y)) (fun a b c h1 h2 => by simp only [decide_eq_true_eq] at *; omega) (fun a b => by simp only [Bool.or_eq_true, decide_eq_true_eq]; omega) l
  exact this.imp (fun h => by simpa using h)
theorem rise_lt {l : List Int} (h : l.Nodup) : (rise l).Pairwise (· < ·) := by
  have hn : (rise l).Nodup := (rise_perm l).nodup_iff.2 h
  exact (rise_le l).imp₂ (fun a b h1 h2 => by omega) hn
theorem rise_eq {l m : List Int} (h : l.Perm m) : rise l = rise m := by
  refine ((rise_perm l).trans (h.trans (rise_perm m).symm)).eq_of_pairwise (le := fun a b => a ≤ b) (fun a b _ _ h1 h2 => by omega) (rise_le l) (rise_le m)
end Go.Proofs.YtnmdidglfegdcaaDoor
