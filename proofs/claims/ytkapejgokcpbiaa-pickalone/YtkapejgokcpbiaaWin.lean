/- The plain mathematics of windows: quotients rounded down and up, what follows of releases, deadlines, bits and group deadlines. -/
namespace Go.Proofs.Ytkapejgokcpbiaa
set_option linter.unusedVariables false

/-- A quotient rounded up. -/
def cl (a b : Int) : Int := (a + b - 1) / b
def rel (e p i : Int) : Int := (i - 1) * p / e
def dl (e p i : Int) : Int := cl (i * p) e
def bt (e p i : Int) : Int := if i * p % e = 0 then 0 else 1
def gp (e p i : Int) : Int := cl (cl (dl e p i * (p - e)) p * p) (p - e)

theorem cl_spec (a : Int) {b : Int} (hb : 0 < b) : ∃ s, 0 ≤ s ∧ s < b ∧ cl a b * b = a + s := by
  have h := Int.mul_ediv_add_emod (a + b - 1) b
  have h0 := Int.emod_nonneg (a + b - 1) (Int.ne_of_gt hb)
  have h1 := Int.emod_lt_of_pos (a + b - 1) hb
  rw [Int.mul_comm] at h
  refine ⟨b - 1 - (a + b - 1) % b, by omega, by omega, ?_⟩
  unfold cl
  omega

theorem fl_spec (a : Int) {b : Int} (hb : 0 < b) : ∃ t, 0 ≤ t ∧ t < b ∧ a / b * b + t = a ∧ t = a % b := by
  have h := Int.mul_ediv_add_emod a b
  rw [Int.mul_comm] at h
  exact ⟨a % b, Int.emod_nonneg a (Int.ne_of_gt hb), Int.emod_lt_of_pos a hb, h, rfl⟩

theorem cl_unique {a b q s : Int} (hb : 0 < b) (h0 : 0 ≤ s) (h1 : s < b) (h : q * b = a + s) : cl a b = q := by
  unfold cl
  have e : a + b - 1 = (b - 1 - s) + q * b := by omega
  rw [e, Int.add_mul_ediv_right _ _ (Int.ne_of_gt hb), Int.ediv_eq_zero_of_lt (by omega) (by omega)]
  omega

theorem fl_unique {a b q t : Int} (hb : 0 < b) (h0 : 0 ≤ t) (h1 : t < b) (h : q * b + t = a) : a / b = q := by
  have e : a = t + q * b := by omega
  rw [e, Int.add_mul_ediv_right _ _ (Int.ne_of_gt hb), Int.ediv_eq_zero_of_lt h0 h1]
  omega

theorem lt_mul {a b c : Int} (hc : 0 < c) (h : a * c < b * c) : a < b := Int.lt_of_mul_lt_mul_right h (Int.le_of_lt hc)
theorem le_mul {a b c : Int} (hc : 0 < c) (h : a * c ≤ b * c) : a ≤ b := Int.le_of_mul_le_mul_right h hc

theorem cl_le {a b q : Int} (hb : 0 < b) (h : a ≤ q * b) : cl a b ≤ q := by
  obtain ⟨s, h0, h1, hs⟩ := cl_spec a hb
  have : cl a b * b < (q + 1) * b := by rw [Int.add_mul]; omega
  have := lt_mul hb this
  omega
theorem le_cl {a b q : Int} (hb : 0 < b) (h : q * b ≤ a) : q ≤ cl a b := by
  obtain ⟨s, h0, h1, hs⟩ := cl_spec a hb
  exact le_mul hb (by omega)

theorem cl_scale (a : Int) {b n : Int} (hb : 0 < b) (hn : 0 < n) : cl (a * n) (b * n) = cl a b := by
  obtain ⟨s, h0, h1, hs⟩ := cl_spec a hb
  refine cl_unique (s := s * n) (Int.mul_pos hb hn) (Int.mul_nonneg h0 (Int.le_of_lt hn)) (Int.mul_lt_mul_of_pos_right h1 hn) ?_
  rw [← Int.mul_assoc, hs, Int.add_mul]
theorem fl_scale (a : Int) {b n : Int} (hb : 0 < b) (hn : 0 < n) : a * n / (b * n) = a / b := by
  obtain ⟨t, h0, h1, ht, _⟩ := fl_spec a hb
  refine fl_unique (t := t * n) (Int.mul_pos hb hn) (Int.mul_nonneg h0 (Int.le_of_lt hn)) (Int.mul_lt_mul_of_pos_right h1 hn) ?_
  rw [← Int.mul_assoc, ← Int.add_mul, ht]

/-- A task: e quanta in p. -/
structure Task (e p : Int) : Prop where
  e1 : 1 ≤ e
  ep : e ≤ p
  pm : p ≤ 1048575
structure Quan (e p i : Int) : Prop extends Task e p where
  i1 : 1 ≤ i
  ie : i ≤ e

variable {e p i : Int}

theorem mul_bd {a b c d : Int} (h0 : 0 ≤ a) (h1 : a ≤ c) (h2 : 0 ≤ b) (h3 : b ≤ d) : 0 ≤ a * b ∧ a * b ≤ c * d :=
  ⟨Int.mul_nonneg h0 h2, Int.mul_le_mul h1 h3 h2 (by omega)⟩

theorem ip_bd (h : Quan e p i) : 0 ≤ i * p ∧ i * p ≤ 1099509530625 := by
  have := h.e1; have := h.ep; have := h.pm; have := h.i1; have := h.ie
  exact mul_bd (a := i) (b := p) (c := 1048575) (d := 1048575) (by omega) (by omega) (by omega) (by omega)
theorem jp_bd (h : Quan e p i) : 0 ≤ (i - 1) * p ∧ (i - 1) * p ≤ 1099509530625 := by
  have := h.e1; have := h.ep; have := h.pm; have := h.i1; have := h.ie
  exact mul_bd (a := i - 1) (b := p) (c := 1048575) (d := 1048575) (by omega) (by omega) (by omega) (by omega)

theorem rel_fac (h : Quan e p i) : rel e p i * e ≤ (i - 1) * p ∧ (i - 1) * p < (rel e p i + 1) * e := by
  obtain ⟨t, h0, h1, ht, _⟩ := fl_spec ((i - 1) * p) (b := e) (by have := h.e1; omega)
  rw [Int.add_mul]; unfold rel; omega
theorem dl_fac (h : Quan e p i) : i * p ≤ dl e p i * e ∧ (dl e p i - 1) * e < i * p := by
  obtain ⟨s, h0, h1, hs⟩ := cl_spec (i * p) (b := e) (by have := h.e1; omega)
  rw [Int.sub_mul]; unfold dl; omega
theorem sub_one_mul (i p : Int) : (i - 1) * p = i * p - p := by rw [Int.sub_mul]; omega
theorem rel_lt_dl (h : Quan e p i) : rel e p i < dl e p i := by
  have h1 := (rel_fac h).1
  have h2 := (dl_fac h).1
  rw [sub_one_mul] at h1
  have := h.e1; have := h.ep
  exact lt_mul (c := e) (by omega) (by omega)
theorem rel_bd (h : Quan e p i) : 0 ≤ rel e p i ∧ rel e p i < p := by
  have h1 := (rel_fac h).1
  have hj := (jp_bd h).1
  have he := h.e1; have hp := h.ep; have hi := h.ie; have hi1 := h.i1
  refine ⟨Int.ediv_nonneg hj (by omega), lt_mul (c := e) (by omega) ?_⟩
  have : i * p ≤ e * p := Int.mul_le_mul_of_nonneg_right hi (by omega)
  rw [Int.mul_comm p e]
  rw [sub_one_mul] at h1
  omega
theorem dl_le (h : Quan e p i) : dl e p i ≤ p := by
  have he := h.e1; have hp := h.ep; have hi := h.ie
  have : i * p ≤ e * p := Int.mul_le_mul_of_nonneg_right hi (by omega)
  exact cl_le (by omega) (by rw [Int.mul_comm p e]; exact this)
theorem dl_bd (h : Quan e p i) : 1 ≤ dl e p i ∧ dl e p i ≤ p := by
  have := rel_lt_dl h; have := (rel_bd h).1; have := dl_le h
  omega
theorem rel_one : rel e p 1 = 0 := by unfold rel; simp
theorem dl_last (h1 : 1 ≤ e) : dl e p e = p := by
  unfold dl
  exact cl_unique (s := 0) (by omega) (Int.le_refl _) (by omega) (by rw [Int.mul_comm p e]; omega)
theorem bt_last (h1 : 1 ≤ e) : bt e p e = 0 := by
  unfold bt; rw [if_pos]; exact Int.mul_emod_right e p
theorem bt_01 : bt e p i = 0 ∨ bt e p i = 1 := by unfold bt; split <;> omega

/-- Windows follow each other, overlapping by their bit. -/
theorem follow (h1 : 1 ≤ e) : dl e p i - rel e p (i + 1) = bt e p i := by
  obtain ⟨t, h0, ht1, ht, hm⟩ := fl_spec (i * p) (b := e) (by omega)
  have hr : rel e p (i + 1) = i * p / e := by unfold rel; rw [show i + 1 - 1 = i by omega]
  rw [hr]
  unfold bt dl
  rw [← hm]
  by_cases c : t = 0
  · rw [if_pos c, cl_unique (q := i * p / e) (s := 0) (by omega) (by omega) (by omega) (by omega)]; omega
  · rw [if_neg c, cl_unique (q := i * p / e + 1) (s := e - t) (by omega) (by omega) (by omega) (by rw [Int.add_mul]; omega)]; omega

/-- What the idle job has by the deadline, rounded up, is the deadline less the quanta had. -/
theorem idle_eq (h : Task e p) : cl (dl e p i * (p - e)) p = dl e p i - i := by
  have he := h.e1; have hp := h.ep
  obtain ⟨s, h0, h1, hs⟩ := cl_spec (i * p) (b := e) (by omega)
  refine cl_unique (s := s) (by omega) h0 (by omega) ?_
  have hd : dl e p i * e = i * p + s := hs
  rw [Int.sub_mul, Int.mul_sub, hd]
  omega

theorem gp_eq (h : Task e p) : gp e p i = cl ((dl e p i - i) * p) (p - e) := by unfold gp; rw [idle_eq h]

theorem idle_bd (h : Quan e p i) : 0 ≤ dl e p i - i ∧ dl e p i - i ≤ p - e := by
  have he := h.e1; have hp := h.ep; have hi := h.i1
  have hd := dl_bd h
  rw [← idle_eq h.toTask]
  constructor
  · refine le_cl (by omega) ?_
    rw [Int.zero_mul]; exact Int.mul_nonneg (by omega) (by omega)
  · refine cl_le (by omega) ?_
    rw [Int.mul_comm]
    exact Int.mul_le_mul_of_nonneg_left hd.2 (by omega)

theorem gp_bd (h : Quan e p i) (hl : e < p) : dl e p i ≤ gp e p i ∧ gp e p i ≤ p := by
  have he := h.e1; have hp := h.ep
  have hb := idle_bd h
  obtain ⟨s, h0, h1, hs⟩ := cl_spec (i * p) (b := e) (by omega)
  have hd : dl e p i * e = i * p + s := hs
  rw [gp_eq h.toTask]
  constructor
  · refine le_cl (by omega) ?_
    rw [Int.sub_mul, Int.mul_sub, hd]; omega
  · refine cl_le (by omega) ?_
    rw [Int.mul_comm p]
    exact Int.mul_le_mul_of_nonneg_right hb.2 (by omega)

theorem gp_zero (h : Quan e p i) (hl : e < p) (hb : bt e p i = 0) : gp e p i = dl e p i := by
  have he := h.e1; have hp := h.ep
  have hz : i * p % e = 0 := by
    unfold bt at hb; split at hb
    · assumption
    · omega
  obtain ⟨t, h0, ht1, ht, hm⟩ := fl_spec (i * p) (b := e) (by omega)
  have hd : dl e p i = i * p / e := cl_unique (s := 0) (by omega) (by omega) (by omega) (by omega)
  have hd2 : dl e p i * e = i * p := by rw [hd]; omega
  rw [gp_eq h.toTask]
  refine cl_unique (s := 0) (by omega) (by omega) (by omega) ?_
  rw [Int.sub_mul, Int.mul_sub, hd2]; omega

theorem bt_one_lt (h : Quan e p i) (hb : bt e p i = 1) : i < e := by
  have := h.ie
  rcases Int.lt_or_eq_of_le this with c | c
  · exact c
  · subst c; rw [bt_last h.e1] at hb; omega

theorem gp_same (h : Task e p) (hb : bt e p i = 1) (hn : dl e p (i + 1) - rel e p (i + 1) = 2) : gp e p (i + 1) = gp e p i := by
  have hf := follow (p := p) (i := i) h.e1
  rw [gp_eq h, gp_eq h]
  have : dl e p (i + 1) - (i + 1) = dl e p i - i := by omega
  rw [this]

theorem gp_three (h : Task e p) (hl : e < p) (hb : bt e p i = 1) (hn : dl e p (i + 1) - rel e p (i + 1) = 3) : gp e p i = dl e p (i + 1) - 1 := by
  have hf := follow (p := p) (i := i) h.e1
  have he := h.e1; have hp := h.ep
  have hd1 : dl e p (i + 1) = dl e p i + 2 := by omega
  rw [gp_eq h]
  obtain ⟨s, h0, h1, hs⟩ := cl_spec (i * p) (b := e) (by omega)
  have hd : dl e p i * e = i * p + s := hs
  obtain ⟨s', h0', h1', hs'⟩ := cl_spec ((i + 1) * p) (b := e) (by omega)
  have hd' : dl e p (i + 1) * e = (i + 1) * p + s' := hs'
  have hs0 : s ≠ 0 := by
    intro c
    have : bt e p i = 0 := by
      unfold bt; rw [if_pos]
      have : i * p = dl e p i * e := by omega
      rw [this]; exact Int.mul_emod_left _ _
    omega
  rw [hd1, Int.add_mul, Int.add_mul] at hd'
  rw [hd1]
  refine cl_unique (s := p - e - s) (by omega) ?_ (by omega) ?_
  · omega
  · rw [show dl e p i + 2 - 1 = dl e p i + 1 by omega, Int.add_mul, Int.sub_mul, Int.mul_sub, hd]; omega

/-- How long windows are. -/
theorem length_bd (h : Quan e p i) : cl p e ≤ dl e p i - rel e p i ∧ dl e p i - rel e p i ≤ cl p e + 1 := by
  have he := h.e1
  obtain ⟨s, h0, h1, hs⟩ := cl_spec p (b := e) (by omega)
  obtain ⟨s', h0', h1', hs'⟩ := cl_spec (i * p) (b := e) (by omega)
  have hd : dl e p i * e = i * p + s' := hs'
  obtain ⟨t, ht0, ht1, ht, _⟩ := fl_spec ((i - 1) * p) (b := e) (by omega)
  have hr : rel e p i * e + t = (i - 1) * p := ht
  rw [sub_one_mul] at hr
  constructor
  · have : cl p e * e < (dl e p i - rel e p i + 1) * e := by rw [Int.add_mul, Int.sub_mul]; omega
    have := lt_mul (by omega) this
    omega
  · have : (dl e p i - rel e p i) * e < (cl p e + 2) * e := by rw [Int.add_mul, Int.sub_mul]; omega
    have := lt_mul (by omega) this
    omega

theorem cl_heavy (he : 1 ≤ e) (h : p ≤ 2 * e) : cl p e ≤ 2 := cl_le (by omega) h
theorem cl_light (he : 1 ≤ e) (h : 2 * e < p) : 3 ≤ cl p e := by
  obtain ⟨s, h0, h1, hs⟩ := cl_spec p (b := e) (by omega)
  have : 2 * e < cl p e * e := by omega
  have := lt_mul (by omega) this
  omega
theorem cl_more (he : 1 ≤ e) (h : e < p) : 2 ≤ cl p e := by
  obtain ⟨s, h0, h1, hs⟩ := cl_spec p (b := e) (by omega)
  have : 1 * e < cl p e * e := by omega
  have := lt_mul (by omega) this
  omega
theorem cl_bd (he : 1 ≤ e) (h : e ≤ p) : 1 ≤ cl p e ∧ cl p e ≤ p := by
  refine ⟨le_cl (by omega) (by omega), cl_le (by omega) ?_⟩
  have := Int.mul_le_mul_of_nonneg_left he (show 0 ≤ p by omega)
  omega

theorem length_23 (h : Quan e p i) (hl : e < p) (hh : p ≤ 2 * e) : dl e p i - rel e p i = 2 ∨ dl e p i - rel e p i = 3 := by
  have := length_bd h; have := cl_heavy h.e1 hh; have := cl_more h.e1 hl
  omega

/-- As many times the quanta in as many times the period. -/
theorem rel_scale {n : Int} (he : 0 < e) (hn : 0 < n) : rel (e * n) (p * n) i = rel e p i := by
  unfold rel; rw [← Int.mul_assoc, fl_scale _ he hn]
theorem dl_scale {n : Int} (he : 0 < e) (hn : 0 < n) : dl (e * n) (p * n) i = dl e p i := by
  unfold dl; rw [← Int.mul_assoc, cl_scale _ he hn]
theorem bt_scale {n : Int} (he : 0 < e) (hn : 0 < n) : bt (e * n) (p * n) i = bt e p i := by
  unfold bt
  rw [← Int.mul_assoc, Int.mul_comm (i * p) n, Int.mul_comm e n, Int.mul_emod_mul_of_pos _ _ hn]
  by_cases c : i * p % e = 0
  · rw [if_pos c, if_pos (by rw [c, Int.mul_zero])]
  · rw [if_neg c, if_neg]
    intro h
    rcases Int.mul_eq_zero.1 h with h | h
    · omega
    · exact c h
theorem gp_scale {n : Int} (he : 0 < e) (hl : e < p) (hn : 0 < n) : gp (e * n) (p * n) i = gp e p i := by
  unfold gp
  rw [dl_scale he hn, ← Int.sub_mul, ← Int.mul_assoc, cl_scale _ (by omega) hn, ← Int.mul_assoc, cl_scale _ (by omega) hn]

theorem dl_next (h : Task e p) : dl e p i < dl e p (i + 1) := by
  have he := h.e1; have hp := h.ep
  obtain ⟨s, h0, h1, hs⟩ := cl_spec (i * p) (b := e) (by omega)
  obtain ⟨s', h0', h1', hs'⟩ := cl_spec ((i + 1) * p) (b := e) (by omega)
  rw [Int.add_mul] at hs'
  have : dl e p i * e < dl e p (i + 1) * e := by unfold dl; rw [hs, Int.add_mul, hs']; omega
  exact lt_mul (by omega) this

end Go.Proofs.Ytkapejgokcpbiaa
