import PyProof.Rows.All
import Wide.All
import OpenK.AllK
import Wide.FinOn
import HandS.ForMost
import HandS.Style
import HandS.TupAny
import HandS.Strs
import HandS.IsInst
import HandS.StrMore
import HandS.Walk
import KE.GoesEnum
import KE.GoesMore
import HandS.Star
import HandS.Conv
import HandS.ClsMeth
import HandS.MakeKw
import PyProof.ReprLen
import HandS.Set
import HandS.SetTxt0
import PyProof.Rows.SortShellAny
import HandS.More
import PySem.Challenge.RW_whatleaves_k06_whole_clauses_go_by_kinds
section
set_option autoImplicit true
namespace K2
open PySem

abbrev Row := Str × List Str
def barredL : List String := ["pass", "raise", "from", "none", "again", "return", "returns", "break", "call", "handling", "else", "either", "or", "loop", "try", "except", "as", "finally", "with", "quiet", "class", "def", "error", "vacant"]
def barred : List Str := barredL.map Str.ofString
def resd : List Str := barred.take 22
def sErr : Str := Str.ofString "error"
def sVac : Str := Str.ofString "vacant"
def codes (x : Str) : List Nat := x.cps.toList
def txt (l : List Nat) : Str := ⟨l.toArray⟩
theorem codes_txt (l : List Nat) : codes (txt l) = l := by simp [codes, txt]
theorem txt_codes (x : Str) : txt (codes x) = x := by cases x; simp [codes, txt]
theorem codes_inj {x y : Str} (h : codes x = codes y) : x = y := by rw [← txt_codes x, ← txt_codes y, h]

/-- a text of small letters -/
def Low (l : List Nat) : Prop := ∀ c ∈ l, 97 ≤ c ∧ c ≤ 122
/-- a word of the document -/
structure VW (x : Str) : Prop where
  low : Low (codes x)
  ne : codes x ≠ []
  le : (codes x).length ≤ 8
  nr : x ∉ resd
theorem vw_err : VW sErr := ⟨by unfold Low; decide +kernel, by decide +kernel, by decide +kernel, by decide +kernel⟩
theorem vw_vac : VW sVac := ⟨by unfold Low; decide +kernel, by decide +kernel, by decide +kernel, by decide +kernel⟩
theorem err_ne_vac : sErr ≠ sVac := by decide +kernel
theorem mem_resd {x : Str} (h : x ∈ resd) : x ∈ barred := List.mem_of_mem_take h
theorem err_barred : sErr ∈ barred := by decide +kernel
theorem vac_barred : sVac ∈ barred := by decide +kernel

/-! ### words -/
def wordAt (base : List Nat) (spot : Nat) (sign : Nat) : List Nat := base.take spot ++ [sign] ++ base.drop spot
def signAt (first hop k : Nat) : Nat := 97 + (first + hop * k) % 26
def finalAt (base : List Nat) (spot first hop k : Nat) : List Nat :=
  let w := wordAt base spot (signAt first hop k)
  w ++ (if 26 ≤ k then [113] else if txt w ∈ barred then [122] else [])
theorem barred_end : ∀ b ∈ barred, ∀ c, (codes b).getLast? = some c → c ≠ 113 ∧ c ≠ 122 := by
  have h : ∀ b ∈ barred, (codes b).getLast? ≠ some 113 ∧ (codes b).getLast? ≠ some 122 := by decide +kernel
  intro b hb c hc
  have := h b hb
  refine ⟨fun e => this.1 (by rw [hc, e]), fun e => this.2 (by rw [hc, e])⟩
theorem low_wordAt (hb : Low base) (h1 : 97 ≤ sign) (h2 : sign ≤ 122) : Low (wordAt base spot sign) := by
  intro c hc
  unfold wordAt at hc
  rcases List.mem_append.mp hc with hc | hc
  · rcases List.mem_append.mp hc with hc | hc
    · exact hb c (List.mem_of_mem_take hc)
    · have : c = sign := by simpa using hc
      omega
  · exact hb c (List.mem_of_mem_drop hc)
theorem len_wordAt (base : List Nat) (spot sign : Nat) : (wordAt base spot sign).length = base.length + 1 := by
  unfold wordAt
  simp only [List.length_append, List.length_take, List.length_drop, List.length_singleton]
  omega
theorem sign_lo (f h k : Nat) : 97 ≤ signAt f h k ∧ signAt f h k ≤ 122 := by
  unfold signAt; omega
theorem sign_ne {f hop i j : Nat} (hh : hop ∈ [1, 3, 5, 7, 9, 11]) (h1 : i < j) (h2 : j < i + 26) : signAt f hop i ≠ signAt f hop j := by
  unfold signAt
  simp only [List.mem_cons, List.not_mem_nil, or_false] at hh
  rcases hh with rfl | rfl | rfl | rfl | rfl | rfl <;> omega
theorem word_ne {base : List Nat} {spot s t : Nat} (h : s ≠ t) : wordAt base spot s ≠ wordAt base spot t := by
  unfold wordAt
  intro e
  rw [List.append_assoc, List.append_assoc] at e
  have := List.append_cancel_left e
  have h2 : s = t := by simpa using (List.cons.inj this).1
  exact h h2
theorem vw_final {base : List Nat} (hb : Low base) (hl : base.length ≤ 6) (spot f hop k : Nat) : VW (txt (finalAt base spot f hop k)) ∧ txt (finalAt base spot f hop k) ∉ barred := by
  have hw := low_wordAt (spot := spot) hb (sign_lo f hop k).1 (sign_lo f hop k).2
  have hlen := len_wordAt base spot (signAt f hop k)
  have nb : txt (finalAt base spot f hop k) ∉ barred := by
    intro hm
    have he := barred_end _ hm
    rw [codes_txt] at he
    by_cases h1 : 26 ≤ k
    · unfold finalAt at he
      simp only [h1, if_true] at he
      exact (he 113 (by simp)).1 rfl
    · by_cases h2 : txt (wordAt base spot (signAt f hop k)) ∈ barred
      · unfold finalAt at he
        simp only [h1, if_false, h2, if_true] at he
        exact (he 122 (by simp)).2 rfl
      · unfold finalAt at hm
        simp only [h1, if_false, h2, if_false, List.append_nil] at hm
  refine ⟨⟨?_, ?_, ?_, fun h => nb (mem_resd h)⟩, nb⟩
  · rw [codes_txt]
    unfold finalAt
    intro c hc
    rcases List.mem_append.mp hc with hc | hc
    · exact hw c hc
    · split at hc
      · have : c = 113 := by simpa using hc
        omega
      · split at hc
        · have : c = 122 := by simpa using hc
          omega
        · cases hc
  · rw [codes_txt]
    intro e
    have : (finalAt base spot f hop k).length = 0 := by rw [e]; rfl
    unfold finalAt at this
    rw [List.length_append, hlen] at this
    omega
  · rw [codes_txt]
    unfold finalAt
    rw [List.length_append, hlen]
    split
    · show base.length + 1 + 1 ≤ 8; omega
    · split
      · show base.length + 1 + 1 ≤ 8; omega
      · show base.length + 1 + 0 ≤ 8; omega
theorem final_ne {base : List Nat} {spot f hop i j : Nat} (hh : hop ∈ [1, 3, 5, 7, 9, 11]) (h1 : i < j) (hj : j < 32) : finalAt base spot f hop i ≠ finalAt base spot f hop j := by
  have li := len_wordAt base spot (signAt f hop i)
  have lj := len_wordAt base spot (signAt f hop j)
  intro e
  have key : ∀ {w1 w2 : List Nat} {a b : Nat}, w1 ++ [a] = w2 ++ [b] → w1 = w2 ∧ a = b := by
    intro w1 w2 a b h
    have := List.append_inj' h rfl
    exact ⟨this.1, by simpa using this.2⟩
  unfold finalAt at e
  by_cases c1 : 26 ≤ i
  · have c2 : 26 ≤ j := by omega
    simp only [c1, c2, if_true] at e
    exact word_ne (sign_ne hh h1 (by omega)) (key e).1
  · by_cases c2 : 26 ≤ j
    · simp only [c1, if_false, c2, if_true] at e
      by_cases c3 : txt (wordAt base spot (signAt f hop i)) ∈ barred
      · simp only [c3, if_true] at e
        exact absurd (key e).2 (by decide)
      · simp only [c3, if_false, List.append_nil] at e
        have := congrArg List.length e
        rw [List.length_append, li, lj] at this
        simp at this
    · have hs : wordAt base spot (signAt f hop i) ≠ wordAt base spot (signAt f hop j) := word_ne (sign_ne hh h1 (by omega))
      simp only [c1, if_false, c2] at e
      by_cases c3 : txt (wordAt base spot (signAt f hop i)) ∈ barred
      · by_cases c4 : txt (wordAt base spot (signAt f hop j)) ∈ barred
        · simp only [c3, c4, if_true] at e
          exact hs (key e).1
        · simp only [c3, c4, if_true, if_false, List.append_nil] at e
          have := congrArg List.length e
          rw [List.length_append, li, lj] at this
          simp at this
      · by_cases c4 : txt (wordAt base spot (signAt f hop j)) ∈ barred
        · simp only [c3, c4, if_true, if_false, List.append_nil] at e
          have := congrArg List.length e
          rw [List.length_append, li, lj] at this
          simp at this
        · simp only [c3, c4, if_false, List.append_nil] at e
          exact hs e
def finals (base : List Nat) (spot f hop n : Nat) : List Str := (List.range n).map fun k => txt (finalAt base spot f hop k)
/-- what words are for the law: so many unlike words, none of them error or vacant -/
structure Words (ws : List Str) : Prop where
  vw : ∀ x ∈ ws, VW x
  nb : ∀ x ∈ ws, x ∉ barred
  nd : ws.Nodup
theorem nodup_of_inj {α : Type} {f : Nat → α} {n : Nat} (h : ∀ i j, i < j → j < n → f i ≠ f j) : ((List.range n).map f).Nodup := by
  unfold List.Nodup
  rw [List.pairwise_map]
  refine List.Pairwise.imp_of_mem ?_ (List.pairwise_lt_range (n := n))
  intro a b _ hb hab
  exact h a b hab (List.mem_range.mp hb)
theorem words_finals {base : List Nat} (hb : Low base) (hl : base.length ≤ 6) {hop : Nat} (hh : hop ∈ [1, 3, 5, 7, 9, 11]) {n : Nat} (hn : n ≤ 32) (spot f : Nat) : Words (finals base spot f hop n) := by
  refine ⟨fun x hx => ?_, fun x hx => ?_, ?_⟩
  · obtain ⟨k, _, rfl⟩ := List.mem_map.mp hx
    exact (vw_final hb hl spot f hop k).1
  · obtain ⟨k, _, rfl⟩ := List.mem_map.mp hx
    exact (vw_final hb hl spot f hop k).2
  · refine nodup_of_inj fun i j h1 h2 e => final_ne (base := base) (spot := spot) (f := f) hh h1 (by omega) ?_
    have := congrArg codes e
    rwa [codes_txt, codes_txt] at this
theorem barred_two : ∀ b ∈ barred, 2 ≤ (codes b).length ∧ (codes b)[0]? ≠ (codes b)[1]? := by decide +kernel
def reps (c n : Nat) : List Str := (List.range n).map fun k => txt (List.replicate (k + 1) c)
theorem words_reps {c : Nat} (h1 : 97 ≤ c) (h2 : c ≤ 122) {n : Nat} (hn : n ≤ 8) : Words (reps c n) := by
  have nb : ∀ k, txt (List.replicate (k + 1) c) ∉ barred := by
    intro k hm
    have := barred_two _ hm
    rw [codes_txt] at this
    rw [List.length_replicate] at this
    apply this.2
    rw [List.getElem?_replicate, List.getElem?_replicate, if_pos (by omega), if_pos (by omega)]
  refine ⟨fun x hx => ?_, fun x hx => ?_, ?_⟩
  · obtain ⟨k, hk, rfl⟩ := List.mem_map.mp hx
    have hk := List.mem_range.mp hk
    refine ⟨?_, ?_, ?_, fun h => nb k (mem_resd h)⟩
    · rw [codes_txt]
      intro d hd
      have := List.eq_of_mem_replicate hd
      omega
    · rw [codes_txt]
      intro e
      have := congrArg List.length e
      rw [List.length_replicate] at this
      simp at this
    · rw [codes_txt, List.length_replicate]
      omega
  · obtain ⟨k, hk, rfl⟩ := List.mem_map.mp hx
    exact nb k
  · refine nodup_of_inj fun i j h1 h2 e => ?_
    have := congrArg (fun x => (codes x).length) e
    simp only [codes_txt, List.length_replicate] at this
    omega
theorem Words.rev {ws : List Str} (h : Words ws) : Words ws.reverse := ⟨fun x hx => h.vw x (List.mem_reverse.mp hx), fun x hx => h.nb x (List.mem_reverse.mp hx), by
  have := h.nd
  unfold List.Nodup at *
  rw [List.pairwise_reverse]
  exact this.imp fun h e => h e.symm⟩
end K2
end
section
set_option autoImplicit true
namespace K2
open PySem

def base0 : List Str := [sErr, sVac]
structure RowOk (known : List Str) (r : Row) : Prop where
  vw : VW r.1
  new : r.1 ∉ known
  ne : r.2 ≠ []
  nd : r.2.Nodup
  sub : ∀ b ∈ r.2, b ∈ known
def knownAt (rs : List Row) (i : Nat) : List Str := base0 ++ (rs.take i).map (·.1)
def Good (rs : List Row) : Prop := ∀ (i : Nat) (r : Row), rs[i]? = some r → RowOk (knownAt rs i) r
theorem good_nil : Good [] := fun i r h => by simp at h
theorem good_snoc {rs : List Row} {r : Row} (g : Good rs) (h : RowOk (base0 ++ rs.map (·.1)) r) : Good (rs ++ [r]) := by
  intro i q hq
  by_cases hi : i < rs.length
  · rw [List.getElem?_append_left hi] at hq
    have := g i q hq
    unfold knownAt at *
    rw [List.take_append_of_le_length (by omega)]
    exact this
  · have hi2 : i = rs.length := by
      have := (List.getElem?_eq_some_iff.mp hq).1
      rw [List.length_append, List.length_singleton] at this
      omega
    subst hi2
    rw [List.getElem?_append_right (Nat.le_refl _), Nat.sub_self] at hq
    simp at hq
    subst hq
    unfold knownAt
    rw [List.take_append_of_le_length (Nat.le_refl _), List.take_length]
    exact h
theorem vw_base0 : ∀ x ∈ base0, VW x := by
  intro x hx
  unfold base0 at hx
  rcases List.mem_cons.mp hx with rfl | hx
  · exact vw_err
  · have : x = sVac := by simpa using hx
    subst this
    exact vw_vac
theorem Good.vw_known {rs : List Row} (g : Good rs) (i : Nat) : ∀ x ∈ knownAt rs i, VW x := by
  intro x hx
  rcases List.mem_append.mp hx with hx | hx
  · exact vw_base0 x hx
  · obtain ⟨r, hr, rfl⟩ := List.mem_map.mp hx
    obtain ⟨j, hj⟩ := List.getElem?_of_mem (List.mem_of_mem_take hr)
    exact (g j r hj).vw
theorem knownAt_len {rs : List Row} {i : Nat} (h : i ≤ rs.length) : (knownAt rs i).length = i + 2 := by
  unfold knownAt base0
  simp [List.length_take]
  omega
theorem knownAt_succ {rs : List Row} {i : Nat} {r : Row} (h : rs[i]? = some r) : knownAt rs (i + 1) = knownAt rs i ++ [r.1] := by
  unfold knownAt
  rw [List.take_add_one, h]
  simp
theorem base0_nd : base0.Nodup := by
  unfold base0
  simp [err_ne_vac]
theorem Good.nodup {rs : List Row} (g : Good rs) : ∀ i, i ≤ rs.length → (knownAt rs i).Nodup
  | 0, _ => by simpa [knownAt] using base0_nd
  | i + 1, h => by
    have hi : rs[i]? = some rs[i] := List.getElem?_eq_getElem (by omega)
    rw [knownAt_succ hi]
    refine List.nodup_append.mpr ⟨g.nodup i (by omega), by simp, ?_⟩
    intro a ha b hb e
    have : b = rs[i].1 := by simpa using hb
    subst this
    subst e
    exact (g i _ hi).new ha
/-- the rows of words, with any bases among those known -/
def namesOf (rs : List Row) : List Str := rs.map (·.1)
structure Sub1 (r q : Row) : Prop where
  nm : q.1 = r.1
  sl : q.2.Sublist r.2
  ne : q.2 ≠ []
theorem good_sub {rs qs : List Row} (g : Good rs) (hl : qs.length = rs.length) (h : ∀ (i : Nat) (r q : Row), rs[i]? = some r → qs[i]? = some q → Sub1 r q) : Good qs := by
  have en : ∀ i, (qs.take i).map (·.1) = (rs.take i).map (·.1) := by
    intro i
    apply List.ext_getElem?
    intro j
    rw [List.getElem?_map, List.getElem?_map, List.getElem?_take, List.getElem?_take]
    split
    · by_cases hj : j < rs.length
      · have h1 : rs[j]? = some rs[j] := List.getElem?_eq_getElem hj
        have h2 : qs[j]? = some qs[j] := List.getElem?_eq_getElem (by omega)
        rw [h1, h2]
        simp [(h j _ _ h1 h2).nm]
      · rw [List.getElem?_eq_none (by omega), List.getElem?_eq_none (by omega)]
    · rfl
  intro i q hq
  have hi : i < rs.length := by
    have := (List.getElem?_eq_some_iff.mp hq).1
    omega
  have h1 : rs[i]? = some rs[i] := List.getElem?_eq_getElem hi
  have k := h i _ _ h1 hq
  have R := g i _ h1
  unfold knownAt at *
  rw [en i]
  refine ⟨by rw [k.nm]; exact R.vw, by rw [k.nm]; exact R.new, k.ne, R.nd.sublist k.sl, fun b hb => R.sub b (k.sl.subset hb)⟩

/-! ### what is within what -/
abbrev Tb := List (Str × List Str)
def look : Tb → Str → List Str
  | [], _ => []
  | (k, u) :: t, x => if k = x then u else look t x
def keys (t : Tb) : List Str := t.map (·.1)
def insK (ks : List Str) (x : Str) : List Str := if x ∈ ks then ks else ks ++ [x]
def mergeU (m us : List Str) : List Str := m ++ us.filter fun u => decide (u ∉ m)
def lineL (t : Tb) (m : List Str) (bs : List Str) : List Str := bs.foldl (fun m b => mergeU m (look t b)) m
def lineOf (t : Tb) (r : Row) : List Str := lineL t [r.1] r.2
def t0 : Tb := [(sErr, [sErr]), (sVac, [sVac, sErr])]
def stepT (t : Tb) (r : Row) : Tb := t ++ [(r.1, lineOf t r)]
def ups (rs : List Row) : Tb := rs.foldl stepT t0
theorem ups_succ {rs : List Row} {i : Nat} {r : Row} (h : rs[i]? = some r) : ups (rs.take (i + 1)) = stepT (ups (rs.take i)) r := by
  unfold ups
  rw [List.take_add_one, h]
  simp
theorem ups_snoc (rs : List Row) (r : Row) : ups (rs ++ [r]) = stepT (ups rs) r := by unfold ups; simp
theorem keys_ups (rs : List Row) : keys (ups rs) = base0 ++ rs.map (·.1) := by
  have h : ∀ (rs : List Row) (t : Tb), keys (rs.foldl stepT t) = keys t ++ rs.map (·.1) := by
    intro rs
    induction rs with
    | nil => intro t; simp
    | cons r rs ih =>
      intro t
      rw [List.foldl_cons, ih]
      simp [keys, stepT]
  exact h rs t0
theorem keys_ups_take (rs : List Row) (i : Nat) : keys (ups (rs.take i)) = knownAt rs i := keys_ups _
theorem foldl_insK : ∀ (us ks : List Str), us.Nodup → us.foldl insK ks = mergeU ks us
  | [], ks, _ => by simp [mergeU]
  | u :: us, ks, h => by
    have h1 := List.nodup_cons.mp h
    rw [List.foldl_cons, foldl_insK us _ h1.2]
    unfold insK mergeU
    by_cases hu : u ∈ ks
    · rw [if_pos hu, List.filter_cons]
      simp [hu]
    · rw [if_neg hu, List.filter_cons]
      simp only [hu, not_false_eq_true, decide_true, if_true]
      rw [List.append_assoc, List.singleton_append]
      congr 2
      apply List.filter_congr
      intro x hx
      have : x ≠ u := fun e => h1.1 (e ▸ hx)
      simp [this]
structure LineOk (pre : List Str) (x : Str) (us : List Str) : Prop where
  nd : us.Nodup
  self : x ∈ us
  err : sErr ∈ us
  sub : ∀ u ∈ us, u = x ∨ u ∈ pre
def TOk (t : Tb) : Prop := ∀ a x us b, t = a ++ (x, us) :: b → LineOk (keys a) x us ∧ x ∉ keys a
theorem tok_t0 : TOk t0 := by
  intro a x us b h
  unfold t0 at h
  rcases a with _ | ⟨p, a⟩
  · simp at h
    obtain ⟨⟨rfl, rfl⟩, _⟩ := h
    exact ⟨⟨by simp, by simp, by simp, by simp⟩, by simp [keys]⟩
  · rcases a with _ | ⟨q, a⟩
    · simp at h
      obtain ⟨rfl, ⟨rfl, rfl⟩, _⟩ := h
      refine ⟨⟨by simp [err_ne_vac.symm], by simp, by simp, ?_⟩, ?_⟩
      · intro u hu
        simp [keys] at *
        exact hu
      · simp [keys, err_ne_vac.symm]
    · simp at h
theorem look_mem : ∀ {t : Tb} {x : Str}, x ∈ keys t → ∃ a b, t = a ++ (x, look t x) :: b
  | [], x, h => by simp [keys] at h
  | (k, u) :: t, x, h => by
    by_cases e : k = x
    · subst e
      refine ⟨[], t, ?_⟩
      simp [look]
    · have h2 : x ∈ keys t := by
        unfold keys at *
        rcases List.mem_cons.mp h with e2 | h2
        · exact absurd e2.symm e
        · exact h2
      obtain ⟨a, b, hab⟩ := look_mem h2
      refine ⟨(k, u) :: a, b, ?_⟩
      simp only [look, if_neg e, List.cons_append]
      rw [← hab]
theorem keys_mid {a b : Tb} {x : Str} {us : List Str} : keys (a ++ (x, us) :: b) = keys a ++ x :: keys b := by simp [keys]
theorem TOk.line {t : Tb} (T : TOk t) {x : Str} (h : x ∈ keys t) : (look t x).Nodup ∧ x ∈ look t x ∧ sErr ∈ look t x ∧ ∀ u ∈ look t x, u ∈ keys t := by
  obtain ⟨a, b, e⟩ := look_mem h
  obtain ⟨L, _⟩ := T a x (look t x) b e
  refine ⟨L.nd, L.self, L.err, fun u hu => ?_⟩
  rw [e, keys_mid]
  rcases L.sub u hu with rfl | hu
  · simp
  · exact List.mem_append_left _ hu
theorem TOk.nodup : ∀ {t : Tb}, TOk t → (keys t).Nodup := by
  intro t T
  have h : ∀ (b a : Tb), t = a ++ b → (keys a).Nodup → (keys t).Nodup := by
    intro b
    induction b with
    | nil => intro a e h; rw [e, List.append_nil]; exact h
    | cons p b ih =>
      intro a e h
      obtain ⟨x, us⟩ := p
      refine ih (a ++ [(x, us)]) (by rw [e]; simp) ?_
      have := (T a x us b e).2
      unfold keys at *
      rw [List.map_append]
      refine List.nodup_append.mpr ⟨h, by simp, ?_⟩
      intro c hc d hd q
      have : d = x := by simpa using hd
      subst this
      subst q
      contradiction
  exact h t [] (by simp) (by simp [keys])
theorem split_uniq {a b c d : Tb} {x : Str} {us vs : List Str} (h : a ++ (x, us) :: b = c ++ (x, vs) :: d) (ha : x ∉ keys a) (hc : x ∉ keys c) : a = c := by
  induction a generalizing c with
  | nil =>
    rcases c with _ | ⟨q, c⟩
    · rfl
    · simp at h
      exfalso
      apply hc
      rw [← h.1]
      simp [keys]
  | cons p a ih =>
    rcases c with _ | ⟨q, c⟩
    · simp at h
      exfalso
      apply ha
      rw [h.1]
      simp [keys]
    · simp only [List.cons_append, List.cons.injEq] at h
      rw [h.1, ih h.2 (fun m => ha (by unfold keys at *; exact List.mem_cons_of_mem _ m)) (fun m => hc (by unfold keys at *; exact List.mem_cons_of_mem _ m))]
theorem TOk.back {t : Tb} (T : TOk t) {x y : Str} (hx : x ∈ keys t) (hy : y ∈ look t x) (ne : y ≠ x) : x ∉ look t y := by
  intro hxy
  obtain ⟨a, b, e⟩ := look_mem hx
  obtain ⟨L, hn⟩ := T a x _ b e
  have hya : y ∈ keys a := (L.sub y hy).resolve_left ne
  have hyt : y ∈ keys t := by rw [e, keys_mid]; exact List.mem_append_left _ hya
  obtain ⟨c, d, e2⟩ := look_mem hyt
  obtain ⟨M, hm⟩ := T c y _ d e2
  have hxc : x ∈ keys c := (M.sub x hxy).resolve_left ne.symm
  -- y stands in a, so c is a beginning of a
  obtain ⟨a1, a2, e3⟩ := look_mem hya
  have e4 : t = a1 ++ (y, look a y) :: (a2 ++ (x, look t x) :: b) := by
    rw [List.append_cons, ← List.append_assoc] 
    conv => lhs; rw [e, e3]
    simp
  have hm2 : y ∉ keys a1 := (T a1 y _ _ e4).2
  have : c = a1 := split_uniq (e2.symm.trans e4) hm hm2
  subst this
  apply hn
  rw [e3, keys_mid]
  exact List.mem_append_left _ hxc
theorem mergeU_ok {t : Tb} {m us : List Str} (hm : m.Nodup) (hu : us.Nodup) : (mergeU m us).Nodup := by
  unfold mergeU
  refine List.nodup_append.mpr ⟨hm, hu.filter _, ?_⟩
  intro a ha b hb e
  subst e
  have := (List.mem_filter.mp hb).2
  simp at this
  exact this ha
theorem lineL_ok {t : Tb} (T : TOk t) {x : Str} : ∀ (bs m : List Str), (∀ b ∈ bs, b ∈ keys t) → m.Nodup → (∀ u ∈ m, u = x ∨ u ∈ keys t) →
    (lineL t m bs).Nodup ∧ (∀ u ∈ lineL t m bs, u = x ∨ u ∈ keys t) ∧ (∀ u ∈ m, u ∈ lineL t m bs) ∧ (bs ≠ [] → sErr ∈ lineL t m bs)
  | [], m, _, h1, h2 => ⟨h1, h2, fun u hu => hu, fun h => absurd rfl h⟩
  | b :: bs, m, hb, h1, h2 => by
    have L := T.line (hb b List.mem_cons_self)
    have n1 := mergeU_ok (t := t) h1 L.1
    have s1 : ∀ u ∈ mergeU m (look t b), u = x ∨ u ∈ keys t := by
      intro u hu
      rcases List.mem_append.mp hu with hu | hu
      · exact h2 u hu
      · exact .inr (L.2.2.2 u (List.mem_filter.mp hu).1)
    obtain ⟨q1, q2, q3, q4⟩ := lineL_ok T bs (mergeU m (look t b)) (fun c hc => hb c (List.mem_cons_of_mem _ hc)) n1 s1
    refine ⟨q1, q2, fun u hu => q3 u (List.mem_append_left _ hu), fun _ => ?_⟩
    apply q3
    by_cases he : sErr ∈ m
    · exact List.mem_append_left _ he
    · exact List.mem_append_right _ (List.mem_filter.mpr ⟨L.2.2.1, by simpa using he⟩)
theorem tok_step {t : Tb} (T : TOk t) {r : Row} (R : RowOk (keys t) r) : TOk (stepT t r) := by
  intro a x us b e
  unfold stepT at e
  rcases List.eq_nil_or_concat b with rfl | ⟨b', z, rfl⟩
  · have := List.append_inj' e rfl
    obtain ⟨rfl, e2⟩ := this
    simp at e2
    obtain ⟨rfl, rfl⟩ := e2
    have := lineL_ok T (x := r.1) r.2 [r.1] R.sub (by simp) (by simp)
    exact ⟨⟨this.1, this.2.2.1 _ (by simp), this.2.2.2 R.ne, this.2.1⟩, R.new⟩
  · rw [List.concat_eq_append, ← List.cons_append, ← List.append_assoc] at e
    have := List.append_inj' e rfl
    exact T a x us b' this.1
theorem tok_ups {rs : List Row} (g : Good rs) : ∀ i, i ≤ rs.length → TOk (ups (rs.take i))
  | 0, _ => by simpa [ups] using tok_t0
  | i + 1, h => by
    have hi : rs[i]? = some rs[i] := List.getElem?_eq_getElem (by omega)
    rw [ups_succ hi]
    refine tok_step (tok_ups g i (by omega)) ?_
    rw [keys_ups_take]
    exact g i _ hi
end K2
end
section
set_option Elab.async false
set_option maxRecDepth 100000
set_option linter.all false
namespace K2
open PySem L2
/-! ### the text by places -/
def top (i : Nat) : Stmt := PySem.Challenge.pw_whatleaves_k06_whole_clauses_go_by_kinds.main.body.getD i (.Pass ⟨0, 0, 0, 0⟩)
abbrev sDraw : Stmt := top 17
abbrev sPick : Stmt := top 18
/-! ### what the built-in names hold -/
structure Bi (mg : Str → Option Value) : Prop where
  len : mg "len" = none
  int : mg "int" = none
  abs : mg "abs" = none
  range : mg "range" = none
  list : mg "list" = none
  tuple : mg "tuple" = none
  enumerate : mg "enumerate" = none
  isinstance : mg "isinstance" = none
  str : mg "str" = none
  set : mg "set" = none
  all : mg "all" = none
  repr : mg "repr" = none
/-! ### the pen -/
def penO (c : Addr) (a l : Int) : HO := .lst [.ref c, .int a, .int l]
structure Pen (H : Hp) (p c : Addr) (ns : List Int) (n : Nat) : Prop where
  pen : ∃ a l : Int, H p = some (penO c a l) ∧ 0 ≤ a ∧ a ≤ n ∧ 0 ≤ l
  cells : H c = some (.lst (ns.map V.int))
  small : ns.length ≤ 63
def Keep (p : Addr) (H H' : Hp) : Prop := ∀ b o, H b = some o → b ≠ p → H' b = some o
theorem Keep.refl (p : Addr) (H : Hp) : Keep p H H := fun _ _ h _ => h
theorem Keep.trans {p : Addr} {H H1 H2 : Hp} (a : Keep p H H1) (b : Keep p H1 H2) : Keep p H H2 := fun c o h n => b c o (a c o h n) n
theorem Keep.new {p q : Addr} {H H1 : Hp} {o : HO} (k : Keep p H H1) (h : H q = none) : Keep p H (upd H1 q o) := fun b u hb n => by
  rw [upd_ne (ne_of_none hb h)]
  exact k b u hb n
theorem Keep.at {p : Addr} {H H1 : Hp} {o : HO} (k : Keep p H H1) : Keep p H (upd H1 p o) := fun b u hb n => by
  rw [upd_ne n]
  exact k b u hb n
theorem Pen.mono {H : Hp} {p c : Addr} {ns : List Int} {n m : Nat} (h : Pen H p c ns n) (e : n ≤ m) : Pen H p c ns m := by
  obtain ⟨a, l, h1, h2, h3, h4⟩ := h.pen
  exact ⟨⟨a, l, h1, h2, by omega, h4⟩, h.cells, h.small⟩
theorem Pen.ne {H : Hp} {p c : Addr} {ns : List Int} {n : Nat} (h : Pen H p c ns n) : c ≠ p := by
  obtain ⟨a, l, h1, _⟩ := h.pen
  refine ne_of h.cells h1 ?_
  unfold penO
  intro e
  injection e with e
  cases ns with
  | nil => simp at e
  | cons n ns => simp at e
/-- the pen behind a new object -/
theorem Pen.new {H : Hp} {p c q : Addr} {ns : List Int} {n : Nat} {o : HO} (h : Pen H p c ns n) (hq : H q = none) : Pen (upd H q o) p c ns n := by
  obtain ⟨a, l, h1, h2, h3, h4⟩ := h.pen
  exact ⟨⟨a, l, by rw [upd_ne (ne_of_none h1 hq)]; exact h1, h2, h3, h4⟩, by rw [upd_ne (ne_of_none h.cells hq)]; exact h.cells, h.small⟩
/-- the pen behind a store elsewhere -/
theorem Pen.upd' {H : Hp} {p c q : Addr} {ns : List Int} {n : Nat} {o : HO} (h : Pen H p c ns n) (h1 : p ≠ q) (h2 : c ≠ q) : Pen (upd H q o) p c ns n := by
  obtain ⟨a, l, g1, g2, g3, g4⟩ := h.pen
  exact ⟨⟨a, l, by rw [upd_ne h1]; exact g1, g2, g3, g4⟩, by rw [upd_ne h2]; exact h.cells, h.small⟩
theorem Pen.set {H : Hp} {p c : Addr} {ns : List Int} {n m : Nat} (h : Pen H p c ns n) {a l : Int} (h1 : 0 ≤ a) (h2 : a ≤ m) (h3 : 0 ≤ l) : Pen (upd H p (penO c a l)) p c ns m :=
  ⟨⟨a, l, upd_same, h1, h2, h3⟩, by rw [upd_ne h.ne]; exact h.cells, h.small⟩

def spDraw : Sp := fun vs H Q _ => ∃ (p c : Addr) (ns : List Int) (n : Nat) (m : Int), vs = [.ref p, .int m] ∧ Pen H p c ns n ∧ n ≤ 100000 ∧ 0 < m ∧ m < 1073741824 ∧
  ∀ (v : Int) (H' : Hp), 0 ≤ v → v < m → Keep p H H' → Pen H' p c ns (n + 1) → Q (.int v) H'

section
variable {P : Program} {w : World} {K : PySem.W.Frag} {mg : Str → Option Value} {base : Heap}
abbrev nDraw : List Str := ["_law_pen_here", "_law_many", "_law_digit", "_law_at", "_law_cell", "_law_great", "_law_mixed_here"]
theorem scDraw : FnScope nDraw ["_law_pen_here", "_law_many"] (defScope sDraw) := ⟨rfl, rfl, rfl, by decide +kernel, rfl, by decide +kernel, by decide +kernel⟩
theorem fmod_lo {a m : Int} (h : 0 < m) : 0 ≤ a.fmod m := Int.fmod_nonneg_of_pos a h
theorem fmod_hi {a m : Int} (h : 0 < m) : a.fmod m < m := Int.fmod_lt_of_pos a h
theorem fdiv_nn {a m : Int} (ha : 0 ≤ a) (h : 0 < m) : 0 ≤ a.fdiv m := Int.fdiv_nonneg ha (Int.le_of_lt h)
theorem mul_bnd {x y X Y : Int} (h1 : 0 ≤ x) (h2 : x ≤ X) (h3 : 0 ≤ y) (h4 : y ≤ Y) : 0 ≤ x * y ∧ x * y ≤ X * Y :=
  ⟨Int.mul_nonneg h1 h3, Int.mul_le_mul h2 h4 h3 (Int.le_trans h1 h2)⟩
theorem ints_dp (K : PySem.W.Frag) (H : Hp) : ∀ ns : List Int, DpAll K H (ns.map V.int) (ns.map PyData.int)
  | [] => .nil
  | n :: ns => .cons (.int n) (ints_dp K H ns)
theorem canLay_ints : ∀ ns : List Int, PyData.canLayAll0 (ns.map PyData.int) = true
  | [] => rfl
  | n :: ns => by
    show (true && PyData.canLayAll0 (ns.map PyData.int)) = true
    rw [canLay_ints ns]
    rfl
theorem depth_ints : ∀ ns : List Int, PyData.depthAll (ns.map PyData.int) = 0
  | [] => rfl
  | n :: ns => by
    show max 0 (PyData.depthAll (ns.map PyData.int)) = 0
    rw [depth_ints ns]
    rfl
theorem shaped_ints (ns : List Int) : SeqAt.shaped (.list (ns.map PyData.int)) = true := by
  show (PyData.canLayAll0 (ns.map PyData.int) && decide (PyData.depthAll (ns.map PyData.int) + 1 ≤ 64)) = true
  rw [canLay_ints, depth_ints]
  rfl
theorem eqv_nil (ns : List Int) : (!PyData.eqv (.list (ns.map PyData.int)) (.list [])) = !ns.isEmpty := by
  cases ns <;> rfl
theorem len_pos_lt {n : Nat} {a : Int} (h : 0 < n) : 0 ≤ a.fmod (n : Int) ∧ a.fmod (n : Int) < n := ⟨fmod_lo (by omega), fmod_hi (by omega)⟩
theorem ok_draw {f : Addr} {fd : FuncData} (F : Fun K "_law_draw" "_law_draw" sDraw f fd) (T : Bi mg) : FnOk P w K mg base CX0 1 f fd ["_law_pen_here", "_law_many"] spDraw := by
  refine F.ok scDraw (fun vs H Q E h => ?_) (fun cdv A outer s H vs Q E hr h => ?_)
  · obtain ⟨p, c, ns, n, m, rfl, _⟩ := h
    rfl
  · obtain ⟨p, c, ns, n, m, rfl, hP, hn, m0, m1, k⟩ := h
    have hmne : m ≠ 0 := by omega
    have hmab : m.natAbs < 1073741824 := by omega
    obtain ⟨a, l, hp, a0, an, l0⟩ := hP.pen
    unfold penO at hp
    refine ⟨_, (pss_cons (ps_if (pt_cmpR op_gt (pe_ix ix_list (pv 0) pe_int (fun _ _ => rfl)) pe_int (nomark _))
      (pss_cons (ps_set (i := 2) scDraw.nd rfl (Or.inl rfl) (pe_op op_modN (pe_callTy call_int1 (by rfl) T.int (by decide +kernel) (pa_cons (pe_ix ix_list (pv 0) pe_int (fun _ _ => rfl)) pa_nil)) (pv 1)))
        (pss_cons (ps_asg (pe_op op_fdivN (pe_ix ix_list (pv 0) pe_int (fun _ _ => rfl)) (pv 1)) (pg_sub (pv 0) pe_int set_list))
        (pss_one (ps_ret (pv 2)))))
      pss_nil)
      (pss_cons (ps_set (i := 3) scDraw.nd rfl (Or.inl rfl) (pe_ix ix_list (pv 0) pe_int (fun _ _ => rfl)))
      (pss_cons (ps_asg (pe_op op_add (pv 3) pe_int) (pg_sub (pv 0) pe_int set_list))
      (pss_cons (ps_set (i := 4) scDraw.nd rfl (Or.inl rfl) (pe_op op_add (pe_op op_mul pe_int (pv 3)) pe_int))
      (pss_cons (ps_if (pt_cmpR (op_neD hr.units) (pe_ix ix_list (pv 0) pe_int (fun _ _ => rfl)) (pe_lst pa_nil) (nomark _))
      (pss_one (ps_set (i := 4) scDraw.nd rfl (Or.inl rfl) (pe_ix ix_list (pe_ix ix_list (pv 0) pe_int (fun _ _ => rfl)) (pe_op op_modN (pe_callTy call_int1 (by rfl) T.int (by decide +kernel) (pa_cons (pv 3) pa_nil)) (pe_callB call_len_seq (by rfl) T.len PySem.boot_len (pa_cons (pe_ix ix_list (pv 0) pe_int (fun _ _ => rfl)) pa_nil))) (fun _ _ => rfl))))
      pss_nil)
      (pss_cons (ps_if (PW.pt (pw_and (pt_cmpR op_lt (pv 3) (pe_callB call_len_seq (by rfl) T.len PySem.boot_len (pa_cons (pe_ix ix_list (pv 0) pe_int (fun _ _ => rfl)) pa_nil)) (nomark _)) (pw_and1 (pt_cmpR op_ge (pe_callB call_abs (by rfl) T.abs (by decide +kernel) (pa_cons (pv 4) pa_nil)) (pe_op op_pow pe_int pe_int) (nomark _)))))
      (pss_cons (ps_set (i := 5) scDraw.nd rfl (Or.inl rfl) (pe_op op_add (pe_op op_mul pe_int (pe_op op_sub (pe_callB call_abs (by rfl) T.abs (by decide +kernel) (pa_cons (pv 4) pa_nil)) (pe_op op_pow pe_int pe_int))) (pe_callTy call_int1 (by rfl) T.int (by decide +kernel) (pa_cons (pe_cmpR op_lt (pv 4) pe_int (nomark _)) pa_nil))))
        (pss_cons (ps_asg (pe_op op_fdivN (pv 5) (pv 1)) (pg_sub (pv 0) pe_int set_list))
        (pss_one (ps_ret (pe_op op_modN (pe_callTy call_int1 (by rfl) T.int (by decide +kernel) (pa_cons (pv 5) pa_nil)) (pv 1))))))
      pss_nil)
      (pss_cons (ps_set (i := 6) scDraw.nd rfl (Or.inl rfl) (pe_op op_modN (pe_callTy call_int1 (by rfl) T.int (by decide +kernel) (pa_cons (pe_op op_pow (pe_op op_add (pe_op op_add (pe_op op_modN (pe_callTy call_int1 (by rfl) T.int (by decide +kernel) (pa_cons (pv 4) pa_nil)) pe_int) (pe_op op_mul pe_int (pv 3))) pe_int) pe_int) pa_nil)) pe_int))
      (pss_cons (ps_set (i := 6) scDraw.nd rfl (Or.inl rfl) (pe_op op_modN (pe_callTy call_int1 (by rfl) T.int (by decide +kernel) (pa_cons (pe_op op_pow (pe_op op_add (pe_op op_add (pe_op op_mul (pv 6) (pe_op op_add (pe_op op_mul pe_int (pv 3)) pe_int)) (pe_op op_mul (pe_op op_mul pe_int (pv 3)) (pv 3))) pe_int) pe_int) pa_nil)) pe_int))
      (pss_one (ps_ret (pe_op op_modN (pe_callTy call_int1 (by rfl) T.int (by decide +kernel) (pa_cons (pe_op op_fdivN (pv 6) pe_int) pa_nil)) (pv 1)))))))))))), ?_⟩
    refine ⟨_, rfl, p, _, _, _, rfl, rfl, SqL.of hp, atI_nat (j := 2) rfl, _, _, rfl, rfl, _, rfl, ite2 (fun hg => ?_) (fun hg => ?_)⟩
    · have hl := of_decide_eq_true hg
      refine ⟨_, rfl, p, _, _, _, rfl, rfl, SqL.of hp, atI_nat (j := 2) rfl, .inl ⟨_, rfl, _, rfl, _, _, rfl, rfl, hmne, ?_⟩⟩
      refine ⟨_, rfl, p, _, _, _, rfl, rfl, SqL.of hp, atI_nat (j := 2) rfl, _, rfl, _, _, rfl, rfl, ⟨hmne, hmab⟩, _, rfl, p, _, _, 2, rfl, rfl, hp, rfl, _, rfl, ?_⟩
      refine k _ _ (fmod_lo m0) (fmod_hi m0) (Keep.refl _ _).at ?_
      exact hP.set a0 (by omega) (fdiv_nn l0 m0)
    · have hat : a ≤ 100000 := by omega
      -- at = pen[1]; pen[1] = at + 1; cell = 8627 * at + 349; pen[0] != []
      refine ⟨_, rfl, p, _, _, _, rfl, rfl, SqL.of hp, atI_nat (j := 1) rfl, _, rfl, _, _, rfl, rfl, _, rfl, p, _, _, 1, rfl, rfl, hp, rfl, ?_⟩
      generalize hH1 : upd H p (HO.lst ([V.ref c, V.int a, V.int l].set 1 ((fun i j => V.int (i + j)) a 1))) = H1
      replace hH1 : upd H p (.lst [.ref c, .int (a + 1), .int l]) = H1 := hH1
      have hp1 : H1 p = some (.lst [.ref c, .int (a + 1), .int l]) := by rw [← hH1]; exact upd_same
      have hc1 : H1 c = some (.lst (ns.map V.int)) := by rw [← hH1, upd_ne hP.ne]; exact hP.cells
      have k1 : Keep p H H1 := by rw [← hH1]; exact (Keep.refl p H).at
      refine ⟨_, rfl, _, _, rfl, rfl, .inl ⟨by decide, by decide⟩, _, _, rfl, rfl, ?_⟩
      refine ⟨_, rfl, p, _, _, _, rfl, rfl, SqL.of hp1, atI_nat (j := 0) rfl, Nat.zero_le _, fun e he => ?_⟩
      have he0 : H e = none := by
        cases q : H e with
        | none => rfl
        | some o =>
          by_cases ep : e = p
          · rw [ep, hp1] at he; cases he
          · rw [k1 e o q ep] at he; cases he
      have hp2 : (upd H1 e (.lst [])) p = some (.lst [.ref c, .int (a + 1), .int l]) := by rw [upd_ne (ne_of_none hp1 he)]; exact hp1
      have hc2 : (upd H1 e (.lst [])) c = some (.lst (ns.map V.int)) := by rw [upd_ne (ne_of_none hc1 he)]; exact hc1
      have k2 : Keep p H (upd H1 e (.lst [])) := k1.new he0
      have P2 : Pen (upd H1 e (.lst [])) p c ns (n + 1) := ⟨⟨a + 1, l, hp2, by omega, by omega, l0⟩, hc2, hP.small⟩
      have hee : (upd H1 e (.lst [])) e = some (.lst []) := upd_same
      generalize hH2 : upd H1 e (.lst []) = H2 at hp2 hc2 k2 P2 hee ⊢
      refine ⟨.list (ns.map PyData.int), .list [], .lst (SqL.of hc2) (ints_dp _ _ ns), .lst (SqL.of hee) .nil, shaped_ints ns, rfl, _, rfl, ?_⟩
      rw [eqv_nil]
      have hz0 : ns = [] ∨ ∃ z r, ns = z :: r := by cases ns with
        | nil => exact .inl rfl
        | cons z r => exact .inr ⟨z, r, rfl⟩
      have hzc : ∀ j : Nat, j < ns.length → ∃ z : Int, (ns.map V.int)[j]? = some (V.int z) := fun j hj => ⟨ns[j], by rw [List.getElem?_map, List.getElem?_eq_getElem hj]; rfl⟩
      refine ite2 (fun hb => ?b1) (fun hb => ?b2)
      case' b1 =>
        have hlen : 0 < ns.length := by
          cases ns with
          | nil => cases hb
          | cons z r => simp
        have hlen2 : (0 : Int) < ((ns.map V.int).length : Int) := by rw [List.length_map]; omega
        obtain ⟨j, hj⟩ : ∃ j : Nat, a.fmod ((ns.map V.int).length : Int) = (j : Int) := ⟨(a.fmod ((ns.map V.int).length : Int)).toNat, (Int.toNat_of_nonneg (fmod_lo hlen2)).symm⟩
        have hj2 : j < ns.length := by
          have := fmod_hi (a := a) hlen2
          rw [hj, List.length_map] at this
          omega
        obtain ⟨z, hz⟩ := hzc j hj2
        refine ⟨_, rfl, p, _, _, _, rfl, rfl, SqL.of hp2, atI_nat (j := 0) rfl, _, rfl, .inl ⟨_, rfl, _, rfl, p, _, _, _, rfl, rfl, SqL.of hp2, atI_nat (j := 0) rfl, c, _, rfl, .inl (SqL.of hc2), _, _, rfl, rfl, by omega, c, _, _, _, rfl, rfl, SqL.of hc2, at_of hj hz, ?_⟩⟩
      case' b2 => generalize hz9 : (fun i j => V.int (i + j)) (8627 * a) 349 = zz; replace hz9 : zz = .int (8627 * a + 349) := hz9.symm; subst hz9; generalize 8627 * a + 349 = z
      all_goals
        -- at < len(pen[0]) and abs(cell) >= 10 ** 18
        have pw18 : (10 : Int) ^ (18 : Int).toNat = 1000000000000000000 := by decide
        have tl : ∀ (v : Int), 0 ≤ v → v < m → Q (.int v) H2 := fun v h0 h1 => k v H2 h0 h1 k2 P2
        refine (fun t => ⟨_, rfl, _, rfl, p, _, _, _, rfl, rfl, SqL.of hp2, atI_nat (j := 0) rfl, c, _, rfl, .inl (SqL.of hc2), _, _, rfl, rfl, _, rfl, ite2 (fun hq1 =>
          ⟨_, rfl, _, rfl, _, _, rfl, rfl, ⟨by decide, by decide, by decide⟩, _, _, rfl, rfl, _, rfl, ite2 (fun hq2 => ?_) (fun _ => t)⟩) (fun _ => iteF t)⟩) ?_
        · -- mixed
          refine ⟨_, rfl, .inl ⟨_, rfl, _, _, rfl, rfl, (by show (2147483549 : Int) ≠ 0; decide), _, rfl, _, _, rfl, rfl, .inl ⟨by decide, by decide⟩, _, _, rfl, rfl, _, _, rfl, rfl, _, _, rfl, rfl, ⟨by decide, by decide, ?_⟩, .inl ⟨_, rfl, _, _, rfl, rfl, (by show (2147483629 : Int) ≠ 0; decide), ?_⟩⟩⟩
          · have h1 := fmod_lo (a := z) (m := 2147483549) (by decide)
            have h2 := fmod_hi (a := z) (m := 2147483549) (by decide)
            generalize z.fmod 2147483549 = y at h1 h2 ⊢
            omega
          have g1 := fmod_lo (a := (z.fmod 2147483549 + 52361 * a + 71) ^ (3 : Int).toNat) (m := 2147483629) (by decide)
          have g2 := fmod_hi (a := (z.fmod 2147483549 + 52361 * a + 71) ^ (3 : Int).toNat) (m := 2147483629) (by decide)
          have b1 := mul_bnd (X := 2147483629) (y := 2 * a + 53) (Y := 200053) g1 (Int.le_of_lt g2) (by omega) (by omega)
          have b2 := mul_bnd (x := 61417 * a) (X := 6141700000) (y := a) (Y := 100000) (by omega) (by omega) a0 hat
          refine ⟨_, rfl, _, rfl, _, _, rfl, rfl, .inl ⟨by decide, by decide⟩, _, _, rfl, rfl, _, _, rfl, rfl, .inl ⟨?_, ?_⟩, _, rfl, _, _, rfl, rfl, .inl ⟨by decide, by decide⟩, _, rfl, _, _, rfl, rfl, .inl ⟨?_, ?_⟩, _, _, rfl, rfl, _, _, rfl, rfl, _, _, rfl, rfl, ⟨by decide, by decide, ?_⟩, .inl ⟨_, rfl, _, _, rfl, rfl, (by show (2147483587 : Int) ≠ 0; decide), ?_⟩⟩
          · omega
          · omega
          · omega
          · omega
          · omega
          have g3 := fmod_lo (a := ((((z.fmod 2147483549 + 52361 * a + 71) ^ (3 : Int).toNat).fmod 2147483629) * (2 * a + 53) + 61417 * a * a + 23) ^ (5 : Int).toNat) (m := 2147483587) (by decide)
          refine ⟨_, rfl, _, _, rfl, rfl, ⟨by decide, by decide⟩, .inl ⟨_, rfl, _, rfl, _, _, rfl, rfl, hmne, tl _ (fmod_lo m0) (fmod_hi m0)⟩⟩
        · -- great
          refine ⟨_, rfl, _, rfl, _, _, rfl, rfl, ⟨by decide, by decide, by decide⟩, _, _, rfl, rfl, _, _, rfl, rfl, .inl ⟨by decide, by decide⟩, _, rfl, _, _, rfl, rfl, .inr ⟨_, rfl, _, _, rfl, rfl, ?_⟩⟩
          refine ⟨_, rfl, _, rfl, _, _, rfl, rfl, ⟨hmne, hmab⟩, _, rfl, p, _, _, 2, rfl, rfl, hp2, rfl, _, rfl, .inl ⟨_, rfl, _, rfl, _, _, rfl, rfl, hmne, ?_⟩⟩
          refine k _ _ (fmod_lo m0) (fmod_hi m0) k2.at (P2.set (by omega) (by omega) (fdiv_nn ?_ m0))
          have hge := of_decide_eq_true hq2
          rw [pw18] at hge ⊢
          split at hge <;> split <;> omega
end
end K2
end
section
set_option Elab.async false
set_option maxRecDepth 100000
set_option linter.all false
namespace K2
open PySem L2
abbrev sBarred : Stmt := top 19
abbrev sWords : Stmt := top 20
/-- a def of the program: its text, where it stands, how it binds -/
structure Df (K : PySem.W.Frag) (mg : Str → Option Value) (x : Str) (st : Stmt) (f : Addr) (fd : FuncData) (ps : List Str) : Prop where
  F : Fun K x x st f fd
  m : mg x = some (.ref f)
  b : Binds K fd ps []
/-- a list of the heap, or a text: its items -/
def SeqV (p : Addr) (H : Hp) (y : V) (xs : List V) : Prop := (∃ l, y = .ref l ∧ l ≠ p ∧ H l = some (.lst xs)) ∨ (∃ z : Str, y = .str z ∧ xs = (codes z).map (fun c => V.str ⟨#[c]⟩) ∧ z.length ≤ 100) ∨ (∃ t, y = .ref t ∧ t ≠ p ∧ H t = some (.tup xs))
def spPick : Sp := fun vs H Q _ => ∃ (p c : Addr) (ns : List Int) (n : Nat) (y : V) (xs : List V), vs = [.ref p, y] ∧ Pen H p c ns n ∧ n ≤ 100000 ∧ SeqV p H y xs ∧ xs ≠ [] ∧ xs.length ≤ 1000 ∧
  ∀ (j : Nat) (v : V) (H' : Hp), xs[j]? = some v → Keep p H H' → Pen H' p c ns (n + 1) → Q v H'
def spBarred : Sp := fun vs H Q _ => vs = [] ∧ ∀ l, H l = none → Q (.ref l) (upd H l (.lst (barred.map V.str)))
section
variable {P : Program} {w : World} {K : PySem.W.Frag} {mg : Str → Option Value} {base : Heap}
theorem scPick : FnScope ["_law_pen_here", "_law_some"] ["_law_pen_here", "_law_some"] (defScope sPick) := ⟨rfl, rfl, rfl, by decide +kernel, rfl, by decide +kernel, by decide +kernel⟩
theorem ok_pick {f fD : Addr} {fd fdD : FuncData} (F : Fun K "_law_pick" "_law_pick" sPick f fd) (T : Bi mg) (D : Df K mg "_law_draw" sDraw fD fdD ["_law_pen_here", "_law_many"]) : FnOk P w K mg base CX0 2 f fd ["_law_pen_here", "_law_some"] spPick := by
  have GD : FnOk P w K mg base CX0 1 fD fdD ["_law_pen_here", "_law_many"] spDraw := ok_draw D.F T
  refine F.ok scPick (fun vs H Q E h => ?_) (fun cdv A outer s H vs Q E hr h => ?_)
  · obtain ⟨p, c, ns, n, y, xs, rfl, _⟩ := h
    rfl
  · obtain ⟨p, c, ns, n, y, xs, rfl, hP, hn, hS, hne, hlen, k⟩ := h
    refine ⟨_, (pss_one (ps_ret (pe_ix ix_seq (pv 1) (pe_call GD hr (by rfl) D.m D.F.kp D.b .nil pass0 (pa_cons (pv 0) (pa_cons (pe_callB call_len (by rfl) T.len PySem.boot_len (pa_cons (pv 1) pa_nil)) pa_nil))) (fun _ _ => rfl)))), ?_⟩
    have hx0 : 0 < xs.length := List.length_pos_iff.mpr hne
    have hL : LenV K y H xs.length := by
      rcases hS with ⟨l, rfl, _, hl⟩ | ⟨z, rfl, rfl, hz⟩ | ⟨t, rfl, _, ht⟩
      · exact .inl ⟨_, SqL.of hl, rfl⟩
      · refine ⟨Nat.le_trans hz (by decide), ?_⟩
        rw [List.length_map]
        rfl
      · exact .inr ⟨_, SqT.of ht, rfl⟩
    refine ⟨_, rfl, _, rfl, _, rfl, _, _, rfl, hL, p, c, ns, n, _, rfl, hP, hn, by omega, by omega, fun v H' h0 h1 kp P' => ?_⟩
    obtain ⟨j, rfl⟩ : ∃ j : Nat, v = (j : Int) := ⟨v.toNat, (Int.toNat_of_nonneg h0).symm⟩
    have hj : j < xs.length := by omega
    have hv : xs[j]? = some xs[j] := List.getElem?_eq_getElem hj
    rcases hS with ⟨l, rfl, hlp, hl⟩ | ⟨z, rfl, rfl, hz⟩ | ⟨t, rfl, htp, ht⟩
    · exact .inl ⟨l, xs, _, _, rfl, rfl, SqL.of (kp l _ hl hlp), atI_nat hv, k j _ H' hv kp P'⟩
    · refine .inr (.inr ⟨z, _, (codes z)[j]'(by rw [List.length_map] at hj; exact hj), rfl, rfl, Nat.le_trans hz (by decide), atI_nat (List.getElem?_eq_getElem _), k j _ H' ?_ kp P'⟩)
      rw [List.getElem?_map, List.getElem?_eq_getElem (by rw [List.length_map] at hj; exact hj)]
      rfl
    · exact .inr (.inl ⟨t, xs, _, _, rfl, rfl, SqT.of (kp t _ ht htp), atI_nat hv, k j _ H' hv kp P'⟩)
theorem scBarred : FnScope ["_law_text"] [] (defScope sBarred) := ⟨rfl, rfl, rfl, by decide +kernel, rfl, by decide +kernel, by decide +kernel⟩
theorem ok_barred {f : Addr} {fd : FuncData} (F : Fun K "_law_barred" "_law_barred" sBarred f fd) : FnOk P w K mg base CX0 1 f fd [] spBarred := by
  refine F.ok scBarred (fun vs H Q E h => ?_) (fun cdv A outer s H vs Q E hr h => ?_)
  · obtain ⟨rfl, _⟩ := h
    rfl
  · obtain ⟨rfl, k⟩ := h
    refine ⟨_, (pss_cons (ps_set (i := 0) scBarred.nd rfl (Or.inl rfl) pe_str)
      (pss_cons (ps_set (i := 0) scBarred.nd rfl (Or.inl rfl) (pe_op op_add_str (pv 0) pe_str))
      (pss_one (ps_ret (pe_split (pv 0) pe_str))))), ?_⟩
    refine ⟨_, rfl, _, _, rfl, rfl, by decide +kernel, _, rfl, ⟨_, rfl⟩, _, _, rfl, rfl, by decide +kernel, by decide +kernel, fun l hl => ?_⟩
    have e : barred = Txt.split ((Str.ofString "pass raise from none again return returns break call handling else either or loop") ++ Str.ofString " try except as finally with quiet class def error vacant") (Str.ofString " ") := by decide +kernel
    have := k l hl
    rw [e] at this
    exact this
end
end K2
end
section
set_option Elab.async false
set_option maxRecDepth 100000
set_option linter.all false
namespace K2
open PySem L2
theorem strs_ne_pen {ys : List Str} {c : Addr} {a l : Int} : HO.lst (ys.map V.str) ≠ penO c a l := by
  unfold penO
  intro e
  injection e with e
  cases ys with
  | nil => simp at e
  | cons y ys => simp at e
theorem str_eqV (a b : Str) : eqV (.str a) (.str b) = decide (a = b) := by
  show (a == b) = decide (a = b)
  by_cases h : a = b
  · simp [h]
  · simp [h]
theorem inV_strs (x : Str) : ∀ ys : List Str, inV (.str x) (ys.map V.str) = decide (x ∈ ys)
  | [] => rfl
  | y :: ys => by
    show (eqV (.str y) (.str x) || inV (.str x) (ys.map V.str)) = decide (x ∈ y :: ys)
    rw [inV_strs x ys, str_eqV]
    by_cases h : y = x
    · subst h; simp
    · have h2 : ¬ x = y := fun e => h e.symm
      simp [h, h2]
theorem flat_strs : ∀ ys : List Str, (ys.map V.str).all flatV = true
  | [] => rfl
  | y :: ys => by
    show (true && (ys.map V.str).all flatV) = true
    rw [flat_strs ys]
    rfl
theorem codes_append (x y : Str) : codes (x ++ y) = codes x ++ codes y := TL.tl_append x y
theorem codes_one (c : Nat) : codes ⟨#[c]⟩ = [c] := rfl
theorem len_codes (x : Str) : x.length = (codes x).length := by
  show x.cps.size = x.cps.toList.length
  simp
theorem join_ones : ∀ l : List Nat, codes (Txt.join Str.empty (l.map fun c => (⟨#[c]⟩ : Str))) = l := by
  intro l
  rw [TL.join_eq]
  show TL.tl (Str.join Str.empty _) = l
  rw [TL.tl_join]
  show TL.joinL [] _ = l
  induction l with
  | nil => rfl
  | cons c l ih =>
    cases l with
    | nil => rfl
    | cons d l =>
      show [c] ++ ([] ++ TL.joinL [] _) = _
      rw [List.nil_append]
      show [c] ++ TL.joinL [] (List.map TL.tl (List.map (fun c => (⟨#[c]⟩ : Str)) (d :: l))) = c :: d :: l
      rw [ih]
      rfl
theorem cut_to {z : Str} {k : Nat} (h : k ≤ (codes z).length) : codes (cutS z none (some (k : Int))) = (codes z).take k := by
  unfold cutS codes
  rw [HT.sIx_nat, HT.sIx_none]
  have e : z.length = z.cps.toList.length := len_codes z
  have h' : k ≤ z.cps.toList.length := h
  simp only [List.drop_zero, Nat.sub_zero]
  rw [Nat.min_eq_left (by omega)]
theorem cut_from {z : Str} {k : Nat} (h : k ≤ (codes z).length) : codes (cutS z (some (k : Int)) none) = (codes z).drop k := by
  unfold cutS codes
  rw [HT.sIx_nat, HT.sIx_none]
  have e : z.length = z.cps.toList.length := len_codes z
  have h' : k ≤ z.cps.toList.length := h
  rw [Nat.min_eq_left (by omega), e]
  simp only []
  rw [List.take_of_length_le (by rw [List.length_drop]; omega)]
theorem Pen.pne {H : Hp} {p c q : Addr} {ns : List Int} {n : Nat} (h : Pen H p c ns n) (hq : H q = none) : p ≠ q := by
  obtain ⟨a, l, g, _⟩ := h.pen
  exact ne_of_none g hq
theorem Pen.cne {H : Hp} {p c q : Addr} {ns : List Int} {n : Nat} (h : Pen H p c ns n) (hq : H q = none) : c ≠ q := ne_of_none h.cells hq
theorem Keep.fresh {p c q : Addr} {ns : List Int} {n : Nat} {H H1 : Hp} (k : Keep p H H1) (P1 : Pen H1 p c ns n) (h : H1 q = none) : H q = none := by
  cases e : H q with
  | none => rfl
  | some o =>
    rw [k q o e (P1.pne h).symm] at h
    cases h
theorem Pen.strs_ne {H : Hp} {p c q : Addr} {ns : List Int} {n : Nat} {ys : List Str} (h : Pen H p c ns n) (hq : H q = some (.lst (ys.map V.str))) : q ≠ p := fun e => by
  obtain ⟨a, l, g, _⟩ := h.pen
  rw [e, g] at hq
  exact strs_ne_pen (Option.some.inj hq).symm
section
variable {X : Cx}
theorem mulOk_small {x : Str} {k : Int} (h0 : 0 ≤ k) (h1 : k ≤ 8) (hx : x.length ≤ 8) : MulOk x k := by
  refine ⟨?_, fun _ _ => ?_, fun _ _ => ?_⟩
  · simp only [Bool.or_eq_false_iff, decide_eq_false_iff_not]
    omega
  · have : k = 0 ∨ k = 1 ∨ k = 2 ∨ k = 3 ∨ k = 4 ∨ k = 5 ∨ k = 6 ∨ k = 7 ∨ k = 8 := by omega
    rcases this with rfl | rfl | rfl | rfl | rfl | rfl | rfl | rfl | rfl <;> omega
  · unfold Builtin.Str.tooLong
    rw [decide_eq_false_iff_not]
    have h2 : x.length * k.toNat ≤ 8 * 8 := Nat.mul_le_mul hx (by omega)
    have : sizeLine = 16777216 := rfl
    omega
/-! the same rules with the written part named apart (within a comprehension) -/
theorem pe_bmK {K' : PySem.W.Frag} {T : String} {name : Str} {id : String} {r : V → List V → Hp → VK → Prop} {o e : Expr} {es : List Expr} {to : TE} {t : TA} {apos cpos : Pos} (hK : X.K = K') (pa : PlainAttrs T) (slot : PySem.Slot T name id) (hty : typeOf (.builtin id) = pure (.type "method_descriptor")) (hm : MtR X id r) (ho : PE X o to) (ha : PA X (e :: es) t)
    (hbase : attributeBase o name X.env (eval o X.env) = eval o X.env := by rfl)
    (hfew : ((backTo cpos (starEach (e :: es) X.env)).all (fun x => !x.1) && (backToKw cpos (keywordEach [] X.env)).all (fun x => x.1.isSome)
      && decide ((e :: es).length + ([] : List Keyword).length + (if ([] : List Keyword).isEmpty then 0 else 1) < 30)) = true := by rfl)
    (hline : (apos.endLine == cpos.line) = true := by rfl) (hs : starEach (e :: es) X.env = (false, eval e X.env) :: starEach es X.env := by rfl) (hplain : (backTo cpos (starEach es X.env)).any (·.1) = false := by rfl) :
    PE X (.Call (.Attribute o name apos) (e :: es) [] cpos) (tBM K' T r to t) := by
  subst hK
  exact pe_bm pa slot hty hm ho ha hbase hfew hline hs hplain
theorem call_len_seqK {K' : PySem.W.Frag} (hK : X.K = K') : CallR X (.builtin "len") (fun xs H Q => ∃ p ys, xs = [V.ref p] ∧ (SqL K' H p ys ∨ SqT K' H p ys) ∧ Q (.int ys.length) H) := by
  subst hK
  exact call_len_seq
theorem ix_listK {K' : PySem.W.Frag} (hK : X.K = K') : IxR X (rIxL K') := by
  subst hK
  exact ix_list
theorem op_in_seqK {K' : PySem.W.Frag} (hK : X.K = K') : OpR X (compareOp .In) (rIn K' false) := by
  subst hK
  exact op_in_seq
theorem op_notIn_seqK {K' : PySem.W.Frag} (hK : X.K = K') : OpR X (compareOp .NotIn) (rIn K' true) := by
  subst hK
  exact op_notIn_seq
theorem op_mul_str : OpR X (binaryOp .Mult) (fun x y H Q => ∃ a k, x = .str a ∧ y = .int k ∧ 0 ≤ k ∧ k ≤ 8 ∧ a.length ≤ 8 ∧ Q (.str (Txt.mul a k)) H) := by
  intro pins s σ H x y v u Q I rx ry h
  obtain ⟨a, k, rfl, rfl, h0, h1, hx, q⟩ := h
  obtain ⟨t, rfl⟩ := rx
  obtain ⟨t', rfl⟩ := ry
  exact SB.mul (mulOk_small h0 h1 hx) (fun t' tk => ⟨.str (Txt.mul a k), H, I.tok _, ⟨_, rfl⟩, q⟩)
end
end K2
end
section
set_option Elab.async false
set_option maxRecDepth 100000
set_option linter.all false
namespace K2
open PySem L2
theorem low_letters : ∀ c ∈ codes (Str.ofString "abcdefghijklmnopqrstuvwxyz"), 97 ≤ c ∧ c ≤ 122 := by decide +kernel
theorem at_letters : ∀ j, j < 26 → (codes (Str.ofString "abcdefghijklmnopqrstuvwxyz"))[j]? = some (97 + j) := by decide +kernel
theorem sum_ones : ∀ l : List Nat, (((l.map fun c => (⟨#[c]⟩ : Str)).map (·.length)).sum) = l.length
  | [] => rfl
  | c :: l => by
    rw [List.map_cons, List.map_cons, List.sum_cons, sum_ones l, List.length_cons]
    show 1 + l.length = l.length + 1
    omega
theorem if01 (c : Bool) : 0 ≤ (if c = true then (1 : Int) else 0) ∧ (if c = true then (1 : Int) else 0) ≤ 8 := by cases c <;> decide
theorem fin_q {W : Str} {b : List Nat} {spot f h i : Nat} (e : codes W = wordAt b spot (signAt f h i)) (hi : 26 ≤ i) : W ++ Str.ofString "q" = txt (finalAt b spot f h i) := by
  refine codes_inj ?_
  rw [codes_append, codes_txt, e]
  unfold finalAt
  dsimp only
  rw [if_pos hi]
  rfl
theorem fin_z {W : Str} {b : List Nat} {spot f h i : Nat} (e : codes W = wordAt b spot (signAt f h i)) (hi : ¬ 26 ≤ i) : W ++ Txt.mul (Str.ofString "z") (if W ∈ barred then 1 else 0) = txt (finalAt b spot f h i) := by
  refine codes_inj ?_
  have eW : txt (wordAt b spot (signAt f h i)) = W := by rw [← e, txt_codes]
  rw [codes_append, codes_txt, e]
  unfold finalAt
  dsimp only
  rw [if_neg hi, eW]
  congr 1
  by_cases hb : W ∈ barred
  · rw [if_pos hb, if_pos hb]
    decide +kernel
  · rw [if_neg hb, if_neg hb]
    decide +kernel
theorem finals_succ (b : List Nat) (spot f h i : Nat) : finals b spot f h (i + 1) = finals b spot f h i ++ [txt (finalAt b spot f h i)] := by
  unfold finals
  rw [List.range_succ, List.map_append]
  rfl
/-- a fresh list of m words -/
def spWords : Sp := fun vs H Q _ => ∃ (p c : Addr) (ns : List Int) (n m : Nat), vs = [.ref p, .int m] ∧ Pen H p c ns n ∧ n + 12 ≤ 100000 ∧ m ≤ 31 ∧
  ∀ (l : Addr) (ws : List Str) (H' : Hp), Words ws → ws.length = m → H' l = some (.lst (ws.map V.str)) → Keep p H H' → Pen H' p c ns (n + 12) → Q (.ref l) H'
abbrev nWords : List Str := ["_law_pen_here", "_law_many", "_law_letters", "_law_k", "_law_base", "_law_spot", "_law_first", "_law_hop", "_law_found", "_law_sign", "_law_word", "_law_more"]
section
variable {P : Program} {w : World} {K : PySem.W.Frag} {mg : Str → Option Value} {base : Heap}
theorem scWords : FnScope nWords ["_law_pen_here", "_law_many"] (defScope sWords) := ⟨rfl, rfl, rfl, by decide +kernel, rfl, by decide +kernel, by decide +kernel⟩
theorem ok_words {f fD fP fB : Addr} {fd fdD fdP fdB : FuncData} (F : Fun K "_law_words" "_law_words" sWords f fd) (T : Bi mg) (D : Df K mg "_law_draw" sDraw fD fdD ["_law_pen_here", "_law_many"]) (PK : Df K mg "_law_pick" sPick fP fdP ["_law_pen_here", "_law_some"])
    (BA : Df K mg "_law_barred" sBarred fB fdB []) : FnOk P w K mg base CX0 3 f fd ["_law_pen_here", "_law_many"] spWords := by
  have GD : FnOk P w K mg base CX0 1 fD fdD ["_law_pen_here", "_law_many"] spDraw := ok_draw D.F T
  have GP : FnOk P w K mg base CX0 2 fP fdP ["_law_pen_here", "_law_some"] spPick := ok_pick PK.F T D
  have GB : FnOk P w K mg base CX0 1 fB fdB [] spBarred := ok_barred BA.F
  refine F.ok scWords (fun vs H Q E h => ?_) (fun cdv A outer s H vs Q E hr h => ?_)
  · obtain ⟨p, c, ns, n, m, rfl, _⟩ := h
    rfl
  · obtain ⟨p, c, ns, n, m, rfl, hP, hn, hm, k⟩ := h
    have hr1 : Room 2 _ := hr
    have hr0 : Room 1 _ := hr.mono (by decide)
    refine ⟨_, (pss_cons (ps_set (i := 2) scWords.nd rfl (Or.inr rfl) pe_str)
      (pss_cons (ps_set (i := 4) scWords.nd rfl (Or.inl rfl) (pe_join pe_str (pe_lc (own := [("_law_k", 3)]) (g := gName 3) (tt := tYes) rfl scWords.nd (pi_range1 rfl T.range (pa_cons (pe_call GD hr0 (by rfl) D.m D.F.kp D.b .nil pass0 (pa_cons (pv 0) (pa_cons pe_int pa_nil))) pa_nil)) (blkOk_by (N := nWords) (sc := defScope sWords) (by decide +kernel)) (fun _ _ _ _ _ => pg_name (i := 3) scWords.nd rfl (Or.inl rfl)) (fun _ _ _ _ _ => pts_nil) (fun _ _ _ _ _ => pe_call GP hr1 (by rfl) PK.m PK.F.kp PK.b .nil pass0 (pa_cons (pv 0) (pa_cons (pv 2) pa_nil))))))
      (pss_cons (ps_set (i := 4) scWords.nd rfl (Or.inl rfl) (pe_call GP hr1 (by rfl) PK.m PK.F.kp PK.b .nil pass0 (pa_cons (pv 0) (pa_cons (pe_lst (pa_cons (pv 4) (pa_cons (pv 4) (pa_cons (pv 4) (pa_cons pe_str (pa_cons pe_str (pa_cons pe_str pa_nil))))))) pa_nil))))
      (pss_cons (ps_set (i := 5) scWords.nd rfl (Or.inl rfl) (pe_call GD hr0 (by rfl) D.m D.F.kp D.b .nil pass0 (pa_cons (pv 0) (pa_cons (pe_op op_add (pe_callB call_len_str (by rfl) T.len PySem.boot_len (pa_cons (pv 4) pa_nil)) pe_int) pa_nil))))
      (pss_cons (ps_set (i := 6) scWords.nd rfl (Or.inl rfl) (pe_call GD hr0 (by rfl) D.m D.F.kp D.b .nil pass0 (pa_cons (pv 0) (pa_cons pe_int pa_nil))))
      (pss_cons (ps_set (i := 7) scWords.nd rfl (Or.inl rfl) (pe_call GP hr1 (by rfl) PK.m PK.F.kp PK.b .nil pass0 (pa_cons (pv 0) (pa_cons (pe_lst (pa_cons pe_int (pa_cons pe_int (pa_cons pe_int (pa_cons pe_int (pa_cons pe_int (pa_cons pe_int pa_nil))))))) pa_nil))))
      (pss_cons (ps_set (i := 8) scWords.nd rfl (Or.inl rfl) (pe_lst pa_nil))
      (pss_cons (ps_for PassesOwn.never rfl (pi_range1 rfl T.range (pa_cons (pv 1) pa_nil)) (pg_name (i := 3) scWords.nd rfl (Or.inl rfl))
      (pss_cons (ps_set (i := 9) scWords.nd rfl (Or.inl rfl) (pe_ix ix_str (pv 2) (pe_op op_modN (pe_callTy call_int1 (by rfl) T.int (by decide +kernel) (pa_cons (pe_op op_add (pv 6) (pe_op op_mul (pv 7) (pv 3))) pa_nil)) pe_int) (fun _ _ => rfl)))
        (pss_cons (ps_set (i := 10) scWords.nd rfl (Or.inl rfl) (pe_op op_add_str (pe_op op_add_str (pe_slice sl_str (pv 4) po_none (po_some (pv 5))) (pv 9)) (pe_slice sl_str (pv 4) (po_some (pv 5)) po_none)))
        (pss_cons (ps_set (i := 11) scWords.nd rfl (Or.inl rfl) (pe_op op_mul_str pe_str (pe_callTy call_int1 (by rfl) T.int (by decide +kernel) (pa_cons (pe_cmpR op_in_seq (pv 10) (pe_call0 GB hr0 (by rfl) BA.m BA.F.kp BA.b .nil pass0) rfl) pa_nil))))
        (pss_one (ps_expr (pe_bm PySem.F.plainAttrs_list PySem.F.slot_list_append PySem.F.type_list_append mt_append (pv 8) (pa_cons (pe_op op_add_str (pv 10) (pe_ifExp (pt_cmpR op_ge (pv 3) pe_int (nomark _)) pe_str (pv 11))) pa_nil))))))))
      (pss_one (ps_ret (pv 8))))))))))), ?_⟩
    -- letters; the first base
    refine ⟨⟨_, rfl⟩, _, rfl, p, c, ns, n, 7, rfl, hP, by omega, by decide, by decide, fun v1 H1 v10 v11 k1 P1 => ?_⟩
    obtain ⟨q1, rfl⟩ : ∃ j : Nat, v1 = (j : Int) := ⟨v1.toNat, (Int.toNat_of_nonneg v10).symm⟩
    refine ⟨_, rfl, by omega, by omega, fun D1 hD1 => ?_⟩
    have hD1H : H D1 = none := k1.fresh P1 hD1
    have hpD := P1.pne hD1
    have hcD := P1.cne hD1
    refine lc_range (lo := 0) (n := q1) (fun i Hc => ∃ ys : List Nat, Low ys ∧ ys.length = i ∧ Hc D1 = some (.lst ((ys.map fun c => (⟨#[c]⟩ : Str)).map V.str)) ∧ Keep p H Hc ∧ Pen Hc p c ns (n + 1 + i)) ?_ ?_ ?_
    · refine ⟨[], fun _ h => (by cases h), rfl, upd_same, k1.new hD1H, P1.new hD1⟩
    · rintro i Hc hi ⟨ys, hys, hyl, hD, kc, Pc⟩
      have hDp : D1 ≠ p := hpD.symm
      refine ⟨rfl, _, rfl, _, rfl, p, c, ns, n + 1 + i, _, _, rfl, Pc, by omega, .inr (.inl ⟨_, rfl, rfl, by decide +kernel⟩), by decide +kernel, by decide +kernel, fun j v Hd hv kd Pd => ?_⟩
      rw [List.getElem?_map] at hv
      cases hc : (codes (Str.ofString "abcdefghijklmnopqrstuvwxyz"))[j]? with
      | none => rw [hc] at hv; cases hv
      | some ch =>
        rw [hc] at hv
        cases hv
        have hch := low_letters ch (List.mem_of_getElem? hc)
        refine ⟨_, kd D1 _ hD hDp, ?_, ys ++ [ch], ?_, ?_, ?_, ?_, ?_⟩
        · rw [List.length_map, List.length_map, hyl]
          have : sizeLine = 16777216 := rfl
          omega
        · intro d hd
          rcases List.mem_append.mp hd with hd | hd
          · exact hys d hd
          · have : d = ch := by simpa using hd
            omega
        · rw [List.length_append, hyl]
          rfl
        · rw [upd_same, List.map_append, List.map_append]
          rfl
        · exact (kc.trans kd).new hD1H
        · exact Pd.upd' hpD hcD
    · -- the join, the first pick
      rintro Hj ⟨ys, hys, hyl, hD, kj, Pj⟩
      refine ⟨Str.empty, D1, ys.map fun c => (⟨#[c]⟩ : Str), rfl, rfl, .inl (SqL.of hD), ?_, ?_⟩
      · rw [sum_ones, List.length_map]
        show ys.length + ys.length * 0 ≤ 16777216
        omega
      have hb0 := join_ones ys
      generalize Txt.join Str.empty (ys.map fun c => (⟨#[c]⟩ : Str)) = b0 at hb0
      refine ⟨_, rfl, _, rfl, _, rfl, _, rfl, (by show 6 ≤ sizeLine; decide), fun l6 h6 => ?_⟩
      refine ⟨p, c, ns, n + 1 + q1, _, _, rfl, Pj.new h6, by omega, .inl ⟨l6, rfl, (Pj.pne h6).symm, upd_same⟩, by simp, (by show 6 ≤ 1000; decide), fun j6 v6 H2 hv6 k2 P2 => ?_⟩
      obtain ⟨b, rfl, hbl, hb6⟩ : ∃ b : Str, v6 = .str b ∧ Low (codes b) ∧ (codes b).length ≤ 6 := by
        have hm6 := List.mem_of_getElem? hv6
        have l0 : Low (codes b0) ∧ (codes b0).length ≤ 6 := by rw [hb0]; exact ⟨hys, by omega⟩
        simp only [List.mem_cons, List.not_mem_nil, or_false] at hm6
        rcases hm6 with rfl | rfl | rfl | rfl | rfl | rfl
        · exact ⟨_, rfl, l0⟩
        · exact ⟨_, rfl, l0⟩
        · exact ⟨_, rfl, l0⟩
        · exact ⟨_, rfl, by unfold Low; decide +kernel, by decide +kernel⟩
        · exact ⟨_, rfl, by unfold Low; decide +kernel, by decide +kernel⟩
        · exact ⟨_, rfl, by unfold Low; decide +kernel, by decide +kernel⟩
      have k2' : Keep p H H2 := (kj.new (kj.fresh Pj h6)).trans k2
      -- spot
      refine ⟨_, rfl, _, rfl, _, rfl, (by rw [len_codes]; show _ ≤ 16777216; omega), _, _, rfl, rfl, p, c, ns, n + 1 + q1 + 1, _, rfl, P2, by omega, by omega, by rw [len_codes]; omega, fun vs H3 s0 s1 k3 P3 => ?_⟩
      obtain ⟨spot, rfl⟩ : ∃ j : Nat, vs = (j : Int) := ⟨vs.toNat, (Int.toNat_of_nonneg s0).symm⟩
      have hspot : spot ≤ (codes b).length := by rw [len_codes] at s1; omega
      have k3' := k2'.trans k3
      -- first
      refine ⟨_, rfl, p, c, ns, n + 1 + q1 + 1 + 1, _, rfl, P3, by omega, by decide, by decide, fun vf H4 f0 f1 k4 P4 => ?_⟩
      obtain ⟨fst, rfl⟩ : ∃ j : Nat, vf = (j : Int) := ⟨vf.toNat, (Int.toNat_of_nonneg f0).symm⟩
      have k4' := k3'.trans k4
      -- hop
      refine ⟨_, rfl, (by show 6 ≤ sizeLine; decide), fun lh hlh => ?_⟩
      refine ⟨p, c, ns, n + 1 + q1 + 1 + 1 + 1, _, _, rfl, P4.new hlh, by omega, .inl ⟨lh, rfl, (P4.pne hlh).symm, upd_same⟩, by simp, (by show 6 ≤ 1000; decide), fun jh vh H5 hvh k5 P5 => ?_⟩
      obtain ⟨hop, rfl, hhop⟩ : ∃ h : Nat, vh = .int (h : Int) ∧ h ∈ [1, 3, 5, 7, 9, 11] := by
        have hm6 := List.mem_of_getElem? hvh
        simp only [List.mem_cons, List.not_mem_nil, or_false] at hm6
        rcases hm6 with rfl | rfl | rfl | rfl | rfl | rfl
        · exact ⟨1, rfl, by simp⟩
        · exact ⟨3, rfl, by simp⟩
        · exact ⟨5, rfl, by simp⟩
        · exact ⟨7, rfl, by simp⟩
        · exact ⟨9, rfl, by simp⟩
        · exact ⟨11, rfl, by simp⟩
      have k5' : Keep p H H5 := (k4'.new (k4'.fresh P4 hlh)).trans k5
      -- found = []
      refine ⟨Nat.zero_le _, fun l hl => ?_⟩
      have hlH : H l = none := k5'.fresh P5 hl
      have hpl := P5.pne hl
      have hcl := P5.cne hl
      have hb11 : hop ≤ 11 := by
        simp only [List.mem_cons, List.not_mem_nil, or_false] at hhop
        omega
      refine ⟨_, rfl, _, rfl, by omega, by omega, for_range (lo := 0) (n := m) (fun i σ Hc => ∃ v3 v9 v10 v11 : Option V, σ = [some (.ref p), some (.int m), some (.str (Str.ofString "abcdefghijklmnopqrstuvwxyz")), v3, some (.str b), some (.int spot), some (.int fst), some (.int hop), some (.ref l), v9, v10, v11] ∧
        Hc l = some (.lst ((finals (codes b) spot fst hop i).map V.str)) ∧ Keep p H Hc ∧ Pen Hc p c ns (n + 12)) ?_ ?_ ?_⟩
      · refine ⟨_, _, _, _, rfl, upd_same, k5'.new hlH, (P5.new hl).mono (by omega)⟩
      · rintro i σ Hc hi ⟨v3, v9, v10, v11, rfl, hL, kc, Pc⟩
        have eN : ((fst : Int) + (hop : Int) * (0 + (i : Int))).fmod 26 = (((fst + hop * i) % 26 : Nat) : Int) := by
          rw [Int.zero_add, Int.fmod_eq_emod_of_nonneg _ (by decide)]
          have : ((fst : Int) + (hop : Int) * (i : Int)) = ((fst + hop * i : Nat) : Int) := by
            rw [Int.natCast_add, Int.natCast_mul]
          rw [this]
          rfl
        have hlt : (fst + hop * i) % 26 < 26 := Nat.mod_lt _ (by decide)
        refine ⟨_, rfl, _, rfl, _, rfl, _, rfl, _, _, rfl, rfl, .inl ⟨by omega, by omega⟩, _, _, rfl, rfl, .inl ⟨_, rfl, _, _, rfl, rfl, (by show (26 : Int) ≠ 0; decide), _, _, _, rfl, rfl, by decide +kernel, (by rw [eN]; exact atI_nat (at_letters _ hlt)), ?_⟩⟩
        have lc1 := len_codes b
        refine ⟨_, rfl, _, rfl, _, rfl, _, rfl, ?_, _, rfl, _, _, rfl, rfl, ?_, _, rfl, _, rfl, _, rfl, _, rfl, ?_, _, _, rfl, rfl, ?_, ?_⟩
        · rw [lc1]; show _ ≤ 16777216; omega
        · rw [len_codes (cutS b none (some (spot : Int))), cut_to hspot, List.length_take]; show _ + 1 ≤ 16777216; omega
        · rw [lc1]; show _ ≤ 16777216; omega
        · rw [len_codes (cutS b none (some (spot : Int)) ++ _), codes_append, cut_to hspot, len_codes (cutS b _ none), cut_from hspot, List.length_append, List.length_take, List.length_drop]
          show _ + 1 + _ ≤ 16777216
          omega
        have hW : codes (cutS b none (some (spot : Int)) ++ (⟨#[97 + (fst + hop * i) % 26]⟩ : Str) ++ cutS b (some (spot : Int)) none) = wordAt (codes b) spot (signAt fst hop i) := by
          rw [codes_append, codes_append, cut_to hspot, cut_from hspot]
          rfl
        generalize cutS b none (some (spot : Int)) ++ (⟨#[97 + (fst + hop * i) % 26]⟩ : Str) ++ cutS b (some (spot : Int)) none = W at hW ⊢
        refine ⟨_, rfl, rfl, fun lb hlb => ⟨lb, _, rfl, .inl (SqL.of upd_same), rfl, flat_strs _, .inr ⟨_, rfl, _, _, rfl, rfl, ?_, ?_, by decide +kernel, ?_⟩⟩⟩
        · exact (if01 _).1
        · exact (if01 _).2
        have hz : (if (if false = true then !inV (V.str W) (barred.map V.str) else inV (V.str W) (barred.map V.str)) = true then (1 : Int) else 0) = (if W ∈ barred then 1 else 0) := by
          rw [if_neg Bool.false_ne_true, inV_strs]
          by_cases hb : W ∈ barred
          · rw [if_pos hb, if_pos (by simpa using hb)]
          · rw [if_neg hb, if_neg (by simpa using hb)]
        have hlbH : H lb = none := kc.fresh Pc hlb
        have hll : l ≠ lb := ne_of_none hL hlb
        have hL2 : (upd Hc lb (.lst (barred.map V.str))) l = some (.lst ((finals (codes b) spot fst hop i).map V.str)) := by rw [upd_ne hll]; exact hL
        have kc2 : Keep p H (upd Hc lb (.lst (barred.map V.str))) := kc.new hlbH
        have Pc2 := Pc.new (o := .lst (barred.map V.str)) hlb
        have fin : ∀ x : Str, x = txt (finalAt (codes b) spot fst hop i) → (upd (upd Hc lb (.lst (barred.map V.str))) l (.lst ((finals (codes b) spot fst hop i).map V.str ++ [V.str x]))) l = some (.lst ((finals (codes b) spot fst hop (i + 1)).map V.str)) := fun x hx => by
          rw [upd_same, finals_succ, List.map_append, hx]
          rfl
        have fsz : (finals (codes b) spot fst hop i).length = i := by simp [finals]
        have lW : W.length = (codes b).length + 1 := by rw [len_codes, hW, len_wordAt]
        refine ⟨_, rfl, .inl ⟨rfl, _, SqL.of hL2⟩, _, rfl, _, rfl, _, _, rfl, rfl, _, rfl, ite2 (fun hg => ?_) (fun hg => ?_)⟩
        · have hg := of_decide_eq_true hg
          have hi26 : 26 ≤ i := by omega
          refine ⟨_, _, rfl, rfl, ?_, l, _, _, rfl, rfl, hL2, ?_, ?_⟩
          · rw [lW]; show _ + 1 ≤ 16777216; omega
          · rw [List.length_map, fsz]; show _ < 16777216; omega
          · exact ⟨_, _, _, _, rfl, fin _ (fin_q hW hi26), kc2.new hlH, Pc2.upd' hpl hcl⟩
        · have hi26 : ¬ 26 ≤ i := fun h => hg (decide_eq_true (by omega))
          refine ⟨_, rfl, _, _, rfl, rfl, ?_, l, _, _, rfl, rfl, hL2, ?_, ?_⟩
          · rw [hz, lW]
            have : (Txt.mul (Str.ofString "z") (if W ∈ barred then 1 else 0)).length ≤ 1 := by
              by_cases hb : W ∈ barred
              · rw [if_pos hb]; decide +kernel
              · rw [if_neg hb]; decide +kernel
            show _ ≤ 16777216
            omega
          · rw [List.length_map, fsz]; show _ < 16777216; omega
          · refine ⟨_, _, _, _, rfl, fin _ ?_, kc2.new hlH, Pc2.upd' hpl hcl⟩
            rw [hz]
            exact fin_z hW hi26
      · rintro σ Hc ⟨v3, v9, v10, v11, rfl, hL, kc, Pc⟩
        refine ⟨_, rfl, ?_⟩
        exact k l _ Hc (words_finals hbl hb6 hhop (by omega) spot fst) (by simp [finals]) hL kc Pc
end
end K2
end
section
set_option Elab.async false
set_option maxRecDepth 100000
set_option linter.all false
namespace K2
open PySem L2
abbrev sMixed : Stmt := top 21
abbrev sRow : Stmt := top 22
abbrev sRows : Stmt := top 23

theorem perm_erase {α : Type} : ∀ (l : List α) (k : Nat) (h : k < l.length), ([l[k]] ++ l.eraseIdx k).Perm l
  | [], k, h => absurd h (Nat.not_lt_zero _)
  | a :: l, 0, h => List.Perm.refl _
  | a :: l, k + 1, h => by
    have ih := perm_erase l k (Nat.lt_of_succ_lt_succ h)
    show (l[k]'(Nat.lt_of_succ_lt_succ h) :: (a :: l.eraseIdx k)).Perm (a :: l)
    exact (List.Perm.swap a _ _).trans (List.Perm.cons a ih)
theorem map_erase {α β : Type} (f : α → β) : ∀ (l : List α) (k : Nat), (l.map f).eraseIdx k = (l.eraseIdx k).map f
  | [], k => by simp
  | a :: l, 0 => rfl
  | a :: l, k + 1 => by
    show f a :: (l.map f).eraseIdx k = f a :: (l.eraseIdx k).map f
    rw [map_erase f l k]
def spMixed : Sp := fun vs H Q _ => ∃ (p c y : Addr) (ns : List Int) (n : Nat) (xs : List Str), vs = [.ref p, .ref y] ∧ Pen H p c ns n ∧ n + 40 ≤ 100000 ∧ H y = some (.lst (xs.map V.str)) ∧ xs.length ≤ 33 ∧
  ∀ (l : Addr) (ys : List Str) (H' : Hp), ys.Perm xs → H' l = some (.lst (ys.map V.str)) → Keep p H H' → Pen H' p c ns (n + xs.length) → Q (.ref l) H'
abbrev nMixed : List Str := ["_law_pen_here", "_law_some", "_law_left", "_law_k"]
section
variable {P : Program} {w : World} {K : PySem.W.Frag} {mg : Str → Option Value} {base : Heap}
theorem scMixed : FnScope nMixed ["_law_pen_here", "_law_some"] (defScope sMixed) := ⟨rfl, rfl, rfl, by decide +kernel, rfl, by decide +kernel, by decide +kernel⟩
theorem mt_popAtR (X : Cx) : MtR X "list.pop" rPopAt := mt_popAt
theorem six {k n : Nat} (h : k < n) : seqIndex? (k : Int) n = some k := by
  unfold seqIndex?
  simp
  omega
theorem ok_mixed {f fD : Addr} {fd fdD : FuncData} (F : Fun K "_law_mixed" "_law_mixed" sMixed f fd) (T : Bi mg) (D : Df K mg "_law_draw" sDraw fD fdD ["_law_pen_here", "_law_many"]) :
    FnOk P w K mg base CX0 2 f fd ["_law_pen_here", "_law_some"] spMixed := by
  have GD : FnOk P w K mg base CX0 1 fD fdD ["_law_pen_here", "_law_many"] spDraw := ok_draw D.F T
  refine F.ok scMixed (fun vs H Q E h => ?_) (fun cdv A outer s H vs Q E hr h => ?_)
  · obtain ⟨p, c, y, ns, n, xs, rfl, _⟩ := h
    rfl
  · obtain ⟨p, c, y, ns, n, xs, rfl, hP, hn, hy, hx, k⟩ := h
    have hr0 : Room 1 _ := hr
    refine ⟨_, (pss_cons (ps_set (i := 2) scMixed.nd rfl (Or.inr rfl) (pe_callTy call_list_of (by rfl) T.list (by decide +kernel) (pa_cons (pv 1) pa_nil)))
      (pss_one (ps_ret (pe_lc (own := [("_law_k", 3)]) (g := gName 3) (tt := tYes) rfl scMixed.nd (pi_range1 rfl T.range (pa_cons (pe_callB call_len_seq (by rfl) T.len PySem.boot_len (pa_cons (pv 2) pa_nil)) pa_nil)) (blkOk_by (N := nMixed) (sc := defScope sMixed) (by decide +kernel)) (fun _ _ _ _ _ => pg_name (i := 3) scMixed.nd rfl (Or.inl rfl)) (fun _ _ _ _ _ => pts_nil) (fun _ _ _ _ _ => pe_bmK (K' := K) rfl PySem.F.plainAttrs_list PySem.F.slot_list_pop PySem.F.type_list_pop (mt_popAtR _) (pv 2) (pa_cons (pe_call GD hr0 (by rfl) D.m D.F.kp D.b .nil pass0 (pa_cons (pv 0) (pa_cons (pe_callB (call_len_seqK (K' := K) rfl) (by rfl) T.len PySem.boot_len (pa_cons (pv 2) pa_nil)) pa_nil))) pa_nil)))))), ?_⟩
    refine ⟨_, rfl, y, _, rfl, .inl (SqL.of hy), fun L hL => ?_⟩
    have hLp := hP.pne hL
    have hLc := hP.cne hL
    refine ⟨_, rfl, L, _, rfl, .inl (SqL.of upd_same), _, rfl, ?_, ?_, fun D1 hD1 => ?_⟩
    · rw [List.length_map]; omega
    · rw [List.length_map]; omega
    have hne : L ≠ D1 := fun e => by rw [← e, upd_same] at hD1; cases hD1
    have hD0 : H D1 = none := by rw [upd_ne hne.symm] at hD1; exact hD1
    have hDp := hP.pne hD0
    have hDc := hP.cne hD0
    refine lc_range (lo := 0) (n := (xs.map V.str).length) (fun i Hc => ∃ acc left : List Str, (acc ++ left).Perm xs ∧ acc.length = i ∧ Hc D1 = some (.lst (acc.map V.str)) ∧ Hc L = some (.lst (left.map V.str)) ∧ Keep p H Hc ∧ Pen Hc p c ns (n + i)) ?_ ?_ ?_
    · exact ⟨[], xs, List.Perm.refl _, rfl, upd_same, by rw [upd_ne hne, upd_same], ((Keep.refl p H).new hL).new hD0, (hP.new hL).new hD1⟩
    · rintro i Hc hi ⟨acc, left, hp, hl, hD, hLh, kc, Pc⟩
      have hlen : acc.length + left.length = xs.length := by rw [← List.length_append]; exact hp.length_eq
      rw [List.length_map] at hi
      refine ⟨rfl, _, rfl, .inl ⟨rfl, _, SqL.of hLh⟩, _, rfl, _, rfl, L, _, rfl, .inl (SqL.of hLh), p, c, ns, n + i, _, rfl, Pc, by omega, ?_, ?_, fun v Hd v0 v1 kd Pd => ?_⟩
      · rw [List.length_map]; omega
      · rw [List.length_map]; omega
      rw [List.length_map] at v1
      obtain ⟨j, rfl⟩ : ∃ j : Nat, v = (j : Int) := ⟨v.toNat, (Int.toNat_of_nonneg v0).symm⟩
      have hj : j < left.length := by omega
      have hLd := kd L _ hLh hLp.symm
      have hDd := kd D1 _ hD hDp.symm
      refine ⟨L, _, _, j, V.str left[j], rfl, rfl, hLd, by omega, by omega, six (by rw [List.length_map]; exact hj), by rw [List.getElem?_map, List.getElem?_eq_getElem hj]; rfl, acc.map V.str, by rw [upd_ne hne.symm]; exact hDd, ?_, acc ++ [left[j]], left.eraseIdx j, ?_, ?_, ?_, ?_, ?_, ?_⟩
      · rw [List.length_map]; show _ < 16777216; omega
      · refine List.Perm.trans ?_ hp
        rw [List.append_assoc]
        exact List.Perm.append_left acc (perm_erase left j hj)
      · rw [List.length_append, hl]; rfl
      · rw [upd_same, List.map_append]; rfl
      · rw [upd_ne hne, upd_same, map_erase]
      · exact ((kc.trans kd).new hL).new hD0
      · exact (Pd.upd' hLp hLc).upd' hDp hDc
    · rintro Hj ⟨acc, left, hp, hl, hD, hLh, kj, Pj⟩
      have hlen : acc.length + left.length = xs.length := by rw [← List.length_append]; exact hp.length_eq
      rw [List.length_map] at hl Pj
      have hn0 : left = [] := List.length_eq_zero_iff.mp (by omega)
      subst hn0
      rw [List.append_nil] at hp
      exact k D1 acc Hj hp hD kj Pj
/-- a row of the heap -/
def rowO (r : Row) : HO := .tup ((r.1 :: r.2).map V.str)
def RowsAt (H : Hp) (ts : List Addr) (rs : List Row) : Prop := ts.length = rs.length ∧ ∀ (i : Nat) (t : Addr) (r : Row), ts[i]? = some t → rs[i]? = some r → H t = some (rowO r)
theorem RowsAt.mono {H H' : Hp} {ts : List Addr} {rs : List Row} (h : RowsAt H ts rs) (k : ∀ b r, H b = some (rowO r) → H' b = some (rowO r)) : RowsAt H' ts rs := ⟨h.1, fun i t r a b => k t r (h.2 i t r a b)⟩
theorem rowsAt_nil (H : Hp) : RowsAt H [] [] := ⟨rfl, fun i t r a => by simp at a⟩
theorem RowsAt.snoc {H : Hp} {ts : List Addr} {rs : List Row} {t : Addr} {r : Row} (h : RowsAt H ts rs) (ht : H t = some (rowO r)) : RowsAt H (ts ++ [t]) (rs ++ [r]) := by
  refine ⟨by simp [h.1], fun i u q a b => ?_⟩
  by_cases hi : i < ts.length
  · rw [List.getElem?_append_left hi] at a
    rw [List.getElem?_append_left (by rw [← h.1]; exact hi)] at b
    exact h.2 i u q a b
  · rw [List.getElem?_append_right (by omega)] at a
    rw [List.getElem?_append_right (by have := h.1; omega)] at b
    have : i - ts.length = 0 := by
      have := (List.getElem?_eq_some_iff.mp a).1
      simpa using this
    rw [this] at a
    rw [← h.1, this] at b
    simp at a b
    subst a b
    exact ht
theorem row_ne_pen {r : Row} {c : Addr} {a l : Int} : rowO r ≠ penO c a l := by
  unfold rowO penO
  intro e
  cases e
theorem Pen.row_ne {H : Hp} {p c q : Addr} {ns : List Int} {n : Nat} {r : Row} (h : Pen H p c ns n) (hq : H q = some (rowO r)) : q ≠ p := fun e => by
  obtain ⟨a, l, g, _⟩ := h.pen
  rw [e, g] at hq
  exact row_ne_pen (Option.some.inj hq).symm
theorem RowsAt.keep {H H' : Hp} {p c : Addr} {ns : List Int} {n : Nat} {ts : List Addr} {rs : List Row} (h : RowsAt H ts rs) (P : Pen H p c ns n) (k : Keep p H H') : RowsAt H' ts rs := h.mono fun b r e => k b _ e (P.row_ne e)
def spRow : Sp := fun vs H Q _ => ∃ (p c y : Addr) (ns : List Int) (n : Nat) (x : Str) (known : List Str), vs = [.ref p, .str x, .ref y] ∧ Pen H p c ns n ∧ n + 50 ≤ 100000 ∧ H y = some (.lst (known.map V.str)) ∧ known.Nodup ∧ 2 ≤ known.length ∧ known.length ≤ 33 ∧
  ∀ (t : Addr) (bs : List Str) (H' : Hp), bs ≠ [] → bs.Nodup → (∀ b ∈ bs, b ∈ known) → H' t = some (rowO (x, bs)) → Keep p H H' → Pen H' p c ns (n + 34) → Q (.ref t) H'
abbrev nRow : List Str := ["_law_pen_here", "_law_word", "_law_known", "_law_many"]
theorem scRow : FnScope nRow ["_law_pen_here", "_law_word", "_law_known"] (defScope sRow) := ⟨rfl, rfl, rfl, by decide +kernel, rfl, by decide +kernel, by decide +kernel⟩
theorem cut_take (ys : List Str) (k : Nat) : cutV (ys.map V.str) none (some (k : Int)) = (ys.take k).map V.str := by
  unfold cutV
  rw [HT.sIx_nat, HT.sIx_none, List.drop_zero, Nat.sub_zero, ← List.map_take]
  congr 1
  rw [List.length_map]
  by_cases h : k ≤ ys.length
  · rw [Nat.min_eq_left h]
  · rw [Nat.min_eq_right (by omega), List.take_of_length_le (by omega), List.take_of_length_le (by omega)]
theorem ok_row {f fP fM : Addr} {fd fdP fdM : FuncData} (F : Fun K "_law_row" "_law_row" sRow f fd) (T : Bi mg) (PK : Df K mg "_law_pick" sPick fP fdP ["_law_pen_here", "_law_some"]) (GP : FnOk P w K mg base CX0 2 fP fdP ["_law_pen_here", "_law_some"] spPick)
    (MI : Df K mg "_law_mixed" sMixed fM fdM ["_law_pen_here", "_law_some"]) (GM : FnOk P w K mg base CX0 2 fM fdM ["_law_pen_here", "_law_some"] spMixed) : FnOk P w K mg base CX0 3 f fd ["_law_pen_here", "_law_word", "_law_known"] spRow := by
  refine F.ok scRow (fun vs H Q E h => ?_) (fun cdv A outer s H vs Q E hr h => ?_)
  · obtain ⟨p, c, y, ns, n, x, known, rfl, _⟩ := h
    rfl
  · obtain ⟨p, c, y, ns, n, x, known, rfl, hP, hn, hy, hnd, h2, h33, k⟩ := h
    have hr1 : Room 2 _ := hr
    refine ⟨_, (pss_cons (ps_set (i := 3) scRow.nd rfl (Or.inl rfl) (pe_call GP hr1 (by rfl) PK.m PK.F.kp PK.b .nil pass0 (pa_cons (pv 0) (pa_cons (pe_lst (pa_cons pe_int (pa_cons pe_int (pa_cons pe_int (pa_cons pe_int (pa_cons pe_int (pa_cons (pe_callB call_len_seq (by rfl) T.len PySem.boot_len (pa_cons (pv 2) pa_nil)) pa_nil))))))) pa_nil))))
      (pss_one (ps_ret (pe_op op_catT (pe_tup (pa_cons (pv 1) pa_nil)) (pe_callTy call_tuple_of (by rfl) T.tuple (by decide +kernel) (pa_cons (pe_slice sl_list (pe_call GM hr1 (by rfl) MI.m MI.F.kp MI.b .nil pass0 (pa_cons (pv 0) (pa_cons (pv 2) pa_nil))) po_none (po_some (pv 3))) pa_nil)))))), ?_⟩
    refine ⟨_, rfl, _, rfl, y, _, rfl, .inl (SqL.of hy), (by show 6 ≤ sizeLine; decide), fun l6 h6 => ?_⟩
    refine ⟨p, c, ns, n, _, _, rfl, hP.new h6, by omega, .inl ⟨l6, rfl, (hP.pne h6).symm, upd_same⟩, by simp, (by show 6 ≤ 1000; decide), fun j v H1 hv k1 P1 => ?_⟩
    obtain ⟨m, rfl, hm⟩ : ∃ m : Nat, v = .int (m : Int) ∧ 1 ≤ m := by
      have hm6 := List.mem_of_getElem? hv
      simp only [List.mem_cons, List.not_mem_nil, or_false] at hm6
      rcases hm6 with rfl | rfl | rfl | rfl | rfl | rfl
      · exact ⟨1, rfl, by omega⟩
      · exact ⟨1, rfl, by omega⟩
      · exact ⟨2, rfl, by omega⟩
      · exact ⟨2, rfl, by omega⟩
      · exact ⟨3, rfl, by omega⟩
      · exact ⟨_, rfl, by rw [List.length_map]; omega⟩
    have k1' : Keep p H H1 := ((Keep.refl p H).new h6).trans k1
    have hy1 := k1' y _ hy (hP.strs_ne hy)
    -- (word,) + tuple(mixed(pen, known)[:many])
    refine ⟨_, rfl, (by show 1 ≤ sizeLine; decide), fun t1 ht1 => ?_⟩
    refine ⟨_, rfl, _, rfl, p, c, y, ns, n + 1, known, rfl, P1.new ht1, by omega, by rw [upd_ne (ne_of_none hy1 ht1)]; exact hy1, h33, fun lm ys H2 hp hlm k2 P2 => ?_⟩
    have k2' : Keep p H H2 := (k1'.new (k1'.fresh P1 ht1)).trans k2
    have ht2 : H2 t1 = some (.tup [.str x]) := k2 t1 _ upd_same (P1.pne ht1).symm
    refine ⟨_, rfl, _, rfl, lm, _, rfl, SqL.of hlm, fun l7 h7 => ?_⟩
    refine ⟨l7, _, rfl, .inl ⟨SqL.of upd_same, fun t3 ht3 => ?_⟩⟩
    have n71 : t1 ≠ l7 := ne_of_none ht2 h7
    have h71 : (upd H2 l7 (.lst (cutV (ys.map V.str) none (some (m : Int))))) t1 = some (.tup [.str x]) := by rw [upd_ne n71]; exact ht2
    have n13 : t1 ≠ t3 := ne_of_none h71 ht3
    have hyl : ys.length = known.length := hp.length_eq
    have hcut := cut_take ys m
    have htn : ys.take m ≠ [] := fun e => by
      have h3 := congrArg List.length e
      rw [List.length_take, List.length_nil] at h3
      omega
    have htl : (ys.take m).length ≤ 33 := by rw [List.length_take]; omega
    rw [hcut] at ht3 ⊢
    refine ⟨t1, t3, [.str x], (ys.take m).map V.str, rfl, rfl, SqT.of (by rw [upd_ne n13, upd_ne n71]; exact ht2), SqT.of upd_same, by simp, ?_, fun e => absurd (List.map_eq_nil_iff.mp e) htn, fun _ t4 ht4 => ?_⟩
    · rw [List.length_map]; show 1 + _ ≤ 16777216; omega
    have f7 : H l7 = none := k2'.fresh P2 h7
    have P7 := P2.new (o := .lst ((ys.take m).map V.str)) h7
    have k7 : Keep p H (upd H2 l7 (.lst ((ys.take m).map V.str))) := k2'.new f7
    have k8 := k7.new (o := .tup ((ys.take m).map V.str)) (k7.fresh P7 ht3)
    have P8 := P7.new (o := .tup ((ys.take m).map V.str)) ht3
    refine k t4 (ys.take m) _ htn ((hp.nodup_iff.mpr hnd).sublist (List.take_sublist _ _)) (fun b hb => hp.mem_iff.mp (List.mem_of_mem_take hb)) upd_same (k8.new (k8.fresh P8 ht4)) ((P8.new ht4).mono (by omega))
abbrev nRows : List Str := ["_law_pen_here", "_law_words_here", "_law_known", "_law_found", "_law_word"]
theorem scRows : FnScope nRows ["_law_pen_here", "_law_words_here"] (defScope sRows) := ⟨rfl, rfl, rfl, by decide +kernel, rfl, by decide +kernel, by decide +kernel⟩
def spRows : Sp := fun vs H Q _ => ∃ (p c y : Addr) (ns : List Int) (n : Nat) (ws : List Str), vs = [.ref p, .ref y] ∧ Pen H p c ns n ∧ n + 2000 ≤ 100000 ∧ H y = some (.lst (ws.map V.str)) ∧ Words ws ∧ ws.length ≤ 31 ∧
  ∀ (l : Addr) (ts : List Addr) (rs : List Row) (H' : Hp), Good rs → rs.map (·.1) = ws → RowsAt H' ts rs → H' l = some (.lst (ts.map V.ref)) → Keep p H H' → Pen H' p c ns (n + 1500) → Q (.ref l) H'
theorem ok_rows {f fR : Addr} {fd fdR : FuncData} (F : Fun K "_law_rows" "_law_rows" sRows f fd) (RO : Df K mg "_law_row" sRow fR fdR ["_law_pen_here", "_law_word", "_law_known"]) (GR : FnOk P w K mg base CX0 3 fR fdR ["_law_pen_here", "_law_word", "_law_known"] spRow) :
    FnOk P w K mg base CX0 4 f fd ["_law_pen_here", "_law_words_here"] spRows := by
  refine F.ok scRows (fun vs H Q E h => ?_) (fun cdv A outer s H vs Q E hr h => ?_)
  · obtain ⟨p, c, y, ns, n, ws, rfl, _⟩ := h
    rfl
  · obtain ⟨p, c, y, ns, n, ws, rfl, hP, hn, hy, hw, h31, k⟩ := h
    have hr2 : Room 3 _ := hr
    refine ⟨_, (pss_cons (ps_set (i := 2) scRows.nd rfl (Or.inl rfl) (pe_lst (pa_cons pe_str (pa_cons pe_str pa_nil))))
      (pss_cons (ps_set (i := 3) scRows.nd rfl (Or.inl rfl) (pe_lst pa_nil))
      (pss_cons (ps_for PassesOwn.never rfl (pi_list (pv 1)) (pg_name (i := 4) scRows.nd rfl (Or.inl rfl))
      (pss_cons (ps_expr (pe_bm PySem.F.plainAttrs_list PySem.F.slot_list_append PySem.F.type_list_append mt_append (pv 3) (pa_cons (pe_call GR hr2 (by rfl) RO.m RO.F.kp RO.b .nil pass0 (pa_cons (pv 0) (pa_cons (pv 4) (pa_cons (pv 2) pa_nil)))) pa_nil)))
        (pss_one (ps_expr (pe_bm PySem.F.plainAttrs_list PySem.F.slot_list_append PySem.F.type_list_append mt_append (pv 2) (pa_cons (pv 4) pa_nil))))))
      (pss_one (ps_ret (pv 3)))))), ?_⟩
    refine ⟨(by show 2 ≤ sizeLine; decide), fun kn hkn => ⟨Nat.zero_le _, fun fl hfl => ?_⟩⟩
    have nkf : kn ≠ fl := fun e => by rw [← e, upd_same] at hfl; cases hfl
    have hfl0 : H fl = none := by rw [upd_ne nkf.symm] at hfl; exact hfl
    have pk := hP.pne hkn
    have ck := hP.cne hkn
    have pf := hP.pne hfl0
    have cf := hP.cne hfl0
    refine ⟨_, rfl, y, rfl, ⟨_, SqL.of (by rw [upd_ne (ne_of_none hy hfl0), upd_ne (ne_of_none hy hkn)]; exact hy)⟩, for_list (K := K) (a := y) (xs := ws.map V.str)
      (fun i σ Hc => ∃ (rs : List Row) (ts : List Addr) (v4 : Option V), σ = [some (.ref p), some (.ref y), some (.ref kn), some (.ref fl), v4] ∧ Good rs ∧ rs.map (·.1) = ws.take i ∧ RowsAt Hc ts rs ∧ Hc kn = some (.lst ((base0 ++ ws.take i).map V.str)) ∧ Hc fl = some (.lst (ts.map V.ref)) ∧ Keep p H Hc ∧ Pen Hc p c ns (n + 34 * i)) ?_ ?_ ?_ ?_⟩
    · refine ⟨[], [], none, rfl, good_nil, rfl, rowsAt_nil _, by rw [upd_ne nkf, upd_same]; rfl, upd_same, ((Keep.refl p H).new hkn).new hfl0, (hP.new hkn).new hfl⟩
    · rintro i σ Hc hi ⟨rs, ts, v4, rfl, g, en, R, hK, hF, kc, Pc⟩
      exact SqL.of (kc y _ hy (hP.strs_ne hy))
    · rintro i x σ Hc hi ⟨rs, ts, v4, rfl, g, en, R, hK, hF, kc, Pc⟩
      have hil : i < ws.length := by
        have := (List.getElem?_eq_some_iff.mp hi).1
        rwa [List.length_map] at this
      have hwi : ws[i]? = some ws[i] := List.getElem?_eq_getElem hil
      rw [List.getElem?_map, hwi] at hi
      cases hi
      have hrl : rs.length = i := by
        have := congrArg List.length en
        rw [List.length_map, List.length_take] at this
        omega
      have hkl : (base0 ++ ws.take i).length = i + 2 := by
        simp [base0, List.length_take]
        omega
      have hnd : (base0 ++ ws.take i).Nodup := by
        have := g.nodup rs.length (Nat.le_refl _)
        unfold knownAt at this
        rw [List.take_length, en] at this
        exact this
      refine ⟨_, rfl, .inl ⟨rfl, _, SqL.of hF⟩, _, rfl, _, rfl, _, rfl, p, c, kn, ns, n + 34 * i, ws[i], base0 ++ ws.take i, rfl, Pc, by omega, hK, hnd, by omega, by omega, fun t bs Hd b1 b2 b3 ht kd Pd => ?_⟩
      have hFd := kd fl _ hF pf.symm
      have hKd := kd kn _ hK pk.symm
      refine ⟨fl, _, _, rfl, rfl, hFd, ?_, ?_⟩
      · rw [List.length_map, R.1, hrl]; show _ < 16777216; omega
      refine ⟨_, rfl, .inl ⟨rfl, _, SqL.of (by rw [upd_ne nkf]; exact hKd)⟩, _, rfl, kn, _, _, rfl, rfl, by rw [upd_ne nkf]; exact hKd, ?_, ?_⟩
      · rw [List.length_map, hkl]; show _ < 16777216; omega
      have etk : ws.take (i + 1) = ws.take i ++ [ws[i]] := by rw [List.take_add_one, hwi]; rfl
      have hnew : ws[i] ∉ base0 ++ ws.take i := by
        intro hm
        rcases List.mem_append.mp hm with hm | hm
        · have := hw.nb ws[i] (List.getElem_mem _)
          unfold base0 at hm
          rcases List.mem_cons.mp hm with e | hm
          · rw [e] at this; exact this err_barred
          · have e : ws[i] = sVac := by simpa using hm
            rw [e] at this; exact this vac_barred
        · have := List.nodup_append.mp (etk ▸ hw.nd.sublist (List.take_sublist (i + 1) ws))
          exact this.2.2 _ hm _ (by simp) rfl
      have hFe : ∀ o o', (upd (upd Hd fl o) kn o') fl = some o := fun o o' => by rw [upd_ne nkf.symm, upd_same]
      have row1 : ∀ b r, Hd b = some (rowO r) → ∀ xs ys, (upd (upd Hd fl (.lst xs)) kn (.lst ys)) b = some (rowO r) := fun b r e xs ys => by
        have h1 : b ≠ fl := ne_of e hFd (by unfold rowO; intro z; cases z)
        have h2 : b ≠ kn := ne_of e hKd (by unfold rowO; intro z; cases z)
        rw [upd_ne h2, upd_ne h1]
        exact e
      refine ⟨rs ++ [(ws[i], bs)], ts ++ [t], _, rfl, good_snoc g (by rw [en]; exact ⟨hw.vw _ (List.getElem_mem _), hnew, b1, b2, b3⟩), by rw [List.map_append, en, etk]; rfl, ?_, ?_, ?_, ?_, ?_⟩
      · exact ((R.keep Pc kd).mono fun b r e => row1 b r e _ _).snoc (row1 t _ ht _ _)
      · rw [upd_same, etk, ← List.append_assoc, List.map_append (l₂ := [ws[i]])]
        rfl
      · rw [hFe, List.map_append]
        rfl
      · exact ((kc.trans kd).new hfl0).new hkn
      · exact ((Pd.upd' pf cf).upd' pk ck).mono (by omega)
    · rintro σ Hc ⟨rs, ts, v4, rfl, g, en, R, hK, hF, kc, Pc⟩
      rw [List.length_map] at en Pc
      rw [List.take_length] at en
      exact ⟨_, rfl, k fl ts rs Hc g en R hF kc (Pc.mono (by omega))⟩
end
end K2
end
section
set_option Elab.async false
set_option maxRecDepth 100000
set_option linter.all false
namespace K2
open PySem L2
theorem _root_.L2.Same.put {H H1 : Hp} {q : Addr} {o : HO} (k : Same H H1) (h : H q = none) : Same H (upd H1 q o) := fun b u hb => by
  rw [upd_ne (ne_of_none hb h)]
  exact k b u hb
theorem Pen.same {H H' : Hp} {p c : Addr} {ns : List Int} {n : Nat} (h : Pen H p c ns n) (k : Same H H') : Pen H' p c ns n := by
  obtain ⟨a, l, g, g1, g2, g3⟩ := h.pen
  exact ⟨⟨a, l, k _ _ g, g1, g2, g3⟩, k _ _ h.cells, h.small⟩
theorem _root_.L2.Same.keep {p : Addr} {H H' : Hp} (k : Same H H') : Keep p H H' := fun b o h _ => k b o h
theorem dget_s {H : Hp} {a : Addr} {kvs : List (Key × V)} {x : Str} {v : V} (e : H a = some (.dK kvs)) (hv : valV kvs (Sum.inr x : Key) = some v) : DGet H a (.str x) (some v) := by
  have := DGet.k (k := (Sum.inr x : Key)) e
  rw [hv] at this
  exact this
theorem cutV_whole {xs : List V} {lo hi : Option Int} (h : HT.sIx xs.length 0 lo = 0 ∧ HT.sIx xs.length xs.length hi = xs.length) : cutV xs lo hi = xs := by
  unfold cutV
  rw [h.1, h.2, List.drop_zero, Nat.sub_zero, List.take_length]
def rSl2 : V → Option Int → Option Int → Hp → VK → Prop := fun x lo hi H Q => ∃ a xs, x = .ref a ∧ H a = some (.tup xs) ∧ ∀ p H1, Same H H1 → H1 p = some (.tup (cutV xs lo hi)) → Q (.ref p) H1
def rCat2 : R2 := fun x y H Q => ∃ a b xs ys, x = .ref a ∧ y = .ref b ∧ H a = some (.tup xs) ∧ H b = some (.tup ys) ∧ xs.length + ys.length ≤ sizeLine ∧ ∀ p H1, Same H H1 → H1 p = some (.tup (xs ++ ys)) → Q (.ref p) H1
section
variable {X : Cx}
theorem sl_tup2 : SlR X rSl2 := by
  intro pins s σ H x v vl vu lo hi sl Q I rx hs pl pu h
  obtain ⟨a, xs, rfl, ha, q⟩ := h
  exact sl_tupA pins s σ H _ v vl vu lo hi sl Q I rx hs pl pu ⟨a, xs, rfl, SqT.of ha, fun hw => q a H (Same.refl H) (by rw [cutV_whole hw]; exact ha), fun _ p hp => q p _ ((Same.refl H).put hp) upd_same⟩
theorem op_cat2 : OpR X (binaryOp .Add) rCat2 := by
  intro pins s σ H x y v u Q I rx ry h
  obtain ⟨a, b, xs, ys, rfl, rfl, ha, hb, hz, q⟩ := h
  refine op_catA pins s σ H _ _ v u Q I rx ry ⟨a, b, xs, ys, rfl, rfl, SqT.of ha, SqT.of hb, hz, fun e => q b H (Same.refl H) (by rw [e]; exact hb), fun _ e => q a H (Same.refl H) (by rw [e, List.append_nil]; exact ha), fun _ _ p hp => q p _ ((Same.refl H).put hp) upd_same⟩
end
end K2
end
section
set_option Elab.async false
set_option maxRecDepth 100000
set_option linter.all false
namespace K2
open PySem L2
abbrev sLight : Stmt := top 24
abbrev nLight : List Str := ["_law_rows_here", "_law_ways", "_law_found", "_law_row_here", "_law_kept", "_law_many", "_law_base"]
def HasI (kvs : List (Key × V)) (xs : List Str) : Prop := ∀ x ∈ xs, ∃ z : Int, valV kvs (Sum.inr x : Key) = some (.int z)
theorem HasI.put {kvs : List (Key × V)} {xs : List Str} (h : HasI kvs xs) (x : Str) (z : Int) : HasI (putK kvs (Sum.inr x : Key) (.int z)) (xs ++ [x]) := by
  intro y hy
  rw [valV_put]
  by_cases e : (Sum.inr y : Key) = Sum.inr x
  · rw [if_pos e]; exact ⟨z, rfl⟩
  · rw [if_neg e]
    rcases List.mem_append.mp hy with hy | hy
    · exact h y hy
    · have : y = x := by simpa using hy
      exact absurd (by rw [this]) e
def ways0 : List (Key × V) := mergeK [] [(Sum.inr (Str.ofString "error"), V.int 1), (Sum.inr (Str.ofString "vacant"), V.int 2)]
theorem ways0_has : HasI ways0 base0 := by
  intro x hx
  unfold base0 at hx
  rcases List.mem_cons.mp hx with rfl | hx
  · exact ⟨1, by decide +kernel⟩
  · have : x = sVac := by simpa using hx
    subst this
    exact ⟨2, by decide +kernel⟩
theorem ways0_len : ways0.length ≤ 2 := by decide +kernel
theorem putK_le (c : List (Key × V)) (k : Key) (x : V) : (putK c k x).length ≤ c.length + 1 := by
  unfold putK
  split
  · rw [List.length_map]; omega
  · rw [List.length_append]; simp
def spLight : Sp := fun vs H Q _ => ∃ (l : Addr) (ts : List Addr) (rs : List Row), vs = [.ref l] ∧ H l = some (.lst (ts.map V.ref)) ∧ RowsAt H ts rs ∧ Good rs ∧ rs.length ≤ 31 ∧
  ∀ (l' : Addr) (ts' : List Addr) (qs : List Row) (H' : Hp), Good qs → qs.length = rs.length → RowsAt H' ts' qs → H' l' = some (.lst (ts'.map V.ref)) → Same H H' → Q (.ref l') H'
theorem cut2 (x b : Str) (bs : List Str) : cutV ((x :: b :: bs).map V.str) none (some 2) = [x, b].map V.str := by
  have := cut_take (x :: b :: bs) 2
  exact this
theorem cut2' (x b : Str) (bs : List Str) : cutV ((x :: b :: bs).map V.str) (some 2) none = bs.map V.str := by
  unfold cutV
  rw [show (2 : Int) = ((2 : Nat) : Int) from rfl, HT.sIx_nat, HT.sIx_none, List.length_map]
  have : min 2 (x :: b :: bs).length = 2 := by simp
  rw [this]
  show (bs.map V.str).take ((x :: b :: bs).length - 2) = bs.map V.str
  rw [List.take_of_length_le (by simp)]
theorem sub_snoc {bs ks : List Str} {j : Nat} {b : Str} (h : ks.Sublist (bs.take j)) (hb : bs[j]? = some b) : (ks ++ [b]).Sublist (bs.take (j + 1)) := by
  rw [List.take_add_one, hb]
  exact h.append (List.Sublist.refl _)
section
variable {P : Program} {w : World} {K : PySem.W.Frag} {mg : Str → Option Value} {base : Heap}
theorem scLight : FnScope nLight ["_law_rows_here"] (defScope sLight) := ⟨rfl, rfl, rfl, by decide +kernel, rfl, by decide +kernel, by decide +kernel⟩
theorem ok_light {f : Addr} {fd : FuncData} (F : Fun K "_law_light" "_law_light" sLight f fd) : FnOk P w K mg base CX0 1 f fd ["_law_rows_here"] spLight := by
  refine F.ok scLight (fun vs H Q E h => ?_) (fun cdv A outer s H vs Q E hr h => ?_)
  · obtain ⟨l, ts, rs, rfl, _⟩ := h
    rfl
  · obtain ⟨l, ts, rs, rfl, hl, R, g, h31, k⟩ := h
    have hu := hu_of hr
    refine ⟨_, (pss_cons (ps_set (i := 1) scLight.nd rfl (Or.inl rfl) (pe_disp (pps_cons pe_str pe_int (pps_cons pe_str pe_int pps_nil)) (by rfl) (by rfl) (fun z => by cases z) (by decide)))
      (pss_cons (ps_set (i := 2) scLight.nd rfl (Or.inl rfl) (pe_lst pa_nil))
      (pss_cons (ps_for PassesOwn.never rfl (pi_list (pv 0)) (pg_name (i := 3) scLight.nd rfl (Or.inl rfl))
      (pss_cons (ps_par (i := 4) (j := 5) (by rfl) scLight.nd rfl rfl (by decide) rfl rfl (pa_cons (pe_slice sl_tup2 (pv 3) po_none (po_some pe_int)) (pa_cons (pe_op op_add pe_int (pe_dget hu (pv 1) (pe_ix ix_tup (pv 3) pe_int (fun _ _ => rfl)) (fun _ _ => rfl))) pa_nil)) (by rfl))
        (pss_cons (ps_for PassesOwn.never rfl (pi_tup (pe_slice sl_tup2 (pv 3) (po_some pe_int) po_none)) (pg_name (i := 6) scLight.nd rfl (Or.inl rfl))
        (pss_one (ps_if (pt_cmpR op_lt (pe_op op_add (pv 5) (pe_dget hu (pv 1) (pv 6) (fun _ _ => rfl))) pe_int (nomark _))
          (pss_one (ps_par (i := 4) (j := 5) (by rfl) scLight.nd rfl rfl (by decide) rfl rfl (pa_cons (pe_op op_cat2 (pv 4) (pe_tup (pa_cons (pv 6) pa_nil))) (pa_cons (pe_op op_add (pv 5) (pe_dget hu (pv 1) (pv 6) (fun _ _ => rfl))) pa_nil)) (by rfl)))
          pss_nil)))
        (pss_cons (ps_dput hu (pv 1) (pe_ix ix_tup (pv 3) pe_int (fun _ _ => rfl)) (pv 5) rfl)
        (pss_one (ps_expr (pe_bm PySem.F.plainAttrs_list PySem.F.slot_list_append PySem.F.type_list_append mt_append (pv 2) (pa_cons (pv 4) pa_nil))))))))
      (pss_one (ps_ret (pv 2)))))), ?_⟩
    refine fun d hd => ⟨upd_same, [(Sum.inr (Str.ofString "error"), V.int 1), (Sum.inr (Str.ofString "vacant"), V.int 2)], rfl, by decide, ?_⟩
    rw [upd_upd]
    refine ⟨Nat.zero_le _, fun fl hfl => ?_⟩
    have nkf : d ≠ fl := fun e => by rw [← e, upd_same] at hfl; cases hfl
    have hfl0 : H fl = none := by rw [upd_ne nkf.symm] at hfl; exact hfl
    refine ⟨_, rfl, l, rfl, ⟨_, SqL.of (by rw [upd_ne (ne_of_none hl hfl0), upd_ne (ne_of_none hl hd)]; exact hl)⟩, for_list (K := K) (a := l) (xs := ts.map V.ref)
      (fun i σ Hc => ∃ (qs : List Row) (ts' : List Addr) (kvs : List (Key × V)) (v3 v4 v5 v6 : Option V), σ = [some (.ref l), some (.ref d), some (.ref fl), v3, v4, v5, v6] ∧ qs.length = i ∧ (∀ (j : Nat) (r q : Row), rs[j]? = some r → qs[j]? = some q → Sub1 r q) ∧
        RowsAt Hc ts' qs ∧ Hc d = some (.dK kvs) ∧ kvs.length ≤ i + 2 ∧ HasI kvs (knownAt rs i) ∧ Hc fl = some (.lst (ts'.map V.ref)) ∧ Same H Hc) ?_ ?_ ?_ ?_⟩
    · exact ⟨[], [], ways0, _, _, _, _, rfl, rfl, fun j r q _ h => by simp at h, rowsAt_nil _, by rw [upd_ne nkf, upd_same]; rfl, ways0_len, ways0_has, upd_same, ((Same.refl H).put hd).put hfl0⟩
    · rintro i σ Hc hi ⟨qs, ts', kvs, v3, v4, v5, v6, rfl, _, _, _, _, _, _, _, sm⟩
      exact SqL.of (sm l _ hl)
    · rintro i x σ Hc hi ⟨qs, ts', kvs, v3, v4, v5, v6, rfl, hql, hsub, RQ, hD, hkl, hhas, hF, sm⟩
      have hil : i < rs.length := by
        have := (List.getElem?_eq_some_iff.mp hi).1
        rw [List.length_map, R.1] at this
        exact this
      have hti : ts[i]? = some (ts[i]'(by rw [R.1]; exact hil)) := List.getElem?_eq_getElem _
      rw [List.getElem?_map, hti] at hi
      generalize ts[i]'(by rw [R.1]; exact hil) = t at hti hi
      cases hi
      have hri : rs[i]? = some rs[i] := List.getElem?_eq_getElem hil
      have ht := sm t _ (R.2 i t _ hti hri)
      have RO := g i _ hri
      generalize rs[i] = r at hri ht RO
      obtain ⟨x, bs0⟩ := r
      cases bs0 with
      | nil => exact absurd rfl RO.ne
      | cons b bs =>
      unfold rowO at ht
      obtain ⟨z0, hz0⟩ := hhas b (RO.sub b (by simp))
      refine ⟨_, rfl, _, rfl, t, _, rfl, ht, fun kp H1 s1 hkp => ?_⟩
      rw [cut2] at hkp
      refine ⟨_, rfl, _, rfl, t, _, _, _, rfl, rfl, SqT.of (s1 t _ ht), atI_nat (j := 1) rfl, d, _, rfl, dget_s (s1 d _ hD) hz0, _, _, rfl, rfl, _, _, rfl, ?_⟩
      refine ⟨_, rfl, _, rfl, t, _, rfl, s1 t _ ht, fun rp H2 s2 hrp => ?_⟩
      rw [cut2'] at hrp
      have s12 := sm.trans (s1.trans s2)
      have ht2 := s2 t _ (s1 t _ ht)
      have hD2 := s2 d _ (s1 d _ hD)
      have hF2 := s2 fl _ (s1 fl _ hF)
      refine ⟨rp, rfl, ⟨_, SqT.of hrp⟩, for_tup (K := K) (a := rp) (xs := bs.map V.str)
        (fun j σ Hd => ∃ (kp : Addr) (ks : List Str) (z : Int) (v6 : Option V), σ = [some (.ref l), some (.ref d), some (.ref fl), some (.ref t), some (.ref kp), some (.int z), v6] ∧ Same H2 Hd ∧ Hd kp = some (rowO (x, b :: ks)) ∧ ks.Sublist (bs.take j)) ?_ ?_ ?_ ?_⟩
      · exact ⟨kp, [], _, _, rfl, Same.refl _, s2 kp _ hkp, List.nil_sublist _⟩
      · rintro j σ Hd _ ⟨kp, ks, z, v6, rfl, sd, _, _⟩
        exact SqT.of (sd rp _ hrp)
      · rintro j y σ Hd hj ⟨kp, ks, z, v6, rfl, sd, hk, hs⟩
        have hjl : j < bs.length := by
          have := (List.getElem?_eq_some_iff.mp hj).1
          rwa [List.length_map] at this
        have hbj : bs[j]? = some bs[j] := List.getElem?_eq_getElem hjl
        rw [List.getElem?_map, hbj] at hj
        cases hj
        obtain ⟨z1, hz1⟩ := hhas bs[j] (RO.sub _ (List.mem_cons_of_mem _ (List.getElem_mem hjl)))
        refine ⟨_, rfl, _, rfl, _, rfl, d, _, rfl, dget_s (sd d _ hD2) hz1, _, _, rfl, rfl, _, _, rfl, rfl, _, rfl, ite2 (fun _ => ?_) (fun _ => ?_)⟩
        · refine ⟨_, rfl, _, rfl, (by show 1 ≤ sizeLine; decide), fun t5 h5 => ?_⟩
          have s5 := (Same.refl Hd).put (o := .tup [V.str bs[j]]) h5
          unfold rowO at hk
          refine ⟨kp, t5, _, _, rfl, rfl, s5 kp _ hk, upd_same, ?_, fun t6 H6 s6 h6 => ?_⟩
          · have := hs.length_le
            have h7 : bs.length ≤ 31 := by
              have q := RO.nd.length_le_of_subset (RO.sub)
              rw [knownAt_len (Nat.le_of_lt hil), List.length_cons] at q
              omega
            rw [List.length_take] at this
            simp
            show _ ≤ 16777216
            omega
          refine ⟨_, rfl, _, rfl, _, rfl, d, _, rfl, dget_s (s6 d _ (s5 d _ (sd d _ hD2))) hz1, _, _, rfl, rfl, _, _, rfl, ?_⟩
          exact ⟨t6, ks ++ [bs[j]], _, _, rfl, sd.trans (s5.trans s6), by rw [h6]; simp [rowO], sub_snoc hs hbj⟩
        · refine ⟨kp, ks, _, _, rfl, sd, hk, ?_⟩
          exact hs.trans (List.take_sublist_take_left (by omega))
      · rintro σ Hd ⟨kp, ks, z, v6, rfl, sd, hk, hs⟩
        rw [List.length_map, List.take_length] at hs
        have hDd := sd d _ hD2
        have hFd := sd fl _ hF2
        have htd := sd t _ ht2
        refine ⟨_, rfl, _, rfl, _, rfl, t, _, _, _, rfl, rfl, SqT.of htd, atI_nat (j := 0) rfl, d, _, rfl, DPut.k (k := Sum.inr x) hDd (by show _ < 16777216; omega), ?_⟩
        refine ⟨_, rfl, .inl ⟨rfl, _, SqL.of (by rw [upd_ne nkf.symm]; exact hFd)⟩, _, rfl, fl, _, _, rfl, rfl, by rw [upd_ne nkf.symm]; exact hFd, ?_, ?_⟩
        · rw [List.length_map, RQ.1, hql]; show _ < 16777216; omega
        have rk : ∀ (o1 o2 : HO) (q : Addr) (r : Row), Hd q = some (rowO r) → (upd (upd Hd d o1) fl o2) q = some (rowO r) := fun o1 o2 q r hq => by
          have h1 : q ≠ d := ne_of hq hDd (by unfold rowO; intro z; cases z)
          have h2 : q ≠ fl := ne_of hq hFd (by unfold rowO; intro z; cases z)
          rw [upd_ne h2, upd_ne h1]
          exact hq
        refine ⟨qs ++ [(x, b :: ks)], ts' ++ [kp], _, _, _, _, _, rfl, by rw [List.length_append, hql]; rfl, ?_, ?_, by rw [upd_ne nkf, upd_same], ?_, ?_, by rw [upd_same, List.map_append]; rfl, ((s12.trans sd).put hd).put hfl0⟩
        · intro j r' q hr' hq
          by_cases hj : j < qs.length
          · rw [List.getElem?_append_left hj] at hq
            exact hsub j r' q hr' hq
          · have hj2 : j = i := by
              have := (List.getElem?_eq_some_iff.mp hq).1
              rw [List.length_append] at this
              simp at this
              omega
            subst hj2
            rw [List.getElem?_append_right (by omega), hql, Nat.sub_self] at hq
            cases hq
            rw [hri] at hr'
            cases hr'
            exact ⟨rfl, hs.cons₂ b, by simp⟩
        · exact (RQ.mono fun q r hq => rk _ _ q r ((s1.trans (s2.trans sd)) q _ hq)).snoc (rk _ _ kp _ hk)
        · have := putK_le kvs (Sum.inr x) (V.int z)
          omega
        · rw [knownAt_succ hri]
          exact hhas.put x z
    · rintro σ Hc ⟨qs, ts', kvs, v3, v4, v5, v6, rfl, hql, hsub, RQ, hD, hkl, hhas, hF, sm⟩
      rw [List.length_map, R.1] at hql
      exact ⟨_, rfl, k fl ts' qs Hc (good_sub g hql hsub) hql RQ hF sm⟩
end
end K2
end
section
set_option Elab.async false
set_option maxRecDepth 100000
set_option linter.all false
namespace K2
open PySem L2
abbrev sUppers : Stmt := top 25
abbrev nUppers : List Str := ["_law_rows_here", "_law_found", "_law_row_here", "_law_mine", "_law_base", "_law_one"]
/-- a dict of the heap from names to objects that hold lists of names -/
inductive Tab (f : List Str → HO) (H : Hp) : List (Key × V) → Tb → Prop where
  | nil : Tab f H [] []
  | cons {x : Str} {us : List Str} {a : Addr} {kvs : List (Key × V)} {t : Tb} : H a = some (f us) → Tab f H kvs t → Tab f H ((Sum.inr x, .ref a) :: kvs) ((x, us) :: t)
theorem Tab.snoc {f : List Str → HO} {H : Hp} {kvs : List (Key × V)} {t : Tb} (h : Tab f H kvs t) {x : Str} {us : List Str} {a : Addr} (ha : H a = some (f us)) : Tab f H (kvs ++ [(Sum.inr x, .ref a)]) (t ++ [(x, us)]) := by
  induction h with
  | nil => exact .cons ha .nil
  | cons h1 _ ih => exact .cons h1 ih
theorem Tab.mono {f : List Str → HO} {H H' : Hp} {kvs : List (Key × V)} {t : Tb} (h : Tab f H kvs t) (k : ∀ a us, H a = some (f us) → H' a = some (f us)) : Tab f H' kvs t := by
  induction h with
  | nil => exact .nil
  | cons h1 _ ih => exact .cons (k _ _ h1) ih
theorem Tab.len {f : List Str → HO} {H : Hp} {kvs : List (Key × V)} {t : Tb} (h : Tab f H kvs t) : kvs.length = t.length := by
  induction h with
  | nil => rfl
  | cons _ _ ih => rw [List.length_cons, List.length_cons, ih]
theorem valV_cons (k : Key) (v : V) (kvs : List (Key × V)) (j : Key) : valV ((k, v) :: kvs) j = if k = j then some v else valV kvs j := by
  unfold valV
  rw [List.find?_cons]
  by_cases e : k = j
  · simp [e]
  · simp [e]
theorem Tab.val {f : List Str → HO} {H : Hp} {kvs : List (Key × V)} {t : Tb} (h : Tab f H kvs t) {x : Str} (hx : x ∈ keys t) : ∃ a, valV kvs (Sum.inr x : Key) = some (.ref a) ∧ H a = some (f (look t x)) := by
  induction h with
  | nil => simp [keys] at hx
  | @cons y us a kvs t h1 _ ih =>
    rw [valV_cons]
    by_cases e : y = x
    · subst e
      exact ⟨a, by rw [if_pos rfl], by simp only [look, if_true]; exact h1⟩
    · have e2 : ¬ (Sum.inr y : Key) = Sum.inr x := fun q => e (Sum.inr.inj q)
      rw [if_neg e2]
      simp only [look, if_neg e]
      refine ih ?_
      unfold keys at hx ⊢
      rcases List.mem_cons.mp hx with q | q
      · exact absurd q.symm e
      · exact q
theorem Tab.none {f : List Str → HO} {H : Hp} {kvs : List (Key × V)} {t : Tb} (h : Tab f H kvs t) {x : Str} (hx : x ∉ keys t) : valV kvs (Sum.inr x : Key) = none := by
  induction h with
  | nil => rfl
  | @cons y us a kvs t h1 _ ih =>
    rw [valV_cons]
    have e : ¬ y = x := fun q => hx (by rw [q]; simp [keys])
    have e2 : ¬ (Sum.inr y : Key) = Sum.inr x := fun q => e (Sum.inr.inj q)
    rw [if_neg e2]
    exact ih fun q => hx (by unfold keys at q ⊢; exact List.mem_cons_of_mem _ q)
theorem Tab.keys_eq {f : List Str → HO} {H : Hp} {kvs : List (Key × V)} {t : Tb} (h : Tab f H kvs t) : kvs.map (·.1) = (keys t).map Sum.inr := by
  induction h with
  | nil => rfl
  | cons _ _ ih =>
    rw [List.map_cons, ih]
    rfl
theorem merge2 (v1 v2 : V) : mergeK [] [((Sum.inr (Str.ofString "error") : Key), v1), ((Sum.inr (Str.ofString "vacant") : Key), v2)] = [((Sum.inr (Str.ofString "error") : Key), v1), ((Sum.inr (Str.ofString "vacant") : Key), v2)] := by
  show putK (putK [] (Sum.inr (Str.ofString "error") : Key) v1) (Sum.inr (Str.ofString "vacant") : Key) v2 = _
  rw [putK_new v1 rfl, putK_new v2 (by
    rw [List.nil_append, valV_cons, if_neg (by decide +kernel)]
    rfl)]
  rfl
def fL (us : List Str) : HO := .lst (us.map V.str)
def spUppers : Sp := fun vs H Q _ => ∃ (l : Addr) (ts : List Addr) (rs : List Row), vs = [.ref l] ∧ H l = some (.lst (ts.map V.ref)) ∧ RowsAt H ts rs ∧ Good rs ∧ rs.length ≤ 31 ∧
  ∀ (d : Addr) (kvs : List (Key × V)) (H' : Hp), H d = none → H' d = some (.dK kvs) → Tab fL H' kvs (ups rs) → Same H H' → Q (.ref d) H'
theorem cut1' (x : Str) (bs : List Str) : cutV ((x :: bs).map V.str) (some 1) none = bs.map V.str := by
  unfold cutV
  rw [show (1 : Int) = ((1 : Nat) : Int) from rfl, HT.sIx_nat, HT.sIx_none, List.length_map]
  have : min 1 (x :: bs).length = 1 := by simp
  rw [this]
  show (bs.map V.str).take ((x :: bs).length - 1) = bs.map V.str
  rw [List.take_of_length_le (by simp)]
theorem lineL_take {t : Tb} {m bs : List Str} {j : Nat} {b : Str} (h : bs[j]? = some b) : lineL t m (bs.take (j + 1)) = mergeU (lineL t m (bs.take j)) (look t b) := by
  unfold lineL
  rw [List.take_add_one, h]
  simp
/-- how long a line may be -/
theorem line_len {t : Tb} (T : TOk t) {x : Str} {bs : List Str} (h : ∀ b ∈ bs, b ∈ keys t) : (lineL t [x] bs).length ≤ (keys t).length + 1 := by
  obtain ⟨h1, h2, _⟩ := lineL_ok T (x := x) bs [x] h (by simp) (by simp)
  have := h1.length_le_of_subset (l₂ := x :: keys t) fun u hu => by
    rcases h2 u hu with rfl | q
    · simp
    · exact List.mem_cons_of_mem _ q
  simpa using this
section
variable {P : Program} {w : World} {K : PySem.W.Frag} {mg : Str → Option Value} {base : Heap}
theorem scUppers : FnScope nUppers ["_law_rows_here"] (defScope sUppers) := ⟨rfl, rfl, rfl, by decide +kernel, rfl, by decide +kernel, by decide +kernel⟩
theorem ok_uppers {f : Addr} {fd : FuncData} (F : Fun K "_law_uppers" "_law_uppers" sUppers f fd) : FnOk P w K mg base CX0 1 f fd ["_law_rows_here"] spUppers := by
  refine F.ok scUppers (fun vs H Q E h => ?_) (fun cdv A outer s H vs Q E hr h => ?_)
  · obtain ⟨l, ts, rs, rfl, _⟩ := h
    rfl
  · obtain ⟨l, ts, rs, rfl, hl, R, g, h31, k⟩ := h
    have hu := hu_of hr
    refine ⟨_, (pss_cons (ps_set (i := 1) scUppers.nd rfl (Or.inl rfl) (pe_disp (pps_cons pe_str (pe_lst (pa_cons pe_str pa_nil)) (pps_cons pe_str (pe_lst (pa_cons pe_str (pa_cons pe_str pa_nil))) pps_nil)) (by rfl) (by rfl) (fun z => by cases z) (by decide)))
      (pss_cons (ps_for PassesOwn.never rfl (pi_list (pv 0)) (pg_name (i := 2) scUppers.nd rfl (Or.inl rfl))
      (pss_cons (ps_set (i := 3) scUppers.nd rfl (Or.inr rfl) (pe_lst (pa_cons (pe_ix ix_tup (pv 2) pe_int (fun _ _ => rfl)) pa_nil)))
        (pss_cons (ps_for PassesOwn.never rfl (pi_tup (pe_slice sl_tup2 (pv 2) (po_some pe_int) po_none)) (pg_name (i := 4) scUppers.nd rfl (Or.inl rfl))
        (pss_one (ps_set (i := 3) scUppers.nd rfl (Or.inr rfl) (pe_op op_cat (pv 3) (pe_lc (own := [("_law_one", 5)]) (g := gName 5)  rfl scUppers.nd (pi_list (pe_dget hu (pv 1) (pv 4) (fun _ _ => rfl))) (blkOk_by (N := nUppers) (sc := defScope sUppers) (by decide +kernel)) (fun _ _ _ _ _ => pg_name (i := 5) scUppers.nd rfl (Or.inl rfl)) (fun _ _ _ _ _ => pts_one (pt_cmpR (op_notIn_seqK (K' := K) rfl) (pv 5) (pv 3) rfl)) (fun _ _ _ _ _ => pv 5))))))
        (pss_one (ps_dput hu (pv 1) (pe_ix ix_tup (pv 2) pe_int (fun _ _ => rfl)) (pv 3) rfl)))))
      (pss_one (ps_ret (pv 1))))), ?_⟩
    refine fun d hd => ⟨(by show 1 ≤ sizeLine; decide), fun a1 ha1 => ⟨(by show 2 ≤ sizeLine; decide), fun a2 ha2 => ?_⟩⟩
    have hda : d ≠ a1 := fun e => by rw [← e, upd_same] at ha1; cases ha1
    have h1d : (upd (upd H d (.dK [])) a1 (.lst [V.str (Str.ofString "error")])) d = some (.dK []) := by rw [upd_ne hda, upd_same]
    have hdb : d ≠ a2 := ne_of_none h1d ha2
    have hab : a1 ≠ a2 := fun e => by rw [← e, upd_same] at ha2; cases ha2
    have ha1H : H a1 = none := by rw [upd_ne hda.symm] at ha1; exact ha1
    have ha2H : H a2 = none := by rw [upd_ne hab.symm, upd_ne hdb.symm] at ha2; exact ha2
    refine ⟨by rw [upd_ne hdb]; exact h1d, [(Sum.inr (Str.ofString "error"), V.ref a1), (Sum.inr (Str.ofString "vacant"), V.ref a2)], rfl, (by show 2 ≤ 15; decide), ?_⟩
    rw [merge2]
    have sm0 : Same H (upd (upd (upd (upd H d (.dK [])) a1 (.lst [V.str (Str.ofString "error")])) a2 (.lst [V.str (Str.ofString "vacant"), V.str (Str.ofString "error")])) d (.dK [((Sum.inr (Str.ofString "error") : Key), V.ref a1), ((Sum.inr (Str.ofString "vacant") : Key), V.ref a2)])) :=
      ((((Same.refl H).put hd).put ha1H).put ha2H).put hd
    have hd0 : (upd (upd (upd (upd H d (.dK [])) a1 (.lst [V.str (Str.ofString "error")])) a2 (.lst [V.str (Str.ofString "vacant"), V.str (Str.ofString "error")])) d (.dK [((Sum.inr (Str.ofString "error") : Key), V.ref a1), ((Sum.inr (Str.ofString "vacant") : Key), V.ref a2)])) d = some (.dK [((Sum.inr (Str.ofString "error") : Key), V.ref a1), ((Sum.inr (Str.ofString "vacant") : Key), V.ref a2)]) := upd_same
    have T0 : Tab fL (upd (upd (upd (upd H d (.dK [])) a1 (.lst [V.str (Str.ofString "error")])) a2 (.lst [V.str (Str.ofString "vacant"), V.str (Str.ofString "error")])) d (.dK [((Sum.inr (Str.ofString "error") : Key), V.ref a1), ((Sum.inr (Str.ofString "vacant") : Key), V.ref a2)])) [((Sum.inr (Str.ofString "error") : Key), V.ref a1), ((Sum.inr (Str.ofString "vacant") : Key), V.ref a2)] t0 :=
      .cons (by rw [upd_ne hda.symm, upd_ne hab, upd_same]; rfl) (.cons (by rw [upd_ne hdb.symm, upd_same]; rfl) .nil)
    generalize upd (upd (upd (upd H d (.dK [])) a1 (.lst [V.str (Str.ofString "error")])) a2 (.lst [V.str (Str.ofString "vacant"), V.str (Str.ofString "error")])) d (.dK [((Sum.inr (Str.ofString "error") : Key), V.ref a1), ((Sum.inr (Str.ofString "vacant") : Key), V.ref a2)]) = H0 at sm0 hd0 T0 ⊢
    refine ⟨_, rfl, l, rfl, ⟨_, SqL.of (sm0 l _ hl)⟩, for_list (K := K) (a := l) (xs := ts.map V.ref)
      (fun i σ Hc => ∃ (kvs : List (Key × V)) (v2 v3 v4 v5 : Option V), σ = [some (.ref l), some (.ref d), v2, v3, v4, v5] ∧ Hc d = some (.dK kvs) ∧ Tab fL Hc kvs (ups (rs.take i)) ∧ Same H Hc) ?_ ?_ ?_ ?_⟩
    · exact ⟨_, _, _, _, _, rfl, hd0, T0, sm0⟩
    · rintro i σ Hc hi ⟨kvs, v2, v3, v4, v5, rfl, _, _, sm⟩
      exact SqL.of (sm l _ hl)
    · rintro i x σ Hc hi ⟨kvs, v2, v3, v4, v5, rfl, hD, TB, sm⟩
      have hil : i < rs.length := by
        have := (List.getElem?_eq_some_iff.mp hi).1
        rw [List.length_map, R.1] at this
        exact this
      have hti : ts[i]? = some (ts[i]'(by rw [R.1]; exact hil)) := List.getElem?_eq_getElem _
      rw [List.getElem?_map, hti] at hi
      generalize ts[i]'(by rw [R.1]; exact hil) = t at hti hi
      cases hi
      have hri : rs[i]? = some rs[i] := List.getElem?_eq_getElem hil
      have ht := sm t _ (R.2 i t _ hti hri)
      have RO := g i _ hri
      have TO := tok_ups g i (Nat.le_of_lt hil)
      have hks := keys_ups_take rs i
      have hus := ups_succ hri
      have hkl := knownAt_len (Nat.le_of_lt hil)
      generalize rs[i] = r at hri ht RO hus
      rw [← hks] at RO hkl
      generalize ups (rs.take i) = tb at TB TO hks hus RO hkl
      obtain ⟨x, bs⟩ := r
      unfold rowO at ht
      have hll := fun j => line_len TO (x := x) (bs := bs.take j) fun b hb => RO.sub b (List.mem_of_mem_take hb)
      refine ⟨_, rfl, t, _, _, _, rfl, rfl, SqT.of ht, atI_nat (j := 0) rfl, (by show 1 ≤ sizeLine; decide), fun m0 hm0 => ?_⟩
      have hdm : d ≠ m0 := ne_of_none hD hm0
      refine ⟨_, rfl, _, rfl, t, _, rfl, by rw [upd_ne (ne_of_none ht hm0)]; exact ht, fun rp H2 s2 hrp => ?_⟩
      rw [cut1'] at hrp
      have s0 : Same Hc H2 := ((Same.refl Hc).put hm0).trans s2
      have hm2 : H2 m0 = some (fL [x]) := s2 m0 _ upd_same
      refine ⟨rp, rfl, ⟨_, SqT.of hrp⟩, for_tup (K := K) (a := rp) (xs := bs.map V.str)
        (fun j σ Hd => ∃ (m : Addr) (v4 v5 : Option V), σ = [some (.ref l), some (.ref d), some (.ref t), some (.ref m), v4, v5] ∧ Same H2 Hd ∧ Hd m = some (fL (lineL tb [x] (bs.take j)))) ?_ ?_ ?_ ?_⟩
      · exact ⟨m0, _, _, rfl, Same.refl _, hm2⟩
      · rintro j σ Hd _ ⟨m, v4, v5, rfl, sd, _⟩
        exact SqT.of (sd rp _ hrp)
      · rintro j y σ Hd hj ⟨m, v4, v5, rfl, sd, hm⟩
        have hjl : j < bs.length := by
          have := (List.getElem?_eq_some_iff.mp hj).1
          rwa [List.length_map] at this
        have hbj : bs[j]? = some bs[j] := List.getElem?_eq_getElem hjl
        rw [List.getElem?_map, hbj] at hj
        cases hj
        obtain ⟨u, hu1, hu2⟩ := TB.val (RO.sub bs[j] (List.getElem_mem hjl))
        have hDd := sd d _ (s0 d _ hD)
        have hud := sd u _ (s0 u _ hu2)
        unfold fL at hud hm
        have husl : (look tb bs[j]).length ≤ (keys tb).length := by
          have q := TO.line (RO.sub bs[j] (List.getElem_mem hjl))
          exact q.1.length_le_of_subset q.2.2.2
        have hsucc := lineL_take (t := tb) (m := [x]) hbj
        have hl1 := hll j
        have hl2 := hll (j + 1)
        rw [hsucc] at hl2
        generalize lineL tb [x] (bs.take j) = mine at hm hsucc hl1 hl2
        generalize look tb bs[j] = us at hud hsucc hl2 husl
        refine ⟨_, rfl, _, rfl, _, rfl, d, _, rfl, dget_s hDd hu1, u, rfl, ⟨_, SqL.of hud⟩, fun D1 hD1 => ?_⟩
        refine lc_list (K := K) (a := u) (xs := us.map V.str) (fun i Hx => Hx D1 = some (fL ((us.take i).filter fun z => decide (z ∉ mine))) ∧ Same Hd Hx) ?_ ?_ ?_ ?_
        · exact ⟨upd_same, (Same.refl Hd).put hD1⟩
        · rintro i2 Hx _ ⟨_, sx⟩
          exact SqL.of (sx u _ hud)
        · rintro i2 y Hx hy ⟨hx, sx⟩
          have hi2 : i2 < us.length := by
            have := (List.getElem?_eq_some_iff.mp hy).1
            rwa [List.length_map] at this
          have hui : us[i2]? = some us[i2] := List.getElem?_eq_getElem hi2
          rw [List.getElem?_map, hui] at hy
          cases hy
          have et : us.take (i2 + 1) = us.take i2 ++ [us[i2]] := by rw [List.take_add_one, hui]; rfl
          refine ⟨rfl, _, rfl, _, rfl, m, _, rfl, .inl (SqL.of (sx m _ hm)), rfl, flat_strs _, _, rfl, ?_⟩
          rw [if_pos rfl, inV_strs]
          dsimp only
          have hfl : ((us.take i2).filter fun z => decide (z ∉ mine)).length ≤ us.length := Nat.le_trans (List.length_filter_le _ _) (by rw [List.length_take]; omega)
          by_cases hb : us[i2] ∈ mine
          · rw [if_neg (by simp [hb])]
            refine ⟨?_, sx⟩
            rw [et, List.filter_append, List.filter_cons]
            simp only [hb, not_true_eq_false, decide_false, Bool.false_eq_true, if_false, List.filter_nil, List.append_nil]
            exact hx
          · rw [if_pos (by simp [hb])]
            refine ⟨_, rfl, _, hx, ?_, ?_, sx.put hD1⟩
            · rw [List.length_map]; show _ < 16777216; omega
            · rw [upd_same, et, List.filter_append, List.filter_cons]
              simp only [hb, not_false_eq_true, decide_true, if_true, List.filter_nil]
              unfold fL
              rw [List.map_append]
              rfl
        · rintro Hx ⟨hx, sx⟩
          rw [List.length_map, List.take_length] at hx
          unfold fL at hx
          refine ⟨m, D1, _, _, rfl, rfl, sx m _ hm, hx, ?_, fun m2 hm2 => ?_⟩
          · rw [List.length_map, List.length_map, ← List.length_append]
            show (mergeU mine us).length ≤ 16777216
            omega
          · refine ⟨m2, _, _, rfl, (sd.trans sx).put ((sd.trans sx).free hm2), ?_⟩
            rw [upd_same, hsucc]
            unfold fL mergeU
            rw [List.map_append]
      · rintro σ Hd ⟨m, v4, v5, rfl, sd, hm⟩
        rw [List.length_map, List.take_length] at hm
        have hDd := sd d _ (s0 d _ hD)
        have htd := sd t _ (s0 t _ ht)
        have hxn : x ∉ keys tb := RO.new
        refine ⟨_, rfl, _, rfl, _, rfl, t, _, _, _, rfl, rfl, SqT.of htd, atI_nat (j := 0) rfl, d, _, rfl, DPut.k (k := Sum.inr x) hDd ?_, ?_⟩
        · rw [TB.len]; have : tb.length = (keys tb).length := by simp [keys]
          show _ < 16777216
          omega
        rw [putK_new _ (TB.none hxn)]
        have rk : ∀ (o : HO) (q : Addr) (us : List Str), Hd q = some (fL us) → (upd Hd d o) q = some (fL us) := fun o q us hq => by
          rw [upd_ne (ne_of hq hDd (by unfold fL; intro z; cases z))]
          exact hq
        refine ⟨_, _, _, _, _, rfl, upd_same, ?_, ?_⟩
        · rw [hus]
          exact ((TB.mono fun a us hq => rk _ a us ((s0.trans sd) a _ hq))).snoc (rk _ m _ hm)
        · exact (sm.trans (s0.trans sd)).put hd
    · rintro σ Hc ⟨kvs, v2, v3, v4, v5, rfl, hD, TB, sm⟩
      rw [List.length_map, R.1, List.take_length] at TB
      exact ⟨_, rfl, k d kvs Hc hd hD TB sm⟩
end
end K2
end
section
set_option Elab.async false
set_option maxRecDepth 100000
set_option linter.all false
namespace K2
open PySem PySem.Spec PyProof.Rows L2
section
variable {p : Program} {w : World} {A : Around} {Z : Result → Shared → Prop} {it : Addr} {f g : List Addr} {Gs : Array GenState → Array GenState → Prop} {N : Nat} {Yv : Nat → Value → Prop} {Sv : Nat → Shared → Prop}
/-- a set that takes in unlike texts, one after the other -/
theorem set_takes (Wk : WalksS p w A.in1 it f g Gs N Yv Sv) {a : Addr} (af : a ∉ f) {xs : List Str} (lx : xs.length = N) (un : xs.Nodup) (few : N ≤ 1000) (val : ∀ j v, Yv j v → ∃ t, v = .str (xs.getD j Str.empty) t) :
    ∀ (m j : Nat) (s : Shared), N - j = m → j ≤ N → Sv j s → s.heap.SetOf (strKind p w) a (fun y => decide (y ∈ xs.take j)) j → (∀ z, Moved (a :: g) Gs s z → z.heap.SetOf (strKind p w) a (fun y => decide (y ∈ xs)) N → Z (.ok (.ret .none)) z) →
      codeAny (model p w) A (.builtin "set.update.loop" ⟨[.ref a, .ref it], []⟩) Z s := by
  have ag : a ∉ g := fun q => af (Wk.sub _ q)
  have up : ∀ b ∈ g, b ∈ a :: g := fun b q => List.mem_cons_of_mem _ q
  have here : ∀ {s z : Shared} {T : Str → Bool} {c : Nat}, Moved g Gs s z → s.heap.SetOf (strKind p w) a T c → z.heap.SetOf (strKind p w) a T c := fun mv q => by
    obtain ⟨o, es, ep, tb, ho, rest⟩ := q
    exact ⟨o, es, ep, tb, mv.heap a _ ag ho, rest⟩
  intro m
  induction m with
  | zero =>
    intro j s hm hj st se fin
    obtain rfl : j = N := by omega
    refine codeAny_builtin F.entry_set_update_loop (by
      rw [Around.under_plainId F.plain_set_update_loop _]
      refine wpAny_bind (Wk.done s _ _ st fun z mv => wpAny_pure (fin z (mv.mono up) ?_))
      rw [← lx, List.take_length] at se
      rw [← lx]
      exact here mv se)
  | succ m ih =>
    intro j s hm hj st se fin
    have jl : j < N := by omega
    have xj : xs[j]? = some (xs.getD j Str.empty) := by
      rw [List.getD_eq_getElem?_getD, List.getElem?_eq_getElem (by omega)]
      rfl
    generalize xs.getD j Str.empty = x at xj
    refine codeAny_builtin F.entry_set_update_loop (by
      rw [Around.under_plainId F.plain_set_update_loop _]
      refine wpAny_bind (Wk.item j s _ _ jl st fun v z hv st2 mv => ?_)
      obtain ⟨t, ev⟩ := val j v hv
      have ex : xs.getD j Str.empty = x := by rw [List.getD_eq_getElem?_getD, xj]; rfl
      rw [ex] at ev
      subst ev
      have fresh : decide (x ∈ xs.take j) = false := by
        rw [decide_eq_false_iff_not]
        intro q
        obtain ⟨i, hi⟩ := List.getElem?_of_mem q
        rw [List.getElem?_take] at hi
        split at hi
        · rename_i lt
          have := (List.getElem?_inj (i := i) (by omega) un).mp (hi.trans xj.symm)
          omega
        · cases hi
      have se' := here mv se
      refine wpAny_bind (wpAny_holding (by
        unfold setAdd
        refine wpAny_holding (wpAny_bind ((strKind p w).pyHash (k := x) (strKind_is _ _ _ _) (wpAny_setAddHashed_of (knd := strKind p w) (s := { z with toks := z.toks + 1 }) (strKind_is _ _ _ _) rfl se' (by unfold scanBound; omega) fun h2 sb se2 => ?_)))
        have se3 : h2.SetOf (strKind p w) a (fun y => decide (y ∈ xs.take (j + 1))) (j + 1) := SetOf_congr se2 (fun y => by
          rw [List.take_add_one, xj]
          simp [List.mem_append]) (by rw [fresh]; rfl)
        refine wpAny_pure ⟨plainId_quiet F.plain_set_update_loop _, ih (j + 1) _ (by omega) jl (Wk.frame _ z _ _ st2 (Nat.le_succ _) fun b hb o e => ?_) se3 fun y mv2 se4 => fin y (Moved.trans Wk.gtrans ((mv.mono up).then_heap (Nat.le_succ _) fun b o hb e => ?_) mv2) se4⟩
        · rw [sb.2 b fun q : b = a => af (q ▸ hb)]; exact e
        · rw [sb.2 b fun q : b = a => hb (q ▸ List.mem_cons_self)]; exact e)))
end
section
variable {p : Program} {w : World} {A : Around} {E : Value → Shared → Prop} {s : Shared}
def emptySet (b : Bool) : Obj := { cls := .type "set", dict := none, data := .set #[] 0 (.fresh 0 0 b) }
set_option maxHeartbeats 3200000 in
/-- set(t) of a tuple of unlike texts has as many items -/
theorem set_of_tup {l : Addr} {its : Array Value} {xs : List Str} {Q : Value → Shared → Prop} (hh : A.handled = none) (hl : s.heap.IsTuple l its) (hi : StrsAre its.toList xs) (un : xs.Nodup) (few : xs.length ≤ 1000)
    (fin : ∀ (h' : Heap) (tk : Nat), h'.SetOf (strKind p w) s.heap.objs.size (fun y => decide (y ∈ xs)) xs.length → (∀ b o, b < s.heap.objs.size → s.heap.get? b = some o → h'.get? b = some o) → Q (.ref s.heap.objs.size) { s with heap := h', toks := tk }) :
    wpAny (model p w) A (call (.type "set") [.ref l]) Q E s := by
  have sz : its.size = xs.length := by rw [← Array.length_toList, StrsAre.len_eq hi]
  obtain ⟨c, tl, hmro⟩ := F.called_set.mro
  have m1 := F.called_set.made
  have m2 := F.called_set.sub
  refine wpAny_call (codeAny_of_tree (wpAny_pure ⟨Code.quiet_builtin _ (by decide +kernel), codeAny_builtin F.entry_type_call (by
    rw [Around.under_plain (weight_type_call_type "set" [.ref l] []) rfl]
    have m3 := F.called_set.notType
    have m4 := F.called_set.canCreate
    have m5 := F.typeCall_set_1 (.ref l)
    repeat (any_goals (first | assumption | wp_step))
    refine codeAny_mono (code_set_new_1 (.ref l) (E := E) (Q₁ := fun v z => ∃ b : Bool, v = .ref s.heap.objs.size ∧ z = { s with heap := s.heap.push (emptySet b) }) fun b => ⟨b, rfl, rfl⟩) fun r z hr => ?_
    cases r with
    | error e => exact hr
    | ok fl =>
      cases fl with
      | next => exact hr.elim
      | brk => exact hr.elim
      | cont => exact hr.elim
      | ret v =>
        obtain ⟨led, rfl, rfl⟩ := hr
        have hS : (s.heap.push (emptySet led)).get? s.heap.objs.size = some (emptySet led) := Heap.get?_push_size _ rfl
        have hT : Shared.TypeIs { s with heap := s.heap.push (emptySet led) } (.ref s.heap.objs.size) "set" := ⟨_, hS, rfl⟩
        have n1 := F.called_set.init.lookup
        have n2 := F.called_set.init.bind (.ref s.heap.objs.size)
        repeat (any_goals (first | assumption | wp_step))
        refine codeAny_mono (codeAny_call_builtin (R := wants (fun r z => r = .none ∧ ∃ h' tk, z = { s with heap := h', toks := tk } ∧ h'.SetOf (strKind p w) s.heap.objs.size (fun y => decide (y ∈ xs)) xs.length ∧ (∀ b o, b < s.heap.objs.size → s.heap.get? b = some o → h'.get? b = some o)) E) F.called_set.init.plain F.entry_set_init (check_set_init_1 hT ?_)) fun r2 z2 hr2 => ?_
        · obtain ⟨⟨tc, td, tdata, tsl⟩, ho, hc, tn, hd⟩ := hl
          simp only at hc hd
          subst hc hd
          have ho2 : (s.heap.push (emptySet led)).get? l = some { cls := .type "tuple", dict := td, data := .seq its tn, slots := tsl } := Heap.get?_push_of_some _ ho
          have q1 := F.sub_tuple_set
          have q2 := F.sub_tuple_frozenset
          have q3 : (Value.type "tuple" == Value.type "dict") = false := by decide
          have tup : (s.heap.push (emptySet led)).IsTuple l its := ⟨_, ho2, rfl, tn, rfl⟩
          have lS : l < s.heap.objs.size := Heap.lt_size ho
          have pz : (s.heap.push (emptySet led)).objs.size = s.heap.objs.size + 1 := Heap.size_push ..
          unfold Builtin.«set.__init__» noKeywords Builtin.Frozenset.updateFrom
          generalize hPI : pyIter = PI
          unfold emptySet at *
          wp_walk
          subst hPI
          refine wpAny_pyIter_tuple tup (wpAny_bind (wpAny_runValue ?_))
          have hn3 : A.in1.in1.in1.handled = none := by simp [hh]
          have vals : ∀ (j : Nat) (v : Value), its[j]? = some v → ∃ t, v = .str (xs.getD j Str.empty) t := fun j v hv => SS.strs_at hi j v (by rw [Array.getElem?_toList]; exact hv)
          refine set_takes ((Walks.tuple hn3 _ l (by rw [Heap.size_push]; exact Nat.ne_of_lt (Nat.lt_succ_of_lt lS)) its).toS) (a := s.heap.objs.size) (by
            simp only [List.mem_cons, List.not_mem_nil, or_false, not_or]
            exact ⟨by rw [Heap.size_push]; exact (Nat.succ_ne_self _).symm, Nat.ne_of_gt lS⟩) sz.symm un (by omega) vals (its.size - 0) 0 _ (by omega) (Nat.zero_le _) ⟨⟨_, Heap.get?_push_size _ rfl, rfl, rfl⟩, tup.push _⟩ ?_ ?_
          · exact SetOf_congr ((setObjOf_fresh (knd := strKind p w) led).setOf (Heap.get?_push_of_some _ hS) (by decide)) (fun _ => by simp) rfl
          · rintro ⟨h', g', d', tk', os'⟩ mv se
            obtain rfl : g' = s.gens := mv.gens
            obtain rfl : d' = s.drawn := mv.drawn
            obtain rfl : os' = s.os := mv.os
            refine wpAny_pure (wpAny_pure ⟨rfl, h', tk', rfl, by rw [← sz]; exact se, fun b o hb e => mv.heap b o ?_ (Heap.get?_push_of_some _ (Heap.get?_push_of_some _ e))⟩)
            simp only [List.mem_cons, List.not_mem_nil, or_false, not_or]
            exact ⟨Nat.ne_of_lt hb, by rw [Heap.size_push]; exact Nat.ne_of_lt (Nat.lt_succ_of_lt hb)⟩
        · cases r2 with
          | error e => exact hr2
          | ok f2 =>
            cases f2 with
            | next => exact hr2.elim
            | brk => exact hr2.elim
            | cont => exact hr2.elim
            | ret v =>
              obtain ⟨rfl, h', tk, rfl, se, kp⟩ := hr2
              repeat (any_goals (first | assumption | wp_step))
              exact fin _ _ se kp)⟩))
end
end K2
end
section
set_option Elab.async false
set_option maxRecDepth 100000
set_option linter.all false
namespace K2
open PySem L2
abbrev sIsW : Stmt := top 7
abbrev sAreW : Stmt := top 8
/-- the module's constants -/
structure Gb (K : PySem.W.Frag) (mg : Str → Option Value) (aR : Addr) (t1 t2 : Tok) : Prop where
  long : mg "LONGEST" = some (.int 8 t1)
  most : mg "MOST_ROWS" = some (.int 30 t2)
  res : mg "RESERVED" = some (.ref aR)
  resT : ∀ H : Hp, SqT K H aR (resd.map V.str)
theorem uni : ∀ k, k < 26 → Unicode.isAlpha (97 + k) = true ∧ Unicode.isLower (97 + k) = true ∧ Unicode.isUpper (97 + k) = false ∧ Unicode.isTitle (97 + k) = false := by decide +kernel
theorem uni' {c : Nat} (h : 97 ≤ c ∧ c ≤ 122) : Unicode.isAlpha c = true ∧ Unicode.isLower c = true ∧ Unicode.isUpper c = false ∧ Unicode.isTitle c = false := by
  have := uni (c - 97) (by omega)
  rw [show 97 + (c - 97) = c by omega] at this
  exact this
theorem vw_ascii {x : Str} (h : VW x) : Txt.isascii x = true := by
  unfold Txt.isascii
  rw [← Array.all_toList, List.all_eq_true]
  intro c hc
  have := h.low c hc
  simp
  omega
theorem vw_alpha {x : Str} (h : VW x) : Txt.isalpha x = true := by
  unfold Txt.isalpha
  have hl : x.length > 0 := by
    rw [len_codes]
    exact List.length_pos_iff.mpr h.ne
  rw [← Array.all_toList, decide_eq_true hl, Bool.true_and, List.all_eq_true]
  intro c hc
  exact (uni' (h.low c hc)).1
theorem vw_lower {x : Str} (h : VW x) : Txt.islower x = true := by
  unfold Txt.islower
  rw [← Array.any_toList, ← Array.any_toList, Bool.and_eq_true]
  refine ⟨?_, ?_⟩
  · rw [List.any_eq_true]
    obtain ⟨c, r, e⟩ := List.exists_cons_of_ne_nil h.ne
    have hc : c ∈ x.cps.toList := by
      show c ∈ codes x
      rw [e]
      simp
    exact ⟨c, hc, (uni' (h.low c hc)).2.1⟩
  · rw [Bool.not_eq_true', List.any_eq_false]
    intro c hc
    have := uni' (h.low c hc)
    rw [this.2.2.1, this.2.2.2]
    decide
def spIsW : Sp := fun vs H Q _ => ∃ x : Str, vs = [.str x] ∧ VW x ∧ Q (.bl true) H
def spAreW : Sp := fun vs H Q _ => ∃ (t : Addr) (xs : List Str), vs = [.ref t] ∧ H t = some (.tup (xs.map V.str)) ∧ (∀ x ∈ xs, VW x) ∧ xs.length ≤ 100 ∧ ∀ H', Same H H' → Q (.bl true) H'
abbrev nAreW : List Str := ["xs", "x"]
section
variable {P : Program} {w : World} {K : PySem.W.Frag} {mg : Str → Option Value} {base : Heap}
theorem scIsW : FnScope ["x"] ["x"] (defScope sIsW) := ⟨rfl, rfl, rfl, by decide +kernel, rfl, by decide +kernel, by decide +kernel⟩
theorem ok_isw {f aR : Addr} {t1 t2 : Tok} {fd : FuncData} (F : Fun K "is_word" "is_word" sIsW f fd) (T : Bi mg) (G : Gb K mg aR t1 t2) : FnOk P w K mg base CX0 1 f fd ["x"] spIsW := by
  refine F.ok scIsW (fun vs H Q E h => ?_) (fun cdv A outer s H vs Q E hr h => ?_)
  · obtain ⟨x, rfl, _⟩ := h
    rfl
  · obtain ⟨x, rfl, hx, k⟩ := h
    refine ⟨_, (pss_cons (ps_if (PW.pt (pw_or (pt_not (pt_val (pe_callB call_isi (by rfl) T.isinstance (by decide +kernel) (pa_cons (pv 0) (pa_cons (pe_bltn (v := .ty "str") (by rfl) T.str (by decide +kernel) rfl) pa_nil))))) (pw_or1 (pt_cmpR op_gt (pe_callB call_len_str (by rfl) T.len PySem.boot_len (pa_cons (pv 0) pa_nil)) (pe_glob (v := .int 8) rfl G.long ⟨_, rfl⟩) (nomark _)))))
      (pss_one (ps_ret pe_bl))
      pss_nil)
      (pss_one (ps_ret (pe_and (pe_m0 PySem.F.slot_str_isascii PySem.F.type_str_isascii mt_isascii (pv 0)) (pe_and (pe_m0 PySem.F.slot_str_isalpha PySem.F.type_str_isalpha mt_isalpha (pv 0)) (pe_and (pe_m0 PySem.F.slot_str_islower PySem.F.type_str_islower mt_islower (pv 0)) (pe_one (pe_cmpR op_notIn_seq (pv 0) (pe_glob (v := .ref aR) rfl G.res rfl) rfl)))))))), ?_⟩
    have hl : x.length ≤ 8 := by rw [len_codes]; exact hx.le
    refine ⟨_, rfl, _, _, _, _, true, rfl, .ty _, .base (.str _), kit_ty (by decide +kernel), _, rfl, ?_⟩
    refine ⟨_, rfl, _, rfl, Nat.le_trans hl (by decide), _, _, rfl, rfl, _, rfl, ite2 (fun h8 => ?_) (fun _ => ?_)⟩
    · have := of_decide_eq_true h8
      omega
    refine ⟨_, rfl, ⟨_, rfl⟩, _, rfl, rfl, trivial, _, rfl, ?_⟩
    rw [vw_ascii hx]
    refine iteT ⟨_, rfl, ⟨_, rfl⟩, _, rfl, rfl, trivial, _, rfl, ?_⟩
    rw [vw_alpha hx]
    refine iteT ⟨_, rfl, ⟨_, rfl⟩, _, rfl, rfl, trivial, _, rfl, ?_⟩
    rw [vw_lower hx]
    refine iteT ⟨_, rfl, aR, _, rfl, .inr (G.resT H), rfl, flat_strs _, ?_⟩
    rw [if_pos rfl, inV_strs, decide_eq_false hx.nr]
    exact k
theorem scAreW : FnScope nAreW ["xs"] (defScope sAreW) := ⟨rfl, rfl, rfl, by decide +kernel, rfl, by decide +kernel, by decide +kernel⟩
theorem ok_arew {f fI : Addr} {fd fdI : FuncData} (F : Fun K "are_words" "are_words" sAreW f fd) (T : Bi mg) (IW : Df K mg "is_word" sIsW fI fdI ["x"]) (GI : FnOk P w K mg base CX0 1 fI fdI ["x"] spIsW) : FnOk P w K mg base CX0 2 f fd ["xs"] spAreW := by
  refine F.ok scAreW (fun vs H Q E h => ?_) (fun cdv A outer s H vs Q E hr h => ?_)
  · obtain ⟨t, xs, rfl, _⟩ := h
    rfl
  · obtain ⟨t, xs, rfl, ht, hx, hl, k⟩ := h
    have hr0 : Room 1 _ := hr
    refine ⟨_, (pss_one (ps_ret (pe_callB (cr_all rfl) (by rfl) T.all (by decide +kernel) (pa_cons (pe_lc (own := [("x", 1)]) (g := gName 1) (tt := tYes) rfl scAreW.nd (pi_tup (pv 0)) (blkOk_by (N := nAreW) (sc := defScope sAreW) (by decide +kernel)) (fun _ _ _ _ _ => pg_name (i := 1) scAreW.nd rfl (Or.inl rfl)) (fun _ _ _ _ _ => pts_nil) (fun _ _ _ _ _ => pe_call GI hr0 (by rfl) IW.m IW.F.kp IW.b .nil pass0 (pa_cons (pv 1) pa_nil))) pa_nil)))), ?_⟩
    refine ⟨_, rfl, t, rfl, ⟨_, SqT.of ht⟩, fun D hD => ?_⟩
    refine lc_tup (K := K) (a := t) (xs := xs.map V.str) (fun i Hc => Hc D = some (.lst ((List.replicate i true).map V.bl)) ∧ Same H Hc) ?_ ?_ ?_ ?_
    · exact ⟨upd_same, (Same.refl H).put hD⟩
    · rintro i Hc _ ⟨_, sm⟩
      exact SqT.of (sm t _ ht)
    · rintro i y Hc hy ⟨h1, sm⟩
      obtain ⟨x, hxm, rfl⟩ := List.mem_map.mp (List.mem_of_getElem? hy)
      have hil : i < xs.length := by
        have := (List.getElem?_eq_some_iff.mp hy).1
        rwa [List.length_map] at this
      refine ⟨rfl, _, rfl, x, rfl, hx x hxm, _, h1, ?_, ?_, sm.put hD⟩
      · rw [List.length_map, List.length_replicate]; show _ < 16777216; omega
      · rw [upd_same, List.replicate_succ', List.map_append]
        rfl
    · rintro Hc ⟨h1, sm⟩
      refine ⟨D, _, rfl, SqL.of h1, ?_⟩
      have : (List.replicate (xs.map V.str).length true).all id = true := by simp
      rw [this]
      exact k Hc sm
end
end K2
end
section
set_option Elab.async false
set_option maxRecDepth 100000
set_option linter.all false
namespace K2
open PySem L2
abbrev sAreD : Stmt := top 9
abbrev sFault : Stmt := top 13
abbrev sLine : Stmt := top 14
abbrev nLine : List Str := ["row", "lines", "line", "base", "name"]
abbrev nFault : List Str := ["row", "k", "lines", "bases", "base"]
/-- a dict of True for each name -/
def dkeys (us : List Str) : List (Key × V) := us.map fun u => ((Sum.inr u : Key), V.bl true)
def fD (us : List Str) : HO := .dK (dkeys us)
theorem dkeys_val (us : List Str) (x : Str) : valV (dkeys us) (Sum.inr x : Key) = if x ∈ us then some (.bl true) else none := by
  induction us with
  | nil => rfl
  | cons u us ih =>
    show valV (((Sum.inr u : Key), V.bl true) :: dkeys us) (Sum.inr x : Key) = _
    rw [valV_cons, ih]
    by_cases e : u = x
    · subst e; simp
    · have e2 : ¬ (Sum.inr u : Key) = Sum.inr x := fun q => e (Sum.inr.inj q)
      have e3 : ¬ x = u := fun q => e q.symm
      simp [e2, e3]
theorem dkeys_put (us : List Str) (x : Str) : putK (dkeys us) (Sum.inr x : Key) (.bl true) = dkeys (insK us x) := by
  unfold insK
  by_cases h : x ∈ us
  · rw [if_pos h]
    unfold putK
    rw [valV_any, dkeys_val, if_pos h]
    show (dkeys us).map _ = dkeys us
    unfold dkeys
    rw [List.map_map]
    apply List.map_congr_left
    intro u _
    show (if (Sum.inr u : Key) = Sum.inr x then _ else _) = _
    split <;> rfl
  · rw [if_neg h, putK_new _ (by rw [dkeys_val, if_neg h])]
    unfold dkeys
    rw [List.map_append]
    rfl
theorem dkeys_len (us : List Str) : (dkeys us).length = us.length := by simp [dkeys]
theorem insK_foldl_len (us m : List Str) : (us.foldl insK m).length ≤ m.length + us.length := by
  induction us generalizing m with
  | nil => simp
  | cons u us ih =>
    rw [List.foldl_cons]
    have := ih (insK m u)
    have h2 : (insK m u).length ≤ m.length + 1 := by
      unfold insK
      split
      · omega
      · simp
    rw [List.length_cons]
    omega
theorem merge1 (x : Str) (v : V) : mergeK [] [((Sum.inr x : Key), v)] = [((Sum.inr x : Key), v)] := by
  show putK [] (Sum.inr x : Key) v = _
  rw [putK_new v rfl]
  rfl
def spAreD : Sp := fun vs H Q _ => ∃ (t : Addr) (xs : List Str), vs = [.ref t] ∧ H t = some (.tup (xs.map V.str)) ∧ xs.Nodup ∧ xs.length ≤ 1000 ∧ Q (.bl true) H
def spLine : Sp := fun vs H Q _ => ∃ (t d : Addr) (r : Row) (kvs : List (Key × V)) (tb : Tb), vs = [.ref t, .ref d] ∧ H t = some (rowO r) ∧ H d = some (.dK kvs) ∧ Tab fD H kvs tb ∧ TOk tb ∧ RowOk (keys tb) r ∧ tb.length ≤ 40 ∧
  ∀ (m : Addr) (H' : Hp), H m = none → H' m = some (fD (lineOf tb r)) → Same H H' → Q (.ref m) H'
def spFault : Sp := fun vs H Q _ => ∃ (t d : Addr) (k : Nat) (r : Row) (kvs : List (Key × V)) (tb : Tb), vs = [.ref t, .int k, .ref d] ∧ k < 30 ∧ H t = some (rowO r) ∧ H d = some (.dK kvs) ∧ Tab fD H kvs tb ∧ TOk tb ∧ RowOk (keys tb) r ∧ (∀ x ∈ r.2, VW x) ∧ tb.length ≤ 40 ∧
  ∀ (H' : Hp), Same H H' → Q .non H'
section
variable {P : Program} {w : World} {K : PySem.W.Frag} {mg : Str → Option Value} {base : Heap}
theorem scLine : FnScope nLine ["row", "lines"] (defScope sLine) := ⟨rfl, rfl, rfl, by decide +kernel, rfl, by decide +kernel, by decide +kernel⟩
theorem scFault : FnScope nFault ["row", "k", "lines"] (defScope sFault) := ⟨rfl, rfl, rfl, by decide +kernel, rfl, by decide +kernel, by decide +kernel⟩
theorem ok_line {f : Addr} {fd : FuncData} (F : Fun K "_line" "_line" sLine f fd) : FnOk P w K mg base CX0 1 f fd ["row", "lines"] spLine := by
  refine F.ok scLine (fun vs H Q E h => ?_) (fun cdv A outer s H vs Q E hr h => ?_)
  · obtain ⟨t, d, r, kvs, tb, rfl, _⟩ := h
    rfl
  · obtain ⟨t, d, ⟨x, bs⟩, kvs, tb, rfl, ht, hd, TB, TO, RO, h40, k⟩ := h
    have hu := hu_of hr
    refine ⟨_, (pss_cons (ps_set (i := 2) scLine.nd rfl (Or.inl rfl) (pe_disp (pps_cons (pe_ix ix_tup (pv 0) pe_int (fun _ _ => rfl)) pe_bl pps_nil) (by rfl) (by rfl) (fun z => by cases z) (by decide)))
      (pss_cons (ps_for PassesOwn.never rfl (pi_tup (pe_slice sl_tup2 (pv 0) (po_some pe_int) po_none)) (pg_name (i := 3) scLine.nd rfl (Or.inl rfl))
      (pss_one (ps_lock (ps_for PassesOwn.never rfl (pi_keys (pe_dget hu (pv 1) (pv 3) (fun _ _ => rfl))) (pg_name (i := 4) scLine.nd rfl (Or.inl rfl))
        (pss_one (ps_dput hu (pv 2) (pv 4) pe_bl rfl))))))
      (pss_one (ps_ret (pv 2))))), ?_⟩
    have htl : tb.length = (keys tb).length := by simp [keys]
    have hll := fun j => line_len TO (x := x) (bs := bs.take j) fun b hb => RO.sub b (List.mem_of_mem_take hb)
    unfold rowO at ht
    refine fun m hm => ⟨_, rfl, t, _, _, _, rfl, rfl, SqT.of (by rw [upd_ne (ne_of_none ht hm)]; exact ht), atI_nat (j := 0) rfl, upd_same, [((Sum.inr x : Key), V.bl true)], rfl, (by show 1 ≤ 15; decide), ?_⟩
    rw [merge1, upd_upd]
    have sm : Same H (upd H m (.dK [((Sum.inr x : Key), V.bl true)])) := (Same.refl H).put hm
    have hm1 : (upd H m (.dK [((Sum.inr x : Key), V.bl true)])) m = some (fD [x]) := upd_same
    generalize upd H m (.dK [((Sum.inr x : Key), V.bl true)]) = H1 at sm hm1 ⊢
    refine ⟨_, rfl, _, rfl, t, _, rfl, sm t _ ht, fun rp H2 s2 hrp => ?_⟩
    rw [cut1'] at hrp
    refine ⟨rp, rfl, ⟨_, SqT.of hrp⟩, for_tup (K := K) (a := rp) (xs := bs.map V.str)
      (fun j σ Hd => ∃ (v3 v4 : Option V), σ = [some (.ref t), some (.ref d), some (.ref m), v3, v4] ∧ Same H Hd ∧ Hd rp = some (.tup (bs.map V.str)) ∧ Hd m = some (fD (lineL tb [x] (bs.take j)))) ?_ ?_ ?_ ?_⟩
    · exact ⟨_, _, rfl, sm.trans s2, hrp, s2 m _ hm1⟩
    · rintro j σ Hd _ ⟨v3, v4, rfl, _, hr2, _⟩
      exact SqT.of hr2
    · rintro j y σ Hd hj ⟨v3, v4, rfl, sd, hr2, hmd⟩
      have hjl : j < bs.length := by
        have := (List.getElem?_eq_some_iff.mp hj).1
        rwa [List.length_map] at this
      have hbj : bs[j]? = some bs[j] := List.getElem?_eq_getElem hjl
      rw [List.getElem?_map, hbj] at hj
      cases hj
      obtain ⟨u, hu1, hu2⟩ := TB.val (RO.sub bs[j] (List.getElem_mem hjl))
      have q := TO.line (RO.sub bs[j] (List.getElem_mem hjl))
      have husl : (look tb bs[j]).length ≤ (keys tb).length := q.1.length_le_of_subset q.2.2.2
      have hun := q.1
      have hsucc := lineL_take (t := tb) (m := [x]) hbj
      have hl1 := hll j
      have hmu : u ≠ m := ne_of_none hu2 hm
      have hud := sd u _ hu2
      have hdd := sd d _ hd
      generalize look tb bs[j] = us at hu2 hud hsucc husl hun
      generalize lineL tb [x] (bs.take j) = mine at hmd hsucc hl1
      -- for name in lines[base]: the dict at u is locked
      refine ⟨u, fD us, hud, True.intro, fun od => ?_⟩
      have hmf : m ≠ u := hmu.symm
      have hget : ∀ hq : Hp, (∀ b, b ≠ u → b ≠ m → hq b = Hd b) → (d = u → hq u = some (.frz od (fD us))) → True := fun _ _ _ => trivial
      have hD2 : DGet (upd Hd u (.frz od (fD us))) d (.str bs[j]) (some (.ref u)) := by
        by_cases e : d = u
        · subst e
          rw [hdd] at hud
          have e2 := Option.some.inj hud
          refine .inl ⟨kvs, Sum.inr bs[j], .inr ⟨od, ?_⟩, rfl, hu1.symm⟩
          rw [upd_same, e2]
        · exact dget_s (by rw [upd_ne e]; exact hdd) hu1
      refine ⟨_, rfl, _, rfl, d, _, rfl, hD2, u, od, rfl, .inl ⟨dkeys us, upd_same, for_it walk_keys
        (fun i σ Hx => ∃ v4 : Option V, σ = [some (.ref t), some (.ref d), some (.ref m), some (.str bs[j]), v4] ∧ Hx u = some (.frz od (fD us)) ∧ Hx m = some (fD ((us.take i).foldl insK mine)) ∧ ∀ b o, Hd b = some o → b ≠ m → b ≠ u → Hx b = some o) ?_ ?_ ?_ ?_⟩⟩
      · exact ⟨_, rfl, upd_same, by rw [upd_ne hmf]; exact hmd, fun b o hb _ h2 => by rw [upd_ne h2]; exact hb⟩
      · rintro i σ Hx _ ⟨v4, rfl, hx, _, _⟩
        exact hx
      · rintro i y σ Hx Hy hi ⟨v4, rfl, hx, hmx, kx⟩ ⟨rfl, kk, vv, hkv, rfl⟩
        rw [dkeys_len] at hi
        have hui : us[i]? = some us[i] := List.getElem?_eq_getElem hi
        unfold dkeys at hkv
        rw [List.getElem?_map, hui] at hkv
        cases hkv
        have hfl := insK_foldl_len (us.take i) mine
        rw [List.length_take] at hfl
        refine ⟨_, rfl, _, rfl, m, _, rfl, DPut.k (k := Sum.inr us[i]) hmx ?_, ?_⟩
        · rw [dkeys_len]; show _ < 16777216; omega
        · refine ⟨_, rfl, by rw [upd_ne hmu]; exact hx, ?_, fun b o hb h1 h2 => by rw [upd_ne h1]; exact kx b o hb h1 h2⟩
          have et : us.take (i + 1) = us.take i ++ [us[i]] := by rw [List.take_add_one, hui]; rfl
          rw [upd_same, dkeys_put, et, List.foldl_append]
          rfl
      · rintro σ Hx ⟨v4, rfl, hx, hmx, kx⟩
        rw [dkeys_len, List.take_length, foldl_insK _ _ hun] at hmx
        have back : ∀ b o, Hd b = some o → b ≠ m → (upd Hx u (fD us)) b = some o := fun b o hb h1 => by
          by_cases e : b = u
          · subst e
            rw [hud] at hb
            rw [upd_same]
            exact hb
          · rw [upd_ne e]
            exact kx b o hb h1 e
        refine ⟨hx, _, _, rfl, fun b o hb => back b o (sd b o hb) (ne_of_none hb hm), back rp _ hr2 ?_, ?_⟩
        · exact ne_of hr2 hmd (by unfold fD; intro z; cases z)
        · rw [upd_ne hmf, hmx, hsucc]
    · rintro σ Hd ⟨v3, v4, rfl, sd, hr2, hmd⟩
      rw [List.length_map, List.take_length] at hmd
      exact ⟨_, rfl, k m Hd hm hmd sd⟩
end
end K2
end
section
set_option Elab.async false
set_option maxRecDepth 100000
set_option linter.all false
namespace K2
open PySem PySem.Spec PyProof.Rows L2
def tLenSetT (ta : TE) : TE := fun σ H Q => ta σ H fun x H1 => ∃ (l : Addr) (xs : List Str), x = .ref l ∧ H1 l = some (.tup (xs.map V.str)) ∧ xs.Nodup ∧ xs.length ≤ 1000 ∧ Q (.int (xs.length : Nat)) H1
section
variable {X : Cx}
/-- len(set(t)), t a tuple of unlike texts -/
theorem pe_lenSetT {a : Expr} {ta : TE} {p1 p2 p3 pos : Pos} (h1 : Gl X "len") (h2 : X.mg "len" = none) (h3 : Gl X "set") (h4 : X.mg "set" = none) (ha : PE X a ta) (hc : X.calm = true := by rfl)
    (na : starEach [a] X.env = (false, eval a X.env) :: starEach [] X.env := by rfl) : PE X (.Call (.Name "len" p1) [.Call (.Name "set" p2) [a] [] p3] [] pos) (tLenSetT ta) := by
  refine ⟨fun pins s σ H Q I h => Call_ (ld_blt I h1 h2 boot_len (callWith_builtin1 (args_cons (Call_ (ld_blt I h3 h4 boot_set (callWith_type1 (args_cons (thn (ha.run pins s σ H _ I h) fun v s1 ⟨x, H1, I1, r1, q1⟩ => args_nil ?_) na) na rfl))) rfl) rfl rfl))⟩
  obtain ⟨l, xs, rfl, ht, un, few, q⟩ := q1
  cases r1
  obtain ⟨its, r, pl, _⟩ := I1.tuple (SqT.of ht)
  refine set_of_tup (I1.ok.hd hc) pl (by simpa using strsAre_of r) un few fun h' tk hS hk => args_nil ?_
  obtain ⟨o, es, ep, t, ho, hex, hd, _, _, _, hf, hn⟩ := hS
  have I2 : Inv X pins σ H1 { s1 with heap := h', toks := tk } := I1.kept fun b o e => hk b o (Heap.lt_size e) e
  exact call_len_set ho hex hd hf (by rw [hn]; omega) ⟨.int xs.length, H1, I2.tok _, ⟨_, by rw [hn]⟩, q⟩
end
section
variable {P : Program} {w : World} {K : PySem.W.Frag} {mg : Str → Option Value} {base : Heap}
theorem scAreD : FnScope ["words"] ["words"] (defScope sAreD) := ⟨rfl, rfl, rfl, by decide +kernel, rfl, by decide +kernel, by decide +kernel⟩
theorem ok_ared {f : Addr} {fd : FuncData} (F : Fun K "are_different" "are_different" sAreD f fd) (T : Bi mg) : FnOk P w K mg base CX0 1 f fd ["words"] spAreD := by
  refine F.ok scAreD (fun vs H Q E h => ?_) (fun cdv A outer s H vs Q E hr h => ?_)
  · obtain ⟨t, xs, rfl, _⟩ := h
    rfl
  · obtain ⟨t, xs, rfl, ht, un, few, k⟩ := h
    refine ⟨_, pss_one (ps_ret (pe_cmpR op_eq (pe_lenSetT (by rfl) T.len (by rfl) T.set (pv 0)) (pe_callB call_len_seq (by rfl) T.len PySem.boot_len (pa_cons (pv 0) pa_nil)) (nomark _))), ?_⟩
    refine ⟨_, rfl, t, xs, rfl, ht, un, few, _, rfl, t, _, rfl, .inr (SqT.of ht), rfl, ?_⟩
    rw [List.length_map, decide_eq_true rfl]
    exact k
end
end K2
end
section
set_option Elab.async false
set_option maxRecDepth 100000
set_option linter.all false
namespace K2
open PySem L2
section
variable {P : Program} {w : World} {K : PySem.W.Frag} {mg : Str → Option Value} {base : Heap}
theorem ok_fault {f fA fF aR : Addr} {fd fdA fdF : FuncData} {t1 t2 : Tok} (F : Fun K "_fault" "_fault" sFault f fd) (T : Bi mg) (G : Gb K mg aR t1 t2) (AW : Df K mg "are_words" sAreW fA fdA ["xs"]) (GA : FnOk P w K mg base CX0 2 fA fdA ["xs"] spAreW)
    (AD : Df K mg "are_different" sAreD fF fdF ["words"]) (GF : FnOk P w K mg base CX0 1 fF fdF ["words"] spAreD) : FnOk P w K mg base CX0 3 f fd ["row", "k", "lines"] spFault := by
  refine F.ok scFault (fun vs H Q E h => ?_) (fun cdv A outer s H vs Q E hr h => ?_)
  · obtain ⟨t, d, k, r, kvs, tb, rfl, _⟩ := h
    rfl
  · obtain ⟨t, d, n, ⟨x, bs⟩, kvs, tb, rfl, hn, ht, hd, TB, TO, RO, hvw, h40, k⟩ := h
    have hu := hu_of hr
    have hr2 : Room 2 _ := hr
    have hr1 : Room 1 _ := hr.mono (by decide)
    refine ⟨_, (pss_cons (ps_if (pt_cmpR op_eq (pv 1) (pe_glob (v := .int 30) rfl G.most ⟨_, rfl⟩) (nomark _))
      (pss_one (ps_ret pe_str))
      pss_nil)
      (pss_cons (ps_if (PW.pt (pw_or (pt_not (pt_val (pe_callB call_isi (by rfl) T.isinstance (by decide +kernel) (pa_cons (pv 0) (pa_cons (pe_bltn (v := .ty "tuple") (by rfl) T.tuple (by decide +kernel) rfl) pa_nil))))) (pw_or (pt_cmpR op_lt (pe_callB call_len_seq (by rfl) T.len PySem.boot_len (pa_cons (pv 0) pa_nil)) pe_int (nomark _)) (pw_or1 (pt_not (pt_val (pe_call GA hr2 (by rfl) AW.m AW.F.kp AW.b .nil pass0 (pa_cons (pv 0) pa_nil))))))))
      (pss_one (ps_ret pe_str))
      pss_nil)
      (pss_cons (ps_if (pt_cmp (pc_din hu (pe_ix ix_tup (pv 0) pe_int (fun _ _ => rfl)) (pv 2)))
      (pss_one (ps_ret pe_str))
      pss_nil)
      (pss_cons (ps_set (i := 3) scFault.nd rfl (Or.inl rfl) (pe_slice sl_tup2 (pv 0) (po_some pe_int) po_none))
      (pss_cons (ps_if (PW.pt (pw_or (pt_not (pt_val (pe_callB (cr_all rfl) (by rfl) T.all (by decide +kernel) (pa_cons (pe_lc (own := [("base", 4)]) (g := gName 4) (tt := tYes) rfl scFault.nd (pi_tup (pv 3)) (blkOk_by (N := nFault) (sc := defScope sFault) (by decide +kernel)) (fun _ _ _ _ _ => pg_name (i := 4) scFault.nd rfl (Or.inl rfl)) (fun _ _ _ _ _ => pts_nil) (fun _ _ _ _ _ => pe_cmp (pc_din hu (pv 4) (pv 2)) rfl)) pa_nil)))) (pw_or1 (pt_not (pt_val (pe_call GF hr1 (by rfl) AD.m AD.F.kp AD.b .nil pass0 (pa_cons (pv 3) pa_nil)))))))
      (pss_one (ps_ret pe_str))
      pss_nil)
      (pss_one (ps_ret pe_non))))))), ?_⟩
    have htl : tb.length = (keys tb).length := by simp [keys]
    have hbl : bs.length ≤ 40 := by
      have q : bs.length ≤ (keys tb).length := RO.nd.length_le_of_subset (RO.sub)
      omega
    have hb0 : 1 ≤ bs.length := List.length_pos_iff.mpr RO.ne
    unfold rowO at ht
    refine ⟨_, rfl, rfl, _, rfl, ite2 (fun h0 => ?_) (fun _ => ?_)⟩
    · have e : (n : Int) = 30 := V.int.inj (of_decide_eq_true h0)
      omega
    refine ⟨_, rfl, _, _, _, _, true, rfl, .ty _, .base (.tup ht), kit_ty (by decide +kernel), _, rfl, ?_⟩
    refine ⟨_, rfl, t, _, rfl, .inr (SqT.of ht), _, _, rfl, rfl, _, rfl, ite2 (fun h0 => ?_) (fun _ => ?_)⟩
    · have := of_decide_eq_true h0
      rw [List.length_map, List.length_cons] at this
      have h1 : 1 ≤ (x, bs).snd.length := hb0
      omega
    refine ⟨_, rfl, t, _, rfl, ht, ?_, ?_, fun H1 s1 => ⟨_, rfl, ?_⟩⟩
    · intro y hy
      rcases List.mem_cons.mp hy with rfl | hy
      · exact RO.vw
      · exact hvw y hy
    · show bs.length + 1 ≤ 100
      omega
    refine ⟨_, rfl, t, _, _, _, rfl, rfl, SqT.of (s1 t _ ht), atI_nat (j := 0) rfl, _, rfl, d, _, rfl, DGet.k (k := Sum.inr x) (s1 d _ hd), _, rfl, ?_⟩
    rw [TB.none RO.new]
    refine ⟨_, rfl, _, rfl, t, _, rfl, s1 t _ ht, fun bp H2 s2 hbp => ?_⟩
    rw [cut1'] at hbp
    have s12 := s1.trans s2
    refine ⟨_, rfl, bp, rfl, ⟨_, SqT.of hbp⟩, fun D hD => ?_⟩
    refine lc_tup (K := K) (a := bp) (xs := bs.map V.str) (fun i Hc => Hc D = some (.lst ((List.replicate i true).map V.bl)) ∧ Same H2 Hc) ?_ ?_ ?_ ?_
    · exact ⟨upd_same, (Same.refl H2).put hD⟩
    · rintro i Hc _ ⟨_, sm⟩
      exact SqT.of (sm bp _ hbp)
    · rintro i y Hc hy ⟨h1, sm⟩
      obtain ⟨b, hb, rfl⟩ := List.mem_map.mp (List.mem_of_getElem? hy)
      have hil : i < bs.length := by
        have := (List.getElem?_eq_some_iff.mp hy).1
        rwa [List.length_map] at this
      obtain ⟨u, hu1, _⟩ := TB.val (RO.sub b hb)
      refine ⟨rfl, _, rfl, _, rfl, d, _, rfl, DGet.k (k := Sum.inr b) (sm d _ (s12 d _ hd)), _, h1, ?_, ?_, sm.put hD⟩
      · rw [List.length_map, List.length_replicate]; show _ < 16777216; omega
      · rw [upd_same, List.replicate_succ', List.map_append, hu1]
        rfl
    · rintro Hc ⟨h1, sm⟩
      refine ⟨D, _, rfl, SqL.of h1, _, rfl, ?_⟩
      have e : (List.replicate (bs.map V.str).length true).all id = true := by simp
      rw [e]
      refine ⟨_, rfl, bp, bs, rfl, sm bp _ hbp, RO.nd, by omega, _, rfl, ?_⟩
      exact k Hc (s12.trans sm)
end
end K2
end
section
set_option Elab.async false
set_option maxRecDepth 100000
set_option linter.all false
namespace K2
open PySem PySem.Spec PyProof.Rows L2
/-! enumerate(t) of a tuple -/
def enumO (i : Addr) : Obj := { cls := .type "enumerate", data := .fields #[.none, .bool false, .ref i, rawInt 0, .none, .none] }
set_option maxHeartbeats 1000000 in
theorem enum_made {v : Value} {o : Obj} {B : Heap → Prop} (b : Begins v o B) :
    Meets (Builtin.«enumerate.__new__» ⟨[.type "enumerate", v], []⟩) (fun _ R s => B s.heap ∧ R (.ok (.ret (.ref (s.heap.push o).objs.size))) { s with heap := (s.heap.push o).push (enumO s.heap.objs.size) }) :=
  .of_wp fun prog w A R ⟨hp, g, d, tk, os⟩ ⟨h1, h⟩ => by
    have q0 := sub_enumerate
    have q1 : ∀ {A' : Around} {E : Value → Shared → Prop} {Q : Value → Shared → Prop}, Q (.ref hp.objs.size) ⟨hp.push o, g, d, tk, os⟩ → wpAny (model prog w) A' (pyIter v) Q E ⟨hp, g, d, tk, os⟩ := fun q => b.iter prog w _ _ ⟨hp, g, d, tk, os⟩ _ h1 q
    wp_walk using q1
    refine wpAny_stack_any fun st => wpAny_pure ?_
    split
    · rename_i c _ _ _ _ _
      cases (c == Value.type "enumerate") <;> (wp_walk using q1; exact ⟨_, rfl, h⟩)
    · wp_walk using q1
      exact ⟨_, rfl, h⟩
section
variable {prog : Program} {w : World} {A : Around} {E : Value → Shared → Prop} {s : Shared}
theorem enum_call {v : Value} {o : Obj} {B : Heap → Prop} {Q : Value → Shared → Prop} (b : Begins v o B) (h1 : B s.heap)
    (h : ∀ h', IsEnum h' (s.heap.objs.size + 1) s.heap.objs.size 0 .none → h'.get? s.heap.objs.size = some o → (∀ a u, s.heap.get? a = some u → h'.get? a = some u) → Q (.ref (s.heap.objs.size + 1)) { s with heap := h' }) :
    wpAny (model prog w) A (call (.type "enumerate") [v]) Q E s := by
  refine callType_new F.called_enumerate (by decide) (F.typeCall_enumerate_1 _) (F.newCall_enumerate_1 _) (fun obj => F.args_object_init_2 obj _) F.entry_enumerate_new (enum_made b) ⟨h1, ?_⟩
  have sz : (s.heap.push o).objs.size = s.heap.objs.size + 1 := Heap.size_push ..
  have at1 := Heap.get?_push_size (s.heap.push o) (o := enumO s.heap.objs.size) rfl
  rw [sz] at at1
  show _ ∧ _
  rw [sz]
  exact ⟨⟨_, at1, rfl⟩, h _ at1 (Heap.get?_push_of_some _ (Heap.get?_push_size _ b.free)) fun a u x => Heap.get?_push_of_some _ (Heap.get?_push_of_some _ x)⟩
end
/-- the items of the tuple at a, each in a new pair with its number -/
def IteT (a : Addr) (xs : List V) : It :=
  ⟨fun i H => H a = some (.tup xs) ∧ i < xs.length, fun i H v H' => ∃ T x, v = .ref T ∧ H T = none ∧ H' = upd H T (.tup [.int (i : Nat), x]) ∧ xs[i]? = some x, fun i H => H a = some (.tup xs) ∧ i = xs.length⟩
def tnE (e it t : Addr) (i : Nat) (h : Heap) : Prop := (∃ old, IsEnum h e it (0 + ((i : Nat) : Int)) old) ∧ h.IsTupleIter it t i ∧ e ≠ it ∧ t ≠ it ∧ e ≠ t
theorem turn_enumT {P : Program} {w : World} {K : PySem.W.Frag} {elts : List Expr} {kk : Nat} {tpos : Pos} (xs : List V) (t e it : Addr) : Turn P w K (.Tuple elts kk tpos) (IteT t xs) [e, it] e (tnE e it t) where
  mem := by simp
  obj := fun i h ⟨⟨old, he⟩, ⟨o, ho, hc, hd⟩, _⟩ b hb => by
    rcases List.mem_cons.mp hb with z | z
    · subst z; exact ⟨_, he, fun v q => nomatch q⟩
    · rw [List.mem_singleton.mp z]; exact ⟨o, ho, fun v q => by rw [hd] at q; cases q⟩
  keep := fun i h h' ⟨⟨old, he⟩, hi, n1, n2, n3⟩ k => ⟨⟨old, k e (by simp) _ he⟩, hi.at fun o q => k it (by simp) o q, n1, n2, n3⟩
  item := by
    rintro X rfl rfl rfl hc i pins s σ H E I hf ⟨he, hi, n1, n2, n3⟩ ⟨ha, hlt⟩
    obtain ⟨its, rv, pl, _⟩ := I.tuple (SqT.of ha)
    have sz : its.toArray.size = xs.length := by rw [List.size_toArray, rv.length]
    have W := WalksT.enumFrom (prog := X.prog) (w := X.w) (A := X.A) 0 (Draws.tuple (A := X.A.in1) (by simp [I.ok.hd hc]) it t n2 its.toArray) e n1 (by simp [n1, n3]) (by simp)
    refine W.item i s _ _ (by rw [sz]; exact hlt) ⟨he, hi, pl⟩ fun T vals h' tk ⟨tt, x, hx, ev⟩ hT hTup mid fr => ⟨_, rfl, W.go elts kk tpos i T _ _ _ mid fun h'' ⟨he2, hi2, _⟩ fr2 => ?_⟩
    have hx2 : its[i]? = some x := by simpa using hx
    obtain ⟨y, hy, ry⟩ : ∃ y, xs[i]? = some y ∧ RelV y x := by
      have q : xs[i]? = some xs[i] := List.getElem?_eq_getElem hlt
      obtain ⟨u, hu, ru⟩ := rv.get q
      rw [hx2] at hu
      cases hu
      exact ⟨_, q, ru⟩
    have hTw := W.apart i T _ mid
    have hTf : H T = none := I.hok.fresh hT
    obtain ⟨o2, ho2, hc2, nn, hd2⟩ := hTup
    have new : ObjOk X.prog X.w (upd H T (.tup [.int (i : Nat), y])) h'' T (.tup [.int (i : Nat), y]) :=
      ⟨by show 2 ≤ sizeLine; decide, [.int (i : Nat) tt, x], .cons ⟨_, rfl⟩ (.cons ry .nil), ⟨o2, fr2 T o2 hTw ho2, hc2, nn, by rw [hd2, ev, Int.zero_add]⟩⟩
    refine ⟨.ref T, _, I.turnedNew (ch := [e, it]) (fun b ob hb q => fr2 b ob hb (fr b ob hb q)) hf hT new, rfl, ⟨T, y, rfl, hTf, rfl, hy⟩, ⟨he2, hi2, n1, n2, n3⟩, fun b hb => ?_⟩
    rw [upd_ne fun z : b = T => hTw (z ▸ hb)]
    exact (hf b hb).1
  done := by
    rintro X rfl rfl rfl hc i pins s σ H E I hf ⟨he, hi, n1, n2, n3⟩ ⟨ha, hle⟩
    obtain ⟨its, rv, pl, _⟩ := I.tuple (SqT.of ha)
    have sz : its.toArray.size = i := by rw [List.size_toArray, ← rv.length, hle]
    have W := WalksT.enumFrom (prog := X.prog) (w := X.w) (A := X.A) 0 (Draws.tuple (A := X.A.in1) (by simp [I.ok.hd hc]) it t n2 its.toArray) e n1 (by simp [n1, n3]) (by simp)
    rw [sz] at W
    exact W.done s _ _ ⟨he, hi, pl⟩ fun h' tk fr => ⟨rfl, I.turnedL (ch := [e, it]) fr hf⟩
  self := fun A i s Q E ⟨⟨_, he⟩, _⟩ h => wpAny_pyIter_enum he h
def iEnumT (ta : TA) : TI := fun σ H R => ta σ H fun vs H1 => ∃ a xs, vs = [.ref a] ∧ H1 a = some (.tup xs) ∧ R (IteT a xs) H1
theorem pi_enumT {X : Cx} {e : Expr} {ta : TA} {p pos tpos : Pos} {elts : List Expr} {kk : Nat} (hg : Gl X "enumerate") (hm : X.mg "enumerate" = none) (ha : PA X [e] ta) (hs : starEach [e] X.env = [(false, eval e X.env)] := by rfl) :
    PI X (.Tuple elts kk tpos) (.Call (.Name "enumerate" p) [e] [] pos) (iEnumT ta) := by
  refine ⟨fun pins s σ H R I h => Call_ (ld_blt I hg hm boot_enumerate (callWith_type1 (thn (ha.run pos pins s σ H _ I h) fun us s1 ⟨vs, H1, I1, r1, q1⟩ => ?_) hs rfl))⟩
  obtain ⟨a, xs, rfl, ht, q⟩ := q1
  cases r1 with
  | cons r rr =>
    cases rr
    cases r
    obtain ⟨its, rv, pl, _⟩ := I1.tuple (SqT.of ht)
    have al : a < s1.heap.objs.size := by obtain ⟨_, z, _⟩ := pl; exact Heap.lt_size z
    refine enum_call (begins_tuple a its.toArray) pl fun h' he hit hk => wpAny_pyIter_enum he ⟨s1.heap.objs.size + 1, [s1.heap.objs.size + 1, s1.heap.objs.size], _, _, H1, rfl, I1.kept (t' := s1.toks) hk, turn_enumT xs a (s1.heap.objs.size + 1) s1.heap.objs.size,
      ⟨⟨.none, he⟩, ⟨_, hit, rfl, rfl⟩, Nat.succ_ne_self _, Nat.ne_of_lt al, Nat.ne_of_gt (Nat.lt_succ_of_lt al)⟩, fun b hb => ?_, q⟩
    have le : s1.heap.objs.size ≤ b := by
      rcases List.mem_cons.mp hb with z | z
      · rw [z]; exact Nat.le_succ _
      · rw [List.mem_singleton.mp z]; exact Nat.le_refl _
    exact I1.fpOk le (I1.hok.fresh le)
theorem walk_enumT (a : Addr) (xs : List V) : Walk (IteT a xs) xs.length (fun H => H a = some (.tup xs)) (fun i H v H' => ∃ T x, v = .ref T ∧ H T = none ∧ H' = upd H T (.tup [.int (i : Nat), x]) ∧ xs[i]? = some x) :=
  ⟨fun i H hi h => ⟨h, hi⟩, fun H h => ⟨h, rfl⟩, fun i H x H' _ _ y => y⟩
end K2
end
section
set_option Elab.async false
set_option maxRecDepth 100000
set_option linter.all false
namespace K2
open PySem L2
abbrev sInit : Stmt := inClass (top 12) 0
abbrev sMade : Stmt := inClass (top 12) 2
abbrev sWithin : Stmt := inClass (top 12) 6
abbrev nInit : List Str := ["self", "rows", "lines", "k", "row", "reason"]
def flds (r n l : Addr) : List (Str × V) := putF "_lines" (.ref l) (putF "names" (.ref n) (putF "rows" (.ref r) []))
theorem k1_ : ¬ (("rows" : Str) = "names") := by decide +kernel
theorem k2_ : ¬ (("rows" : Str) = "_lines") := by decide +kernel
theorem k3_ : ¬ (("names" : Str) = "_lines") := by decide +kernel
theorem flds_lines (r n l : Addr) : (flds r n l).lookup ("_lines" : Str) = some (.ref l) := by
  unfold flds
  rw [lookup_putF, if_pos rfl]
theorem flds_no (r n l : Addr) {m : Str} (h1 : ¬ m = "_lines") (h2 : ¬ m = "names") (h3 : ¬ m = "rows") : (flds r n l).lookup m = none := by
  unfold flds
  rw [lookup_putF, if_neg h1, lookup_putF, if_neg h2, lookup_putF, if_neg h3]
  rfl
theorem merge2' (v1 v2 : V) : mergeK [] [((Sum.inr (Str.ofString "vacant") : Key), v1), ((Sum.inr (Str.ofString "error") : Key), v2)] = [((Sum.inr (Str.ofString "vacant") : Key), v1), ((Sum.inr (Str.ofString "error") : Key), v2)] := by
  show putK (putK [] (Sum.inr (Str.ofString "vacant") : Key) v1) (Sum.inr (Str.ofString "error") : Key) v2 = _
  rw [putK_new v1 rfl, putK_new v2 (by
    rw [List.nil_append, valV_cons, if_neg (by decide +kernel)]
    rfl)]
  rfl
/-- Classes stand at p, and know what is within what -/
def ClsAt (C : Addr) (H : Hp) (p : Addr) (tb : Tb) : Prop := ∃ (dx r n l : Addr) (kvs : List (Key × V)), H p = some (.ins C dx (flds r n l)) ∧ H l = some (.dK kvs) ∧ Tab fD H kvs tb
/-- Classes stand at p, made of these rows -/
def ClsW (C : Addr) (H : Hp) (p : Addr) (rs : List Row) : Prop := ∃ (dx r n l : Addr) (kvs : List (Key × V)) (ts : List Addr), H p = some (.ins C dx (flds r n l)) ∧ H l = some (.dK kvs) ∧ Tab fD H kvs (ups rs) ∧ H n = some (.tup ((keys (ups rs)).map V.str)) ∧ H r = some (.tup (ts.map V.ref)) ∧ RowsAt H ts rs
theorem ClsW.at {C p : Addr} {H : Hp} {rs : List Row} (h : ClsW C H p rs) : ClsAt C H p (ups rs) := by
  obtain ⟨dx, r, n, l, kvs, ts, h1, h2, h3, _⟩ := h
  exact ⟨dx, r, n, l, kvs, h1, h2, h3⟩
theorem keys_vals {f : List Str → HO} {H : Hp} {kvs : List (Key × V)} {t : Tb} (TB : Tab f H kvs t) : kvs.map (fun e => kV e.1) = (keys t).map V.str := by
  have := congrArg (List.map kV) TB.keys_eq
  rw [List.map_map, List.map_map] at this
  exact this
theorem flds_names (r n l : Addr) : (flds r n l).lookup ("names" : Str) = some (.ref n) := by
  unfold flds
  rw [lookup_putF, if_neg k3_, lookup_putF, if_pos rfl]
theorem flds_rows (r n l : Addr) : (flds r n l).lookup ("rows" : Str) = some (.ref r) := by
  unfold flds
  rw [lookup_putF, if_neg k2_, lookup_putF, if_neg k1_, lookup_putF, if_pos rfl]
theorem Tab.monoM {f : List Str → HO} {H H' : Hp} {kvs : List (Key × V)} {t : Tb} (h : Tab f H kvs t) (k : ∀ a us, (∃ y, (y, V.ref a) ∈ kvs) → H a = some (f us) → H' a = some (f us)) : Tab f H' kvs t := by
  induction h with
  | nil => exact .nil
  | cons h1 _ ih => exact .cons (k _ _ ⟨_, List.mem_cons_self⟩ h1) (ih fun a us ⟨y, hy⟩ => k a us ⟨y, List.mem_cons_of_mem _ hy⟩)
structure Txt (K : PySem.W.Frag) (mg : Str → Option Value) (C : Addr) : Prop where
  cl : Cls K C
  nR : NoAttr K C "rows"
  nN : NoAttr K C "names"
  nL : NoAttr K C "_lines"
  mgC : mg "Classes" = some (.ref C)
def spInit (C : Addr) : Sp := fun vs H Q _ => ∃ (p dx rt : Addr) (ts : List Addr) (rs : List Row), vs = [.ref p, .ref rt] ∧ H p = some (.ins C dx []) ∧ H rt = some (.tup (ts.map V.ref)) ∧ RowsAt H ts rs ∧ Good rs ∧ rs.length ≤ 30 ∧
  ∀ (H' : Hp), ClsW C H' p rs → (∀ b o, H b = some o → b ≠ p → H' b = some o) → Q .non H'
theorem init_bind (kV doc pm : Value) (an : Option Addr) (cdv ct : Value) : ∀ us rest : List Value, us.length = ["self"].length → bindArgs (PySem.W.fnOf "__init__" "Classes.__init__" (defArgs sInit) (defBody sInit) (defScope sInit) .none kV doc pm an cdv ct) ⟨us ++ rest, []⟩ = (newTuple rest >>= fun t => pure (([("self" : Str)]).zip us ++ [(("rows" : Str), t)])) :=
  StX.bind_star1 (B := fun l => bindArgs (PySem.W.fnOf "__init__" "Classes.__init__" (defArgs sInit) (defBody sInit) (defScope sInit) .none kV doc pm an cdv ct) ⟨l, []⟩) (fun a => rfl) (fun a r rs => rfl)
section
variable {P : Program} {w : World} {K : PySem.W.Frag} {mg : Str → Option Value} {base : Heap}
theorem scInit : FnScope nInit ["self", "rows"] (defScope sInit) := ⟨rfl, rfl, rfl, by decide +kernel, rfl, by decide +kernel, by decide +kernel⟩
theorem ok_init {f C fF fL : Addr} {fd fdF fdL : FuncData} (F : Fun K "__init__" "Classes.__init__" sInit f fd) (X : Txt K mg C) (T : Bi mg) (FA : Df K mg "_fault" sFault fF fdF ["row", "k", "lines"]) (GF : FnOk P w K mg base CX0 3 fF fdF ["row", "k", "lines"] spFault)
    (LI : Df K mg "_line" sLine fL fdL ["row", "lines"]) (GL : FnOk P w K mg base CX0 1 fL fdL ["row", "lines"] spLine) :
    FnR P w K mg base CX0 4 f (fun vs H Q E => ∃ ws rest, vs = ws ++ rest ∧ ws.length = 1 ∧ rest.length ≤ sizeLine ∧ ∀ p, H p = none → spInit C (ws ++ [V.ref p]) (upd H p (.tup rest)) Q E) := by
  obtain ⟨oc, od, kV, doc, pm, an, cdv, ct, osl, rfl, lk, hcd⟩ := F.ex
  refine StX.fn_star (ps := ["self"]) (pv := "rows") lk hcd scInit StX.cxUp_none (init_bind kV doc pm an cdv ct) fun A outer s H vs Q E hr h => ?_
  obtain ⟨p, dx, rt, ts, rs, rfl, hp, ht, R, g, h30, k⟩ := h
  have hr2 : Room 3 _ := hr
  have hr0 : Room 1 _ := hr.mono (by decide)
  have hu := hu_of hr
  suffices hs : ∃ t, PSs (cxOf CX0 P w K mg base nInit "Classes.__init__" (defScope sInit) f cdv A outer s H E).nox (defBody sInit) t ∧ t { nx := fun _ H' => Q .non H', rt := Q } (start nInit [V.ref p, V.ref rt]) H by
    obtain ⟨t, h1, h2⟩ := hs
    exact ⟨t, h1.nox, h2⟩
  refine ⟨_, (pss_cons (ps_set (i := 2) scInit.nd rfl (Or.inl rfl) (pe_disp (pps_cons pe_str (pe_disp (pps_cons pe_str pe_bl pps_nil) (by rfl) (by rfl) (fun z => by cases z) (by decide)) (pps_cons pe_str (pe_disp (pps_cons pe_str pe_bl (pps_cons pe_str pe_bl pps_nil)) (by rfl) (by rfl) (fun z => by cases z) (by decide)) pps_nil)) (by rfl) (by rfl) (fun z => by cases z) (by decide)))
      (pss_cons (ps_for PassesOwn.never rfl (pi_enumT (by rfl) T.enumerate (pa_cons (pv 1) pa_nil)) (pg_tup rfl (pgs_cons (pg_name (i := 3) scInit.nd rfl (Or.inl rfl)) (pgs_cons (pg_name (i := 4) scInit.nd rfl (Or.inl rfl)) pgs_nil)))
      (pss_cons (ps_set (i := 5) scInit.nd rfl (Or.inl rfl) (pe_call GF hr2 (by rfl) FA.m FA.F.kp FA.b .nil pass0 (pa_cons (pv 4) (pa_cons (pv 3) (pa_cons (pv 2) pa_nil)))))
        (pss_cons (ps_if (pt_cmpR op_notN (pv 5) pe_non (nomark _))
        (pss_one (ps_never))
        pss_nil)
        (pss_one (ps_dput hu (pv 2) (pe_ix ix_tup (pv 4) pe_int (fun _ _ => rfl)) (pe_call GL hr0 (by rfl) LI.m LI.F.kp LI.b .nil pass0 (pa_cons (pv 4) (pa_cons (pv 2) pa_nil))) rfl)))))
      (pss_cons (ps_fld (pv 0) (pv 1) rfl)
      (pss_cons (ps_fld (pv 0) (pe_callTy call_tuple_of (by rfl) T.tuple (by decide +kernel) (pa_cons (pe_callTy (call_list_dK rfl) (by rfl) T.list (by decide +kernel) (pa_cons (pv 2) pa_nil)) pa_nil)) rfl)
      (pss_one (ps_fld (pv 0) (pv 2) rfl)))))), ?_⟩
  refine fun d hd d1 hd1 => ⟨upd_same, [((Sum.inr (Str.ofString "error") : Key), V.bl true)], rfl, (by show 1 ≤ 15; decide), fun d2 hd2 => ?_⟩
  rw [merge1, upd_upd] at hd2 ⊢
  refine ⟨upd_same, [((Sum.inr (Str.ofString "vacant") : Key), V.bl true), ((Sum.inr (Str.ofString "error") : Key), V.bl true)], rfl, (by show 2 ≤ 15; decide), ?_⟩
  rw [merge2', upd_upd]
  have n01 : d ≠ d1 := fun e => by rw [← e, upd_same] at hd1; cases hd1
  have n12 : d1 ≠ d2 := fun e => by rw [← e, upd_same] at hd2; cases hd2
  have n02 : d ≠ d2 := fun e => by rw [← e, upd_ne n01, upd_same] at hd2; cases hd2
  have hd1H : H d1 = none := by rw [upd_ne n01.symm] at hd1; exact hd1
  have hd2H : H d2 = none := by rw [upd_ne n12.symm, upd_ne n02.symm] at hd2; exact hd2
  refine ⟨by rw [upd_ne n02, upd_ne n01, upd_same], [((Sum.inr (Str.ofString "error") : Key), V.ref d1), ((Sum.inr (Str.ofString "vacant") : Key), V.ref d2)], rfl, (by show 2 ≤ 15; decide), ?_⟩
  rw [merge2]
  have facts : ∀ H0, H0 = upd (upd (upd (upd H d (.dK [])) d1 (.dK [((Sum.inr (Str.ofString "error") : Key), V.bl true)])) d2 (.dK [((Sum.inr (Str.ofString "vacant") : Key), V.bl true), ((Sum.inr (Str.ofString "error") : Key), V.bl true)])) d
      (.dK [((Sum.inr (Str.ofString "error") : Key), V.ref d1), ((Sum.inr (Str.ofString "vacant") : Key), V.ref d2)]) → Same H H0 ∧ H0 d = some (.dK [((Sum.inr (Str.ofString "error") : Key), V.ref d1), ((Sum.inr (Str.ofString "vacant") : Key), V.ref d2)]) ∧
      Tab fD H0 [((Sum.inr (Str.ofString "error") : Key), V.ref d1), ((Sum.inr (Str.ofString "vacant") : Key), V.ref d2)] t0 := fun H0 e => by
    subst e
    refine ⟨((((Same.refl H).put hd).put hd1H).put hd2H).put hd, upd_same, .cons ?_ (.cons ?_ .nil)⟩
    · rw [upd_ne n01.symm, upd_ne n12, upd_same]
      rfl
    · rw [upd_ne n02.symm, upd_same]
      rfl
  generalize hH0 : upd (upd (upd (upd H d (.dK [])) d1 (.dK [((Sum.inr (Str.ofString "error") : Key), V.bl true)])) d2 (.dK [((Sum.inr (Str.ofString "vacant") : Key), V.bl true), ((Sum.inr (Str.ofString "error") : Key), V.bl true)])) d
      (.dK [((Sum.inr (Str.ofString "error") : Key), V.ref d1), ((Sum.inr (Str.ofString "vacant") : Key), V.ref d2)]) = H0
  obtain ⟨sm0, hd0, T0⟩ := facts H0 hH0.symm
  have tl : (ts.map V.ref).length = rs.length := by rw [List.length_map, R.1]
  refine ⟨_, rfl, rt, _, rfl, sm0 rt _ ht, for_it (walk_enumT rt (ts.map V.ref)) (fun i σ Hc => ∃ (kvs : List (Key × V)) (v3 v4 v5 : Option V), σ = [some (.ref p), some (.ref rt), some (.ref d), v3, v4, v5] ∧ Hc d = some (.dK kvs) ∧ Tab fD Hc kvs (ups (rs.take i)) ∧ Same H Hc ∧ ∀ y a, (y, V.ref a) ∈ kvs → a ≠ d) ?_ ?_ ?_ ?_⟩
  · refine ⟨_, _, _, _, rfl, hd0, T0, sm0, fun y a hya => ?_⟩
    simp only [List.mem_cons, List.not_mem_nil, or_false, Prod.mk.injEq, V.ref.injEq] at hya
    rcases hya with ⟨_, rfl⟩ | ⟨_, rfl⟩
    · exact n01.symm
    · exact n02.symm
  · rintro i σ Hc _ ⟨kvs, v3, v4, v5, rfl, _, _, sm, _⟩
    exact sm rt _ ht
  · rintro i y σ Hc Hy hi ⟨kvs, v3, v4, v5, rfl, hD, TB, sm, hav⟩ ⟨T9, x, rfl, hT9, rfl, hx⟩
    rw [tl] at hi
    have hti : ts[i]? = some (ts[i]'(by rw [R.1]; exact hi)) := List.getElem?_eq_getElem _
    rw [List.getElem?_map, hti] at hx
    generalize ts[i]'(by rw [R.1]; exact hi) = t at hti hx
    cases hx
    have hri : rs[i]? = some rs[i] := List.getElem?_eq_getElem hi
    have htH := sm t _ (R.2 i t _ hti hri)
    have RO := g i _ hri
    have TO := tok_ups g i (Nat.le_of_lt hi)
    have hks := keys_ups_take rs i
    have hus := ups_succ hri
    have hkl := knownAt_len (Nat.le_of_lt hi)
    have hvw := g.vw_known i
    generalize rs[i] = r at hri htH RO hus
    rw [← hks] at RO hkl hvw
    generalize ups (rs.take i) = tb at TB TO hks hus RO hkl hvw
    have htl2 : tb.length = (keys tb).length := by simp [keys]
    have s9 : Same Hc (upd Hc T9 (.tup [V.int (i : Nat), V.ref t])) := (Same.refl Hc).put hT9
    refine ⟨T9, _, rfl, SqT.of upd_same, rfl, _, _, rfl, _, _, rfl, rfl, ?_⟩
    have TB9 : ∀ {H2 : Hp}, Same Hc H2 → Tab fD H2 kvs tb := fun s => TB.mono fun a us e => s a _ e
    refine ⟨_, rfl, _, rfl, _, rfl, t, d, i, r, kvs, tb, rfl, by omega, s9 t _ htH, s9 d _ hD, TB9 s9, TO, RO, fun x hx => hvw x (RO.sub x hx), by omega, fun H2 s2 => ?_⟩
    refine ⟨_, rfl, rfl, _, rfl, iteNS rfl ?_⟩
    have s92 := s9.trans s2
    refine ⟨_, rfl, _, rfl, t, d, r, kvs, tb, rfl, s92 t _ htH, s92 d _ hD, TB9 s92, TO, RO, by omega, fun m H3 hmf hm s3 => ?_⟩
    have s93 := s92.trans s3
    have hD3 := s93 d _ hD
    have ht3 := s93 t _ htH
    obtain ⟨x, bs⟩ := r
    unfold rowO at ht3
    refine ⟨_, rfl, _, rfl, t, _, _, _, rfl, rfl, SqT.of ht3, atI_nat (j := 0) rfl, d, _, rfl, DPut.k (k := Sum.inr x) hD3 ?_, ?_⟩
    · rw [TB.len, htl2]; show _ < 16777216; omega
    rw [putK_new _ (TB.none RO.new)]
    have hmd : m ≠ d := (ne_of_none (s92 d _ hD) hmf).symm
    refine ⟨_, _, _, _, rfl, upd_same, ?_, (sm.trans s93).put hd, fun y a hya => ?_⟩
    · rw [hus]
      refine Tab.snoc ((TB9 s93).monoM fun a us ⟨y, hy⟩ e => by rw [upd_ne (hav y a hy)]; exact e) ?_
      rw [upd_ne hmd]
      exact hm
    · rcases List.mem_append.mp hya with hya | hya
      · exact hav y a hya
      · simp only [List.mem_cons, List.not_mem_nil, or_false, Prod.mk.injEq, V.ref.injEq] at hya
        rw [hya.2]
        exact hmd
  · rintro σ Hc ⟨kvs, v3, v4, v5, rfl, hD, TB, sm, hav⟩
    rw [tl, List.take_length] at TB
    have hpc := sm p _ hp
    have hdp : d ≠ p := ne_of hD hpc (by intro z; cases z)
    refine ⟨_, rfl, _, rfl, p, C, dx, _, rfl, hpc, X.cl, X.nR, (by show 0 < 1000; decide), ?_⟩
    refine ⟨_, rfl, d, kvs, rfl, by rw [upd_ne hdp]; exact hD, fun q1 hq1 => ?_⟩
    refine ⟨q1, _, rfl, .inl ⟨SqL.of upd_same, fun q2 hq2 => ?_⟩⟩
    have np1 : p ≠ q1 := ne_of_none upd_same hq1
    have np2 : p ≠ q2 := ne_of_none ((upd_ne np1).trans upd_same) hq2
    have back : ∀ b o, Hc b = some o → b ≠ p → ∀ o1 o2 o3 o4, (upd (upd (upd (upd Hc p o1) q1 o2) q2 o3) p o4) b = some o := fun b o e n o1 o2 o3 o4 => by
      have e1 : (upd Hc p (.ins C dx (putF "rows" (V.ref rt) []))) b = some o := by rw [upd_ne n]; exact e
      have n1 : b ≠ q1 := ne_of_none e1 hq1
      have n2 : b ≠ q2 := by
        refine ne_of_none (o := o) ?_ hq2
        rw [upd_ne n1]
        exact e1
      rw [upd_ne n, upd_ne n2, upd_ne n1, upd_ne n]
      exact e
    refine ⟨_, rfl, p, C, dx, _, rfl, by rw [upd_ne np2, upd_ne np1, upd_same], X.cl, X.nN, (by show 1 < 1000; decide), ?_⟩
    refine ⟨_, rfl, _, rfl, p, C, dx, _, rfl, upd_same, X.cl, X.nL, ?_, ?_⟩
    · show (if ("rows" : Str) = "names" then _ else _ : List (Str × V)).length < 1000
      rw [if_neg k1_]
      show 2 < 1000
      decide
    rw [upd_upd]
    have nr : ∀ (a : Addr) (us : List V), Hc a = some (.tup us) → a ≠ p := fun a us e => ne_of e hpc (by intro z; cases z)
    refine k _ ⟨dx, rt, q2, d, kvs, ts, upd_same, back d _ hD hdp _ _ _ _, TB.mono fun a us e => back a _ e (ne_of e hpc (by unfold fD; intro z; cases z)) _ _ _ _, ?_, back rt _ (sm rt _ ht) (nr _ _ (sm rt _ ht)) _ _ _ _, R.mono fun b r e => back b _ (sm b _ e) (nr _ _ (sm b _ e)) _ _ _ _⟩ fun b o e n => back b o (sm b o e) n _ _ _ _
    rw [upd_ne np2.symm, upd_same, keys_vals TB]
end
end K2
end
section
set_option Elab.async false
set_option maxRecDepth 100000
set_option linter.all false
namespace K2
open PySem L2 PySem.Spec PyProof.Rows
section
variable {X : Cx} {CX : CXT} {k n i : Nat} {f C : Addr} {fd : FuncData} {ps ks : List Str} {sp : Sp} {E : XK} {m x : Str} {o e : Expr} {p q pos apos : Pos} {ta tk te : TA} {g : List Value → List Value → List Value} {gV : List V → List V → List V} {kws : List Keyword}
theorem run_fnK {pins : List (Addr × Obj)} {σ : L2.St} {H : Hp} {s : Shared} {Q : VK} {us ws : List Value} {vs zs : List V} (F : FnOk X.prog X.w X.K X.mg X.base CX k f fd ps sp) (hr : Room k X.A) (hb : KBn X.K fd ps n ks g gV) (hx : Passes CX X E) (I : Inv X pins σ H s)
    (r : Vals vs us) (rz : Vals zs ws) (l1 : us.length = n) (l2 : ws.length = ks.length) (h : sp (gV vs zs) H Q E) : wpAny (model X.prog X.w) X.A (call (.ref f) us (ks.zip ws)) (EP X pins σ Q) X.xe s := by
  refine wpAny_call (codeAny_mono (F.run X.A X.stack s H ⟨us, ks.zip ws⟩ (g us ws) (gV vs zs) Q E hr I.env0 (hb.to s us ws I.kIn l1 l2) (hb.rel r rz) h) fun y z hq => ?_)
  cases y with
  | error e => exact hx pins σ H s e z I hq
  | ok fl =>
    cases fl with
    | ret u => exact I.after hq
    | next => exact hq.elim
    | brk => exact hq.elim
    | cont => exact hq.elim
/-- o.m(k = v, ..) -/
def tMethK (C : Addr) (m : Str) (sp : Sp) (ks : List Str) (gV : List V → List V → List V) (E : XK) (to : TE) (tk : TA) : TE := fun σ H Q => to σ H fun x H1 => ∃ a dx fs, x = .ref a ∧ H1 a = some (.ins C dx fs) ∧ fs.lookup m = none ∧ tk σ H1 fun zs H2 => zs.length = ks.length ∧ sp (gV [x] zs) H2 Q E
theorem pe_methK {to : TE} {pl : Sem Bool} (he : PE X o to) (c : Cls X.K C) (hm : Meth X.K C m f) (F : FnOk X.prog X.w X.K X.mg X.base CX k f fd ps sp) (hr : Room k X.A) (hb : KBn X.K fd ps 1 ks g gV) (hx : Passes CX X E) (hkw : PK X kws tk)
    (hall : (backToKw pos (keywordEach kws X.env)).all (·.1.isSome) = true := by rfl) (hks : (backToKw pos (keywordEach kws X.env)).filterMap (·.1) = ks := by rfl) (hpl : ((backTo pos (starEach [] X.env)).any (·.1) || (backToKw pos (keywordEach kws X.env)).any (·.1.isNone)) = false := by rfl)
    (ht : eval (.Call (.Attribute o m apos) [] kws pos) X.env = (do
      let ov ← eval o X.env
      standAt apos.atName
      let (f, first) ← holding [ov] (getMethod ov m pl)
      callWith pos f first (backTo pos (starEach [] X.env)) (backToKw pos (keywordEach kws X.env))) := by rfl) : PE X (.Call (.Attribute o m apos) [] kws pos) (tMethK C m sp ks gV E to tk) := by
  refine ⟨fun pins s σ H Q I h => PySem.W.methodCall_KW (pl := pl) (thn (he.run pins s σ H _ I h) fun u s1 ⟨x, H1, I1, rx, a, dx, fs, ex, ea, l, q⟩ => ?_) ht⟩
  subst ex
  obtain rfl : u = Value.ref a := rx
  refine getmeth_ok I1 ea c hm l (PySem.W.callWith_KW0 (first := [.ref a]) (h₀ := X.base) I.ok.mod.kin hm.kp hall (thn (hkw.run pos pins s1 σ H1 _ I1 q) fun ws s2 ⟨zs, H2, I2, rz, l2, q2⟩ => ⟨I2.kIn, ?_⟩) hpl)
  rw [hks]
  exact run_fnK (us := [.ref a]) (vs := [.ref a]) F hr hb hx I2 (.cons rfl .nil) rz rfl (by rw [← l2, rz.length]) q2
/-- c(*y), c a name that holds a class -/
def tMakeL (i : Nat) (K : PySem.W.Frag) (C : Addr) (sp : Sp) (E : XK) (te : TE) : TE := fun σ H Q => σ[i]? = some (some (.ref C)) ∧ te σ H fun y H1 => ∃ a xs, y = .ref a ∧ (SqT K H1 a xs ∨ SqL K H1 a xs) ∧ ∀ x dx, H1 x = none → H1 dx = none → dx ≠ x →
  sp (V.ref x :: xs) (upd (upd H1 dx (.own x)) x (.ins C dx [])) (fun v H2 => v = .non ∧ Q (.ref x) H2) E
theorem pe_makeL {te : TE} (M : Mk X.K C f) (F : FnR X.prog X.w X.K X.mg X.base CX k f sp) (hr : Room (k + 1) X.A) (hN : X.N[i]? = some x) (hv : Vis X.env.scope x) (hx : Passes CX X E) (he : PE X e te) (hdb : (x == ("__debug__" : Str)) = false := by decide) (hcd : (x == ("__classdict__" : Str)) = false := by decide)
    (hst : starEach [.Starred e q] X.env = [(true, eval e X.env)] := by rfl) : PE X (.Call (.Name x p) [.Starred e q] [] pos) (tMakeL i X.K C sp E te) := by
  refine ⟨fun pins s σ H Q I ⟨hs, ht⟩ => wpAny_Call_Name_kw (thn ((pe_var (pos := p) hN hv hdb hcd).run pins s σ H (fun v H1 => v = .ref C ∧ H1 = H) I ⟨.ref C, hs, rfl, rfl⟩) fun u s1 ⟨v, H1, I1, r1, q1⟩ => ?_)⟩
  obtain ⟨rfl, rfl⟩ := q1
  cases r1
  refine PySem.W.callWith_S (h₀ := X.base) I.ok.mod.kin M.kp (thn (he.run pins s1 σ _ _ I1 ht) fun v s2 ⟨y, H2, I2, ry, a, xs, ey, hxs, h2⟩ => ?_) hst
  subst ey
  obtain rfl : v = Value.ref a := ry
  exact StX.star_any I2 hxs fun us s3 I3 rv => ⟨I3.kIn, StX.run_makeR M F hr hx I3 rv h2⟩
end
def spWithin (C : Addr) : Sp := fun vs H Q _ => ∃ (p : Addr) (x y : Str) (tb : Tb), vs = [.ref p, .str x, .str y] ∧ ClsAt C H p tb ∧ x ∈ keys tb ∧ Q (.bl (decide (y ∈ look tb x))) H
def spMade (C : Addr) : Sp := fun vs H Q _ => ∃ (l : Addr) (ts : List Addr) (rs : List Row), vs = [.ref C, .ref l] ∧ H l = some (.lst (ts.map V.ref)) ∧ RowsAt H ts rs ∧ Good rs ∧ rs.length ≤ 30 ∧ ∀ (p : Addr) (H' : Hp), ClsW C H' p rs → Same H H' → Q (.ref p) H'
section
variable {P : Program} {w : World} {K : PySem.W.Frag} {mg : Str → Option Value} {base : Heap}
theorem scWithin : FnScope ["self", "one", "other"] ["self", "one", "other"] (defScope sWithin) := ⟨rfl, rfl, rfl, by decide +kernel, rfl, by decide +kernel, by decide +kernel⟩
theorem ok_within {f C : Addr} {fd : FuncData} (F : Fun K "within" "Classes.within" sWithin f fd) (X : Txt K mg C) : FnOk P w K mg base CX0 1 f fd ["self", "one", "other"] (spWithin C) := by
  refine F.ok scWithin (fun vs H Q E h => ?_) (fun cdv A outer s H vs Q E hr h => ?_)
  · obtain ⟨p, x, y, tb, rfl, _⟩ := h
    rfl
  · obtain ⟨p, x, y, tb, rfl, ⟨dx, r, n, l, kvs, hp, hl, TB⟩, hx, k⟩ := h
    have hu := hu_of hr
    refine ⟨_, pss_one (ps_ret (pe_cmp (pc_din hu (pv 2) (pe_dget hu (pe_fld (pv 0) rfl) (pv 1) (fun _ _ => rfl))) rfl)), ?_⟩
    obtain ⟨a, ha1, ha2⟩ := TB.val hx
    refine ⟨_, rfl, _, rfl, p, C, dx, _, _, rfl, hp, X.cl, X.nL, flds_lines _ _ _, _, rfl, l, _, rfl, dget_s hl ha1, a, _, rfl, DGet.k (k := Sum.inr y) ha2, ?_⟩
    rw [dkeys_val]
    by_cases h : y ∈ look tb x
    · rw [if_pos h]
      rw [decide_eq_true h] at k
      exact k
    · rw [if_neg h]
      rw [decide_eq_false h] at k
      exact k
theorem scMade : FnScope ["cls", "rows"] ["cls", "rows"] (defScope sMade) := ⟨rfl, rfl, rfl, by decide +kernel, rfl, by decide +kernel, by decide +kernel⟩
theorem ok_made {f fI C : Addr} {fd : FuncData} (F : Fun K "made" "Classes.made" sMade f fd) (M : Mk K C fI)
    (GI : FnR P w K mg base CX0 4 fI (fun vs H Q E => ∃ ws rest, vs = ws ++ rest ∧ ws.length = 1 ∧ rest.length ≤ sizeLine ∧ ∀ p, H p = none → spInit C (ws ++ [V.ref p]) (upd H p (.tup rest)) Q E)) : FnOk P w K mg base CX0 6 f fd ["cls", "rows"] (spMade C) := by
  refine F.ok scMade (fun vs H Q E h => ?_) (fun cdv A outer s H vs Q E hr h => ?_)
  · obtain ⟨l, ts, rs, rfl, _⟩ := h
    rfl
  · obtain ⟨l, ts, rs, rfl, hl, R, g, h30, k⟩ := h
    refine ⟨_, pss_one (ps_ret (pe_makeL (i := 0) M GI hr rfl (Or.inl rfl) pass0 (pv 1))), ?_⟩
    refine ⟨rfl, _, rfl, l, _, rfl, .inr (SqL.of hl), fun x dx nx ndx ne => ⟨[V.ref x], _, rfl, rfl, ?_, fun pt hpt => ?_⟩⟩
    · rw [List.length_map, R.1]; show _ ≤ 16777216; omega
    have s1 : Same H (upd (upd H dx (.own x)) x (.ins C dx [])) := ((Same.refl H).put ndx).put nx
    have s2 : Same H (upd (upd (upd H dx (.own x)) x (.ins C dx [])) pt (.tup (ts.map V.ref))) := s1.put (s1.free hpt)
    refine ⟨x, dx, pt, ts, rs, rfl, by rw [upd_ne (ne_of_none upd_same hpt), upd_same], upd_same, R.mono fun b r e => s2 b _ e, g, h30, fun H' cl kp => ⟨rfl, k x H' cl fun b o e => kp b o (s2 b o e) (ne_of_none e nx)⟩⟩
end
end K2
end
section
set_option Elab.async false
set_option maxRecDepth 100000
set_option linter.all false
namespace K2
open PySem L2 PySem.Spec PyProof.Rows
/-- a def's promise where no repr runs around -/
structure FnG (P : Program) (w : World) (K : PySem.W.Frag) (mg : Str → Option Value) (base : Heap) (k : Nat) (f : Addr) (fd : FuncData) (ps : List Str) (sp : Sp) : Prop where
  len : ∀ vs H Q E, sp vs H Q E → vs.length = ps.length
  run : ∀ (A : Around) (outer : List Env) (s : Shared) (H : Hp) (args : Args) (us : List Value) (vs : List V) (Q : VK) (E : XK), Room k A → A.guards = some [] → Env0 P w K mg base A outer s H → BindsTo s fd args (ps.zip us) → Vals vs us → sp vs H Q E →
    codeAny (model P w) A (.call (.ref f) args) (CR CX0 outer P w H s Q E) s
section
variable {P : Program} {w : World} {K : PySem.W.Frag} {mg : Str → Option Value} {base : Heap}
theorem okG {x qual : Str} {st : Stmt} {f : Addr} {fd : FuncData} {N ps : List Str} {k : Nat} {sp : Sp} (F : Fun K x qual st f fd) (S : FnScope N ps (defScope st)) (len : ∀ vs H Q E, sp vs H Q E → vs.length = ps.length)
    (body : ∀ (cdv : Value) (A : Around) (outer : List Env) (s : Shared) (H : Hp) (vs : List V) (Q : VK) (E : XK), Room k (A.deeper (envOfC qual (defScope st) s.heap.objs.size f cdv)) → A.guards = some [] → sp vs H Q E →
      ∃ t, PSs (cxOf CX0 P w K mg base N qual (defScope st) f cdv A outer s H E).nox (defBody st) t ∧ t { nx := fun _ H' => Q .non H', rt := Q } (start N vs) H) : FnG P w K mg base (k + 1) f fd ps sp := by
  obtain ⟨oc, od, kV, doc, pm, an, cdv, ct, osl, rfl, lk, hcd⟩ := F.ex
  refine ⟨len, fun A outer s H args us vs Q E hr hg e0 hb rv hs => ?_⟩
  refine StX.run_bnd (G := fun xs H2 => xs = vs ∧ H2 = H) lk hcd S hr e0 (fun A' Ex Q' h => hb _ _ _ _ (h s H vs us e0 Un.refl rfl (fun _ _ z => z) rv (len _ _ _ _ hs) ⟨rfl, rfl⟩)) fun s2 H2 xs ⟨e1, e2⟩ hr2 => ?_
  subst e1 e2
  obtain ⟨t, h1, h2⟩ := body cdv A outer s2 _ _ Q E hr2 hg hs
  exact ⟨t, h1.nox, h2⟩
end
section
variable {X : Cx} {k : Nat} {f : Addr} {fd : FuncData} {ps : List Str} {sp : Sp} {x : Str} {e : Expr} {es : List Expr} {p pos : Pos} {t : TA}
theorem pe_callG (F : FnG X.prog X.w X.K X.mg X.base k f fd ps sp) (hr : Room k X.A) (gu : X.A.guards = some []) (hg : Gl X x) (hm : X.mg x = some (.ref f)) (hk : PySem.W.keepIn X.K (.ref f) = true) (hb : Binds X.K fd ps []) (ha : PA X (e :: es) t) (hdb : (x == ("__debug__" : Str)) = false := by decide)
    (he : starEach (e :: es) X.env = (false, eval e X.env) :: starEach es X.env := by rfl) (hpl : (backTo pos (starEach es X.env)).any (·.1) = false := by rfl) : PE X (.Call (.Name x p) (e :: es) [] pos) (fun σ H Q => t σ H fun vs H1 => sp vs H1 Q E0) := by
  refine ⟨fun pins s σ H Q I h => wpAny_Call_Name_kw (ld_glob I hg hm ?_ hdb)⟩
  refine PySem.W.callWith_K (h₀ := X.base) I.ok.mod.kin hk (thn (ha.run pos pins s σ H _ I h) fun us s1 ⟨vs, H1, I1, r, q⟩ => ⟨I1.kIn, ?_⟩) he hpl
  have l2 : us.length = ps.length := by rw [← r.length]; exact F.len _ _ _ _ q
  have hb2 := hb s1 us I1.kIn (by simpa using l2)
  rw [List.append_nil] at hb2
  refine wpAny_call (codeAny_mono (F.run X.A X.stack s1 H1 ⟨us, []⟩ us vs Q E0 hr gu I1.env0 hb2 r q) fun y z hq => ?_)
  cases y with
  | error e => exact hq.elim
  | ok fl =>
    cases fl with
    | ret u => exact I1.after hq
    | next => exact hq.elim
    | brk => exact hq.elim
    | cont => exact hq.elim
/-! repr of a list of bools -/
def boolsD (bs : List Bool) : PyData := .list (bs.map PyData.bool)
theorem bools_dp (K : PySem.W.Frag) (H : Hp) : ∀ bs : List Bool, DpAll K H (bs.map V.bl) (bs.map PyData.bool)
  | [] => .nil
  | b :: bs => .cons (.bl b) (bools_dp K H bs)
theorem bools_show : ∀ bs : List Bool, PyData.showableAll (bs.map PyData.bool) = true
  | [] => rfl
  | b :: bs => by
    show (true && PyData.showableAll (bs.map PyData.bool)) = true
    rw [bools_show bs]
    rfl
theorem bools_depth : ∀ bs : List Bool, PyData.depthAll (bs.map PyData.bool) = 0
  | [] => rfl
  | b :: bs => by
    show max 0 (PyData.depthAll (bs.map PyData.bool)) = 0
    rw [bools_depth bs]
    rfl
theorem bools_nodict : ∀ bs : List Bool, PyData.hasDictAll (bs.map PyData.bool) = false
  | [] => rfl
  | b :: bs => by
    show (false || PyData.hasDictAll (bs.map PyData.bool)) = false
    rw [bools_nodict bs]
    rfl
theorem bools_sum : ∀ bs : List Bool, ((PyData.shownAll (bs.map PyData.bool)).map (·.length)).sum ≤ 5 * bs.length ∧ (PyData.shownAll (bs.map PyData.bool)).length = bs.length
  | [] => ⟨Nat.le_refl _, rfl⟩
  | b :: bs => by
    obtain ⟨h1, h2⟩ := bools_sum bs
    have hb : (PyData.shown (.bool b)).length ≤ 5 := by cases b <;> decide +kernel
    refine ⟨?_, ?_⟩
    · show (PyData.shown (.bool b)).length + ((PyData.shownAll (bs.map PyData.bool)).map (·.length)).sum ≤ 5 * (bs.length + 1)
      omega
    · show (PyData.shownAll (bs.map PyData.bool)).length + 1 = bs.length + 1
      omega
theorem bools_size (bs : List Bool) (h : bs.length ≤ 1000) : (boolsD bs).shown.length ≤ sizeLine := by
  have h1 := listText_len_le (PyData.shownAll (bs.map PyData.bool))
  obtain ⟨h2, h3⟩ := bools_sum bs
  show (listText (PyData.shownAll (bs.map PyData.bool))).length ≤ 16777216
  omega
/-- repr(xs) of a list of bools: a text that hangs on the bools alone -/
def rReprB (K : PySem.W.Frag) : List V → Hp → VK → Prop := fun xs H Q => ∃ a bs, xs = [V.ref a] ∧ SqL K H a (bs.map V.bl) ∧ (boolsD bs).shown.length ≤ sizeLine ∧ Q (.str (boolsD bs).shown) H
theorem call_reprB (gu : X.A.guards = some []) (hu : X.A.units + 64 < cLine) : CallR X (.builtin "repr") (rReprB X.K) := by
  intro pins s σ H xs us Q I r h
  obtain ⟨a, bs, rfl, hs, hz, q⟩ := h
  obtain ⟨u, rfl, ru⟩ := r.one
  cases ru
  obtain ⟨as, rd⟩ := Dp.reads I (boolsD bs) (V.ref a) (Value.ref a) (.lst hs (bools_dp _ _ bs)) rfl
  have dp : (boolsD bs).depth = 1 := by
    show PyData.depthAll (bs.map PyData.bool) + 1 = 1
    rw [bools_depth]
  refine repr_of_reads' rd (bools_show bs) (fun z => by rw [show (boolsD bs).hasDict = false from bools_nodict bs] at z; cases z) gu (by rw [dp]; omega) (fun b o e => e) (fun h' u tk hk => ⟨.str _, H, I.kept (t' := tk) hk, ⟨u, rfl⟩, q⟩) hz
end
end K2
end
section
set_option Elab.async false
set_option maxRecDepth 100000
set_option linter.all false
namespace K2
open PySem PySem.Spec PyProof.Rows L2
/-! ### sets of texts that are walked -/
def sTxt (e : Int × Value) : Str := match e.2 with | .str k _ => k | _ => Str.empty
structure WkS (P : Program) (w : World) (D : Froz.SD) (l : List Str) : Prop where
  ok : Froz.TxOk P w D l
  tx : ∀ e ∈ D.1.toList, ∃ u, e.2 = .str (sTxt e) u
  pm : (D.1.toList.map sTxt).Perm l
  rs : Ris D.2.2.place.toList
  ld : w.params.followText "set-order" = true ∨ D.2.2.led = true
theorem addTx_is (h : Int) (v : Value) (D : Froz.SD) : (Froz.addTx h v D).1.toList.Perm (D.1.toList ++ [(h, v)]) ∧ (Ris D.2.2.place.toList → Ris (Froz.addTx h v D).2.2.place.toList) ∧ (Froz.addTx h v D).2.2.led = D.2.2.led := by
  obtain ⟨es, ep, t⟩ := D
  have p := layNew_perm t es h v
  have r := layNew_ris t es h v
  have l := layNew_led t es h v
  unfold Froz.addTx Froz.tailTx
  dsimp only
  generalize layNew t es h v = Z at p r l ⊢
  obtain ⟨e1, t1, wd, gv⟩ := Z
  dsimp only at p r l ⊢
  rw [Array.toList_push] at p
  have r2 : Ris t.place.toList → Ris (if t1.plain = true then { t1 with plain := false } else t1).place.toList := fun q => by split <;> exact r q
  have l2 : (if t1.plain = true then { t1 with plain := false } else t1).led = t.led := by split <;> exact l
  generalize (if t1.plain = true then { t1 with plain := false } else t1) = t2 at r2 l2 ⊢
  by_cases c : (!wd && t2.tooFull) = true
  · rw [if_pos c]
    exact ⟨(relayAll_perm t2 e1 _).trans p, fun _ => relayAll_ris t2 e1 _, (relayAll_led t2 e1 _).trans l2⟩
  · rw [if_neg c]
    exact ⟨p, r2, l2⟩
section
variable {P : Program} {w : World} {A : Around} {E : Value → Shared → Prop} {s : Shared}
theorem WkS.add {D : Froz.SD} {l : List Str} {k : Str} (u : Tok) (W : WkS P w D l) : WkS P w (Froz.addTx (hashStr w k) (.str k u) D) (k :: l) := by
  obtain ⟨p, r, d⟩ := addTx_is (hashStr w k) (.str k u) D
  refine ⟨Froz.add_ok u W.ok, fun e he => ?_, ?_, r W.rs, W.ld.imp id fun z => d.trans z⟩
  · rcases List.mem_append.mp (p.mem_iff.mp he) with q | q
    · exact W.tx e q
    · rw [List.mem_singleton.mp q]
      exact ⟨u, rfl⟩
  · have q := p.map sTxt
    rw [List.map_append] at q
    exact q.trans ((List.perm_append_singleton _ _).trans (W.pm.cons k))
theorem dup_x {a : Addr} {D : Froz.SD} {l : List Str} {k : Str} {u : Tok} {Q : Bool → Shared → Prop} (ho : s.heap.get? a = some (Froz.sObj "set" D)) (F : Froz.TxOk P w D l) (hk : k ∈ l) (hb : l.length < scanBound) (h : Q false s) :
    wpAny (model P w) A (setAddHashed a (.str k u) (hashStr w k)) Q E s := by
  obtain ⟨es, ep, t⟩ := D
  have fits : t.fits es.size = true := F.fit
  have el : ElemsOf (strKind P w) es.toList := F.el
  have few : es.size < scanBound := by
    have : es.size = l.length := F.sz
    omega
  have me : (strKind P w).is k (.str k u) = true := Froz.is_str k u
  obtain ⟨e0, m0, z0⟩ := (F.mem k).mp hk
  unfold setAddHashed setAddHashedIn
  refine wpAny_holding (wpAny_bind (wpAny_setState_of ho rfl fits ?_))
  dsimp only
  rw [byScan_of rfl few el]
  simp only [↓reduceIte]
  unfold setAddByScan
  refine wpAny_bind (wpAny_bind (wpAny_rule (wpAny_bind (wpAny_setScan_of (knd := strKind P w) (k := k) me ho rfl fits el ?_))))
  cases hf : List.findIdx? (fun e => (strKind P w).is k e.2) es.toList with
  | none =>
    have c := List.findIdx?_eq_none_iff.mp hf e0 m0
    rw [z0] at c
    cases c
  | some j => exact wpAny_pure (wpAny_pure h)
theorem fresh_led {a : Value} {Q : Value → Shared → Prop} (h : Q (.ref s.heap.objs.size) { s with heap := s.heap.push (Froz.sObj "set" (#[], 0, .fresh 0 0 (!w.params.followText "set-order"))) }) :
    codeAny (model P w) A (.call (.builtin "set.__new__") ⟨[.type "set", a], []⟩) (wants Q E) s := by
  refine codeAny_of_tree (wpAny_bind (wpAny_of_eq (F.newCall_set_1 a) (wpAny_pure ⟨plainId_quiet F.plain_set_new _, codeAny_builtin F.entry_set_new ?_⟩)))
  rw [Around.under_plainId F.plain_set_new _]
  unfold Builtin.«set.__new__» Builtin.Frozenset.newClass
  have sub := sub_set_self
  obtain ⟨hp, g, d, tk, os⟩ := s
  dsimp only
  wp_walk
  refine wpAny_askSetting (wpAny_pure ?_)
  dsimp only
  simp only [newObj]
  exact wpAny_bind (wpAny_alloc (wpAny_pure (wpAny_pure h)))
end
/-- at a stands a set of just the texts ys, at most n of them -/
def HasS (P : Program) (w : World) (h : Heap) (a : Addr) (ys : List Str) (n : Nat) : Prop := ∃ D l, h.get? a = some (Froz.sObj "set" D) ∧ WkS P w D l ∧ l.Nodup ∧ l.length ≤ n ∧ ∀ y, y ∈ l ↔ y ∈ ys
section
variable {p : Program} {w : World} {A : Around} {Z : Result → Shared → Prop} {it : Addr} {f g : List Addr} {Gs : Array GenState → Array GenState → Prop} {N : Nat} {Yv : Nat → Value → Prop} {Sv : Nat → Shared → Prop}
/-- a set that takes in texts, one after the other -/
theorem set_eats (Wk : WalksS p w A.in1 it f g Gs N Yv Sv) {a : Addr} (af : a ∉ f) {xs : List Str} (lx : xs.length = N) (few : N ≤ 1000) (val : ∀ j v, Yv j v → ∃ t, v = .str (xs.getD j Str.empty) t) :
    ∀ (m j : Nat) (s : Shared), N - j = m → j ≤ N → Sv j s → HasS p w s.heap a (xs.take j) j → (∀ z, Moved (a :: g) Gs s z → HasS p w z.heap a xs N → Z (.ok (.ret .none)) z) →
      codeAny (model p w) A (.builtin "set.update.loop" ⟨[.ref a, .ref it], []⟩) Z s := by
  have ag : a ∉ g := fun q => af (Wk.sub _ q)
  have wide : ∀ b ∈ g, b ∈ a :: g := fun b q => List.mem_cons_of_mem _ q
  have stays : ∀ {s z : Shared} {ys : List Str} {c : Nat}, Moved g Gs s z → HasS p w s.heap a ys c → HasS p w z.heap a ys c := fun mv q => by
    obtain ⟨D, l, ho, r⟩ := q
    exact ⟨D, l, mv.heap a _ ag ho, r⟩
  intro m
  induction m with
  | zero =>
    intro j s hm hj st se fin
    obtain rfl : j = N := by omega
    refine codeAny_builtin F.entry_set_update_loop (by
      rw [Around.under_plainId F.plain_set_update_loop _]
      refine wpAny_bind (Wk.done s _ _ st fun z mv => wpAny_pure (fin z (mv.mono wide) ?_))
      have q := stays mv se
      rwa [← lx, List.take_length, lx] at q)
  | succ m ih =>
    intro j s hm hj st se fin
    have jl : j < N := by omega
    have xj : xs[j]? = some (xs.getD j Str.empty) := by
      rw [List.getD_eq_getElem?_getD, List.getElem?_eq_getElem (by omega)]
      rfl
    have tk : xs.take (j + 1) = xs.take j ++ [xs.getD j Str.empty] := by rw [List.take_add_one, xj]; rfl
    refine codeAny_builtin F.entry_set_update_loop (by
      rw [Around.under_plainId F.plain_set_update_loop _]
      refine wpAny_bind (Wk.item j s _ _ jl st fun v z hv st2 mv => ?_)
      obtain ⟨t, rfl⟩ := val j v hv
      generalize xs.getD j Str.empty = x at xj tk
      obtain ⟨D, l, ho, wk, nd, le, me⟩ := stays mv se
      have go : ∀ (b : Bool) (h2 : Heap), (∀ b o, b ≠ a → z.heap.get? b = some o → h2.get? b = some o) → HasS p w h2 a (xs.take (j + 1)) (j + 1) →
          codeAny (model p w) A (.builtin "set.update.loop" ⟨[.ref a, .ref it], []⟩) Z { z with heap := h2, toks := z.toks + 1 } := fun b h2 kp hs =>
        ih (j + 1) _ (by omega) jl (Wk.frame _ z _ _ st2 (Nat.le_succ _) fun b hb o e => kp b o (fun q => af (q ▸ hb)) e) hs fun y mv2 se4 =>
          fin y (Moved.trans Wk.gtrans ((mv.mono wide).then_heap (Nat.le_succ _) fun b o hb e => kp b o (fun q => hb (q ▸ List.mem_cons_self)) e) mv2) se4
      refine wpAny_bind (wpAny_holding (by
        unfold setAdd
        refine wpAny_holding (wpAny_bind ((strKind p w).pyHash (k := x) (strKind_is _ _ _ _) ?_))
        by_cases hx : x ∈ l
        · refine dup_x (s := { z with toks := z.toks + 1 }) ho wk.ok hx (by unfold scanBound; omega) ?_
          refine wpAny_pure ⟨plainId_quiet F.plain_set_update_loop _, go false z.heap (fun _ _ _ e => e) ⟨D, l, ho, wk, nd, by omega, fun y => ?_⟩⟩
          rw [tk, List.mem_append, List.mem_singleton, ← me y]
          exact ⟨.inl, fun q => q.elim id fun e => e ▸ hx⟩
        · refine Froz.add_x (s := { z with toks := z.toks + 1 }) ho wk.ok hx (by unfold scanBound; omega) ?_
          refine wpAny_pure ⟨plainId_quiet F.plain_set_update_loop _, go true _ (fun b o hb e => (Heap.get?_update_other _ _ (Ne.symm hb)).trans e) ⟨_, x :: l, Froz.get_upd _ ho rfl, wk.add t, List.nodup_cons.mpr ⟨hx, nd⟩, by rw [List.length_cons]; omega, fun y => ?_⟩⟩
          rw [tk, List.mem_append, List.mem_singleton, ← me y, List.mem_cons]
          exact Or.comm)))
end
section
variable {p : Program} {w : World} {A : Around} {E : Value → Shared → Prop} {s : Shared}
set_option maxHeartbeats 3200000 in
/-- set(l) of a list of texts holds just these -/
theorem set_of_lst {l : Addr} {its : Array Value} {xs : List Str} {Q : Value → Shared → Prop} (hh : A.handled = none) (hl : s.heap.IsList l its) (hi : StrsAre its.toList xs) (few : xs.length ≤ 1000)
    (fin : ∀ (h' : Heap) (tk : Nat), HasS p w h' s.heap.objs.size xs xs.length → (∀ b o, b < s.heap.objs.size → s.heap.get? b = some o → h'.get? b = some o) → Q (.ref s.heap.objs.size) { s with heap := h', toks := tk }) :
    wpAny (model p w) A (call (.type "set") [.ref l]) Q E s := by
  have sz : its.size = xs.length := by rw [← Array.length_toList, StrsAre.len_eq hi]
  obtain ⟨c, tl, hmro⟩ := F.called_set.mro
  have m1 := F.called_set.made
  have m2 := F.called_set.sub
  refine wpAny_call (codeAny_of_tree (wpAny_pure ⟨Code.quiet_builtin _ (by decide +kernel), codeAny_builtin F.entry_type_call (by
    rw [Around.under_plain (weight_type_call_type "set" [.ref l] []) rfl]
    have m3 := F.called_set.notType
    have m4 := F.called_set.canCreate
    have m5 := F.typeCall_set_1 (.ref l)
    repeat (any_goals (first | assumption | wp_step))
    refine codeAny_mono (fresh_led (P := p) (w := w) (a := .ref l) (E := E) (Q := fun v z => v = .ref s.heap.objs.size ∧ z = { s with heap := s.heap.push (Froz.sObj "set" (#[], 0, .fresh 0 0 (!w.params.followText "set-order"))) }) ⟨rfl, rfl⟩) fun r z hr => ?_
    cases r with
    | error e => exact hr
    | ok fl =>
      cases fl with
      | next => exact hr.elim
      | brk => exact hr.elim
      | cont => exact hr.elim
      | ret v =>
        obtain ⟨rfl, rfl⟩ := hr
        generalize hled : (!w.params.followText "set-order") = led
        have hS : (s.heap.push (Froz.sObj "set" (#[], 0, .fresh 0 0 led))).get? s.heap.objs.size = some (Froz.sObj "set" (#[], 0, .fresh 0 0 led)) := Heap.get?_push_size _ rfl
        have hT : Shared.TypeIs { s with heap := s.heap.push (Froz.sObj "set" (#[], 0, .fresh 0 0 led)) } (.ref s.heap.objs.size) "set" := ⟨_, hS, rfl⟩
        have n1 := F.called_set.init.lookup
        have n2 := F.called_set.init.bind (.ref s.heap.objs.size)
        repeat (any_goals (first | assumption | wp_step))
        refine codeAny_mono (codeAny_call_builtin (R := wants (fun r z => r = .none ∧ ∃ h' tk, z = { s with heap := h', toks := tk } ∧ HasS p w h' s.heap.objs.size xs xs.length ∧ (∀ b o, b < s.heap.objs.size → s.heap.get? b = some o → h'.get? b = some o)) E) F.called_set.init.plain F.entry_set_init (check_set_init_1 hT ?_)) fun r2 z2 hr2 => ?_
        · obtain ⟨⟨tc, td, tdata, tsl⟩, ho, hc, tn, hd⟩ := hl
          simp only at hc hd
          subst hc hd
          have ho2 : (s.heap.push (Froz.sObj "set" (#[], 0, .fresh 0 0 led))).get? l = some { cls := .type "list", dict := td, data := .seq its tn, slots := tsl } := Heap.get?_push_of_some _ ho
          have q1 := F.sub_list_set
          have q2 := F.sub_list_frozenset
          have q3 : (Value.type "list" == Value.type "dict") = false := by decide
          have lis : (s.heap.push (Froz.sObj "set" (#[], 0, .fresh 0 0 led))).IsList l its := ⟨_, ho2, rfl, tn, rfl⟩
          have lS : l < s.heap.objs.size := Heap.lt_size ho
          have pz : (s.heap.push (Froz.sObj "set" (#[], 0, .fresh 0 0 led))).objs.size = s.heap.objs.size + 1 := Heap.size_push ..
          unfold Builtin.«set.__init__» noKeywords Builtin.Frozenset.updateFrom
          generalize hPI : pyIter = PI
          unfold Froz.sObj at *
          wp_walk
          subst hPI
          refine wpAny_pyIter_list lis (wpAny_bind (wpAny_runValue ?_))
          have hn3 : A.in1.in1.in1.handled = none := by simp [hh]
          have vals : ∀ (j : Nat) (v : Value), its[j]? = some v → ∃ t, v = .str (xs.getD j Str.empty) t := fun j v hv => SS.strs_at hi j v (by rw [Array.getElem?_toList]; exact hv)
          refine set_eats ((Walks.list hn3 _ l (by rw [Heap.size_push]; exact Nat.ne_of_lt (Nat.lt_succ_of_lt lS)) its).toS) (a := s.heap.objs.size) (by
            simp only [List.mem_cons, List.not_mem_nil, or_false, not_or]
            exact ⟨by rw [Heap.size_push]; exact (Nat.succ_ne_self _).symm, Nat.ne_of_gt lS⟩) sz.symm (by omega) vals (its.size - 0) 0 _ (by omega) (Nat.zero_le _) ⟨⟨_, Heap.get?_push_size _ rfl, rfl, rfl⟩, lis.push _⟩ ?_ ?_
          · refine ⟨(#[], 0, .fresh 0 0 led), [], Heap.get?_push_of_some _ hS, ⟨Froz.TxOk.nil rfl, fun e he => by simp at he, .nil, List.Pairwise.nil, ?_⟩, List.nodup_nil, Nat.zero_le _, fun y => by simp⟩
            show _ ∨ led = true
            rw [← hled]
            cases w.params.followText "set-order"
            · exact .inr rfl
            · exact .inl rfl
          · rintro ⟨h', g', d', tk', os'⟩ mv se
            obtain rfl : g' = s.gens := mv.gens
            obtain rfl : d' = s.drawn := mv.drawn
            obtain rfl : os' = s.os := mv.os
            refine wpAny_pure (wpAny_pure ⟨rfl, h', tk', rfl, by rw [← sz]; exact se, fun b o hb e => mv.heap b o ?_ (Heap.get?_push_of_some _ (Heap.get?_push_of_some _ e))⟩)
            simp only [List.mem_cons, List.not_mem_nil, or_false, not_or]
            exact ⟨Nat.ne_of_lt hb, by rw [Heap.size_push]; exact Nat.ne_of_lt (Nat.lt_succ_of_lt hb)⟩
        · cases r2 with
          | error e => exact hr2
          | ok f2 =>
            cases f2 with
            | next => exact hr2.elim
            | brk => exact hr2.elim
            | cont => exact hr2.elim
            | ret v =>
              obtain ⟨rfl, h', tk, rfl, se, kp⟩ := hr2
              repeat (any_goals (first | assumption | wp_step))
              exact fin _ _ se kp)⟩))
end
end K2
end
section
set_option Elab.async false
set_option maxRecDepth 100000
set_option linter.all false
namespace K2
open PySem PySem.Spec PyProof.Rows L2
section
variable {p : Program} {w : World} {A : Around} {E : Value → Shared → Prop} {s : Shared}
/-- sorted(a), a set of texts, fewer than 64 -/
theorem sorted_has {a : Addr} {xs : List Str} {n : Nat} {Q : Value → Shared → Prop} (S : HasS p w s.heap a xs n) (hh : A.handled = none) (h64 : n < 64)
    (fin : ∀ z q (out : Array Value) (c : Nat) (ys : List Str), (∀ b o, s.heap.get? b = some o → z.heap.get? b = some o) → z.gens = s.gens → z.os = s.os → s.heap.objs.size ≤ q →
      z.heap.get? q = some (seqObj "list" out c) → StrsAre out.toList ys → ys.Nodup → ys.length ≤ n → (∀ y, y ∈ ys ↔ y ∈ xs) → sortedS ys = true → Q (.ref q) z) :
    wpAny (model p w) A (call (.builtin "sorted") [.ref a]) Q E s := by
  obtain ⟨⟨es, ep, t⟩, l, ho, W, nd, le, me⟩ := S
  have few : es.size < scanBound := by
    have : es.size = l.length := W.ok.sz
    unfold scanBound
    omega
  refine Calls.call_function_entry kind_sorted plain_sorted entry_sorted (args_sorted1 _) (by
    unfold Builtin.«sorted»
    refine wpAny_bind (m := checkCount "sorted" 1 1 _) (wpAny_pure (wpAny_bind (collect_set (A := A.in1) hh ⟨_, ho, rfl, rfl⟩ W.ok.fit few W.rs W.ld fun z vs k1 hz g1 o1 pm => ?_)))
    have sv : StrsAre vs (vs.map strOf) := strsAre_map vs fun v hv => by
      obtain ⟨e, he, q⟩ := List.mem_map.mp (pm.mem_iff.mp hv)
      obtain ⟨u, hu⟩ := W.tx e he
      exact ⟨_, u, q.symm.trans hu⟩
    have pl : (vs.map strOf).Perm l := by
      have q := pm.map strOf
      rw [List.map_map] at q
      refine q.trans ((List.Perm.of_eq (List.map_congr_left fun e he => ?_)).trans W.pm)
      obtain ⟨u, hu⟩ := W.tx e he
      show strOf e.2 = sTxt e
      rw [hu]
      rfl
    have vl : vs.length = l.length := by rw [← pl.length_eq, List.length_map]
    refine wpAny_bind (wpAny_newList ?_ (by rw [vl, sizeLine_eq]; omega))
    have ol : (z.heap.push (seqObj "list" vs.toArray 0)).get? z.heap.objs.size = some (seqObj "list" vs.toArray 0) := Heap.get?_push_size _ rfl
    refine wpAny_bind (wpAny_holding (wpAny_call_entry slot_list_sort ⟨_, ol, rfl⟩ entry_list_sort (list_sort_treeKAny strKind_oneLt ol sv.keysOf (fun v1 v2 rest e => keyKind_strs (by rw [← e]; exact sv)) (by rw [vl, sizeLine_eq]; omega) fun st hp hs => ⟨_, rfl, ?_⟩) (args_list_sort _)))
    obtain ⟨ys, y1, y2, y3⟩ := sorted_out_str sv hp hs
    obtain ⟨c, hc⟩ := sortedHeap_at (vs := vs) (out := (arrOf st).map (·.2)) ol
    have py := y2.trans pl
    refine wpAny_pure ⟨_, rfl, fin _ z.heap.objs.size _ c ys (fun b u e => ?_) g1 o1 hz hc y1 (py.nodup_iff.mpr nd) (by rw [py.length_eq]; exact le) (fun y => (py.mem_iff).trans (me y)) y3⟩
    have lt := Heap.lt_size (k1 b u e)
    show (sortedHeap (z.heap.push (seqObj "list" vs.toArray 0)) z.heap.objs.size vs _).get? b = some u
    rw [sortedHeap_old (Nat.ne_of_lt lt) (by rw [size_push']; exact Nat.lt_succ_of_lt lt)]
    exact Heap.get?_push_of_some _ (k1 b u e))
end
end K2
end
section
set_option Elab.async false
set_option maxRecDepth 100000
set_option linter.all false
namespace K2
open PySem PySem.Spec PyProof.Rows L2
def tSortedSet (te : TE) : TE := fun σ H Q => te σ H fun x H1 => ∃ (l : Addr) (xs : List Str), x = .ref l ∧ H1 l = some (.lst (xs.map V.str)) ∧ xs.length < 64 ∧
  ∀ (ys : List Str) (q : Addr), ys.Nodup → ys.length ≤ xs.length → (∀ y, y ∈ ys ↔ y ∈ xs) → sortedS ys = true → H1 q = none → Q (.ref q) (upd H1 q (.lst (ys.map V.str)))
section
variable {X : Cx}
/-- sorted(set(l)), l a list of texts -/
theorem pe_sortedSet {a : Expr} {ta : TE} {p1 p2 p3 pos : Pos} (h1 : Gl X "sorted") (h2 : X.mg "sorted" = none) (h3 : Gl X "set") (h4 : X.mg "set" = none) (ha : PE X a ta) (hc : X.calm = true := by rfl)
    (na : starEach [a] X.env = (false, eval a X.env) :: starEach [] X.env := by rfl) (bs : bootBuiltins "sorted" = some (.builtin "sorted") := by decide +kernel) : PE X (.Call (.Name "sorted" p1) [.Call (.Name "set" p2) [a] [] p3] [] pos) (tSortedSet ta) := by
  refine ⟨fun pins s σ H Q I h => Call_ (ld_blt I h1 h2 bs (callWith_builtin1 (args_cons (Call_ (ld_blt I h3 h4 boot_set (callWith_type1 (args_cons (thn (ha.run pins s σ H _ I h) fun v s1 ⟨x, H1, I1, r1, q1⟩ => args_nil ?_) na) na rfl))) rfl) rfl rfl))⟩
  obtain ⟨l, xs, rfl, hl, few, q⟩ := q1
  cases r1
  obtain ⟨its, r, pl, _⟩ := I1.list (SqL.of hl)
  have hx : StrsAre its xs := by simpa using strsAre_of r
  refine set_of_lst (I1.ok.hd hc) pl.isList (by simpa using hx) (by omega) fun h' tk hS hk => args_nil ?_
  have I2 : Inv X pins σ H1 { s1 with heap := h', toks := tk } := I1.kept fun b o e => hk b o (Heap.lt_size e) e
  have hS2 : HasS X.prog X.w ({ s1 with heap := h', toks := tk } : Shared).heap s1.heap.objs.size xs xs.length := hS
  generalize ({ s1 with heap := h', toks := tk } : Shared) = s2 at I2 hS2 ⊢
  refine sorted_has hS2 (I1.ok.hd hc) few fun z p out c ys k g o hp hg hi nd le me so => ?_
  have hlen : (ys.map V.str).length ≤ sizeLine := by rw [List.length_map, sizeLine_eq]; omega
  have hn : H1 p = none := I2.hok.fresh hp
  have J : Inv X pins σ (upd H1 p (.lst (ys.map V.str))) { s2 with heap := z.heap, gens := z.gens, drawn := z.drawn, toks := z.toks } :=
    I2.call (ch := []) (Un.laid k hp hn) (I2.hok.laid k hp ⟨hlen, out.toList, c, vals_of_strs hi, hg⟩) (by rw [g]; exact I2.bare) (fun _ z => nomatch z)
  have e : z = { s2 with heap := z.heap, gens := z.gens, drawn := z.drawn, toks := z.toks } := by
    cases z
    cases s2
    cases o
    rfl
  rw [e]
  exact ⟨.ref p, _, J, rfl, q ys p nd le me so hn⟩
end
end K2
end
section
set_option Elab.async false
set_option maxRecDepth 100000
set_option linter.all false
namespace K2
open PySem L2
abbrev sKind : Stmt := inClass (top 12) 8
abbrev nKind : List Str := ["self", "names", "lowest", "x", "y"]
def scK1 : Scope := { kind := .function, names := [(Str.ofString ".0", .local), (Str.ofString "x", .cell), (Str.ofString "any", .globalImplicit), (Str.ofString "names", .cell), (Str.ofString "self", .cell)], isGenerator := false, isCoroutine := false }
/-- ys: the ascending ones of xs that no other one of xs is within -/
structure Least (tb : Tb) (xs ys : List Str) : Prop where
  nd : ys.Nodup
  so : PyProof.Rows.sortedS ys = true
  me : ∀ y, y ∈ ys ↔ y ∈ xs ∧ ∀ z ∈ xs, z ≠ y → y ∉ look tb z
def low (tb : Tb) (xs : List Str) (y : Str) : Bool := !(xs.map fun z => decide (z ≠ y) && decide (y ∈ look tb z)).any id
def spKind (C : Addr) : Sp := fun vs H Q _ => ∃ (p t : Addr) (xs : List Str) (tb : Tb), vs = [.ref p, .ref t] ∧ ClsAt C H p tb ∧ H t = some (.tup (xs.map V.str)) ∧ (∀ x ∈ xs, x ∈ keys tb) ∧ xs.length ≤ 40 ∧
  ∀ (ys : List Str) (r : Addr) (H' : Hp), Least tb xs ys → H r = none → H' r = some (.tup (ys.map V.str)) → Same H H' → Q (.ref r) H'
theorem ClsAt.same {C : Addr} {H H' : Hp} {p : Addr} {tb : Tb} (h : ClsAt C H p tb) (s : Same H H') : ClsAt C H' p tb := by
  obtain ⟨dx, r, n, l, kvs, h1, h2, h3⟩ := h
  exact ⟨dx, r, n, l, kvs, s _ _ h1, s _ _ h2, h3.mono fun a us e => s a _ e⟩
theorem ClsAt.ins {C : Addr} {H : Hp} {p : Addr} {tb : Tb} (h : ClsAt C H p tb) : ∃ dx fs, H p = some (.ins C dx fs) ∧ ∀ m : Str, ¬ m = "_lines" → ¬ m = "names" → ¬ m = "rows" → fs.lookup m = none := by
  obtain ⟨dx, r, n, l, kvs, h1, h2, h3⟩ := h
  exact ⟨dx, _, h1, fun m a b c => flds_no _ _ _ a b c⟩
theorem cr_anyK {X : Cx} {K' : PySem.W.Frag} (hK : X.K = K') (hc : X.calm = true) : CallR X (.builtin "any") (rAny K') := by
  subst hK
  exact cr_any hc
theorem pi_tupK {X : Cx} {K' : PySem.W.Frag} {tg l : Expr} {tl : TE} (hK : X.K = K') (hl : PE X l tl) : PI X tg l (iTup K' tl) := by
  subst hK
  exact pi_tup hl
theorem kind_bind (kV doc pm : Value) (an : Option Addr) (cdv ct : Value) : ∀ us rest : List Value, us.length = ["self"].length → bindArgs (PySem.W.fnOf "kind" "Classes.kind" (defArgs sKind) (defBody sKind) (defScope sKind) .none kV doc pm an cdv ct) ⟨us ++ rest, []⟩ = (newTuple rest >>= fun t => pure (([("self" : Str)]).zip us ++ [(("names" : Str), t)])) :=
  StX.bind_star1 (B := fun l => bindArgs (PySem.W.fnOf "kind" "Classes.kind" (defArgs sKind) (defBody sKind) (defScope sKind) .none kV doc pm an cdv ct) ⟨l, []⟩) (fun a => rfl) (fun a r rs => rfl)
section
variable {P : Program} {w : World} {K : PySem.W.Frag} {mg : Str → Option Value} {base : Heap}
theorem scKind : FnScope nKind ["self", "names"] (defScope sKind) := ⟨rfl, rfl, rfl, by decide +kernel, rfl, by decide +kernel, by decide +kernel⟩
theorem ok_kind {f C fW : Addr} {fd fdW : FuncData} (F : Fun K "kind" "Classes.kind" sKind f fd) (X : Txt K mg C) (T : Bi mg) (tAny : mg "any" = none) (tSo : mg "sorted" = none)
    (mW : Meth K C "within" fW) (GW : FnOk P w K mg base CX0 1 fW fdW ["self", "one", "other"] (spWithin C)) (bW : Binds K fdW ["self", "one", "other"] []) :
    FnR P w K mg base CX0 3 f (fun vs H Q E => ∃ ws rest, vs = ws ++ rest ∧ ws.length = 1 ∧ rest.length ≤ sizeLine ∧ ∀ p, H p = none → spKind C (ws ++ [V.ref p]) (upd H p (.tup rest)) Q E) := by
  obtain ⟨oc, od, kV, doc, pm, an, cdv, ct, osl, rfl, lk, hcd⟩ := F.ex
  refine StX.fn_star (ps := ["self"]) (pv := "names") lk hcd scKind StX.cxUp_none (kind_bind kV doc pm an cdv ct) fun A outer s H vs Q E hr h => ?_
  obtain ⟨p, tp, xs, tb, rfl, cl, ht, hk, h8, k⟩ := h
  have hr1 : Room 1 _ := hr.mono (by decide)
  have hu := hu_of hr
  suffices hs : ∃ t, PSs (cxOf CX0 P w K mg base nKind "Classes.kind" (defScope sKind) f cdv A outer s H E).nox (defBody sKind) t ∧ t { nx := fun _ H' => Q .non H', rt := Q } (start nKind [V.ref p, V.ref tp]) H by
    obtain ⟨t, h1, h2⟩ := hs
    exact ⟨t, h1.nox, h2⟩
  refine ⟨_, (pss_cons (ps_setLc (i := 2) (own := [("x", 3)]) (g := gName 3) rfl scKind.nd rfl rfl (sw_true rfl rfl rfl (by decide +kernel)) (pi_tup (pv 1)) (blkOk_by (N := nKind) (sc := defScope sKind) (by decide +kernel)) (fun _ _ _ _ _ => pg_name (i := 3) scKind.nd rfl (Or.inr rfl))
      (fun _ _ _ _ _ => pts_one (pt_not (pt_val (pe_callB (cr_anyK (K' := K) rfl rfl) (by rfl) tAny (by decide +kernel) (pa_cons
        (pe_lc (own := [("y", 4)]) (g := gName 4) (tt := tYes) rfl scKind.nd (pi_tupK (K' := K) rfl (pv 1)) (blkOk_by (N := nKind) (sc := scK1) (by decide +kernel)) (fun _ _ _ _ _ => pg_name (i := 4) scKind.nd rfl (Or.inl rfl)) (fun _ _ _ _ _ => pts_nil)
          (fun _ _ _ _ _ => pe_and (pe_cmpR op_ne (pv 4) (pv 3) (nomark _)) (pe_one (pe_meth (pv 0) X.cl mW GW hr1 bW .nil pass0 (pa_cons (pv 4) (pa_cons (pv 3) pa_nil)))))) pa_nil)))))
      (fun _ _ _ _ _ => pv 3))
    (pss_one (ps_ret (pe_callTy call_tuple_of (by rfl) T.tuple (by decide +kernel) (pa_cons (pe_sortedSet (by rfl) tSo (by rfl) T.set (pv 2)) pa_nil))))), ?_⟩
  refine ⟨_, rfl, tp, rfl, ⟨_, SqT.of ht⟩, fun D hD => ?_⟩
  obtain ⟨dx, fs, hp1, hp2⟩ := cl.ins
  have hp2 := hp2 "within" (by decide +kernel) (by decide +kernel) (by decide +kernel)
  refine lc_tup (K := K) (a := tp) (xs := xs.map V.str) (fun i Hc => Hc D = some (.lst (((xs.take i).filter (low tb xs)).map V.str)) ∧ Same H Hc) ?_ ?_ ?_ ?_
  · exact ⟨upd_same, (Same.refl H).put hD⟩
  · rintro i Hc _ ⟨_, sm⟩
    exact SqT.of (sm tp _ ht)
  · rintro i y Hc hy ⟨h1, sm⟩
    have hil : i < xs.length := by
      have := (List.getElem?_eq_some_iff.mp hy).1
      rwa [List.length_map] at this
    have hxi : xs[i]? = some xs[i] := List.getElem?_eq_getElem hil
    rw [List.getElem?_map, hxi] at hy
    have hxk := hk xs[i] (List.getElem_mem hil)
    generalize xs[i] = x at hxi hy hxk
    cases hy
    refine ⟨rfl, _, rfl, tp, rfl, ⟨_, SqT.of (sm tp _ ht)⟩, fun D2 hD2 => ?_⟩
    refine lc_tup (K := K) (a := tp) (xs := xs.map V.str) (fun j Hd => Hd D2 = some (.lst (((xs.take j).map fun z => decide (z ≠ x) && decide (x ∈ look tb z)).map V.bl)) ∧ Same Hc Hd) ?_ ?_ ?_ ?_
    · exact ⟨upd_same, (Same.refl Hc).put hD2⟩
    · rintro j Hd _ ⟨_, sd⟩
      exact SqT.of (sd tp _ (sm tp _ ht))
    · rintro j y Hd hy ⟨g1, sd⟩
      have hjl : j < xs.length := by
        have := (List.getElem?_eq_some_iff.mp hy).1
        rwa [List.length_map] at this
      have hzj : xs[j]? = some xs[j] := List.getElem?_eq_getElem hjl
      rw [List.getElem?_map, hzj] at hy
      have hzk := hk xs[j] (List.getElem_mem hjl)
      have et : xs.take (j + 1) = xs.take j ++ [xs[j]] := by rw [List.take_add_one, hzj]; rfl
      generalize xs[j] = z at hzj hy hzk et
      cases hy
      have fin : ∀ v : Bool, v = (decide (z ≠ x) && decide (x ∈ look tb z)) → (List.map V.bl (List.map (fun z => decide (z ≠ x) && decide (x ∈ look tb z)) (List.take j xs))).length < sizeLine ∧
          (upd Hd D2 (.lst (List.map V.bl (List.map (fun z => decide (z ≠ x) && decide (x ∈ look tb z)) (List.take j xs)) ++ [V.bl v]))) D2 = some (.lst (List.map V.bl (List.map (fun z => decide (z ≠ x) && decide (x ∈ look tb z)) (List.take (j + 1) xs)))) := fun v e => by
        refine ⟨?_, ?_⟩
        · rw [List.length_map, List.length_map, List.length_take]; show _ < 16777216; omega
        · rw [upd_same, et, List.map_append, List.map_append, e]
          rfl
      refine ⟨rfl, _, rfl, _, rfl, rfl, _, rfl, ?_⟩
      have s2 := sm.trans sd
      by_cases hzx : z = x
      · refine ite2 (fun h => ?_) (fun _ => ⟨_, g1, (fin false ?_).1, (fin false ?_).2, sd.put hD2⟩)
        · rw [hzx] at h
          simp at h
        · simp [hzx]
        · simp [hzx]
      · have hkx : ¬ V.str z = V.str x := fun e => hzx (V.str.inj e)
        refine ite2 (fun _ => ⟨_, rfl, p, dx, fs, rfl, s2 p _ hp1, hp2, _, rfl, _, rfl, p, z, x, tb, rfl, cl.same s2, hzk, _, g1, (fin (decide (x ∈ look tb z)) ?_).1, (fin (decide (x ∈ look tb z)) ?_).2, sd.put hD2⟩) (fun h => ?_)
        · simp [hzx]
        · simp [hzx]
        · exact absurd (by rw [decide_eq_false hkx]; rfl) h
    · rintro Hd ⟨g1, sd⟩
      rw [List.length_map, List.take_length] at g1
      have s2 := sm.trans sd
      refine ⟨D2, _, rfl, SqL.of g1, _, rfl, ?_⟩
      have h2 := sd D _ h1
      have et : xs.take (i + 1) = xs.take i ++ [x] := by rw [List.take_add_one, hxi]; rfl
      have fl : ((xs.take i).filter (low tb xs)).length ≤ xs.length := Nat.le_trans (List.length_filter_le _ _) (by rw [List.length_take]; omega)
      refine ite2 (fun h => ?_) (fun h => ?_)
      · have hl : low tb xs x = true := h
        refine ⟨_, rfl, _, h2, ?_, ?_, s2.put hD⟩
        · rw [List.length_map]; show _ < 16777216; omega
        · rw [upd_same, et, List.filter_append, List.filter_cons, if_pos hl, List.map_append]
          rfl
      · have hl : ¬ low tb xs x = true := h
        refine ⟨?_, s2⟩
        rw [et, List.filter_append, List.filter_cons, if_neg hl, List.filter_nil, List.append_nil]
        exact h2
  · rintro Hc ⟨h1, sm⟩
    rw [List.length_map, List.take_length] at h1
    have fl : (xs.filter (low tb xs)).length ≤ xs.length := List.length_filter_le _ _
    refine ⟨_, rfl, D, _, rfl, h1, by omega, fun ys q nd le me so hq => ?_⟩
    refine ⟨q, _, rfl, .inl ⟨SqL.of upd_same, fun r hr2 => ?_⟩⟩
    have s3 : Same H (upd (upd Hc q (.lst (ys.map V.str))) r (.tup (ys.map V.str))) := (sm.put (sm.free hq)).put ((sm.put (sm.free hq)).free hr2)
    refine k ys r _ ⟨nd, so, fun y => ?_⟩ ((sm.put (sm.free hq)).free hr2) upd_same s3
    rw [me, List.mem_filter]
    have : low tb xs y = true ↔ ∀ z ∈ xs, z ≠ y → y ∉ look tb z := by
      unfold low
      rw [Bool.not_eq_true', List.any_map, List.any_eq_false]
      constructor
      · intro h z hz ne hy
        have := h z hz
        simp [ne, hy] at this
      · intro h z hz
        simp only [Function.comp, id, Bool.and_eq_true, decide_eq_true_eq, not_and]
        exact fun ne => h z hz ne
    rw [this]
end
end K2
end
section
set_option Elab.async false
set_option maxRecDepth 100000
set_option linter.all false
namespace K2
open PySem L2
abbrev sMeets : Stmt := inClass (top 12) 10
abbrev nMeets : List Str := ["self", "kind", "names", "one", "other"]
def meet (tb : Tb) (ks ns : List Str) : Bool := ((ks.map fun k => ns.map fun n => decide (n ∈ look tb k)).flatten).any id
def spMeets (C : Addr) (L : Bool) : Sp := fun vs H Q _ => ∃ (p kt nt : Addr) (ks ns : List Str) (tb : Tb), vs = [.ref p, .ref kt, .ref nt] ∧ ClsAt C H p tb ∧ H kt = some (.tup (ks.map V.str)) ∧ H nt = some (if L then .lst (ns.map V.str) else .tup (ns.map V.str)) ∧
  (∀ x ∈ ks, x ∈ keys tb) ∧ ks.length ≤ 40 ∧ ns.length ≤ 40 ∧ ∀ H', Same H H' → Q (.bl (meet tb ks ns)) H'
section
variable {P : Program} {w : World} {K : PySem.W.Frag} {mg : Str → Option Value} {base : Heap}
theorem any_it {J : It} {n : Nat} {G : Hp → Prop} {Y : Nat → Hp → V → Hp → Prop} (w : Walk J n G Y) {B : (Hp → Prop) → V → Hp → Prop} {H0 : Hp} {Qd : Hp → Prop} (Pv : Nat → Hp → Prop) (h0 : Pv 0 H0) (hG : ∀ i H, i ≤ n → Pv i H → G H)
    (hs : ∀ i x H H', i < n → Pv i H → Y i H x H' → B (Pv (i + 1)) x H') (hd : ∀ H, Pv n H → Qd H) :
    ∃ W : Nat → Nat → Hp → Prop, (∃ m, W 0 m H0) ∧ ∀ i m H, W i m H → (J.stop i H ∧ Qd H) ∨ (J.go i H ∧ ∃ Nx : Hp → Prop, (∀ H', Nx H' → ∃ m', m' < m ∧ W (i + 1) m' H') ∧ ∀ x H', J.yld i H x H' → B Nx x H') := by
  refine ⟨fun i m H => m = n - i ∧ i ≤ n ∧ Pv i H, ⟨n, rfl, Nat.zero_le _, h0⟩, ?_⟩
  rintro i m H ⟨rfl, hi, p⟩
  by_cases lt : i < n
  · exact .inr ⟨w.goes i H lt (hG i H hi p), Pv (i + 1), fun H' p' => ⟨n - (i + 1), by omega, rfl, lt, p'⟩, fun x H' y => hs i x H H' lt p (w.yields i H x H' lt (hG i H hi p) y)⟩
  · obtain rfl : i = n := by omega
    exact .inl ⟨w.stops H (hG _ H hi p), hd H p⟩
theorem scMeets : FnScope nMeets ["self", "kind", "names"] (defScope sMeets) := ⟨rfl, rfl, rfl, by decide +kernel, rfl, by decide +kernel, by decide +kernel⟩
theorem pi_listK {X : Cx} {K' : PySem.W.Frag} {tg l : Expr} {tl : TE} (hK : X.K = K') (hl : PE X l tl) : PI X tg l (iList K' tl) := by
  subst hK
  exact pi_list hl
theorem meets_flat (tb : Tb) (ns : List Str) (k : Str) (ks : List Str) : ((ks ++ [k]).map fun k => ns.map fun n => decide (n ∈ look tb k)).flatten = (ks.map fun k => ns.map fun n => decide (n ∈ look tb k)).flatten ++ ns.map fun n => decide (n ∈ look tb k) := by
  rw [List.map_append, List.flatten_append]
  simp
theorem flat_len (tb : Tb) (ns : List Str) : ∀ ks : List Str, ((ks.map fun k => ns.map fun n => decide (n ∈ look tb k)).flatten).length = ks.length * ns.length
  | [] => by simp
  | k :: ks => by
    rw [List.map_cons, List.flatten_cons, List.length_append, flat_len tb ns ks, List.length_map, List.length_cons, Nat.add_mul, Nat.one_mul]
    omega
theorem ok_meets {f C fW : Addr} {fd fdW : FuncData} (L : Bool) (F : Fun K "meets" "Classes.meets" sMeets f fd) (X : Txt K mg C) (T : Bi mg) (tAny : mg "any" = none)
    (mW : Meth K C "within" fW) (GW : FnOk P w K mg base CX0 1 fW fdW ["self", "one", "other"] (spWithin C)) (bW : Binds K fdW ["self", "one", "other"] []) : FnOk P w K mg base CX0 3 f fd ["self", "kind", "names"] (spMeets C L) := by
  refine F.ok scMeets (fun vs H Q E h => ?_) (fun cdv A outer s H vs Q E hr h => ?_)
  · obtain ⟨p, kt, nt, ks, ns, tb, rfl, _⟩ := h
    rfl
  · obtain ⟨p, kt, nt, ks, ns, tb, rfl, cl, hkt, hnt, hk, k4, n4, k⟩ := h
    have hr1 : Room 1 _ := hr.mono (by decide)
    have hu := hu_of hr
    obtain ⟨J, G, wi1, hG, W, hwi, hPI⟩ : ∃ (J : It) (G : Hp → Prop) (wi1 : TI), (∀ H', Same H H' → G H') ∧ Walk J ns.length G (YAt (ns.map V.str)) ∧ (∀ (σ : L2.St) (H' : Hp) (R : It → Hp → Prop), σ[2]? = some (some (V.ref nt)) → Same H H' → R J H' → wi1 σ H' R) ∧
        (∀ (tg1 : Expr) (X' : Cx), X'.K = K → ∀ e, PE X' e (tVar 2) → PI X' tg1 e wi1) := by
      cases L with
      | true =>
        refine ⟨Itl K nt, fun H' => SqL K H' nt (ns.map V.str), iList K (tVar 2), fun H' s => SqL.of (s nt _ hnt), ?_, fun σ H' R e s r => ⟨_, e, nt, rfl, ⟨_, SqL.of (s nt _ hnt)⟩, r⟩, fun tg1 X' hK e he => pi_listK hK he⟩
        have := walk_list (K := K) (a := nt) (xs := ns.map V.str)
        rwa [List.length_map] at this
      | false =>
        refine ⟨Itt K nt, fun H' => SqT K H' nt (ns.map V.str), iTup K (tVar 2), fun H' s => SqT.of (s nt _ hnt), ?_, fun σ H' R e s r => ⟨_, e, nt, rfl, ⟨_, SqT.of (s nt _ hnt)⟩, r⟩, fun tg1 X' hK e he => pi_tupK hK he⟩
        have := walk_tup (K := K) (a := nt) (xs := ns.map V.str)
        rwa [List.length_map] at this
    refine ⟨_, pss_one (ps_ret (pe_callB (cr_any rfl) (by rfl) tAny (by decide +kernel) (pa_cons
      (pe_lc2 (own := [("one", 3), ("other", 4)]) (vs1 := [4]) (g := gName 3) (g1 := gName 4) (tt := tYes) (tt1 := tYes) rfl scMeets.nd (pi_tup (pv 1)) (blkOk_by (N := nMeets) (sc := defScope sMeets) (by decide +kernel)) (by decide +kernel)
        (fun _ _ _ _ _ => pg_name (i := 3) scMeets.nd rfl (Or.inl rfl)) (fun _ _ _ _ _ => pts_nil) (fun _ _ _ _ _ => hPI _ _ rfl _ (pv 2)) (fun _ _ _ _ _ => pg_name (i := 4) scMeets.nd rfl (Or.inl rfl)) (fun _ _ _ _ _ => pts_nil)
        (fun _ _ _ _ _ => pe_meth (pv 0) X.cl mW GW hr1 bW .nil pass0 (pa_cons (pv 3) (pa_cons (pv 4) pa_nil)))) pa_nil))), ?_⟩
    refine ⟨_, rfl, kt, rfl, ⟨_, SqT.of hkt⟩, fun D hD => ?_⟩
    have hsz : ks.length * ns.length ≤ 1600 := Nat.mul_le_mul k4 n4
    refine any_it (walk_tup (K := K) (a := kt) (xs := ks.map V.str)) (fun i Hc => Hc D = some (.lst ((((ks.take i).map fun k => ns.map fun n => decide (n ∈ look tb k)).flatten).map V.bl)) ∧ Same H Hc) ?_ ?_ ?_ ?_
    · exact ⟨upd_same, (Same.refl H).put hD⟩
    · rintro i Hc _ ⟨_, sm⟩
      exact SqT.of (sm kt _ hkt)
    · rintro i y Hc _ hi ⟨h1, sm⟩ ⟨rfl, hy⟩
      rw [List.length_map] at hi
      have hki : ks[i]? = some ks[i] := List.getElem?_eq_getElem hi
      rw [List.getElem?_map, hki] at hy
      have hkk := hk ks[i] (List.getElem_mem hi)
      have et : ks.take (i + 1) = ks.take i ++ [ks[i]] := by rw [List.take_add_one, hki]; rfl
      generalize ks[i] = q at hki hy hkk et
      cases hy
      refine ⟨rfl, hwi _ _ _ rfl sm ?_⟩
      have fl0 := flat_len tb ns (ks.take i)
      have fl1 : (ks.take i).length * ns.length + ns.length ≤ 1640 := by
        have : (ks.take i).length * ns.length ≤ ks.length * ns.length := Nat.mul_le_mul_right _ (by rw [List.length_take]; omega)
        omega
      generalize hpre : ((ks.take i).map fun k => ns.map fun n => decide (n ∈ look tb k)).flatten = pre at h1 fl0
      refine any_it W (fun j Hd => Hd D = some (.lst ((pre ++ (ns.take j).map fun n => decide (n ∈ look tb q)).map V.bl)) ∧ Same H Hd) ?_ ?_ ?_ ?_
      · refine ⟨?_, sm⟩
        simpa using h1
      · rintro j Hd _ ⟨_, sd⟩
        exact hG Hd sd
      · rintro j y Hd _ hj ⟨g1, sd⟩ ⟨rfl, hy⟩
        have hnj : ns[j]? = some ns[j] := List.getElem?_eq_getElem hj
        rw [List.getElem?_map, hnj] at hy
        have en : ns.take (j + 1) = ns.take j ++ [ns[j]] := by rw [List.take_add_one, hnj]; rfl
        generalize ns[j] = z at hnj hy en
        cases hy
        obtain ⟨dx, fs, hp1, hp2⟩ := (cl.same sd).ins
        refine ⟨rfl, _, rfl, p, dx, fs, rfl, hp1, hp2 "within" (by decide +kernel) (by decide +kernel) (by decide +kernel), _, rfl, _, rfl, p, q, z, tb, rfl, cl.same sd, hkk, _, g1, ?_, ?_, sd.put hD⟩
        · rw [List.length_map, List.length_append, List.length_map, List.length_take]; show _ < 16777216; omega
        · rw [upd_same, en, List.map_append, List.map_append, List.map_append, List.map_append, List.append_assoc]
          rfl
      · rintro Hd ⟨g1, sd⟩
        rw [List.take_length] at g1
        refine ⟨?_, sd⟩
        rw [et, meets_flat, hpre]
        exact g1
    · rintro Hc ⟨h1, sm⟩
      rw [List.length_map, List.take_length] at h1
      exact ⟨D, _, rfl, SqL.of h1, k Hc sm⟩
end
end K2
end
section
set_option Elab.async false
set_option maxRecDepth 100000
set_option linter.all false
namespace K2
open PySem L2 PySem.Spec PyProof.Rows
abbrev sKO : Stmt := inClass (top 12) 11
abbrev nKO : List Str := ["self", "name", "among", "around", "other"]
def spKindR (C : Addr) : Sp := fun vs H Q E => ∃ ws rest, vs = ws ++ rest ∧ ws.length = 1 ∧ rest.length ≤ sizeLine ∧ ∀ p, H p = none → spKind C (ws ++ [V.ref p]) (upd H p (.tup rest)) Q E
theorem kindR {C p : Addr} {xs : List Str} {tb : Tb} {H : Hp} {Q : VK} {E : XK} (cl : ClsAt C H p tb) (hk : ∀ x ∈ xs, x ∈ keys tb) (h40 : xs.length ≤ 40)
    (k : ∀ (ys : List Str) (r : Addr) (H' : Hp), Least tb xs ys → H r = none → H' r = some (.tup (ys.map V.str)) → Same H H' → Q (.ref r) H') : spKindR C (V.ref p :: xs.map V.str) H Q E := by
  refine ⟨[V.ref p], _, rfl, rfl, by rw [List.length_map]; show _ ≤ 16777216; omega, fun q hq => ?_⟩
  have s1 : Same H (upd H q (.tup (xs.map V.str))) := (Same.refl H).put hq
  refine ⟨p, q, xs, tb, rfl, cl.same s1, upd_same, hk, h40, fun ys r H' L hr h2 s2 => k ys r H' L ?_ h2 (s1.trans s2)⟩
  exact s1.free hr
/-- o.m(*e), e a list or a tuple -/
def tMethSL (K : PySem.W.Frag) (C : Addr) (m : Str) (g : Addr) (sp : Sp) (E : XK) (to te : TE) : TE := fun σ H Q => to σ H fun x H1 => ∃ a dx fs, x = .ref a ∧ H1 a = some (.ins C dx fs) ∧ fs.lookup m = none ∧
  ∀ q, H1 q = none → te σ (upd H1 q (.met g a)) fun y H2 => ∃ b zs, y = .ref b ∧ (SqT K H2 b zs ∨ SqL K H2 b zs) ∧ H2 q = some (.met g a) ∧ sp (.ref a :: zs) H2 Q E
section
variable {X : Cx} {CX : CXT} {k : Nat} {g C : Addr} {sp : Sp} {E : XK} {m : Str} {o e : Expr} {p apos pos : Pos} {to te : TE}
theorem pe_methSL (ho : PE X o to) (c : Cls X.K C) (b : BMeth X.K C m g) (F : FnR X.prog X.w X.K X.mg X.base CX k g sp) (hr : Room k X.A) (hx : Passes CX X E) (he : PE X e te)
    (hb : attributeBase o m X.env (eval o X.env) = eval o X.env := by rfl) : PE X (.Call (.Attribute o m apos) [.Starred e p] [] pos) (tMethSL X.K C m g sp E to te) := by
  constructor
  intro pins s σ H Q I h
  refine starcall_of hb (thn (ho.run pins s σ H _ I h) fun u s1 ⟨x, H1, I1, rx, a, dx, fs, ex, ea, l, q⟩ => ?_)
  cases ex
  obtain rfl : u = Value.ref a := rx
  refine getbound_ok I1 ea c b l fun q1 s2 n1 I2 => PySem.W.ks_call (P := PySem.W.MethP X.K q1 g (.ref a)) rfl (PySem.W.keeps_M b.fi) (PySem.W.ks_lone ?_)
  refine thn (he.run pins s2 σ _ _ I2 (q q1 n1)) fun v s3 ⟨y, H2, I3, ry, t, zs, ey, ht, hm, hsp⟩ => ?_
  cases ey
  obtain rfl : v = Value.ref t := ry
  refine StX.star_any I3 ht fun us s4 I4 rv => ⟨met_P I4 hm, wpAny_call ?_⟩
  exact PySem.W.method_call (met_P I4 hm).1 (run_fnR (us := Value.ref a :: us) (vs := V.ref a :: zs) F hr hx I4 (.cons rfl rv) hsp)
end
theorem ClsW.same {C p : Addr} {H H' : Hp} {rs : List Row} (h : ClsW C H p rs) (s : Same H H') : ClsW C H' p rs := by
  obtain ⟨dx, r, n, l, kvs, ts, h1, h2, h3, h4, h5, h6⟩ := h
  exact ⟨dx, r, n, l, kvs, ts, s _ _ h1, s _ _ h2, h3.mono fun a us e => s a _ e, s _ _ h4, s _ _ h5, h6.mono fun b r e => s b _ e⟩
/-- name of these classes, seen by among -/
def spKO (C : Addr) : Sp := fun vs H Q _ => ∃ (p q : Addr) (x : Str) (tb : Tb) (rs : List Row), vs = [.ref p, .str x, .ref q] ∧ ClsAt C H p tb ∧ ClsW C H q rs ∧ x ∈ keys tb ∧ (keys (ups rs)).length ≤ 40 ∧
  ∀ (ys : List Str) (r : Addr) (H' : Hp), Least (ups rs) ((keys (ups rs)).filter fun y => decide (y ∈ look tb x)) ys → H r = none → H' r = some (.tup (ys.map V.str)) → Same H H' → Q (.ref r) H'
section
variable {P : Program} {w : World} {K : PySem.W.Frag} {mg : Str → Option Value} {base : Heap}
theorem scKO : FnScope nKO ["self", "name", "among"] (defScope sKO) := ⟨rfl, rfl, rfl, by decide +kernel, rfl, by decide +kernel, by decide +kernel⟩
theorem ok_ko {f C fW fK : Addr} {fd fdW : FuncData} (F : Fun K "kind_of" "Classes.kind_of" sKO f fd) (Y : Txt K mg C)
    (mW : Meth K C "within" fW) (GW : FnOk P w K mg base CX0 1 fW fdW ["self", "one", "other"] (spWithin C)) (bW : Binds K fdW ["self", "one", "other"] []) (mK : BMeth K C "kind" fK) (GK : FnR P w K mg base CX0 3 fK (spKindR C)) :
    FnOk P w K mg base CX0 4 f fd ["self", "name", "among"] (spKO C) := by
  refine F.ok scKO (fun vs H Q E h => ?_) (fun cdv A outer s H vs Q E hr h => ?_)
  · obtain ⟨p, q, x, tb, rs, rfl, _⟩ := h
    rfl
  · obtain ⟨p, q, x, tb, rs, rfl, cl, cw, hx, h40, k⟩ := h
    have hr3 : Room 3 _ := hr
    have hr1 : Room 1 _ := hr.mono (by decide)
    have hu := hu_of hr
    refine ⟨_, (pss_cons (ps_setLc (i := 3) (own := [("other", 4)]) (g := gName 4)  rfl scKO.nd rfl rfl (sw_true rfl rfl rfl (by decide +kernel)) (pi_tup (pe_fld (pv 2) rfl)) (blkOk_by (N := nKO) (sc := defScope sKO) (by decide +kernel)) (fun _ _ _ _ _ => pg_name (i := 4) scKO.nd rfl (Or.inl rfl)) (fun _ _ _ _ _ => pts_one (pt_val (pe_meth (pv 0) Y.cl mW GW hr1 bW .nil pass0 (pa_cons (pv 1) (pa_cons (pv 4) pa_nil))))) (fun _ _ _ _ _ => pv 4))
      (pss_one (ps_ret (pe_methSL (pv 2) Y.cl mK GK hr3 pass0 (pv 3))))), ?_⟩
    have cw0 := cw
    obtain ⟨dx, r, n, l, kvs, ts, h1, h2, h3, h4, h5, h6⟩ := cw
    refine ⟨_, rfl, q, C, dx, _, _, rfl, h1, Y.cl, Y.nN, flds_names _ _ _, n, rfl, ⟨_, SqT.of h4⟩, fun D hD => ?_⟩
    obtain ⟨dxp, fsp, hp1, hp2⟩ := cl.ins
    have hp2 := hp2 "within" (by decide +kernel) (by decide +kernel) (by decide +kernel)
    clear h3 h5 h6
    generalize hnm : keys (ups rs) = nm at h4 h40 k
    refine lc_tup (K := K) (a := n) (xs := nm.map V.str) (fun i Hc => Hc D = some (.lst (((nm.take i).filter fun y => decide (y ∈ look tb x)).map V.str)) ∧ Same H Hc) ?_ ?_ ?_ ?_
    · exact ⟨upd_same, (Same.refl H).put hD⟩
    · rintro i Hc _ ⟨_, sm⟩
      exact SqT.of (sm n _ h4)
    · rintro i y Hc hy ⟨g1, sm⟩
      have hil : i < nm.length := by
        have := (List.getElem?_eq_some_iff.mp hy).1
        rwa [List.length_map] at this
      have hzi : nm[i]? = some nm[i] := List.getElem?_eq_getElem hil
      rw [List.getElem?_map, hzi] at hy
      have et : nm.take (i + 1) = nm.take i ++ [nm[i]] := by rw [List.take_add_one, hzi]; rfl
      generalize nm[i] = z at hzi hy et
      cases hy
      have fl : ((nm.take i).filter fun y => decide (y ∈ look tb x)).length ≤ nm.length := Nat.le_trans (List.length_filter_le _ _) (by rw [List.length_take]; omega)
      refine ⟨rfl, _, rfl, p, dxp, fsp, rfl, sm p _ hp1, hp2, _, rfl, _, rfl, p, x, z, tb, rfl, cl.same sm, hx, _, rfl, ite2 (fun h => ⟨_, rfl, _, g1, ?_, ?_, sm.put hD⟩) (fun h => ⟨?_, sm⟩)⟩
      · rw [List.length_map]; show _ < 16777216; omega
      · rw [upd_same, et, List.filter_append, List.filter_cons, if_pos h, List.map_append]
        rfl
      · rw [et, List.filter_append, List.filter_cons, if_neg h, List.filter_nil, List.append_nil]
        exact g1
    · rintro Hc ⟨g1, sm⟩
      rw [List.length_map, List.take_length] at g1
      have fl : (nm.filter fun y => decide (y ∈ look tb x)).length ≤ nm.length := List.length_filter_le _ _
      refine ⟨_, rfl, q, dx, _, rfl, sm q _ h1, flds_no r n l (by decide +kernel) (by decide +kernel) (by decide +kernel), fun mq hmq => ⟨_, rfl, D, _, rfl, .inr (SqL.of (by rw [upd_ne (ne_of_none g1 hmq)]; exact g1)), upd_same, ?_⟩⟩
      have s1 : Same H (upd Hc mq (.met fK q)) := sm.put (sm.free hmq)
      refine kindR ((cw0.same s1).at) (fun y hy => ?_) (by omega) fun ys r' H' L hr' h2' s2 => k ys r' H' L (s1.free hr') h2' (s1.trans s2)
      rw [hnm]
      exact (List.mem_filter.mp hy).1
end
end K2
end
section
set_option Elab.async false
set_option maxRecDepth 100000
set_option linter.all false
namespace K2
open PySem L2
abbrev sLeast : Stmt := top 26
abbrev nLeast : List Str := ["_law_uppers_here", "_law_some", "_law_found", "_law_one", "_law_two"]
theorem strs_dp (K : PySem.W.Frag) (H : Hp) : ∀ xs : List Str, DpAll K H (xs.map V.str) (xs.map PyData.str)
  | [] => .nil
  | x :: xs => .cons (.str x) (strs_dp K H xs)
def sOk (x : Str) : Bool := x.cps.all (· < 0x110000)
theorem strs_lay : ∀ xs : List Str, (∀ x ∈ xs, sOk x = true) → PyData.canLayAll0 (xs.map PyData.str) = true
  | [], _ => rfl
  | x :: xs, h => by
    show (sOk x && PyData.canLayAll0 (xs.map PyData.str)) = true
    rw [strs_lay xs fun y hy => h y (List.mem_cons_of_mem _ hy), h x List.mem_cons_self]
    rfl
theorem strs_depth : ∀ xs : List Str, PyData.depthAll (xs.map PyData.str) = 0
  | [] => rfl
  | x :: xs => by
    show max 0 (PyData.depthAll (xs.map PyData.str)) = 0
    rw [strs_depth xs]
    rfl
theorem strs_shaped (xs : List Str) (h : ∀ x ∈ xs, sOk x = true) : SeqAt.shaped (.list (xs.map PyData.str)) = true := by
  show (PyData.canLayAll0 (xs.map PyData.str) && decide (PyData.depthAll (xs.map PyData.str) + 1 ≤ 64)) = true
  rw [strs_lay xs h, strs_depth]
  rfl
theorem strs_eqv0 (xs : List Str) : PyData.eqv (.list (xs.map PyData.str)) (.list []) = decide (xs = []) := by
  cases xs with
  | nil => rfl
  | cons x xs => rfl
theorem rising_pw : ∀ (p : Str) (l : List Str), PyProof.Rows.risingS p l = true → (p :: l).Pairwise (fun a b => PySem.Spec.ltCps b.cps.toList a.cps.toList = false)
  | p, [], _ => List.pairwise_singleton _ _
  | p, x :: r, h => by
    have h2 := Bool.and_eq_true_iff.mp (show (!PySem.Spec.ltCps x.cps.toList p.cps.toList && PyProof.Rows.risingS x r) = true from h)
    have ih := rising_pw x r h2.2
    have h1 : PySem.Spec.ltCps x.cps.toList p.cps.toList = false := by simpa using h2.1
    refine List.pairwise_cons.mpr ⟨fun y hy => ?_, ih⟩
    rcases List.mem_cons.mp hy with rfl | hy
    · exact h1
    · have h3 := (List.pairwise_cons.mp ih).1 y hy
      rw [PyProof.Rows.ltCps_eq, decide_eq_false_iff_not] at h1 h3 ⊢
      exact List.le_trans (α := Nat) (l₁ := p.cps.toList) (l₂ := x.cps.toList) (l₃ := y.cps.toList) h1 h3
theorem sorted_pw : ∀ l : List Str, PyProof.Rows.sortedS l = true → l.Pairwise (fun a b => PySem.Spec.ltCps b.cps.toList a.cps.toList = false)
  | [], _ => .nil
  | x :: r, h => rising_pw x r h
theorem sorted_sub {l l' : List Str} (h : PyProof.Rows.sortedS l' = true) (s : l.Sublist l') : PyProof.Rows.sortedS l = true := PyProof.Rows.sortedS_of_pairwise l ((sorted_pw l' h).sublist s)
/-- ascending lists of the same unlike texts are one -/
theorem sorted_one : ∀ {l l' : List Str}, l.Nodup → l'.Nodup → PyProof.Rows.sortedS l = true → PyProof.Rows.sortedS l' = true → (∀ y, y ∈ l ↔ y ∈ l') → l = l' := by
  have anti : ∀ {a b : Str}, PySem.Spec.ltCps a.cps.toList b.cps.toList = false → PySem.Spec.ltCps b.cps.toList a.cps.toList = false → a = b := fun {a b} h1 h2 => by
    rw [PyProof.Rows.ltCps_eq, decide_eq_false_iff_not] at h1 h2
    have e : a.cps.toList = b.cps.toList := List.le_antisymm (α := Nat) h2 h1
    have e2 : a.cps = b.cps := Array.toList_inj.mp e
    cases a
    cases b
    cases e2
    rfl
  intro l
  induction l with
  | nil =>
    intro l' _ _ _ _ h
    cases l' with
    | nil => rfl
    | cons y r => exact absurd ((h y).mpr List.mem_cons_self) (by simp)
  | cons x l ih =>
    intro l' n1 n2 s1 s2 h
    cases l' with
    | nil => exact absurd ((h x).mp List.mem_cons_self) (by simp)
    | cons y r =>
      have p1 := List.pairwise_cons.mp (sorted_pw _ s1)
      have p2 := List.pairwise_cons.mp (sorted_pw _ s2)
      have e : x = y := by
        rcases List.mem_cons.mp ((h x).mp List.mem_cons_self) with q | q
        · exact q
        · rcases List.mem_cons.mp ((h y).mpr List.mem_cons_self) with q2 | q2
          · exact q2.symm
          · exact anti (p2.1 x q) (p1.1 y q2)
      subst e
      have m1 := List.nodup_cons.mp n1
      have m2 := List.nodup_cons.mp n2
      rw [ih m1.2 m2.2 (sorted_sub s1 (List.sublist_cons_self _ _)) (sorted_sub s2 (List.sublist_cons_self _ _)) fun z => ?_]
      constructor
      · intro hz
        rcases List.mem_cons.mp ((h z).mp (List.mem_cons_of_mem _ hz)) with q | q
        · exact absurd (q ▸ hz) m1.1
        · exact q
      · intro hz
        rcases List.mem_cons.mp ((h z).mpr (List.mem_cons_of_mem _ hz)) with q | q
        · exact absurd (q ▸ hz) m2.1
        · exact q
theorem Least.one {tb : Tb} {xs xs' ys ys' : List Str} (h : Least tb xs ys) (h' : Least tb xs' ys') (e : ∀ y, y ∈ xs ↔ y ∈ xs') : ys = ys' :=
  sorted_one h.nd h'.nd h.so h'.so fun y => by
    rw [h.me, h'.me, e y]
    exact and_congr_right fun _ => ⟨fun q z hz => q z ((e z).mpr hz), fun q z hz => q z ((e z).mp hz)⟩
def above (tb : Tb) (xs : List Str) (y : Str) : List Str := xs.filter fun z => decide (z ≠ y) && decide (y ∈ look tb z)
def lowB (tb : Tb) (xs : List Str) (y : Str) : Bool := decide (above tb xs y = [])
/-- a dict of the heap, locked or not -/
def DL (H : Hp) (d : Addr) (kvs : List (Key × V)) : Prop := H d = some (.dK kvs) ∨ ∃ od, H d = some (.frz od (.dK kvs))
theorem DL.same {H H' : Hp} {d : Addr} {kvs : List (Key × V)} (h : DL H d kvs) (s : Same H H') : DL H' d kvs := by
  rcases h with h | ⟨od, h⟩
  · exact .inl (s _ _ h)
  · exact .inr ⟨od, s _ _ h⟩
theorem DL.get {H : Hp} {d : Addr} {kvs : List (Key × V)} {x : Str} {v : V} (h : DL H d kvs) (e : valV kvs (Sum.inr x : Key) = some v) : DGet H d (.str x) (some v) := by
  rcases h with h | ⟨od, h⟩
  · exact dget_s h e
  · exact .inl ⟨kvs, Sum.inr x, .inr ⟨od, h⟩, rfl, e.symm⟩
def spLeast : Sp := fun vs H Q _ => ∃ (d l : Addr) (kvs : List (Key × V)) (tb : Tb) (xs : List Str), vs = [.ref d, .ref l] ∧ DL H d kvs ∧ Tab fL H kvs tb ∧ (∀ x ∈ keys tb, (look tb x).length ≤ 40) ∧ H l = some (.lst (xs.map V.str)) ∧ (∀ x ∈ xs, x ∈ keys tb) ∧ xs.length ≤ 40 ∧ (∀ x ∈ xs, sOk x = true) ∧
  ∀ (ys : List Str) (r : Addr) (H' : Hp), Least tb xs ys → H r = none → H' r = some (.tup (ys.map V.str)) → Same H H' → Q (.ref r) H'
section
variable {P : Program} {w : World} {K : PySem.W.Frag} {mg : Str → Option Value} {base : Heap}
theorem scLeast : FnScope nLeast ["_law_uppers_here", "_law_some"] (defScope sLeast) := ⟨rfl, rfl, rfl, by decide +kernel, rfl, by decide +kernel, by decide +kernel⟩
theorem ok_least {f : Addr} {fd : FuncData} (F : Fun K "_law_least" "_law_least" sLeast f fd) (T : Bi mg) (tSo : mg "sorted" = none) : FnOk P w K mg base CX0 1 f fd ["_law_uppers_here", "_law_some"] spLeast := by
  refine F.ok scLeast (fun vs H Q E h => ?_) (fun cdv A outer s H vs Q E hr h => ?_)
  · obtain ⟨d, l, kvs, tb, xs, rfl, _⟩ := h
    rfl
  · obtain ⟨d, l, kvs, tb, xs, rfl, hd, TB, h40, hl, hk, x40, ok, k⟩ := h
    have hu := hu_of hr
    refine ⟨_, (pss_cons (ps_set (i := 2) scLeast.nd rfl (Or.inl rfl) (pe_lst pa_nil))
      (pss_cons (ps_for PassesOwn.never rfl (pi_list (pe_sortedSet (by rfl) tSo (by rfl) T.set (pv 1))) (pg_name (i := 3) scLeast.nd rfl (Or.inr rfl))
      (pss_one (ps_if (pt_cmpR (op_eqD hr.units) (pe_lc (own := [("_law_two", 4)]) (g := gName 4)  rfl scLeast.nd (pi_list (pv 1)) (blkOk_by (N := nLeast) (sc := defScope sLeast) (by decide +kernel)) (fun _ _ _ _ _ => pg_name (i := 4) scLeast.nd rfl (Or.inl rfl)) (fun _ _ _ _ _ => pts_one (PW.pt (pw_and (pt_cmpR op_ne (pv 4) (pv 3) (nomark _)) (pw_and1 (pt_cmpR (op_in_seqK (K' := K) rfl) (pv 3) (pe_dget hu (pv 0) (pv 4) (fun _ _ => rfl)) rfl))))) (fun _ _ _ _ _ => pv 4)) (pe_lst pa_nil) (nomark _))
        (pss_one (ps_expr (pe_bm PySem.F.plainAttrs_list PySem.F.slot_list_append PySem.F.type_list_append mt_append (pv 2) (pa_cons (pv 3) pa_nil))))
        pss_nil)))
      (pss_one (ps_ret (pe_callTy call_tuple_of (by rfl) T.tuple (by decide +kernel) (pa_cons (pv 2) pa_nil)))))), ?_⟩
    refine ⟨Nat.zero_le _, fun F0 hF0 => ?_⟩
    have s0 : Same H (upd H F0 (.lst [])) := (Same.refl H).put hF0
    refine ⟨_, rfl, l, xs, rfl, s0 l _ hl, by omega, fun zs q nd le me so hq => ⟨q, rfl, ⟨_, SqL.of upd_same⟩, ?_⟩⟩
    have nFq : F0 ≠ q := ne_of_none upd_same hq
    have hqH : H q = none := s0.free hq
    have s1 : Same H (upd (upd H F0 (.lst [])) q (.lst (zs.map V.str))) := s0.put hqH
    refine for_list (K := K) (a := q) (xs := zs.map V.str) (fun i σ Hc => ∃ v3 v4 : Option V, σ = [some (.ref d), some (.ref l), some (.ref F0), v3, v4] ∧ Hc F0 = some (.lst (((zs.take i).filter (lowB tb xs)).map V.str)) ∧ Hc q = some (.lst (zs.map V.str)) ∧ Same H Hc) ?_ ?_ ?_ ?_
    · exact ⟨_, _, rfl, by rw [upd_ne nFq]; exact upd_same, upd_same, s1⟩
    · rintro i σ Hc _ ⟨v3, v4, rfl, _, h2, _⟩
      exact SqL.of h2
    · rintro i y σ Hc hy ⟨v3, v4, rfl, hF, hQ, sm⟩
      have hil : i < zs.length := by
        have := (List.getElem?_eq_some_iff.mp hy).1
        rwa [List.length_map] at this
      have hzi : zs[i]? = some zs[i] := List.getElem?_eq_getElem hil
      rw [List.getElem?_map, hzi] at hy
      have hxk := hk _ ((me zs[i]).mp (List.getElem_mem hil))
      have et : zs.take (i + 1) = zs.take i ++ [zs[i]] := by rw [List.take_add_one, hzi]; rfl
      generalize zs[i] = x at hzi hy hxk et
      cases hy
      have hdc := hd.same sm
      have hlc := sm l _ hl
      refine ⟨_, rfl, l, rfl, ⟨_, SqL.of hlc⟩, fun D hD => ?_⟩
      refine lc_list (K := K) (a := l) (xs := xs.map V.str) (fun j Hd => Hd D = some (.lst ((above tb (xs.take j) x).map V.str)) ∧ Same Hc Hd) ?_ ?_ ?_ ?_
      · exact ⟨upd_same, (Same.refl Hc).put hD⟩
      · rintro j Hd _ ⟨_, sd⟩
        exact SqL.of (sd l _ hlc)
      · rintro j y Hd hy ⟨g1, sd⟩
        have hjl : j < xs.length := by
          have := (List.getElem?_eq_some_iff.mp hy).1
          rwa [List.length_map] at this
        have hzj : xs[j]? = some xs[j] := List.getElem?_eq_getElem hjl
        rw [List.getElem?_map, hzj] at hy
        have hzk := hk xs[j] (List.getElem_mem hjl)
        have ej : xs.take (j + 1) = xs.take j ++ [xs[j]] := by rw [List.take_add_one, hzj]; rfl
        generalize xs[j] = z at hzj hy hzk ej
        cases hy
        obtain ⟨u, hu1, hu2⟩ := TB.val hzk
        have hud := sd u _ (sm u _ hu2)
        unfold fL at hud
        have fl : (above tb (xs.take j) x).length ≤ xs.length := Nat.le_trans (List.length_filter_le _ _) (by rw [List.length_take]; omega)
        have no : (decide (z ≠ x) && decide (x ∈ look tb z)) = false → above tb (xs.take (j + 1)) x = above tb (xs.take j) x := fun h => by
          unfold above
          rw [ej, List.filter_append, List.filter_cons, h]
          simp
        have yes : (decide (z ≠ x) && decide (x ∈ look tb z)) = true → above tb (xs.take (j + 1)) x = above tb (xs.take j) x ++ [z] := fun h => by
          unfold above
          rw [ej, List.filter_append, List.filter_cons, h]
          simp
        refine ⟨rfl, _, rfl, _, rfl, rfl, _, rfl, ?_⟩
        by_cases hzx : z = x
        · refine ite2 (fun h => ?_) (fun _ => iteF ⟨?_, sd⟩)
          · rw [hzx] at h
            simp at h
          · rw [no (by simp [hzx])]
            exact g1
        · have hkx : ¬ V.str z = V.str x := fun e => hzx (V.str.inj e)
          refine ite2 (fun _ => ?_) (fun h => ?_)
          · refine ⟨_, rfl, _, rfl, _, rfl, d, _, rfl, (hdc.same sd).get hu1, u, _, rfl, .inl (SqL.of hud), rfl, flat_strs _, _, rfl, ?_⟩
            rw [if_neg Bool.false_ne_true, inV_strs]
            by_cases hm : x ∈ look tb z
            · refine ite2 (fun _ => ⟨_, rfl, _, g1, ?_, ?_, sd.put hD⟩) (fun h => absurd (decide_eq_true hm) h)
              · rw [List.length_map]; show _ < 16777216; omega
              · rw [upd_same, yes (by simp [hzx, hm]), List.map_append]
                rfl
            · refine ite2 (fun h => absurd (of_decide_eq_true h) hm) (fun _ => ⟨?_, sd⟩)
              rw [no (by simp [hm])]
              exact g1
          · exact absurd (by rw [decide_eq_false hkx]; rfl) h
      · rintro Hd ⟨g1, sd⟩
        rw [List.length_map, List.take_length] at g1
        refine ⟨Nat.zero_le _, fun e1 he1 => ?_⟩
        have g2 : (upd Hd e1 (.lst [])) D = some (.lst ((above tb xs x).map V.str)) := by rw [upd_ne (ne_of_none g1 he1)]; exact g1
        have s3 : Same Hc (upd Hd e1 (.lst [])) := sd.put (sd.free he1)
        refine ⟨.list _, .list [], .lst (SqL.of g2) (strs_dp _ _ _), .lst (SqL.of upd_same) .nil, strs_shaped _ fun y hy => ok y (List.mem_filter.mp hy).1, rfl, _, rfl, ?_⟩
        rw [strs_eqv0]
        refine ite2 (fun h => ?_) (fun h => ?_)
        · have hl : lowB tb xs x = true := h
          have hF3 := s3 F0 _ hF
          have zl := List.length_filter_le (lowB tb xs) (zs.take i)
          rw [List.length_take] at zl
          refine ⟨_, rfl, .inl ⟨rfl, _, SqL.of hF3⟩, _, rfl, F0, _, _, rfl, rfl, hF3, ?_, ?_⟩
          · rw [List.length_map]; show _ < 16777216; omega
          have nF : ∀ b o, H b = some o → b ≠ F0 := fun b o e => ne_of_none e hF0
          refine ⟨_, _, rfl, ?_, ?_, fun b o e => ?_⟩
          · rw [upd_same, et, List.filter_append, List.filter_cons, if_pos hl, List.map_append]
            rfl
          · rw [upd_ne nFq.symm]
            exact s3 q _ hQ
          · rw [upd_ne (nF b o e)]
            exact s3 b o (sm b o e)
        · have hl : ¬ lowB tb xs x = true := h
          refine ⟨_, _, rfl, ?_, s3 q _ hQ, sm.trans s3⟩
          rw [et, List.filter_append, List.filter_cons, if_neg hl, List.filter_nil, List.append_nil]
          exact s3 F0 _ hF
    · rintro σ Hc ⟨v3, v4, rfl, hF, hQ, sm⟩
      rw [List.length_map, List.take_length] at hF
      refine ⟨_, rfl, F0, _, rfl, .inl ⟨SqL.of hF, fun r hr2 => ?_⟩⟩
      have hL : ∀ y, lowB tb xs y = true ↔ ∀ z ∈ xs, z ≠ y → y ∉ look tb z := fun y => by
        unfold lowB above
        rw [decide_eq_true_eq, List.filter_eq_nil_iff]
        constructor
        · intro h z hz ne hy
          have := h z hz
          simp [ne, hy] at this
        · intro h z hz
          simp only [Bool.and_eq_true, decide_eq_true_eq, not_and]
          exact fun ne => h z hz ne
      refine k _ r _ ⟨nd.sublist List.filter_sublist, ?_, fun y => ?_⟩ (sm.free hr2) upd_same (sm.put (sm.free hr2))
      · exact sorted_sub so List.filter_sublist
      · rw [List.mem_filter, me, hL]
end
end K2
end
section
set_option Elab.async false
set_option maxRecDepth 100000
set_option linter.all false
namespace K2
open PySem L2
theorem Tab.mp {p : Addr} {f : List Str → HO} {H H' : Hp} {kvs : List (Key × V)} {t : Tb} (h : Tab f H kvs t) (k : Keep p H H') (n : ∀ us, H p ≠ some (f us)) : Tab f H' kvs t := h.mono fun a us e => k a _ e fun q => n us (q ▸ e)
theorem pick_str {xs : List Str} {j : Nat} {v : V} (h : (xs.map V.str)[j]? = some v) : ∃ x ∈ xs, v = .str x := by
  obtain ⟨x, hx, e⟩ := List.mem_map.mp (List.mem_of_getElem? h)
  exact ⟨x, hx, e.symm⟩
def hits (tb : Tb) (ns : List Str) (k : Str) : List Str := ns.filter fun n => decide (n ∈ look tb k)
theorem any_filter {α : Type} (p : α → Bool) : ∀ l : List α, (!decide (l.filter p = [])) = l.any p
  | [] => rfl
  | x :: l => by
    rw [List.filter_cons, List.any_cons]
    cases h : p x with
    | true => simp
    | false => simpa using any_filter p l
theorem flat_any (tb : Tb) (ns : List Str) : ∀ ks : List Str, meet tb ks ns = ks.any fun k => !decide (hits tb ns k = [])
  | [] => rfl
  | k :: ks => by
    have ih := flat_any tb ns ks
    unfold meet at ih ⊢
    rw [List.map_cons, List.flatten_cons, List.any_append, ih, List.any_cons]
    congr 1
    unfold hits
    rw [any_filter, List.any_map]
    rfl
theorem due_meet (tb : Tb) (ks ns : List Str) : (!decide (ks.filter (fun k => !decide (hits tb ns k = [])) = [])) = meet tb ks ns := by rw [any_filter, flat_any]
theorem meet_rev (tb : Tb) (ks ns : List Str) : meet tb ks ns.reverse = meet tb ks ns := by
  rw [flat_any, flat_any]
  congr 1
  funext k
  unfold hits
  rw [any_filter, any_filter, List.any_reverse]
theorem op_neDK {X : Cx} {K' : PySem.W.Frag} (hK : X.K = K') (hu : X.A.units + 64 < cLine) : OpR X (compareOp .NotEq) (rNeD K') := by
  subst hK
  exact op_neD hu
theorem ClsAt.kp {C p c b : Addr} {ns : List Int} {n : Nat} {H H' : Hp} {tb : Tb} (h : ClsAt C H b tb) (k : Keep p H H') (P : Pen H p c ns n) : ClsAt C H' b tb := by
  obtain ⟨a, l, g, _⟩ := P.pen
  obtain ⟨dx, r, m, d, kvs, h1, h2, h3⟩ := h
  refine ⟨dx, r, m, d, kvs, k _ _ h1 fun e => ?_, k _ _ h2 fun e => ?_, h3.mono fun a us e => k a _ e fun q => ?_⟩
  · rw [e, g] at h1
    cases h1
  · rw [e, g] at h2
    cases h2
  · rw [q, g] at e
    unfold penO fD at e
    cases e
end K2
end
section
set_option Elab.async false
set_option maxRecDepth 100000
set_option linter.all false
namespace K2
open PySem L2 PySem.Spec PyProof.Rows
/-! ### repr of any data of the heap without dicts -/
def rReprD (K : PySem.W.Frag) : List V → Hp → VK → Prop := fun xs H Q => ∃ a d, xs = [V.ref a] ∧ Dp K H (.ref a) d ∧ d.showable = true ∧ d.hasDict = false ∧ d.depth ≤ 8 ∧ d.shown.length ≤ sizeLine ∧ Q (.str d.shown) H
section
variable {X : Cx}
theorem call_reprD (gu : X.A.guards = some []) (hu : X.A.units + 64 < cLine) : CallR X (.builtin "repr") (rReprD X.K) := by
  intro pins s σ H xs us Q I r h
  obtain ⟨a, d, rfl, hd, hs, hn, dp, hz, q⟩ := h
  obtain ⟨u, rfl, ru⟩ := r.one
  cases ru
  obtain ⟨as, rd⟩ := Dp.reads I d (V.ref a) (Value.ref a) hd rfl
  exact repr_of_reads' rd hs (fun z => by rw [hn] at z; cases z) gu (by omega) (fun b o e => e) (fun h' u tk hk => ⟨.str _, H, I.kept (t' := tk) hk, ⟨u, rfl⟩, q⟩) hz
end
/-- a tuple of texts -/
def tD (ys : List Str) : PyData := .tuple (ys.map PyData.str)
/-- three times one tuple of texts -/
def t3D (ys : List Str) : PyData := .list [tD ys, tD ys, tD ys]
theorem strs_show : ∀ xs : List Str, PyData.showableAll (xs.map PyData.str) = true
  | [] => rfl
  | x :: xs => by
    show (true && PyData.showableAll (xs.map PyData.str)) = true
    rw [strs_show xs]
    rfl
theorem strs_nodict : ∀ xs : List Str, PyData.hasDictAll (xs.map PyData.str) = false
  | [] => rfl
  | x :: xs => by
    show (false || PyData.hasDictAll (xs.map PyData.str)) = false
    rw [strs_nodict xs]
    rfl
theorem strs_weight : ∀ xs : List Str, (∀ x ∈ xs, x.length ≤ 8) → PyData.weightAll (xs.map PyData.str) ≤ 9 * xs.length
  | [], _ => Nat.le_refl _
  | x :: xs, h => by
    have ih := strs_weight xs fun y hy => h y (List.mem_cons_of_mem _ hy)
    have hx : x.cps.size ≤ 8 := h x List.mem_cons_self
    show x.cps.size + 1 + PyData.weightAll (xs.map PyData.str) ≤ 9 * (xs.length + 1)
    omega
theorem tD_show (ys : List Str) : (tD ys).showable = true := strs_show ys
theorem tD_nodict (ys : List Str) : (tD ys).hasDict = false := strs_nodict ys
theorem tD_depth (ys : List Str) : (tD ys).depth = 1 := by
  show PyData.depthAll (ys.map PyData.str) + 1 = 1
  rw [strs_depth]
theorem tD_fits {ys : List Str} (ok : ∀ y ∈ ys, sOk y = true) (h8 : ∀ y ∈ ys, y.length ≤ 8) (hl : ys.length ≤ 40) : (tD ys).shown.length ≤ sizeLine := by
  refine PyData.shown_fits_of_layable0 (B := 13) (by decide) (by decide) ?_ (PyData.intsShortAll_strs 13 ys)
  have w := strs_weight ys h8
  have q : PyData.weight (tD ys) = PyData.weightAll (ys.map PyData.str) := rfl
  show (PyData.canLayAll0 (ys.map PyData.str) && decide (PyData.depth (tD ys) ≤ 64) && decide (PyData.weight (tD ys) ≤ 2 ^ 20)) = true
  rw [strs_lay ys ok, tD_depth, q]
  simp only [Bool.true_and, Bool.and_eq_true, decide_eq_true_eq]
  omega
theorem t3D_show (ys : List Str) : (t3D ys).showable = true := by
  show (PyData.showable (tD ys) && (PyData.showable (tD ys) && (PyData.showable (tD ys) && true))) = true
  rw [tD_show]
  rfl
theorem t3D_nodict (ys : List Str) : (t3D ys).hasDict = false := by
  show (PyData.hasDict (tD ys) || (PyData.hasDict (tD ys) || (PyData.hasDict (tD ys) || false))) = false
  rw [tD_nodict]
  rfl
theorem t3D_depth (ys : List Str) : (t3D ys).depth = 2 := by
  show max (PyData.depth (tD ys)) (max (PyData.depth (tD ys)) (max (PyData.depth (tD ys)) 0)) + 1 = 2
  rw [tD_depth]
  rfl
theorem t3D_fits {ys : List Str} (ok : ∀ y ∈ ys, sOk y = true) (h8 : ∀ y ∈ ys, y.length ≤ 8) (hl : ys.length ≤ 40) : (t3D ys).shown.length ≤ sizeLine := by
  have w := strs_weight ys h8
  have q : PyData.weight (tD ys) = PyData.weightAll (ys.map PyData.str) := rfl
  have c : PyData.canLay0 (tD ys) = true := strs_lay ys ok
  have i : PyData.intsShort 13 (tD ys) = true := PyData.intsShortAll_strs 13 ys
  refine PyData.shown_fits_of_layable0 (B := 13) (by decide) (by decide) ?_ ?_
  · show (PyData.canLay0 (tD ys) && (PyData.canLay0 (tD ys) && (PyData.canLay0 (tD ys) && true)) && decide (PyData.depth (t3D ys) ≤ 64) && decide (PyData.weight (tD ys) + 1 + (PyData.weight (tD ys) + 1 + (PyData.weight (tD ys) + 1 + 0)) ≤ 2 ^ 20)) = true
    rw [c, t3D_depth, q]
    simp only [Bool.true_and, Bool.and_true, Bool.and_eq_true, decide_eq_true_eq]
    omega
  · show (PyData.intsShort 13 (tD ys) && (PyData.intsShort 13 (tD ys) && (PyData.intsShort 13 (tD ys) && true))) = true
    rw [i]
    rfl
/-- the kind of a kind is itself -/
theorem Least.self {tb : Tb} {xs ys : List Str} (h : Least tb xs ys) : Least tb ys ys :=
  ⟨h.nd, h.so, fun y => ⟨fun hy => ⟨hy, fun z hz => ((h.me y).mp hy).2 z ((h.me z).mp hz).1⟩, fun q => q.1⟩⟩
theorem last_of {tb : Tb} (T : TOk tb) : ∀ (m : Nat) (xs : List Str), (∀ x ∈ xs, x ∈ keys tb) → xs ≠ [] → (∀ x ∈ xs, (keys tb).idxOf x < m) → ∃ y ∈ xs, ∀ z ∈ xs, z ≠ y → y ∉ look tb z
  | 0, xs, _, ne, hm => by
    obtain ⟨x, hx⟩ := List.exists_mem_of_ne_nil xs ne
    exact absurd (hm x hx) (Nat.not_lt_zero _)
  | m + 1, xs, hk, ne, hm => by
    by_cases h : ∃ y ∈ xs, (keys tb).idxOf y = m
    · obtain ⟨y, hy, ey⟩ := h
      refine ⟨y, hy, fun z hz ne hyz => ?_⟩
      obtain ⟨a, b, e⟩ := look_mem (hk z hz)
      obtain ⟨L, hn⟩ := T a z _ b e
      have hya : y ∈ keys a := (L.sub y hyz).resolve_left ne.symm
      have kz := hm z hz
      have ek : keys tb = keys a ++ z :: keys b := by
        have := congrArg keys e
        rwa [keys_mid] at this
      have h1 : (keys tb).idxOf y < (keys a).length := by
        rw [ek, List.idxOf_append, if_pos hya]
        exact List.idxOf_lt_length_of_mem hya
      have h2 : (keys a).length ≤ (keys tb).idxOf z := by
        rw [ek, List.idxOf_append, if_neg hn]
        omega
      omega
    · refine last_of T m xs hk ne fun x hx => ?_
      have h1 := hm x hx
      have h2 : (keys tb).idxOf x ≠ m := fun e => h ⟨x, hx, e⟩
      omega
theorem Least.ne {tb : Tb} {xs ys : List Str} (h : Least tb xs ys) (T : TOk tb) (hk : ∀ x ∈ xs, x ∈ keys tb) (ne : xs ≠ []) : ys ≠ [] := by
  obtain ⟨y, hy, q⟩ := last_of T (keys tb).length xs hk ne fun x hx => List.idxOf_lt_length_of_mem (hk x hx)
  exact List.ne_nil_of_mem ((h.me y).mpr ⟨hy, q⟩)
theorem Least.le {tb : Tb} {xs ys : List Str} (h : Least tb xs ys) : ys.length ≤ xs.length := h.nd.length_le_of_subset fun y hy => ((h.me y).mp hy).1
end K2
end
section
set_option autoImplicit true
set_option linter.all false
namespace K2
open PySem L2
theorem mem_mergeU {m us : List Str} {u : Str} : u ∈ mergeU m us ↔ u ∈ m ∨ u ∈ us := by
  unfold mergeU
  rw [List.mem_append, List.mem_filter]
  constructor
  · rintro (h | ⟨h, _⟩)
    · exact .inl h
    · exact .inr h
  · rintro (h | h)
    · exact .inl h
    · by_cases q : u ∈ m
      · exact .inl q
      · exact .inr ⟨h, by simpa using q⟩
theorem mem_lineL {t : Tb} {u : Str} : ∀ (bs m : List Str), u ∈ lineL t m bs ↔ u ∈ m ∨ ∃ b ∈ bs, u ∈ look t b
  | [], m => by simp [lineL]
  | b :: bs, m => by
    show u ∈ lineL t (mergeU m (look t b)) bs ↔ _
    rw [mem_lineL bs, mem_mergeU]
    constructor
    · rintro ((h | h) | ⟨c, hc, h⟩)
      · exact .inl h
      · exact .inr ⟨b, List.mem_cons_self, h⟩
      · exact .inr ⟨c, List.mem_cons_of_mem _ hc, h⟩
    · rintro (h | ⟨c, hc, h⟩)
      · exact .inl (.inl h)
      · rcases List.mem_cons.mp hc with rfl | hc
        · exact .inl (.inr h)
        · exact .inr ⟨c, hc, h⟩
theorem look_app {t e : Tb} {x : Str} (h : x ∈ keys t) : look (t ++ e) x = look t x := by
  induction t with
  | nil => simp [keys] at h
  | cons p t ih =>
    obtain ⟨k, us⟩ := p
    show (if k = x then us else look (t ++ e) x) = (if k = x then us else look t x)
    by_cases q : k = x
    · rw [if_pos q, if_pos q]
    · rw [if_neg q, if_neg q]
      refine ih ?_
      unfold keys at h ⊢
      rcases List.mem_cons.mp h with r | r
      · exact absurd r.symm q
      · exact r
theorem look_new {t : Tb} {x : Str} {us : List Str} (h : x ∉ keys t) : look (t ++ [(x, us)]) x = us := by
  induction t with
  | nil => simp [look]
  | cons p t ih =>
    obtain ⟨k, vs⟩ := p
    have q : ¬ k = x := fun e => h (by rw [e]; simp [keys])
    show (if k = x then vs else look (t ++ [(x, us)]) x) = us
    rw [if_neg q]
    exact ih fun m => h (by unfold keys at m ⊢; exact List.mem_cons_of_mem _ m)
def Tra (t : Tb) : Prop := ∀ x ∈ keys t, ∀ y ∈ look t x, ∀ z ∈ look t y, z ∈ look t x
theorem tra_t0 : Tra t0 := by
  intro x hx y hy z hz
  have e1 : look t0 sErr = [sErr] := by decide +kernel
  have e2 : look t0 sVac = [sVac, sErr] := by decide +kernel
  have hx : x = sErr ∨ x = sVac := by simpa [keys, t0] using hx
  rcases hx with rfl | rfl
  · rw [e1] at hy
    have : y = sErr := by simpa using hy
    subst this
    rwa [e1] at hz ⊢
  · rw [e2] at hy
    have : y = sVac ∨ y = sErr := by simpa using hy
    rcases this with rfl | rfl
    · exact hz
    · rw [e1] at hz
      have : z = sErr := by simpa using hz
      subst this
      rw [e2]
      simp
theorem tra_step {t : Tb} (T : TOk t) (h : Tra t) {r : Row} (R : RowOk (keys t) r) : Tra (stepT t r) := by
  have new : look (stepT t r) r.1 = lineOf t r := look_new R.new
  have old : ∀ y ∈ keys t, look (stepT t r) y = look t y := fun y hy => look_app hy
  intro x hx y hy z hz
  have hx : x ∈ keys t ∨ x = r.1 := by simpa [keys, stepT] using hx
  rcases hx with hx | rfl
  · rw [old x hx] at hy ⊢
    rw [old y ((T.line hx).2.2.2 y hy)] at hz
    exact h x hx y hy z hz
  · rw [new] at hy ⊢
    unfold lineOf at hy ⊢
    rcases (mem_lineL r.2 [r.1]).mp hy with q | ⟨b, hb, q⟩
    · have : y = r.1 := by simpa using q
      subst this
      rw [new] at hz
      exact hz
    · have hbk := R.sub b hb
      rw [old y ((T.line hbk).2.2.2 y q)] at hz
      exact (mem_lineL r.2 [r.1]).mpr (.inr ⟨b, hb, h b hbk y q z hz⟩)
theorem tra_ups {rs : List Row} (g : Good rs) : ∀ i, i ≤ rs.length → Tra (ups (rs.take i))
  | 0, _ => by simpa [ups] using tra_t0
  | i + 1, h => by
    have hi : rs[i]? = some rs[i] := List.getElem?_eq_getElem (by omega)
    rw [ups_succ hi]
    refine tra_step (tok_ups g i (by omega)) (tra_ups g i (by omega)) ?_
    rw [keys_ups_take]
    exact g i _ hi
theorem foldl_pre : ∀ (rs : List Row) (t : Tb), ∃ e, rs.foldl stepT t = t ++ e
  | [], t => ⟨[], by simp⟩
  | r :: rs, t => by
    obtain ⟨e, he⟩ := foldl_pre rs (stepT t r)
    refine ⟨[(r.1, lineOf t r)] ++ e, ?_⟩
    show rs.foldl stepT (stepT t r) = _
    rw [he]
    unfold stepT
    rw [List.append_assoc]
theorem ups_pre (rs qs : List Row) : ∃ e, ups (rs ++ qs) = ups rs ++ e := by
  unfold ups
  rw [List.foldl_append]
  exact foldl_pre qs _
theorem good_take {rs : List Row} (g : Good rs) (m : Nat) : Good (rs.take m) := by
  intro i r h
  have hi : i < (rs.take m).length := (List.getElem?_eq_some_iff.mp h).1
  rw [List.length_take] at hi
  rw [List.getElem?_take, if_pos (by omega)] at h
  have := g i r h
  unfold knownAt at this ⊢
  rwa [List.take_take, Nat.min_eq_left (by omega)]
/-! ### what one more name sees -/
/-- the classes of t0 around x -/
def around (t0 t : Tb) (x : Str) : List Str := (keys t0).filter fun y => decide (y ∈ look t x)
structure Two (t0 t : Tb) : Prop where
  T0 : TOk t0
  T : TOk t
  tr : Tra t
  pre : ∃ e, t = t0 ++ e
theorem Two.old {t0 t : Tb} (W : Two t0 t) {y : Str} (h : y ∈ keys t0) : look t y = look t0 y := by
  obtain ⟨e, rfl⟩ := W.pre
  exact look_app h
theorem Two.sub {t0 t : Tb} (W : Two t0 t) {y : Str} (h : y ∈ keys t0) : y ∈ keys t := by
  obtain ⟨e, rfl⟩ := W.pre
  unfold keys at h ⊢
  rw [List.map_append]
  exact List.mem_append_left _ h
theorem mem_around {t0 t : Tb} {x y : Str} : y ∈ around t0 t x ↔ y ∈ keys t0 ∧ y ∈ look t x := by
  unfold around
  rw [List.mem_filter, decide_eq_true_iff]
/-- the law's least ones are those of kind -/
theorem Two.least {t0 t : Tb} (W : Two t0 t) {x : Str} {xs ys zs : List Str} (h : Least t0 (around t0 t x) ys) (e : ∀ y, y ∈ xs ↔ y ∈ around t0 t x) (h2 : Least t xs zs) : zs = ys := by
  refine sorted_one h2.nd h.nd h2.so h.so fun y => ?_
  rw [h2.me, h.me, e y]
  refine and_congr_right fun _ => ?_
  constructor
  · intro q z hz ne
    rw [← W.old (mem_around.mp hz).1]
    exact q z ((e z).mpr hz) ne
  · intro q z hz ne
    have hz := (e z).mp hz
    rw [W.old (mem_around.mp hz).1]
    exact q z hz ne
/-- below each of the classes around there is a least one -/
theorem Two.below {t0 t : Tb} (W : Two t0 t) {x n : Str} {ys : List Str} (hx : x ∈ keys t) (h : Least t0 (around t0 t x) ys) (hn : n ∈ around t0 t x) : ∃ k ∈ ys, n ∈ look t0 k := by
  obtain ⟨hn1, hn2⟩ := mem_around.mp hn
  have hS : n ∈ (around t0 t x).filter fun y => decide (n ∈ look t0 y) := List.mem_filter.mpr ⟨hn, decide_eq_true (W.T0.line hn1).2.1⟩
  obtain ⟨y, hy, q⟩ := last_of W.T0 (keys t0).length ((around t0 t x).filter fun y => decide (n ∈ look t0 y)) (fun z hz => (mem_around.mp (List.mem_filter.mp hz).1).1) (List.ne_nil_of_mem hS)
    (fun z hz => List.idxOf_lt_length_of_mem (mem_around.mp (List.mem_filter.mp hz).1).1)
  obtain ⟨hy1, hy2⟩ := List.mem_filter.mp hy
  have hny : n ∈ look t0 y := of_decide_eq_true hy2
  refine ⟨y, (h.me y).mpr ⟨hy1, fun z hz ne hyz => q z (List.mem_filter.mpr ⟨hz, decide_eq_true ?_⟩) ne hyz⟩, hny⟩
  have hzk := (mem_around.mp hz).1
  have hyk := (mem_around.mp hy1).1
  rw [← W.old hzk]
  rw [← W.old hzk] at hyz
  rw [← W.old hyk] at hny
  exact W.tr z (W.sub hzk) y hyz n hny
theorem meet_iff (tb : Tb) (ks ns : List Str) : meet tb ks ns = true ↔ ∃ k ∈ ks, ∃ n ∈ ns, n ∈ look tb k := by
  rw [flat_any, List.any_eq_true]
  refine exists_congr fun k => and_congr_right fun _ => ?_
  unfold hits
  rw [any_filter, List.any_eq_true]
  refine exists_congr fun n => and_congr_right fun _ => ?_
  exact decide_eq_true_iff
/-- what takes an error of the class x takes one of its kind -/
theorem Two.meets {t0 t : Tb} (W : Two t0 t) {x : Str} {ys ns : List Str} (hx : x ∈ keys t) (h : Least t0 (around t0 t x) ys) (hns : ∀ n ∈ ns, n ∈ keys t0) : meet t0 ys ns = !decide (ns.filter (fun n => decide (n ∈ look t x)) = []) := by
  rw [any_filter, Bool.eq_iff_iff, meet_iff, List.any_eq_true]
  constructor
  · rintro ⟨k, hk, n, hn, q⟩
    obtain ⟨k1, k2⟩ := mem_around.mp ((h.me k).mp hk).1
    rw [← W.old k1] at q
    exact ⟨n, hn, decide_eq_true (W.tr x hx k k2 n q)⟩
  · rintro ⟨n, hn, q⟩
    have q := of_decide_eq_true q
    obtain ⟨k, hk, q2⟩ := W.below hx h (mem_around.mpr ⟨hns n hn, q⟩)
    exact ⟨k, hk, n, hn, q2⟩
/-- the kind of a first class is itself -/
theorem Two.own {t0 t : Tb} (W : Two t0 t) {x : Str} {ys : List Str} (hx : x ∈ keys t0) (h : Least t0 (around t0 t x) ys) : ys = [x] := by
  have self := (W.T0.line hx).2.1
  refine sorted_one h.nd (by simp) h.so rfl fun y => ?_
  rw [h.me, List.mem_singleton]
  constructor
  · rintro ⟨hy, q⟩
    obtain ⟨_, y2⟩ := mem_around.mp hy
    rw [W.old hx] at y2
    by_cases e : x = y
    · exact e.symm
    · exact absurd y2 (q x (mem_around.mpr ⟨hx, by rw [W.old hx]; exact self⟩) e)
  · rintro rfl
    refine ⟨mem_around.mpr ⟨hx, by rw [W.old hx]; exact self⟩, fun z hz ne => ?_⟩
    obtain ⟨z1, z2⟩ := mem_around.mp hz
    rw [W.old hx] at z2
    exact W.T0.back hx z2 ne
theorem two_of {rs qs : List Row} (g : Good (rs ++ qs)) : Two (ups rs) (ups (rs ++ qs)) := by
  have g0 : Good rs := by
    have := good_take g rs.length
    rwa [List.take_left'] at this
    rfl
  have a := tok_ups g0 rs.length (Nat.le_refl _)
  have b := tok_ups g (rs ++ qs).length (Nat.le_refl _)
  have c := tra_ups g (rs ++ qs).length (Nat.le_refl _)
  rw [List.take_length] at a b c
  exact ⟨a, b, c, ups_pre rs qs⟩
end K2
end
section
set_option Elab.async false
set_option maxRecDepth 100000
set_option linter.all false
namespace K2
open PySem L2
abbrev sTR : Stmt := top 28
abbrev nTR : List Str := ["_law_pen_here", "_law_whole", "_law_built", "_law_word", "_law_sort_so", "_law_turn", "_law_some", "_law_due", "_law_k", "_law_one"]
theorem call_reprBl {X : Cx} : CallR X (.builtin "repr") (fun xs H Q => ∃ b, xs = [V.bl b] ∧ Q (.str (if b then "True" else "False")) H) := by
  intro pins s σ H xs us Q I r h
  obtain ⟨b, rfl, q⟩ := h
  obtain ⟨u, rfl, ru⟩ := r.one
  obtain rfl : u = Value.bool b := ru
  exact PySem.P.repr_of_bool ⟨.str _, H, I.tok _, ⟨_, rfl⟩, q⟩
theorem ClsW.kp {C p c b : Addr} {ns : List Int} {n : Nat} {H H' : Hp} {rs : List Row} (h : ClsW C H b rs) (k : Keep p H H') (P : Pen H p c ns n) : ClsW C H' b rs := by
  obtain ⟨a, l, g, _⟩ := P.pen
  obtain ⟨dx, r, m, d, kvs, ts, h1, h2, h3, h4, h5, h6⟩ := h
  have nt : ∀ (q : Addr) (xs : List V), H q = some (.tup xs) → q ≠ p := fun q xs e z => by
    rw [z, g] at e
    cases e
  refine ⟨dx, r, m, d, kvs, ts, k _ _ h1 fun e => ?_, k _ _ h2 fun e => ?_, h3.mono fun a us e => k a _ e fun q => ?_, k _ _ h4 (nt _ _ h4), k _ _ h5 (nt _ _ h5), h6.mono fun b r e => k b _ e (nt _ _ e)⟩
  · rw [e, g] at h1
    cases h1
  · rw [e, g] at h2
    cases h2
  · rw [q, g] at e
    unfold penO fD at e
    cases e
theorem pe_fldK {X : Cx} {K' : PySem.W.Frag} {e : Expr} {f : Str} {pos : Pos} {ta : TE} (hK : X.K = K') (he : PE X e ta) (hb : attributeBase e f X.env (eval e X.env) = eval e X.env) : PE X (.Attribute e f pos) (tFld K' ta f) := by
  subst hK
  exact pe_fld he hb
def spTR (C : Addr) : Sp := fun vs H Q _ => ∃ (p c w b t : Addr) (ns : List Int) (n : Nat) (x : Str) (rs : List Row) (tb : Tb) (ks : List Str), vs = [.ref p, .ref w, .ref b, .str x, .ref t] ∧ Pen H p c ns n ∧ n + 60 ≤ 100000 ∧ ClsAt C H w tb ∧ ClsW C H b rs ∧ Two (ups rs) tb ∧ x ∈ keys tb ∧ keys (ups rs) ≠ [] ∧ (keys (ups rs)).length ≤ 33 ∧
  (∀ y ∈ keys (ups rs), sOk y = true) ∧ H t = some (.tup (ks.map V.str)) ∧ Least (ups rs) (around (ups rs) tb x) ks ∧ ∀ H', Keep p H H' → Pen H' p c ns (n + 20) → Q (.bl true) H'
section
variable {P : Program} {w : World} {K : PySem.W.Frag} {mg : Str → Option Value} {base : Heap}
theorem scTR : FnScope nTR ["_law_pen_here", "_law_whole", "_law_built", "_law_word", "_law_sort_so"] (defScope sTR) := ⟨rfl, rfl, rfl, by decide +kernel, rfl, by decide +kernel, by decide +kernel⟩
theorem ok_tr {f fP fM fW C : Addr} {fd fdP fdM fdW : FuncData} (F : Fun K "_law_taken_right" "_law_taken_right" sTR f fd) (T : Bi mg) (Y : Txt K mg C)
    (PK : Df K mg "_law_pick" sPick fP fdP ["_law_pen_here", "_law_some"]) (GP : FnOk P w K mg base CX0 2 fP fdP ["_law_pen_here", "_law_some"] spPick)
    (mM : Meth K C "meets" fM) (GML : FnOk P w K mg base CX0 3 fM fdM ["self", "kind", "names"] (spMeets C true)) (bM : Binds K fdM ["self", "kind", "names"] [])
    (mW : Meth K C "within" fW) (GW : FnOk P w K mg base CX0 1 fW fdW ["self", "one", "other"] (spWithin C)) (bW : Binds K fdW ["self", "one", "other"] []) :
    FnOk P w K mg base CX0 4 f fd ["_law_pen_here", "_law_whole", "_law_built", "_law_word", "_law_sort_so"] (spTR C) := by
  refine F.ok scTR (fun vs H Q E h => ?_) (fun cdv A outer s H vs Q E hr h => ?_)
  · obtain ⟨p, c, w, b, t, ns, n, x, rs, tb, ks, rfl, _⟩ := h
    rfl
  · obtain ⟨p, c, wh, b, t, ns, n, x, rs, tb, ks, rfl, P0, hn, cl, cw, W2, hx, hne, h33, ok, ht, Lk, k⟩ := h
    have hr1 : Room 1 _ := hr.mono (by decide)
    have hr2 : Room 2 _ := hr.mono (by decide)
    have hr3 : Room 3 _ := hr
    have hu := hu_of hr
    obtain ⟨pa, pl, hpen, _⟩ := P0.pen
    have htp : t ≠ p := fun e => by
      rw [e, hpen] at ht
      unfold penO at ht
      cases ht
    refine ⟨_, (pss_cons (ps_for PassesOwn.never rfl (pi_range1 rfl T.range (pa_cons pe_int pa_nil)) (pg_name (i := 5) scTR.nd rfl (Or.inl rfl))
      (pss_cons (ps_setLc (i := 6) (own := [("_law_k", 8)]) (g := gName 8) (tt := tYes) rfl scTR.nd rfl rfl (sw_true rfl rfl rfl (by decide +kernel)) (pi_range1 rfl T.range (pa_cons (pe_call GP hr2 (by rfl) PK.m PK.F.kp PK.b .nil pass0 (pa_cons (pv 0) (pa_cons (pe_lst (pa_cons pe_int (pa_cons pe_int (pa_cons pe_int (pa_cons pe_int (pa_cons pe_int pa_nil)))))) pa_nil))) pa_nil)) (blkOk_by (N := nTR) (sc := defScope sTR) (by decide +kernel)) (fun _ _ _ _ _ => pg_name (i := 8) scTR.nd rfl (Or.inl rfl)) (fun _ _ _ _ _ => pts_nil) (fun _ _ _ _ _ => pe_call GP hr2 (by rfl) PK.m PK.F.kp PK.b .nil pass0 (pa_cons (pv 0) (pa_cons (pe_fldK (K' := K) rfl (pv 2) rfl) pa_nil))))
        (pss_cons (ps_set (i := 7) scTR.nd rfl (Or.inl rfl) (pe_cmpR (op_neD hr.units) (pe_lc (own := [("_law_one", 9)]) (g := gName 9)  rfl scTR.nd (pi_list (pv 6)) (blkOk_by (N := nTR) (sc := defScope sTR) (by decide +kernel)) (fun _ _ _ _ _ => pg_name (i := 9) scTR.nd rfl (Or.inl rfl)) (fun _ _ _ _ _ => pts_one (pt_val (pe_meth (pv 1) Y.cl mW GW hr1 bW .nil pass0 (pa_cons (pv 3) (pa_cons (pv 9) pa_nil))))) (fun _ _ _ _ _ => pv 9)) (pe_lst pa_nil) (nomark _)))
        (pss_one (ps_if (pt_cmpR op_ne (pe_callB call_reprBl (by rfl) T.repr (by decide +kernel) (pa_cons (pe_meth (pv 2) Y.cl mM GML hr3 bM .nil pass0 (pa_cons (pv 4) (pa_cons (pv 6) pa_nil))) pa_nil)) (pe_callB call_reprBl (by rfl) T.repr (by decide +kernel) (pa_cons (pv 7) pa_nil)) (nomark _))
        (pss_one (ps_ret pe_bl))
        pss_nil)))))
      (pss_one (ps_ret pe_bl))), ?_⟩
    refine ⟨3, rfl, by decide, by decide, for_range (lo := 0) (n := 3) (fun i σ Hc => ∃ v5 v6 v7 v8 v9 : Option V, σ = [some (.ref p), some (.ref wh), some (.ref b), some (.str x), some (.ref t), v5, v6, v7, v8, v9] ∧ Keep p H Hc ∧ Pen Hc p c ns (n + 6 * i)) ?_ ?_ ?_⟩
    · exact ⟨_, _, _, _, _, rfl, Keep.refl _ _, P0⟩
    · rintro i σ Hc hi ⟨v5, v6, v7, v8, v9, rfl, kc, Pc⟩
      generalize hq0 : n + 6 * i = q at Pc
      refine ⟨_, rfl, (by show 5 ≤ sizeLine; decide), fun l7 h7 => ?_⟩
      refine ⟨p, c, ns, q, _, _, rfl, Pc.new h7, by omega, .inl ⟨l7, rfl, (Pc.pne h7).symm, upd_same⟩, by simp, (by show 5 ≤ 1000; decide), fun j v H1 hv k1 P1 => ?_⟩
      obtain ⟨m, rfl, hm⟩ : ∃ m : Nat, v = .int (m : Int) ∧ m ≤ 4 := by
        have hm6 := List.mem_of_getElem? hv
        simp only [List.mem_cons, List.not_mem_nil, or_false] at hm6
        rcases hm6 with rfl | rfl | rfl | rfl | rfl
        · exact ⟨0, rfl, by omega⟩
        · exact ⟨1, rfl, by omega⟩
        · exact ⟨1, rfl, by omega⟩
        · exact ⟨2, rfl, by omega⟩
        · exact ⟨4, rfl, by omega⟩
      have K1 : Keep p H H1 := (kc.new (kc.fresh Pc h7)).trans k1
      refine ⟨_, rfl, by omega, by omega, fun D hD => ?_⟩
      have fD := K1.fresh P1 hD
      have hpD := P1.pne hD
      have hcD := P1.cne hD
      refine lc_range (lo := 0) (n := m) (fun a Hx => ∃ acc : List Str, (∀ y ∈ acc, y ∈ keys (ups rs)) ∧ acc.length = a ∧ Hx D = some (.lst (acc.map V.str)) ∧ Keep p H Hx ∧ Pen Hx p c ns (q + 1 + a)) ?_ ?_ ?_
      · exact ⟨[], fun y h => (by cases h), rfl, upd_same, K1.new fD, P1.new hD⟩
      · rintro a Hx ha ⟨acc, hacc, hal, hDx, kx, Px⟩
        obtain ⟨dx, r, nm, l, kvs, ts, g1, _, _, g4, _, _⟩ := cw.kp kx P0
        have nnp : nm ≠ p := fun e => by
          obtain ⟨a1, l1, g, _⟩ := Px.pen
          rw [e, g] at g4
          unfold penO at g4
          cases g4
        have kl : ((keys (ups rs)).map V.str).length ≤ 1000 := by rw [List.length_map]; omega
        refine ⟨rfl, _, rfl, _, rfl, b, C, dx, _, _, rfl, g1, Y.cl, Y.nN, flds_names _ _ _, p, c, ns, q + 1 + a, _, _, rfl, Px, by omega, .inr (.inr ⟨nm, rfl, nnp, g4⟩), fun e => hne (List.map_eq_nil_iff.mp e), kl, fun j2 v2 Hy hv2 ky Py => ?_⟩
        obtain ⟨y, hy, rfl⟩ := pick_str hv2
        have hDy := ky D _ hDx hpD.symm
        refine ⟨_, hDy, ?_, acc ++ [y], ?_, ?_, ?_, ?_, ?_⟩
        · rw [List.length_map]; show _ < 16777216; omega
        · intro z hz
          rcases List.mem_append.mp hz with hz | hz
          · exact hacc z hz
          · rw [List.mem_singleton.mp hz]; exact hy
        · rw [List.length_append, hal]; rfl
        · rw [upd_same, List.map_append]; rfl
        · exact (kx.trans ky).new fD
        · exact Py.upd' hpD hcD
      · rintro Hx ⟨acc, hacc, hal, hDx, kx, Px⟩
        have clx := cl.kp kx P0
        have cwx := (cw.kp kx P0).at
        have htx := kx t _ ht htp
        obtain ⟨dx, fs, hp1, hp2⟩ := clx.ins
        have hp2 := hp2 "within" (by decide +kernel) (by decide +kernel) (by decide +kernel)
        refine ⟨_, rfl, D, rfl, ⟨_, SqL.of hDx⟩, fun D2 hD2 => ?_⟩
        refine lc_list (K := K) (a := D) (xs := acc.map V.str) (fun j Hz => Hz D2 = some (.lst (((acc.take j).filter fun y => decide (y ∈ look tb x)).map V.str)) ∧ Same Hx Hz) ?_ ?_ ?_ ?_
        · exact ⟨upd_same, (Same.refl Hx).put hD2⟩
        · rintro j Hz _ ⟨_, sz⟩
          exact SqL.of (sz D _ hDx)
        · rintro j y Hz hy ⟨e1, sz⟩
          have hjl : j < acc.length := by
            have := (List.getElem?_eq_some_iff.mp hy).1
            rwa [List.length_map] at this
          have hzj : acc[j]? = some acc[j] := List.getElem?_eq_getElem hjl
          rw [List.getElem?_map, hzj] at hy
          have ej : acc.take (j + 1) = acc.take j ++ [acc[j]] := by rw [List.take_add_one, hzj]; rfl
          generalize acc[j] = z at hzj hy ej
          cases hy
          have fl : ((acc.take j).filter fun y => decide (y ∈ look tb x)).length ≤ acc.length := Nat.le_trans (List.length_filter_le _ _) (by rw [List.length_take]; omega)
          refine ⟨rfl, _, rfl, wh, dx, fs, rfl, sz wh _ hp1, hp2, _, rfl, _, rfl, wh, x, z, tb, rfl, clx.same sz, hx, _, rfl, ite2 (fun h => ⟨_, rfl, _, e1, ?_, ?_, sz.put hD2⟩) (fun h => ⟨?_, sz⟩)⟩
          · rw [List.length_map]; show _ < 16777216; omega
          · rw [upd_same, ej, List.filter_append, List.filter_cons, if_pos h, List.map_append]
            rfl
          · rw [ej, List.filter_append, List.filter_cons, if_neg h, List.filter_nil, List.append_nil]
            exact e1
        · rintro Hz ⟨e1, sz⟩
          rw [List.length_map, List.take_length] at e1
          refine ⟨Nat.zero_le _, fun e0 he0 => ?_⟩
          have e2 : (upd Hz e0 (.lst [])) D2 = some (.lst ((acc.filter fun y => decide (y ∈ look tb x)).map V.str)) := by rw [upd_ne (ne_of_none e1 he0)]; exact e1
          have sg : Same Hx (upd Hz e0 (.lst [])) := sz.put (sz.free he0)
          refine ⟨.list _, .list [], .lst (SqL.of e2) (strs_dp _ _ _), .lst (SqL.of upd_same) .nil, strs_shaped _ fun y hy => ok y (hacc y (List.mem_filter.mp hy).1), rfl, ?_⟩
          rw [strs_eqv0]
          generalize upd Hz e0 (.lst []) = Hg at sg
          clear e1 e2
          have kl : ks.length ≤ 40 := by
            have := Lk.le
            have := List.length_filter_le (fun y => decide (y ∈ look tb x)) (keys (ups rs))
            unfold around at *
            omega
          obtain ⟨dxb, fsb, hb1, hb2⟩ := (cwx.same sg).ins
          have hb2 := hb2 "meets" (by decide +kernel) (by decide +kernel) (by decide +kernel)
          refine ⟨_, rfl, b, dxb, fsb, rfl, hb1, hb2, _, rfl, _, rfl, b, t, D, ks, acc, ups rs, rfl, cwx.same sg, sg t _ htx, sg D _ hDx, fun y hy => (mem_around.mp ((Lk.me y).mp hy).1).1, kl, by omega, fun H2 s2 => ?_⟩
          rw [W2.meets hx Lk hacc]
          refine ⟨_, rfl, _, rfl, _, rfl, rfl, _, rfl, iteNS rfl ?_⟩
          have sf := sg.trans s2
          exact ⟨_, _, _, _, _, rfl, kx.trans sf.keep, (Px.same sf).mono (by omega)⟩
    · rintro σ Hc ⟨v5, v6, v7, v8, v9, rfl, kc, Pc⟩
      exact k Hc kc (Pc.mono (by omega))
end
end K2
end
section
set_option Elab.async false
set_option maxRecDepth 100000
set_option linter.all false
namespace K2
open PySem L2 PySem.Spec PyProof.Rows
abbrev sKR : Stmt := top 29
abbrev nKR : List Str := ["_law_pen_here", "_law_rows_here", "_law_later_here", "_law_built", "_law_whole", "_law_uppers_here", "_law_word", "_law_firsts", "_law_found", "_law_one"]
theorem key_at {f : List Str → HO} {H : Hp} {kvs : List (Key × V)} {tb : Tb} (TB : Tab f H kvs tb) {i : Nat} {k : Key} {v : V} (h : kvs[i]? = some (k, v)) : ∃ x, (keys tb)[i]? = some x ∧ k = Sum.inr x := by
  have e : (kvs.map (·.1))[i]? = some k := by rw [List.getElem?_map, h]; rfl
  rw [TB.keys_eq, List.getElem?_map] at e
  cases hx : (keys tb)[i]? with
  | none => rw [hx] at e; cases e
  | some x => rw [hx] at e; cases e; exact ⟨x, rfl, rfl⟩
/-! rows shown -/
def rowsD (rs : List Row) : PyData := .tuple (rs.map fun r => tD (r.1 :: r.2))
theorem rows_dp (K : PySem.W.Frag) {H : Hp} : ∀ (rs : List Row) (ts : List Addr), RowsAt H ts rs → DpAll K H (ts.map V.ref) (rs.map fun r => tD (r.1 :: r.2))
  | [], [], _ => .nil
  | [], _ :: _, h => absurd h.1 (by simp)
  | _ :: _, [], h => absurd h.1 (by simp)
  | r :: rs, t :: ts, h => .cons (.tup (SqT.of (h.2 0 t r rfl rfl)) (strs_dp K H (r.1 :: r.2))) (rows_dp K rs ts ⟨by have := h.1; simpa using this, fun i u q a b => h.2 (i + 1) u q a b⟩)
theorem rows_show : ∀ rs : List Row, PyData.showableAll (rs.map fun r => tD (r.1 :: r.2)) = true
  | [] => rfl
  | r :: rs => by
    show (PyData.showable (tD (r.1 :: r.2)) && PyData.showableAll (rs.map fun r => tD (r.1 :: r.2))) = true
    rw [tD_show, rows_show rs]
    rfl
theorem rows_nodict : ∀ rs : List Row, PyData.hasDictAll (rs.map fun r => tD (r.1 :: r.2)) = false
  | [] => rfl
  | r :: rs => by
    show (PyData.hasDict (tD (r.1 :: r.2)) || PyData.hasDictAll (rs.map fun r => tD (r.1 :: r.2))) = false
    rw [tD_nodict, rows_nodict rs]
    rfl
theorem rows_depth : ∀ rs : List Row, PyData.depthAll (rs.map fun r => tD (r.1 :: r.2)) ≤ 1
  | [] => Nat.zero_le _
  | r :: rs => by
    show max (PyData.depth (tD (r.1 :: r.2))) (PyData.depthAll (rs.map fun r => tD (r.1 :: r.2))) ≤ 1
    rw [tD_depth]
    exact Nat.max_le.mpr ⟨Nat.le_refl _, rows_depth rs⟩
structure RowFit (r : Row) : Prop where
  ok : ∀ y ∈ r.1 :: r.2, sOk y = true
  h8 : ∀ y ∈ r.1 :: r.2, y.length ≤ 8
  len : (r.1 :: r.2).length ≤ 40
theorem rows_lay : ∀ rs : List Row, (∀ r ∈ rs, RowFit r) → PyData.canLayAll0 (rs.map fun r => tD (r.1 :: r.2)) = true
  | [], _ => rfl
  | r :: rs, h => by
    have q : PyData.canLay0 (tD (r.1 :: r.2)) = true := strs_lay _ (h r List.mem_cons_self).ok
    show (PyData.canLay0 (tD (r.1 :: r.2)) && PyData.canLayAll0 (rs.map fun r => tD (r.1 :: r.2))) = true
    rw [q, rows_lay rs fun y hy => h y (List.mem_cons_of_mem _ hy)]
    rfl
theorem rows_short : ∀ rs : List Row, PyData.intsShortAll 13 (rs.map fun r => tD (r.1 :: r.2)) = true
  | [] => rfl
  | r :: rs => by
    have q : PyData.intsShort 13 (tD (r.1 :: r.2)) = true := PyData.intsShortAll_strs 13 (r.1 :: r.2)
    show (PyData.intsShort 13 (tD (r.1 :: r.2)) && PyData.intsShortAll 13 (rs.map fun r => tD (r.1 :: r.2))) = true
    rw [q, rows_short rs]
    rfl
theorem rows_weight : ∀ rs : List Row, (∀ r ∈ rs, RowFit r) → PyData.weightAll (rs.map fun r => tD (r.1 :: r.2)) ≤ 361 * rs.length
  | [], _ => Nat.le_refl _
  | r :: rs, h => by
    have R := h r List.mem_cons_self
    have w := strs_weight (r.1 :: r.2) R.h8
    have l := R.len
    have ih := rows_weight rs fun y hy => h y (List.mem_cons_of_mem _ hy)
    show PyData.weightAll ((r.1 :: r.2).map PyData.str) + 1 + PyData.weightAll (rs.map fun r => tD (r.1 :: r.2)) ≤ 361 * (rs.length + 1)
    omega
theorem rowsD_show (rs : List Row) : (rowsD rs).showable = true := rows_show rs
theorem rowsD_nodict (rs : List Row) : (rowsD rs).hasDict = false := rows_nodict rs
theorem rowsD_depth (rs : List Row) : (rowsD rs).depth ≤ 2 := by
  have := rows_depth rs
  show PyData.depthAll (rs.map fun r => tD (r.1 :: r.2)) + 1 ≤ 2
  omega
theorem rowsD_fits {rs : List Row} (h : ∀ r ∈ rs, RowFit r) (hl : rs.length ≤ 40) : (rowsD rs).shown.length ≤ sizeLine := by
  refine PyData.shown_fits_of_layable0 (B := 13) (by decide) (by decide) ?_ (rows_short rs)
  have w := rows_weight rs h
  have d := rowsD_depth rs
  have q : PyData.weight (rowsD rs) = PyData.weightAll (rs.map fun r => tD (r.1 :: r.2)) := rfl
  show (PyData.canLayAll0 (rs.map fun r => tD (r.1 :: r.2)) && decide (PyData.depth (rowsD rs) ≤ 64) && decide (PyData.weight (rowsD rs) ≤ 2 ^ 20)) = true
  rw [rows_lay rs h, q]
  simp only [Bool.true_and, Bool.and_eq_true, decide_eq_true_eq]
  omega
theorem vw_ok {x : Str} (h : VW x) : sOk x = true ∧ x.length ≤ 8 := by
  have l := h.le
  refine ⟨?_, l⟩
  have q := h.low
  unfold sOk
  rw [Array.all_eq_true]
  intro i hi
  have := q x.cps[i] (by
    show x.cps[i] ∈ x.cps.toList
    exact Array.getElem_mem_toList hi)
  simp only [decide_eq_true_eq]
  omega
theorem Good.fit {rs : List Row} (g : Good rs) (h30 : rs.length ≤ 30) : ∀ r ∈ rs, RowFit r := by
  intro r hr
  obtain ⟨i, hi⟩ := List.getElem?_of_mem hr
  have R := g i r hi
  have il : i < rs.length := (List.getElem?_eq_some_iff.mp hi).1
  have vw : ∀ y ∈ r.1 :: r.2, VW y := fun y hy => by
    rcases List.mem_cons.mp hy with rfl | hy
    · exact R.vw
    · exact g.vw_known i y (R.sub y hy)
  refine ⟨fun y hy => (vw_ok (vw y hy)).1, fun y hy => (vw_ok (vw y hy)).2, ?_⟩
  have := R.nd.length_le_of_subset R.sub
  rw [knownAt_len (Nat.le_of_lt il)] at this
  rw [List.length_cons]
  omega
theorem RowsAt.left {H : Hp} {ts1 ts2 : List Addr} {rs1 rs2 : List Row} (h : RowsAt H (ts1 ++ ts2) (rs1 ++ rs2)) (e : ts1.length = rs1.length) : RowsAt H ts1 rs1 := by
  refine ⟨e, fun i t r a b => ?_⟩
  have i1 := (List.getElem?_eq_some_iff.mp a).1
  have i2 := (List.getElem?_eq_some_iff.mp b).1
  exact h.2 i t r (by rw [List.getElem?_append_left i1]; exact a) (by rw [List.getElem?_append_left i2]; exact b)
theorem refs_ne_pen {ts : List Addr} {c : Addr} {a l : Int} : HO.lst (ts.map V.ref) ≠ penO c a l := by
  unfold penO
  intro e
  injection e with e
  match ts, e with
  | [], e => simp at e
  | [_], e => simp at e
  | _ :: _ :: _, e => simp at e
theorem Pen.refs_ne {H : Hp} {p c q : Addr} {ns : List Int} {n : Nat} {ts : List Addr} (h : Pen H p c ns n) (hq : H q = some (.lst (ts.map V.ref))) : q ≠ p := fun e => by
  obtain ⟨a, l, g, _⟩ := h.pen
  rw [e, g] at hq
  exact refs_ne_pen (Option.some.inj hq).symm
theorem tD_eqv (x : Str) : PyData.eqv (tD [x]) (tD [x]) = true := by
  show ((x == x) && true) = true
  simp
theorem tD_shaped (xs : List Str) (h : ∀ x ∈ xs, sOk x = true) : SeqAt.shaped (tD xs) = true := by
  show (PyData.canLayAll0 (xs.map PyData.str) && decide (PyData.depthAll (xs.map PyData.str) + 1 ≤ 64)) = true
  rw [strs_lay xs h, strs_depth]
  rfl
def spKR : Sp := fun vs H Q _ => ∃ (p c l1 l2 : Addr) (ns : List Int) (n : Nat) (ts1 ts2 : List Addr) (rs1 rs2 : List Row), vs = [.ref p, .ref l1, .ref l2] ∧ Pen H p c ns n ∧ n + 1000 ≤ 100000 ∧ H l1 = some (.lst (ts1.map V.ref)) ∧ H l2 = some (.lst (ts2.map V.ref)) ∧ RowsAt H (ts1 ++ ts2) (rs1 ++ rs2) ∧ ts1.length = rs1.length ∧ Good (rs1 ++ rs2) ∧ (rs1 ++ rs2).length ≤ 30 ∧
  ∀ H', Keep p H H' → Pen H' p c ns (n + 700) → Q (.bl true) H'
section
variable {P : Program} {w : World} {K : PySem.W.Frag} {mg : Str → Option Value} {base : Heap}
theorem scKR : FnScope nKR ["_law_pen_here", "_law_rows_here", "_law_later_here"] (defScope sKR) := ⟨rfl, rfl, rfl, by decide +kernel, rfl, by decide +kernel, by decide +kernel⟩
theorem ok_kr {f fU fLe fTR fKO fM pM C : Addr} {mc : Value} {fd fdU fdLe fdTR fdKO fdM : FuncData} (F : Fun K "_law_kinds_right" "_law_kinds_right" sKR f fd) (T : Bi mg) (Y : Txt K mg C)
    (UP : Df K mg "_law_uppers" sUppers fU fdU ["_law_rows_here"]) (GU : FnOk P w K mg base CX0 1 fU fdU ["_law_rows_here"] spUppers) (LE : Df K mg "_law_least" sLeast fLe fdLe ["_law_uppers_here", "_law_some"]) (GLe : FnOk P w K mg base CX0 1 fLe fdLe ["_law_uppers_here", "_law_some"] spLeast)
    (TR : Df K mg "_law_taken_right" sTR fTR fdTR ["_law_pen_here", "_law_whole", "_law_built", "_law_word", "_law_sort_so"]) (GTR : FnOk P w K mg base CX0 4 fTR fdTR ["_law_pen_here", "_law_whole", "_law_built", "_law_word", "_law_sort_so"] (spTR C))
    (mKO : Meth K C "kind_of" fKO) (GKO : FnOk P w K mg base CX0 4 fKO fdKO ["self", "name", "among"] (spKO C)) (bKO : Binds K fdKO ["self", "name", "among"] [])
    (kKO : KBn K fdKO ["self", "name", "among"] 1 ["among", "name"] (fun us ws => us ++ ws.reverse) (fun vs zs => vs ++ zs.reverse))
    (cR : ClX.CRead K C mc) (cM : ClX.CMet K C mc "made" pM fM) (GM : FnOk P w K mg base CX0 6 fM fdM ["cls", "rows"] (spMade C)) (bM : Binds K fdM ["cls", "rows"] []) : FnG P w K mg base 7 f fd ["_law_pen_here", "_law_rows_here", "_law_later_here"] spKR := by
  refine okG F scKR (fun vs H Q E h => ?_) (fun cdv A outer s H vs Q E hr gu h => ?_)
  · obtain ⟨p, c, l1, l2, ns, n, ts1, ts2, rs1, rs2, rfl, _⟩ := h
    rfl
  · obtain ⟨p, c, l1, l2, ns, n, ts1, ts2, rs1, rs2, rfl, P0, hn, hl1, hl2, R, et, g, h30, k⟩ := h
    have hu := hu_of hr
    have hr1 : Room 1 _ := hr.mono (by decide)
    have hr4 : Room 4 _ := hr.mono (by decide)
    have hr6 : Room 6 _ := hr.mono (by decide)
    have g1 : Good rs1 := by
      have := good_take g rs1.length
      rwa [List.take_left' rfl] at this
    have lrs := h30
    rw [List.length_append] at lrs
    have elen := R.1
    rw [List.length_append, List.length_append] at elen
    refine ⟨_, (pss_cons (ps_asg (pe_tup (pa_cons (ClX.pe_cmeth (pe_glob (v := .ref C) rfl Y.mgC rfl) cR cM (GM.raw bM .nil) hr6 pass0 (pa_cons (pv 1) pa_nil)) (pa_cons (ClX.pe_cmeth (pe_glob (v := .ref C) rfl Y.mgC rfl) cR cM (GM.raw bM .nil) hr6 pass0 (pa_cons (pe_op op_cat (pv 1) (pv 2)) pa_nil)) pa_nil))) (pg_tup rfl (pgs_cons (pg_name (i := 3) scKR.nd rfl (Or.inr rfl)) (pgs_cons (pg_name (i := 4) scKR.nd rfl (Or.inl rfl)) pgs_nil))))
      (pss_cons (ps_set (i := 5) scKR.nd rfl (Or.inl rfl) (pe_call GU hr1 (by rfl) UP.m UP.F.kp UP.b .nil pass0 (pa_cons (pe_op op_cat (pv 1) (pv 2)) pa_nil)))
      (pss_cons (ps_lock (ps_for PassesOwn.never rfl (pi_keys (pv 5)) (pg_name (i := 6) scKR.nd rfl (Or.inl rfl))
      (pss_cons (ps_setLc (i := 7) (own := [("_law_one", 9)]) (g := gName 9)  rfl scKR.nd rfl rfl (sw_true rfl rfl rfl (by decide +kernel)) (pi_list (pe_dget hu (pv 5) (pv 6) (fun _ _ => rfl))) (blkOk_by (N := nKR) (sc := defScope sKR) (by decide +kernel)) (fun _ _ _ _ _ => pg_name (i := 9) scKR.nd rfl (Or.inl rfl)) (fun _ _ _ _ _ => pts_one (pt_cmpR (op_in_seqK (K' := K) rfl) (pv 9) (pe_fldK (K' := K) rfl (pv 3) rfl) rfl)) (fun _ _ _ _ _ => pv 9))
        (pss_cons (ps_set (i := 8) scKR.nd rfl (Or.inl rfl) (pe_meth (pv 4) Y.cl mKO GKO hr4 bKO .nil pass0 (pa_cons (pv 6) (pa_cons (pv 3) pa_nil))))
        (pss_cons (ps_if (pt_cmpR op_ne (pe_callB (call_reprD gu hr.units) (by rfl) T.repr (by decide +kernel)  (pa_cons (pv 8) pa_nil)) (pe_callB (call_reprD gu hr.units) (by rfl) T.repr (by decide +kernel)  (pa_cons (pe_call GLe hr1 (by rfl) LE.m LE.F.kp LE.b .nil pass0 (pa_cons (pv 5) (pa_cons (pv 7) pa_nil))) pa_nil)) (nomark _))
        (pss_one (ps_ret pe_bl))
        pss_nil)
        (pss_cons (ps_if (pt_cmpR op_ne (pe_callB (call_reprD gu hr.units) (by rfl) T.repr (by decide +kernel)  (pa_cons (pe_methK (pv 4) Y.cl mKO GKO hr4 kKO pass0 (pk_cons (pv 3) (pk_cons (pv 6) pk_nil))) pa_nil)) (pe_callB (call_reprD gu hr.units) (by rfl) T.repr (by decide +kernel)  (pa_cons (pv 8) pa_nil)) (nomark _))
        (pss_one (ps_ret pe_bl))
        pss_nil)
        (pss_cons (ps_if (PW.pt (pw_and (pt_cmpR op_in_seq (pv 6) (pe_fld (pv 3) rfl) rfl) (pw_and1 (pt_cmpR (op_neD hr.units) (pv 8) (pe_tup (pa_cons (pv 6) pa_nil)) (nomark _)))))
        (pss_one (ps_ret pe_bl))
        pss_nil)
        (pss_one (ps_if (pt_not (pt_val (pe_call GTR hr4 (by rfl) TR.m TR.F.kp TR.b .nil pass0 (pa_cons (pv 0) (pa_cons (pv 4) (pa_cons (pv 3) (pa_cons (pv 6) (pa_cons (pv 8) pa_nil))))))))
        (pss_one (ps_ret pe_bl))
        pss_nil)))))))))
      (pss_one (ps_ret (pe_and (pe_cmpR op_eq (pe_callB (call_reprD gu hr.units) (by rfl) T.repr (by decide +kernel)  (pa_cons (pe_fld (pv 3) rfl) pa_nil)) (pe_callB (call_reprD gu hr.units) (by rfl) T.repr (by decide +kernel)  (pa_cons (pe_callTy call_tuple_of (by rfl) T.tuple (by decide +kernel) (pa_cons (pv 1) pa_nil)) pa_nil)) (nomark _)) (pe_one (pe_cmpR op_eq (pe_callB (call_reprD gu hr.units) (by rfl) T.repr (by decide +kernel)  (pa_cons (pe_fld (pv 4) rfl) pa_nil)) (pe_callB (call_reprD gu hr.units) (by rfl) T.repr (by decide +kernel)  (pa_cons (pe_callTy call_tuple_of (by rfl) T.tuple (by decide +kernel) (pa_cons (pe_op op_cat (pv 1) (pv 2)) pa_nil)) pa_nil)) (nomark _))))))))), ?_⟩
    refine ⟨rfl, _, rfl, l1, ts1, rs1, rfl, hl1, R.left et, g1, by omega, fun b H1 cb s1 => ?_⟩
    refine ⟨rfl, _, rfl, _, rfl, l1, l2, _, _, rfl, rfl, s1 l1 _ hl1, s1 l2 _ hl2, ?_, fun l3 h3 => ?_⟩
    · rw [List.length_map, List.length_map]; show _ ≤ 16777216; omega
    have q3 : Same H1 (upd H1 l3 (.lst (ts1.map V.ref ++ ts2.map V.ref))) := (Same.refl H1).put h3
    have s3 := s1.trans q3
    refine ⟨l3, ts1 ++ ts2, rs1 ++ rs2, rfl, by rw [upd_same, List.map_append], R.mono fun q r e => s3 q _ e, g, h30, fun wh H4 cw s4 => ?_⟩
    have s14 := s3.trans s4
    have cb4 := cb.same (q3.trans s4)
    have hs2 : (2 : Nat) ≤ sizeLine := by show 2 ≤ 16777216; decide
    refine ⟨hs2, fun tp htp => ⟨tp, _, rfl, SqT.of upd_same, rfl, _, _, rfl, _, _, rfl, rfl, ?_⟩⟩
    have q4 : Same H4 (upd H4 tp (.tup [V.ref b, V.ref wh])) := (Same.refl H4).put htp
    generalize upd H4 tp (.tup [V.ref b, V.ref wh]) = H4t at q4 ⊢
    have s4t := s14.trans q4
    refine ⟨_, rfl, _, rfl, l1, l2, _, _, rfl, rfl, s4t l1 _ hl1, s4t l2 _ hl2, ?_, fun l5 h5 => ?_⟩
    · rw [List.length_map, List.length_map]; show _ ≤ 16777216; omega
    have q5 : Same H4t (upd H4t l5 (.lst (ts1.map V.ref ++ ts2.map V.ref))) := (Same.refl H4t).put h5
    have hl5 : (upd H4t l5 (.lst (ts1.map V.ref ++ ts2.map V.ref))) l5 = some (.lst ((ts1 ++ ts2).map V.ref)) := by rw [upd_same, List.map_append]
    generalize upd H4t l5 (.lst (ts1.map V.ref ++ ts2.map V.ref)) = H5 at q5 hl5 ⊢
    have s5 := s4t.trans q5
    have cb5 := cb4.same (q4.trans q5)
    have cw5 := cw.same (q4.trans q5)
    have P5 := P0.same s5
    refine ⟨l5, ts1 ++ ts2, rs1 ++ rs2, rfl, hl5, R.mono fun q r e => s5 q _ e, g, by omega, fun d kvs H6 hd5 hd6 TB6 s6 => ?_⟩
    have W2 := two_of g
    have hkl : (keys (ups (rs1 ++ rs2))).length ≤ 33 := by
      rw [keys_ups]
      simp [base0]
      omega
    have hkl1 : (keys (ups rs1)).length ≤ 33 := by
      rw [keys_ups]
      simp [base0]
      omega
    have hkn1 : keys (ups rs1) ≠ [] := by
      rw [keys_ups]
      simp [base0]
    have hvw : ∀ x ∈ keys (ups (rs1 ++ rs2)), VW x := by
      have := g.vw_known (rs1 ++ rs2).length
      rw [← keys_ups_take, List.take_length] at this
      exact this
    have cwt := cw5.at
    have fit1 := g1.fit (by omega)
    have fit2 := g.fit h30
    generalize htb : ups (rs1 ++ rs2) = tb at TB6 W2 hkl hvw cwt
    have TO := W2.T
    have line40 : ∀ x ∈ keys tb, (look tb x).length ≤ 40 := fun x hx => by
      have q := TO.line hx
      have := q.1.length_le_of_subset q.2.2.2
      omega
    have sok : ∀ x ∈ keys tb, sOk x = true := fun x hx => (vw_ok (hvw x hx)).1
    have s8' : ∀ x ∈ keys tb, x.length ≤ 8 := fun x hx => (vw_ok (hvw x hx)).2
    refine ⟨d, .dK kvs, hd6, True.intro, fun od => ?_⟩
    have SL : Same H5 (upd H6 d (.frz od (.dK kvs))) := s6.put hd5
    have hdL : (upd H6 d (.frz od (.dK kvs))) d = some (.frz od (.dK kvs)) := upd_same
    have TBL : Tab fL (upd H6 d (.frz od (.dK kvs))) kvs tb := TB6.mono fun a us e => by
      rw [upd_ne (ne_of e hd6 (by unfold fL; intro z; cases z))]
      exact e
    generalize upd H6 d (.frz od (.dK kvs)) = HL at SL hdL TBL ⊢
    have PL := P5.same SL
    have cbL := cb5.same SL
    have cwL := cwt.same SL
    have noP : ∀ us, HL p ≠ some (fL us) := fun us e => PL.strs_ne e rfl
    have hdp : d ≠ p := fun e => by
      obtain ⟨a1, l1', g1', _⟩ := PL.pen
      rw [e, g1'] at hdL
      unfold penO at hdL
      cases hdL
    refine ⟨_, rfl, d, od, rfl, .inl ⟨kvs, hdL, for_it walk_keys (fun i σ Hx => ∃ v6 v7 v8 v9 : Option V, σ = [some (.ref p), some (.ref l1), some (.ref l2), some (.ref b), some (.ref wh), some (.ref d), v6, v7, v8, v9] ∧ Keep p HL Hx ∧ Pen Hx p c ns (n + 20 * i)) ?_ ?_ ?_ ?_⟩⟩
    · exact ⟨_, _, _, _, rfl, Keep.refl _ _, PL⟩
    · rintro i σ Hx _ ⟨v6, v7, v8, v9, rfl, kx, Px⟩
      exact kx d _ hdL hdp
    · rintro i y σ Hx Hy hi ⟨v6, v7, v8, v9, rfl, kx, Px⟩ ⟨rfl, kk, vv, hkv, rfl⟩
      have hi33 : i < 33 := by
        have e1 := TBL.len
        have e2 : (keys tb).length = tb.length := by simp [keys]
        omega
      obtain ⟨x, hx0, rfl⟩ := key_at TBL hkv
      have hx : x ∈ keys tb := List.mem_of_getElem? hx0
      obtain ⟨u, hu1, hu2⟩ := TBL.val hx
      have hux := kx u _ hu2 (fun e => noP _ (e ▸ hu2))
      unfold fL at hux
      have hdx : DL Hy d kvs := .inr ⟨od, kx d _ hdL hdp⟩
      have cbx := cbL.kp kx PL
      have cwx := cwL.kp kx PL
      have TBx := TBL.mp kx noP
      have ll := line40 x hx
      refine ⟨_, rfl, _, rfl, d, _, rfl, hdx.get hu1, u, rfl, ⟨_, SqL.of hux⟩, fun D hD => ?_⟩
      refine lc_list (K := K) (a := u) (xs := (look tb x).map V.str) (fun j Hz => Hz D = some (.lst ((((look tb x).take j).filter fun y => decide (y ∈ keys (ups rs1))).map V.str)) ∧ Same Hy Hz) ?_ ?_ ?_ ?_
      · exact ⟨upd_same, (Same.refl Hy).put hD⟩
      · rintro j Hz _ ⟨_, sz⟩
        exact SqL.of (sz u _ hux)
      · rintro j y Hz hy ⟨e1, sz⟩
        have hjl : j < (look tb x).length := by
          have := (List.getElem?_eq_some_iff.mp hy).1
          rwa [List.length_map] at this
        have hzj : (look tb x)[j]? = some (look tb x)[j] := List.getElem?_eq_getElem hjl
        rw [List.getElem?_map, hzj] at hy
        have ej : (look tb x).take (j + 1) = (look tb x).take j ++ [(look tb x)[j]] := by rw [List.take_add_one, hzj]; rfl
        generalize (look tb x)[j] = z at hzj hy ej
        cases hy
        have fl : (((look tb x).take j).filter fun y => decide (y ∈ keys (ups rs1))).length ≤ (look tb x).length := Nat.le_trans (List.length_filter_le _ _) (by rw [List.length_take]; omega)
        obtain ⟨dx, r, nm, l, kvs', ts', g1', _, _, g4', _, _⟩ := cbx.same sz
        refine ⟨rfl, _, rfl, _, rfl, b, C, dx, _, _, rfl, g1', Y.cl, Y.nN, flds_names _ _ _, nm, _, rfl, .inr (SqT.of g4'), rfl, flat_strs _, _, rfl, ?_⟩
        rw [if_neg Bool.false_ne_true, inV_strs]
        refine ite2 (fun h => ⟨_, rfl, _, e1, ?_, ?_, sz.put hD⟩) (fun h => ⟨?_, sz⟩)
        · rw [List.length_map]; show _ < 16777216; omega
        · rw [upd_same, ej, List.filter_append, List.filter_cons, if_pos h, List.map_append]
          rfl
        · rw [ej, List.filter_append, List.filter_cons, if_neg h, List.filter_nil, List.append_nil]
          exact e1
      · rintro Hz ⟨e1, sz⟩
        rw [List.length_map, List.take_length] at e1
        have hfs : ∀ y, y ∈ (look tb x).filter (fun y => decide (y ∈ keys (ups rs1))) ↔ y ∈ around (ups rs1) tb x := fun y => by
          rw [mem_around, List.mem_filter, decide_eq_true_iff]
          exact And.comm
        have fl : ((look tb x).filter fun y => decide (y ∈ keys (ups rs1))).length ≤ (look tb x).length := List.length_filter_le _ _
        generalize (look tb x).filter (fun y => decide (y ∈ keys (ups rs1))) = fs at e1 hfs fl
        have fsk : ∀ y ∈ fs, y ∈ keys tb := fun y hy => W2.sub (mem_around.mp ((hfs y).mp hy)).1
        have clz := cwx.same sz
        obtain ⟨dxw, fsw, hw1, hw2⟩ := clz.ins
        have hw2 := hw2 "kind_of" (by decide +kernel) (by decide +kernel) (by decide +kernel)
        -- found
        refine ⟨_, rfl, wh, dxw, fsw, rfl, hw1, hw2, _, rfl, _, rfl, wh, b, x, tb, rs1, rfl, clz, cbx.same sz, hx, by omega, fun ys r H7 Ly nr hr7 s7 => ?_⟩
        have Ly : Least (ups rs1) (around (ups rs1) tb x) ys := Ly
        have yk : ∀ y ∈ ys, y ∈ keys tb := fun y hy => W2.sub (mem_around.mp ((Ly.me y).mp hy).1).1
        have yl : ys.length ≤ 40 := by
          have := Ly.le
          have := List.length_filter_le (fun y => decide (y ∈ look tb x)) (keys (ups rs1))
          unfold around at *
          omega
        have yok : ∀ y ∈ ys, sOk y = true := fun y hy => sok y (yk y hy)
        have yf : (tD ys).shown.length ≤ sizeLine := tD_fits yok (fun y hy => s8' y (yk y hy)) yl
        have yd : (tD ys).depth ≤ 8 := by rw [tD_depth]; decide
        have z7 := sz.trans s7
        -- repr(found) != repr(least(..))
        refine ⟨_, rfl, r, tD ys, rfl, .tup (SqT.of hr7) (strs_dp _ _ _), tD_show _, tD_nodict _, yd, yf, ?_⟩
        refine ⟨_, rfl, _, rfl, d, D, kvs, tb, fs, rfl, hdx.same z7, TBx.mono fun a us e => z7 a _ e, line40, s7 D _ e1, fsk, by omega, fun y hy => sok y (fsk y hy), fun zs r2 H8 Lz _ hr8 s8 => ?_⟩
        obtain rfl : zs = ys := W2.least Ly hfs Lz
        refine ⟨r2, tD zs, rfl, .tup (SqT.of hr8) (strs_dp _ _ _), tD_show _, tD_nodict _, yd, yf, rfl, _, rfl, iteNS rfl ?_⟩
        have z8 := z7.trans s8
        have r8 := s8 r _ hr7
        -- repr(kind_of(among =, name =)) != repr(found)
        refine ⟨_, rfl, wh, dxw, fsw, rfl, (s7.trans s8) wh _ hw1, hw2, _, rfl, _, rfl, rfl, wh, b, x, tb, rs1, rfl, cwx.same z8, cbx.same z8, hx, by omega, fun ws r3 H9 Lw _ hr9 s9 => ?_⟩
        obtain rfl : ws = zs := Least.one Lw Ly fun _ => Iff.rfl
        refine ⟨r3, tD ws, rfl, .tup (SqT.of hr9) (strs_dp _ _ _), tD_show _, tD_nodict _, yd, yf, ?_⟩
        refine ⟨_, rfl, r, tD ws, rfl, .tup (SqT.of (s9 r _ r8)) (strs_dp _ _ _), tD_show _, tD_nodict _, yd, yf, rfl, _, rfl, iteNS rfl ?_⟩
        have z9 := z8.trans s9
        have r9 := s9 r _ r8
        have P9 := Px.same z9
        obtain ⟨dx, rr, nm, l, kvs', ts', g1', _, _, g4', _, _⟩ := cbx.same z9
        refine ⟨_, rfl, _, rfl, b, C, dx, _, _, rfl, g1', Y.cl, Y.nN, flds_names _ _ _, nm, _, rfl, .inr (SqT.of g4'), rfl, flat_strs _, _, rfl, ?_⟩
        have ev : inV (kV (Sum.inr x : Key)) ((keys (ups rs1)).map V.str) = decide (x ∈ keys (ups rs1)) := inV_strs x _
        rw [if_neg Bool.false_ne_true, ev]
        refine ite2 (fun h => ?_) (fun _ => iteF ?_)
        · have hx1 : x ∈ keys (ups rs1) := of_decide_eq_true h
          obtain rfl : ws = [x] := W2.own hx1 Ly
          refine ⟨_, rfl, _, rfl, (by show 1 ≤ sizeLine; decide), fun t1 h1 => ?_⟩
          have sf : Same H9 (upd H9 t1 (.tup [V.str x])) := (Same.refl H9).put h1
          refine ⟨tD [x], tD [x], .tup (SqT.of (sf r _ r9)) (strs_dp _ _ [x]), .tup (SqT.of upd_same) (strs_dp K _ [x]), tD_shaped _ yok, tD_shaped _ yok, _, rfl, ?_⟩
          rw [tD_eqv]
          refine iteF ?_
          refine ⟨_, rfl, _, rfl, _, rfl, _, rfl, _, rfl, p, c, wh, b, r, ns, n + 20 * i, x, rs1, tb, _, rfl, P9.same sf, by omega, cwx.same (z9.trans sf), cbx.same (z9.trans sf), W2, hx, hkn1, hkl1, fun y hy => sok y (W2.sub hy), sf r _ r9, Ly, fun Hz kz Pz => ⟨_, rfl, iteF ⟨_, _, _, _, rfl, (kx.trans (z9.trans sf).keep).trans kz, Pz.mono (by omega)⟩⟩⟩
        · refine ⟨_, rfl, _, rfl, _, rfl, _, rfl, _, rfl, p, c, wh, b, r, ns, n + 20 * i, x, rs1, tb, _, rfl, P9.same (Same.refl H9), by omega, cwx.same (z9.trans (Same.refl H9)), cbx.same (z9.trans (Same.refl H9)), W2, hx, hkn1, hkl1, fun y hy => sok y (W2.sub hy), (Same.refl H9) r _ r9, Ly, fun Hz kz Pz => ⟨_, rfl, iteF ⟨_, _, _, _, rfl, (kx.trans (z9.trans (Same.refl H9)).keep).trans kz, Pz.mono (by omega)⟩⟩⟩
    · rintro σ Hx ⟨v6, v7, v8, v9, rfl, kx, Px⟩
      have hkk : kvs.length ≤ 33 := by
        have e1 := TBL.len
        have e2 : (keys tb).length = tb.length := by simp [keys]
        omega
      refine ⟨kx d _ hdL hdp, ?_⟩
      have ku : Keep p H5 (upd Hx d (.dK kvs)) := fun q o e nq => by
        rw [upd_ne (ne_of_none e hd5)]
        exact kx q o (SL q o e) nq
      have Pu : Pen (upd Hx d (.dK kvs)) p c ns (n + 700) := by
        have hdc : c ≠ d := by
          have := (kx d _ hdL hdp)
          exact ne_of Px.cells this (by intro z; cases z)
        exact (Px.upd' hdp.symm hdc).mono (by omega)
      generalize upd Hx d (.dK kvs) = Hu at ku Pu ⊢
      have kH : Keep p H Hu := s5.keep.trans ku
      have n1 := P0.refs_ne hl1
      have n2 := P0.refs_ne hl2
      have u1 := kH l1 _ hl1 n1
      have u2 := kH l2 _ hl2 n2
      have Ru : RowsAt Hu (ts1 ++ ts2) (rs1 ++ rs2) := R.keep P0 kH
      have f1 : (rowsD rs1).shown.length ≤ sizeLine := rowsD_fits fit1 (by omega)
      have f2 : (rowsD (rs1 ++ rs2)).shown.length ≤ sizeLine := rowsD_fits fit2 (by omega)
      have d1 : (rowsD rs1).depth ≤ 8 := Nat.le_trans (rowsD_depth _) (by decide)
      have d2 : (rowsD (rs1 ++ rs2)).depth ≤ 8 := Nat.le_trans (rowsD_depth _) (by decide)
      obtain ⟨dx, r, nm, l, kvs', ts', g1', _, _, _, g5', g6'⟩ := cb5.kp ku P5
      refine ⟨_, rfl, b, C, dx, _, _, rfl, g1', Y.cl, Y.nR, flds_rows _ _ _, r, rowsD rs1, rfl, .tup (SqT.of g5') (rows_dp K rs1 ts' g6'), rowsD_show _, rowsD_nodict _, d1, f1, ?_⟩
      refine ⟨_, rfl, l1, _, rfl, .inl ⟨SqL.of u1, fun t1 h1 => ?_⟩⟩
      have su : Same Hu (upd Hu t1 (.tup (ts1.map V.ref))) := (Same.refl Hu).put h1
      refine ⟨t1, rowsD rs1, rfl, .tup (SqT.of upd_same) (rows_dp K rs1 ts1 ((Ru.left et).mono fun q r e => su q _ e)), rowsD_show _, rowsD_nodict _, d1, f1, rfl, ?_⟩
      refine ⟨_, rfl, ite2 (fun _ => ?_) (fun h => absurd (decide_eq_true rfl) h)⟩
      have cwu := (cw5.kp ku P5).same su
      generalize upd Hu t1 (.tup (ts1.map V.ref)) = Hv at su cwu ⊢
      obtain ⟨dxw, rw', nmw, lw, kvsw, tsw, w1, _, _, _, w5, w6⟩ := cwu
      refine ⟨_, rfl, wh, C, dxw, _, _, rfl, w1, Y.cl, Y.nR, flds_rows _ _ _, rw', rowsD (rs1 ++ rs2), rfl, .tup (SqT.of w5) (rows_dp K (rs1 ++ rs2) tsw w6), rowsD_show _, rowsD_nodict _, d2, f2, ?_⟩
      refine ⟨_, rfl, _, rfl, l1, l2, _, _, rfl, rfl, su l1 _ u1, su l2 _ u2, ?_, fun l7 h7 => ?_⟩
      · rw [List.length_map, List.length_map]; show _ ≤ 16777216; omega
      have sv : Same Hv (upd Hv l7 (.lst (ts1.map V.ref ++ ts2.map V.ref))) := (Same.refl Hv).put h7
      refine ⟨l7, _, rfl, .inl ⟨SqL.of upd_same, fun t2 h2 => ?_⟩⟩
      have sw : Same Hv (upd (upd Hv l7 (.lst (ts1.map V.ref ++ ts2.map V.ref))) t2 (.tup (ts1.map V.ref ++ ts2.map V.ref))) := sv.put (sv.free h2)
      have Rw := Ru.mono fun q r e => (su.trans sw) q _ e
      have ew := rows_dp K (rs1 ++ rs2) (ts1 ++ ts2) Rw
      rw [List.map_append] at ew
      refine ⟨t2, rowsD (rs1 ++ rs2), rfl, .tup (SqT.of upd_same) ew, rowsD_show _, rowsD_nodict _, d2, f2, rfl, ?_⟩
      rw [decide_eq_true rfl]
      exact k _ (kH.trans (su.trans sw).keep) (Pu.same (su.trans sw))
end
end K2
end
section
set_option Elab.async false
set_option maxRecDepth 100000
set_option linter.all false
namespace K2
open PySem L2
abbrev sLater : Stmt := top 27
abbrev nLater : List Str := ["_law_pen_here", "_law_words_here", "_law_known", "_law_some", "_law_found", "_law_word", "_law_many"]
/-- rows of the words ws2, behind those of ws1 -/
def spLater : Sp := fun vs H Q _ => ∃ (p c y z : Addr) (ns : List Int) (n : Nat) (ws ws2 : List Str) (rs0 : List Row), vs = [.ref p, .ref y, .ref z] ∧ Pen H p c ns n ∧ n + 2000 ≤ 100000 ∧ H y = some (.lst (ws2.map V.str)) ∧ H z = some (.lst ((base0 ++ ws).map V.str)) ∧ Words (ws ++ ws2) ∧ (ws ++ ws2).length ≤ 31 ∧ Good rs0 ∧ rs0.map (·.1) = ws ∧
  ∀ (l : Addr) (ts : List Addr) (rs : List Row) (H' : Hp), Good (rs0 ++ rs) → rs.map (·.1) = ws2 → RowsAt H' ts rs → H' l = some (.lst (ts.map V.ref)) → Keep p H H' → Pen H' p c ns (n + 1500) → Q (.ref l) H'
section
variable {P : Program} {w : World} {K : PySem.W.Frag} {mg : Str → Option Value} {base : Heap}
theorem scLater : FnScope nLater ["_law_pen_here", "_law_words_here", "_law_known"] (defScope sLater) := ⟨rfl, rfl, rfl, by decide +kernel, rfl, by decide +kernel, by decide +kernel⟩
theorem ok_later {f fP fM : Addr} {fd fdP fdM : FuncData} (F : Fun K "_law_later" "_law_later" sLater f fd) (T : Bi mg) (PK : Df K mg "_law_pick" sPick fP fdP ["_law_pen_here", "_law_some"]) (GP : FnOk P w K mg base CX0 2 fP fdP ["_law_pen_here", "_law_some"] spPick)
    (MI : Df K mg "_law_mixed" sMixed fM fdM ["_law_pen_here", "_law_some"]) (GM : FnOk P w K mg base CX0 2 fM fdM ["_law_pen_here", "_law_some"] spMixed) : FnOk P w K mg base CX0 3 f fd ["_law_pen_here", "_law_words_here", "_law_known"] spLater := by
  refine F.ok scLater (fun vs H Q E h => ?_) (fun cdv A outer s H vs Q E hr h => ?_)
  · obtain ⟨p, c, y, z, ns, n, ws, ws2, rs0, rfl, _⟩ := h
    rfl
  · obtain ⟨p, c, y, z, ns, n, ws, ws2, rs0, rfl, hP, hn, hy, hz, hw, h31, g0, e0, k⟩ := h
    have hr1 : Room 2 _ := hr
    refine ⟨_, (pss_cons (ps_set (i := 3) scLater.nd rfl (Or.inl rfl) (pe_callTy call_list_of (by rfl) T.list (by decide +kernel) (pa_cons (pv 2) pa_nil)))
      (pss_cons (ps_set (i := 4) scLater.nd rfl (Or.inl rfl) (pe_lst pa_nil))
      (pss_cons (ps_for PassesOwn.never rfl (pi_list (pv 1)) (pg_name (i := 5) scLater.nd rfl (Or.inl rfl))
      (pss_cons (ps_set (i := 6) scLater.nd rfl (Or.inl rfl) (pe_call GP hr1 (by rfl) PK.m PK.F.kp PK.b .nil pass0 (pa_cons (pv 0) (pa_cons (pe_lst (pa_cons pe_int (pa_cons pe_int (pa_cons pe_int (pa_cons pe_int (pa_cons pe_int pa_nil)))))) pa_nil))))
        (pss_cons (ps_expr (pe_bm PySem.F.plainAttrs_list PySem.F.slot_list_append PySem.F.type_list_append mt_append (pv 4) (pa_cons (pe_op op_catT (pe_tup (pa_cons (pv 5) pa_nil)) (pe_callTy call_tuple_of (by rfl) T.tuple (by decide +kernel) (pa_cons (pe_slice sl_list (pe_call GM hr1 (by rfl) MI.m MI.F.kp MI.b .nil pass0 (pa_cons (pv 0) (pa_cons (pv 3) pa_nil))) po_none (po_some (pv 6))) pa_nil))) pa_nil)))
        (pss_one (ps_expr (pe_bm PySem.F.plainAttrs_list PySem.F.slot_list_append PySem.F.type_list_append mt_append (pv 3) (pa_cons (pv 5) pa_nil)))))))
      (pss_one (ps_ret (pv 4)))))), ?_⟩
    refine ⟨_, rfl, z, _, rfl, .inl (SqL.of hz), fun kn hkn => ⟨Nat.zero_le _, fun fl hfl => ?_⟩⟩
    have nkf : kn ≠ fl := fun e => by rw [← e, upd_same] at hfl; cases hfl
    have hfl0 : H fl = none := by rw [upd_ne nkf.symm] at hfl; exact hfl
    have pk := hP.pne hkn
    have ck := hP.cne hkn
    have pf := hP.pne hfl0
    have cf := hP.cne hfl0
    rw [List.length_append] at h31
    refine ⟨_, rfl, y, rfl, ⟨_, SqL.of (by rw [upd_ne (ne_of_none hy hfl0), upd_ne (ne_of_none hy hkn)]; exact hy)⟩, for_list (K := K) (a := y) (xs := ws2.map V.str)
      (fun i σ Hc => ∃ (rs : List Row) (ts : List Addr) (v5 v6 : Option V), σ = [some (.ref p), some (.ref y), some (.ref z), some (.ref kn), some (.ref fl), v5, v6] ∧ Good (rs0 ++ rs) ∧ rs.map (·.1) = ws2.take i ∧ RowsAt Hc ts rs ∧ Hc kn = some (.lst ((base0 ++ (ws ++ ws2.take i)).map V.str)) ∧ Hc fl = some (.lst (ts.map V.ref)) ∧ Keep p H Hc ∧ Pen Hc p c ns (n + 36 * i)) ?_ ?_ ?_ ?_⟩
    · refine ⟨[], [], none, none, rfl, by rw [List.append_nil]; exact g0, rfl, rowsAt_nil _, by rw [upd_ne nkf, upd_same, List.take_zero, List.append_nil], upd_same, ((Keep.refl p H).new hkn).new hfl0, (hP.new hkn).new hfl⟩
    · rintro i σ Hc hi ⟨rs, ts, v5, v6, rfl, g, en, R, hK, hF, kc, Pc⟩
      exact SqL.of (kc y _ hy (hP.strs_ne hy))
    · rintro i x σ Hc hi ⟨rs, ts, v5, v6, rfl, g, en, R, hK, hF, kc, Pc⟩
      have hil : i < ws2.length := by
        have := (List.getElem?_eq_some_iff.mp hi).1
        rwa [List.length_map] at this
      have hwi : ws2[i]? = some ws2[i] := List.getElem?_eq_getElem hil
      rw [List.getElem?_map, hwi] at hi
      cases hi
      have hrl : rs.length = i := by
        have := congrArg List.length en
        rw [List.length_map, List.length_take] at this
        omega
      have enA : (rs0 ++ rs).map (·.1) = ws ++ ws2.take i := by rw [List.map_append, e0, en]
      have hkl : (base0 ++ (ws ++ ws2.take i)).length = ws.length + i + 2 := by
        simp [base0, List.length_take]
        omega
      have hnd : (base0 ++ (ws ++ ws2.take i)).Nodup := by
        have := g.nodup (rs0 ++ rs).length (Nat.le_refl _)
        unfold knownAt at this
        rw [List.take_length, enA] at this
        exact this
      refine ⟨_, rfl, (by show 5 ≤ sizeLine; decide), fun l6 h6 => ?_⟩
      refine ⟨p, c, ns, n + 36 * i, _, _, rfl, Pc.new h6, by omega, .inl ⟨l6, rfl, (Pc.pne h6).symm, upd_same⟩, by simp, (by show 5 ≤ 1000; decide), fun j v H1 hv k1 P1 => ?_⟩
      obtain ⟨m, rfl, hm⟩ : ∃ m : Nat, v = .int (m : Int) ∧ 1 ≤ m := by
        have hm6 := List.mem_of_getElem? hv
        simp only [List.mem_cons, List.not_mem_nil, or_false] at hm6
        rcases hm6 with rfl | rfl | rfl | rfl | rfl
        · exact ⟨1, rfl, by omega⟩
        · exact ⟨2, rfl, by omega⟩
        · exact ⟨2, rfl, by omega⟩
        · exact ⟨3, rfl, by omega⟩
        · exact ⟨4, rfl, by omega⟩
      have k1' : Keep p Hc H1 := ((Keep.refl p Hc).new h6).trans k1
      have hK1 := k1' kn _ hK pk.symm
      have hF1 := k1' fl _ hF pf.symm
      refine ⟨_, rfl, .inl ⟨rfl, _, SqL.of hF1⟩, _, rfl, (by show 1 ≤ sizeLine; decide), fun t1 ht1 => ?_⟩
      refine ⟨_, rfl, _, rfl, p, c, kn, ns, n + 36 * i + 1, base0 ++ (ws ++ ws2.take i), rfl, P1.new ht1, by omega, by rw [upd_ne (ne_of_none hK1 ht1)]; exact hK1, by omega, fun lm ys H2 hp hlm k2 P2 => ?_⟩
      have k2' : Keep p Hc H2 := (k1'.new (k1'.fresh P1 ht1)).trans k2
      have ht2 : H2 t1 = some (.tup [.str ws2[i]]) := k2 t1 _ upd_same (P1.pne ht1).symm
      refine ⟨_, rfl, _, rfl, lm, _, rfl, SqL.of hlm, fun l7 h7 => ?_⟩
      refine ⟨l7, _, rfl, .inl ⟨SqL.of upd_same, fun t3 ht3 => ?_⟩⟩
      have n71 : t1 ≠ l7 := ne_of_none ht2 h7
      have h71 : (upd H2 l7 (.lst (cutV (ys.map V.str) none (some (m : Int))))) t1 = some (.tup [.str ws2[i]]) := by rw [upd_ne n71]; exact ht2
      have n13 : t1 ≠ t3 := ne_of_none h71 ht3
      have hyl : ys.length = ws.length + i + 2 := by rw [hp.length_eq, hkl]
      have hcut := cut_take ys m
      have htn : ys.take m ≠ [] := fun e => by
        have h3 := congrArg List.length e
        rw [List.length_take, List.length_nil] at h3
        omega
      have htl : (ys.take m).length ≤ 33 := by rw [List.length_take]; omega
      rw [hcut] at ht3 ⊢
      refine ⟨t1, t3, [.str ws2[i]], (ys.take m).map V.str, rfl, rfl, SqT.of (by rw [upd_ne n13, upd_ne n71]; exact ht2), SqT.of upd_same, by simp, ?_, fun e => absurd (List.map_eq_nil_iff.mp e) htn, fun _ t4 ht4 => ?_⟩
      · rw [List.length_map]; show 1 + _ ≤ 16777216; omega
      have f7 : Hc l7 = none := k2'.fresh P2 h7
      have P7 := P2.new (o := .lst ((ys.take m).map V.str)) h7
      have k7 : Keep p Hc (upd H2 l7 (.lst ((ys.take m).map V.str))) := k2'.new f7
      have k8 := k7.new (o := .tup ((ys.take m).map V.str)) (k7.fresh P7 ht3)
      have P8 := P7.new (o := .tup ((ys.take m).map V.str)) ht3
      have kd := k8.new (o := .tup ([V.str ws2[i]] ++ (ys.take m).map V.str)) (k8.fresh P8 ht4)
      have Pd := P8.new (o := .tup ([V.str ws2[i]] ++ (ys.take m).map V.str)) ht4
      have ht : (upd (upd (upd H2 l7 (.lst ((ys.take m).map V.str))) t3 (.tup ((ys.take m).map V.str))) t4 (.tup ([V.str ws2[i]] ++ (ys.take m).map V.str))) t4 = some (rowO (ws2[i], ys.take m)) := upd_same
      have b2 : (ys.take m).Nodup := (hp.nodup_iff.mpr hnd).sublist (List.take_sublist _ _)
      have b3 : ∀ b ∈ ys.take m, b ∈ base0 ++ (ws ++ ws2.take i) := fun b hb => hp.mem_iff.mp (List.mem_of_mem_take hb)
      generalize (upd (upd (upd H2 l7 (.lst ((ys.take m).map V.str))) t3 (.tup ((ys.take m).map V.str))) t4 (.tup ([V.str ws2[i]] ++ (ys.take m).map V.str))) = Hd at kd Pd ht ⊢
      generalize ys.take m = bs at htn b2 b3 ht
      have hFd := kd fl _ hF pf.symm
      have hKd := kd kn _ hK pk.symm
      refine ⟨fl, _, _, rfl, rfl, hFd, ?_, ?_⟩
      · rw [List.length_map, R.1, hrl]; show _ < 16777216; omega
      refine ⟨_, rfl, .inl ⟨rfl, _, SqL.of (by rw [upd_ne nkf]; exact hKd)⟩, _, rfl, kn, _, _, rfl, rfl, by rw [upd_ne nkf]; exact hKd, ?_, ?_⟩
      · rw [List.length_map, hkl]; show _ < 16777216; omega
      have etk : ws2.take (i + 1) = ws2.take i ++ [ws2[i]] := by rw [List.take_add_one, hwi]; rfl
      have hmw : ws2[i] ∈ ws ++ ws2 := List.mem_append_right _ (List.getElem_mem _)
      have hnew : ws2[i] ∉ base0 ++ (ws ++ ws2.take i) := by
        intro hm
        rcases List.mem_append.mp hm with hm | hm
        · have := hw.nb ws2[i] hmw
          unfold base0 at hm
          rcases List.mem_cons.mp hm with e | hm
          · rw [e] at this; exact this err_barred
          · have e : ws2[i] = sVac := by simpa using hm
            rw [e] at this; exact this vac_barred
        · have hsub : (ws ++ ws2.take (i + 1)).Sublist (ws ++ ws2) := (List.Sublist.refl ws).append (List.take_sublist (i + 1) ws2)
          rw [etk, ← List.append_assoc] at hsub
          have := List.nodup_append.mp (hw.nd.sublist hsub)
          exact this.2.2 _ hm _ (by simp) rfl
      have hFe : ∀ o o', (upd (upd Hd fl o) kn o') fl = some o := fun o o' => by rw [upd_ne nkf.symm, upd_same]
      have row1 : ∀ b r, Hd b = some (rowO r) → ∀ xs ys, (upd (upd Hd fl (.lst xs)) kn (.lst ys)) b = some (rowO r) := fun b r e xs ys => by
        have h1 : b ≠ fl := ne_of e hFd (by unfold rowO; intro z; cases z)
        have h2 : b ≠ kn := ne_of e hKd (by unfold rowO; intro z; cases z)
        rw [upd_ne h2, upd_ne h1]
        exact e
      refine ⟨rs ++ [(ws2[i], bs)], ts ++ [t4], _, _, rfl, ?_, by rw [List.map_append, en, etk]; rfl, ?_, ?_, ?_, ?_, ?_⟩
      · rw [← List.append_assoc]
        exact good_snoc g (by rw [enA]; exact ⟨hw.vw _ hmw, hnew, htn, b2, b3⟩)
      · exact ((R.keep Pc kd).mono fun b r e => row1 b r e _ _).snoc (row1 t4 _ ht _ _)
      · rw [upd_same, etk]
        simp only [List.map_append, List.append_assoc, List.map_cons, List.map_nil]
      · rw [hFe, List.map_append]
        rfl
      · exact ((kc.trans kd).new hfl0).new hkn
      · exact ((Pd.upd' pf cf).upd' pk ck).mono (by omega)
    · rintro σ Hc ⟨rs, ts, v5, v6, rfl, g, en, R, hK, hF, kc, Pc⟩
      rw [List.length_map] at en Pc
      rw [List.take_length] at en
      exact ⟨_, rfl, k fl ts rs Hc g en R hF kc (Pc.mono (by omega))⟩
end
end K2
end
section
set_option Elab.async false
set_option maxRecDepth 100000
set_option linter.all false
namespace K2
open PySem L2
abbrev sPen : Stmt := top 16
abbrev sLaw : Stmt := top 30
def spPen (K : PySem.W.Frag) : Sp := fun vs H Q _ => ∃ (a : Addr) (ns : List Int), vs = [.ref a] ∧ SqL K H a (ns.map V.int) ∧ ns.length ≤ 63 ∧ ∀ (p c : Addr) (H' : Hp), Pen H' p c ns 0 → Same H H' → Q (.ref p) H'
def spLaw (K : PySem.W.Frag) : Sp := fun vs H Q _ => ∃ (a : Addr) (ns : List Int), vs = [.ref a] ∧ SqL K H a (ns.map V.int) ∧ ns.length ≤ 63 ∧ ∀ H', Q (.bl true) H'
theorem cut63 (ns : List Int) (h : ns.length ≤ 63) : cutV (ns.map V.int) none (some 63) = ns.map V.int := by
  unfold cutV
  rw [show (63 : Int) = ((63 : Nat) : Int) from rfl, HT.sIx_nat, HT.sIx_none, List.drop_zero, Nat.sub_zero, List.length_map, Nat.min_eq_right h]
  rw [List.take_of_length_le (by rw [List.length_map]; exact Nat.le_refl _)]
abbrev nLaw : List Str := ["_law_script", "_law_pen_here", "_law_turn", "_law_size", "_law_words_here", "_law_many", "_law_rows_here", "_law_later_here", "_law_lines"]
theorem Words.sub {ws vs : List Str} (h : Words ws) (s : vs.Sublist ws) : Words vs := ⟨fun x hx => h.vw x (s.subset hx), fun x hx => h.nb x (s.subset hx), h.nd.sublist s⟩
theorem cut_drop (ys : List Str) (k : Nat) (h : k ≤ ys.length) : cutV (ys.map V.str) (some (k : Int)) none = (ys.drop k).map V.str := by
  unfold cutV
  rw [HT.sIx_nat, HT.sIx_none, List.length_map, Nat.min_eq_left h, ← List.map_drop, List.take_of_length_le]
  rw [List.length_map, List.length_drop]
  exact Nat.le_refl _
theorem cutR_take (ts : List Addr) (k : Nat) (h : k ≤ ts.length) : cutV (ts.map V.ref) none (some (k : Int)) = (ts.take k).map V.ref := by
  unfold cutV
  rw [HT.sIx_nat, HT.sIx_none, List.drop_zero, Nat.sub_zero, ← List.map_take, List.length_map, Nat.min_eq_left h]
theorem cutR_drop (ts : List Addr) (k : Nat) (h : k ≤ ts.length) : cutV (ts.map V.ref) (some (k : Int)) none = (ts.drop k).map V.ref := by
  unfold cutV
  rw [HT.sIx_nat, HT.sIx_none, List.length_map, Nat.min_eq_left h, ← List.map_drop, List.take_of_length_le]
  rw [List.length_map, List.length_drop]
  exact Nat.le_refl _
theorem RowsAt.app {H : Hp} {ts1 ts2 : List Addr} {rs1 rs2 : List Row} (h1 : RowsAt H ts1 rs1) (h2 : RowsAt H ts2 rs2) : RowsAt H (ts1 ++ ts2) (rs1 ++ rs2) := by
  refine ⟨by simp [h1.1, h2.1], fun i t r a b => ?_⟩
  by_cases hi : i < ts1.length
  · rw [List.getElem?_append_left hi] at a
    rw [List.getElem?_append_left (by rw [← h1.1]; exact hi)] at b
    exact h1.2 i t r a b
  · rw [List.getElem?_append_right (by omega)] at a
    rw [List.getElem?_append_right (by have := h1.1; omega), ← h1.1] at b
    exact h2.2 _ t r a b
section
variable {P : Program} {w : World} {K : PySem.W.Frag} {mg : Str → Option Value} {base : Heap}
theorem scLaw : FnScope nLaw ["_law_script"] (defScope sLaw) := ⟨rfl, rfl, rfl, by decide +kernel, rfl, by decide +kernel, by decide +kernel⟩
theorem scPen : FnScope ["_law_script"] ["_law_script"] (defScope sPen) := ⟨rfl, rfl, rfl, by decide +kernel, rfl, by decide +kernel, by decide +kernel⟩
theorem ok_pen {f : Addr} {fd : FuncData} (F : Fun K "_law_pen" "_law_pen" sPen f fd) (T : Bi mg) : FnOk P w K mg base CX0 1 f fd ["_law_script"] (spPen K) := by
  refine F.ok scPen (fun vs H Q E h => ?_) (fun cdv A outer s H vs Q E hr h => ?_)
  · obtain ⟨a, ns, rfl, _⟩ := h
    rfl
  · obtain ⟨a, ns, rfl, hS, hl, k⟩ := h
    refine ⟨_, (pss_one (ps_ret (pe_lst (pa_cons (pe_callTy call_list_of (by rfl) T.list (by decide +kernel) (pa_cons (pe_slice sl_list (pv 0) po_none (po_some pe_int)) pa_nil)) (pa_cons pe_int (pa_cons pe_int pa_nil)))))), ?_⟩
    refine ⟨_, rfl, _, rfl, a, _, rfl, hS, fun q hq => ⟨q, _, rfl, .inl (SqL.of upd_same), fun c hc => ⟨(by show 3 ≤ sizeLine; decide), fun p hp => ?_⟩⟩⟩
    rw [cut63 ns hl] at hc hp ⊢
    have hcp : c ≠ p := ne_of_none upd_same hp
    have s1 := ((Same.refl H).put (o := .lst (ns.map V.int)) hq)
    have s2 := s1.put (o := .lst (ns.map V.int)) (s1.free hc)
    exact k p c _ ⟨⟨0, 0, upd_same, by decide, by decide, by decide⟩, by rw [upd_ne hcp, upd_same], hl⟩ (s2.put (s2.free hp))
theorem ok_law {f fPn fD fP fW fR fLa fLg fKR : Addr} {fd fdPn fdD fdP fdW fdR fdLa fdL fdKR : FuncData} (F : Fun K "law" "law" sLaw f fd) (T : Bi mg) (tMax : mg "max" = none) (PN : Df K mg "_law_pen" sPen fPn fdPn ["_law_script"]) (GPn : FnOk P w K mg base CX0 1 fPn fdPn ["_law_script"] (spPen K))
    (D : Df K mg "_law_draw" sDraw fD fdD ["_law_pen_here", "_law_many"]) (GD : FnOk P w K mg base CX0 1 fD fdD ["_law_pen_here", "_law_many"] spDraw) (PK : Df K mg "_law_pick" sPick fP fdP ["_law_pen_here", "_law_some"]) (GP : FnOk P w K mg base CX0 2 fP fdP ["_law_pen_here", "_law_some"] spPick)
    (WO : Df K mg "_law_words" sWords fW fdW ["_law_pen_here", "_law_many"]) (GW : FnOk P w K mg base CX0 3 fW fdW ["_law_pen_here", "_law_many"] spWords) (RS : Df K mg "_law_rows" sRows fR fdR ["_law_pen_here", "_law_words_here"]) (GR : FnOk P w K mg base CX0 4 fR fdR ["_law_pen_here", "_law_words_here"] spRows)
    (LA : Df K mg "_law_later" sLater fLa fdLa ["_law_pen_here", "_law_words_here", "_law_known"]) (GLa : FnOk P w K mg base CX0 3 fLa fdLa ["_law_pen_here", "_law_words_here", "_law_known"] spLater)
    (LG : Df K mg "_law_light" sLight fLg fdL ["_law_rows_here"]) (GL : FnOk P w K mg base CX0 1 fLg fdL ["_law_rows_here"] spLight)
    (KR : Df K mg "_law_kinds_right" sKR fKR fdKR ["_law_pen_here", "_law_rows_here", "_law_later_here"]) (GKR : FnG P w K mg base 7 fKR fdKR ["_law_pen_here", "_law_rows_here", "_law_later_here"] spKR) : FnG P w K mg base 8 f fd ["_law_script"] (spLaw K) := by
  refine okG F scLaw (fun vs H Q E h => ?_) (fun cdv A outer s H vs Q E hr gu h => ?_)
  · obtain ⟨a, ns, rfl, _⟩ := h
    rfl
  · obtain ⟨a, ns, rfl, hS, hl, k⟩ := h
    have hr1 : Room 1 _ := hr.mono (by decide)
    have hr2 : Room 2 _ := hr.mono (by decide)
    have hr3 : Room 3 _ := hr.mono (by decide)
    have hr4 : Room 4 _ := hr.mono (by decide)
    have hr7 : Room 7 _ := hr
    refine ⟨_, (pss_cons (ps_set (i := 1) scLaw.nd rfl (Or.inl rfl) (pe_call GPn hr1 (by rfl) PN.m PN.F.kp PN.b .nil pass0 (pa_cons (pv 0) pa_nil)))
      (pss_cons (ps_for PassesOwn.never rfl (pi_range1 rfl T.range (pa_cons pe_int pa_nil)) (pg_name (i := 2) scLaw.nd rfl (Or.inl rfl))
      (pss_cons (ps_set (i := 3) scLaw.nd rfl (Or.inl rfl) (pe_op op_add (pe_call GP hr2 (by rfl) PK.m PK.F.kp PK.b .nil pass0 (pa_cons (pv 1) (pa_cons (pe_lst (pa_cons pe_int (pa_cons pe_int (pa_cons pe_int (pa_cons pe_int (pa_cons (pe_call GD hr1 (by rfl) D.m D.F.kp D.b .nil pass0 (pa_cons (pv 1) (pa_cons pe_int pa_nil))) pa_nil)))))) pa_nil))) (pe_call GD hr1 (by rfl) D.m D.F.kp D.b .nil pass0 (pa_cons (pv 1) (pa_cons pe_int pa_nil)))))
        (pss_cons (ps_set (i := 4) scLaw.nd rfl (Or.inl rfl) (pe_call GW hr3 (by rfl) WO.m WO.F.kp WO.b .nil pass0 (pa_cons (pv 1) (pa_cons (pv 3) pa_nil))))
        (pss_cons (ps_set (i := 5) scLaw.nd rfl (Or.inl rfl) (pe_callB (call_max2 rfl) (by rfl) tMax (by decide +kernel) (pa_cons (pe_call GD hr1 (by rfl) D.m D.F.kp D.b .nil pass0 (pa_cons (pv 1) (pa_cons (pe_op op_add (pv 3) pe_int) pa_nil))) (pa_cons (pe_op op_sub (pv 3) pe_int) pa_nil))))
        (pss_cons (ps_set (i := 6) scLaw.nd rfl (Or.inl rfl) (pe_call GR hr4 (by rfl) RS.m RS.F.kp RS.b .nil pass0 (pa_cons (pv 1) (pa_cons (pe_slice sl_list (pv 4) po_none (po_some (pv 5))) pa_nil))))
        (pss_cons (ps_set (i := 7) scLaw.nd rfl (Or.inl rfl) (pe_call GLa hr3 (by rfl) LA.m LA.F.kp LA.b .nil pass0 (pa_cons (pv 1) (pa_cons (pe_slice sl_list (pv 4) (po_some (pv 5)) po_none) (pa_cons (pe_op op_cat (pe_lst (pa_cons pe_str (pa_cons pe_str pa_nil))) (pe_slice sl_list (pv 4) po_none (po_some (pv 5)))) pa_nil)))))
        (pss_cons (ps_set (i := 8) scLaw.nd rfl (Or.inl rfl) (pe_call GL hr1 (by rfl) LG.m LG.F.kp LG.b .nil pass0 (pa_cons (pe_op op_cat (pv 6) (pv 7)) pa_nil)))
        (pss_one (ps_if (pt_not (pt_val (pe_callG GKR hr7 gu (by rfl) KR.m KR.F.kp KR.b (pa_cons (pv 1) (pa_cons (pe_slice sl_list (pv 8) po_none (po_some (pv 5))) (pa_cons (pe_slice sl_list (pv 8) (po_some (pv 5)) po_none) pa_nil))))))
        (pss_one (ps_ret pe_bl))
        pss_nil)))))))))
      (pss_one (ps_ret pe_bl)))), ?_⟩
    refine ⟨_, rfl, a, ns, rfl, hS, hl, fun p c H1 P1 s1 => ?_⟩
    refine ⟨3, rfl, by decide, by decide, for_range (lo := 0) (n := 3) (fun i σ Hc => ∃ v2 v3 v4 v5 v6 v7 v8 : Option V, σ = [some (.ref a), some (.ref p), v2, v3, v4, v5, v6, v7, v8] ∧ Pen Hc p c ns (4000 * i)) ?_ ?_ ?_⟩
    · exact ⟨_, _, _, _, _, _, _, rfl, P1⟩
    · rintro i σ Hc hi ⟨v2, v3, v4, v5, v6, v7, v8, rfl, Pc⟩
      generalize hN : 4000 * i = n at Pc
      have hn : n ≤ 8000 := by omega
      refine ⟨_, rfl, _, rfl, p, c, ns, n, _, rfl, Pc, by omega, by decide, by decide, fun dv Ha d0 d1 ka Pa => ?_⟩
      obtain ⟨dr, rfl⟩ : ∃ j : Nat, dv = (j : Int) := ⟨dv.toNat, (Int.toNat_of_nonneg d0).symm⟩
      refine ⟨(by show 5 ≤ sizeLine; decide), fun l7 h7 => ?_⟩
      refine ⟨p, c, ns, n + 1, _, _, rfl, Pa.new h7, by omega, .inl ⟨l7, rfl, (Pa.pne h7).symm, upd_same⟩, by simp, (by show 5 ≤ 1000; decide), fun j v Hb hv kb Pb => ?_⟩
      obtain ⟨m, rfl, hm⟩ : ∃ m : Nat, v = .int (m : Int) ∧ m ≤ 20 := by
        have hm6 := List.mem_of_getElem? hv
        simp only [List.mem_cons, List.not_mem_nil, or_false] at hm6
        rcases hm6 with rfl | rfl | rfl | rfl | rfl
        · exact ⟨1, rfl, by omega⟩
        · exact ⟨2, rfl, by omega⟩
        · exact ⟨5, rfl, by omega⟩
        · exact ⟨20, rfl, by omega⟩
        · exact ⟨dr, rfl, by omega⟩
      refine ⟨_, rfl, p, c, ns, n + 1 + 1, _, rfl, Pb, by omega, by decide, by decide, fun ev Hd e0 e1 kd Pd => ?_⟩
      refine ⟨_, _, rfl, rfl, ?_⟩
      generalize hz9 : (fun i j : Int => V.int (i + j)) (m : Int) ev = zz
      obtain ⟨sz, rfl, hsz⟩ : ∃ sz : Nat, zz = .int (sz : Int) ∧ sz ≤ 28 := ⟨m + ev.toNat, by
        rw [← hz9]
        show V.int _ = V.int _
        congr 1
        omega, by omega⟩
      clear hz9
      refine ⟨_, rfl, _, rfl, p, c, ns, n + 1 + 1 + 1, sz, rfl, Pd, by omega, by omega, fun lw ws H4 hw hwl hlw k4 P4 => ?_⟩
      refine ⟨_, rfl, _, rfl, _, _, rfl, rfl, p, c, ns, n + 1 + 1 + 1 + 12, _, rfl, P4, by omega, by omega, by omega, fun fv H5 f0 f1 k5 P5 => ?_⟩
      refine ⟨_, rfl, _, _, rfl, rfl, _, _, rfl, ?_⟩
      obtain ⟨mm, hmm, hml⟩ : ∃ mm : Nat, (if (sz : Int) - 8 > fv then (sz : Int) - 8 else fv) = (mm : Int) ∧ mm ≤ sz := by
        split
        · exact ⟨((sz : Int) - 8).toNat, by omega, by omega⟩
        · exact ⟨fv.toNat, by omega, by omega⟩
      rw [hmm]
      clear hmm f1
      have hlw5 := k5 lw _ hlw (P4.strs_ne hlw)
      -- rows
      refine ⟨_, rfl, _, rfl, _, rfl, _, rfl, lw, _, rfl, SqL.of hlw5, fun l8 h8 => ?_⟩
      rw [cut_take]
      have hlw6 := ((Same.refl H5).put (o := .lst ((ws.take mm).map V.str)) h8) lw _ hlw5
      refine ⟨p, c, l8, ns, n + 1 + 1 + 1 + 12 + 1, ws.take mm, rfl, P5.new h8, by omega, upd_same, hw.sub (List.take_sublist _ _), by rw [List.length_take]; omega, fun lr ts rs H6 g en R hlr k6 P6 => ?_⟩
      have hlw7 := k6 lw _ hlw6 ((P5.new (o := .lst ((ws.take mm).map V.str)) h8).strs_ne hlw6)
      have nlr := P6.refs_ne hlr
      -- later
      refine ⟨_, rfl, _, rfl, _, rfl, _, rfl, lw, _, rfl, SqL.of hlw7, fun l9 h9 => ⟨(by show 2 ≤ sizeLine; decide), fun l10 h10 => ?_⟩⟩
      rw [cut_drop ws mm (by omega)] at h10 ⊢
      have s9 : Same H6 (upd H6 l9 (.lst ((ws.drop mm).map V.str))) := (Same.refl H6).put h9
      have e9 : (upd H6 l9 (.lst ((ws.drop mm).map V.str))) l9 = some (.lst ((ws.drop mm).map V.str)) := upd_same
      generalize upd H6 l9 (.lst ((ws.drop mm).map V.str)) = H9 at s9 e9 h10 ⊢
      have s10 : Same H9 (upd H9 l10 (.lst [V.str (Str.ofString "error"), V.str (Str.ofString "vacant")])) := (Same.refl H9).put h10
      have e10 : (upd H9 l10 (.lst [V.str (Str.ofString "error"), V.str (Str.ofString "vacant")])) l10 = some (.lst [V.str (Str.ofString "error"), V.str (Str.ofString "vacant")]) := upd_same
      generalize upd H9 l10 (.lst [V.str (Str.ofString "error"), V.str (Str.ofString "vacant")]) = H10 at s10 e10 ⊢
      refine ⟨_, rfl, _, rfl, _, rfl, lw, _, rfl, SqL.of ((s9.trans s10) lw _ hlw7), fun l11 h11 => ?_⟩
      rw [cut_take]
      have s11 : Same H10 (upd H10 l11 (.lst ((ws.take mm).map V.str))) := (Same.refl H10).put h11
      have e11 : (upd H10 l11 (.lst ((ws.take mm).map V.str))) l11 = some (.lst ((ws.take mm).map V.str)) := upd_same
      generalize upd H10 l11 (.lst ((ws.take mm).map V.str)) = H11 at s11 e11 ⊢
      have twl : (ws.take mm).length ≤ 28 := by rw [List.length_take]; omega
      refine ⟨l10, l11, _, _, rfl, rfl, s11 l10 _ e10, e11, ?_, fun l12 h12 => ?_⟩
      · rw [List.length_map]; show 2 + _ ≤ 16777216; omega
      have s12 : Same H11 (upd H11 l12 (.lst ([V.str (Str.ofString "error"), V.str (Str.ofString "vacant")] ++ (ws.take mm).map V.str))) := (Same.refl H11).put h12
      have e12 : (upd H11 l12 (.lst ([V.str (Str.ofString "error"), V.str (Str.ofString "vacant")] ++ (ws.take mm).map V.str))) l12 = some (.lst ((base0 ++ ws.take mm).map V.str)) := by
        rw [upd_same, List.map_append]
        rfl
      generalize upd H11 l12 (.lst ([V.str (Str.ofString "error"), V.str (Str.ofString "vacant")] ++ (ws.take mm).map V.str)) = H12 at s12 e12 ⊢
      have q12 := ((s9.trans s10).trans s11).trans s12
      have tkd : ws.take mm ++ ws.drop mm = ws := List.take_append_drop mm ws
      refine ⟨p, c, l9, l12, ns, n + 1 + 1 + 1 + 12 + 1 + 1500, ws.take mm, ws.drop mm, rs, rfl, P6.same q12, by omega, ((s10.trans s11).trans s12) l9 _ e9, e12, by rw [tkd]; exact hw, by rw [tkd]; omega, g, en, fun ll ts2 rs2 H7 g2 en2 R2 hll k7 P7 => ?_⟩
      have hlr7 := k7 lr _ (q12 lr _ hlr) nlr
      have R1 : RowsAt H7 ts rs := (R.mono fun q r e => q12 q _ e).keep (P6.same q12) k7
      have lrs : (rs ++ rs2).length = sz := by
        have a1 := congrArg List.length en
        have a2 := congrArg List.length en2
        rw [List.length_map, List.length_take] at a1
        rw [List.length_map, List.length_drop] at a2
        rw [List.length_append]
        omega
      have lts := (R1.app R2).1
      rw [List.length_append] at lts
      -- light
      refine ⟨_, rfl, _, rfl, lr, ll, _, _, rfl, rfl, hlr7, hll, ?_, fun l13 h13 => ?_⟩
      · rw [List.length_map, List.length_map]; show _ ≤ 16777216; omega
      have s13 : Same H7 (upd H7 l13 (.lst (ts.map V.ref ++ ts2.map V.ref))) := (Same.refl H7).put h13
      refine ⟨l13, ts ++ ts2, rs ++ rs2, rfl, by rw [upd_same, List.map_append], (R1.app R2).mono fun q r e => s13 q _ e, g2, by omega, fun lx tx qs H8 g8 e8 R8 hlx s8 => ?_⟩
      have P8 := P7.same (s13.trans s8)
      have ql : qs.length = sz := e8.trans lrs
      have txl : tx.length = sz := R8.1.trans ql
      refine ⟨_, rfl, _, rfl, _, rfl, _, rfl, lx, _, rfl, SqL.of hlx, fun l14 h14 => ?_⟩
      rw [cutR_take tx mm (by omega)]
      have s14 : Same H8 (upd H8 l14 (.lst ((tx.take mm).map V.ref))) := (Same.refl H8).put h14
      have e14 : (upd H8 l14 (.lst ((tx.take mm).map V.ref))) l14 = some (.lst ((tx.take mm).map V.ref)) := upd_same
      generalize upd H8 l14 (.lst ((tx.take mm).map V.ref)) = H14 at s14 e14 ⊢
      refine ⟨_, rfl, _, rfl, _, rfl, lx, _, rfl, SqL.of (s14 lx _ hlx), fun l15 h15 => ?_⟩
      rw [cutR_drop tx mm (by omega)]
      have s15 : Same H14 (upd H14 l15 (.lst ((tx.drop mm).map V.ref))) := (Same.refl H14).put h15
      refine ⟨p, c, l14, l15, ns, n + 1 + 1 + 1 + 12 + 1 + 1500 + 1500, tx.take mm, tx.drop mm, qs.take mm, qs.drop mm, rfl, P8.same (s14.trans s15), by omega, s15 l14 _ e14, upd_same, ?_, ?_, ?_, ?_, fun Hz kz Pz => ⟨_, rfl, iteF ⟨_, _, _, _, _, _, _, rfl, Pz.mono (by omega)⟩⟩⟩
      · rw [List.take_append_drop, List.take_append_drop]
        exact R8.mono fun q r e => (s14.trans s15) q _ e
      · rw [List.length_take, List.length_take]; omega
      · rw [List.take_append_drop]; exact g8
      · rw [List.take_append_drop]; omega
    · rintro σ Hc ⟨v2, v3, v4, v5, v6, v7, v8, rfl, Pc⟩
      exact k Hc
end
end K2
end
section
set_option Elab.async false
set_option maxRecDepth 100000
set_option linter.all false
namespace K2
open PySem L2 PySem.Spec PyProof.Rows
section
variable {P : Program} {w : World} {K : PySem.W.Frag} {mg mb : Str → Option Value} {k : Nat} {fa a : Addr} {fd : FuncData} {x : Str} {s : Shared} {us : List Value} {ns : List Int}
/-- the call from the claim's own caller, told of any heap of which nothing but the script is tracked -/
theorem call_core {sp : Sp} {H : Hp} (kin : K.In s.heap) (gl : s.heap.Ns mainGlobals mg) (bl : s.heap.Ns builtinsNs mb) (bb : ∀ y : Str, y ≠ "__name__" → mb y = bootBuiltins y) (lim : s.heap.NoLimit) (gn : s.gens = #[])
    (ha : s.heap.get? a = some { cls := .type "list", data := .seq us.toArray }) (hr : Room k callerA) (F : ∀ base : Heap, K.In base → base.Ns mainGlobals mg → FnG P w K mg base k fa fd [x] sp) (bind : ∀ (z : Shared) (u : Value), BindsTo z fd ⟨[u], []⟩ [(x, u)])
    (only : Only H) (ok : HOk P w H s.heap) (lone : ∀ b, H b ≠ none → b = a) (apart : H a ≠ none → K.lookup a = none) (hsp : sp [.ref a] H (fun v _ => v = .bl true) fun _ _ _ => False) :
    codeAny (model P w) callerA (.call (.ref fa) ⟨[.ref a], []⟩) (fun r z => r = .ok (.ret (.bool true)) ∧ OldK s.heap z.heap ∧ z.os = s.os ∧ AllBare z.gens) s := by
  have un_dict : ∀ {b : Addr} {o : Obj} {es : Array DictEntry} {ep : Nat}, s.heap.get? b = some o → o.data = .dict es ep → H b = none := fun {b o es ep} e d => by
    by_cases q : H b = none
    · exact q
    · have := lone b q
      subst this
      rw [ha] at e
      cases e
      exact absurd (show Data.seq us.toArray _ = Data.dict es ep from d) (fun z => nomatch z)
  have ns2 : ∀ {b : Addr} {m : Str → Option Value}, s.heap.Ns b m → (hidT s.heap H).Ns b m := fun ⟨o, es, ep, e, d, r⟩ => ⟨o, es, ep, hidT_get e (un_dict e d), d, r⟩
  have kin2 : K.In (hidT s.heap H) := fun b o e => hidT_get (kin b o e) (by
    by_cases q : H b = none
    · exact q
    · have := lone b q
      subst this
      rw [apart q] at e
      cases e)
  have e0 : Env0 P w K mg (hidT s.heap H) callerA [] s H := ⟨rfl, ⟨kin2, ns2 gl, ⟨mb, ns2 bl, bb⟩, let ⟨mc, h1, h2⟩ := lim; ⟨mc, ns2 h1, h2⟩⟩, fun b o e => of_hidT e, Nat.le_of_eq (hidT_size _ _), trivial, fun b (hb : b ∈ ([] : List Addr)) => (List.not_mem_nil hb).elim, ok, .of_eq gn⟩
  refine codeAny_mono ((F _ kin2 (ns2 gl)).run callerA [] s H ⟨[.ref a], []⟩ [.ref a] [.ref a] _ _ hr rfl e0 (bind s (.ref a)) (.cons rfl .nil) hsp) fun r z h => ?_
  cases r with
  | error e => exact h.elim
  | ok fl =>
    cases fl with
    | next => exact h.elim
    | brk => exact h.elim
    | cont => exact h.elim
    | ret u =>
      obtain ⟨v, H2, os, bare, un, ok2, rv, q⟩ := h
      have q : v = .bl true := q
      subst q
      obtain rfl : u = Value.bool true := rv
      refine ⟨rfl, OldK.of_keep fun b o e => ?_, os, bare⟩
      rcases only b with z1 | ⟨ob, xs, z1⟩
      · exact un.keep b o e z1 (fun z : b ∈ ([] : List Addr) => (List.not_mem_nil z).elim) (fun z => (List.not_mem_nil z).elim)
      · obtain ⟨e1, _⟩ := ok b _ z1
        obtain ⟨e2, _⟩ := ok2 b _ (un.frzs b ob _ z1)
        rw [e] at e1
        cases e1
        exact e2
theorem law_callG (kin : K.In s.heap) (gl : s.heap.Ns mainGlobals mg) (bl : s.heap.Ns builtinsNs mb) (bb : ∀ y : Str, y ≠ "__name__" → mb y = bootBuiltins y) (lim : s.heap.NoLimit) (gn : s.gens = #[])
    (ha : s.heap.get? a = some { cls := .type "list", data := .seq us.toArray }) (hi : IntsAre us ns) (hl : ns.length ≤ 63) (hr : Room k callerA) (F : ∀ base : Heap, K.In base → base.Ns mainGlobals mg → FnG P w K mg base k fa fd [x] (spLaw K)) (bind : ∀ (z : Shared) (u : Value), BindsTo z fd ⟨[u], []⟩ [(x, u)]) :
    codeAny (model P w) callerA (.call (.ref fa) ⟨[.ref a], []⟩) (fun r z => r = .ok (.ret (.bool true)) ∧ OldK s.heap z.heap ∧ z.os = s.os ∧ AllBare z.gens) s := by
  have rv := vals_ints hi
  have ll := hi.length
  have pr : ∀ H : Hp, SqL K H a (ns.map V.int) → spLaw K [.ref a] H (fun v _ => v = .bl true) fun _ _ _ => False := fun H hS => ⟨a, ns, rfl, hS, hl, fun _ => rfl⟩
  cases hk : K.lookup a with
  | some o =>
    have e := kin a o hk
    rw [ha] at e
    cases e
    exact call_core (H := fun _ => none) kin gl bl bb lim gn ha hr F bind (fun _ => .inl rfl) (fun b u z => nomatch (show (none : Option HO) = some u from z)) (fun b z => absurd rfl z) (fun z => absurd rfl z)
      (pr _ (.inr ⟨_, us.toArray, _, hk, rfl, rfl, rfl, by rw [List.size_toArray, ll]; exact Nat.le_trans hl (by decide), by simpa using rv⟩))
  | none =>
    have at_ : ∀ b, (fun b => if b = a then some (HO.frz { cls := .type "list", data := .seq us.toArray } (.lst (ns.map V.int))) else none : Hp) b ≠ none → b = a := fun b z => by
      by_cases hb : b = a
      · exact hb
      · exact absurd (if_neg hb) z
    refine call_core (H := fun b => if b = a then some (HO.frz { cls := .type "list", data := .seq us.toArray } (.lst (ns.map V.int))) else none) kin gl bl bb lim gn ha hr F bind (fun b => ?_) (fun b u z => ?_) at_ (fun _ => hk)
      (pr _ (.inl (.inr ⟨{ cls := .type "list", data := .seq us.toArray }, if_pos rfl⟩)))
    · by_cases hb : b = a
      · exact .inr ⟨_, _, if_pos hb⟩
      · exact .inl (if_neg hb)
    · have hb : b = a := at_ b (by rw [z]; simp)
      subst hb
      have z2 := (if_pos rfl).symm.trans z
      cases z2
      exact ⟨ha, by rw [List.length_map]; exact Nat.le_trans hl (by decide), us, _, rv, ha⟩
end
theorem walk_ofG {l : PySem.W.OpenLaw} {q : Program} {loose : List Str} {XP : (Str → Option Value) → Heap → Prop} {YP : World → Heap → Prop} {d : DefRec} {K : Params → PySem.W.Frag} {k : Nat} {x : Str} (hn : l.most = some 63) (hdf : d.params.defaults = []) (hr : Room k callerA)
    (hY : ∀ (w : World) (h : Heap), YP w h → (K w.params).In h) (F : ∀ (w : World) (mg : Str → Option Value) (fa : Addr) (h : Heap), (K w.params).In h → h.Ns mainGlobals mg → mg d.name = some (.ref fa) →
      ∃ fd : FuncData, (∀ (z : Shared) (u : Value), BindsTo z fd ⟨[u], []⟩ [(x, u)]) ∧ ∀ base : Heap, (K w.params).In base → base.Ns mainGlobals mg → FnG l.prog w (K w.params) mg base k fa fd [x] (spLaw (K w.params))) :
    PySem.W.WalkO q loose XP YP l.row.toRowW d [] (fun f vs => PySem.call f vs) := by
  refine Att.attach_call hn hdf fun w s0 s1 mg mb fa o pm cd doc a vs ns G Y ho hd hcd hmg hobj hints hlen hg => ?_
  obtain ⟨fd, hb, hF⟩ := F w mg fa _ (hY w _ Y) G.T.g hmg
  exact law_callG (hY w _ Y) G.T.g G.T.b G.T.builtins G.T.nolimit hg hobj hints hlen hr hF hb
end K2
end
section
set_option Elab.async false
set_option maxRecDepth 100000
set_option linter.all false
namespace K2
open PySem L2
theorem vals_rev : ∀ {vs : List V} {us : List Value}, Vals vs us → Vals vs.reverse us.reverse
  | _, _, .nil => .nil
  | _ :: _, _ :: _, .cons r t => by
    rw [List.reverse_cons, List.reverse_cons]
    exact (vals_rev t).append (.cons r .nil)
def chkS : List Str → List Value → Bool
  | [], [] => true
  | x :: xs, .str y _ :: us => decide (x = y) && chkS xs us
  | _, _ => false
theorem chk_vals : ∀ {xs : List Str} {us : List Value}, chkS xs us = true → Vals (xs.map V.str) us
  | [], [], _ => .nil
  | x :: xs, .str y t :: us, h => by
    have h2 := Bool.and_eq_true_iff.mp (show (decide (x = y) && chkS xs us) = true from h)
    have e := of_decide_eq_true h2.1
    subst e
    exact .cons ⟨t, rfl⟩ (chk_vals h2.2)

theorem all_mk {l : PySem.W.OpenLaw} {w : World} {K : PySem.W.Frag} {h : Heap} {mg : Str → Option Value} {fa C pM aR : Addr} {rest : List Value} {t1 t2 : Tok} {ddR : Option Addr} {itsR : Array Value} {nR2 : Nat} {slR : Array (Option Value)} (X : K.In h) (G : h.Ns mainGlobals mg) (hfa : mg "law" = some (.ref fa))
    {fIW fAW fAD fFA fLI fPN fD fPK fBA fWO fMI fRO fRS fLG fUP fLE fLA fTR fKR fLW fIN fMA fWI fKI fME fKO : Addr} {odIW anIW odAW anAW odAD anAD odFA anFA odLI anLI odPN anPN odD anD odPK anPK odBA anBA odWO anWO odMI anMI odRO anRO odRS anRS odLG anLG odUP anUP odLE anLE odLA anLA odTR anTR odKR anKR odLW anLW odIN anIN odMA anMA odWI anWI odKI anKI odME anME odKO anKO : Option Addr} {slIW slAW slAD slFA slLI slPN slD slPK slBA slWO slMI slRO slRS slLG slUP slLE slLA slTR slKR slLW slIN slMA slWI slKI slME slKO : Array (Option Value)} {ocIW kVIW dcIW pmIW cdIW ctIW ocAW kVAW dcAW pmAW cdAW ctAW ocAD kVAD dcAD pmAD cdAD ctAD ocFA kVFA dcFA pmFA cdFA ctFA ocLI kVLI dcLI pmLI cdLI ctLI ocPN kVPN dcPN pmPN cdPN ctPN ocD kVD dcD pmD cdD ctD ocPK kVPK dcPK pmPK cdPK ctPK ocBA kVBA dcBA pmBA cdBA ctBA ocWO kVWO dcWO pmWO cdWO ctWO ocMI kVMI dcMI pmMI cdMI ctMI ocRO kVRO dcRO pmRO cdRO ctRO ocRS kVRS dcRS pmRS cdRS ctRS ocLG kVLG dcLG pmLG cdLG ctLG ocUP kVUP dcUP pmUP cdUP ctUP ocLE kVLE dcLE pmLE cdLE ctLE ocLA kVLA dcLA pmLA cdLA ctLA ocTR kVTR dcTR pmTR cdTR ctTR ocKR kVKR dcKR pmKR cdKR ctKR ocLW kVLW dcLW pmLW cdLW ctLW ocIN kVIN dcIN pmIN cdIN ctIN ocMA kVMA dcMA pmMA cdMA ctMA ocWI kVWI dcWI pmWI cdWI ctWI ocKI kVKI dcKI pmKI cdKI ctKI ocME kVME dcME pmME cdME ctME ocKO kVKO dcKO pmKO cdKO ctKO : Value}
    (aIW : PySem.W.nsIn K mainGlobals "is_word" = some (some (.ref fIW)))
    (aAW : PySem.W.nsIn K mainGlobals "are_words" = some (some (.ref fAW)))
    (aAD : PySem.W.nsIn K mainGlobals "are_different" = some (some (.ref fAD)))
    (aFA : PySem.W.nsIn K mainGlobals "_fault" = some (some (.ref fFA)))
    (aLI : PySem.W.nsIn K mainGlobals "_line" = some (some (.ref fLI)))
    (aPN : PySem.W.nsIn K mainGlobals "_law_pen" = some (some (.ref fPN)))
    (aD : PySem.W.nsIn K mainGlobals "_law_draw" = some (some (.ref fD)))
    (aPK : PySem.W.nsIn K mainGlobals "_law_pick" = some (some (.ref fPK)))
    (aBA : PySem.W.nsIn K mainGlobals "_law_barred" = some (some (.ref fBA)))
    (aWO : PySem.W.nsIn K mainGlobals "_law_words" = some (some (.ref fWO)))
    (aMI : PySem.W.nsIn K mainGlobals "_law_mixed" = some (some (.ref fMI)))
    (aRO : PySem.W.nsIn K mainGlobals "_law_row" = some (some (.ref fRO)))
    (aRS : PySem.W.nsIn K mainGlobals "_law_rows" = some (some (.ref fRS)))
    (aLG : PySem.W.nsIn K mainGlobals "_law_light" = some (some (.ref fLG)))
    (aUP : PySem.W.nsIn K mainGlobals "_law_uppers" = some (some (.ref fUP)))
    (aLE : PySem.W.nsIn K mainGlobals "_law_least" = some (some (.ref fLE)))
    (aLA : PySem.W.nsIn K mainGlobals "_law_later" = some (some (.ref fLA)))
    (aTR : PySem.W.nsIn K mainGlobals "_law_taken_right" = some (some (.ref fTR)))
    (aKR : PySem.W.nsIn K mainGlobals "_law_kinds_right" = some (some (.ref fKR)))
    (aLW : PySem.W.nsIn K mainGlobals "law" = some (some (.ref fLW)))
    (lIW : K.lookup fIW = some ⟨ocIW, odIW, .func (PySem.W.fnOf "is_word" "is_word" (defArgs sIsW) (defBody sIsW) (defScope sIsW) .none kVIW dcIW pmIW anIW cdIW ctIW), slIW⟩) (cIW : PySem.W.codeIn K cdIW "is_word" = true) (kIW : PySem.W.keepIn K (.ref fIW) = true)
    (lAW : K.lookup fAW = some ⟨ocAW, odAW, .func (PySem.W.fnOf "are_words" "are_words" (defArgs sAreW) (defBody sAreW) (defScope sAreW) .none kVAW dcAW pmAW anAW cdAW ctAW), slAW⟩) (cAW : PySem.W.codeIn K cdAW "are_words" = true) (kAW : PySem.W.keepIn K (.ref fAW) = true)
    (lAD : K.lookup fAD = some ⟨ocAD, odAD, .func (PySem.W.fnOf "are_different" "are_different" (defArgs sAreD) (defBody sAreD) (defScope sAreD) .none kVAD dcAD pmAD anAD cdAD ctAD), slAD⟩) (cAD : PySem.W.codeIn K cdAD "are_different" = true) (kAD : PySem.W.keepIn K (.ref fAD) = true)
    (lFA : K.lookup fFA = some ⟨ocFA, odFA, .func (PySem.W.fnOf "_fault" "_fault" (defArgs sFault) (defBody sFault) (defScope sFault) .none kVFA dcFA pmFA anFA cdFA ctFA), slFA⟩) (cFA : PySem.W.codeIn K cdFA "_fault" = true) (kFA : PySem.W.keepIn K (.ref fFA) = true)
    (lLI : K.lookup fLI = some ⟨ocLI, odLI, .func (PySem.W.fnOf "_line" "_line" (defArgs sLine) (defBody sLine) (defScope sLine) .none kVLI dcLI pmLI anLI cdLI ctLI), slLI⟩) (cLI : PySem.W.codeIn K cdLI "_line" = true) (kLI : PySem.W.keepIn K (.ref fLI) = true)
    (lPN : K.lookup fPN = some ⟨ocPN, odPN, .func (PySem.W.fnOf "_law_pen" "_law_pen" (defArgs sPen) (defBody sPen) (defScope sPen) .none kVPN dcPN pmPN anPN cdPN ctPN), slPN⟩) (cPN : PySem.W.codeIn K cdPN "_law_pen" = true) (kPN : PySem.W.keepIn K (.ref fPN) = true)
    (lD : K.lookup fD = some ⟨ocD, odD, .func (PySem.W.fnOf "_law_draw" "_law_draw" (defArgs sDraw) (defBody sDraw) (defScope sDraw) .none kVD dcD pmD anD cdD ctD), slD⟩) (cD : PySem.W.codeIn K cdD "_law_draw" = true) (kD : PySem.W.keepIn K (.ref fD) = true)
    (lPK : K.lookup fPK = some ⟨ocPK, odPK, .func (PySem.W.fnOf "_law_pick" "_law_pick" (defArgs sPick) (defBody sPick) (defScope sPick) .none kVPK dcPK pmPK anPK cdPK ctPK), slPK⟩) (cPK : PySem.W.codeIn K cdPK "_law_pick" = true) (kPK : PySem.W.keepIn K (.ref fPK) = true)
    (lBA : K.lookup fBA = some ⟨ocBA, odBA, .func (PySem.W.fnOf "_law_barred" "_law_barred" (defArgs sBarred) (defBody sBarred) (defScope sBarred) .none kVBA dcBA pmBA anBA cdBA ctBA), slBA⟩) (cBA : PySem.W.codeIn K cdBA "_law_barred" = true) (kBA : PySem.W.keepIn K (.ref fBA) = true)
    (lWO : K.lookup fWO = some ⟨ocWO, odWO, .func (PySem.W.fnOf "_law_words" "_law_words" (defArgs sWords) (defBody sWords) (defScope sWords) .none kVWO dcWO pmWO anWO cdWO ctWO), slWO⟩) (cWO : PySem.W.codeIn K cdWO "_law_words" = true) (kWO : PySem.W.keepIn K (.ref fWO) = true)
    (lMI : K.lookup fMI = some ⟨ocMI, odMI, .func (PySem.W.fnOf "_law_mixed" "_law_mixed" (defArgs sMixed) (defBody sMixed) (defScope sMixed) .none kVMI dcMI pmMI anMI cdMI ctMI), slMI⟩) (cMI : PySem.W.codeIn K cdMI "_law_mixed" = true) (kMI : PySem.W.keepIn K (.ref fMI) = true)
    (lRO : K.lookup fRO = some ⟨ocRO, odRO, .func (PySem.W.fnOf "_law_row" "_law_row" (defArgs sRow) (defBody sRow) (defScope sRow) .none kVRO dcRO pmRO anRO cdRO ctRO), slRO⟩) (cRO : PySem.W.codeIn K cdRO "_law_row" = true) (kRO : PySem.W.keepIn K (.ref fRO) = true)
    (lRS : K.lookup fRS = some ⟨ocRS, odRS, .func (PySem.W.fnOf "_law_rows" "_law_rows" (defArgs sRows) (defBody sRows) (defScope sRows) .none kVRS dcRS pmRS anRS cdRS ctRS), slRS⟩) (cRS : PySem.W.codeIn K cdRS "_law_rows" = true) (kRS : PySem.W.keepIn K (.ref fRS) = true)
    (lLG : K.lookup fLG = some ⟨ocLG, odLG, .func (PySem.W.fnOf "_law_light" "_law_light" (defArgs sLight) (defBody sLight) (defScope sLight) .none kVLG dcLG pmLG anLG cdLG ctLG), slLG⟩) (cLG : PySem.W.codeIn K cdLG "_law_light" = true) (kLG : PySem.W.keepIn K (.ref fLG) = true)
    (lUP : K.lookup fUP = some ⟨ocUP, odUP, .func (PySem.W.fnOf "_law_uppers" "_law_uppers" (defArgs sUppers) (defBody sUppers) (defScope sUppers) .none kVUP dcUP pmUP anUP cdUP ctUP), slUP⟩) (cUP : PySem.W.codeIn K cdUP "_law_uppers" = true) (kUP : PySem.W.keepIn K (.ref fUP) = true)
    (lLE : K.lookup fLE = some ⟨ocLE, odLE, .func (PySem.W.fnOf "_law_least" "_law_least" (defArgs sLeast) (defBody sLeast) (defScope sLeast) .none kVLE dcLE pmLE anLE cdLE ctLE), slLE⟩) (cLE : PySem.W.codeIn K cdLE "_law_least" = true) (kLE : PySem.W.keepIn K (.ref fLE) = true)
    (lLA : K.lookup fLA = some ⟨ocLA, odLA, .func (PySem.W.fnOf "_law_later" "_law_later" (defArgs sLater) (defBody sLater) (defScope sLater) .none kVLA dcLA pmLA anLA cdLA ctLA), slLA⟩) (cLA : PySem.W.codeIn K cdLA "_law_later" = true) (kLA : PySem.W.keepIn K (.ref fLA) = true)
    (lTR : K.lookup fTR = some ⟨ocTR, odTR, .func (PySem.W.fnOf "_law_taken_right" "_law_taken_right" (defArgs sTR) (defBody sTR) (defScope sTR) .none kVTR dcTR pmTR anTR cdTR ctTR), slTR⟩) (cTR : PySem.W.codeIn K cdTR "_law_taken_right" = true) (kTR : PySem.W.keepIn K (.ref fTR) = true)
    (lKR : K.lookup fKR = some ⟨ocKR, odKR, .func (PySem.W.fnOf "_law_kinds_right" "_law_kinds_right" (defArgs sKR) (defBody sKR) (defScope sKR) .none kVKR dcKR pmKR anKR cdKR ctKR), slKR⟩) (cKR : PySem.W.codeIn K cdKR "_law_kinds_right" = true) (kKR : PySem.W.keepIn K (.ref fKR) = true)
    (lLW : K.lookup fLW = some ⟨ocLW, odLW, .func (PySem.W.fnOf "law" "law" (defArgs sLaw) (defBody sLaw) (defScope sLaw) .none kVLW dcLW pmLW anLW cdLW ctLW), slLW⟩) (cLW : PySem.W.codeIn K cdLW "law" = true) (kLW : PySem.W.keepIn K (.ref fLW) = true)
    (lIN : K.lookup fIN = some ⟨ocIN, odIN, .func (PySem.W.fnOf "__init__" "Classes.__init__" (defArgs sInit) (defBody sInit) (defScope sInit) .none kVIN dcIN pmIN anIN cdIN ctIN), slIN⟩) (cIN : PySem.W.codeIn K cdIN "Classes.__init__" = true) (kIN : PySem.W.keepIn K (.ref fIN) = true)
    (lMA : K.lookup fMA = some ⟨ocMA, odMA, .func (PySem.W.fnOf "made" "Classes.made" (defArgs sMade) (defBody sMade) (defScope sMade) .none kVMA dcMA pmMA anMA cdMA ctMA), slMA⟩) (cMA : PySem.W.codeIn K cdMA "Classes.made" = true) (kMA : PySem.W.keepIn K (.ref fMA) = true)
    (lWI : K.lookup fWI = some ⟨ocWI, odWI, .func (PySem.W.fnOf "within" "Classes.within" (defArgs sWithin) (defBody sWithin) (defScope sWithin) .none kVWI dcWI pmWI anWI cdWI ctWI), slWI⟩) (cWI : PySem.W.codeIn K cdWI "Classes.within" = true) (kWI : PySem.W.keepIn K (.ref fWI) = true)
    (lKI : K.lookup fKI = some ⟨ocKI, odKI, .func (PySem.W.fnOf "kind" "Classes.kind" (defArgs sKind) (defBody sKind) (defScope sKind) .none kVKI dcKI pmKI anKI cdKI ctKI), slKI⟩) (cKI : PySem.W.codeIn K cdKI "Classes.kind" = true) (kKI : PySem.W.keepIn K (.ref fKI) = true)
    (lME : K.lookup fME = some ⟨ocME, odME, .func (PySem.W.fnOf "meets" "Classes.meets" (defArgs sMeets) (defBody sMeets) (defScope sMeets) .none kVME dcME pmME anME cdME ctME), slME⟩) (cME : PySem.W.codeIn K cdME "Classes.meets" = true) (kME : PySem.W.keepIn K (.ref fME) = true)
    (lKO : K.lookup fKO = some ⟨ocKO, odKO, .func (PySem.W.fnOf "kind_of" "Classes.kind_of" (defArgs sKO) (defBody sKO) (defScope sKO) .none kVKO dcKO pmKO anKO cdKO ctKO), slKO⟩) (cKO : PySem.W.codeIn K cdKO "Classes.kind_of" = true) (kKO : PySem.W.keepIn K (.ref fKO) = true)
    (aC : PySem.W.nsIn K mainGlobals "Classes" = some (some (.ref C)))
    (aIN : PySem.W.findIn K (.ref C) "__init__" = some (some (.ref fIN)))
    (iIN : PySem.W.isFn K (.ref fIN) = true)
    (aWI : PySem.W.findIn K (.ref C) "within" = some (some (.ref fWI)))
    (iWI : PySem.W.isFn K (.ref fWI) = true)
    (aKI : PySem.W.findIn K (.ref C) "kind" = some (some (.ref fKI)))
    (iKI : PySem.W.isFn K (.ref fKI) = true)
    (aME : PySem.W.findIn K (.ref C) "meets" = some (some (.ref fME)))
    (iME : PySem.W.isFn K (.ref fME) = true)
    (aKO : PySem.W.findIn K (.ref C) "kind_of" = some (some (.ref fKO)))
    (iKO : PySem.W.isFn K (.ref fKO) = true)
    (gKI : PySem.W.specialIn K (.ref fKI) "__get__" = some (some (.builtin "function.__get__")))
    (tKI : PySem.W.takesIn K (.ref fKI) = some false)
    (nKI : PySem.W.fnIn K fKI = true)
    (pg : PySem.W.plainGet K C Str.empty = true)
    (hd : PySem.W.hasDictIn K C = true)
    (po : PySem.W.plainOver K C = true)
    (sa : PySem.W.findIn K (.ref C) "__setattr__" = some (some (.builtin "object.__setattr__")))
    (mk : PySem.W.makesIn K C = true)
    (kc : PySem.W.keepIn K (.ref C) = true)
    (nR : PySem.W.findIn K (.ref C) "rows" = some none)
    (nN : PySem.W.findIn K (.ref C) "names" = some none)
    (nL : PySem.W.findIn K (.ref C) "_lines" = some none)
    (rd : PySem.W.readsIn K C (.type "type") = true)
    (ga : PySem.W.specialIn K (.ref C) "__getattribute__" = some (some (.builtin "type.__getattribute__")))
    (cm : PySem.W.findCls K (.ref C) (.type "type") "made" = some (.get (.builtin "classmethod.__get__") (.ref pM) .none (.ref C)))
    (rc : PySem.W.recIn K pM "classmethod" = some (.ref fMA :: rest))
    (fi : PySem.W.fnIn K fMA = true)
    (zL : PySem.W.nsIn K mainGlobals "LONGEST" = some (some (.int 8 t1)))
    (zM : PySem.W.nsIn K mainGlobals "MOST_ROWS" = some (some (.int 30 t2)))
    (zR : PySem.W.nsIn K mainGlobals "RESERVED" = some (some (.ref aR)))
    (lR : K.lookup aR = some ⟨.type "tuple", ddR, .seq itsR nR2, slR⟩)
    (vR : chkS resd itsR.toList = true)
    (szR : itsR.size ≤ sizeLine)
    (b_len : PySem.W.nsIn K mainGlobals "len" = some none)
    (b_int : PySem.W.nsIn K mainGlobals "int" = some none)
    (b_abs : PySem.W.nsIn K mainGlobals "abs" = some none)
    (b_range : PySem.W.nsIn K mainGlobals "range" = some none)
    (b_list : PySem.W.nsIn K mainGlobals "list" = some none)
    (b_tuple : PySem.W.nsIn K mainGlobals "tuple" = some none)
    (b_enumerate : PySem.W.nsIn K mainGlobals "enumerate" = some none)
    (b_isinstance : PySem.W.nsIn K mainGlobals "isinstance" = some none)
    (b_str : PySem.W.nsIn K mainGlobals "str" = some none)
    (b_set : PySem.W.nsIn K mainGlobals "set" = some none)
    (b_all : PySem.W.nsIn K mainGlobals "all" = some none)
    (b_repr : PySem.W.nsIn K mainGlobals "repr" = some none)
    (b_any : PySem.W.nsIn K mainGlobals "any" = some none)
    (b_sorted : PySem.W.nsIn K mainGlobals "sorted" = some none)
    (b_max : PySem.W.nsIn K mainGlobals "max" = some none)
    : ∃ fd : FuncData, (∀ (z : Shared) (u : Value), BindsTo z fd ⟨[u], []⟩ [("_law_script", u)]) ∧ ∀ base : Heap, K.In base → base.Ns mainGlobals mg → FnG l.prog w K mg base 8 fa fd ["_law_script"] (spLaw K) := by
  have e := hfa.symm.trans (PySem.W.mg_of X G aLW)
  cases e
  have T : Bi mg := ⟨PySem.W.mg_none_of X G b_len, PySem.W.mg_none_of X G b_int, PySem.W.mg_none_of X G b_abs, PySem.W.mg_none_of X G b_range, PySem.W.mg_none_of X G b_list, PySem.W.mg_none_of X G b_tuple, PySem.W.mg_none_of X G b_enumerate, PySem.W.mg_none_of X G b_isinstance, PySem.W.mg_none_of X G b_str, PySem.W.mg_none_of X G b_set, PySem.W.mg_none_of X G b_all, PySem.W.mg_none_of X G b_repr⟩
  have GB : Gb K mg aR t1 t2 := ⟨PySem.W.mg_of X G zL, PySem.W.mg_of X G zM, PySem.W.mg_of X G zR, fun H => .inr ⟨_, itsR, nR2, lR, rfl, rfl, szR, chk_vals vR⟩⟩
  have Y : Txt K mg C := ⟨⟨pg, hd, po, sa⟩, nR, nN, nL, PySem.W.mg_of X G aC⟩
  have FIW := fun_mk (st := sIsW) lIW cIW kIW
  have FAW := fun_mk (st := sAreW) lAW cAW kAW
  have FAD := fun_mk (st := sAreD) lAD cAD kAD
  have FFA := fun_mk (st := sFault) lFA cFA kFA
  have FLI := fun_mk (st := sLine) lLI cLI kLI
  have FPN := fun_mk (st := sPen) lPN cPN kPN
  have FD := fun_mk (st := sDraw) lD cD kD
  have FPK := fun_mk (st := sPick) lPK cPK kPK
  have FBA := fun_mk (st := sBarred) lBA cBA kBA
  have FWO := fun_mk (st := sWords) lWO cWO kWO
  have FMI := fun_mk (st := sMixed) lMI cMI kMI
  have FRO := fun_mk (st := sRow) lRO cRO kRO
  have FRS := fun_mk (st := sRows) lRS cRS kRS
  have FLG := fun_mk (st := sLight) lLG cLG kLG
  have FUP := fun_mk (st := sUppers) lUP cUP kUP
  have FLE := fun_mk (st := sLeast) lLE cLE kLE
  have FLA := fun_mk (st := sLater) lLA cLA kLA
  have FTR := fun_mk (st := sTR) lTR cTR kTR
  have FKR := fun_mk (st := sKR) lKR cKR kKR
  have FLW := fun_mk (st := sLaw) lLW cLW kLW
  have FIN := fun_mk (st := sInit) lIN cIN kIN
  have FMA := fun_mk (st := sMade) lMA cMA kMA
  have FWI := fun_mk (st := sWithin) lWI cWI kWI
  have FKI := fun_mk (st := sKind) lKI cKI kKI
  have FME := fun_mk (st := sMeets) lME cME kME
  have FKO := fun_mk (st := sKO) lKO cKO kKO
  have DIW : Df K mg "is_word" sIsW fIW _ (["x"] : List Str) := ⟨FIW, PySem.W.mg_of X G aIW, FIW.binds (ps := ["x"]) fun _ _ _ _ _ _ us hl => match us, hl with | [_], _ => rfl⟩
  have DAW : Df K mg "are_words" sAreW fAW _ (["xs"] : List Str) := ⟨FAW, PySem.W.mg_of X G aAW, FAW.binds (ps := ["xs"]) fun _ _ _ _ _ _ us hl => match us, hl with | [_], _ => rfl⟩
  have DAD : Df K mg "are_different" sAreD fAD _ (["words"] : List Str) := ⟨FAD, PySem.W.mg_of X G aAD, FAD.binds (ps := ["words"]) fun _ _ _ _ _ _ us hl => match us, hl with | [_], _ => rfl⟩
  have DFA : Df K mg "_fault" sFault fFA _ (["row", "k", "lines"] : List Str) := ⟨FFA, PySem.W.mg_of X G aFA, FFA.binds (ps := ["row", "k", "lines"]) fun _ _ _ _ _ _ us hl => match us, hl with | [_, _, _], _ => rfl⟩
  have DLI : Df K mg "_line" sLine fLI _ (["row", "lines"] : List Str) := ⟨FLI, PySem.W.mg_of X G aLI, FLI.binds (ps := ["row", "lines"]) fun _ _ _ _ _ _ us hl => match us, hl with | [_, _], _ => rfl⟩
  have DPN : Df K mg "_law_pen" sPen fPN _ (["_law_script"] : List Str) := ⟨FPN, PySem.W.mg_of X G aPN, FPN.binds (ps := ["_law_script"]) fun _ _ _ _ _ _ us hl => match us, hl with | [_], _ => rfl⟩
  have DD : Df K mg "_law_draw" sDraw fD _ (["_law_pen_here", "_law_many"] : List Str) := ⟨FD, PySem.W.mg_of X G aD, FD.binds (ps := ["_law_pen_here", "_law_many"]) fun _ _ _ _ _ _ us hl => match us, hl with | [_, _], _ => rfl⟩
  have DPK : Df K mg "_law_pick" sPick fPK _ (["_law_pen_here", "_law_some"] : List Str) := ⟨FPK, PySem.W.mg_of X G aPK, FPK.binds (ps := ["_law_pen_here", "_law_some"]) fun _ _ _ _ _ _ us hl => match us, hl with | [_, _], _ => rfl⟩
  have DBA : Df K mg "_law_barred" sBarred fBA _ ([] : List Str) := ⟨FBA, PySem.W.mg_of X G aBA, FBA.binds (ps := []) fun _ _ _ _ _ _ us hl => match us, hl with | [], _ => rfl⟩
  have DWO : Df K mg "_law_words" sWords fWO _ (["_law_pen_here", "_law_many"] : List Str) := ⟨FWO, PySem.W.mg_of X G aWO, FWO.binds (ps := ["_law_pen_here", "_law_many"]) fun _ _ _ _ _ _ us hl => match us, hl with | [_, _], _ => rfl⟩
  have DMI : Df K mg "_law_mixed" sMixed fMI _ (["_law_pen_here", "_law_some"] : List Str) := ⟨FMI, PySem.W.mg_of X G aMI, FMI.binds (ps := ["_law_pen_here", "_law_some"]) fun _ _ _ _ _ _ us hl => match us, hl with | [_, _], _ => rfl⟩
  have DRO : Df K mg "_law_row" sRow fRO _ (["_law_pen_here", "_law_word", "_law_known"] : List Str) := ⟨FRO, PySem.W.mg_of X G aRO, FRO.binds (ps := ["_law_pen_here", "_law_word", "_law_known"]) fun _ _ _ _ _ _ us hl => match us, hl with | [_, _, _], _ => rfl⟩
  have DRS : Df K mg "_law_rows" sRows fRS _ (["_law_pen_here", "_law_words_here"] : List Str) := ⟨FRS, PySem.W.mg_of X G aRS, FRS.binds (ps := ["_law_pen_here", "_law_words_here"]) fun _ _ _ _ _ _ us hl => match us, hl with | [_, _], _ => rfl⟩
  have DLG : Df K mg "_law_light" sLight fLG _ (["_law_rows_here"] : List Str) := ⟨FLG, PySem.W.mg_of X G aLG, FLG.binds (ps := ["_law_rows_here"]) fun _ _ _ _ _ _ us hl => match us, hl with | [_], _ => rfl⟩
  have DUP : Df K mg "_law_uppers" sUppers fUP _ (["_law_rows_here"] : List Str) := ⟨FUP, PySem.W.mg_of X G aUP, FUP.binds (ps := ["_law_rows_here"]) fun _ _ _ _ _ _ us hl => match us, hl with | [_], _ => rfl⟩
  have DLE : Df K mg "_law_least" sLeast fLE _ (["_law_uppers_here", "_law_some"] : List Str) := ⟨FLE, PySem.W.mg_of X G aLE, FLE.binds (ps := ["_law_uppers_here", "_law_some"]) fun _ _ _ _ _ _ us hl => match us, hl with | [_, _], _ => rfl⟩
  have DLA : Df K mg "_law_later" sLater fLA _ (["_law_pen_here", "_law_words_here", "_law_known"] : List Str) := ⟨FLA, PySem.W.mg_of X G aLA, FLA.binds (ps := ["_law_pen_here", "_law_words_here", "_law_known"]) fun _ _ _ _ _ _ us hl => match us, hl with | [_, _, _], _ => rfl⟩
  have DTR : Df K mg "_law_taken_right" sTR fTR _ (["_law_pen_here", "_law_whole", "_law_built", "_law_word", "_law_sort_so"] : List Str) := ⟨FTR, PySem.W.mg_of X G aTR, FTR.binds (ps := ["_law_pen_here", "_law_whole", "_law_built", "_law_word", "_law_sort_so"]) fun _ _ _ _ _ _ us hl => match us, hl with | [_, _, _, _, _], _ => rfl⟩
  have DKR : Df K mg "_law_kinds_right" sKR fKR _ (["_law_pen_here", "_law_rows_here", "_law_later_here"] : List Str) := ⟨FKR, PySem.W.mg_of X G aKR, FKR.binds (ps := ["_law_pen_here", "_law_rows_here", "_law_later_here"]) fun _ _ _ _ _ _ us hl => match us, hl with | [_, _, _], _ => rfl⟩
  have BMA := FMA.binds (ps := ["cls", "rows"]) fun _ _ _ _ _ _ us hl => match us, hl with | [_, _], _ => rfl
  have BWI := FWI.binds (ps := ["self", "one", "other"]) fun _ _ _ _ _ _ us hl => match us, hl with | [_, _, _], _ => rfl
  have BME := FME.binds (ps := ["self", "kind", "names"]) fun _ _ _ _ _ _ us hl => match us, hl with | [_, _, _], _ => rfl
  have BKO := FKO.binds (ps := ["self", "name", "among"]) fun _ _ _ _ _ _ us hl => match us, hl with | [_, _, _], _ => rfl
  have KK : KBn K _ ["self", "name", "among"] 1 ["among", "name"] (fun us ws => us ++ ws.reverse) (fun vs zs => vs ++ zs.reverse) :=
    ⟨fun z us ws _ h1 h2 => match us, ws, h1, h2 with | [_], [_, _], _, _ => BindsTo.of_eq (fd := (PySem.W.fnOf "kind_of" "Classes.kind_of" (defArgs sKO) (defBody sKO) (defScope sKO) .none kVKO dcKO pmKO anKO cdKO ctKO)) rfl, fun r1 r2 => r1.append (vals_rev r2)⟩
  have tAny := PySem.W.mg_none_of X G b_any
  have tSo := PySem.W.mg_none_of X G b_sorted
  have tMax := PySem.W.mg_none_of X G b_max
  have mW : Meth K C "within" fWI := ⟨aWI, iWI, kWI⟩
  have mK : BMeth K C "kind" fKI := ⟨⟨aKI, iKI, kKI⟩, gKI, tKI, by decide +kernel, nKI⟩
  have mM : Meth K C "meets" fME := ⟨aME, iME, kME⟩
  have mKO : Meth K C "kind_of" fKO := ⟨aKO, iKO, kKO⟩
  refine ⟨_, fun z u => .of_eq (fd := (PySem.W.fnOf "law" "law" (defArgs sLaw) (defBody sLaw) (defScope sLaw) .none kVLW dcLW pmLW anLW cdLW ctLW)) rfl, fun base _ _ => ?_⟩
  have GD := ok_draw (P := l.prog) (w := w) (base := base) FD T
  have GP := ok_pick (P := l.prog) (w := w) (base := base) FPK T DD
  have GBa := ok_barred (P := l.prog) (w := w) (mg := mg) (base := base) FBA
  have GWo := ok_words (P := l.prog) (w := w) (base := base) FWO T DD DPK DBA
  have GMi := ok_mixed (P := l.prog) (w := w) (base := base) FMI T DD
  have GRo := ok_row FRO T DPK GP DMI GMi
  have GRs := ok_rows FRS DRO GRo
  have GLa := ok_later FLA T DPK GP DMI GMi
  have GLg := ok_light (P := l.prog) (w := w) (mg := mg) (base := base) FLG
  have GUp := ok_uppers (P := l.prog) (w := w) (mg := mg) (base := base) FUP
  have GIw := ok_isw (P := l.prog) (w := w) (base := base) FIW T GB
  have GAw := ok_arew FAW T DIW GIw
  have GAd := ok_ared (P := l.prog) (w := w) (base := base) FAD T
  have GFa := ok_fault FFA T GB DAW GAw DAD GAd
  have GLi := ok_line (P := l.prog) (w := w) (mg := mg) (base := base) FLI
  have GIn := ok_init FIN Y T DFA GFa DLI GLi
  have GMa := ok_made FMA ⟨mk, aIN, iIN, kc⟩ GIn
  have GWi := ok_within (P := l.prog) (w := w) (base := base) FWI Y
  have GKi : FnR l.prog w K mg base CX0 3 fKI (spKindR C) := ok_kind FKI Y T tAny tSo mW GWi BWI
  have GMeL := ok_meets true FME Y T tAny mW GWi BWI
  have GKO := ok_ko FKO Y mW GWi BWI mK GKi
  have GLe := ok_least (P := l.prog) (w := w) (base := base) FLE T tSo
  have GTR := ok_tr FTR T Y DPK GP mM GMeL BME mW GWi BWI
  have GKR := ok_kr FKR T Y DUP GUp DLE GLe DTR GTR mKO GKO BKO KK ⟨rd, ga⟩ ⟨cm, ⟨rest, rc⟩, fi⟩ GMa BMA
  have GPn := ok_pen (P := l.prog) (w := w) (base := base) FPN T
  exact ok_law FLW T tMax DPN GPn DD GD DPK GP DWO GWo DRS GRs DLA GLa DLG GLg DKR GKR
theorem walk {l : PySem.W.OpenLaw} {q : Program} {loose : List Str} {XP : (Str → Option Value) → Heap → Prop} {YP : World → Heap → Prop} {d : DefRec} {K : Params → PySem.W.Frag} (hn : l.most = some 63) (hdf : d.params.defaults = [])
    (hY : ∀ (w : World) (h : Heap), YP w h → (K w.params).In h)
    (F : ∀ (w : World) (mg : Str → Option Value) (fa : Addr) (h : Heap), (K w.params).In h → h.Ns mainGlobals mg → mg d.name = some (.ref fa) →
      ∃ fd : FuncData, (∀ (z : Shared) (u : Value), BindsTo z fd ⟨[u], []⟩ [("_law_script", u)]) ∧ ∀ base : Heap, (K w.params).In base → base.Ns mainGlobals mg → FnG l.prog w (K w.params) mg base 8 fa fd ["_law_script"] (spLaw (K w.params))) :
    PySem.W.WalkO q loose XP YP l.row.toRowW d [] (fun f vs => PySem.call f vs) := walk_ofG hn hdf ⟨rfl, by decide, by decide⟩ hY F
end K2
end
section
set_option Elab.async false
set_option maxRecDepth 100000
open PySem PySem.W PyProof.Rows
set_option maxRecDepth 100000 in
set_option maxHeartbeats 0 in
theorem PySem.Challenge.cw_whatleaves_k06_whole_clauses_go_by_kinds_holds : PySem.Challenge.rw_whatleaves_k06_whole_clauses_go_by_kinds.Holds := by
  w_on; o_law; k_head; (case hw => w_witness2)
  k_fill
  refine K2.walk (l := PySem.Challenge.rw_whatleaves_k06_whole_clauses_go_by_kinds) rfl rfl (fun w h Y => PySem.W.kIn_of Y) ?F
  case F =>
    intro w mg fa h KX G hmg
    refine' K2.all_mk KX G hmg ?aIW ?aAW ?aAD ?aFA ?aLI ?aPN ?aD ?aPK ?aBA ?aWO ?aMI ?aRO ?aRS ?aLG ?aUP ?aLE ?aLA ?aTR ?aKR ?aLW ?lIW ?cIW ?kIW ?lAW ?cAW ?kAW ?lAD ?cAD ?kAD ?lFA ?cFA ?kFA ?lLI ?cLI ?kLI ?lPN ?cPN ?kPN ?lD ?cD ?kD ?lPK ?cPK ?kPK ?lBA ?cBA ?kBA ?lWO ?cWO ?kWO ?lMI ?cMI ?kMI ?lRO ?cRO ?kRO ?lRS ?cRS ?kRS ?lLG ?cLG ?kLG ?lUP ?cUP ?kUP ?lLE ?cLE ?kLE ?lLA ?cLA ?kLA ?lTR ?cTR ?kTR ?lKR ?cKR ?kKR ?lLW ?cLW ?kLW ?lIN ?cIN ?kIN ?lMA ?cMA ?kMA ?lWI ?cWI ?kWI ?lKI ?cKI ?kKI ?lME ?cME ?kME ?lKO ?cKO ?kKO ?aC ?aIN ?iIN ?aWI ?iWI ?aKI ?iKI ?aME ?iME ?aKO ?iKO ?gKI ?tKI ?nKI ?pg ?hd ?po ?sa ?mk ?kc ?nR ?nN ?nL ?rd ?ga ?cm ?rc ?fi ?zL ?zM ?zR ?lR ?vR ?szR ?b_len ?b_int ?b_abs ?b_range ?b_list ?b_tuple ?b_enumerate ?b_isinstance ?b_str ?b_set ?b_all ?b_repr ?b_any ?b_sorted ?b_max
    (case aIW => k_is)
    (case aAW => k_is)
    (case aAD => k_is)
    (case aFA => k_is)
    (case aLI => k_is)
    (case aPN => k_is)
    (case aD => k_is)
    (case aPK => k_is)
    (case aBA => k_is)
    (case aWO => k_is)
    (case aMI => k_is)
    (case aRO => k_is)
    (case aRS => k_is)
    (case aLG => k_is)
    (case aUP => k_is)
    (case aLE => k_is)
    (case aLA => k_is)
    (case aTR => k_is)
    (case aKR => k_is)
    (case aLW => k_is)
    (case lIW => k_is)
    (case cIW => k_is)
    (case kIW => k_is)
    (case lAW => k_is)
    (case cAW => k_is)
    (case kAW => k_is)
    (case lAD => k_is)
    (case cAD => k_is)
    (case kAD => k_is)
    (case lFA => k_is)
    (case cFA => k_is)
    (case kFA => k_is)
    (case lLI => k_is)
    (case cLI => k_is)
    (case kLI => k_is)
    (case lPN => k_is)
    (case cPN => k_is)
    (case kPN => k_is)
    (case lD => k_is)
    (case cD => k_is)
    (case kD => k_is)
    (case lPK => k_is)
    (case cPK => k_is)
    (case kPK => k_is)
    (case lBA => k_is)
    (case cBA => k_is)
    (case kBA => k_is)
    (case lWO => k_is)
    (case cWO => k_is)
    (case kWO => k_is)
    (case lMI => k_is)
    (case cMI => k_is)
    (case kMI => k_is)
    (case lRO => k_is)
    (case cRO => k_is)
    (case kRO => k_is)
    (case lRS => k_is)
    (case cRS => k_is)
    (case kRS => k_is)
    (case lLG => k_is)
    (case cLG => k_is)
    (case kLG => k_is)
    (case lUP => k_is)
    (case cUP => k_is)
    (case kUP => k_is)
    (case lLE => k_is)
    (case cLE => k_is)
    (case kLE => k_is)
    (case lLA => k_is)
    (case cLA => k_is)
    (case kLA => k_is)
    (case lTR => k_is)
    (case cTR => k_is)
    (case kTR => k_is)
    (case lKR => k_is)
    (case cKR => k_is)
    (case kKR => k_is)
    (case lLW => k_is)
    (case cLW => k_is)
    (case kLW => k_is)
    (case aC => k_is)
    (case aIN => k_is)
    (case iIN => k_is)
    (case aWI => k_is)
    (case iWI => k_is)
    (case aKI => k_is)
    (case iKI => k_is)
    (case aME => k_is)
    (case iME => k_is)
    (case aKO => k_is)
    (case iKO => k_is)
    (case gKI => k_is)
    (case tKI => k_is)
    (case nKI => k_is)
    (case pg => k_is)
    (case hd => k_is)
    (case po => k_is)
    (case sa => k_is)
    (case mk => k_is)
    (case kc => k_is)
    (case nR => k_is)
    (case nN => k_is)
    (case nL => k_is)
    (case rd => k_is)
    (case ga => k_is)
    (case cm => k_is)
    (case rc => k_is)
    (case lIN => k_is)
    (case cIN => k_is)
    (case kIN => k_is)
    (case lMA => k_is)
    (case cMA => k_is)
    (case kMA => k_is)
    (case lWI => k_is)
    (case cWI => k_is)
    (case kWI => k_is)
    (case lKI => k_is)
    (case cKI => k_is)
    (case kKI => k_is)
    (case lME => k_is)
    (case cME => k_is)
    (case kME => k_is)
    (case lKO => k_is)
    (case cKO => k_is)
    (case kKO => k_is)
    (case fi => k_is)
    (case zL => k_is)
    (case zM => k_is)
    (case zR => k_is)
    (case lR => k_is)
    (case vR => decide +kernel)
    (case szR => decide +kernel)
    (case b_len => k_is)
    (case b_int => k_is)
    (case b_abs => k_is)
    (case b_range => k_is)
    (case b_list => k_is)
    (case b_tuple => k_is)
    (case b_enumerate => k_is)
    (case b_isinstance => k_is)
    (case b_str => k_is)
    (case b_set => k_is)
    (case b_all => k_is)
    (case b_repr => k_is)
    (case b_any => k_is)
    (case b_sorted => k_is)
    (case b_max => k_is)
end
