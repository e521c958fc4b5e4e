import PyProof.Rows.All
import Wide.All
import OpenK.AllK
import Wide.FinOn
import HandS.ForMost
import HandS.Style
import HandS.TupAny
import HandS.Strs
import HandS.IsInst
import HandS.StrMore
import HandS.Walk
import KE.GoesEnum
import KE.GoesMore
import HandS.Star
import HandS.Conv
import HandS.ClsMeth
import HandS.MakeKw
import PyProof.ReprLen
import HandS.Set
import HandS.SetTxt0
import PyProof.Rows.SortShellAny
import HandS.OwnEq
import PyProof.InstNe
import HandS.More
import HandS.TupSets
import KE.KSortTupG
import PyProof.TupleOfSeq
import HandS.ExcIs
import HandS.ExcField
import HandS.ExcValue
import HandS.ExcInit
import KE.KIsAll
import HandS.Lambda
import HandS.WordsExc
import PyProof.NeKinds
import HandS.Wide
import HandS.EndTab
import KE.KNestM
import HandS.SortRule
import PySem.Challenge.RW_whatleaves_k73_rows_put_into_themselves
section
set_option autoImplicit true
namespace K2
open PySem

abbrev Row := Str × List Str
def barredL : List String := ["pass", "raise", "from", "none", "again", "return", "returns", "break", "call", "handling", "else", "either", "or", "loop", "try", "except", "as", "finally", "with", "quiet", "class", "def", "error", "vacant"]
def barred : List Str := barredL.map Str.ofString
def resd : List Str := barred.take 22
def sErr : Str := Str.ofString "error"
def sVac : Str := Str.ofString "vacant"
def codes (x : Str) : List Nat := x.cps.toList
def txt (l : List Nat) : Str := ⟨l.toArray⟩
theorem codes_txt (l : List Nat) : codes (txt l) = l := by simp [codes, txt]
theorem txt_codes (x : Str) : txt (codes x) = x := by cases x; simp [codes, txt]
theorem codes_inj {x y : Str} (h : codes x = codes y) : x = y := by rw [← txt_codes x, ← txt_codes y, h]

/-- a text of small letters -/
def Low (l : List Nat) : Prop := ∀ c ∈ l, 97 ≤ c ∧ c ≤ 122
/-- a word of the document -/
structure VW (x : Str) : Prop where
  low : Low (codes x)
  ne : codes x ≠ []
  le : (codes x).length ≤ 8
  nr : x ∉ resd
theorem vw_err : VW sErr := ⟨by unfold Low; decide +kernel, by decide +kernel, by decide +kernel, by decide +kernel⟩
theorem vw_vac : VW sVac := ⟨by unfold Low; decide +kernel, by decide +kernel, by decide +kernel, by decide +kernel⟩
theorem err_ne_vac : sErr ≠ sVac := by decide +kernel
theorem mem_resd {x : Str} (h : x ∈ resd) : x ∈ barred := List.mem_of_mem_take h
theorem err_barred : sErr ∈ barred := by decide +kernel
theorem vac_barred : sVac ∈ barred := by decide +kernel

/-! ### words -/
def wordAt (base : List Nat) (spot : Nat) (sign : Nat) : List Nat := base.take spot ++ [sign] ++ base.drop spot
def signAt (first hop k : Nat) : Nat := 97 + (first + hop * k) % 26
def finalAt (base : List Nat) (spot first hop k : Nat) : List Nat :=
  let w := wordAt base spot (signAt first hop k)
  w ++ (if 26 ≤ k then [113] else if txt w ∈ barred then [122] else [])
theorem barred_end : ∀ b ∈ barred, ∀ c, (codes b).getLast? = some c → c ≠ 113 ∧ c ≠ 122 := by
  have h : ∀ b ∈ barred, (codes b).getLast? ≠ some 113 ∧ (codes b).getLast? ≠ some 122 := by decide +kernel
  intro b hb c hc
  have := h b hb
  refine ⟨fun e => this.1 (by rw [hc, e]), fun e => this.2 (by rw [hc, e])⟩
theorem low_wordAt (hb : Low base) (h1 : 97 ≤ sign) (h2 : sign ≤ 122) : Low (wordAt base spot sign) := by
  intro c hc
  unfold wordAt at hc
  rcases List.mem_append.mp hc with hc | hc
  · rcases List.mem_append.mp hc with hc | hc
    · exact hb c (List.mem_of_mem_take hc)
    · have : c = sign := by simpa using hc
      omega
  · exact hb c (List.mem_of_mem_drop hc)
theorem len_wordAt (base : List Nat) (spot sign : Nat) : (wordAt base spot sign).length = base.length + 1 := by
  unfold wordAt
  simp only [List.length_append, List.length_take, List.length_drop, List.length_singleton]
  omega
theorem sign_lo (f h k : Nat) : 97 ≤ signAt f h k ∧ signAt f h k ≤ 122 := by
  unfold signAt; omega
theorem sign_ne {f hop i j : Nat} (hh : hop ∈ [1, 3, 5, 7, 9, 11]) (h1 : i < j) (h2 : j < i + 26) : signAt f hop i ≠ signAt f hop j := by
  unfold signAt
  simp only [List.mem_cons, List.not_mem_nil, or_false] at hh
  rcases hh with rfl | rfl | rfl | rfl | rfl | rfl <;> omega
theorem word_ne {base : List Nat} {spot s t : Nat} (h : s ≠ t) : wordAt base spot s ≠ wordAt base spot t := by
  unfold wordAt
  intro e
  rw [List.append_assoc, List.append_assoc] at e
  have := List.append_cancel_left e
  have h2 : s = t := by simpa using (List.cons.inj this).1
  exact h h2
theorem vw_final {base : List Nat} (hb : Low base) (hl : base.length ≤ 6) (spot f hop k : Nat) : VW (txt (finalAt base spot f hop k)) ∧ txt (finalAt base spot f hop k) ∉ barred := by
  have hw := low_wordAt (spot := spot) hb (sign_lo f hop k).1 (sign_lo f hop k).2
  have hlen := len_wordAt base spot (signAt f hop k)
  have nb : txt (finalAt base spot f hop k) ∉ barred := by
    intro hm
    have he := barred_end _ hm
    rw [codes_txt] at he
    by_cases h1 : 26 ≤ k
    · unfold finalAt at he
      simp only [h1, if_true] at he
      exact (he 113 (by simp)).1 rfl
    · by_cases h2 : txt (wordAt base spot (signAt f hop k)) ∈ barred
      · unfold finalAt at he
        simp only [h1, if_false, h2, if_true] at he
        exact (he 122 (by simp)).2 rfl
      · unfold finalAt at hm
        simp only [h1, if_false, h2, if_false, List.append_nil] at hm
  refine ⟨⟨?_, ?_, ?_, fun h => nb (mem_resd h)⟩, nb⟩
  · rw [codes_txt]
    unfold finalAt
    intro c hc
    rcases List.mem_append.mp hc with hc | hc
    · exact hw c hc
    · split at hc
      · have : c = 113 := by simpa using hc
        omega
      · split at hc
        · have : c = 122 := by simpa using hc
          omega
        · cases hc
  · rw [codes_txt]
    intro e
    have : (finalAt base spot f hop k).length = 0 := by rw [e]; rfl
    unfold finalAt at this
    rw [List.length_append, hlen] at this
    omega
  · rw [codes_txt]
    unfold finalAt
    rw [List.length_append, hlen]
    split
    · show base.length + 1 + 1 ≤ 8; omega
    · split
      · show base.length + 1 + 1 ≤ 8; omega
      · show base.length + 1 + 0 ≤ 8; omega
theorem final_ne {base : List Nat} {spot f hop i j : Nat} (hh : hop ∈ [1, 3, 5, 7, 9, 11]) (h1 : i < j) (hj : j < 32) : finalAt base spot f hop i ≠ finalAt base spot f hop j := by
  have li := len_wordAt base spot (signAt f hop i)
  have lj := len_wordAt base spot (signAt f hop j)
  intro e
  have key : ∀ {w1 w2 : List Nat} {a b : Nat}, w1 ++ [a] = w2 ++ [b] → w1 = w2 ∧ a = b := by
    intro w1 w2 a b h
    have := List.append_inj' h rfl
    exact ⟨this.1, by simpa using this.2⟩
  unfold finalAt at e
  by_cases c1 : 26 ≤ i
  · have c2 : 26 ≤ j := by omega
    simp only [c1, c2, if_true] at e
    exact word_ne (sign_ne hh h1 (by omega)) (key e).1
  · by_cases c2 : 26 ≤ j
    · simp only [c1, if_false, c2, if_true] at e
      by_cases c3 : txt (wordAt base spot (signAt f hop i)) ∈ barred
      · simp only [c3, if_true] at e
        exact absurd (key e).2 (by decide)
      · simp only [c3, if_false, List.append_nil] at e
        have := congrArg List.length e
        rw [List.length_append, li, lj] at this
        simp at this
    · have hs : wordAt base spot (signAt f hop i) ≠ wordAt base spot (signAt f hop j) := word_ne (sign_ne hh h1 (by omega))
      simp only [c1, if_false, c2] at e
      by_cases c3 : txt (wordAt base spot (signAt f hop i)) ∈ barred
      · by_cases c4 : txt (wordAt base spot (signAt f hop j)) ∈ barred
        · simp only [c3, c4, if_true] at e
          exact hs (key e).1
        · simp only [c3, c4, if_true, if_false, List.append_nil] at e
          have := congrArg List.length e
          rw [List.length_append, li, lj] at this
          simp at this
      · by_cases c4 : txt (wordAt base spot (signAt f hop j)) ∈ barred
        · simp only [c3, c4, if_true, if_false, List.append_nil] at e
          have := congrArg List.length e
          rw [List.length_append, li, lj] at this
          simp at this
        · simp only [c3, c4, if_false, List.append_nil] at e
          exact hs e
def finals (base : List Nat) (spot f hop n : Nat) : List Str := (List.range n).map fun k => txt (finalAt base spot f hop k)
/-- what words are for the law: so many unlike words, none of them error or vacant -/
structure Words (ws : List Str) : Prop where
  vw : ∀ x ∈ ws, VW x
  nb : ∀ x ∈ ws, x ∉ barred
  nd : ws.Nodup
theorem nodup_of_inj {α : Type} {f : Nat → α} {n : Nat} (h : ∀ i j, i < j → j < n → f i ≠ f j) : ((List.range n).map f).Nodup := by
  unfold List.Nodup
  rw [List.pairwise_map]
  refine List.Pairwise.imp_of_mem ?_ (List.pairwise_lt_range (n := n))
  intro a b _ hb hab
  exact h a b hab (List.mem_range.mp hb)
theorem words_finals {base : List Nat} (hb : Low base) (hl : base.length ≤ 6) {hop : Nat} (hh : hop ∈ [1, 3, 5, 7, 9, 11]) {n : Nat} (hn : n ≤ 32) (spot f : Nat) : Words (finals base spot f hop n) := by
  refine ⟨fun x hx => ?_, fun x hx => ?_, ?_⟩
  · obtain ⟨k, _, rfl⟩ := List.mem_map.mp hx
    exact (vw_final hb hl spot f hop k).1
  · obtain ⟨k, _, rfl⟩ := List.mem_map.mp hx
    exact (vw_final hb hl spot f hop k).2
  · refine nodup_of_inj fun i j h1 h2 e => final_ne (base := base) (spot := spot) (f := f) hh h1 (by omega) ?_
    have := congrArg codes e
    rwa [codes_txt, codes_txt] at this
theorem barred_two : ∀ b ∈ barred, 2 ≤ (codes b).length ∧ (codes b)[0]? ≠ (codes b)[1]? := by decide +kernel
def reps (c n : Nat) : List Str := (List.range n).map fun k => txt (List.replicate (k + 1) c)
theorem words_reps {c : Nat} (h1 : 97 ≤ c) (h2 : c ≤ 122) {n : Nat} (hn : n ≤ 8) : Words (reps c n) := by
  have nb : ∀ k, txt (List.replicate (k + 1) c) ∉ barred := by
    intro k hm
    have := barred_two _ hm
    rw [codes_txt] at this
    rw [List.length_replicate] at this
    apply this.2
    rw [List.getElem?_replicate, List.getElem?_replicate, if_pos (by omega), if_pos (by omega)]
  refine ⟨fun x hx => ?_, fun x hx => ?_, ?_⟩
  · obtain ⟨k, hk, rfl⟩ := List.mem_map.mp hx
    have hk := List.mem_range.mp hk
    refine ⟨?_, ?_, ?_, fun h => nb k (mem_resd h)⟩
    · rw [codes_txt]
      intro d hd
      have := List.eq_of_mem_replicate hd
      omega
    · rw [codes_txt]
      intro e
      have := congrArg List.length e
      rw [List.length_replicate] at this
      simp at this
    · rw [codes_txt, List.length_replicate]
      omega
  · obtain ⟨k, hk, rfl⟩ := List.mem_map.mp hx
    exact nb k
  · refine nodup_of_inj fun i j h1 h2 e => ?_
    have := congrArg (fun x => (codes x).length) e
    simp only [codes_txt, List.length_replicate] at this
    omega
theorem Words.rev {ws : List Str} (h : Words ws) : Words ws.reverse := ⟨fun x hx => h.vw x (List.mem_reverse.mp hx), fun x hx => h.nb x (List.mem_reverse.mp hx), by
  have := h.nd
  unfold List.Nodup at *
  rw [List.pairwise_reverse]
  exact this.imp fun h e => h e.symm⟩
end K2
end
section
set_option autoImplicit true
namespace K2
open PySem

def base0 : List Str := [sErr, sVac]
structure RowOk (known : List Str) (r : Row) : Prop where
  vw : VW r.1
  new : r.1 ∉ known
  ne : r.2 ≠ []
  nd : r.2.Nodup
  sub : ∀ b ∈ r.2, b ∈ known
def knownAt (rs : List Row) (i : Nat) : List Str := base0 ++ (rs.take i).map (·.1)
def Good (rs : List Row) : Prop := ∀ (i : Nat) (r : Row), rs[i]? = some r → RowOk (knownAt rs i) r
theorem good_nil : Good [] := fun i r h => by simp at h
theorem good_snoc {rs : List Row} {r : Row} (g : Good rs) (h : RowOk (base0 ++ rs.map (·.1)) r) : Good (rs ++ [r]) := by
  intro i q hq
  by_cases hi : i < rs.length
  · rw [List.getElem?_append_left hi] at hq
    have := g i q hq
    unfold knownAt at *
    rw [List.take_append_of_le_length (by omega)]
    exact this
  · have hi2 : i = rs.length := by
      have := (List.getElem?_eq_some_iff.mp hq).1
      rw [List.length_append, List.length_singleton] at this
      omega
    subst hi2
    rw [List.getElem?_append_right (Nat.le_refl _), Nat.sub_self] at hq
    simp at hq
    subst hq
    unfold knownAt
    rw [List.take_append_of_le_length (Nat.le_refl _), List.take_length]
    exact h
theorem vw_base0 : ∀ x ∈ base0, VW x := by
  intro x hx
  unfold base0 at hx
  rcases List.mem_cons.mp hx with rfl | hx
  · exact vw_err
  · have : x = sVac := by simpa using hx
    subst this
    exact vw_vac
theorem Good.vw_known {rs : List Row} (g : Good rs) (i : Nat) : ∀ x ∈ knownAt rs i, VW x := by
  intro x hx
  rcases List.mem_append.mp hx with hx | hx
  · exact vw_base0 x hx
  · obtain ⟨r, hr, rfl⟩ := List.mem_map.mp hx
    obtain ⟨j, hj⟩ := List.getElem?_of_mem (List.mem_of_mem_take hr)
    exact (g j r hj).vw
theorem knownAt_len {rs : List Row} {i : Nat} (h : i ≤ rs.length) : (knownAt rs i).length = i + 2 := by
  unfold knownAt base0
  simp [List.length_take]
  omega
theorem knownAt_succ {rs : List Row} {i : Nat} {r : Row} (h : rs[i]? = some r) : knownAt rs (i + 1) = knownAt rs i ++ [r.1] := by
  unfold knownAt
  rw [List.take_add_one, h]
  simp
theorem base0_nd : base0.Nodup := by
  unfold base0
  simp [err_ne_vac]
theorem Good.nodup {rs : List Row} (g : Good rs) : ∀ i, i ≤ rs.length → (knownAt rs i).Nodup
  | 0, _ => by simpa [knownAt] using base0_nd
  | i + 1, h => by
    have hi : rs[i]? = some rs[i] := List.getElem?_eq_getElem (by omega)
    rw [knownAt_succ hi]
    refine List.nodup_append.mpr ⟨g.nodup i (by omega), by simp, ?_⟩
    intro a ha b hb e
    have : b = rs[i].1 := by simpa using hb
    subst this
    subst e
    exact (g i _ hi).new ha
/-- the rows of words, with any bases among those known -/
def namesOf (rs : List Row) : List Str := rs.map (·.1)
structure Sub1 (r q : Row) : Prop where
  nm : q.1 = r.1
  sl : q.2.Sublist r.2
  ne : q.2 ≠ []
theorem good_sub {rs qs : List Row} (g : Good rs) (hl : qs.length = rs.length) (h : ∀ (i : Nat) (r q : Row), rs[i]? = some r → qs[i]? = some q → Sub1 r q) : Good qs := by
  have en : ∀ i, (qs.take i).map (·.1) = (rs.take i).map (·.1) := by
    intro i
    apply List.ext_getElem?
    intro j
    rw [List.getElem?_map, List.getElem?_map, List.getElem?_take, List.getElem?_take]
    split
    · by_cases hj : j < rs.length
      · have h1 : rs[j]? = some rs[j] := List.getElem?_eq_getElem hj
        have h2 : qs[j]? = some qs[j] := List.getElem?_eq_getElem (by omega)
        rw [h1, h2]
        simp [(h j _ _ h1 h2).nm]
      · rw [List.getElem?_eq_none (by omega), List.getElem?_eq_none (by omega)]
    · rfl
  intro i q hq
  have hi : i < rs.length := by
    have := (List.getElem?_eq_some_iff.mp hq).1
    omega
  have h1 : rs[i]? = some rs[i] := List.getElem?_eq_getElem hi
  have k := h i _ _ h1 hq
  have R := g i _ h1
  unfold knownAt at *
  rw [en i]
  refine ⟨by rw [k.nm]; exact R.vw, by rw [k.nm]; exact R.new, k.ne, R.nd.sublist k.sl, fun b hb => R.sub b (k.sl.subset hb)⟩

/-! ### what is within what -/
abbrev Tb := List (Str × List Str)
def look : Tb → Str → List Str
  | [], _ => []
  | (k, u) :: t, x => if k = x then u else look t x
def keys (t : Tb) : List Str := t.map (·.1)
def insK (ks : List Str) (x : Str) : List Str := if x ∈ ks then ks else ks ++ [x]
def mergeU (m us : List Str) : List Str := m ++ us.filter fun u => decide (u ∉ m)
def lineL (t : Tb) (m : List Str) (bs : List Str) : List Str := bs.foldl (fun m b => mergeU m (look t b)) m
def lineOf (t : Tb) (r : Row) : List Str := lineL t [r.1] r.2
def t0 : Tb := [(sErr, [sErr]), (sVac, [sVac, sErr])]
def stepT (t : Tb) (r : Row) : Tb := t ++ [(r.1, lineOf t r)]
def ups (rs : List Row) : Tb := rs.foldl stepT t0
theorem ups_succ {rs : List Row} {i : Nat} {r : Row} (h : rs[i]? = some r) : ups (rs.take (i + 1)) = stepT (ups (rs.take i)) r := by
  unfold ups
  rw [List.take_add_one, h]
  simp
theorem ups_snoc (rs : List Row) (r : Row) : ups (rs ++ [r]) = stepT (ups rs) r := by unfold ups; simp
theorem keys_ups (rs : List Row) : keys (ups rs) = base0 ++ rs.map (·.1) := by
  have h : ∀ (rs : List Row) (t : Tb), keys (rs.foldl stepT t) = keys t ++ rs.map (·.1) := by
    intro rs
    induction rs with
    | nil => intro t; simp
    | cons r rs ih =>
      intro t
      rw [List.foldl_cons, ih]
      simp [keys, stepT]
  exact h rs t0
theorem keys_ups_take (rs : List Row) (i : Nat) : keys (ups (rs.take i)) = knownAt rs i := keys_ups _
theorem foldl_insK : ∀ (us ks : List Str), us.Nodup → us.foldl insK ks = mergeU ks us
  | [], ks, _ => by simp [mergeU]
  | u :: us, ks, h => by
    have h1 := List.nodup_cons.mp h
    rw [List.foldl_cons, foldl_insK us _ h1.2]
    unfold insK mergeU
    by_cases hu : u ∈ ks
    · rw [if_pos hu, List.filter_cons]
      simp [hu]
    · rw [if_neg hu, List.filter_cons]
      simp only [hu, not_false_eq_true, decide_true, if_true]
      rw [List.append_assoc, List.singleton_append]
      congr 2
      apply List.filter_congr
      intro x hx
      have : x ≠ u := fun e => h1.1 (e ▸ hx)
      simp [this]
structure LineOk (pre : List Str) (x : Str) (us : List Str) : Prop where
  nd : us.Nodup
  self : x ∈ us
  err : sErr ∈ us
  sub : ∀ u ∈ us, u = x ∨ u ∈ pre
def TOk (t : Tb) : Prop := ∀ a x us b, t = a ++ (x, us) :: b → LineOk (keys a) x us ∧ x ∉ keys a
theorem tok_t0 : TOk t0 := by
  intro a x us b h
  unfold t0 at h
  rcases a with _ | ⟨p, a⟩
  · simp at h
    obtain ⟨⟨rfl, rfl⟩, _⟩ := h
    exact ⟨⟨by simp, by simp, by simp, by simp⟩, by simp [keys]⟩
  · rcases a with _ | ⟨q, a⟩
    · simp at h
      obtain ⟨rfl, ⟨rfl, rfl⟩, _⟩ := h
      refine ⟨⟨by simp [err_ne_vac.symm], by simp, by simp, ?_⟩, ?_⟩
      · intro u hu
        simp [keys] at *
        exact hu
      · simp [keys, err_ne_vac.symm]
    · simp at h
theorem look_mem : ∀ {t : Tb} {x : Str}, x ∈ keys t → ∃ a b, t = a ++ (x, look t x) :: b
  | [], x, h => by simp [keys] at h
  | (k, u) :: t, x, h => by
    by_cases e : k = x
    · subst e
      refine ⟨[], t, ?_⟩
      simp [look]
    · have h2 : x ∈ keys t := by
        unfold keys at *
        rcases List.mem_cons.mp h with e2 | h2
        · exact absurd e2.symm e
        · exact h2
      obtain ⟨a, b, hab⟩ := look_mem h2
      refine ⟨(k, u) :: a, b, ?_⟩
      simp only [look, if_neg e, List.cons_append]
      rw [← hab]
theorem keys_mid {a b : Tb} {x : Str} {us : List Str} : keys (a ++ (x, us) :: b) = keys a ++ x :: keys b := by simp [keys]
theorem TOk.line {t : Tb} (T : TOk t) {x : Str} (h : x ∈ keys t) : (look t x).Nodup ∧ x ∈ look t x ∧ sErr ∈ look t x ∧ ∀ u ∈ look t x, u ∈ keys t := by
  obtain ⟨a, b, e⟩ := look_mem h
  obtain ⟨L, _⟩ := T a x (look t x) b e
  refine ⟨L.nd, L.self, L.err, fun u hu => ?_⟩
  rw [e, keys_mid]
  rcases L.sub u hu with rfl | hu
  · simp
  · exact List.mem_append_left _ hu
theorem TOk.nodup : ∀ {t : Tb}, TOk t → (keys t).Nodup := by
  intro t T
  have h : ∀ (b a : Tb), t = a ++ b → (keys a).Nodup → (keys t).Nodup := by
    intro b
    induction b with
    | nil => intro a e h; rw [e, List.append_nil]; exact h
    | cons p b ih =>
      intro a e h
      obtain ⟨x, us⟩ := p
      refine ih (a ++ [(x, us)]) (by rw [e]; simp) ?_
      have := (T a x us b e).2
      unfold keys at *
      rw [List.map_append]
      refine List.nodup_append.mpr ⟨h, by simp, ?_⟩
      intro c hc d hd q
      have : d = x := by simpa using hd
      subst this
      subst q
      contradiction
  exact h t [] (by simp) (by simp [keys])
theorem split_uniq {a b c d : Tb} {x : Str} {us vs : List Str} (h : a ++ (x, us) :: b = c ++ (x, vs) :: d) (ha : x ∉ keys a) (hc : x ∉ keys c) : a = c := by
  induction a generalizing c with
  | nil =>
    rcases c with _ | ⟨q, c⟩
    · rfl
    · simp at h
      exfalso
      apply hc
      rw [← h.1]
      simp [keys]
  | cons p a ih =>
    rcases c with _ | ⟨q, c⟩
    · simp at h
      exfalso
      apply ha
      rw [h.1]
      simp [keys]
    · simp only [List.cons_append, List.cons.injEq] at h
      rw [h.1, ih h.2 (fun m => ha (by unfold keys at *; exact List.mem_cons_of_mem _ m)) (fun m => hc (by unfold keys at *; exact List.mem_cons_of_mem _ m))]
theorem TOk.back {t : Tb} (T : TOk t) {x y : Str} (hx : x ∈ keys t) (hy : y ∈ look t x) (ne : y ≠ x) : x ∉ look t y := by
  intro hxy
  obtain ⟨a, b, e⟩ := look_mem hx
  obtain ⟨L, hn⟩ := T a x _ b e
  have hya : y ∈ keys a := (L.sub y hy).resolve_left ne
  have hyt : y ∈ keys t := by rw [e, keys_mid]; exact List.mem_append_left _ hya
  obtain ⟨c, d, e2⟩ := look_mem hyt
  obtain ⟨M, hm⟩ := T c y _ d e2
  have hxc : x ∈ keys c := (M.sub x hxy).resolve_left ne.symm
  -- y stands in a, so c is a beginning of a
  obtain ⟨a1, a2, e3⟩ := look_mem hya
  have e4 : t = a1 ++ (y, look a y) :: (a2 ++ (x, look t x) :: b) := by
    rw [List.append_cons, ← List.append_assoc] 
    conv => lhs; rw [e, e3]
    simp
  have hm2 : y ∉ keys a1 := (T a1 y _ _ e4).2
  have : c = a1 := split_uniq (e2.symm.trans e4) hm hm2
  subst this
  apply hn
  rw [e3, keys_mid]
  exact List.mem_append_left _ hxc
theorem mergeU_ok {t : Tb} {m us : List Str} (hm : m.Nodup) (hu : us.Nodup) : (mergeU m us).Nodup := by
  unfold mergeU
  refine List.nodup_append.mpr ⟨hm, hu.filter _, ?_⟩
  intro a ha b hb e
  subst e
  have := (List.mem_filter.mp hb).2
  simp at this
  exact this ha
theorem lineL_ok {t : Tb} (T : TOk t) {x : Str} : ∀ (bs m : List Str), (∀ b ∈ bs, b ∈ keys t) → m.Nodup → (∀ u ∈ m, u = x ∨ u ∈ keys t) →
    (lineL t m bs).Nodup ∧ (∀ u ∈ lineL t m bs, u = x ∨ u ∈ keys t) ∧ (∀ u ∈ m, u ∈ lineL t m bs) ∧ (bs ≠ [] → sErr ∈ lineL t m bs)
  | [], m, _, h1, h2 => ⟨h1, h2, fun u hu => hu, fun h => absurd rfl h⟩
  | b :: bs, m, hb, h1, h2 => by
    have L := T.line (hb b List.mem_cons_self)
    have n1 := mergeU_ok (t := t) h1 L.1
    have s1 : ∀ u ∈ mergeU m (look t b), u = x ∨ u ∈ keys t := by
      intro u hu
      rcases List.mem_append.mp hu with hu | hu
      · exact h2 u hu
      · exact .inr (L.2.2.2 u (List.mem_filter.mp hu).1)
    obtain ⟨q1, q2, q3, q4⟩ := lineL_ok T bs (mergeU m (look t b)) (fun c hc => hb c (List.mem_cons_of_mem _ hc)) n1 s1
    refine ⟨q1, q2, fun u hu => q3 u (List.mem_append_left _ hu), fun _ => ?_⟩
    apply q3
    by_cases he : sErr ∈ m
    · exact List.mem_append_left _ he
    · exact List.mem_append_right _ (List.mem_filter.mpr ⟨L.2.2.1, by simpa using he⟩)
theorem tok_step {t : Tb} (T : TOk t) {r : Row} (R : RowOk (keys t) r) : TOk (stepT t r) := by
  intro a x us b e
  unfold stepT at e
  rcases List.eq_nil_or_concat b with rfl | ⟨b', z, rfl⟩
  · have := List.append_inj' e rfl
    obtain ⟨rfl, e2⟩ := this
    simp at e2
    obtain ⟨rfl, rfl⟩ := e2
    have := lineL_ok T (x := r.1) r.2 [r.1] R.sub (by simp) (by simp)
    exact ⟨⟨this.1, this.2.2.1 _ (by simp), this.2.2.2 R.ne, this.2.1⟩, R.new⟩
  · rw [List.concat_eq_append, ← List.cons_append, ← List.append_assoc] at e
    have := List.append_inj' e rfl
    exact T a x us b' this.1
theorem tok_ups {rs : List Row} (g : Good rs) : ∀ i, i ≤ rs.length → TOk (ups (rs.take i))
  | 0, _ => by simpa [ups] using tok_t0
  | i + 1, h => by
    have hi : rs[i]? = some rs[i] := List.getElem?_eq_getElem (by omega)
    rw [ups_succ hi]
    refine tok_step (tok_ups g i (by omega)) ?_
    rw [keys_ups_take]
    exact g i _ hi
end K2
end
section
set_option Elab.async false
set_option maxRecDepth 100000
set_option linter.all false
namespace K2
open PySem L2
/-! ### the text by places -/
def top (i : Nat) : Stmt := PySem.Challenge.pw_whatleaves_k73_rows_put_into_themselves.main.body.getD i (.Pass ⟨0, 0, 0, 0⟩)
abbrev sDraw : Stmt := top 16
/-! ### what the built-in names hold -/
structure Bi (mg : Str → Option Value) : Prop where
  len : mg "len" = none
  int : mg "int" = none
  abs : mg "abs" = none
  range : mg "range" = none
  list : mg "list" = none
  tuple : mg "tuple" = none
  enumerate : mg "enumerate" = none
  isinstance : mg "isinstance" = none
  str : mg "str" = none
  set : mg "set" = none
  all : mg "all" = none
  repr : mg "repr" = none
/-! ### the pen -/
def penO (c : Addr) (a l : Int) : HO := .lst [.ref c, .int a, .int l]
structure Pen (H : Hp) (p c : Addr) (ns : List Int) (n : Nat) : Prop where
  pen : ∃ a l : Int, H p = some (penO c a l) ∧ 0 ≤ a ∧ a ≤ n ∧ 0 ≤ l
  cells : H c = some (.lst (ns.map V.int))
  small : ns.length ≤ 63
def Keep (p : Addr) (H H' : Hp) : Prop := ∀ b o, H b = some o → b ≠ p → H' b = some o
theorem Keep.refl (p : Addr) (H : Hp) : Keep p H H := fun _ _ h _ => h
theorem Keep.trans {p : Addr} {H H1 H2 : Hp} (a : Keep p H H1) (b : Keep p H1 H2) : Keep p H H2 := fun c o h n => b c o (a c o h n) n
theorem Keep.new {p q : Addr} {H H1 : Hp} {o : HO} (k : Keep p H H1) (h : H q = none) : Keep p H (upd H1 q o) := fun b u hb n => by
  rw [upd_ne (ne_of_none hb h)]
  exact k b u hb n
theorem Keep.at {p : Addr} {H H1 : Hp} {o : HO} (k : Keep p H H1) : Keep p H (upd H1 p o) := fun b u hb n => by
  rw [upd_ne n]
  exact k b u hb n
theorem Pen.mono {H : Hp} {p c : Addr} {ns : List Int} {n m : Nat} (h : Pen H p c ns n) (e : n ≤ m) : Pen H p c ns m := by
  obtain ⟨a, l, h1, h2, h3, h4⟩ := h.pen
  exact ⟨⟨a, l, h1, h2, by omega, h4⟩, h.cells, h.small⟩
theorem Pen.ne {H : Hp} {p c : Addr} {ns : List Int} {n : Nat} (h : Pen H p c ns n) : c ≠ p := by
  obtain ⟨a, l, h1, _⟩ := h.pen
  refine ne_of h.cells h1 ?_
  unfold penO
  intro e
  injection e with e
  cases ns with
  | nil => simp at e
  | cons n ns => simp at e
/-- the pen behind a new object -/
theorem Pen.new {H : Hp} {p c q : Addr} {ns : List Int} {n : Nat} {o : HO} (h : Pen H p c ns n) (hq : H q = none) : Pen (upd H q o) p c ns n := by
  obtain ⟨a, l, h1, h2, h3, h4⟩ := h.pen
  exact ⟨⟨a, l, by rw [upd_ne (ne_of_none h1 hq)]; exact h1, h2, h3, h4⟩, by rw [upd_ne (ne_of_none h.cells hq)]; exact h.cells, h.small⟩
/-- the pen behind a store elsewhere -/
theorem Pen.upd' {H : Hp} {p c q : Addr} {ns : List Int} {n : Nat} {o : HO} (h : Pen H p c ns n) (h1 : p ≠ q) (h2 : c ≠ q) : Pen (upd H q o) p c ns n := by
  obtain ⟨a, l, g1, g2, g3, g4⟩ := h.pen
  exact ⟨⟨a, l, by rw [upd_ne h1]; exact g1, g2, g3, g4⟩, by rw [upd_ne h2]; exact h.cells, h.small⟩
theorem Pen.set {H : Hp} {p c : Addr} {ns : List Int} {n m : Nat} (h : Pen H p c ns n) {a l : Int} (h1 : 0 ≤ a) (h2 : a ≤ m) (h3 : 0 ≤ l) : Pen (upd H p (penO c a l)) p c ns m :=
  ⟨⟨a, l, upd_same, h1, h2, h3⟩, by rw [upd_ne h.ne]; exact h.cells, h.small⟩

def spDraw : Sp := fun vs H Q _ => ∃ (p c : Addr) (ns : List Int) (n : Nat) (m : Int), vs = [.ref p, .int m] ∧ Pen H p c ns n ∧ n ≤ 100000 ∧ 0 < m ∧ m < 1073741824 ∧
  ∀ (v : Int) (H' : Hp), 0 ≤ v → v < m → Keep p H H' → Pen H' p c ns (n + 1) → Q (.int v) H'

section
variable {P : Program} {w : World} {K : PySem.W.Frag} {mg : Str → Option Value} {base : Heap}
abbrev nDraw : List Str := ["_law_pen_here", "_law_many", "_law_digit", "_law_at", "_law_cell", "_law_great", "_law_mixed"]
theorem scDraw : FnScope nDraw ["_law_pen_here", "_law_many"] (defScope sDraw) := ⟨rfl, rfl, rfl, by decide +kernel, rfl, by decide +kernel, by decide +kernel⟩
theorem fmod_lo {a m : Int} (h : 0 < m) : 0 ≤ a.fmod m := Int.fmod_nonneg_of_pos a h
theorem fmod_hi {a m : Int} (h : 0 < m) : a.fmod m < m := Int.fmod_lt_of_pos a h
theorem fdiv_nn {a m : Int} (ha : 0 ≤ a) (h : 0 < m) : 0 ≤ a.fdiv m := Int.fdiv_nonneg ha (Int.le_of_lt h)
theorem mul_bnd {x y X Y : Int} (h1 : 0 ≤ x) (h2 : x ≤ X) (h3 : 0 ≤ y) (h4 : y ≤ Y) : 0 ≤ x * y ∧ x * y ≤ X * Y :=
  ⟨Int.mul_nonneg h1 h3, Int.mul_le_mul h2 h4 h3 (Int.le_trans h1 h2)⟩
theorem ints_dp (K : PySem.W.Frag) (H : Hp) : ∀ ns : List Int, DpAll K H (ns.map V.int) (ns.map PyData.int)
  | [] => .nil
  | n :: ns => .cons (.int n) (ints_dp K H ns)
theorem canLay_ints : ∀ ns : List Int, PyData.canLayAll0 (ns.map PyData.int) = true
  | [] => rfl
  | n :: ns => by
    show (true && PyData.canLayAll0 (ns.map PyData.int)) = true
    rw [canLay_ints ns]
    rfl
theorem depth_ints : ∀ ns : List Int, PyData.depthAll (ns.map PyData.int) = 0
  | [] => rfl
  | n :: ns => by
    show max 0 (PyData.depthAll (ns.map PyData.int)) = 0
    rw [depth_ints ns]
    rfl
theorem shaped_ints (ns : List Int) : SeqAt.shaped (.list (ns.map PyData.int)) = true := by
  show (PyData.canLayAll0 (ns.map PyData.int) && decide (PyData.depthAll (ns.map PyData.int) + 1 ≤ 64)) = true
  rw [canLay_ints, depth_ints]
  rfl
theorem eqv_nil (ns : List Int) : (!PyData.eqv (.list (ns.map PyData.int)) (.list [])) = !ns.isEmpty := by
  cases ns <;> rfl
theorem len_pos_lt {n : Nat} {a : Int} (h : 0 < n) : 0 ≤ a.fmod (n : Int) ∧ a.fmod (n : Int) < n := ⟨fmod_lo (by omega), fmod_hi (by omega)⟩
end
end K2
end
section
set_option Elab.async false
set_option maxRecDepth 100000
set_option linter.all false
namespace K2
open PySem L2
abbrev sWords : Stmt := top 17
/-- a def of the program: its text, where it stands, how it binds -/
structure Df (K : PySem.W.Frag) (mg : Str → Option Value) (x : Str) (st : Stmt) (f : Addr) (fd : FuncData) (ps : List Str) : Prop where
  F : Fun K x x st f fd
  m : mg x = some (.ref f)
  b : Binds K fd ps []
/-- a list of the heap, or a text: its items -/
def SeqV (p : Addr) (H : Hp) (y : V) (xs : List V) : Prop := (∃ l, y = .ref l ∧ l ≠ p ∧ H l = some (.lst xs)) ∨ (∃ z : Str, y = .str z ∧ xs = (codes z).map (fun c => V.str ⟨#[c]⟩) ∧ z.length ≤ 100) ∨ (∃ t, y = .ref t ∧ t ≠ p ∧ H t = some (.tup xs))
def spPick : Sp := fun vs H Q _ => ∃ (p c : Addr) (ns : List Int) (n : Nat) (y : V) (xs : List V), vs = [.ref p, y] ∧ Pen H p c ns n ∧ n ≤ 100000 ∧ SeqV p H y xs ∧ xs ≠ [] ∧ xs.length ≤ 1000 ∧
  ∀ (j : Nat) (v : V) (H' : Hp), xs[j]? = some v → Keep p H H' → Pen H' p c ns (n + 1) → Q v H'
def spBarred : Sp := fun vs H Q _ => vs = [] ∧ ∀ l, H l = none → Q (.ref l) (upd H l (.lst (barred.map V.str)))
section
variable {P : Program} {w : World} {K : PySem.W.Frag} {mg : Str → Option Value} {base : Heap}
end
end K2
end
section
set_option Elab.async false
set_option maxRecDepth 100000
set_option linter.all false
namespace K2
open PySem L2
theorem strs_ne_pen {ys : List Str} {c : Addr} {a l : Int} : HO.lst (ys.map V.str) ≠ penO c a l := by
  unfold penO
  intro e
  injection e with e
  cases ys with
  | nil => simp at e
  | cons y ys => simp at e
theorem str_eqV (a b : Str) : eqV (.str a) (.str b) = decide (a = b) := by
  show (a == b) = decide (a = b)
  by_cases h : a = b
  · simp [h]
  · simp [h]
theorem inV_strs (x : Str) : ∀ ys : List Str, inV (.str x) (ys.map V.str) = decide (x ∈ ys)
  | [] => rfl
  | y :: ys => by
    show (eqV (.str y) (.str x) || inV (.str x) (ys.map V.str)) = decide (x ∈ y :: ys)
    rw [inV_strs x ys, str_eqV]
    by_cases h : y = x
    · subst h; simp
    · have h2 : ¬ x = y := fun e => h e.symm
      simp [h, h2]
theorem flat_strs : ∀ ys : List Str, (ys.map V.str).all flatV = true
  | [] => rfl
  | y :: ys => by
    show (true && (ys.map V.str).all flatV) = true
    rw [flat_strs ys]
    rfl
theorem codes_append (x y : Str) : codes (x ++ y) = codes x ++ codes y := TL.tl_append x y
theorem codes_one (c : Nat) : codes ⟨#[c]⟩ = [c] := rfl
theorem len_codes (x : Str) : x.length = (codes x).length := by
  show x.cps.size = x.cps.toList.length
  simp
theorem join_ones : ∀ l : List Nat, codes (Txt.join Str.empty (l.map fun c => (⟨#[c]⟩ : Str))) = l := by
  intro l
  rw [TL.join_eq]
  show TL.tl (Str.join Str.empty _) = l
  rw [TL.tl_join]
  show TL.joinL [] _ = l
  induction l with
  | nil => rfl
  | cons c l ih =>
    cases l with
    | nil => rfl
    | cons d l =>
      show [c] ++ ([] ++ TL.joinL [] _) = _
      rw [List.nil_append]
      show [c] ++ TL.joinL [] (List.map TL.tl (List.map (fun c => (⟨#[c]⟩ : Str)) (d :: l))) = c :: d :: l
      rw [ih]
      rfl
theorem cut_to {z : Str} {k : Nat} (h : k ≤ (codes z).length) : codes (cutS z none (some (k : Int))) = (codes z).take k := by
  unfold cutS codes
  rw [HT.sIx_nat, HT.sIx_none]
  have e : z.length = z.cps.toList.length := len_codes z
  have h' : k ≤ z.cps.toList.length := h
  simp only [List.drop_zero, Nat.sub_zero]
  rw [Nat.min_eq_left (by omega)]
theorem cut_from {z : Str} {k : Nat} (h : k ≤ (codes z).length) : codes (cutS z (some (k : Int)) none) = (codes z).drop k := by
  unfold cutS codes
  rw [HT.sIx_nat, HT.sIx_none]
  have e : z.length = z.cps.toList.length := len_codes z
  have h' : k ≤ z.cps.toList.length := h
  rw [Nat.min_eq_left (by omega), e]
  simp only []
  rw [List.take_of_length_le (by rw [List.length_drop]; omega)]
theorem Pen.pne {H : Hp} {p c q : Addr} {ns : List Int} {n : Nat} (h : Pen H p c ns n) (hq : H q = none) : p ≠ q := by
  obtain ⟨a, l, g, _⟩ := h.pen
  exact ne_of_none g hq
theorem Pen.cne {H : Hp} {p c q : Addr} {ns : List Int} {n : Nat} (h : Pen H p c ns n) (hq : H q = none) : c ≠ q := ne_of_none h.cells hq
theorem Keep.fresh {p c q : Addr} {ns : List Int} {n : Nat} {H H1 : Hp} (k : Keep p H H1) (P1 : Pen H1 p c ns n) (h : H1 q = none) : H q = none := by
  cases e : H q with
  | none => rfl
  | some o =>
    rw [k q o e (P1.pne h).symm] at h
    cases h
theorem Pen.strs_ne {H : Hp} {p c q : Addr} {ns : List Int} {n : Nat} {ys : List Str} (h : Pen H p c ns n) (hq : H q = some (.lst (ys.map V.str))) : q ≠ p := fun e => by
  obtain ⟨a, l, g, _⟩ := h.pen
  rw [e, g] at hq
  exact strs_ne_pen (Option.some.inj hq).symm
section
variable {X : Cx}
theorem mulOk_small {x : Str} {k : Int} (h0 : 0 ≤ k) (h1 : k ≤ 8) (hx : x.length ≤ 8) : MulOk x k := by
  refine ⟨?_, fun _ _ => ?_, fun _ _ => ?_⟩
  · simp only [Bool.or_eq_false_iff, decide_eq_false_iff_not]
    omega
  · have : k = 0 ∨ k = 1 ∨ k = 2 ∨ k = 3 ∨ k = 4 ∨ k = 5 ∨ k = 6 ∨ k = 7 ∨ k = 8 := by omega
    rcases this with rfl | rfl | rfl | rfl | rfl | rfl | rfl | rfl | rfl <;> omega
  · unfold Builtin.Str.tooLong
    rw [decide_eq_false_iff_not]
    have h2 : x.length * k.toNat ≤ 8 * 8 := Nat.mul_le_mul hx (by omega)
    have : sizeLine = 16777216 := rfl
    omega
/-! the same rules with the written part named apart (within a comprehension) -/
theorem pe_bmK {K' : PySem.W.Frag} {T : String} {name : Str} {id : String} {r : V → List V → Hp → VK → Prop} {o e : Expr} {es : List Expr} {to : TE} {t : TA} {apos cpos : Pos} (hK : X.K = K') (pa : PlainAttrs T) (slot : PySem.Slot T name id) (hty : typeOf (.builtin id) = pure (.type "method_descriptor")) (hm : MtR X id r) (ho : PE X o to) (ha : PA X (e :: es) t)
    (hbase : attributeBase o name X.env (eval o X.env) = eval o X.env := by rfl)
    (hfew : ((backTo cpos (starEach (e :: es) X.env)).all (fun x => !x.1) && (backToKw cpos (keywordEach [] X.env)).all (fun x => x.1.isSome)
      && decide ((e :: es).length + ([] : List Keyword).length + (if ([] : List Keyword).isEmpty then 0 else 1) < 30)) = true := by rfl)
    (hline : (apos.endLine == cpos.line) = true := by rfl) (hs : starEach (e :: es) X.env = (false, eval e X.env) :: starEach es X.env := by rfl) (hplain : (backTo cpos (starEach es X.env)).any (·.1) = false := by rfl) :
    PE X (.Call (.Attribute o name apos) (e :: es) [] cpos) (tBM K' T r to t) := by
  subst hK
  exact pe_bm pa slot hty hm ho ha hbase hfew hline hs hplain
theorem call_len_seqK {K' : PySem.W.Frag} (hK : X.K = K') : CallR X (.builtin "len") (fun xs H Q => ∃ p ys, xs = [V.ref p] ∧ (SqL K' H p ys ∨ SqT K' H p ys) ∧ Q (.int ys.length) H) := by
  subst hK
  exact call_len_seq
theorem ix_listK {K' : PySem.W.Frag} (hK : X.K = K') : IxR X (rIxL K') := by
  subst hK
  exact ix_list
theorem op_in_seqK {K' : PySem.W.Frag} (hK : X.K = K') : OpR X (compareOp .In) (rIn K' false) := by
  subst hK
  exact op_in_seq
theorem op_notIn_seqK {K' : PySem.W.Frag} (hK : X.K = K') : OpR X (compareOp .NotIn) (rIn K' true) := by
  subst hK
  exact op_notIn_seq
theorem op_mul_str : OpR X (binaryOp .Mult) (fun x y H Q => ∃ a k, x = .str a ∧ y = .int k ∧ 0 ≤ k ∧ k ≤ 8 ∧ a.length ≤ 8 ∧ Q (.str (Txt.mul a k)) H) := by
  intro pins s σ H x y v u Q I rx ry h
  obtain ⟨a, k, rfl, rfl, h0, h1, hx, q⟩ := h
  obtain ⟨t, rfl⟩ := rx
  obtain ⟨t', rfl⟩ := ry
  exact SB.mul (mulOk_small h0 h1 hx) (fun t' tk => ⟨.str (Txt.mul a k), H, I.tok _, ⟨_, rfl⟩, q⟩)
end
end K2
end
section
set_option Elab.async false
set_option maxRecDepth 100000
set_option linter.all false
namespace K2
open PySem L2
theorem low_letters : ∀ c ∈ codes (Str.ofString "abcdefghijklmnopqrstuvwxyz"), 97 ≤ c ∧ c ≤ 122 := by decide +kernel
theorem at_letters : ∀ j, j < 26 → (codes (Str.ofString "abcdefghijklmnopqrstuvwxyz"))[j]? = some (97 + j) := by decide +kernel
theorem sum_ones : ∀ l : List Nat, (((l.map fun c => (⟨#[c]⟩ : Str)).map (·.length)).sum) = l.length
  | [] => rfl
  | c :: l => by
    rw [List.map_cons, List.map_cons, List.sum_cons, sum_ones l, List.length_cons]
    show 1 + l.length = l.length + 1
    omega
theorem if01 (c : Bool) : 0 ≤ (if c = true then (1 : Int) else 0) ∧ (if c = true then (1 : Int) else 0) ≤ 8 := by cases c <;> decide
theorem fin_q {W : Str} {b : List Nat} {spot f h i : Nat} (e : codes W = wordAt b spot (signAt f h i)) (hi : 26 ≤ i) : W ++ Str.ofString "q" = txt (finalAt b spot f h i) := by
  refine codes_inj ?_
  rw [codes_append, codes_txt, e]
  unfold finalAt
  dsimp only
  rw [if_pos hi]
  rfl
theorem fin_z {W : Str} {b : List Nat} {spot f h i : Nat} (e : codes W = wordAt b spot (signAt f h i)) (hi : ¬ 26 ≤ i) : W ++ Txt.mul (Str.ofString "z") (if W ∈ barred then 1 else 0) = txt (finalAt b spot f h i) := by
  refine codes_inj ?_
  have eW : txt (wordAt b spot (signAt f h i)) = W := by rw [← e, txt_codes]
  rw [codes_append, codes_txt, e]
  unfold finalAt
  dsimp only
  rw [if_neg hi, eW]
  congr 1
  by_cases hb : W ∈ barred
  · rw [if_pos hb, if_pos hb]
    decide +kernel
  · rw [if_neg hb, if_neg hb]
    decide +kernel
theorem finals_succ (b : List Nat) (spot f h i : Nat) : finals b spot f h (i + 1) = finals b spot f h i ++ [txt (finalAt b spot f h i)] := by
  unfold finals
  rw [List.range_succ, List.map_append]
  rfl
/-- a fresh list of m words -/
def spWords : Sp := fun vs H Q _ => ∃ (p c : Addr) (ns : List Int) (n m : Nat), vs = [.ref p, .int m] ∧ Pen H p c ns n ∧ n + 12 ≤ 100000 ∧ m ≤ 31 ∧
  ∀ (l : Addr) (ws : List Str) (H' : Hp), Words ws → ws.length = m → H' l = some (.lst (ws.map V.str)) → Keep p H H' → Pen H' p c ns (n + 12) → Q (.ref l) H'
abbrev nWords : List Str := ["_law_pen_here", "_law_many", "_law_letters", "_law_k", "_law_base", "_law_spot", "_law_first", "_law_hop", "_law_found", "_law_sign", "_law_word", "_law_more"]
section
variable {P : Program} {w : World} {K : PySem.W.Frag} {mg : Str → Option Value} {base : Heap}
theorem scWords : FnScope nWords ["_law_pen_here", "_law_many"] (defScope sWords) := ⟨rfl, rfl, rfl, by decide +kernel, rfl, by decide +kernel, by decide +kernel⟩
end
end K2
end
section
set_option Elab.async false
set_option maxRecDepth 100000
set_option linter.all false
namespace K2
open PySem L2
theorem _root_.L2.Same.put {H H1 : Hp} {q : Addr} {o : HO} (k : Same H H1) (h : H q = none) : Same H (upd H1 q o) := fun b u hb => by
  rw [upd_ne (ne_of_none hb h)]
  exact k b u hb
theorem Pen.same {H H' : Hp} {p c : Addr} {ns : List Int} {n : Nat} (h : Pen H p c ns n) (k : Same H H') : Pen H' p c ns n := by
  obtain ⟨a, l, g, g1, g2, g3⟩ := h.pen
  exact ⟨⟨a, l, k _ _ g, g1, g2, g3⟩, k _ _ h.cells, h.small⟩
theorem _root_.L2.Same.keep {p : Addr} {H H' : Hp} (k : Same H H') : Keep p H H' := fun b o h _ => k b o h
theorem dget_s {H : Hp} {a : Addr} {kvs : List (Key × V)} {x : Str} {v : V} (e : H a = some (.dK kvs)) (hv : valV kvs (Sum.inr x : Key) = some v) : DGet H a (.str x) (some v) := by
  have := DGet.k (k := (Sum.inr x : Key)) e
  rw [hv] at this
  exact this
theorem cutV_whole {xs : List V} {lo hi : Option Int} (h : HT.sIx xs.length 0 lo = 0 ∧ HT.sIx xs.length xs.length hi = xs.length) : cutV xs lo hi = xs := by
  unfold cutV
  rw [h.1, h.2, List.drop_zero, Nat.sub_zero, List.take_length]
def rSl2 : V → Option Int → Option Int → Hp → VK → Prop := fun x lo hi H Q => ∃ a xs, x = .ref a ∧ H a = some (.tup xs) ∧ ∀ p H1, Same H H1 → H1 p = some (.tup (cutV xs lo hi)) → Q (.ref p) H1
def rCat2 : R2 := fun x y H Q => ∃ a b xs ys, x = .ref a ∧ y = .ref b ∧ H a = some (.tup xs) ∧ H b = some (.tup ys) ∧ xs.length + ys.length ≤ sizeLine ∧ ∀ p H1, Same H H1 → H1 p = some (.tup (xs ++ ys)) → Q (.ref p) H1
section
variable {X : Cx}
theorem sl_tup2 : SlR X rSl2 := by
  intro pins s σ H x v vl vu lo hi sl Q I rx hs pl pu h
  obtain ⟨a, xs, rfl, ha, q⟩ := h
  exact sl_tupA pins s σ H _ v vl vu lo hi sl Q I rx hs pl pu ⟨a, xs, rfl, SqT.of ha, fun hw => q a H (Same.refl H) (by rw [cutV_whole hw]; exact ha), fun _ p hp => q p _ ((Same.refl H).put hp) upd_same⟩
theorem op_cat2 : OpR X (binaryOp .Add) rCat2 := by
  intro pins s σ H x y v u Q I rx ry h
  obtain ⟨a, b, xs, ys, rfl, rfl, ha, hb, hz, q⟩ := h
  refine op_catA pins s σ H _ _ v u Q I rx ry ⟨a, b, xs, ys, rfl, rfl, SqT.of ha, SqT.of hb, hz, fun e => q b H (Same.refl H) (by rw [e]; exact hb), fun _ e => q a H (Same.refl H) (by rw [e, List.append_nil]; exact ha), fun _ _ p hp => q p _ ((Same.refl H).put hp) upd_same⟩
end
end K2
end
section
set_option Elab.async false
set_option maxRecDepth 100000
set_option linter.all false
namespace K2
open PySem PySem.Spec PyProof.Rows L2
/-! enumerate(t) of a tuple -/
def enumO (i : Addr) : Obj := { cls := .type "enumerate", data := .fields #[.none, .bool false, .ref i, rawInt 0, .none, .none] }
set_option maxHeartbeats 1000000 in
theorem enum_made {v : Value} {o : Obj} {B : Heap → Prop} (b : Begins v o B) :
    Meets (Builtin.«enumerate.__new__» ⟨[.type "enumerate", v], []⟩) (fun _ R s => B s.heap ∧ R (.ok (.ret (.ref (s.heap.push o).objs.size))) { s with heap := (s.heap.push o).push (enumO s.heap.objs.size) }) :=
  .of_wp fun prog w A R ⟨hp, g, d, tk, os⟩ ⟨h1, h⟩ => by
    have q0 := sub_enumerate
    have q1 : ∀ {A' : Around} {E : Value → Shared → Prop} {Q : Value → Shared → Prop}, Q (.ref hp.objs.size) ⟨hp.push o, g, d, tk, os⟩ → wpAny (model prog w) A' (pyIter v) Q E ⟨hp, g, d, tk, os⟩ := fun q => b.iter prog w _ _ ⟨hp, g, d, tk, os⟩ _ h1 q
    wp_walk using q1
    refine wpAny_stack_any fun st => wpAny_pure ?_
    split
    · rename_i c _ _ _ _ _
      cases (c == Value.type "enumerate") <;> (wp_walk using q1; exact ⟨_, rfl, h⟩)
    · wp_walk using q1
      exact ⟨_, rfl, h⟩
section
variable {prog : Program} {w : World} {A : Around} {E : Value → Shared → Prop} {s : Shared}
theorem enum_call {v : Value} {o : Obj} {B : Heap → Prop} {Q : Value → Shared → Prop} (b : Begins v o B) (h1 : B s.heap)
    (h : ∀ h', IsEnum h' (s.heap.objs.size + 1) s.heap.objs.size 0 .none → h'.get? s.heap.objs.size = some o → (∀ a u, s.heap.get? a = some u → h'.get? a = some u) → Q (.ref (s.heap.objs.size + 1)) { s with heap := h' }) :
    wpAny (model prog w) A (call (.type "enumerate") [v]) Q E s := by
  refine callType_new F.called_enumerate (by decide) (F.typeCall_enumerate_1 _) (F.newCall_enumerate_1 _) (fun obj => F.args_object_init_2 obj _) F.entry_enumerate_new (enum_made b) ⟨h1, ?_⟩
  have sz : (s.heap.push o).objs.size = s.heap.objs.size + 1 := Heap.size_push ..
  have at1 := Heap.get?_push_size (s.heap.push o) (o := enumO s.heap.objs.size) rfl
  rw [sz] at at1
  show _ ∧ _
  rw [sz]
  exact ⟨⟨_, at1, rfl⟩, h _ at1 (Heap.get?_push_of_some _ (Heap.get?_push_size _ b.free)) fun a u x => Heap.get?_push_of_some _ (Heap.get?_push_of_some _ x)⟩
end
/-- the items of the tuple at a, each in a new pair with its number -/
def IteT (a : Addr) (xs : List V) : It :=
  ⟨fun i H => H a = some (.tup xs) ∧ i < xs.length, fun i H v H' => ∃ T x, v = .ref T ∧ H T = none ∧ H' = upd H T (.tup [.int (i : Nat), x]) ∧ xs[i]? = some x, fun i H => H a = some (.tup xs) ∧ i = xs.length⟩
def tnE (e it t : Addr) (i : Nat) (h : Heap) : Prop := (∃ old, IsEnum h e it (0 + ((i : Nat) : Int)) old) ∧ h.IsTupleIter it t i ∧ e ≠ it ∧ t ≠ it ∧ e ≠ t
theorem turn_enumT {P : Program} {w : World} {K : PySem.W.Frag} {elts : List Expr} {kk : Nat} {tpos : Pos} (xs : List V) (t e it : Addr) : Turn P w K (.Tuple elts kk tpos) (IteT t xs) [e, it] e (tnE e it t) where
  mem := by simp
  obj := fun i h ⟨⟨old, he⟩, ⟨o, ho, hc, hd⟩, _⟩ b hb => by
    rcases List.mem_cons.mp hb with z | z
    · subst z; exact ⟨_, he, fun v q => nomatch q⟩
    · rw [List.mem_singleton.mp z]; exact ⟨o, ho, fun v q => by rw [hd] at q; cases q⟩
  keep := fun i h h' ⟨⟨old, he⟩, hi, n1, n2, n3⟩ k => ⟨⟨old, k e (by simp) _ he⟩, hi.at fun o q => k it (by simp) o q, n1, n2, n3⟩
  item := by
    rintro X rfl rfl rfl hc i pins s σ H E I hf ⟨he, hi, n1, n2, n3⟩ ⟨ha, hlt⟩
    obtain ⟨its, rv, pl, _⟩ := I.tuple (SqT.of ha)
    have sz : its.toArray.size = xs.length := by rw [List.size_toArray, rv.length]
    have W := WalksT.enumFrom (prog := X.prog) (w := X.w) (A := X.A) 0 (Draws.tuple (A := X.A.in1) (by simp [I.ok.hd hc]) it t n2 its.toArray) e n1 (by simp [n1, n3]) (by simp)
    refine W.item i s _ _ (by rw [sz]; exact hlt) ⟨he, hi, pl⟩ fun T vals h' tk ⟨tt, x, hx, ev⟩ hT hTup mid fr => ⟨_, rfl, W.go elts kk tpos i T _ _ _ mid fun h'' ⟨he2, hi2, _⟩ fr2 => ?_⟩
    have hx2 : its[i]? = some x := by simpa using hx
    obtain ⟨y, hy, ry⟩ : ∃ y, xs[i]? = some y ∧ RelV y x := by
      have q : xs[i]? = some xs[i] := List.getElem?_eq_getElem hlt
      obtain ⟨u, hu, ru⟩ := rv.get q
      rw [hx2] at hu
      cases hu
      exact ⟨_, q, ru⟩
    have hTw := W.apart i T _ mid
    have hTf : H T = none := I.hok.fresh hT
    obtain ⟨o2, ho2, hc2, nn, hd2⟩ := hTup
    have new : ObjOk X.prog X.w (upd H T (.tup [.int (i : Nat), y])) h'' T (.tup [.int (i : Nat), y]) :=
      ⟨by show 2 ≤ sizeLine; decide, [.int (i : Nat) tt, x], .cons ⟨_, rfl⟩ (.cons ry .nil), ⟨o2, fr2 T o2 hTw ho2, hc2, nn, by rw [hd2, ev, Int.zero_add]⟩⟩
    refine ⟨.ref T, _, I.turnedNew (ch := [e, it]) (fun b ob hb q => fr2 b ob hb (fr b ob hb q)) hf hT new, rfl, ⟨T, y, rfl, hTf, rfl, hy⟩, ⟨he2, hi2, n1, n2, n3⟩, fun b hb => ?_⟩
    rw [upd_ne fun z : b = T => hTw (z ▸ hb)]
    exact (hf b hb).1
  done := by
    rintro X rfl rfl rfl hc i pins s σ H E I hf ⟨he, hi, n1, n2, n3⟩ ⟨ha, hle⟩
    obtain ⟨its, rv, pl, _⟩ := I.tuple (SqT.of ha)
    have sz : its.toArray.size = i := by rw [List.size_toArray, ← rv.length, hle]
    have W := WalksT.enumFrom (prog := X.prog) (w := X.w) (A := X.A) 0 (Draws.tuple (A := X.A.in1) (by simp [I.ok.hd hc]) it t n2 its.toArray) e n1 (by simp [n1, n3]) (by simp)
    rw [sz] at W
    exact W.done s _ _ ⟨he, hi, pl⟩ fun h' tk fr => ⟨rfl, I.turnedL (ch := [e, it]) fr hf⟩
  self := fun A i s Q E ⟨⟨_, he⟩, _⟩ h => wpAny_pyIter_enum he h
def iEnumT (ta : TA) : TI := fun σ H R => ta σ H fun vs H1 => ∃ a xs, vs = [.ref a] ∧ H1 a = some (.tup xs) ∧ R (IteT a xs) H1
theorem pi_enumT {X : Cx} {e : Expr} {ta : TA} {p pos tpos : Pos} {elts : List Expr} {kk : Nat} (hg : Gl X "enumerate") (hm : X.mg "enumerate" = none) (ha : PA X [e] ta) (hs : starEach [e] X.env = [(false, eval e X.env)] := by rfl) :
    PI X (.Tuple elts kk tpos) (.Call (.Name "enumerate" p) [e] [] pos) (iEnumT ta) := by
  refine ⟨fun pins s σ H R I h => Call_ (ld_blt I hg hm boot_enumerate (callWith_type1 (thn (ha.run pos pins s σ H _ I h) fun us s1 ⟨vs, H1, I1, r1, q1⟩ => ?_) hs rfl))⟩
  obtain ⟨a, xs, rfl, ht, q⟩ := q1
  cases r1 with
  | cons r rr =>
    cases rr
    cases r
    obtain ⟨its, rv, pl, _⟩ := I1.tuple (SqT.of ht)
    have al : a < s1.heap.objs.size := by obtain ⟨_, z, _⟩ := pl; exact Heap.lt_size z
    refine enum_call (begins_tuple a its.toArray) pl fun h' he hit hk => wpAny_pyIter_enum he ⟨s1.heap.objs.size + 1, [s1.heap.objs.size + 1, s1.heap.objs.size], _, _, H1, rfl, I1.kept (t' := s1.toks) hk, turn_enumT xs a (s1.heap.objs.size + 1) s1.heap.objs.size,
      ⟨⟨.none, he⟩, ⟨_, hit, rfl, rfl⟩, Nat.succ_ne_self _, Nat.ne_of_lt al, Nat.ne_of_gt (Nat.lt_succ_of_lt al)⟩, fun b hb => ?_, q⟩
    have le : s1.heap.objs.size ≤ b := by
      rcases List.mem_cons.mp hb with z | z
      · rw [z]; exact Nat.le_succ _
      · rw [List.mem_singleton.mp z]; exact Nat.le_refl _
    exact I1.fpOk le (I1.hok.fresh le)
theorem walk_enumT (a : Addr) (xs : List V) : Walk (IteT a xs) xs.length (fun H => H a = some (.tup xs)) (fun i H v H' => ∃ T x, v = .ref T ∧ H T = none ∧ H' = upd H T (.tup [.int (i : Nat), x]) ∧ xs[i]? = some x) :=
  ⟨fun i H hi h => ⟨h, hi⟩, fun H h => ⟨h, rfl⟩, fun i H x H' _ _ y => y⟩
end K2
end
section
set_option Elab.async false
set_option maxRecDepth 100000
set_option linter.all false
namespace K2
open PySem L2
abbrev nInit : List Str := ["self", "rows", "lines", "k", "row", "reason"]
def flds (r n l : Addr) : List (Str × V) := putF "_lines" (.ref l) (putF "names" (.ref n) (putF "rows" (.ref r) []))
theorem k1_ : ¬ (("rows" : Str) = "names") := by decide +kernel
theorem k2_ : ¬ (("rows" : Str) = "_lines") := by decide +kernel
theorem k3_ : ¬ (("names" : Str) = "_lines") := by decide +kernel
theorem flds_lines (r n l : Addr) : (flds r n l).lookup ("_lines" : Str) = some (.ref l) := by
  unfold flds
  rw [lookup_putF, if_pos rfl]
theorem flds_no (r n l : Addr) {m : Str} (h1 : ¬ m = "_lines") (h2 : ¬ m = "names") (h3 : ¬ m = "rows") : (flds r n l).lookup m = none := by
  unfold flds
  rw [lookup_putF, if_neg h1, lookup_putF, if_neg h2, lookup_putF, if_neg h3]
  rfl
theorem flds_names (r n l : Addr) : (flds r n l).lookup ("names" : Str) = some (.ref n) := by
  unfold flds
  rw [lookup_putF, if_neg k3_, lookup_putF, if_pos rfl]
theorem flds_rows (r n l : Addr) : (flds r n l).lookup ("rows" : Str) = some (.ref r) := by
  unfold flds
  rw [lookup_putF, if_neg k2_, lookup_putF, if_neg k1_, lookup_putF, if_pos rfl]
structure Txt (K : PySem.W.Frag) (mg : Str → Option Value) (C : Addr) : Prop where
  cl : Cls K C
  nR : NoAttr K C "rows"
  nN : NoAttr K C "names"
  nL : NoAttr K C "_lines"
  mgC : mg "Classes" = some (.ref C)
section
variable {P : Program} {w : World} {K : PySem.W.Frag} {mg : Str → Option Value} {base : Heap}
end
end K2
end
section
set_option Elab.async false
set_option maxRecDepth 100000
set_option linter.all false
namespace K2
open PySem L2 PySem.Spec PyProof.Rows
section
variable {X : Cx} {CX : CXT} {k n i : Nat} {f C : Addr} {fd : FuncData} {ps ks : List Str} {sp : Sp} {E : XK} {m x : Str} {o e : Expr} {p q pos apos : Pos} {ta tk te : TA} {g : List Value → List Value → List Value} {gV : List V → List V → List V} {kws : List Keyword}
theorem run_fnK {pins : List (Addr × Obj)} {σ : L2.St} {H : Hp} {s : Shared} {Q : VK} {us ws : List Value} {vs zs : List V} (F : FnOk X.prog X.w X.K X.mg X.base CX k f fd ps sp) (hr : Room k X.A) (hb : KBn X.K fd ps n ks g gV) (hx : Passes CX X E) (I : Inv X pins σ H s)
    (r : Vals vs us) (rz : Vals zs ws) (l1 : us.length = n) (l2 : ws.length = ks.length) (h : sp (gV vs zs) H Q E) : wpAny (model X.prog X.w) X.A (call (.ref f) us (ks.zip ws)) (EP X pins σ Q) X.xe s := by
  refine wpAny_call (codeAny_mono (F.run X.A X.stack s H ⟨us, ks.zip ws⟩ (g us ws) (gV vs zs) Q E hr I.env0 (hb.to s us ws I.kIn l1 l2) (hb.rel r rz) h) fun y z hq => ?_)
  cases y with
  | error e => exact hx pins σ H s e z I hq
  | ok fl =>
    cases fl with
    | ret u => exact I.after hq
    | next => exact hq.elim
    | brk => exact hq.elim
    | cont => exact hq.elim
/-- o.m(k = v, ..) -/
def tMethK (C : Addr) (m : Str) (sp : Sp) (ks : List Str) (gV : List V → List V → List V) (E : XK) (to : TE) (tk : TA) : TE := fun σ H Q => to σ H fun x H1 => ∃ a dx fs, x = .ref a ∧ H1 a = some (.ins C dx fs) ∧ fs.lookup m = none ∧ tk σ H1 fun zs H2 => zs.length = ks.length ∧ sp (gV [x] zs) H2 Q E
theorem pe_methK {to : TE} {pl : Sem Bool} (he : PE X o to) (c : Cls X.K C) (hm : Meth X.K C m f) (F : FnOk X.prog X.w X.K X.mg X.base CX k f fd ps sp) (hr : Room k X.A) (hb : KBn X.K fd ps 1 ks g gV) (hx : Passes CX X E) (hkw : PK X kws tk)
    (hall : (backToKw pos (keywordEach kws X.env)).all (·.1.isSome) = true := by rfl) (hks : (backToKw pos (keywordEach kws X.env)).filterMap (·.1) = ks := by rfl) (hpl : ((backTo pos (starEach [] X.env)).any (·.1) || (backToKw pos (keywordEach kws X.env)).any (·.1.isNone)) = false := by rfl)
    (ht : eval (.Call (.Attribute o m apos) [] kws pos) X.env = (do
      let ov ← eval o X.env
      standAt apos.atName
      let (f, first) ← holding [ov] (getMethod ov m pl)
      callWith pos f first (backTo pos (starEach [] X.env)) (backToKw pos (keywordEach kws X.env))) := by rfl) : PE X (.Call (.Attribute o m apos) [] kws pos) (tMethK C m sp ks gV E to tk) := by
  refine ⟨fun pins s σ H Q I h => PySem.W.methodCall_KW (pl := pl) (thn (he.run pins s σ H _ I h) fun u s1 ⟨x, H1, I1, rx, a, dx, fs, ex, ea, l, q⟩ => ?_) ht⟩
  subst ex
  obtain rfl : u = Value.ref a := rx
  refine getmeth_ok I1 ea c hm l (PySem.W.callWith_KW0 (first := [.ref a]) (h₀ := X.base) I.ok.mod.kin hm.kp hall (thn (hkw.run pos pins s1 σ H1 _ I1 q) fun ws s2 ⟨zs, H2, I2, rz, l2, q2⟩ => ⟨I2.kIn, ?_⟩) hpl)
  rw [hks]
  exact run_fnK (us := [.ref a]) (vs := [.ref a]) F hr hb hx I2 (.cons rfl .nil) rz rfl (by rw [← l2, rz.length]) q2
/-- c(*y), c a name that holds a class -/
def tMakeL (i : Nat) (K : PySem.W.Frag) (C : Addr) (sp : Sp) (E : XK) (te : TE) : TE := fun σ H Q => σ[i]? = some (some (.ref C)) ∧ te σ H fun y H1 => ∃ a xs, y = .ref a ∧ (SqT K H1 a xs ∨ SqL K H1 a xs) ∧ ∀ x dx, H1 x = none → H1 dx = none → dx ≠ x →
  sp (V.ref x :: xs) (upd (upd H1 dx (.own x)) x (.ins C dx [])) (fun v H2 => v = .non ∧ Q (.ref x) H2) E
theorem pe_makeL {te : TE} (M : Mk X.K C f) (F : FnR X.prog X.w X.K X.mg X.base CX k f sp) (hr : Room (k + 1) X.A) (hN : X.N[i]? = some x) (hv : Vis X.env.scope x) (hx : Passes CX X E) (he : PE X e te) (hdb : (x == ("__debug__" : Str)) = false := by decide) (hcd : (x == ("__classdict__" : Str)) = false := by decide)
    (hst : starEach [.Starred e q] X.env = [(true, eval e X.env)] := by rfl) : PE X (.Call (.Name x p) [.Starred e q] [] pos) (tMakeL i X.K C sp E te) := by
  refine ⟨fun pins s σ H Q I ⟨hs, ht⟩ => wpAny_Call_Name_kw (thn ((pe_var (pos := p) hN hv hdb hcd).run pins s σ H (fun v H1 => v = .ref C ∧ H1 = H) I ⟨.ref C, hs, rfl, rfl⟩) fun u s1 ⟨v, H1, I1, r1, q1⟩ => ?_)⟩
  obtain ⟨rfl, rfl⟩ := q1
  cases r1
  refine PySem.W.callWith_S (h₀ := X.base) I.ok.mod.kin M.kp (thn (he.run pins s1 σ _ _ I1 ht) fun v s2 ⟨y, H2, I2, ry, a, xs, ey, hxs, h2⟩ => ?_) hst
  subst ey
  obtain rfl : v = Value.ref a := ry
  exact StX.star_any I2 hxs fun us s3 I3 rv => ⟨I3.kIn, StX.run_makeR M F hr hx I3 rv h2⟩
end
section
variable {P : Program} {w : World} {K : PySem.W.Frag} {mg : Str → Option Value} {base : Heap}
end
end K2
end
section
set_option Elab.async false
set_option maxRecDepth 100000
set_option linter.all false
namespace K2
open PySem L2 PySem.Spec PyProof.Rows
/-- a def's promise where no repr runs around -/
structure FnG (P : Program) (w : World) (K : PySem.W.Frag) (mg : Str → Option Value) (base : Heap) (k : Nat) (f : Addr) (fd : FuncData) (ps : List Str) (sp : Sp) : Prop where
  len : ∀ vs H Q E, sp vs H Q E → vs.length = ps.length
  run : ∀ (A : Around) (outer : List Env) (s : Shared) (H : Hp) (args : Args) (us : List Value) (vs : List V) (Q : VK) (E : XK), Room k A → A.guards = some [] → Env0 P w K mg base A outer s H → BindsTo s fd args (ps.zip us) → Vals vs us → sp vs H Q E →
    codeAny (model P w) A (.call (.ref f) args) (CR CX0 outer P w H s Q E) s
section
variable {P : Program} {w : World} {K : PySem.W.Frag} {mg : Str → Option Value} {base : Heap}
theorem okG {x qual : Str} {st : Stmt} {f : Addr} {fd : FuncData} {N ps : List Str} {k : Nat} {sp : Sp} (F : Fun K x qual st f fd) (S : FnScope N ps (defScope st)) (len : ∀ vs H Q E, sp vs H Q E → vs.length = ps.length)
    (body : ∀ (cdv : Value) (A : Around) (outer : List Env) (s : Shared) (H : Hp) (vs : List V) (Q : VK) (E : XK), Room k (A.deeper (envOfC qual (defScope st) s.heap.objs.size f cdv)) → A.guards = some [] → sp vs H Q E →
      ∃ t, PSs (cxOf CX0 P w K mg base N qual (defScope st) f cdv A outer s H E).nox (defBody st) t ∧ t { nx := fun _ H' => Q .non H', rt := Q } (start N vs) H) : FnG P w K mg base (k + 1) f fd ps sp := by
  obtain ⟨oc, od, kV, doc, pm, an, cdv, ct, osl, rfl, lk, hcd⟩ := F.ex
  refine ⟨len, fun A outer s H args us vs Q E hr hg e0 hb rv hs => ?_⟩
  refine StX.run_bnd (G := fun xs H2 => xs = vs ∧ H2 = H) lk hcd S hr e0 (fun A' Ex Q' h => hb _ _ _ _ (h s H vs us e0 Un.refl rfl (fun _ _ z => z) rv (len _ _ _ _ hs) ⟨rfl, rfl⟩)) fun s2 H2 xs ⟨e1, e2⟩ hr2 => ?_
  subst e1 e2
  obtain ⟨t, h1, h2⟩ := body cdv A outer s2 _ _ Q E hr2 hg hs
  exact ⟨t, h1.nox, h2⟩
end
section
variable {X : Cx} {k : Nat} {f : Addr} {fd : FuncData} {ps : List Str} {sp : Sp} {x : Str} {e : Expr} {es : List Expr} {p pos : Pos} {t : TA}
theorem pe_callG (F : FnG X.prog X.w X.K X.mg X.base k f fd ps sp) (hr : Room k X.A) (gu : X.A.guards = some []) (hg : Gl X x) (hm : X.mg x = some (.ref f)) (hk : PySem.W.keepIn X.K (.ref f) = true) (hb : Binds X.K fd ps []) (ha : PA X (e :: es) t) (hdb : (x == ("__debug__" : Str)) = false := by decide)
    (he : starEach (e :: es) X.env = (false, eval e X.env) :: starEach es X.env := by rfl) (hpl : (backTo pos (starEach es X.env)).any (·.1) = false := by rfl) : PE X (.Call (.Name x p) (e :: es) [] pos) (fun σ H Q => t σ H fun vs H1 => sp vs H1 Q E0) := by
  refine ⟨fun pins s σ H Q I h => wpAny_Call_Name_kw (ld_glob I hg hm ?_ hdb)⟩
  refine PySem.W.callWith_K (h₀ := X.base) I.ok.mod.kin hk (thn (ha.run pos pins s σ H _ I h) fun us s1 ⟨vs, H1, I1, r, q⟩ => ⟨I1.kIn, ?_⟩) he hpl
  have l2 : us.length = ps.length := by rw [← r.length]; exact F.len _ _ _ _ q
  have hb2 := hb s1 us I1.kIn (by simpa using l2)
  rw [List.append_nil] at hb2
  refine wpAny_call (codeAny_mono (F.run X.A X.stack s1 H1 ⟨us, []⟩ us vs Q E0 hr gu I1.env0 hb2 r q) fun y z hq => ?_)
  cases y with
  | error e => exact hq.elim
  | ok fl =>
    cases fl with
    | ret u => exact I1.after hq
    | next => exact hq.elim
    | brk => exact hq.elim
    | cont => exact hq.elim
/-! repr of a list of bools -/
def boolsD (bs : List Bool) : PyData := .list (bs.map PyData.bool)
theorem bools_dp (K : PySem.W.Frag) (H : Hp) : ∀ bs : List Bool, DpAll K H (bs.map V.bl) (bs.map PyData.bool)
  | [] => .nil
  | b :: bs => .cons (.bl b) (bools_dp K H bs)
theorem bools_show : ∀ bs : List Bool, PyData.showableAll (bs.map PyData.bool) = true
  | [] => rfl
  | b :: bs => by
    show (true && PyData.showableAll (bs.map PyData.bool)) = true
    rw [bools_show bs]
    rfl
theorem bools_depth : ∀ bs : List Bool, PyData.depthAll (bs.map PyData.bool) = 0
  | [] => rfl
  | b :: bs => by
    show max 0 (PyData.depthAll (bs.map PyData.bool)) = 0
    rw [bools_depth bs]
    rfl
theorem bools_nodict : ∀ bs : List Bool, PyData.hasDictAll (bs.map PyData.bool) = false
  | [] => rfl
  | b :: bs => by
    show (false || PyData.hasDictAll (bs.map PyData.bool)) = false
    rw [bools_nodict bs]
    rfl
theorem bools_sum : ∀ bs : List Bool, ((PyData.shownAll (bs.map PyData.bool)).map (·.length)).sum ≤ 5 * bs.length ∧ (PyData.shownAll (bs.map PyData.bool)).length = bs.length
  | [] => ⟨Nat.le_refl _, rfl⟩
  | b :: bs => by
    obtain ⟨h1, h2⟩ := bools_sum bs
    have hb : (PyData.shown (.bool b)).length ≤ 5 := by cases b <;> decide +kernel
    refine ⟨?_, ?_⟩
    · show (PyData.shown (.bool b)).length + ((PyData.shownAll (bs.map PyData.bool)).map (·.length)).sum ≤ 5 * (bs.length + 1)
      omega
    · show (PyData.shownAll (bs.map PyData.bool)).length + 1 = bs.length + 1
      omega
theorem bools_size (bs : List Bool) (h : bs.length ≤ 1000) : (boolsD bs).shown.length ≤ sizeLine := by
  have h1 := listText_len_le (PyData.shownAll (bs.map PyData.bool))
  obtain ⟨h2, h3⟩ := bools_sum bs
  show (listText (PyData.shownAll (bs.map PyData.bool))).length ≤ 16777216
  omega
/-- repr(xs) of a list of bools: a text that hangs on the bools alone -/
def rReprB (K : PySem.W.Frag) : List V → Hp → VK → Prop := fun xs H Q => ∃ a bs, xs = [V.ref a] ∧ SqL K H a (bs.map V.bl) ∧ (boolsD bs).shown.length ≤ sizeLine ∧ Q (.str (boolsD bs).shown) H
theorem call_reprB (gu : X.A.guards = some []) (hu : X.A.units + 64 < cLine) : CallR X (.builtin "repr") (rReprB X.K) := by
  intro pins s σ H xs us Q I r h
  obtain ⟨a, bs, rfl, hs, hz, q⟩ := h
  obtain ⟨u, rfl, ru⟩ := r.one
  cases ru
  obtain ⟨as, rd⟩ := Dp.reads I (boolsD bs) (V.ref a) (Value.ref a) (.lst hs (bools_dp _ _ bs)) rfl
  have dp : (boolsD bs).depth = 1 := by
    show PyData.depthAll (bs.map PyData.bool) + 1 = 1
    rw [bools_depth]
  refine repr_of_reads' rd (bools_show bs) (fun z => by rw [show (boolsD bs).hasDict = false from bools_nodict bs] at z; cases z) gu (by rw [dp]; omega) (fun b o e => e) (fun h' u tk hk => ⟨.str _, H, I.kept (t' := tk) hk, ⟨u, rfl⟩, q⟩) hz
end
end K2
end
section
set_option Elab.async false
set_option maxRecDepth 100000
set_option linter.all false
namespace K2
open PySem L2 PySem.Spec PyProof.Rows
section
variable {X : Cx} {CX : CXT} {k : Nat} {f C : Addr} {fd : FuncData} {ps : List Str} {sp : Sp} {E : XK}
/-- a def called somewhere below -/
theorem run_at {A : Around} {pins : List (Addr × Obj)} {σ : L2.St} {H : Hp} {s : Shared} {Q : VK} {us : List Value} {vs : List V} (F : FnOk X.prog X.w X.K X.mg X.base CX k f fd ps sp) (hb : Binds X.K fd ps []) (hx : Passes CX X E) (sb : Sub X k A) (I : Inv X pins σ H s) (rv : Vals vs us) (hsp : sp vs H Q E) :
    wpAny (model X.prog X.w) A (call (.ref f) us) (EP X pins σ Q) X.xe s := by
  have e0 : Env0 X.prog X.w X.K X.mg X.base A X.stack s H := by
    have e := I.env0
    exact ⟨by rw [sb.fr]; exact e.frames, e.mod, e.bs, e.bsz, e.funs, e.frf, e.hok, e.bare⟩
  have hl : us.length = ps.length := by rw [← rv.length]; exact F.len _ _ _ _ hsp
  have b2 := hb s us I.kIn (by simpa using hl)
  rw [List.append_nil] at b2
  refine wpAny_call (codeAny_mono (F.run A X.stack s H ⟨us, []⟩ us vs Q E sb.room e0 b2 rv hsp) fun r s' hq => ?_)
  cases r with
  | error e => exact hx pins σ H s e s' I hq
  | ok fl =>
    cases fl with
    | ret w => exact I.after hq
    | next => exact False.elim hq
    | brk => exact False.elim hq
    | cont => exact False.elim hq
/-- len(o) -/
theorem call_lenO (F : FnOk X.prog X.w X.K X.mg X.base CX k f fd ps sp) (hb : Binds X.K fd ps []) (hx : Passes CX X E) (hr : Room (k + 1) X.A) (hs : PySem.W.findIn X.K (.ref C) "__len__" = some (some (.ref f))) (hf : PySem.W.isFn X.K (.ref f) = true) :
    CallR X (.builtin "len") (fun xs H Q => ∃ a dx fs, xs = [.ref a] ∧ H a = some (.ins C dx fs) ∧ sp [.ref a] H (fun v H' => ∃ n : Nat, v = .int n ∧ n < 1000000 ∧ Q (.int n) H') E) := by
  intro pins s σ H xs us Q I r h
  obtain ⟨a, dx, fs, rfl, ha, hsp⟩ := h
  obtain ⟨u, rfl, ru⟩ := r.one
  cases ru
  obtain ⟨mA, J, _⟩ := ins_get I.hok ha
  obtain ⟨od, J, _⟩ := J.look
  obtain ⟨m, hF⟩ := I.fr
  refine PySem.W.len_K hF I.ok.mod.kin J hs hf (wpAny_mono (run_at (vs := [.ref a]) F hb hx (Sub.in1 ⟨hr, rfl⟩) I (.cons rfl .nil) hsp) (fun v s' q => ?_) fun _ _ x => x)
  obtain ⟨x, H', I', rx, n, rfl, hn, q⟩ := q
  obtain ⟨t, rfl⟩ := rx
  exact ⟨⟨by omega, by omega⟩, .int n, H', I'.tok _, ⟨_, rfl⟩, q⟩
/-- x in o -/
theorem op_inO (F : FnOk X.prog X.w X.K X.mg X.base CX k f fd ps sp) (hb : Binds X.K fd ps []) (hx : Passes CX X E) (hr : Room k X.A) (hs : PySem.W.findIn X.K (.ref C) "__contains__" = some (some (.ref f))) (hf : PySem.W.isFn X.K (.ref f) = true) :
    OpR X (compareOp .In) (fun x y H Q => ∃ a dx fs, y = .ref a ∧ H a = some (.ins C dx fs) ∧ sp [.ref a, x] H (fun v H' => ∃ b, v = .bl b ∧ Q (.bl b) H') E) := by
  intro pins s σ H x y v u Q I rx ry h
  obtain ⟨a, dx, fs, rfl, ha, hsp⟩ := h
  cases ry
  obtain ⟨mA, J, _⟩ := ins_get I.hok ha
  obtain ⟨od, J, _⟩ := J.look
  obtain ⟨m, hF⟩ := I.fr
  refine PySem.W.in_K hF I.ok.mod.kin J hs hf (wpAny_mono (run_at (vs := [.ref a, x]) F hb hx ⟨hr, rfl⟩ I (.cons rfl (.cons rx .nil)) hsp) (fun r s' q => ?_) fun _ _ x => x)
  obtain ⟨z, H', I', rz, b, rfl, q⟩ := q
  cases rz
  exact wpAny_truthy_bool ⟨.bl b, H', I', rfl, q⟩
/-- the right side's type, not above the class -/
def RightT (K : PySem.W.Frag) (C : Addr) (H : Hp) (y : V) : Prop := ∃ t, TyX K H y t ∧ PySem.W.notFirst K C t = true
/-- o == y -/
theorem op_eqO (F : FnOk X.prog X.w X.K X.mg X.base CX k f fd ps sp) (hb : Binds X.K fd ps []) (hx : Passes CX X E) (hr : Room k X.A) (hu : X.A.units < cLine) (hs : PySem.W.findIn X.K (.ref C) "__eq__" = some (some (.ref f))) (hf : PySem.W.isFn X.K (.ref f) = true) :
    OpR X (compareOp .Eq) (fun x y H Q => ∃ a dx fs, x = .ref a ∧ H a = some (.ins C dx fs) ∧ RightT X.K C H y ∧ sp [.ref a, y] H (fun v H' => ∃ b, v = .bl b ∧ Q (.bl b) H') E) := by
  intro pins s σ H x y v u Q I rx ry h
  obtain ⟨a, dx, fs, rfl, ha, ⟨t, ty, hn⟩, hsp⟩ := h
  cases rx
  obtain ⟨mA, J, _⟩ := ins_get I.hok ha
  obtain ⟨od, J, _⟩ := J.look
  obtain ⟨m, hF⟩ := I.fr
  obtain ⟨Pz, Z, p, _⟩ := kit_of I ry ty
  show wpAny (model X.prog X.w) X.A (richCompare .Eq (.ref a) u) (EP X pins σ Q) X.xe s
  have lk : PySem.W.Looks (model X.prog X.w) s.heap (typeOf u) t := Z.ty _ _ I.kIn p
  refine PySem.W.cmp_K (op := .Eq) hu hF I.ok.mod.kin J lk hn hs hf (wpAny_mono (run_at (vs := [.ref a, y]) F hb hx ⟨hr, rfl⟩ I (.cons rfl (.cons ry .nil)) hsp) (fun r s' q => ?_) fun _ _ x => x)
  obtain ⟨z, H', I', rz, b, rfl, q⟩ := q
  cases rz
  exact ⟨.bl b, H', I', rfl, q⟩
/-! o != y: by object's own, which asks the class's == -/
theorem bound_ne {M : Model} {A : Around} {Er : Value → Shared → Prop} {s : Shared} {K : PySem.W.Frag} {x C : Addr} {ox : Obj} {od : Option Obj} {args : List Value} {Q : Option Value → Shared → Prop} (Y : K.In s.heap) (J : PySem.W.InstAt s.heap x ox C od)
    (hs : PySem.W.findIn K (.ref C) "__ne__" = some (some (.builtin "object.__ne__"))) (h : wpAny M A (call (.builtin "object.__ne__") (.ref x :: args)) (fun v => Q (some v)) Er s) : wpAny M A (callSpecialIfBound? (.ref x) "__ne__" args) Q Er s := by
  simp only [callSpecialIfBound?, bindSpecialIfBound?]
  refine wpAny_holding (wpAny_bind (wpAny_bind (wpAny_bind (J.type.here ((PySem.W.looks_findIn Y hs).here ?_)))))
  refine wpAny_bind (wpAny_askSetting (wpAny_ite ?_))
  have go : wpAny M A (call (.builtin "object.__ne__") ([.ref x] ++ args) >>= fun v => pure (some v)) Q Er s := wpAny_bind (wpAny_mono h (fun v s' q => wpAny_pure q) fun _ _ q => q)
  split
  · exact wpAny_bind (wpAny_of_eq (F.cmp_object.ne.bind _) (wpAny_pure (by exact go)))
  · exact wpAny_tryCatch (wpAny_bind (wpAny_of_eq (F.cmp_object.ne.bind _) (wpAny_pure (by exact go))))
theorem entry_ne {prog : Program} {w : World} {A : Around} {Er : Value → Shared → Prop} {s : Shared} {K : PySem.W.Frag} {x C f : Addr} {y : Value} {ox : Obj} {od : Option Obj} {Q : Fin → Shared → Prop} (Y : K.In s.heap) (J : PySem.W.InstAt s.heap x ox C od) (hu : A.units < cLine)
    (hs : PySem.W.findIn K (.ref C) "__eq__" = some (some (.ref f))) (hf : PySem.W.isFn K (.ref f) = true)
    (h : wpAny (model prog w) A (call (.ref f) [.ref x, y]) (fun v s' => ∃ b, v = .bool b ∧ Q (.done (.ret (.bool (!b)))) s') Er s) : wpAny (model prog w) A (Builtin.«object.__ne__» ⟨[.ref x, y], []⟩) Q Er s := by
  unfold Builtin.«object.__ne__»
  repeat (first
    | with_reducible refine wpAny_cRoomFor hu ?_
    | (refine wpAny_bind (m := callSpecialIfBound? (.ref x) (Str.ofString "__eq__") [y]) (PySem.W.ifBound_K Y J hs hf (wpAny_mono h (fun r s' hr => by
          obtain ⟨b, rfl, hq⟩ := hr
          repeat (first | exact hq | exact wpAny_pure hq | exact wpAny_truthy_bool hq | (refine wpAny_bind (m := truthy (.bool _)) (wpAny_truthy_bool ?_)) | wp_step)) fun _ _ e => e)))
    | wp_step)
theorem try_ne {prog : Program} {w : World} {A : Around} {Er : Value → Shared → Prop} {s : Shared} {K : PySem.W.Frag} {x C f : Addr} {y : Value} {ox : Obj} {od : Option Obj} {Q : Option Value → Shared → Prop} (Y : K.In s.heap) (J : PySem.W.InstAt s.heap x ox C od) (hu : A.units + 1 < cLine)
    (hn : PySem.W.findIn K (.ref C) "__ne__" = some (some (.builtin "object.__ne__"))) (hm : PySem.W.mroIn K C (.type "object") = some true) (hs : PySem.W.findIn K (.ref C) "__eq__" = some (some (.ref f))) (hf : PySem.W.isFn K (.ref f) = true)
    (h : wpAny (model prog w) A.in1 (call (.ref f) [.ref x, y]) (fun v s' => ∃ b, v = .bool b ∧ Q (some (.bool (!b))) s') Er s) : wpAny (model prog w) A (tryCompare (.ref x) "__ne__" y) Q Er s := by
  unfold tryCompare
  refine wpAny_bind (bound_ne Y J hn (wpAny_call (codeAny_call_builtin F.cmp_object.ne.plain F.cmpEntry_ne (PySem.W.check_slot F.cmpKind_ne F.cmpSplit_ne (J.type.andThen (PySem.W.looks_mroIn Y hm)) (F.cmpArgs_ne _ _)
    (entry_ne (A := A.in1) Y J hu hs hf (wpAny_mono h (fun v s' hv => ?_) fun _ _ e => e))))))
  obtain ⟨b, rfl, hq⟩ := hv
  exact ⟨b, rfl, wpAny_pure hq⟩
theorem op_neO (F : FnOk X.prog X.w X.K X.mg X.base CX k f fd ps sp) (hb : Binds X.K fd ps []) (hx : Passes CX X E) (hr : Room (k + 1) X.A) (hu : X.A.units + 1 < cLine) (hs : PySem.W.findIn X.K (.ref C) "__eq__" = some (some (.ref f))) (hf : PySem.W.isFn X.K (.ref f) = true)
    (hn : PySem.W.findIn X.K (.ref C) "__ne__" = some (some (.builtin "object.__ne__"))) (hm : PySem.W.mroIn X.K C (.type "object") = some true) :
    OpR X (compareOp .NotEq) (fun x y H Q => ∃ a b dx fs dy gs, x = .ref a ∧ y = .ref b ∧ H a = some (.ins C dx fs) ∧ H b = some (.ins C dy gs) ∧ sp [.ref a, .ref b] H (fun v H' => ∃ c, v = .bl c ∧ Q (.bl (!c)) H') E) := by
  intro pins s σ H x y v u Q I rx ry h
  obtain ⟨a, b, dx, fs, dy, gs, rfl, rfl, ha, hb2, hsp⟩ := h
  cases rx
  cases ry
  obtain ⟨mA, J, _⟩ := ins_get I.hok ha
  obtain ⟨od, J, _⟩ := J.look
  obtain ⟨mB, J2, _⟩ := ins_get I.hok hb2
  obtain ⟨od2, J2, _⟩ := J2.look
  have call := run_at (us := [.ref a, .ref b]) (vs := [.ref a, .ref b]) F hb hx (Sub.in1 ⟨hr, rfl⟩) I (.cons rfl (.cons rfl .nil)) hsp
  show wpAny (model X.prog X.w) X.A (richCompare .NotEq (.ref a) (.ref b)) (EP X pins σ Q) X.xe s
  unfold richCompare
  simp only [oneThing_ref]
  refine wpAny_holding (wpAny_bind (wpAny_cRoomFor (Nat.lt_of_succ_lt hu) ?_))
  rw [cmpInfo_NotEq]
  dsimp only
  refine wpAny_bind (J.type.here (wpAny_bind (J2.type.here ?_)))
  rw [show (Value.ref C != Value.ref C) = false from by simp]
  simp only [Bool.false_eq_true, if_false]
  refine wpAny_bind (wpAny_pure ?_)
  simp only [Bool.false_eq_true, if_false]
  refine wpAny_bind (try_ne I.kIn J hu hn hm hs hf (wpAny_mono call (fun r s' q => ?_) fun _ _ x => x))
  obtain ⟨z, H', I', rz, c, rfl, q⟩ := q
  cases rz
  exact ⟨c, rfl, wpAny_pure ⟨.bl (!c), H', I', rfl, q⟩⟩
end
end K2
end
section
set_option Elab.async false
set_option maxRecDepth 100000
set_option linter.all false
namespace K2
open PySem L2 PySem.Spec PyProof.Rows
/-- the staticmethod m of the class at C is the def at g -/
structure SMet (K : PySem.W.Frag) (C : Addr) (mc : Value) (m : Str) (p g : Addr) : Prop where
  at_ : PySem.W.findCls K (.ref C) mc m = some (.get (.builtin "staticmethod.__get__") (.ref p) .none (.ref C))
  rc : ∃ rest, PySem.W.recIn K p "staticmethod" = some (.ref g :: rest)
  kp : PySem.W.keepIn K (.ref g) = true
section
variable {X : Cx} {CX : CXT} {k : Nat} {f g C p : Addr} {mc : Value} {fd : FuncData} {ps ks : List Str} {sp : Sp} {E : XK} {m x : Str} {o e : Expr} {q pos apos nap : Pos} {ta te tk : TE} {tks : TA} {kws : List Keyword}
/-- C.m(), m a staticmethod -/
theorem pe_smeth0 {pl : Sem Bool} (he : PE X o ta) (r : ClX.CRead X.K C mc) (c : SMet X.K C mc m p g) (F : FnOk X.prog X.w X.K X.mg X.base CX k g fd [] sp) (hb : Binds X.K fd [] []) (hr : Room k X.A) (hx : Passes CX X E)
    (ht : eval (.Call (.Attribute o m apos) [] [] pos) X.env = (do
      let ov ← eval o X.env
      standAt apos.atName
      let (f, first) ← holding [ov] (getMethod ov m pl)
      callWith pos f first (backTo pos (starEach [] X.env)) (backToKw pos (keywordEach [] X.env))) := by rfl) : PE X (.Call (.Attribute o m apos) [] [] pos) (fun σ H Q => ta σ H fun z H1 => z = .ref C ∧ sp [] H1 Q E) := by
  constructor
  intro pins s σ H Q I h
  refine PySem.W.methodCall_KW (pl := pl) (thn (he.run pins s σ H _ I h) fun u s1 ⟨z, H1, I1, rz, ez, hs⟩ => ?_) ht
  subst ez
  obtain rfl : u = Value.ref C := rz
  obtain ⟨rest, hp⟩ := c.rc
  refine PySem.W.method_cls I1.kIn r.ga (PySem.W.cls_bind I1.kIn r.rd c.at_ (wpAny_call (PySem.W.sm_get (s := { s1 with toks := s1.toks + 1 }) I1.kIn hp (PySem.W.handed_on rfl ?_))))
  have I2 := I1.tok (s1.toks + 1)
  exact PySem.W.callWith_K0 (first := []) I2.kIn c.kp (run_at (us := []) (vs := []) F hb hx ⟨hr, rfl⟩ I2 .nil hs)
/-- x(), x a class whose __init__ takes any number of things -/
theorem pe_makeR0 (M : Mk X.K C f) (F : FnR X.prog X.w X.K X.mg X.base CX k f sp) (hr : Room (k + 1) X.A) (hg : Gl X x) (hm : X.mg x = some (.ref C)) (hx : Passes CX X E) (hdb : (x == ("__debug__" : Str)) = false := by decide) :
    PE X (.Call (.Name x nap) [] [] pos) (fun σ H Q => ∀ y dx, H y = none → H dx = none → dx ≠ y → sp [V.ref y] (upd (upd H dx (.own y)) y (.ins C dx [])) (fun v H2 => v = .non ∧ Q (.ref y) H2) E) := by
  constructor
  intro pins s σ H Q I h
  refine wpAny_Call_Name_kw (ld_glob I hg hm ?_ hdb)
  exact PySem.W.callWith_K0 (first := []) I.kIn M.kp (StX.run_makeR (us := []) (vs := []) M F hr hx I .nil h)
/-- x(*e) -/
theorem pe_makeSG (M : Mk X.K C f) (F : FnR X.prog X.w X.K X.mg X.base CX k f sp) (hr : Room (k + 1) X.A) (hg : Gl X x) (hm : X.mg x = some (.ref C)) (hx : Passes CX X E) (he : PE X e te) (hdb : (x == ("__debug__" : Str)) = false := by decide)
    (hst : starEach [.Starred e q] X.env = [(true, eval e X.env)] := by rfl) : PE X (.Call (.Name x nap) [.Starred e q] [] pos) (fun σ H Q => te σ H fun z H1 => ∃ a xs, z = .ref a ∧ (SqT X.K H1 a xs ∨ SqL X.K H1 a xs) ∧ ∀ y dx, H1 y = none → H1 dx = none → dx ≠ y →
      sp (V.ref y :: xs) (upd (upd H1 dx (.own y)) y (.ins C dx [])) (fun v H2 => v = .non ∧ Q (.ref y) H2) E) := by
  constructor
  intro pins s σ H Q I h
  refine wpAny_Call_Name_kw (ld_glob I hg hm ?_ hdb)
  refine PySem.W.callWith_S (h₀ := X.base) I.ok.mod.kin M.kp (thn (he.run pins s σ H _ I h) fun v s2 ⟨z, H2, I2, rz, a, xs, ez, hxs, h2⟩ => ?_) hst
  subst ez
  obtain rfl : v = Value.ref a := rz
  exact StX.star_any I2 hxs fun us s3 I3 rv => ⟨I3.kIn, StX.run_makeR M F hr hx I3 rv h2⟩
/-- o.m(), m takes any number of things -/
theorem pe_methR0 {pl : Sem Bool} (he : PE X o ta) (c : Cls X.K C) (hm : Meth X.K C m f) (F : FnR X.prog X.w X.K X.mg X.base CX k f sp) (hr : Room k X.A) (hx : Passes CX X E)
    (ht : eval (.Call (.Attribute o m apos) [] [] pos) X.env = (do
      let ov ← eval o X.env
      standAt apos.atName
      let (f, first) ← holding [ov] (getMethod ov m pl)
      callWith pos f first (backTo pos (starEach [] X.env)) (backToKw pos (keywordEach [] X.env))) := by rfl) : PE X (.Call (.Attribute o m apos) [] [] pos) (fun σ H Q => ta σ H fun z H1 => ∃ a dx fs, z = .ref a ∧ H1 a = some (.ins C dx fs) ∧ fs.lookup m = none ∧ sp [.ref a] H1 Q E) := by
  constructor
  intro pins s σ H Q I h
  refine PySem.W.methodCall_KW (pl := pl) (thn (he.run pins s σ H _ I h) fun u s1 ⟨z, H1, I1, rz, a, dx, fs, ez, ea, l, hs⟩ => ?_) ht
  subst ez
  obtain rfl : u = Value.ref a := rz
  exact getmeth_ok I1 ea c hm l (PySem.W.callWith_K0 (first := [.ref a]) I1.kIn hm.kp (wpAny_call (run_fnR (us := [.ref a]) (vs := [.ref a]) F hr hx I1 (.cons rfl .nil) hs)))
/-- C.m(k = v, ..), m a classmethod -/
theorem pe_cmethK {pl : Sem Bool} {gr : List Value → List Value → List Value} {gV : List V → List V → List V} (he : PE X o ta) (r : ClX.CRead X.K C mc) (c : ClX.CMet X.K C mc m p g) (F : FnOk X.prog X.w X.K X.mg X.base CX k g fd ps sp) (hr : Room k X.A) (hb : KBn X.K fd ps 1 ks gr gV) (hx : Passes CX X E) (hkw : PK X kws tks)
    (hall : (backToKw pos (keywordEach kws X.env)).all (·.1.isSome) = true := by rfl) (hks : (backToKw pos (keywordEach kws X.env)).filterMap (·.1) = ks := by rfl) (hpl : ((backTo pos (starEach [] X.env)).any (·.1) || (backToKw pos (keywordEach kws X.env)).any (·.1.isNone)) = false := by rfl)
    (ht : eval (.Call (.Attribute o m apos) [] kws pos) X.env = (do
      let ov ← eval o X.env
      standAt apos.atName
      let (f, first) ← holding [ov] (getMethod ov m pl)
      callWith pos f first (backTo pos (starEach [] X.env)) (backToKw pos (keywordEach kws X.env))) := by rfl) :
    PE X (.Call (.Attribute o m apos) [] kws pos) (fun σ H Q => ta σ H fun z H1 => z = .ref C ∧ tks σ H1 fun zs H2 => zs.length = ks.length ∧ sp (gV [.ref C] zs) H2 Q E) := by
  constructor
  intro pins s σ H Q I h
  refine PySem.W.methodCall_KW (pl := pl) (thn (he.run pins s σ H _ I h) fun u s1 ⟨z, H1, I1, rz, ez, hs⟩ => ?_) ht
  subst ez
  obtain rfl : u = Value.ref C := rz
  refine ClX.getmethcm_ok I1 r c fun s2 I2 => ?_
  refine PySem.W.callWith_of (P := PySem.W.MethP X.K s1.heap.objs.size g (.ref C)) hpl (PySem.W.keeps_M c.fi) (evalArgs_kw2_nil hall (thn (hkw.run pos _ s2 σ H1 _ I2 hs) fun ws s3 ⟨zs, H2, I3, rw', l2, q2⟩ => ⟨⟨ClX.pin_at I3, I3.kIn⟩, ?_⟩))
  rw [hks]
  have z : wpAny (model X.prog X.w) X.A (call (.ref s1.heap.objs.size) [] (ks.zip ws)) (EP X ((s1.heap.objs.size, PySem.W.methodObj (.ref g) (.ref C)) :: pins) σ Q) X.xe s3 := by
    refine wpAny_call (PySem.W.method_call (ClX.pin_at I3) (codeAny_mono (F.run X.A X.stack s3 H2 ⟨[.ref C], ks.zip ws⟩ (gr [.ref C] ws) (gV [.ref C] zs) Q E hr I3.env0 (hb.to s3 [.ref C] ws I3.kIn rfl (by rw [← l2, rw'.length])) (hb.rel (vs := [.ref C]) (us := [.ref C]) (.cons rfl .nil) rw') q2) fun y z hq => ?_))
    cases y with
    | error e => exact hx _ σ H2 s3 e z I3 hq
    | ok fl =>
      cases fl with
      | ret u => exact I3.after hq
      | next => exact hq.elim
      | brk => exact hq.elim
      | cont => exact hq.elim
  exact thn z fun _ _ y => ClX.unpinE y
end
end K2
end
section
set_option Elab.async false
set_option maxRecDepth 100000
set_option linter.all false
namespace K2
open PySem L2 PySem.Spec PyProof.Rows
theorem strs_dp (K : PySem.W.Frag) (H : Hp) : ∀ xs : List Str, DpAll K H (xs.map V.str) (xs.map PyData.str)
  | [] => .nil
  | x :: xs => .cons (.str x) (strs_dp K H xs)
def sOk (x : Str) : Bool := x.cps.all (· < 0x110000)
theorem strs_lay : ∀ xs : List Str, (∀ x ∈ xs, sOk x = true) → PyData.canLayAll0 (xs.map PyData.str) = true
  | [], _ => rfl
  | x :: xs, h => by
    show (sOk x && PyData.canLayAll0 (xs.map PyData.str)) = true
    rw [strs_lay xs fun y hy => h y (List.mem_cons_of_mem _ hy), h x List.mem_cons_self]
    rfl
theorem strs_depth : ∀ xs : List Str, PyData.depthAll (xs.map PyData.str) = 0
  | [] => rfl
  | x :: xs => by
    show max 0 (PyData.depthAll (xs.map PyData.str)) = 0
    rw [strs_depth xs]
    rfl
theorem strs_shaped (xs : List Str) (h : ∀ x ∈ xs, sOk x = true) : SeqAt.shaped (.list (xs.map PyData.str)) = true := by
  show (PyData.canLayAll0 (xs.map PyData.str) && decide (PyData.depthAll (xs.map PyData.str) + 1 ≤ 64)) = true
  rw [strs_lay xs h, strs_depth]
  rfl
theorem strs_eqv0 (xs : List Str) : PyData.eqv (.list (xs.map PyData.str)) (.list []) = decide (xs = []) := by
  cases xs with
  | nil => rfl
  | cons x xs => rfl
/-! ### repr of any data of the heap without dicts -/
def rReprD (K : PySem.W.Frag) : List V → Hp → VK → Prop := fun xs H Q => ∃ a d, xs = [V.ref a] ∧ Dp K H (.ref a) d ∧ d.showable = true ∧ d.hasDict = false ∧ d.depth ≤ 8 ∧ d.shown.length ≤ sizeLine ∧ Q (.str d.shown) H
section
variable {X : Cx}
theorem call_reprD (gu : X.A.guards = some []) (hu : X.A.units + 64 < cLine) : CallR X (.builtin "repr") (rReprD X.K) := by
  intro pins s σ H xs us Q I r h
  obtain ⟨a, d, rfl, hd, hs, hn, dp, hz, q⟩ := h
  obtain ⟨u, rfl, ru⟩ := r.one
  cases ru
  obtain ⟨as, rd⟩ := Dp.reads I d (V.ref a) (Value.ref a) hd rfl
  exact repr_of_reads' rd hs (fun z => by rw [hn] at z; cases z) gu (by omega) (fun b o e => e) (fun h' u tk hk => ⟨.str _, H, I.kept (t' := tk) hk, ⟨u, rfl⟩, q⟩) hz
end
/-- a tuple of texts -/
def tD (ys : List Str) : PyData := .tuple (ys.map PyData.str)
theorem strs_show : ∀ xs : List Str, PyData.showableAll (xs.map PyData.str) = true
  | [] => rfl
  | x :: xs => by
    show (true && PyData.showableAll (xs.map PyData.str)) = true
    rw [strs_show xs]
    rfl
theorem strs_nodict : ∀ xs : List Str, PyData.hasDictAll (xs.map PyData.str) = false
  | [] => rfl
  | x :: xs => by
    show (false || PyData.hasDictAll (xs.map PyData.str)) = false
    rw [strs_nodict xs]
    rfl
theorem strs_weight : ∀ xs : List Str, (∀ x ∈ xs, x.length ≤ 8) → PyData.weightAll (xs.map PyData.str) ≤ 9 * xs.length
  | [], _ => Nat.le_refl _
  | x :: xs, h => by
    have ih := strs_weight xs fun y hy => h y (List.mem_cons_of_mem _ hy)
    have hx : x.cps.size ≤ 8 := h x List.mem_cons_self
    show x.cps.size + 1 + PyData.weightAll (xs.map PyData.str) ≤ 9 * (xs.length + 1)
    omega
theorem tD_show (ys : List Str) : (tD ys).showable = true := strs_show ys
theorem tD_nodict (ys : List Str) : (tD ys).hasDict = false := strs_nodict ys
theorem tD_depth (ys : List Str) : (tD ys).depth = 1 := by
  show PyData.depthAll (ys.map PyData.str) + 1 = 1
  rw [strs_depth]
theorem tD_fits {ys : List Str} (ok : ∀ y ∈ ys, sOk y = true) (h8 : ∀ y ∈ ys, y.length ≤ 8) (hl : ys.length ≤ 40) : (tD ys).shown.length ≤ sizeLine := by
  refine PyData.shown_fits_of_layable0 (B := 13) (by decide) (by decide) ?_ (PyData.intsShortAll_strs 13 ys)
  have w := strs_weight ys h8
  have q : PyData.weight (tD ys) = PyData.weightAll (ys.map PyData.str) := rfl
  show (PyData.canLayAll0 (ys.map PyData.str) && decide (PyData.depth (tD ys) ≤ 64) && decide (PyData.weight (tD ys) ≤ 2 ^ 20)) = true
  rw [strs_lay ys ok, tD_depth, q]
  simp only [Bool.true_and, Bool.and_eq_true, decide_eq_true_eq]
  omega
/-! rows shown -/
def rowsD (rs : List Row) : PyData := .tuple (rs.map fun r => tD (r.1 :: r.2))
theorem rows_show : ∀ rs : List Row, PyData.showableAll (rs.map fun r => tD (r.1 :: r.2)) = true
  | [] => rfl
  | r :: rs => by
    show (PyData.showable (tD (r.1 :: r.2)) && PyData.showableAll (rs.map fun r => tD (r.1 :: r.2))) = true
    rw [tD_show, rows_show rs]
    rfl
theorem rows_nodict : ∀ rs : List Row, PyData.hasDictAll (rs.map fun r => tD (r.1 :: r.2)) = false
  | [] => rfl
  | r :: rs => by
    show (PyData.hasDict (tD (r.1 :: r.2)) || PyData.hasDictAll (rs.map fun r => tD (r.1 :: r.2))) = false
    rw [tD_nodict, rows_nodict rs]
    rfl
theorem rows_depth : ∀ rs : List Row, PyData.depthAll (rs.map fun r => tD (r.1 :: r.2)) ≤ 1
  | [] => Nat.zero_le _
  | r :: rs => by
    show max (PyData.depth (tD (r.1 :: r.2))) (PyData.depthAll (rs.map fun r => tD (r.1 :: r.2))) ≤ 1
    rw [tD_depth]
    exact Nat.max_le.mpr ⟨Nat.le_refl _, rows_depth rs⟩
structure RowFit (r : Row) : Prop where
  ok : ∀ y ∈ r.1 :: r.2, sOk y = true
  h8 : ∀ y ∈ r.1 :: r.2, y.length ≤ 8
  len : (r.1 :: r.2).length ≤ 40
theorem rows_lay : ∀ rs : List Row, (∀ r ∈ rs, RowFit r) → PyData.canLayAll0 (rs.map fun r => tD (r.1 :: r.2)) = true
  | [], _ => rfl
  | r :: rs, h => by
    have q : PyData.canLay0 (tD (r.1 :: r.2)) = true := strs_lay _ (h r List.mem_cons_self).ok
    show (PyData.canLay0 (tD (r.1 :: r.2)) && PyData.canLayAll0 (rs.map fun r => tD (r.1 :: r.2))) = true
    rw [q, rows_lay rs fun y hy => h y (List.mem_cons_of_mem _ hy)]
    rfl
theorem rows_short : ∀ rs : List Row, PyData.intsShortAll 13 (rs.map fun r => tD (r.1 :: r.2)) = true
  | [] => rfl
  | r :: rs => by
    have q : PyData.intsShort 13 (tD (r.1 :: r.2)) = true := PyData.intsShortAll_strs 13 (r.1 :: r.2)
    show (PyData.intsShort 13 (tD (r.1 :: r.2)) && PyData.intsShortAll 13 (rs.map fun r => tD (r.1 :: r.2))) = true
    rw [q, rows_short rs]
    rfl
theorem rows_weight : ∀ rs : List Row, (∀ r ∈ rs, RowFit r) → PyData.weightAll (rs.map fun r => tD (r.1 :: r.2)) ≤ 361 * rs.length
  | [], _ => Nat.le_refl _
  | r :: rs, h => by
    have R := h r List.mem_cons_self
    have w := strs_weight (r.1 :: r.2) R.h8
    have l := R.len
    have ih := rows_weight rs fun y hy => h y (List.mem_cons_of_mem _ hy)
    show PyData.weightAll ((r.1 :: r.2).map PyData.str) + 1 + PyData.weightAll (rs.map fun r => tD (r.1 :: r.2)) ≤ 361 * (rs.length + 1)
    omega
theorem rowsD_show (rs : List Row) : (rowsD rs).showable = true := rows_show rs
theorem rowsD_nodict (rs : List Row) : (rowsD rs).hasDict = false := rows_nodict rs
theorem rowsD_depth (rs : List Row) : (rowsD rs).depth ≤ 2 := by
  have := rows_depth rs
  show PyData.depthAll (rs.map fun r => tD (r.1 :: r.2)) + 1 ≤ 2
  omega
theorem rowsD_fits {rs : List Row} (h : ∀ r ∈ rs, RowFit r) (hl : rs.length ≤ 40) : (rowsD rs).shown.length ≤ sizeLine := by
  refine PyData.shown_fits_of_layable0 (B := 13) (by decide) (by decide) ?_ (rows_short rs)
  have w := rows_weight rs h
  have d := rowsD_depth rs
  have q : PyData.weight (rowsD rs) = PyData.weightAll (rs.map fun r => tD (r.1 :: r.2)) := rfl
  show (PyData.canLayAll0 (rs.map fun r => tD (r.1 :: r.2)) && decide (PyData.depth (rowsD rs) ≤ 64) && decide (PyData.weight (rowsD rs) ≤ 2 ^ 20)) = true
  rw [rows_lay rs h, q]
  simp only [Bool.true_and, Bool.and_eq_true, decide_eq_true_eq]
  omega
theorem vw_ok {x : Str} (h : VW x) : sOk x = true ∧ x.length ≤ 8 := by
  have l := h.le
  refine ⟨?_, l⟩
  have q := h.low
  unfold sOk
  rw [Array.all_eq_true]
  intro i hi
  have := q x.cps[i] (by
    show x.cps[i] ∈ x.cps.toList
    exact Array.getElem_mem_toList hi)
  simp only [decide_eq_true_eq]
  omega
theorem Good.fit {rs : List Row} (g : Good rs) (h30 : rs.length ≤ 30) : ∀ r ∈ rs, RowFit r := by
  intro r hr
  obtain ⟨i, hi⟩ := List.getElem?_of_mem hr
  have R := g i r hi
  have il : i < rs.length := (List.getElem?_eq_some_iff.mp hi).1
  have vw : ∀ y ∈ r.1 :: r.2, VW y := fun y hy => by
    rcases List.mem_cons.mp hy with rfl | hy
    · exact R.vw
    · exact g.vw_known i y (R.sub y hy)
  refine ⟨fun y hy => (vw_ok (vw y hy)).1, fun y hy => (vw_ok (vw y hy)).2, ?_⟩
  have := R.nd.length_le_of_subset R.sub
  rw [knownAt_len (Nat.le_of_lt il)] at this
  rw [List.length_cons]
  omega
theorem refs_ne_pen {ts : List Addr} {c : Addr} {a l : Int} : HO.lst (ts.map V.ref) ≠ penO c a l := by
  unfold penO
  intro e
  injection e with e
  match ts, e with
  | [], e => simp at e
  | [_], e => simp at e
  | _ :: _ :: _, e => simp at e
theorem Pen.refs_ne {H : Hp} {p c q : Addr} {ns : List Int} {n : Nat} {ts : List Addr} (h : Pen H p c ns n) (hq : H q = some (.lst (ts.map V.ref))) : q ≠ p := fun e => by
  obtain ⟨a, l, g, _⟩ := h.pen
  rw [e, g] at hq
  exact refs_ne_pen (Option.some.inj hq).symm
theorem tD_eqv (x : Str) : PyData.eqv (tD [x]) (tD [x]) = true := by
  show ((x == x) && true) = true
  simp
theorem tD_shaped (xs : List Str) (h : ∀ x ∈ xs, sOk x = true) : SeqAt.shaped (tD xs) = true := by
  show (PyData.canLayAll0 (xs.map PyData.str) && decide (PyData.depthAll (xs.map PyData.str) + 1 ≤ 64)) = true
  rw [strs_lay xs h, strs_depth]
  rfl
theorem any_filter {α : Type} (p : α → Bool) : ∀ l : List α, (!decide (l.filter p = [])) = l.any p
  | [] => rfl
  | x :: l => by
    rw [List.filter_cons, List.any_cons]
    cases h : p x with
    | true => simp
    | false => simpa using any_filter p l
theorem op_neDK {X : Cx} {K' : PySem.W.Frag} (hK : X.K = K') (hu : X.A.units + 64 < cLine) : OpR X (compareOp .NotEq) (rNeD K') := by
  subst hK
  exact op_neD hu
theorem call_reprBl {X : Cx} : CallR X (.builtin "repr") (fun xs H Q => ∃ b, xs = [V.bl b] ∧ Q (.str (if b then "True" else "False")) H) := by
  intro pins s σ H xs us Q I r h
  obtain ⟨b, rfl, q⟩ := h
  obtain ⟨u, rfl, ru⟩ := r.one
  obtain rfl : u = Value.bool b := ru
  exact PySem.P.repr_of_bool ⟨.str _, H, I.tok _, ⟨_, rfl⟩, q⟩
theorem pe_fldK {X : Cx} {K' : PySem.W.Frag} {e : Expr} {f : Str} {pos : Pos} {ta : TE} (hK : X.K = K') (he : PE X e ta) (hb : attributeBase e f X.env (eval e X.env) = eval e X.env) : PE X (.Attribute e f pos) (tFld K' ta f) := by
  subst hK
  exact pe_fld he hb
theorem strs_eqv : ∀ xs ys : List Str, PyData.eqvAll (xs.map PyData.str) (ys.map PyData.str) = decide (xs = ys)
  | [], [] => rfl
  | [], _ :: _ => rfl
  | _ :: _, [] => rfl
  | x :: xs, y :: ys => by
    show ((x == y) && PyData.eqvAll (xs.map PyData.str) (ys.map PyData.str)) = decide (x :: xs = y :: ys)
    rw [strs_eqv xs ys, Bool.eq_iff_iff]
    simp
theorem rows_eqv : ∀ rs qs : List Row, PyData.eqvAll (rs.map fun r => tD (r.1 :: r.2)) (qs.map fun r => tD (r.1 :: r.2)) = decide (rs = qs)
  | [], [] => rfl
  | [], _ :: _ => rfl
  | _ :: _, [] => rfl
  | r :: rs, q :: qs => by
    show (PyData.eqvAll ((r.1 :: r.2).map PyData.str) ((q.1 :: q.2).map PyData.str) && PyData.eqvAll (rs.map fun r => tD (r.1 :: r.2)) (qs.map fun r => tD (r.1 :: r.2))) = decide (r :: rs = q :: qs)
    rw [strs_eqv, rows_eqv rs qs, Bool.eq_iff_iff]
    obtain ⟨a, as⟩ := r
    obtain ⟨b, bs⟩ := q
    simp
theorem rowsD_eqv (rs qs : List Row) : PyData.eqv (rowsD rs) (rowsD qs) = decide (rs = qs) := rows_eqv rs qs
theorem rowsD_shaped {rs : List Row} (h : ∀ r ∈ rs, RowFit r) : SeqAt.shaped (rowsD rs) = true := by
  have d := rowsD_depth rs
  show (PyData.canLayAll0 (rs.map fun r => tD (r.1 :: r.2)) && decide (PyData.depth (rowsD rs) ≤ 64)) = true
  rw [rows_lay rs h]
  simp only [Bool.true_and, decide_eq_true_eq]
  omega
end K2
end
section
set_option Elab.async false
set_option maxRecDepth 100000
set_option linter.all false
namespace K2
open PySem L2 PySem.Spec PyProof.Rows
theorem rising_pw : ∀ (p : Str) (l : List Str), PyProof.Rows.risingS p l = true → (p :: l).Pairwise (fun a b => PySem.Spec.ltCps b.cps.toList a.cps.toList = false)
  | p, [], _ => List.pairwise_singleton _ _
  | p, x :: r, h => by
    have h2 := Bool.and_eq_true_iff.mp (show (!PySem.Spec.ltCps x.cps.toList p.cps.toList && PyProof.Rows.risingS x r) = true from h)
    have ih := rising_pw x r h2.2
    have h1 : PySem.Spec.ltCps x.cps.toList p.cps.toList = false := by simpa using h2.1
    refine List.pairwise_cons.mpr ⟨fun y hy => ?_, ih⟩
    rcases List.mem_cons.mp hy with rfl | hy
    · exact h1
    · have h3 := (List.pairwise_cons.mp ih).1 y hy
      rw [PyProof.Rows.ltCps_eq, decide_eq_false_iff_not] at h1 h3 ⊢
      exact List.le_trans (α := Nat) (l₁ := p.cps.toList) (l₂ := x.cps.toList) (l₃ := y.cps.toList) h1 h3
theorem sorted_pw : ∀ l : List Str, PyProof.Rows.sortedS l = true → l.Pairwise (fun a b => PySem.Spec.ltCps b.cps.toList a.cps.toList = false)
  | [], _ => .nil
  | x :: r, h => rising_pw x r h
theorem sorted_sub {l l' : List Str} (h : PyProof.Rows.sortedS l' = true) (s : l.Sublist l') : PyProof.Rows.sortedS l = true := PyProof.Rows.sortedS_of_pairwise l ((sorted_pw l' h).sublist s)
theorem sorted_one : ∀ {l l' : List Str}, l.Nodup → l'.Nodup → PyProof.Rows.sortedS l = true → PyProof.Rows.sortedS l' = true → (∀ y, y ∈ l ↔ y ∈ l') → l = l' := by
  have anti : ∀ {a b : Str}, PySem.Spec.ltCps a.cps.toList b.cps.toList = false → PySem.Spec.ltCps b.cps.toList a.cps.toList = false → a = b := fun {a b} h1 h2 => by
    rw [PyProof.Rows.ltCps_eq, decide_eq_false_iff_not] at h1 h2
    have e : a.cps.toList = b.cps.toList := List.le_antisymm (α := Nat) h2 h1
    have e2 : a.cps = b.cps := Array.toList_inj.mp e
    cases a
    cases b
    cases e2
    rfl
  intro l
  induction l with
  | nil =>
    intro l' _ _ _ _ h
    cases l' with
    | nil => rfl
    | cons y r => exact absurd ((h y).mpr List.mem_cons_self) (by simp)
  | cons x l ih =>
    intro l' n1 n2 s1 s2 h
    cases l' with
    | nil => exact absurd ((h x).mp List.mem_cons_self) (by simp)
    | cons y r =>
      have p1 := List.pairwise_cons.mp (sorted_pw _ s1)
      have p2 := List.pairwise_cons.mp (sorted_pw _ s2)
      have e : x = y := by
        rcases List.mem_cons.mp ((h x).mp List.mem_cons_self) with q | q
        · exact q
        · rcases List.mem_cons.mp ((h y).mpr List.mem_cons_self) with q2 | q2
          · exact q2.symm
          · exact anti (p2.1 x q) (p1.1 y q2)
      subst e
      have m1 := List.nodup_cons.mp n1
      have m2 := List.nodup_cons.mp n2
      rw [ih m1.2 m2.2 (sorted_sub s1 (List.sublist_cons_self _ _)) (sorted_sub s2 (List.sublist_cons_self _ _)) fun z => ?_]
      constructor
      · intro hz
        rcases List.mem_cons.mp ((h z).mp (List.mem_cons_of_mem _ hz)) with q | q
        · exact absurd (q ▸ hz) m1.1
        · exact q
      · intro hz
        rcases List.mem_cons.mp ((h z).mpr (List.mem_cons_of_mem _ hz)) with q | q
        · exact absurd (q ▸ hz) m2.1
        · exact q
/-! ### lists and tuples beside empty ones -/
section
variable {X : Cx}
/-- xs != [] of any list -/
def rNeL0 (K : PySem.W.Frag) : R2 := fun x y H Q => ∃ a b xs, x = .ref a ∧ y = .ref b ∧ SqL K H a xs ∧ SqL K H b [] ∧ Q (.bl (!xs.isEmpty)) H
def rEqL0 (K : PySem.W.Frag) : R2 := fun x y H Q => ∃ a b xs, x = .ref a ∧ y = .ref b ∧ SqL K H a xs ∧ SqL K H b [] ∧ Q (.bl xs.isEmpty) H
/-- t != () of any tuple -/
def rNeT0 (K : PySem.W.Frag) : R2 := fun x y H Q => ∃ a b xs, x = .ref a ∧ y = .ref b ∧ SqT K H a xs ∧ SqT K H b [] ∧ Q (.bl (!xs.isEmpty)) H
theorem op_neL0 (hu : X.A.units < cLine) : OpR X (compareOp .NotEq) (rNeL0 X.K) := by
  intro pins s σ H x y v u Q I rx ry h
  obtain ⟨a, b, xs, rfl, rfl, ha, hb, q⟩ := h
  cases rx
  cases ry
  obtain ⟨as, ra, la, _⟩ := I.list ha
  obtain ⟨bs, rb, lb, _⟩ := I.list hb
  cases rb
  have fin : EP X pins σ Q (.bool (!xs.isEmpty)) s := ⟨.bl _, H, I, rfl, q⟩
  show wpAny (model X.prog X.w) X.A (richCompare .NotEq (.ref a) (.ref b)) (EP X pins σ Q) X.xe s
  cases ra with
  | nil => exact SeqAt.RcNeAt.lists (e := fun _ => true) la.isList lb.isList rfl hu (fun j h1 h2 => absurd h1 (Nat.not_lt_zero j)) _ _ _ _ fin
  | cons r t => exact SeqAt.RcNeAt.lists_lengths la.isList lb.isList (by simp) hu _ _ _ _ fin
theorem op_eqL0 (hu : X.A.units < cLine) : OpR X (compareOp .Eq) (rEqL0 X.K) := by
  intro pins s σ H x y v u Q I rx ry h
  obtain ⟨a, b, xs, rfl, rfl, ha, hb, q⟩ := h
  cases rx
  cases ry
  obtain ⟨as, ra, la, _⟩ := I.list ha
  obtain ⟨bs, rb, lb, _⟩ := I.list hb
  cases rb
  have fin : EP X pins σ Q (.bool xs.isEmpty) s := ⟨.bl _, H, I, rfl, q⟩
  show wpAny (model X.prog X.w) X.A (richCompare .Eq (.ref a) (.ref b)) (EP X pins σ Q) X.xe s
  cases ra with
  | nil => exact SeqAt.RcAt.lists (e := fun _ => true) la.isList lb.isList rfl hu (fun j h1 h2 => absurd h1 (Nat.not_lt_zero j)) _ _ _ _ fin
  | cons r t => exact SeqAt.RcAt.lists_lengths la.isList lb.isList (by simp) hu _ _ _ _ fin
theorem op_neT0 (hu : X.A.units < cLine) : OpR X (compareOp .NotEq) (rNeT0 X.K) := by
  intro pins s σ H x y v u Q I rx ry h
  obtain ⟨a, b, xs, rfl, rfl, ha, hb, q⟩ := h
  cases rx
  cases ry
  obtain ⟨as, ra, ta, _⟩ := I.tuple ha
  obtain ⟨bs, rb, tb, _⟩ := I.tuple hb
  cases rb
  have fin : EP X pins σ Q (.bool (!xs.isEmpty)) s := ⟨.bl _, H, I, rfl, q⟩
  show wpAny (model X.prog X.w) X.A (richCompare .NotEq (.ref a) (.ref b)) (EP X pins σ Q) X.xe s
  have := SeqAt.RcNeAt.tuples (A := X.A) (s := s) (e := fun _ => true) ta tb hu (fun j h1 h2 => absurd h2 (Nat.not_lt_zero j))
  cases ra with
  | nil => exact this _ _ _ _ fin
  | cons r t => exact this _ _ _ _ fin
/-! ### repr of None or of data -/
def rReprU (K : PySem.W.Frag) : List V → Hp → VK → Prop := fun xs H Q => (xs = [V.non] ∧ Q (.str "None") H) ∨ rReprD K xs H Q
theorem call_reprU (gu : X.A.guards = some []) (hu : X.A.units + 64 < cLine) : CallR X (.builtin "repr") (rReprU X.K) := by
  intro pins s σ H xs us Q I r h
  rcases h with ⟨rfl, q⟩ | h
  · obtain ⟨u, rfl, ru⟩ := r.one
    obtain rfl : u = Value.none := ru
    exact PySem.P.repr_of_none ⟨.str _, H, I.tok _, ⟨_, rfl⟩, q⟩
  · exact call_reprD gu hu pins s σ H xs us Q I r h
end
section
variable {p : Program} {w : World} {A : Around} {E : Value → Shared → Prop} {s : Shared}
end
section
variable {X : Cx}
def tLenSetG (ta : TE) : TE := fun σ H Q => ta σ H fun x H1 => ∃ (l : Addr) (xs : List Str), x = .ref l ∧ H1 l = some (.tup (xs.map V.str)) ∧ xs.length ≤ 1000 ∧ ∀ ys : List Str, ys.Nodup → (∀ y, y ∈ ys ↔ y ∈ xs) → Q (.int (ys.length : Nat)) H1
def tSortedSetT (te : TE) : TE := fun σ H Q => te σ H fun x H1 => ∃ (l : Addr) (xs : List Str), x = .ref l ∧ H1 l = some (.tup (xs.map V.str)) ∧ xs.length < 64 ∧
  ∀ (ys : List Str) (q : Addr), ys.Nodup → ys.length ≤ xs.length → (∀ y, y ∈ ys ↔ y ∈ xs) → sortedS ys = true → H1 q = none → Q (.ref q) (upd H1 q (.lst (ys.map V.str)))
end
end K2
end
section
set_option Elab.async false
set_option maxRecDepth 100000
set_option linter.all false
namespace K2
open PySem L2 LamX PySem.Spec PyProof.Rows
theorem Pen.extN {H H' : Hp} {p c : Addr} {ns : List Int} {n : Nat} (h : Pen H p c ns n) (s : ExtN H H') : Pen H' p c ns n := by
  obtain ⟨a, l, g, r⟩ := h.pen
  exact ⟨⟨a, l, s _ _ g (fun ps z => by unfold penO at z; cases z), r⟩, s _ _ h.cells (fun ps z => by cases z), h.small⟩
theorem Tabs.kp {T : List (Addr × Str)} {H H' : Hp} {p c : Addr} {ns : List Int} {n : Nat} (t : Tabs T H) (P : Pen H p c ns n) (k : Keep p H H') : Tabs T H' := fun q hq => by
  obtain ⟨ps, h1, h2, h3⟩ := t q hq
  obtain ⟨a, l, g, _⟩ := P.pen
  refine ⟨ps, k _ _ h1 (fun e => ?_), h2, fun pos cv hc => ?_⟩
  · rw [e, g] at h1
    unfold penO at h1
    cases h1
  · obtain ⟨c0, e1, e2⟩ := h3 pos cv hc
    refine ⟨c0, e1, k _ _ e2 fun e => ?_⟩
    rw [e, g] at e2
    unfold penO CodeO at e2
    cases e2
theorem Tabs.same {T : List (Addr × Str)} {H H' : Hp} (t : Tabs T H) (s : Same H H') : Tabs T H' := t.ext s

theorem Good.nar {rs : List Row} (g : Good rs) (h : rs.length ≤ 31) : ∀ r ∈ rs, r.2.length ≤ 32 := by
  intro r hr
  obtain ⟨i, hi⟩ := List.getElem?_of_mem hr
  have R := g i r hi
  have il : i < rs.length := (List.getElem?_eq_some_iff.mp hi).1
  have := R.nd.length_le_of_subset R.sub
  rw [knownAt_len (by omega)] at this
  omega
section
variable {P : Program} {w : World} {K : PySem.W.Frag} {mg : Str → Option Value} {base : Heap}
theorem _root_.L2.FnOk.lift {k : Nat} {f : Addr} {fd : FuncData} {ps : List Str} {sp : Sp} (F : FnOk P w K mg base CX0 k f fd ps sp) : FnOk P w K mg base (L2.CX P w) k f fd ps sp :=
  ⟨F.len, fun A outer s H args us vs Q E hr he hb hv hs => codeAny_mono (F.run A outer s H args us vs Q E hr he hb hv hs) fun r s' hq => by
    cases r with
    | error e => exact hq.elim
    | ok fl => cases fl <;> exact hq⟩
theorem _root_.L2.FnR.lift {k : Nat} {f : Addr} {sp : Sp} (F : FnR P w K mg base CX0 k f sp) : FnR P w K mg base (L2.CX P w) k f sp :=
  fun A outer s H us vs Q E hr he hv hs => codeAny_mono (F A outer s H us vs Q E hr he hv hs) fun r s' hq => by
    cases r with
    | error e => exact hq.elim
    | ok fl => cases fl <;> exact hq
theorem _root_.L2.FnR.or {CX : CXT} {k : Nat} {f : Addr} {sp sp' : Sp} (F : FnR P w K mg base CX k f sp) (G : FnR P w K mg base CX k f sp') : FnR P w K mg base CX k f (fun vs H Q E => sp vs H Q E ∨ sp' vs H Q E) :=
  fun A outer s H us vs Q E hr he hv hs => hs.elim (F A outer s H us vs Q E hr he hv) (G A outer s H us vs Q E hr he hv)
/-! what is answered: classes or the first fault -/
def spEr : Sp := fun vs H Q _ => (∃ a xs, vs = [.ref a] ∧ H a = some (.lst xs) ∧ Q .non H) ∨ ∃ a xs, vs = [.ref a] ∧ H a = some (.tup xs) ∧ Q (.ref a) H
end
end K2
end
section
set_option Elab.async false
set_option maxRecDepth 100000
set_option linter.all false
/-! the pen's draw -/
namespace K2
open PySem L2
section
variable {P : Program} {w : World} {K : PySem.W.Frag} {mg : Str → Option Value} {base : Heap}
abbrev nDrawB : List Str := ["_law_pen_here", "_law_many", "_law_digit", "_law_begun", "_law_cell", "_law_great", "_law_mixed"]
theorem scDrawB : FnScope nDrawB ["_law_pen_here", "_law_many"] (defScope sDraw) := ⟨rfl, rfl, rfl, by decide +kernel, rfl, by decide +kernel, by decide +kernel⟩
theorem ok_draw {f : Addr} {fd : FuncData} (F : Fun K "_law_draw" "_law_draw" sDraw f fd) (T : Bi mg) : FnOk P w K mg base CX0 1 f fd ["_law_pen_here", "_law_many"] spDraw := by
  refine F.ok scDrawB (fun vs H Q E h => ?_) (fun cdv A outer s H vs Q E hr h => ?_)
  · obtain ⟨p, c, ns, n, m, rfl, _⟩ := h
    rfl
  · obtain ⟨p, c, ns, n, m, rfl, hP, hn, m0, m1, k⟩ := h
    have hmne : m ≠ 0 := by omega
    have hmab : m.natAbs < 1073741824 := by omega
    obtain ⟨a, l, hp, a0, an, l0⟩ := hP.pen
    unfold penO at hp
    refine ⟨_, (pss_cons (ps_if (pt_cmpR op_gt (pe_ix ix_list (pv 0) pe_int (fun _ _ => rfl)) pe_int (nomark _))
      (pss_cons (ps_set (i := 2) scDrawB.nd rfl (Or.inl rfl) (pe_op op_modN (pe_callTy call_int1 (by rfl) T.int (by decide +kernel) (pa_cons (pe_ix ix_list (pv 0) pe_int (fun _ _ => rfl)) pa_nil)) (pv 1)))
        (pss_cons (ps_asg (pe_op op_fdivN (pe_callTy call_int1 (by rfl) T.int (by decide +kernel) (pa_cons (pe_ix ix_list (pv 0) pe_int (fun _ _ => rfl)) pa_nil)) (pv 1)) (pg_sub (pv 0) pe_int set_list))
        (pss_one (ps_ret (pv 2)))))
      pss_nil)
      (pss_cons (ps_set (i := 3) scDrawB.nd rfl (Or.inl rfl) (pe_ix ix_list (pv 0) pe_int (fun _ _ => rfl)))
      (pss_cons (ps_asg (pe_op op_add (pv 3) pe_int) (pg_sub (pv 0) pe_int set_list))
      (pss_cons (ps_set (i := 4) scDrawB.nd rfl (Or.inl rfl) (pe_op op_add (pe_op op_mul pe_int (pv 3)) pe_int))
      (pss_cons (ps_if (pt_cmpR (op_neD hr.units) (pe_ix ix_list (pv 0) pe_int (fun _ _ => rfl)) (pe_lst pa_nil) (nomark _))
      (pss_one (ps_set (i := 4) scDrawB.nd rfl (Or.inl rfl) (pe_ix ix_list (pe_ix ix_list (pv 0) pe_int (fun _ _ => rfl)) (pe_op op_modN (pe_callTy call_int1 (by rfl) T.int (by decide +kernel) (pa_cons (pv 3) pa_nil)) (pe_callB call_len_seq (by rfl) T.len PySem.boot_len (pa_cons (pe_ix ix_list (pv 0) pe_int (fun _ _ => rfl)) pa_nil))) (fun _ _ => rfl))))
      pss_nil)
      (pss_cons (ps_if (PW.pt (pw_and (pt_cmpR op_lt (pv 3) (pe_callB call_len_seq (by rfl) T.len PySem.boot_len (pa_cons (pe_ix ix_list (pv 0) pe_int (fun _ _ => rfl)) pa_nil)) (nomark _)) (pw_and1 (pt_cmpR op_ge (pe_callB call_abs (by rfl) T.abs (by decide +kernel) (pa_cons (pv 4) pa_nil)) (pe_op op_pow pe_int pe_int) (nomark _)))))
      (pss_cons (ps_set (i := 5) scDrawB.nd rfl (Or.inl rfl) (pe_op op_add (pe_op op_mul pe_int (pe_callB call_abs (by rfl) T.abs (by decide +kernel) (pa_cons (pv 4) pa_nil))) (pe_callTy call_int1 (by rfl) T.int (by decide +kernel) (pa_cons (pe_cmpR op_lt (pv 4) pe_int (nomark _)) pa_nil))))
        (pss_cons (ps_asg (pe_op op_fdivN (pe_callTy call_int1 (by rfl) T.int (by decide +kernel) (pa_cons (pv 5) pa_nil)) (pv 1)) (pg_sub (pv 0) pe_int set_list))
        (pss_one (ps_ret (pe_op op_modN (pe_callTy call_int1 (by rfl) T.int (by decide +kernel) (pa_cons (pv 5) pa_nil)) (pv 1))))))
      pss_nil)
      (pss_cons (ps_set (i := 6) scDrawB.nd rfl (Or.inl rfl) (pe_op op_modN (pe_callTy call_int1 (by rfl) T.int (by decide +kernel) (pa_cons (pe_op op_pow (pe_op op_add (pe_op op_add (pe_op op_modN (pe_callTy call_int1 (by rfl) T.int (by decide +kernel) (pa_cons (pv 4) pa_nil)) pe_int) (pe_op op_mul pe_int (pv 3))) pe_int) pe_int) pa_nil)) pe_int))
      (pss_cons (ps_set (i := 6) scDrawB.nd rfl (Or.inl rfl) (pe_op op_modN (pe_callTy call_int1 (by rfl) T.int (by decide +kernel) (pa_cons (pe_op op_pow (pe_op op_add (pe_op op_add (pe_op op_mul (pv 6) (pe_op op_add (pe_op op_mul pe_int (pv 3)) pe_int)) (pe_op op_mul (pe_op op_mul pe_int (pv 3)) (pv 3))) pe_int) pe_int) pa_nil)) pe_int))
      (pss_one (ps_ret (pe_op op_modN (pe_op op_fdivN (pe_callTy call_int1 (by rfl) T.int (by decide +kernel) (pa_cons (pv 6) pa_nil)) pe_int) (pv 1)))))))))))), ?_⟩
    refine ⟨_, rfl, p, _, _, _, rfl, rfl, SqL.of hp, atI_nat (j := 2) rfl, _, _, rfl, rfl, _, rfl, ite2 (fun hg => ?_) (fun hg => ?_)⟩
    · have hl := of_decide_eq_true hg
      refine ⟨_, rfl, p, _, _, _, rfl, rfl, SqL.of hp, atI_nat (j := 2) rfl, .inl ⟨_, rfl, _, rfl, _, _, rfl, rfl, hmne, ?_⟩⟩
      refine ⟨_, rfl, p, _, _, _, rfl, rfl, SqL.of hp, atI_nat (j := 2) rfl, .inl ⟨_, rfl, _, rfl, _, _, rfl, rfl, ⟨hmne, hmab⟩, _, rfl, p, _, _, 2, rfl, rfl, hp, rfl, _, rfl, ?_⟩⟩
      refine k _ _ (fmod_lo m0) (fmod_hi m0) (Keep.refl _ _).at ?_
      exact hP.set a0 (by omega) (fdiv_nn l0 m0)
    · have hat : a ≤ 100000 := by omega
      refine ⟨_, rfl, p, _, _, _, rfl, rfl, SqL.of hp, atI_nat (j := 1) rfl, _, rfl, _, _, rfl, rfl, _, rfl, p, _, _, 1, rfl, rfl, hp, rfl, ?_⟩
      generalize hH1 : upd H p (HO.lst ([V.ref c, V.int a, V.int l].set 1 ((fun i j => V.int (i + j)) a 1))) = H1
      replace hH1 : upd H p (.lst [.ref c, .int (a + 1), .int l]) = H1 := hH1
      have hp1 : H1 p = some (.lst [.ref c, .int (a + 1), .int l]) := by rw [← hH1]; exact upd_same
      have hc1 : H1 c = some (.lst (ns.map V.int)) := by rw [← hH1, upd_ne hP.ne]; exact hP.cells
      have k1 : Keep p H H1 := by rw [← hH1]; exact (Keep.refl p H).at
      refine ⟨_, rfl, _, _, rfl, rfl, .inl ⟨by decide, by decide⟩, _, _, rfl, rfl, ?_⟩
      refine ⟨_, rfl, p, _, _, _, rfl, rfl, SqL.of hp1, atI_nat (j := 0) rfl, Nat.zero_le _, fun e he => ?_⟩
      have he0 : H e = none := by
        cases q : H e with
        | none => rfl
        | some o =>
          by_cases ep : e = p
          · rw [ep, hp1] at he; cases he
          · rw [k1 e o q ep] at he; cases he
      have hp2 : (upd H1 e (.lst [])) p = some (.lst [.ref c, .int (a + 1), .int l]) := by rw [upd_ne (ne_of_none hp1 he)]; exact hp1
      have hc2 : (upd H1 e (.lst [])) c = some (.lst (ns.map V.int)) := by rw [upd_ne (ne_of_none hc1 he)]; exact hc1
      have k2 : Keep p H (upd H1 e (.lst [])) := k1.new he0
      have P2 : Pen (upd H1 e (.lst [])) p c ns (n + 1) := ⟨⟨a + 1, l, hp2, by omega, by omega, l0⟩, hc2, hP.small⟩
      have hee : (upd H1 e (.lst [])) e = some (.lst []) := upd_same
      generalize hH2 : upd H1 e (.lst []) = H2 at hp2 hc2 k2 P2 hee ⊢
      refine ⟨.list (ns.map PyData.int), .list [], .lst (SqL.of hc2) (ints_dp _ _ ns), .lst (SqL.of hee) .nil, shaped_ints ns, rfl, _, rfl, ?_⟩
      rw [eqv_nil]
      have hz0 : ns = [] ∨ ∃ z r, ns = z :: r := by cases ns with
        | nil => exact .inl rfl
        | cons z r => exact .inr ⟨z, r, rfl⟩
      have hzc : ∀ j : Nat, j < ns.length → ∃ z : Int, (ns.map V.int)[j]? = some (V.int z) := fun j hj => ⟨ns[j], by rw [List.getElem?_map, List.getElem?_eq_getElem hj]; rfl⟩
      refine ite2 (fun hb => ?b1) (fun hb => ?b2)
      case' b1 =>
        have hlen : 0 < ns.length := by
          cases ns with
          | nil => cases hb
          | cons z r => simp
        have hlen2 : (0 : Int) < ((ns.map V.int).length : Int) := by rw [List.length_map]; omega
        obtain ⟨j, hj⟩ : ∃ j : Nat, a.fmod ((ns.map V.int).length : Int) = (j : Int) := ⟨(a.fmod ((ns.map V.int).length : Int)).toNat, (Int.toNat_of_nonneg (fmod_lo hlen2)).symm⟩
        have hj2 : j < ns.length := by
          have := fmod_hi (a := a) hlen2
          rw [hj, List.length_map] at this
          omega
        obtain ⟨z, hz⟩ := hzc j hj2
        refine ⟨_, rfl, p, _, _, _, rfl, rfl, SqL.of hp2, atI_nat (j := 0) rfl, _, rfl, .inl ⟨_, rfl, _, rfl, p, _, _, _, rfl, rfl, SqL.of hp2, atI_nat (j := 0) rfl, c, _, rfl, .inl (SqL.of hc2), _, _, rfl, rfl, by omega, c, _, _, _, rfl, rfl, SqL.of hc2, at_of hj hz, ?_⟩⟩
      case' b2 => generalize hz9 : (fun i j => V.int (i + j)) (51361 * a) 863 = zz; replace hz9 : zz = .int (51361 * a + 863) := hz9.symm; subst hz9; generalize 51361 * a + 863 = z
      all_goals
        have pw18 : (10 : Int) ^ (18 : Int).toNat = 1000000000000000000 := by decide
        have tl : ∀ (v : Int), 0 ≤ v → v < m → Q (.int v) H2 := fun v h0 h1 => k v H2 h0 h1 k2 P2
        refine (fun t => ⟨_, rfl, _, rfl, p, _, _, _, rfl, rfl, SqL.of hp2, atI_nat (j := 0) rfl, c, _, rfl, .inl (SqL.of hc2), _, _, rfl, rfl, _, rfl, ite2 (fun hq1 =>
          ⟨_, rfl, _, rfl, _, _, rfl, rfl, ⟨by decide, by decide, by decide⟩, _, _, rfl, rfl, _, rfl, ite2 (fun hq2 => ?_) (fun _ => t)⟩) (fun _ => iteF t)⟩) ?_
        · refine ⟨_, rfl, .inl ⟨_, rfl, _, _, rfl, rfl, (by show (2147483549 : Int) ≠ 0; decide), _, rfl, _, _, rfl, rfl, .inl ⟨by decide, by decide⟩, _, _, rfl, rfl, _, _, rfl, rfl, _, _, rfl, rfl, ⟨by decide, by decide, ?_⟩, .inl ⟨_, rfl, _, _, rfl, rfl, (by show (2147483629 : Int) ≠ 0; decide), ?_⟩⟩⟩
          · have h1 := fmod_lo (a := z) (m := 2147483549) (by decide)
            have h2 := fmod_hi (a := z) (m := 2147483549) (by decide)
            generalize z.fmod 2147483549 = y at h1 h2 ⊢
            omega
          have g1 := fmod_lo (a := (z.fmod 2147483549 + 84199 * a + 67) ^ (5 : Int).toNat) (m := 2147483629) (by decide)
          have g2 := fmod_hi (a := (z.fmod 2147483549 + 84199 * a + 67) ^ (5 : Int).toNat) (m := 2147483629) (by decide)
          have b1 := mul_bnd (X := 2147483629) (y := 2 * a + 73) (Y := 200073) g1 (Int.le_of_lt g2) (by omega) (by omega)
          have b2 := mul_bnd (x := 64817 * a) (X := 6481700000) (y := a) (Y := 100000) (by omega) (by omega) a0 hat
          refine ⟨_, rfl, _, rfl, _, _, rfl, rfl, .inl ⟨by decide, by decide⟩, _, _, rfl, rfl, _, _, rfl, rfl, .inl ⟨?_, ?_⟩, _, rfl, _, _, rfl, rfl, .inl ⟨by decide, by decide⟩, _, rfl, _, _, rfl, rfl, .inl ⟨?_, ?_⟩, _, _, rfl, rfl, _, _, rfl, rfl, _, _, rfl, rfl, ⟨by decide, by decide, ?_⟩, .inl ⟨_, rfl, _, _, rfl, rfl, (by show (2147483587 : Int) ≠ 0; decide), ?_⟩⟩
          · omega
          · omega
          · omega
          · omega
          · omega
          have g3 := fmod_lo (a := ((((z.fmod 2147483549 + 84199 * a + 67) ^ (5 : Int).toNat).fmod 2147483629) * (2 * a + 73) + 64817 * a * a + 37) ^ (3 : Int).toNat) (m := 2147483587) (by decide)
          refine ⟨_, rfl, .inl ⟨_, rfl, _, _, rfl, rfl, ⟨by decide, by decide⟩, _, rfl, _, _, rfl, rfl, hmne, tl _ (fmod_lo m0) (fmod_hi m0)⟩⟩
        · have hge := of_decide_eq_true hq2
          have z64 : True := trivial
          refine ⟨_, rfl, _, rfl, _, _, rfl, rfl, .inl ⟨by decide, by decide⟩, _, rfl, _, _, rfl, rfl, .inr ⟨_, rfl, _, _, rfl, rfl, ?_⟩⟩
          refine ⟨_, rfl, .inl ⟨_, rfl, _, rfl, _, _, rfl, rfl, ⟨hmne, hmab⟩, _, rfl, p, _, _, 2, rfl, rfl, hp2, rfl, _, rfl, .inl ⟨_, rfl, _, rfl, _, _, rfl, rfl, hmne, ?_⟩⟩⟩
          refine k _ _ (fmod_lo m0) (fmod_hi m0) k2.at (P2.set (by omega) (by omega) (fdiv_nn ?_ m0))
          rw [pw18] at hge
          split at hge <;> split <;> omega
end
end K2
end
section
set_option Elab.async false
set_option maxRecDepth 100000
set_option linter.all false
/-! words of the second style -/
namespace K2
open PySem L2
abbrev sWordsB : Stmt := sWords
abbrev nWordsB : List Str := ["_law_pen_here", "_law_many", "_law_letters", "_law_barred", "_law_base", "_law_found", "_law_k", "_law_at", "_law_word", "_law_j", "_law_some", "_law_letter", "_law_one"]
theorem sub_len {α : Type} [BEq α] [LawfulBEq α] : ∀ {l m : List α}, l.Nodup → (∀ x ∈ l, x ∈ m) → l.length ≤ m.length
  | [], _, _, _ => Nat.zero_le _
  | x :: l, m, nd, h => by
    have nd2 := List.nodup_cons.mp nd
    have hx := h x List.mem_cons_self
    have := sub_len (m := m.erase x) nd2.2 fun y hy => (List.mem_erase_of_ne (fun e => nd2.1 (by rw [← e]; exact hy))).mpr (h y (List.mem_cons_of_mem _ hy))
    rw [List.length_erase_of_mem hx] at this
    have := List.length_pos_of_mem hx
    rw [List.length_cons]
    omega
abbrev lettersS : Str := Str.ofString "abcdefghijklmnopqrstuvwxyz"
/-- what may be taken in the place of w -/
def cands (w : Str) : List Str := w :: (codes lettersS).map fun c => txt ((codes w).take 7 ++ [c])
theorem letters_nd : (codes lettersS).Nodup := by decide +kernel
theorem letters_len : (codes lettersS).length = 26 := by decide +kernel
theorem nodup_map {α β : Type} {f : α → β} (inj : ∀ x y, f x = f y → x = y) : ∀ {l : List α}, l.Nodup → (l.map f).Nodup
  | [], _ => by simp
  | x :: l, nd => by
    have nd2 := List.nodup_cons.mp nd
    rw [List.map_cons]
    refine List.nodup_cons.mpr ⟨fun h => ?_, nodup_map inj nd2.2⟩
    obtain ⟨y, hy, e⟩ := List.mem_map.mp h
    exact nd2.1 (inj _ _ e ▸ hy)
theorem filter_one {α β : Type} [DecidableEq β] {f : α → β} {y : β} : ∀ {l : List α}, (l.map f).Nodup → (l.filter fun x => decide (f x = y)).length ≤ 1
  | [], _ => by simp
  | x :: l, nd => by
    rw [List.map_cons] at nd
    have nd2 := List.nodup_cons.mp nd
    by_cases e : f x = y
    · rw [List.filter_cons_of_pos (by simpa using e)]
      have : l.filter (fun z => decide (f z = y)) = [] := by
        rw [List.filter_eq_nil_iff]
        intro z hz h
        have h := of_decide_eq_true h
        exact nd2.1 (List.mem_map.mpr ⟨z, hz, by rw [h, e]⟩)
      rw [this]
      simp
    · rw [List.filter_cons_of_neg (by simpa using e)]
      exact filter_one nd2.2
theorem barred_drops : (barred.map fun b => (codes b).dropLast).Nodup := by decide +kernel
theorem cand_free (w : Str) {found : List Str} (l : found.length ≤ 20) : ∃ x ∈ cands w, x ∉ found ∧ x ∉ barred := by
  refine Classical.byContradiction fun no => ?_
  have all : ∀ x ∈ (codes lettersS).map (fun c => txt ((codes w).take 7 ++ [c])), x ∈ found ++ barred.filter fun b => decide ((codes b).dropLast = (codes w).take 7) := fun x hx => by
    refine Classical.byContradiction fun q => no ⟨x, List.mem_cons_of_mem _ hx, fun h => q (List.mem_append_left _ h), fun h => q (List.mem_append_right _ ?_)⟩
    obtain ⟨c, hc, rfl⟩ := List.mem_map.mp hx
    refine List.mem_filter.mpr ⟨h, decide_eq_true ?_⟩
    rw [codes_txt, List.dropLast_concat]
  have nd : ((codes lettersS).map fun c => txt ((codes w).take 7 ++ [c])).Nodup := nodup_map (fun a b e => by
    have := congrArg codes e
    rw [codes_txt, codes_txt] at this
    exact List.singleton_inj.mp (List.append_cancel_left this)) letters_nd
  have h1 := sub_len nd all
  have h2 := filter_one (y := (codes w).take 7) barred_drops
  rw [List.length_map, letters_len, List.length_append] at h1
  omega
/-- a text of one to eight small letters -/
def LowT (x : Str) : Prop := Low (codes x) ∧ 1 ≤ (codes x).length ∧ (codes x).length ≤ 8
theorem cand_low {w x : Str} (h : LowT w) (hx : x ∈ cands w) : LowT x := by
  rcases List.mem_cons.mp hx with rfl | hx
  · exact h
  · obtain ⟨c, hc, rfl⟩ := List.mem_map.mp hx
    have hc2 := low_letters c hc
    unfold LowT
    rw [codes_txt]
    refine ⟨fun d hd => ?_, ?_, ?_⟩
    · rcases List.mem_append.mp hd with hd | hd
      · exact h.1 d (List.mem_of_mem_take hd)
      · rw [List.mem_singleton.mp hd]; exact hc2
    · rw [List.length_append]; show 1 ≤ _ + 1; omega
    · rw [List.length_append, List.length_take]; show _ + 1 ≤ 8; omega
theorem low_vw {x : Str} (h : LowT x) (nb : x ∉ barred) : VW x := ⟨h.1, fun e => by have := h.2.1; rw [e] at this; simp at this, h.2.2, fun q => nb (mem_resd q)⟩
theorem words_snoc {ws : List Str} {x : Str} (h : Words ws) (hx : LowT x) (n1 : x ∉ ws) (n2 : x ∉ barred) : Words (ws ++ [x]) := by
  refine ⟨fun y hy => ?_, fun y hy => ?_, ?_⟩
  · rcases List.mem_append.mp hy with hy | hy
    · exact h.vw y hy
    · rw [List.mem_singleton.mp hy]; exact low_vw hx n2
  · rcases List.mem_append.mp hy with hy | hy
    · exact h.nb y hy
    · rw [List.mem_singleton.mp hy]; exact n2
  · refine List.nodup_append.mpr ⟨h.nd, by simp, fun a ha b hb e => ?_⟩
    rw [List.mem_singleton.mp hb] at e
    exact n1 (e ▸ ha)
theorem words_nil : Words [] := ⟨fun _ h => by simp at h, fun _ h => by simp at h, by simp⟩
theorem cut_toA (z : Str) (k : Nat) : codes (cutS z none (some (k : Int))) = (codes z).take k := by
  unfold cutS codes
  rw [HT.sIx_nat, HT.sIx_none]
  have e : z.length = z.cps.toList.length := len_codes z
  simp only [List.drop_zero, Nat.sub_zero]
  by_cases h : k ≤ z.length
  · rw [Nat.min_eq_left h]
  · rw [Nat.min_eq_right (by omega), List.take_of_length_le (by omega), List.take_of_length_le (by omega)]
theorem cut_fromA (z : Str) (k : Nat) : codes (cutS z (some (k : Int)) none) = (codes z).drop k := by
  unfold cutS codes
  rw [HT.sIx_nat, HT.sIx_none]
  have e : z.length = z.cps.toList.length := len_codes z
  by_cases h : k ≤ z.length
  · rw [Nat.min_eq_left h, e]
    simp only []
    rw [List.take_of_length_le (by rw [List.length_drop]; omega)]
  · rw [Nat.min_eq_right (by omega)]
    simp only [Nat.sub_self, List.take_zero]
    rw [List.drop_of_length_le (by omega)]
theorem pe_imp {X : Cx} {e : Expr} {t t' : TE} (h : PE X e t) (k : ∀ σ H Q, t' σ H Q → t σ H Q) : PE X e t' := ⟨fun pins s σ H Q I q => h.run pins s σ H Q I (k σ H Q q)⟩
/-- one to eight letters joined -/
def tJn : TE := fun σ H Q => ∃ (p c : Addr) (ns : List Int) (n : Nat) (a1 a3 a4 a5 a6 a7 a8 a9 a10 a11 a12 : Option V), σ = [some (.ref p), a1, some (.str lettersS), a3, a4, a5, a6, a7, a8, a9, a10, a11, a12] ∧ Pen H p c ns n ∧ n + 10 ≤ 100000 ∧ ∀ b H', LowT b → Keep p H H' → Pen H' p c ns (n + 9) → Q (.str b) H'
/-- a fresh list of m words -/
def spWordsB : Sp := fun vs H Q _ => ∃ (p c : Addr) (ns : List Int) (n m : Nat), vs = [.ref p, .int m] ∧ Pen H p c ns n ∧ n + 300 ≤ 100000 ∧ m ≤ 20 ∧
  ∀ (l : Addr) (ws : List Str) (H' : Hp), Words ws → ws.length = m → H' l = some (.lst (ws.map V.str)) → l ≠ p → Keep p H H' → Pen H' p c ns (n + 250) → Q (.ref l) H'
section
variable {P : Program} {w : World} {K : PySem.W.Frag} {mg : Str → Option Value} {base : Heap}
theorem scWordsB : FnScope nWordsB ["_law_pen_here", "_law_many"] (defScope sWords) := ⟨rfl, rfl, rfl, by decide +kernel, rfl, by decide +kernel, by decide +kernel⟩
set_option maxHeartbeats 1000000 in
theorem ok_wordsB {f fD : Addr} {fd fdD : FuncData} (F : Fun K "_law_words" "_law_words" sWords f fd) (T : Bi mg) (D : Df K mg "_law_draw" sDraw fD fdD ["_law_pen_here", "_law_many"]) (GD : FnOk P w K mg base CX0 1 fD fdD ["_law_pen_here", "_law_many"] spDraw) : FnOk P w K mg base CX0 2 f fd ["_law_pen_here", "_law_many"] spWordsB := by
  refine F.ok scWordsB (fun vs H Q E h => ?_) (fun cdv A outer s H vs Q E hr h => ?_)
  · obtain ⟨p, c, ns, n, m, rfl, _⟩ := h
    rfl
  · obtain ⟨p, c, ns, n, m, rfl, P0, hn, hm, k⟩ := h
    have hr1 : Room 1 _ := hr
    refine ⟨_, (pss_cons (ps_set (i := 2) scWordsB.nd rfl (Or.inr rfl) pe_str)
      (pss_cons (ps_set (i := 3) scWordsB.nd rfl (Or.inr rfl) (pe_lst (pa_cons pe_str (pa_cons pe_str (pa_cons pe_str (pa_cons pe_str (pa_cons pe_str (pa_cons pe_str (pa_cons pe_str (pa_cons pe_str (pa_cons pe_str (pa_cons pe_str (pa_cons pe_str pa_nil)))))))))))))
      (pss_cons (ps_set (i := 3) scWordsB.nd rfl (Or.inr rfl) (pe_op op_cat (pv 3) (pe_lst (pa_cons pe_str (pa_cons pe_str (pa_cons pe_str (pa_cons pe_str (pa_cons pe_str (pa_cons pe_str (pa_cons pe_str (pa_cons pe_str (pa_cons pe_str (pa_cons pe_str (pa_cons pe_str pa_nil))))))))))))))
      (pss_cons (ps_set (i := 3) scWordsB.nd rfl (Or.inr rfl) (pe_op op_cat (pv 3) (pe_lst (pa_cons pe_str (pa_cons pe_str pa_nil)))))
      (pss_cons (ps_set (i := 4) scWordsB.nd rfl (Or.inl rfl) (pe_imp (t' := tJn) (pe_join pe_str (pe_lc (own := [("_law_k", 6)]) (g := gName 6) (tt := tYes) rfl scWordsB.nd (pi_range1 rfl T.range (pa_cons (pe_op op_add pe_int (pe_call GD hr1 (by rfl) D.m D.F.kp D.b .nil pass0 (pa_cons (pv 0) (pa_cons pe_int pa_nil)))) pa_nil)) (blkOk_by (N := nWordsB) (sc := defScope sWords) (by decide +kernel)) (fun _ _ _ _ _ => pg_name (i := 6) scWordsB.nd rfl (Or.inl rfl)) (fun _ _ _ _ _ => pts_nil) (fun _ _ _ _ _ => pe_ix ix_str (pv 2) (pe_call GD hr1 (by rfl) D.m D.F.kp D.b .nil pass0 (pa_cons (pv 0) (pa_cons pe_int pa_nil))) (fun _ _ => rfl)))) (fun σ H Q h => ?j0)))
      (pss_cons (ps_set (i := 5) scWordsB.nd rfl (Or.inr rfl) (pe_lst pa_nil))
      (pss_cons (ps_for PassesOwn.never rfl (pi_range1 rfl T.range (pa_cons (pv 1) pa_nil)) (pg_name (i := 6) scWordsB.nd rfl (Or.inl rfl))
      (pss_cons (ps_set (i := 7) scWordsB.nd rfl (Or.inl rfl) (pe_call GD hr1 (by rfl) D.m D.F.kp D.b .nil pass0 (pa_cons (pv 0) (pa_cons (pe_op op_add (pe_callB call_len_str (by rfl) T.len PySem.boot_len (pa_cons (pv 4) pa_nil)) pe_int) pa_nil))))
        (pss_cons (ps_set (i := 8) scWordsB.nd rfl (Or.inr rfl) (pe_op op_add_str (pe_op op_add_str (pe_slice sl_str (pv 4) po_none (po_some (pv 7))) (pe_ix ix_str (pv 2) (pe_call GD hr1 (by rfl) D.m D.F.kp D.b .nil pass0 (pa_cons (pv 0) (pa_cons pe_int pa_nil))) (fun _ _ => rfl))) (pe_slice sl_str (pv 4) (po_some (pe_op op_add (pv 7) pe_int)) po_none)))
        (pss_cons (ps_if (pt_cmpR op_eq (pv 7) (pe_callB call_len_str (by rfl) T.len PySem.boot_len (pa_cons (pv 4) pa_nil)) (nomark _))
        (pss_one (ps_set (i := 8) scWordsB.nd rfl (Or.inr rfl) (pe_slice sl_str (pv 4) po_none (po_some (pe_op op_add pe_int (pe_call GD hr1 (by rfl) D.m D.F.kp D.b .nil pass0 (pa_cons (pv 0) (pa_cons (pe_callB call_len_str (by rfl) T.len PySem.boot_len (pa_cons (pv 4) pa_nil)) pa_nil))))))))
        (pss_one (ps_if (pt_cmpR op_gt (pv 7) (pe_callB call_len_str (by rfl) T.len PySem.boot_len (pa_cons (pv 4) pa_nil)) (nomark _))
          (pss_one (ps_set (i := 8) scWordsB.nd rfl (Or.inr rfl) (pe_imp (t' := tJn) (pe_join pe_str (pe_lc (own := [("_law_j", 9)]) (g := gName 9) (tt := tYes) rfl scWordsB.nd (pi_range1 rfl T.range (pa_cons (pe_op op_add pe_int (pe_call GD hr1 (by rfl) D.m D.F.kp D.b .nil pass0 (pa_cons (pv 0) (pa_cons pe_int pa_nil)))) pa_nil)) (blkOk_by (N := nWordsB) (sc := defScope sWords) (by decide +kernel)) (fun _ _ _ _ _ => pg_name (i := 9) scWordsB.nd rfl (Or.inl rfl)) (fun _ _ _ _ _ => pts_nil) (fun _ _ _ _ _ => pe_ix ix_str (pv 2) (pe_call GD hr1 (by rfl) D.m D.F.kp D.b .nil pass0 (pa_cons (pv 0) (pa_cons pe_int pa_nil))) (fun _ _ => rfl)))) (fun σ H Q h => ?j1))))
          pss_nil)))
        (pss_cons (ps_set (i := 10) scWordsB.nd rfl (Or.inl rfl) (pe_op op_cat (pe_lst (pa_cons (pv 8) pa_nil)) (pe_lc (own := [("_law_letter", 11)]) (g := gName 11) (tt := tYes) rfl scWordsB.nd (pi_str (pv 2)) (blkOk_by (N := nWordsB) (sc := defScope sWords) (by decide +kernel)) (fun _ _ _ _ _ => pg_name (i := 11) scWordsB.nd rfl (Or.inl rfl)) (fun _ _ _ _ _ => pts_nil) (fun _ _ _ _ _ => pe_op op_add_str (pe_slice sl_str (pv 8) po_none (po_some pe_int)) (pv 11)))))
        (pss_one (ps_expr (pe_bm PySem.F.plainAttrs_list PySem.F.slot_list_append PySem.F.type_list_append mt_append (pv 5) (pa_cons (pe_ix ix_list (pe_lc (own := [("_law_one", 12)]) (g := gName 12)  rfl scWordsB.nd (pi_list (pv 10)) (blkOk_by (N := nWordsB) (sc := defScope sWords) (by decide +kernel)) (fun _ _ _ _ _ => pg_name (i := 12) scWordsB.nd rfl (Or.inl rfl)) (fun _ _ _ _ _ => pts_one (PW.pt (pw_and (pt_cmpR (op_notIn_seqK (K' := K) rfl) (pv 12) (pv 5) rfl) (pw_and1 (pt_cmpR (op_notIn_seqK (K' := K) rfl) (pv 12) (pv 3) rfl))))) (fun _ _ _ _ _ => pv 12)) pe_int (fun _ _ => rfl)) pa_nil)))))))))
      (pss_one (ps_ret (pv 5)))))))))), ?_⟩
    case j0 =>
      obtain ⟨p, c, ns, n, a1, a3, a4, a5, a6, a7, a8, a9, a10, a11, a12, rfl, P0, hn, k⟩ := h
      refine ⟨⟨_, rfl⟩, _, rfl, p, c, ns, n, 8, rfl, P0, by omega, by decide, by decide, fun v1 H1 v10 v11 k1 P1 => ?_⟩
      obtain ⟨q1, rfl⟩ : ∃ j : Nat, v1 = (j : Int) := ⟨v1.toNat, (Int.toNat_of_nonneg v10).symm⟩
      refine ⟨_, _, rfl, rfl, ((1 + q1 : Nat) : Int), rfl, by omega, by omega, fun D1 hD1 => ?_⟩
      have hD1H : H D1 = none := k1.fresh P1 hD1
      have hpD := P1.pne hD1
      have hcD := P1.cne hD1
      refine lc_range (lo := 0) (n := 1 + q1) (fun i Hc => ∃ ys : List Nat, Low ys ∧ ys.length = i ∧ Hc D1 = some (.lst ((ys.map fun c => (⟨#[c]⟩ : Str)).map V.str)) ∧ Keep p H Hc ∧ Pen Hc p c ns (n + 1 + i)) ?_ ?_ ?_
      · exact ⟨[], fun _ h => (by cases h), rfl, upd_same, k1.new hD1H, P1.new hD1⟩
      · rintro i Hc hi ⟨ys, hys, hyl, hD, kc, Pc⟩
        refine ⟨rfl, _, rfl, _, rfl, p, c, ns, n + 1 + i, 26, rfl, Pc, by omega, by decide, by decide, fun dv Hd d0 d1 kd Pd => ?_⟩
        obtain ⟨j, rfl⟩ : ∃ j : Nat, dv = (j : Int) := ⟨dv.toNat, (Int.toNat_of_nonneg d0).symm⟩
        have hj : j < 26 := by omega
        refine ⟨_, _, _, rfl, rfl, by decide +kernel, atI_nat (at_letters _ hj), ?_⟩
        refine ⟨_, kd D1 _ hD hpD.symm, ?_, ys ++ [97 + j], ?_, ?_, ?_, ?_, ?_⟩
        · rw [List.length_map, List.length_map, hyl]
          show _ < 16777216
          omega
        · intro d hd
          rcases List.mem_append.mp hd with hd | hd
          · exact hys d hd
          · have : d = 97 + j := by simpa using hd
            omega
        · rw [List.length_append, hyl]
          rfl
        · rw [upd_same, List.map_append, List.map_append]
          rfl
        · exact (kc.trans kd).new hD1H
        · exact Pd.upd' hpD hcD
      · rintro Hj ⟨ys, hys, hyl, hD, kj, Pj⟩
        refine ⟨Str.empty, D1, ys.map fun c => (⟨#[c]⟩ : Str), rfl, rfl, .inl (SqL.of hD), ?_, ?_⟩
        · rw [sum_ones, List.length_map]
          show ys.length + ys.length * 0 ≤ 16777216
          omega
        have hb0 := join_ones ys
        generalize Txt.join Str.empty (ys.map fun c => (⟨#[c]⟩ : Str)) = b0 at hb0
        exact k b0 Hj ⟨by rw [hb0]; exact hys, by rw [hb0]; omega, by rw [hb0]; omega⟩ kj (Pj.mono (by omega))
    case j1 =>
      obtain ⟨p, c, ns, n, a1, a3, a4, a5, a6, a7, a8, a9, a10, a11, a12, rfl, P0, hn, k⟩ := h
      refine ⟨⟨_, rfl⟩, _, rfl, p, c, ns, n, 8, rfl, P0, by omega, by decide, by decide, fun v1 H1 v10 v11 k1 P1 => ?_⟩
      obtain ⟨q1, rfl⟩ : ∃ j : Nat, v1 = (j : Int) := ⟨v1.toNat, (Int.toNat_of_nonneg v10).symm⟩
      refine ⟨_, _, rfl, rfl, ((1 + q1 : Nat) : Int), rfl, by omega, by omega, fun D1 hD1 => ?_⟩
      have hD1H : H D1 = none := k1.fresh P1 hD1
      have hpD := P1.pne hD1
      have hcD := P1.cne hD1
      refine lc_range (lo := 0) (n := 1 + q1) (fun i Hc => ∃ ys : List Nat, Low ys ∧ ys.length = i ∧ Hc D1 = some (.lst ((ys.map fun c => (⟨#[c]⟩ : Str)).map V.str)) ∧ Keep p H Hc ∧ Pen Hc p c ns (n + 1 + i)) ?_ ?_ ?_
      · exact ⟨[], fun _ h => (by cases h), rfl, upd_same, k1.new hD1H, P1.new hD1⟩
      · rintro i Hc hi ⟨ys, hys, hyl, hD, kc, Pc⟩
        refine ⟨rfl, _, rfl, _, rfl, p, c, ns, n + 1 + i, 26, rfl, Pc, by omega, by decide, by decide, fun dv Hd d0 d1 kd Pd => ?_⟩
        obtain ⟨j, rfl⟩ : ∃ j : Nat, dv = (j : Int) := ⟨dv.toNat, (Int.toNat_of_nonneg d0).symm⟩
        have hj : j < 26 := by omega
        refine ⟨_, _, _, rfl, rfl, by decide +kernel, atI_nat (at_letters _ hj), ?_⟩
        refine ⟨_, kd D1 _ hD hpD.symm, ?_, ys ++ [97 + j], ?_, ?_, ?_, ?_, ?_⟩
        · rw [List.length_map, List.length_map, hyl]
          show _ < 16777216
          omega
        · intro d hd
          rcases List.mem_append.mp hd with hd | hd
          · exact hys d hd
          · have : d = 97 + j := by simpa using hd
            omega
        · rw [List.length_append, hyl]
          rfl
        · rw [upd_same, List.map_append, List.map_append]
          rfl
        · exact (kc.trans kd).new hD1H
        · exact Pd.upd' hpD hcD
      · rintro Hj ⟨ys, hys, hyl, hD, kj, Pj⟩
        refine ⟨Str.empty, D1, ys.map fun c => (⟨#[c]⟩ : Str), rfl, rfl, .inl (SqL.of hD), ?_, ?_⟩
        · rw [sum_ones, List.length_map]
          show ys.length + ys.length * 0 ≤ 16777216
          omega
        have hb0 := join_ones ys
        generalize Txt.join Str.empty (ys.map fun c => (⟨#[c]⟩ : Str)) = b0 at hb0
        exact k b0 Hj ⟨by rw [hb0]; exact hys, by rw [hb0]; omega, by rw [hb0]; omega⟩ kj (Pj.mono (by omega))
    -- the words that are barred
    refine ⟨(by show 11 ≤ sizeLine; decide), fun b1 hb1 => ?_⟩
    generalize hx1 : [V.str "pass", .str "raise", .str "from", .str "none", .str "again", .str "return", .str "returns", .str "break", .str "call", .str "handling", .str "else"] = x1 at hb1 ⊢
    have s1 : Same H (upd H b1 (.lst x1)) := (Same.refl H).put hb1
    have e1 : (upd H b1 (.lst x1)) b1 = some (.lst x1) := upd_same
    generalize upd H b1 (.lst x1) = H1 at s1 e1 ⊢
    refine ⟨_, rfl, (by show 11 ≤ sizeLine; decide), fun b2 hb2 => ?_⟩
    generalize hx2 : [V.str "either", .str "or", .str "loop", .str "try", .str "except", .str "as", .str "finally", .str "with", .str "quiet", .str "class", .str "def"] = x2 at hb2 ⊢
    have s2 : Same H1 (upd H1 b2 (.lst x2)) := (Same.refl H1).put hb2
    have e2 : (upd H1 b2 (.lst x2)) b2 = some (.lst x2) := upd_same
    generalize upd H1 b2 (.lst x2) = H2 at s2 e2 ⊢
    refine ⟨b1, b2, _, _, rfl, rfl, s2 _ _ e1, e2, (by rw [← hx1, ← hx2]; show 22 ≤ 16777216; decide), fun b3 hb3 => ?_⟩
    have s3 : Same H2 (upd H2 b3 (.lst (x1 ++ x2))) := (Same.refl H2).put hb3
    have e3 : (upd H2 b3 (.lst (x1 ++ x2))) b3 = some (.lst (x1 ++ x2)) := upd_same
    generalize upd H2 b3 (.lst (x1 ++ x2)) = H3 at s3 e3 ⊢
    refine ⟨_, rfl, (by show 2 ≤ sizeLine; decide), fun b4 hb4 => ?_⟩
    generalize hx3 : [V.str "error", .str "vacant"] = x3 at hb4 ⊢
    have s4 : Same H3 (upd H3 b4 (.lst x3)) := (Same.refl H3).put hb4
    have e4 : (upd H3 b4 (.lst x3)) b4 = some (.lst x3) := upd_same
    generalize upd H3 b4 (.lst x3) = H4 at s4 e4 ⊢
    refine ⟨b3, b4, _, _, rfl, rfl, s4 _ _ e3, e4, (by rw [← hx1, ← hx2, ← hx3]; show 24 ≤ 16777216; decide), fun bl hbl => ?_⟩
    have eb : x1 ++ x2 ++ x3 = barred.map V.str := by rw [← hx1, ← hx2, ← hx3]; rfl
    rw [eb]
    clear hx1 hx2 hx3 eb e1 e2 e3 e4
    have s5 : Same H4 (upd H4 bl (.lst (barred.map V.str))) := (Same.refl H4).put hbl
    have e5 : (upd H4 bl (.lst (barred.map V.str))) bl = some (.lst (barred.map V.str)) := upd_same
    have s05 := (((s1.trans s2).trans s3).trans s4).trans s5
    have nbl : bl ≠ p := ((P0.same (((s1.trans s2).trans s3).trans s4)).pne hbl).symm
    generalize upd H4 bl (.lst (barred.map V.str)) = H5 at s05 e5 ⊢
    have P5 := P0.same s05
    clear s1 s2 s3 s4 s5
    refine ⟨p, c, ns, n, _, _, _, _, _, _, _, _, _, _, _, rfl, P5, by omega, fun b H6 hb k6 P6 => ?_⟩
    have e6 := k6 _ _ e5 nbl
    have lb := len_codes b
    refine ⟨Nat.zero_le _, fun l hl => ?_⟩
    have nl : l ≠ p := (P6.pne hl).symm
    have ncl : c ≠ l := P6.cne hl
    have k06 : Keep p H H6 := s05.keep.trans k6
    have hlH : H l = none := k06.fresh P6 hl
    have nbl2 : bl ≠ l := ne_of_none e6 hl
    refine ⟨_, rfl, _, rfl, by omega, by omega, for_range (lo := 0) (n := m) (fun i σ Hc => ∃ (v6 v7 v8 v9 v10 v11 v12 : Option V) (ws : List Str), σ = [some (.ref p), some (.int m), some (.str lettersS), some (.ref bl), some (.str b), some (.ref l), v6, v7, v8, v9, v10, v11, v12] ∧
      Words ws ∧ ws.length = i ∧ Hc l = some (.lst (ws.map V.str)) ∧ Hc bl = some (.lst (barred.map V.str)) ∧ Keep p H Hc ∧ Pen Hc p c ns (n + 10 + 12 * i)) ?_ ?_ ?_⟩
    · exact ⟨_, _, _, _, _, _, _, [], rfl, words_nil, rfl, upd_same, by rw [upd_ne nbl2]; exact e6, k06.new hlH, (P6.new hl).mono (by omega)⟩
    · rintro i σ Hc hi ⟨v6, v7, v8, v9, v10, v11, v12, ws, rfl, hws, wsl, hL, hB, kc, Pc⟩
      have i20 : i < 20 := by omega
      refine ⟨_, rfl, _, rfl, _, rfl, (by rw [lb]; show _ ≤ 16777216; have := hb.2.2; omega), _, _, rfl, rfl, p, c, ns, _, _, rfl, Pc, by omega, by omega, (by rw [lb]; have := hb.2.2; omega), fun dv H7 d0 d1 k7 P7 => ?_⟩
      obtain ⟨at', rfl⟩ : ∃ j : Nat, dv = (j : Int) := ⟨dv.toNat, (Int.toNat_of_nonneg d0).symm⟩
      have k07 := kc.trans k7
      have bl8 := hb.2.2
      refine ⟨_, rfl, _, rfl, _, rfl, _, rfl, (by rw [lb]; show _ ≤ 16777216; omega), _, rfl, _, rfl, p, c, ns, _, 26, rfl, P7, by omega, by decide, by decide, fun dl H8 l0 l1 k8 P8 => ?_⟩
      obtain ⟨jl, rfl⟩ : ∃ j : Nat, dl = (j : Int) := ⟨dl.toNat, (Int.toNat_of_nonneg l0).symm⟩
      have hjl : jl < 26 := by omega
      have k08 := k07.trans k8
      refine ⟨_, _, _, rfl, rfl, by decide +kernel, atI_nat (at_letters _ hjl), _, _, rfl, rfl, ?len1, _, rfl, _, rfl, _, _, rfl, rfl, _, rfl, _, rfl, (by rw [lb]; show _ ≤ 16777216; omega), _, _, rfl, rfl, ?len2, ?_⟩
      case len1 =>
        rw [len_codes (cutS b none (some (at' : Int))), cut_toA, List.length_take]
        show _ + 1 ≤ 16777216
        omega
      case len2 =>
        rw [len_codes (cutS b none (some (at' : Int)) ++ _), codes_append, cut_toA, show ((at' : Int) + 1) = ((at' + 1 : Nat) : Int) from rfl, len_codes (cutS b _ none), cut_fromA, List.length_append, List.length_take, List.length_drop]
        show _ + 1 + _ ≤ 16777216
        omega
      have hW : codes (cutS b none (some (at' : Int)) ++ (⟨#[97 + jl]⟩ : Str) ++ cutS b (some ((at' : Int) + 1)) none) = (codes b).take at' ++ [97 + jl] ++ (codes b).drop (at' + 1) := by
        rw [codes_append, codes_append, cut_toA, show ((at' : Int) + 1) = ((at' + 1 : Nat) : Int) from rfl, cut_fromA]
        rfl
      generalize cutS b none (some (at' : Int)) ++ (⟨#[97 + jl]⟩ : Str) ++ cutS b (some ((at' : Int) + 1)) none = W at hW ⊢
      refine ⟨_, rfl, _, rfl, _, rfl, (by rw [lb]; show _ ≤ 16777216; omega), rfl, _, rfl, ite2 (fun z => ?ca) (fun z => ?cb)⟩
      case' ca =>
        refine ⟨_, rfl, _, rfl, _, rfl, _, rfl, (by rw [lb]; show _ ≤ 16777216; omega), p, c, ns, _, _, rfl, P8, by omega, (by rw [lb]; have := hb.2.1; omega), (by rw [lb]; omega), fun dk H9 q0 q1 k9 P9 => ?_⟩
        obtain ⟨dn, rfl⟩ : ∃ j : Nat, dk = (j : Int) := ⟨dk.toNat, (Int.toNat_of_nonneg q0).symm⟩
        have k09 := k08.trans k9
        have k79 := (k7.trans k8).trans k9
        have hx : LowT (cutS b none (some (1 + (dn : Int)))) := by
          unfold LowT
          rw [show (1 + (dn : Int)) = ((1 + dn : Nat) : Int) from rfl, cut_toA, List.length_take]
          refine ⟨fun d hd => hb.1 d (List.mem_of_mem_take hd), ?_, by omega⟩
          have := hb.2.1
          omega
        refine ⟨_, _, rfl, rfl, _, rfl, _, rfl, (by rw [lb]; show _ ≤ 16777216; omega), ?_⟩
        generalize cutS b none (some (1 + (dn : Int))) = x at hx ⊢
        replace P9 := P9.mono (m := n + 10 + 12 * i + 11) (by omega)
      case' cb =>
        have ne : at' ≠ (codes b).length := fun e => z (by rw [e, ← lb]; exact decide_eq_true rfl)
        refine ⟨_, rfl, _, rfl, _, rfl, (by rw [lb]; show _ ≤ 16777216; omega), _, _, rfl, rfl, _, rfl, ite2 (fun z2 => ?cc) (fun z2 => ?cd)⟩
      case' cc =>
        refine ⟨p, c, ns, _, _, _, _, _, _, _, _, _, _, _, _, rfl, P8, by omega, fun x H9 hx k9 P9 => ?_⟩
        have k09 := k08.trans k9
        have k79 := (k7.trans k8).trans k9
        replace P9 := P9.mono (m := n + 10 + 12 * i + 11) (by omega)
      case' cd =>
        have lt : at' < (codes b).length := by
          have : ¬ ((at' : Int) > (b.length : Int)) := fun q => z2 (decide_eq_true q)
          rw [lb] at this
          omega
        have hx : LowT W := by
          unfold LowT
          rw [hW]
          refine ⟨fun d hd => ?_, ?_, ?_⟩
          · rcases List.mem_append.mp hd with hd | hd
            · rcases List.mem_append.mp hd with hd | hd
              · exact hb.1 d (List.mem_of_mem_take hd)
              · rw [List.mem_singleton.mp hd]; omega
            · exact hb.1 d (List.mem_of_mem_drop hd)
          · rw [List.length_append, List.length_append]; show 1 ≤ _ + 1 + _; omega
          · rw [List.length_append, List.length_append, List.length_take, List.length_drop]; show _ + 1 + _ ≤ 8; omega
        have k09 := k08
        have k79 := k7.trans k8
        clear hW
        generalize W = x at hx ⊢
        generalize H8 = H9 at P8 k09 k79 ⊢
        have P9 := P8.mono (m := n + 10 + 12 * i + 11) (by omega)
      all_goals
        have hL9 := k79 _ _ hL nl
        have hB9 := k79 _ _ hB nbl
        have lx := len_codes x
        have lx8 := hx.2.2
        refine ⟨_, rfl, (by show 1 ≤ sizeLine; decide), fun l1 hl1 => ?_⟩
        have s1 : Same H9 (upd H9 l1 (.lst [V.str x])) := (Same.refl H9).put hl1
        have e1 : (upd H9 l1 (.lst [V.str x])) l1 = some (.lst [V.str x]) := upd_same
        generalize upd H9 l1 (.lst [V.str x]) = Ha at s1 e1 ⊢
        refine ⟨_, rfl, _, rfl, fun D1 hD1 => ?_⟩
        have eqc : ∀ ch : Nat, V.str (cutS x none (some 7) ++ ⟨#[ch]⟩) = V.str (txt ((codes x).take 7 ++ [ch])) := fun ch => congrArg V.str (codes_inj (by rw [codes_append, show (7 : Int) = ((7 : Nat) : Int) from rfl, cut_toA, codes_txt]; rfl))
        refine lc_it walk_str (fun j Hc => Hc D1 = some (.lst (((codes lettersS).take j).map fun ch => V.str (txt ((codes x).take 7 ++ [ch])))) ∧ Same Ha Hc) ?_ (fun _ _ _ _ => trivial) ?_ ?_
        · exact ⟨upd_same, (Same.refl Ha).put hD1⟩
        · rintro j y Hc _ hj ⟨g1, sm⟩ ⟨rfl, ch, hch, rfl⟩
          have hch' : (codes lettersS)[j]? = some ch := by
            unfold codes
            rw [Array.getElem?_toList]
            exact hch
          have et : (codes lettersS).take (j + 1) = (codes lettersS).take j ++ [ch] := by rw [List.take_add_one, hch']; rfl
          refine ⟨rfl, _, rfl, 7, rfl, _, rfl, (by rw [lx]; show _ ≤ 16777216; omega), _, rfl, _, _, rfl, rfl, ?_, _, g1, ?_, ?_, sm.put hD1⟩
          · rw [len_codes (cutS x none (some 7)), show (7 : Int) = ((7 : Nat) : Int) from rfl, cut_toA, List.length_take]
            show _ + 1 ≤ 16777216
            omega
          · rw [List.length_map, List.length_take, letters_len]
            show _ < 16777216
            omega
          · rw [upd_same, et, List.map_append, eqc]
            rfl
        rintro Hb ⟨g1, s2⟩
        have el : (lettersS).cps.size = (codes lettersS).length := by unfold codes; rw [Array.length_toList]
        rw [el, List.take_length] at g1
        refine ⟨l1, D1, _, _, rfl, rfl, s2 _ _ e1, g1, (by rw [List.length_map, letters_len]; show 1 + 26 ≤ 16777216; decide), fun so hso => ?_⟩
        have ec : [V.str x] ++ ((codes lettersS).map fun ch => V.str (txt ((codes x).take 7 ++ [ch]))) = (cands x).map V.str := by
          unfold cands
          rw [List.map_cons, List.map_map]
          rfl
        rw [ec]
        have s3 : Same Hb (upd Hb so (.lst ((cands x).map V.str))) := (Same.refl Hb).put hso
        have e3 : (upd Hb so (.lst ((cands x).map V.str))) so = some (.lst ((cands x).map V.str)) := upd_same
        generalize upd Hb so (.lst ((cands x).map V.str)) = Hd at s3 e3 ⊢
        have s93 := (s1.trans s2).trans s3
        have hLd := s93 _ _ hL9
        have hBd := s93 _ _ hB9
        have Pd := P9.same s93
        refine ⟨_, rfl, .inl ⟨rfl, _, SqL.of hLd⟩, _, rfl, so, rfl, ⟨_, SqL.of e3⟩, fun D2 hD2 => ?_⟩
        have nD2 : D2 ≠ l := (ne_of_none hLd hD2).symm
        refine lc_list (K := K) (a := so) (xs := (cands x).map V.str) (fun j Hc => Hc D2 = some (.lst ((((cands x).take j).filter fun y => !decide (y ∈ ws) && !decide (y ∈ barred)).map V.str)) ∧ Same Hd Hc) ?_ ?_ ?_ ?_
        · exact ⟨upd_same, (Same.refl Hd).put hD2⟩
        · rintro j Hc _ ⟨_, sd⟩
          exact SqL.of (sd _ _ e3)
        · rintro j y Hc hy ⟨g2, sd⟩
          rw [List.getElem?_map] at hy
          obtain ⟨y0, hy0, rfl⟩ : ∃ y0, (cands x)[j]? = some y0 ∧ y = .str y0 := by
            cases h : (cands x)[j]? with
            | none => rw [h] at hy; cases hy
            | some y0 => rw [h] at hy; exact ⟨y0, rfl, (Option.some.inj hy).symm⟩
          have et : (cands x).take (j + 1) = (cands x).take j ++ [y0] := by rw [List.take_add_one, hy0]; rfl
          have sz : ((((cands x).take j).filter fun y => !decide (y ∈ ws) && !decide (y ∈ barred)).map V.str).length < 16777216 := by
            rw [List.length_map]
            have h1 := List.length_filter_le (fun y => !decide (y ∈ ws) && !decide (y ∈ barred)) ((cands x).take j)
            have h2 : ((cands x).take j).length ≤ 27 := by
              rw [List.length_take]
              have : (cands x).length = 27 := by unfold cands; rw [List.length_cons, List.length_map, letters_len]
              omega
            omega
          refine ⟨rfl, _, rfl, _, rfl, l, _, rfl, .inl (SqL.of (sd _ _ hLd)), rfl, flat_strs _, _, rfl, ?_⟩
          rw [if_pos rfl, inV_strs]
          by_cases h1 : y0 ∈ ws
          · rw [decide_eq_true h1]
            refine iteF ⟨?_, sd⟩
            rw [et, List.filter_append, List.filter_cons_of_neg (by simp [h1]), List.filter_nil, List.append_nil]
            exact g2
          · rw [decide_eq_false h1]
            refine iteT ⟨_, rfl, _, rfl, bl, _, rfl, .inl (SqL.of (sd _ _ hBd)), rfl, flat_strs _, _, rfl, ?_⟩
            rw [if_pos rfl, inV_strs]
            by_cases h2 : y0 ∈ barred
            · rw [decide_eq_true h2]
              refine iteF ⟨?_, sd⟩
              rw [et, List.filter_append, List.filter_cons_of_neg (by simp [h2]), List.filter_nil, List.append_nil]
              exact g2
            · rw [decide_eq_false h2]
              refine iteT ⟨_, rfl, _, g2, sz, ?_, sd.put hD2⟩
              rw [upd_same, et, List.filter_append, List.filter_cons_of_pos (by simp [h1, h2]), List.filter_nil, List.map_append]
              rfl
        rintro He ⟨g2, sd⟩
        rw [List.length_map, List.take_length] at g2
        obtain ⟨y, hy, f1, f2⟩ := cand_free x (found := ws) (by omega)
        obtain ⟨y0, r0, er⟩ : ∃ y0 r0, (cands x).filter (fun y => !decide (y ∈ ws) && !decide (y ∈ barred)) = y0 :: r0 := by
          cases h : (cands x).filter (fun y => !decide (y ∈ ws) && !decide (y ∈ barred)) with
          | nil =>
            rw [List.filter_eq_nil_iff] at h
            exact absurd (by simp [f1, f2]) (h y hy)
          | cons y0 r0 => exact ⟨y0, r0, rfl⟩
        have hm0 : y0 ∈ (cands x).filter (fun y => !decide (y ∈ ws) && !decide (y ∈ barred)) := by rw [er]; exact List.mem_cons_self
        obtain ⟨hc0, hq0⟩ := List.mem_filter.mp hm0
        have hq0 : y0 ∉ ws ∧ y0 ∉ barred := by simpa using hq0
        rw [er] at g2
        refine ⟨D2, _, _, _, rfl, rfl, SqL.of g2, atI_nat (j := 0) rfl, l, _, _, rfl, rfl, sd _ _ hLd, (by rw [List.length_map, wsl]; show _ < 16777216; omega), ?_⟩
        refine ⟨_, _, _, _, _, _, _, ws ++ [y0], rfl, words_snoc hws (cand_low hx hc0) hq0.1 hq0.2, by rw [List.length_append, wsl]; rfl, by rw [upd_same, List.map_append]; rfl, ?_, fun b' o' hb' nb' => ?_, ((Pd.same sd).upd' nl.symm ncl).mono (by omega)⟩
        · rw [upd_ne nbl2]
          exact sd _ _ hBd
        · rw [upd_ne (ne_of_none hb' hlH)]
          exact (k09.trans (s93.trans sd).keep) b' o' hb' nb'
    · rintro σ Hc ⟨v6, v7, v8, v9, v10, v11, v12, ws, rfl, hws, wsl, hL, hB, kc, Pc⟩
      exact ⟨_, rfl, k l ws Hc hws wsl hL nl kc (Pc.mono (by omega))⟩
end
end K2
end
section
set_option Elab.async false
set_option maxRecDepth 100000
set_option linter.all false
/-! rows of records: what they are, how they are shown -/
namespace K2
open PySem L2
inductive Cho where
  | num (n : Nat) : Cho
  | int (n : Nat) : Cho
  | str (s : Str) : Cho
structure Rw where
  f : Str
  g : List Str
  h : Option Str
  cs : List Cho
def oS : Option Str → V
  | none => .non
  | some s => .str s
abbrev SameT (H H' : Hp) : Prop := ∀ a zs, H a = some (.tup zs) → H' a = some (.tup zs)
theorem _root_.L2.Same.T {H H' : Hp} (s : Same H H') : SameT H H' := fun a zs h => s _ _ h
theorem KeepT {p c : Addr} {ns : List Int} {n : Nat} {H H' : Hp} (P : Pen H p c ns n) (k : Keep p H H') : SameT H H' := fun a zs h => k a _ h fun e => by
  obtain ⟨x, y, g, _⟩ := P.pen
  rw [e, g] at h
  cases h
theorem SameT.trans {H H1 H2 : Hp} (a : SameT H H1) (b : SameT H1 H2) : SameT H H2 := fun x zs h => b _ _ (a _ _ h)
def ChoAt (H : Hp) (v : V) : Cho → Prop
  | .num n => ∃ a, v = .ref a ∧ H a = some (.tup [.int (n : Nat)])
  | .int n => v = .int (n : Nat)
  | .str s => v = .str s
theorem ChoAt.sameT {H H' : Hp} {v : V} {c : Cho} (h : ChoAt H v c) (s : SameT H H') : ChoAt H' v c := by
  cases c with
  | num n => obtain ⟨a, e, h⟩ := h; exact ⟨a, e, s _ _ h⟩
  | int n => exact h
  | str x => exact h
/-- pointwise, two lists of one length -/
def All2 {α β : Type} (R : α → β → Prop) (xs : List α) (ys : List β) : Prop := xs.length = ys.length ∧ ∀ (i : Nat) (x : α) (y : β), xs[i]? = some x → ys[i]? = some y → R x y
section
variable {α β : Type} {R R' : α → β → Prop}
theorem All2.imp {xs : List α} {ys : List β} (h : All2 R xs ys) (k : ∀ x y, R x y → R' x y) : All2 R' xs ys := ⟨h.1, fun i x y a b => k _ _ (h.2 i x y a b)⟩
theorem All2.nil : All2 R [] [] := ⟨rfl, fun i x y a => by simp at a⟩
theorem All2.app {xs xs' : List α} {ys ys' : List β} (h : All2 R xs ys) (h' : All2 R xs' ys') : All2 R (xs ++ xs') (ys ++ ys') := by
  refine ⟨by rw [List.length_append, List.length_append, h.1, h'.1], fun i x y a b => ?_⟩
  by_cases hi : i < xs.length
  · rw [List.getElem?_append_left hi] at a
    rw [List.getElem?_append_left (by rw [← h.1]; exact hi)] at b
    exact h.2 i x y a b
  · rw [List.getElem?_append_right (by omega)] at a
    rw [List.getElem?_append_right (by have := h.1; omega), ← h.1] at b
    exact h'.2 _ x y a b
theorem All2.one {x : α} {y : β} (h : R x y) : All2 R [x] [y] := ⟨rfl, fun i u v a b => by
  match i, a, b with
  | 0, a, b => cases a; cases b; exact h
  | i + 1, a, _ => simp at a⟩
theorem All2.cut {xs : List α} {ys : List β} (h : All2 R xs ys) (j k : Nat) : All2 R ((xs.drop j).take k) ((ys.drop j).take k) := by
  refine ⟨by rw [List.length_take, List.length_take, List.length_drop, List.length_drop, h.1], fun i t r a b => ?_⟩
  rw [List.getElem?_take] at a b
  split at a
  · rw [List.getElem?_drop] at a
    rw [if_pos (by assumption), List.getElem?_drop] at b
    exact h.2 _ t r a b
  · cases a
theorem All2.take {xs : List α} {ys : List β} (h : All2 R xs ys) (k : Nat) : All2 R (xs.take k) (ys.take k) := h.cut 0 k
theorem All2.drop {xs : List α} {ys : List β} (h : All2 R xs ys) (k : Nat) : All2 R (xs.drop k) (ys.drop k) := by
  have := h.cut k xs.length
  rwa [List.take_of_length_le (by rw [List.length_drop]; omega), List.take_of_length_le (by rw [List.length_drop, ← h.1]; omega)] at this
theorem All2.get {xs : List α} {ys : List β} (h : All2 R xs ys) {i : Nat} {x : α} (a : xs[i]? = some x) : ∃ y, ys[i]? = some y ∧ R x y := by
  have il : i < ys.length := by rw [← h.1]; exact (List.getElem?_eq_some_iff.mp a).1
  exact ⟨ys[i], List.getElem?_eq_getElem il, h.2 i x _ a (List.getElem?_eq_getElem il)⟩
theorem All2.get' {xs : List α} {ys : List β} (h : All2 R xs ys) {i : Nat} {y : β} (b : ys[i]? = some y) : ∃ x, xs[i]? = some x ∧ R x y := by
  have il : i < xs.length := by rw [h.1]; exact (List.getElem?_eq_some_iff.mp b).1
  exact ⟨xs[i], List.getElem?_eq_getElem il, h.2 i _ y (List.getElem?_eq_getElem il) b⟩
end
def RwAt (H : Hp) (v : V) (r : Rw) : Prop := ∃ a ca ga ka vs, v = .ref a ∧ H a = some (.tup [.ref ca, .ref ka]) ∧ H ca = some (.tup [.str r.f, .ref ga, oS r.h]) ∧ H ga = some (.tup (r.g.map V.str)) ∧ H ka = some (.tup vs) ∧ All2 (ChoAt H) vs r.cs
theorem RwAt.sameT {H H' : Hp} {v : V} {r : Rw} (h : RwAt H v r) (s : SameT H H') : RwAt H' v r := by
  obtain ⟨a, ca, ga, ka, vs, e, h1, h2, h3, h4, h5⟩ := h
  exact ⟨a, ca, ga, ka, vs, e, s _ _ h1, s _ _ h2, s _ _ h3, s _ _ h4, h5.imp fun _ _ q => q.sameT s⟩
abbrev RwsAt (H : Hp) (vs : List V) (rs : List Rw) : Prop := All2 (RwAt H) vs rs
theorem RwsAt.sameT {H H' : Hp} {vs : List V} {rs : List Rw} (h : RwsAt H vs rs) (s : SameT H H') : RwsAt H' vs rs := h.imp fun _ _ q => q.sameT s
/-- a row that is put further down -/
def shC (f m : Nat) : Cho → Cho
  | .num n => if f ≤ n then .num (n + m) else .num n
  | c => c
def shR (f m : Nat) (r : Rw) : Rw := { r with cs := r.cs.map (shC f m) }
def grownM (rs : List Rw) (i o : Nat) : List Rw := rs.take (o + 1) ++ ((rs.drop (i + 1)).take (o - i)).map (shR i (o - i)) ++ (rs.drop (o + 1)).map (shR o (o - i))
/-! how they are shown -/
def choD : Cho → PyData
  | .num n => .tuple [.int (n : Nat)]
  | .int n => .int (n : Nat)
  | .str s => .str s
def oD : Option Str → PyData
  | none => .none
  | some s => .str s
def caD (r : Rw) : PyData := .tuple [.str r.f, tD r.g, oD r.h]
def rwD (r : Rw) : PyData := .tuple [caD r, .tuple (r.cs.map choD)]
def rwsD (rs : List Rw) : PyData := .tuple (rs.map rwD)
/-- what fits -/
def ChoFit : Cho → Prop
  | .num n => n ≤ 200
  | .int n => n ≤ 200
  | .str s => sOk s = true ∧ s.length ≤ 8
structure RwFit (r : Rw) : Prop where
  f : sOk r.f = true ∧ r.f.length ≤ 8
  g : ∀ y ∈ r.g, sOk y = true ∧ y.length ≤ 8
  gl : r.g.length ≤ 10
  h : ∀ s, r.h = some s → sOk s = true ∧ s.length ≤ 8
  c : ∀ x ∈ r.cs, ChoFit x
  cl : r.cs.length ≤ 20
theorem oD_dp {K : PySem.W.Frag} {H : Hp} : ∀ o, Dp K H (oS o) (oD o)
  | none => .non
  | some s => .str s
theorem cho_dp {K : PySem.W.Frag} {H : Hp} {v : V} {c : Cho} (h : ChoAt H v c) : Dp K H v (choD c) := by
  cases c with
  | num n => obtain ⟨a, rfl, h⟩ := h; exact .tup (SqT.of h) (.cons (.int _) .nil)
  | int n => cases h; exact .int _
  | str s => cases h; exact .str _
theorem all_dp {K : PySem.W.Frag} {H : Hp} {α : Type} {R : V → α → Prop} {D : α → PyData} (hR : ∀ v c, R v c → Dp K H v (D c)) : ∀ (vs : List V) (cs : List α), All2 R vs cs → DpAll K H vs (cs.map D)
  | [], [], _ => .nil
  | v :: vs, c :: cs, h => .cons (hR _ _ (h.2 0 v c rfl rfl)) (all_dp hR vs cs ⟨by simpa using h.1, fun i x y a b => h.2 (i + 1) x y a b⟩)
  | [], _ :: _, h => by simp [All2] at h
  | _ :: _, [], h => by simp [All2] at h
theorem rw_dp {K : PySem.W.Frag} {H : Hp} {v : V} {r : Rw} (h : RwAt H v r) : Dp K H v (rwD r) := by
  obtain ⟨a, ca, ga, ka, vs, rfl, h1, h2, h3, h4, h5⟩ := h
  exact .tup (SqT.of h1) (.cons (.tup (SqT.of h2) (.cons (.str _) (.cons (.tup (SqT.of h3) (strs_dp _ _ _)) (.cons (oD_dp _) .nil)))) (.cons (.tup (SqT.of h4) (all_dp (fun _ _ q => cho_dp q) _ _ h5)) .nil))
theorem rws_dp {K : PySem.W.Frag} {H : Hp} {a : Addr} {vs : List V} {rs : List Rw} (h : SqT K H a vs) (R : RwsAt H vs rs) : Dp K H (.ref a) (rwsD rs) := .tup h (all_dp (fun _ _ q => rw_dp q) _ _ R)
/-! what repr and == ask of them -/
structure DFit (d : PyData) (dep wt : Nat) : Prop where
  show_ : d.showable = true
  nod : d.hasDict = false
  dep : d.depth ≤ dep
  wt : d.weight ≤ wt
  short : PyData.intsShort 13 d = true
  lay : d.canLay0 = true
structure DsFit (ds : List PyData) (dep wt : Nat) : Prop where
  show_ : PyData.showableAll ds = true
  nod : PyData.hasDictAll ds = false
  dep : PyData.depthAll ds ≤ dep
  wt : PyData.weightAll ds ≤ wt
  short : PyData.intsShortAll 13 ds = true
  lay : PyData.canLayAll0 ds = true
theorem DsFit.nil : DsFit [] 0 0 := ⟨rfl, rfl, Nat.le_refl _, Nat.le_refl _, rfl, rfl⟩
theorem DsFit.cons {d : PyData} {ds : List PyData} {e w w' : Nat} (h : DFit d e w) (k : DsFit ds e w') : DsFit (d :: ds) e (w + 1 + w') := by
  refine ⟨?_, ?_, ?_, ?_, ?_, ?_⟩
  · show (d.showable && PyData.showableAll ds) = true; rw [h.show_, k.show_]; rfl
  · show (d.hasDict || PyData.hasDictAll ds) = false; rw [h.nod, k.nod]; rfl
  · show max d.depth (PyData.depthAll ds) ≤ e; exact Nat.max_le.mpr ⟨h.dep, k.dep⟩
  · show d.weight + 1 + PyData.weightAll ds ≤ w + 1 + w'; have := h.wt; have := k.wt; omega
  · show (PyData.intsShort 13 d && PyData.intsShortAll 13 ds) = true; rw [h.short, k.short]; rfl
  · show (d.canLay0 && PyData.canLayAll0 ds) = true; rw [h.lay, k.lay]; rfl
theorem DsFit.mono {ds : List PyData} {e e' w w' : Nat} (h : DsFit ds e w) (he : e ≤ e') (hw : w ≤ w') : DsFit ds e' w' := ⟨h.show_, h.nod, Nat.le_trans h.dep he, Nat.le_trans h.wt hw, h.short, h.lay⟩
theorem DsFit.all {α : Type} {D : α → PyData} {e w : Nat} : ∀ {cs : List α}, (∀ c ∈ cs, DFit (D c) e w) → DsFit (cs.map D) e ((w + 1) * cs.length)
  | [], _ => DsFit.nil.mono (Nat.zero_le _) (Nat.zero_le _)
  | c :: cs, h => (DsFit.cons (h c List.mem_cons_self) (DsFit.all fun x hx => h x (List.mem_cons_of_mem _ hx))).mono (Nat.le_refl _) (by rw [List.length_cons, Nat.mul_add]; omega)
theorem DsFit.tup {ds : List PyData} {e w : Nat} (h : DsFit ds e w) : DFit (.tuple ds) (e + 1) w := by
  refine ⟨h.show_, h.nod, ?_, h.wt, h.short, h.lay⟩
  show PyData.depthAll ds + 1 ≤ e + 1
  have := h.dep
  omega
theorem DsFit.lst {ds : List PyData} {e w : Nat} (h : DsFit ds e w) : DFit (.list ds) (e + 1) w := by
  refine ⟨h.show_, h.nod, ?_, h.wt, h.short, h.lay⟩
  show PyData.depthAll ds + 1 ≤ e + 1
  have := h.dep
  omega
theorem str_fit {x : Str} (h : sOk x = true ∧ x.length ≤ 8) : DFit (.str x) 0 8 := ⟨rfl, rfl, Nat.le_refl _, h.2, rfl, h.1⟩
theorem non_fit : DFit .none 0 8 := ⟨rfl, rfl, Nat.le_refl _, Nat.zero_le _, rfl, rfl⟩
theorem int_all : ∀ n : Fin 201, PyData.intsShort 13 (.int (n.val : Nat)) = true ∧ PyData.weight (.int (n.val : Nat)) ≤ 8 ∧ PyData.showable (.int (n.val : Nat)) = true := by decide +kernel
theorem int_fit {n : Nat} (h : n ≤ 200) : DFit (.int (n : Nat)) 0 8 := ⟨(int_all ⟨n, by omega⟩).2.2, rfl, Nat.le_refl _, (int_all ⟨n, by omega⟩).2.1, (int_all ⟨n, by omega⟩).1, rfl⟩
theorem DFit.fits {d : PyData} {w : Nat} (h : DFit d 8 w) (hw : w ≤ 2 ^ 20) : d.shown.length ≤ sizeLine := by
  refine PyData.shown_fits_of_layable0 (B := 13) (by decide) (by decide) ?_ h.short
  show (d.canLay0 && decide (d.depth ≤ 64) && decide (d.weight ≤ 2 ^ 20)) = true
  rw [h.lay]
  have := h.dep
  have := h.wt
  simp only [Bool.true_and, Bool.and_eq_true, decide_eq_true_eq]
  omega
theorem DFit.mono {d : PyData} {e e' w w' : Nat} (h : DFit d e w) (he : e ≤ e') (hw : w ≤ w') : DFit d e' w' := ⟨h.show_, h.nod, Nat.le_trans h.dep he, Nat.le_trans h.wt hw, h.short, h.lay⟩
theorem cho_fit {c : Cho} (h : ChoFit c) : DFit (choD c) 1 9 := by
  cases c with
  | num n => exact ((DsFit.cons (int_fit h) (DsFit.nil.mono (Nat.zero_le _) (Nat.le_refl _))).tup).mono (Nat.le_refl _) (by decide)
  | int n => exact (int_fit h).mono (by decide) (by decide)
  | str s => exact (str_fit h).mono (by decide) (by decide)
theorem oD_fit {o : Option Str} (h : ∀ s, o = some s → sOk s = true ∧ s.length ≤ 8) : DFit (oD o) 0 8 := by
  cases o with
  | none => exact non_fit
  | some s => exact str_fit (h s rfl)
theorem rw_fit {r : Rw} (h : RwFit r) : DFit (rwD r) 3 1000 := by
  have g : DFit (tD r.g) 1 90 := ((DsFit.all (e := 0) (w := 8) fun y hy => str_fit (h.g y hy)).tup).mono (by decide) (by have := h.gl; omega)
  have ca : DFit (caD r) 2 200 := (((DsFit.cons ((str_fit h.f).mono (e' := 1) (by decide) (Nat.le_refl _)) (DsFit.cons g (DsFit.cons ((oD_fit h.h).mono (e' := 1) (by decide) (Nat.le_refl _)) (DsFit.nil.mono (Nat.zero_le _) (Nat.le_refl _))))).tup)).mono (Nat.le_refl _) (by decide)
  have cs : DFit (.tuple (r.cs.map choD)) 2 300 := ((DsFit.all (e := 1) (w := 9) fun c hc => cho_fit (h.c c hc)).tup).mono (by decide) (by have := h.cl; omega)
  exact ((DsFit.cons ca (DsFit.cons cs (DsFit.nil.mono (Nat.zero_le _) (Nat.le_refl _)))).tup).mono (Nat.le_refl _) (by decide)
theorem rws_fit {rs : List Rw} (h : ∀ r ∈ rs, RwFit r) (l : rs.length ≤ 100) : DFit (rwsD rs) 8 200000 := ((DsFit.all (e := 3) (w := 1000) fun r hr => rw_fit (h r hr)).tup).mono (by decide) (by omega)
theorem DFit.shaped {d : PyData} {ds : List PyData} {w : Nat} (e : d = .tuple ds) (h : DFit d 8 w) : SeqAt.shaped d = true := by
  subst e
  show (PyData.canLayAll0 ds && decide (PyData.depthAll ds + 1 ≤ 64)) = true
  have h1 : PyData.canLayAll0 ds = true := h.lay
  have h2 : PyData.depthAll ds + 1 ≤ 8 := h.dep
  rw [h1]
  simp only [Bool.true_and, decide_eq_true_eq]
  omega
end K2
end
section
set_option Elab.async false
set_option maxRecDepth 100000
set_option linter.all false
/-! a record's rows looked at, and put further down -/
namespace K2
open PySem L2
abbrev sNU : Stmt := top 4
abbrev sRO : Stmt := top 7
abbrev sCA : Stmt := top 8
abbrev sCO : Stmt := top 9
abbrev sSH : Stmt := top 12
abbrev sSC : Stmt := top 13
abbrev nCO : List Str := ["x"]
abbrev nCA : List Str := ["x", "function", "given", "handled", "thing"]
abbrev nRO : List Str := ["x", "case", "choices", "choice"]
abbrev nSH : List Str := ["row", "first", "more", "case", "choices", "choice"]
theorem call_isiK' {X : Cx} {K' : PySem.W.Frag} (hK : X.K = K') : CallR X (.builtin "isinstance") (rIsi K') := by
  subst hK
  exact call_isi
theorem cr_allK {X : Cx} {K' : PySem.W.Frag} {r : PySem.W.Frag → List V → Hp → VK → Prop} {id : String} (hK : X.K = K') (h : CallR X (.builtin id) (r X.K)) : CallR X (.builtin id) (r K') := by
  subst hK
  exact h
def spNU : Sp := fun vs H Q _ => ∃ n : Nat, vs = [.int (n : Nat)] ∧ Q (.bl true) H
def spCO : Sp := fun vs H Q _ => ∃ (v : V) (c : Cho), vs = [v] ∧ ChoAt H v c ∧ Q (.bl true) H
def CaAt (H : Hp) (v : V) (r : Rw) : Prop := ∃ ca ga, v = .ref ca ∧ H ca = some (.tup [.str r.f, .ref ga, oS r.h]) ∧ H ga = some (.tup (r.g.map V.str))
def spCA : Sp := fun vs H Q _ => ∃ (v : V) (r : Rw), vs = [v] ∧ CaAt H v r ∧ r.g.length ≤ 1000 ∧ ∀ H', Same H H' → Q (.bl true) H'
def spRO : Sp := fun vs H Q _ => ∃ (v : V) (r : Rw), vs = [v] ∧ RwAt H v r ∧ r.g.length ≤ 1000 ∧ r.cs.length ≤ 1000 ∧ ∀ H', Same H H' → Q (.bl true) H'
def spSC : Sp := fun vs H Q _ => ∃ (v : V) (c : Cho) (f m : Nat), vs = [v, .int (f : Nat), .int (m : Nat)] ∧ ChoAt H v c ∧ ∀ v' H', Same H H' → ChoAt H' v' (shC f m c) → Q v' H'
def spSH : Sp := fun vs H Q _ => ∃ (v : V) (r : Rw) (f m : Nat), vs = [v, .int (f : Nat), .int (m : Nat)] ∧ RwAt H v r ∧ r.cs.length ≤ 1000 ∧ ∀ v' H', Same H H' → RwAt H' v' (shR f m r) → Q v' H'
section
variable {P : Program} {w : World} {K : PySem.W.Frag} {mg : Str → Option Value} {base : Heap}
theorem scNU : FnScope ["x"] ["x"] (defScope sNU) := ⟨rfl, rfl, rfl, by decide +kernel, rfl, by decide +kernel, by decide +kernel⟩
theorem scCO : FnScope nCO ["x"] (defScope sCO) := ⟨rfl, rfl, rfl, by decide +kernel, rfl, by decide +kernel, by decide +kernel⟩
theorem scCA : FnScope nCA ["x"] (defScope sCA) := ⟨rfl, rfl, rfl, by decide +kernel, rfl, by decide +kernel, by decide +kernel⟩
theorem scRO : FnScope nRO ["x"] (defScope sRO) := ⟨rfl, rfl, rfl, by decide +kernel, rfl, by decide +kernel, by decide +kernel⟩
theorem scSH : FnScope nSH ["row", "first", "more"] (defScope sSH) := ⟨rfl, rfl, rfl, by decide +kernel, rfl, by decide +kernel, by decide +kernel⟩
theorem scSC : FnScope ["choice", "first", "more"] ["choice", "first", "more"] (defScope sSC) := ⟨rfl, rfl, rfl, by decide +kernel, rfl, by decide +kernel, by decide +kernel⟩
theorem ok_nu {f : Addr} {fd : FuncData} (F : Fun K "is_number" "is_number" sNU f fd) (T : Bi mg) (tBool : mg "bool" = none) : FnOk P w K mg base CX0 1 f fd ["x"] spNU := by
  refine F.ok scNU (fun vs H Q E h => ?_) (fun cdv A outer s H vs Q E hr h => ?_)
  · obtain ⟨n, rfl, _⟩ := h
    rfl
  · obtain ⟨n, rfl, k⟩ := h
    refine ⟨_, (pss_one (ps_ret (pe_and (pe_callB call_isi (by rfl) T.isinstance (by decide +kernel) (pa_cons (pv 0) (pa_cons (pe_bltn (v := .ty "int") (by rfl) T.int (by decide +kernel) rfl) pa_nil))) (pe_and (pe_not (pe_callB call_isi (by rfl) T.isinstance (by decide +kernel) (pa_cons (pv 0) (pa_cons (pe_bltn (v := .ty "bool") (by rfl) tBool (by decide +kernel) rfl) pa_nil)))) (pe_one (pe_cmpR op_ge (pv 0) pe_int (nomark _))))))), ?_⟩
    refine ⟨_, rfl, _, _, _, _, true, rfl, .ty _, .base (.int _), kit_ty (by decide +kernel), _, rfl, iteT ?_⟩
    refine ⟨_, rfl, _, _, _, _, false, rfl, .ty _, .base (.int _), kit_ty (by decide +kernel), _, rfl, _, rfl, iteT ?_⟩
    refine ⟨_, rfl, _, _, rfl, rfl, ?_⟩
    show Q (.bl (decide ((0 : Int) ≤ ((n : Nat) : Int)))) H
    rw [decide_eq_true (by omega)]
    exact k
theorem ok_co {f fN : Addr} {fd fdN : FuncData} (F : Fun K "_is_choice" "_is_choice" sCO f fd) (T : Bi mg) (NU : Df K mg "is_number" sNU fN fdN ["x"]) (GNu : FnOk P w K mg base CX0 1 fN fdN ["x"] spNU) : FnOk P w K mg base CX0 2 f fd ["x"] spCO := by
  refine F.ok scCO (fun vs H Q E h => ?_) (fun cdv A outer s H vs Q E hr h => ?_)
  · obtain ⟨v, c, rfl, _⟩ := h
    rfl
  · obtain ⟨v, c, rfl, hc, k⟩ := h
    have hr1 : Room 1 _ := hr
    refine ⟨_, (pss_cons (ps_if (pt_val (pe_callB call_isi (by rfl) T.isinstance (by decide +kernel) (pa_cons (pv 0) (pa_cons (pe_bltn (v := .ty "tuple") (by rfl) T.tuple (by decide +kernel) rfl) pa_nil))))
      (pss_one (ps_ret (pe_and (pe_cmpR op_eq (pe_callB call_len_seq (by rfl) T.len PySem.boot_len (pa_cons (pv 0) pa_nil)) pe_int (nomark _)) (pe_one (pe_call GNu hr1 (by rfl) NU.m NU.F.kp NU.b .nil pass0 (pa_cons (pe_ix ix_tup (pv 0) pe_int (fun _ _ => rfl)) pa_nil))))))
      pss_nil)
      (pss_one (ps_ret (pe_or (pe_callB call_isi (by rfl) T.isinstance (by decide +kernel) (pa_cons (pv 0) (pa_cons (pe_bltn (v := .ty "str") (by rfl) T.str (by decide +kernel) rfl) pa_nil))) (pe_one (pe_call GNu hr1 (by rfl) NU.m NU.F.kp NU.b .nil pass0 (pa_cons (pv 0) pa_nil))))))), ?_⟩
    cases c with
    | num n =>
      obtain ⟨a, rfl, h⟩ := hc
      refine ⟨_, rfl, _, _, _, _, true, rfl, .ty _, .base (.tup h), kit_ty (by decide +kernel), _, rfl, iteT ?_⟩
      refine ⟨_, rfl, a, _, rfl, .inr (SqT.of h), rfl, _, rfl, iteT ?_⟩
      exact ⟨_, rfl, a, _, _, _, rfl, rfl, SqT.of h, atI_nat (j := 0) rfl, n, rfl, k⟩
    | int n =>
      cases hc
      refine ⟨_, rfl, _, _, _, _, false, rfl, .ty _, .base (.int _), kit_ty (by decide +kernel), _, rfl, iteF ?_⟩
      exact ⟨_, rfl, _, _, _, _, false, rfl, .ty _, .base (.int _), kit_ty (by decide +kernel), _, rfl, iteF ⟨_, rfl, n, rfl, k⟩⟩
    | str s =>
      cases hc
      refine ⟨_, rfl, _, _, _, _, false, rfl, .ty _, .base (.str _), kit_ty (by decide +kernel), _, rfl, iteF ?_⟩
      exact ⟨_, rfl, _, _, _, _, true, rfl, .ty _, .base (.str _), kit_ty (by decide +kernel), _, rfl, iteT k⟩
theorem all_rep (n : Nat) : (List.replicate n true).all id = true := by rw [List.all_replicate]; simp
theorem ok_ca {f : Addr} {fd : FuncData} (F : Fun K "_is_case" "_is_case" sCA f fd) (T : Bi mg) : FnOk P w K mg base CX0 1 f fd ["x"] spCA := by
  refine F.ok scCA (fun vs H Q E h => ?_) (fun cdv A outer s H vs Q E hr h => ?_)
  · obtain ⟨v, r, rfl, _⟩ := h
    rfl
  · obtain ⟨v, r, rfl, ⟨ca, ga, rfl, h1, h2⟩, gl, k⟩ := h
    refine ⟨_, (pss_cons (ps_if (PW.pt (pw_or (pt_not (pt_val (pe_callB call_isi (by rfl) T.isinstance (by decide +kernel) (pa_cons (pv 0) (pa_cons (pe_bltn (v := .ty "tuple") (by rfl) T.tuple (by decide +kernel) rfl) pa_nil))))) (pw_or1 (pt_cmpR op_ne (pe_callB call_len_seq (by rfl) T.len PySem.boot_len (pa_cons (pv 0) pa_nil)) pe_int (nomark _)))))
      (pss_one (ps_ret pe_bl))
      pss_nil)
      (pss_cons (ps_asg (pv 0) (pg_tup rfl (pgs_cons (pg_name (i := 1) scCA.nd rfl (Or.inl rfl)) (pgs_cons (pg_name (i := 2) scCA.nd rfl (Or.inl rfl)) (pgs_cons (pg_name (i := 3) scCA.nd rfl (Or.inl rfl)) pgs_nil)))))
      (pss_cons (ps_if (PW.pt (pw_or (pt_not (pt_val (pe_callB call_isi (by rfl) T.isinstance (by decide +kernel) (pa_cons (pv 1) (pa_cons (pe_bltn (v := .ty "str") (by rfl) T.str (by decide +kernel) rfl) pa_nil))))) (pw_or1 (pt_not (PW.pt (pw_or (pt_cmpR op_isN (pv 3) pe_non (nomark _)) (pw_or1 (pt_val (pe_callB call_isi (by rfl) T.isinstance (by decide +kernel) (pa_cons (pv 3) (pa_cons (pe_bltn (v := .ty "str") (by rfl) T.str (by decide +kernel) rfl) pa_nil)))))))))))
      (pss_one (ps_ret pe_bl))
      pss_nil)
      (pss_one (ps_ret (pe_and (pe_callB call_isi (by rfl) T.isinstance (by decide +kernel) (pa_cons (pv 2) (pa_cons (pe_bltn (v := .ty "tuple") (by rfl) T.tuple (by decide +kernel) rfl) pa_nil))) (pe_one (pe_callB (cr_all rfl) (by rfl) T.all (by decide +kernel) (pa_cons (pe_lc (own := [("thing", 4)]) (g := gName 4) (tt := tYes) rfl scCA.nd (pi_tup (pv 2)) (blkOk_by (N := nCA) (sc := defScope sCA) (by decide +kernel)) (fun _ _ _ _ _ => pg_name (i := 4) scCA.nd rfl (Or.inl rfl)) (fun _ _ _ _ _ => pts_nil) (fun _ _ _ _ _ => pe_callB (call_isiK' (K' := K) rfl) (by rfl) T.isinstance (by decide +kernel) (pa_cons (pv 4) (pa_cons (pe_bltn (v := .ty "str") (by rfl) T.str (by decide +kernel) rfl) pa_nil)))) pa_nil))))))))), ?_⟩
    refine ⟨_, rfl, _, _, _, _, true, rfl, .ty _, .base (.tup h1), kit_ty (by decide +kernel), _, rfl, ?_⟩
    refine ⟨_, rfl, ca, _, rfl, .inr (SqT.of h1), rfl, _, rfl, ite2 (fun z => absurd z (by simp)) fun _ => ?_⟩
    refine ⟨_, rfl, ca, _, rfl, SqT.of h1, rfl, _, _, rfl, _, _, rfl, _, _, rfl, rfl, ?_⟩
    refine ⟨_, rfl, _, _, _, _, true, rfl, .ty _, .base (.str _), kit_ty (by decide +kernel), _, rfl, ?_⟩
    obtain ⟨f0, g0, h0, cs0⟩ := r
    have tys : (oS h0 = .non) ∨ ∃ x, oS h0 = .str x := by
      cases h0 with
      | none => exact .inl rfl
      | some x => exact .inr ⟨x, rfl⟩
    generalize hv : oS h0 = hv' at tys ⊢
    rcases tys with rfl | ⟨x, rfl⟩
    case' inl => refine ⟨_, rfl, rfl, _, rfl, ite2 (fun _ => ?_) fun z => absurd (decide_eq_true rfl) z⟩
    case' inr => refine ⟨_, rfl, rfl, _, rfl, ite2 (fun z => absurd (of_decide_eq_true z) (by nofun)) fun _ => ⟨_, rfl, _, _, _, _, true, rfl, .ty _, .base (.str _), kit_ty (by decide +kernel), _, rfl, ?_⟩⟩
    all_goals
      refine ⟨_, rfl, _, _, _, _, true, rfl, .ty _, .base (.tup h2), kit_ty (by decide +kernel), _, rfl, iteT ?_⟩
      refine ⟨_, rfl, ga, rfl, ⟨_, SqT.of h2⟩, fun D hD => ?_⟩
      refine lc_tup (K := K) (a := ga) (xs := g0.map V.str) (fun i Hc => Hc D = some (.lst ((List.replicate i true).map V.bl)) ∧ Same H Hc) ?_ ?_ ?_ ?_
      · exact ⟨upd_same, (Same.refl H).put hD⟩
      · rintro i Hc _ ⟨_, sm⟩
        exact SqT.of (sm _ _ h2)
      · rintro i y Hc hy ⟨g1, sm⟩
        rw [List.getElem?_map] at hy
        obtain ⟨y0, hy0, rfl⟩ : ∃ y0, g0[i]? = some y0 ∧ y = .str y0 := by
          cases h : g0[i]? with
          | none => rw [h] at hy; cases hy
          | some y0 => rw [h] at hy; exact ⟨y0, rfl, (Option.some.inj hy).symm⟩
        have il := (List.getElem?_eq_some_iff.mp hy0).1
        have gl' : g0.length ≤ 1000 := gl
        refine ⟨rfl, _, rfl, _, _, _, _, true, rfl, .ty _, .base (.str _), kit_ty (by decide +kernel), ?_⟩
        refine ⟨_, g1, ?_, ?_, sm.put hD⟩
        · rw [List.length_map, List.length_replicate]; show _ < 16777216; omega
        · rw [upd_same, List.replicate_succ', List.map_append]
          rfl
      · rintro Hc ⟨g1, sm⟩
        refine ⟨D, _, rfl, SqL.of g1, ?_⟩
        rw [all_rep]
        exact k Hc sm
theorem ok_ro {f fA fO : Addr} {fd fdA fdO : FuncData} (F : Fun K "_is_row" "_is_row" sRO f fd) (T : Bi mg) (CA : Df K mg "_is_case" sCA fA fdA ["x"]) (GCa : FnOk P w K mg base CX0 1 fA fdA ["x"] spCA) (CO : Df K mg "_is_choice" sCO fO fdO ["x"]) (GCo : FnOk P w K mg base CX0 2 fO fdO ["x"] spCO) : FnOk P w K mg base CX0 3 f fd ["x"] spRO := by
  refine F.ok scRO (fun vs H Q E h => ?_) (fun cdv A outer s H vs Q E hr h => ?_)
  · obtain ⟨v, r, rfl, _⟩ := h
    rfl
  · obtain ⟨v, r, rfl, ⟨a, ca, ga, ka, vs, rfl, h1, h2, h3, h4, h5⟩, gl, cl, k0⟩ := h
    have hr1 : Room 1 _ := hr.mono (by decide)
    have hr2 : Room 2 _ := hr
    refine ⟨_, (pss_cons (ps_if (PW.pt (pw_or (pt_not (pt_val (pe_callB call_isi (by rfl) T.isinstance (by decide +kernel) (pa_cons (pv 0) (pa_cons (pe_bltn (v := .ty "tuple") (by rfl) T.tuple (by decide +kernel) rfl) pa_nil))))) (pw_or1 (pt_cmpR op_ne (pe_callB call_len_seq (by rfl) T.len PySem.boot_len (pa_cons (pv 0) pa_nil)) pe_int (nomark _)))))
      (pss_one (ps_ret pe_bl))
      pss_nil)
      (pss_cons (ps_asg (pv 0) (pg_tup rfl (pgs_cons (pg_name (i := 1) scRO.nd rfl (Or.inl rfl)) (pgs_cons (pg_name (i := 2) scRO.nd rfl (Or.inl rfl)) pgs_nil))))
      (pss_one (ps_ret (pe_and (pe_call GCa hr1 (by rfl) CA.m CA.F.kp CA.b .nil pass0 (pa_cons (pv 1) pa_nil)) (pe_and (pe_callB call_isi (by rfl) T.isinstance (by decide +kernel) (pa_cons (pv 2) (pa_cons (pe_bltn (v := .ty "tuple") (by rfl) T.tuple (by decide +kernel) rfl) pa_nil))) (pe_one (pe_callB (cr_all rfl) (by rfl) T.all (by decide +kernel) (pa_cons (pe_lc (own := [("choice", 3)]) (g := gName 3) (tt := tYes) rfl scRO.nd (pi_tup (pv 2)) (blkOk_by (N := nRO) (sc := defScope sRO) (by decide +kernel)) (fun _ _ _ _ _ => pg_name (i := 3) scRO.nd rfl (Or.inl rfl)) (fun _ _ _ _ _ => pts_nil) (fun _ _ _ _ _ => pe_call GCo hr2 (by rfl) CO.m CO.F.kp CO.b .nil pass0 (pa_cons (pv 3) pa_nil))) pa_nil))))))))), ?_⟩
    refine ⟨_, rfl, _, _, _, _, true, rfl, .ty _, .base (.tup h1), kit_ty (by decide +kernel), _, rfl, ?_⟩
    refine ⟨_, rfl, a, _, rfl, .inr (SqT.of h1), rfl, _, rfl, ite2 (fun z => absurd z (by simp)) fun _ => ?_⟩
    refine ⟨_, rfl, a, _, rfl, SqT.of h1, rfl, _, _, rfl, _, _, rfl, rfl, ?_⟩
    refine ⟨_, rfl, _, r, rfl, ⟨ca, ga, rfl, h2, h3⟩, gl, fun H1 s1 => ⟨_, rfl, iteT ?_⟩⟩
    have h4' := s1 _ _ h4
    refine ⟨_, rfl, _, _, _, _, true, rfl, .ty _, .base (.tup h4'), kit_ty (by decide +kernel), _, rfl, iteT ?_⟩
    have k : ∀ H', Same H1 H' → Q (.bl true) H' := fun H' s => k0 H' (s1.trans s)
    have ll : vs.length ≤ 1000 := by rw [h5.1]; exact cl
    refine ⟨_, rfl, ka, rfl, ⟨_, SqT.of h4'⟩, fun D hD => ?_⟩
    refine lc_tup (K := K) (a := ka) (xs := vs) (fun i Hc => Hc D = some (.lst ((List.replicate i true).map V.bl)) ∧ Same H1 Hc) ?_ ?_ ?_ ?_
    · exact ⟨upd_same, (Same.refl H1).put hD⟩
    · rintro i Hc _ ⟨_, sm⟩
      exact SqT.of (sm _ _ h4')
    · rintro i y Hc hy ⟨g1, sm⟩
      obtain ⟨c, hc, R⟩ := h5.get hy
      have il := (List.getElem?_eq_some_iff.mp hy).1
      refine ⟨rfl, _, rfl, y, c, rfl, R.sameT (s1.trans sm).T, ?_⟩
      refine ⟨_, g1, ?_, ?_, sm.put hD⟩
      · rw [List.length_map, List.length_replicate]; show _ < 16777216; omega
      · rw [upd_same, List.replicate_succ', List.map_append]
        rfl
    · rintro Hc ⟨g1, sm⟩
      refine ⟨D, _, rfl, SqL.of g1, ?_⟩
      rw [all_rep]
      exact k Hc sm
end
end K2
end
section
set_option Elab.async false
set_option maxRecDepth 100000
set_option linter.all false
/-! rows put further down -/
namespace K2
open PySem L2
section
variable {P : Program} {w : World} {K : PySem.W.Frag} {mg : Str → Option Value} {base : Heap}
theorem ok_sc {f : Addr} {fd : FuncData} (F : Fun K "_shifted_choice" "_shifted_choice" sSC f fd) (T : Bi mg) : FnOk P w K mg base CX0 1 f fd ["choice", "first", "more"] spSC := by
  refine F.ok scSC (fun vs H Q E h => ?_) (fun cdv A outer s H vs Q E hr h => ?_)
  · obtain ⟨v, c, f, m, rfl, _⟩ := h
    rfl
  · obtain ⟨v, c, f, m, rfl, hc, k⟩ := h
    refine ⟨_, (pss_one (ps_ret (pe_ifExp (PW.pt (pw_and (pt_val (pe_callB call_isi (by rfl) T.isinstance (by decide +kernel) (pa_cons (pv 0) (pa_cons (pe_bltn (v := .ty "tuple") (by rfl) T.tuple (by decide +kernel) rfl) pa_nil)))) (pw_and1 (pt_cmpR op_ge (pe_ix ix_tup (pv 0) pe_int (fun _ _ => rfl)) (pv 1) (nomark _))))) (pe_tup (pa_cons (pe_op op_add (pe_ix ix_tup (pv 0) pe_int (fun _ _ => rfl)) (pv 2)) pa_nil)) (pv 0)))), ?_⟩
    cases c with
    | num n =>
      obtain ⟨a, rfl, h⟩ := hc
      refine ⟨_, rfl, _, _, _, _, true, rfl, .ty _, .base (.tup h), kit_ty (by decide +kernel), _, rfl, iteT ?_⟩
      refine ⟨_, rfl, a, _, _, _, rfl, rfl, SqT.of h, atI_nat (j := 0) rfl, _, rfl, _, _, rfl, rfl, _, rfl, ite2 (fun z => ?_) (fun z => ?_)⟩
      · have z : f ≤ n := by have := of_decide_eq_true z; omega
        refine ⟨_, rfl, a, _, _, _, rfl, rfl, SqT.of h, atI_nat (j := 0) rfl, _, rfl, _, _, rfl, rfl, (by show 1 ≤ sizeLine; decide), fun t ht => ?_⟩
        refine k _ _ ((Same.refl H).put ht) ?_
        show ChoAt _ _ (if f ≤ n then Cho.num (n + m) else Cho.num n)
        rw [if_pos z]
        exact ⟨t, rfl, upd_same⟩
      · have z : ¬ f ≤ n := fun q => z (decide_eq_true (by omega))
        refine ⟨_, rfl, k _ H (Same.refl H) ?_⟩
        show ChoAt _ _ (if f ≤ n then Cho.num (n + m) else Cho.num n)
        rw [if_neg z]
        exact ⟨a, rfl, h⟩
    | int n =>
      cases hc
      exact ⟨_, rfl, _, _, _, _, false, rfl, .ty _, .base (.int _), kit_ty (by decide +kernel), _, rfl, iteF ⟨_, rfl, k _ H (Same.refl H) rfl⟩⟩
    | str s =>
      cases hc
      exact ⟨_, rfl, _, _, _, _, false, rfl, .ty _, .base (.str _), kit_ty (by decide +kernel), _, rfl, iteF ⟨_, rfl, k _ H (Same.refl H) rfl⟩⟩
theorem ok_sh {f fS : Addr} {fd fdS : FuncData} (F : Fun K "_shifted" "_shifted" sSH f fd) (T : Bi mg) (SC : Df K mg "_shifted_choice" sSC fS fdS ["choice", "first", "more"]) (GSc : FnOk P w K mg base CX0 1 fS fdS ["choice", "first", "more"] spSC) : FnOk P w K mg base CX0 2 f fd ["row", "first", "more"] spSH := by
  refine F.ok scSH (fun vs H Q E h => ?_) (fun cdv A outer s H vs Q E hr h => ?_)
  · obtain ⟨v, r, f, m, rfl, _⟩ := h
    rfl
  · obtain ⟨v, r, f, m, rfl, ⟨a, ca, ga, ka, vs, rfl, h1, h2, h3, h4, h5⟩, cl, k⟩ := h
    have hr1 : Room 1 _ := hr
    refine ⟨_, (pss_cons (ps_asg (pv 0) (pg_tup rfl (pgs_cons (pg_name (i := 3) scSH.nd rfl (Or.inl rfl)) (pgs_cons (pg_name (i := 4) scSH.nd rfl (Or.inl rfl)) pgs_nil))))
      (pss_one (ps_ret (pe_tup (pa_cons (pv 3) (pa_cons (pe_callTy call_tuple_of (by rfl) T.tuple (by decide +kernel) (pa_cons (pe_lc (own := [("choice", 5)]) (g := gName 5) (tt := tYes) rfl scSH.nd (pi_tup (pv 4)) (blkOk_by (N := nSH) (sc := defScope sSH) (by decide +kernel)) (fun _ _ _ _ _ => pg_name (i := 5) scSH.nd rfl (Or.inl rfl)) (fun _ _ _ _ _ => pts_nil) (fun _ _ _ _ _ => pe_call GSc hr1 (by rfl) SC.m SC.F.kp SC.b .nil pass0 (pa_cons (pv 5) (pa_cons (pv 1) (pa_cons (pv 2) pa_nil))))) pa_nil)) pa_nil)))))), ?_⟩
    refine ⟨_, rfl, a, _, rfl, SqT.of h1, rfl, _, _, rfl, _, _, rfl, rfl, ?_⟩
    have ll : vs.length ≤ 1000 := by rw [h5.1]; exact cl
    refine ⟨_, rfl, _, rfl, ka, rfl, ⟨_, SqT.of h4⟩, fun D hD => ?_⟩
    refine lc_tup (K := K) (a := ka) (xs := vs) (fun i Hc => ∃ us : List V, Hc D = some (.lst us) ∧ us.length = i ∧ All2 (ChoAt Hc) us ((r.cs.take i).map (shC f m)) ∧ Same H Hc) ?_ ?_ ?_ ?_
    · exact ⟨[], upd_same, rfl, by rw [List.take_zero]; exact All2.nil, (Same.refl H).put hD⟩
    · rintro i Hc _ ⟨_, _, _, _, sm⟩
      exact SqT.of (sm _ _ h4)
    · rintro i y Hc hy ⟨us, g1, g2, g3, sm⟩
      obtain ⟨c, hc, R⟩ := h5.get hy
      have il := (List.getElem?_eq_some_iff.mp hy).1
      refine ⟨rfl, _, rfl, _, rfl, _, rfl, y, c, f, m, rfl, R.sameT sm.T, fun v' H2 s2 hv => ?_⟩
      refine ⟨_, s2 _ _ g1, by show _ < 16777216; omega, us ++ [v'], upd_same, by rw [List.length_append, g2]; rfl, ?_, (sm.trans s2).put hD⟩
      have sT : SameT H2 (upd H2 D (.lst (us ++ [v']))) := fun b zs q => by rw [upd_ne (fun e => by rw [e, s2 _ _ g1] at q; cases q)]; exact q
      have et : (r.cs.take (i + 1)).map (shC f m) = (r.cs.take i).map (shC f m) ++ [shC f m c] := by rw [List.take_add_one, hc, List.map_append]; rfl
      rw [et]
      exact ((g3.imp fun _ _ q => (q.sameT s2.T).sameT sT)).app (All2.one (hv.sameT sT))
    · rintro Hc ⟨us, g1, g2, g3, sm⟩
      rw [h5.1, List.take_length] at g3
      refine ⟨D, us, rfl, .inl ⟨SqL.of g1, fun ka' hka => ⟨(by show 2 ≤ sizeLine; decide), fun a' ha => ?_⟩⟩⟩
      have s1 : Same Hc (upd Hc ka' (.tup us)) := (Same.refl Hc).put hka
      have e1 : (upd Hc ka' (.tup us)) ka' = some (.tup us) := upd_same
      generalize upd Hc ka' (.tup us) = H1 at s1 e1 ha ⊢
      have s2 : Same H1 (upd H1 a' (.tup [.ref ca, .ref ka'])) := (Same.refl H1).put ha
      have s02 := sm.trans (s1.trans s2)
      exact k _ _ s02 ⟨a', ca, ga, ka', us, rfl, upd_same, s02 _ _ h2, s02 _ _ h3, s2 _ _ e1, g3.imp fun _ _ q => q.sameT (s1.trans s2).T⟩
end
end K2
end
section
set_option Elab.async false
set_option maxRecDepth 100000
set_option linter.all false
/-! a record -/
namespace K2
open PySem L2 PySem.Spec PyProof.Rows
abbrev sIn : Stmt := inClass (top 6) 0
abbrev sMd : Stmt := inClass (top 6) 1
abbrev sLn : Stmt := inClass (top 6) 2
abbrev sQe : Stmt := inClass (top 6) 5
abbrev sGn : Stmt := top 11
abbrev nIn : List Str := ["self", "rows", "k", "row"]
abbrev nGn : List Str := ["record", "inner", "outer", "rows", "more", "copies", "behind", "row"]
structure TxR (K : PySem.W.Frag) (mg : Str → Option Value) (C : Addr) : Prop where
  cl : Cls K C
  nR : NoAttr K C "rows"
  mgC : mg "Record" = some (.ref C)
structure OwnR (K : PySem.W.Frag) (C : Addr) : Prop where
  ha : PySem.W.findIn K (.ref C) "__class__" = some (some (.builtin "object.__class__"))
  hn : PySem.W.specialIn K (.builtin "object.__class__") "__get__" = some (some (.builtin "getset_descriptor.__get__"))
  htk : PySem.W.takesIn K (.builtin "object.__class__") = some true
  hm : PySem.W.mroIn K C (.type "object") = some true
theorem kit_own {K : PySem.W.Frag} (C : Addr) : PySem.W.kitOne K (.ref C) (.ref C) = some true := by
  unfold PySem.W.kitOne
  rw [if_pos (by simp)]
def fldR (r : Addr) : List (Str × V) := putF "rows" (.ref r) []
theorem fldR_rows (r : Addr) : (fldR r).lookup ("rows" : Str) = some (.ref r) := by
  unfold fldR
  rw [lookup_putF, if_pos rfl]
theorem fldR_no (r : Addr) {m : Str} (h : ¬ m = "rows") : (fldR r).lookup m = none := by
  unfold fldR
  rw [lookup_putF, if_neg h]
  rfl
/-- a record that holds rows -/
def RecAt (C : Addr) (H : Hp) (p : Addr) (rs : List Rw) : Prop := ∃ dx r vs, H p = some (.ins C dx (fldR r)) ∧ H r = some (.tup vs) ∧ RwsAt H vs rs
theorem RecAt.same {C : Addr} {H H' : Hp} {p : Addr} {rs : List Rw} (h : RecAt C H p rs) (s : Same H H') : RecAt C H' p rs := by
  obtain ⟨dx, r, vs, h1, h2, h3⟩ := h
  exact ⟨dx, r, vs, s _ _ h1, s _ _ h2, h3.sameT s.T⟩
theorem RecAt.keep {C p c : Addr} {ns : List Int} {n : Nat} {H H' : Hp} {a : Addr} {rs : List Rw} (P : Pen H p c ns n) (h : RecAt C H a rs) (k : Keep p H H') : RecAt C H' a rs := by
  obtain ⟨dx, r, vs, h1, h2, h3⟩ := h
  obtain ⟨x, y, g, _⟩ := P.pen
  exact ⟨dx, r, vs, k _ _ h1 (fun e => by rw [e, g] at h1; cases h1), KeepT P k _ _ h2, h3.sameT (KeepT P k)⟩
theorem RecAt.ty {K : PySem.W.Frag} {C p : Addr} {H : Hp} {rs : List Rw} (h : RecAt C H p rs) (c : Cls K C) (o : OwnR K C) : TyX K H (.ref p) (.ref C) := by
  obtain ⟨dx, r, vs, h1, _⟩ := h
  exact .base (.ins h1 c o.ha o.hn o.htk o.hm)
def RowsOk (rs : List Rw) : Prop := ∀ r ∈ rs, r.g.length ≤ 1000 ∧ r.cs.length ≤ 1000
theorem rowsOk_fit {rs : List Rw} (h : ∀ r ∈ rs, RwFit r) : RowsOk rs := fun r hr => ⟨by have := (h r hr).gl; omega, by have := (h r hr).cl; omega⟩
def spIn (C : Addr) : Sp := fun vs H Q _ => ∃ (p dx rt : Addr) (ws : List V) (rs : List Rw), vs = [.ref p, .ref rt] ∧ H p = some (.ins C dx []) ∧ H rt = some (.tup ws) ∧ RwsAt H ws rs ∧ rs ≠ [] ∧ RowsOk rs ∧
  ∀ (H' : Hp), RecAt C H' p rs → (∀ b o, H b = some o → b ≠ p → H' b = some o) → Q .non H'
def spMd (C : Addr) : Sp := fun vs H Q _ => ∃ (l : Addr) (ws : List V) (rs : List Rw), vs = [.ref C, .ref l] ∧ H l = some (.lst ws) ∧ RwsAt H ws rs ∧ rs ≠ [] ∧ rs.length ≤ 1000 ∧ RowsOk rs ∧
  ∀ (r : Addr) (H' : Hp), RecAt C H' r rs → Same H H' → Q (.ref r) H'
def spLn (C : Addr) : Sp := fun vs H Q _ => ∃ (p : Addr) (rs : List Rw), vs = [.ref p] ∧ RecAt C H p rs ∧ Q (.int (rs.length : Nat)) H
def spQe (C : Addr) : Sp := fun vs H Q _ => ∃ (p q : Addr) (rs : List Rw), vs = [.ref p, .ref q] ∧ RecAt C H p rs ∧ RecAt C H q rs ∧ (∀ r ∈ rs, RwFit r) ∧ rs.length ≤ 100 ∧ Q (.bl true) H
theorem in_bind (kV doc pm : Value) (an : Option Addr) (cdv ct : Value) : ∀ us rest : List Value, us.length = ["self"].length → bindArgs (PySem.W.fnOf "__init__" "Record.__init__" (defArgs sIn) (defBody sIn) (defScope sIn) .none kV doc pm an cdv ct) ⟨us ++ rest, []⟩ = (newTuple rest >>= fun t => pure (([("self" : Str)]).zip us ++ [(("rows" : Str), t)])) :=
  StX.bind_star1 (B := fun l => bindArgs (PySem.W.fnOf "__init__" "Record.__init__" (defArgs sIn) (defBody sIn) (defScope sIn) .none kV doc pm an cdv ct) ⟨l, []⟩) (fun a => rfl) (fun a r rs => rfl)
/-! data beside itself -/
def DEq (d : PyData) : Prop := PyData.eqv d d = true
theorem deq_all : ∀ {ds : List PyData}, (∀ d ∈ ds, DEq d) → PyData.eqvAll ds ds = true
  | [], _ => rfl
  | d :: ds, h => by
    show (PyData.eqv d d && PyData.eqvAll ds ds) = true
    rw [h d List.mem_cons_self, deq_all fun x hx => h x (List.mem_cons_of_mem _ hx)]
    rfl
theorem deq_tup {ds : List PyData} (h : ∀ d ∈ ds, DEq d) : DEq (.tuple ds) := deq_all h
theorem deq_str (s : Str) : DEq (.str s) := by
  show (s == s) = true
  simp
theorem deq_int (n : Int) : DEq (.int n) := by
  show (n == n) = true
  simp
theorem deq_cho (c : Cho) : DEq (choD c) := by
  cases c with
  | num n => exact deq_tup fun d hd => by rw [List.mem_singleton.mp hd]; exact deq_int _
  | int n => exact deq_int _
  | str s => exact deq_str s
theorem deq_rw (r : Rw) : DEq (rwD r) := by
  refine deq_tup fun d hd => ?_
  rcases List.mem_cons.mp hd with rfl | hd
  · refine deq_tup fun d hd => ?_
    rcases List.mem_cons.mp hd with rfl | hd
    · exact deq_str _
    rcases List.mem_cons.mp hd with rfl | hd
    · refine deq_tup fun d hd => ?_
      obtain ⟨x, _, rfl⟩ := List.mem_map.mp hd
      exact deq_str _
    rw [List.mem_singleton.mp hd]
    cases r.h with
    | none => exact rfl
    | some s => exact deq_str s
  · rw [List.mem_singleton.mp hd]
    refine deq_tup fun d hd => ?_
    obtain ⟨x, _, rfl⟩ := List.mem_map.mp hd
    exact deq_cho x
theorem deq_rws (rs : List Rw) : DEq (rwsD rs) := deq_tup fun d hd => by
  obtain ⟨x, _, rfl⟩ := List.mem_map.mp hd
  exact deq_rw x
section
variable {P : Program} {w : World} {K : PySem.W.Frag} {mg : Str → Option Value} {base : Heap}
theorem scIn : FnScope nIn ["self", "rows"] (defScope sIn) := ⟨rfl, rfl, rfl, by decide +kernel, rfl, by decide +kernel, by decide +kernel⟩
theorem scMd : FnScope ["cls", "rows"] ["cls", "rows"] (defScope sMd) := ⟨rfl, rfl, rfl, by decide +kernel, rfl, by decide +kernel, by decide +kernel⟩
theorem scLn : FnScope ["self"] ["self"] (defScope sLn) := ⟨rfl, rfl, rfl, by decide +kernel, rfl, by decide +kernel, by decide +kernel⟩
theorem scQe : FnScope ["self", "other"] ["self", "other"] (defScope sQe) := ⟨rfl, rfl, rfl, by decide +kernel, rfl, by decide +kernel, by decide +kernel⟩
theorem ok_in {f C fO : Addr} {fd fdO : FuncData} (F : Fun K "__init__" "Record.__init__" sIn f fd) (Y : TxR K mg C) (T : Bi mg) (RO : Df K mg "_is_row" sRO fO fdO ["x"]) (GRo : FnOk P w K mg base CX0 3 fO fdO ["x"] spRO) :
    FnR P w K mg base CX0 4 f (fun vs H Q E => ∃ ws rest, vs = ws ++ rest ∧ ws.length = 1 ∧ rest.length ≤ sizeLine ∧ ∀ p, H p = none → spIn C (ws ++ [V.ref p]) (upd H p (.tup rest)) Q E) := by
  obtain ⟨oc, od, kV, doc, pm, an, cdv, ct, osl, rfl, lk, hcd⟩ := F.ex
  refine StX.fn_star (ps := ["self"]) (pv := "rows") lk hcd scIn StX.cxUp_none (in_bind kV doc pm an cdv ct) fun A outer s H vs Q E hr h => ?_
  obtain ⟨p, dx, rt, ws, rs, rfl, hp, ht, R, ne, ok, k⟩ := h
  have hr3 : Room 3 _ := hr
  suffices hs : ∃ t, PSs (cxOf CX0 P w K mg base nIn "Record.__init__" (defScope sIn) f cdv A outer s H E).nox (defBody sIn) t ∧ t { nx := fun _ H' => Q .non H', rt := Q } (start nIn [V.ref p, V.ref rt]) H by
    obtain ⟨t, h1, h2⟩ := hs
    exact ⟨t, h1.nox, h2⟩
  refine ⟨_, (pss_cons (ps_if (pt_cmpR op_eq (pe_callB call_len_seq (by rfl) T.len PySem.boot_len (pa_cons (pv 1) pa_nil)) pe_int (nomark _))
      (pss_one (ps_never))
      pss_nil)
      (pss_cons (ps_for PassesOwn.never rfl (pi_enumT (by rfl) T.enumerate (pa_cons (pv 1) pa_nil)) (pg_tup rfl (pgs_cons (pg_name (i := 2) scIn.nd rfl (Or.inl rfl)) (pgs_cons (pg_name (i := 3) scIn.nd rfl (Or.inl rfl)) pgs_nil)))
      (pss_one (ps_if (pt_not (pt_val (pe_call GRo hr3 (by rfl) RO.m RO.F.kp RO.b .nil pass0 (pa_cons (pv 3) pa_nil))))
        (pss_one (ps_never))
        pss_nil)))
      (pss_one (ps_fld (pv 0) (pv 1) rfl)))), ?_⟩
  have l1 : 1 ≤ ws.length := by rw [R.1]; exact List.length_pos_iff.mpr ne
  refine ⟨_, rfl, rt, _, rfl, .inr (SqT.of ht), rfl, _, rfl, ite2 (fun z => absurd (V.int.inj (of_decide_eq_true z)) (by omega)) fun _ => ?_⟩
  refine ⟨_, rfl, rt, _, rfl, ht, for_it (walk_enumT rt ws) (fun i σ Hc => ∃ (v3 v4 : Option V), σ = [some (.ref p), some (.ref rt), v3, v4] ∧ Same H Hc) ?_ ?_ ?_ ?_⟩
  · exact ⟨_, _, rfl, Same.refl H⟩
  · rintro i σ Hc _ ⟨v3, v4, rfl, sm⟩
    exact sm rt _ ht
  · rintro i y σ Hc Hy hi ⟨v3, v4, rfl, sm⟩ ⟨T9, x, rfl, hT9, rfl, hx⟩
    obtain ⟨r, hrr, RA⟩ := R.get hx
    have s9 : Same Hc (upd Hc T9 (.tup [V.int (i : Nat), x])) := (Same.refl Hc).put hT9
    have := ok r (List.mem_of_getElem? hrr)
    refine ⟨T9, _, rfl, SqT.of upd_same, rfl, _, _, rfl, _, _, rfl, rfl, ?_⟩
    refine ⟨_, rfl, x, r, rfl, RA.sameT (sm.trans s9).T, this.1, this.2, fun H2 s2 => ⟨_, rfl, ?_⟩⟩
    exact ⟨_, _, rfl, sm.trans (s9.trans s2)⟩
  · rintro σ Hc ⟨v3, v4, rfl, sm⟩
    refine ⟨_, rfl, _, rfl, p, C, dx, _, rfl, sm p _ hp, Y.cl, Y.nR, (by show 0 < 1000; decide), ?_⟩
    have hpc := sm p _ hp
    have sT : SameT Hc (upd Hc p (.ins C dx (fldR rt))) := fun a zs q => by rw [upd_ne (ne_of q hpc (by intro z; cases z))]; exact q
    exact k _ ⟨dx, rt, ws, upd_same, sT _ _ (sm _ _ ht), (R.sameT sm.T).sameT sT⟩ fun b o e n => by rw [upd_ne n]; exact sm b o e
theorem ok_md {f fI C : Addr} {fd : FuncData} (F : Fun K "made" "Record.made" sMd f fd) (M : Mk K C fI)
    (GI : FnR P w K mg base CX0 4 fI (fun vs H Q E => ∃ ws rest, vs = ws ++ rest ∧ ws.length = 1 ∧ rest.length ≤ sizeLine ∧ ∀ p, H p = none → spIn C (ws ++ [V.ref p]) (upd H p (.tup rest)) Q E)) : FnOk P w K mg base CX0 6 f fd ["cls", "rows"] (spMd C) := by
  refine F.ok scMd (fun vs H Q E h => ?_) (fun cdv A outer s H vs Q E hr h => ?_)
  · obtain ⟨l, ws, rs, rfl, _⟩ := h
    rfl
  · obtain ⟨l, ws, rs, rfl, hl, R, ne0, l1, ok, k⟩ := h
    refine ⟨_, pss_one (ps_ret (pe_makeL (i := 0) M GI hr rfl (Or.inl rfl) pass0 (pv 1))), ?_⟩
    refine ⟨rfl, _, rfl, l, _, rfl, .inr (SqL.of hl), fun x dx nx ndx ne => ⟨[V.ref x], _, rfl, rfl, ?_, fun pt hpt => ?_⟩⟩
    · rw [R.1]; show _ ≤ 16777216; omega
    have s1 : Same H (upd (upd H dx (.own x)) x (.ins C dx [])) := ((Same.refl H).put ndx).put nx
    have s2 : Same H (upd (upd (upd H dx (.own x)) x (.ins C dx [])) pt (.tup ws)) := s1.put (s1.free hpt)
    refine ⟨x, dx, pt, ws, rs, rfl, by rw [upd_ne (ne_of_none upd_same hpt), upd_same], upd_same, R.sameT s2.T, ne0, ok, fun H' cl kp => ⟨rfl, k x H' cl fun b o e => kp b o (s2 b o e) (ne_of_none e nx)⟩⟩
theorem ok_ln {f C : Addr} {fd : FuncData} (F : Fun K "__len__" "Record.__len__" sLn f fd) (Y : TxR K mg C) (T : Bi mg) : FnOk P w K mg base CX0 1 f fd ["self"] (spLn C) := by
  refine F.ok scLn (fun vs H Q E h => ?_) (fun cdv A outer s H vs Q E hr h => ?_)
  · obtain ⟨p, rs, rfl, _⟩ := h
    rfl
  · obtain ⟨p, rs, rfl, ⟨dx, r, ws, h1, h2, h3⟩, k⟩ := h
    refine ⟨_, pss_one (ps_ret (pe_callB call_len_seq (by rfl) T.len PySem.boot_len (pa_cons (pe_fld (pv 0) rfl) pa_nil))), ?_⟩
    refine ⟨_, rfl, p, C, dx, _, _, rfl, h1, Y.cl, Y.nR, fldR_rows _, r, _, rfl, .inr (SqT.of h2), ?_⟩
    rw [h3.1]
    exact k
theorem ok_qe {f C : Addr} {fd : FuncData} (F : Fun K "__eq__" "Record.__eq__" sQe f fd) (Y : TxR K mg C) (T : Bi mg) (O : OwnR K C) : FnOk P w K mg base CX0 1 f fd ["self", "other"] (spQe C) := by
  refine F.ok scQe (fun vs H Q E h => ?_) (fun cdv A outer s H vs Q E hr h => ?_)
  · obtain ⟨p, q, rs, rfl, _⟩ := h
    rfl
  · obtain ⟨p, q, rs, rfl, c1, c2, fit, l100, k⟩ := h
    refine ⟨_, pss_one (ps_ret (pe_and (pe_callB call_isi (by rfl) T.isinstance (by decide +kernel) (pa_cons (pv 1) (pa_cons (pe_glob (v := .ref C) rfl Y.mgC rfl) pa_nil))) (pe_one (pe_cmpR (op_eqD hr.units) (pe_fld (pv 0) rfl) (pe_fld (pv 1) rfl) (nomark _))))), ?_⟩
    refine ⟨_, rfl, _, _, _, _, true, rfl, .own C, c2.ty Y.cl O, kit_own C, _, rfl, ?_⟩
    obtain ⟨dx, r, ws, h1, h2, h3⟩ := c1
    obtain ⟨dy, r2, ws2, g1, g2, g3⟩ := c2
    have sh := (rws_fit fit l100).shaped rfl
    refine iteT ⟨_, rfl, p, C, dx, _, _, rfl, h1, Y.cl, Y.nR, fldR_rows _, _, rfl, q, C, dy, _, _, rfl, g1, Y.cl, Y.nR, fldR_rows _, rwsD rs, rwsD rs, rws_dp (SqT.of h2) h3, rws_dp (SqT.of g2) g3, sh, sh, ?_⟩
    rw [show PyData.eqv (rwsD rs) (rwsD rs) = true from deq_rws rs]
    exact k
end
end K2
end
section
set_option Elab.async false
set_option maxRecDepth 100000
set_option linter.all false
/-! a record put into itself -/
namespace K2
open PySem L2 PySem.Spec PyProof.Rows
theorem sIx_nat (n d v : Nat) : HT.sIx n d (some ((v : Nat) : Int)) = min v n := by
  show (if ((v : Nat) : Int) < 0 then (((v : Nat) : Int) + (n : Int)).toNat else min ((v : Nat) : Int).toNat n) = _
  rw [if_neg (by omega)]
  rfl
theorem cutT_mid {xs : List V} {a b : Nat} (h1 : a ≤ b) (h2 : b ≤ xs.length) : cutV xs (some ((a : Nat) : Int)) (some ((b : Nat) : Int)) = (xs.drop a).take (b - a) := by
  unfold cutV
  rw [sIx_nat, sIx_nat, Nat.min_eq_left h2, Nat.min_eq_left (Nat.le_trans h1 h2)]
theorem cutT_from {xs : List V} {a : Nat} (h1 : a ≤ xs.length) : cutV xs (some ((a : Nat) : Int)) none = xs.drop a := by
  unfold cutV
  rw [sIx_nat, Nat.min_eq_left h1]
  exact List.take_of_length_le (by rw [List.length_drop]; exact Nat.le_refl _)
theorem cutT_upto {xs : List V} {b : Nat} (h1 : b ≤ xs.length) : cutV xs none (some ((b : Nat) : Int)) = xs.take b := by
  unfold cutV
  rw [sIx_nat, Nat.min_eq_left h1]
  rfl
theorem shR_g (f m : Nat) (r : Rw) : (shR f m r).g = r.g := rfl
theorem shR_cs (f m : Nat) (r : Rw) : (shR f m r).cs.length = r.cs.length := by
  show (r.cs.map _).length = _
  rw [List.length_map]
theorem mem_grown {rs : List Rw} {i o : Nat} {x : Rw} (h : x ∈ grownM rs i o) : ∃ r ∈ rs, x = r ∨ x = shR i (o - i) r ∨ x = shR o (o - i) r := by
  unfold grownM at h
  rcases List.mem_append.mp h with h | h
  · rcases List.mem_append.mp h with h | h
    · exact ⟨x, List.mem_of_mem_take h, .inl rfl⟩
    · obtain ⟨r, hr, rfl⟩ := List.mem_map.mp h
      exact ⟨r, List.mem_of_mem_drop (List.mem_of_mem_take hr), .inr (.inl rfl)⟩
  · obtain ⟨r, hr, rfl⟩ := List.mem_map.mp h
    exact ⟨r, List.mem_of_mem_drop hr, .inr (.inr rfl)⟩
theorem grown_len {rs : List Rw} {i o : Nat} (h1 : i ≤ o) (h2 : o < rs.length) : (grownM rs i o).length = rs.length + (o - i) := by
  unfold grownM
  rw [List.length_append, List.length_append, List.length_map, List.length_map, List.length_take, List.length_take, List.length_drop, List.length_drop]
  omega
theorem rowsOk_grown {rs : List Rw} {i o : Nat} (h : RowsOk rs) : RowsOk (grownM rs i o) := fun x hx => by
  obtain ⟨r, hr, e⟩ := mem_grown hx
  have := h r hr
  rcases e with rfl | rfl | rfl
  · exact this
  · rw [shR_cs]; exact this
  · rw [shR_cs]; exact this
def spGn (C : Addr) : Sp := fun vs H Q _ => ∃ (p : Addr) (rs : List Rw) (lo up : Nat), vs = [.ref p, .int (lo : Nat), .int (up : Nat)] ∧ RecAt C H p rs ∧ lo ≤ up ∧ up < rs.length ∧ rs.length ≤ 100 ∧ RowsOk rs ∧
  ∀ (r : Addr) (H' : Hp), RecAt C H' r (grownM rs lo up) → Same H H' → Q (.ref r) H'
section
variable {P : Program} {w : World} {K : PySem.W.Frag} {mg : Str → Option Value} {base : Heap}
theorem scGn : FnScope nGn ["record", "inner", "outer"] (defScope sGn) := ⟨rfl, rfl, rfl, by decide +kernel, rfl, by decide +kernel, by decide +kernel⟩
theorem ok_gn {f fS fM pM C : Addr} {mc : Value} {fd fdS fdM : FuncData} (F : Fun K "grown" "grown" sGn f fd) (Y : TxR K mg C) (T : Bi mg) (SH : Df K mg "_shifted" sSH fS fdS ["row", "first", "more"]) (GSh : FnOk P w K mg base CX0 2 fS fdS ["row", "first", "more"] spSH)
    (cR : ClX.CRead K C mc) (cM : ClX.CMet K C mc "made" pM fM) (GM : FnOk P w K mg base CX0 6 fM fdM ["cls", "rows"] (spMd C)) (bM : Binds K fdM ["cls", "rows"] []) : FnOk P w K mg base CX0 7 f fd ["record", "inner", "outer"] (spGn C) := by
  refine F.ok scGn (fun vs H Q E h => ?_) (fun cdv A outer s H vs Q E hr h => ?_)
  · obtain ⟨p, rs, lo, up, rfl, _⟩ := h
    rfl
  · obtain ⟨p, rs, lo, up, rfl, ⟨dx, ra, ws, h1, h2, h3⟩, lu, ul, l100, ok, k⟩ := h
    have hr2 : Room 2 _ := hr.mono (by decide)
    have hr6 : Room 6 _ := hr
    refine ⟨_, (pss_cons (ps_set (i := 3) scGn.nd rfl (Or.inl rfl) (pe_fld (pv 0) rfl))
      (pss_cons (ps_set (i := 4) scGn.nd rfl (Or.inr rfl) (pe_op op_sub (pv 2) (pv 1)))
      (pss_cons (ps_setLc (i := 5) (own := [("row", 7)]) (g := gName 7) (tt := tYes) rfl scGn.nd rfl rfl (sw_true rfl rfl rfl (by decide +kernel)) (pi_tup (pe_slice sl_tup2 (pv 3) (po_some (pe_op op_add (pv 1) pe_int)) (po_some (pe_op op_add (pv 2) pe_int)))) (blkOk_by (N := nGn) (sc := defScope sGn) (by decide +kernel)) (fun _ _ _ _ _ => pg_name (i := 7) scGn.nd rfl (Or.inl rfl)) (fun _ _ _ _ _ => pts_nil) (fun _ _ _ _ _ => pe_call GSh hr2 (by rfl) SH.m SH.F.kp SH.b .nil pass0 (pa_cons (pv 7) (pa_cons (pv 1) (pa_cons (pv 4) pa_nil)))))
      (pss_cons (ps_setLc (i := 6) (own := [("row", 7)]) (g := gName 7) (tt := tYes) rfl scGn.nd rfl rfl (sw_true rfl rfl rfl (by decide +kernel)) (pi_tup (pe_slice sl_tup2 (pv 3) (po_some (pe_op op_add (pv 2) pe_int)) po_none)) (blkOk_by (N := nGn) (sc := defScope sGn) (by decide +kernel)) (fun _ _ _ _ _ => pg_name (i := 7) scGn.nd rfl (Or.inl rfl)) (fun _ _ _ _ _ => pts_nil) (fun _ _ _ _ _ => pe_call GSh hr2 (by rfl) SH.m SH.F.kp SH.b .nil pass0 (pa_cons (pv 7) (pa_cons (pv 2) (pa_cons (pv 4) pa_nil)))))
      (pss_one (ps_ret (ClX.pe_cmeth (pe_glob (v := .ref C) (by rfl) Y.mgC rfl) cR cM (GM.raw bM .nil) hr6 pass0 (pa_cons (pe_op op_cat (pe_op op_cat (pe_callTy call_list_of (by rfl) T.list (by decide +kernel) (pa_cons (pe_slice sl_tup2 (pv 3) po_none (po_some (pe_op op_add (pv 2) pe_int))) pa_nil)) (pv 5)) (pv 6)) pa_nil)))))))), ?_⟩
    have wl : ws.length = rs.length := h3.1
    have e1 : ((lo : Nat) : Int) + 1 = ((lo + 1 : Nat) : Int) := by omega
    have e2 : ((up : Nat) : Int) + 1 = ((up + 1 : Nat) : Int) := by omega
    have e3 : ((up : Nat) : Int) - ((lo : Nat) : Int) = ((up - lo : Nat) : Int) := by omega
    refine ⟨_, rfl, p, C, dx, _, _, rfl, h1, Y.cl, Y.nR, fldR_rows _, _, rfl, _, rfl, _, _, rfl, rfl, ?_⟩
    have e3' : (fun i j : Int => V.int (i - j)) ((up : Nat) : Int) ((lo : Nat) : Int) = V.int ((up - lo : Nat) : Int) := by
      show V.int _ = _
      rw [e3]
    rw [e3']
    refine ⟨_, rfl, _, rfl, _, _, rfl, rfl, ((lo + 1 : Nat) : Int), rfl, _, rfl, _, _, rfl, rfl, ((up + 1 : Nat) : Int), rfl, ra, ws, rfl, h2, fun q1 H1 s1 hq1 => ?_⟩
    rw [cutT_mid (by omega) (by omega)] at hq1
    refine ⟨q1, rfl, ⟨_, SqT.of hq1⟩, fun D hD => ?_⟩
    have AD : RwsAt H1 ((ws.drop (lo + 1)).take (up + 1 - (lo + 1))) ((rs.drop (lo + 1)).take (up + 1 - (lo + 1))) := All2.cut (RwsAt.sameT h3 s1.T) _ _
    have OD : ∀ c ∈ (rs.drop (lo + 1)).take (up + 1 - (lo + 1)), c ∈ rs := fun c hc => List.mem_of_mem_drop (List.mem_of_mem_take hc)
    generalize hW1 : (ws.drop (lo + 1)).take (up + 1 - (lo + 1)) = W1 at hq1 AD ⊢
    generalize hR1 : (rs.drop (lo + 1)).take (up + 1 - (lo + 1)) = R1 at AD OD
    have lW1 : W1.length ≤ 100 := by rw [← hW1, List.length_take, List.length_drop]; omega
    refine lc_tup (K := K) (a := q1) (xs := W1) (fun i Hc => ∃ us : List V, Hc D = some (.lst us) ∧ us.length = i ∧ RwsAt Hc us ((R1.take i).map (shR lo (up - lo))) ∧ Same H1 Hc) ?_ ?_ ?_ ?_
    · exact ⟨[], upd_same, rfl, by rw [List.take_zero]; exact All2.nil, (Same.refl H1).put hD⟩
    · rintro i Hc _ ⟨_, _, _, _, sm⟩
      exact SqT.of (sm _ _ hq1)
    · rintro i y Hc hy ⟨us, g1, g2, g3, sm⟩
      obtain ⟨c, hc, R⟩ := (AD).get hy
      have il := (List.getElem?_eq_some_iff.mp hy).1
      have okc := ok c (OD c (List.mem_of_getElem? hc))
      refine ⟨rfl, _, rfl, _, rfl, _, rfl, y, c, lo, up - lo, rfl, R.sameT sm.T, okc.2, fun v' H2 s2 hv => ?_⟩
      refine ⟨_, s2 _ _ g1, by show _ < 16777216; omega, us ++ [v'], upd_same, by rw [List.length_append, g2]; rfl, ?_, (sm.trans s2).put hD⟩
      have sT : SameT H2 (upd H2 D (.lst (us ++ [v']))) := fun b zs q => by rw [upd_ne (fun e => by rw [e, s2 _ _ g1] at q; cases q)]; exact q
      have et : (R1.take (i + 1)).map (shR lo (up - lo)) = (R1.take i).map (shR lo (up - lo)) ++ [shR lo (up - lo) c] := by rw [List.take_add_one, hc, List.map_append]; rfl
      rw [et]
      exact ((RwsAt.sameT g3 s2.T).sameT sT).app (All2.one (hv.sameT sT))
    rintro H2 ⟨us, g1, g2, g3, sm2⟩
    rw [AD.1, List.take_length] at g3
    have s02 : Same H H2 := s1.trans sm2
    refine ⟨_, rfl, _, rfl, _, _, rfl, rfl, ((up + 1 : Nat) : Int), rfl, ra, ws, rfl, s02 _ _ h2, fun q3 H3 s3 hq3 => ?_⟩
    rw [cutT_from (by omega)] at hq3
    refine ⟨q3, rfl, ⟨_, SqT.of hq3⟩, fun D' hD' => ?_⟩
    have s03 := s02.trans s3
    have AD' : RwsAt H3 (ws.drop (up + 1)) (rs.drop (up + 1)) := All2.drop (RwsAt.sameT h3 s03.T) _
    have OD' : ∀ c ∈ rs.drop (up + 1), c ∈ rs := fun c hc => List.mem_of_mem_drop hc
    generalize hW2 : ws.drop (up + 1) = W2 at hq3 AD' ⊢
    generalize hR2 : rs.drop (up + 1) = R2 at AD' OD'
    have lW2 : W2.length ≤ 100 := by rw [← hW2, List.length_drop]; omega
    refine lc_tup (K := K) (a := q3) (xs := W2) (fun i Hc => ∃ us : List V, Hc D' = some (.lst us) ∧ us.length = i ∧ RwsAt Hc us ((R2.take i).map (shR up (up - lo))) ∧ Same H3 Hc) ?_ ?_ ?_ ?_
    · exact ⟨[], upd_same, rfl, by rw [List.take_zero]; exact All2.nil, (Same.refl H3).put hD'⟩
    · rintro i Hc _ ⟨_, _, _, _, sm⟩
      exact SqT.of (sm _ _ hq3)
    · rintro i y Hc hy ⟨us, g1, g2, g3, sm⟩
      obtain ⟨c, hc, R⟩ := (AD').get hy
      have il := (List.getElem?_eq_some_iff.mp hy).1
      have okc := ok c (OD' c (List.mem_of_getElem? hc))
      refine ⟨rfl, _, rfl, _, rfl, _, rfl, y, c, up, up - lo, rfl, R.sameT sm.T, okc.2, fun v' H2 s2 hv => ?_⟩
      refine ⟨_, s2 _ _ g1, by show _ < 16777216; omega, us ++ [v'], upd_same, by rw [List.length_append, g2]; rfl, ?_, (sm.trans s2).put hD'⟩
      have sT : SameT H2 (upd H2 D' (.lst (us ++ [v']))) := fun b zs q => by rw [upd_ne (fun e => by rw [e, s2 _ _ g1] at q; cases q)]; exact q
      have et : (R2.take (i + 1)).map (shR up (up - lo)) = (R2.take i).map (shR up (up - lo)) ++ [shR up (up - lo) c] := by rw [List.take_add_one, hc, List.map_append]; rfl
      rw [et]
      exact ((RwsAt.sameT g3 s2.T).sameT sT).app (All2.one (hv.sameT sT))
    rintro H4 ⟨us', g1', g2', g3', sm4⟩
    rw [AD'.1, List.take_length] at g3'
    have s24 : Same H2 H4 := s3.trans sm4
    have s04 := s02.trans s24
    refine ⟨rfl, _, rfl, _, rfl, _, _, rfl, rfl, ((up + 1 : Nat) : Int), rfl, ra, ws, rfl, s04 _ _ h2, fun q5 H5 s5 hq5 => ?_⟩
    rw [cutT_upto (by omega)] at hq5
    refine ⟨q5, _, rfl, .inr (SqT.of hq5), fun l1 hl1 => ?_⟩
    have s6 : Same H5 (upd H5 l1 (.lst (ws.take (up + 1)))) := (Same.refl H5).put hl1
    have e6 : (upd H5 l1 (.lst (ws.take (up + 1)))) l1 = some (.lst (ws.take (up + 1))) := upd_same
    generalize upd H5 l1 (.lst (ws.take (up + 1))) = H6 at s6 e6 ⊢
    have s46 := s5.trans s6
    have gD : H6 D = some (.lst us) := (s24.trans s46) _ _ g1
    have gD' : H6 D' = some (.lst us') := s46 _ _ g1'
    have lR1 : R1.length ≤ 100 := by rw [← AD.1]; exact lW1
    have lR2 : R2.length ≤ 100 := by rw [← AD'.1]; exact lW2
    have lt : (ws.take (up + 1)).length ≤ 100 := by rw [List.length_take]; omega
    refine ⟨_, rfl, l1, D, _, _, rfl, rfl, e6, gD, by show _ ≤ 16777216; omega, fun l2 hl2 => ?_⟩
    have s7 : Same H6 (upd H6 l2 (.lst (ws.take (up + 1) ++ us))) := (Same.refl H6).put hl2
    have e7 : (upd H6 l2 (.lst (ws.take (up + 1) ++ us))) l2 = some (.lst (ws.take (up + 1) ++ us)) := upd_same
    generalize upd H6 l2 (.lst (ws.take (up + 1) ++ us)) = H7 at s7 e7 ⊢
    refine ⟨_, rfl, l2, D', _, _, rfl, rfl, e7, s7 _ _ gD', by rw [List.length_append]; show _ ≤ 16777216; omega, fun l3 hl3 => ?_⟩
    have s8 : Same H7 (upd H7 l3 (.lst (ws.take (up + 1) ++ us ++ us'))) := (Same.refl H7).put hl3
    have e8 : (upd H7 l3 (.lst (ws.take (up + 1) ++ us ++ us'))) l3 = some (.lst (ws.take (up + 1) ++ us ++ us')) := upd_same
    generalize upd H7 l3 (.lst (ws.take (up + 1) ++ us ++ us')) = H8 at s8 e8 ⊢
    have s78 := s7.trans s8
    have s48 : Same H4 H8 := s46.trans s78
    have s08 : Same H H8 := s04.trans s48
    have gm : grownM rs lo up = rs.take (up + 1) ++ R1.map (shR lo (up - lo)) ++ R2.map (shR up (up - lo)) := by
      rw [← hR1, ← hR2, show up + 1 - (lo + 1) = up - lo by omega]
      rfl
    have A8 : RwsAt H8 (ws.take (up + 1) ++ us ++ us') (grownM rs lo up) := by
      rw [gm]
      exact ((RwsAt.sameT (h3.take _) s08.T).app (RwsAt.sameT g3 (s24.trans s48).T)).app (RwsAt.sameT g3' s48.T)
    have gl := grown_len (rs := rs) lu ul
    exact ⟨l3, _, _, rfl, e8, A8, fun e => by rw [e] at gl; have : (0 : Nat) = rs.length + (up - lo) := gl; omega, by omega, rowsOk_grown ok, fun r H' cl s9 => k r H' cl (s08.trans s9)⟩
end
end K2
end
section
set_option Elab.async false
set_option maxRecDepth 100000
set_option linter.all false
/-! the law's rows -/
namespace K2
open PySem L2 PySem.Spec PyProof.Rows
abbrev sLc : Stmt := top 18
abbrev sLr : Stmt := top 19
abbrev nLc : List Str := ["_law_pen_here", "_law_words_here", "_law_many", "_law_way"]
abbrev nLr : List Str := ["_law_pen_here", "_law_words_here", "_law_many", "_law_found", "_law_k", "_law_given", "_law_turn", "_law_case"]
def ChoB (B : Nat) : Cho → Prop
  | .num n => n ≤ B
  | .int n => n ≤ B
  | .str s => sOk s = true ∧ s.length ≤ 8
structure RwB (B : Nat) (r : Rw) : Prop where
  f : sOk r.f = true ∧ r.f.length ≤ 8
  g : ∀ y ∈ r.g, sOk y = true ∧ y.length ≤ 8
  gl : r.g.length ≤ 10
  h : ∀ s, r.h = some s → sOk s = true ∧ s.length ≤ 8
  c : ∀ x ∈ r.cs, ChoB B x
  cl : r.cs.length ≤ 20
theorem ChoB.fit {B : Nat} {c : Cho} (h : ChoB B c) (b : B ≤ 200) : ChoFit c := by
  cases c with
  | num n => exact Nat.le_trans h b
  | int n => exact Nat.le_trans h b
  | str s => exact h
theorem RwB.fit {B : Nat} {r : Rw} (h : RwB B r) (b : B ≤ 200) : RwFit r := ⟨h.f, h.g, h.gl, h.h, fun x hx => (h.c x hx).fit b, h.cl⟩
theorem ChoB.sh {B f m : Nat} {c : Cho} (h : ChoB B c) : ChoB (B + m) (shC f m c) := by
  cases c with
  | num n =>
    have h : n ≤ B := h
    by_cases z : f ≤ n
    · show ChoB (B + m) (if f ≤ n then Cho.num (n + m) else Cho.num n)
      rw [if_pos z]
      show n + m ≤ B + m
      omega
    · show ChoB (B + m) (if f ≤ n then Cho.num (n + m) else Cho.num n)
      rw [if_neg z]
      show n ≤ B + m
      omega
  | int n => exact Nat.le_trans h (Nat.le_add_right _ _)
  | str s => exact h
theorem ChoB.mono {B B' : Nat} {c : Cho} (h : ChoB B c) (b : B ≤ B') : ChoB B' c := by
  cases c with
  | num n => exact Nat.le_trans h b
  | int n => exact Nat.le_trans h b
  | str s => exact h
theorem RwB.sh {B f m : Nat} {r : Rw} (h : RwB B r) : RwB (B + m) (shR f m r) := ⟨h.f, h.g, h.gl, h.h, fun x hx => by
  obtain ⟨c, hc, rfl⟩ := List.mem_map.mp hx
  exact (h.c c hc).sh, by rw [shR_cs]; exact h.cl⟩
theorem RwB.mono {B B' : Nat} {r : Rw} (h : RwB B r) (b : B ≤ B') : RwB B' r := ⟨h.f, h.g, h.gl, h.h, fun x hx => (h.c x hx).mono b, h.cl⟩
theorem grown_B {B : Nat} {rs : List Rw} {i o : Nat} (h : ∀ r ∈ rs, RwB B r) (hm : o - i ≤ B) : ∀ r ∈ grownM rs i o, RwB (2 * B) r := fun x hx => by
  obtain ⟨r, hr, e⟩ := mem_grown hx
  have := h r hr
  rcases e with rfl | rfl | rfl
  · exact this.mono (by omega)
  · exact this.sh.mono (by omega)
  · exact this.sh.mono (by omega)
def spLc : Sp := fun vs H Q _ => ∃ (p c l : Addr) (ns : List Int) (n m : Nat) (ws : List Str), vs = [.ref p, .ref l, .int (m : Nat)] ∧ Pen H p c ns n ∧ n + 5 ≤ 100000 ∧ H l = some (.lst (ws.map V.str)) ∧ l ≠ p ∧ ws.length = 4 ∧ (∀ x ∈ ws, VW x) ∧ 2 ≤ m ∧ m ≤ 40 ∧
  ∀ (v : V) (x : Cho) (H' : Hp), ChoB (m + 1) x → ChoAt H' v x → Keep p H H' → Pen H' p c ns (n + 2) → Q v H'
def spLr : Sp := fun vs H Q _ => ∃ (p c l : Addr) (ns : List Int) (n m : Nat) (ws : List Str), vs = [.ref p, .ref l, .int (m : Nat)] ∧ Pen H p c ns n ∧ n + 1000 ≤ 100000 ∧ H l = some (.lst (ws.map V.str)) ∧ l ≠ p ∧ ws.length = 4 ∧ (∀ x ∈ ws, VW x) ∧ 2 ≤ m ∧ m ≤ 40 ∧
  ∀ (a : Addr) (us : List V) (rs : List Rw) (H' : Hp), H' a = some (.lst us) → RwsAt H' us rs → rs.length = m → (∀ r ∈ rs, RwB (m + 1) r) → a ≠ p → Keep p H H' → Pen H' p c ns (n + 20 * m) → Q (.ref a) H'
theorem ret_ok : sOk (Str.ofString "returns") = true ∧ (Str.ofString "returns").length ≤ 8 := by decide +kernel
theorem err_ok : sOk (Str.ofString "error") = true ∧ (Str.ofString "error").length ≤ 8 := by decide +kernel
section
variable {P : Program} {w : World} {K : PySem.W.Frag} {mg : Str → Option Value} {base : Heap}
theorem scLc : FnScope nLc ["_law_pen_here", "_law_words_here", "_law_many"] (defScope sLc) := ⟨rfl, rfl, rfl, by decide +kernel, rfl, by decide +kernel, by decide +kernel⟩
theorem scLr : FnScope nLr ["_law_pen_here", "_law_words_here", "_law_many"] (defScope sLr) := ⟨rfl, rfl, rfl, by decide +kernel, rfl, by decide +kernel, by decide +kernel⟩
theorem ok_lc {f fD : Addr} {fd fdD : FuncData} (F : Fun K "_law_choice" "_law_choice" sLc f fd) (T : Bi mg) (D : Df K mg "_law_draw" sDraw fD fdD ["_law_pen_here", "_law_many"]) (GD : FnOk P w K mg base CX0 1 fD fdD ["_law_pen_here", "_law_many"] spDraw) : FnOk P w K mg base CX0 2 f fd ["_law_pen_here", "_law_words_here", "_law_many"] spLc := by
  refine F.ok scLc (fun vs H Q E h => ?_) (fun cdv A outer s H vs Q E hr h => ?_)
  · obtain ⟨p, c, l, ns, n, m, ws, rfl, _⟩ := h
    rfl
  · obtain ⟨p, c, l, ns, n, m, ws, rfl, P0, hn, hl, lp, w4, vw, m2, m40, k⟩ := h
    have hr1 : Room 1 _ := hr
    refine ⟨_, (pss_cons (ps_set (i := 3) scLc.nd rfl (Or.inl rfl) (pe_call GD hr1 (by rfl) D.m D.F.kp D.b .nil pass0 (pa_cons (pv 0) (pa_cons pe_int pa_nil))))
      (pss_cons (ps_if (pt_cmpR op_lt (pv 3) pe_int (nomark _))
      (pss_one (ps_ret (pe_tup (pa_cons (pe_call GD hr1 (by rfl) D.m D.F.kp D.b .nil pass0 (pa_cons (pv 0) (pa_cons (pe_op op_add (pv 2) pe_int) pa_nil))) pa_nil))))
      pss_nil)
      (pss_cons (ps_if (pt_cmpR op_eq (pv 3) pe_int (nomark _))
      (pss_one (ps_ret (pe_call GD hr1 (by rfl) D.m D.F.kp D.b .nil pass0 (pa_cons (pv 0) (pa_cons pe_int pa_nil)))))
      pss_nil)
      (pss_one (ps_ret (pe_ix ix_list (pe_lst (pa_cons pe_str (pa_cons (pe_ix ix_list (pv 1) (pe_call GD hr1 (by rfl) D.m D.F.kp D.b .nil pass0 (pa_cons (pv 0) (pa_cons pe_int pa_nil))) (fun _ _ => rfl)) pa_nil))) (pe_op op_sub (pv 3) pe_int) (fun _ _ => rfl))))))), ?_⟩
    refine ⟨_, rfl, p, c, ns, n, 7, rfl, P0, by omega, by decide, by decide, fun v1 H1 v10 v11 k1 P1 => ?_⟩
    obtain ⟨y, rfl⟩ : ∃ j : Nat, v1 = (j : Int) := ⟨v1.toNat, (Int.toNat_of_nonneg v10).symm⟩
    refine ⟨_, rfl, _, _, rfl, rfl, _, rfl, ite2 (fun z => ?_) (fun z => ?_)⟩
    · refine ⟨_, rfl, _, rfl, _, _, rfl, rfl, p, c, ns, n + 1, ((m + 2 : Nat) : Int), rfl, P1, by omega, by omega, by omega, fun v2 H2 v20 v21 k2 P2 => ?_⟩
      obtain ⟨y2, rfl⟩ : ∃ j : Nat, v2 = (j : Int) := ⟨v2.toNat, (Int.toNat_of_nonneg v20).symm⟩
      refine ⟨(by show 1 ≤ sizeLine; decide), fun t ht => ?_⟩
      exact k _ (.num y2) _ (by show y2 ≤ m + 1; omega) ⟨t, rfl, upd_same⟩ ((k1.trans k2).new ((k1.trans k2).fresh P2 ht)) (P2.new ht)
    have z : ¬ (y : Int) < 4 := fun q => z (decide_eq_true q)
    refine ⟨_, rfl, rfl, _, rfl, ite2 (fun z2 => ?_) (fun z2 => ?_)⟩
    · refine ⟨_, rfl, p, c, ns, n + 1, 4, rfl, P1, by omega, by decide, by decide, fun v2 H2 v20 v21 k2 P2 => ?_⟩
      obtain ⟨y2, rfl⟩ : ∃ j : Nat, v2 = (j : Int) := ⟨v2.toNat, (Int.toNat_of_nonneg v20).symm⟩
      exact k _ (.int y2) _ (by show y2 ≤ m + 1; omega) rfl (k1.trans k2) P2
    have z2 : ¬ (y : Int) = 4 := fun q => z2 (decide_eq_true (by rw [q]))
    refine ⟨_, rfl, _, rfl, p, c, ns, n + 1, 4, rfl, P1, by omega, by decide, by decide, fun v2 H2 v20 v21 k2 P2 => ?_⟩
    obtain ⟨y2, rfl⟩ : ∃ j : Nat, v2 = (j : Int) := ⟨v2.toNat, (Int.toNat_of_nonneg v20).symm⟩
    have k12 := k1.trans k2
    have hy2 : y2 < ws.length := by omega
    have hv := vw_ok (vw _ (List.getElem_mem hy2))
    have hl2 := k12 l _ hl lp
    have hx2 : (ws.map V.str)[y2]? = some (.str ws[y2]) := by rw [List.getElem?_map, List.getElem?_eq_getElem hy2]; rfl
    generalize ws[y2] = x2 at hv hx2
    refine ⟨l, _, _, _, rfl, rfl, SqL.of hl2, atI_nat hx2, ?_⟩
    refine ⟨(by show 2 ≤ sizeLine; decide), fun t ht => ?_⟩
    have kk := k12.new (k12.fresh P2 ht) (o := .lst [.str (Str.ofString "returns"), .str x2])
    have y56 : y = 5 ∨ y = 6 := by omega
    rcases y56 with rfl | rfl
    · exact ⟨_, rfl, _, _, rfl, rfl, t, _, 0, _, rfl, rfl, SqL.of upd_same, atI_nat (j := 0) rfl, k _ (.str _) _ ret_ok rfl kk (P2.new ht)⟩
    · exact ⟨_, rfl, _, _, rfl, rfl, t, _, 1, _, rfl, rfl, SqL.of upd_same, atI_nat (j := 1) rfl, k _ (.str _) _ hv rfl kk (P2.new ht)⟩
end
end K2
end
section
set_option Elab.async false
set_option maxRecDepth 100000
set_option linter.all false
/-! the law's rows are made -/
namespace K2
open PySem L2 PySem.Spec PyProof.Rows
section
variable {P : Program} {w : World} {K : PySem.W.Frag} {mg : Str → Option Value} {base : Heap}
theorem ok_lr {f fD fC : Addr} {fd fdD fdC : FuncData} (F : Fun K "_law_rows" "_law_rows" sLr f fd) (T : Bi mg) (D : Df K mg "_law_draw" sDraw fD fdD ["_law_pen_here", "_law_many"]) (GD : FnOk P w K mg base CX0 1 fD fdD ["_law_pen_here", "_law_many"] spDraw)
    (LC : Df K mg "_law_choice" sLc fC fdC ["_law_pen_here", "_law_words_here", "_law_many"]) (GLc : FnOk P w K mg base CX0 2 fC fdC ["_law_pen_here", "_law_words_here", "_law_many"] spLc) : FnOk P w K mg base CX0 3 f fd ["_law_pen_here", "_law_words_here", "_law_many"] spLr := by
  refine F.ok scLr (fun vs H Q E h => ?_) (fun cdv A outer s H vs Q E hr h => ?_)
  · obtain ⟨p, c, l, ns, n, m, ws, rfl, _⟩ := h
    rfl
  · obtain ⟨p, c, l, ns, n, m, ws, rfl, P0, hn, hl, lp, w4, vw, m2, m40, k⟩ := h
    have hr1 : Room 1 _ := hr.mono (by decide)
    have hr2 : Room 2 _ := hr
    refine ⟨_, (pss_cons (ps_set (i := 3) scLr.nd rfl (Or.inl rfl) (pe_lst pa_nil))
      (pss_cons (ps_for PassesOwn.never rfl (pi_range1 rfl T.range (pa_cons (pv 2) pa_nil)) (pg_name (i := 4) scLr.nd rfl (Or.inl rfl))
      (pss_cons (ps_set (i := 5) scLr.nd rfl (Or.inl rfl) (pe_callTy call_tuple_of (by rfl) T.tuple (by decide +kernel) (pa_cons (pe_lc (own := [("_law_turn", 6)]) (g := gName 6) (tt := tYes) rfl scLr.nd (pi_range1 rfl T.range (pa_cons (pe_call GD hr1 (by rfl) D.m D.F.kp D.b .nil pass0 (pa_cons (pv 0) (pa_cons pe_int pa_nil))) pa_nil)) (blkOk_by (N := nLr) (sc := defScope sLr) (by decide +kernel)) (fun _ _ _ _ _ => pg_name (i := 6) scLr.nd rfl (Or.inl rfl)) (fun _ _ _ _ _ => pts_nil) (fun _ _ _ _ _ => pe_ix (ix_listK (K' := K) rfl) (pv 1) (pe_call GD hr1 (by rfl) D.m D.F.kp D.b .nil pass0 (pa_cons (pv 0) (pa_cons pe_int pa_nil))) (fun _ _ => rfl))) pa_nil)))
        (pss_cons (ps_set (i := 7) scLr.nd rfl (Or.inl rfl) (pe_tup (pa_cons (pe_ix ix_list (pv 1) (pe_call GD hr1 (by rfl) D.m D.F.kp D.b .nil pass0 (pa_cons (pv 0) (pa_cons pe_int pa_nil))) (fun _ _ => rfl)) (pa_cons (pv 5) (pa_cons (pe_ix ix_list (pe_lst (pa_cons pe_non (pa_cons (pe_ix ix_list (pv 1) pe_int (fun _ _ => rfl)) (pa_cons pe_str pa_nil)))) (pe_call GD hr1 (by rfl) D.m D.F.kp D.b .nil pass0 (pa_cons (pv 0) (pa_cons pe_int pa_nil))) (fun _ _ => rfl)) pa_nil)))))
        (pss_one (ps_expr (pe_bm PySem.F.plainAttrs_list PySem.F.slot_list_append PySem.F.type_list_append mt_append (pv 3) (pa_cons (pe_tup (pa_cons (pv 7) (pa_cons (pe_callTy call_tuple_of (by rfl) T.tuple (by decide +kernel) (pa_cons (pe_lc (own := [("_law_turn", 6)]) (g := gName 6) (tt := tYes) rfl scLr.nd (pi_range1 rfl T.range (pa_cons (pe_call GD hr1 (by rfl) D.m D.F.kp D.b .nil pass0 (pa_cons (pv 0) (pa_cons pe_int pa_nil))) pa_nil)) (blkOk_by (N := nLr) (sc := defScope sLr) (by decide +kernel)) (fun _ _ _ _ _ => pg_name (i := 6) scLr.nd rfl (Or.inl rfl)) (fun _ _ _ _ _ => pts_nil) (fun _ _ _ _ _ => pe_call GLc hr2 (by rfl) LC.m LC.F.kp LC.b .nil pass0 (pa_cons (pv 0) (pa_cons (pv 1) (pa_cons (pv 2) pa_nil))))) pa_nil)) pa_nil))) pa_nil)))))))
      (pss_one (ps_ret (pv 3))))), ?_⟩
    refine ⟨Nat.zero_le _, fun fo hfo => ?_⟩
    have hpf := P0.pne hfo
    have hcf := P0.cne hfo
    refine ⟨_, rfl, _, rfl, by omega, by omega, for_range (lo := 0) (n := m) (fun i σ Hc => ∃ (v4 v5 v6 v7 : Option V) (us : List V) (rs : List Rw), σ = [some (.ref p), some (.ref l), some (.int (m : Nat)), some (.ref fo), v4, v5, v6, v7] ∧
      Hc fo = some (.lst us) ∧ RwsAt Hc us rs ∧ rs.length = i ∧ (∀ r ∈ rs, RwB (m + 1) r) ∧ Keep p H Hc ∧ Pen Hc p c ns (n + 20 * i)) ?_ ?_ ?_⟩
    · exact ⟨_, _, _, _, [], [], rfl, upd_same, All2.nil, rfl, by simp, (Keep.refl p H).new hfo, P0.new hfo⟩
    · rintro i σ Hc hi ⟨v4, v5, v6, v7, us, rs, rfl, hF, RA, rl, RB, kc, Pc⟩
      have hlc := kc l _ hl lp
      -- what is given
      refine ⟨_, rfl, p, c, ns, n + 20 * i, 3, rfl, Pc, by omega, by decide, by decide, fun v1 H1 v10 v11 k1 P1 => ?_⟩
      obtain ⟨q1, rfl⟩ : ∃ j : Nat, v1 = (j : Int) := ⟨v1.toNat, (Int.toNat_of_nonneg v10).symm⟩
      refine ⟨_, rfl, by omega, by omega, fun D1 hD1 => ?_⟩
      have hpD := P1.pne hD1
      have hcD := P1.cne hD1
      refine lc_range (lo := 0) (n := q1) (fun j Hd => ∃ gs : List Str, gs.length = j ∧ (∀ y ∈ gs, sOk y = true ∧ y.length ≤ 8) ∧ Hd D1 = some (.lst (gs.map V.str)) ∧ Keep p H1 Hd ∧ Pen Hd p c ns (n + 20 * i + 1 + j)) ?_ ?_ ?_
      · exact ⟨[], rfl, by simp, upd_same, (Keep.refl p H1).new hD1, P1.new hD1⟩
      · rintro j Hd hj ⟨gs, gl, gok, hD, kd, Pd⟩
        refine ⟨rfl, _, rfl, _, rfl, p, c, ns, n + 20 * i + 1 + j, 4, rfl, Pd, by omega, by decide, by decide, fun dv He d0 d1 ke Pe => ?_⟩
        obtain ⟨y, rfl⟩ : ∃ j : Nat, dv = (j : Int) := ⟨dv.toNat, (Int.toNat_of_nonneg d0).symm⟩
        have hy : y < ws.length := by omega
        have hv := vw_ok (vw _ (List.getElem_mem hy))
        have hle := ke l _ (kd l _ (k1 l _ hlc lp) lp) lp
        have hx : (ws.map V.str)[y]? = some (.str ws[y]) := by rw [List.getElem?_map, List.getElem?_eq_getElem hy]; rfl
        generalize ws[y] = x at hv hx
        refine ⟨l, _, _, _, rfl, rfl, SqL.of hle, atI_nat hx, ?_⟩
        refine ⟨_, ke D1 _ hD hpD.symm, ?_, gs ++ [x], ?_, ?_, ?_, ?_, ?_⟩
        · rw [List.length_map, gl]
          show _ < 16777216
          omega
        · rw [List.length_append, gl]
          rfl
        · intro z hz
          rcases List.mem_append.mp hz with hz | hz
          · exact gok z hz
          · rw [List.mem_singleton.mp hz]
            exact hv
        · rw [upd_same, List.map_append]
          rfl
        · exact (kd.trans ke).new hD1
        · exact (Pe.mono (by omega)).upd' hpD hcD
      · rintro Hd ⟨gs, gl, gok, hD, kd, Pd⟩
        refine ⟨D1, _, rfl, .inl ⟨SqL.of hD, fun ga hga => ?_⟩⟩
        have k0d : Keep p Hc Hd := k1.trans kd
        have eg : (upd Hd ga (.tup (gs.map V.str))) ga = some (.tup (gs.map V.str)) := upd_same
        have k0g : Keep p Hc (upd Hd ga (.tup (gs.map V.str))) := k0d.new (k0d.fresh Pd hga)
        have Pg := Pd.new (o := .tup (gs.map V.str)) hga
        generalize upd Hd ga (.tup (gs.map V.str)) = Hg at eg k0g Pg ⊢
        -- the function's name
        refine ⟨_, rfl, _, rfl, p, c, ns, n + 20 * i + 1 + q1, 4, rfl, Pg, by omega, by decide, by decide, fun dv H2 d0 d1 k2 P2 => ?_⟩
        obtain ⟨y, rfl⟩ : ∃ j : Nat, dv = (j : Int) := ⟨dv.toNat, (Int.toNat_of_nonneg d0).symm⟩
        have hy : y < ws.length := by omega
        have hv := vw_ok (vw _ (List.getElem_mem hy))
        have k02 := k0g.trans k2
        have hl2 := k02 l _ hlc lp
        have hx : (ws.map V.str)[y]? = some (.str ws[y]) := by rw [List.getElem?_map, List.getElem?_eq_getElem hy]; rfl
        generalize ws[y] = x at hv hx
        refine ⟨l, _, _, _, rfl, rfl, SqL.of hl2, atI_nat hx, _, rfl, ?_⟩
        -- what is handled
        have h0 : 0 < ws.length := by omega
        have hv0 := vw_ok (vw _ (List.getElem_mem h0))
        have hx0 : (ws.map V.str)[0]? = some (.str ws[0]) := by rw [List.getElem?_map, List.getElem?_eq_getElem h0]; rfl
        generalize ws[0] = x0 at hv0 hx0
        refine ⟨_, rfl, l, _, 0, _, rfl, rfl, SqL.of hl2, atI_nat (j := 0) hx0, (by show 3 ≤ sizeLine; decide), fun t3 ht3 => ?_⟩
        have e3 : (upd H2 t3 (.lst [.non, .str x0, .str (Str.ofString "error")])) t3 = some (.lst [.non, .str x0, .str (Str.ofString "error")]) := upd_same
        have k03 : Keep p Hc (upd H2 t3 (.lst [.non, .str x0, .str (Str.ofString "error")])) := k02.new (k02.fresh P2 ht3)
        have k23 : Keep p H2 (upd H2 t3 (.lst [.non, .str x0, .str (Str.ofString "error")])) := (Keep.refl p H2).new ht3
        have P3 := P2.new (o := .lst [.non, .str x0, .str (Str.ofString "error")]) ht3
        have n3 := (P2.pne ht3).symm
        generalize upd H2 t3 (.lst [.non, .str x0, .str (Str.ofString "error")]) = H3 at e3 k03 k23 P3 ⊢
        refine ⟨_, rfl, p, c, ns, n + 20 * i + 1 + q1 + 1, 3, rfl, P3, by omega, by decide, by decide, fun dv H4 d0 d1 k4 P4 => ?_⟩
        obtain ⟨y3, rfl⟩ : ∃ j : Nat, dv = (j : Int) := ⟨dv.toNat, (Int.toNat_of_nonneg d0).symm⟩
        obtain ⟨oh, ho, hok⟩ : ∃ oh : Option Str, [V.non, .str x0, .str (Str.ofString "error")][y3]? = some (oS oh) ∧ ∀ s, oh = some s → sOk s = true ∧ s.length ≤ 8 := by
          have : y3 = 0 ∨ y3 = 1 ∨ y3 = 2 := by omega
          rcases this with rfl | rfl | rfl
          · exact ⟨none, rfl, fun s e => by cases e⟩
          · exact ⟨some x0, rfl, fun s e => by cases e; exact hv0⟩
          · exact ⟨some _, rfl, fun s e => by cases e; exact err_ok⟩
        refine ⟨t3, _, _, _, rfl, rfl, SqL.of (k4 _ _ e3 n3), atI_nat ho, (by show 3 ≤ sizeLine; decide), fun ca hca => ?_⟩
        have k04 := k03.trans k4
        have g4 : H4 ga = some (.tup (gs.map V.str)) := KeepT P3 k4 _ _ (KeepT P2 k23 _ _ (KeepT Pg k2 _ _ eg))
        have ec : (upd H4 ca (.tup [.str x, .ref ga, oS oh])) ca = some (.tup [.str x, .ref ga, oS oh]) := upd_same
        have s4 : Same H4 (upd H4 ca (.tup [.str x, .ref ga, oS oh])) := (Same.refl H4).put hca
        have k05 : Keep p Hc (upd H4 ca (.tup [.str x, .ref ga, oS oh])) := k04.new (k04.fresh P4 hca)
        have P5 := P4.new (o := .tup [.str x, .ref ga, oS oh]) hca
        generalize upd H4 ca (.tup [.str x, .ref ga, oS oh]) = H5 at ec s4 k05 P5 ⊢
        have g5 := s4 _ _ g4
        -- the choices
        refine ⟨_, rfl, .inl ⟨rfl, _, SqL.of (k05 _ _ hF hpf.symm)⟩, _, rfl, _, rfl, p, c, ns, n + 20 * i + 1 + q1 + 1 + 1, 6, rfl, P5, by omega, by decide, by decide, fun dv H6 d0 d1 k6 P6 => ?_⟩
        obtain ⟨q6, rfl⟩ : ∃ j : Nat, dv = (j : Int) := ⟨dv.toNat, (Int.toNat_of_nonneg d0).symm⟩
        refine ⟨_, rfl, by omega, by omega, fun D6 hD6 => ?_⟩
        have hpD6 := P6.pne hD6
        have hcD6 := P6.cne hD6
        refine lc_range (lo := 0) (n := q6) (fun j He => ∃ (vs : List V) (cs : List Cho), He D6 = some (.lst vs) ∧ All2 (ChoAt He) vs cs ∧ cs.length = j ∧ (∀ z ∈ cs, ChoB (m + 1) z) ∧ Keep p H6 He ∧ Pen He p c ns (n + 20 * i + 1 + q1 + 1 + 1 + 1 + 2 * j)) ?_ ?_ ?_
        · exact ⟨[], [], upd_same, All2.nil, rfl, by simp, (Keep.refl p H6).new hD6, P6.new hD6⟩
        · rintro j He hj ⟨vs, cs, hV, CA, cl, CB, ke, Pe⟩
          refine ⟨rfl, _, rfl, _, rfl, _, rfl, p, c, l, ns, n + 20 * i + 1 + q1 + 1 + 1 + 1 + 2 * j, m, ws, rfl, Pe, by omega, ke l _ (k6 l _ (k05 l _ hlc lp) lp) lp, lp, w4, vw, m2, m40, fun v z Hf zb za kf Pf => ?_⟩
          have sT : SameT Hf (upd Hf D6 (.lst (vs ++ [v]))) := fun b zs q => by rw [upd_ne (fun e => by rw [e, kf _ _ hV hpD6.symm] at q; cases q)]; exact q
          refine ⟨_, kf _ _ hV hpD6.symm, ?_, vs ++ [v], cs ++ [z], upd_same, ((CA.imp fun _ _ q => (q.sameT (KeepT Pe kf)).sameT sT)).app (All2.one (za.sameT sT)), by rw [List.length_append, cl]; rfl, ?_, (ke.trans kf).new hD6, (Pf.mono (by omega)).upd' hpD6 hcD6⟩
          · rw [CA.1, cl]
            show _ < 16777216
            omega
          · intro u hu
            rcases List.mem_append.mp hu with hu | hu
            · exact CB u hu
            · rw [List.mem_singleton.mp hu]
              exact zb
        · rintro He ⟨vs, cs, hV, CA, cl, CB, ke, Pe⟩
          refine ⟨D6, _, rfl, .inl ⟨SqL.of hV, fun ka hka => ?_⟩⟩
          have s7 : Same He (upd He ka (.tup vs)) := (Same.refl He).put hka
          have e7 : (upd He ka (.tup vs)) ka = some (.tup vs) := upd_same
          have P7 := Pe.new (o := .tup vs) hka
          generalize upd He ka (.tup vs) = H7 at s7 e7 P7 ⊢
          refine ⟨(by show 2 ≤ sizeLine; decide), fun ra hra => ?_⟩
          have s8 : Same H7 (upd H7 ra (.tup [.ref ca, .ref ka])) := (Same.refl H7).put hra
          have e8 : (upd H7 ra (.tup [.ref ca, .ref ka])) ra = some (.tup [.ref ca, .ref ka]) := upd_same
          have P8 := P7.new (o := .tup [.ref ca, .ref ka]) hra
          generalize upd H7 ra (.tup [.ref ca, .ref ka]) = H8 at s8 e8 P8 ⊢
          have k58 : Keep p H5 H8 := ((k6.trans ke).trans s7.keep).trans s8.keep
          have k08 := k05.trans k58
          have sT5 := KeepT P5 k58
          have hF8 : H8 fo = some (.lst us) := k08 _ _ hF hpf.symm
          have RW : RwAt H8 (.ref ra) ⟨x, gs, oh, cs⟩ := ⟨ra, ca, ga, ka, vs, rfl, e8, sT5 _ _ ec, sT5 _ _ g5, s8 _ _ e7, CA.imp fun _ _ q => q.sameT (s7.trans s8).T⟩
          have RWB : RwB (m + 1) ⟨x, gs, oh, cs⟩ := ⟨hv, gok, by show gs.length ≤ 10; omega, hok, CB, by show cs.length ≤ 20; omega⟩
          generalize (⟨x, gs, oh, cs⟩ : Rw) = r at RW RWB
          have sT : SameT H8 (upd H8 fo (.lst (us ++ [.ref ra]))) := fun b zs q => by rw [upd_ne (fun e => by rw [e, hF8] at q; cases q)]; exact q
          refine ⟨fo, us, _, rfl, rfl, hF8, (by rw [RA.1, rl]; show _ < 16777216; omega), ?_⟩
          refine ⟨_, _, _, _, us ++ [.ref ra], rs ++ [r], rfl, upd_same, ((RwsAt.sameT RA (KeepT Pc k08)).sameT sT).app (All2.one (RW.sameT sT)), by rw [List.length_append, rl]; rfl, ?_, (kc.trans k08).new hfo, (P8.mono (by omega)).upd' hpf hcf⟩
          intro u hu
          rcases List.mem_append.mp hu with hu | hu
          · exact RB u hu
          · rw [List.mem_singleton.mp hu]
            exact RWB
    · rintro σ Hc ⟨v4, v5, v6, v7, us, rs, rfl, hF, RA, rl, RB, kc, Pc⟩
      exact ⟨_, rfl, k fo us rs Hc hF RA rl RB hpf.symm kc Pc⟩
end
end K2
end
section
set_option Elab.async false
set_option maxRecDepth 100000
set_option linter.all false
/-! the turns of a growing, in their order -/
namespace K2
open PySem L2 PySem.Spec PyProof.Rows
theorem perm_mem {α : Type} [BEq α] [LawfulBEq α] : ∀ {l m : List α}, l.Nodup → m.Nodup → (∀ x, x ∈ l ↔ x ∈ m) → l.Perm m
  | [], m, _, _, h => by
    cases m with
    | nil => exact .nil
    | cons a m => exact absurd ((h a).mpr List.mem_cons_self) (by simp)
  | a :: l, m, nd, md, h => by
    have nd2 := List.nodup_cons.mp nd
    have ha : a ∈ m := (h a).mp List.mem_cons_self
    refine List.Perm.trans (.cons a (perm_mem nd2.2 (md.erase a) fun x => ⟨fun hx => ?_, fun hx => ?_⟩)) (List.perm_cons_erase ha).symm
    · exact (List.Nodup.mem_erase_iff md).mpr ⟨fun e => nd2.1 (e ▸ hx), (h x).mp (List.mem_cons_of_mem _ hx)⟩
    · have q := (List.Nodup.mem_erase_iff md).mp hx
      rcases List.mem_cons.mp ((h x).mpr q.2) with e | e
      · exact absurd e q.1
      · exact e
/-- the turns as they are written down -/
def tnA (lo up k : Nat) : List (Nat × Nat) := [(if up < k then 2 else 0, k)] ++ if lo < k ∧ k ≤ up then [(1, k)] else []
def turns (lo up : Nat) : Nat → List (Nat × Nat)
  | 0 => []
  | n + 1 => turns lo up n ++ tnA lo up n
/-- the turns in their order -/
def ordered (lo up n : Nat) : List (Nat × Nat) := (List.range (up + 1)).map (fun k => (0, k)) ++ ((List.range (up - lo)).map fun j => (1, lo + 1 + j)) ++ ((List.range (n - (up + 1))).map fun j => (2, up + 1 + j))
def TurnOk (lo up n : Nat) (x : Nat × Nat) : Prop := x.2 < n ∧ ((x.1 = 0 ∧ x.2 ≤ up) ∨ (x.1 = 1 ∧ lo < x.2 ∧ x.2 ≤ up) ∨ (x.1 = 2 ∧ up < x.2))
theorem mem_tnA {lo up k : Nat} {x : Nat × Nat} : x ∈ tnA lo up k ↔ x.2 = k ∧ ((x.1 = 0 ∧ x.2 ≤ up) ∨ (x.1 = 1 ∧ lo < x.2 ∧ x.2 ≤ up) ∨ (x.1 = 2 ∧ up < x.2)) := by
  obtain ⟨a, b⟩ := x
  unfold tnA
  by_cases h1 : up < k
  · rw [if_pos h1, if_neg (by omega)]
    simp only [List.append_nil, List.mem_singleton, Prod.mk.injEq]
    omega
  · rw [if_neg h1]
    by_cases h2 : lo < k ∧ k ≤ up
    · rw [if_pos h2]
      simp only [List.mem_append, List.mem_singleton, Prod.mk.injEq]
      omega
    · rw [if_neg h2]
      simp only [List.append_nil, List.mem_singleton, Prod.mk.injEq]
      omega
theorem mem_turns {lo up : Nat} {x : Nat × Nat} : ∀ {n : Nat}, x ∈ turns lo up n ↔ TurnOk lo up n x
  | 0 => by
    unfold TurnOk turns
    simp
  | n + 1 => by
    have ih := mem_turns (lo := lo) (up := up) (x := x) (n := n)
    unfold TurnOk at ih ⊢
    unfold turns
    rw [List.mem_append, ih, mem_tnA]
    omega
theorem nd_tnA (lo up k : Nat) : (tnA lo up k).Nodup := by
  unfold tnA
  by_cases h2 : lo < k ∧ k ≤ up
  · rw [if_pos h2, if_neg (by omega)]
    simp
  · rw [if_neg h2]
    simp
theorem nd_turns (lo up : Nat) : ∀ n, (turns lo up n).Nodup
  | 0 => List.nodup_nil
  | n + 1 => by
    unfold turns
    refine List.nodup_append.mpr ⟨nd_turns lo up n, nd_tnA lo up n, fun a ha b hb e => ?_⟩
    have h1 := (mem_turns.mp ha).1
    have h2 := (mem_tnA.mp hb).1
    rw [e] at h1
    omega
/-- the order of pairs of numbers, as it is in Python -/
def leP (x y : Nat × Nat) : Prop := SrtO.lexB ((y.1 : Int), (y.2 : Int)) ((x.1 : Int), (x.2 : Int)) = false
theorem leP_iff {x y : Nat × Nat} : leP x y ↔ x.1 < y.1 ∨ (x.1 = y.1 ∧ x.2 ≤ y.2) := by
  unfold leP SrtO.lexB
  dsimp only
  by_cases h : x.1 = y.1
  · rw [if_pos (by omega), decide_eq_false_iff_not]
    omega
  · rw [if_neg (by omega), decide_eq_false_iff_not]
    omega
theorem ordered_le (lo up n : Nat) : List.Pairwise leP (ordered lo up n) := by
  unfold ordered
  refine List.pairwise_append.mpr ⟨List.pairwise_append.mpr ⟨List.pairwise_map.mpr (List.pairwise_lt_range.imp fun h => leP_iff.mpr (by dsimp only; omega)), List.pairwise_map.mpr (List.pairwise_lt_range.imp fun h => leP_iff.mpr (by dsimp only; omega)), fun a ha b hb => ?_⟩, List.pairwise_map.mpr (List.pairwise_lt_range.imp fun h => leP_iff.mpr (by dsimp only; omega)), fun a ha b hb => ?_⟩
  · obtain ⟨x, _, rfl⟩ := List.mem_map.mp ha
    obtain ⟨y, _, rfl⟩ := List.mem_map.mp hb
    exact leP_iff.mpr (by dsimp only; omega)
  · obtain ⟨y, _, rfl⟩ := List.mem_map.mp hb
    rcases List.mem_append.mp ha with ha | ha
    · obtain ⟨x, _, rfl⟩ := List.mem_map.mp ha
      exact leP_iff.mpr (by dsimp only; omega)
    · obtain ⟨x, _, rfl⟩ := List.mem_map.mp ha
      exact leP_iff.mpr (by dsimp only; omega)
theorem mem_ordered {lo up n : Nat} {x : Nat × Nat} (ul : up < n) : x ∈ ordered lo up n ↔ TurnOk lo up n x := by
  obtain ⟨a, b⟩ := x
  unfold ordered TurnOk
  simp only [List.mem_append, List.mem_map, List.mem_range, Prod.mk.injEq]
  constructor
  · rintro ((⟨k, h, rfl, rfl⟩ | ⟨k, h, rfl, rfl⟩) | ⟨k, h, rfl, rfl⟩) <;> omega
  · rintro ⟨h, (⟨rfl, h2⟩ | ⟨rfl, h2, h3⟩ | ⟨rfl, h2⟩)⟩
    · exact .inl (.inl ⟨b, by omega, rfl, rfl⟩)
    · exact .inl (.inr ⟨b - (lo + 1), by omega, rfl, by omega⟩)
    · exact .inr ⟨b - (up + 1), by omega, rfl, by omega⟩
theorem nd_ordered (lo up n : Nat) : (ordered lo up n).Nodup := by
  unfold ordered
  have nd : ∀ {f : Nat → Nat × Nat}, (∀ i j, f i = f j → i = j) → ∀ m, ((List.range m).map f).Nodup := fun inj m => nodup_map inj List.nodup_range
  refine List.nodup_append.mpr ⟨List.nodup_append.mpr ⟨nd (fun i j e => (Prod.mk.inj e).2) _, nd (fun i j e => by have := (Prod.mk.inj e).2; omega) _, fun a ha b hb e => ?_⟩, nd (fun i j e => by have := (Prod.mk.inj e).2; omega) _, fun a ha b hb e => ?_⟩
  · obtain ⟨x, _, rfl⟩ := List.mem_map.mp ha
    obtain ⟨y, _, rfl⟩ := List.mem_map.mp hb
    have := (Prod.mk.inj e).1
    omega
  · obtain ⟨y, _, rfl⟩ := List.mem_map.mp hb
    rcases List.mem_append.mp ha with ha | ha
    · obtain ⟨x, _, rfl⟩ := List.mem_map.mp ha
      have := (Prod.mk.inj e).1
      omega
    · obtain ⟨x, _, rfl⟩ := List.mem_map.mp ha
      have := (Prod.mk.inj e).1
      omega
theorem turns_perm {lo up n : Nat} (ul : up < n) : (turns lo up n).Perm (ordered lo up n) := perm_mem (nd_turns lo up n) (nd_ordered lo up n) fun x => by rw [mem_turns, mem_ordered ul]
theorem ordered_of {lo up n : Nat} (ul : up < n) {zs : List (Nat × Nat)} (h1 : List.Pairwise leP zs) (h2 : zs.Perm (turns lo up n)) : zs = ordered lo up n :=
  List.Perm.eq_of_pairwise (le := leP) (fun a b _ _ x y => by
    have x := leP_iff.mp x
    have y := leP_iff.mp y
    exact Prod.ext (by omega) (by omega)) h1 (ordered_le lo up n) (h2.trans (turns_perm ul))
/-- the row of a turn -/
def duR (lo up : Nat) (rs : List Rw) (x : Nat × Nat) : Rw := match rs[x.2]? with
  | none => ⟨Str.empty, [], none, []⟩
  | some r => if x.1 = 0 then r else if x.1 = 1 then shR lo (up - lo) r else shR up (up - lo) r
theorem duR_at {lo up : Nat} {rs : List Rw} {t k : Nat} {r : Rw} (h : rs[k]? = some r) : duR lo up rs (t, k) = if t = 0 then r else if t = 1 then shR lo (up - lo) r else shR up (up - lo) r := by
  unfold duR
  dsimp only
  rw [h]
theorem map_cut {α : Type} {f : Nat → α} {xs : List α} {a m : Nat} (h : ∀ j, j < m → xs[a + j]? = some (f j)) : (List.range m).map f = (xs.drop a).take m := by
  refine List.ext_getElem? fun i => ?_
  rw [List.getElem?_map, List.getElem?_take]
  by_cases hi : i < m
  · rw [if_pos hi, List.getElem?_range hi, List.getElem?_drop, h i hi]
    rfl
  · rw [if_neg hi, List.getElem?_eq_none (by rw [List.length_range]; omega)]
    rfl
theorem due_grown {lo up : Nat} {rs : List Rw} (lu : lo ≤ up) (ul : up < rs.length) : (ordered lo up rs.length).map (duR lo up rs) = grownM rs lo up := by
  unfold ordered grownM
  rw [List.map_append, List.map_append, List.map_map, List.map_map, List.map_map]
  congr 1
  · congr 1
    · have := map_cut (f := duR lo up rs ∘ fun k => (0, k)) (xs := rs) (a := 0) (m := up + 1) fun j hj => by
        have e : rs[j]? = some rs[j] := List.getElem?_eq_getElem (by omega)
        rw [Nat.zero_add, e]
        show _ = some (duR lo up rs (0, j))
        rw [duR_at e]
        rfl
      rw [this, List.drop_zero]
    · have := map_cut (f := duR lo up rs ∘ fun j => (1, lo + 1 + j)) (xs := rs.map (shR lo (up - lo))) (a := lo + 1) (m := up - lo) fun j hj => by
        have e : rs[lo + 1 + j]? = some rs[lo + 1 + j] := List.getElem?_eq_getElem (by omega)
        rw [List.getElem?_map, e]
        show _ = some (duR lo up rs (1, lo + 1 + j))
        rw [duR_at e]
        rfl
      rw [this, ← List.map_drop, ← List.map_take]
  · have := map_cut (f := duR lo up rs ∘ fun j => (2, up + 1 + j)) (xs := rs.map (shR up (up - lo))) (a := up + 1) (m := rs.length - (up + 1)) fun j hj => by
      have e : rs[up + 1 + j]? = some rs[up + 1 + j] := List.getElem?_eq_getElem (by omega)
      rw [List.getElem?_map, e]
      show _ = some (duR lo up rs (2, up + 1 + j))
      rw [duR_at e]
      rfl
    rw [this, ← List.map_drop, List.take_of_length_le (by rw [List.length_map, List.length_drop]; exact Nat.le_refl _)]
end K2
end
section
set_option Elab.async false
set_option maxRecDepth 100000
set_option linter.all false
/-! what is due -/
namespace K2
open PySem L2 PySem.Spec PyProof.Rows
abbrev sDu : Stmt := top 20
abbrev nDu : List Str := ["_law_rows_here", "_law_lower", "_law_upper", "_law_turns", "_law_k", "_law_found", "_law_turn", "_law_case", "_law_choices", "_law_row", "_law_choice_here", "_law_number", "_law_far"]
def PairAt (H : Hp) (v : V) (x : Nat × Nat) : Prop := ∃ t, v = .ref t ∧ H t = some (.tup [.int (x.1 : Nat), .int (x.2 : Nat)])
theorem PairAt.sameT {H H' : Hp} {v : V} {x : Nat × Nat} (h : PairAt H v x) (s : SameT H H') : PairAt H' v x := by
  obtain ⟨t, e, h⟩ := h
  exact ⟨t, e, s _ _ h⟩
def keyOf (H : Hp) : V → Int × Int
  | .ref t => match H t with
    | some (.tup [.int a, .int b]) => (a, b)
    | _ => (0, 0)
  | _ => (0, 0)
theorem PairAt.key {H : Hp} {v : V} {x : Nat × Nat} (h : PairAt H v x) : keyOf H v = ((x.1 : Int), (x.2 : Int)) := by
  obtain ⟨t, rfl, h⟩ := h
  show (match H t with
    | some (.tup [.int a, .int b]) => (a, b)
    | _ => (0, 0)) = _
  rw [h]
def numOf (H : Hp) (v : V) : Nat × Nat := ((keyOf H v).1.toNat, (keyOf H v).2.toNat)
theorem PairAt.num {H : Hp} {v : V} {x : Nat × Nat} (h : PairAt H v x) : numOf H v = x := by
  unfold numOf
  rw [h.key]
  rfl
theorem All2.map_eq {α β : Type} {R : α → β → Prop} {f : α → β} {xs : List α} {ys : List β} (h : All2 R xs ys) (k : ∀ x y, R x y → f x = y) : xs.map f = ys := by
  refine List.ext_getElem? fun i => ?_
  rw [List.getElem?_map]
  by_cases hi : i < xs.length
  · have hj : i < ys.length := by rw [← h.1]; exact hi
    rw [List.getElem?_eq_getElem hi, List.getElem?_eq_getElem hj]
    exact congrArg some (k _ _ (h.2 i _ _ (List.getElem?_eq_getElem hi) (List.getElem?_eq_getElem hj)))
  · rw [List.getElem?_eq_none (by omega), List.getElem?_eq_none (by have := h.1; omega)]
    rfl
/-- what sorted gives of the turns -/
theorem sorted_turns {H : Hp} {xs ys : List V} {lo up n : Nat} (ul : up < n) (A : All2 (PairAt H) xs (turns lo up n)) (s : SrtO.Srtd (ltP (keyOf H)) ys) (b : SrtO.Stb (ltP (keyOf H)) ys xs) : All2 (PairAt H) ys (ordered lo up n) := by
  have pa : ∀ y ∈ ys, PairAt H y (numOf H y) := fun y hy => by
    obtain ⟨i, hi, e⟩ := List.mem_iff_getElem.mp (b.perm.mem_iff.mp hy)
    obtain ⟨x, hx, R⟩ := A.get (List.getElem?_eq_getElem hi)
    rw [e] at R
    rw [R.num]
    exact R
  have pm : (ys.map (numOf H)).Perm (turns lo up n) := by
    have := b.perm.map (numOf H)
    rwa [A.map_eq fun x y r => r.num] at this
  have so : List.Pairwise leP (ys.map (numOf H)) := by
    refine List.pairwise_map.mpr (List.Pairwise.imp_of_mem (fun {x y} hx hy h => ?_) s)
    have h : SrtO.lexB (keyOf H y) (keyOf H x) = false := h
    rw [(pa x hx).key, (pa y hy).key] at h
    exact h
  rw [← ordered_of ul so pm]
  refine ⟨by rw [List.length_map], fun i x y a c => ?_⟩
  rw [List.getElem?_map, a] at c
  cases c
  exact pa x (List.mem_of_getElem? a)
def spDue : Sp := fun vs H Q _ => ∃ (a : Addr) (us : List V) (rs : List Rw) (lo up : Nat), vs = [.ref a, .int (lo : Nat), .int (up : Nat)] ∧ H a = some (.lst us) ∧ RwsAt H us rs ∧ lo ≤ up ∧ up < rs.length ∧ rs.length ≤ 100 ∧ RowsOk rs ∧
  ∀ (b : Addr) (us' : List V) (H' : Hp), H' b = some (.lst us') → RwsAt H' us' (grownM rs lo up) → Same H H' → Q (.ref b) H'
/-- a choice of a turn -/
def duC (lo up t : Nat) (c : Cho) : Cho := if t = 0 then c else if t = 1 then shC lo (up - lo) c else shC up (up - lo) c
theorem duR_cs {lo up t k : Nat} {rs : List Rw} {r : Rw} (h : rs[k]? = some r) : duR lo up rs (t, k) = { r with cs := r.cs.map (duC lo up t) } := by
  rw [duR_at h]
  unfold duC
  by_cases t0 : t = 0
  · simp only [if_pos t0, List.map_id']
  · by_cases t1 : t = 1
    · simp only [if_neg t0, if_pos t1]
      rfl
    · simp only [if_neg t0, if_neg t1]
      rfl
def farB (lo up t n : Nat) : Bool := if t = 0 then false else if t = 1 then decide (lo < n) else decide (up ≤ n)
def numN (lo up t n : Nat) : Nat := n + if farB lo up t n = true then up - lo else 0
theorem duC_num {lo up t n : Nat} (lu : lo ≤ up) (ht : t ≤ 2) : duC lo up t (.num n) = .num (if t = 1 ∧ numN lo up t n = lo then up else numN lo up t n) := by
  unfold duC numN farB
  have sh : ∀ f m, shC f m (.num n) = .num (if f ≤ n then n + m else n) := fun f m => by
    show (if f ≤ n then Cho.num (n + m) else Cho.num n) = _
    by_cases z : f ≤ n
    · rw [if_pos z, if_pos z]
    · rw [if_neg z, if_neg z]
  have t3 : t = 0 ∨ t = 1 ∨ t = 2 := by omega
  rcases t3 with rfl | rfl | rfl
  · simp
  · simp only [if_neg (show ¬ (1 = 0) by decide), if_pos, sh]
    by_cases z : lo < n
    · simp only [decide_eq_true z, if_pos]
      rw [if_pos (by omega), if_neg (by omega)]
    · simp only [decide_eq_false z, if_neg Bool.false_ne_true, Nat.add_zero]
      by_cases y : n = lo
      · rw [if_pos (by omega), if_pos ⟨trivial, y⟩]
        exact congrArg Cho.num (by omega)
      · rw [if_neg (by omega), if_neg (fun h => y h.2)]
  · simp only [if_neg (show ¬ (2 = 0) by decide), if_neg (show ¬ (2 = 1) by decide), sh, false_and, if_false]
    by_cases z : up ≤ n
    · simp only [decide_eq_true z, if_pos]
      rw [if_pos z, if_neg (fun h => absurd h.1 (by decide))]
    · simp only [decide_eq_false z, if_neg Bool.false_ne_true, Nat.add_zero]
      rw [if_neg z, if_neg (fun h => absurd h.1 (by decide))]
theorem duC_str {lo up t : Nat} (s : Str) : duC lo up t (.str s) = .str s := by
  unfold duC
  by_cases t0 : t = 0
  · rw [if_pos t0]
  · rw [if_neg t0]
    by_cases t1 : t = 1
    · rw [if_pos t1]; rfl
    · rw [if_neg t1]; rfl
theorem duC_int {lo up t : Nat} (n : Nat) : duC lo up t (.int n) = .int n := by
  unfold duC
  by_cases t0 : t = 0
  · rw [if_pos t0]
  · rw [if_neg t0]
    by_cases t1 : t = 1
    · rw [if_pos t1]; rfl
    · rw [if_neg t1]; rfl
theorem turns_len (lo up : Nat) : ∀ n, (turns lo up n).length ≤ 2 * n
  | 0 => Nat.le_refl _
  | n + 1 => by
    have ih := turns_len lo up n
    have : (tnA lo up n).length ≤ 2 := by
      unfold tnA
      by_cases z : lo < n ∧ n ≤ up
      · rw [if_pos z]
        exact Nat.le_refl 2
      · rw [if_neg z]
        exact Nat.le_succ 1
    unfold turns
    rw [List.length_append]
    omega
section
variable {P : Program} {w : World} {K : PySem.W.Frag} {mg : Str → Option Value} {base : Heap}
theorem scDu : FnScope nDu ["_law_rows_here", "_law_lower", "_law_upper"] (defScope sDu) := ⟨rfl, rfl, rfl, by decide +kernel, rfl, by decide +kernel, by decide +kernel⟩
set_option maxHeartbeats 1000000 in
theorem ok_due {f : Addr} {fd : FuncData} (F : Fun K "_law_due" "_law_due" sDu f fd) (T : Bi mg) (tSo : mg "sorted" = none) : FnOk P w K mg base CX0 1 f fd ["_law_rows_here", "_law_lower", "_law_upper"] spDue := by
  refine F.ok scDu (fun vs H Q E h => ?_) (fun cdv A outer s H vs Q E hr h => ?_)
  · obtain ⟨a, us, rs, lo, up, rfl, _⟩ := h
    rfl
  · obtain ⟨a, us, rs, lo, up, rfl, ha, RA, lu, ul, l100, ok, k⟩ := h
    refine ⟨_, (pss_cons (ps_set (i := 3) scDu.nd rfl (Or.inl rfl) (pe_lst pa_nil))
      (pss_cons (ps_for PassesOwn.never rfl (pi_range1 rfl T.range (pa_cons (pe_callB call_len_seq (by rfl) T.len PySem.boot_len (pa_cons (pv 0) pa_nil)) pa_nil)) (pg_name (i := 4) scDu.nd rfl (Or.inl rfl))
      (pss_cons (ps_expr (pe_bm PySem.F.plainAttrs_list PySem.F.slot_list_append PySem.F.type_list_append mt_append (pv 3) (pa_cons (pe_tup (pa_cons (pe_op op_mul (pe_callTy call_int1 (by rfl) T.int (by decide +kernel) (pa_cons (pe_cmpR op_gt (pv 4) (pv 2) (nomark _)) pa_nil)) pe_int) (pa_cons (pv 4) pa_nil))) pa_nil)))
        (pss_one (ps_if (pt_chain op_lt op_le (pv 1) (pv 4) (pv 2))
        (pss_one (ps_expr (pe_bm PySem.F.plainAttrs_list PySem.F.slot_list_append PySem.F.type_list_append mt_append (pv 3) (pa_cons (pe_tup (pa_cons pe_int (pa_cons (pv 4) pa_nil))) pa_nil))))
        pss_nil))))
      (pss_cons (ps_set (i := 5) scDu.nd rfl (Or.inl rfl) (pe_lst pa_nil))
      (pss_cons (ps_for PassesOwn.never rfl (pi_list (pe_callB cr_sortedPO (by rfl) tSo (by decide +kernel) (pa_cons (pv 3) pa_nil))) (pg_tup rfl (pgs_cons (pg_name (i := 6) scDu.nd rfl (Or.inl rfl)) (pgs_cons (pg_name (i := 4) scDu.nd rfl (Or.inl rfl)) pgs_nil)))
      (pss_cons (ps_asg (pe_ix ix_list (pv 0) (pv 4) (fun _ _ => rfl)) (pg_tup rfl (pgs_cons (pg_name (i := 7) scDu.nd rfl (Or.inl rfl)) (pgs_cons (pg_name (i := 8) scDu.nd rfl (Or.inl rfl)) pgs_nil))))
        (pss_cons (ps_set (i := 9) scDu.nd rfl (Or.inl rfl) (pe_lst pa_nil))
        (pss_cons (ps_for PassesOwn.never rfl (pi_tup (pv 8)) (pg_name (i := 10) scDu.nd rfl (Or.inl rfl))
        (pss_cons (ps_if (pt_val (pe_callB call_isi (by rfl) T.isinstance (by decide +kernel) (pa_cons (pv 10) (pa_cons (pe_bltn (v := .ty "tuple") (by rfl) T.tuple (by decide +kernel) rfl) pa_nil))))
          (pss_cons (ps_set (i := 11) scDu.nd rfl (Or.inl rfl) (pe_ix ix_tup (pv 10) pe_int (fun _ _ => rfl)))
            (pss_cons (ps_set (i := 12) scDu.nd rfl (Or.inl rfl) (pe_ix ix_list (pe_lst (pa_cons pe_bl (pa_cons (pe_cmpR op_gt (pv 11) (pv 1) (nomark _)) (pa_cons (pe_cmpR op_ge (pv 11) (pv 2) (nomark _)) pa_nil)))) (pv 6) (fun _ _ => rfl)))
            (pss_cons (ps_set (i := 11) scDu.nd rfl (Or.inl rfl) (pe_op op_add (pv 11) (pe_op op_mul (pe_op op_sub (pv 2) (pv 1)) (pe_callTy call_int1 (by rfl) T.int (by decide +kernel) (pa_cons (pv 12) pa_nil)))))
            (pss_one (ps_set (i := 10) scDu.nd rfl (Or.inl rfl) (pe_tup (pa_cons (pe_ifExp (PW.pt (pw_and (pt_cmpR op_eq (pv 6) pe_int (nomark _)) (pw_and1 (pt_cmpR op_eq (pv 11) (pv 1) (nomark _))))) (pv 2) (pv 11)) pa_nil)))))))
          pss_nil)
          (pss_one (ps_expr (pe_bm PySem.F.plainAttrs_list PySem.F.slot_list_append PySem.F.type_list_append mt_append (pv 9) (pa_cons (pv 10) pa_nil))))))
        (pss_one (ps_expr (pe_bm PySem.F.plainAttrs_list PySem.F.slot_list_append PySem.F.type_list_append mt_append (pv 5) (pa_cons (pe_tup (pa_cons (pv 7) (pa_cons (pe_callTy call_tuple_of (by rfl) T.tuple (by decide +kernel) (pa_cons (pv 9) pa_nil)) pa_nil))) pa_nil))))))))
      (pss_one (ps_ret (pv 5))))))), ?_⟩
    refine ⟨Nat.zero_le _, fun tl htl => ?_⟩
    have ha1 := (Same.refl H).put (o := .lst []) htl
    refine ⟨_, rfl, a, _, rfl, .inl (SqL.of (ha1 _ _ ha)), ((us.length : Nat) : Int), rfl, by omega, by have := RA.1; omega, for_range (lo := 0) (n := us.length) (fun i σ Hc => ∃ (v4 : Option V) (xs : List V), σ = [some (.ref a), some (.int (lo : Nat)), some (.int (up : Nat)), some (.ref tl), v4, none, none, none, none, none, none, none, none] ∧
      Hc tl = some (.lst xs) ∧ All2 (PairAt Hc) xs (turns lo up i) ∧ Same H Hc) ?_ ?_ ?_⟩
    · exact ⟨_, [], rfl, upd_same, All2.nil, ha1⟩
    · rintro i σ Hc hi ⟨v4, xs, rfl, hT, PA, sm⟩
      rw [Int.zero_add]
      have tl2 := turns_len lo up i
      have hi' : i < rs.length := by rw [← RA.1]; exact hi
      have xl : xs.length ≤ 200 := by rw [PA.1]; omega
      have e0 : (fun i j : Int => V.int (i * j)) (if decide ((up : Int) < (i : Int)) = true then (1 : Int) else 0) 2 = V.int (((if up < i then 2 else 0 : Nat) : Nat) : Int) := by
        show V.int _ = _
        by_cases z : up < i
        · rw [if_pos z, decide_eq_true (by omega), if_pos rfl]
          rfl
        · rw [if_neg z, decide_eq_false (by omega), if_neg Bool.false_ne_true]
          rfl
      refine ⟨_, rfl, .inl ⟨rfl, _, SqL.of hT⟩, _, rfl, _, rfl, _, _, rfl, rfl, .inr ⟨_, rfl, _, _, rfl, rfl, .inr (by decide), _, rfl, (by show 2 ≤ sizeLine; decide), fun t1 ht1 => ?_⟩⟩
      rw [e0]
      generalize hq : (if up < i then 2 else 0 : Nat) = q
      have s1 : Same Hc (upd Hc t1 (.tup [.int (q : Nat), .int (i : Nat)])) := (Same.refl Hc).put ht1
      have e1 : (upd Hc t1 (.tup [.int (q : Nat), .int (i : Nat)])) t1 = some (.tup [.int (q : Nat), .int (i : Nat)]) := upd_same
      generalize upd Hc t1 (.tup [.int (q : Nat), .int (i : Nat)]) = H1 at s1 e1 ⊢
      have hT1 := s1 _ _ hT
      have sT1 : SameT H1 (upd H1 tl (.lst (xs ++ [.ref t1]))) := fun b zs q => by rw [upd_ne (fun e => by rw [e, hT1] at q; cases q)]; exact q
      have A1 : All2 (PairAt (upd H1 tl (.lst (xs ++ [.ref t1])))) (xs ++ [.ref t1]) (turns lo up i ++ [(q, i)]) := (PA.imp fun _ _ r => (r.sameT s1.T).sameT sT1).app (All2.one ⟨t1, rfl, sT1 _ _ e1⟩)
      have h2 : (upd H1 tl (.lst (xs ++ [.ref t1]))) tl = some (.lst (xs ++ [.ref t1])) := upd_same
      have s2 : Same H (upd H1 tl (.lst (xs ++ [.ref t1]))) := (sm.trans s1).put htl
      refine ⟨tl, xs, _, rfl, rfl, hT1, (by show _ < 16777216; omega), ?_⟩
      generalize upd H1 tl (.lst (xs ++ [.ref t1])) = H2 at A1 h2 s2 ⊢
      have fin : ¬ (lo < i ∧ i ≤ up) → turns lo up (i + 1) = turns lo up i ++ [(q, i)] := fun z => by
        show turns lo up i ++ tnA lo up i = _
        unfold tnA
        rw [if_neg z, hq, List.append_nil]
      refine ⟨_, rfl, _, rfl, _, _, rfl, rfl, _, rfl, ite2 (fun z => ?_) (fun z => ?_)⟩
      · have z1 : lo < i := by have := of_decide_eq_true z; omega
        refine ⟨_, rfl, _, _, rfl, rfl, _, rfl, ite2 (fun y => ?_) (fun y => ?_)⟩
        · have y1 : i ≤ up := by have := of_decide_eq_true y; omega
          refine ⟨_, rfl, .inl ⟨rfl, _, SqL.of h2⟩, _, rfl, (by show 2 ≤ sizeLine; decide), fun t2 ht2 => ?_⟩
          have s3 : Same H2 (upd H2 t2 (.tup [.int (1 : Nat), .int (i : Nat)])) := (Same.refl H2).put ht2
          have e3 : (upd H2 t2 (.tup [.int (1 : Nat), .int (i : Nat)])) t2 = some (.tup [.int (1 : Nat), .int (i : Nat)]) := upd_same
          refine ⟨tl, _, _, rfl, rfl, s3 _ _ h2, (by rw [List.length_append]; show _ + 1 < 16777216; omega), ?_⟩
          have e4 : upd H2 t2 (.tup [.int (1 : Nat), .int (i : Nat)]) = upd H2 t2 (.tup [.int 1, .int (i : Nat)]) := rfl
          rw [← e4]
          generalize upd H2 t2 (.tup [.int (1 : Nat), .int (i : Nat)]) = H3 at s3 e3 ⊢
          have hT3 := s3 _ _ h2
          have sT3 : SameT H3 (upd H3 tl (.lst (xs ++ [.ref t1] ++ [.ref t2]))) := fun b zs q => by rw [upd_ne (fun e => by rw [e, hT3] at q; cases q)]; exact q
          refine ⟨_, _, rfl, upd_same, ?_, (s2.trans s3).put htl⟩
          have et : turns lo up (i + 1) = turns lo up i ++ [(q, i)] ++ [(1, i)] := by
            show turns lo up i ++ tnA lo up i = _
            unfold tnA
            rw [hq, if_pos ⟨z1, y1⟩, List.append_assoc]
          rw [et]
          exact (A1.imp fun _ _ r => (r.sameT s3.T).sameT sT3).app (All2.one ⟨t2, rfl, sT3 _ _ e3⟩)
        · refine ⟨_, _, rfl, h2, ?_, s2⟩
          rw [fin (fun h => y (decide_eq_true (by omega)))]
          exact A1
      · refine ⟨_, rfl, iteF ?_⟩
        refine ⟨_, _, rfl, h2, ?_, s2⟩
        rw [fin (fun h => z (decide_eq_true (by omega)))]
        exact A1
    · rintro σ Hc ⟨v4, xs, rfl, hT, PA, sm⟩
      rw [RA.1] at PA
      have tl2 := turns_len lo up rs.length
      refine ⟨Nat.zero_le _, fun fo hfo => ?_⟩
      have s1 : Same Hc (upd Hc fo (.lst [])) := (Same.refl Hc).put hfo
      have e1 : (upd Hc fo (.lst [])) fo = some (.lst []) := upd_same
      have nf : fo ≠ tl := (ne_of_none hT hfo).symm
      generalize upd Hc fo (.lst []) = H1 at s1 e1 ⊢
      have PA1 : All2 (PairAt H1) xs (turns lo up rs.length) := PA.imp fun _ _ r => r.sameT s1.T
      refine ⟨_, rfl, tl, xs, keyOf H1, rfl, SqL.of (s1 _ _ hT), fun x hx => ?_, fun ys so hys hst hso => ?_⟩
      · obtain ⟨i, hi, e⟩ := List.mem_iff_getElem.mp hx
        obtain ⟨y, hy, R⟩ := PA1.get (List.getElem?_eq_getElem hi)
        rw [e] at R
        have := R.key
        obtain ⟨t, rfl, ht⟩ := R
        exact ⟨t, rfl, by rw [this]; exact ht⟩
      have PO := sorted_turns ul PA1 hys hst
      have s2 : Same H1 (upd H1 so (.lst ys)) := (Same.refl H1).put hso
      have e2 : (upd H1 so (.lst ys)) so = some (.lst ys) := upd_same
      have nso : so ≠ fo := (ne_of_none e1 hso).symm
      generalize upd H1 so (.lst ys) = H2 at s2 e2 ⊢
      have PO2 : All2 (PairAt H2) ys (ordered lo up rs.length) := PO.imp fun _ _ r => r.sameT s2.T
      have e1' := s2 _ _ e1
      have s02 : Same H H2 := sm.trans (s1.trans s2)
      have hfoH : H fo = none := by
        cases z : H fo with
        | none => rfl
        | some o => rw [sm _ _ z] at hfo; cases hfo
      have ol : ys.length ≤ 200 := by rw [hst.perm.length_eq, PA1.1]; omega
      refine ⟨so, rfl, ⟨_, SqL.of e2⟩, for_list (K := K) (a := so) (xs := ys) (fun i σ Hd => ∃ (v4 v6 v7 v8 v9 v10 v11 v12 : Option V) (zs : List V), σ = [some (.ref a), some (.int (lo : Nat)), some (.int (up : Nat)), some (.ref tl), v4, some (.ref fo), v6, v7, v8, v9, v10, v11, v12] ∧
        Hd fo = some (.lst zs) ∧ RwsAt Hd zs (((ordered lo up rs.length).take i).map (duR lo up rs)) ∧ (∀ b o, H2 b = some o → b ≠ fo → Hd b = some o)) ?_ ?_ ?_ ?_⟩
      · exact ⟨_, _, _, _, _, _, _, _, [], rfl, e1', by rw [List.take_zero]; exact All2.nil, fun b o h _ => h⟩
      · rintro i σ Hd _ ⟨v4, v6, v7, v8, v9, v10, v11, v12, zs, rfl, _, _, kd⟩
        exact SqL.of (kd _ _ e2 nso)
      · rintro i y σ Hd hy ⟨v4, v6, v7, v8, v9, v10, v11, v12, zs, rfl, hF, RZ, kd⟩
        obtain ⟨⟨tn, kk⟩, hx, pt, rfl, hpt⟩ := PO2.get hy
        have tok := (mem_ordered ul).mp (List.mem_of_getElem? hx)
        obtain ⟨kl, tcase⟩ : kk < rs.length ∧ _ := tok
        have t2 : tn ≤ 2 := by
          have tcase : (tn = 0 ∧ kk ≤ up) ∨ (tn = 1 ∧ lo < kk ∧ kk ≤ up) ∨ (tn = 2 ∧ up < kk) := tcase
          omega
        have hrr : rs[kk]? = some rs[kk] := List.getElem?_eq_getElem kl
        obtain ⟨v, hv, ra, ca, ga, ka, cvs, rfl, r1, r2, r3, r4, r5⟩ := All2.get' (RwsAt.sameT RA s02.T) hrr
        have okr := ok _ (List.mem_of_getElem? hrr)
        have dR := duR_cs (lo := lo) (up := up) (t := tn) hrr
        generalize rs[kk] = r at r2 r3 r5 okr dR
        have kdT : SameT H2 Hd := fun b zs q => kd b _ q fun e => by rw [e, e1'] at q; cases q
        have naf : a ≠ fo := ne_of_none ha hfoH
        refine ⟨pt, _, rfl, SqT.of (kdT _ _ hpt), rfl, _, _, rfl, _, _, rfl, rfl, ?_⟩
        refine ⟨_, rfl, _, rfl, a, us, kk, _, rfl, rfl, SqL.of (kd _ _ (s02 _ _ ha) naf), atI_nat hv, ra, _, rfl, SqT.of (kdT _ _ r1), rfl, _, _, rfl, _, _, rfl, rfl, ?_⟩
        refine ⟨Nat.zero_le _, fun ro hro => ?_⟩
        have s3 : Same Hd (upd Hd ro (.lst [])) := (Same.refl Hd).put hro
        have nrf : ro ≠ fo := (ne_of_none hF hro).symm
        refine ⟨_, rfl, ka, rfl, ⟨_, SqT.of (s3 _ _ (kdT _ _ r4))⟩, for_tup (K := K) (a := ka) (xs := cvs) (fun j σ He => ∃ (v10 v11 v12 : Option V) (ws : List V), σ = [some (.ref a), some (.int (lo : Nat)), some (.int (up : Nat)), some (.ref tl), some (.int (kk : Nat)), some (.ref fo), some (.int (tn : Nat)), some (.ref ca), some (.ref ka), some (.ref ro), v10, v11, v12] ∧
          He ro = some (.lst ws) ∧ All2 (ChoAt He) ws ((r.cs.take j).map (duC lo up tn)) ∧ Same Hd He) ?_ ?_ ?_ ?_⟩
        · exact ⟨_, _, _, [], rfl, upd_same, by rw [List.take_zero]; exact All2.nil, s3⟩
        · rintro j σ He _ ⟨v10, v11, v12, ws, rfl, _, _, sm3⟩
          exact SqT.of (sm3 _ _ (kdT _ _ r4))
        · rintro j y σ He hyj ⟨w10, w11, w12, ws, rfl, hW, CA, sm3⟩
          obtain ⟨c, hc, CR⟩ := r5.get hyj
          have CR := (CR.sameT kdT).sameT sm3.T
          have jl := (List.getElem?_eq_some_iff.mp hyj).1
          have cl : cvs.length ≤ 1000 := by rw [r5.1]; exact okr.2
          have wl : ws.length ≤ 1000 := by rw [CA.1, List.length_map, List.length_take]; omega
          -- what is put behind the row
          have fin : ∀ (He' : Hp) (v' : V) (w11 w12 : Option V), Same He He' → ChoAt He' v' (duC lo up tn c) → ∃ (v10 v11 v12 : Option V) (ws' : List V), ([some (.ref a), some (.int (lo : Nat)), some (.int (up : Nat)), some (.ref tl), some (.int (kk : Nat)), some (.ref fo), some (.int (tn : Nat)), some (.ref ca), some (.ref ka), some (.ref ro), some v', w11, w12] : L2.St) = [some (.ref a), some (.int (lo : Nat)), some (.int (up : Nat)), some (.ref tl), some (.int (kk : Nat)), some (.ref fo), some (.int (tn : Nat)), some (.ref ca), some (.ref ka), some (.ref ro), v10, v11, v12] ∧
              (upd He' ro (.lst (ws ++ [v']))) ro = some (.lst ws') ∧ All2 (ChoAt (upd He' ro (.lst (ws ++ [v'])))) ws' ((r.cs.take (j + 1)).map (duC lo up tn)) ∧ Same Hd (upd He' ro (.lst (ws ++ [v']))) := fun He' v' w11 w12 s4 hv' => by
            have sT : SameT He' (upd He' ro (.lst (ws ++ [v']))) := fun b zs q => by rw [upd_ne (fun e => by rw [e, s4 _ _ hW] at q; cases q)]; exact q
            have et : (r.cs.take (j + 1)).map (duC lo up tn) = (r.cs.take j).map (duC lo up tn) ++ [duC lo up tn c] := by rw [List.take_add_one, hc, List.map_append]; rfl
            refine ⟨_, _, _, ws ++ [v'], rfl, upd_same, ?_, (sm3.trans s4).put hro⟩
            rw [et]
            exact (CA.imp fun _ _ q => (q.sameT s4.T).sameT sT).app (All2.one (hv'.sameT sT))
          cases c with
          | int n =>
            cases CR
            refine ⟨_, rfl, _, _, _, _, false, rfl, .ty _, .base (.int _), kit_ty (by decide +kernel), _, rfl, ?_⟩
            refine iteF ⟨_, rfl, .inl ⟨rfl, _, SqL.of hW⟩, _, rfl, ro, ws, _, rfl, rfl, hW, (by show _ < 16777216; omega), fin He _ _ _ (Same.refl He) ?_⟩
            rw [duC_int]
            rfl
          | str x =>
            cases CR
            refine ⟨_, rfl, _, _, _, _, false, rfl, .ty _, .base (.str _), kit_ty (by decide +kernel), _, rfl, ?_⟩
            refine iteF ⟨_, rfl, .inl ⟨rfl, _, SqL.of hW⟩, _, rfl, ro, ws, _, rfl, rfl, hW, (by show _ < 16777216; omega), fin He _ _ _ (Same.refl He) ?_⟩
            rw [duC_str]
            rfl
          | num n =>
            obtain ⟨q, rfl, hq⟩ := CR
            refine ⟨_, rfl, _, _, _, _, true, rfl, .ty _, .base (.tup hq), kit_ty (by decide +kernel), _, rfl, ?_⟩
            refine iteT ?_
            refine ⟨_, rfl, q, _, 0, _, rfl, rfl, SqT.of hq, atI_nat (j := 0) rfl, ?_⟩
            refine ⟨_, rfl, _, rfl, _, _, rfl, rfl, _, rfl, _, rfl, _, _, rfl, rfl, (by show 3 ≤ sizeLine; decide), fun fl hfl => ?_⟩
            have s4 : Same He (upd He fl (.lst [.bl false, .bl (decide ((lo : Int) < (n : Int))), .bl (decide ((up : Int) ≤ (n : Int)))])) := (Same.refl He).put hfl
            have e4 : (upd He fl (.lst [.bl false, .bl (decide ((lo : Int) < (n : Int))), .bl (decide ((up : Int) ≤ (n : Int)))])) fl = some (.lst [.bl false, .bl (decide ((lo : Int) < (n : Int))), .bl (decide ((up : Int) ≤ (n : Int)))]) := upd_same
            generalize upd He fl (.lst [.bl false, .bl (decide ((lo : Int) < (n : Int))), .bl (decide ((up : Int) ≤ (n : Int)))]) = H4 at s4 e4 ⊢
            have fb : [V.bl false, .bl (decide ((lo : Int) < (n : Int))), .bl (decide ((up : Int) ≤ (n : Int)))][tn]? = some (.bl (farB lo up tn n)) := by
              have t3 : tn = 0 ∨ tn = 1 ∨ tn = 2 := by omega
              unfold farB
              rcases t3 with rfl | rfl | rfl
              · rfl
              · show some (V.bl (decide ((lo : Int) < (n : Int)))) = some (V.bl (decide (lo < n)))
                rw [show decide ((lo : Int) < (n : Int)) = decide (lo < n) from decide_eq_decide.mpr (by omega)]
              · show some (V.bl (decide ((up : Int) ≤ (n : Int)))) = some (V.bl (decide (up ≤ n)))
                rw [show decide ((up : Int) ≤ (n : Int)) = decide (up ≤ n) from decide_eq_decide.mpr (by omega)]
            refine ⟨_, rfl, fl, _, tn, _, rfl, rfl, SqL.of e4, atI_nat fb, ?_⟩
            have nm : ((n : Nat) : Int) + ((up : Nat) - (lo : Nat) : Int) * (if farB lo up tn n = true then 1 else 0) = ((numN lo up tn n : Nat) : Int) := by
              unfold numN
              cases farB lo up tn n with
              | true => rw [if_pos rfl, if_pos rfl]; omega
              | false => rw [if_neg Bool.false_ne_true, if_neg Bool.false_ne_true]; omega
            have dn := duC_num (n := n) lu t2
            generalize farB lo up tn n = fb0 at nm
            generalize numN lo up tn n = N at nm dn
            refine ⟨_, rfl, _, rfl, _, rfl, _, _, rfl, rfl, _, rfl, .inr ⟨_, rfl, _, _, rfl, rfl, .inr (by cases fb0 <;> decide), _, _, rfl, rfl, ?_⟩⟩
            rw [show (fun i j : Int => V.int (i + j)) ((n : Nat) : Int) (((up : Nat) - (lo : Nat) : Int) * (if fb0 = true then 1 else 0)) = V.int ((N : Nat) : Int) from congrArg V.int nm]
            have last : ∀ (R : Nat), duC lo up tn (.num n) = .num R → ∀ t9, H4 t9 = none → ∀ w11 w12, _ := fun R eR t9 ht9 w11 w12 => fin (upd H4 t9 (.tup [.int (R : Nat)])) (.ref t9) w11 w12 (s4.trans ((Same.refl H4).put ht9)) (by rw [eR]; exact ⟨t9, rfl, upd_same⟩)
            have hW9 : ∀ (R : Nat) t9, H4 t9 = none → (upd H4 t9 (.tup [.int (R : Nat)])) ro = some (.lst ws) := fun R t9 ht9 => ((Same.refl H4).put ht9) _ _ (s4 _ _ hW)
            refine ⟨_, rfl, rfl, _, rfl, ite2 (fun z => ?_) (fun z => ?_)⟩
            · have z1 : tn = 1 := by have := V.int.inj (of_decide_eq_true z); omega
              refine ⟨_, rfl, _, rfl, rfl, _, rfl, ite2 (fun y => ?_) (fun y => ?_)⟩
              · have y1 : N = lo := by have := V.int.inj (of_decide_eq_true y); omega
                rw [if_pos ⟨z1, y1⟩] at dn
                refine ⟨_, rfl, (by show 1 ≤ sizeLine; decide), fun t9 ht9 => ?_⟩
                exact ⟨_, rfl, .inl ⟨rfl, _, SqL.of (hW9 up t9 ht9)⟩, _, rfl, ro, ws, _, rfl, rfl, hW9 up t9 ht9, (by show _ < 16777216; omega), last up dn t9 ht9 _ _⟩
              · have y1 : ¬ N = lo := fun e => y (decide_eq_true (by rw [e]))
                rw [if_neg (fun h => y1 h.2)] at dn
                refine ⟨_, rfl, (by show 1 ≤ sizeLine; decide), fun t9 ht9 => ?_⟩
                exact ⟨_, rfl, .inl ⟨rfl, _, SqL.of (hW9 N t9 ht9)⟩, _, rfl, ro, ws, _, rfl, rfl, hW9 N t9 ht9, (by show _ < 16777216; omega), last N dn t9 ht9 _ _⟩
            · have z1 : ¬ tn = 1 := fun e => z (decide_eq_true (by rw [e]; rfl))
              rw [if_neg (fun h => z1 h.1)] at dn
              refine ⟨_, rfl, (by show 1 ≤ sizeLine; decide), fun t9 ht9 => ?_⟩
              exact ⟨_, rfl, .inl ⟨rfl, _, SqL.of (hW9 N t9 ht9)⟩, _, rfl, ro, ws, _, rfl, rfl, hW9 N t9 ht9, (by show _ < 16777216; omega), last N dn t9 ht9 _ _⟩
        · rintro σ He ⟨v10, v11, v12, ws, rfl, hW, CA, sm3⟩
          rw [r5.1, List.take_length] at CA
          have hF' := sm3 _ _ hF
          have hca : He ca = some (.tup [.str r.f, .ref ga, oS r.h]) := sm3 _ _ (kdT _ _ r2)
          refine ⟨_, rfl, .inl ⟨rfl, _, SqL.of hF'⟩, _, rfl, _, rfl, ro, _, rfl, .inl ⟨SqL.of hW, fun t8 ht8 => ?_⟩⟩
          have s5 : Same He (upd He t8 (.tup ws)) := (Same.refl He).put ht8
          have e5 : (upd He t8 (.tup ws)) t8 = some (.tup ws) := upd_same
          generalize upd He t8 (.tup ws) = H5 at s5 e5 ⊢
          refine ⟨(by show 2 ≤ sizeLine; decide), fun t9 ht9 => ?_⟩
          have s6 : Same H5 (upd H5 t9 (.tup [.ref ca, .ref t8])) := (Same.refl H5).put ht9
          have e6 : (upd H5 t9 (.tup [.ref ca, .ref t8])) t9 = some (.tup [.ref ca, .ref t8]) := upd_same
          generalize upd H5 t9 (.tup [.ref ca, .ref t8]) = H6 at s6 e6 ⊢
          have s36 := (sm3.trans s5).trans s6
          have s56 := s5.trans s6
          have il : i ≤ 200 := by have := (List.getElem?_eq_some_iff.mp hy).1; omega
          have zl : zs.length ≤ 200 := by rw [RZ.1, List.length_map, List.length_take]; omega
          have RW : RwAt H6 (.ref t9) (duR lo up rs (tn, kk)) := by
            rw [dR]
            exact ⟨t9, ca, ga, t8, ws, rfl, e6, s36 _ _ (kdT _ _ r2), s36 _ _ (kdT _ _ r3), s6 _ _ e5, CA.imp fun _ _ q => q.sameT s56.T⟩
          have hF6 := s36 _ _ hF
          have sT : SameT H6 (upd H6 fo (.lst (zs ++ [.ref t9]))) := fun b z q => by rw [upd_ne (fun e => by rw [e, hF6] at q; cases q)]; exact q
          have et : ((ordered lo up rs.length).take (i + 1)).map (duR lo up rs) = ((ordered lo up rs.length).take i).map (duR lo up rs) ++ [duR lo up rs (tn, kk)] := by rw [List.take_add_one, hx, List.map_append]; rfl
          refine ⟨fo, zs, _, rfl, rfl, hF6, (by show _ < 16777216; omega), ?_⟩
          refine ⟨_, _, _, _, _, _, _, _, zs ++ [.ref t9], rfl, upd_same, ?_, fun b o h n => by rw [upd_ne n]; exact s36 _ _ (kd b o h n)⟩
          rw [et]
          exact ((RwsAt.sameT RZ s36.T).sameT sT).app (All2.one (RW.sameT sT))
      · rintro σ Hd ⟨v4, v6, v7, v8, v9, v10, v11, v12, zs, rfl, hF, RZ, kd⟩
        rw [PO2.1, List.take_length, due_grown lu ul] at RZ
        exact ⟨_, rfl, k fo zs Hd hF RZ fun b o h => kd b o (s02 b o h) (ne_of_none h hfoH)⟩
end
end K2
end
section
set_option Elab.async false
set_option maxRecDepth 100000
set_option linter.all false
/-! the law -/
namespace K2
open PySem L2 PySem.Spec PyProof.Rows
abbrev sPen : Stmt := top 15
abbrev sLaw : Stmt := top 21
abbrev nLaw : List Str := ["_law_script", "_law_pen_here", "_law_words_here", "_law_turn", "_law_many", "_law_rows_here", "_law_tale", "_law_again", "_law_upper", "_law_lower", "_law_due_here", "_law_found"]
def spPen (K : PySem.W.Frag) : Sp := fun vs H Q _ => ∃ (a : Addr) (ns : List Int), vs = [.ref a] ∧ SqL K H a (ns.map V.int) ∧ ns.length ≤ 63 ∧ ∀ (p c : Addr) (H' : Hp), Pen H' p c ns 0 → Same H H' → Q (.ref p) H'
def spLaw (K : PySem.W.Frag) : Sp := fun vs H Q _ => ∃ (a : Addr) (ns : List Int), vs = [.ref a] ∧ SqL K H a (ns.map V.int) ∧ ns.length ≤ 63 ∧ ∀ H', Q (.bl true) H'
theorem cut63 (ns : List Int) (h : ns.length ≤ 63) : cutV (ns.map V.int) none (some 63) = ns.map V.int := by
  unfold cutV
  rw [show (63 : Int) = ((63 : Nat) : Int) from rfl, HT.sIx_nat, HT.sIx_none, List.drop_zero, Nat.sub_zero, List.length_map, Nat.min_eq_right h]
  rw [List.take_of_length_le (by rw [List.length_map]; exact Nat.le_refl _)]
section
variable {X : Cx} {CX : CXT} {k : Nat} {f : Addr} {fd : FuncData} {ps ks : List Str} {sp : Sp} {E : XK} {x : Str} {p pos : Pos} {tk : TA} {g : List Value → List Value → List Value} {gV : List V → List V → List V} {kws : List Keyword}
/-- f(k = v, ..), f a def -/
theorem pe_callK0 (F : FnOk X.prog X.w X.K X.mg X.base CX k f fd ps sp) (hr : Room k X.A) (hg : Gl X x) (hm : X.mg x = some (.ref f)) (kp : PySem.W.keepIn X.K (.ref f) = true) (hb : KBn X.K fd ps 0 ks g gV) (hx : Passes CX X E) (hkw : PK X kws tk) (hdb : (x == ("__debug__" : Str)) = false := by decide)
    (hall : (backToKw pos (keywordEach kws X.env)).all (·.1.isSome) = true := by rfl) (hks : (backToKw pos (keywordEach kws X.env)).filterMap (·.1) = ks := by rfl) (hpl : ((backTo pos (starEach [] X.env)).any (·.1) || (backToKw pos (keywordEach kws X.env)).any (·.1.isNone)) = false := by rfl) :
    PE X (.Call (.Name x p) [] kws pos) (fun σ H Q => tk σ H fun zs H2 => zs.length = ks.length ∧ sp (gV [] zs) H2 Q E) := by
  constructor
  intro pins s σ H Q I h
  refine wpAny_Call_Name_kw (ld_glob I hg hm ?_ hdb)
  refine PySem.W.callWith_KW0 (first := []) (h₀ := X.base) I.ok.mod.kin kp hall (thn (hkw.run pos pins s σ H _ I h) fun ws s2 ⟨zs, H2, I2, rz, l2, q2⟩ => ⟨I2.kIn, ?_⟩) hpl
  rw [hks]
  exact run_fnK (us := []) (vs := []) F hr hb hx I2 .nil rz rfl (by rw [← l2, rz.length]) q2
end
/-- a list of rows is no pen -/
theorem rows_ne {H : Hp} {p c a : Addr} {ns : List Int} {n : Nat} {us : List V} {rs : List Rw} (P : Pen H p c ns n) (h : H a = some (.lst us)) (R : RwsAt H us rs) (l : 2 ≤ rs.length) : a ≠ p := fun e => by
  obtain ⟨x, y, g, _⟩ := P.pen
  rw [e, g] at h
  have h : HO.lst [.ref c, .int x, .int y] = .lst us := Option.some.inj h
  injection h with h
  obtain ⟨r, _, ra, _, _, _, _, e, _⟩ := R.get (i := 1) (x := .int x) (by rw [← h]; rfl)
  cases e
/-- an instance is no pen -/
theorem rec_ne {H : Hp} {p c a C : Addr} {ns : List Int} {n : Nat} {rs : List Rw} (P : Pen H p c ns n) (h : RecAt C H a rs) : a ≠ p := fun e => by
  obtain ⟨x, y, g, _⟩ := P.pen
  obtain ⟨dx, r, vs, h1, _⟩ := h
  rw [e, g] at h1
  cases h1
section
variable {P : Program} {w : World} {K : PySem.W.Frag} {mg : Str → Option Value} {base : Heap}
theorem scPen : FnScope ["_law_script"] ["_law_script"] (defScope sPen) := ⟨rfl, rfl, rfl, by decide +kernel, rfl, by decide +kernel, by decide +kernel⟩
theorem scLaw : FnScope nLaw ["_law_script"] (defScope sLaw) := ⟨rfl, rfl, rfl, by decide +kernel, rfl, by decide +kernel, by decide +kernel⟩
theorem ok_pen {f : Addr} {fd : FuncData} (F : Fun K "_law_pen" "_law_pen" sPen f fd) (T : Bi mg) : FnOk P w K mg base CX0 1 f fd ["_law_script"] (spPen K) := by
  refine F.ok scPen (fun vs H Q E h => ?_) (fun cdv A outer s H vs Q E hr h => ?_)
  · obtain ⟨a, ns, rfl, _⟩ := h
    rfl
  · obtain ⟨a, ns, rfl, hS, hl, k⟩ := h
    refine ⟨_, (pss_one (ps_ret (pe_lst (pa_cons (pe_callTy call_list_of (by rfl) T.list (by decide +kernel) (pa_cons (pe_slice sl_list (pv 0) po_none (po_some pe_int)) pa_nil)) (pa_cons pe_int (pa_cons pe_int pa_nil)))))), ?_⟩
    refine ⟨_, rfl, _, rfl, a, _, rfl, hS, fun q hq => ⟨q, _, rfl, .inl (SqL.of upd_same), fun c hc => ⟨(by show 3 ≤ sizeLine; decide), fun p hp => ?_⟩⟩⟩
    rw [cut63 ns hl] at hc hp ⊢
    have hcp : c ≠ p := ne_of_none upd_same hp
    have s1 := ((Same.refl H).put (o := .lst (ns.map V.int)) hq)
    have s2 := s1.put (o := .lst (ns.map V.int)) (s1.free hc)
    exact k p c _ ⟨⟨0, 0, upd_same, by decide, by decide, by decide⟩, by rw [upd_ne hcp, upd_same], hl⟩ (s2.put (s2.free hp))
set_option maxHeartbeats 2000000 in
theorem ok_law {f fD fPn fWo fLr fDu fGn fM pM fLn fEq C : Addr} {mc : Value} {fd fdD fdPn fdWo fdLr fdDu fdGn fdM fdLn fdEq : FuncData} (F : Fun K "law" "law" sLaw f fd) (T : Bi mg) (Y : TxR K mg C) (O : OwnR K C)
    (D : Df K mg "_law_draw" sDraw fD fdD ["_law_pen_here", "_law_many"]) (GD : FnOk P w K mg base CX0 1 fD fdD ["_law_pen_here", "_law_many"] spDraw)
    (PN : Df K mg "_law_pen" sPen fPn fdPn ["_law_script"]) (GPn : FnOk P w K mg base CX0 1 fPn fdPn ["_law_script"] (spPen K))
    (WO : Df K mg "_law_words" sWords fWo fdWo ["_law_pen_here", "_law_many"]) (GWo : FnOk P w K mg base CX0 2 fWo fdWo ["_law_pen_here", "_law_many"] spWordsB)
    (LR : Df K mg "_law_rows" sLr fLr fdLr ["_law_pen_here", "_law_words_here", "_law_many"]) (GLr : FnOk P w K mg base CX0 3 fLr fdLr ["_law_pen_here", "_law_words_here", "_law_many"] spLr)
    (DU : Df K mg "_law_due" sDu fDu fdDu ["_law_rows_here", "_law_lower", "_law_upper"]) (GDu : FnOk P w K mg base CX0 1 fDu fdDu ["_law_rows_here", "_law_lower", "_law_upper"] spDue)
    (GN : Df K mg "grown" sGn fGn fdGn ["record", "inner", "outer"]) (GGn : FnOk P w K mg base CX0 7 fGn fdGn ["record", "inner", "outer"] (spGn C)) (bK : KBn K fdGn ["record", "inner", "outer"] 0 ["inner", "outer", "record"] (fun us ws => us ++ (ws.drop 2 ++ ws.take 2)) (fun vs zs => vs ++ (zs.drop 2 ++ zs.take 2)))
    (cR : ClX.CRead K C mc) (cM : ClX.CMet K C mc "made" pM fM) (GM : FnOk P w K mg base CX0 6 fM fdM ["cls", "rows"] (spMd C)) (bM : Binds K fdM ["cls", "rows"] [])
    (GLn : FnOk P w K mg base CX0 1 fLn fdLn ["self"] (spLn C)) (bLn : Binds K fdLn ["self"] []) (aLn : PySem.W.findIn K (.ref C) "__len__" = some (some (.ref fLn))) (iLn : PySem.W.isFn K (.ref fLn) = true)
    (GEq : FnOk P w K mg base CX0 1 fEq fdEq ["self", "other"] (spQe C)) (bEq : Binds K fdEq ["self", "other"] []) (aEq : PySem.W.findIn K (.ref C) "__eq__" = some (some (.ref fEq))) (iEq : PySem.W.isFn K (.ref fEq) = true) : FnG P w K mg base 8 f fd ["_law_script"] (spLaw K) := by
  refine okG F scLaw (fun vs H Q E h => ?_) (fun cdv A outer s H vs Q E hr gu h => ?_)
  · obtain ⟨a, ns, rfl, _⟩ := h
    rfl
  · obtain ⟨a, ns, rfl, hS, hl63, kQ⟩ := h
    have hr1 : Room 1 _ := hr.mono (by decide)
    have hr2 : Room 2 _ := hr.mono (by decide)
    have hr3 : Room 3 _ := hr.mono (by decide)
    have hr6 : Room 6 _ := hr.mono (by decide)
    have hr7 : Room 7 _ := hr
    refine ⟨_, (pss_cons (ps_set (i := 1) scLaw.nd rfl (Or.inl rfl) (pe_call GPn hr1 (by rfl) PN.m PN.F.kp PN.b .nil pass0 (pa_cons (pv 0) pa_nil)))
      (pss_cons (ps_set (i := 2) scLaw.nd rfl (Or.inl rfl) (pe_call GWo hr2 (by rfl) WO.m WO.F.kp WO.b .nil pass0 (pa_cons (pv 1) (pa_cons pe_int pa_nil))))
      (pss_cons (ps_for PassesOwn.never rfl (pi_range1 rfl T.range (pa_cons pe_int pa_nil)) (pg_name (i := 3) scLaw.nd rfl (Or.inl rfl))
      (pss_cons (ps_set (i := 4) scLaw.nd rfl (Or.inl rfl) (pe_op op_add pe_int (pe_call GD hr1 (by rfl) D.m D.F.kp D.b .nil pass0 (pa_cons (pv 1) (pa_cons pe_int pa_nil)))))
        (pss_cons (ps_set (i := 5) scLaw.nd rfl (Or.inl rfl) (pe_call GLr hr3 (by rfl) LR.m LR.F.kp LR.b .nil pass0 (pa_cons (pv 1) (pa_cons (pv 2) (pa_cons (pv 4) pa_nil)))))
        (pss_cons (ps_set (i := 6) scLaw.nd rfl (Or.inl rfl) (ClX.pe_cmeth (pe_glob (v := .ref C) (by rfl) Y.mgC rfl) cR cM (GM.raw bM .nil) hr6 pass0 (pa_cons (pv 5) pa_nil)))
        (pss_one (ps_for PassesOwn.never rfl (pi_range1 rfl T.range (pa_cons pe_int pa_nil)) (pg_name (i := 7) scLaw.nd rfl (Or.inl rfl))
        (pss_cons (ps_set (i := 8) scLaw.nd rfl (Or.inl rfl) (pe_ix ix_list (pe_lst (pa_cons (pe_op op_add pe_int (pe_call GD hr1 (by rfl) D.m D.F.kp D.b .nil pass0 (pa_cons (pv 1) (pa_cons (pe_op op_sub (pe_callB call_len_seq (by rfl) T.len PySem.boot_len (pa_cons (pv 5) pa_nil)) pe_int) pa_nil)))) (pa_cons (pe_op op_sub (pe_callB call_len_seq (by rfl) T.len PySem.boot_len (pa_cons (pv 5) pa_nil)) pe_int) pa_nil))) (pe_op op_fdivN (pe_call GD hr1 (by rfl) D.m D.F.kp D.b .nil pass0 (pa_cons (pv 1) (pa_cons pe_int pa_nil))) pe_int) (fun _ _ => rfl)))
          (pss_cons (ps_set (i := 9) scLaw.nd rfl (Or.inl rfl) (pe_ix ix_list (pe_lst (pa_cons (pe_call GD hr1 (by rfl) D.m D.F.kp D.b .nil pass0 (pa_cons (pv 1) (pa_cons (pv 8) pa_nil))) (pa_cons pe_int (pa_cons (pe_op op_sub (pv 8) pe_int) pa_nil)))) (pe_call GD hr1 (by rfl) D.m D.F.kp D.b .nil pass0 (pa_cons (pv 1) (pa_cons pe_int pa_nil))) (fun _ _ => rfl)))
          (pss_cons (ps_set (i := 10) scLaw.nd rfl (Or.inl rfl) (pe_call GDu hr1 (by rfl) DU.m DU.F.kp DU.b .nil pass0 (pa_cons (pv 5) (pa_cons (pv 9) (pa_cons (pv 8) pa_nil)))))
          (pss_cons (ps_set (i := 11) scLaw.nd rfl (Or.inl rfl) (pe_call GGn hr7 (by rfl) GN.m GN.F.kp GN.b .nil pass0 (pa_cons (pv 6) (pa_cons (pv 9) (pa_cons (pv 8) pa_nil)))))
          (pss_cons (ps_if (PW.pt (pw_or (pt_not (pt_val (pe_callB call_isi (by rfl) T.isinstance (by decide +kernel) (pa_cons (pv 11) (pa_cons (pe_glob (v := .ref C) (by rfl) Y.mgC rfl) pa_nil))))) (pw_or (pt_cmpR op_ne (pe_callB (call_reprU gu hr.units) (by rfl) T.repr (by decide +kernel) (pa_cons (pe_fld (pv 11) rfl) pa_nil)) (pe_callB (call_reprU gu hr.units) (by rfl) T.repr (by decide +kernel) (pa_cons (pe_callTy call_tuple_of (by rfl) T.tuple (by decide +kernel) (pa_cons (pv 10) pa_nil)) pa_nil)) (nomark _)) (pw_or1 (pt_cmpR op_ne (pe_callB (call_lenO GLn bLn pass0 hr2 aLn iLn) (by rfl) T.len PySem.boot_len (pa_cons (pv 11) pa_nil)) (pe_callB call_len_seq (by rfl) T.len PySem.boot_len (pa_cons (pv 10) pa_nil)) (nomark _))))))
          (pss_one (ps_ret pe_bl))
          pss_nil)
          (pss_cons (ps_if (PW.pt (pw_or (pt_cmpR op_ne (pe_callB (call_reprU gu hr.units) (by rfl) T.repr (by decide +kernel) (pa_cons (pe_fld (pv 6) rfl) pa_nil)) (pe_callB (call_reprU gu hr.units) (by rfl) T.repr (by decide +kernel) (pa_cons (pe_callTy call_tuple_of (by rfl) T.tuple (by decide +kernel) (pa_cons (pv 5) pa_nil)) pa_nil)) (nomark _)) (pw_or1 (pt_not (pt_cmpR (op_eqO GEq bEq pass0 hr1 (Nat.lt_of_succ_lt (hu_of hr)) aEq iEq) (pe_callK0 GGn hr7 (by rfl) GN.m GN.F.kp bK pass0 (pk_cons (pv 9) (pk_cons (pv 8) (pk_cons (pv 6) pk_nil)))) (pv 11) (nomark _))))))
          (pss_one (ps_ret pe_bl))
          pss_nil)
          (pss_cons (ps_set (i := 5) scLaw.nd rfl (Or.inl rfl) (pv 10))
          (pss_one (ps_set (i := 6) scLaw.nd rfl (Or.inl rfl) (pv 11))))))))))))))))
      (pss_one (ps_ret pe_bl))))), ?_⟩
    refine ⟨_, rfl, a, ns, rfl, hS, hl63, fun p c H1 P1 s1 => ?_⟩
    refine ⟨_, rfl, p, c, ns, 0, 4, rfl, P1, by decide, by decide, fun l ws H2 wd w4 hl lp k2 P2 => ?_⟩
    refine ⟨_, rfl, by decide, by decide, for_range (lo := 0) (n := 4) (fun i σ Hc => ∃ (v3 v4 v5 v6 v7 v8 v9 v10 v11 : Option V), σ = [some (.ref a), some (.ref p), some (.ref l), v3, v4, v5, v6, v7, v8, v9, v10, v11] ∧ Hc l = some (.lst (ws.map V.str)) ∧ Pen Hc p c ns (250 + i * 200)) ?_ ?_ ?_⟩
    · exact ⟨_, _, _, _, _, _, _, _, _, rfl, hl, P2.mono (by omega)⟩
    · rintro i σ Hc hi ⟨v3, v4, v5, v6, v7, v8, v9, v10, v11, rfl, hlc, Pc⟩
      refine ⟨_, rfl, p, c, ns, 250 + i * 200, 8, rfl, Pc, by omega, by decide, by decide, fun w1 H3 w10 w11 k3 P3 => ⟨_, _, rfl, rfl, ?_⟩⟩
      obtain ⟨y, rfl⟩ : ∃ j : Nat, w1 = (j : Int) := ⟨w1.toNat, (Int.toNat_of_nonneg w10).symm⟩
      rw [show (fun i j : Int => V.int (i + j)) 2 ((y : Nat) : Int) = V.int ((2 + y : Nat) : Int) from congrArg V.int (by omega)]
      refine ⟨_, rfl, _, rfl, _, rfl, p, c, l, ns, 250 + i * 200 + 1, 2 + y, ws, rfl, P3, by omega, k3 _ _ hlc lp, lp, w4, wd.vw, by omega, by omega, fun ra us rs H4 hra RA rl RB rp k4 P4 => ?_⟩
      refine ⟨rfl, _, rfl, ra, us, rs, rfl, hra, RA, (fun e => by rw [e] at rl; have q : (0 : Nat) = 2 + y := rl; omega), by omega, rowsOk_fit fun r hr => (RB r hr).fit (by omega), fun ta H5 ct s5 => ?_⟩
      have hl5 := s5 _ _ (k4 _ _ (k3 _ _ hlc lp) lp)
      refine ⟨_, rfl, by decide, by decide, for_range (lo := 0) (n := 2) (fun j σ Hc => ∃ (v3 v4 v7 v8 v9 v10 v11 : Option V) (ra ta : Addr) (us : List V) (rs : List Rw), σ = [some (.ref a), some (.ref p), some (.ref l), v3, v4, some (.ref ra), some (.ref ta), v7, v8, v9, v10, v11] ∧ Hc l = some (.lst (ws.map V.str)) ∧
        Hc ra = some (.lst us) ∧ RwsAt Hc us rs ∧ ra ≠ p ∧ RecAt C Hc ta rs ∧ 2 ≤ rs.length ∧ rs.length ≤ 10 * 2 ^ j ∧ (∀ r ∈ rs, RwB (10 * 2 ^ j) r) ∧ Pen Hc p c ns (250 + i * 200 + 181 + 4 * j)) ?_ ?_ ?_⟩
      · exact ⟨_, _, _, _, _, _, _, ra, ta, us, rs, rfl, hl5, s5 _ _ hra, RwsAt.sameT RA s5.T, rp, ct, by omega, by omega, fun r hr => (RB r hr).mono (by omega), (P4.same s5).mono (by omega)⟩
      · clear hra RA rl RB rp ct hl5 s5 k4 P4 k3 P3 hlc Pc w10 w11
        rintro j σ Hc hj ⟨v3, v4, v7, v8, v9, v10, v11, ra, ta, us, rs, rfl, hlc, hra, RA, rp, ct, l2, lB, RB, Pc⟩
        have B20 : 10 * 2 ^ j ≤ 20 := by
          have : j = 0 ∨ j = 1 := by omega
          rcases this with rfl | rfl <;> decide
        have Bs : 10 * 2 ^ (j + 1) = 2 * (10 * 2 ^ j) := by rw [Nat.pow_succ]; omega
        rw [Bs]
        generalize 10 * 2 ^ j = B at B20 lB RB
        have ul := RA.1
        generalize hn : 250 + i * 200 + 181 + 4 * j = n at Pc
        have hn2 : n + 4 = 250 + i * 200 + 181 + 4 * (j + 1) := by omega
        rw [← hn2]
        have n1 : n ≤ 2000 := by omega
        clear hn hn2
        -- the upper row
        refine ⟨_, rfl, _, rfl, ra, us, rfl, .inl (SqL.of hra), _, _, rfl, rfl, p, c, ns, n, _, rfl, Pc, by omega, by omega, by omega, fun w1 H3 w10 w11 k3 P3 => ⟨_, _, rfl, rfl, ?_⟩⟩
        obtain ⟨y1, rfl⟩ : ∃ j : Nat, w1 = (j : Int) := ⟨w1.toNat, (Int.toNat_of_nonneg w10).symm⟩
        rw [show (fun i j : Int => V.int (i + j)) 1 ((y1 : Nat) : Int) = V.int ((1 + y1 : Nat) : Int) from congrArg V.int (by omega)]
        have hra3 := k3 _ _ hra rp
        refine ⟨_, rfl, ra, us, rfl, .inl (SqL.of hra3), _, _, rfl, rfl, ?_⟩
        rw [show (fun i j : Int => V.int (i - j)) ((us.length : Nat) : Int) 1 = V.int ((us.length - 1 : Nat) : Int) from congrArg V.int (by omega)]
        refine ⟨(by show 2 ≤ sizeLine; decide), fun t1 ht1 => ?_⟩
        have k4 : Keep p H3 (upd H3 t1 (.lst [.int ((1 + y1 : Nat) : Int), .int ((us.length - 1 : Nat) : Int)])) := (Keep.refl p H3).new ht1
        have P4 := P3.new (o := .lst [.int ((1 + y1 : Nat) : Int), .int ((us.length - 1 : Nat) : Int)]) ht1
        have e4 : (upd H3 t1 (.lst [.int ((1 + y1 : Nat) : Int), .int ((us.length - 1 : Nat) : Int)])) t1 = some (.lst [.int ((1 + y1 : Nat) : Int), .int ((us.length - 1 : Nat) : Int)]) := upd_same
        have nt1 := (P3.pne ht1).symm
        generalize upd H3 t1 (.lst [.int ((1 + y1 : Nat) : Int), .int ((us.length - 1 : Nat) : Int)]) = H4 at k4 P4 e4 ⊢
        refine ⟨_, rfl, p, c, ns, n + 1, 3, rfl, P4, by omega, by decide, by decide, fun w2 H5 w20 w21 k5 P5 => ?_⟩
        obtain ⟨up, ia, hup, u1, u2⟩ : ∃ (up j : Nat), [V.int ((1 + y1 : Nat) : Int), .int ((us.length - 1 : Nat) : Int)][j]? = some (.int (up : Nat)) ∧ (1 ≤ up ∧ w2.fdiv 2 = (j : Int)) ∧ up + 1 ≤ us.length := by
          have w3 : w2 = 0 ∨ w2 = 1 ∨ w2 = 2 := by omega
          rcases w3 with rfl | rfl | rfl
          · exact ⟨_, 0, rfl, ⟨by omega, rfl⟩, by omega⟩
          · exact ⟨_, 0, rfl, ⟨by omega, rfl⟩, by omega⟩
          · exact ⟨_, 1, rfl, ⟨by omega, rfl⟩, by omega⟩
        refine ⟨_, _, rfl, rfl, ⟨by decide, by decide⟩, ?_⟩
        rw [show (fun i j : Int => V.int (i.fdiv j)) w2 2 = V.int (ia : Nat) from congrArg V.int u1.2]
        refine ⟨t1, _, ia, _, rfl, rfl, SqL.of (k5 _ _ e4 nt1), atI_nat hup, ?_⟩
        have k05 := (k3.trans k4).trans k5
        have u1 := u1.1
        clear hup
        -- the lower row
        refine ⟨_, rfl, _, rfl, p, c, ns, n + 1 + 1, _, rfl, P5, by omega, by omega, by omega, fun w1 H6 w10 w11 k6 P6 => ?_⟩
        obtain ⟨y2, rfl⟩ : ∃ j : Nat, w1 = (j : Int) := ⟨w1.toNat, (Int.toNat_of_nonneg w10).symm⟩
        refine ⟨_, rfl, _, _, rfl, rfl, ?_⟩
        rw [show (fun i j : Int => V.int (i - j)) ((up : Nat) : Int) 1 = V.int ((up - 1 : Nat) : Int) from congrArg V.int (by omega)]
        refine ⟨(by show 3 ≤ sizeLine; decide), fun t2 ht2 => ?_⟩
        have k7 : Keep p H6 (upd H6 t2 (.lst [.int ((y2 : Nat) : Int), .int 0, .int ((up - 1 : Nat) : Int)])) := (Keep.refl p H6).new ht2
        have P7 := P6.new (o := .lst [.int ((y2 : Nat) : Int), .int 0, .int ((up - 1 : Nat) : Int)]) ht2
        have e7 : (upd H6 t2 (.lst [.int ((y2 : Nat) : Int), .int 0, .int ((up - 1 : Nat) : Int)])) t2 = some (.lst [.int ((y2 : Nat) : Int), .int 0, .int ((up - 1 : Nat) : Int)]) := upd_same
        have nt2 := (P6.pne ht2).symm
        generalize upd H6 t2 (.lst [.int ((y2 : Nat) : Int), .int 0, .int ((up - 1 : Nat) : Int)]) = H7 at k7 P7 e7 ⊢
        refine ⟨_, rfl, p, c, ns, n + 1 + 1 + 1, 3, rfl, P7, by omega, by decide, by decide, fun w2 H8 w20 w21 k8 P8 => ?_⟩
        obtain ⟨y3, rfl⟩ : ∃ j : Nat, w2 = (j : Int) := ⟨w2.toNat, (Int.toNat_of_nonneg w20).symm⟩
        obtain ⟨lo, hlo, lu⟩ : ∃ lo : Nat, [V.int ((y2 : Nat) : Int), .int 0, .int ((up - 1 : Nat) : Int)][y3]? = some (.int (lo : Nat)) ∧ lo < up := by
          have w3 : y3 = 0 ∨ y3 = 1 ∨ y3 = 2 := by omega
          rcases w3 with rfl | rfl | rfl
          · exact ⟨_, rfl, by omega⟩
          · exact ⟨0, rfl, by omega⟩
          · exact ⟨_, rfl, by omega⟩
        refine ⟨t2, _, y3, _, rfl, rfl, SqL.of (k8 _ _ e7 nt2), atI_nat hlo, ?_⟩
        have k08 := ((k05.trans k6).trans k7).trans k8
        have hl8 := k08 _ _ hlc lp
        have hra8 := k08 _ _ hra rp
        have RA8 := RwsAt.sameT RA (KeepT Pc k08)
        have ct8 := RecAt.keep Pc ct k08
        have P8 : Pen H8 p c ns (n + 4) := P8
        clear hlo hra hra3 RA ct e4 e7 k3 k4 k5 k6 k7 k8 k05 P3 P4 P5 P6 P7 nt1 nt2 ht1 ht2 hlc w10 w11 w20 w21
        have ul2 : up < rs.length := by omega
        have ok := rowsOk_fit fun r hr => (RB r hr).fit (show B ≤ 200 by omega)
        have l100 : rs.length ≤ 100 := by omega
        have gl := grown_len (rs := rs) (Nat.le_of_lt lu) ul2
        have gB := grown_B (i := lo) (o := up) RB (by omega)
        have gfit : ∀ r ∈ grownM rs lo up, RwFit r := fun r hr => (gB r hr).fit (by omega)
        -- what is due, what is found
        refine ⟨_, rfl, _, rfl, _, rfl, ra, us, rs, lo, up, rfl, hra8, RA8, Nat.le_of_lt lu, ul2, l100, ok, fun da us2 H9 hda DA s9 => ?_⟩
        refine ⟨_, rfl, _, rfl, _, rfl, ta, rs, lo, up, rfl, ct8.same s9, Nat.le_of_lt lu, ul2, l100, ok, fun fa H10 cf s10 => ?_⟩
        have hda10 := s10 _ _ hda
        have DA10 := RwsAt.sameT DA s10.T
        have ct10 := (ct8.same s9).same s10
        have s810 := s9.trans s10
        -- found is a Record
        refine ⟨_, rfl, _, _, _, _, true, rfl, .own C, cf.ty Y.cl O, kit_own C, _, rfl, ?_⟩
        have gl100 : (grownM rs lo up).length ≤ 100 := by omega
        have G := rws_fit gfit gl100
        have gD : (rwsD (grownM rs lo up)).shown.length ≤ sizeLine := G.fits (by decide)
        obtain ⟨dxf, rf, wf, f1, f2, f3⟩ := cf
        have cf : RecAt C H10 fa (grownM rs lo up) := ⟨dxf, rf, wf, f1, f2, f3⟩
        refine ⟨_, rfl, fa, C, dxf, _, _, rfl, f1, Y.cl, Y.nR, fldR_rows _, .inr ⟨rf, rwsD (grownM rs lo up), rfl, rws_dp (SqT.of f2) f3, G.show_, G.nod, G.dep, gD, ?_⟩⟩
        refine ⟨_, rfl, da, _, rfl, .inl ⟨SqL.of hda10, fun tu htu => ?_⟩⟩
        have s11 : Same H10 (upd H10 tu (.tup us2)) := (Same.refl H10).put htu
        have e11 : (upd H10 tu (.tup us2)) tu = some (.tup us2) := upd_same
        generalize upd H10 tu (.tup us2) = H11 at s11 e11 ⊢
        refine .inr ⟨tu, rwsD (grownM rs lo up), rfl, rws_dp (SqT.of e11) (RwsAt.sameT DA10 s11.T), G.show_, G.nod, G.dep, gD, rfl, _, rfl, ?_⟩
        rw [show (!decide ((V.str (rwsD (grownM rs lo up)).shown) = V.str (rwsD (grownM rs lo up)).shown)) = false by simp]
        have cf11 := cf.same s11
        have hda11 := s11 _ _ hda10
        have gl11 : us2.length = (grownM rs lo up).length := DA10.1
        refine ⟨_, rfl, fa, dxf, fldR rf, rfl, s11 _ _ f1, fa, grownM rs lo up, rfl, cf11, _, rfl, by omega, ?_⟩
        refine ⟨_, rfl, da, _, rfl, .inl (SqL.of hda11), rfl, _, rfl, ?_⟩
        rw [gl11, show (!decide ((V.int (((grownM rs lo up).length : Nat) : Int)) = V.int (((grownM rs lo up).length : Nat) : Int))) = false by simp]
        refine iteF ?_
        -- the rows of the record before
        have R0 := rws_fit (fun r hr => (RB r hr).fit (show B ≤ 200 by omega)) l100
        have rD : (rwsD rs).shown.length ≤ sizeLine := R0.fits (by decide)
        have ct11 := ct10.same s11
        obtain ⟨dxt, rt, wt, t1, t2, t3⟩ := ct11
        refine ⟨_, rfl, ta, C, dxt, _, _, rfl, t1, Y.cl, Y.nR, fldR_rows _, .inr ⟨rt, rwsD rs, rfl, rws_dp (SqT.of t2) t3, R0.show_, R0.nod, R0.dep, rD, ?_⟩⟩
        have ct11 : RecAt C H11 ta rs := ⟨dxt, rt, wt, t1, t2, t3⟩
        have s811 := s810.trans s11
        refine ⟨_, rfl, ra, _, rfl, .inl ⟨SqL.of (s811 _ _ hra8), fun tv htv => ?_⟩⟩
        have s12 : Same H11 (upd H11 tv (.tup us)) := (Same.refl H11).put htv
        have e12 : (upd H11 tv (.tup us)) tv = some (.tup us) := upd_same
        generalize upd H11 tv (.tup us) = H12 at s12 e12 ⊢
        refine .inr ⟨tv, rwsD rs, rfl, rws_dp (SqT.of e12) (RwsAt.sameT RA8 (s811.trans s12).T), R0.show_, R0.nod, R0.dep, rD, rfl, _, rfl, ?_⟩
        rw [show (!decide ((V.str (rwsD rs).shown) = V.str (rwsD rs).shown)) = false by simp]
        refine ⟨_, rfl, _, rfl, _, rfl, rfl, ta, rs, lo, up, rfl, ct11.same s12, Nat.le_of_lt lu, ul2, l100, ok, fun ga H13 cg s13 => ?_⟩
        have cf13 := (cf11.same s12).same s13
        obtain ⟨dxg, rg, wg, g1, g2, g3⟩ := cg
        have cg : RecAt C H13 ga (grownM rs lo up) := ⟨dxg, rg, wg, g1, g2, g3⟩
        refine ⟨_, rfl, ga, dxg, fldR rg, rfl, g1, ⟨_, cf13.ty Y.cl O, by unfold PySem.W.notFirst; simp⟩, ga, fa, grownM rs lo up, rfl, cg, cf13, gfit, gl100, true, rfl, _, rfl, iteF ?_⟩
        have s1113 := s12.trans s13
        have P13 := P8.same (s811.trans s1113)
        exact ⟨_, rfl, _, rfl, _, _, _, _, _, _, _, da, fa, us2, grownM rs lo up, rfl, s1113 _ _ (s811 _ _ hl8), s1113 _ _ hda11, RwsAt.sameT DA10 (s11.trans s1113).T, rows_ne P13 (s1113 _ _ hda11) (RwsAt.sameT DA10 (s11.trans s1113).T) (by omega), cf13, by omega, by omega, gB, P13⟩
      · rintro σ Hc ⟨v3, v4, v7, v8, v9, v10, v11, ra, ta, us, rs, rfl, hlc, hra, RA, rp, ct, l2, lB, RB, Pc⟩
        exact ⟨_, _, _, _, _, _, _, _, _, rfl, hlc, Pc.mono (by omega)⟩
    · rintro σ Hc ⟨v3, v4, v5, v6, v7, v8, v9, v10, v11, rfl, hlc, Pc⟩
      exact kQ _
end
end K2
end
section
set_option Elab.async false
set_option maxRecDepth 100000
set_option linter.all false
namespace K2
open PySem L2 PySem.Spec PyProof.Rows
section
variable {P : Program} {w : World} {K : PySem.W.Frag} {mg mb : Str → Option Value} {k : Nat} {fa a : Addr} {fd : FuncData} {x : Str} {s : Shared} {us : List Value} {ns : List Int}
/-- the call from the claim's own caller, told of any heap of which nothing but the script is tracked -/
theorem call_core {sp : Sp} {H : Hp} (kin : K.In s.heap) (gl : s.heap.Ns mainGlobals mg) (bl : s.heap.Ns builtinsNs mb) (bb : ∀ y : Str, y ≠ "__name__" → mb y = bootBuiltins y) (lim : s.heap.NoLimit) (gn : s.gens = #[])
    (ha : s.heap.get? a = some { cls := .type "list", data := .seq us.toArray }) (hr : Room k callerA) (F : ∀ base : Heap, K.In base → base.Ns mainGlobals mg → FnG P w K mg base k fa fd [x] sp) (bind : ∀ (z : Shared) (u : Value), BindsTo z fd ⟨[u], []⟩ [(x, u)])
    (only : Only H) (ok : HOk P w H s.heap) (lone : ∀ b, H b ≠ none → b = a) (apart : H a ≠ none → K.lookup a = none) (hsp : sp [.ref a] H (fun v _ => v = .bl true) fun _ _ _ => False) :
    codeAny (model P w) callerA (.call (.ref fa) ⟨[.ref a], []⟩) (fun r z => r = .ok (.ret (.bool true)) ∧ OldK s.heap z.heap ∧ z.os = s.os ∧ AllBare z.gens) s := by
  have un_dict : ∀ {b : Addr} {o : Obj} {es : Array DictEntry} {ep : Nat}, s.heap.get? b = some o → o.data = .dict es ep → H b = none := fun {b o es ep} e d => by
    by_cases q : H b = none
    · exact q
    · have := lone b q
      subst this
      rw [ha] at e
      cases e
      exact absurd (show Data.seq us.toArray _ = Data.dict es ep from d) (fun z => nomatch z)
  have ns2 : ∀ {b : Addr} {m : Str → Option Value}, s.heap.Ns b m → (hidT s.heap H).Ns b m := fun ⟨o, es, ep, e, d, r⟩ => ⟨o, es, ep, hidT_get e (un_dict e d), d, r⟩
  have kin2 : K.In (hidT s.heap H) := fun b o e => hidT_get (kin b o e) (by
    by_cases q : H b = none
    · exact q
    · have := lone b q
      subst this
      rw [apart q] at e
      cases e)
  have e0 : Env0 P w K mg (hidT s.heap H) callerA [] s H := ⟨rfl, ⟨kin2, ns2 gl, ⟨mb, ns2 bl, bb⟩, let ⟨mc, h1, h2⟩ := lim; ⟨mc, ns2 h1, h2⟩⟩, fun b o e => of_hidT e, Nat.le_of_eq (hidT_size _ _), trivial, fun b (hb : b ∈ ([] : List Addr)) => (List.not_mem_nil hb).elim, ok, .of_eq gn⟩
  refine codeAny_mono ((F _ kin2 (ns2 gl)).run callerA [] s H ⟨[.ref a], []⟩ [.ref a] [.ref a] _ _ hr rfl e0 (bind s (.ref a)) (.cons rfl .nil) hsp) fun r z h => ?_
  cases r with
  | error e => exact h.elim
  | ok fl =>
    cases fl with
    | next => exact h.elim
    | brk => exact h.elim
    | cont => exact h.elim
    | ret u =>
      obtain ⟨v, H2, os, bare, un, ok2, rv, q⟩ := h
      have q : v = .bl true := q
      subst q
      obtain rfl : u = Value.bool true := rv
      refine ⟨rfl, OldK.of_keep fun b o e => ?_, os, bare⟩
      rcases only b with z1 | ⟨ob, xs, z1⟩
      · exact un.keep b o e z1 (fun z : b ∈ ([] : List Addr) => (List.not_mem_nil z).elim) (fun z => (List.not_mem_nil z).elim)
      · obtain ⟨e1, _⟩ := ok b _ z1
        obtain ⟨e2, _⟩ := ok2 b _ (un.frzs b ob _ z1)
        rw [e] at e1
        cases e1
        exact e2
theorem law_callG (kin : K.In s.heap) (gl : s.heap.Ns mainGlobals mg) (bl : s.heap.Ns builtinsNs mb) (bb : ∀ y : Str, y ≠ "__name__" → mb y = bootBuiltins y) (lim : s.heap.NoLimit) (gn : s.gens = #[])
    (ha : s.heap.get? a = some { cls := .type "list", data := .seq us.toArray }) (hi : IntsAre us ns) (hl : ns.length ≤ 63) (hr : Room k callerA) (F : ∀ base : Heap, K.In base → base.Ns mainGlobals mg → FnG P w K mg base k fa fd [x] (spLaw K)) (bind : ∀ (z : Shared) (u : Value), BindsTo z fd ⟨[u], []⟩ [(x, u)]) :
    codeAny (model P w) callerA (.call (.ref fa) ⟨[.ref a], []⟩) (fun r z => r = .ok (.ret (.bool true)) ∧ OldK s.heap z.heap ∧ z.os = s.os ∧ AllBare z.gens) s := by
  have rv := vals_ints hi
  have ll := hi.length
  have pr : ∀ H : Hp, SqL K H a (ns.map V.int) → spLaw K [.ref a] H (fun v _ => v = .bl true) fun _ _ _ => False := fun H hS => ⟨a, ns, rfl, hS, hl, fun _ => rfl⟩
  cases hk : K.lookup a with
  | some o =>
    have e := kin a o hk
    rw [ha] at e
    cases e
    exact call_core (H := fun _ => none) kin gl bl bb lim gn ha hr F bind (fun _ => .inl rfl) (fun b u z => nomatch (show (none : Option HO) = some u from z)) (fun b z => absurd rfl z) (fun z => absurd rfl z)
      (pr _ (.inr ⟨_, us.toArray, _, hk, rfl, rfl, rfl, by rw [List.size_toArray, ll]; exact Nat.le_trans hl (by decide), by simpa using rv⟩))
  | none =>
    have at_ : ∀ b, (fun b => if b = a then some (HO.frz { cls := .type "list", data := .seq us.toArray } (.lst (ns.map V.int))) else none : Hp) b ≠ none → b = a := fun b z => by
      by_cases hb : b = a
      · exact hb
      · exact absurd (if_neg hb) z
    refine call_core (H := fun b => if b = a then some (HO.frz { cls := .type "list", data := .seq us.toArray } (.lst (ns.map V.int))) else none) kin gl bl bb lim gn ha hr F bind (fun b => ?_) (fun b u z => ?_) at_ (fun _ => hk)
      (pr _ (.inl (.inr ⟨{ cls := .type "list", data := .seq us.toArray }, if_pos rfl⟩)))
    · by_cases hb : b = a
      · exact .inr ⟨_, _, if_pos hb⟩
      · exact .inl (if_neg hb)
    · have hb : b = a := at_ b (by rw [z]; simp)
      subst hb
      have z2 := (if_pos rfl).symm.trans z
      cases z2
      exact ⟨ha, by rw [List.length_map]; exact Nat.le_trans hl (by decide), us, _, rv, ha⟩
end
theorem walk_ofG {l : PySem.W.OpenLaw} {q : Program} {loose : List Str} {XP : (Str → Option Value) → Heap → Prop} {YP : World → Heap → Prop} {d : DefRec} {K : Params → PySem.W.Frag} {k : Nat} {x : Str} (hn : l.most = some 63) (hdf : d.params.defaults = []) (hr : Room k callerA)
    (hY : ∀ (w : World) (h : Heap), YP w h → (K w.params).In h) (F : ∀ (w : World) (mg : Str → Option Value) (fa : Addr) (h : Heap), (K w.params).In h → h.Ns mainGlobals mg → mg d.name = some (.ref fa) →
      ∃ fd : FuncData, (∀ (z : Shared) (u : Value), BindsTo z fd ⟨[u], []⟩ [(x, u)]) ∧ ∀ base : Heap, (K w.params).In base → base.Ns mainGlobals mg → FnG l.prog w (K w.params) mg base k fa fd [x] (spLaw (K w.params))) :
    PySem.W.WalkO q loose XP YP l.row.toRowW d [] (fun f vs => PySem.call f vs) := by
  refine Att.attach_call hn hdf fun w s0 s1 mg mb fa o pm cd doc a vs ns G Y ho hd hcd hmg hobj hints hlen hg => ?_
  obtain ⟨fd, hb, hF⟩ := F w mg fa _ (hY w _ Y) G.T.g hmg
  exact law_callG (hY w _ Y) G.T.g G.T.b G.T.builtins G.T.nolimit hg hobj hints hlen hr hF hb
end K2
end
section
set_option Elab.async false
set_option maxRecDepth 100000
set_option linter.all false
namespace K2
open PySem L2
theorem vals_drop : ∀ (n : Nat) {vs : List V} {us : List Value}, Vals vs us → Vals (vs.drop n) (us.drop n)
  | 0, _, _, h => h
  | _ + 1, _, _, .nil => .nil
  | n + 1, _ :: _, _ :: _, .cons _ t => vals_drop n t
theorem vals_take : ∀ (n : Nat) {vs : List V} {us : List Value}, Vals vs us → Vals (vs.take n) (us.take n)
  | 0, _, _, _ => .nil
  | _ + 1, _, _, .nil => .nil
  | n + 1, _ :: _, _ :: _, .cons r t => .cons r (vals_take n t)

set_option maxHeartbeats 4000000 in
theorem all_mk {l : PySem.W.OpenLaw} {w : World} {K : PySem.W.Frag} {h : Heap} {mg : Str → Option Value} {fa C pM : Addr} {rest : List Value} (X : K.In h) (G : h.Ns mainGlobals mg) (hfa : mg "law" = some (.ref fa))
    {fNU fRO fCA fCO fGN fSH fSC fPN fD fWO fLC fLR fDU fLW fIN fMA fLN fEQ : Addr} {odNU anNU odRO anRO odCA anCA odCO anCO odGN anGN odSH anSH odSC anSC odPN anPN odD anD odWO anWO odLC anLC odLR anLR odDU anDU odLW anLW odIN anIN odMA anMA odLN anLN odEQ anEQ : Option Addr} {slNU slRO slCA slCO slGN slSH slSC slPN slD slWO slLC slLR slDU slLW slIN slMA slLN slEQ : Array (Option Value)} {ocNU kVNU dcNU pmNU cdNU ctNU ocRO kVRO dcRO pmRO cdRO ctRO ocCA kVCA dcCA pmCA cdCA ctCA ocCO kVCO dcCO pmCO cdCO ctCO ocGN kVGN dcGN pmGN cdGN ctGN ocSH kVSH dcSH pmSH cdSH ctSH ocSC kVSC dcSC pmSC cdSC ctSC ocPN kVPN dcPN pmPN cdPN ctPN ocD kVD dcD pmD cdD ctD ocWO kVWO dcWO pmWO cdWO ctWO ocLC kVLC dcLC pmLC cdLC ctLC ocLR kVLR dcLR pmLR cdLR ctLR ocDU kVDU dcDU pmDU cdDU ctDU ocLW kVLW dcLW pmLW cdLW ctLW ocIN kVIN dcIN pmIN cdIN ctIN ocMA kVMA dcMA pmMA cdMA ctMA ocLN kVLN dcLN pmLN cdLN ctLN ocEQ kVEQ dcEQ pmEQ cdEQ ctEQ : Value}
    (aNU : PySem.W.nsIn K mainGlobals "is_number" = some (some (.ref fNU)))
    (aRO : PySem.W.nsIn K mainGlobals "_is_row" = some (some (.ref fRO)))
    (aCA : PySem.W.nsIn K mainGlobals "_is_case" = some (some (.ref fCA)))
    (aCO : PySem.W.nsIn K mainGlobals "_is_choice" = some (some (.ref fCO)))
    (aGN : PySem.W.nsIn K mainGlobals "grown" = some (some (.ref fGN)))
    (aSH : PySem.W.nsIn K mainGlobals "_shifted" = some (some (.ref fSH)))
    (aSC : PySem.W.nsIn K mainGlobals "_shifted_choice" = some (some (.ref fSC)))
    (aPN : PySem.W.nsIn K mainGlobals "_law_pen" = some (some (.ref fPN)))
    (aD : PySem.W.nsIn K mainGlobals "_law_draw" = some (some (.ref fD)))
    (aWO : PySem.W.nsIn K mainGlobals "_law_words" = some (some (.ref fWO)))
    (aLC : PySem.W.nsIn K mainGlobals "_law_choice" = some (some (.ref fLC)))
    (aLR : PySem.W.nsIn K mainGlobals "_law_rows" = some (some (.ref fLR)))
    (aDU : PySem.W.nsIn K mainGlobals "_law_due" = some (some (.ref fDU)))
    (aLW : PySem.W.nsIn K mainGlobals "law" = some (some (.ref fLW)))
    (lNU : K.lookup fNU = some ⟨ocNU, odNU, .func (PySem.W.fnOf "is_number" "is_number" (defArgs sNU) (defBody sNU) (defScope sNU) .none kVNU dcNU pmNU anNU cdNU ctNU), slNU⟩) (cNU : PySem.W.codeIn K cdNU "is_number" = true) (kNU : PySem.W.keepIn K (.ref fNU) = true)
    (lRO : K.lookup fRO = some ⟨ocRO, odRO, .func (PySem.W.fnOf "_is_row" "_is_row" (defArgs sRO) (defBody sRO) (defScope sRO) .none kVRO dcRO pmRO anRO cdRO ctRO), slRO⟩) (cRO : PySem.W.codeIn K cdRO "_is_row" = true) (kRO : PySem.W.keepIn K (.ref fRO) = true)
    (lCA : K.lookup fCA = some ⟨ocCA, odCA, .func (PySem.W.fnOf "_is_case" "_is_case" (defArgs sCA) (defBody sCA) (defScope sCA) .none kVCA dcCA pmCA anCA cdCA ctCA), slCA⟩) (cCA : PySem.W.codeIn K cdCA "_is_case" = true) (kCA : PySem.W.keepIn K (.ref fCA) = true)
    (lCO : K.lookup fCO = some ⟨ocCO, odCO, .func (PySem.W.fnOf "_is_choice" "_is_choice" (defArgs sCO) (defBody sCO) (defScope sCO) .none kVCO dcCO pmCO anCO cdCO ctCO), slCO⟩) (cCO : PySem.W.codeIn K cdCO "_is_choice" = true) (kCO : PySem.W.keepIn K (.ref fCO) = true)
    (lGN : K.lookup fGN = some ⟨ocGN, odGN, .func (PySem.W.fnOf "grown" "grown" (defArgs sGn) (defBody sGn) (defScope sGn) .none kVGN dcGN pmGN anGN cdGN ctGN), slGN⟩) (cGN : PySem.W.codeIn K cdGN "grown" = true) (kGN : PySem.W.keepIn K (.ref fGN) = true)
    (lSH : K.lookup fSH = some ⟨ocSH, odSH, .func (PySem.W.fnOf "_shifted" "_shifted" (defArgs sSH) (defBody sSH) (defScope sSH) .none kVSH dcSH pmSH anSH cdSH ctSH), slSH⟩) (cSH : PySem.W.codeIn K cdSH "_shifted" = true) (kSH : PySem.W.keepIn K (.ref fSH) = true)
    (lSC : K.lookup fSC = some ⟨ocSC, odSC, .func (PySem.W.fnOf "_shifted_choice" "_shifted_choice" (defArgs sSC) (defBody sSC) (defScope sSC) .none kVSC dcSC pmSC anSC cdSC ctSC), slSC⟩) (cSC : PySem.W.codeIn K cdSC "_shifted_choice" = true) (kSC : PySem.W.keepIn K (.ref fSC) = true)
    (lPN : K.lookup fPN = some ⟨ocPN, odPN, .func (PySem.W.fnOf "_law_pen" "_law_pen" (defArgs sPen) (defBody sPen) (defScope sPen) .none kVPN dcPN pmPN anPN cdPN ctPN), slPN⟩) (cPN : PySem.W.codeIn K cdPN "_law_pen" = true) (kPN : PySem.W.keepIn K (.ref fPN) = true)
    (lD : K.lookup fD = some ⟨ocD, odD, .func (PySem.W.fnOf "_law_draw" "_law_draw" (defArgs sDraw) (defBody sDraw) (defScope sDraw) .none kVD dcD pmD anD cdD ctD), slD⟩) (cD : PySem.W.codeIn K cdD "_law_draw" = true) (kD : PySem.W.keepIn K (.ref fD) = true)
    (lWO : K.lookup fWO = some ⟨ocWO, odWO, .func (PySem.W.fnOf "_law_words" "_law_words" (defArgs sWords) (defBody sWords) (defScope sWords) .none kVWO dcWO pmWO anWO cdWO ctWO), slWO⟩) (cWO : PySem.W.codeIn K cdWO "_law_words" = true) (kWO : PySem.W.keepIn K (.ref fWO) = true)
    (lLC : K.lookup fLC = some ⟨ocLC, odLC, .func (PySem.W.fnOf "_law_choice" "_law_choice" (defArgs sLc) (defBody sLc) (defScope sLc) .none kVLC dcLC pmLC anLC cdLC ctLC), slLC⟩) (cLC : PySem.W.codeIn K cdLC "_law_choice" = true) (kLC : PySem.W.keepIn K (.ref fLC) = true)
    (lLR : K.lookup fLR = some ⟨ocLR, odLR, .func (PySem.W.fnOf "_law_rows" "_law_rows" (defArgs sLr) (defBody sLr) (defScope sLr) .none kVLR dcLR pmLR anLR cdLR ctLR), slLR⟩) (cLR : PySem.W.codeIn K cdLR "_law_rows" = true) (kLR : PySem.W.keepIn K (.ref fLR) = true)
    (lDU : K.lookup fDU = some ⟨ocDU, odDU, .func (PySem.W.fnOf "_law_due" "_law_due" (defArgs sDu) (defBody sDu) (defScope sDu) .none kVDU dcDU pmDU anDU cdDU ctDU), slDU⟩) (cDU : PySem.W.codeIn K cdDU "_law_due" = true) (kDU : PySem.W.keepIn K (.ref fDU) = true)
    (lLW : K.lookup fLW = some ⟨ocLW, odLW, .func (PySem.W.fnOf "law" "law" (defArgs sLaw) (defBody sLaw) (defScope sLaw) .none kVLW dcLW pmLW anLW cdLW ctLW), slLW⟩) (cLW : PySem.W.codeIn K cdLW "law" = true) (kLW : PySem.W.keepIn K (.ref fLW) = true)
    (lIN : K.lookup fIN = some ⟨ocIN, odIN, .func (PySem.W.fnOf "__init__" "Record.__init__" (defArgs sIn) (defBody sIn) (defScope sIn) .none kVIN dcIN pmIN anIN cdIN ctIN), slIN⟩) (cIN : PySem.W.codeIn K cdIN "Record.__init__" = true) (kIN : PySem.W.keepIn K (.ref fIN) = true)
    (lMA : K.lookup fMA = some ⟨ocMA, odMA, .func (PySem.W.fnOf "made" "Record.made" (defArgs sMd) (defBody sMd) (defScope sMd) .none kVMA dcMA pmMA anMA cdMA ctMA), slMA⟩) (cMA : PySem.W.codeIn K cdMA "Record.made" = true) (kMA : PySem.W.keepIn K (.ref fMA) = true)
    (lLN : K.lookup fLN = some ⟨ocLN, odLN, .func (PySem.W.fnOf "__len__" "Record.__len__" (defArgs sLn) (defBody sLn) (defScope sLn) .none kVLN dcLN pmLN anLN cdLN ctLN), slLN⟩) (cLN : PySem.W.codeIn K cdLN "Record.__len__" = true) (kLN : PySem.W.keepIn K (.ref fLN) = true)
    (lEQ : K.lookup fEQ = some ⟨ocEQ, odEQ, .func (PySem.W.fnOf "__eq__" "Record.__eq__" (defArgs sQe) (defBody sQe) (defScope sQe) .none kVEQ dcEQ pmEQ anEQ cdEQ ctEQ), slEQ⟩) (cEQ : PySem.W.codeIn K cdEQ "Record.__eq__" = true) (kEQ : PySem.W.keepIn K (.ref fEQ) = true)
    (aC : PySem.W.nsIn K mainGlobals "Record" = some (some (.ref C)))
    (aIN : PySem.W.findIn K (.ref C) "__init__" = some (some (.ref fIN)))
    (iIN : PySem.W.isFn K (.ref fIN) = true)
    (aLN : PySem.W.findIn K (.ref C) "__len__" = some (some (.ref fLN)))
    (iLN : PySem.W.isFn K (.ref fLN) = true)
    (aEQ : PySem.W.findIn K (.ref C) "__eq__" = some (some (.ref fEQ)))
    (iEQ : PySem.W.isFn K (.ref fEQ) = true)
    (ha : PySem.W.findIn K (.ref C) "__class__" = some (some (.builtin "object.__class__")))
    (hn : PySem.W.specialIn K (.builtin "object.__class__") "__get__" = some (some (.builtin "getset_descriptor.__get__")))
    (htk : PySem.W.takesIn K (.builtin "object.__class__") = some true)
    (hmo : PySem.W.mroIn K C (.type "object") = some true)
    (pg : PySem.W.plainGet K C Str.empty = true)
    (hd : PySem.W.hasDictIn K C = true)
    (po : PySem.W.plainOver K C = true)
    (sa : PySem.W.findIn K (.ref C) "__setattr__" = some (some (.builtin "object.__setattr__")))
    (mk : PySem.W.makesIn K C = true)
    (kc : PySem.W.keepIn K (.ref C) = true)
    (nR : PySem.W.findIn K (.ref C) "rows" = some none)
    (rd : PySem.W.readsIn K C (.type "type") = true)
    (ga : PySem.W.specialIn K (.ref C) "__getattribute__" = some (some (.builtin "type.__getattribute__")))
    (cm : PySem.W.findCls K (.ref C) (.type "type") "made" = some (.get (.builtin "classmethod.__get__") (.ref pM) .none (.ref C)))
    (rc : PySem.W.recIn K pM "classmethod" = some (.ref fMA :: rest))
    (fi : PySem.W.fnIn K fMA = true)
    (b_len : PySem.W.nsIn K mainGlobals "len" = some none)
    (b_int : PySem.W.nsIn K mainGlobals "int" = some none)
    (b_abs : PySem.W.nsIn K mainGlobals "abs" = some none)
    (b_range : PySem.W.nsIn K mainGlobals "range" = some none)
    (b_list : PySem.W.nsIn K mainGlobals "list" = some none)
    (b_tuple : PySem.W.nsIn K mainGlobals "tuple" = some none)
    (b_enumerate : PySem.W.nsIn K mainGlobals "enumerate" = some none)
    (b_isinstance : PySem.W.nsIn K mainGlobals "isinstance" = some none)
    (b_str : PySem.W.nsIn K mainGlobals "str" = some none)
    (b_set : PySem.W.nsIn K mainGlobals "set" = some none)
    (b_all : PySem.W.nsIn K mainGlobals "all" = some none)
    (b_repr : PySem.W.nsIn K mainGlobals "repr" = some none)
    (b_bool : PySem.W.nsIn K mainGlobals "bool" = some none)
    (b_sorted : PySem.W.nsIn K mainGlobals "sorted" = some none)
    : ∃ fd : FuncData, (∀ (z : Shared) (u : Value), BindsTo z fd ⟨[u], []⟩ [("_law_script", u)]) ∧ ∀ base : Heap, K.In base → base.Ns mainGlobals mg → FnG l.prog w K mg base 8 fa fd ["_law_script"] (spLaw K) := by
  have e := hfa.symm.trans (PySem.W.mg_of X G aLW)
  cases e
  have T : Bi mg := ⟨PySem.W.mg_none_of X G b_len, PySem.W.mg_none_of X G b_int, PySem.W.mg_none_of X G b_abs, PySem.W.mg_none_of X G b_range, PySem.W.mg_none_of X G b_list, PySem.W.mg_none_of X G b_tuple, PySem.W.mg_none_of X G b_enumerate, PySem.W.mg_none_of X G b_isinstance, PySem.W.mg_none_of X G b_str, PySem.W.mg_none_of X G b_set, PySem.W.mg_none_of X G b_all, PySem.W.mg_none_of X G b_repr⟩
  have Y : TxR K mg C := ⟨⟨pg, hd, po, sa⟩, nR, PySem.W.mg_of X G aC⟩
  have FNU := fun_mk (st := sNU) lNU cNU kNU
  have FRO := fun_mk (st := sRO) lRO cRO kRO
  have FCA := fun_mk (st := sCA) lCA cCA kCA
  have FCO := fun_mk (st := sCO) lCO cCO kCO
  have FGN := fun_mk (st := sGn) lGN cGN kGN
  have FSH := fun_mk (st := sSH) lSH cSH kSH
  have FSC := fun_mk (st := sSC) lSC cSC kSC
  have FPN := fun_mk (st := sPen) lPN cPN kPN
  have FD := fun_mk (st := sDraw) lD cD kD
  have FWO := fun_mk (st := sWords) lWO cWO kWO
  have FLC := fun_mk (st := sLc) lLC cLC kLC
  have FLR := fun_mk (st := sLr) lLR cLR kLR
  have FDU := fun_mk (st := sDu) lDU cDU kDU
  have FLW := fun_mk (st := sLaw) lLW cLW kLW
  have FIN := fun_mk (st := sIn) lIN cIN kIN
  have FMA := fun_mk (st := sMd) lMA cMA kMA
  have FLN := fun_mk (st := sLn) lLN cLN kLN
  have FEQ := fun_mk (st := sQe) lEQ cEQ kEQ
  have DNU : Df K mg "is_number" sNU fNU _ (["x"] : List Str) := ⟨FNU, PySem.W.mg_of X G aNU, FNU.binds (ps := ["x"]) fun _ _ _ _ _ _ us hl => match us, hl with | [_], _ => rfl⟩
  have DRO : Df K mg "_is_row" sRO fRO _ (["x"] : List Str) := ⟨FRO, PySem.W.mg_of X G aRO, FRO.binds (ps := ["x"]) fun _ _ _ _ _ _ us hl => match us, hl with | [_], _ => rfl⟩
  have DCA : Df K mg "_is_case" sCA fCA _ (["x"] : List Str) := ⟨FCA, PySem.W.mg_of X G aCA, FCA.binds (ps := ["x"]) fun _ _ _ _ _ _ us hl => match us, hl with | [_], _ => rfl⟩
  have DCO : Df K mg "_is_choice" sCO fCO _ (["x"] : List Str) := ⟨FCO, PySem.W.mg_of X G aCO, FCO.binds (ps := ["x"]) fun _ _ _ _ _ _ us hl => match us, hl with | [_], _ => rfl⟩
  have DGN : Df K mg "grown" sGn fGN _ (["record", "inner", "outer"] : List Str) := ⟨FGN, PySem.W.mg_of X G aGN, FGN.binds (ps := ["record", "inner", "outer"]) fun _ _ _ _ _ _ us hl => match us, hl with | [_, _, _], _ => rfl⟩
  have DSH : Df K mg "_shifted" sSH fSH _ (["row", "first", "more"] : List Str) := ⟨FSH, PySem.W.mg_of X G aSH, FSH.binds (ps := ["row", "first", "more"]) fun _ _ _ _ _ _ us hl => match us, hl with | [_, _, _], _ => rfl⟩
  have DSC : Df K mg "_shifted_choice" sSC fSC _ (["choice", "first", "more"] : List Str) := ⟨FSC, PySem.W.mg_of X G aSC, FSC.binds (ps := ["choice", "first", "more"]) fun _ _ _ _ _ _ us hl => match us, hl with | [_, _, _], _ => rfl⟩
  have DPN : Df K mg "_law_pen" sPen fPN _ (["_law_script"] : List Str) := ⟨FPN, PySem.W.mg_of X G aPN, FPN.binds (ps := ["_law_script"]) fun _ _ _ _ _ _ us hl => match us, hl with | [_], _ => rfl⟩
  have DD : Df K mg "_law_draw" sDraw fD _ (["_law_pen_here", "_law_many"] : List Str) := ⟨FD, PySem.W.mg_of X G aD, FD.binds (ps := ["_law_pen_here", "_law_many"]) fun _ _ _ _ _ _ us hl => match us, hl with | [_, _], _ => rfl⟩
  have DWO : Df K mg "_law_words" sWords fWO _ (["_law_pen_here", "_law_many"] : List Str) := ⟨FWO, PySem.W.mg_of X G aWO, FWO.binds (ps := ["_law_pen_here", "_law_many"]) fun _ _ _ _ _ _ us hl => match us, hl with | [_, _], _ => rfl⟩
  have DLC : Df K mg "_law_choice" sLc fLC _ (["_law_pen_here", "_law_words_here", "_law_many"] : List Str) := ⟨FLC, PySem.W.mg_of X G aLC, FLC.binds (ps := ["_law_pen_here", "_law_words_here", "_law_many"]) fun _ _ _ _ _ _ us hl => match us, hl with | [_, _, _], _ => rfl⟩
  have DLR : Df K mg "_law_rows" sLr fLR _ (["_law_pen_here", "_law_words_here", "_law_many"] : List Str) := ⟨FLR, PySem.W.mg_of X G aLR, FLR.binds (ps := ["_law_pen_here", "_law_words_here", "_law_many"]) fun _ _ _ _ _ _ us hl => match us, hl with | [_, _, _], _ => rfl⟩
  have DDU : Df K mg "_law_due" sDu fDU _ (["_law_rows_here", "_law_lower", "_law_upper"] : List Str) := ⟨FDU, PySem.W.mg_of X G aDU, FDU.binds (ps := ["_law_rows_here", "_law_lower", "_law_upper"]) fun _ _ _ _ _ _ us hl => match us, hl with | [_, _, _], _ => rfl⟩
  have BMA := FMA.binds (ps := ["cls", "rows"]) fun _ _ _ _ _ _ us hl => match us, hl with | [_, _], _ => rfl
  have BLN := FLN.binds (ps := ["self"]) fun _ _ _ _ _ _ us hl => match us, hl with | [_], _ => rfl
  have BEQ := FEQ.binds (ps := ["self", "other"]) fun _ _ _ _ _ _ us hl => match us, hl with | [_, _], _ => rfl
  have KG : KBn K _ ["record", "inner", "outer"] 0 ["inner", "outer", "record"] (fun us ws => us ++ (ws.drop 2 ++ ws.take 2)) (fun vs zs => vs ++ (zs.drop 2 ++ zs.take 2)) :=
    ⟨fun z us ws _ h1 h2 => match us, ws, h1, h2 with | [], [_, _, _], _, _ => BindsTo.of_eq (fd := (PySem.W.fnOf "grown" "grown" (defArgs sGn) (defBody sGn) (defScope sGn) .none kVGN dcGN pmGN anGN cdGN ctGN)) rfl, fun r1 r2 => r1.append ((vals_drop 2 r2).append (vals_take 2 r2))⟩
  have tBool := PySem.W.mg_none_of X G b_bool
  have tSo := PySem.W.mg_none_of X G b_sorted
  have O : OwnR K C := ⟨ha, hn, htk, hmo⟩
  have M : Mk K C fIN := ⟨mk, aIN, iIN, kc⟩
  refine ⟨_, fun z u => .of_eq (fd := (PySem.W.fnOf "law" "law" (defArgs sLaw) (defBody sLaw) (defScope sLaw) .none kVLW dcLW pmLW anLW cdLW ctLW)) rfl, fun base _ _ => ?_⟩
  have GD := ok_draw (P := l.prog) (w := w) (base := base) FD T
  have GWo := ok_wordsB FWO T DD GD
  have GNu := ok_nu (P := l.prog) (w := w) (base := base) FNU T tBool
  have GCo := ok_co FCO T DNU GNu
  have GCa := ok_ca (P := l.prog) (w := w) (base := base) FCA T
  have GRo := ok_ro FRO T DCA GCa DCO GCo
  have GSc := ok_sc (P := l.prog) (w := w) (base := base) FSC T
  have GSh := ok_sh FSH T DSC GSc
  have GIn := ok_in FIN Y T DRO GRo
  have GMa := ok_md FMA M GIn
  have GLn := ok_ln (P := l.prog) (w := w) (base := base) FLN Y T
  have GEq := ok_qe (P := l.prog) (w := w) (base := base) FEQ Y T O
  have cR : ClX.CRead K C (.type "type") := ⟨rd, ga⟩
  have cM : ClX.CMet K C (.type "type") "made" pM fMA := ⟨cm, ⟨rest, rc⟩, fi⟩
  have GGn := ok_gn FGN Y T DSH GSh cR cM GMa BMA
  have GLc := ok_lc FLC T DD GD
  have GLr := ok_lr FLR T DD GD DLC GLc
  have GDu := ok_due (P := l.prog) (w := w) (base := base) FDU T tSo
  have GPn := ok_pen (P := l.prog) (w := w) (base := base) FPN T
  exact ok_law FLW T Y O DD GD DPN GPn DWO GWo DLR GLr DDU GDu DGN GGn KG cR cM GMa BMA GLn BLN aLN iLN GEq BEQ aEQ iEQ
theorem walk {l : PySem.W.OpenLaw} {q : Program} {loose : List Str} {XP : (Str → Option Value) → Heap → Prop} {YP : World → Heap → Prop} {d : DefRec} {K : Params → PySem.W.Frag} (hn : l.most = some 63) (hdf : d.params.defaults = [])
    (hY : ∀ (w : World) (h : Heap), YP w h → (K w.params).In h)
    (F : ∀ (w : World) (mg : Str → Option Value) (fa : Addr) (h : Heap), (K w.params).In h → h.Ns mainGlobals mg → mg d.name = some (.ref fa) →
      ∃ fd : FuncData, (∀ (z : Shared) (u : Value), BindsTo z fd ⟨[u], []⟩ [("_law_script", u)]) ∧ ∀ base : Heap, (K w.params).In base → base.Ns mainGlobals mg → FnG l.prog w (K w.params) mg base 8 fa fd ["_law_script"] (spLaw (K w.params))) :
    PySem.W.WalkO q loose XP YP l.row.toRowW d [] (fun f vs => PySem.call f vs) := walk_ofG hn hdf ⟨rfl, by decide, by decide⟩ hY F
end K2
end
section
set_option Elab.async false
set_option maxRecDepth 100000
open PySem PySem.W PyProof.Rows
set_option maxRecDepth 100000 in
set_option maxHeartbeats 0 in
theorem PySem.Challenge.cw_whatleaves_k73_rows_put_into_themselves_holds : PySem.Challenge.rw_whatleaves_k73_rows_put_into_themselves.Holds := by
  w_on; o_law; k_head; (case hw => w_witness2)
  k_fill
  refine K2.walk (l := PySem.Challenge.rw_whatleaves_k73_rows_put_into_themselves) rfl rfl (fun w h Y => PySem.W.kIn_of Y) ?F
  case F =>
    intro w mg fa h KX G hmg
    refine' K2.all_mk KX G hmg ?aNU ?aRO ?aCA ?aCO ?aGN ?aSH ?aSC ?aPN ?aD ?aWO ?aLC ?aLR ?aDU ?aLW ?lNU ?cNU ?kNU ?lRO ?cRO ?kRO ?lCA ?cCA ?kCA ?lCO ?cCO ?kCO ?lGN ?cGN ?kGN ?lSH ?cSH ?kSH ?lSC ?cSC ?kSC ?lPN ?cPN ?kPN ?lD ?cD ?kD ?lWO ?cWO ?kWO ?lLC ?cLC ?kLC ?lLR ?cLR ?kLR ?lDU ?cDU ?kDU ?lLW ?cLW ?kLW ?lIN ?cIN ?kIN ?lMA ?cMA ?kMA ?lLN ?cLN ?kLN ?lEQ ?cEQ ?kEQ ?aC ?aIN ?iIN ?aLN ?iLN ?aEQ ?iEQ ?ha ?hn ?htk ?hmo ?pg ?hd ?po ?sa ?mk ?kc ?nR ?rd ?ga ?cm ?rc ?fi ?b_len ?b_int ?b_abs ?b_range ?b_list ?b_tuple ?b_enumerate ?b_isinstance ?b_str ?b_set ?b_all ?b_repr ?b_bool ?b_sorted
    (case aNU => k_is)
    (case aRO => k_is)
    (case aCA => k_is)
    (case aCO => k_is)
    (case aGN => k_is)
    (case aSH => k_is)
    (case aSC => k_is)
    (case aPN => k_is)
    (case aD => k_is)
    (case aWO => k_is)
    (case aLC => k_is)
    (case aLR => k_is)
    (case aDU => k_is)
    (case aLW => k_is)
    (case lNU => k_is)
    (case cNU => k_is)
    (case kNU => k_is)
    (case lRO => k_is)
    (case cRO => k_is)
    (case kRO => k_is)
    (case lCA => k_is)
    (case cCA => k_is)
    (case kCA => k_is)
    (case lCO => k_is)
    (case cCO => k_is)
    (case kCO => k_is)
    (case lGN => k_is)
    (case cGN => k_is)
    (case kGN => k_is)
    (case lSH => k_is)
    (case cSH => k_is)
    (case kSH => k_is)
    (case lSC => k_is)
    (case cSC => k_is)
    (case kSC => k_is)
    (case lPN => k_is)
    (case cPN => k_is)
    (case kPN => k_is)
    (case lD => k_is)
    (case cD => k_is)
    (case kD => k_is)
    (case lWO => k_is)
    (case cWO => k_is)
    (case kWO => k_is)
    (case lLC => k_is)
    (case cLC => k_is)
    (case kLC => k_is)
    (case lLR => k_is)
    (case cLR => k_is)
    (case kLR => k_is)
    (case lDU => k_is)
    (case cDU => k_is)
    (case kDU => k_is)
    (case lLW => k_is)
    (case cLW => k_is)
    (case kLW => k_is)
    (case aC => k_is)
    (case aIN => k_is)
    (case iIN => k_is)
    (case aLN => k_is)
    (case iLN => k_is)
    (case aEQ => k_is)
    (case iEQ => k_is)
    (case ha => k_is)
    (case hn => k_is)
    (case htk => k_is)
    (case hmo => k_is)
    (case pg => k_is)
    (case hd => k_is)
    (case po => k_is)
    (case sa => k_is)
    (case mk => k_is)
    (case kc => k_is)
    (case nR => k_is)
    (case rd => k_is)
    (case ga => k_is)
    (case cm => k_is)
    (case rc => k_is)
    (case lIN => k_is)
    (case cIN => k_is)
    (case kIN => k_is)
    (case lMA => k_is)
    (case cMA => k_is)
    (case kMA => k_is)
    (case lLN => k_is)
    (case cLN => k_is)
    (case kLN => k_is)
    (case lEQ => k_is)
    (case cEQ => k_is)
    (case kEQ => k_is)
    (case fi => k_is)
    (case b_len => k_is)
    (case b_int => k_is)
    (case b_abs => k_is)
    (case b_range => k_is)
    (case b_list => k_is)
    (case b_tuple => k_is)
    (case b_enumerate => k_is)
    (case b_isinstance => k_is)
    (case b_str => k_is)
    (case b_set => k_is)
    (case b_all => k_is)
    (case b_repr => k_is)
    (case b_bool => k_is)
    (case b_sorted => k_is)
end
