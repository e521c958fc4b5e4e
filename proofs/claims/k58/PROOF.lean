import PyProof.Rows.All
import Wide.All
import OpenK.AllK
import Wide.FinOn
import HandS.ForMost
import HandS.Style
import HandS.TupAny
import HandS.Strs
import HandS.IsInst
import HandS.StrMore
import HandS.Walk
import KE.GoesEnum
import KE.GoesMore
import HandS.Star
import HandS.Conv
import HandS.ClsMeth
import HandS.MakeKw
import PyProof.ReprLen
import HandS.Set
import HandS.SetTxt0
import PyProof.Rows.SortShellAny
import HandS.TupSets
import KE.KSortTupG
import PyProof.TupleOfSeq
import HandS.ExcIs
import HandS.ExcField
import HandS.ExcValue
import HandS.ExcInit
import KE.KIsAll
import HandS.Lambda
import HandS.WordsExc
import HandS.More
import HandS.OwnEq
import PyProof.InstNe
import HandS.Deep
import HandS.EndTab
import KE.KNestM
import HandS.Nested
import KE.KSuper
import KE.RegKSuper
import PySem.Challenge.RW_whatleaves_k58_kinds_as_views
section
set_option autoImplicit true
namespace K2
open PySem

abbrev Row := Str × List Str
def barredL : List String := ["pass", "raise", "from", "none", "again", "return", "returns", "break", "call", "handling", "else", "either", "or", "loop", "try", "except", "as", "finally", "with", "quiet", "class", "def", "error", "vacant"]
def barred : List Str := barredL.map Str.ofString
def resd : List Str := barred.take 22
def sErr : Str := Str.ofString "error"
def sVac : Str := Str.ofString "vacant"
def codes (x : Str) : List Nat := x.cps.toList
def txt (l : List Nat) : Str := ⟨l.toArray⟩
theorem codes_txt (l : List Nat) : codes (txt l) = l := by simp [codes, txt]
theorem txt_codes (x : Str) : txt (codes x) = x := by cases x; simp [codes, txt]
theorem codes_inj {x y : Str} (h : codes x = codes y) : x = y := by rw [← txt_codes x, ← txt_codes y, h]

/-- a text of small letters -/
def Low (l : List Nat) : Prop := ∀ c ∈ l, 97 ≤ c ∧ c ≤ 122
/-- a word of the document -/
structure VW (x : Str) : Prop where
  low : Low (codes x)
  ne : codes x ≠ []
  le : (codes x).length ≤ 8
  nr : x ∉ resd
theorem vw_err : VW sErr := ⟨by unfold Low; decide +kernel, by decide +kernel, by decide +kernel, by decide +kernel⟩
theorem vw_vac : VW sVac := ⟨by unfold Low; decide +kernel, by decide +kernel, by decide +kernel, by decide +kernel⟩
theorem err_ne_vac : sErr ≠ sVac := by decide +kernel
theorem mem_resd {x : Str} (h : x ∈ resd) : x ∈ barred := List.mem_of_mem_take h
theorem err_barred : sErr ∈ barred := by decide +kernel
theorem vac_barred : sVac ∈ barred := by decide +kernel

/-! ### words -/
def wordAt (base : List Nat) (spot : Nat) (sign : Nat) : List Nat := base.take spot ++ [sign] ++ base.drop spot
def signAt (first hop k : Nat) : Nat := 97 + (first + hop * k) % 26
def finalAt (base : List Nat) (spot first hop k : Nat) : List Nat :=
  let w := wordAt base spot (signAt first hop k)
  w ++ (if 26 ≤ k then [113] else if txt w ∈ barred then [122] else [])
theorem barred_end : ∀ b ∈ barred, ∀ c, (codes b).getLast? = some c → c ≠ 113 ∧ c ≠ 122 := by
  have h : ∀ b ∈ barred, (codes b).getLast? ≠ some 113 ∧ (codes b).getLast? ≠ some 122 := by decide +kernel
  intro b hb c hc
  have := h b hb
  refine ⟨fun e => this.1 (by rw [hc, e]), fun e => this.2 (by rw [hc, e])⟩
theorem low_wordAt (hb : Low base) (h1 : 97 ≤ sign) (h2 : sign ≤ 122) : Low (wordAt base spot sign) := by
  intro c hc
  unfold wordAt at hc
  rcases List.mem_append.mp hc with hc | hc
  · rcases List.mem_append.mp hc with hc | hc
    · exact hb c (List.mem_of_mem_take hc)
    · have : c = sign := by simpa using hc
      omega
  · exact hb c (List.mem_of_mem_drop hc)
theorem len_wordAt (base : List Nat) (spot sign : Nat) : (wordAt base spot sign).length = base.length + 1 := by
  unfold wordAt
  simp only [List.length_append, List.length_take, List.length_drop, List.length_singleton]
  omega
theorem sign_lo (f h k : Nat) : 97 ≤ signAt f h k ∧ signAt f h k ≤ 122 := by
  unfold signAt; omega
theorem sign_ne {f hop i j : Nat} (hh : hop ∈ [1, 3, 5, 7, 9, 11]) (h1 : i < j) (h2 : j < i + 26) : signAt f hop i ≠ signAt f hop j := by
  unfold signAt
  simp only [List.mem_cons, List.not_mem_nil, or_false] at hh
  rcases hh with rfl | rfl | rfl | rfl | rfl | rfl <;> omega
theorem word_ne {base : List Nat} {spot s t : Nat} (h : s ≠ t) : wordAt base spot s ≠ wordAt base spot t := by
  unfold wordAt
  intro e
  rw [List.append_assoc, List.append_assoc] at e
  have := List.append_cancel_left e
  have h2 : s = t := by simpa using (List.cons.inj this).1
  exact h h2
theorem vw_final {base : List Nat} (hb : Low base) (hl : base.length ≤ 6) (spot f hop k : Nat) : VW (txt (finalAt base spot f hop k)) ∧ txt (finalAt base spot f hop k) ∉ barred := by
  have hw := low_wordAt (spot := spot) hb (sign_lo f hop k).1 (sign_lo f hop k).2
  have hlen := len_wordAt base spot (signAt f hop k)
  have nb : txt (finalAt base spot f hop k) ∉ barred := by
    intro hm
    have he := barred_end _ hm
    rw [codes_txt] at he
    by_cases h1 : 26 ≤ k
    · unfold finalAt at he
      simp only [h1, if_true] at he
      exact (he 113 (by simp)).1 rfl
    · by_cases h2 : txt (wordAt base spot (signAt f hop k)) ∈ barred
      · unfold finalAt at he
        simp only [h1, if_false, h2, if_true] at he
        exact (he 122 (by simp)).2 rfl
      · unfold finalAt at hm
        simp only [h1, if_false, h2, if_false, List.append_nil] at hm
  refine ⟨⟨?_, ?_, ?_, fun h => nb (mem_resd h)⟩, nb⟩
  · rw [codes_txt]
    unfold finalAt
    intro c hc
    rcases List.mem_append.mp hc with hc | hc
    · exact hw c hc
    · split at hc
      · have : c = 113 := by simpa using hc
        omega
      · split at hc
        · have : c = 122 := by simpa using hc
          omega
        · cases hc
  · rw [codes_txt]
    intro e
    have : (finalAt base spot f hop k).length = 0 := by rw [e]; rfl
    unfold finalAt at this
    rw [List.length_append, hlen] at this
    omega
  · rw [codes_txt]
    unfold finalAt
    rw [List.length_append, hlen]
    split
    · show base.length + 1 + 1 ≤ 8; omega
    · split
      · show base.length + 1 + 1 ≤ 8; omega
      · show base.length + 1 + 0 ≤ 8; omega
theorem final_ne {base : List Nat} {spot f hop i j : Nat} (hh : hop ∈ [1, 3, 5, 7, 9, 11]) (h1 : i < j) (hj : j < 32) : finalAt base spot f hop i ≠ finalAt base spot f hop j := by
  have li := len_wordAt base spot (signAt f hop i)
  have lj := len_wordAt base spot (signAt f hop j)
  intro e
  have key : ∀ {w1 w2 : List Nat} {a b : Nat}, w1 ++ [a] = w2 ++ [b] → w1 = w2 ∧ a = b := by
    intro w1 w2 a b h
    have := List.append_inj' h rfl
    exact ⟨this.1, by simpa using this.2⟩
  unfold finalAt at e
  by_cases c1 : 26 ≤ i
  · have c2 : 26 ≤ j := by omega
    simp only [c1, c2, if_true] at e
    exact word_ne (sign_ne hh h1 (by omega)) (key e).1
  · by_cases c2 : 26 ≤ j
    · simp only [c1, if_false, c2, if_true] at e
      by_cases c3 : txt (wordAt base spot (signAt f hop i)) ∈ barred
      · simp only [c3, if_true] at e
        exact absurd (key e).2 (by decide)
      · simp only [c3, if_false, List.append_nil] at e
        have := congrArg List.length e
        rw [List.length_append, li, lj] at this
        simp at this
    · have hs : wordAt base spot (signAt f hop i) ≠ wordAt base spot (signAt f hop j) := word_ne (sign_ne hh h1 (by omega))
      simp only [c1, if_false, c2] at e
      by_cases c3 : txt (wordAt base spot (signAt f hop i)) ∈ barred
      · by_cases c4 : txt (wordAt base spot (signAt f hop j)) ∈ barred
        · simp only [c3, c4, if_true] at e
          exact hs (key e).1
        · simp only [c3, c4, if_true, if_false, List.append_nil] at e
          have := congrArg List.length e
          rw [List.length_append, li, lj] at this
          simp at this
      · by_cases c4 : txt (wordAt base spot (signAt f hop j)) ∈ barred
        · simp only [c3, c4, if_true, if_false, List.append_nil] at e
          have := congrArg List.length e
          rw [List.length_append, li, lj] at this
          simp at this
        · simp only [c3, c4, if_false, List.append_nil] at e
          exact hs e
def finals (base : List Nat) (spot f hop n : Nat) : List Str := (List.range n).map fun k => txt (finalAt base spot f hop k)
/-- what words are for the law: so many unlike words, none of them error or vacant -/
structure Words (ws : List Str) : Prop where
  vw : ∀ x ∈ ws, VW x
  nb : ∀ x ∈ ws, x ∉ barred
  nd : ws.Nodup
theorem nodup_of_inj {α : Type} {f : Nat → α} {n : Nat} (h : ∀ i j, i < j → j < n → f i ≠ f j) : ((List.range n).map f).Nodup := by
  unfold List.Nodup
  rw [List.pairwise_map]
  refine List.Pairwise.imp_of_mem ?_ (List.pairwise_lt_range (n := n))
  intro a b _ hb hab
  exact h a b hab (List.mem_range.mp hb)
theorem words_finals {base : List Nat} (hb : Low base) (hl : base.length ≤ 6) {hop : Nat} (hh : hop ∈ [1, 3, 5, 7, 9, 11]) {n : Nat} (hn : n ≤ 32) (spot f : Nat) : Words (finals base spot f hop n) := by
  refine ⟨fun x hx => ?_, fun x hx => ?_, ?_⟩
  · obtain ⟨k, _, rfl⟩ := List.mem_map.mp hx
    exact (vw_final hb hl spot f hop k).1
  · obtain ⟨k, _, rfl⟩ := List.mem_map.mp hx
    exact (vw_final hb hl spot f hop k).2
  · refine nodup_of_inj fun i j h1 h2 e => final_ne (base := base) (spot := spot) (f := f) hh h1 (by omega) ?_
    have := congrArg codes e
    rwa [codes_txt, codes_txt] at this
theorem barred_two : ∀ b ∈ barred, 2 ≤ (codes b).length ∧ (codes b)[0]? ≠ (codes b)[1]? := by decide +kernel
def reps (c n : Nat) : List Str := (List.range n).map fun k => txt (List.replicate (k + 1) c)
theorem words_reps {c : Nat} (h1 : 97 ≤ c) (h2 : c ≤ 122) {n : Nat} (hn : n ≤ 8) : Words (reps c n) := by
  have nb : ∀ k, txt (List.replicate (k + 1) c) ∉ barred := by
    intro k hm
    have := barred_two _ hm
    rw [codes_txt] at this
    rw [List.length_replicate] at this
    apply this.2
    rw [List.getElem?_replicate, List.getElem?_replicate, if_pos (by omega), if_pos (by omega)]
  refine ⟨fun x hx => ?_, fun x hx => ?_, ?_⟩
  · obtain ⟨k, hk, rfl⟩ := List.mem_map.mp hx
    have hk := List.mem_range.mp hk
    refine ⟨?_, ?_, ?_, fun h => nb k (mem_resd h)⟩
    · rw [codes_txt]
      intro d hd
      have := List.eq_of_mem_replicate hd
      omega
    · rw [codes_txt]
      intro e
      have := congrArg List.length e
      rw [List.length_replicate] at this
      simp at this
    · rw [codes_txt, List.length_replicate]
      omega
  · obtain ⟨k, hk, rfl⟩ := List.mem_map.mp hx
    exact nb k
  · refine nodup_of_inj fun i j h1 h2 e => ?_
    have := congrArg (fun x => (codes x).length) e
    simp only [codes_txt, List.length_replicate] at this
    omega
theorem Words.rev {ws : List Str} (h : Words ws) : Words ws.reverse := ⟨fun x hx => h.vw x (List.mem_reverse.mp hx), fun x hx => h.nb x (List.mem_reverse.mp hx), by
  have := h.nd
  unfold List.Nodup at *
  rw [List.pairwise_reverse]
  exact this.imp fun h e => h e.symm⟩
end K2
end
section
set_option autoImplicit true
namespace K2
open PySem

def base0 : List Str := [sErr, sVac]
structure RowOk (known : List Str) (r : Row) : Prop where
  vw : VW r.1
  new : r.1 ∉ known
  ne : r.2 ≠ []
  nd : r.2.Nodup
  sub : ∀ b ∈ r.2, b ∈ known
def knownAt (rs : List Row) (i : Nat) : List Str := base0 ++ (rs.take i).map (·.1)
def Good (rs : List Row) : Prop := ∀ (i : Nat) (r : Row), rs[i]? = some r → RowOk (knownAt rs i) r
theorem good_nil : Good [] := fun i r h => by simp at h
theorem good_snoc {rs : List Row} {r : Row} (g : Good rs) (h : RowOk (base0 ++ rs.map (·.1)) r) : Good (rs ++ [r]) := by
  intro i q hq
  by_cases hi : i < rs.length
  · rw [List.getElem?_append_left hi] at hq
    have := g i q hq
    unfold knownAt at *
    rw [List.take_append_of_le_length (by omega)]
    exact this
  · have hi2 : i = rs.length := by
      have := (List.getElem?_eq_some_iff.mp hq).1
      rw [List.length_append, List.length_singleton] at this
      omega
    subst hi2
    rw [List.getElem?_append_right (Nat.le_refl _), Nat.sub_self] at hq
    simp at hq
    subst hq
    unfold knownAt
    rw [List.take_append_of_le_length (Nat.le_refl _), List.take_length]
    exact h
theorem vw_base0 : ∀ x ∈ base0, VW x := by
  intro x hx
  unfold base0 at hx
  rcases List.mem_cons.mp hx with rfl | hx
  · exact vw_err
  · have : x = sVac := by simpa using hx
    subst this
    exact vw_vac
theorem Good.vw_known {rs : List Row} (g : Good rs) (i : Nat) : ∀ x ∈ knownAt rs i, VW x := by
  intro x hx
  rcases List.mem_append.mp hx with hx | hx
  · exact vw_base0 x hx
  · obtain ⟨r, hr, rfl⟩ := List.mem_map.mp hx
    obtain ⟨j, hj⟩ := List.getElem?_of_mem (List.mem_of_mem_take hr)
    exact (g j r hj).vw
theorem knownAt_len {rs : List Row} {i : Nat} (h : i ≤ rs.length) : (knownAt rs i).length = i + 2 := by
  unfold knownAt base0
  simp [List.length_take]
  omega
theorem knownAt_succ {rs : List Row} {i : Nat} {r : Row} (h : rs[i]? = some r) : knownAt rs (i + 1) = knownAt rs i ++ [r.1] := by
  unfold knownAt
  rw [List.take_add_one, h]
  simp
theorem base0_nd : base0.Nodup := by
  unfold base0
  simp [err_ne_vac]
theorem Good.nodup {rs : List Row} (g : Good rs) : ∀ i, i ≤ rs.length → (knownAt rs i).Nodup
  | 0, _ => by simpa [knownAt] using base0_nd
  | i + 1, h => by
    have hi : rs[i]? = some rs[i] := List.getElem?_eq_getElem (by omega)
    rw [knownAt_succ hi]
    refine List.nodup_append.mpr ⟨g.nodup i (by omega), by simp, ?_⟩
    intro a ha b hb e
    have : b = rs[i].1 := by simpa using hb
    subst this
    subst e
    exact (g i _ hi).new ha
/-- the rows of words, with any bases among those known -/
def namesOf (rs : List Row) : List Str := rs.map (·.1)
structure Sub1 (r q : Row) : Prop where
  nm : q.1 = r.1
  sl : q.2.Sublist r.2
  ne : q.2 ≠ []
theorem good_sub {rs qs : List Row} (g : Good rs) (hl : qs.length = rs.length) (h : ∀ (i : Nat) (r q : Row), rs[i]? = some r → qs[i]? = some q → Sub1 r q) : Good qs := by
  have en : ∀ i, (qs.take i).map (·.1) = (rs.take i).map (·.1) := by
    intro i
    apply List.ext_getElem?
    intro j
    rw [List.getElem?_map, List.getElem?_map, List.getElem?_take, List.getElem?_take]
    split
    · by_cases hj : j < rs.length
      · have h1 : rs[j]? = some rs[j] := List.getElem?_eq_getElem hj
        have h2 : qs[j]? = some qs[j] := List.getElem?_eq_getElem (by omega)
        rw [h1, h2]
        simp [(h j _ _ h1 h2).nm]
      · rw [List.getElem?_eq_none (by omega), List.getElem?_eq_none (by omega)]
    · rfl
  intro i q hq
  have hi : i < rs.length := by
    have := (List.getElem?_eq_some_iff.mp hq).1
    omega
  have h1 : rs[i]? = some rs[i] := List.getElem?_eq_getElem hi
  have k := h i _ _ h1 hq
  have R := g i _ h1
  unfold knownAt at *
  rw [en i]
  refine ⟨by rw [k.nm]; exact R.vw, by rw [k.nm]; exact R.new, k.ne, R.nd.sublist k.sl, fun b hb => R.sub b (k.sl.subset hb)⟩

/-! ### what is within what -/
abbrev Tb := List (Str × List Str)
def look : Tb → Str → List Str
  | [], _ => []
  | (k, u) :: t, x => if k = x then u else look t x
def keys (t : Tb) : List Str := t.map (·.1)
def insK (ks : List Str) (x : Str) : List Str := if x ∈ ks then ks else ks ++ [x]
def mergeU (m us : List Str) : List Str := m ++ us.filter fun u => decide (u ∉ m)
def lineL (t : Tb) (m : List Str) (bs : List Str) : List Str := bs.foldl (fun m b => mergeU m (look t b)) m
def lineOf (t : Tb) (r : Row) : List Str := lineL t [r.1] r.2
def t0 : Tb := [(sErr, [sErr]), (sVac, [sVac, sErr])]
def stepT (t : Tb) (r : Row) : Tb := t ++ [(r.1, lineOf t r)]
def ups (rs : List Row) : Tb := rs.foldl stepT t0
theorem ups_succ {rs : List Row} {i : Nat} {r : Row} (h : rs[i]? = some r) : ups (rs.take (i + 1)) = stepT (ups (rs.take i)) r := by
  unfold ups
  rw [List.take_add_one, h]
  simp
theorem ups_snoc (rs : List Row) (r : Row) : ups (rs ++ [r]) = stepT (ups rs) r := by unfold ups; simp
theorem keys_ups (rs : List Row) : keys (ups rs) = base0 ++ rs.map (·.1) := by
  have h : ∀ (rs : List Row) (t : Tb), keys (rs.foldl stepT t) = keys t ++ rs.map (·.1) := by
    intro rs
    induction rs with
    | nil => intro t; simp
    | cons r rs ih =>
      intro t
      rw [List.foldl_cons, ih]
      simp [keys, stepT]
  exact h rs t0
theorem keys_ups_take (rs : List Row) (i : Nat) : keys (ups (rs.take i)) = knownAt rs i := keys_ups _
theorem foldl_insK : ∀ (us ks : List Str), us.Nodup → us.foldl insK ks = mergeU ks us
  | [], ks, _ => by simp [mergeU]
  | u :: us, ks, h => by
    have h1 := List.nodup_cons.mp h
    rw [List.foldl_cons, foldl_insK us _ h1.2]
    unfold insK mergeU
    by_cases hu : u ∈ ks
    · rw [if_pos hu, List.filter_cons]
      simp [hu]
    · rw [if_neg hu, List.filter_cons]
      simp only [hu, not_false_eq_true, decide_true, if_true]
      rw [List.append_assoc, List.singleton_append]
      congr 2
      apply List.filter_congr
      intro x hx
      have : x ≠ u := fun e => h1.1 (e ▸ hx)
      simp [this]
structure LineOk (pre : List Str) (x : Str) (us : List Str) : Prop where
  nd : us.Nodup
  self : x ∈ us
  err : sErr ∈ us
  sub : ∀ u ∈ us, u = x ∨ u ∈ pre
def TOk (t : Tb) : Prop := ∀ a x us b, t = a ++ (x, us) :: b → LineOk (keys a) x us ∧ x ∉ keys a
theorem tok_t0 : TOk t0 := by
  intro a x us b h
  unfold t0 at h
  rcases a with _ | ⟨p, a⟩
  · simp at h
    obtain ⟨⟨rfl, rfl⟩, _⟩ := h
    exact ⟨⟨by simp, by simp, by simp, by simp⟩, by simp [keys]⟩
  · rcases a with _ | ⟨q, a⟩
    · simp at h
      obtain ⟨rfl, ⟨rfl, rfl⟩, _⟩ := h
      refine ⟨⟨by simp [err_ne_vac.symm], by simp, by simp, ?_⟩, ?_⟩
      · intro u hu
        simp [keys] at *
        exact hu
      · simp [keys, err_ne_vac.symm]
    · simp at h
theorem look_mem : ∀ {t : Tb} {x : Str}, x ∈ keys t → ∃ a b, t = a ++ (x, look t x) :: b
  | [], x, h => by simp [keys] at h
  | (k, u) :: t, x, h => by
    by_cases e : k = x
    · subst e
      refine ⟨[], t, ?_⟩
      simp [look]
    · have h2 : x ∈ keys t := by
        unfold keys at *
        rcases List.mem_cons.mp h with e2 | h2
        · exact absurd e2.symm e
        · exact h2
      obtain ⟨a, b, hab⟩ := look_mem h2
      refine ⟨(k, u) :: a, b, ?_⟩
      simp only [look, if_neg e, List.cons_append]
      rw [← hab]
theorem keys_mid {a b : Tb} {x : Str} {us : List Str} : keys (a ++ (x, us) :: b) = keys a ++ x :: keys b := by simp [keys]
theorem TOk.line {t : Tb} (T : TOk t) {x : Str} (h : x ∈ keys t) : (look t x).Nodup ∧ x ∈ look t x ∧ sErr ∈ look t x ∧ ∀ u ∈ look t x, u ∈ keys t := by
  obtain ⟨a, b, e⟩ := look_mem h
  obtain ⟨L, _⟩ := T a x (look t x) b e
  refine ⟨L.nd, L.self, L.err, fun u hu => ?_⟩
  rw [e, keys_mid]
  rcases L.sub u hu with rfl | hu
  · simp
  · exact List.mem_append_left _ hu
theorem TOk.nodup : ∀ {t : Tb}, TOk t → (keys t).Nodup := by
  intro t T
  have h : ∀ (b a : Tb), t = a ++ b → (keys a).Nodup → (keys t).Nodup := by
    intro b
    induction b with
    | nil => intro a e h; rw [e, List.append_nil]; exact h
    | cons p b ih =>
      intro a e h
      obtain ⟨x, us⟩ := p
      refine ih (a ++ [(x, us)]) (by rw [e]; simp) ?_
      have := (T a x us b e).2
      unfold keys at *
      rw [List.map_append]
      refine List.nodup_append.mpr ⟨h, by simp, ?_⟩
      intro c hc d hd q
      have : d = x := by simpa using hd
      subst this
      subst q
      contradiction
  exact h t [] (by simp) (by simp [keys])
theorem split_uniq {a b c d : Tb} {x : Str} {us vs : List Str} (h : a ++ (x, us) :: b = c ++ (x, vs) :: d) (ha : x ∉ keys a) (hc : x ∉ keys c) : a = c := by
  induction a generalizing c with
  | nil =>
    rcases c with _ | ⟨q, c⟩
    · rfl
    · simp at h
      exfalso
      apply hc
      rw [← h.1]
      simp [keys]
  | cons p a ih =>
    rcases c with _ | ⟨q, c⟩
    · simp at h
      exfalso
      apply ha
      rw [h.1]
      simp [keys]
    · simp only [List.cons_append, List.cons.injEq] at h
      rw [h.1, ih h.2 (fun m => ha (by unfold keys at *; exact List.mem_cons_of_mem _ m)) (fun m => hc (by unfold keys at *; exact List.mem_cons_of_mem _ m))]
theorem TOk.back {t : Tb} (T : TOk t) {x y : Str} (hx : x ∈ keys t) (hy : y ∈ look t x) (ne : y ≠ x) : x ∉ look t y := by
  intro hxy
  obtain ⟨a, b, e⟩ := look_mem hx
  obtain ⟨L, hn⟩ := T a x _ b e
  have hya : y ∈ keys a := (L.sub y hy).resolve_left ne
  have hyt : y ∈ keys t := by rw [e, keys_mid]; exact List.mem_append_left _ hya
  obtain ⟨c, d, e2⟩ := look_mem hyt
  obtain ⟨M, hm⟩ := T c y _ d e2
  have hxc : x ∈ keys c := (M.sub x hxy).resolve_left ne.symm
  -- y stands in a, so c is a beginning of a
  obtain ⟨a1, a2, e3⟩ := look_mem hya
  have e4 : t = a1 ++ (y, look a y) :: (a2 ++ (x, look t x) :: b) := by
    rw [List.append_cons, ← List.append_assoc] 
    conv => lhs; rw [e, e3]
    simp
  have hm2 : y ∉ keys a1 := (T a1 y _ _ e4).2
  have : c = a1 := split_uniq (e2.symm.trans e4) hm hm2
  subst this
  apply hn
  rw [e3, keys_mid]
  exact List.mem_append_left _ hxc
theorem mergeU_ok {t : Tb} {m us : List Str} (hm : m.Nodup) (hu : us.Nodup) : (mergeU m us).Nodup := by
  unfold mergeU
  refine List.nodup_append.mpr ⟨hm, hu.filter _, ?_⟩
  intro a ha b hb e
  subst e
  have := (List.mem_filter.mp hb).2
  simp at this
  exact this ha
theorem lineL_ok {t : Tb} (T : TOk t) {x : Str} : ∀ (bs m : List Str), (∀ b ∈ bs, b ∈ keys t) → m.Nodup → (∀ u ∈ m, u = x ∨ u ∈ keys t) →
    (lineL t m bs).Nodup ∧ (∀ u ∈ lineL t m bs, u = x ∨ u ∈ keys t) ∧ (∀ u ∈ m, u ∈ lineL t m bs) ∧ (bs ≠ [] → sErr ∈ lineL t m bs)
  | [], m, _, h1, h2 => ⟨h1, h2, fun u hu => hu, fun h => absurd rfl h⟩
  | b :: bs, m, hb, h1, h2 => by
    have L := T.line (hb b List.mem_cons_self)
    have n1 := mergeU_ok (t := t) h1 L.1
    have s1 : ∀ u ∈ mergeU m (look t b), u = x ∨ u ∈ keys t := by
      intro u hu
      rcases List.mem_append.mp hu with hu | hu
      · exact h2 u hu
      · exact .inr (L.2.2.2 u (List.mem_filter.mp hu).1)
    obtain ⟨q1, q2, q3, q4⟩ := lineL_ok T bs (mergeU m (look t b)) (fun c hc => hb c (List.mem_cons_of_mem _ hc)) n1 s1
    refine ⟨q1, q2, fun u hu => q3 u (List.mem_append_left _ hu), fun _ => ?_⟩
    apply q3
    by_cases he : sErr ∈ m
    · exact List.mem_append_left _ he
    · exact List.mem_append_right _ (List.mem_filter.mpr ⟨L.2.2.1, by simpa using he⟩)
theorem tok_step {t : Tb} (T : TOk t) {r : Row} (R : RowOk (keys t) r) : TOk (stepT t r) := by
  intro a x us b e
  unfold stepT at e
  rcases List.eq_nil_or_concat b with rfl | ⟨b', z, rfl⟩
  · have := List.append_inj' e rfl
    obtain ⟨rfl, e2⟩ := this
    simp at e2
    obtain ⟨rfl, rfl⟩ := e2
    have := lineL_ok T (x := r.1) r.2 [r.1] R.sub (by simp) (by simp)
    exact ⟨⟨this.1, this.2.2.1 _ (by simp), this.2.2.2 R.ne, this.2.1⟩, R.new⟩
  · rw [List.concat_eq_append, ← List.cons_append, ← List.append_assoc] at e
    have := List.append_inj' e rfl
    exact T a x us b' this.1
theorem tok_ups {rs : List Row} (g : Good rs) : ∀ i, i ≤ rs.length → TOk (ups (rs.take i))
  | 0, _ => by simpa [ups] using tok_t0
  | i + 1, h => by
    have hi : rs[i]? = some rs[i] := List.getElem?_eq_getElem (by omega)
    rw [ups_succ hi]
    refine tok_step (tok_ups g i (by omega)) ?_
    rw [keys_ups_take]
    exact g i _ hi
end K2
end
section
set_option Elab.async false
set_option maxRecDepth 100000
set_option linter.all false
namespace K2
open PySem L2
/-! ### the text by places -/
def top (i : Nat) : Stmt := PySem.Challenge.pw_whatleaves_k58_kinds_as_views.main.body.getD i (.Pass ⟨0, 0, 0, 0⟩)
abbrev sDraw : Stmt := top 32
abbrev sPick : Stmt := top 33
/-! ### what the built-in names hold -/
structure Bi (mg : Str → Option Value) : Prop where
  len : mg "len" = none
  int : mg "int" = none
  abs : mg "abs" = none
  range : mg "range" = none
  list : mg "list" = none
  tuple : mg "tuple" = none
  enumerate : mg "enumerate" = none
  isinstance : mg "isinstance" = none
  str : mg "str" = none
  set : mg "set" = none
  all : mg "all" = none
  repr : mg "repr" = none
/-! ### the pen -/
def penO (c : Addr) (a l : Int) : HO := .lst [.ref c, .int a, .int l]
structure Pen (H : Hp) (p c : Addr) (ns : List Int) (n : Nat) : Prop where
  pen : ∃ a l : Int, H p = some (penO c a l) ∧ 0 ≤ a ∧ a ≤ n ∧ 0 ≤ l
  cells : H c = some (.lst (ns.map V.int))
  small : ns.length ≤ 63
def Keep (p : Addr) (H H' : Hp) : Prop := ∀ b o, H b = some o → b ≠ p → H' b = some o
theorem Keep.refl (p : Addr) (H : Hp) : Keep p H H := fun _ _ h _ => h
theorem Keep.trans {p : Addr} {H H1 H2 : Hp} (a : Keep p H H1) (b : Keep p H1 H2) : Keep p H H2 := fun c o h n => b c o (a c o h n) n
theorem Keep.new {p q : Addr} {H H1 : Hp} {o : HO} (k : Keep p H H1) (h : H q = none) : Keep p H (upd H1 q o) := fun b u hb n => by
  rw [upd_ne (ne_of_none hb h)]
  exact k b u hb n
theorem Keep.at {p : Addr} {H H1 : Hp} {o : HO} (k : Keep p H H1) : Keep p H (upd H1 p o) := fun b u hb n => by
  rw [upd_ne n]
  exact k b u hb n
theorem Pen.mono {H : Hp} {p c : Addr} {ns : List Int} {n m : Nat} (h : Pen H p c ns n) (e : n ≤ m) : Pen H p c ns m := by
  obtain ⟨a, l, h1, h2, h3, h4⟩ := h.pen
  exact ⟨⟨a, l, h1, h2, by omega, h4⟩, h.cells, h.small⟩
theorem Pen.ne {H : Hp} {p c : Addr} {ns : List Int} {n : Nat} (h : Pen H p c ns n) : c ≠ p := by
  obtain ⟨a, l, h1, _⟩ := h.pen
  refine ne_of h.cells h1 ?_
  unfold penO
  intro e
  injection e with e
  cases ns with
  | nil => simp at e
  | cons n ns => simp at e
/-- the pen behind a new object -/
theorem Pen.new {H : Hp} {p c q : Addr} {ns : List Int} {n : Nat} {o : HO} (h : Pen H p c ns n) (hq : H q = none) : Pen (upd H q o) p c ns n := by
  obtain ⟨a, l, h1, h2, h3, h4⟩ := h.pen
  exact ⟨⟨a, l, by rw [upd_ne (ne_of_none h1 hq)]; exact h1, h2, h3, h4⟩, by rw [upd_ne (ne_of_none h.cells hq)]; exact h.cells, h.small⟩
/-- the pen behind a store elsewhere -/
theorem Pen.upd' {H : Hp} {p c q : Addr} {ns : List Int} {n : Nat} {o : HO} (h : Pen H p c ns n) (h1 : p ≠ q) (h2 : c ≠ q) : Pen (upd H q o) p c ns n := by
  obtain ⟨a, l, g1, g2, g3, g4⟩ := h.pen
  exact ⟨⟨a, l, by rw [upd_ne h1]; exact g1, g2, g3, g4⟩, by rw [upd_ne h2]; exact h.cells, h.small⟩
theorem Pen.set {H : Hp} {p c : Addr} {ns : List Int} {n m : Nat} (h : Pen H p c ns n) {a l : Int} (h1 : 0 ≤ a) (h2 : a ≤ m) (h3 : 0 ≤ l) : Pen (upd H p (penO c a l)) p c ns m :=
  ⟨⟨a, l, upd_same, h1, h2, h3⟩, by rw [upd_ne h.ne]; exact h.cells, h.small⟩

def spDraw : Sp := fun vs H Q _ => ∃ (p c : Addr) (ns : List Int) (n : Nat) (m : Int), vs = [.ref p, .int m] ∧ Pen H p c ns n ∧ n ≤ 100000 ∧ 0 < m ∧ m < 1073741824 ∧
  ∀ (v : Int) (H' : Hp), 0 ≤ v → v < m → Keep p H H' → Pen H' p c ns (n + 1) → Q (.int v) H'

section
variable {P : Program} {w : World} {K : PySem.W.Frag} {mg : Str → Option Value} {base : Heap}
abbrev nDraw : List Str := ["_law_pen_here", "_law_many", "_law_digit", "_law_at", "_law_cell", "_law_great", "_law_mixed_here"]
theorem scDraw : FnScope nDraw ["_law_pen_here", "_law_many"] (defScope sDraw) := ⟨rfl, rfl, rfl, by decide +kernel, rfl, by decide +kernel, by decide +kernel⟩
theorem fmod_lo {a m : Int} (h : 0 < m) : 0 ≤ a.fmod m := Int.fmod_nonneg_of_pos a h
theorem fmod_hi {a m : Int} (h : 0 < m) : a.fmod m < m := Int.fmod_lt_of_pos a h
theorem fdiv_nn {a m : Int} (ha : 0 ≤ a) (h : 0 < m) : 0 ≤ a.fdiv m := Int.fdiv_nonneg ha (Int.le_of_lt h)
theorem mul_bnd {x y X Y : Int} (h1 : 0 ≤ x) (h2 : x ≤ X) (h3 : 0 ≤ y) (h4 : y ≤ Y) : 0 ≤ x * y ∧ x * y ≤ X * Y :=
  ⟨Int.mul_nonneg h1 h3, Int.mul_le_mul h2 h4 h3 (Int.le_trans h1 h2)⟩
theorem ints_dp (K : PySem.W.Frag) (H : Hp) : ∀ ns : List Int, DpAll K H (ns.map V.int) (ns.map PyData.int)
  | [] => .nil
  | n :: ns => .cons (.int n) (ints_dp K H ns)
theorem canLay_ints : ∀ ns : List Int, PyData.canLayAll0 (ns.map PyData.int) = true
  | [] => rfl
  | n :: ns => by
    show (true && PyData.canLayAll0 (ns.map PyData.int)) = true
    rw [canLay_ints ns]
    rfl
theorem depth_ints : ∀ ns : List Int, PyData.depthAll (ns.map PyData.int) = 0
  | [] => rfl
  | n :: ns => by
    show max 0 (PyData.depthAll (ns.map PyData.int)) = 0
    rw [depth_ints ns]
    rfl
theorem shaped_ints (ns : List Int) : SeqAt.shaped (.list (ns.map PyData.int)) = true := by
  show (PyData.canLayAll0 (ns.map PyData.int) && decide (PyData.depthAll (ns.map PyData.int) + 1 ≤ 64)) = true
  rw [canLay_ints, depth_ints]
  rfl
theorem eqv_nil (ns : List Int) : (!PyData.eqv (.list (ns.map PyData.int)) (.list [])) = !ns.isEmpty := by
  cases ns <;> rfl
theorem len_pos_lt {n : Nat} {a : Int} (h : 0 < n) : 0 ≤ a.fmod (n : Int) ∧ a.fmod (n : Int) < n := ⟨fmod_lo (by omega), fmod_hi (by omega)⟩
end
end K2
end
section
set_option Elab.async false
set_option maxRecDepth 100000
set_option linter.all false
namespace K2
open PySem L2
abbrev sWords : Stmt := top 34
/-- a def of the program: its text, where it stands, how it binds -/
structure Df (K : PySem.W.Frag) (mg : Str → Option Value) (x : Str) (st : Stmt) (f : Addr) (fd : FuncData) (ps : List Str) : Prop where
  F : Fun K x x st f fd
  m : mg x = some (.ref f)
  b : Binds K fd ps []
/-- a list of the heap, or a text: its items -/
def SeqV (p : Addr) (H : Hp) (y : V) (xs : List V) : Prop := (∃ l, y = .ref l ∧ l ≠ p ∧ H l = some (.lst xs)) ∨ (∃ z : Str, y = .str z ∧ xs = (codes z).map (fun c => V.str ⟨#[c]⟩) ∧ z.length ≤ 100) ∨ (∃ t, y = .ref t ∧ t ≠ p ∧ H t = some (.tup xs))
def spPick : Sp := fun vs H Q _ => ∃ (p c : Addr) (ns : List Int) (n : Nat) (y : V) (xs : List V), vs = [.ref p, y] ∧ Pen H p c ns n ∧ n ≤ 100000 ∧ SeqV p H y xs ∧ xs ≠ [] ∧ xs.length ≤ 1000 ∧
  ∀ (j : Nat) (v : V) (H' : Hp), xs[j]? = some v → Keep p H H' → Pen H' p c ns (n + 1) → Q v H'
def spBarred : Sp := fun vs H Q _ => vs = [] ∧ ∀ l, H l = none → Q (.ref l) (upd H l (.lst (barred.map V.str)))
section
variable {P : Program} {w : World} {K : PySem.W.Frag} {mg : Str → Option Value} {base : Heap}
theorem scPick : FnScope ["_law_pen_here", "_law_some"] ["_law_pen_here", "_law_some"] (defScope sPick) := ⟨rfl, rfl, rfl, by decide +kernel, rfl, by decide +kernel, by decide +kernel⟩
end
end K2
end
section
set_option Elab.async false
set_option maxRecDepth 100000
set_option linter.all false
namespace K2
open PySem L2
theorem strs_ne_pen {ys : List Str} {c : Addr} {a l : Int} : HO.lst (ys.map V.str) ≠ penO c a l := by
  unfold penO
  intro e
  injection e with e
  cases ys with
  | nil => simp at e
  | cons y ys => simp at e
theorem str_eqV (a b : Str) : eqV (.str a) (.str b) = decide (a = b) := by
  show (a == b) = decide (a = b)
  by_cases h : a = b
  · simp [h]
  · simp [h]
theorem inV_strs (x : Str) : ∀ ys : List Str, inV (.str x) (ys.map V.str) = decide (x ∈ ys)
  | [] => rfl
  | y :: ys => by
    show (eqV (.str y) (.str x) || inV (.str x) (ys.map V.str)) = decide (x ∈ y :: ys)
    rw [inV_strs x ys, str_eqV]
    by_cases h : y = x
    · subst h; simp
    · have h2 : ¬ x = y := fun e => h e.symm
      simp [h, h2]
theorem flat_strs : ∀ ys : List Str, (ys.map V.str).all flatV = true
  | [] => rfl
  | y :: ys => by
    show (true && (ys.map V.str).all flatV) = true
    rw [flat_strs ys]
    rfl
theorem codes_append (x y : Str) : codes (x ++ y) = codes x ++ codes y := TL.tl_append x y
theorem codes_one (c : Nat) : codes ⟨#[c]⟩ = [c] := rfl
theorem len_codes (x : Str) : x.length = (codes x).length := by
  show x.cps.size = x.cps.toList.length
  simp
theorem join_ones : ∀ l : List Nat, codes (Txt.join Str.empty (l.map fun c => (⟨#[c]⟩ : Str))) = l := by
  intro l
  rw [TL.join_eq]
  show TL.tl (Str.join Str.empty _) = l
  rw [TL.tl_join]
  show TL.joinL [] _ = l
  induction l with
  | nil => rfl
  | cons c l ih =>
    cases l with
    | nil => rfl
    | cons d l =>
      show [c] ++ ([] ++ TL.joinL [] _) = _
      rw [List.nil_append]
      show [c] ++ TL.joinL [] (List.map TL.tl (List.map (fun c => (⟨#[c]⟩ : Str)) (d :: l))) = c :: d :: l
      rw [ih]
      rfl
theorem cut_to {z : Str} {k : Nat} (h : k ≤ (codes z).length) : codes (cutS z none (some (k : Int))) = (codes z).take k := by
  unfold cutS codes
  rw [HT.sIx_nat, HT.sIx_none]
  have e : z.length = z.cps.toList.length := len_codes z
  have h' : k ≤ z.cps.toList.length := h
  simp only [List.drop_zero, Nat.sub_zero]
  rw [Nat.min_eq_left (by omega)]
theorem cut_from {z : Str} {k : Nat} (h : k ≤ (codes z).length) : codes (cutS z (some (k : Int)) none) = (codes z).drop k := by
  unfold cutS codes
  rw [HT.sIx_nat, HT.sIx_none]
  have e : z.length = z.cps.toList.length := len_codes z
  have h' : k ≤ z.cps.toList.length := h
  rw [Nat.min_eq_left (by omega), e]
  simp only []
  rw [List.take_of_length_le (by rw [List.length_drop]; omega)]
theorem Pen.pne {H : Hp} {p c q : Addr} {ns : List Int} {n : Nat} (h : Pen H p c ns n) (hq : H q = none) : p ≠ q := by
  obtain ⟨a, l, g, _⟩ := h.pen
  exact ne_of_none g hq
theorem Pen.cne {H : Hp} {p c q : Addr} {ns : List Int} {n : Nat} (h : Pen H p c ns n) (hq : H q = none) : c ≠ q := ne_of_none h.cells hq
theorem Keep.fresh {p c q : Addr} {ns : List Int} {n : Nat} {H H1 : Hp} (k : Keep p H H1) (P1 : Pen H1 p c ns n) (h : H1 q = none) : H q = none := by
  cases e : H q with
  | none => rfl
  | some o =>
    rw [k q o e (P1.pne h).symm] at h
    cases h
theorem Pen.strs_ne {H : Hp} {p c q : Addr} {ns : List Int} {n : Nat} {ys : List Str} (h : Pen H p c ns n) (hq : H q = some (.lst (ys.map V.str))) : q ≠ p := fun e => by
  obtain ⟨a, l, g, _⟩ := h.pen
  rw [e, g] at hq
  exact strs_ne_pen (Option.some.inj hq).symm
section
variable {X : Cx}
theorem mulOk_small {x : Str} {k : Int} (h0 : 0 ≤ k) (h1 : k ≤ 8) (hx : x.length ≤ 8) : MulOk x k := by
  refine ⟨?_, fun _ _ => ?_, fun _ _ => ?_⟩
  · simp only [Bool.or_eq_false_iff, decide_eq_false_iff_not]
    omega
  · have : k = 0 ∨ k = 1 ∨ k = 2 ∨ k = 3 ∨ k = 4 ∨ k = 5 ∨ k = 6 ∨ k = 7 ∨ k = 8 := by omega
    rcases this with rfl | rfl | rfl | rfl | rfl | rfl | rfl | rfl | rfl <;> omega
  · unfold Builtin.Str.tooLong
    rw [decide_eq_false_iff_not]
    have h2 : x.length * k.toNat ≤ 8 * 8 := Nat.mul_le_mul hx (by omega)
    have : sizeLine = 16777216 := rfl
    omega
/-! the same rules with the written part named apart (within a comprehension) -/
theorem pe_bmK {K' : PySem.W.Frag} {T : String} {name : Str} {id : String} {r : V → List V → Hp → VK → Prop} {o e : Expr} {es : List Expr} {to : TE} {t : TA} {apos cpos : Pos} (hK : X.K = K') (pa : PlainAttrs T) (slot : PySem.Slot T name id) (hty : typeOf (.builtin id) = pure (.type "method_descriptor")) (hm : MtR X id r) (ho : PE X o to) (ha : PA X (e :: es) t)
    (hbase : attributeBase o name X.env (eval o X.env) = eval o X.env := by rfl)
    (hfew : ((backTo cpos (starEach (e :: es) X.env)).all (fun x => !x.1) && (backToKw cpos (keywordEach [] X.env)).all (fun x => x.1.isSome)
      && decide ((e :: es).length + ([] : List Keyword).length + (if ([] : List Keyword).isEmpty then 0 else 1) < 30)) = true := by rfl)
    (hline : (apos.endLine == cpos.line) = true := by rfl) (hs : starEach (e :: es) X.env = (false, eval e X.env) :: starEach es X.env := by rfl) (hplain : (backTo cpos (starEach es X.env)).any (·.1) = false := by rfl) :
    PE X (.Call (.Attribute o name apos) (e :: es) [] cpos) (tBM K' T r to t) := by
  subst hK
  exact pe_bm pa slot hty hm ho ha hbase hfew hline hs hplain
theorem call_len_seqK {K' : PySem.W.Frag} (hK : X.K = K') : CallR X (.builtin "len") (fun xs H Q => ∃ p ys, xs = [V.ref p] ∧ (SqL K' H p ys ∨ SqT K' H p ys) ∧ Q (.int ys.length) H) := by
  subst hK
  exact call_len_seq
theorem ix_listK {K' : PySem.W.Frag} (hK : X.K = K') : IxR X (rIxL K') := by
  subst hK
  exact ix_list
theorem op_in_seqK {K' : PySem.W.Frag} (hK : X.K = K') : OpR X (compareOp .In) (rIn K' false) := by
  subst hK
  exact op_in_seq
theorem op_notIn_seqK {K' : PySem.W.Frag} (hK : X.K = K') : OpR X (compareOp .NotIn) (rIn K' true) := by
  subst hK
  exact op_notIn_seq
theorem op_mul_str : OpR X (binaryOp .Mult) (fun x y H Q => ∃ a k, x = .str a ∧ y = .int k ∧ 0 ≤ k ∧ k ≤ 8 ∧ a.length ≤ 8 ∧ Q (.str (Txt.mul a k)) H) := by
  intro pins s σ H x y v u Q I rx ry h
  obtain ⟨a, k, rfl, rfl, h0, h1, hx, q⟩ := h
  obtain ⟨t, rfl⟩ := rx
  obtain ⟨t', rfl⟩ := ry
  exact SB.mul (mulOk_small h0 h1 hx) (fun t' tk => ⟨.str (Txt.mul a k), H, I.tok _, ⟨_, rfl⟩, q⟩)
end
end K2
end
section
set_option Elab.async false
set_option maxRecDepth 100000
set_option linter.all false
namespace K2
open PySem L2
theorem low_letters : ∀ c ∈ codes (Str.ofString "abcdefghijklmnopqrstuvwxyz"), 97 ≤ c ∧ c ≤ 122 := by decide +kernel
theorem at_letters : ∀ j, j < 26 → (codes (Str.ofString "abcdefghijklmnopqrstuvwxyz"))[j]? = some (97 + j) := by decide +kernel
theorem sum_ones : ∀ l : List Nat, (((l.map fun c => (⟨#[c]⟩ : Str)).map (·.length)).sum) = l.length
  | [] => rfl
  | c :: l => by
    rw [List.map_cons, List.map_cons, List.sum_cons, sum_ones l, List.length_cons]
    show 1 + l.length = l.length + 1
    omega
theorem if01 (c : Bool) : 0 ≤ (if c = true then (1 : Int) else 0) ∧ (if c = true then (1 : Int) else 0) ≤ 8 := by cases c <;> decide
theorem fin_q {W : Str} {b : List Nat} {spot f h i : Nat} (e : codes W = wordAt b spot (signAt f h i)) (hi : 26 ≤ i) : W ++ Str.ofString "q" = txt (finalAt b spot f h i) := by
  refine codes_inj ?_
  rw [codes_append, codes_txt, e]
  unfold finalAt
  dsimp only
  rw [if_pos hi]
  rfl
theorem fin_z {W : Str} {b : List Nat} {spot f h i : Nat} (e : codes W = wordAt b spot (signAt f h i)) (hi : ¬ 26 ≤ i) : W ++ Txt.mul (Str.ofString "z") (if W ∈ barred then 1 else 0) = txt (finalAt b spot f h i) := by
  refine codes_inj ?_
  have eW : txt (wordAt b spot (signAt f h i)) = W := by rw [← e, txt_codes]
  rw [codes_append, codes_txt, e]
  unfold finalAt
  dsimp only
  rw [if_neg hi, eW]
  congr 1
  by_cases hb : W ∈ barred
  · rw [if_pos hb, if_pos hb]
    decide +kernel
  · rw [if_neg hb, if_neg hb]
    decide +kernel
theorem finals_succ (b : List Nat) (spot f h i : Nat) : finals b spot f h (i + 1) = finals b spot f h i ++ [txt (finalAt b spot f h i)] := by
  unfold finals
  rw [List.range_succ, List.map_append]
  rfl
/-- a fresh list of m words -/
def spWords : Sp := fun vs H Q _ => ∃ (p c : Addr) (ns : List Int) (n m : Nat), vs = [.ref p, .int m] ∧ Pen H p c ns n ∧ n + 12 ≤ 100000 ∧ m ≤ 31 ∧
  ∀ (l : Addr) (ws : List Str) (H' : Hp), Words ws → ws.length = m → H' l = some (.lst (ws.map V.str)) → Keep p H H' → Pen H' p c ns (n + 12) → Q (.ref l) H'
abbrev nWords : List Str := ["_law_pen_here", "_law_many", "_law_letters", "_law_k", "_law_base", "_law_spot", "_law_first", "_law_hop", "_law_found", "_law_sign", "_law_word", "_law_more"]
section
variable {P : Program} {w : World} {K : PySem.W.Frag} {mg : Str → Option Value} {base : Heap}
theorem scWords : FnScope nWords ["_law_pen_here", "_law_many"] (defScope sWords) := ⟨rfl, rfl, rfl, by decide +kernel, rfl, by decide +kernel, by decide +kernel⟩
end
end K2
end
section
set_option Elab.async false
set_option maxRecDepth 100000
set_option linter.all false
namespace K2
open PySem L2
theorem mul8 (ch : Nat) : Txt.mul (⟨#[ch]⟩ : Str) 8 = txt (List.replicate 8 ch) := by rfl
theorem cut_rep {ch k : Nat} (h : k < 8) : cutS (txt (List.replicate 8 ch)) none (some ((0 + (k : Int)) + 1)) = txt (List.replicate (k + 1) ch) := by
  refine codes_inj ?_
  have e : (0 + (k : Int)) + 1 = ((k + 1 : Nat) : Int) := by omega
  rw [e, cut_to (by rw [codes_txt, List.length_replicate]; omega), codes_txt, codes_txt, List.take_replicate]
  congr 1
  omega
theorem cut_first {x : Str} (h : VW x) : ∃ ch, 97 ≤ ch ∧ ch ≤ 122 ∧ cutS x none (some 1) = ⟨#[ch]⟩ := by
  have hne := h.ne
  cases hc : codes x with
  | nil => exact absurd hc hne
  | cons ch r =>
    have hl := h.low ch (by rw [hc]; simp)
    refine ⟨ch, hl.1, hl.2, codes_inj ?_⟩
    rw [show (1 : Int) = ((1 : Nat) : Int) from rfl, cut_to (by rw [hc]; simp), hc]
    rfl
theorem reps_succ (ch i : Nat) : reps ch (i + 1) = reps ch i ++ [txt (List.replicate (i + 1) ch)] := by
  unfold reps
  rw [List.range_succ, List.map_append]
  rfl
def spBegun : Sp := fun vs H Q _ => ∃ (p c : Addr) (ns : List Int) (n m : Nat), vs = [.ref p, .int m] ∧ Pen H p c ns n ∧ n + 14 ≤ 100000 ∧ m ≤ 31 ∧
  ∀ (l : Addr) (ws : List Str) (H' : Hp), Words ws → ws.length = m → H' l = some (.lst (ws.map V.str)) → Keep p H H' → Pen H' p c ns (n + 14) → Q (.ref l) H'
abbrev nBegun : List Str := ["_law_pen_here", "_law_many", "_law_found", "_law_whole", "_law_some", "_law_k"]
section
variable {P : Program} {w : World} {K : PySem.W.Frag} {mg : Str → Option Value} {base : Heap}
end
end K2
end
section
set_option Elab.async false
set_option maxRecDepth 100000
set_option linter.all false
namespace K2
open PySem L2
abbrev sRows : Stmt := top 35

theorem perm_erase {α : Type} : ∀ (l : List α) (k : Nat) (h : k < l.length), ([l[k]] ++ l.eraseIdx k).Perm l
  | [], k, h => absurd h (Nat.not_lt_zero _)
  | a :: l, 0, h => List.Perm.refl _
  | a :: l, k + 1, h => by
    have ih := perm_erase l k (Nat.lt_of_succ_lt_succ h)
    show (l[k]'(Nat.lt_of_succ_lt_succ h) :: (a :: l.eraseIdx k)).Perm (a :: l)
    exact (List.Perm.swap a _ _).trans (List.Perm.cons a ih)
theorem map_erase {α β : Type} (f : α → β) : ∀ (l : List α) (k : Nat), (l.map f).eraseIdx k = (l.eraseIdx k).map f
  | [], k => by simp
  | a :: l, 0 => rfl
  | a :: l, k + 1 => by
    show f a :: (l.map f).eraseIdx k = f a :: (l.eraseIdx k).map f
    rw [map_erase f l k]
def spMixed : Sp := fun vs H Q _ => ∃ (p c y : Addr) (ns : List Int) (n : Nat) (xs : List Str), vs = [.ref p, .ref y] ∧ Pen H p c ns n ∧ n + 40 ≤ 100000 ∧ H y = some (.lst (xs.map V.str)) ∧ xs.length ≤ 33 ∧
  ∀ (l : Addr) (ys : List Str) (H' : Hp), ys.Perm xs → H' l = some (.lst (ys.map V.str)) → Keep p H H' → Pen H' p c ns (n + xs.length) → Q (.ref l) H'
abbrev nMixed : List Str := ["_law_pen_here", "_law_some", "_law_left", "_law_k"]
section
variable {P : Program} {w : World} {K : PySem.W.Frag} {mg : Str → Option Value} {base : Heap}
theorem mt_popAtR (X : Cx) : MtR X "list.pop" rPopAt := mt_popAt
theorem six {k n : Nat} (h : k < n) : seqIndex? (k : Int) n = some k := by
  unfold seqIndex?
  simp
  omega
/-- a row of the heap -/
def rowO (r : Row) : HO := .tup ((r.1 :: r.2).map V.str)
def RowsAt (H : Hp) (ts : List Addr) (rs : List Row) : Prop := ts.length = rs.length ∧ ∀ (i : Nat) (t : Addr) (r : Row), ts[i]? = some t → rs[i]? = some r → H t = some (rowO r)
theorem RowsAt.mono {H H' : Hp} {ts : List Addr} {rs : List Row} (h : RowsAt H ts rs) (k : ∀ b r, H b = some (rowO r) → H' b = some (rowO r)) : RowsAt H' ts rs := ⟨h.1, fun i t r a b => k t r (h.2 i t r a b)⟩
theorem rowsAt_nil (H : Hp) : RowsAt H [] [] := ⟨rfl, fun i t r a => by simp at a⟩
theorem RowsAt.snoc {H : Hp} {ts : List Addr} {rs : List Row} {t : Addr} {r : Row} (h : RowsAt H ts rs) (ht : H t = some (rowO r)) : RowsAt H (ts ++ [t]) (rs ++ [r]) := by
  refine ⟨by simp [h.1], fun i u q a b => ?_⟩
  by_cases hi : i < ts.length
  · rw [List.getElem?_append_left hi] at a
    rw [List.getElem?_append_left (by rw [← h.1]; exact hi)] at b
    exact h.2 i u q a b
  · rw [List.getElem?_append_right (by omega)] at a
    rw [List.getElem?_append_right (by have := h.1; omega)] at b
    have : i - ts.length = 0 := by
      have := (List.getElem?_eq_some_iff.mp a).1
      simpa using this
    rw [this] at a
    rw [← h.1, this] at b
    simp at a b
    subst a b
    exact ht
theorem row_ne_pen {r : Row} {c : Addr} {a l : Int} : rowO r ≠ penO c a l := by
  unfold rowO penO
  intro e
  cases e
theorem Pen.row_ne {H : Hp} {p c q : Addr} {ns : List Int} {n : Nat} {r : Row} (h : Pen H p c ns n) (hq : H q = some (rowO r)) : q ≠ p := fun e => by
  obtain ⟨a, l, g, _⟩ := h.pen
  rw [e, g] at hq
  exact row_ne_pen (Option.some.inj hq).symm
theorem RowsAt.keep {H H' : Hp} {p c : Addr} {ns : List Int} {n : Nat} {ts : List Addr} {rs : List Row} (h : RowsAt H ts rs) (P : Pen H p c ns n) (k : Keep p H H') : RowsAt H' ts rs := h.mono fun b r e => k b _ e (P.row_ne e)
def spRow : Sp := fun vs H Q _ => ∃ (p c y : Addr) (ns : List Int) (n : Nat) (x : Str) (known : List Str), vs = [.ref p, .str x, .ref y] ∧ Pen H p c ns n ∧ n + 50 ≤ 100000 ∧ H y = some (.lst (known.map V.str)) ∧ known.Nodup ∧ 2 ≤ known.length ∧ known.length ≤ 33 ∧
  ∀ (t : Addr) (bs : List Str) (H' : Hp), bs ≠ [] → bs.Nodup → (∀ b ∈ bs, b ∈ known) → H' t = some (rowO (x, bs)) → Keep p H H' → Pen H' p c ns (n + 34) → Q (.ref t) H'
abbrev nRow : List Str := ["_law_pen_here", "_law_word", "_law_known", "_law_many"]
theorem cut_take (ys : List Str) (k : Nat) : cutV (ys.map V.str) none (some (k : Int)) = (ys.take k).map V.str := by
  unfold cutV
  rw [HT.sIx_nat, HT.sIx_none, List.drop_zero, Nat.sub_zero, ← List.map_take]
  congr 1
  rw [List.length_map]
  by_cases h : k ≤ ys.length
  · rw [Nat.min_eq_left h]
  · rw [Nat.min_eq_right (by omega), List.take_of_length_le (by omega), List.take_of_length_le (by omega)]
abbrev nRows : List Str := ["_law_pen_here", "_law_words_here", "_law_known", "_law_found", "_law_word"]
theorem scRows : FnScope nRows ["_law_pen_here", "_law_words_here"] (defScope sRows) := ⟨rfl, rfl, rfl, by decide +kernel, rfl, by decide +kernel, by decide +kernel⟩
def spRows : Sp := fun vs H Q _ => ∃ (p c y : Addr) (ns : List Int) (n : Nat) (ws : List Str), vs = [.ref p, .ref y] ∧ Pen H p c ns n ∧ n + 2000 ≤ 100000 ∧ H y = some (.lst (ws.map V.str)) ∧ Words ws ∧ ws.length ≤ 31 ∧
  ∀ (l : Addr) (ts : List Addr) (rs : List Row) (H' : Hp), Good rs → rs.map (·.1) = ws → RowsAt H' ts rs → H' l = some (.lst (ts.map V.ref)) → Keep p H H' → Pen H' p c ns (n + 1500) → Q (.ref l) H'
end
end K2
end
section
set_option Elab.async false
set_option maxRecDepth 100000
set_option linter.all false
namespace K2
open PySem L2
theorem _root_.L2.Same.put {H H1 : Hp} {q : Addr} {o : HO} (k : Same H H1) (h : H q = none) : Same H (upd H1 q o) := fun b u hb => by
  rw [upd_ne (ne_of_none hb h)]
  exact k b u hb
theorem Pen.same {H H' : Hp} {p c : Addr} {ns : List Int} {n : Nat} (h : Pen H p c ns n) (k : Same H H') : Pen H' p c ns n := by
  obtain ⟨a, l, g, g1, g2, g3⟩ := h.pen
  exact ⟨⟨a, l, k _ _ g, g1, g2, g3⟩, k _ _ h.cells, h.small⟩
theorem _root_.L2.Same.keep {p : Addr} {H H' : Hp} (k : Same H H') : Keep p H H' := fun b o h _ => k b o h
theorem dget_s {H : Hp} {a : Addr} {kvs : List (Key × V)} {x : Str} {v : V} (e : H a = some (.dK kvs)) (hv : valV kvs (Sum.inr x : Key) = some v) : DGet H a (.str x) (some v) := by
  have := DGet.k (k := (Sum.inr x : Key)) e
  rw [hv] at this
  exact this
theorem cutV_whole {xs : List V} {lo hi : Option Int} (h : HT.sIx xs.length 0 lo = 0 ∧ HT.sIx xs.length xs.length hi = xs.length) : cutV xs lo hi = xs := by
  unfold cutV
  rw [h.1, h.2, List.drop_zero, Nat.sub_zero, List.take_length]
def rSl2 : V → Option Int → Option Int → Hp → VK → Prop := fun x lo hi H Q => ∃ a xs, x = .ref a ∧ H a = some (.tup xs) ∧ ∀ p H1, Same H H1 → H1 p = some (.tup (cutV xs lo hi)) → Q (.ref p) H1
def rCat2 : R2 := fun x y H Q => ∃ a b xs ys, x = .ref a ∧ y = .ref b ∧ H a = some (.tup xs) ∧ H b = some (.tup ys) ∧ xs.length + ys.length ≤ sizeLine ∧ ∀ p H1, Same H H1 → H1 p = some (.tup (xs ++ ys)) → Q (.ref p) H1
section
variable {X : Cx}
theorem sl_tup2 : SlR X rSl2 := by
  intro pins s σ H x v vl vu lo hi sl Q I rx hs pl pu h
  obtain ⟨a, xs, rfl, ha, q⟩ := h
  exact sl_tupA pins s σ H _ v vl vu lo hi sl Q I rx hs pl pu ⟨a, xs, rfl, SqT.of ha, fun hw => q a H (Same.refl H) (by rw [cutV_whole hw]; exact ha), fun _ p hp => q p _ ((Same.refl H).put hp) upd_same⟩
theorem op_cat2 : OpR X (binaryOp .Add) rCat2 := by
  intro pins s σ H x y v u Q I rx ry h
  obtain ⟨a, b, xs, ys, rfl, rfl, ha, hb, hz, q⟩ := h
  refine op_catA pins s σ H _ _ v u Q I rx ry ⟨a, b, xs, ys, rfl, rfl, SqT.of ha, SqT.of hb, hz, fun e => q b H (Same.refl H) (by rw [e]; exact hb), fun _ e => q a H (Same.refl H) (by rw [e, List.append_nil]; exact ha), fun _ _ p hp => q p _ ((Same.refl H).put hp) upd_same⟩
end
end K2
end
section
set_option Elab.async false
set_option maxRecDepth 100000
set_option linter.all false
namespace K2
open PySem L2
def HasI (kvs : List (Key × V)) (xs : List Str) : Prop := ∀ x ∈ xs, ∃ z : Int, valV kvs (Sum.inr x : Key) = some (.int z)
theorem HasI.put {kvs : List (Key × V)} {xs : List Str} (h : HasI kvs xs) (x : Str) (z : Int) : HasI (putK kvs (Sum.inr x : Key) (.int z)) (xs ++ [x]) := by
  intro y hy
  rw [valV_put]
  by_cases e : (Sum.inr y : Key) = Sum.inr x
  · rw [if_pos e]; exact ⟨z, rfl⟩
  · rw [if_neg e]
    rcases List.mem_append.mp hy with hy | hy
    · exact h y hy
    · have : y = x := by simpa using hy
      exact absurd (by rw [this]) e
def ways0 : List (Key × V) := mergeK [] [(Sum.inr (Str.ofString "error"), V.int 1), (Sum.inr (Str.ofString "vacant"), V.int 2)]
theorem ways0_has : HasI ways0 base0 := by
  intro x hx
  unfold base0 at hx
  rcases List.mem_cons.mp hx with rfl | hx
  · exact ⟨1, by decide +kernel⟩
  · have : x = sVac := by simpa using hx
    subst this
    exact ⟨2, by decide +kernel⟩
theorem ways0_len : ways0.length ≤ 2 := by decide +kernel
theorem putK_le (c : List (Key × V)) (k : Key) (x : V) : (putK c k x).length ≤ c.length + 1 := by
  unfold putK
  split
  · rw [List.length_map]; omega
  · rw [List.length_append]; simp
theorem cut2 (x b : Str) (bs : List Str) : cutV ((x :: b :: bs).map V.str) none (some 2) = [x, b].map V.str := by
  have := cut_take (x :: b :: bs) 2
  exact this
theorem cut2' (x b : Str) (bs : List Str) : cutV ((x :: b :: bs).map V.str) (some 2) none = bs.map V.str := by
  unfold cutV
  rw [show (2 : Int) = ((2 : Nat) : Int) from rfl, HT.sIx_nat, HT.sIx_none, List.length_map]
  have : min 2 (x :: b :: bs).length = 2 := by simp
  rw [this]
  show (bs.map V.str).take ((x :: b :: bs).length - 2) = bs.map V.str
  rw [List.take_of_length_le (by simp)]
theorem sub_snoc {bs ks : List Str} {j : Nat} {b : Str} (h : ks.Sublist (bs.take j)) (hb : bs[j]? = some b) : (ks ++ [b]).Sublist (bs.take (j + 1)) := by
  rw [List.take_add_one, hb]
  exact h.append (List.Sublist.refl _)
end K2
end
section
set_option Elab.async false
set_option maxRecDepth 100000
set_option linter.all false
namespace K2
open PySem L2
abbrev nUppers : List Str := ["_law_rows_here", "_law_found", "_law_row_here", "_law_mine", "_law_base", "_law_one"]
/-- a dict of the heap from names to objects that hold lists of names -/
inductive Tab (f : List Str → HO) (H : Hp) : List (Key × V) → Tb → Prop where
  | nil : Tab f H [] []
  | cons {x : Str} {us : List Str} {a : Addr} {kvs : List (Key × V)} {t : Tb} : H a = some (f us) → Tab f H kvs t → Tab f H ((Sum.inr x, .ref a) :: kvs) ((x, us) :: t)
theorem Tab.snoc {f : List Str → HO} {H : Hp} {kvs : List (Key × V)} {t : Tb} (h : Tab f H kvs t) {x : Str} {us : List Str} {a : Addr} (ha : H a = some (f us)) : Tab f H (kvs ++ [(Sum.inr x, .ref a)]) (t ++ [(x, us)]) := by
  induction h with
  | nil => exact .cons ha .nil
  | cons h1 _ ih => exact .cons h1 ih
theorem Tab.mono {f : List Str → HO} {H H' : Hp} {kvs : List (Key × V)} {t : Tb} (h : Tab f H kvs t) (k : ∀ a us, H a = some (f us) → H' a = some (f us)) : Tab f H' kvs t := by
  induction h with
  | nil => exact .nil
  | cons h1 _ ih => exact .cons (k _ _ h1) ih
theorem Tab.len {f : List Str → HO} {H : Hp} {kvs : List (Key × V)} {t : Tb} (h : Tab f H kvs t) : kvs.length = t.length := by
  induction h with
  | nil => rfl
  | cons _ _ ih => rw [List.length_cons, List.length_cons, ih]
theorem valV_cons (k : Key) (v : V) (kvs : List (Key × V)) (j : Key) : valV ((k, v) :: kvs) j = if k = j then some v else valV kvs j := by
  unfold valV
  rw [List.find?_cons]
  by_cases e : k = j
  · simp [e]
  · simp [e]
theorem Tab.val {f : List Str → HO} {H : Hp} {kvs : List (Key × V)} {t : Tb} (h : Tab f H kvs t) {x : Str} (hx : x ∈ keys t) : ∃ a, valV kvs (Sum.inr x : Key) = some (.ref a) ∧ H a = some (f (look t x)) := by
  induction h with
  | nil => simp [keys] at hx
  | @cons y us a kvs t h1 _ ih =>
    rw [valV_cons]
    by_cases e : y = x
    · subst e
      exact ⟨a, by rw [if_pos rfl], by simp only [look, if_true]; exact h1⟩
    · have e2 : ¬ (Sum.inr y : Key) = Sum.inr x := fun q => e (Sum.inr.inj q)
      rw [if_neg e2]
      simp only [look, if_neg e]
      refine ih ?_
      unfold keys at hx ⊢
      rcases List.mem_cons.mp hx with q | q
      · exact absurd q.symm e
      · exact q
theorem Tab.none {f : List Str → HO} {H : Hp} {kvs : List (Key × V)} {t : Tb} (h : Tab f H kvs t) {x : Str} (hx : x ∉ keys t) : valV kvs (Sum.inr x : Key) = none := by
  induction h with
  | nil => rfl
  | @cons y us a kvs t h1 _ ih =>
    rw [valV_cons]
    have e : ¬ y = x := fun q => hx (by rw [q]; simp [keys])
    have e2 : ¬ (Sum.inr y : Key) = Sum.inr x := fun q => e (Sum.inr.inj q)
    rw [if_neg e2]
    exact ih fun q => hx (by unfold keys at q ⊢; exact List.mem_cons_of_mem _ q)
theorem Tab.keys_eq {f : List Str → HO} {H : Hp} {kvs : List (Key × V)} {t : Tb} (h : Tab f H kvs t) : kvs.map (·.1) = (keys t).map Sum.inr := by
  induction h with
  | nil => rfl
  | cons _ _ ih =>
    rw [List.map_cons, ih]
    rfl
theorem merge2 (v1 v2 : V) : mergeK [] [((Sum.inr (Str.ofString "error") : Key), v1), ((Sum.inr (Str.ofString "vacant") : Key), v2)] = [((Sum.inr (Str.ofString "error") : Key), v1), ((Sum.inr (Str.ofString "vacant") : Key), v2)] := by
  show putK (putK [] (Sum.inr (Str.ofString "error") : Key) v1) (Sum.inr (Str.ofString "vacant") : Key) v2 = _
  rw [putK_new v1 rfl, putK_new v2 (by
    rw [List.nil_append, valV_cons, if_neg (by decide +kernel)]
    rfl)]
  rfl
def fL (us : List Str) : HO := .lst (us.map V.str)
def spUppers : Sp := fun vs H Q _ => ∃ (l : Addr) (ts : List Addr) (rs : List Row), vs = [.ref l] ∧ H l = some (.lst (ts.map V.ref)) ∧ RowsAt H ts rs ∧ Good rs ∧ rs.length ≤ 31 ∧
  ∀ (d : Addr) (kvs : List (Key × V)) (H' : Hp), H d = none → H' d = some (.dK kvs) → Tab fL H' kvs (ups rs) → Same H H' → Q (.ref d) H'
theorem cut1' (x : Str) (bs : List Str) : cutV ((x :: bs).map V.str) (some 1) none = bs.map V.str := by
  unfold cutV
  rw [show (1 : Int) = ((1 : Nat) : Int) from rfl, HT.sIx_nat, HT.sIx_none, List.length_map]
  have : min 1 (x :: bs).length = 1 := by simp
  rw [this]
  show (bs.map V.str).take ((x :: bs).length - 1) = bs.map V.str
  rw [List.take_of_length_le (by simp)]
theorem lineL_take {t : Tb} {m bs : List Str} {j : Nat} {b : Str} (h : bs[j]? = some b) : lineL t m (bs.take (j + 1)) = mergeU (lineL t m (bs.take j)) (look t b) := by
  unfold lineL
  rw [List.take_add_one, h]
  simp
/-- how long a line may be -/
theorem line_len {t : Tb} (T : TOk t) {x : Str} {bs : List Str} (h : ∀ b ∈ bs, b ∈ keys t) : (lineL t [x] bs).length ≤ (keys t).length + 1 := by
  obtain ⟨h1, h2, _⟩ := lineL_ok T (x := x) bs [x] h (by simp) (by simp)
  have := h1.length_le_of_subset (l₂ := x :: keys t) fun u hu => by
    rcases h2 u hu with rfl | q
    · simp
    · exact List.mem_cons_of_mem _ q
  simpa using this
section
variable {P : Program} {w : World} {K : PySem.W.Frag} {mg : Str → Option Value} {base : Heap}
end
end K2
end
section
set_option Elab.async false
set_option maxRecDepth 100000
set_option linter.all false
namespace K2
open PySem PySem.Spec PyProof.Rows L2
section
variable {p : Program} {w : World} {A : Around} {Z : Result → Shared → Prop} {it : Addr} {f g : List Addr} {Gs : Array GenState → Array GenState → Prop} {N : Nat} {Yv : Nat → Value → Prop} {Sv : Nat → Shared → Prop}
/-- a set that takes in unlike texts, one after the other -/
theorem set_takes (Wk : WalksS p w A.in1 it f g Gs N Yv Sv) {a : Addr} (af : a ∉ f) {xs : List Str} (lx : xs.length = N) (un : xs.Nodup) (few : N ≤ 1000) (val : ∀ j v, Yv j v → ∃ t, v = .str (xs.getD j Str.empty) t) :
    ∀ (m j : Nat) (s : Shared), N - j = m → j ≤ N → Sv j s → s.heap.SetOf (strKind p w) a (fun y => decide (y ∈ xs.take j)) j → (∀ z, Moved (a :: g) Gs s z → z.heap.SetOf (strKind p w) a (fun y => decide (y ∈ xs)) N → Z (.ok (.ret .none)) z) →
      codeAny (model p w) A (.builtin "set.update.loop" ⟨[.ref a, .ref it], []⟩) Z s := by
  have ag : a ∉ g := fun q => af (Wk.sub _ q)
  have up : ∀ b ∈ g, b ∈ a :: g := fun b q => List.mem_cons_of_mem _ q
  have here : ∀ {s z : Shared} {T : Str → Bool} {c : Nat}, Moved g Gs s z → s.heap.SetOf (strKind p w) a T c → z.heap.SetOf (strKind p w) a T c := fun mv q => by
    obtain ⟨o, es, ep, tb, ho, rest⟩ := q
    exact ⟨o, es, ep, tb, mv.heap a _ ag ho, rest⟩
  intro m
  induction m with
  | zero =>
    intro j s hm hj st se fin
    obtain rfl : j = N := by omega
    refine codeAny_builtin F.entry_set_update_loop (by
      rw [Around.under_plainId F.plain_set_update_loop _]
      refine wpAny_bind (Wk.done s _ _ st fun z mv => wpAny_pure (fin z (mv.mono up) ?_))
      rw [← lx, List.take_length] at se
      rw [← lx]
      exact here mv se)
  | succ m ih =>
    intro j s hm hj st se fin
    have jl : j < N := by omega
    have xj : xs[j]? = some (xs.getD j Str.empty) := by
      rw [List.getD_eq_getElem?_getD, List.getElem?_eq_getElem (by omega)]
      rfl
    generalize xs.getD j Str.empty = x at xj
    refine codeAny_builtin F.entry_set_update_loop (by
      rw [Around.under_plainId F.plain_set_update_loop _]
      refine wpAny_bind (Wk.item j s _ _ jl st fun v z hv st2 mv => ?_)
      obtain ⟨t, ev⟩ := val j v hv
      have ex : xs.getD j Str.empty = x := by rw [List.getD_eq_getElem?_getD, xj]; rfl
      rw [ex] at ev
      subst ev
      have fresh : decide (x ∈ xs.take j) = false := by
        rw [decide_eq_false_iff_not]
        intro q
        obtain ⟨i, hi⟩ := List.getElem?_of_mem q
        rw [List.getElem?_take] at hi
        split at hi
        · rename_i lt
          have := (List.getElem?_inj (i := i) (by omega) un).mp (hi.trans xj.symm)
          omega
        · cases hi
      have se' := here mv se
      refine wpAny_bind (wpAny_holding (by
        unfold setAdd
        refine wpAny_holding (wpAny_bind ((strKind p w).pyHash (k := x) (strKind_is _ _ _ _) (wpAny_setAddHashed_of (knd := strKind p w) (s := { z with toks := z.toks + 1 }) (strKind_is _ _ _ _) rfl se' (by unfold scanBound; omega) fun h2 sb se2 => ?_)))
        have se3 : h2.SetOf (strKind p w) a (fun y => decide (y ∈ xs.take (j + 1))) (j + 1) := SetOf_congr se2 (fun y => by
          rw [List.take_add_one, xj]
          simp [List.mem_append]) (by rw [fresh]; rfl)
        refine wpAny_pure ⟨plainId_quiet F.plain_set_update_loop _, ih (j + 1) _ (by omega) jl (Wk.frame _ z _ _ st2 (Nat.le_succ _) fun b hb o e => ?_) se3 fun y mv2 se4 => fin y (Moved.trans Wk.gtrans ((mv.mono up).then_heap (Nat.le_succ _) fun b o hb e => ?_) mv2) se4⟩
        · rw [sb.2 b fun q : b = a => af (q ▸ hb)]; exact e
        · rw [sb.2 b fun q : b = a => hb (q ▸ List.mem_cons_self)]; exact e)))
end
section
variable {p : Program} {w : World} {A : Around} {E : Value → Shared → Prop} {s : Shared}
def emptySet (b : Bool) : Obj := { cls := .type "set", dict := none, data := .set #[] 0 (.fresh 0 0 b) }
set_option maxHeartbeats 3200000 in
/-- set(t) of a tuple of unlike texts has as many items -/
theorem set_of_tup {l : Addr} {its : Array Value} {xs : List Str} {Q : Value → Shared → Prop} (hh : A.handled = none) (hl : s.heap.IsTuple l its) (hi : StrsAre its.toList xs) (un : xs.Nodup) (few : xs.length ≤ 1000)
    (fin : ∀ (h' : Heap) (tk : Nat), h'.SetOf (strKind p w) s.heap.objs.size (fun y => decide (y ∈ xs)) xs.length → (∀ b o, b < s.heap.objs.size → s.heap.get? b = some o → h'.get? b = some o) → Q (.ref s.heap.objs.size) { s with heap := h', toks := tk }) :
    wpAny (model p w) A (call (.type "set") [.ref l]) Q E s := by
  have sz : its.size = xs.length := by rw [← Array.length_toList, StrsAre.len_eq hi]
  obtain ⟨c, tl, hmro⟩ := F.called_set.mro
  have m1 := F.called_set.made
  have m2 := F.called_set.sub
  refine wpAny_call (codeAny_of_tree (wpAny_pure ⟨Code.quiet_builtin _ (by decide +kernel), codeAny_builtin F.entry_type_call (by
    rw [Around.under_plain (weight_type_call_type "set" [.ref l] []) rfl]
    have m3 := F.called_set.notType
    have m4 := F.called_set.canCreate
    have m5 := F.typeCall_set_1 (.ref l)
    repeat (any_goals (first | assumption | wp_step))
    refine codeAny_mono (code_set_new_1 (.ref l) (E := E) (Q₁ := fun v z => ∃ b : Bool, v = .ref s.heap.objs.size ∧ z = { s with heap := s.heap.push (emptySet b) }) fun b => ⟨b, rfl, rfl⟩) fun r z hr => ?_
    cases r with
    | error e => exact hr
    | ok fl =>
      cases fl with
      | next => exact hr.elim
      | brk => exact hr.elim
      | cont => exact hr.elim
      | ret v =>
        obtain ⟨led, rfl, rfl⟩ := hr
        have hS : (s.heap.push (emptySet led)).get? s.heap.objs.size = some (emptySet led) := Heap.get?_push_size _ rfl
        have hT : Shared.TypeIs { s with heap := s.heap.push (emptySet led) } (.ref s.heap.objs.size) "set" := ⟨_, hS, rfl⟩
        have n1 := F.called_set.init.lookup
        have n2 := F.called_set.init.bind (.ref s.heap.objs.size)
        repeat (any_goals (first | assumption | wp_step))
        refine codeAny_mono (codeAny_call_builtin (R := wants (fun r z => r = .none ∧ ∃ h' tk, z = { s with heap := h', toks := tk } ∧ h'.SetOf (strKind p w) s.heap.objs.size (fun y => decide (y ∈ xs)) xs.length ∧ (∀ b o, b < s.heap.objs.size → s.heap.get? b = some o → h'.get? b = some o)) E) F.called_set.init.plain F.entry_set_init (check_set_init_1 hT ?_)) fun r2 z2 hr2 => ?_
        · obtain ⟨⟨tc, td, tdata, tsl⟩, ho, hc, tn, hd⟩ := hl
          simp only at hc hd
          subst hc hd
          have ho2 : (s.heap.push (emptySet led)).get? l = some { cls := .type "tuple", dict := td, data := .seq its tn, slots := tsl } := Heap.get?_push_of_some _ ho
          have q1 := F.sub_tuple_set
          have q2 := F.sub_tuple_frozenset
          have q3 : (Value.type "tuple" == Value.type "dict") = false := by decide
          have tup : (s.heap.push (emptySet led)).IsTuple l its := ⟨_, ho2, rfl, tn, rfl⟩
          have lS : l < s.heap.objs.size := Heap.lt_size ho
          have pz : (s.heap.push (emptySet led)).objs.size = s.heap.objs.size + 1 := Heap.size_push ..
          unfold Builtin.«set.__init__» noKeywords Builtin.Frozenset.updateFrom
          generalize hPI : pyIter = PI
          unfold emptySet at *
          wp_walk
          subst hPI
          refine wpAny_pyIter_tuple tup (wpAny_bind (wpAny_runValue ?_))
          have hn3 : A.in1.in1.in1.handled = none := by simp [hh]
          have vals : ∀ (j : Nat) (v : Value), its[j]? = some v → ∃ t, v = .str (xs.getD j Str.empty) t := fun j v hv => SS.strs_at hi j v (by rw [Array.getElem?_toList]; exact hv)
          refine set_takes ((Walks.tuple hn3 _ l (by rw [Heap.size_push]; exact Nat.ne_of_lt (Nat.lt_succ_of_lt lS)) its).toS) (a := s.heap.objs.size) (by
            simp only [List.mem_cons, List.not_mem_nil, or_false, not_or]
            exact ⟨by rw [Heap.size_push]; exact (Nat.succ_ne_self _).symm, Nat.ne_of_gt lS⟩) sz.symm un (by omega) vals (its.size - 0) 0 _ (by omega) (Nat.zero_le _) ⟨⟨_, Heap.get?_push_size _ rfl, rfl, rfl⟩, tup.push _⟩ ?_ ?_
          · exact SetOf_congr ((setObjOf_fresh (knd := strKind p w) led).setOf (Heap.get?_push_of_some _ hS) (by decide)) (fun _ => by simp) rfl
          · rintro ⟨h', g', d', tk', os'⟩ mv se
            obtain rfl : g' = s.gens := mv.gens
            obtain rfl : d' = s.drawn := mv.drawn
            obtain rfl : os' = s.os := mv.os
            refine wpAny_pure (wpAny_pure ⟨rfl, h', tk', rfl, by rw [← sz]; exact se, fun b o hb e => mv.heap b o ?_ (Heap.get?_push_of_some _ (Heap.get?_push_of_some _ e))⟩)
            simp only [List.mem_cons, List.not_mem_nil, or_false, not_or]
            exact ⟨Nat.ne_of_lt hb, by rw [Heap.size_push]; exact Nat.ne_of_lt (Nat.lt_succ_of_lt hb)⟩
        · cases r2 with
          | error e => exact hr2
          | ok f2 =>
            cases f2 with
            | next => exact hr2.elim
            | brk => exact hr2.elim
            | cont => exact hr2.elim
            | ret v =>
              obtain ⟨rfl, h', tk, rfl, se, kp⟩ := hr2
              repeat (any_goals (first | assumption | wp_step))
              exact fin _ _ se kp)⟩))
end
end K2
end
section
set_option Elab.async false
set_option maxRecDepth 100000
set_option linter.all false
namespace K2
open PySem L2
abbrev sIsW : Stmt := top 10
abbrev sAreW : Stmt := top 11
/-- the module's constants -/
structure Gb (K : PySem.W.Frag) (mg : Str → Option Value) (aR : Addr) (t1 t2 : Tok) : Prop where
  long : mg "LONGEST" = some (.int 8 t1)
  most : mg "MOST_ROWS" = some (.int 30 t2)
  res : mg "RESERVED" = some (.ref aR)
  resT : ∀ H : Hp, SqT K H aR (resd.map V.str)
theorem uni : ∀ k, k < 26 → Unicode.isAlpha (97 + k) = true ∧ Unicode.isLower (97 + k) = true ∧ Unicode.isUpper (97 + k) = false ∧ Unicode.isTitle (97 + k) = false := by decide +kernel
theorem uni' {c : Nat} (h : 97 ≤ c ∧ c ≤ 122) : Unicode.isAlpha c = true ∧ Unicode.isLower c = true ∧ Unicode.isUpper c = false ∧ Unicode.isTitle c = false := by
  have := uni (c - 97) (by omega)
  rw [show 97 + (c - 97) = c by omega] at this
  exact this
theorem vw_ascii {x : Str} (h : VW x) : Txt.isascii x = true := by
  unfold Txt.isascii
  rw [← Array.all_toList, List.all_eq_true]
  intro c hc
  have := h.low c hc
  simp
  omega
theorem vw_alpha {x : Str} (h : VW x) : Txt.isalpha x = true := by
  unfold Txt.isalpha
  have hl : x.length > 0 := by
    rw [len_codes]
    exact List.length_pos_iff.mpr h.ne
  rw [← Array.all_toList, decide_eq_true hl, Bool.true_and, List.all_eq_true]
  intro c hc
  exact (uni' (h.low c hc)).1
theorem vw_lower {x : Str} (h : VW x) : Txt.islower x = true := by
  unfold Txt.islower
  rw [← Array.any_toList, ← Array.any_toList, Bool.and_eq_true]
  refine ⟨?_, ?_⟩
  · rw [List.any_eq_true]
    obtain ⟨c, r, e⟩ := List.exists_cons_of_ne_nil h.ne
    have hc : c ∈ x.cps.toList := by
      show c ∈ codes x
      rw [e]
      simp
    exact ⟨c, hc, (uni' (h.low c hc)).2.1⟩
  · rw [Bool.not_eq_true', List.any_eq_false]
    intro c hc
    have := uni' (h.low c hc)
    rw [this.2.2.1, this.2.2.2]
    decide
def spIsW : Sp := fun vs H Q _ => ∃ x : Str, vs = [.str x] ∧ VW x ∧ Q (.bl true) H
def spAreW : Sp := fun vs H Q _ => ∃ (t : Addr) (xs : List Str), vs = [.ref t] ∧ H t = some (.tup (xs.map V.str)) ∧ (∀ x ∈ xs, VW x) ∧ xs.length ≤ 100 ∧ ∀ H', Same H H' → Q (.bl true) H'
abbrev nAreW : List Str := ["xs", "x"]
section
variable {P : Program} {w : World} {K : PySem.W.Frag} {mg : Str → Option Value} {base : Heap}
theorem scIsW : FnScope ["x"] ["x"] (defScope sIsW) := ⟨rfl, rfl, rfl, by decide +kernel, rfl, by decide +kernel, by decide +kernel⟩
theorem ok_isw {f aR : Addr} {t1 t2 : Tok} {fd : FuncData} (F : Fun K "is_word" "is_word" sIsW f fd) (T : Bi mg) (G : Gb K mg aR t1 t2) : FnOk P w K mg base CX0 1 f fd ["x"] spIsW := by
  refine F.ok scIsW (fun vs H Q E h => ?_) (fun cdv A outer s H vs Q E hr h => ?_)
  · obtain ⟨x, rfl, _⟩ := h
    rfl
  · obtain ⟨x, rfl, hx, k⟩ := h
    refine ⟨_, (pss_cons (ps_if (PW.pt (pw_or (pt_not (pt_val (pe_callB call_isi (by rfl) T.isinstance (by decide +kernel) (pa_cons (pv 0) (pa_cons (pe_bltn (v := .ty "str") (by rfl) T.str (by decide +kernel) rfl) pa_nil))))) (pw_or1 (pt_cmpR op_gt (pe_callB call_len_str (by rfl) T.len PySem.boot_len (pa_cons (pv 0) pa_nil)) (pe_glob (v := .int 8) rfl G.long ⟨_, rfl⟩) (nomark _)))))
      (pss_one (ps_ret pe_bl))
      pss_nil)
      (pss_one (ps_ret (pe_and (pe_m0 PySem.F.slot_str_isascii PySem.F.type_str_isascii mt_isascii (pv 0)) (pe_and (pe_m0 PySem.F.slot_str_isalpha PySem.F.type_str_isalpha mt_isalpha (pv 0)) (pe_and (pe_m0 PySem.F.slot_str_islower PySem.F.type_str_islower mt_islower (pv 0)) (pe_one (pe_cmpR op_notIn_seq (pv 0) (pe_glob (v := .ref aR) rfl G.res rfl) rfl)))))))), ?_⟩
    have hl : x.length ≤ 8 := by rw [len_codes]; exact hx.le
    refine ⟨_, rfl, _, _, _, _, true, rfl, .ty _, .base (.str _), kit_ty (by decide +kernel), _, rfl, ?_⟩
    refine ⟨_, rfl, _, rfl, Nat.le_trans hl (by decide), _, _, rfl, rfl, _, rfl, ite2 (fun h8 => ?_) (fun _ => ?_)⟩
    · have := of_decide_eq_true h8
      omega
    refine ⟨_, rfl, ⟨_, rfl⟩, _, rfl, rfl, trivial, _, rfl, ?_⟩
    rw [vw_ascii hx]
    refine iteT ⟨_, rfl, ⟨_, rfl⟩, _, rfl, rfl, trivial, _, rfl, ?_⟩
    rw [vw_alpha hx]
    refine iteT ⟨_, rfl, ⟨_, rfl⟩, _, rfl, rfl, trivial, _, rfl, ?_⟩
    rw [vw_lower hx]
    refine iteT ⟨_, rfl, aR, _, rfl, .inr (G.resT H), rfl, flat_strs _, ?_⟩
    rw [if_pos rfl, inV_strs, decide_eq_false hx.nr]
    exact k
theorem scAreW : FnScope nAreW ["xs"] (defScope sAreW) := ⟨rfl, rfl, rfl, by decide +kernel, rfl, by decide +kernel, by decide +kernel⟩
theorem ok_arew {f fI : Addr} {fd fdI : FuncData} (F : Fun K "are_words" "are_words" sAreW f fd) (T : Bi mg) (IW : Df K mg "is_word" sIsW fI fdI ["x"]) (GI : FnOk P w K mg base CX0 1 fI fdI ["x"] spIsW) : FnOk P w K mg base CX0 2 f fd ["xs"] spAreW := by
  refine F.ok scAreW (fun vs H Q E h => ?_) (fun cdv A outer s H vs Q E hr h => ?_)
  · obtain ⟨t, xs, rfl, _⟩ := h
    rfl
  · obtain ⟨t, xs, rfl, ht, hx, hl, k⟩ := h
    have hr0 : Room 1 _ := hr
    refine ⟨_, (pss_one (ps_ret (pe_callB (cr_all rfl) (by rfl) T.all (by decide +kernel) (pa_cons (pe_lc (own := [("x", 1)]) (g := gName 1) (tt := tYes) rfl scAreW.nd (pi_tup (pv 0)) (blkOk_by (N := nAreW) (sc := defScope sAreW) (by decide +kernel)) (fun _ _ _ _ _ => pg_name (i := 1) scAreW.nd rfl (Or.inl rfl)) (fun _ _ _ _ _ => pts_nil) (fun _ _ _ _ _ => pe_call GI hr0 (by rfl) IW.m IW.F.kp IW.b .nil pass0 (pa_cons (pv 1) pa_nil))) pa_nil)))), ?_⟩
    refine ⟨_, rfl, t, rfl, ⟨_, SqT.of ht⟩, fun D hD => ?_⟩
    refine lc_tup (K := K) (a := t) (xs := xs.map V.str) (fun i Hc => Hc D = some (.lst ((List.replicate i true).map V.bl)) ∧ Same H Hc) ?_ ?_ ?_ ?_
    · exact ⟨upd_same, (Same.refl H).put hD⟩
    · rintro i Hc _ ⟨_, sm⟩
      exact SqT.of (sm t _ ht)
    · rintro i y Hc hy ⟨h1, sm⟩
      obtain ⟨x, hxm, rfl⟩ := List.mem_map.mp (List.mem_of_getElem? hy)
      have hil : i < xs.length := by
        have := (List.getElem?_eq_some_iff.mp hy).1
        rwa [List.length_map] at this
      refine ⟨rfl, _, rfl, x, rfl, hx x hxm, _, h1, ?_, ?_, sm.put hD⟩
      · rw [List.length_map, List.length_replicate]; show _ < 16777216; omega
      · rw [upd_same, List.replicate_succ', List.map_append]
        rfl
    · rintro Hc ⟨h1, sm⟩
      refine ⟨D, _, rfl, SqL.of h1, ?_⟩
      have : (List.replicate (xs.map V.str).length true).all id = true := by simp
      rw [this]
      exact k Hc sm
end
end K2
end
section
set_option Elab.async false
set_option maxRecDepth 100000
set_option linter.all false
namespace K2
open PySem L2
abbrev sAreD : Stmt := top 12
abbrev sFault : Stmt := top 28
abbrev sLine : Stmt := top 29
abbrev nLine : List Str := ["row", "lines", "line", "base", "name"]
abbrev nFault : List Str := ["row", "k", "lines", "bases", "base"]
/-- a dict of True for each name -/
def dkeys (us : List Str) : List (Key × V) := us.map fun u => ((Sum.inr u : Key), V.bl true)
def fD (us : List Str) : HO := .dK (dkeys us)
theorem dkeys_val (us : List Str) (x : Str) : valV (dkeys us) (Sum.inr x : Key) = if x ∈ us then some (.bl true) else none := by
  induction us with
  | nil => rfl
  | cons u us ih =>
    show valV (((Sum.inr u : Key), V.bl true) :: dkeys us) (Sum.inr x : Key) = _
    rw [valV_cons, ih]
    by_cases e : u = x
    · subst e; simp
    · have e2 : ¬ (Sum.inr u : Key) = Sum.inr x := fun q => e (Sum.inr.inj q)
      have e3 : ¬ x = u := fun q => e q.symm
      simp [e2, e3]
theorem dkeys_put (us : List Str) (x : Str) : putK (dkeys us) (Sum.inr x : Key) (.bl true) = dkeys (insK us x) := by
  unfold insK
  by_cases h : x ∈ us
  · rw [if_pos h]
    unfold putK
    rw [valV_any, dkeys_val, if_pos h]
    show (dkeys us).map _ = dkeys us
    unfold dkeys
    rw [List.map_map]
    apply List.map_congr_left
    intro u _
    show (if (Sum.inr u : Key) = Sum.inr x then _ else _) = _
    split <;> rfl
  · rw [if_neg h, putK_new _ (by rw [dkeys_val, if_neg h])]
    unfold dkeys
    rw [List.map_append]
    rfl
theorem dkeys_len (us : List Str) : (dkeys us).length = us.length := by simp [dkeys]
theorem insK_foldl_len (us m : List Str) : (us.foldl insK m).length ≤ m.length + us.length := by
  induction us generalizing m with
  | nil => simp
  | cons u us ih =>
    rw [List.foldl_cons]
    have := ih (insK m u)
    have h2 : (insK m u).length ≤ m.length + 1 := by
      unfold insK
      split
      · omega
      · simp
    rw [List.length_cons]
    omega
theorem merge1 (x : Str) (v : V) : mergeK [] [((Sum.inr x : Key), v)] = [((Sum.inr x : Key), v)] := by
  show putK [] (Sum.inr x : Key) v = _
  rw [putK_new v rfl]
  rfl
def spAreD : Sp := fun vs H Q _ => ∃ (t : Addr) (xs : List Str), vs = [.ref t] ∧ H t = some (.tup (xs.map V.str)) ∧ xs.Nodup ∧ xs.length ≤ 1000 ∧ Q (.bl true) H
def spLine : Sp := fun vs H Q _ => ∃ (t d : Addr) (r : Row) (kvs : List (Key × V)) (tb : Tb), vs = [.ref t, .ref d] ∧ H t = some (rowO r) ∧ H d = some (.dK kvs) ∧ Tab fD H kvs tb ∧ TOk tb ∧ RowOk (keys tb) r ∧ tb.length ≤ 40 ∧
  ∀ (m : Addr) (H' : Hp), H m = none → H' m = some (fD (lineOf tb r)) → Same H H' → Q (.ref m) H'
def spFault : Sp := fun vs H Q _ => ∃ (t d : Addr) (k : Nat) (r : Row) (kvs : List (Key × V)) (tb : Tb), vs = [.ref t, .int k, .ref d] ∧ k < 30 ∧ H t = some (rowO r) ∧ H d = some (.dK kvs) ∧ Tab fD H kvs tb ∧ TOk tb ∧ RowOk (keys tb) r ∧ (∀ x ∈ r.2, VW x) ∧ tb.length ≤ 40 ∧
  ∀ (H' : Hp), Same H H' → Q .non H'
section
variable {P : Program} {w : World} {K : PySem.W.Frag} {mg : Str → Option Value} {base : Heap}
theorem scLine : FnScope nLine ["row", "lines"] (defScope sLine) := ⟨rfl, rfl, rfl, by decide +kernel, rfl, by decide +kernel, by decide +kernel⟩
theorem scFault : FnScope nFault ["row", "k", "lines"] (defScope sFault) := ⟨rfl, rfl, rfl, by decide +kernel, rfl, by decide +kernel, by decide +kernel⟩
theorem ok_line {f : Addr} {fd : FuncData} (F : Fun K "_line" "_line" sLine f fd) : FnOk P w K mg base CX0 1 f fd ["row", "lines"] spLine := by
  refine F.ok scLine (fun vs H Q E h => ?_) (fun cdv A outer s H vs Q E hr h => ?_)
  · obtain ⟨t, d, r, kvs, tb, rfl, _⟩ := h
    rfl
  · obtain ⟨t, d, ⟨x, bs⟩, kvs, tb, rfl, ht, hd, TB, TO, RO, h40, k⟩ := h
    have hu := hu_of hr
    refine ⟨_, (pss_cons (ps_set (i := 2) scLine.nd rfl (Or.inl rfl) (pe_disp (pps_cons (pe_ix ix_tup (pv 0) pe_int (fun _ _ => rfl)) pe_bl pps_nil) (by rfl) (by rfl) (fun z => by cases z) (by decide)))
      (pss_cons (ps_for PassesOwn.never rfl (pi_tup (pe_slice sl_tup2 (pv 0) (po_some pe_int) po_none)) (pg_name (i := 3) scLine.nd rfl (Or.inl rfl))
      (pss_one (ps_lock (ps_for PassesOwn.never rfl (pi_keys (pe_dget hu (pv 1) (pv 3) (fun _ _ => rfl))) (pg_name (i := 4) scLine.nd rfl (Or.inl rfl))
        (pss_one (ps_dput hu (pv 2) (pv 4) pe_bl rfl))))))
      (pss_one (ps_ret (pv 2))))), ?_⟩
    have htl : tb.length = (keys tb).length := by simp [keys]
    have hll := fun j => line_len TO (x := x) (bs := bs.take j) fun b hb => RO.sub b (List.mem_of_mem_take hb)
    unfold rowO at ht
    refine fun m hm => ⟨_, rfl, t, _, _, _, rfl, rfl, SqT.of (by rw [upd_ne (ne_of_none ht hm)]; exact ht), atI_nat (j := 0) rfl, upd_same, [((Sum.inr x : Key), V.bl true)], rfl, (by show 1 ≤ 15; decide), ?_⟩
    rw [merge1, upd_upd]
    have sm : Same H (upd H m (.dK [((Sum.inr x : Key), V.bl true)])) := (Same.refl H).put hm
    have hm1 : (upd H m (.dK [((Sum.inr x : Key), V.bl true)])) m = some (fD [x]) := upd_same
    generalize upd H m (.dK [((Sum.inr x : Key), V.bl true)]) = H1 at sm hm1 ⊢
    refine ⟨_, rfl, _, rfl, t, _, rfl, sm t _ ht, fun rp H2 s2 hrp => ?_⟩
    rw [cut1'] at hrp
    refine ⟨rp, rfl, ⟨_, SqT.of hrp⟩, for_tup (K := K) (a := rp) (xs := bs.map V.str)
      (fun j σ Hd => ∃ (v3 v4 : Option V), σ = [some (.ref t), some (.ref d), some (.ref m), v3, v4] ∧ Same H Hd ∧ Hd rp = some (.tup (bs.map V.str)) ∧ Hd m = some (fD (lineL tb [x] (bs.take j)))) ?_ ?_ ?_ ?_⟩
    · exact ⟨_, _, rfl, sm.trans s2, hrp, s2 m _ hm1⟩
    · rintro j σ Hd _ ⟨v3, v4, rfl, _, hr2, _⟩
      exact SqT.of hr2
    · rintro j y σ Hd hj ⟨v3, v4, rfl, sd, hr2, hmd⟩
      have hjl : j < bs.length := by
        have := (List.getElem?_eq_some_iff.mp hj).1
        rwa [List.length_map] at this
      have hbj : bs[j]? = some bs[j] := List.getElem?_eq_getElem hjl
      rw [List.getElem?_map, hbj] at hj
      cases hj
      obtain ⟨u, hu1, hu2⟩ := TB.val (RO.sub bs[j] (List.getElem_mem hjl))
      have q := TO.line (RO.sub bs[j] (List.getElem_mem hjl))
      have husl : (look tb bs[j]).length ≤ (keys tb).length := q.1.length_le_of_subset q.2.2.2
      have hun := q.1
      have hsucc := lineL_take (t := tb) (m := [x]) hbj
      have hl1 := hll j
      have hmu : u ≠ m := ne_of_none hu2 hm
      have hud := sd u _ hu2
      have hdd := sd d _ hd
      generalize look tb bs[j] = us at hu2 hud hsucc husl hun
      generalize lineL tb [x] (bs.take j) = mine at hmd hsucc hl1
      -- for name in lines[base]: the dict at u is locked
      refine ⟨u, fD us, hud, True.intro, fun od => ?_⟩
      have hmf : m ≠ u := hmu.symm
      have hget : ∀ hq : Hp, (∀ b, b ≠ u → b ≠ m → hq b = Hd b) → (d = u → hq u = some (.frz od (fD us))) → True := fun _ _ _ => trivial
      have hD2 : DGet (upd Hd u (.frz od (fD us))) d (.str bs[j]) (some (.ref u)) := by
        by_cases e : d = u
        · subst e
          rw [hdd] at hud
          have e2 := Option.some.inj hud
          refine .inl ⟨kvs, Sum.inr bs[j], .inr ⟨od, ?_⟩, rfl, hu1.symm⟩
          rw [upd_same, e2]
        · exact dget_s (by rw [upd_ne e]; exact hdd) hu1
      refine ⟨_, rfl, _, rfl, d, _, rfl, hD2, u, od, rfl, .inl ⟨dkeys us, upd_same, for_it walk_keys
        (fun i σ Hx => ∃ v4 : Option V, σ = [some (.ref t), some (.ref d), some (.ref m), some (.str bs[j]), v4] ∧ Hx u = some (.frz od (fD us)) ∧ Hx m = some (fD ((us.take i).foldl insK mine)) ∧ ∀ b o, Hd b = some o → b ≠ m → b ≠ u → Hx b = some o) ?_ ?_ ?_ ?_⟩⟩
      · exact ⟨_, rfl, upd_same, by rw [upd_ne hmf]; exact hmd, fun b o hb _ h2 => by rw [upd_ne h2]; exact hb⟩
      · rintro i σ Hx _ ⟨v4, rfl, hx, _, _⟩
        exact hx
      · rintro i y σ Hx Hy hi ⟨v4, rfl, hx, hmx, kx⟩ ⟨rfl, kk, vv, hkv, rfl⟩
        rw [dkeys_len] at hi
        have hui : us[i]? = some us[i] := List.getElem?_eq_getElem hi
        unfold dkeys at hkv
        rw [List.getElem?_map, hui] at hkv
        cases hkv
        have hfl := insK_foldl_len (us.take i) mine
        rw [List.length_take] at hfl
        refine ⟨_, rfl, _, rfl, m, _, rfl, DPut.k (k := Sum.inr us[i]) hmx ?_, ?_⟩
        · rw [dkeys_len]; show _ < 16777216; omega
        · refine ⟨_, rfl, by rw [upd_ne hmu]; exact hx, ?_, fun b o hb h1 h2 => by rw [upd_ne h1]; exact kx b o hb h1 h2⟩
          have et : us.take (i + 1) = us.take i ++ [us[i]] := by rw [List.take_add_one, hui]; rfl
          rw [upd_same, dkeys_put, et, List.foldl_append]
          rfl
      · rintro σ Hx ⟨v4, rfl, hx, hmx, kx⟩
        rw [dkeys_len, List.take_length, foldl_insK _ _ hun] at hmx
        have back : ∀ b o, Hd b = some o → b ≠ m → (upd Hx u (fD us)) b = some o := fun b o hb h1 => by
          by_cases e : b = u
          · subst e
            rw [hud] at hb
            rw [upd_same]
            exact hb
          · rw [upd_ne e]
            exact kx b o hb h1 e
        refine ⟨hx, _, _, rfl, fun b o hb => back b o (sd b o hb) (ne_of_none hb hm), back rp _ hr2 ?_, ?_⟩
        · exact ne_of hr2 hmd (by unfold fD; intro z; cases z)
        · rw [upd_ne hmf, hmx, hsucc]
    · rintro σ Hd ⟨v3, v4, rfl, sd, hr2, hmd⟩
      rw [List.length_map, List.take_length] at hmd
      exact ⟨_, rfl, k m Hd hm hmd sd⟩
end
end K2
end
section
set_option Elab.async false
set_option maxRecDepth 100000
set_option linter.all false
namespace K2
open PySem PySem.Spec PyProof.Rows L2
def tLenSetT (ta : TE) : TE := fun σ H Q => ta σ H fun x H1 => ∃ (l : Addr) (xs : List Str), x = .ref l ∧ H1 l = some (.tup (xs.map V.str)) ∧ xs.Nodup ∧ xs.length ≤ 1000 ∧ Q (.int (xs.length : Nat)) H1
section
variable {X : Cx}
/-- len(set(t)), t a tuple of unlike texts -/
theorem pe_lenSetT {a : Expr} {ta : TE} {p1 p2 p3 pos : Pos} (h1 : Gl X "len") (h2 : X.mg "len" = none) (h3 : Gl X "set") (h4 : X.mg "set" = none) (ha : PE X a ta) (hc : X.calm = true := by rfl)
    (na : starEach [a] X.env = (false, eval a X.env) :: starEach [] X.env := by rfl) : PE X (.Call (.Name "len" p1) [.Call (.Name "set" p2) [a] [] p3] [] pos) (tLenSetT ta) := by
  refine ⟨fun pins s σ H Q I h => Call_ (ld_blt I h1 h2 boot_len (callWith_builtin1 (args_cons (Call_ (ld_blt I h3 h4 boot_set (callWith_type1 (args_cons (thn (ha.run pins s σ H _ I h) fun v s1 ⟨x, H1, I1, r1, q1⟩ => args_nil ?_) na) na rfl))) rfl) rfl rfl))⟩
  obtain ⟨l, xs, rfl, ht, un, few, q⟩ := q1
  cases r1
  obtain ⟨its, r, pl, _⟩ := I1.tuple (SqT.of ht)
  refine set_of_tup (I1.ok.hd hc) pl (by simpa using strsAre_of r) un few fun h' tk hS hk => args_nil ?_
  obtain ⟨o, es, ep, t, ho, hex, hd, _, _, _, hf, hn⟩ := hS
  have I2 : Inv X pins σ H1 { s1 with heap := h', toks := tk } := I1.kept fun b o e => hk b o (Heap.lt_size e) e
  exact call_len_set ho hex hd hf (by rw [hn]; omega) ⟨.int xs.length, H1, I2.tok _, ⟨_, by rw [hn]⟩, q⟩
end
section
variable {P : Program} {w : World} {K : PySem.W.Frag} {mg : Str → Option Value} {base : Heap}
theorem scAreD : FnScope ["words"] ["words"] (defScope sAreD) := ⟨rfl, rfl, rfl, by decide +kernel, rfl, by decide +kernel, by decide +kernel⟩
theorem ok_ared {f : Addr} {fd : FuncData} (F : Fun K "are_different" "are_different" sAreD f fd) (T : Bi mg) : FnOk P w K mg base CX0 1 f fd ["words"] spAreD := by
  refine F.ok scAreD (fun vs H Q E h => ?_) (fun cdv A outer s H vs Q E hr h => ?_)
  · obtain ⟨t, xs, rfl, _⟩ := h
    rfl
  · obtain ⟨t, xs, rfl, ht, un, few, k⟩ := h
    refine ⟨_, pss_one (ps_ret (pe_cmpR op_eq (pe_lenSetT (by rfl) T.len (by rfl) T.set (pv 0)) (pe_callB call_len_seq (by rfl) T.len PySem.boot_len (pa_cons (pv 0) pa_nil)) (nomark _))), ?_⟩
    refine ⟨_, rfl, t, xs, rfl, ht, un, few, _, rfl, t, _, rfl, .inr (SqT.of ht), rfl, ?_⟩
    rw [List.length_map, decide_eq_true rfl]
    exact k
end
end K2
end
section
set_option Elab.async false
set_option maxRecDepth 100000
set_option linter.all false
namespace K2
open PySem L2
section
variable {P : Program} {w : World} {K : PySem.W.Frag} {mg : Str → Option Value} {base : Heap}
theorem ok_fault {f fA fF aR : Addr} {fd fdA fdF : FuncData} {t1 t2 : Tok} (F : Fun K "_fault" "_fault" sFault f fd) (T : Bi mg) (G : Gb K mg aR t1 t2) (AW : Df K mg "are_words" sAreW fA fdA ["xs"]) (GA : FnOk P w K mg base CX0 2 fA fdA ["xs"] spAreW)
    (AD : Df K mg "are_different" sAreD fF fdF ["words"]) (GF : FnOk P w K mg base CX0 1 fF fdF ["words"] spAreD) : FnOk P w K mg base CX0 3 f fd ["row", "k", "lines"] spFault := by
  refine F.ok scFault (fun vs H Q E h => ?_) (fun cdv A outer s H vs Q E hr h => ?_)
  · obtain ⟨t, d, k, r, kvs, tb, rfl, _⟩ := h
    rfl
  · obtain ⟨t, d, n, ⟨x, bs⟩, kvs, tb, rfl, hn, ht, hd, TB, TO, RO, hvw, h40, k⟩ := h
    have hu := hu_of hr
    have hr2 : Room 2 _ := hr
    have hr1 : Room 1 _ := hr.mono (by decide)
    refine ⟨_, (pss_cons (ps_if (pt_cmpR op_eq (pv 1) (pe_glob (v := .int 30) rfl G.most ⟨_, rfl⟩) (nomark _))
      (pss_one (ps_ret pe_str))
      pss_nil)
      (pss_cons (ps_if (PW.pt (pw_or (pt_not (pt_val (pe_callB call_isi (by rfl) T.isinstance (by decide +kernel) (pa_cons (pv 0) (pa_cons (pe_bltn (v := .ty "tuple") (by rfl) T.tuple (by decide +kernel) rfl) pa_nil))))) (pw_or (pt_cmpR op_lt (pe_callB call_len_seq (by rfl) T.len PySem.boot_len (pa_cons (pv 0) pa_nil)) pe_int (nomark _)) (pw_or1 (pt_not (pt_val (pe_call GA hr2 (by rfl) AW.m AW.F.kp AW.b .nil pass0 (pa_cons (pv 0) pa_nil))))))))
      (pss_one (ps_ret pe_str))
      pss_nil)
      (pss_cons (ps_if (pt_cmp (pc_din hu (pe_ix ix_tup (pv 0) pe_int (fun _ _ => rfl)) (pv 2)))
      (pss_one (ps_ret pe_str))
      pss_nil)
      (pss_cons (ps_set (i := 3) scFault.nd rfl (Or.inl rfl) (pe_slice sl_tup2 (pv 0) (po_some pe_int) po_none))
      (pss_cons (ps_if (PW.pt (pw_or (pt_not (pt_val (pe_callB (cr_all rfl) (by rfl) T.all (by decide +kernel) (pa_cons (pe_lc (own := [("base", 4)]) (g := gName 4) (tt := tYes) rfl scFault.nd (pi_tup (pv 3)) (blkOk_by (N := nFault) (sc := defScope sFault) (by decide +kernel)) (fun _ _ _ _ _ => pg_name (i := 4) scFault.nd rfl (Or.inl rfl)) (fun _ _ _ _ _ => pts_nil) (fun _ _ _ _ _ => pe_cmp (pc_din hu (pv 4) (pv 2)) rfl)) pa_nil)))) (pw_or1 (pt_not (pt_val (pe_call GF hr1 (by rfl) AD.m AD.F.kp AD.b .nil pass0 (pa_cons (pv 3) pa_nil)))))))
      (pss_one (ps_ret pe_str))
      pss_nil)
      (pss_one (ps_ret pe_non))))))), ?_⟩
    have htl : tb.length = (keys tb).length := by simp [keys]
    have hbl : bs.length ≤ 40 := by
      have q : bs.length ≤ (keys tb).length := RO.nd.length_le_of_subset (RO.sub)
      omega
    have hb0 : 1 ≤ bs.length := List.length_pos_iff.mpr RO.ne
    unfold rowO at ht
    refine ⟨_, rfl, rfl, _, rfl, ite2 (fun h0 => ?_) (fun _ => ?_)⟩
    · have e : (n : Int) = 30 := V.int.inj (of_decide_eq_true h0)
      omega
    refine ⟨_, rfl, _, _, _, _, true, rfl, .ty _, .base (.tup ht), kit_ty (by decide +kernel), _, rfl, ?_⟩
    refine ⟨_, rfl, t, _, rfl, .inr (SqT.of ht), _, _, rfl, rfl, _, rfl, ite2 (fun h0 => ?_) (fun _ => ?_)⟩
    · have := of_decide_eq_true h0
      rw [List.length_map, List.length_cons] at this
      have h1 : 1 ≤ (x, bs).snd.length := hb0
      omega
    refine ⟨_, rfl, t, _, rfl, ht, ?_, ?_, fun H1 s1 => ⟨_, rfl, ?_⟩⟩
    · intro y hy
      rcases List.mem_cons.mp hy with rfl | hy
      · exact RO.vw
      · exact hvw y hy
    · show bs.length + 1 ≤ 100
      omega
    refine ⟨_, rfl, t, _, _, _, rfl, rfl, SqT.of (s1 t _ ht), atI_nat (j := 0) rfl, _, rfl, d, _, rfl, DGet.k (k := Sum.inr x) (s1 d _ hd), _, rfl, ?_⟩
    rw [TB.none RO.new]
    refine ⟨_, rfl, _, rfl, t, _, rfl, s1 t _ ht, fun bp H2 s2 hbp => ?_⟩
    rw [cut1'] at hbp
    have s12 := s1.trans s2
    refine ⟨_, rfl, bp, rfl, ⟨_, SqT.of hbp⟩, fun D hD => ?_⟩
    refine lc_tup (K := K) (a := bp) (xs := bs.map V.str) (fun i Hc => Hc D = some (.lst ((List.replicate i true).map V.bl)) ∧ Same H2 Hc) ?_ ?_ ?_ ?_
    · exact ⟨upd_same, (Same.refl H2).put hD⟩
    · rintro i Hc _ ⟨_, sm⟩
      exact SqT.of (sm bp _ hbp)
    · rintro i y Hc hy ⟨h1, sm⟩
      obtain ⟨b, hb, rfl⟩ := List.mem_map.mp (List.mem_of_getElem? hy)
      have hil : i < bs.length := by
        have := (List.getElem?_eq_some_iff.mp hy).1
        rwa [List.length_map] at this
      obtain ⟨u, hu1, _⟩ := TB.val (RO.sub b hb)
      refine ⟨rfl, _, rfl, _, rfl, d, _, rfl, DGet.k (k := Sum.inr b) (sm d _ (s12 d _ hd)), _, h1, ?_, ?_, sm.put hD⟩
      · rw [List.length_map, List.length_replicate]; show _ < 16777216; omega
      · rw [upd_same, List.replicate_succ', List.map_append, hu1]
        rfl
    · rintro Hc ⟨h1, sm⟩
      refine ⟨D, _, rfl, SqL.of h1, _, rfl, ?_⟩
      have e : (List.replicate (bs.map V.str).length true).all id = true := by simp
      rw [e]
      refine ⟨_, rfl, bp, bs, rfl, sm bp _ hbp, RO.nd, by omega, _, rfl, ?_⟩
      exact k Hc (s12.trans sm)
end
end K2
end
section
set_option Elab.async false
set_option maxRecDepth 100000
set_option linter.all false
namespace K2
open PySem PySem.Spec PyProof.Rows L2
/-! enumerate(t) of a tuple -/
def enumO (i : Addr) : Obj := { cls := .type "enumerate", data := .fields #[.none, .bool false, .ref i, rawInt 0, .none, .none] }
set_option maxHeartbeats 1000000 in
theorem enum_made {v : Value} {o : Obj} {B : Heap → Prop} (b : Begins v o B) :
    Meets (Builtin.«enumerate.__new__» ⟨[.type "enumerate", v], []⟩) (fun _ R s => B s.heap ∧ R (.ok (.ret (.ref (s.heap.push o).objs.size))) { s with heap := (s.heap.push o).push (enumO s.heap.objs.size) }) :=
  .of_wp fun prog w A R ⟨hp, g, d, tk, os⟩ ⟨h1, h⟩ => by
    have q0 := sub_enumerate
    have q1 : ∀ {A' : Around} {E : Value → Shared → Prop} {Q : Value → Shared → Prop}, Q (.ref hp.objs.size) ⟨hp.push o, g, d, tk, os⟩ → wpAny (model prog w) A' (pyIter v) Q E ⟨hp, g, d, tk, os⟩ := fun q => b.iter prog w _ _ ⟨hp, g, d, tk, os⟩ _ h1 q
    wp_walk using q1
    refine wpAny_stack_any fun st => wpAny_pure ?_
    split
    · rename_i c _ _ _ _ _
      cases (c == Value.type "enumerate") <;> (wp_walk using q1; exact ⟨_, rfl, h⟩)
    · wp_walk using q1
      exact ⟨_, rfl, h⟩
section
variable {prog : Program} {w : World} {A : Around} {E : Value → Shared → Prop} {s : Shared}
theorem enum_call {v : Value} {o : Obj} {B : Heap → Prop} {Q : Value → Shared → Prop} (b : Begins v o B) (h1 : B s.heap)
    (h : ∀ h', IsEnum h' (s.heap.objs.size + 1) s.heap.objs.size 0 .none → h'.get? s.heap.objs.size = some o → (∀ a u, s.heap.get? a = some u → h'.get? a = some u) → Q (.ref (s.heap.objs.size + 1)) { s with heap := h' }) :
    wpAny (model prog w) A (call (.type "enumerate") [v]) Q E s := by
  refine callType_new F.called_enumerate (by decide) (F.typeCall_enumerate_1 _) (F.newCall_enumerate_1 _) (fun obj => F.args_object_init_2 obj _) F.entry_enumerate_new (enum_made b) ⟨h1, ?_⟩
  have sz : (s.heap.push o).objs.size = s.heap.objs.size + 1 := Heap.size_push ..
  have at1 := Heap.get?_push_size (s.heap.push o) (o := enumO s.heap.objs.size) rfl
  rw [sz] at at1
  show _ ∧ _
  rw [sz]
  exact ⟨⟨_, at1, rfl⟩, h _ at1 (Heap.get?_push_of_some _ (Heap.get?_push_size _ b.free)) fun a u x => Heap.get?_push_of_some _ (Heap.get?_push_of_some _ x)⟩
end
/-- the items of the tuple at a, each in a new pair with its number -/
def IteT (a : Addr) (xs : List V) : It :=
  ⟨fun i H => H a = some (.tup xs) ∧ i < xs.length, fun i H v H' => ∃ T x, v = .ref T ∧ H T = none ∧ H' = upd H T (.tup [.int (i : Nat), x]) ∧ xs[i]? = some x, fun i H => H a = some (.tup xs) ∧ i = xs.length⟩
def tnE (e it t : Addr) (i : Nat) (h : Heap) : Prop := (∃ old, IsEnum h e it (0 + ((i : Nat) : Int)) old) ∧ h.IsTupleIter it t i ∧ e ≠ it ∧ t ≠ it ∧ e ≠ t
theorem turn_enumT {P : Program} {w : World} {K : PySem.W.Frag} {elts : List Expr} {kk : Nat} {tpos : Pos} (xs : List V) (t e it : Addr) : Turn P w K (.Tuple elts kk tpos) (IteT t xs) [e, it] e (tnE e it t) where
  mem := by simp
  obj := fun i h ⟨⟨old, he⟩, ⟨o, ho, hc, hd⟩, _⟩ b hb => by
    rcases List.mem_cons.mp hb with z | z
    · subst z; exact ⟨_, he, fun v q => nomatch q⟩
    · rw [List.mem_singleton.mp z]; exact ⟨o, ho, fun v q => by rw [hd] at q; cases q⟩
  keep := fun i h h' ⟨⟨old, he⟩, hi, n1, n2, n3⟩ k => ⟨⟨old, k e (by simp) _ he⟩, hi.at fun o q => k it (by simp) o q, n1, n2, n3⟩
  item := by
    rintro X rfl rfl rfl hc i pins s σ H E I hf ⟨he, hi, n1, n2, n3⟩ ⟨ha, hlt⟩
    obtain ⟨its, rv, pl, _⟩ := I.tuple (SqT.of ha)
    have sz : its.toArray.size = xs.length := by rw [List.size_toArray, rv.length]
    have W := WalksT.enumFrom (prog := X.prog) (w := X.w) (A := X.A) 0 (Draws.tuple (A := X.A.in1) (by simp [I.ok.hd hc]) it t n2 its.toArray) e n1 (by simp [n1, n3]) (by simp)
    refine W.item i s _ _ (by rw [sz]; exact hlt) ⟨he, hi, pl⟩ fun T vals h' tk ⟨tt, x, hx, ev⟩ hT hTup mid fr => ⟨_, rfl, W.go elts kk tpos i T _ _ _ mid fun h'' ⟨he2, hi2, _⟩ fr2 => ?_⟩
    have hx2 : its[i]? = some x := by simpa using hx
    obtain ⟨y, hy, ry⟩ : ∃ y, xs[i]? = some y ∧ RelV y x := by
      have q : xs[i]? = some xs[i] := List.getElem?_eq_getElem hlt
      obtain ⟨u, hu, ru⟩ := rv.get q
      rw [hx2] at hu
      cases hu
      exact ⟨_, q, ru⟩
    have hTw := W.apart i T _ mid
    have hTf : H T = none := I.hok.fresh hT
    obtain ⟨o2, ho2, hc2, nn, hd2⟩ := hTup
    have new : ObjOk X.prog X.w (upd H T (.tup [.int (i : Nat), y])) h'' T (.tup [.int (i : Nat), y]) :=
      ⟨by show 2 ≤ sizeLine; decide, [.int (i : Nat) tt, x], .cons ⟨_, rfl⟩ (.cons ry .nil), ⟨o2, fr2 T o2 hTw ho2, hc2, nn, by rw [hd2, ev, Int.zero_add]⟩⟩
    refine ⟨.ref T, _, I.turnedNew (ch := [e, it]) (fun b ob hb q => fr2 b ob hb (fr b ob hb q)) hf hT new, rfl, ⟨T, y, rfl, hTf, rfl, hy⟩, ⟨he2, hi2, n1, n2, n3⟩, fun b hb => ?_⟩
    rw [upd_ne fun z : b = T => hTw (z ▸ hb)]
    exact (hf b hb).1
  done := by
    rintro X rfl rfl rfl hc i pins s σ H E I hf ⟨he, hi, n1, n2, n3⟩ ⟨ha, hle⟩
    obtain ⟨its, rv, pl, _⟩ := I.tuple (SqT.of ha)
    have sz : its.toArray.size = i := by rw [List.size_toArray, ← rv.length, hle]
    have W := WalksT.enumFrom (prog := X.prog) (w := X.w) (A := X.A) 0 (Draws.tuple (A := X.A.in1) (by simp [I.ok.hd hc]) it t n2 its.toArray) e n1 (by simp [n1, n3]) (by simp)
    rw [sz] at W
    exact W.done s _ _ ⟨he, hi, pl⟩ fun h' tk fr => ⟨rfl, I.turnedL (ch := [e, it]) fr hf⟩
  self := fun A i s Q E ⟨⟨_, he⟩, _⟩ h => wpAny_pyIter_enum he h
def iEnumT (ta : TA) : TI := fun σ H R => ta σ H fun vs H1 => ∃ a xs, vs = [.ref a] ∧ H1 a = some (.tup xs) ∧ R (IteT a xs) H1
theorem pi_enumT {X : Cx} {e : Expr} {ta : TA} {p pos tpos : Pos} {elts : List Expr} {kk : Nat} (hg : Gl X "enumerate") (hm : X.mg "enumerate" = none) (ha : PA X [e] ta) (hs : starEach [e] X.env = [(false, eval e X.env)] := by rfl) :
    PI X (.Tuple elts kk tpos) (.Call (.Name "enumerate" p) [e] [] pos) (iEnumT ta) := by
  refine ⟨fun pins s σ H R I h => Call_ (ld_blt I hg hm boot_enumerate (callWith_type1 (thn (ha.run pos pins s σ H _ I h) fun us s1 ⟨vs, H1, I1, r1, q1⟩ => ?_) hs rfl))⟩
  obtain ⟨a, xs, rfl, ht, q⟩ := q1
  cases r1 with
  | cons r rr =>
    cases rr
    cases r
    obtain ⟨its, rv, pl, _⟩ := I1.tuple (SqT.of ht)
    have al : a < s1.heap.objs.size := by obtain ⟨_, z, _⟩ := pl; exact Heap.lt_size z
    refine enum_call (begins_tuple a its.toArray) pl fun h' he hit hk => wpAny_pyIter_enum he ⟨s1.heap.objs.size + 1, [s1.heap.objs.size + 1, s1.heap.objs.size], _, _, H1, rfl, I1.kept (t' := s1.toks) hk, turn_enumT xs a (s1.heap.objs.size + 1) s1.heap.objs.size,
      ⟨⟨.none, he⟩, ⟨_, hit, rfl, rfl⟩, Nat.succ_ne_self _, Nat.ne_of_lt al, Nat.ne_of_gt (Nat.lt_succ_of_lt al)⟩, fun b hb => ?_, q⟩
    have le : s1.heap.objs.size ≤ b := by
      rcases List.mem_cons.mp hb with z | z
      · rw [z]; exact Nat.le_succ _
      · rw [List.mem_singleton.mp z]; exact Nat.le_refl _
    exact I1.fpOk le (I1.hok.fresh le)
theorem walk_enumT (a : Addr) (xs : List V) : Walk (IteT a xs) xs.length (fun H => H a = some (.tup xs)) (fun i H v H' => ∃ T x, v = .ref T ∧ H T = none ∧ H' = upd H T (.tup [.int (i : Nat), x]) ∧ xs[i]? = some x) :=
  ⟨fun i H hi h => ⟨h, hi⟩, fun H h => ⟨h, rfl⟩, fun i H x H' _ _ y => y⟩
end K2
end
section
set_option Elab.async false
set_option maxRecDepth 100000
set_option linter.all false
namespace K2
open PySem L2
abbrev sInit : Stmt := inClass (top 27) 0
abbrev sMade : Stmt := inClass (top 27) 2
abbrev sWithin : Stmt := inClass (top 27) 6
abbrev nInit : List Str := ["self", "rows", "lines", "k", "row", "reason"]
def flds (r n l : Addr) : List (Str × V) := putF "_lines" (.ref l) (putF "names" (.ref n) (putF "rows" (.ref r) []))
theorem k1_ : ¬ (("rows" : Str) = "names") := by decide +kernel
theorem k2_ : ¬ (("rows" : Str) = "_lines") := by decide +kernel
theorem k3_ : ¬ (("names" : Str) = "_lines") := by decide +kernel
theorem flds_lines (r n l : Addr) : (flds r n l).lookup ("_lines" : Str) = some (.ref l) := by
  unfold flds
  rw [lookup_putF, if_pos rfl]
theorem flds_no (r n l : Addr) {m : Str} (h1 : ¬ m = "_lines") (h2 : ¬ m = "names") (h3 : ¬ m = "rows") : (flds r n l).lookup m = none := by
  unfold flds
  rw [lookup_putF, if_neg h1, lookup_putF, if_neg h2, lookup_putF, if_neg h3]
  rfl
theorem merge2' (v1 v2 : V) : mergeK [] [((Sum.inr (Str.ofString "vacant") : Key), v1), ((Sum.inr (Str.ofString "error") : Key), v2)] = [((Sum.inr (Str.ofString "vacant") : Key), v1), ((Sum.inr (Str.ofString "error") : Key), v2)] := by
  show putK (putK [] (Sum.inr (Str.ofString "vacant") : Key) v1) (Sum.inr (Str.ofString "error") : Key) v2 = _
  rw [putK_new v1 rfl, putK_new v2 (by
    rw [List.nil_append, valV_cons, if_neg (by decide +kernel)]
    rfl)]
  rfl
/-- Classes stand at p, and know what is within what -/
def ClsAt (C : Addr) (H : Hp) (p : Addr) (tb : Tb) : Prop := ∃ (dx r n l : Addr) (kvs : List (Key × V)), H p = some (.ins C dx (flds r n l)) ∧ H l = some (.dK kvs) ∧ Tab fD H kvs tb
/-- Classes stand at p, made of these rows -/
def ClsW (C : Addr) (H : Hp) (p : Addr) (rs : List Row) : Prop := ∃ (dx r n l : Addr) (kvs : List (Key × V)) (ts : List Addr), H p = some (.ins C dx (flds r n l)) ∧ H l = some (.dK kvs) ∧ Tab fD H kvs (ups rs) ∧ H n = some (.tup ((keys (ups rs)).map V.str)) ∧ H r = some (.tup (ts.map V.ref)) ∧ RowsAt H ts rs
theorem ClsW.at {C p : Addr} {H : Hp} {rs : List Row} (h : ClsW C H p rs) : ClsAt C H p (ups rs) := by
  obtain ⟨dx, r, n, l, kvs, ts, h1, h2, h3, _⟩ := h
  exact ⟨dx, r, n, l, kvs, h1, h2, h3⟩
theorem keys_vals {f : List Str → HO} {H : Hp} {kvs : List (Key × V)} {t : Tb} (TB : Tab f H kvs t) : kvs.map (fun e => kV e.1) = (keys t).map V.str := by
  have := congrArg (List.map kV) TB.keys_eq
  rw [List.map_map, List.map_map] at this
  exact this
theorem flds_names (r n l : Addr) : (flds r n l).lookup ("names" : Str) = some (.ref n) := by
  unfold flds
  rw [lookup_putF, if_neg k3_, lookup_putF, if_pos rfl]
theorem flds_rows (r n l : Addr) : (flds r n l).lookup ("rows" : Str) = some (.ref r) := by
  unfold flds
  rw [lookup_putF, if_neg k2_, lookup_putF, if_neg k1_, lookup_putF, if_pos rfl]
theorem Tab.monoM {f : List Str → HO} {H H' : Hp} {kvs : List (Key × V)} {t : Tb} (h : Tab f H kvs t) (k : ∀ a us, (∃ y, (y, V.ref a) ∈ kvs) → H a = some (f us) → H' a = some (f us)) : Tab f H' kvs t := by
  induction h with
  | nil => exact .nil
  | cons h1 _ ih => exact .cons (k _ _ ⟨_, List.mem_cons_self⟩ h1) (ih fun a us ⟨y, hy⟩ => k a us ⟨y, List.mem_cons_of_mem _ hy⟩)
structure Txt (K : PySem.W.Frag) (mg : Str → Option Value) (C : Addr) : Prop where
  cl : Cls K C
  nR : NoAttr K C "rows"
  nN : NoAttr K C "names"
  nL : NoAttr K C "_lines"
  mgC : mg "Classes" = some (.ref C)
def spInit (C : Addr) : Sp := fun vs H Q _ => ∃ (p dx rt : Addr) (ts : List Addr) (rs : List Row), vs = [.ref p, .ref rt] ∧ H p = some (.ins C dx []) ∧ H rt = some (.tup (ts.map V.ref)) ∧ RowsAt H ts rs ∧ Good rs ∧ rs.length ≤ 30 ∧
  ∀ (H' : Hp), ClsW C H' p rs → (∀ b o, H b = some o → b ≠ p → H' b = some o) → Q .non H'
theorem init_bind (kV doc pm : Value) (an : Option Addr) (cdv ct : Value) : ∀ us rest : List Value, us.length = ["self"].length → bindArgs (PySem.W.fnOf "__init__" "Classes.__init__" (defArgs sInit) (defBody sInit) (defScope sInit) .none kV doc pm an cdv ct) ⟨us ++ rest, []⟩ = (newTuple rest >>= fun t => pure (([("self" : Str)]).zip us ++ [(("rows" : Str), t)])) :=
  StX.bind_star1 (B := fun l => bindArgs (PySem.W.fnOf "__init__" "Classes.__init__" (defArgs sInit) (defBody sInit) (defScope sInit) .none kV doc pm an cdv ct) ⟨l, []⟩) (fun a => rfl) (fun a r rs => rfl)
section
variable {P : Program} {w : World} {K : PySem.W.Frag} {mg : Str → Option Value} {base : Heap}
theorem scInit : FnScope nInit ["self", "rows"] (defScope sInit) := ⟨rfl, rfl, rfl, by decide +kernel, rfl, by decide +kernel, by decide +kernel⟩
theorem ok_init {f C fF fL : Addr} {fd fdF fdL : FuncData} (F : Fun K "__init__" "Classes.__init__" sInit f fd) (X : Txt K mg C) (T : Bi mg) (FA : Df K mg "_fault" sFault fF fdF ["row", "k", "lines"]) (GF : FnOk P w K mg base CX0 3 fF fdF ["row", "k", "lines"] spFault)
    (LI : Df K mg "_line" sLine fL fdL ["row", "lines"]) (GL : FnOk P w K mg base CX0 1 fL fdL ["row", "lines"] spLine) :
    FnR P w K mg base CX0 4 f (fun vs H Q E => ∃ ws rest, vs = ws ++ rest ∧ ws.length = 1 ∧ rest.length ≤ sizeLine ∧ ∀ p, H p = none → spInit C (ws ++ [V.ref p]) (upd H p (.tup rest)) Q E) := by
  obtain ⟨oc, od, kV, doc, pm, an, cdv, ct, osl, rfl, lk, hcd⟩ := F.ex
  refine StX.fn_star (ps := ["self"]) (pv := "rows") lk hcd scInit StX.cxUp_none (init_bind kV doc pm an cdv ct) fun A outer s H vs Q E hr h => ?_
  obtain ⟨p, dx, rt, ts, rs, rfl, hp, ht, R, g, h30, k⟩ := h
  have hr2 : Room 3 _ := hr
  have hr0 : Room 1 _ := hr.mono (by decide)
  have hu := hu_of hr
  suffices hs : ∃ t, PSs (cxOf CX0 P w K mg base nInit "Classes.__init__" (defScope sInit) f cdv A outer s H E).nox (defBody sInit) t ∧ t { nx := fun _ H' => Q .non H', rt := Q } (start nInit [V.ref p, V.ref rt]) H by
    obtain ⟨t, h1, h2⟩ := hs
    exact ⟨t, h1.nox, h2⟩
  refine ⟨_, (pss_cons (ps_set (i := 2) scInit.nd rfl (Or.inl rfl) (pe_disp (pps_cons pe_str (pe_disp (pps_cons pe_str pe_bl pps_nil) (by rfl) (by rfl) (fun z => by cases z) (by decide)) (pps_cons pe_str (pe_disp (pps_cons pe_str pe_bl (pps_cons pe_str pe_bl pps_nil)) (by rfl) (by rfl) (fun z => by cases z) (by decide)) pps_nil)) (by rfl) (by rfl) (fun z => by cases z) (by decide)))
      (pss_cons (ps_for PassesOwn.never rfl (pi_enumT (by rfl) T.enumerate (pa_cons (pv 1) pa_nil)) (pg_tup rfl (pgs_cons (pg_name (i := 3) scInit.nd rfl (Or.inl rfl)) (pgs_cons (pg_name (i := 4) scInit.nd rfl (Or.inl rfl)) pgs_nil)))
      (pss_cons (ps_set (i := 5) scInit.nd rfl (Or.inl rfl) (pe_call GF hr2 (by rfl) FA.m FA.F.kp FA.b .nil pass0 (pa_cons (pv 4) (pa_cons (pv 3) (pa_cons (pv 2) pa_nil)))))
        (pss_cons (ps_if (pt_cmpR op_notN (pv 5) pe_non (nomark _))
        (pss_one (ps_never))
        pss_nil)
        (pss_one (ps_dput hu (pv 2) (pe_ix ix_tup (pv 4) pe_int (fun _ _ => rfl)) (pe_call GL hr0 (by rfl) LI.m LI.F.kp LI.b .nil pass0 (pa_cons (pv 4) (pa_cons (pv 2) pa_nil))) rfl)))))
      (pss_cons (ps_fld (pv 0) (pv 1) rfl)
      (pss_cons (ps_fld (pv 0) (pe_callTy call_tuple_of (by rfl) T.tuple (by decide +kernel) (pa_cons (pe_callTy (call_list_dK rfl) (by rfl) T.list (by decide +kernel) (pa_cons (pv 2) pa_nil)) pa_nil)) rfl)
      (pss_one (ps_fld (pv 0) (pv 2) rfl)))))), ?_⟩
  refine fun d hd d1 hd1 => ⟨upd_same, [((Sum.inr (Str.ofString "error") : Key), V.bl true)], rfl, (by show 1 ≤ 15; decide), fun d2 hd2 => ?_⟩
  rw [merge1, upd_upd] at hd2 ⊢
  refine ⟨upd_same, [((Sum.inr (Str.ofString "vacant") : Key), V.bl true), ((Sum.inr (Str.ofString "error") : Key), V.bl true)], rfl, (by show 2 ≤ 15; decide), ?_⟩
  rw [merge2', upd_upd]
  have n01 : d ≠ d1 := fun e => by rw [← e, upd_same] at hd1; cases hd1
  have n12 : d1 ≠ d2 := fun e => by rw [← e, upd_same] at hd2; cases hd2
  have n02 : d ≠ d2 := fun e => by rw [← e, upd_ne n01, upd_same] at hd2; cases hd2
  have hd1H : H d1 = none := by rw [upd_ne n01.symm] at hd1; exact hd1
  have hd2H : H d2 = none := by rw [upd_ne n12.symm, upd_ne n02.symm] at hd2; exact hd2
  refine ⟨by rw [upd_ne n02, upd_ne n01, upd_same], [((Sum.inr (Str.ofString "error") : Key), V.ref d1), ((Sum.inr (Str.ofString "vacant") : Key), V.ref d2)], rfl, (by show 2 ≤ 15; decide), ?_⟩
  rw [merge2]
  have facts : ∀ H0, H0 = upd (upd (upd (upd H d (.dK [])) d1 (.dK [((Sum.inr (Str.ofString "error") : Key), V.bl true)])) d2 (.dK [((Sum.inr (Str.ofString "vacant") : Key), V.bl true), ((Sum.inr (Str.ofString "error") : Key), V.bl true)])) d
      (.dK [((Sum.inr (Str.ofString "error") : Key), V.ref d1), ((Sum.inr (Str.ofString "vacant") : Key), V.ref d2)]) → Same H H0 ∧ H0 d = some (.dK [((Sum.inr (Str.ofString "error") : Key), V.ref d1), ((Sum.inr (Str.ofString "vacant") : Key), V.ref d2)]) ∧
      Tab fD H0 [((Sum.inr (Str.ofString "error") : Key), V.ref d1), ((Sum.inr (Str.ofString "vacant") : Key), V.ref d2)] t0 := fun H0 e => by
    subst e
    refine ⟨((((Same.refl H).put hd).put hd1H).put hd2H).put hd, upd_same, .cons ?_ (.cons ?_ .nil)⟩
    · rw [upd_ne n01.symm, upd_ne n12, upd_same]
      rfl
    · rw [upd_ne n02.symm, upd_same]
      rfl
  generalize hH0 : upd (upd (upd (upd H d (.dK [])) d1 (.dK [((Sum.inr (Str.ofString "error") : Key), V.bl true)])) d2 (.dK [((Sum.inr (Str.ofString "vacant") : Key), V.bl true), ((Sum.inr (Str.ofString "error") : Key), V.bl true)])) d
      (.dK [((Sum.inr (Str.ofString "error") : Key), V.ref d1), ((Sum.inr (Str.ofString "vacant") : Key), V.ref d2)]) = H0
  obtain ⟨sm0, hd0, T0⟩ := facts H0 hH0.symm
  have tl : (ts.map V.ref).length = rs.length := by rw [List.length_map, R.1]
  refine ⟨_, rfl, rt, _, rfl, sm0 rt _ ht, for_it (walk_enumT rt (ts.map V.ref)) (fun i σ Hc => ∃ (kvs : List (Key × V)) (v3 v4 v5 : Option V), σ = [some (.ref p), some (.ref rt), some (.ref d), v3, v4, v5] ∧ Hc d = some (.dK kvs) ∧ Tab fD Hc kvs (ups (rs.take i)) ∧ Same H Hc ∧ ∀ y a, (y, V.ref a) ∈ kvs → a ≠ d) ?_ ?_ ?_ ?_⟩
  · refine ⟨_, _, _, _, rfl, hd0, T0, sm0, fun y a hya => ?_⟩
    simp only [List.mem_cons, List.not_mem_nil, or_false, Prod.mk.injEq, V.ref.injEq] at hya
    rcases hya with ⟨_, rfl⟩ | ⟨_, rfl⟩
    · exact n01.symm
    · exact n02.symm
  · rintro i σ Hc _ ⟨kvs, v3, v4, v5, rfl, _, _, sm, _⟩
    exact sm rt _ ht
  · rintro i y σ Hc Hy hi ⟨kvs, v3, v4, v5, rfl, hD, TB, sm, hav⟩ ⟨T9, x, rfl, hT9, rfl, hx⟩
    rw [tl] at hi
    have hti : ts[i]? = some (ts[i]'(by rw [R.1]; exact hi)) := List.getElem?_eq_getElem _
    rw [List.getElem?_map, hti] at hx
    generalize ts[i]'(by rw [R.1]; exact hi) = t at hti hx
    cases hx
    have hri : rs[i]? = some rs[i] := List.getElem?_eq_getElem hi
    have htH := sm t _ (R.2 i t _ hti hri)
    have RO := g i _ hri
    have TO := tok_ups g i (Nat.le_of_lt hi)
    have hks := keys_ups_take rs i
    have hus := ups_succ hri
    have hkl := knownAt_len (Nat.le_of_lt hi)
    have hvw := g.vw_known i
    generalize rs[i] = r at hri htH RO hus
    rw [← hks] at RO hkl hvw
    generalize ups (rs.take i) = tb at TB TO hks hus RO hkl hvw
    have htl2 : tb.length = (keys tb).length := by simp [keys]
    have s9 : Same Hc (upd Hc T9 (.tup [V.int (i : Nat), V.ref t])) := (Same.refl Hc).put hT9
    refine ⟨T9, _, rfl, SqT.of upd_same, rfl, _, _, rfl, _, _, rfl, rfl, ?_⟩
    have TB9 : ∀ {H2 : Hp}, Same Hc H2 → Tab fD H2 kvs tb := fun s => TB.mono fun a us e => s a _ e
    refine ⟨_, rfl, _, rfl, _, rfl, t, d, i, r, kvs, tb, rfl, by omega, s9 t _ htH, s9 d _ hD, TB9 s9, TO, RO, fun x hx => hvw x (RO.sub x hx), by omega, fun H2 s2 => ?_⟩
    refine ⟨_, rfl, rfl, _, rfl, iteNS rfl ?_⟩
    have s92 := s9.trans s2
    refine ⟨_, rfl, _, rfl, t, d, r, kvs, tb, rfl, s92 t _ htH, s92 d _ hD, TB9 s92, TO, RO, by omega, fun m H3 hmf hm s3 => ?_⟩
    have s93 := s92.trans s3
    have hD3 := s93 d _ hD
    have ht3 := s93 t _ htH
    obtain ⟨x, bs⟩ := r
    unfold rowO at ht3
    refine ⟨_, rfl, _, rfl, t, _, _, _, rfl, rfl, SqT.of ht3, atI_nat (j := 0) rfl, d, _, rfl, DPut.k (k := Sum.inr x) hD3 ?_, ?_⟩
    · rw [TB.len, htl2]; show _ < 16777216; omega
    rw [putK_new _ (TB.none RO.new)]
    have hmd : m ≠ d := (ne_of_none (s92 d _ hD) hmf).symm
    refine ⟨_, _, _, _, rfl, upd_same, ?_, (sm.trans s93).put hd, fun y a hya => ?_⟩
    · rw [hus]
      refine Tab.snoc ((TB9 s93).monoM fun a us ⟨y, hy⟩ e => by rw [upd_ne (hav y a hy)]; exact e) ?_
      rw [upd_ne hmd]
      exact hm
    · rcases List.mem_append.mp hya with hya | hya
      · exact hav y a hya
      · simp only [List.mem_cons, List.not_mem_nil, or_false, Prod.mk.injEq, V.ref.injEq] at hya
        rw [hya.2]
        exact hmd
  · rintro σ Hc ⟨kvs, v3, v4, v5, rfl, hD, TB, sm, hav⟩
    rw [tl, List.take_length] at TB
    have hpc := sm p _ hp
    have hdp : d ≠ p := ne_of hD hpc (by intro z; cases z)
    refine ⟨_, rfl, _, rfl, p, C, dx, _, rfl, hpc, X.cl, X.nR, (by show 0 < 1000; decide), ?_⟩
    refine ⟨_, rfl, d, kvs, rfl, by rw [upd_ne hdp]; exact hD, fun q1 hq1 => ?_⟩
    refine ⟨q1, _, rfl, .inl ⟨SqL.of upd_same, fun q2 hq2 => ?_⟩⟩
    have np1 : p ≠ q1 := ne_of_none upd_same hq1
    have np2 : p ≠ q2 := ne_of_none ((upd_ne np1).trans upd_same) hq2
    have back : ∀ b o, Hc b = some o → b ≠ p → ∀ o1 o2 o3 o4, (upd (upd (upd (upd Hc p o1) q1 o2) q2 o3) p o4) b = some o := fun b o e n o1 o2 o3 o4 => by
      have e1 : (upd Hc p (.ins C dx (putF "rows" (V.ref rt) []))) b = some o := by rw [upd_ne n]; exact e
      have n1 : b ≠ q1 := ne_of_none e1 hq1
      have n2 : b ≠ q2 := by
        refine ne_of_none (o := o) ?_ hq2
        rw [upd_ne n1]
        exact e1
      rw [upd_ne n, upd_ne n2, upd_ne n1, upd_ne n]
      exact e
    refine ⟨_, rfl, p, C, dx, _, rfl, by rw [upd_ne np2, upd_ne np1, upd_same], X.cl, X.nN, (by show 1 < 1000; decide), ?_⟩
    refine ⟨_, rfl, _, rfl, p, C, dx, _, rfl, upd_same, X.cl, X.nL, ?_, ?_⟩
    · show (if ("rows" : Str) = "names" then _ else _ : List (Str × V)).length < 1000
      rw [if_neg k1_]
      show 2 < 1000
      decide
    rw [upd_upd]
    have nr : ∀ (a : Addr) (us : List V), Hc a = some (.tup us) → a ≠ p := fun a us e => ne_of e hpc (by intro z; cases z)
    refine k _ ⟨dx, rt, q2, d, kvs, ts, upd_same, back d _ hD hdp _ _ _ _, TB.mono fun a us e => back a _ e (ne_of e hpc (by unfold fD; intro z; cases z)) _ _ _ _, ?_, back rt _ (sm rt _ ht) (nr _ _ (sm rt _ ht)) _ _ _ _, R.mono fun b r e => back b _ (sm b _ e) (nr _ _ (sm b _ e)) _ _ _ _⟩ fun b o e n => back b o (sm b o e) n _ _ _ _
    rw [upd_ne np2.symm, upd_same, keys_vals TB]
end
end K2
end
section
set_option Elab.async false
set_option maxRecDepth 100000
set_option linter.all false
namespace K2
open PySem L2 PySem.Spec PyProof.Rows
section
variable {X : Cx} {CX : CXT} {k n i : Nat} {f C : Addr} {fd : FuncData} {ps ks : List Str} {sp : Sp} {E : XK} {m x : Str} {o e : Expr} {p q pos apos : Pos} {ta tk te : TA} {g : List Value → List Value → List Value} {gV : List V → List V → List V} {kws : List Keyword}
theorem run_fnK {pins : List (Addr × Obj)} {σ : L2.St} {H : Hp} {s : Shared} {Q : VK} {us ws : List Value} {vs zs : List V} (F : FnOk X.prog X.w X.K X.mg X.base CX k f fd ps sp) (hr : Room k X.A) (hb : KBn X.K fd ps n ks g gV) (hx : Passes CX X E) (I : Inv X pins σ H s)
    (r : Vals vs us) (rz : Vals zs ws) (l1 : us.length = n) (l2 : ws.length = ks.length) (h : sp (gV vs zs) H Q E) : wpAny (model X.prog X.w) X.A (call (.ref f) us (ks.zip ws)) (EP X pins σ Q) X.xe s := by
  refine wpAny_call (codeAny_mono (F.run X.A X.stack s H ⟨us, ks.zip ws⟩ (g us ws) (gV vs zs) Q E hr I.env0 (hb.to s us ws I.kIn l1 l2) (hb.rel r rz) h) fun y z hq => ?_)
  cases y with
  | error e => exact hx pins σ H s e z I hq
  | ok fl =>
    cases fl with
    | ret u => exact I.after hq
    | next => exact hq.elim
    | brk => exact hq.elim
    | cont => exact hq.elim
/-- o.m(k = v, ..) -/
def tMethK (C : Addr) (m : Str) (sp : Sp) (ks : List Str) (gV : List V → List V → List V) (E : XK) (to : TE) (tk : TA) : TE := fun σ H Q => to σ H fun x H1 => ∃ a dx fs, x = .ref a ∧ H1 a = some (.ins C dx fs) ∧ fs.lookup m = none ∧ tk σ H1 fun zs H2 => zs.length = ks.length ∧ sp (gV [x] zs) H2 Q E
theorem pe_methK {to : TE} {pl : Sem Bool} (he : PE X o to) (c : Cls X.K C) (hm : Meth X.K C m f) (F : FnOk X.prog X.w X.K X.mg X.base CX k f fd ps sp) (hr : Room k X.A) (hb : KBn X.K fd ps 1 ks g gV) (hx : Passes CX X E) (hkw : PK X kws tk)
    (hall : (backToKw pos (keywordEach kws X.env)).all (·.1.isSome) = true := by rfl) (hks : (backToKw pos (keywordEach kws X.env)).filterMap (·.1) = ks := by rfl) (hpl : ((backTo pos (starEach [] X.env)).any (·.1) || (backToKw pos (keywordEach kws X.env)).any (·.1.isNone)) = false := by rfl)
    (ht : eval (.Call (.Attribute o m apos) [] kws pos) X.env = (do
      let ov ← eval o X.env
      standAt apos.atName
      let (f, first) ← holding [ov] (getMethod ov m pl)
      callWith pos f first (backTo pos (starEach [] X.env)) (backToKw pos (keywordEach kws X.env))) := by rfl) : PE X (.Call (.Attribute o m apos) [] kws pos) (tMethK C m sp ks gV E to tk) := by
  refine ⟨fun pins s σ H Q I h => PySem.W.methodCall_KW (pl := pl) (thn (he.run pins s σ H _ I h) fun u s1 ⟨x, H1, I1, rx, a, dx, fs, ex, ea, l, q⟩ => ?_) ht⟩
  subst ex
  obtain rfl : u = Value.ref a := rx
  refine getmeth_ok I1 ea c hm l (PySem.W.callWith_KW0 (first := [.ref a]) (h₀ := X.base) I.ok.mod.kin hm.kp hall (thn (hkw.run pos pins s1 σ H1 _ I1 q) fun ws s2 ⟨zs, H2, I2, rz, l2, q2⟩ => ⟨I2.kIn, ?_⟩) hpl)
  rw [hks]
  exact run_fnK (us := [.ref a]) (vs := [.ref a]) F hr hb hx I2 (.cons rfl .nil) rz rfl (by rw [← l2, rz.length]) q2
/-- c(*y), c a name that holds a class -/
def tMakeL (i : Nat) (K : PySem.W.Frag) (C : Addr) (sp : Sp) (E : XK) (te : TE) : TE := fun σ H Q => σ[i]? = some (some (.ref C)) ∧ te σ H fun y H1 => ∃ a xs, y = .ref a ∧ (SqT K H1 a xs ∨ SqL K H1 a xs) ∧ ∀ x dx, H1 x = none → H1 dx = none → dx ≠ x →
  sp (V.ref x :: xs) (upd (upd H1 dx (.own x)) x (.ins C dx [])) (fun v H2 => v = .non ∧ Q (.ref x) H2) E
theorem pe_makeL {te : TE} (M : Mk X.K C f) (F : FnR X.prog X.w X.K X.mg X.base CX k f sp) (hr : Room (k + 1) X.A) (hN : X.N[i]? = some x) (hv : Vis X.env.scope x) (hx : Passes CX X E) (he : PE X e te) (hdb : (x == ("__debug__" : Str)) = false := by decide) (hcd : (x == ("__classdict__" : Str)) = false := by decide)
    (hst : starEach [.Starred e q] X.env = [(true, eval e X.env)] := by rfl) : PE X (.Call (.Name x p) [.Starred e q] [] pos) (tMakeL i X.K C sp E te) := by
  refine ⟨fun pins s σ H Q I ⟨hs, ht⟩ => wpAny_Call_Name_kw (thn ((pe_var (pos := p) hN hv hdb hcd).run pins s σ H (fun v H1 => v = .ref C ∧ H1 = H) I ⟨.ref C, hs, rfl, rfl⟩) fun u s1 ⟨v, H1, I1, r1, q1⟩ => ?_)⟩
  obtain ⟨rfl, rfl⟩ := q1
  cases r1
  refine PySem.W.callWith_S (h₀ := X.base) I.ok.mod.kin M.kp (thn (he.run pins s1 σ _ _ I1 ht) fun v s2 ⟨y, H2, I2, ry, a, xs, ey, hxs, h2⟩ => ?_) hst
  subst ey
  obtain rfl : v = Value.ref a := ry
  exact StX.star_any I2 hxs fun us s3 I3 rv => ⟨I3.kIn, StX.run_makeR M F hr hx I3 rv h2⟩
end
def spWithin (C : Addr) : Sp := fun vs H Q _ => ∃ (p : Addr) (x y : Str) (tb : Tb), vs = [.ref p, .str x, .str y] ∧ ClsAt C H p tb ∧ x ∈ keys tb ∧ Q (.bl (decide (y ∈ look tb x))) H
def spMade (C : Addr) : Sp := fun vs H Q _ => ∃ (l : Addr) (ts : List Addr) (rs : List Row), vs = [.ref C, .ref l] ∧ H l = some (.lst (ts.map V.ref)) ∧ RowsAt H ts rs ∧ Good rs ∧ rs.length ≤ 30 ∧ ∀ (p : Addr) (H' : Hp), ClsW C H' p rs → Same H H' → Q (.ref p) H'
section
variable {P : Program} {w : World} {K : PySem.W.Frag} {mg : Str → Option Value} {base : Heap}
theorem scWithin : FnScope ["self", "one", "other"] ["self", "one", "other"] (defScope sWithin) := ⟨rfl, rfl, rfl, by decide +kernel, rfl, by decide +kernel, by decide +kernel⟩
theorem ok_within {f C : Addr} {fd : FuncData} (F : Fun K "within" "Classes.within" sWithin f fd) (X : Txt K mg C) : FnOk P w K mg base CX0 1 f fd ["self", "one", "other"] (spWithin C) := by
  refine F.ok scWithin (fun vs H Q E h => ?_) (fun cdv A outer s H vs Q E hr h => ?_)
  · obtain ⟨p, x, y, tb, rfl, _⟩ := h
    rfl
  · obtain ⟨p, x, y, tb, rfl, ⟨dx, r, n, l, kvs, hp, hl, TB⟩, hx, k⟩ := h
    have hu := hu_of hr
    refine ⟨_, pss_one (ps_ret (pe_cmp (pc_din hu (pv 2) (pe_dget hu (pe_fld (pv 0) rfl) (pv 1) (fun _ _ => rfl))) rfl)), ?_⟩
    obtain ⟨a, ha1, ha2⟩ := TB.val hx
    refine ⟨_, rfl, _, rfl, p, C, dx, _, _, rfl, hp, X.cl, X.nL, flds_lines _ _ _, _, rfl, l, _, rfl, dget_s hl ha1, a, _, rfl, DGet.k (k := Sum.inr y) ha2, ?_⟩
    rw [dkeys_val]
    by_cases h : y ∈ look tb x
    · rw [if_pos h]
      rw [decide_eq_true h] at k
      exact k
    · rw [if_neg h]
      rw [decide_eq_false h] at k
      exact k
theorem scMade : FnScope ["cls", "rows"] ["cls", "rows"] (defScope sMade) := ⟨rfl, rfl, rfl, by decide +kernel, rfl, by decide +kernel, by decide +kernel⟩
theorem ok_made {f fI C : Addr} {fd : FuncData} (F : Fun K "made" "Classes.made" sMade f fd) (M : Mk K C fI)
    (GI : FnR P w K mg base CX0 4 fI (fun vs H Q E => ∃ ws rest, vs = ws ++ rest ∧ ws.length = 1 ∧ rest.length ≤ sizeLine ∧ ∀ p, H p = none → spInit C (ws ++ [V.ref p]) (upd H p (.tup rest)) Q E)) : FnOk P w K mg base CX0 6 f fd ["cls", "rows"] (spMade C) := by
  refine F.ok scMade (fun vs H Q E h => ?_) (fun cdv A outer s H vs Q E hr h => ?_)
  · obtain ⟨l, ts, rs, rfl, _⟩ := h
    rfl
  · obtain ⟨l, ts, rs, rfl, hl, R, g, h30, k⟩ := h
    refine ⟨_, pss_one (ps_ret (pe_makeL (i := 0) M GI hr rfl (Or.inl rfl) pass0 (pv 1))), ?_⟩
    refine ⟨rfl, _, rfl, l, _, rfl, .inr (SqL.of hl), fun x dx nx ndx ne => ⟨[V.ref x], _, rfl, rfl, ?_, fun pt hpt => ?_⟩⟩
    · rw [List.length_map, R.1]; show _ ≤ 16777216; omega
    have s1 : Same H (upd (upd H dx (.own x)) x (.ins C dx [])) := ((Same.refl H).put ndx).put nx
    have s2 : Same H (upd (upd (upd H dx (.own x)) x (.ins C dx [])) pt (.tup (ts.map V.ref))) := s1.put (s1.free hpt)
    refine ⟨x, dx, pt, ts, rs, rfl, by rw [upd_ne (ne_of_none upd_same hpt), upd_same], upd_same, R.mono fun b r e => s2 b _ e, g, h30, fun H' cl kp => ⟨rfl, k x H' cl fun b o e => kp b o (s2 b o e) (ne_of_none e nx)⟩⟩
end
end K2
end
section
set_option Elab.async false
set_option maxRecDepth 100000
set_option linter.all false
namespace K2
open PySem L2 PySem.Spec PyProof.Rows
/-- a def's promise where no repr runs around -/
structure FnG (P : Program) (w : World) (K : PySem.W.Frag) (mg : Str → Option Value) (base : Heap) (k : Nat) (f : Addr) (fd : FuncData) (ps : List Str) (sp : Sp) : Prop where
  len : ∀ vs H Q E, sp vs H Q E → vs.length = ps.length
  run : ∀ (A : Around) (outer : List Env) (s : Shared) (H : Hp) (args : Args) (us : List Value) (vs : List V) (Q : VK) (E : XK), Room k A → A.guards = some [] → Env0 P w K mg base A outer s H → BindsTo s fd args (ps.zip us) → Vals vs us → sp vs H Q E →
    codeAny (model P w) A (.call (.ref f) args) (CR CX0 outer P w H s Q E) s
section
variable {P : Program} {w : World} {K : PySem.W.Frag} {mg : Str → Option Value} {base : Heap}
theorem okG {x qual : Str} {st : Stmt} {f : Addr} {fd : FuncData} {N ps : List Str} {k : Nat} {sp : Sp} (F : Fun K x qual st f fd) (S : FnScope N ps (defScope st)) (len : ∀ vs H Q E, sp vs H Q E → vs.length = ps.length)
    (body : ∀ (cdv : Value) (A : Around) (outer : List Env) (s : Shared) (H : Hp) (vs : List V) (Q : VK) (E : XK), Room k (A.deeper (envOfC qual (defScope st) s.heap.objs.size f cdv)) → A.guards = some [] → sp vs H Q E →
      ∃ t, PSs (cxOf CX0 P w K mg base N qual (defScope st) f cdv A outer s H E).nox (defBody st) t ∧ t { nx := fun _ H' => Q .non H', rt := Q } (start N vs) H) : FnG P w K mg base (k + 1) f fd ps sp := by
  obtain ⟨oc, od, kV, doc, pm, an, cdv, ct, osl, rfl, lk, hcd⟩ := F.ex
  refine ⟨len, fun A outer s H args us vs Q E hr hg e0 hb rv hs => ?_⟩
  refine StX.run_bnd (G := fun xs H2 => xs = vs ∧ H2 = H) lk hcd S hr e0 (fun A' Ex Q' h => hb _ _ _ _ (h s H vs us e0 Un.refl rfl (fun _ _ z => z) rv (len _ _ _ _ hs) ⟨rfl, rfl⟩)) fun s2 H2 xs ⟨e1, e2⟩ hr2 => ?_
  subst e1 e2
  obtain ⟨t, h1, h2⟩ := body cdv A outer s2 _ _ Q E hr2 hg hs
  exact ⟨t, h1.nox, h2⟩
end
section
variable {X : Cx} {k : Nat} {f : Addr} {fd : FuncData} {ps : List Str} {sp : Sp} {x : Str} {e : Expr} {es : List Expr} {p pos : Pos} {t : TA}
theorem pe_callG (F : FnG X.prog X.w X.K X.mg X.base k f fd ps sp) (hr : Room k X.A) (gu : X.A.guards = some []) (hg : Gl X x) (hm : X.mg x = some (.ref f)) (hk : PySem.W.keepIn X.K (.ref f) = true) (hb : Binds X.K fd ps []) (ha : PA X (e :: es) t) (hdb : (x == ("__debug__" : Str)) = false := by decide)
    (he : starEach (e :: es) X.env = (false, eval e X.env) :: starEach es X.env := by rfl) (hpl : (backTo pos (starEach es X.env)).any (·.1) = false := by rfl) : PE X (.Call (.Name x p) (e :: es) [] pos) (fun σ H Q => t σ H fun vs H1 => sp vs H1 Q E0) := by
  refine ⟨fun pins s σ H Q I h => wpAny_Call_Name_kw (ld_glob I hg hm ?_ hdb)⟩
  refine PySem.W.callWith_K (h₀ := X.base) I.ok.mod.kin hk (thn (ha.run pos pins s σ H _ I h) fun us s1 ⟨vs, H1, I1, r, q⟩ => ⟨I1.kIn, ?_⟩) he hpl
  have l2 : us.length = ps.length := by rw [← r.length]; exact F.len _ _ _ _ q
  have hb2 := hb s1 us I1.kIn (by simpa using l2)
  rw [List.append_nil] at hb2
  refine wpAny_call (codeAny_mono (F.run X.A X.stack s1 H1 ⟨us, []⟩ us vs Q E0 hr gu I1.env0 hb2 r q) fun y z hq => ?_)
  cases y with
  | error e => exact hq.elim
  | ok fl =>
    cases fl with
    | ret u => exact I1.after hq
    | next => exact hq.elim
    | brk => exact hq.elim
    | cont => exact hq.elim
/-! repr of a list of bools -/
def boolsD (bs : List Bool) : PyData := .list (bs.map PyData.bool)
theorem bools_dp (K : PySem.W.Frag) (H : Hp) : ∀ bs : List Bool, DpAll K H (bs.map V.bl) (bs.map PyData.bool)
  | [] => .nil
  | b :: bs => .cons (.bl b) (bools_dp K H bs)
theorem bools_show : ∀ bs : List Bool, PyData.showableAll (bs.map PyData.bool) = true
  | [] => rfl
  | b :: bs => by
    show (true && PyData.showableAll (bs.map PyData.bool)) = true
    rw [bools_show bs]
    rfl
theorem bools_depth : ∀ bs : List Bool, PyData.depthAll (bs.map PyData.bool) = 0
  | [] => rfl
  | b :: bs => by
    show max 0 (PyData.depthAll (bs.map PyData.bool)) = 0
    rw [bools_depth bs]
    rfl
theorem bools_nodict : ∀ bs : List Bool, PyData.hasDictAll (bs.map PyData.bool) = false
  | [] => rfl
  | b :: bs => by
    show (false || PyData.hasDictAll (bs.map PyData.bool)) = false
    rw [bools_nodict bs]
    rfl
theorem bools_sum : ∀ bs : List Bool, ((PyData.shownAll (bs.map PyData.bool)).map (·.length)).sum ≤ 5 * bs.length ∧ (PyData.shownAll (bs.map PyData.bool)).length = bs.length
  | [] => ⟨Nat.le_refl _, rfl⟩
  | b :: bs => by
    obtain ⟨h1, h2⟩ := bools_sum bs
    have hb : (PyData.shown (.bool b)).length ≤ 5 := by cases b <;> decide +kernel
    refine ⟨?_, ?_⟩
    · show (PyData.shown (.bool b)).length + ((PyData.shownAll (bs.map PyData.bool)).map (·.length)).sum ≤ 5 * (bs.length + 1)
      omega
    · show (PyData.shownAll (bs.map PyData.bool)).length + 1 = bs.length + 1
      omega
theorem bools_size (bs : List Bool) (h : bs.length ≤ 1000) : (boolsD bs).shown.length ≤ sizeLine := by
  have h1 := listText_len_le (PyData.shownAll (bs.map PyData.bool))
  obtain ⟨h2, h3⟩ := bools_sum bs
  show (listText (PyData.shownAll (bs.map PyData.bool))).length ≤ 16777216
  omega
/-- repr(xs) of a list of bools: a text that hangs on the bools alone -/
def rReprB (K : PySem.W.Frag) : List V → Hp → VK → Prop := fun xs H Q => ∃ a bs, xs = [V.ref a] ∧ SqL K H a (bs.map V.bl) ∧ (boolsD bs).shown.length ≤ sizeLine ∧ Q (.str (boolsD bs).shown) H
theorem call_reprB (gu : X.A.guards = some []) (hu : X.A.units + 64 < cLine) : CallR X (.builtin "repr") (rReprB X.K) := by
  intro pins s σ H xs us Q I r h
  obtain ⟨a, bs, rfl, hs, hz, q⟩ := h
  obtain ⟨u, rfl, ru⟩ := r.one
  cases ru
  obtain ⟨as, rd⟩ := Dp.reads I (boolsD bs) (V.ref a) (Value.ref a) (.lst hs (bools_dp _ _ bs)) rfl
  have dp : (boolsD bs).depth = 1 := by
    show PyData.depthAll (bs.map PyData.bool) + 1 = 1
    rw [bools_depth]
  refine repr_of_reads' rd (bools_show bs) (fun z => by rw [show (boolsD bs).hasDict = false from bools_nodict bs] at z; cases z) gu (by rw [dp]; omega) (fun b o e => e) (fun h' u tk hk => ⟨.str _, H, I.kept (t' := tk) hk, ⟨u, rfl⟩, q⟩) hz
end
end K2
end
section
set_option Elab.async false
set_option maxRecDepth 100000
set_option linter.all false
namespace K2
open PySem PySem.Spec PyProof.Rows L2
/-! ### sets of texts that are walked -/
def sTxt (e : Int × Value) : Str := match e.2 with | .str k _ => k | _ => Str.empty
structure WkS (P : Program) (w : World) (D : Froz.SD) (l : List Str) : Prop where
  ok : Froz.TxOk P w D l
  tx : ∀ e ∈ D.1.toList, ∃ u, e.2 = .str (sTxt e) u
  pm : (D.1.toList.map sTxt).Perm l
  rs : Ris D.2.2.place.toList
  ld : w.params.followText "set-order" = true ∨ D.2.2.led = true
theorem addTx_is (h : Int) (v : Value) (D : Froz.SD) : (Froz.addTx h v D).1.toList.Perm (D.1.toList ++ [(h, v)]) ∧ (Ris D.2.2.place.toList → Ris (Froz.addTx h v D).2.2.place.toList) ∧ (Froz.addTx h v D).2.2.led = D.2.2.led := by
  obtain ⟨es, ep, t⟩ := D
  have p := layNew_perm t es h v
  have r := layNew_ris t es h v
  have l := layNew_led t es h v
  unfold Froz.addTx Froz.tailTx
  dsimp only
  generalize layNew t es h v = Z at p r l ⊢
  obtain ⟨e1, t1, wd, gv⟩ := Z
  dsimp only at p r l ⊢
  rw [Array.toList_push] at p
  have r2 : Ris t.place.toList → Ris (if t1.plain = true then { t1 with plain := false } else t1).place.toList := fun q => by split <;> exact r q
  have l2 : (if t1.plain = true then { t1 with plain := false } else t1).led = t.led := by split <;> exact l
  generalize (if t1.plain = true then { t1 with plain := false } else t1) = t2 at r2 l2 ⊢
  by_cases c : (!wd && t2.tooFull) = true
  · rw [if_pos c]
    exact ⟨(relayAll_perm t2 e1 _).trans p, fun _ => relayAll_ris t2 e1 _, (relayAll_led t2 e1 _).trans l2⟩
  · rw [if_neg c]
    exact ⟨p, r2, l2⟩
section
variable {P : Program} {w : World} {A : Around} {E : Value → Shared → Prop} {s : Shared}
theorem WkS.add {D : Froz.SD} {l : List Str} {k : Str} (u : Tok) (W : WkS P w D l) : WkS P w (Froz.addTx (hashStr w k) (.str k u) D) (k :: l) := by
  obtain ⟨p, r, d⟩ := addTx_is (hashStr w k) (.str k u) D
  refine ⟨Froz.add_ok u W.ok, fun e he => ?_, ?_, r W.rs, W.ld.imp id fun z => d.trans z⟩
  · rcases List.mem_append.mp (p.mem_iff.mp he) with q | q
    · exact W.tx e q
    · rw [List.mem_singleton.mp q]
      exact ⟨u, rfl⟩
  · have q := p.map sTxt
    rw [List.map_append] at q
    exact q.trans ((List.perm_append_singleton _ _).trans (W.pm.cons k))
theorem dup_x {a : Addr} {D : Froz.SD} {l : List Str} {k : Str} {u : Tok} {Q : Bool → Shared → Prop} (ho : s.heap.get? a = some (Froz.sObj "set" D)) (F : Froz.TxOk P w D l) (hk : k ∈ l) (hb : l.length < scanBound) (h : Q false s) :
    wpAny (model P w) A (setAddHashed a (.str k u) (hashStr w k)) Q E s := by
  obtain ⟨es, ep, t⟩ := D
  have fits : t.fits es.size = true := F.fit
  have el : ElemsOf (strKind P w) es.toList := F.el
  have few : es.size < scanBound := by
    have : es.size = l.length := F.sz
    omega
  have me : (strKind P w).is k (.str k u) = true := Froz.is_str k u
  obtain ⟨e0, m0, z0⟩ := (F.mem k).mp hk
  unfold setAddHashed setAddHashedIn
  refine wpAny_holding (wpAny_bind (wpAny_setState_of ho rfl fits ?_))
  dsimp only
  rw [byScan_of rfl few el]
  simp only [↓reduceIte]
  unfold setAddByScan
  refine wpAny_bind (wpAny_bind (wpAny_rule (wpAny_bind (wpAny_setScan_of (knd := strKind P w) (k := k) me ho rfl fits el ?_))))
  cases hf : List.findIdx? (fun e => (strKind P w).is k e.2) es.toList with
  | none =>
    have c := List.findIdx?_eq_none_iff.mp hf e0 m0
    rw [z0] at c
    cases c
  | some j => exact wpAny_pure (wpAny_pure h)
theorem fresh_led {a : Value} {Q : Value → Shared → Prop} (h : Q (.ref s.heap.objs.size) { s with heap := s.heap.push (Froz.sObj "set" (#[], 0, .fresh 0 0 (!w.params.followText "set-order"))) }) :
    codeAny (model P w) A (.call (.builtin "set.__new__") ⟨[.type "set", a], []⟩) (wants Q E) s := by
  refine codeAny_of_tree (wpAny_bind (wpAny_of_eq (F.newCall_set_1 a) (wpAny_pure ⟨plainId_quiet F.plain_set_new _, codeAny_builtin F.entry_set_new ?_⟩)))
  rw [Around.under_plainId F.plain_set_new _]
  unfold Builtin.«set.__new__» Builtin.Frozenset.newClass
  have sub := sub_set_self
  obtain ⟨hp, g, d, tk, os⟩ := s
  dsimp only
  wp_walk
  refine wpAny_askSetting (wpAny_pure ?_)
  dsimp only
  simp only [newObj]
  exact wpAny_bind (wpAny_alloc (wpAny_pure (wpAny_pure h)))
end
/-- at a stands a set of just the texts ys, at most n of them -/
def HasS (P : Program) (w : World) (h : Heap) (a : Addr) (ys : List Str) (n : Nat) : Prop := ∃ D l, h.get? a = some (Froz.sObj "set" D) ∧ WkS P w D l ∧ l.Nodup ∧ l.length ≤ n ∧ ∀ y, y ∈ l ↔ y ∈ ys
section
variable {p : Program} {w : World} {A : Around} {Z : Result → Shared → Prop} {it : Addr} {f g : List Addr} {Gs : Array GenState → Array GenState → Prop} {N : Nat} {Yv : Nat → Value → Prop} {Sv : Nat → Shared → Prop}
/-- a set that takes in texts, one after the other -/
theorem set_eats (Wk : WalksS p w A.in1 it f g Gs N Yv Sv) {a : Addr} (af : a ∉ f) {xs : List Str} (lx : xs.length = N) (few : N ≤ 1000) (val : ∀ j v, Yv j v → ∃ t, v = .str (xs.getD j Str.empty) t) :
    ∀ (m j : Nat) (s : Shared), N - j = m → j ≤ N → Sv j s → HasS p w s.heap a (xs.take j) j → (∀ z, Moved (a :: g) Gs s z → HasS p w z.heap a xs N → Z (.ok (.ret .none)) z) →
      codeAny (model p w) A (.builtin "set.update.loop" ⟨[.ref a, .ref it], []⟩) Z s := by
  have ag : a ∉ g := fun q => af (Wk.sub _ q)
  have wide : ∀ b ∈ g, b ∈ a :: g := fun b q => List.mem_cons_of_mem _ q
  have stays : ∀ {s z : Shared} {ys : List Str} {c : Nat}, Moved g Gs s z → HasS p w s.heap a ys c → HasS p w z.heap a ys c := fun mv q => by
    obtain ⟨D, l, ho, r⟩ := q
    exact ⟨D, l, mv.heap a _ ag ho, r⟩
  intro m
  induction m with
  | zero =>
    intro j s hm hj st se fin
    obtain rfl : j = N := by omega
    refine codeAny_builtin F.entry_set_update_loop (by
      rw [Around.under_plainId F.plain_set_update_loop _]
      refine wpAny_bind (Wk.done s _ _ st fun z mv => wpAny_pure (fin z (mv.mono wide) ?_))
      have q := stays mv se
      rwa [← lx, List.take_length, lx] at q)
  | succ m ih =>
    intro j s hm hj st se fin
    have jl : j < N := by omega
    have xj : xs[j]? = some (xs.getD j Str.empty) := by
      rw [List.getD_eq_getElem?_getD, List.getElem?_eq_getElem (by omega)]
      rfl
    have tk : xs.take (j + 1) = xs.take j ++ [xs.getD j Str.empty] := by rw [List.take_add_one, xj]; rfl
    refine codeAny_builtin F.entry_set_update_loop (by
      rw [Around.under_plainId F.plain_set_update_loop _]
      refine wpAny_bind (Wk.item j s _ _ jl st fun v z hv st2 mv => ?_)
      obtain ⟨t, rfl⟩ := val j v hv
      generalize xs.getD j Str.empty = x at xj tk
      obtain ⟨D, l, ho, wk, nd, le, me⟩ := stays mv se
      have go : ∀ (b : Bool) (h2 : Heap), (∀ b o, b ≠ a → z.heap.get? b = some o → h2.get? b = some o) → HasS p w h2 a (xs.take (j + 1)) (j + 1) →
          codeAny (model p w) A (.builtin "set.update.loop" ⟨[.ref a, .ref it], []⟩) Z { z with heap := h2, toks := z.toks + 1 } := fun b h2 kp hs =>
        ih (j + 1) _ (by omega) jl (Wk.frame _ z _ _ st2 (Nat.le_succ _) fun b hb o e => kp b o (fun q => af (q ▸ hb)) e) hs fun y mv2 se4 =>
          fin y (Moved.trans Wk.gtrans ((mv.mono wide).then_heap (Nat.le_succ _) fun b o hb e => kp b o (fun q => hb (q ▸ List.mem_cons_self)) e) mv2) se4
      refine wpAny_bind (wpAny_holding (by
        unfold setAdd
        refine wpAny_holding (wpAny_bind ((strKind p w).pyHash (k := x) (strKind_is _ _ _ _) ?_))
        by_cases hx : x ∈ l
        · refine dup_x (s := { z with toks := z.toks + 1 }) ho wk.ok hx (by unfold scanBound; omega) ?_
          refine wpAny_pure ⟨plainId_quiet F.plain_set_update_loop _, go false z.heap (fun _ _ _ e => e) ⟨D, l, ho, wk, nd, by omega, fun y => ?_⟩⟩
          rw [tk, List.mem_append, List.mem_singleton, ← me y]
          exact ⟨.inl, fun q => q.elim id fun e => e ▸ hx⟩
        · refine Froz.add_x (s := { z with toks := z.toks + 1 }) ho wk.ok hx (by unfold scanBound; omega) ?_
          refine wpAny_pure ⟨plainId_quiet F.plain_set_update_loop _, go true _ (fun b o hb e => (Heap.get?_update_other _ _ (Ne.symm hb)).trans e) ⟨_, x :: l, Froz.get_upd _ ho rfl, wk.add t, List.nodup_cons.mpr ⟨hx, nd⟩, by rw [List.length_cons]; omega, fun y => ?_⟩⟩
          rw [tk, List.mem_append, List.mem_singleton, ← me y, List.mem_cons]
          exact Or.comm)))
end
section
variable {p : Program} {w : World} {A : Around} {E : Value → Shared → Prop} {s : Shared}
set_option maxHeartbeats 3200000 in
/-- set(l) of a list of texts holds just these -/
theorem set_of_lst {l : Addr} {its : Array Value} {xs : List Str} {Q : Value → Shared → Prop} (hh : A.handled = none) (hl : s.heap.IsList l its) (hi : StrsAre its.toList xs) (few : xs.length ≤ 1000)
    (fin : ∀ (h' : Heap) (tk : Nat), HasS p w h' s.heap.objs.size xs xs.length → (∀ b o, b < s.heap.objs.size → s.heap.get? b = some o → h'.get? b = some o) → Q (.ref s.heap.objs.size) { s with heap := h', toks := tk }) :
    wpAny (model p w) A (call (.type "set") [.ref l]) Q E s := by
  have sz : its.size = xs.length := by rw [← Array.length_toList, StrsAre.len_eq hi]
  obtain ⟨c, tl, hmro⟩ := F.called_set.mro
  have m1 := F.called_set.made
  have m2 := F.called_set.sub
  refine wpAny_call (codeAny_of_tree (wpAny_pure ⟨Code.quiet_builtin _ (by decide +kernel), codeAny_builtin F.entry_type_call (by
    rw [Around.under_plain (weight_type_call_type "set" [.ref l] []) rfl]
    have m3 := F.called_set.notType
    have m4 := F.called_set.canCreate
    have m5 := F.typeCall_set_1 (.ref l)
    repeat (any_goals (first | assumption | wp_step))
    refine codeAny_mono (fresh_led (P := p) (w := w) (a := .ref l) (E := E) (Q := fun v z => v = .ref s.heap.objs.size ∧ z = { s with heap := s.heap.push (Froz.sObj "set" (#[], 0, .fresh 0 0 (!w.params.followText "set-order"))) }) ⟨rfl, rfl⟩) fun r z hr => ?_
    cases r with
    | error e => exact hr
    | ok fl =>
      cases fl with
      | next => exact hr.elim
      | brk => exact hr.elim
      | cont => exact hr.elim
      | ret v =>
        obtain ⟨rfl, rfl⟩ := hr
        generalize hled : (!w.params.followText "set-order") = led
        have hS : (s.heap.push (Froz.sObj "set" (#[], 0, .fresh 0 0 led))).get? s.heap.objs.size = some (Froz.sObj "set" (#[], 0, .fresh 0 0 led)) := Heap.get?_push_size _ rfl
        have hT : Shared.TypeIs { s with heap := s.heap.push (Froz.sObj "set" (#[], 0, .fresh 0 0 led)) } (.ref s.heap.objs.size) "set" := ⟨_, hS, rfl⟩
        have n1 := F.called_set.init.lookup
        have n2 := F.called_set.init.bind (.ref s.heap.objs.size)
        repeat (any_goals (first | assumption | wp_step))
        refine codeAny_mono (codeAny_call_builtin (R := wants (fun r z => r = .none ∧ ∃ h' tk, z = { s with heap := h', toks := tk } ∧ HasS p w h' s.heap.objs.size xs xs.length ∧ (∀ b o, b < s.heap.objs.size → s.heap.get? b = some o → h'.get? b = some o)) E) F.called_set.init.plain F.entry_set_init (check_set_init_1 hT ?_)) fun r2 z2 hr2 => ?_
        · obtain ⟨⟨tc, td, tdata, tsl⟩, ho, hc, tn, hd⟩ := hl
          simp only at hc hd
          subst hc hd
          have ho2 : (s.heap.push (Froz.sObj "set" (#[], 0, .fresh 0 0 led))).get? l = some { cls := .type "list", dict := td, data := .seq its tn, slots := tsl } := Heap.get?_push_of_some _ ho
          have q1 := F.sub_list_set
          have q2 := F.sub_list_frozenset
          have q3 : (Value.type "list" == Value.type "dict") = false := by decide
          have lis : (s.heap.push (Froz.sObj "set" (#[], 0, .fresh 0 0 led))).IsList l its := ⟨_, ho2, rfl, tn, rfl⟩
          have lS : l < s.heap.objs.size := Heap.lt_size ho
          have pz : (s.heap.push (Froz.sObj "set" (#[], 0, .fresh 0 0 led))).objs.size = s.heap.objs.size + 1 := Heap.size_push ..
          unfold Builtin.«set.__init__» noKeywords Builtin.Frozenset.updateFrom
          generalize hPI : pyIter = PI
          unfold Froz.sObj at *
          wp_walk
          subst hPI
          refine wpAny_pyIter_list lis (wpAny_bind (wpAny_runValue ?_))
          have hn3 : A.in1.in1.in1.handled = none := by simp [hh]
          have vals : ∀ (j : Nat) (v : Value), its[j]? = some v → ∃ t, v = .str (xs.getD j Str.empty) t := fun j v hv => SS.strs_at hi j v (by rw [Array.getElem?_toList]; exact hv)
          refine set_eats ((Walks.list hn3 _ l (by rw [Heap.size_push]; exact Nat.ne_of_lt (Nat.lt_succ_of_lt lS)) its).toS) (a := s.heap.objs.size) (by
            simp only [List.mem_cons, List.not_mem_nil, or_false, not_or]
            exact ⟨by rw [Heap.size_push]; exact (Nat.succ_ne_self _).symm, Nat.ne_of_gt lS⟩) sz.symm (by omega) vals (its.size - 0) 0 _ (by omega) (Nat.zero_le _) ⟨⟨_, Heap.get?_push_size _ rfl, rfl, rfl⟩, lis.push _⟩ ?_ ?_
          · refine ⟨(#[], 0, .fresh 0 0 led), [], Heap.get?_push_of_some _ hS, ⟨Froz.TxOk.nil rfl, fun e he => by simp at he, .nil, List.Pairwise.nil, ?_⟩, List.nodup_nil, Nat.zero_le _, fun y => by simp⟩
            show _ ∨ led = true
            rw [← hled]
            cases w.params.followText "set-order"
            · exact .inr rfl
            · exact .inl rfl
          · rintro ⟨h', g', d', tk', os'⟩ mv se
            obtain rfl : g' = s.gens := mv.gens
            obtain rfl : d' = s.drawn := mv.drawn
            obtain rfl : os' = s.os := mv.os
            refine wpAny_pure (wpAny_pure ⟨rfl, h', tk', rfl, by rw [← sz]; exact se, fun b o hb e => mv.heap b o ?_ (Heap.get?_push_of_some _ (Heap.get?_push_of_some _ e))⟩)
            simp only [List.mem_cons, List.not_mem_nil, or_false, not_or]
            exact ⟨Nat.ne_of_lt hb, by rw [Heap.size_push]; exact Nat.ne_of_lt (Nat.lt_succ_of_lt hb)⟩
        · cases r2 with
          | error e => exact hr2
          | ok f2 =>
            cases f2 with
            | next => exact hr2.elim
            | brk => exact hr2.elim
            | cont => exact hr2.elim
            | ret v =>
              obtain ⟨rfl, h', tk, rfl, se, kp⟩ := hr2
              repeat (any_goals (first | assumption | wp_step))
              exact fin _ _ se kp)⟩))
end
end K2
end
section
set_option Elab.async false
set_option maxRecDepth 100000
set_option linter.all false
namespace K2
open PySem PySem.Spec PyProof.Rows L2
section
variable {p : Program} {w : World} {A : Around} {E : Value → Shared → Prop} {s : Shared}
/-- sorted(a), a set of texts, fewer than 64 -/
theorem sorted_has {a : Addr} {xs : List Str} {n : Nat} {Q : Value → Shared → Prop} (S : HasS p w s.heap a xs n) (hh : A.handled = none) (h64 : n < 64)
    (fin : ∀ z q (out : Array Value) (c : Nat) (ys : List Str), (∀ b o, s.heap.get? b = some o → z.heap.get? b = some o) → z.gens = s.gens → z.os = s.os → s.heap.objs.size ≤ q →
      z.heap.get? q = some (seqObj "list" out c) → StrsAre out.toList ys → ys.Nodup → ys.length ≤ n → (∀ y, y ∈ ys ↔ y ∈ xs) → sortedS ys = true → Q (.ref q) z) :
    wpAny (model p w) A (call (.builtin "sorted") [.ref a]) Q E s := by
  obtain ⟨⟨es, ep, t⟩, l, ho, W, nd, le, me⟩ := S
  have few : es.size < scanBound := by
    have : es.size = l.length := W.ok.sz
    unfold scanBound
    omega
  refine Calls.call_function_entry kind_sorted plain_sorted entry_sorted (args_sorted1 _) (by
    unfold Builtin.«sorted»
    refine wpAny_bind (m := checkCount "sorted" 1 1 _) (wpAny_pure (wpAny_bind (collect_set (A := A.in1) hh ⟨_, ho, rfl, rfl⟩ W.ok.fit few W.rs W.ld fun z vs k1 hz g1 o1 pm => ?_)))
    have sv : StrsAre vs (vs.map strOf) := strsAre_map vs fun v hv => by
      obtain ⟨e, he, q⟩ := List.mem_map.mp (pm.mem_iff.mp hv)
      obtain ⟨u, hu⟩ := W.tx e he
      exact ⟨_, u, q.symm.trans hu⟩
    have pl : (vs.map strOf).Perm l := by
      have q := pm.map strOf
      rw [List.map_map] at q
      refine q.trans ((List.Perm.of_eq (List.map_congr_left fun e he => ?_)).trans W.pm)
      obtain ⟨u, hu⟩ := W.tx e he
      show strOf e.2 = sTxt e
      rw [hu]
      rfl
    have vl : vs.length = l.length := by rw [← pl.length_eq, List.length_map]
    refine wpAny_bind (wpAny_newList ?_ (by rw [vl, sizeLine_eq]; omega))
    have ol : (z.heap.push (seqObj "list" vs.toArray 0)).get? z.heap.objs.size = some (seqObj "list" vs.toArray 0) := Heap.get?_push_size _ rfl
    refine wpAny_bind (wpAny_holding (wpAny_call_entry slot_list_sort ⟨_, ol, rfl⟩ entry_list_sort (list_sort_treeKAny strKind_oneLt ol sv.keysOf (fun v1 v2 rest e => keyKind_strs (by rw [← e]; exact sv)) (by rw [vl, sizeLine_eq]; omega) fun st hp hs => ⟨_, rfl, ?_⟩) (args_list_sort _)))
    obtain ⟨ys, y1, y2, y3⟩ := sorted_out_str sv hp hs
    obtain ⟨c, hc⟩ := sortedHeap_at (vs := vs) (out := (arrOf st).map (·.2)) ol
    have py := y2.trans pl
    refine wpAny_pure ⟨_, rfl, fin _ z.heap.objs.size _ c ys (fun b u e => ?_) g1 o1 hz hc y1 (py.nodup_iff.mpr nd) (by rw [py.length_eq]; exact le) (fun y => (py.mem_iff).trans (me y)) y3⟩
    have lt := Heap.lt_size (k1 b u e)
    show (sortedHeap (z.heap.push (seqObj "list" vs.toArray 0)) z.heap.objs.size vs _).get? b = some u
    rw [sortedHeap_old (Nat.ne_of_lt lt) (by rw [size_push']; exact Nat.lt_succ_of_lt lt)]
    exact Heap.get?_push_of_some _ (k1 b u e))
end
end K2
end
section
set_option Elab.async false
set_option maxRecDepth 100000
set_option linter.all false
namespace K2
open PySem PySem.Spec PyProof.Rows L2
def tSortedSet (te : TE) : TE := fun σ H Q => te σ H fun x H1 => ∃ (l : Addr) (xs : List Str), x = .ref l ∧ H1 l = some (.lst (xs.map V.str)) ∧ xs.length < 64 ∧
  ∀ (ys : List Str) (q : Addr), ys.Nodup → ys.length ≤ xs.length → (∀ y, y ∈ ys ↔ y ∈ xs) → sortedS ys = true → H1 q = none → Q (.ref q) (upd H1 q (.lst (ys.map V.str)))
section
variable {X : Cx}
/-- sorted(set(l)), l a list of texts -/
theorem pe_sortedSet {a : Expr} {ta : TE} {p1 p2 p3 pos : Pos} (h1 : Gl X "sorted") (h2 : X.mg "sorted" = none) (h3 : Gl X "set") (h4 : X.mg "set" = none) (ha : PE X a ta) (hc : X.calm = true := by rfl)
    (na : starEach [a] X.env = (false, eval a X.env) :: starEach [] X.env := by rfl) (bs : bootBuiltins "sorted" = some (.builtin "sorted") := by decide +kernel) : PE X (.Call (.Name "sorted" p1) [.Call (.Name "set" p2) [a] [] p3] [] pos) (tSortedSet ta) := by
  refine ⟨fun pins s σ H Q I h => Call_ (ld_blt I h1 h2 bs (callWith_builtin1 (args_cons (Call_ (ld_blt I h3 h4 boot_set (callWith_type1 (args_cons (thn (ha.run pins s σ H _ I h) fun v s1 ⟨x, H1, I1, r1, q1⟩ => args_nil ?_) na) na rfl))) rfl) rfl rfl))⟩
  obtain ⟨l, xs, rfl, hl, few, q⟩ := q1
  cases r1
  obtain ⟨its, r, pl, _⟩ := I1.list (SqL.of hl)
  have hx : StrsAre its xs := by simpa using strsAre_of r
  refine set_of_lst (I1.ok.hd hc) pl.isList (by simpa using hx) (by omega) fun h' tk hS hk => args_nil ?_
  have I2 : Inv X pins σ H1 { s1 with heap := h', toks := tk } := I1.kept fun b o e => hk b o (Heap.lt_size e) e
  have hS2 : HasS X.prog X.w ({ s1 with heap := h', toks := tk } : Shared).heap s1.heap.objs.size xs xs.length := hS
  generalize ({ s1 with heap := h', toks := tk } : Shared) = s2 at I2 hS2 ⊢
  refine sorted_has hS2 (I1.ok.hd hc) few fun z p out c ys k g o hp hg hi nd le me so => ?_
  have hlen : (ys.map V.str).length ≤ sizeLine := by rw [List.length_map, sizeLine_eq]; omega
  have hn : H1 p = none := I2.hok.fresh hp
  have J : Inv X pins σ (upd H1 p (.lst (ys.map V.str))) { s2 with heap := z.heap, gens := z.gens, drawn := z.drawn, toks := z.toks } :=
    I2.call (ch := []) (Un.laid k hp hn) (I2.hok.laid k hp ⟨hlen, out.toList, c, vals_of_strs hi, hg⟩) (by rw [g]; exact I2.bare) (fun _ z => nomatch z)
  have e : z = { s2 with heap := z.heap, gens := z.gens, drawn := z.drawn, toks := z.toks } := by
    cases z
    cases s2
    cases o
    rfl
  rw [e]
  exact ⟨.ref p, _, J, rfl, q ys p nd le me so hn⟩
end
end K2
end
section
set_option Elab.async false
set_option maxRecDepth 100000
set_option linter.all false
namespace K2
open PySem L2
abbrev sKind : Stmt := inClass (top 27) 8
abbrev nKind : List Str := ["self", "names", "lowest", "x", "y"]
def scK1 : Scope := { kind := .function, names := [(Str.ofString ".0", .local), (Str.ofString "x", .cell), (Str.ofString "any", .globalImplicit), (Str.ofString "names", .cell), (Str.ofString "self", .cell)], isGenerator := false, isCoroutine := false }
/-- ys: the ascending ones of xs that no other one of xs is within -/
structure Least (tb : Tb) (xs ys : List Str) : Prop where
  nd : ys.Nodup
  so : PyProof.Rows.sortedS ys = true
  me : ∀ y, y ∈ ys ↔ y ∈ xs ∧ ∀ z ∈ xs, z ≠ y → y ∉ look tb z
def low (tb : Tb) (xs : List Str) (y : Str) : Bool := !(xs.map fun z => decide (z ≠ y) && decide (y ∈ look tb z)).any id
def spKind (C : Addr) : Sp := fun vs H Q _ => ∃ (p t : Addr) (xs : List Str) (tb : Tb), vs = [.ref p, .ref t] ∧ ClsAt C H p tb ∧ H t = some (.tup (xs.map V.str)) ∧ (∀ x ∈ xs, x ∈ keys tb) ∧ xs.length ≤ 40 ∧
  ∀ (ys : List Str) (r : Addr) (H' : Hp), Least tb xs ys → H r = none → H' r = some (.tup (ys.map V.str)) → Same H H' → Q (.ref r) H'
theorem ClsAt.same {C : Addr} {H H' : Hp} {p : Addr} {tb : Tb} (h : ClsAt C H p tb) (s : Same H H') : ClsAt C H' p tb := by
  obtain ⟨dx, r, n, l, kvs, h1, h2, h3⟩ := h
  exact ⟨dx, r, n, l, kvs, s _ _ h1, s _ _ h2, h3.mono fun a us e => s a _ e⟩
theorem ClsAt.ins {C : Addr} {H : Hp} {p : Addr} {tb : Tb} (h : ClsAt C H p tb) : ∃ dx fs, H p = some (.ins C dx fs) ∧ ∀ m : Str, ¬ m = "_lines" → ¬ m = "names" → ¬ m = "rows" → fs.lookup m = none := by
  obtain ⟨dx, r, n, l, kvs, h1, h2, h3⟩ := h
  exact ⟨dx, _, h1, fun m a b c => flds_no _ _ _ a b c⟩
theorem cr_anyK {X : Cx} {K' : PySem.W.Frag} (hK : X.K = K') (hc : X.calm = true) : CallR X (.builtin "any") (rAny K') := by
  subst hK
  exact cr_any hc
theorem pi_tupK {X : Cx} {K' : PySem.W.Frag} {tg l : Expr} {tl : TE} (hK : X.K = K') (hl : PE X l tl) : PI X tg l (iTup K' tl) := by
  subst hK
  exact pi_tup hl
theorem kind_bind (kV doc pm : Value) (an : Option Addr) (cdv ct : Value) : ∀ us rest : List Value, us.length = ["self"].length → bindArgs (PySem.W.fnOf "kind" "Classes.kind" (defArgs sKind) (defBody sKind) (defScope sKind) .none kV doc pm an cdv ct) ⟨us ++ rest, []⟩ = (newTuple rest >>= fun t => pure (([("self" : Str)]).zip us ++ [(("names" : Str), t)])) :=
  StX.bind_star1 (B := fun l => bindArgs (PySem.W.fnOf "kind" "Classes.kind" (defArgs sKind) (defBody sKind) (defScope sKind) .none kV doc pm an cdv ct) ⟨l, []⟩) (fun a => rfl) (fun a r rs => rfl)
section
variable {P : Program} {w : World} {K : PySem.W.Frag} {mg : Str → Option Value} {base : Heap}
theorem scKind : FnScope nKind ["self", "names"] (defScope sKind) := ⟨rfl, rfl, rfl, by decide +kernel, rfl, by decide +kernel, by decide +kernel⟩
theorem ok_kind {f C fW : Addr} {fd fdW : FuncData} (F : Fun K "kind" "Classes.kind" sKind f fd) (X : Txt K mg C) (T : Bi mg) (tAny : mg "any" = none) (tSo : mg "sorted" = none)
    (mW : Meth K C "within" fW) (GW : FnOk P w K mg base CX0 1 fW fdW ["self", "one", "other"] (spWithin C)) (bW : Binds K fdW ["self", "one", "other"] []) :
    FnR P w K mg base CX0 3 f (fun vs H Q E => ∃ ws rest, vs = ws ++ rest ∧ ws.length = 1 ∧ rest.length ≤ sizeLine ∧ ∀ p, H p = none → spKind C (ws ++ [V.ref p]) (upd H p (.tup rest)) Q E) := by
  obtain ⟨oc, od, kV, doc, pm, an, cdv, ct, osl, rfl, lk, hcd⟩ := F.ex
  refine StX.fn_star (ps := ["self"]) (pv := "names") lk hcd scKind StX.cxUp_none (kind_bind kV doc pm an cdv ct) fun A outer s H vs Q E hr h => ?_
  obtain ⟨p, tp, xs, tb, rfl, cl, ht, hk, h8, k⟩ := h
  have hr1 : Room 1 _ := hr.mono (by decide)
  have hu := hu_of hr
  suffices hs : ∃ t, PSs (cxOf CX0 P w K mg base nKind "Classes.kind" (defScope sKind) f cdv A outer s H E).nox (defBody sKind) t ∧ t { nx := fun _ H' => Q .non H', rt := Q } (start nKind [V.ref p, V.ref tp]) H by
    obtain ⟨t, h1, h2⟩ := hs
    exact ⟨t, h1.nox, h2⟩
  refine ⟨_, (pss_cons (ps_setLc (i := 2) (own := [("x", 3)]) (g := gName 3) rfl scKind.nd rfl rfl (sw_true rfl rfl rfl (by decide +kernel)) (pi_tup (pv 1)) (blkOk_by (N := nKind) (sc := defScope sKind) (by decide +kernel)) (fun _ _ _ _ _ => pg_name (i := 3) scKind.nd rfl (Or.inr rfl))
      (fun _ _ _ _ _ => pts_one (pt_not (pt_val (pe_callB (cr_anyK (K' := K) rfl rfl) (by rfl) tAny (by decide +kernel) (pa_cons
        (pe_lc (own := [("y", 4)]) (g := gName 4) (tt := tYes) rfl scKind.nd (pi_tupK (K' := K) rfl (pv 1)) (blkOk_by (N := nKind) (sc := scK1) (by decide +kernel)) (fun _ _ _ _ _ => pg_name (i := 4) scKind.nd rfl (Or.inl rfl)) (fun _ _ _ _ _ => pts_nil)
          (fun _ _ _ _ _ => pe_and (pe_cmpR op_ne (pv 4) (pv 3) (nomark _)) (pe_one (pe_meth (pv 0) X.cl mW GW hr1 bW .nil pass0 (pa_cons (pv 4) (pa_cons (pv 3) pa_nil)))))) pa_nil)))))
      (fun _ _ _ _ _ => pv 3))
    (pss_one (ps_ret (pe_callTy call_tuple_of (by rfl) T.tuple (by decide +kernel) (pa_cons (pe_sortedSet (by rfl) tSo (by rfl) T.set (pv 2)) pa_nil))))), ?_⟩
  refine ⟨_, rfl, tp, rfl, ⟨_, SqT.of ht⟩, fun D hD => ?_⟩
  obtain ⟨dx, fs, hp1, hp2⟩ := cl.ins
  have hp2 := hp2 "within" (by decide +kernel) (by decide +kernel) (by decide +kernel)
  refine lc_tup (K := K) (a := tp) (xs := xs.map V.str) (fun i Hc => Hc D = some (.lst (((xs.take i).filter (low tb xs)).map V.str)) ∧ Same H Hc) ?_ ?_ ?_ ?_
  · exact ⟨upd_same, (Same.refl H).put hD⟩
  · rintro i Hc _ ⟨_, sm⟩
    exact SqT.of (sm tp _ ht)
  · rintro i y Hc hy ⟨h1, sm⟩
    have hil : i < xs.length := by
      have := (List.getElem?_eq_some_iff.mp hy).1
      rwa [List.length_map] at this
    have hxi : xs[i]? = some xs[i] := List.getElem?_eq_getElem hil
    rw [List.getElem?_map, hxi] at hy
    have hxk := hk xs[i] (List.getElem_mem hil)
    generalize xs[i] = x at hxi hy hxk
    cases hy
    refine ⟨rfl, _, rfl, tp, rfl, ⟨_, SqT.of (sm tp _ ht)⟩, fun D2 hD2 => ?_⟩
    refine lc_tup (K := K) (a := tp) (xs := xs.map V.str) (fun j Hd => Hd D2 = some (.lst (((xs.take j).map fun z => decide (z ≠ x) && decide (x ∈ look tb z)).map V.bl)) ∧ Same Hc Hd) ?_ ?_ ?_ ?_
    · exact ⟨upd_same, (Same.refl Hc).put hD2⟩
    · rintro j Hd _ ⟨_, sd⟩
      exact SqT.of (sd tp _ (sm tp _ ht))
    · rintro j y Hd hy ⟨g1, sd⟩
      have hjl : j < xs.length := by
        have := (List.getElem?_eq_some_iff.mp hy).1
        rwa [List.length_map] at this
      have hzj : xs[j]? = some xs[j] := List.getElem?_eq_getElem hjl
      rw [List.getElem?_map, hzj] at hy
      have hzk := hk xs[j] (List.getElem_mem hjl)
      have et : xs.take (j + 1) = xs.take j ++ [xs[j]] := by rw [List.take_add_one, hzj]; rfl
      generalize xs[j] = z at hzj hy hzk et
      cases hy
      have fin : ∀ v : Bool, v = (decide (z ≠ x) && decide (x ∈ look tb z)) → (List.map V.bl (List.map (fun z => decide (z ≠ x) && decide (x ∈ look tb z)) (List.take j xs))).length < sizeLine ∧
          (upd Hd D2 (.lst (List.map V.bl (List.map (fun z => decide (z ≠ x) && decide (x ∈ look tb z)) (List.take j xs)) ++ [V.bl v]))) D2 = some (.lst (List.map V.bl (List.map (fun z => decide (z ≠ x) && decide (x ∈ look tb z)) (List.take (j + 1) xs)))) := fun v e => by
        refine ⟨?_, ?_⟩
        · rw [List.length_map, List.length_map, List.length_take]; show _ < 16777216; omega
        · rw [upd_same, et, List.map_append, List.map_append, e]
          rfl
      refine ⟨rfl, _, rfl, _, rfl, rfl, _, rfl, ?_⟩
      have s2 := sm.trans sd
      by_cases hzx : z = x
      · refine ite2 (fun h => ?_) (fun _ => ⟨_, g1, (fin false ?_).1, (fin false ?_).2, sd.put hD2⟩)
        · rw [hzx] at h
          simp at h
        · simp [hzx]
        · simp [hzx]
      · have hkx : ¬ V.str z = V.str x := fun e => hzx (V.str.inj e)
        refine ite2 (fun _ => ⟨_, rfl, p, dx, fs, rfl, s2 p _ hp1, hp2, _, rfl, _, rfl, p, z, x, tb, rfl, cl.same s2, hzk, _, g1, (fin (decide (x ∈ look tb z)) ?_).1, (fin (decide (x ∈ look tb z)) ?_).2, sd.put hD2⟩) (fun h => ?_)
        · simp [hzx]
        · simp [hzx]
        · exact absurd (by rw [decide_eq_false hkx]; rfl) h
    · rintro Hd ⟨g1, sd⟩
      rw [List.length_map, List.take_length] at g1
      have s2 := sm.trans sd
      refine ⟨D2, _, rfl, SqL.of g1, _, rfl, ?_⟩
      have h2 := sd D _ h1
      have et : xs.take (i + 1) = xs.take i ++ [x] := by rw [List.take_add_one, hxi]; rfl
      have fl : ((xs.take i).filter (low tb xs)).length ≤ xs.length := Nat.le_trans (List.length_filter_le _ _) (by rw [List.length_take]; omega)
      refine ite2 (fun h => ?_) (fun h => ?_)
      · have hl : low tb xs x = true := h
        refine ⟨_, rfl, _, h2, ?_, ?_, s2.put hD⟩
        · rw [List.length_map]; show _ < 16777216; omega
        · rw [upd_same, et, List.filter_append, List.filter_cons, if_pos hl, List.map_append]
          rfl
      · have hl : ¬ low tb xs x = true := h
        refine ⟨?_, s2⟩
        rw [et, List.filter_append, List.filter_cons, if_neg hl, List.filter_nil, List.append_nil]
        exact h2
  · rintro Hc ⟨h1, sm⟩
    rw [List.length_map, List.take_length] at h1
    have fl : (xs.filter (low tb xs)).length ≤ xs.length := List.length_filter_le _ _
    refine ⟨_, rfl, D, _, rfl, h1, by omega, fun ys q nd le me so hq => ?_⟩
    refine ⟨q, _, rfl, .inl ⟨SqL.of upd_same, fun r hr2 => ?_⟩⟩
    have s3 : Same H (upd (upd Hc q (.lst (ys.map V.str))) r (.tup (ys.map V.str))) := (sm.put (sm.free hq)).put ((sm.put (sm.free hq)).free hr2)
    refine k ys r _ ⟨nd, so, fun y => ?_⟩ ((sm.put (sm.free hq)).free hr2) upd_same s3
    rw [me, List.mem_filter]
    have : low tb xs y = true ↔ ∀ z ∈ xs, z ≠ y → y ∉ look tb z := by
      unfold low
      rw [Bool.not_eq_true', List.any_map, List.any_eq_false]
      constructor
      · intro h z hz ne hy
        have := h z hz
        simp [ne, hy] at this
      · intro h z hz
        simp only [Function.comp, id, Bool.and_eq_true, decide_eq_true_eq, not_and]
        exact fun ne => h z hz ne
    rw [this]
end
end K2
end
section
set_option Elab.async false
set_option maxRecDepth 100000
set_option linter.all false
namespace K2
open PySem L2
abbrev sIA : Stmt := inClass (top 27) 13
abbrev nIA : List Str := ["self", "name", "part", "one"]
def near (tb : Tb) (x o : Str) : Bool := decide (o ∈ look tb x) || decide (x ∈ look tb o)
def apart (tb : Tb) (x : Str) (xs : List Str) : Bool := !(xs.map (near tb x)).any id
def spIA (C : Addr) : Sp := fun vs H Q _ => ∃ (p t : Addr) (x : Str) (xs : List Str) (tb : Tb), vs = [.ref p, .str x, .ref t] ∧ ClsAt C H p tb ∧ H t = some (.tup (xs.map V.str)) ∧ x ∈ keys tb ∧ (∀ o ∈ xs, o ∈ keys tb) ∧ xs.length ≤ 40 ∧
  ∀ H', Same H H' → Q (.bl (apart tb x xs)) H'
section
variable {P : Program} {w : World} {K : PySem.W.Frag} {mg : Str → Option Value} {base : Heap}
theorem scIA : FnScope nIA ["self", "name", "part"] (defScope sIA) := ⟨rfl, rfl, rfl, by decide +kernel, rfl, by decide +kernel, by decide +kernel⟩
theorem ok_ia {f C fW : Addr} {fd fdW : FuncData} (F : Fun K "_is_apart" "Classes._is_apart" sIA f fd) (X : Txt K mg C) (T : Bi mg) (tAny : mg "any" = none)
    (mW : Meth K C "within" fW) (GW : FnOk P w K mg base CX0 1 fW fdW ["self", "one", "other"] (spWithin C)) (bW : Binds K fdW ["self", "one", "other"] []) : FnOk P w K mg base CX0 3 f fd ["self", "name", "part"] (spIA C) := by
  refine F.ok scIA (fun vs H Q E h => ?_) (fun cdv A outer s H vs Q E hr h => ?_)
  · obtain ⟨p, t, x, xs, tb, rfl, _⟩ := h
    rfl
  · obtain ⟨p, t, x, xs, tb, rfl, cl, ht, hx, hk, h40, k⟩ := h
    have hr1 : Room 1 _ := hr.mono (by decide)
    have hu := hu_of hr
    refine ⟨_, pss_one (ps_ret (pe_not (pe_callB (cr_any rfl) (by rfl) tAny (by decide +kernel) (pa_cons
      (pe_lc (own := [("one", 3)]) (g := gName 3) (tt := tYes) rfl scIA.nd (pi_tup (pv 2)) (blkOk_by (N := nIA) (sc := defScope sIA) (by decide +kernel)) (fun _ _ _ _ _ => pg_name (i := 3) scIA.nd rfl (Or.inl rfl)) (fun _ _ _ _ _ => pts_nil)
        (fun _ _ _ _ _ => pe_or (pe_meth (pv 0) X.cl mW GW hr1 bW .nil pass0 (pa_cons (pv 1) (pa_cons (pv 3) pa_nil))) (pe_one (pe_meth (pv 0) X.cl mW GW hr1 bW .nil pass0 (pa_cons (pv 3) (pa_cons (pv 1) pa_nil)))))) pa_nil)))), ?_⟩
    refine ⟨_, rfl, t, rfl, ⟨_, SqT.of ht⟩, fun D hD => ?_⟩
    refine lc_tup (K := K) (a := t) (xs := xs.map V.str) (fun j Hd => Hd D = some (.lst (((xs.take j).map (near tb x)).map V.bl)) ∧ Same H Hd) ?_ ?_ ?_ ?_
    · exact ⟨upd_same, (Same.refl H).put hD⟩
    · rintro j Hd _ ⟨_, sd⟩
      exact SqT.of (sd t _ ht)
    · rintro j y Hd hy ⟨g1, sd⟩
      have hjl : j < xs.length := by
        have := (List.getElem?_eq_some_iff.mp hy).1
        rwa [List.length_map] at this
      have hzj : xs[j]? = some xs[j] := List.getElem?_eq_getElem hjl
      rw [List.getElem?_map, hzj] at hy
      have hzk := hk xs[j] (List.getElem_mem hjl)
      have et : xs.take (j + 1) = xs.take j ++ [xs[j]] := by rw [List.take_add_one, hzj]; rfl
      generalize xs[j] = z at hzj hy hzk et
      cases hy
      obtain ⟨dx, fs, hp1, hp2⟩ := (cl.same sd).ins
      have hp2 := hp2 "within" (by decide +kernel) (by decide +kernel) (by decide +kernel)
      have fin : ∀ v : Bool, v = near tb x z → (List.map V.bl (List.map (near tb x) (List.take j xs))).length < sizeLine ∧
          (upd Hd D (.lst (List.map V.bl (List.map (near tb x) (List.take j xs)) ++ [V.bl v]))) D = some (.lst (List.map V.bl (List.map (near tb x) (List.take (j + 1) xs)))) := fun v e => by
        refine ⟨?_, ?_⟩
        · rw [List.length_map, List.length_map, List.length_take]; show _ < 16777216; omega
        · rw [upd_same, et, List.map_append, List.map_append, e]
          rfl
      refine ⟨rfl, _, rfl, p, dx, fs, rfl, hp1, hp2, _, rfl, _, rfl, p, x, z, tb, rfl, cl.same sd, hx, ?_⟩
      refine ⟨_, rfl, ite2 (fun h => ?_) (fun h => ?_)⟩
      · exact ⟨_, g1, (fin true (by unfold near; rw [h]; rfl)).1, (fin true (by unfold near; rw [h]; rfl)).2, sd.put hD⟩
      · have e : decide (z ∈ look tb x) = false := by simpa using h
        refine ⟨_, rfl, p, dx, fs, rfl, hp1, hp2, _, rfl, _, rfl, p, z, x, tb, rfl, cl.same sd, hzk, _, g1, (fin (decide (x ∈ look tb z)) ?_).1, (fin (decide (x ∈ look tb z)) ?_).2, sd.put hD⟩
        · unfold near; rw [e, Bool.false_or]
        · unfold near; rw [e, Bool.false_or]
    · rintro Hd ⟨g1, sd⟩
      rw [List.length_map, List.take_length] at g1
      exact ⟨D, _, rfl, SqL.of g1, _, rfl, k Hd sd⟩
end
end K2
end
section
set_option Elab.async false
set_option maxRecDepth 100000
set_option linter.all false
namespace K2
open PySem L2 PySem.Spec PyProof.Rows
/-! ### sorted of a list of tuples of texts -/
def tk (xs : List Str) : List (Int ⊕ List Nat) := xs.map fun x => Sum.inr x.cps.toList
theorem tk_inj : ∀ {xs ys : List Str}, tk xs = tk ys → xs = ys
  | [], [], _ => rfl
  | [], _ :: _, h => by simp [tk] at h
  | _ :: _, [], h => by simp [tk] at h
  | x :: xs, y :: ys, h => by
    simp only [tk, List.map_cons, List.cons.injEq] at h
    obtain ⟨h1, h2⟩ := h
    have e1 : x = y := by
      cases x with
      | mk a =>
        cases y with
        | mk b =>
          have : a.toList = b.toList := Sum.inr.inj h1
          rw [show a = b from Array.ext' this]
    rw [e1, tk_inj (xs := xs) (ys := ys) h2]
/-- not behind: xs may stand ahead of ys -/
def tle (xs ys : List Str) : Prop := lexLt itemOrd (tk ys) (tk xs) = false
theorem tle_anti {xs ys : List Str} (h1 : tle xs ys) (h2 : tle ys xs) : xs = ys := tk_inj (lex_total (O := itemOrd) _ _ h2 h1)
/-- two ascending rows of the same are one -/
theorem asc_one : ∀ {as bs : List (List Str)}, as.Perm bs → as.Pairwise tle → bs.Pairwise tle → as = bs
  | [], bs, p, _, _ => (List.nil_perm.mp p).symm
  | a :: as, [], p, _, _ => absurd p.length_eq (by simp)
  | a :: as, b :: bs, p, h1, h2 => by
    obtain ⟨a1, a2⟩ := List.pairwise_cons.mp h1
    obtain ⟨b1, b2⟩ := List.pairwise_cons.mp h2
    have e : a = b := by
      rcases List.mem_cons.mp (p.mem_iff.mp (List.mem_cons_self : a ∈ a :: as)) with e | ha
      · exact e
      · rcases List.mem_cons.mp (p.mem_iff.mpr (List.mem_cons_self : b ∈ b :: bs)) with e | hb
        · exact e.symm
        · exact tle_anti (a1 b hb) (b1 a ha)
    subst e
    rw [asc_one p.cons_inv a2 b2]
/-- the texts of the tuple at b -/
def strsAt (H : Hp) (b : Addr) : List Str := match H b with
  | some (.tup vs) => vs.filterMap fun v => match v with | .str x => some x | _ => none
  | _ => []
theorem strsAt_of {H : Hp} {b : Addr} {xs : List Str} (h : H b = some (.tup (xs.map V.str))) : strsAt H b = xs := by
  unfold strsAt
  rw [h]
  show List.filterMap _ (xs.map V.str) = xs
  rw [List.filterMap_map]
  induction xs with
  | nil => rfl
  | cons x xs ih => 
    rw [List.filterMap_cons]
    show x :: _ = _
    rw [show List.filterMap _ xs = xs from ?_]
    clear h ih
    induction xs with
    | nil => rfl
    | cons y ys ih => 
      rw [List.filterMap_cons]
      show y :: _ = _
      rw [ih]
def rSortedTS (K : PySem.W.Frag) : List V → Hp → VK → Prop := fun vs H Q => ∃ (a : Addr) (as : List Addr), vs = [V.ref a] ∧ SqL K H a (as.map V.ref) ∧ (∀ b ∈ as, ∃ xs : List Str, xs ≠ [] ∧ H b = some (.tup (xs.map V.str))) ∧
  ∀ (bs : List Addr) (p : Addr), bs.Perm as → (bs.map (strsAt H)).Pairwise tle → H p = none → Q (.ref p) (upd H p (.lst (bs.map V.ref)))
section
variable {X : Cx} {pins : List (Addr × Obj)} {σ : L2.St} {H : Hp} {s : Shared}
theorem items_strs : ∀ (xs : List Str) (its : List Value) (i : Nat), Vals (xs.map V.str) its → tupItems (fun _ => true) i its = some (tk xs)
  | [], _, _, r => by cases r; rfl
  | x :: xs, _, i, r => by
    cases r with
    | @cons _ u _ us r1 r2 =>
      obtain ⟨t, rfl⟩ : ∃ t, u = Value.str x t := r1
      show (if true = true then (tupItems (fun _ => true) (i + 1) us).map (Sum.inr x.cps.toList :: ·) else none) = _
      rw [if_pos rfl, items_strs xs us (i + 1) r2]
      rfl
theorem key_at (I : Inv X pins σ H s) {b : Addr} {xs : List Str} (h : H b = some (.tup (xs.map V.str))) : G.tupKeyC s.heap (fun _ => true) (.ref b) = some (tk xs) ∧ (xs ≠ [] → ∃ f, TupOf s.heap (fun _ => true) (.ref b) f) := by
  obtain ⟨its, rv, ⟨o, ho, hc, n, hd⟩, _⟩ := I.tuple (SqT.of (K := X.K) h)
  have e := items_strs xs its 0 rv
  refine ⟨?_, fun hne => ?_⟩
  · unfold G.tupKeyC
    have e1 : G.isTupObj s.heap (.ref b) = true := by simp [G.isTupObj, ho, hc]
    rw [if_pos e1]
    simp only [tupKey, ho, hd]
    exact e
  · cases xs with
    | nil => exact absurd rfl hne
    | cons x xs =>
      cases rv with
      | @cons _ u _ us r1 r2 =>
        obtain ⟨t, rfl⟩ : ∃ t, u = Value.str x t := r1
        exact ⟨.str x t, b, o, _, n, rfl, ho, hc, hd, rfl, fun h => absurd h (by decide), fun _ => ⟨x, t, rfl⟩⟩
theorem tups_of (I : Inv X pins σ H s) : ∀ (as : List Addr), (∀ b ∈ as, ∃ xs : List Str, xs ≠ [] ∧ H b = some (.tup (xs.map V.str))) → ∃ fs, TupsOf s.heap (fun _ => true) (as.map Value.ref) fs
  | [], _ => ⟨[], .nil⟩
  | b :: as, h => by
    obtain ⟨fs, t⟩ := tups_of I as fun c hc => h c (List.mem_cons_of_mem _ hc)
    obtain ⟨xs, hne, hb⟩ := h b List.mem_cons_self
    obtain ⟨f, hf⟩ := (key_at I hb).2 hne
    exact ⟨f :: fs, .cons hf t⟩
theorem vals_refs : ∀ {as : List Addr} {us : List Value}, Vals (as.map V.ref) us → us = as.map Value.ref
  | [], _, r => by cases r; rfl
  | a :: as, _, r => by
    cases r with
    | @cons _ u _ us r1 r2 =>
      obtain rfl : u = Value.ref a := r1
      rw [List.map_cons, vals_refs r2]
theorem refs_vals : ∀ (as : List Addr), Vals (as.map V.ref) (as.map Value.ref)
  | [] => .nil
  | a :: as => .cons (show RelV (.ref a) (.ref a) from rfl) (refs_vals as)
theorem map_refs : ∀ (us : List Value) (as : List Addr), us.Perm (as.map Value.ref) → ∃ bs : List Addr, us = bs.map Value.ref ∧ bs.Perm as := by
  intro us as p
  have h : ∀ u ∈ us, ∃ b, u = Value.ref b := fun u hu => by
    obtain ⟨b, _, e⟩ := List.mem_map.mp (p.mem_iff.mp hu)
    exact ⟨b, e.symm⟩
  obtain ⟨bs, e⟩ : ∃ bs : List Addr, us = bs.map Value.ref := by
    clear p
    induction us with
    | nil => exact ⟨[], rfl⟩
    | cons u us ih =>
      obtain ⟨b, rfl⟩ := h u List.mem_cons_self
      obtain ⟨bs, e⟩ := ih fun v hv => h v (List.mem_cons_of_mem _ hv)
      exact ⟨b :: bs, by rw [e]; rfl⟩
  refine ⟨bs, e, ?_⟩
  rw [e] at p
  have q := p.map fun v => match v with | Value.ref b => b | _ => 0
  rw [List.map_map, List.map_map] at q
  have i : ∀ l : List Addr, List.map ((fun v => match v with | Value.ref b => b | _ => 0) ∘ Value.ref) l = l := fun l => by
    induction l with
    | nil => rfl
    | cons x l ih => rw [List.map_cons, ih]; rfl
  rw [i, i] at q
  exact q
theorem cr_sortedTS : CallR X (.builtin "sorted") (rSortedTS X.K) := by
  intro pins s σ H vs us Q I r h
  obtain ⟨a, as, rfl, hs, hx, q⟩ := h
  obtain ⟨its, rv, hl, hz⟩ := I.list hs
  rw [Vals.ref1 r]
  have ei := vals_refs rv
  rw [List.length_map] at hz
  obtain ⟨fs, ht⟩ := tups_of I as hx
  have kat : ∀ b ∈ as, G.tupKeyC s.heap (fun _ => true) (.ref b) = some (tk (strsAt H b)) := fun b hb => by
    obtain ⟨xs, _, e⟩ := hx b hb
    rw [strsAt_of e]
    exact (key_at I e).1
  refine G.sorted_tups (shape := fun _ => true) (fs := fs) hl.isList (by rw [ei]; exact ht) (fun v hv => ?_) (by rw [ei, List.length_map]; exact hz) fun st h1 h2 _ => ?_
  · rw [ei] at hv
    obtain ⟨b, hb, rfl⟩ := List.mem_map.mp hv
    exact ⟨_, kat b hb⟩
  · have p1 : ((arrOf st).toList).Perm (its.zip its) := by
      rw [← pairsOf_toList]
      exact Array.perm_iff_toList_perm.mp h1
    have p2 : ((arrOf st).toList.map Prod.snd).Perm (as.map Value.ref) := by
      have z := p1.map Prod.snd
      rw [List.map_snd_zip (Nat.le_refl _), ei] at z
      exact z
    obtain ⟨bs, eb, pb⟩ := map_refs _ _ p2
    have ms : ∀ p ∈ (arrOf st).toList, p.1 = p.2 := fun p hp => (mem_zip_self (p1.mem_iff.mp hp)).1
    have ez : (arrOf st).size = (pairsOf its).size := h1.size_eq
    obtain ⟨ep, he'⟩ := PyProof.Rows.sortedAll_at s.heap its ((arrOf st).map (·.2))
    have hlen : (bs.map V.ref).length ≤ sizeLine := by rw [List.length_map, pb.length_eq]; exact hz
    refine ⟨.ref _, upd H (s.heap.objs.size + 1) (.lst (bs.map V.ref)), I.laid (t' := s.toks) (fun _ _ => PyProof.Rows.sortedAll_old) (Nat.le_succ _) ⟨hlen, bs.map Value.ref, ep, refs_vals bs, ?_⟩, rfl, q bs _ pb ?_ (I.hok.fresh (Nat.le_succ _))⟩
    · have e2 : (arrOf st).map (·.2) = (bs.map Value.ref).toArray := by
        apply Array.ext'
        rw [Array.toList_map, ← eb]
      rw [← e2]
      exact he'
    · rw [List.pairwise_iff_getElem]
      intro i j hi hj hij
      rw [List.length_map] at hi hj
      have hlb : bs.length = (arrOf st).size := by
        have := congrArg List.length eb
        rw [List.length_map, List.length_map, Array.length_toList] at this
        exact this.symm
      have key : ∀ i (h : i < bs.length), KK (G.tupKindC s.heap fun _ => true) (arrOf st) i = tk (strsAt H bs[i]) := fun i h => by
        have hi2 : i < (arrOf st).size := by omega
        have e0 : (arrOf st)[i]? = some (arrOf st)[i] := Array.getElem?_eq_getElem hi2
        have e1 : ((arrOf st).toList.map Prod.snd)[i]? = (bs.map Value.ref)[i]? := by rw [eb]
        have e3 : (arrOf st)[i].2 = Value.ref bs[i] := by
          rw [List.getElem?_map, List.getElem?_map, Array.getElem?_toList, e0, List.getElem?_eq_getElem h] at e1
          exact Option.some.inj e1
        have e4 : (arrOf st)[i].1 = Value.ref bs[i] := by
          rw [ms _ (by rw [Array.mem_toList_iff]; exact Array.getElem_mem hi2)]
          exact e3
        unfold KK
        rw [e0]
        show ((G.tupKindC s.heap fun _ => true).keyOf (arrOf st)[i].1).getD _ = _
        rw [e4]
        show (G.tupKeyC s.heap (fun _ => true) (.ref bs[i])).getD _ = _
        rw [kat _ (pb.mem_iff.mp (List.getElem_mem h))]
        rfl
      have z := h2 i j (Nat.le_of_lt hij) (by rw [← ez]; omega)
      rw [key i hi, key j hj] at z
      rw [List.getElem_map, List.getElem_map]
      exact z
end
end K2
end
section
set_option Elab.async false
set_option maxRecDepth 100000
set_option linter.all false
namespace K2
open PySem L2 PySem.Spec PyProof.Rows
section
variable {prog : Program} {w : World} {A : Around} {E : Value → Shared → Prop} {s : Shared}
theorem collect_tup {l : Addr} {vs : List Value} {Q : List Value → Shared → Prop} (hl : IsTup s.heap l vs.toArray)
    (h : Q vs { s with heap := (s.heap.push (seqObj "list" #[] 0)).update s.heap.objs.size (Obj.mapSeq (· ++ vs.toArray)) }) (hsz : vs.length ≤ sizeLine := by size_fits) :
    wpAny (model prog w) A (collect (.ref l)) Q E s := by
  obtain ⟨o, ho, hc, n, hd⟩ := id hl
  unfold collect
  refine wpAny_bind (wpAny_runValue (codeAny_builtin entry_proto_collect' ?_))
  show wpAny _ _ (do again (.builtin "list.__iadd__" ⟨[← newList [], .ref l], []⟩)) _ _ s
  refine wpAny_bind (wpAny_newList (wpAny_pure ⟨Code.quiet_builtin _ (by decide +kernel), codeAny_builtin entry_list_iadd' ?_⟩))
  show wpAny _ _ (Builtin.List.listExtendWith (.ref s.heap.objs.size) (.ref l) (.ref s.heap.objs.size)) _ _ { s with heap := s.heap.push (seqObj "list" #[] 0) }
  unfold Builtin.List.listExtendWith
  have ho' : (s.heap.push (seqObj "list" #[] 0)).get? l = some o := Heap.get?_push_of_some _ ho
  refine wpAny_bind (wpAny_typeOf (T := "tuple") ⟨o, ho', hc⟩ ?_)
  have ht : (Value.type "tuple" == Value.type "tuple") = true := by rfl
  rw [if_pos (by rw [ht]; simp)]
  refine wpAny_bind (listItems_at ho' hd ?_)
  refine wpAny_bind (listItems_at (xs := #[]) (n := 0) (Heap.get?_push_size _ rfl) rfl ?_)
  rw [if_neg (by simp)]
  refine wpAny_bind (listUpdate_at (xs := #[]) (n := 0) (Heap.get?_push_size _ rfl) rfl ?_ (Nat.zero_le _) (by show (#[] ++ vs.toArray).size ≤ sizeLine + 1; simp only [Array.size_append, List.size_toArray, List.length_nil]; omega))
  refine wpAny_pure ?_
  show wpAny (model prog w) A (do
      let o ← load s.heap.objs.size
      match o.data with
      | .seq xs _ => pure xs.toList
      | _ => unsupported "internal:collect") Q E { s with heap := (s.heap.push (seqObj "list" #[] 0)).update s.heap.objs.size (Obj.mapSeq (· ++ vs.toArray)) }
  refine wpAny_bind (wpAny_load (get?_update_seq (Heap.get?_push_size _ rfl) _) ?_)
  show wpAny _ _ (pure ((#[] : Array Value) ++ vs.toArray).toList) Q E _
  rw [show ((#[] : Array Value) ++ vs.toArray).toList = vs by simp]
  exact wpAny_pure h
theorem sorted_strs_tup {t : Addr} {vs : List Value} {ss : List Str} {Q : Value → Shared → Prop} (ht : IsTup s.heap t vs.toArray) (hS : StrsAre vs ss) (h64 : vs.length < 64)
    (h : ∀ (a : Addr) (h' : Heap) (out : Array Value) (ss' : List Str) (e : Nat), s.heap.objs.size ≤ a → (∀ b o, s.heap.get? b = some o → h'.get? b = some o) → h'.get? a = some (seqObj "list" out e) → StrsAre out.toList ss' → ss'.Perm ss → sortedS ss' = true → Q (.ref a) { s with heap := h' }) :
    wpAny (model prog w) A (call (.builtin "sorted") [.ref t]) Q E s := by
  refine Calls.call_function_entry kind_sorted plain_sorted entry_sorted (args_sorted1 _) ?_
  unfold Builtin.«sorted»
  refine wpAny_bind (m := checkCount "sorted" 1 1 _) (wpAny_pure ?_)
  refine wpAny_bind (collect_tup ht ?_ (by rw [sizeLine_eq]; omega))
  refine wpAny_bind (wpAny_newList ?_ (by show vs.length ≤ _; rw [sizeLine_eq]; omega))
  have hsz : ((s.heap.push (seqObj "list" #[] 0)).update s.heap.objs.size (Obj.mapSeq (· ++ vs.toArray))).objs.size = s.heap.objs.size + 1 := by
    rw [Heap.size_update, size_push']
  have hoL : (((s.heap.push (seqObj "list" #[] 0)).update s.heap.objs.size (Obj.mapSeq (· ++ vs.toArray))).push (seqObj "list" vs.toArray 0)).get? (s.heap.objs.size + 1) = some (seqObj "list" vs.toArray 0) := by
    rw [← hsz]; exact Heap.get?_push_size _ rfl
  show wpAny _ _ _ _ _ { s with heap := ((s.heap.push (seqObj "list" #[] 0)).update s.heap.objs.size (Obj.mapSeq (· ++ vs.toArray))).push (seqObj "list" vs.toArray 0) }
  rw [hsz]
  refine wpAny_bind (wpAny_holding (wpAny_call_entry slot_list_sort ⟨_, hoL, rfl⟩ entry_list_sort (list_sort_treeK (vs := vs) strKind_oneLt hoL hS.keysOf (fun v₁ v₂ rest e => keyKind_strs (by rw [← e]; exact hS)) h64 fun st' hp hs => ⟨_, rfl, ?_⟩) (args_list_sort _)))
  obtain ⟨ss', e1, e2, e3⟩ := sorted_out_str hS hp hs
  obtain ⟨ep, he⟩ := sortedAll_at s.heap vs ((arrOf st').map (·.2))
  exact wpAny_pure ⟨_, rfl, h _ _ _ ss' ep (Nat.le_succ _) (fun b o e => sortedAll_old e) he e1 e2 e3⟩
end
def rSortedST (K : PySem.W.Frag) : List V → Hp → VK → Prop := fun vs H Q => ∃ (t : Addr) (xs : List Str), vs = [V.ref t] ∧ SqT K H t (xs.map V.str) ∧ xs.length < 64 ∧
  ∀ (ys : List Str) (p : Addr), ys.Perm xs → sortedS ys = true → H p = none → Q (.ref p) (upd H p (.lst (ys.map V.str)))
theorem cr_sortedST {X : Cx} : CallR X (.builtin "sorted") (rSortedST X.K) := by
  intro pins s σ H vs us Q I r h
  obtain ⟨t, xs, rfl, hs, h64, q⟩ := h
  obtain ⟨its, rv, ht, hz⟩ := I.tuple hs
  rw [Vals.ref1 r]
  have hl0 := rv.length
  rw [List.length_map] at hl0
  refine sorted_strs_tup ht rv.strs (by omega) fun a h' out ys ep ha kp he h1 h2 h3 => ?_
  have hlen : (ys.map V.str).length ≤ sizeLine := by rw [List.length_map, h2.length_eq, sizeLine_eq]; omega
  exact ⟨.ref a, upd H a (.lst (ys.map V.str)), I.laid (t' := s.toks) kp ha ⟨hlen, out.toList, ep, vals_of_strs h1, he⟩, rfl, q ys _ h2 h3 (I.hok.fresh ha)⟩
end K2
end
section
set_option Elab.async false
set_option maxRecDepth 100000
set_option linter.all false
namespace K2
open PySem L2
/-- all kinds, as the program grows them -/
def stepK (tb : Tb) (ps : List (List Str)) (n : Str) : List (List Str) := ps ++ (ps.filter fun p => apart tb n p).map fun p => p ++ [n]
def growK (tb : Tb) (S : List Str) : List (List Str) := S.foldl (stepK tb) [[]]
/-- the texts of S at the ones of the mask m -/
def masked (S : List Str) (m : Nat) : List Str := ((List.range S.length).filter fun k => decide (m / 2 ^ k % 2 = 1)).filterMap fun k => S[k]?
/-- no one of them has another one above it -/
def indep (tb : Tb) (xs : List Str) : Bool := xs.all fun one => decide (xs.filter (fun two => decide (two ≠ one) && decide (one ∈ look tb two)) = [])
def allM (S : List Str) : List (List Str) := (List.range (2 ^ S.length)).map (masked S)
theorem fm_congr {α β : Type} {f g : α → Option β} : ∀ {l : List α}, (∀ x ∈ l, f x = g x) → l.filterMap f = l.filterMap g
  | [], _ => rfl
  | x :: l, h => by
    rw [List.filterMap_cons, List.filterMap_cons, h x List.mem_cons_self, fm_congr fun y hy => h y (List.mem_cons_of_mem _ hy)]
theorem masked_snoc_low (S : List Str) (x : Str) (m : Nat) (h : m < 2 ^ S.length) : masked (S ++ [x]) m = masked S m := by
  unfold masked
  rw [List.length_append, List.length_singleton, List.range_succ, List.filter_append, List.filterMap_append]
  have e : [S.length].filter (fun k => decide (m / 2 ^ k % 2 = 1)) = [] := by
    rw [List.filter_cons, if_neg (by rw [Nat.div_eq_of_lt h]; decide), List.filter_nil]
  rw [e, List.filterMap_nil, List.append_nil]
  apply fm_congr
  intro k hk
  have := List.mem_range.mp (List.mem_filter.mp hk).1
  rw [List.getElem?_append_left this]
theorem masked_snoc_high (S : List Str) (x : Str) (m : Nat) (h : m < 2 ^ S.length) : masked (S ++ [x]) (m + 2 ^ S.length) = masked S m ++ [x] := by
  unfold masked
  rw [List.length_append, List.length_singleton, List.range_succ, List.filter_append, List.filterMap_append]
  have p0 : 0 < 2 ^ S.length := Nat.pow_pos (by decide)
  have e : [S.length].filter (fun k => decide ((m + 2 ^ S.length) / 2 ^ k % 2 = 1)) = [S.length] := by
    rw [List.filter_cons, if_pos, List.filter_nil]
    rw [Nat.add_div_right _ p0, Nat.div_eq_of_lt h]
    rfl
  rw [e]
  have e2 : [S.length].filterMap (fun k => (S ++ [x])[k]?) = [x] := by simp
  rw [e2]
  congr 1
  have e3 : (List.range S.length).filter (fun k => decide ((m + 2 ^ S.length) / 2 ^ k % 2 = 1)) = (List.range S.length).filter (fun k => decide (m / 2 ^ k % 2 = 1)) := by
    apply List.filter_congr
    intro k hk
    have hk := List.mem_range.mp hk
    have : 2 ^ S.length = 2 ^ k * (2 * 2 ^ (S.length - k - 1)) := by
      rw [← Nat.pow_succ', ← Nat.pow_add]
      congr 1
      omega
    rw [this, Nat.add_mul_div_left _ _ (Nat.pow_pos (by decide)), Nat.add_mul_mod_self_left]
  rw [e3]
  apply fm_congr
  intro k hk
  have := List.mem_range.mp (List.mem_filter.mp hk).1
  rw [List.getElem?_append_left this]
theorem allM_snoc (S : List Str) (x : Str) : allM (S ++ [x]) = allM S ++ (allM S).map fun p => p ++ [x] := by
  unfold allM
  rw [List.length_append, List.length_singleton, Nat.pow_succ, Nat.mul_two, List.range_add, List.map_append, List.map_map, List.map_map]
  congr 1
  · apply List.map_congr_left
    intro m hm
    exact masked_snoc_low S x m (List.mem_range.mp hm)
  · apply List.map_congr_left
    intro m hm
    show masked (S ++ [x]) (2 ^ S.length + m) = masked S m ++ [x]
    rw [Nat.add_comm]
    exact masked_snoc_high S x m (List.mem_range.mp hm)
theorem masked_sub (S : List Str) (m : Nat) : ∀ y ∈ masked S m, y ∈ S := fun y hy => by
  obtain ⟨k, _, e⟩ := List.mem_filterMap.mp hy
  exact List.mem_of_getElem? e
theorem indep_snoc (tb : Tb) (y : List Str) (x : Str) (hx : x ∉ y) : indep tb (y ++ [x]) = (indep tb y && apart tb x y) := by
  rw [Bool.eq_iff_iff, Bool.and_eq_true]
  unfold indep apart
  rw [List.all_eq_true, List.all_eq_true, Bool.not_eq_true', List.any_map, List.any_eq_false]
  have key : ∀ (l : List Str) (one : Str), decide (l.filter (fun two => decide (two ≠ one) && decide (one ∈ look tb two)) = []) = true ↔ ∀ two ∈ l, two ≠ one → one ∉ look tb two := fun l one => by
    rw [decide_eq_true_iff, List.filter_eq_nil_iff]
    simp
  simp only [key]
  constructor
  · intro h
    refine ⟨fun one h1 two h2 => h one (List.mem_append_left _ h1) two (List.mem_append_left _ h2), fun o ho => ?_⟩
    have n : o ≠ x := fun e => hx (e ▸ ho)
    have a := h x (List.mem_append_right _ (List.mem_singleton.mpr rfl)) o (List.mem_append_left _ ho) n
    have b := h o (List.mem_append_left _ ho) x (List.mem_append_right _ (List.mem_singleton.mpr rfl)) (Ne.symm n)
    simp [near, a, b]
  · rintro ⟨h1, h2⟩ one m1 two m2 ne
    rcases List.mem_append.mp m1 with a1 | a1 <;> rcases List.mem_append.mp m2 with a2 | a2
    · exact h1 one a1 two a2 ne
    · obtain rfl := List.mem_singleton.mp a2
      have := h2 one a1
      simp [near] at this
      exact this.1
    · obtain rfl := List.mem_singleton.mp a1
      have := h2 two a2
      simp [near] at this
      exact this.2
    · rw [List.mem_singleton.mp a1, List.mem_singleton.mp a2] at ne
      exact absurd rfl ne
theorem growK_snoc (tb : Tb) (S : List Str) (x : Str) : growK tb (S ++ [x]) = stepK tb (growK tb S) x := by unfold growK; rw [List.foldl_append]; rfl
/-- what is grown is what the masks give -/
theorem grow_all (tb : Tb) (S : List Str) (nd : S.Nodup) : growK tb S = (allM S).filter (indep tb) := by
  have rev : ∀ R : List Str, R.reverse.Nodup → growK tb R.reverse = (allM R.reverse).filter (indep tb) := fun R => by
    induction R with
    | nil => intro _; rfl
    | cons x R ih =>
      intro nd
      rw [List.reverse_cons] at nd ⊢
      have nd' := List.nodup_append.mp nd
      have hx : x ∉ R.reverse := fun h => nd'.2.2 x h x (List.mem_singleton.mpr rfl) rfl
      rw [growK_snoc, ih nd'.1, allM_snoc, List.filter_append]
      unfold stepK
      congr 1
      rw [List.filter_map, List.filter_filter]
      congr 1
      apply List.filter_congr
      intro p hp
      obtain ⟨m, _, rfl⟩ := List.mem_map.mp hp
      show (apart tb x (masked R.reverse m) && indep tb (masked R.reverse m)) = indep tb (masked R.reverse m ++ [x])
      rw [indep_snoc tb _ x fun h => hx (masked_sub _ _ _ h), Bool.and_comm]
  have := rev S.reverse (by rw [List.reverse_reverse]; exact nd)
  rwa [List.reverse_reverse] at this
theorem masked_zero (S : List Str) : masked S 0 = [] := by
  unfold masked
  rw [show (List.range S.length).filter (fun k => decide (0 / 2 ^ k % 2 = 1)) = [] from List.filter_eq_nil_iff.mpr fun k _ => by simp]
  rfl
/-- without the first, which is empty -/
theorem grow_tail (tb : Tb) (S : List Str) (nd : S.Nodup) : growK tb S = [] :: ((List.range (2 ^ S.length - 1)).map fun m => masked S (m + 1)).filter (indep tb) := by
  rw [grow_all tb S nd]
  unfold allM
  have : 2 ^ S.length = (2 ^ S.length - 1) + 1 := (Nat.sub_add_cancel (Nat.pow_pos (by decide))).symm
  rw [this, List.range_succ_eq_map, List.map_cons, List.map_map, masked_zero, List.filter_cons, if_pos (by rfl)]
  rfl
theorem masked_ne (S : List Str) (m : Nat) (h0 : 0 < m) (h : m < 2 ^ S.length) : masked S m ≠ [] := by
  have rev : ∀ (R : List Str) (m : Nat), 0 < m → m < 2 ^ R.reverse.length → masked R.reverse m ≠ [] := fun R => by
    induction R with
    | nil => intro m h0 h; simp at h; omega
    | cons x R ih =>
      intro m h0 h
      rw [List.reverse_cons] at h ⊢
      rw [List.length_append, List.length_singleton, Nat.pow_succ] at h
      by_cases hm : m < 2 ^ R.reverse.length
      · rw [masked_snoc_low _ _ _ hm]
        exact ih m h0 hm
      · have e : m = (m - 2 ^ R.reverse.length) + 2 ^ R.reverse.length := by omega
        rw [e, masked_snoc_high _ _ _ (by omega)]
        simp
  have := rev S.reverse m h0 (by rwa [List.reverse_reverse])
  rwa [List.reverse_reverse] at this
end K2
end
section
set_option Elab.async false
set_option maxRecDepth 100000
set_option linter.all false
set_option maxHeartbeats 2000000
/-! ### a caught error that is kept -/
namespace L2
open PySem PySem.Spec PyProof.Rows
/-- an exception of the class cls, caught and kept, its dict at d -/
def ExT (cls : Value) (d : Option Addr) (a : Addr) : HO := .ext fun h => ∃ (oe : Obj) (vs : Array Value), h.get? a = some oe ∧ Zc cls d oe ∧ oe.data = .fields vs
theorem exT_ok {P : Program} {w : World} {H : Hp} {h : Heap} {a : Addr} {cls : Value} {d : Option Addr} {oe : Obj} {vs : Array Value} (e : h.get? a = some oe) (z : Zc cls d oe) (hd : oe.data = .fields vs) : ObjOk P w H h a (ExT cls d a) :=
  ⟨⟨oe, vs, e, z, hd⟩, ⟨_, e⟩, fun h1 h2 q k => by
    obtain ⟨oe, vs, e, z⟩ := q
    exact ⟨oe, vs, k _ e, z⟩⟩
theorem exT_at {P : Program} {w : World} {H : Hp} {h : Heap} {a : Addr} {cls : Value} {d : Option Addr} (hok : HOk P w H h) (he : H a = some (ExT cls d a)) : ∃ (oe : Obj) (vs : Array Value), h.get? a = some oe ∧ Zc cls d oe ∧ oe.data = .fields vs := by
  have x : ObjOk P w H h a (.ext fun h => ∃ (oe : Obj) (vs : Array Value), h.get? a = some oe ∧ Zc cls d oe ∧ oe.data = .fields vs) := hok a _ he
  exact x.1
section
variable {X : Cx} {pins : List (Addr × Obj)} {σ : St} {H : Hp} {s s' sI : Shared} {B : Heap} {a : Addr} {o : HO}
theorem Inv.landedT (I : Inv X pins σ H sI) (nb : ∀ b o, sI.heap.get? b = some o → b ∉ frs X.stack → B.get? b = some o) (st : B.StaysIn s'.heap) (up : sI.heap.UpToSlots s'.heap) (os : s'.os = sI.os) (ag : AllBare s'.gens)
    (na : H a = none) (ha : sI.heap.get? a = none) (new : ObjOk X.prog X.w (upd H a o) s'.heap a o) : Inv X pins σ (upd H a o) s' := by
  have nf : ∀ b ∈ frs X.stack, ∀ o, sI.heap.get? b = some o → ∃ sl, s'.heap.get? b = some { o with slots := sl } := fun b hb o e => by
    obtain ⟨_, o', e', hd⟩ := I.stack.mem hb
    rw [e] at e'; cases e'
    exact up b o e hd
  have ne : ∀ b u, sI.heap.get? b = some u → b ≠ a := fun b u e z => by
    rw [z, ha] at e
    cases e
  have hk : HOk X.prog X.w H s'.heap := (I.inGround nb).kept st
  have J := I.call (ch := []) (h' := s'.heap) (g' := s'.gens) (t' := s'.toks) (d' := s'.drawn) (H' := upd H a o)
    ⟨fun b o e _ hb _ => st b o (nb b o e hb), fun b o e _ hb _ => nf b hb o e, fun b u e n _ => by rw [upd_ne (ne b u e)]; exact n, fun b o e _ => by
      by_cases hb : b ∈ frs X.stack
      · obtain ⟨sl, q⟩ := nf b hb o e
        exact ⟨_, q⟩
      · exact ⟨o, st b o (nb b o e hb)⟩, fun b _ e => by rw [upd_ne (ne_of_none e na)]; exact e, fun b _ _ e => by rw [upd_ne (ne_of_none e na)]; exact e, fun b ps e => ⟨#[], by rw [upd_ne (ne_of_none e na), e]; simp⟩⟩
    (hk.laidN (fun _ _ e => e) na new) ag (fun _ z => nomatch z)
  obtain ⟨a1, a2, a3, a4, a5⟩ := s'
  have e5 : a5 = sI.os := os
  subst e5
  exact J
theorem Inv.suiteT (I : Inv X pins σ H s) (a : Addr) : Inv (X.suite a (X.pn ++ pins)) [] σ H s :=
  ⟨I.ok.suite _ _, I.os, I.bare, I.base, I.loc, I.cell, I.free, I.freeC, fun p hp => I.pin p (by rw [List.append_nil] at hp; exact hp), I.hok, I.len⟩
theorem Inv.unsuiteT {pn' : List (Addr × Obj)} (I : Inv (X.suite a (X.pn ++ pins)) pn' σ H s) (ok : X.Ok) : Inv X pins σ H s :=
  ⟨ok, I.os, I.bare, I.base, I.loc, I.cell, I.free, I.freeC, fun p hp => I.pin p (List.mem_append_left _ hp), I.hok, I.len⟩
end
/-- what the clause 'except x as n' wishes of an exception that is kept -/
def wAsT (K : PySem.W.Frag) (c : Value) (n i : Nat) (ts : Addr → Value → Option Addr → TS) (Wout : WX) (D : Ends) : WX := fun cls d σ H => σ.length = n →
  ∃ b, PySem.W.exmOne K cls c = some b ∧ (b = true → ∀ a, H a = none → ts a cls d { nx := fun σ' H' => D.nx (σ'.set i none) H', rt := D.rt, bk := fun σ' H' => D.bk (σ'.set i none) H', ct := fun σ' H' => D.ct (σ'.set i none) H' } (σ.set i (some (.ref a))) (upd H a (ExT cls d a))) ∧
    (b = false → Wout cls d σ H)
section
variable {X : Cx} {x n : Str} {c : Value} {i : Nat} {body suite : List Stmt} {b₀ : Stmt} {np pos pos' : Pos} {tb : WX → TS} {ts : Addr → Value → Option Addr → TS} {Wout : WX}
theorem ps_try_asT (hs : X.stack = X.env :: X.outer) (hf : X.env.frame = some X.env.locals) (hN : X.N.Nodup) (hi : X.N[i]? = some n) (hln : X.env.kindOf n = some .local) (hc : Names X x c) (tk : Takes X Wout)
    (hb : ∀ (W : WX) (pn : List (Addr × Obj)) (xe : Value → Shared → Prop), Takes (X.tr pn xe) W → PassesOwn (model X.prog X.w) X.A X.env xe → PSs (X.tr pn xe) body (tb W))
    (hsu : ∀ (a : Addr) (cls : Value) (d : Option Addr) (pn : List (Addr × Obj)), PSs (X.suite a pn) (b₀ :: suite) (ts a cls d)) :
    PS X (.Try body [.ExceptHandler (some (.Name x np)) (some n) (b₀ :: suite) pos'] [] [] pos) (fun D σ H => tb (wAsT X.K c X.N.length i ts Wout D) D σ H) := by
  refine ⟨fun pins s σ H D I h => ?_⟩
  have ok := I.ok
  have hfr : X.A.frames = some (X.env :: X.outer) := by rw [ok.frames, hs]
  have hloc : Loc X.env.scope n := .inl hln
  refine wpAny_Try_except ?_
  refine wpAny_mono ((hb (wAsT X.K c X.N.length i ts Wout D) (X.pn ++ pins) (fun e s₁ => wpAny (model X.prog X.w) X.A (noteFrame e X.env) (fun _ s₂ => wpAny (model X.prog X.w) X.A (setFlight e none) (fun _ s₃ =>
    wpAny (model X.prog X.w) X.A (handleBy e X.env [.ExceptHandler (some (.Name x np)) (some n) (b₀ :: suite) pos']) (SP X pins D) X.xe s₃) X.xe s₂) X.xe s₁) (fun u s' xx => ?_) PassesOwn.looking).run [] s σ H D (I.toTry _) h) (fun f s1 hsp => ?_) (fun e s1 he => he)
  · -- the catch
    obtain ⟨a, B, sI, pins', σ', H', cls, d, rfl, J', nb, up, sky, na, os, ag, hwish⟩ := xx
    have J : Inv X pins σ' H' sI := J'.ofTry ok
    obtain ⟨b, hb1, hyes, hno⟩ := hwish J.len
    have sky' : Sky B (X.env :: X.outer) a (Zc cls d) X.env.locals s'.heap := by rw [← hs]; exact sky
    show wpAny (model X.prog X.w) X.A (noteFrame (.ref a) X.env) _ _ _
    refine Sky.land Zc.steady hfr hf sky' fun h3 fl3 up3 => ?_
    have J3 : Inv X pins σ' H' { s' with heap := h3 } := J.landed nb fl3.1 (up.trans up3) os ag
    obtain ⟨oe3, vs3, he3, hz3, hd3⟩ := fl3.there
    have notFr : ∀ {h : Heap} {o : Obj} {vs : Array Value}, h.FunFrames B (X.env :: X.outer) → h.get? a = some o → o.data = .fields vs → a ∉ frs (X.env :: X.outer) := fun {h o vs} ff e dd hm => by
      obtain ⟨_, o', e', hnf⟩ := ff.mem hm
      rw [e] at e'; cases e'
      exact hnf _ dd
    have nfr := notFr fl3.2.2.1 he3 hd3
    have nL : a ≠ X.env.locals := fun z => nfr (List.mem_filterMap.mpr ⟨X.env, List.mem_cons_self, by rw [hf, z]⟩)
    have nF : a ∉ X.fs := fun hm => by
      obtain ⟨e, he, q⟩ := List.mem_filterMap.mp hm
      exact nfr (List.mem_filterMap.mpr ⟨e, List.mem_cons_of_mem _ he, q⟩)
    have S3 := J3.suite he3 hd3 na nL nF
    refine wpAny_handleBy_cons (codeAny_handlers_test ?_) (by intro q; cases q)
    have LT : PySem.W.Looks (model X.prog X.w) h3 (typeOf (.ref a)) cls := fun A Q E s k q => wpAny_typeOf_ref (k _ _ he3) (by rw [hz3.1]; exact q)
    have LM := PySem.W.exm_one (M := model X.prog X.w) (J3.kIn) LT hb1
    have test : ∀ {Q : Value → Shared → Prop} {E : Value → Shared → Prop}, Q c { s' with heap := h3 } → wpAny (model X.prog X.w) (X.A.mark (some (.ref a))) (eval (.Name x np) X.env) Q E { s' with heap := h3 } := fun {Q E} q => by
      obtain ⟨hg, hdbg, hm | ⟨hm, hv, hnn⟩⟩ := hc
      · exact ld_glob (X := X.suite a ((a, oe3) :: (X.pn ++ pins))) S3 hg hm q hdbg
      · exact ld_blt (X := X.suite a ((a, oe3) :: (X.pn ++ pins))) S3 hg hm hv q hnn hdbg
    refine test (LM.here ?_)
    cases b with
    | true =>
      refine codeAny_handlers_suite_as ?_
      refine HandSPX.lands_againZ fl3 fun h4 fl4 up4 => ?_
      obtain ⟨oe4, vs4, he4, hz4, hd4⟩ := fl4.there
      have hsa : sI.heap.get? a = none := by
        cases e : sI.heap.get? a with
        | none => rfl
        | some o =>
          have z := nb a o e (by rw [hs]; exact nfr)
          rw [fl4.2.1] at z
          cases z
      have J4 : Inv X pins σ' (upd H' a (ExT cls d a)) { s' with heap := h4 } := J.landedT nb fl4.1 ((up.trans up3).trans up4) os ag na hsa (exT_ok he4 hz4 hd4)
      have S4 := J4.suiteT a
      refine store_ok (X := X.suite a (X.pn ++ pins)) (v := .ref a) S4 hN hi hloc rfl (fun s5 S5 => ?_) (.inr hln)
      refine wpAny_mono ((hsu a cls d (X.pn ++ pins)).run [] s5 _ _ _ S5 (hyes rfl a na)) (fun f s6 hsp => ?_) (fun _ _ z => False.elim z)
      have end_ : ∀ {σ6 : St} {H6 : Hp} {Q : Shared → Prop}, Inv (X.suite a (X.pn ++ pins)) [] σ6 H6 s6 → (∀ s7, Inv X pins (σ6.set i none) H6 s7 → Q s7) →
          wpAny (model X.prog X.w) X.A (do bindName X.env n .none; unbindBehindTheSuite X.env n pos') (fun _ s7 => Q s7) X.xe s6 := fun {σ6 H6 Q} S6 hq => gone_ok (S6.unsuiteT ok) hN hi hln hq
      cases f with
      | next =>
        obtain ⟨σ6, H6, S6, q6⟩ := hsp
        exact end_ S6 fun s7 J7 => ⟨_, _, J7, q6⟩
      | brk =>
        obtain ⟨σ6, H6, S6, q6⟩ := hsp
        exact end_ S6 fun s7 J7 => ⟨_, _, J7, q6⟩
      | cont =>
        obtain ⟨σ6, H6, S6, q6⟩ := hsp
        exact end_ S6 fun s7 J7 => ⟨_, _, J7, q6⟩
      | ret u =>
        obtain ⟨v6, σ6, H6, S6, r6, q6⟩ := hsp
        exact end_ S6 fun s7 J7 => ⟨_, _, _, J7, r6, q6⟩
    | false =>
      show wpAny _ X.A (handleBy (.ref a) X.env []) _ _ _
      refine wpAny_handleBy_nil ?_
      obtain ⟨k1, k2, k3, oe, vs, T, oT, ts', he, hz, hd, h1, hr⟩ := id fl3
      unfold PySem.passOn
      refine wpAny_bind (wpAny_field he hd h1 ?_)
      rw [if_neg (show ¬ ((Value.ref T == Value.none) = true) from by simp)]
      have fin : wpAny (model X.prog X.w) X.A (setFlight (.ref a) X.env.frame) (fun _ s4 => wpAny (model X.prog X.w) X.A (throw (.ref a) : Sem Flow) (SP X pins D) X.xe s4) X.xe { s' with heap := h3 } := by
        rw [hf]
        refine HandSPX.setFlight_upZ fl3 fun h4 hh4 up4 => wpAny_throw (tk _ _ ?_)
        exact ⟨a, B, sI, pins, σ', H', cls, d, rfl, J, nb, (up.trans up3).trans up4, .inr (.inr (by rw [hs]; exact hh4)), na, os, ag, hno rfl⟩
      first
        | exact wpAny_bind (wpAny_pure (wpAny_bind fin))
        | exact wpAny_bind fin
  · cases f with
    | next =>
      obtain ⟨σ', H', J', q⟩ := hsp
      exact wpAny_execs_nil ⟨σ', H', J'.ofTry ok, q⟩
    | brk =>
      obtain ⟨σ', H', J', q⟩ := hsp
      exact ⟨σ', H', J'.ofTry ok, q⟩
    | cont =>
      obtain ⟨σ', H', J', q⟩ := hsp
      exact ⟨σ', H', J'.ofTry ok, q⟩
    | ret u =>
      obtain ⟨v, σ', H', J', r, q⟩ := hsp
      exact ⟨v, σ', H', J'.ofTry ok, r, q⟩
end
end L2
end
section
set_option Elab.async false
set_option maxRecDepth 100000
set_option linter.all false
set_option maxHeartbeats 4000000
namespace PySem.W
open PySem PySem.Spec PySem.Calls PyProof.Rows
section
variable {prog : Program} {w : World} {A : Around} {E : Value → Shared → Prop} {s : Shared} {K : Frag} {x D : Addr} {ox : Obj}
theorem findObj_dataT {C : Addr} {name : Str} {a g : Value} {od : Option Obj} (hc : (clsIn K C).isSome = true) (ha : findIn K (.ref C) name = some (some a)) (hg : specialIn K a "__get__" = some (some g)) (ht : takesIn K a = some true) : findObj K C od name = some (.bind g a) := by
  obtain ⟨cd, hc⟩ := Option.isSome_iff_exists.mp hc
  unfold findObj
  rw [hc, Option.bind_some, ha, Option.bind_some]
  simp [hg, ht]
theorem kin_classT {Q : Option Value → Shared → Prop} (hga : findIn K (.ref D) "__getattribute__" = some (some (.builtin "BaseException.__getattribute__"))) (hgt : findIn K (.ref D) "__getattr__" = some none) (hsub : subIn K (.ref D) (.type "BaseException") = some true)
    (hdct : hasDictIn K D = true) (ha : findIn K (.ref D) "__class__" = some (some (.builtin "object.__class__")))
    (hn : specialIn K (.builtin "object.__class__") "__get__" = some (some (.builtin "getset_descriptor.__get__"))) (htk : takesIn K (.builtin "object.__class__") = some true) (hm : mroIn K D (.type "object") = some true)
    {od : Option Obj} (X : K.In s.heap) (I : InstAt s.heap x ox D od) (h : Q (some (.ref D)) { s with toks := s.toks + 1 }) : wpAny (model prog w) A (getAttr? (.ref x) "__class__") Q E s := by
  have hf : findObj K D od "__class__" = some (.bind (.builtin "getset_descriptor.__get__") (.builtin "object.__class__")) := findObj_dataT (by obtain ⟨cd, hc, _⟩ := any_some hdct; rw [hc]; rfl) ha hn htk
  obtain ⟨hp, g, d, t, os⟩ := s
  have L0 := I.type (M := model prog w)
  have L1 := looks_findIn (M := model prog w) X hga
  have L2 := looks_findIn (M := model prog w) X hgt
  have L3 := looks_find (M := model prog w) X I hf
  have sub : Looks (model prog w) hp (isInstance (.ref x) (.type "BaseException")) true := L0.andThen (looks_subIn X hsub)
  have hx0 : (false && onTheHeap (Value.builtin "BaseException.__getattribute__")) = false := rfl
  have hx2 : (Value.builtin "BaseException.__getattribute__" == Value.builtin "object.__getattribute__") = false := by decide +kernel
  have hx1 : (onTheHeap (Value.ref D) && Value.builtin "BaseException.__getattribute__" == Value.builtin "object.__getattribute__") = false := by rw [hx2]; rfl
  unfold getAttr? getAttrBy? getAttrBy
  refine wpAny_bind (wpAny_mkText (wpAny_bind (wpAny_attempt (wpAny_holding (wpAny_bind (L0.at (wpAny_bind (L1.at ?_))))))))
  show wpAny _ _ (if (onTheHeap (Value.ref D) && Value.builtin "BaseException.__getattribute__" == Value.builtin "object.__getattribute__") = true then _ else _) _ _ _
  rw [hx1, if_neg Bool.false_ne_true]
  unfold getAttrByItsOwn hookBefore
  refine wpAny_bind ?_
  rw [if_pos (show onTheHeap (Value.ref D) = true from rfl)]
  refine L2.at ?_
  refine wpAny_bind (wpAny_attempt (wpAny_holding ?_))
  unfold callGetattribute
  rw [hx0, if_neg Bool.false_ne_true]
  unfold boundAndCalled
  rw [PySem.F.excAttr_ValueError.ga.bind (.ref x)]
  refine wpAny_bind (wpAny_pure ?_)
  show wpAny _ _ (call (.builtin "BaseException.__getattribute__") [.ref x, .str "__class__" t]) _ _ _
  refine wpAny_call (codeAny_call_builtin PySem.F.excAttr_ValueError.ga.plain PySem.F.entry_bexc_ga ?_)
  refine @check_slot (model prog w) _ _ ⟨hp, g, d, t + 1, os⟩ "BaseException.__getattribute__" "BaseException" "__getattribute__" (.ref x) [.str "__class__" t] [] _ (by decide +kernel) (by decide +kernel) sub (PySem.F.args_bexc_ga (.ref x) (.str "__class__" t)) ?_
  unfold Builtin.«object.__getattribute__»
  refine wpAny_bind (wpAny_of_eq (a := ((Value.ref x : Value), [Value.str "__class__" t])) (by first | rfl | (simp only [slotArgs]; rfl)) ?_)
  refine wpAny_bind (wpAny_pure (wpAny_bind (L0.at (wpAny_bind (L3.at ?_)))))
  show wpAny _ _ (holding [Value.builtin "object.__class__"] (call (.builtin "getset_descriptor.__get__") [.builtin "object.__class__", .ref x, .ref D]) >>= ret) _ _ _
  refine wpAny_bind (wpAny_holding (wpAny_call (class_get (s := ⟨hp, g, d, t + 1, os⟩) (ox := ox) (od := od) X I hm ?_)))
  refine wpAny_pure ?_
  show wpAny _ _ (handedOut (.ref D)) _ _ _
  rw [handedOut_of (v := .ref D) rfl]
  first
    | exact wpAny_pure (wpAny_pure h)
    | exact wpAny_pure h
    | exact wpAny_pure (wpAny_bind (wpAny_pure (wpAny_pure h)))
theorem kitx_excT (hga : findIn K (.ref D) "__getattribute__" = some (some (.builtin "BaseException.__getattribute__"))) (hgt : findIn K (.ref D) "__getattr__" = some none) (hsub : subIn K (.ref D) (.type "BaseException") = some true) (hdct : hasDictIn K D = true) (ha : findIn K (.ref D) "__class__" = some (some (.builtin "object.__class__")))
    (hn : specialIn K (.builtin "object.__class__") "__get__" = some (some (.builtin "getset_descriptor.__get__"))) (htk : takesIn K (.builtin "object.__class__") = some true) (hm : mroIn K D (.type "object") = some true) :
    KitX K (.ref x) (.ref D) (fun h => ∃ (ox : Obj) (od : Option Obj), InstAt h x ox D od) where
  ty := fun _ _ _ I => by
    obtain ⟨ox, od, I⟩ := I
    exact I.type
  it := fun _ _ X _ => by
    obtain ⟨cdD, hcD, _⟩ := any_some hdct
    unfold clsIn at hcD
    split at hcD
    · rename_i c' d' cd' sl' ho
      intro A' Q' E' s' k q
      unfold isType loadHead
      exact wpAny_bind (wpAny_loadPart (k _ _ (X _ _ ho)) (wpAny_pure q))
    · cases hcD
  ne := fun h tp dd its n sl X htp => by
    obtain ⟨cdD, hcD, _⟩ := any_some hdct
    refine Bool.eq_false_iff.mpr fun q => ?_
    have e : D = tp := Value.ref.inj (beq_iff_eq.mp q)
    subst e
    unfold clsIn at hcD
    split at hcD
    · rename_i c' d' cd' sl' ho
      have z := (X _ _ ho).symm.trans htp
      cases z
    · cases hcD
  ca := fun X I k => by
    obtain ⟨ox, od, I⟩ := I
    exact kin_classT hga hgt hsub hdct ha hn htk hm X I k
end
end PySem.W
namespace L2
open PySem PySem.Spec PyProof.Rows
section
variable {X : Cx} {pins : List (Addr × Obj)} {σ : St} {H : Hp} {s : Shared}
theorem exT_inst (I : Inv X pins σ H s) {a D : Addr} {d : Option Addr} {fs : List (Str × V)} (e : H a = some (ExT (.ref D) d a)) (hd : ∀ dd, d = some dd → H dd = some (.xd fs)) : ∃ (ox : Obj) (od : Option Obj), PySem.W.InstAt s.heap a ox D od := by
  obtain ⟨oe, vs, he, hz, hv⟩ := exT_at I.hok e
  cases d with
  | none => exact ⟨oe, none, he, hz.1, by unfold PySem.W.notCls; rw [hv] <;> rfl, by rw [hz.2]; trivial⟩
  | some dd =>
    have hx : ObjOk X.prog X.w H s.heap dd (.xd fs) := I.hok dd _ (hd dd rfl)
    obtain ⟨mA, hns, hr⟩ := hx
    obtain ⟨od, ho, hl⟩ := lookIn_ns hns
    exact ⟨oe, some od, he, hz.1, by unfold PySem.W.notCls; rw [hv] <;> rfl, by rw [hz.2]; exact ho⟩
/-- isinstance(e, c), e a kept error -/
def rIsT (K : PySem.W.Frag) : List V → Hp → VK → Prop := fun xs H Q => ∃ (a D dd : Addr) (fs : List (Str × V)) (c : V) (cv : Value) (b : Bool), xs = [.ref a, c] ∧ H a = some (ExT (.ref D) (some dd) a) ∧ H dd = some (.xd fs) ∧ ExcC K D ∧ (∀ u, RelV c u → u = cv) ∧ PySem.W.kitOne K (.ref D) cv = some b ∧ Q (.bl b) H
theorem call_isT {X : Cx} : CallR X (.builtin "isinstance") (rIsT X.K) := by
  intro pins s σ H xs us Q I r h
  obtain ⟨a, D, dd, fs, c, cv, b, rfl, e, ed, C, hcv, hb, q⟩ := h
  cases r with
  | cons rx rr =>
    cases rr with
    | cons rt rr =>
      cases rr
      cases rx
      have ec := hcv _ rt
      subst ec
      exact PySem.W.kia_one (PySem.W.kitx_excT C.hg C.hk C.hs C.hd C.ha C.hn C.ht C.hm) I.kIn (exT_inst I e (fun d' z => by cases z; exact ed)) hb (fun z => nomatch z) fun tk => ⟨.bl b, H, I.kept (t' := tk) fun _ _ z => z, rfl, q⟩
/-- isinstance(e, (c, ..)), e a kept error -/
def rIsTT (K : PySem.W.Frag) : List V → Hp → VK → Prop := fun xs H Q => ∃ (a D dd t : Addr) (fs : List (Str × V)) (cs : List Addr) (b : Bool), xs = [.ref a, .ref t] ∧ H a = some (ExT (.ref D) (some dd) a) ∧ H dd = some (.xd fs) ∧ ExcC K D ∧ H t = some (.tup (cs.map V.ref)) ∧ PySem.W.kitAny K (.ref D) (cs.map Value.ref) = some b ∧ Q (.bl b) H
theorem call_isTT {X : Cx} : CallR X (.builtin "isinstance") (rIsTT X.K) := by
  intro pins s σ H xs us Q I r h
  obtain ⟨a, D, dd, t, fs, cs, b, rfl, e, ed, C, ht, hb, q⟩ := h
  cases r with
  | cons rx rr =>
    cases rr with
    | cons rt rr =>
      cases rr
      cases rx
      cases rt
      obtain ⟨its, rv, ⟨ot, ho, hc, n, hd⟩, _⟩ := I.tuple (SqT.of (K := X.K) ht)
      have ei := K2.vals_refs rv
      subst ei
      obtain ⟨c0, d0, dt0, sl0⟩ := ot
      dsimp only at hc hd
      subst hc
      subst hd
      exact PySem.W.kia_tup (PySem.W.kitx_excT C.hg C.hk C.hs C.hd C.ha C.hn C.ht C.hm) I.kIn (exT_inst I e (fun d' z => by cases z; exact ed)) ho hb (fun z => nomatch z) fun tk => ⟨.bl b, H, I.kept (t' := tk) fun _ _ z => z, rfl, q⟩
/-- e.f, e a kept error -/
def tXt (K : PySem.W.Frag) (f : Str) (te : TE) : TE := fun σ H Q => te σ H fun x H1 => ∃ (a C dd : Addr) (fs : List (Str × V)) (v : V), x = .ref a ∧ H1 a = some (ExT (.ref C) (some dd) a) ∧ H1 dd = some (.xd fs) ∧ XfC K C ∧ PySem.W.findIn K (.ref C) f = some none ∧ fs.lookup f = some v ∧ Q v H1
theorem pe_xt {X : Cx} {e : Expr} {te : TE} {pos : Pos} {n : Str} (he : PE X e te) (hb : attributeBase e n X.env (eval e X.env) = eval e X.env := by rfl) :
    PE X (.Attribute e n pos) (tXt X.K n te) := by
  refine ⟨fun pins s σ H Q I h => ?_⟩
  refine attr_of hb (thn (he.run pins s σ H _ I h) fun u s1 hh => ?_)
  obtain ⟨x, H1, I1, rx, a, C, dd, fs, v, ex, e, ea, T, hno, l, q⟩ := hh
  subst ex
  obtain rfl : u = Value.ref a := rx
  obtain ⟨oe, vs, ha, hz, hd⟩ := exT_at I1.hok e
  have hx : ObjOk X.prog X.w H1 s1.heap dd (.xd fs) := I1.hok dd _ ea
  obtain ⟨mA, hns, hr⟩ := hx
  obtain ⟨od, ho, hl⟩ := lookIn_ns hns
  obtain ⟨u, hu, ru⟩ := RelO.some_of (v := v) (o := mA n) (by rw [← l]; exact hr n)
  have J : PySem.W.InstAt s1.heap a oe C (some od) := ⟨ha, hz.1, by unfold PySem.W.notCls; rw [hd] <;> rfl, by rw [hz.2]; exact ho⟩
  exact HandSPX.exc_get I1.kIn J T.ga T.gg T.exC (PySem.W.findObj_own T.hdC hno rfl (by rw [hl, hu])) (handed_of ru) ⟨v, H1, I1.tok _, ru, q⟩
end
end L2
end
section
set_option Elab.async false
set_option maxRecDepth 100000
set_option linter.all false
namespace K2
open PySem L2 LamX
abbrev nHeard : List Str := ["_law_ask", "_law_caught", "error", "_law_marks"]
theorem ps_dead {X : Cx} {st : Stmt} : PS X st (fun _ _ _ => False) := ⟨fun _ _ _ _ _ _ h => h.elim⟩
theorem pe_dead {X : Cx} {e : Expr} : PE X e (fun _ _ _ => False) := ⟨fun _ _ _ _ _ _ h => h.elim⟩
section
variable {X : Cx}
def rCntB (K : PySem.W.Frag) : V → List V → Hp → VK → Prop := fun x xs H Q => ∃ (p : Addr) (ys : List V) (y : V), x = .ref p ∧ xs = [y] ∧ SqL K H p ys ∧ flatV y = true ∧ ys.all flatV = true ∧ Q (.int (ys.countP fun z => eqV z y : Nat)) H
theorem countP_U {x : V} : ∀ {ys : List V} {us : List Value}, Vals ys us → ys.all flatV = true → us.countP (eqU x) = ys.countP fun z => eqV z x
  | _, _, .nil, _ => rfl
  | y :: ys, u :: us, .cons r t, f => by
    rw [List.all_cons, Bool.and_eq_true] at f
    rw [List.countP_cons, List.countP_cons, countP_U t f.2, eqU_of r f.1]
theorem mt_lcountB : MtR X "list.count" (rCntB X.K) := by
  intro pins s σ H x xs v us Q I rx rxs h
  obtain ⟨p, ys, y, rfl, rfl, hs, fy, fys, q⟩ := h
  cases rx
  obtain ⟨u, rfl, ry⟩ := rxs.one
  obtain ⟨its, rv, ⟨⟨cls, dd, data, sl⟩, n, ho, hc, hdn, hd⟩, hlen⟩ := I.list hs
  simp only at hc hd
  subst hc hd
  refine call_meets PySem.F.slot_list_count ⟨_, ho, rfl⟩ PySem.F.entry_list_count (PySem.F.args_list_count_2 _ _)
    (SeqAt.list_countAt p its.toArray n dd sl u (eqU y)) ⟨ho, fun u' hu' => mem_eqAt ry fy rv fys u' (by simpa using hu'), ?_⟩
  have ec : its.toArray.toList.countP (eqU y) = ys.countP fun z => eqV z y := countP_U rv fys
  refine ⟨.int (ys.countP fun z => eqV z y : Nat), H, I.tok _, ⟨s.toks, ?_⟩, q⟩
  show Value.int ((its.toArray.toList.countP (eqU y) : Nat) : Int) s.toks = _
  rw [ec]
end
abbrev errs : List Str := ["LeaveError", "NoClass", "NoFunction", "NoProgram", "NoName", "NoCase", "TooMany", "NoText", "NoAct", "NoRecord", "Barred", "Unlike", "NoRow"]
/-- D is the class TooMany -/
structure Many (K : PySem.W.Frag) (cl : Str → Addr) (D : Addr) : Prop where
  ex : PySem.W.exmOne K (.ref D) (.ref (cl "LeaveError")) = some true
  isC : ExcC K D
  xf : XfC K D
  fw : PySem.W.findIn K (.ref D) "what" = some none
  fm : PySem.W.findIn K (.ref D) "most" = some none
  k1 : PySem.W.kitOne K (.ref D) (.ref (cl "NoClass")) = some false
  k2 : PySem.W.kitOne K (.ref D) (.ref (cl "NoFunction")) = some false
  k3 : PySem.W.kitOne K (.ref D) (.ref (cl "NoProgram")) = some false
  k4 : PySem.W.kitOne K (.ref D) (.ref (cl "NoName")) = some false
  k5 : PySem.W.kitOne K (.ref D) (.ref (cl "NoCase")) = some false
  k6 : PySem.W.kitOne K (.ref D) (.ref (cl "TooMany")) = some true
  kt : PySem.W.kitAny K (.ref D) ([cl "NoText", cl "NoAct", cl "NoRecord", cl "Barred", cl "Unlike", cl "NoRow"].map Value.ref) = some false
  kv : PySem.W.kitOne K (.ref D) (.type "ValueError") = some true
def HM (K : PySem.W.Frag) (cl : Str → Addr) (Q : VK) : XK := fun cls d H' => ∃ (D dd : Addr) (fs : List (Str × V)) (v1 v2 : V), cls = .ref D ∧ d = some dd ∧ H' dd = some (.xd fs) ∧ Many K cl D ∧ fs.lookup ("what" : Str) = some v1 ∧ fs.lookup ("most" : Str) = some v2 ∧
  ∀ (t : Addr) (H'' : Hp), Same H' H'' → H'' t = some (.tup [.str "MANY", v1, v2]) → Q (.ref t) H''
def TTh (K : PySem.W.Frag) (cl : Str → Addr) : (XK → Hp → VK → Prop) → Hp → VK → Prop := fun tl H Q => tl (HM K cl Q) H fun v H' => [v].length ≤ sizeLine ∧ ∀ p, H' p = none → Q (.ref p) (upd H' p (.lst [v]))
end K2
end
section
set_option Elab.async false
set_option maxRecDepth 100000
set_option linter.all false
/-! _law_heard for an error of NoClass: ('CLASS', reason, place) -/
namespace K2
open PySem L2 LamX
/-- D is the class NoClass -/
structure OfClass (K : PySem.W.Frag) (cl : Str → Addr) (D : Addr) : Prop where
  ex : PySem.W.exmOne K (.ref D) (.ref (cl "LeaveError")) = some true
  isC : ExcC K D
  xf : XfC K D
  fw : PySem.W.findIn K (.ref D) "reason" = some none
  fm : PySem.W.findIn K (.ref D) "place" = some none
  k1 : PySem.W.kitOne K (.ref D) (.ref (cl "NoClass")) = some true
  k2 : PySem.W.kitOne K (.ref D) (.ref (cl "NoFunction")) = some false
  k3 : PySem.W.kitOne K (.ref D) (.ref (cl "NoProgram")) = some false
  k4 : PySem.W.kitOne K (.ref D) (.ref (cl "NoName")) = some false
  k5 : PySem.W.kitOne K (.ref D) (.ref (cl "NoCase")) = some false
  k6 : PySem.W.kitOne K (.ref D) (.ref (cl "TooMany")) = some false
  kt : PySem.W.kitAny K (.ref D) ([cl "NoText", cl "NoAct", cl "NoRecord", cl "Barred", cl "Unlike", cl "NoRow"].map Value.ref) = some false
  kv : PySem.W.kitOne K (.ref D) (.type "ValueError") = some true
def HMC (K : PySem.W.Frag) (cl : Str → Addr) (Q : VK) : XK := fun cls d H' => ∃ (D dd : Addr) (fs : List (Str × V)) (v1 v2 : V), cls = .ref D ∧ d = some dd ∧ H' dd = some (.xd fs) ∧ OfClass K cl D ∧ fs.lookup ("reason" : Str) = some v1 ∧ fs.lookup ("place" : Str) = some v2 ∧
  ∀ (t : Addr) (H'' : Hp), Same H' H'' → H'' t = some (.tup [.str "CLASS", v1, v2]) → Q (.ref t) H''
def TThC (K : PySem.W.Frag) (cl : Str → Addr) : (XK → Hp → VK → Prop) → Hp → VK → Prop := fun tl H Q => tl (HMC K cl Q) H fun v H' => [v].length ≤ sizeLine ∧ ∀ p, H' p = none → Q (.ref p) (upd H' p (.lst [v]))
end K2
end
section
set_option Elab.async false
set_option maxRecDepth 100000
set_option linter.all false
namespace K2
open PySem L2
/-! ### TooMany -/
abbrev sTMI : Stmt := inClass (top 6) 0
def spTMI (C : Addr) : Sp := fun vs H Q _ => ∃ (a : Addr) (v1 v2 : V), vs = [.ref a, v1, v2] ∧ H a = some (exo a C none) ∧
  ∀ (d : Addr) (H' : Hp), H d = none → d ≠ a → H' a = some (exo a C (some d)) → H' d = some (exd d [("most", v2), ("what", v1)]) → (∀ b o, H b = some o → b ≠ a → H' b = some o) → Q .non H'
structure TM (K : PySem.W.Frag) (mg : Str → Option Value) (C fI : Addr) : Prop where
  oex : OexC K C
  n1 : PySem.W.findIn K (.ref C) "what" = some none
  n2 : PySem.W.findIn K (.ref C) "most" = some none
  iC : PySem.W.findIn K (.ref C) "__init__" = some (some (.ref fI))
  tI : PySem.W.typeIn K (.ref fI) = some (.type "function")
  gC : mg "TooMany" = some (.ref C)
section
variable {P : Program} {w : World} {K : PySem.W.Frag} {mg : Str → Option Value} {base : Heap}
theorem scTMI : FnScope ["self", "what", "most"] ["self", "what", "most"] (defScope sTMI) := ⟨rfl, rfl, rfl, by decide +kernel, rfl, by decide +kernel, by decide +kernel⟩
theorem ok_tmi {f C : Addr} {fd : FuncData} (F : Fun K "__init__" "TooMany.__init__" sTMI f fd) (M : TM K mg C f) : FnOk P w K mg base CX0 1 f fd ["self", "what", "most"] (spTMI C) := by
  refine F.ok scTMI (fun vs H Q E h => ?_) (fun cdv A outer s H vs Q E hr h => ?_)
  · obtain ⟨a, v1, v2, rfl, _⟩ := h
    rfl
  · obtain ⟨a, v1, v2, rfl, ha, k⟩ := h
    refine ⟨_, pss_cons (ps_ost (pv 0) (pv 1)) (pss_one (ps_ost (pv 0) (pv 2))), ?_⟩
    refine ⟨_, rfl, _, rfl, a, C, rfl, M.oex, M.n1, .inl ⟨ha, fun d hd hne => ?_⟩⟩
    have e1 : (upd (upd H d (exd d [("what", v1)])) a (exo a C (some d))) d = some (exd d [("what", v1)]) := by rw [upd_ne hne, upd_same]
    refine ⟨_, rfl, _, rfl, a, C, rfl, M.oex, M.n2, .inr ⟨d, _, upd_same, e1, (by show 1 ≤ 900; decide), ?_⟩⟩
    refine k d _ hd hne (by rw [upd_ne (Ne.symm hne), upd_same]) upd_same fun b o hb n => ?_
    rw [upd_ne (ne_of_none hb hd), upd_ne n, upd_ne (ne_of_none hb hd)]
    exact hb
end
/-! ### lists of tuples of texts -/
def PAt (H : Hp) (as : List Addr) (ps : List (List Str)) : Prop := as.map H = ps.map fun xs => some (.tup (xs.map V.str))
theorem PAt.len {H : Hp} {as : List Addr} {ps : List (List Str)} (h : PAt H as ps) : as.length = ps.length := by
  have := congrArg List.length h
  rwa [List.length_map, List.length_map] at this
theorem PAt.get {H : Hp} {as : List Addr} {ps : List (List Str)} (h : PAt H as ps) {j : Nat} {b : Addr} (hb : as[j]? = some b) : ∃ xs, ps[j]? = some xs ∧ H b = some (.tup (xs.map V.str)) := by
  have e := congrArg (fun l => l[j]?) h
  simp only [List.getElem?_map] at e
  rw [hb] at e
  cases hp : ps[j]? with
  | none => rw [hp] at e; cases e
  | some xs =>
    rw [hp] at e
    exact ⟨xs, rfl, Option.some.inj e⟩
theorem PAt.mem {H : Hp} {as : List Addr} {ps : List (List Str)} (h : PAt H as ps) {b : Addr} (hb : b ∈ as) : ∃ xs ∈ ps, H b = some (.tup (xs.map V.str)) := by
  obtain ⟨j, hj⟩ := List.mem_iff_getElem?.mp hb
  obtain ⟨xs, h1, h2⟩ := h.get hj
  exact ⟨xs, List.mem_of_getElem? h1, h2⟩
theorem PAt.same {H H' : Hp} {as : List Addr} {ps : List (List Str)} (h : PAt H as ps) (s : ∀ b o, b ∈ as → H b = some o → H' b = some o) : PAt H' as ps := by
  unfold PAt
  rw [← h]
  apply List.map_congr_left
  intro b hb
  obtain ⟨xs, _, e⟩ := h.mem hb
  rw [e, s b _ hb e]
theorem PAt.app {H : Hp} {as bs : List Addr} {ps qs : List (List Str)} (h : PAt H as ps) (k : PAt H bs qs) : PAt H (as ++ bs) (ps ++ qs) := by
  unfold PAt
  rw [List.map_append, List.map_append, h, k]
theorem PAt.one {H : Hp} {b : Addr} {xs : List Str} (h : H b = some (.tup (xs.map V.str))) : PAt H [b] [xs] := by
  show [H b] = _
  rw [h]
  rfl
theorem PAt.strs {H : Hp} {as : List Addr} {ps : List (List Str)} (h : PAt H as ps) : as.map (strsAt H) = ps := by
  apply List.ext_getElem?
  intro j
  rw [List.getElem?_map]
  cases ha : as[j]? with
  | none =>
    have := h.len
    have h2 := List.getElem?_eq_none_iff.mp ha
    rw [List.getElem?_eq_none (by omega)]
    rfl
  | some b =>
    obtain ⟨xs, h1, h2⟩ := h.get ha
    rw [h1]
    show some (strsAt H b) = _
    rw [strsAt_of h2]
end K2
end
section
set_option Elab.async false
set_option maxRecDepth 100000
set_option linter.all false
namespace K2
open PySem L2
abbrev sKinds : Stmt := inClass (top 27) 9
abbrev nKinds : List Str := ["self", "parts", "name", "part"]
def spKinds (C CT : Addr) : Sp := fun vs H Q E => ∃ (p : Addr) (rs : List Row), vs = [.ref p] ∧ ClsW C H p rs ∧ (keys (ups rs)).Nodup ∧ (keys (ups rs)).length ≤ 40 ∧
  ((keys (ups rs)).length ≤ 6 → ∀ (r : Addr) (bs : List Addr) (S : List Str) (ys : List (List Str)) (H' : Hp), S.Perm (keys (ups rs)) → PyProof.Rows.sortedS S = true → H' r = some (.tup (bs.map V.ref)) → PAt H' bs ys → ys.Perm (growK (ups rs) S).tail → ys.Pairwise tle → Same H H' → Q (.ref r) H') ∧
  (6 < (keys (ups rs)).length → ∀ (d : Addr) (H' : Hp), Same H H' → H' d = some (.xd [("most", .int 6), ("what", .str "classes")]) → E (.ref CT) (some d) H')
theorem growK_take {tb : Tb} {S : List Str} {i : Nat} {n : Str} (h : S[i]? = some n) : growK tb (S.take (i + 1)) = stepK tb (growK tb (S.take i)) n := by
  rw [List.take_add_one, h]
  exact growK_snoc tb _ n
theorem growK_len {tb : Tb} : ∀ (S : List Str) (ps : List (List Str)), (S.foldl (stepK tb) ps).length ≤ ps.length * 2 ^ S.length
  | [], ps => by simp
  | n :: S, ps => by
    rw [List.foldl_cons]
    have h := growK_len (tb := tb) S (stepK tb ps n)
    have h2 : (stepK tb ps n).length ≤ ps.length * 2 := by
      unfold stepK
      rw [List.length_append, List.length_map]
      have := List.length_filter_le (fun p => apart tb n p) ps
      omega
    have h3 := Nat.mul_le_mul_right (2 ^ S.length) h2
    rw [List.length_cons, Nat.pow_succ, Nat.mul_comm (2 ^ S.length) 2, ← Nat.mul_assoc]
    omega
theorem growK_mem {tb : Tb} : ∀ (S : List Str) (ps : List (List Str)), ∀ x ∈ S.foldl (stepK tb) ps, ∃ y ∈ ps, ∃ z, x = y ++ z ∧ z.length ≤ S.length ∧ ∀ u ∈ z, u ∈ S
  | [], ps, x, h => ⟨x, h, [], by simp, by simp, by simp⟩
  | n :: S, ps, x, h => by
    rw [List.foldl_cons] at h
    obtain ⟨y, hy, z, rfl, hz, hm⟩ := growK_mem S (stepK tb ps n) x h
    unfold stepK at hy
    rcases List.mem_append.mp hy with hy | hy
    · exact ⟨y, hy, z, rfl, by rw [List.length_cons]; omega, fun u hu => List.mem_cons_of_mem _ (hm u hu)⟩
    · obtain ⟨y', h', rfl⟩ := List.mem_map.mp hy
      refine ⟨y', (List.mem_filter.mp h').1, n :: z, by simp, by simp; exact hz, fun u hu => ?_⟩
      rcases List.mem_cons.mp hu with rfl | hu
      · exact List.mem_cons_self
      · exact List.mem_cons_of_mem _ (hm u hu)
theorem growK_in {tb : Tb} {S : List Str} {x : List Str} (h : x ∈ growK tb S) : x.length ≤ S.length ∧ ∀ u ∈ x, u ∈ S := by
  obtain ⟨y, hy, z, rfl, hz, hm⟩ := growK_mem S [[]] x h
  rw [List.mem_singleton.mp hy, List.nil_append]
  exact ⟨hz, hm⟩
theorem growK_sz {tb : Tb} {S : List Str} (h : S.length ≤ 6) : (growK tb S).length ≤ 64 := by
  have := growK_len (tb := tb) S [[]]
  have h2 : 2 ^ S.length ≤ 2 ^ 6 := Nat.pow_le_pow_right (by decide) h
  unfold growK
  simp at this
  omega
theorem cutT (x : V) (xs : List V) : cutV (x :: xs) (some 1) none = xs := by
  unfold cutV
  rw [show (1 : Int) = ((1 : Nat) : Int) from rfl, HT.sIx_nat, HT.sIx_none]
  have : min 1 (x :: xs).length = 1 := by simp
  rw [this]
  show xs.take ((x :: xs).length - 1) = xs
  rw [List.take_of_length_le (by simp)]
theorem PAt.of {H : Hp} : ∀ {as : List Addr}, (∀ b ∈ as, ∃ xs : List Str, H b = some (.tup (xs.map V.str))) → PAt H as (as.map (strsAt H))
  | [], _ => rfl
  | a :: as, h => by
    obtain ⟨xs, e⟩ := h a List.mem_cons_self
    have ih := PAt.of (as := as) fun b hb => h b (List.mem_cons_of_mem _ hb)
    unfold PAt at ih ⊢
    rw [List.map_cons, List.map_cons, List.map_cons, ih, strsAt_of e, e]
section
variable {P : Program} {w : World} {K : PySem.W.Frag} {mg : Str → Option Value} {base : Heap}
theorem scKinds : FnScope nKinds ["self"] (defScope sKinds) := ⟨rfl, rfl, rfl, by decide +kernel, rfl, by decide +kernel, by decide +kernel⟩
theorem ok_kinds {f C CT fA fI : Addr} {t6 : Tok} {fd fdA fdI : FuncData} (F : Fun K "kinds" "Classes.kinds" sKinds f fd) (X : Txt K mg C) (T : Bi mg) (tSo : mg "sorted" = none) (g6 : mg "MOST_FOR_KINDS" = some (.int 6 t6))
    (mA : Meth K C "_is_apart" fA) (GA : FnOk P w K mg base CX0 3 fA fdA ["self", "name", "part"] (spIA C)) (bA : Binds K fdA ["self", "name", "part"] [])
    (M : TM K mg CT fI) (GI : FnOk P w K mg base CX0 1 fI fdI ["self", "what", "most"] (spTMI CT)) (bI : Binds K fdI ["self", "what", "most"] []) :
    FnOk P w K mg base (L2.CX P w) 4 f fd ["self"] (spKinds C CT) := by
  refine F.okX scKinds (fun vs H Q E h => ?_) (fun cdv A outer s H vs Q E hr h => ?_)
  · obtain ⟨p, rs, rfl, _⟩ := h
    rfl
  · obtain ⟨p, rs, rfl, cw, nd, h40, kQ, kE⟩ := h
    have hr3 : Room 3 _ := hr
    have hr2 : Room 2 _ := hr.mono (by decide)
    have hu := hu_of hr
    refine ⟨_, (pss_cons (ps_if (pt_cmpR op_gt (pe_callB call_len_seq (by rfl) T.len PySem.boot_len (pa_cons (pe_fld (pv 0) rfl) pa_nil)) (pe_glob (v := .int 6) rfl g6 ⟨_, rfl⟩) (nomark _))
        (pss_one (ps_raise rfl (takes_of rfl rfl rfl rfl) (pmk_oex M.oex M.iC M.tI GI hr2 bI .nil pass0 (by rfl) M.gC (pa_cons pe_str (pa_cons (pe_glob (v := .int 6) rfl g6 ⟨_, rfl⟩) pa_nil))))) pss_nil)
      (PSs.nox (pss_cons (ps_set (i := 1) scKinds.nd rfl (Or.inl rfl) (pe_lst (pa_cons (pe_tup pa_nil) pa_nil)))
      (pss_cons (ps_for PassesOwn.never rfl (pi_list (pe_callB cr_sortedST (by rfl) tSo (by decide +kernel) (pa_cons (pe_fld (pv 0) rfl) pa_nil))) (pg_name (i := 2) scKinds.nd rfl (Or.inr rfl))
        (pss_one (ps_set (i := 1) scKinds.nd rfl (Or.inl rfl) (pe_op op_cat (pv 1) (pe_lc (own := [("part", 3)]) (g := gName 3) rfl scKinds.nd (pi_list (pv 1)) (blkOk_by (N := nKinds) (sc := defScope sKinds) (by decide +kernel)) (fun _ _ _ _ _ => pg_name (i := 3) scKinds.nd rfl (Or.inl rfl))
          (fun _ _ _ _ _ => pts_one (pt_val (pe_meth (pv 0) X.cl mA GA hr3 bA .nil pass0 (pa_cons (pv 2) (pa_cons (pv 3) pa_nil))))) (fun _ _ _ _ _ => pe_op op_cat2 (pv 3) (pe_tup (pa_cons (pv 2) pa_nil))))))))
      (pss_one (ps_ret (pe_callTy call_tuple_of (by rfl) T.tuple (by decide +kernel) (pa_cons (pe_callB cr_sortedTS (by rfl) tSo (by decide +kernel) (pa_cons (pe_slice sl_list (pv 1) (po_some pe_int) po_none) pa_nil)) pa_nil)))))))), ?_⟩
    have cw0 := cw
    obtain ⟨dx, r, n, l, kvs, ts, h1, h2, h3, h4, h5, h6⟩ := cw
    refine ⟨_, rfl, p, C, dx, _, _, rfl, h1, X.cl, X.nN, flds_names _ _ _, n, _, rfl, .inr (SqT.of h4), ?_⟩
    refine ⟨_, _, rfl, rfl, _, rfl, ite2 (fun z => ?_) fun z => ?_⟩
    · have hlen : 6 < (keys (ups rs)).length := by
        have := of_decide_eq_true z
        rw [List.length_map] at this
        omega
      refine ⟨(by show 2 ≤ 1000; decide), fun a ha => ⟨a, _, _, rfl, upd_same, fun d H' hd hne e1 e2 k => ?_⟩⟩
      rw [upd_ne hne] at hd
      refine ⟨rfl, d, _, e1, e2, hd, kE hlen d _ (fun b o hb => ?_) upd_same⟩
      have n1 := ne_of_none hb hd
      have n2 := ne_of_none hb ha
      rw [upd_ne n1, del_ne n2]
      exact k b o (by rw [upd_ne n2]; exact hb) n2
    · have hlen : (keys (ups rs)).length ≤ 6 := by
        have : ¬ (6 : Int) < ((((keys (ups rs)).map V.str).length : Nat) : Int) := fun q => z (decide_eq_true q)
        rw [List.length_map] at this
        omega
      have kQ := kQ hlen
      refine ⟨Nat.zero_le _, fun e he => ⟨(by show 1 ≤ sizeLine; decide), fun l0 hl0 => ?_⟩⟩
      have s1 := (Same.refl H).put (o := .tup []) he
      have s2 := s1.put (o := .lst [.ref e]) (s1.free hl0)
      have pa0 : PAt (upd (upd H e (.tup [])) l0 (.lst [.ref e])) [e] [[]] := PAt.one (by rw [upd_ne (ne_of_none upd_same hl0), upd_same]; rfl)
      have el0 : (upd (upd H e (.tup [])) l0 (.lst [.ref e])) l0 = some (.lst ([e].map V.ref)) := upd_same
      generalize hH0 : upd (upd H e (.tup [])) l0 (.lst [.ref e]) = H0 at *
      refine ⟨_, rfl, p, C, dx, _, _, rfl, s2 _ _ h1, X.cl, X.nN, flds_names _ _ _, n, _, rfl, SqT.of (s2 _ _ h4), by omega, fun S q hS hso hq => ?_⟩
      have hSl : S.length ≤ 6 := by rw [hS.length_eq]; exact hlen
      have sq := s2.put (o := .lst (S.map V.str)) (s2.free hq)
      have eq0 : (upd H0 q (.lst (S.map V.str))) q = some (.lst (S.map V.str)) := upd_same
      have pa1 : PAt (upd H0 q (.lst (S.map V.str))) [e] [[]] := pa0.same fun b o _ hb => by rw [upd_ne (ne_of_none hb hq)]; exact hb
      have el1 : (upd H0 q (.lst (S.map V.str))) l0 = some (.lst ([e].map V.ref)) := by rw [upd_ne (ne_of_none el0 hq)]; exact el0
      clear hH0 pa0 el0
      generalize upd H0 q (.lst (S.map V.str)) = H1 at *
      refine ⟨q, rfl, ⟨_, SqL.of eq0⟩, ?_⟩
      refine for_list (K := K) (a := q) (xs := S.map V.str) (fun i σ Hc => ∃ (li : Addr) (as : List Addr) (v2 v3 : Option V), σ = [some (.ref p), some (.ref li), v2, v3] ∧ Hc li = some (.lst (as.map V.ref)) ∧ PAt Hc as (growK (ups rs) (S.take i)) ∧ Hc q = some (.lst (S.map V.str)) ∧ Same H Hc) ?_ ?_ ?_ ?_
      · exact ⟨l0, [e], _, _, rfl, el1, pa1, eq0, sq⟩
      · rintro i σ Hc _ ⟨li, as, v2, v3, rfl, g1, g2, g3, sm⟩
        exact SqL.of g3
      · rintro i x σ Hc hx ⟨li, as, v2, v3, rfl, g1, g2, g3, sm⟩
        rw [List.getElem?_map] at hx
        obtain ⟨nm, hnm, rfl⟩ : ∃ nm, S[i]? = some nm ∧ V.str nm = x := by
          cases hq2 : S[i]? with
          | none => rw [hq2] at hx; cases hx
          | some nm => rw [hq2] at hx; exact ⟨nm, rfl, Option.some.inj hx⟩
        have hnk : nm ∈ keys (ups rs) := hS.mem_iff.mp (List.mem_of_getElem? hnm)
        have gs : (growK (ups rs) (S.take i)).length ≤ 64 := growK_sz (by rw [List.length_take]; omega)
        rw [growK_take hnm]
        have gin : ∀ x ∈ growK (ups rs) (S.take i), x.length ≤ 6 ∧ ∀ u ∈ x, u ∈ keys (ups rs) := fun x hx => by
          obtain ⟨a, b⟩ := growK_in hx
          rw [List.length_take] at a
          exact ⟨by omega, fun u hu => hS.mem_iff.mp (List.mem_of_mem_take (b u hu))⟩
        generalize growK (ups rs) (S.take i) = G at *
        have hal := g2.len
        refine ⟨_, rfl, _, rfl, li, rfl, ⟨_, SqL.of g1⟩, fun D hD => ?_⟩
        refine lc_list (K := K) (a := li) (xs := as.map V.ref) (fun j Hd => ∃ bs : List Addr, Hd D = some (.lst (bs.map V.ref)) ∧ PAt Hd bs (((G.take j).filter fun p => apart (ups rs) nm p).map fun p => p ++ [nm]) ∧ Same Hc Hd) ?_ ?_ ?_ ?_
        · exact ⟨[], upd_same, rfl, (Same.refl Hc).put hD⟩
        · rintro j Hd _ ⟨bs, _, _, sd⟩
          exact SqL.of (sd li _ g1)
        · rintro j y Hd hy ⟨bs, b1, b2, sd⟩
          rw [List.getElem?_map] at hy
          obtain ⟨b, hb, rfl⟩ : ∃ b, as[j]? = some b ∧ V.ref b = y := by
            cases hq2 : as[j]? with
            | none => rw [hq2] at hy; cases hy
            | some b => rw [hq2] at hy; exact ⟨b, rfl, Option.some.inj hy⟩
          obtain ⟨xs, hxs, hbt⟩ := g2.get hb
          have hxm := gin xs (List.mem_of_getElem? hxs)
          have et : G.take (j + 1) = G.take j ++ [xs] := by rw [List.take_add_one, hxs]; rfl
          obtain ⟨dxp, fsp, hp1, hp2⟩ := (cw0.at.same (sm.trans sd)).ins
          have hp2 := hp2 "_is_apart" (by decide +kernel) (by decide +kernel) (by decide +kernel)
          refine ⟨rfl, _, rfl, p, dxp, fsp, rfl, hp1, hp2, _, rfl, _, rfl, p, b, nm, xs, ups rs, rfl, cw0.at.same (sm.trans sd), sd _ _ hbt, hnk, hxm.2, by omega, fun H2 s3 => ⟨_, rfl, ite2 (fun z => ?_) fun z => ?_⟩⟩
          · refine ⟨_, rfl, _, rfl, (by show 1 ≤ sizeLine; decide), fun t1 ht1 => ?_⟩
            have ht1' : H2 t1 = none := ht1
            have sx := (s3.put (o := .tup [.str nm]) (s3.free ht1'))
            refine ⟨b, t1, _, _, rfl, rfl, sx _ _ (sd _ _ hbt), upd_same, ?_, fun t2 H3 s4 ht2 => ?_⟩
            · rw [List.length_map]; show _ + 1 ≤ 16777216; omega
            have s5 : Same Hd H3 := sx.trans s4
            refine ⟨_, s5 _ _ b1, ?_, bs ++ [t2], ?_, ?_, ?_⟩
            · have := b2.len
              rw [List.length_map] at this
              have h2 := List.length_filter_le (fun p => apart (ups rs) nm p) (G.take j)
              rw [List.length_take] at h2
              rw [List.length_map]; show _ < 16777216; omega
            · rw [upd_same, List.map_append]; rfl
            · rw [et, List.filter_append, List.map_append, List.filter_cons, if_pos z]
              have nD : ∀ (b : Addr) (o : List V), H3 b = some (.tup o) → b ≠ D := fun b o hb => ne_of hb (s5 _ _ b1) (by intro z; cases z)
              refine PAt.app (b2.same fun b o hb hbo => ?_) (PAt.one ?_)
              · obtain ⟨ys, _, e⟩ := b2.mem hb
                have e2 := s5 _ _ e
                rw [upd_ne (nD _ _ e2)]
                exact s5 _ _ hbo
              · rw [upd_ne (nD _ _ ht2), ht2, List.map_append]
                rfl
            · exact (sd.trans s5).put hD
          · refine ⟨bs, s3 _ _ b1, ?_, sd.trans s3⟩
            rw [et, List.filter_append, List.filter_cons, if_neg z, List.filter_nil, List.append_nil]
            exact b2.same fun b o _ hb => s3 _ _ hb
        · rintro Hd ⟨bs, b1, b2, sd⟩
          rw [List.length_map, hal, List.take_length] at b2
          have hbl := b2.len
          rw [List.length_map] at hbl
          have hfl := List.length_filter_le (fun p => apart (ups rs) nm p) G
          refine ⟨li, D, _, _, rfl, rfl, sd _ _ g1, b1, ?_, fun l2 hl2 => ?_⟩
          · rw [List.length_map, List.length_map]; show _ ≤ 16777216; omega
          have sn : Same Hd (upd Hd l2 (.lst (as.map V.ref ++ bs.map V.ref))) := (Same.refl Hd).put hl2
          refine ⟨l2, as ++ bs, _, _, rfl, by rw [upd_same, List.map_append], ?_, sn _ _ (sd _ _ g3), (sm.trans sd).trans sn⟩
          exact PAt.app (g2.same fun b o _ hb => sn _ _ (sd _ _ hb)) (b2.same fun b o _ hb => sn _ _ hb)
      · rintro σ Hc ⟨li, as, v2, v3, rfl, g1, g2, g3, sm⟩
        rw [List.length_map, List.take_length] at g2
        have nS : S.Nodup := hS.nodup_iff.mpr nd
        have gt := grow_tail (ups rs) S nS
        have gz := growK_sz (tb := ups rs) hSl
        have gne : ∀ x ∈ (growK (ups rs) S).tail, x ≠ [] := fun x hx => by
          rw [gt, List.tail_cons] at hx
          obtain ⟨m, hm, rfl⟩ := List.mem_map.mp (List.mem_filter.mp hx).1
          have := List.mem_range.mp hm
          exact masked_ne S (m + 1) (by omega) (by omega)
        obtain ⟨a0, as', rfl⟩ : ∃ a0 as', as = a0 :: as' := by
          have := g2.len
          rw [gt] at this
          cases as with
          | nil => simp at this
          | cons a0 as' => exact ⟨a0, as', rfl⟩
        have gp : PAt Hc as' (growK (ups rs) S).tail := by
          rw [gt] at g2 ⊢
          exact List.tail_eq_of_cons_eq g2
        generalize hG : (growK (ups rs) S).tail = G at *
        refine ⟨_, rfl, 1, rfl, li, _, rfl, SqL.of g1, fun l3 hl3 => ?_⟩
        have ecut : cutV ((a0 :: as').map V.ref) (some 1) none = as'.map V.ref := cutT _ _
        rw [ecut]
        have s3 := sm.put (o := .lst (as'.map V.ref)) (sm.free hl3)
        have gp3 : PAt (upd Hc l3 (.lst (as'.map V.ref))) as' G := gp.same fun b o _ hb => by rw [upd_ne (ne_of_none hb hl3)]; exact hb
        have e3 : (upd Hc l3 (.lst (as'.map V.ref))) l3 = some (.lst (as'.map V.ref)) := upd_same
        generalize upd Hc l3 (.lst (as'.map V.ref)) = H3 at *
        refine ⟨l3, as', rfl, SqL.of e3, fun b hb => ?_, fun bs p2 hp hpw hp2 => ?_⟩
        · obtain ⟨xs, hx, e⟩ := gp3.mem hb
          exact ⟨xs, gne xs hx, e⟩
        · have s4 := s3.put (o := .lst (bs.map V.ref)) (s3.free hp2)
          refine ⟨p2, _, rfl, .inl ⟨SqL.of upd_same, fun rr hrr => ?_⟩⟩
          have s5 := s4.put (o := .tup (bs.map V.ref)) (s4.free hrr)
          refine kQ rr bs S (bs.map (strsAt H3)) _ hS hso upd_same ?_ ?_ hpw s5
          · have p3 : PAt H3 bs (bs.map (strsAt H3)) := PAt.of fun b hb => by
              obtain ⟨xs, _, e⟩ := gp3.mem (hp.mem_iff.mp hb)
              exact ⟨xs, e⟩
            refine p3.same fun b o _ hb => ?_
            have q1 : (upd H3 p2 (.lst (bs.map V.ref))) b = some o := by rw [upd_ne (ne_of_none hb hp2)]; exact hb
            rw [upd_ne (ne_of_none q1 hrr)]
            exact q1
          · have := hp.map (strsAt H3)
            rw [gp3.strs] at this
            rw [hG]
            exact this
end
end K2
end
section
set_option Elab.async false
set_option maxRecDepth 100000
set_option linter.all false
namespace K2
open PySem L2
theorem strs_dp (K : PySem.W.Frag) (H : Hp) : ∀ xs : List Str, DpAll K H (xs.map V.str) (xs.map PyData.str)
  | [] => .nil
  | x :: xs => .cons (.str x) (strs_dp K H xs)
def sOk (x : Str) : Bool := x.cps.all (· < 0x110000)
theorem strs_lay : ∀ xs : List Str, (∀ x ∈ xs, sOk x = true) → PyData.canLayAll0 (xs.map PyData.str) = true
  | [], _ => rfl
  | x :: xs, h => by
    show (sOk x && PyData.canLayAll0 (xs.map PyData.str)) = true
    rw [strs_lay xs fun y hy => h y (List.mem_cons_of_mem _ hy), h x List.mem_cons_self]
    rfl
theorem strs_depth : ∀ xs : List Str, PyData.depthAll (xs.map PyData.str) = 0
  | [] => rfl
  | x :: xs => by
    show max 0 (PyData.depthAll (xs.map PyData.str)) = 0
    rw [strs_depth xs]
    rfl
theorem strs_shaped (xs : List Str) (h : ∀ x ∈ xs, sOk x = true) : SeqAt.shaped (.list (xs.map PyData.str)) = true := by
  show (PyData.canLayAll0 (xs.map PyData.str) && decide (PyData.depthAll (xs.map PyData.str) + 1 ≤ 64)) = true
  rw [strs_lay xs h, strs_depth]
  rfl
theorem strs_eqv0 (xs : List Str) : PyData.eqv (.list (xs.map PyData.str)) (.list []) = decide (xs = []) := by
  cases xs with
  | nil => rfl
  | cons x xs => rfl
theorem rising_pw : ∀ (p : Str) (l : List Str), PyProof.Rows.risingS p l = true → (p :: l).Pairwise (fun a b => PySem.Spec.ltCps b.cps.toList a.cps.toList = false)
  | p, [], _ => List.pairwise_singleton _ _
  | p, x :: r, h => by
    have h2 := Bool.and_eq_true_iff.mp (show (!PySem.Spec.ltCps x.cps.toList p.cps.toList && PyProof.Rows.risingS x r) = true from h)
    have ih := rising_pw x r h2.2
    have h1 : PySem.Spec.ltCps x.cps.toList p.cps.toList = false := by simpa using h2.1
    refine List.pairwise_cons.mpr ⟨fun y hy => ?_, ih⟩
    rcases List.mem_cons.mp hy with rfl | hy
    · exact h1
    · have h3 := (List.pairwise_cons.mp ih).1 y hy
      rw [PyProof.Rows.ltCps_eq, decide_eq_false_iff_not] at h1 h3 ⊢
      exact List.le_trans (α := Nat) (l₁ := p.cps.toList) (l₂ := x.cps.toList) (l₃ := y.cps.toList) h1 h3
theorem sorted_pw : ∀ l : List Str, PyProof.Rows.sortedS l = true → l.Pairwise (fun a b => PySem.Spec.ltCps b.cps.toList a.cps.toList = false)
  | [], _ => .nil
  | x :: r, h => rising_pw x r h
theorem sorted_sub {l l' : List Str} (h : PyProof.Rows.sortedS l' = true) (s : l.Sublist l') : PyProof.Rows.sortedS l = true := PyProof.Rows.sortedS_of_pairwise l ((sorted_pw l' h).sublist s)
/-- ascending lists of the same unlike texts are one -/
theorem sorted_one : ∀ {l l' : List Str}, l.Nodup → l'.Nodup → PyProof.Rows.sortedS l = true → PyProof.Rows.sortedS l' = true → (∀ y, y ∈ l ↔ y ∈ l') → l = l' := by
  have anti : ∀ {a b : Str}, PySem.Spec.ltCps a.cps.toList b.cps.toList = false → PySem.Spec.ltCps b.cps.toList a.cps.toList = false → a = b := fun {a b} h1 h2 => by
    rw [PyProof.Rows.ltCps_eq, decide_eq_false_iff_not] at h1 h2
    have e : a.cps.toList = b.cps.toList := List.le_antisymm (α := Nat) h2 h1
    have e2 : a.cps = b.cps := Array.toList_inj.mp e
    cases a
    cases b
    cases e2
    rfl
  intro l
  induction l with
  | nil =>
    intro l' _ _ _ _ h
    cases l' with
    | nil => rfl
    | cons y r => exact absurd ((h y).mpr List.mem_cons_self) (by simp)
  | cons x l ih =>
    intro l' n1 n2 s1 s2 h
    cases l' with
    | nil => exact absurd ((h x).mp List.mem_cons_self) (by simp)
    | cons y r =>
      have p1 := List.pairwise_cons.mp (sorted_pw _ s1)
      have p2 := List.pairwise_cons.mp (sorted_pw _ s2)
      have e : x = y := by
        rcases List.mem_cons.mp ((h x).mp List.mem_cons_self) with q | q
        · exact q
        · rcases List.mem_cons.mp ((h y).mpr List.mem_cons_self) with q2 | q2
          · exact q2.symm
          · exact anti (p2.1 x q) (p1.1 y q2)
      subst e
      have m1 := List.nodup_cons.mp n1
      have m2 := List.nodup_cons.mp n2
      rw [ih m1.2 m2.2 (sorted_sub s1 (List.sublist_cons_self _ _)) (sorted_sub s2 (List.sublist_cons_self _ _)) fun z => ?_]
      constructor
      · intro hz
        rcases List.mem_cons.mp ((h z).mp (List.mem_cons_of_mem _ hz)) with q | q
        · exact absurd (q ▸ hz) m1.1
        · exact q
      · intro hz
        rcases List.mem_cons.mp ((h z).mpr (List.mem_cons_of_mem _ hz)) with q | q
        · exact absurd (q ▸ hz) m2.1
        · exact q
theorem Least.one {tb : Tb} {xs xs' ys ys' : List Str} (h : Least tb xs ys) (h' : Least tb xs' ys') (e : ∀ y, y ∈ xs ↔ y ∈ xs') : ys = ys' :=
  sorted_one h.nd h'.nd h.so h'.so fun y => by
    rw [h.me, h'.me, e y]
    exact and_congr_right fun _ => ⟨fun q z hz => q z ((e z).mpr hz), fun q z hz => q z ((e z).mp hz)⟩
def above (tb : Tb) (xs : List Str) (y : Str) : List Str := xs.filter fun z => decide (z ≠ y) && decide (y ∈ look tb z)
def lowB (tb : Tb) (xs : List Str) (y : Str) : Bool := decide (above tb xs y = [])
/-- a dict of the heap, locked or not -/
def DL (H : Hp) (d : Addr) (kvs : List (Key × V)) : Prop := H d = some (.dK kvs) ∨ ∃ od, H d = some (.frz od (.dK kvs))
theorem DL.same {H H' : Hp} {d : Addr} {kvs : List (Key × V)} (h : DL H d kvs) (s : Same H H') : DL H' d kvs := by
  rcases h with h | ⟨od, h⟩
  · exact .inl (s _ _ h)
  · exact .inr ⟨od, s _ _ h⟩
theorem DL.get {H : Hp} {d : Addr} {kvs : List (Key × V)} {x : Str} {v : V} (h : DL H d kvs) (e : valV kvs (Sum.inr x : Key) = some v) : DGet H d (.str x) (some v) := by
  rcases h with h | ⟨od, h⟩
  · exact dget_s h e
  · exact .inl ⟨kvs, Sum.inr x, .inr ⟨od, h⟩, rfl, e.symm⟩
end K2
end
section
set_option Elab.async false
set_option maxRecDepth 100000
set_option linter.all false
namespace K2
open PySem L2 PySem.Spec PyProof.Rows
def rReprD (K : PySem.W.Frag) : List V → Hp → VK → Prop := fun xs H Q => ∃ a d, xs = [V.ref a] ∧ Dp K H (.ref a) d ∧ d.showable = true ∧ d.hasDict = false ∧ d.depth ≤ 8 ∧ d.shown.length ≤ sizeLine ∧ Q (.str d.shown) H
section
variable {X : Cx}
theorem call_reprD (gu : X.A.guards = some []) (hu : X.A.units + 64 < cLine) : CallR X (.builtin "repr") (rReprD X.K) := by
  intro pins s σ H xs us Q I r h
  obtain ⟨a, d, rfl, hd, hs, hn, dp, hz, q⟩ := h
  obtain ⟨u, rfl, ru⟩ := r.one
  cases ru
  obtain ⟨as, rd⟩ := Dp.reads I d (V.ref a) (Value.ref a) hd rfl
  exact repr_of_reads' rd hs (fun z => by rw [hn] at z; cases z) gu (by omega) (fun b o e => e) (fun h' u tk hk => ⟨.str _, H, I.kept (t' := tk) hk, ⟨u, rfl⟩, q⟩) hz
end
/-- a tuple of texts -/
def tD (ys : List Str) : PyData := .tuple (ys.map PyData.str)
theorem strs_show : ∀ xs : List Str, PyData.showableAll (xs.map PyData.str) = true
  | [] => rfl
  | x :: xs => by
    show (true && PyData.showableAll (xs.map PyData.str)) = true
    rw [strs_show xs]
    rfl
theorem strs_nodict : ∀ xs : List Str, PyData.hasDictAll (xs.map PyData.str) = false
  | [] => rfl
  | x :: xs => by
    show (false || PyData.hasDictAll (xs.map PyData.str)) = false
    rw [strs_nodict xs]
    rfl
theorem strs_weight : ∀ xs : List Str, (∀ x ∈ xs, x.length ≤ 8) → PyData.weightAll (xs.map PyData.str) ≤ 9 * xs.length
  | [], _ => Nat.le_refl _
  | x :: xs, h => by
    have ih := strs_weight xs fun y hy => h y (List.mem_cons_of_mem _ hy)
    have hx : x.cps.size ≤ 8 := h x List.mem_cons_self
    show x.cps.size + 1 + PyData.weightAll (xs.map PyData.str) ≤ 9 * (xs.length + 1)
    omega
theorem tD_show (ys : List Str) : (tD ys).showable = true := strs_show ys
theorem tD_nodict (ys : List Str) : (tD ys).hasDict = false := strs_nodict ys
theorem tD_depth (ys : List Str) : (tD ys).depth = 1 := by
  show PyData.depthAll (ys.map PyData.str) + 1 = 1
  rw [strs_depth]
theorem tD_fits {ys : List Str} (ok : ∀ y ∈ ys, sOk y = true) (h8 : ∀ y ∈ ys, y.length ≤ 8) (hl : ys.length ≤ 40) : (tD ys).shown.length ≤ sizeLine := by
  refine PyData.shown_fits_of_layable0 (B := 13) (by decide) (by decide) ?_ (PyData.intsShortAll_strs 13 ys)
  have w := strs_weight ys h8
  have q : PyData.weight (tD ys) = PyData.weightAll (ys.map PyData.str) := rfl
  show (PyData.canLayAll0 (ys.map PyData.str) && decide (PyData.depth (tD ys) ≤ 64) && decide (PyData.weight (tD ys) ≤ 2 ^ 20)) = true
  rw [strs_lay ys ok, tD_depth, q]
  simp only [Bool.true_and, Bool.and_eq_true, decide_eq_true_eq]
  omega
/-! rows shown -/
def rowsD (rs : List Row) : PyData := .tuple (rs.map fun r => tD (r.1 :: r.2))
theorem rows_dp (K : PySem.W.Frag) {H : Hp} : ∀ (rs : List Row) (ts : List Addr), RowsAt H ts rs → DpAll K H (ts.map V.ref) (rs.map fun r => tD (r.1 :: r.2))
  | [], [], _ => .nil
  | [], _ :: _, h => absurd h.1 (by simp)
  | _ :: _, [], h => absurd h.1 (by simp)
  | r :: rs, t :: ts, h => .cons (.tup (SqT.of (h.2 0 t r rfl rfl)) (strs_dp K H (r.1 :: r.2))) (rows_dp K rs ts ⟨by have := h.1; simpa using this, fun i u q a b => h.2 (i + 1) u q a b⟩)
theorem rows_show : ∀ rs : List Row, PyData.showableAll (rs.map fun r => tD (r.1 :: r.2)) = true
  | [] => rfl
  | r :: rs => by
    show (PyData.showable (tD (r.1 :: r.2)) && PyData.showableAll (rs.map fun r => tD (r.1 :: r.2))) = true
    rw [tD_show, rows_show rs]
    rfl
theorem rows_nodict : ∀ rs : List Row, PyData.hasDictAll (rs.map fun r => tD (r.1 :: r.2)) = false
  | [] => rfl
  | r :: rs => by
    show (PyData.hasDict (tD (r.1 :: r.2)) || PyData.hasDictAll (rs.map fun r => tD (r.1 :: r.2))) = false
    rw [tD_nodict, rows_nodict rs]
    rfl
theorem rows_depth : ∀ rs : List Row, PyData.depthAll (rs.map fun r => tD (r.1 :: r.2)) ≤ 1
  | [] => Nat.zero_le _
  | r :: rs => by
    show max (PyData.depth (tD (r.1 :: r.2))) (PyData.depthAll (rs.map fun r => tD (r.1 :: r.2))) ≤ 1
    rw [tD_depth]
    exact Nat.max_le.mpr ⟨Nat.le_refl _, rows_depth rs⟩
structure RowFit (r : Row) : Prop where
  ok : ∀ y ∈ r.1 :: r.2, sOk y = true
  h8 : ∀ y ∈ r.1 :: r.2, y.length ≤ 8
  len : (r.1 :: r.2).length ≤ 40
theorem rows_lay : ∀ rs : List Row, (∀ r ∈ rs, RowFit r) → PyData.canLayAll0 (rs.map fun r => tD (r.1 :: r.2)) = true
  | [], _ => rfl
  | r :: rs, h => by
    have q : PyData.canLay0 (tD (r.1 :: r.2)) = true := strs_lay _ (h r List.mem_cons_self).ok
    show (PyData.canLay0 (tD (r.1 :: r.2)) && PyData.canLayAll0 (rs.map fun r => tD (r.1 :: r.2))) = true
    rw [q, rows_lay rs fun y hy => h y (List.mem_cons_of_mem _ hy)]
    rfl
theorem rows_short : ∀ rs : List Row, PyData.intsShortAll 13 (rs.map fun r => tD (r.1 :: r.2)) = true
  | [] => rfl
  | r :: rs => by
    have q : PyData.intsShort 13 (tD (r.1 :: r.2)) = true := PyData.intsShortAll_strs 13 (r.1 :: r.2)
    show (PyData.intsShort 13 (tD (r.1 :: r.2)) && PyData.intsShortAll 13 (rs.map fun r => tD (r.1 :: r.2))) = true
    rw [q, rows_short rs]
    rfl
theorem rows_weight : ∀ rs : List Row, (∀ r ∈ rs, RowFit r) → PyData.weightAll (rs.map fun r => tD (r.1 :: r.2)) ≤ 361 * rs.length
  | [], _ => Nat.le_refl _
  | r :: rs, h => by
    have R := h r List.mem_cons_self
    have w := strs_weight (r.1 :: r.2) R.h8
    have l := R.len
    have ih := rows_weight rs fun y hy => h y (List.mem_cons_of_mem _ hy)
    show PyData.weightAll ((r.1 :: r.2).map PyData.str) + 1 + PyData.weightAll (rs.map fun r => tD (r.1 :: r.2)) ≤ 361 * (rs.length + 1)
    omega
theorem rowsD_show (rs : List Row) : (rowsD rs).showable = true := rows_show rs
theorem rowsD_nodict (rs : List Row) : (rowsD rs).hasDict = false := rows_nodict rs
theorem rowsD_depth (rs : List Row) : (rowsD rs).depth ≤ 2 := by
  have := rows_depth rs
  show PyData.depthAll (rs.map fun r => tD (r.1 :: r.2)) + 1 ≤ 2
  omega
theorem rowsD_fits {rs : List Row} (h : ∀ r ∈ rs, RowFit r) (hl : rs.length ≤ 64) : (rowsD rs).shown.length ≤ sizeLine := by
  refine PyData.shown_fits_of_layable0 (B := 13) (by decide) (by decide) ?_ (rows_short rs)
  have w := rows_weight rs h
  have d := rowsD_depth rs
  have q : PyData.weight (rowsD rs) = PyData.weightAll (rs.map fun r => tD (r.1 :: r.2)) := rfl
  show (PyData.canLayAll0 (rs.map fun r => tD (r.1 :: r.2)) && decide (PyData.depth (rowsD rs) ≤ 64) && decide (PyData.weight (rowsD rs) ≤ 2 ^ 20)) = true
  rw [rows_lay rs h, q]
  simp only [Bool.true_and, Bool.and_eq_true, decide_eq_true_eq]
  omega
theorem vw_ok {x : Str} (h : VW x) : sOk x = true ∧ x.length ≤ 8 := by
  have l := h.le
  refine ⟨?_, l⟩
  have q := h.low
  unfold sOk
  rw [Array.all_eq_true]
  intro i hi
  have := q x.cps[i] (by
    show x.cps[i] ∈ x.cps.toList
    exact Array.getElem_mem_toList hi)
  simp only [decide_eq_true_eq]
  omega
theorem Good.fit {rs : List Row} (g : Good rs) (h30 : rs.length ≤ 30) : ∀ r ∈ rs, RowFit r := by
  intro r hr
  obtain ⟨i, hi⟩ := List.getElem?_of_mem hr
  have R := g i r hi
  have il : i < rs.length := (List.getElem?_eq_some_iff.mp hi).1
  have vw : ∀ y ∈ r.1 :: r.2, VW y := fun y hy => by
    rcases List.mem_cons.mp hy with rfl | hy
    · exact R.vw
    · exact g.vw_known i y (R.sub y hy)
  refine ⟨fun y hy => (vw_ok (vw y hy)).1, fun y hy => (vw_ok (vw y hy)).2, ?_⟩
  have := R.nd.length_le_of_subset R.sub
  rw [knownAt_len (Nat.le_of_lt il)] at this
  rw [List.length_cons]
  omega
theorem RowsAt.left {H : Hp} {ts1 ts2 : List Addr} {rs1 rs2 : List Row} (h : RowsAt H (ts1 ++ ts2) (rs1 ++ rs2)) (e : ts1.length = rs1.length) : RowsAt H ts1 rs1 := by
  refine ⟨e, fun i t r a b => ?_⟩
  have i1 := (List.getElem?_eq_some_iff.mp a).1
  have i2 := (List.getElem?_eq_some_iff.mp b).1
  exact h.2 i t r (by rw [List.getElem?_append_left i1]; exact a) (by rw [List.getElem?_append_left i2]; exact b)
theorem refs_ne_pen {ts : List Addr} {c : Addr} {a l : Int} : HO.lst (ts.map V.ref) ≠ penO c a l := by
  unfold penO
  intro e
  injection e with e
  match ts, e with
  | [], e => simp at e
  | [_], e => simp at e
  | _ :: _ :: _, e => simp at e
theorem Pen.refs_ne {H : Hp} {p c q : Addr} {ns : List Int} {n : Nat} {ts : List Addr} (h : Pen H p c ns n) (hq : H q = some (.lst (ts.map V.ref))) : q ≠ p := fun e => by
  obtain ⟨a, l, g, _⟩ := h.pen
  rw [e, g] at hq
  exact refs_ne_pen (Option.some.inj hq).symm
theorem tD_eqv (x : Str) : PyData.eqv (tD [x]) (tD [x]) = true := by
  show ((x == x) && true) = true
  simp
theorem tD_shaped (xs : List Str) (h : ∀ x ∈ xs, sOk x = true) : SeqAt.shaped (tD xs) = true := by
  show (PyData.canLayAll0 (xs.map PyData.str) && decide (PyData.depthAll (xs.map PyData.str) + 1 ≤ 64)) = true
  rw [strs_lay xs h, strs_depth]
  rfl
theorem Tab.mp {p : Addr} {f : List Str → HO} {H H' : Hp} {kvs : List (Key × V)} {t : Tb} (h : Tab f H kvs t) (k : Keep p H H') (n : ∀ us, H p ≠ some (f us)) : Tab f H' kvs t := h.mono fun a us e => k a _ e fun q => n us (q ▸ e)
theorem any_filter {α : Type} (p : α → Bool) : ∀ l : List α, (!decide (l.filter p = [])) = l.any p
  | [] => rfl
  | x :: l => by
    rw [List.filter_cons, List.any_cons]
    cases h : p x with
    | true => simp
    | false => simpa using any_filter p l
theorem op_neDK {X : Cx} {K' : PySem.W.Frag} (hK : X.K = K') (hu : X.A.units + 64 < cLine) : OpR X (compareOp .NotEq) (rNeD K') := by
  subst hK
  exact op_neD hu
theorem call_reprBl {X : Cx} : CallR X (.builtin "repr") (fun xs H Q => ∃ b, xs = [V.bl b] ∧ Q (.str (if b then "True" else "False")) H) := by
  intro pins s σ H xs us Q I r h
  obtain ⟨b, rfl, q⟩ := h
  obtain ⟨u, rfl, ru⟩ := r.one
  obtain rfl : u = Value.bool b := ru
  exact PySem.P.repr_of_bool ⟨.str _, H, I.tok _, ⟨_, rfl⟩, q⟩
theorem ClsW.kp {C p c b : Addr} {ns : List Int} {n : Nat} {H H' : Hp} {rs : List Row} (h : ClsW C H b rs) (k : Keep p H H') (P : Pen H p c ns n) : ClsW C H' b rs := by
  obtain ⟨a, l, g, _⟩ := P.pen
  obtain ⟨dx, r, m, d, kvs, ts, h1, h2, h3, h4, h5, h6⟩ := h
  have nt : ∀ (q : Addr) (xs : List V), H q = some (.tup xs) → q ≠ p := fun q xs e z => by
    rw [z, g] at e
    cases e
  refine ⟨dx, r, m, d, kvs, ts, k _ _ h1 fun e => ?_, k _ _ h2 fun e => ?_, h3.mono fun a us e => k a _ e fun q => ?_, k _ _ h4 (nt _ _ h4), k _ _ h5 (nt _ _ h5), h6.mono fun b r e => k b _ e (nt _ _ e)⟩
  · rw [e, g] at h1
    cases h1
  · rw [e, g] at h2
    cases h2
  · rw [q, g] at e
    unfold penO fD at e
    cases e
theorem pe_fldK {X : Cx} {K' : PySem.W.Frag} {e : Expr} {f : Str} {pos : Pos} {ta : TE} (hK : X.K = K') (he : PE X e ta) (hb : attributeBase e f X.env (eval e X.env) = eval e X.env) : PE X (.Attribute e f pos) (tFld K' ta f) := by
  subst hK
  exact pe_fld he hb
theorem ClsW.same {C p : Addr} {H H' : Hp} {rs : List Row} (h : ClsW C H p rs) (s : Same H H') : ClsW C H' p rs := by
  obtain ⟨dx, r, n, l, kvs, ts, h1, h2, h3, h4, h5, h6⟩ := h
  exact ⟨dx, r, n, l, kvs, ts, s _ _ h1, s _ _ h2, h3.mono fun a us e => s a _ e, s _ _ h4, s _ _ h5, h6.mono fun b r e => s b _ e⟩
theorem strs_eqv : ∀ xs ys : List Str, PyData.eqvAll (xs.map PyData.str) (ys.map PyData.str) = decide (xs = ys)
  | [], [] => rfl
  | [], _ :: _ => rfl
  | _ :: _, [] => rfl
  | x :: xs, y :: ys => by
    show ((x == y) && PyData.eqvAll (xs.map PyData.str) (ys.map PyData.str)) = decide (x :: xs = y :: ys)
    rw [strs_eqv xs ys, Bool.eq_iff_iff]
    simp
theorem rows_eqv : ∀ rs qs : List Row, PyData.eqvAll (rs.map fun r => tD (r.1 :: r.2)) (qs.map fun r => tD (r.1 :: r.2)) = decide (rs = qs)
  | [], [] => rfl
  | [], _ :: _ => rfl
  | _ :: _, [] => rfl
  | r :: rs, q :: qs => by
    show (PyData.eqvAll ((r.1 :: r.2).map PyData.str) ((q.1 :: q.2).map PyData.str) && PyData.eqvAll (rs.map fun r => tD (r.1 :: r.2)) (qs.map fun r => tD (r.1 :: r.2))) = decide (r :: rs = q :: qs)
    rw [strs_eqv, rows_eqv rs qs, Bool.eq_iff_iff]
    obtain ⟨a, as⟩ := r
    obtain ⟨b, bs⟩ := q
    simp
theorem rowsD_eqv (rs qs : List Row) : PyData.eqv (rowsD rs) (rowsD qs) = decide (rs = qs) := rows_eqv rs qs
theorem rowsD_shaped {rs : List Row} (h : ∀ r ∈ rs, RowFit r) : SeqAt.shaped (rowsD rs) = true := by
  have d := rowsD_depth rs
  show (PyData.canLayAll0 (rs.map fun r => tD (r.1 :: r.2)) && decide (PyData.depth (rowsD rs) ≤ 64)) = true
  rw [rows_lay rs h]
  simp only [Bool.true_and, decide_eq_true_eq]
  omega
end K2
end
section
set_option Elab.async false
set_option maxRecDepth 100000
set_option linter.all false
namespace K2
open PySem L2
abbrev sMeets : Stmt := inClass (top 27) 10
abbrev nMeets : List Str := ["self", "kind", "names", "one", "other"]
def meet (tb : Tb) (ks ns : List Str) : Bool := ((ks.map fun k => ns.map fun n => decide (n ∈ look tb k)).flatten).any id
def spMeets (C : Addr) (L : Bool) : Sp := fun vs H Q _ => ∃ (p kt nt : Addr) (ks ns : List Str) (tb : Tb), vs = [.ref p, .ref kt, .ref nt] ∧ ClsAt C H p tb ∧ H kt = some (.tup (ks.map V.str)) ∧ H nt = some (if L then .lst (ns.map V.str) else .tup (ns.map V.str)) ∧
  (∀ x ∈ ks, x ∈ keys tb) ∧ ks.length ≤ 40 ∧ ns.length ≤ 40 ∧ ∀ H', Same H H' → Q (.bl (meet tb ks ns)) H'
section
variable {P : Program} {w : World} {K : PySem.W.Frag} {mg : Str → Option Value} {base : Heap}
theorem any_it {J : It} {n : Nat} {G : Hp → Prop} {Y : Nat → Hp → V → Hp → Prop} (w : Walk J n G Y) {B : (Hp → Prop) → V → Hp → Prop} {H0 : Hp} {Qd : Hp → Prop} (Pv : Nat → Hp → Prop) (h0 : Pv 0 H0) (hG : ∀ i H, i ≤ n → Pv i H → G H)
    (hs : ∀ i x H H', i < n → Pv i H → Y i H x H' → B (Pv (i + 1)) x H') (hd : ∀ H, Pv n H → Qd H) :
    ∃ W : Nat → Nat → Hp → Prop, (∃ m, W 0 m H0) ∧ ∀ i m H, W i m H → (J.stop i H ∧ Qd H) ∨ (J.go i H ∧ ∃ Nx : Hp → Prop, (∀ H', Nx H' → ∃ m', m' < m ∧ W (i + 1) m' H') ∧ ∀ x H', J.yld i H x H' → B Nx x H') := by
  refine ⟨fun i m H => m = n - i ∧ i ≤ n ∧ Pv i H, ⟨n, rfl, Nat.zero_le _, h0⟩, ?_⟩
  rintro i m H ⟨rfl, hi, p⟩
  by_cases lt : i < n
  · exact .inr ⟨w.goes i H lt (hG i H hi p), Pv (i + 1), fun H' p' => ⟨n - (i + 1), by omega, rfl, lt, p'⟩, fun x H' y => hs i x H H' lt p (w.yields i H x H' lt (hG i H hi p) y)⟩
  · obtain rfl : i = n := by omega
    exact .inl ⟨w.stops H (hG _ H hi p), hd H p⟩
theorem scMeets : FnScope nMeets ["self", "kind", "names"] (defScope sMeets) := ⟨rfl, rfl, rfl, by decide +kernel, rfl, by decide +kernel, by decide +kernel⟩
theorem pi_listK {X : Cx} {K' : PySem.W.Frag} {tg l : Expr} {tl : TE} (hK : X.K = K') (hl : PE X l tl) : PI X tg l (iList K' tl) := by
  subst hK
  exact pi_list hl
theorem meets_flat (tb : Tb) (ns : List Str) (k : Str) (ks : List Str) : ((ks ++ [k]).map fun k => ns.map fun n => decide (n ∈ look tb k)).flatten = (ks.map fun k => ns.map fun n => decide (n ∈ look tb k)).flatten ++ ns.map fun n => decide (n ∈ look tb k) := by
  rw [List.map_append, List.flatten_append]
  simp
theorem flat_len (tb : Tb) (ns : List Str) : ∀ ks : List Str, ((ks.map fun k => ns.map fun n => decide (n ∈ look tb k)).flatten).length = ks.length * ns.length
  | [] => by simp
  | k :: ks => by
    rw [List.map_cons, List.flatten_cons, List.length_append, flat_len tb ns ks, List.length_map, List.length_cons, Nat.add_mul, Nat.one_mul]
    omega
theorem ok_meets {f C fW : Addr} {fd fdW : FuncData} (L : Bool) (F : Fun K "meets" "Classes.meets" sMeets f fd) (X : Txt K mg C) (T : Bi mg) (tAny : mg "any" = none)
    (mW : Meth K C "within" fW) (GW : FnOk P w K mg base CX0 1 fW fdW ["self", "one", "other"] (spWithin C)) (bW : Binds K fdW ["self", "one", "other"] []) : FnOk P w K mg base CX0 3 f fd ["self", "kind", "names"] (spMeets C L) := by
  refine F.ok scMeets (fun vs H Q E h => ?_) (fun cdv A outer s H vs Q E hr h => ?_)
  · obtain ⟨p, kt, nt, ks, ns, tb, rfl, _⟩ := h
    rfl
  · obtain ⟨p, kt, nt, ks, ns, tb, rfl, cl, hkt, hnt, hk, k4, n4, k⟩ := h
    have hr1 : Room 1 _ := hr.mono (by decide)
    have hu := hu_of hr
    obtain ⟨J, G, wi1, hG, W, hwi, hPI⟩ : ∃ (J : It) (G : Hp → Prop) (wi1 : TI), (∀ H', Same H H' → G H') ∧ Walk J ns.length G (YAt (ns.map V.str)) ∧ (∀ (σ : L2.St) (H' : Hp) (R : It → Hp → Prop), σ[2]? = some (some (V.ref nt)) → Same H H' → R J H' → wi1 σ H' R) ∧
        (∀ (tg1 : Expr) (X' : Cx), X'.K = K → ∀ e, PE X' e (tVar 2) → PI X' tg1 e wi1) := by
      cases L with
      | true =>
        refine ⟨Itl K nt, fun H' => SqL K H' nt (ns.map V.str), iList K (tVar 2), fun H' s => SqL.of (s nt _ hnt), ?_, fun σ H' R e s r => ⟨_, e, nt, rfl, ⟨_, SqL.of (s nt _ hnt)⟩, r⟩, fun tg1 X' hK e he => pi_listK hK he⟩
        have := walk_list (K := K) (a := nt) (xs := ns.map V.str)
        rwa [List.length_map] at this
      | false =>
        refine ⟨Itt K nt, fun H' => SqT K H' nt (ns.map V.str), iTup K (tVar 2), fun H' s => SqT.of (s nt _ hnt), ?_, fun σ H' R e s r => ⟨_, e, nt, rfl, ⟨_, SqT.of (s nt _ hnt)⟩, r⟩, fun tg1 X' hK e he => pi_tupK hK he⟩
        have := walk_tup (K := K) (a := nt) (xs := ns.map V.str)
        rwa [List.length_map] at this
    refine ⟨_, pss_one (ps_ret (pe_callB (cr_any rfl) (by rfl) tAny (by decide +kernel) (pa_cons
      (pe_lc2 (own := [("one", 3), ("other", 4)]) (vs1 := [4]) (g := gName 3) (g1 := gName 4) (tt := tYes) (tt1 := tYes) rfl scMeets.nd (pi_tup (pv 1)) (blkOk_by (N := nMeets) (sc := defScope sMeets) (by decide +kernel)) (by decide +kernel)
        (fun _ _ _ _ _ => pg_name (i := 3) scMeets.nd rfl (Or.inl rfl)) (fun _ _ _ _ _ => pts_nil) (fun _ _ _ _ _ => hPI _ _ rfl _ (pv 2)) (fun _ _ _ _ _ => pg_name (i := 4) scMeets.nd rfl (Or.inl rfl)) (fun _ _ _ _ _ => pts_nil)
        (fun _ _ _ _ _ => pe_meth (pv 0) X.cl mW GW hr1 bW .nil pass0 (pa_cons (pv 3) (pa_cons (pv 4) pa_nil)))) pa_nil))), ?_⟩
    refine ⟨_, rfl, kt, rfl, ⟨_, SqT.of hkt⟩, fun D hD => ?_⟩
    have hsz : ks.length * ns.length ≤ 1600 := Nat.mul_le_mul k4 n4
    refine any_it (walk_tup (K := K) (a := kt) (xs := ks.map V.str)) (fun i Hc => Hc D = some (.lst ((((ks.take i).map fun k => ns.map fun n => decide (n ∈ look tb k)).flatten).map V.bl)) ∧ Same H Hc) ?_ ?_ ?_ ?_
    · exact ⟨upd_same, (Same.refl H).put hD⟩
    · rintro i Hc _ ⟨_, sm⟩
      exact SqT.of (sm kt _ hkt)
    · rintro i y Hc _ hi ⟨h1, sm⟩ ⟨rfl, hy⟩
      rw [List.length_map] at hi
      have hki : ks[i]? = some ks[i] := List.getElem?_eq_getElem hi
      rw [List.getElem?_map, hki] at hy
      have hkk := hk ks[i] (List.getElem_mem hi)
      have et : ks.take (i + 1) = ks.take i ++ [ks[i]] := by rw [List.take_add_one, hki]; rfl
      generalize ks[i] = q at hki hy hkk et
      cases hy
      refine ⟨rfl, hwi _ _ _ rfl sm ?_⟩
      have fl0 := flat_len tb ns (ks.take i)
      have fl1 : (ks.take i).length * ns.length + ns.length ≤ 1640 := by
        have : (ks.take i).length * ns.length ≤ ks.length * ns.length := Nat.mul_le_mul_right _ (by rw [List.length_take]; omega)
        omega
      generalize hpre : ((ks.take i).map fun k => ns.map fun n => decide (n ∈ look tb k)).flatten = pre at h1 fl0
      refine any_it W (fun j Hd => Hd D = some (.lst ((pre ++ (ns.take j).map fun n => decide (n ∈ look tb q)).map V.bl)) ∧ Same H Hd) ?_ ?_ ?_ ?_
      · refine ⟨?_, sm⟩
        simpa using h1
      · rintro j Hd _ ⟨_, sd⟩
        exact hG Hd sd
      · rintro j y Hd _ hj ⟨g1, sd⟩ ⟨rfl, hy⟩
        have hnj : ns[j]? = some ns[j] := List.getElem?_eq_getElem hj
        rw [List.getElem?_map, hnj] at hy
        have en : ns.take (j + 1) = ns.take j ++ [ns[j]] := by rw [List.take_add_one, hnj]; rfl
        generalize ns[j] = z at hnj hy en
        cases hy
        obtain ⟨dx, fs, hp1, hp2⟩ := (cl.same sd).ins
        refine ⟨rfl, _, rfl, p, dx, fs, rfl, hp1, hp2 "within" (by decide +kernel) (by decide +kernel) (by decide +kernel), _, rfl, _, rfl, p, q, z, tb, rfl, cl.same sd, hkk, _, g1, ?_, ?_, sd.put hD⟩
        · rw [List.length_map, List.length_append, List.length_map, List.length_take]; show _ < 16777216; omega
        · rw [upd_same, en, List.map_append, List.map_append, List.map_append, List.map_append, List.append_assoc]
          rfl
      · rintro Hd ⟨g1, sd⟩
        rw [List.take_length] at g1
        refine ⟨?_, sd⟩
        rw [et, meets_flat, hpre]
        exact g1
    · rintro Hc ⟨h1, sm⟩
      rw [List.length_map, List.take_length] at h1
      exact ⟨D, _, rfl, SqL.of h1, k Hc sm⟩
end
end K2
end
section
set_option Elab.async false
set_option maxRecDepth 100000
set_option linter.all false
namespace K2
open PySem L2 PySem.Spec PyProof.Rows
section
variable {X : Cx} {CX : CXT} {k : Nat} {f C : Addr} {fd : FuncData} {ps : List Str} {sp : Sp} {E : XK}
/-- a def called somewhere below -/
theorem run_at {A : Around} {pins : List (Addr × Obj)} {σ : L2.St} {H : Hp} {s : Shared} {Q : VK} {us : List Value} {vs : List V} (F : FnOk X.prog X.w X.K X.mg X.base CX k f fd ps sp) (hb : Binds X.K fd ps []) (hx : Passes CX X E) (sb : Sub X k A) (I : Inv X pins σ H s) (rv : Vals vs us) (hsp : sp vs H Q E) :
    wpAny (model X.prog X.w) A (call (.ref f) us) (EP X pins σ Q) X.xe s := by
  have e0 : Env0 X.prog X.w X.K X.mg X.base A X.stack s H := by
    have e := I.env0
    exact ⟨by rw [sb.fr]; exact e.frames, e.mod, e.bs, e.bsz, e.funs, e.frf, e.hok, e.bare⟩
  have hl : us.length = ps.length := by rw [← rv.length]; exact F.len _ _ _ _ hsp
  have b2 := hb s us I.kIn (by simpa using hl)
  rw [List.append_nil] at b2
  refine wpAny_call (codeAny_mono (F.run A X.stack s H ⟨us, []⟩ us vs Q E sb.room e0 b2 rv hsp) fun r s' hq => ?_)
  cases r with
  | error e => exact hx pins σ H s e s' I hq
  | ok fl =>
    cases fl with
    | ret w => exact I.after hq
    | next => exact False.elim hq
    | brk => exact False.elim hq
    | cont => exact False.elim hq
/-- len(o) -/
theorem call_lenO (F : FnOk X.prog X.w X.K X.mg X.base CX k f fd ps sp) (hb : Binds X.K fd ps []) (hx : Passes CX X E) (hr : Room (k + 1) X.A) (hs : PySem.W.findIn X.K (.ref C) "__len__" = some (some (.ref f))) (hf : PySem.W.isFn X.K (.ref f) = true) :
    CallR X (.builtin "len") (fun xs H Q => ∃ a dx fs, xs = [.ref a] ∧ H a = some (.ins C dx fs) ∧ sp [.ref a] H (fun v H' => ∃ n : Nat, v = .int n ∧ n < 1000000 ∧ Q (.int n) H') E) := by
  intro pins s σ H xs us Q I r h
  obtain ⟨a, dx, fs, rfl, ha, hsp⟩ := h
  obtain ⟨u, rfl, ru⟩ := r.one
  cases ru
  obtain ⟨mA, J, _⟩ := ins_get I.hok ha
  obtain ⟨od, J, _⟩ := J.look
  obtain ⟨m, hF⟩ := I.fr
  refine PySem.W.len_K hF I.ok.mod.kin J hs hf (wpAny_mono (run_at (vs := [.ref a]) F hb hx (Sub.in1 ⟨hr, rfl⟩) I (.cons rfl .nil) hsp) (fun v s' q => ?_) fun _ _ x => x)
  obtain ⟨x, H', I', rx, n, rfl, hn, q⟩ := q
  obtain ⟨t, rfl⟩ := rx
  exact ⟨⟨by omega, by omega⟩, .int n, H', I'.tok _, ⟨_, rfl⟩, q⟩
/-- x in o -/
theorem op_inO (F : FnOk X.prog X.w X.K X.mg X.base CX k f fd ps sp) (hb : Binds X.K fd ps []) (hx : Passes CX X E) (hr : Room k X.A) (hs : PySem.W.findIn X.K (.ref C) "__contains__" = some (some (.ref f))) (hf : PySem.W.isFn X.K (.ref f) = true) :
    OpR X (compareOp .In) (fun x y H Q => ∃ a dx fs, y = .ref a ∧ H a = some (.ins C dx fs) ∧ sp [.ref a, x] H (fun v H' => ∃ b, v = .bl b ∧ Q (.bl b) H') E) := by
  intro pins s σ H x y v u Q I rx ry h
  obtain ⟨a, dx, fs, rfl, ha, hsp⟩ := h
  cases ry
  obtain ⟨mA, J, _⟩ := ins_get I.hok ha
  obtain ⟨od, J, _⟩ := J.look
  obtain ⟨m, hF⟩ := I.fr
  refine PySem.W.in_K hF I.ok.mod.kin J hs hf (wpAny_mono (run_at (vs := [.ref a, x]) F hb hx ⟨hr, rfl⟩ I (.cons rfl (.cons rx .nil)) hsp) (fun r s' q => ?_) fun _ _ x => x)
  obtain ⟨z, H', I', rz, b, rfl, q⟩ := q
  cases rz
  exact wpAny_truthy_bool ⟨.bl b, H', I', rfl, q⟩
/-- the right side's type, not above the class -/
def RightT (K : PySem.W.Frag) (C : Addr) (H : Hp) (y : V) : Prop := ∃ t, TyX K H y t ∧ PySem.W.notFirst K C t = true
/-- o == y -/
theorem op_eqO (F : FnOk X.prog X.w X.K X.mg X.base CX k f fd ps sp) (hb : Binds X.K fd ps []) (hx : Passes CX X E) (hr : Room k X.A) (hu : X.A.units < cLine) (hs : PySem.W.findIn X.K (.ref C) "__eq__" = some (some (.ref f))) (hf : PySem.W.isFn X.K (.ref f) = true) :
    OpR X (compareOp .Eq) (fun x y H Q => ∃ a dx fs, x = .ref a ∧ H a = some (.ins C dx fs) ∧ RightT X.K C H y ∧ sp [.ref a, y] H (fun v H' => ∃ b, v = .bl b ∧ Q (.bl b) H') E) := by
  intro pins s σ H x y v u Q I rx ry h
  obtain ⟨a, dx, fs, rfl, ha, ⟨t, ty, hn⟩, hsp⟩ := h
  cases rx
  obtain ⟨mA, J, _⟩ := ins_get I.hok ha
  obtain ⟨od, J, _⟩ := J.look
  obtain ⟨m, hF⟩ := I.fr
  obtain ⟨Pz, Z, p, _⟩ := kit_of I ry ty
  show wpAny (model X.prog X.w) X.A (richCompare .Eq (.ref a) u) (EP X pins σ Q) X.xe s
  have lk : PySem.W.Looks (model X.prog X.w) s.heap (typeOf u) t := Z.ty _ _ I.kIn p
  refine PySem.W.cmp_K (op := .Eq) hu hF I.ok.mod.kin J lk hn hs hf (wpAny_mono (run_at (vs := [.ref a, y]) F hb hx ⟨hr, rfl⟩ I (.cons rfl (.cons ry .nil)) hsp) (fun r s' q => ?_) fun _ _ x => x)
  obtain ⟨z, H', I', rz, b, rfl, q⟩ := q
  cases rz
  exact ⟨.bl b, H', I', rfl, q⟩
/-! o != y: by object's own, which asks the class's == -/
theorem bound_ne {M : Model} {A : Around} {Er : Value → Shared → Prop} {s : Shared} {K : PySem.W.Frag} {x C : Addr} {ox : Obj} {od : Option Obj} {args : List Value} {Q : Option Value → Shared → Prop} (Y : K.In s.heap) (J : PySem.W.InstAt s.heap x ox C od)
    (hs : PySem.W.findIn K (.ref C) "__ne__" = some (some (.builtin "object.__ne__"))) (h : wpAny M A (call (.builtin "object.__ne__") (.ref x :: args)) (fun v => Q (some v)) Er s) : wpAny M A (callSpecialIfBound? (.ref x) "__ne__" args) Q Er s := by
  simp only [callSpecialIfBound?, bindSpecialIfBound?]
  refine wpAny_holding (wpAny_bind (wpAny_bind (wpAny_bind (J.type.here ((PySem.W.looks_findIn Y hs).here ?_)))))
  refine wpAny_bind (wpAny_askSetting (wpAny_ite ?_))
  have go : wpAny M A (call (.builtin "object.__ne__") ([.ref x] ++ args) >>= fun v => pure (some v)) Q Er s := wpAny_bind (wpAny_mono h (fun v s' q => wpAny_pure q) fun _ _ q => q)
  split
  · exact wpAny_bind (wpAny_of_eq (F.cmp_object.ne.bind _) (wpAny_pure (by exact go)))
  · exact wpAny_tryCatch (wpAny_bind (wpAny_of_eq (F.cmp_object.ne.bind _) (wpAny_pure (by exact go))))
theorem entry_ne {prog : Program} {w : World} {A : Around} {Er : Value → Shared → Prop} {s : Shared} {K : PySem.W.Frag} {x C f : Addr} {y : Value} {ox : Obj} {od : Option Obj} {Q : Fin → Shared → Prop} (Y : K.In s.heap) (J : PySem.W.InstAt s.heap x ox C od) (hu : A.units < cLine)
    (hs : PySem.W.findIn K (.ref C) "__eq__" = some (some (.ref f))) (hf : PySem.W.isFn K (.ref f) = true)
    (h : wpAny (model prog w) A (call (.ref f) [.ref x, y]) (fun v s' => ∃ b, v = .bool b ∧ Q (.done (.ret (.bool (!b)))) s') Er s) : wpAny (model prog w) A (Builtin.«object.__ne__» ⟨[.ref x, y], []⟩) Q Er s := by
  unfold Builtin.«object.__ne__»
  repeat (first
    | with_reducible refine wpAny_cRoomFor hu ?_
    | (refine wpAny_bind (m := callSpecialIfBound? (.ref x) (Str.ofString "__eq__") [y]) (PySem.W.ifBound_K Y J hs hf (wpAny_mono h (fun r s' hr => by
          obtain ⟨b, rfl, hq⟩ := hr
          repeat (first | exact hq | exact wpAny_pure hq | exact wpAny_truthy_bool hq | (refine wpAny_bind (m := truthy (.bool _)) (wpAny_truthy_bool ?_)) | wp_step)) fun _ _ e => e)))
    | wp_step)
theorem try_ne {prog : Program} {w : World} {A : Around} {Er : Value → Shared → Prop} {s : Shared} {K : PySem.W.Frag} {x C f : Addr} {y : Value} {ox : Obj} {od : Option Obj} {Q : Option Value → Shared → Prop} (Y : K.In s.heap) (J : PySem.W.InstAt s.heap x ox C od) (hu : A.units + 1 < cLine)
    (hn : PySem.W.findIn K (.ref C) "__ne__" = some (some (.builtin "object.__ne__"))) (hm : PySem.W.mroIn K C (.type "object") = some true) (hs : PySem.W.findIn K (.ref C) "__eq__" = some (some (.ref f))) (hf : PySem.W.isFn K (.ref f) = true)
    (h : wpAny (model prog w) A.in1 (call (.ref f) [.ref x, y]) (fun v s' => ∃ b, v = .bool b ∧ Q (some (.bool (!b))) s') Er s) : wpAny (model prog w) A (tryCompare (.ref x) "__ne__" y) Q Er s := by
  unfold tryCompare
  refine wpAny_bind (bound_ne Y J hn (wpAny_call (codeAny_call_builtin F.cmp_object.ne.plain F.cmpEntry_ne (PySem.W.check_slot F.cmpKind_ne F.cmpSplit_ne (J.type.andThen (PySem.W.looks_mroIn Y hm)) (F.cmpArgs_ne _ _)
    (entry_ne (A := A.in1) Y J hu hs hf (wpAny_mono h (fun v s' hv => ?_) fun _ _ e => e))))))
  obtain ⟨b, rfl, hq⟩ := hv
  exact ⟨b, rfl, wpAny_pure hq⟩
theorem op_neO (F : FnOk X.prog X.w X.K X.mg X.base CX k f fd ps sp) (hb : Binds X.K fd ps []) (hx : Passes CX X E) (hr : Room (k + 1) X.A) (hu : X.A.units + 1 < cLine) (hs : PySem.W.findIn X.K (.ref C) "__eq__" = some (some (.ref f))) (hf : PySem.W.isFn X.K (.ref f) = true)
    (hn : PySem.W.findIn X.K (.ref C) "__ne__" = some (some (.builtin "object.__ne__"))) (hm : PySem.W.mroIn X.K C (.type "object") = some true) :
    OpR X (compareOp .NotEq) (fun x y H Q => ∃ a b dx fs dy gs, x = .ref a ∧ y = .ref b ∧ H a = some (.ins C dx fs) ∧ H b = some (.ins C dy gs) ∧ sp [.ref a, .ref b] H (fun v H' => ∃ c, v = .bl c ∧ Q (.bl (!c)) H') E) := by
  intro pins s σ H x y v u Q I rx ry h
  obtain ⟨a, b, dx, fs, dy, gs, rfl, rfl, ha, hb2, hsp⟩ := h
  cases rx
  cases ry
  obtain ⟨mA, J, _⟩ := ins_get I.hok ha
  obtain ⟨od, J, _⟩ := J.look
  obtain ⟨mB, J2, _⟩ := ins_get I.hok hb2
  obtain ⟨od2, J2, _⟩ := J2.look
  have call := run_at (us := [.ref a, .ref b]) (vs := [.ref a, .ref b]) F hb hx (Sub.in1 ⟨hr, rfl⟩) I (.cons rfl (.cons rfl .nil)) hsp
  show wpAny (model X.prog X.w) X.A (richCompare .NotEq (.ref a) (.ref b)) (EP X pins σ Q) X.xe s
  unfold richCompare
  simp only [oneThing_ref]
  refine wpAny_holding (wpAny_bind (wpAny_cRoomFor (Nat.lt_of_succ_lt hu) ?_))
  rw [cmpInfo_NotEq]
  dsimp only
  refine wpAny_bind (J.type.here (wpAny_bind (J2.type.here ?_)))
  rw [show (Value.ref C != Value.ref C) = false from by simp]
  simp only [Bool.false_eq_true, if_false]
  refine wpAny_bind (wpAny_pure ?_)
  simp only [Bool.false_eq_true, if_false]
  refine wpAny_bind (try_ne I.kIn J hu hn hm hs hf (wpAny_mono call (fun r s' q => ?_) fun _ _ x => x))
  obtain ⟨z, H', I', rz, c, rfl, q⟩ := q
  cases rz
  exact ⟨c, rfl, wpAny_pure ⟨.bl (!c), H', I', rfl, q⟩⟩
end
end K2
end
section
set_option Elab.async false
set_option maxRecDepth 100000
set_option linter.all false
namespace K2
open PySem L2 PySem.Spec PyProof.Rows
/-- the staticmethod m of the class at C is the def at g -/
structure SMet (K : PySem.W.Frag) (C : Addr) (mc : Value) (m : Str) (p g : Addr) : Prop where
  at_ : PySem.W.findCls K (.ref C) mc m = some (.get (.builtin "staticmethod.__get__") (.ref p) .none (.ref C))
  rc : ∃ rest, PySem.W.recIn K p "staticmethod" = some (.ref g :: rest)
  kp : PySem.W.keepIn K (.ref g) = true
section
variable {X : Cx} {CX : CXT} {k : Nat} {f g C p : Addr} {mc : Value} {fd : FuncData} {ps ks : List Str} {sp : Sp} {E : XK} {m x : Str} {o e : Expr} {q pos apos nap : Pos} {ta te tk : TE} {tks : TA} {kws : List Keyword}
/-- C.m(), m a staticmethod -/
theorem pe_smeth0 {pl : Sem Bool} (he : PE X o ta) (r : ClX.CRead X.K C mc) (c : SMet X.K C mc m p g) (F : FnOk X.prog X.w X.K X.mg X.base CX k g fd [] sp) (hb : Binds X.K fd [] []) (hr : Room k X.A) (hx : Passes CX X E)
    (ht : eval (.Call (.Attribute o m apos) [] [] pos) X.env = (do
      let ov ← eval o X.env
      standAt apos.atName
      let (f, first) ← holding [ov] (getMethod ov m pl)
      callWith pos f first (backTo pos (starEach [] X.env)) (backToKw pos (keywordEach [] X.env))) := by rfl) : PE X (.Call (.Attribute o m apos) [] [] pos) (fun σ H Q => ta σ H fun z H1 => z = .ref C ∧ sp [] H1 Q E) := by
  constructor
  intro pins s σ H Q I h
  refine PySem.W.methodCall_KW (pl := pl) (thn (he.run pins s σ H _ I h) fun u s1 ⟨z, H1, I1, rz, ez, hs⟩ => ?_) ht
  subst ez
  obtain rfl : u = Value.ref C := rz
  obtain ⟨rest, hp⟩ := c.rc
  refine PySem.W.method_cls I1.kIn r.ga (PySem.W.cls_bind I1.kIn r.rd c.at_ (wpAny_call (PySem.W.sm_get (s := { s1 with toks := s1.toks + 1 }) I1.kIn hp (PySem.W.handed_on rfl ?_))))
  have I2 := I1.tok (s1.toks + 1)
  exact PySem.W.callWith_K0 (first := []) I2.kIn c.kp (run_at (us := []) (vs := []) F hb hx ⟨hr, rfl⟩ I2 .nil hs)
/-- x(), x a class whose __init__ takes any number of things -/
theorem pe_makeR0 (M : Mk X.K C f) (F : FnR X.prog X.w X.K X.mg X.base CX k f sp) (hr : Room (k + 1) X.A) (hg : Gl X x) (hm : X.mg x = some (.ref C)) (hx : Passes CX X E) (hdb : (x == ("__debug__" : Str)) = false := by decide) :
    PE X (.Call (.Name x nap) [] [] pos) (fun σ H Q => ∀ y dx, H y = none → H dx = none → dx ≠ y → sp [V.ref y] (upd (upd H dx (.own y)) y (.ins C dx [])) (fun v H2 => v = .non ∧ Q (.ref y) H2) E) := by
  constructor
  intro pins s σ H Q I h
  refine wpAny_Call_Name_kw (ld_glob I hg hm ?_ hdb)
  exact PySem.W.callWith_K0 (first := []) I.kIn M.kp (StX.run_makeR (us := []) (vs := []) M F hr hx I .nil h)
/-- x(*e) -/
theorem pe_makeSG (M : Mk X.K C f) (F : FnR X.prog X.w X.K X.mg X.base CX k f sp) (hr : Room (k + 1) X.A) (hg : Gl X x) (hm : X.mg x = some (.ref C)) (hx : Passes CX X E) (he : PE X e te) (hdb : (x == ("__debug__" : Str)) = false := by decide)
    (hst : starEach [.Starred e q] X.env = [(true, eval e X.env)] := by rfl) : PE X (.Call (.Name x nap) [.Starred e q] [] pos) (fun σ H Q => te σ H fun z H1 => ∃ a xs, z = .ref a ∧ (SqT X.K H1 a xs ∨ SqL X.K H1 a xs) ∧ ∀ y dx, H1 y = none → H1 dx = none → dx ≠ y →
      sp (V.ref y :: xs) (upd (upd H1 dx (.own y)) y (.ins C dx [])) (fun v H2 => v = .non ∧ Q (.ref y) H2) E) := by
  constructor
  intro pins s σ H Q I h
  refine wpAny_Call_Name_kw (ld_glob I hg hm ?_ hdb)
  refine PySem.W.callWith_S (h₀ := X.base) I.ok.mod.kin M.kp (thn (he.run pins s σ H _ I h) fun v s2 ⟨z, H2, I2, rz, a, xs, ez, hxs, h2⟩ => ?_) hst
  subst ez
  obtain rfl : v = Value.ref a := rz
  exact StX.star_any I2 hxs fun us s3 I3 rv => ⟨I3.kIn, StX.run_makeR M F hr hx I3 rv h2⟩
/-- o.m(), m takes any number of things -/
theorem pe_methR0 {pl : Sem Bool} (he : PE X o ta) (c : Cls X.K C) (hm : Meth X.K C m f) (F : FnR X.prog X.w X.K X.mg X.base CX k f sp) (hr : Room k X.A) (hx : Passes CX X E)
    (ht : eval (.Call (.Attribute o m apos) [] [] pos) X.env = (do
      let ov ← eval o X.env
      standAt apos.atName
      let (f, first) ← holding [ov] (getMethod ov m pl)
      callWith pos f first (backTo pos (starEach [] X.env)) (backToKw pos (keywordEach [] X.env))) := by rfl) : PE X (.Call (.Attribute o m apos) [] [] pos) (fun σ H Q => ta σ H fun z H1 => ∃ a dx fs, z = .ref a ∧ H1 a = some (.ins C dx fs) ∧ fs.lookup m = none ∧ sp [.ref a] H1 Q E) := by
  constructor
  intro pins s σ H Q I h
  refine PySem.W.methodCall_KW (pl := pl) (thn (he.run pins s σ H _ I h) fun u s1 ⟨z, H1, I1, rz, a, dx, fs, ez, ea, l, hs⟩ => ?_) ht
  subst ez
  obtain rfl : u = Value.ref a := rz
  exact getmeth_ok I1 ea c hm l (PySem.W.callWith_K0 (first := [.ref a]) I1.kIn hm.kp (wpAny_call (run_fnR (us := [.ref a]) (vs := [.ref a]) F hr hx I1 (.cons rfl .nil) hs)))
/-- C.m(k = v, ..), m a classmethod -/
theorem pe_cmethK {pl : Sem Bool} {gr : List Value → List Value → List Value} {gV : List V → List V → List V} (he : PE X o ta) (r : ClX.CRead X.K C mc) (c : ClX.CMet X.K C mc m p g) (F : FnOk X.prog X.w X.K X.mg X.base CX k g fd ps sp) (hr : Room k X.A) (hb : KBn X.K fd ps 1 ks gr gV) (hx : Passes CX X E) (hkw : PK X kws tks)
    (hall : (backToKw pos (keywordEach kws X.env)).all (·.1.isSome) = true := by rfl) (hks : (backToKw pos (keywordEach kws X.env)).filterMap (·.1) = ks := by rfl) (hpl : ((backTo pos (starEach [] X.env)).any (·.1) || (backToKw pos (keywordEach kws X.env)).any (·.1.isNone)) = false := by rfl)
    (ht : eval (.Call (.Attribute o m apos) [] kws pos) X.env = (do
      let ov ← eval o X.env
      standAt apos.atName
      let (f, first) ← holding [ov] (getMethod ov m pl)
      callWith pos f first (backTo pos (starEach [] X.env)) (backToKw pos (keywordEach kws X.env))) := by rfl) :
    PE X (.Call (.Attribute o m apos) [] kws pos) (fun σ H Q => ta σ H fun z H1 => z = .ref C ∧ tks σ H1 fun zs H2 => zs.length = ks.length ∧ sp (gV [.ref C] zs) H2 Q E) := by
  constructor
  intro pins s σ H Q I h
  refine PySem.W.methodCall_KW (pl := pl) (thn (he.run pins s σ H _ I h) fun u s1 ⟨z, H1, I1, rz, ez, hs⟩ => ?_) ht
  subst ez
  obtain rfl : u = Value.ref C := rz
  refine ClX.getmethcm_ok I1 r c fun s2 I2 => ?_
  refine PySem.W.callWith_of (P := PySem.W.MethP X.K s1.heap.objs.size g (.ref C)) hpl (PySem.W.keeps_M c.fi) (evalArgs_kw2_nil hall (thn (hkw.run pos _ s2 σ H1 _ I2 hs) fun ws s3 ⟨zs, H2, I3, rw', l2, q2⟩ => ⟨⟨ClX.pin_at I3, I3.kIn⟩, ?_⟩))
  rw [hks]
  have z : wpAny (model X.prog X.w) X.A (call (.ref s1.heap.objs.size) [] (ks.zip ws)) (EP X ((s1.heap.objs.size, PySem.W.methodObj (.ref g) (.ref C)) :: pins) σ Q) X.xe s3 := by
    refine wpAny_call (PySem.W.method_call (ClX.pin_at I3) (codeAny_mono (F.run X.A X.stack s3 H2 ⟨[.ref C], ks.zip ws⟩ (gr [.ref C] ws) (gV [.ref C] zs) Q E hr I3.env0 (hb.to s3 [.ref C] ws I3.kIn rfl (by rw [← l2, rw'.length])) (hb.rel (vs := [.ref C]) (us := [.ref C]) (.cons rfl .nil) rw') q2) fun y z hq => ?_))
    cases y with
    | error e => exact hx _ σ H2 s3 e z I3 hq
    | ok fl =>
      cases fl with
      | ret u => exact I3.after hq
      | next => exact hq.elim
      | brk => exact hq.elim
      | cont => exact hq.elim
  exact thn z fun _ _ y => ClX.unpinE y
end
end K2
end
section
set_option Elab.async false
set_option maxRecDepth 100000
set_option linter.all false
namespace K2
open PySem L2 PySem.Spec PyProof.Rows
abbrev sPlain : Stmt := inClass (top 27) 1
abbrev sLen : Stmt := inClass (top 27) 3
abbrev sCo : Stmt := inClass (top 27) 4
abbrev sEq : Stmt := inClass (top 27) 5
abbrev sWR : Stmt := inClass (top 27) 7
structure Own (K : PySem.W.Frag) (C : Addr) : Prop where
  ha : PySem.W.findIn K (.ref C) "__class__" = some (some (.builtin "object.__class__"))
  hn : PySem.W.specialIn K (.builtin "object.__class__") "__get__" = some (some (.builtin "getset_descriptor.__get__"))
  htk : PySem.W.takesIn K (.builtin "object.__class__") = some true
  hm : PySem.W.mroIn K C (.type "object") = some true
theorem ClsW.ty {K : PySem.W.Frag} {C p : Addr} {H : Hp} {rs : List Row} (h : ClsW C H p rs) (c : Cls K C) (o : Own K C) : TyX K H (.ref p) (.ref C) := by
  obtain ⟨dx, r, n, l, kvs, ts, h1, _⟩ := h
  exact .base (.ins h1 c o.ha o.hn o.htk o.hm)
theorem ClsW.ins {C p : Addr} {H : Hp} {rs : List Row} (h : ClsW C H p rs) : ∃ dx fs, H p = some (.ins C dx fs) ∧ ∀ m : Str, ¬ m = "_lines" → ¬ m = "names" → ¬ m = "rows" → fs.lookup m = none := by
  obtain ⟨dx, r, n, l, kvs, ts, h1, _⟩ := h
  exact ⟨dx, _, h1, fun m a b c => flds_no r n l a b c⟩
theorem kit_own {K : PySem.W.Frag} (C : Addr) : PySem.W.kitOne K (.ref C) (.ref C) = some true := by
  unfold PySem.W.kitOne
  rw [if_pos (by simp)]
theorem right_own {K : PySem.W.Frag} {C p : Addr} {H : Hp} {rs : List Row} (h : ClsW C H p rs) (c : Cls K C) (o : Own K C) : RightT K C H (.ref p) := ⟨_, h.ty c o, by unfold PySem.W.notFirst; simp⟩
def spLenC (C : Addr) : Sp := fun vs H Q _ => ∃ (p : Addr) (rs : List Row), vs = [.ref p] ∧ ClsW C H p rs ∧ Q (.int ((rs.length + 2 : Nat) : Int)) H
def spCo (K : PySem.W.Frag) (C : Addr) : Sp := fun vs H Q _ => ∃ (p : Addr) (x : V) (rs : List Row), vs = [.ref p, x] ∧ ClsW C H p rs ∧
  ((∃ y, x = .str y ∧ Q (.bl (decide (y ∈ keys (ups rs)))) H) ∨ (∃ t, TyX K H x t ∧ PySem.W.kitOne K t (.type "str") = some false ∧ Q (.bl false) H))
def spEqC (K : PySem.W.Frag) (C : Addr) : Sp := fun vs H Q _ => ∃ (p : Addr) (y : V) (rs : List Row), vs = [.ref p, y] ∧ ClsW C H p rs ∧ (∀ r ∈ rs, RowFit r) ∧
  ((∃ q qs, y = .ref q ∧ ClsW C H q qs ∧ (∀ r ∈ qs, RowFit r) ∧ Q (.bl (decide (rs = qs))) H) ∨ (∃ t, TyX K H y t ∧ PySem.W.kitOne K t (.ref C) = some false ∧ Q (.bl false) H))
def spWR (C : Addr) : Sp := fun vs H Q _ => ∃ (p t : Addr) (rs qs : List Row) (ts : List Addr), vs = [.ref p, .ref t] ∧ ClsW C H p rs ∧ H t = some (.tup (ts.map V.ref)) ∧ RowsAt H ts qs ∧ Good (rs ++ qs) ∧ (rs ++ qs).length ≤ 30 ∧
  ∀ (r : Addr) (H' : Hp), ClsW C H' r (rs ++ qs) → Same H H' → Q (.ref r) H'
def spWRr (C : Addr) : Sp := fun vs H Q E => ∃ ws rest, vs = ws ++ rest ∧ ws.length = 1 ∧ rest.length ≤ sizeLine ∧ ∀ p, H p = none → spWR C (ws ++ [V.ref p]) (upd H p (.tup rest)) Q E
def spInitR (C : Addr) : Sp := fun vs H Q E => ∃ ws rest, vs = ws ++ rest ∧ ws.length = 1 ∧ rest.length ≤ sizeLine ∧ ∀ p, H p = none → spInit C (ws ++ [V.ref p]) (upd H p (.tup rest)) Q E
def spPlain (C : Addr) : Sp := fun vs H Q _ => vs = [] ∧ ∀ (r : Addr) (H' : Hp), ClsW C H' r [] → Same H H' → Q (.ref r) H'
theorem RowsAt.app {H : Hp} {ts1 ts2 : List Addr} {rs1 rs2 : List Row} (h1 : RowsAt H ts1 rs1) (h2 : RowsAt H ts2 rs2) : RowsAt H (ts1 ++ ts2) (rs1 ++ rs2) := by
  refine ⟨by simp [h1.1, h2.1], fun i t r a b => ?_⟩
  by_cases hi : i < ts1.length
  · rw [List.getElem?_append_left hi] at a
    rw [List.getElem?_append_left (by rw [← h1.1]; exact hi)] at b
    exact h1.2 i t r a b
  · rw [List.getElem?_append_right (by omega)] at a
    rw [List.getElem?_append_right (by have := h1.1; omega), ← h1.1] at b
    exact h2.2 _ t r a b
/-- what the making of Classes of rows asks -/
theorem initR {C : Addr} {H : Hp} {ts : List Addr} {rs : List Row} {Q : VK} {E : XK} (R : RowsAt H ts rs) (g : Good rs) (h30 : rs.length ≤ 30) (k : ∀ (r : Addr) (H' : Hp), ClsW C H' r rs → Same H H' → Q (.ref r) H') :
    ∀ x dx, H x = none → H dx = none → dx ≠ x → spInitR C (V.ref x :: ts.map V.ref) (upd (upd H dx (.own x)) x (.ins C dx [])) (fun v H2 => v = .non ∧ Q (.ref x) H2) E := by
  intro x dx nx ndx ne
  refine ⟨[V.ref x], _, rfl, rfl, ?_, fun pt hpt => ?_⟩
  · rw [List.length_map, R.1]; show _ ≤ 16777216; omega
  have s1 : Same H (upd (upd H dx (.own x)) x (.ins C dx [])) := ((Same.refl H).put ndx).put nx
  have s2 : Same H (upd (upd (upd H dx (.own x)) x (.ins C dx [])) pt (.tup (ts.map V.ref))) := s1.put (s1.free hpt)
  exact ⟨x, dx, pt, ts, rs, rfl, by rw [upd_ne (ne_of_none upd_same hpt), upd_same], upd_same, R.mono fun b r e => s2 b _ e, g, h30, fun H' cl kp => ⟨rfl, k x H' cl fun b o e => kp b o (s2 b o e) (ne_of_none e nx)⟩⟩
theorem wr_bind (kV doc pm : Value) (an : Option Addr) (cdv ct : Value) : ∀ us rest : List Value, us.length = ["self"].length → bindArgs (PySem.W.fnOf "with_rows" "Classes.with_rows" (defArgs sWR) (defBody sWR) (defScope sWR) .none kV doc pm an cdv ct) ⟨us ++ rest, []⟩ = (newTuple rest >>= fun t => pure (([("self" : Str)]).zip us ++ [(("rows" : Str), t)])) :=
  StX.bind_star1 (B := fun l => bindArgs (PySem.W.fnOf "with_rows" "Classes.with_rows" (defArgs sWR) (defBody sWR) (defScope sWR) .none kV doc pm an cdv ct) ⟨l, []⟩) (fun a => rfl) (fun a r rs => rfl)
section
variable {P : Program} {w : World} {K : PySem.W.Frag} {mg : Str → Option Value} {base : Heap}
theorem scLenC : FnScope ["self"] ["self"] (defScope sLen) := ⟨rfl, rfl, rfl, by decide +kernel, rfl, by decide +kernel, by decide +kernel⟩
theorem scCo : FnScope ["self", "x"] ["self", "x"] (defScope sCo) := ⟨rfl, rfl, rfl, by decide +kernel, rfl, by decide +kernel, by decide +kernel⟩
theorem scEq : FnScope ["self", "other"] ["self", "other"] (defScope sEq) := ⟨rfl, rfl, rfl, by decide +kernel, rfl, by decide +kernel, by decide +kernel⟩
theorem scWR : FnScope ["self", "rows", "both"] ["self", "rows"] (defScope sWR) := ⟨rfl, rfl, rfl, by decide +kernel, rfl, by decide +kernel, by decide +kernel⟩
theorem scPlain : FnScope [] [] (defScope sPlain) := ⟨rfl, rfl, rfl, by decide +kernel, rfl, by decide +kernel, by decide +kernel⟩
theorem ok_lenC {f C : Addr} {fd : FuncData} (F : Fun K "__len__" "Classes.__len__" sLen f fd) (Y : Txt K mg C) (T : Bi mg) : FnOk P w K mg base CX0 1 f fd ["self"] (spLenC C) := by
  refine F.ok scLenC (fun vs H Q E h => ?_) (fun cdv A outer s H vs Q E hr h => ?_)
  · obtain ⟨p, rs, rfl, _⟩ := h
    rfl
  · obtain ⟨p, rs, rfl, cw, k⟩ := h
    refine ⟨_, pss_one (ps_ret (pe_callB call_len_seq (by rfl) T.len PySem.boot_len (pa_cons (pe_fld (pv 0) rfl) pa_nil))), ?_⟩
    obtain ⟨dx, r, n, l, kvs, ts, h1, _, _, h4, _, _⟩ := cw
    refine ⟨_, rfl, p, C, dx, _, _, rfl, h1, Y.cl, Y.nN, flds_names _ _ _, n, _, rfl, .inr (SqT.of h4), ?_⟩
    rw [List.length_map, keys_ups]
    have e : (base0 ++ rs.map (·.1)).length = rs.length + 2 := by
      rw [List.length_append, List.length_map]
      show 2 + rs.length = rs.length + 2
      omega
    rw [e]
    exact k
theorem ok_co {f C : Addr} {fd : FuncData} (F : Fun K "__contains__" "Classes.__contains__" sCo f fd) (Y : Txt K mg C) (T : Bi mg) : FnOk P w K mg base CX0 1 f fd ["self", "x"] (spCo K C) := by
  refine F.ok scCo (fun vs H Q E h => ?_) (fun cdv A outer s H vs Q E hr h => ?_)
  · obtain ⟨p, x, rs, rfl, _⟩ := h
    rfl
  · obtain ⟨p, x, rs, rfl, cw, k⟩ := h
    refine ⟨_, pss_one (ps_ret (pe_and (pe_callB call_isi (by rfl) T.isinstance (by decide +kernel) (pa_cons (pv 1) (pa_cons (pe_bltn (v := .ty "str") (by rfl) T.str (by decide +kernel) rfl) pa_nil))) (pe_one (pe_cmpR op_in_seq (pv 1) (pe_fld (pv 0) rfl) rfl)))), ?_⟩
    obtain ⟨dx, r, n, l, kvs, ts, h1, _, _, h4, _, _⟩ := cw
    rcases k with ⟨y, rfl, k⟩ | ⟨t, ht, hk, k⟩
    · refine ⟨_, rfl, _, _, _, _, true, rfl, .ty _, .base (.str y), kit_ty (by decide +kernel), _, rfl, ?_⟩
      refine iteT ⟨_, rfl, _, rfl, p, C, dx, _, _, rfl, h1, Y.cl, Y.nN, flds_names _ _ _, n, _, rfl, .inr (SqT.of h4), rfl, flat_strs _, ?_⟩
      rw [if_neg Bool.false_ne_true, inV_strs]
      exact k
    · exact ⟨_, rfl, _, _, _, _, false, rfl, .ty _, ht, hk, _, rfl, iteF k⟩
theorem ok_eq {f C : Addr} {fd : FuncData} (F : Fun K "__eq__" "Classes.__eq__" sEq f fd) (Y : Txt K mg C) (T : Bi mg) (O : Own K C) : FnOk P w K mg base CX0 1 f fd ["self", "other"] (spEqC K C) := by
  refine F.ok scEq (fun vs H Q E h => ?_) (fun cdv A outer s H vs Q E hr h => ?_)
  · obtain ⟨p, x, rs, rfl, _⟩ := h
    rfl
  · obtain ⟨p, x, rs, rfl, cw, fit, k⟩ := h
    refine ⟨_, pss_one (ps_ret (pe_and (pe_callB call_isi (by rfl) T.isinstance (by decide +kernel) (pa_cons (pv 1) (pa_cons (pe_glob (v := .ref C) rfl Y.mgC rfl) pa_nil))) (pe_one (pe_cmpR (op_eqD hr.units) (pe_fld (pv 0) rfl) (pe_fld (pv 1) rfl) (nomark _))))), ?_⟩
    rcases k with ⟨q, qs, rfl, cw2, fit2, k⟩ | ⟨t, ht, hk, k⟩
    · refine ⟨_, rfl, _, _, _, _, true, rfl, .own C, cw2.ty Y.cl O, kit_own C, _, rfl, ?_⟩
      obtain ⟨dx, r, n, l, kvs, ts, h1, _, _, _, h5, h6⟩ := cw
      obtain ⟨dy, r2, n2, l2, kvs2, ts2, g1, _, _, _, g5, g6⟩ := cw2
      refine iteT ⟨_, rfl, p, C, dx, _, _, rfl, h1, Y.cl, Y.nR, flds_rows _ _ _, _, rfl, q, C, dy, _, _, rfl, g1, Y.cl, Y.nR, flds_rows _ _ _, rowsD rs, rowsD qs, .tup (SqT.of h5) (rows_dp K rs ts h6), .tup (SqT.of g5) (rows_dp K qs ts2 g6), rowsD_shaped fit, rowsD_shaped fit2, ?_⟩
      rw [rowsD_eqv]
      exact k
    · exact ⟨_, rfl, _, _, _, _, false, rfl, .own C, ht, hk, _, rfl, iteF k⟩
end
end K2
end
section
set_option Elab.async false
set_option maxRecDepth 100000
set_option linter.all false
namespace K2
open PySem L2 PySem.Spec PyProof.Rows
theorem pick_all {α : Type} : ∀ l : List α, (List.range l.length).filterMap (fun k => l[k]?) = l
  | [] => rfl
  | a :: l => by
    rw [List.length_cons, List.range_succ_eq_map, List.filterMap_cons]
    simp only [List.getElem?_cons_zero, List.filterMap_map]
    congr 1
    have e : ((fun k => (a :: l)[k]?) ∘ Nat.succ) = fun k => l[k]? := by
      funext k
      simp
    rw [e]
    exact pick_all l
theorem pick_rev (xs : Array Value) : (List.range xs.size).filterMap (fun (k : Nat) => xs[(((xs.size : Int) - 1) + (k : Int) * (-1)).toNat]?) = xs.toList.reverse := by
  have h := pick_all xs.toList.reverse
  rw [List.length_reverse, Array.length_toList] at h
  refine Eq.trans ?_ h
  have cong : ∀ (l : List Nat) (f g : Nat → Option Value), (∀ k ∈ l, f k = g k) → l.filterMap f = l.filterMap g := by
    intro l f g
    induction l with
    | nil => intro _; rfl
    | cons a l ih =>
      intro q
      rw [List.filterMap_cons, List.filterMap_cons, q a List.mem_cons_self, ih fun k hk => q k (List.mem_cons_of_mem _ hk)]
  refine cong _ _ _ fun k hk => ?_
  have hk := List.mem_range.mp hk
  rw [List.getElem?_reverse (by rw [Array.length_toList]; exact hk), Array.length_toList, Array.getElem?_toList]
  congr 1
  omega
section
variable {prog : Program} {w : World} {A : Around} {E : Value → Shared → Prop} {s : Shared}
theorem rev_applied {sl : Addr} {vs : Value} {n : Nat} {Q : Int × Int × Nat → Shared → Prop} (hn : 0 < n) (hs : s.heap.IsSliceOf sl .none .none vs) (ps : IsPart vs (some (-1)))
    (h : Q (((n : Int) - 1), -1, n) s) : wpAny (model prog w) A (Builtin.Slice.sliceApplied (.ref sl) (pure (n : Int))) Q E s := by
  obtain ⟨os, hos, hcs, hds⟩ := id hs
  unfold Builtin.Slice.sliceApplied Builtin.Slice.sliceFields
  refine wpAny_bind (wpAny_bind (wpAny_field hos hds (x := .none) rfl (wpAny_bind (wpAny_field hos hds (x := .none) rfl (wpAny_bind (wpAny_field hos hds (x := vs) rfl (wpAny_pure ?_)))))))
  refine wpAny_bind (HT.slicePart_ ps ?_)
  show wpAny _ _ (if ((-1 : Int) == 0) = true then _ else _) _ _ s
  rw [if_neg (by decide)]
  refine wpAny_bind (slicePart_none (wpAny_bind (slicePart_none (wpAny_bind (wpAny_pure ?_)))))
  have e : Builtin.Slice.slicePlaces ((n : Int) - 1) (-1) (-1) = n := by
    unfold Builtin.Slice.slicePlaces
    rw [if_neg (by decide), if_pos (by omega)]
    have : ((n : Int) - 1 - -1 - 1) / (- -1) + 1 = n := by
      rw [show (- -1 : Int) = 1 from rfl, Int.ediv_one]
      omega
    rw [this]
    rfl
  show wpAny _ _ (pure (((n : Int) - 1), (-1 : Int), Builtin.Slice.slicePlaces ((n : Int) - 1) (-1) (-1))) _ _ s
  rw [e]
  exact wpAny_pure h
theorem rev_tuple {t sl : Addr} {items : Array Value} {vs : Value} {Q : Value → Shared → Prop} (hn : 0 < items.size) (ht : IsTup s.heap t items) (hs : s.heap.IsSliceOf sl .none .none vs) (ps : IsPart vs (some (-1)))
    (h : Q (.ref s.heap.objs.size) { s with heap := s.heap.push { cls := .type "tuple", data := .seq items.toList.reverse.toArray } }) (hsz : items.size ≤ sizeLine) : wpAny (model prog w) A (getItem (.ref t) (.ref sl)) Q E s := by
  have hz : sizeOk (.seq items.toList.reverse.toArray) := by
    show items.toList.reverse.toArray.size ≤ sizeLine
    rw [List.size_toArray, List.length_reverse, Array.length_toList]
    exact hsz
  obtain ⟨os, hos, hcs, hds⟩ := id hs
  have hTs : s.TypeIs (.ref sl) "slice" := ⟨os, hos, hcs⟩
  unfold getItem
  try with_reducible refine wpAny_holding ?_
  first | refine wpAny_bind (wpAny_pure ?_) | skip
  refine wpAny_bind (wpAny_sequenceKey ht.typeIs (by decide) ?_)
  refine wpAny_bind (wpAny_callSpecial?_slot (name := Str.ofString "__getitem__") ht.typeIs PyProof.Rows.slot_tuple_getitem
    (wpAny_call_entry PyProof.Rows.slot_tuple_getitem ht.typeIs entry_tuple_getitem ?_ (args_tuple_getitem _ _)))
  show wpAny _ _ (Builtin.Tuple.tupleItemsOf (.ref t) >>= _) _ _ s
  refine wpAny_bind (PyProof.Rows.tupleItemsOf_ ht ?_)
  refine wpAny_bind (wpAny_typeOf hTs ?_)
  rw [if_pos (by decide)]
  refine wpAny_bind (rev_applied hn hs ps ?_)
  have no : ¬ ((((items.size : Int) - 1) == 0 && (-1 : Int) == 1 && items.size == items.size) = true) := by simp
  show wpAny _ _ (if (((items.size : Int) - 1) == 0 && (-1 : Int) == 1 && items.size == items.size) = true then _ else _) _ _ s
  rw [if_neg no, pick_rev]
  first
    | exact wpAny_bind (m := Builtin.Tuple.tupleExact _) (wpAny_newObj_type (wpAny_pure ⟨_, rfl, wpAny_pure h⟩) hz)
    | exact wpAny_bind (m := Builtin.Tuple.tupleExact _) (wpAny_newObj_type (wpAny_bind (wpAny_pure (wpAny_pure ⟨_, rfl, wpAny_pure h⟩))) hz)
    | exact wpAny_bind (wpAny_bind (m := Builtin.Tuple.tupleExact _) (wpAny_newObj_type (wpAny_pure (wpAny_pure ⟨_, rfl, wpAny_pure h⟩)) hz))
    | exact wpAny_bind (wpAny_bind (m := Builtin.Tuple.tupleExact _) (wpAny_newObj_type (wpAny_pure ⟨_, rfl, wpAny_pure h⟩) hz))
end
/-- t[::-1] of a tuple -/
def tRevT (te : TE) : TE := fun σ H Q => te σ H fun x H1 => ∃ a xs, x = .ref a ∧ H1 a = some (.tup xs) ∧ 0 < xs.length ∧ ∀ p, H1 p = none → Q (.ref p) (upd H1 p (.tup xs.reverse))
theorem pe_revT {X : Cx} {e : Expr} {te : TE} {k : Nat} {p1 p2 p3 pos : Pos} (he : PE X e te) : PE X (.Subscript e (.Slice none none (some (.UnaryOp .USub (.Constant (.int 1) k p1) p2)) p3) pos) (tRevT te) := by
  constructor
  intro pins s σ H Q I h
  refine Subscript_ (thn (he.run pins s σ H _ I h) fun v s1 ⟨x, H1, I1, r1, a, xs, ex, hx, hn, q⟩ => ?_)
  subst ex
  cases r1
  have hst : PO X (some (.UnaryOp .USub (.Constant (.int 1) k p1) p2)) (tPart (tUn (rU fun i => .int (-i)) (tC (.int 1)))) := po_some (pe_un un_neg pe_int)
  refine wpAny_Slice (thn (po_none.run pins s1 σ H1 (fun o H2 => o = none ∧ H2 = H1) I1 ⟨rfl, rfl⟩) fun vl s2 ⟨l, H2, I2, pl, el, e2⟩ => ?_)
  subst el e2
  refine thn (po_none.run pins s2 σ H2 (fun o H3 => o = none ∧ H3 = H2) I2 ⟨rfl, rfl⟩) fun vu s3 ⟨u, H3, I3, pu, eu, e3⟩ => ?_
  subst eu e3
  refine thn (hst.run pins s3 σ H3 (fun o H4 => o = some (-1) ∧ H4 = H3) I3 ⟨1, rfl, -1, rfl, rfl, rfl⟩) fun vs s4 ⟨o, H4, I4, ps, eo, e4⟩ => ?_
  subst eo e4
  cases pl
  cases pu
  have I5 : Inv X pins σ H4 { s4 with heap := s4.heap.push { cls := .type "slice", data := .fields #[.none, .none, vs] } } := I4.kept (t' := s4.toks) fun b ob q => Heap.get?_push_of_some _ q
  obtain ⟨its, r, ht, hz⟩ := I5.tuple (SqT.of hx)
  have hlen := r.length
  show wpAny (model X.prog X.w) X.A (subscriptTail e (.Slice none none (some (.UnaryOp .USub (.Constant (.int 1) k p1) p2)) p3) (.ref a) (.ref s4.heap.objs.size)) (EP X pins σ Q) X.xe { s4 with heap := s4.heap.push { cls := .type "slice", data := .fields #[.none, .none, vs] } }
  refine tail_any (ops := [.ref a, .ref s4.heap.objs.size]) ht.typeIs (PyProof.Rows.slot_tuple_getitem.lookup) ?_ (by with_unfolding_all rfl)
  refine rev_tuple (by rw [List.size_toArray]; omega) ht (Heap.IsSliceOf.new _ .none .none vs) ps ?_ (by rw [List.size_toArray]; omega)
  refine ⟨.ref _, _, I5.laid (t' := s4.toks) (o := .tup xs.reverse) (fun b ob q => Heap.get?_push_of_some _ q) (Nat.le_refl _) ?_, rfl, q _ (I5.hok.fresh (Nat.le_refl _))⟩
  exact ⟨by rw [List.length_reverse]; exact hz, _, r.reverse, IsTup.new _ _⟩
end K2
end
section
set_option Elab.async false
set_option maxRecDepth 100000
set_option linter.all false
/-! the pen's draw -/
namespace K2
open PySem L2
section
variable {P : Program} {w : World} {K : PySem.W.Frag} {mg : Str → Option Value} {base : Heap}
abbrev nDrawB : List Str := ["_law_pen_here", "_law_many", "_law_digit", "_law_begun", "_law_cell", "_law_great", "_law_mixed"]
theorem scDrawB : FnScope nDrawB ["_law_pen_here", "_law_many"] (defScope sDraw) := ⟨rfl, rfl, rfl, by decide +kernel, rfl, by decide +kernel, by decide +kernel⟩
theorem ok_draw {f : Addr} {fd : FuncData} (F : Fun K "_law_draw" "_law_draw" sDraw f fd) (T : Bi mg) : FnOk P w K mg base CX0 1 f fd ["_law_pen_here", "_law_many"] spDraw := by
  refine F.ok scDrawB (fun vs H Q E h => ?_) (fun cdv A outer s H vs Q E hr h => ?_)
  · obtain ⟨p, c, ns, n, m, rfl, _⟩ := h
    rfl
  · obtain ⟨p, c, ns, n, m, rfl, hP, hn, m0, m1, k⟩ := h
    have hmne : m ≠ 0 := by omega
    have hmab : m.natAbs < 1073741824 := by omega
    obtain ⟨a, l, hp, a0, an, l0⟩ := hP.pen
    unfold penO at hp
    refine ⟨_, (pss_cons (ps_if (pt_cmpR op_gt (pe_ix ix_list (pv 0) pe_int (fun _ _ => rfl)) pe_int (nomark _))
      (pss_cons (ps_set (i := 2) scDrawB.nd rfl (Or.inl rfl) (pe_op op_modN (pe_callTy call_int1 (by rfl) T.int (by decide +kernel) (pa_cons (pe_ix ix_list (pv 0) pe_int (fun _ _ => rfl)) pa_nil)) (pv 1)))
        (pss_cons (ps_asg (pe_op op_fdivN (pe_callTy call_int1 (by rfl) T.int (by decide +kernel) (pa_cons (pe_ix ix_list (pv 0) pe_int (fun _ _ => rfl)) pa_nil)) (pv 1)) (pg_sub (pv 0) pe_int set_list))
        (pss_one (ps_ret (pv 2)))))
      pss_nil)
      (pss_cons (ps_set (i := 3) scDrawB.nd rfl (Or.inl rfl) (pe_ix ix_list (pv 0) pe_int (fun _ _ => rfl)))
      (pss_cons (ps_asg (pe_op op_add (pv 3) pe_int) (pg_sub (pv 0) pe_int set_list))
      (pss_cons (ps_set (i := 4) scDrawB.nd rfl (Or.inl rfl) (pe_op op_add (pe_op op_mul pe_int (pv 3)) pe_int))
      (pss_cons (ps_if (pt_cmpR (op_neD hr.units) (pe_ix ix_list (pv 0) pe_int (fun _ _ => rfl)) (pe_lst pa_nil) (nomark _))
      (pss_one (ps_set (i := 4) scDrawB.nd rfl (Or.inl rfl) (pe_ix ix_list (pe_ix ix_list (pv 0) pe_int (fun _ _ => rfl)) (pe_op op_modN (pe_callTy call_int1 (by rfl) T.int (by decide +kernel) (pa_cons (pv 3) pa_nil)) (pe_callB call_len_seq (by rfl) T.len PySem.boot_len (pa_cons (pe_ix ix_list (pv 0) pe_int (fun _ _ => rfl)) pa_nil))) (fun _ _ => rfl))))
      pss_nil)
      (pss_cons (ps_if (PW.pt (pw_and (pt_cmpR op_lt (pv 3) (pe_callB call_len_seq (by rfl) T.len PySem.boot_len (pa_cons (pe_ix ix_list (pv 0) pe_int (fun _ _ => rfl)) pa_nil)) (nomark _)) (pw_and1 (pt_cmpR op_ge (pe_callB call_abs (by rfl) T.abs (by decide +kernel) (pa_cons (pv 4) pa_nil)) (pe_op op_pow pe_int pe_int) (nomark _)))))
      (pss_cons (ps_set (i := 5) scDrawB.nd rfl (Or.inl rfl) (pe_op op_add (pe_op op_mul pe_int (pe_op op_sub (pe_callB call_abs (by rfl) T.abs (by decide +kernel) (pa_cons (pv 4) pa_nil)) (pe_op op_pow pe_int pe_int))) (pe_callTy call_int1 (by rfl) T.int (by decide +kernel) (pa_cons (pe_cmpR op_lt (pv 4) pe_int (nomark _)) pa_nil))))
        (pss_cons (ps_asg (pe_op op_fdivN (pe_callTy call_int1 (by rfl) T.int (by decide +kernel) (pa_cons (pv 5) pa_nil)) (pv 1)) (pg_sub (pv 0) pe_int set_list))
        (pss_one (ps_ret (pe_op op_modN (pe_callTy call_int1 (by rfl) T.int (by decide +kernel) (pa_cons (pv 5) pa_nil)) (pv 1))))))
      pss_nil)
      (pss_cons (ps_set (i := 6) scDrawB.nd rfl (Or.inl rfl) (pe_op op_modN (pe_callTy call_int1 (by rfl) T.int (by decide +kernel) (pa_cons (pe_op op_pow (pe_op op_add (pe_op op_add (pe_op op_modN (pe_callTy call_int1 (by rfl) T.int (by decide +kernel) (pa_cons (pv 4) pa_nil)) pe_int) (pe_op op_mul pe_int (pv 3))) pe_int) pe_int) pa_nil)) pe_int))
      (pss_cons (ps_set (i := 6) scDrawB.nd rfl (Or.inl rfl) (pe_op op_modN (pe_callTy call_int1 (by rfl) T.int (by decide +kernel) (pa_cons (pe_op op_pow (pe_op op_add (pe_op op_add (pe_op op_mul (pv 6) (pe_op op_add (pe_op op_mul pe_int (pv 3)) pe_int)) (pe_op op_mul (pe_op op_mul pe_int (pv 3)) (pv 3))) pe_int) pe_int) pa_nil)) pe_int))
      (pss_one (ps_ret (pe_op op_modN (pe_op op_fdivN (pe_callTy call_int1 (by rfl) T.int (by decide +kernel) (pa_cons (pv 6) pa_nil)) pe_int) (pv 1)))))))))))), ?_⟩
    refine ⟨_, rfl, p, _, _, _, rfl, rfl, SqL.of hp, atI_nat (j := 2) rfl, _, _, rfl, rfl, _, rfl, ite2 (fun hg => ?_) (fun hg => ?_)⟩
    · have hl := of_decide_eq_true hg
      refine ⟨_, rfl, p, _, _, _, rfl, rfl, SqL.of hp, atI_nat (j := 2) rfl, .inl ⟨_, rfl, _, rfl, _, _, rfl, rfl, hmne, ?_⟩⟩
      refine ⟨_, rfl, p, _, _, _, rfl, rfl, SqL.of hp, atI_nat (j := 2) rfl, .inl ⟨_, rfl, _, rfl, _, _, rfl, rfl, ⟨hmne, hmab⟩, _, rfl, p, _, _, 2, rfl, rfl, hp, rfl, _, rfl, ?_⟩⟩
      refine k _ _ (fmod_lo m0) (fmod_hi m0) (Keep.refl _ _).at ?_
      exact hP.set a0 (by omega) (fdiv_nn l0 m0)
    · have hat : a ≤ 100000 := by omega
      refine ⟨_, rfl, p, _, _, _, rfl, rfl, SqL.of hp, atI_nat (j := 1) rfl, _, rfl, _, _, rfl, rfl, _, rfl, p, _, _, 1, rfl, rfl, hp, rfl, ?_⟩
      generalize hH1 : upd H p (HO.lst ([V.ref c, V.int a, V.int l].set 1 ((fun i j => V.int (i + j)) a 1))) = H1
      replace hH1 : upd H p (.lst [.ref c, .int (a + 1), .int l]) = H1 := hH1
      have hp1 : H1 p = some (.lst [.ref c, .int (a + 1), .int l]) := by rw [← hH1]; exact upd_same
      have hc1 : H1 c = some (.lst (ns.map V.int)) := by rw [← hH1, upd_ne hP.ne]; exact hP.cells
      have k1 : Keep p H H1 := by rw [← hH1]; exact (Keep.refl p H).at
      refine ⟨_, rfl, _, _, rfl, rfl, .inl ⟨by decide, by decide⟩, _, _, rfl, rfl, ?_⟩
      refine ⟨_, rfl, p, _, _, _, rfl, rfl, SqL.of hp1, atI_nat (j := 0) rfl, Nat.zero_le _, fun e he => ?_⟩
      have he0 : H e = none := by
        cases q : H e with
        | none => rfl
        | some o =>
          by_cases ep : e = p
          · rw [ep, hp1] at he; cases he
          · rw [k1 e o q ep] at he; cases he
      have hp2 : (upd H1 e (.lst [])) p = some (.lst [.ref c, .int (a + 1), .int l]) := by rw [upd_ne (ne_of_none hp1 he)]; exact hp1
      have hc2 : (upd H1 e (.lst [])) c = some (.lst (ns.map V.int)) := by rw [upd_ne (ne_of_none hc1 he)]; exact hc1
      have k2 : Keep p H (upd H1 e (.lst [])) := k1.new he0
      have P2 : Pen (upd H1 e (.lst [])) p c ns (n + 1) := ⟨⟨a + 1, l, hp2, by omega, by omega, l0⟩, hc2, hP.small⟩
      have hee : (upd H1 e (.lst [])) e = some (.lst []) := upd_same
      generalize hH2 : upd H1 e (.lst []) = H2 at hp2 hc2 k2 P2 hee ⊢
      refine ⟨.list (ns.map PyData.int), .list [], .lst (SqL.of hc2) (ints_dp _ _ ns), .lst (SqL.of hee) .nil, shaped_ints ns, rfl, _, rfl, ?_⟩
      rw [eqv_nil]
      have hz0 : ns = [] ∨ ∃ z r, ns = z :: r := by cases ns with
        | nil => exact .inl rfl
        | cons z r => exact .inr ⟨z, r, rfl⟩
      have hzc : ∀ j : Nat, j < ns.length → ∃ z : Int, (ns.map V.int)[j]? = some (V.int z) := fun j hj => ⟨ns[j], by rw [List.getElem?_map, List.getElem?_eq_getElem hj]; rfl⟩
      refine ite2 (fun hb => ?b1) (fun hb => ?b2)
      case' b1 =>
        have hlen : 0 < ns.length := by
          cases ns with
          | nil => cases hb
          | cons z r => simp
        have hlen2 : (0 : Int) < ((ns.map V.int).length : Int) := by rw [List.length_map]; omega
        obtain ⟨j, hj⟩ : ∃ j : Nat, a.fmod ((ns.map V.int).length : Int) = (j : Int) := ⟨(a.fmod ((ns.map V.int).length : Int)).toNat, (Int.toNat_of_nonneg (fmod_lo hlen2)).symm⟩
        have hj2 : j < ns.length := by
          have := fmod_hi (a := a) hlen2
          rw [hj, List.length_map] at this
          omega
        obtain ⟨z, hz⟩ := hzc j hj2
        refine ⟨_, rfl, p, _, _, _, rfl, rfl, SqL.of hp2, atI_nat (j := 0) rfl, _, rfl, .inl ⟨_, rfl, _, rfl, p, _, _, _, rfl, rfl, SqL.of hp2, atI_nat (j := 0) rfl, c, _, rfl, .inl (SqL.of hc2), _, _, rfl, rfl, by omega, c, _, _, _, rfl, rfl, SqL.of hc2, at_of hj hz, ?_⟩⟩
      case' b2 => generalize hz9 : (fun i j => V.int (i + j)) (61057 * a) 811 = zz; replace hz9 : zz = .int (61057 * a + 811) := hz9.symm; subst hz9; generalize 61057 * a + 811 = z
      all_goals
        have pw18 : (10 : Int) ^ (18 : Int).toNat = 1000000000000000000 := by decide
        have tl : ∀ (v : Int), 0 ≤ v → v < m → Q (.int v) H2 := fun v h0 h1 => k v H2 h0 h1 k2 P2
        refine (fun t => ⟨_, rfl, _, rfl, p, _, _, _, rfl, rfl, SqL.of hp2, atI_nat (j := 0) rfl, c, _, rfl, .inl (SqL.of hc2), _, _, rfl, rfl, _, rfl, ite2 (fun hq1 =>
          ⟨_, rfl, _, rfl, _, _, rfl, rfl, ⟨by decide, by decide, by decide⟩, _, _, rfl, rfl, _, rfl, ite2 (fun hq2 => ?_) (fun _ => t)⟩) (fun _ => iteF t)⟩) ?_
        · refine ⟨_, rfl, .inl ⟨_, rfl, _, _, rfl, rfl, (by show (2147483587 : Int) ≠ 0; decide), _, rfl, _, _, rfl, rfl, .inl ⟨by decide, by decide⟩, _, _, rfl, rfl, _, _, rfl, rfl, _, _, rfl, rfl, ⟨by decide, by decide, ?_⟩, .inl ⟨_, rfl, _, _, rfl, rfl, (by show (2147483629 : Int) ≠ 0; decide), ?_⟩⟩⟩
          · have h1 := fmod_lo (a := z) (m := 2147483587) (by decide)
            have h2 := fmod_hi (a := z) (m := 2147483587) (by decide)
            generalize z.fmod 2147483587 = y at h1 h2 ⊢
            omega
          have g1 := fmod_lo (a := (z.fmod 2147483587 + 70207 * a + 811) ^ (5 : Int).toNat) (m := 2147483629) (by decide)
          have g2 := fmod_hi (a := (z.fmod 2147483587 + 70207 * a + 811) ^ (5 : Int).toNat) (m := 2147483629) (by decide)
          have b1 := mul_bnd (X := 2147483629) (y := 2 * a + 33) (Y := 200033) g1 (Int.le_of_lt g2) (by omega) (by omega)
          have b2 := mul_bnd (x := 50411 * a) (X := 5041100000) (y := a) (Y := 100000) (by omega) (by omega) a0 hat
          refine ⟨_, rfl, _, rfl, _, _, rfl, rfl, .inl ⟨by decide, by decide⟩, _, _, rfl, rfl, _, _, rfl, rfl, .inl ⟨?_, ?_⟩, _, rfl, _, _, rfl, rfl, .inl ⟨by decide, by decide⟩, _, rfl, _, _, rfl, rfl, .inl ⟨?_, ?_⟩, _, _, rfl, rfl, _, _, rfl, rfl, _, _, rfl, rfl, ⟨by decide, by decide, ?_⟩, .inl ⟨_, rfl, _, _, rfl, rfl, (by show (2147483647 : Int) ≠ 0; decide), ?_⟩⟩
          · omega
          · omega
          · omega
          · omega
          · omega
          have g3 := fmod_lo (a := ((((z.fmod 2147483587 + 70207 * a + 811) ^ (5 : Int).toNat).fmod 2147483629) * (2 * a + 33) + 50411 * a * a + 11) ^ (3 : Int).toNat) (m := 2147483647) (by decide)
          refine ⟨_, rfl, .inl ⟨_, rfl, _, _, rfl, rfl, ⟨by decide, by decide⟩, _, rfl, _, _, rfl, rfl, hmne, tl _ (fmod_lo m0) (fmod_hi m0)⟩⟩
        · have hge := of_decide_eq_true hq2
          have z64 : True := trivial
          refine ⟨_, rfl, _, rfl, _, _, rfl, rfl, ⟨by decide, by decide, by decide⟩, _, _, rfl, rfl, _, _, rfl, rfl, .inl ⟨by decide, by decide⟩, _, rfl, _, _, rfl, rfl, .inr ⟨_, rfl, _, _, rfl, rfl, ?_⟩⟩
          refine ⟨_, rfl, .inl ⟨_, rfl, _, rfl, _, _, rfl, rfl, ⟨hmne, hmab⟩, _, rfl, p, _, _, 2, rfl, rfl, hp2, rfl, _, rfl, .inl ⟨_, rfl, _, rfl, _, _, rfl, rfl, hmne, ?_⟩⟩⟩
          refine k _ _ (fmod_lo m0) (fmod_hi m0) k2.at (P2.set (by omega) (by omega) (fdiv_nn ?_ m0))
          rw [pw18] at hge ⊢
          split at hge <;> split <;> omega
theorem ok_pick {f fD : Addr} {fd fdD : FuncData} (F : Fun K "_law_pick" "_law_pick" sPick f fd) (T : Bi mg) (D : Df K mg "_law_draw" sDraw fD fdD ["_law_pen_here", "_law_many"]) : FnOk P w K mg base CX0 2 f fd ["_law_pen_here", "_law_some"] spPick := by
  have GD : FnOk P w K mg base CX0 1 fD fdD ["_law_pen_here", "_law_many"] spDraw := ok_draw D.F T
  refine F.ok scPick (fun vs H Q E h => ?_) (fun cdv A outer s H vs Q E hr h => ?_)
  · obtain ⟨p, c, ns, n, y, xs, rfl, _⟩ := h
    rfl
  · obtain ⟨p, c, ns, n, y, xs, rfl, hP, hn, hS, hne, hlen, k⟩ := h
    refine ⟨_, (pss_one (ps_ret (pe_ix ix_seq (pv 1) (pe_call GD hr (by rfl) D.m D.F.kp D.b .nil pass0 (pa_cons (pv 0) (pa_cons (pe_callB call_len (by rfl) T.len PySem.boot_len (pa_cons (pv 1) pa_nil)) pa_nil))) (fun _ _ => rfl)))), ?_⟩
    have hx0 : 0 < xs.length := List.length_pos_iff.mpr hne
    have hL : LenV K y H xs.length := by
      rcases hS with ⟨l, rfl, _, hl⟩ | ⟨z, rfl, rfl, hz⟩ | ⟨t, rfl, _, ht⟩
      · exact .inl ⟨_, SqL.of hl, rfl⟩
      · refine ⟨Nat.le_trans hz (by decide), ?_⟩
        rw [List.length_map]
        rfl
      · exact .inr ⟨_, SqT.of ht, rfl⟩
    refine ⟨_, rfl, _, rfl, _, rfl, _, _, rfl, hL, p, c, ns, n, _, rfl, hP, hn, by omega, by omega, fun v H' h0 h1 kp P' => ?_⟩
    obtain ⟨j, rfl⟩ : ∃ j : Nat, v = (j : Int) := ⟨v.toNat, (Int.toNat_of_nonneg h0).symm⟩
    have hj : j < xs.length := by omega
    have hv : xs[j]? = some xs[j] := List.getElem?_eq_getElem hj
    rcases hS with ⟨l, rfl, hlp, hl⟩ | ⟨z, rfl, rfl, hz⟩ | ⟨t, rfl, htp, ht⟩
    · exact .inl ⟨l, xs, _, _, rfl, rfl, SqL.of (kp l _ hl hlp), atI_nat hv, k j _ H' hv kp P'⟩
    · refine .inr (.inr ⟨z, _, (codes z)[j]'(by rw [List.length_map] at hj; exact hj), rfl, rfl, Nat.le_trans hz (by decide), atI_nat (List.getElem?_eq_getElem _), k j _ H' ?_ kp P'⟩)
      rw [List.getElem?_map, List.getElem?_eq_getElem (by rw [List.length_map] at hj; exact hj)]
      rfl
    · exact .inr (.inl ⟨t, xs, _, _, rfl, rfl, SqT.of (kp t _ ht htp), atI_nat hv, k j _ H' hv kp P'⟩)
end
end K2
end
section
set_option Elab.async false
set_option maxRecDepth 100000
set_option linter.all false
/-! words of the second style -/
namespace K2
open PySem L2
abbrev sWordsB : Stmt := sWords
abbrev nWordsB : List Str := ["_law_pen_here", "_law_many", "_law_letters", "_law_barred", "_law_base", "_law_found", "_law_k", "_law_spot", "_law_word", "_law_j", "_law_some", "_law_letter", "_law_one"]
theorem sub_len {α : Type} [BEq α] [LawfulBEq α] : ∀ {l m : List α}, l.Nodup → (∀ x ∈ l, x ∈ m) → l.length ≤ m.length
  | [], _, _, _ => Nat.zero_le _
  | x :: l, m, nd, h => by
    have nd2 := List.nodup_cons.mp nd
    have hx := h x List.mem_cons_self
    have := sub_len (m := m.erase x) nd2.2 fun y hy => (List.mem_erase_of_ne (fun e => nd2.1 (by rw [← e]; exact hy))).mpr (h y (List.mem_cons_of_mem _ hy))
    rw [List.length_erase_of_mem hx] at this
    have := List.length_pos_of_mem hx
    rw [List.length_cons]
    omega
abbrev lettersS : Str := Str.ofString "abcdefghijklmnopqrstuvwxyz"
/-- what may be taken in the place of w -/
def cands (w : Str) : List Str := w :: (codes lettersS).map fun c => txt ((codes w).take 7 ++ [c])
theorem letters_nd : (codes lettersS).Nodup := by decide +kernel
theorem letters_len : (codes lettersS).length = 26 := by decide +kernel
theorem nodup_map {α β : Type} {f : α → β} (inj : ∀ x y, f x = f y → x = y) : ∀ {l : List α}, l.Nodup → (l.map f).Nodup
  | [], _ => by simp
  | x :: l, nd => by
    have nd2 := List.nodup_cons.mp nd
    rw [List.map_cons]
    refine List.nodup_cons.mpr ⟨fun h => ?_, nodup_map inj nd2.2⟩
    obtain ⟨y, hy, e⟩ := List.mem_map.mp h
    exact nd2.1 (inj _ _ e ▸ hy)
theorem filter_one {α β : Type} [DecidableEq β] {f : α → β} {y : β} : ∀ {l : List α}, (l.map f).Nodup → (l.filter fun x => decide (f x = y)).length ≤ 1
  | [], _ => by simp
  | x :: l, nd => by
    rw [List.map_cons] at nd
    have nd2 := List.nodup_cons.mp nd
    by_cases e : f x = y
    · rw [List.filter_cons_of_pos (by simpa using e)]
      have : l.filter (fun z => decide (f z = y)) = [] := by
        rw [List.filter_eq_nil_iff]
        intro z hz h
        have h := of_decide_eq_true h
        exact nd2.1 (List.mem_map.mpr ⟨z, hz, by rw [h, e]⟩)
      rw [this]
      simp
    · rw [List.filter_cons_of_neg (by simpa using e)]
      exact filter_one nd2.2
theorem barred_drops : (barred.map fun b => (codes b).dropLast).Nodup := by decide +kernel
theorem cand_free (w : Str) {found : List Str} (l : found.length ≤ 20) : ∃ x ∈ cands w, x ∉ found ∧ x ∉ barred := by
  refine Classical.byContradiction fun no => ?_
  have all : ∀ x ∈ (codes lettersS).map (fun c => txt ((codes w).take 7 ++ [c])), x ∈ found ++ barred.filter fun b => decide ((codes b).dropLast = (codes w).take 7) := fun x hx => by
    refine Classical.byContradiction fun q => no ⟨x, List.mem_cons_of_mem _ hx, fun h => q (List.mem_append_left _ h), fun h => q (List.mem_append_right _ ?_)⟩
    obtain ⟨c, hc, rfl⟩ := List.mem_map.mp hx
    refine List.mem_filter.mpr ⟨h, decide_eq_true ?_⟩
    rw [codes_txt, List.dropLast_concat]
  have nd : ((codes lettersS).map fun c => txt ((codes w).take 7 ++ [c])).Nodup := nodup_map (fun a b e => by
    have := congrArg codes e
    rw [codes_txt, codes_txt] at this
    exact List.singleton_inj.mp (List.append_cancel_left this)) letters_nd
  have h1 := sub_len nd all
  have h2 := filter_one (y := (codes w).take 7) barred_drops
  rw [List.length_map, letters_len, List.length_append] at h1
  omega
/-- a text of one to eight small letters -/
def LowT (x : Str) : Prop := Low (codes x) ∧ 1 ≤ (codes x).length ∧ (codes x).length ≤ 8
theorem cand_low {w x : Str} (h : LowT w) (hx : x ∈ cands w) : LowT x := by
  rcases List.mem_cons.mp hx with rfl | hx
  · exact h
  · obtain ⟨c, hc, rfl⟩ := List.mem_map.mp hx
    have hc2 := low_letters c hc
    unfold LowT
    rw [codes_txt]
    refine ⟨fun d hd => ?_, ?_, ?_⟩
    · rcases List.mem_append.mp hd with hd | hd
      · exact h.1 d (List.mem_of_mem_take hd)
      · rw [List.mem_singleton.mp hd]; exact hc2
    · rw [List.length_append]; show 1 ≤ _ + 1; omega
    · rw [List.length_append, List.length_take]; show _ + 1 ≤ 8; omega
theorem low_vw {x : Str} (h : LowT x) (nb : x ∉ barred) : VW x := ⟨h.1, fun e => by have := h.2.1; rw [e] at this; simp at this, h.2.2, fun q => nb (mem_resd q)⟩
theorem words_snoc {ws : List Str} {x : Str} (h : Words ws) (hx : LowT x) (n1 : x ∉ ws) (n2 : x ∉ barred) : Words (ws ++ [x]) := by
  refine ⟨fun y hy => ?_, fun y hy => ?_, ?_⟩
  · rcases List.mem_append.mp hy with hy | hy
    · exact h.vw y hy
    · rw [List.mem_singleton.mp hy]; exact low_vw hx n2
  · rcases List.mem_append.mp hy with hy | hy
    · exact h.nb y hy
    · rw [List.mem_singleton.mp hy]; exact n2
  · refine List.nodup_append.mpr ⟨h.nd, by simp, fun a ha b hb e => ?_⟩
    rw [List.mem_singleton.mp hb] at e
    exact n1 (e ▸ ha)
theorem words_nil : Words [] := ⟨fun _ h => by simp at h, fun _ h => by simp at h, by simp⟩
theorem cut_toA (z : Str) (k : Nat) : codes (cutS z none (some (k : Int))) = (codes z).take k := by
  unfold cutS codes
  rw [HT.sIx_nat, HT.sIx_none]
  have e : z.length = z.cps.toList.length := len_codes z
  simp only [List.drop_zero, Nat.sub_zero]
  by_cases h : k ≤ z.length
  · rw [Nat.min_eq_left h]
  · rw [Nat.min_eq_right (by omega), List.take_of_length_le (by omega), List.take_of_length_le (by omega)]
theorem cut_fromA (z : Str) (k : Nat) : codes (cutS z (some (k : Int)) none) = (codes z).drop k := by
  unfold cutS codes
  rw [HT.sIx_nat, HT.sIx_none]
  have e : z.length = z.cps.toList.length := len_codes z
  by_cases h : k ≤ z.length
  · rw [Nat.min_eq_left h, e]
    simp only []
    rw [List.take_of_length_le (by rw [List.length_drop]; omega)]
  · rw [Nat.min_eq_right (by omega)]
    simp only [Nat.sub_self, List.take_zero]
    rw [List.drop_of_length_le (by omega)]
theorem pe_imp {X : Cx} {e : Expr} {t t' : TE} (h : PE X e t) (k : ∀ σ H Q, t' σ H Q → t σ H Q) : PE X e t' := ⟨fun pins s σ H Q I q => h.run pins s σ H Q I (k σ H Q q)⟩
/-- one to eight letters joined -/
def tJn : TE := fun σ H Q => ∃ (p c : Addr) (ns : List Int) (n : Nat) (a1 a3 a4 a5 a6 a7 a8 a9 a10 a11 a12 : Option V), σ = [some (.ref p), a1, some (.str lettersS), a3, a4, a5, a6, a7, a8, a9, a10, a11, a12] ∧ Pen H p c ns n ∧ n + 10 ≤ 100000 ∧ ∀ b H', LowT b → Keep p H H' → Pen H' p c ns (n + 9) → Q (.str b) H'
theorem letter_of {j : Nat} {v : V} (h : ((codes lettersS).map fun c => V.str ⟨#[c]⟩)[j]? = some v) : ∃ i, i < 26 ∧ v = .str ⟨#[97 + i]⟩ := by
  obtain ⟨c, hc, rfl⟩ := List.mem_map.mp (List.mem_of_getElem? h)
  have := low_letters c hc
  exact ⟨c - 97, by omega, by rw [show 97 + (c - 97) = c by omega]⟩
theorem cut8 {x : Str} (h : LowT x) : cutS x none (some 8) = x := codes_inj (by
  rw [show (8 : Int) = ((8 : Nat) : Int) from rfl, cut_toA]
  exact List.take_of_length_le h.2.2)
/-- a fresh list of m words -/
def spWordsB : Sp := fun vs H Q _ => ∃ (p c : Addr) (ns : List Int) (n m : Nat), vs = [.ref p, .int m] ∧ Pen H p c ns n ∧ n + 300 ≤ 100000 ∧ m ≤ 20 ∧
  ∀ (l : Addr) (ws : List Str) (H' : Hp), Words ws → ws.length = m → H' l = some (.lst (ws.map V.str)) → l ≠ p → Keep p H H' → Pen H' p c ns (n + 250) → Q (.ref l) H'
section
variable {P : Program} {w : World} {K : PySem.W.Frag} {mg : Str → Option Value} {base : Heap}
theorem scWordsB : FnScope nWordsB ["_law_pen_here", "_law_many"] (defScope sWords) := ⟨rfl, rfl, rfl, by decide +kernel, rfl, by decide +kernel, by decide +kernel⟩
set_option maxHeartbeats 1000000 in
theorem ok_wordsB {f fD fP : Addr} {fd fdD fdP : FuncData} (F : Fun K "_law_words" "_law_words" sWords f fd) (T : Bi mg) (D : Df K mg "_law_draw" sDraw fD fdD ["_law_pen_here", "_law_many"]) (GD : FnOk P w K mg base CX0 1 fD fdD ["_law_pen_here", "_law_many"] spDraw)
    (PK : Df K mg "_law_pick" sPick fP fdP ["_law_pen_here", "_law_some"]) (GP : FnOk P w K mg base CX0 2 fP fdP ["_law_pen_here", "_law_some"] spPick) : FnOk P w K mg base CX0 3 f fd ["_law_pen_here", "_law_many"] spWordsB := by
  refine F.ok scWordsB (fun vs H Q E h => ?_) (fun cdv A outer s H vs Q E hr h => ?_)
  · obtain ⟨p, c, ns, n, m, rfl, _⟩ := h
    rfl
  · obtain ⟨p, c, ns, n, m, rfl, P0, hn, hm, k⟩ := h
    have hr1 : Room 1 _ := hr.mono (by decide)
    have hr2 : Room 2 _ := hr
    refine ⟨_, (pss_cons (ps_set (i := 2) scWordsB.nd rfl (Or.inr rfl) pe_str)
      (pss_cons (ps_set (i := 3) scWordsB.nd rfl (Or.inr rfl) (pe_lst (pa_cons pe_str (pa_cons pe_str (pa_cons pe_str (pa_cons pe_str (pa_cons pe_str (pa_cons pe_str (pa_cons pe_str (pa_cons pe_str (pa_cons pe_str (pa_cons pe_str (pa_cons pe_str pa_nil)))))))))))))
      (pss_cons (ps_set (i := 3) scWordsB.nd rfl (Or.inr rfl) (pe_op op_cat (pv 3) (pe_lst (pa_cons pe_str (pa_cons pe_str (pa_cons pe_str (pa_cons pe_str (pa_cons pe_str (pa_cons pe_str (pa_cons pe_str (pa_cons pe_str (pa_cons pe_str (pa_cons pe_str (pa_cons pe_str pa_nil))))))))))))))
      (pss_cons (ps_set (i := 3) scWordsB.nd rfl (Or.inr rfl) (pe_op op_cat (pv 3) (pe_lst (pa_cons pe_str (pa_cons pe_str pa_nil)))))
      (pss_cons (ps_set (i := 4) scWordsB.nd rfl (Or.inl rfl) (pe_imp (t' := tJn) (pe_join pe_str (pe_lc (own := [("_law_k", 6)]) (g := gName 6) (tt := tYes) rfl scWordsB.nd (pi_range1 rfl T.range (pa_cons (pe_op op_add pe_int (pe_call GD hr1 (by rfl) D.m D.F.kp D.b .nil pass0 (pa_cons (pv 0) (pa_cons pe_int pa_nil)))) pa_nil)) (blkOk_by (N := nWordsB) (sc := defScope sWords) (by decide +kernel)) (fun _ _ _ _ _ => pg_name (i := 6) scWordsB.nd rfl (Or.inl rfl)) (fun _ _ _ _ _ => pts_nil) (fun _ _ _ _ _ => pe_call GP hr2 (by rfl) PK.m PK.F.kp PK.b .nil pass0 (pa_cons (pv 0) (pa_cons (pv 2) pa_nil))))) (fun σ H Q h => ?j0)))
      (pss_cons (ps_set (i := 5) scWordsB.nd rfl (Or.inr rfl) (pe_lst pa_nil))
      (pss_cons (ps_for PassesOwn.never rfl (pi_range1 rfl T.range (pa_cons (pv 1) pa_nil)) (pg_name (i := 6) scWordsB.nd rfl (Or.inl rfl))
      (pss_cons (ps_set (i := 7) scWordsB.nd rfl (Or.inl rfl) (pe_call GD hr1 (by rfl) D.m D.F.kp D.b .nil pass0 (pa_cons (pv 0) (pa_cons (pe_op op_add (pe_callB call_len_str (by rfl) T.len PySem.boot_len (pa_cons (pv 4) pa_nil)) pe_int) pa_nil))))
        (pss_cons (ps_set (i := 8) scWordsB.nd rfl (Or.inr rfl) (pe_op op_add_str (pe_op op_add_str (pe_slice sl_str (pv 4) po_none (po_some (pv 7))) (pe_call GP hr2 (by rfl) PK.m PK.F.kp PK.b .nil pass0 (pa_cons (pv 0) (pa_cons (pv 2) pa_nil)))) (pe_slice sl_str (pv 4) (po_some (pe_op op_add (pv 7) pe_int)) po_none)))
        (pss_cons (ps_if (pt_cmpR op_eq (pv 7) (pe_callB call_len_str (by rfl) T.len PySem.boot_len (pa_cons (pv 4) pa_nil)) (nomark _))
        (pss_one (ps_set (i := 8) scWordsB.nd rfl (Or.inr rfl) (pe_slice sl_str (pv 4) po_none (po_some (pe_op op_add pe_int (pe_call GD hr1 (by rfl) D.m D.F.kp D.b .nil pass0 (pa_cons (pv 0) (pa_cons (pe_callB call_len_str (by rfl) T.len PySem.boot_len (pa_cons (pv 4) pa_nil)) pa_nil))))))))
        pss_nil)
        (pss_cons (ps_if (pt_cmpR op_gt (pv 7) (pe_callB call_len_str (by rfl) T.len PySem.boot_len (pa_cons (pv 4) pa_nil)) (nomark _))
        (pss_one (ps_set (i := 8) scWordsB.nd rfl (Or.inr rfl) (pe_imp (t' := tJn) (pe_join pe_str (pe_lc (own := [("_law_j", 9)]) (g := gName 9) (tt := tYes) rfl scWordsB.nd (pi_range1 rfl T.range (pa_cons (pe_op op_add pe_int (pe_call GD hr1 (by rfl) D.m D.F.kp D.b .nil pass0 (pa_cons (pv 0) (pa_cons pe_int pa_nil)))) pa_nil)) (blkOk_by (N := nWordsB) (sc := defScope sWords) (by decide +kernel)) (fun _ _ _ _ _ => pg_name (i := 9) scWordsB.nd rfl (Or.inl rfl)) (fun _ _ _ _ _ => pts_nil) (fun _ _ _ _ _ => pe_call GP hr2 (by rfl) PK.m PK.F.kp PK.b .nil pass0 (pa_cons (pv 0) (pa_cons (pv 2) pa_nil))))) (fun σ H Q h => ?j1))))
        pss_nil)
        (pss_cons (ps_set (i := 10) scWordsB.nd rfl (Or.inl rfl) (pe_op op_cat (pe_lst (pa_cons (pe_slice sl_str (pv 8) po_none (po_some pe_int)) pa_nil)) (pe_lc (own := [("_law_letter", 11)]) (g := gName 11) (tt := tYes) rfl scWordsB.nd (pi_str (pv 2)) (blkOk_by (N := nWordsB) (sc := defScope sWords) (by decide +kernel)) (fun _ _ _ _ _ => pg_name (i := 11) scWordsB.nd rfl (Or.inl rfl)) (fun _ _ _ _ _ => pts_nil) (fun _ _ _ _ _ => pe_op op_add_str (pe_slice sl_str (pv 8) po_none (po_some pe_int)) (pv 11)))))
        (pss_one (ps_expr (pe_bm PySem.F.plainAttrs_list PySem.F.slot_list_append PySem.F.type_list_append mt_append (pv 5) (pa_cons (pe_ix ix_list (pe_lc (own := [("_law_one", 12)]) (g := gName 12)  rfl scWordsB.nd (pi_list (pv 10)) (blkOk_by (N := nWordsB) (sc := defScope sWords) (by decide +kernel)) (fun _ _ _ _ _ => pg_name (i := 12) scWordsB.nd rfl (Or.inl rfl)) (fun _ _ _ _ _ => pts_one (PW.pt (pw_and (pt_cmpR (op_notIn_seqK (K' := K) rfl) (pv 12) (pv 5) rfl) (pw_and1 (pt_cmpR (op_notIn_seqK (K' := K) rfl) (pv 12) (pv 3) rfl))))) (fun _ _ _ _ _ => pv 12)) pe_int (fun _ _ => rfl)) pa_nil))))))))))
      (pss_one (ps_ret (pv 5)))))))))), ?_⟩
    case j0 =>
      obtain ⟨p, c, ns, n, a1, a3, a4, a5, a6, a7, a8, a9, a10, a11, a12, rfl, P0, hn, k⟩ := h
      refine ⟨⟨_, rfl⟩, _, rfl, p, c, ns, n, 8, rfl, P0, by omega, by decide, by decide, fun v1 H1 v10 v11 k1 P1 => ?_⟩
      obtain ⟨q1, rfl⟩ : ∃ j : Nat, v1 = (j : Int) := ⟨v1.toNat, (Int.toNat_of_nonneg v10).symm⟩
      refine ⟨_, _, rfl, rfl, ((1 + q1 : Nat) : Int), rfl, by omega, by omega, fun D1 hD1 => ?_⟩
      have hD1H : H D1 = none := k1.fresh P1 hD1
      have hpD := P1.pne hD1
      have hcD := P1.cne hD1
      refine lc_range (lo := 0) (n := 1 + q1) (fun i Hc => ∃ ys : List Nat, Low ys ∧ ys.length = i ∧ Hc D1 = some (.lst ((ys.map fun c => (⟨#[c]⟩ : Str)).map V.str)) ∧ Keep p H Hc ∧ Pen Hc p c ns (n + 1 + i)) ?_ ?_ ?_
      · exact ⟨[], fun _ h => (by cases h), rfl, upd_same, k1.new hD1H, P1.new hD1⟩
      · rintro i Hc hi ⟨ys, hys, hyl, hD, kc, Pc⟩
        refine ⟨rfl, _, rfl, _, rfl, p, c, ns, n + 1 + i, _, _, rfl, Pc, by omega, .inr (.inl ⟨lettersS, rfl, rfl, by decide +kernel⟩), by decide +kernel, by decide +kernel, fun j0 v0 Hd hv0 kd Pd => ?_⟩
        obtain ⟨j, hj, rfl⟩ := letter_of hv0
        refine ⟨_, kd D1 _ hD hpD.symm, ?_, ys ++ [97 + j], ?_, ?_, ?_, ?_, ?_⟩
        · rw [List.length_map, List.length_map, hyl]
          show _ < 16777216
          omega
        · intro d hd
          rcases List.mem_append.mp hd with hd | hd
          · exact hys d hd
          · have : d = 97 + j := by simpa using hd
            omega
        · rw [List.length_append, hyl]
          rfl
        · rw [upd_same, List.map_append, List.map_append]
          rfl
        · exact (kc.trans kd).new hD1H
        · exact Pd.upd' hpD hcD
      · rintro Hj ⟨ys, hys, hyl, hD, kj, Pj⟩
        refine ⟨Str.empty, D1, ys.map fun c => (⟨#[c]⟩ : Str), rfl, rfl, .inl (SqL.of hD), ?_, ?_⟩
        · rw [sum_ones, List.length_map]
          show ys.length + ys.length * 0 ≤ 16777216
          omega
        have hb0 := join_ones ys
        generalize Txt.join Str.empty (ys.map fun c => (⟨#[c]⟩ : Str)) = b0 at hb0
        exact k b0 Hj ⟨by rw [hb0]; exact hys, by rw [hb0]; omega, by rw [hb0]; omega⟩ kj (Pj.mono (by omega))
    case j1 =>
      obtain ⟨p, c, ns, n, a1, a3, a4, a5, a6, a7, a8, a9, a10, a11, a12, rfl, P0, hn, k⟩ := h
      refine ⟨⟨_, rfl⟩, _, rfl, p, c, ns, n, 8, rfl, P0, by omega, by decide, by decide, fun v1 H1 v10 v11 k1 P1 => ?_⟩
      obtain ⟨q1, rfl⟩ : ∃ j : Nat, v1 = (j : Int) := ⟨v1.toNat, (Int.toNat_of_nonneg v10).symm⟩
      refine ⟨_, _, rfl, rfl, ((1 + q1 : Nat) : Int), rfl, by omega, by omega, fun D1 hD1 => ?_⟩
      have hD1H : H D1 = none := k1.fresh P1 hD1
      have hpD := P1.pne hD1
      have hcD := P1.cne hD1
      refine lc_range (lo := 0) (n := 1 + q1) (fun i Hc => ∃ ys : List Nat, Low ys ∧ ys.length = i ∧ Hc D1 = some (.lst ((ys.map fun c => (⟨#[c]⟩ : Str)).map V.str)) ∧ Keep p H Hc ∧ Pen Hc p c ns (n + 1 + i)) ?_ ?_ ?_
      · exact ⟨[], fun _ h => (by cases h), rfl, upd_same, k1.new hD1H, P1.new hD1⟩
      · rintro i Hc hi ⟨ys, hys, hyl, hD, kc, Pc⟩
        refine ⟨rfl, _, rfl, _, rfl, p, c, ns, n + 1 + i, _, _, rfl, Pc, by omega, .inr (.inl ⟨lettersS, rfl, rfl, by decide +kernel⟩), by decide +kernel, by decide +kernel, fun j0 v0 Hd hv0 kd Pd => ?_⟩
        obtain ⟨j, hj, rfl⟩ := letter_of hv0
        refine ⟨_, kd D1 _ hD hpD.symm, ?_, ys ++ [97 + j], ?_, ?_, ?_, ?_, ?_⟩
        · rw [List.length_map, List.length_map, hyl]
          show _ < 16777216
          omega
        · intro d hd
          rcases List.mem_append.mp hd with hd | hd
          · exact hys d hd
          · have : d = 97 + j := by simpa using hd
            omega
        · rw [List.length_append, hyl]
          rfl
        · rw [upd_same, List.map_append, List.map_append]
          rfl
        · exact (kc.trans kd).new hD1H
        · exact Pd.upd' hpD hcD
      · rintro Hj ⟨ys, hys, hyl, hD, kj, Pj⟩
        refine ⟨Str.empty, D1, ys.map fun c => (⟨#[c]⟩ : Str), rfl, rfl, .inl (SqL.of hD), ?_, ?_⟩
        · rw [sum_ones, List.length_map]
          show ys.length + ys.length * 0 ≤ 16777216
          omega
        have hb0 := join_ones ys
        generalize Txt.join Str.empty (ys.map fun c => (⟨#[c]⟩ : Str)) = b0 at hb0
        exact k b0 Hj ⟨by rw [hb0]; exact hys, by rw [hb0]; omega, by rw [hb0]; omega⟩ kj (Pj.mono (by omega))
    -- the words that are barred
    refine ⟨(by show 11 ≤ sizeLine; decide), fun b1 hb1 => ?_⟩
    generalize hx1 : [V.str "pass", .str "raise", .str "from", .str "none", .str "again", .str "return", .str "returns", .str "break", .str "call", .str "handling", .str "else"] = x1 at hb1 ⊢
    have s1 : Same H (upd H b1 (.lst x1)) := (Same.refl H).put hb1
    have e1 : (upd H b1 (.lst x1)) b1 = some (.lst x1) := upd_same
    generalize upd H b1 (.lst x1) = H1 at s1 e1 ⊢
    refine ⟨_, rfl, (by show 11 ≤ sizeLine; decide), fun b2 hb2 => ?_⟩
    generalize hx2 : [V.str "either", .str "or", .str "loop", .str "try", .str "except", .str "as", .str "finally", .str "with", .str "quiet", .str "class", .str "def"] = x2 at hb2 ⊢
    have s2 : Same H1 (upd H1 b2 (.lst x2)) := (Same.refl H1).put hb2
    have e2 : (upd H1 b2 (.lst x2)) b2 = some (.lst x2) := upd_same
    generalize upd H1 b2 (.lst x2) = H2 at s2 e2 ⊢
    refine ⟨b1, b2, _, _, rfl, rfl, s2 _ _ e1, e2, (by rw [← hx1, ← hx2]; show 22 ≤ 16777216; decide), fun b3 hb3 => ?_⟩
    have s3 : Same H2 (upd H2 b3 (.lst (x1 ++ x2))) := (Same.refl H2).put hb3
    have e3 : (upd H2 b3 (.lst (x1 ++ x2))) b3 = some (.lst (x1 ++ x2)) := upd_same
    generalize upd H2 b3 (.lst (x1 ++ x2)) = H3 at s3 e3 ⊢
    refine ⟨_, rfl, (by show 2 ≤ sizeLine; decide), fun b4 hb4 => ?_⟩
    generalize hx3 : [V.str "error", .str "vacant"] = x3 at hb4 ⊢
    have s4 : Same H3 (upd H3 b4 (.lst x3)) := (Same.refl H3).put hb4
    have e4 : (upd H3 b4 (.lst x3)) b4 = some (.lst x3) := upd_same
    generalize upd H3 b4 (.lst x3) = H4 at s4 e4 ⊢
    refine ⟨b3, b4, _, _, rfl, rfl, s4 _ _ e3, e4, (by rw [← hx1, ← hx2, ← hx3]; show 24 ≤ 16777216; decide), fun bl hbl => ?_⟩
    have eb : x1 ++ x2 ++ x3 = barred.map V.str := by rw [← hx1, ← hx2, ← hx3]; rfl
    rw [eb]
    clear hx1 hx2 hx3 eb e1 e2 e3 e4
    have s5 : Same H4 (upd H4 bl (.lst (barred.map V.str))) := (Same.refl H4).put hbl
    have e5 : (upd H4 bl (.lst (barred.map V.str))) bl = some (.lst (barred.map V.str)) := upd_same
    have s05 := (((s1.trans s2).trans s3).trans s4).trans s5
    have nbl : bl ≠ p := ((P0.same (((s1.trans s2).trans s3).trans s4)).pne hbl).symm
    generalize upd H4 bl (.lst (barred.map V.str)) = H5 at s05 e5 ⊢
    have P5 := P0.same s05
    clear s1 s2 s3 s4 s5
    refine ⟨p, c, ns, n, _, _, _, _, _, _, _, _, _, _, _, rfl, P5, by omega, fun b H6 hb k6 P6 => ?_⟩
    have e6 := k6 _ _ e5 nbl
    have lb := len_codes b
    refine ⟨Nat.zero_le _, fun l hl => ?_⟩
    have nl : l ≠ p := (P6.pne hl).symm
    have ncl : c ≠ l := P6.cne hl
    have k06 : Keep p H H6 := s05.keep.trans k6
    have hlH : H l = none := k06.fresh P6 hl
    have nbl2 : bl ≠ l := ne_of_none e6 hl
    refine ⟨_, rfl, _, rfl, by omega, by omega, for_range (lo := 0) (n := m) (fun i σ Hc => ∃ (v6 v7 v8 v9 v10 v11 v12 : Option V) (ws : List Str), σ = [some (.ref p), some (.int m), some (.str lettersS), some (.ref bl), some (.str b), some (.ref l), v6, v7, v8, v9, v10, v11, v12] ∧
      Words ws ∧ ws.length = i ∧ Hc l = some (.lst (ws.map V.str)) ∧ Hc bl = some (.lst (barred.map V.str)) ∧ Keep p H Hc ∧ Pen Hc p c ns (n + 10 + 12 * i)) ?_ ?_ ?_⟩
    · exact ⟨_, _, _, _, _, _, _, [], rfl, words_nil, rfl, upd_same, by rw [upd_ne nbl2]; exact e6, k06.new hlH, (P6.new hl).mono (by omega)⟩
    · rintro i σ Hc hi ⟨v6, v7, v8, v9, v10, v11, v12, ws, rfl, hws, wsl, hL, hB, kc, Pc⟩
      have i20 : i < 20 := by omega
      refine ⟨_, rfl, _, rfl, _, rfl, (by rw [lb]; show _ ≤ 16777216; have := hb.2.2; omega), _, _, rfl, rfl, p, c, ns, _, _, rfl, Pc, by omega, by omega, (by rw [lb]; have := hb.2.2; omega), fun dv H7 d0 d1 k7 P7 => ?_⟩
      obtain ⟨at', rfl⟩ : ∃ j : Nat, dv = (j : Int) := ⟨dv.toNat, (Int.toNat_of_nonneg d0).symm⟩
      have k07 := kc.trans k7
      have bl8 := hb.2.2
      refine ⟨_, rfl, _, rfl, _, rfl, _, rfl, (by rw [lb]; show _ ≤ 16777216; omega), _, rfl, _, rfl, p, c, ns, _, _, _, rfl, P7, by omega, .inr (.inl ⟨lettersS, rfl, rfl, by decide +kernel⟩), by decide +kernel, by decide +kernel, fun j0 v0 H8 hv0 k8 P8 => ?_⟩
      obtain ⟨jl, hjl, rfl⟩ := letter_of hv0
      have k08 := k07.trans k8
      refine ⟨_, _, rfl, rfl, ?len1, _, rfl, _, rfl, _, _, rfl, rfl, _, rfl, _, rfl, (by rw [lb]; show _ ≤ 16777216; omega), _, _, rfl, rfl, ?len2, ?_⟩
      case len1 =>
        rw [len_codes (cutS b none (some (at' : Int))), cut_toA, List.length_take]
        show _ + 1 ≤ 16777216
        omega
      case len2 =>
        rw [len_codes (cutS b none (some (at' : Int)) ++ _), codes_append, cut_toA, show ((at' : Int) + 1) = ((at' + 1 : Nat) : Int) from rfl, len_codes (cutS b _ none), cut_fromA, List.length_append, List.length_take, List.length_drop]
        show _ + 1 + _ ≤ 16777216
        omega
      have hW : codes (cutS b none (some (at' : Int)) ++ (⟨#[97 + jl]⟩ : Str) ++ cutS b (some ((at' : Int) + 1)) none) = (codes b).take at' ++ [97 + jl] ++ (codes b).drop (at' + 1) := by
        rw [codes_append, codes_append, cut_toA, show ((at' : Int) + 1) = ((at' + 1 : Nat) : Int) from rfl, cut_fromA]
        rfl
      generalize cutS b none (some (at' : Int)) ++ (⟨#[97 + jl]⟩ : Str) ++ cutS b (some ((at' : Int) + 1)) none = W at hW ⊢
      refine ⟨_, rfl, _, rfl, _, rfl, (by rw [lb]; show _ ≤ 16777216; omega), rfl, _, rfl, ite2 (fun z => ?ca) (fun z => ?cb)⟩
      case' ca =>
        refine ⟨_, rfl, _, rfl, _, rfl, _, rfl, (by rw [lb]; show _ ≤ 16777216; omega), p, c, ns, _, _, rfl, P8, by omega, (by rw [lb]; have := hb.2.1; omega), (by rw [lb]; omega), fun dk H9 q0 q1 k9 P9 => ?_⟩
        obtain ⟨dn, rfl⟩ : ∃ j : Nat, dk = (j : Int) := ⟨dk.toNat, (Int.toNat_of_nonneg q0).symm⟩
        have k09 := k08.trans k9
        have k79 := (k7.trans k8).trans k9
        have hx : LowT (cutS b none (some (1 + (dn : Int)))) := by
          unfold LowT
          rw [show (1 + (dn : Int)) = ((1 + dn : Nat) : Int) from rfl, cut_toA, List.length_take]
          refine ⟨fun d hd => hb.1 d (List.mem_of_mem_take hd), ?_, by omega⟩
          have := hb.2.1
          omega
        refine ⟨_, _, rfl, rfl, _, rfl, _, rfl, (by rw [lb]; show _ ≤ 16777216; omega), ?_⟩
        generalize cutS b none (some (1 + (dn : Int))) = x at hx ⊢
        refine ⟨_, rfl, _, rfl, _, rfl, (by rw [lb]; show _ ≤ 16777216; omega), _, _, rfl, rfl, _, rfl, ite2 (fun z2 => ?nev) (fun _ => ?_)⟩
        case nev =>
          have e1 : (at' : Int) = (b.length : Int) := V.int.inj (of_decide_eq_true z)
          have e2 : (at' : Int) > (b.length : Int) := of_decide_eq_true z2
          omega
        replace P9 := P9.mono (m := n + 10 + 12 * i + 11) (by omega)
      case' cb =>
        have ne : at' ≠ (codes b).length := fun e => z (by rw [e, ← lb]; exact decide_eq_true rfl)
        refine ⟨_, rfl, _, rfl, _, rfl, (by rw [lb]; show _ ≤ 16777216; omega), _, _, rfl, rfl, _, rfl, ite2 (fun z2 => ?cc) (fun z2 => ?cd)⟩
      case' cc =>
        refine ⟨p, c, ns, _, _, _, _, _, _, _, _, _, _, _, _, rfl, P8, by omega, fun x H9 hx k9 P9 => ?_⟩
        have k09 := k08.trans k9
        have k79 := (k7.trans k8).trans k9
        replace P9 := P9.mono (m := n + 10 + 12 * i + 11) (by omega)
      case' cd =>
        have lt : at' < (codes b).length := by
          have : ¬ ((at' : Int) > (b.length : Int)) := fun q => z2 (decide_eq_true q)
          rw [lb] at this
          omega
        have hx : LowT W := by
          unfold LowT
          rw [hW]
          refine ⟨fun d hd => ?_, ?_, ?_⟩
          · rcases List.mem_append.mp hd with hd | hd
            · rcases List.mem_append.mp hd with hd | hd
              · exact hb.1 d (List.mem_of_mem_take hd)
              · rw [List.mem_singleton.mp hd]; omega
            · exact hb.1 d (List.mem_of_mem_drop hd)
          · rw [List.length_append, List.length_append]; show 1 ≤ _ + 1 + _; omega
          · rw [List.length_append, List.length_append, List.length_take, List.length_drop]; show _ + 1 + _ ≤ 8; omega
        have k09 := k08
        have k79 := k7.trans k8
        clear hW
        generalize W = x at hx ⊢
        generalize H8 = H9 at P8 k09 k79 ⊢
        have P9 := P8.mono (m := n + 10 + 12 * i + 11) (by omega)
      all_goals
        have hL9 := k79 _ _ hL nl
        have hB9 := k79 _ _ hB nbl
        have lx := len_codes x
        have lx8 := hx.2.2
        refine ⟨_, rfl, 8, rfl, _, rfl, (by rw [lx]; show _ ≤ 16777216; omega), (by show 1 ≤ sizeLine; decide), fun l1 hl1 => ?_⟩
        rw [cut8 hx]
        have s1 : Same H9 (upd H9 l1 (.lst [V.str x])) := (Same.refl H9).put hl1
        have e1 : (upd H9 l1 (.lst [V.str x])) l1 = some (.lst [V.str x]) := upd_same
        generalize upd H9 l1 (.lst [V.str x]) = Ha at s1 e1 ⊢
        refine ⟨_, rfl, _, rfl, fun D1 hD1 => ?_⟩
        have eqc : ∀ ch : Nat, V.str (cutS x none (some 7) ++ ⟨#[ch]⟩) = V.str (txt ((codes x).take 7 ++ [ch])) := fun ch => congrArg V.str (codes_inj (by rw [codes_append, show (7 : Int) = ((7 : Nat) : Int) from rfl, cut_toA, codes_txt]; rfl))
        refine lc_it walk_str (fun j Hc => Hc D1 = some (.lst (((codes lettersS).take j).map fun ch => V.str (txt ((codes x).take 7 ++ [ch])))) ∧ Same Ha Hc) ?_ (fun _ _ _ _ => trivial) ?_ ?_
        · exact ⟨upd_same, (Same.refl Ha).put hD1⟩
        · rintro j y Hc _ hj ⟨g1, sm⟩ ⟨rfl, ch, hch, rfl⟩
          have hch' : (codes lettersS)[j]? = some ch := by
            unfold codes
            rw [Array.getElem?_toList]
            exact hch
          have et : (codes lettersS).take (j + 1) = (codes lettersS).take j ++ [ch] := by rw [List.take_add_one, hch']; rfl
          refine ⟨rfl, _, rfl, 7, rfl, _, rfl, (by rw [lx]; show _ ≤ 16777216; omega), _, rfl, _, _, rfl, rfl, ?_, _, g1, ?_, ?_, sm.put hD1⟩
          · rw [len_codes (cutS x none (some 7)), show (7 : Int) = ((7 : Nat) : Int) from rfl, cut_toA, List.length_take]
            show _ + 1 ≤ 16777216
            omega
          · rw [List.length_map, List.length_take, letters_len]
            show _ < 16777216
            omega
          · rw [upd_same, et, List.map_append, eqc]
            rfl
        rintro Hb ⟨g1, s2⟩
        have el : (lettersS).cps.size = (codes lettersS).length := by unfold codes; rw [Array.length_toList]
        rw [el, List.take_length] at g1
        refine ⟨l1, D1, _, _, rfl, rfl, s2 _ _ e1, g1, (by rw [List.length_map, letters_len]; show 1 + 26 ≤ 16777216; decide), fun so hso => ?_⟩
        have ec : [V.str x] ++ ((codes lettersS).map fun ch => V.str (txt ((codes x).take 7 ++ [ch]))) = (cands x).map V.str := by
          unfold cands
          rw [List.map_cons, List.map_map]
          rfl
        rw [ec]
        have s3 : Same Hb (upd Hb so (.lst ((cands x).map V.str))) := (Same.refl Hb).put hso
        have e3 : (upd Hb so (.lst ((cands x).map V.str))) so = some (.lst ((cands x).map V.str)) := upd_same
        generalize upd Hb so (.lst ((cands x).map V.str)) = Hd at s3 e3 ⊢
        have s93 := (s1.trans s2).trans s3
        have hLd := s93 _ _ hL9
        have hBd := s93 _ _ hB9
        have Pd := P9.same s93
        refine ⟨_, rfl, .inl ⟨rfl, _, SqL.of hLd⟩, _, rfl, so, rfl, ⟨_, SqL.of e3⟩, fun D2 hD2 => ?_⟩
        have nD2 : D2 ≠ l := (ne_of_none hLd hD2).symm
        refine lc_list (K := K) (a := so) (xs := (cands x).map V.str) (fun j Hc => Hc D2 = some (.lst ((((cands x).take j).filter fun y => !decide (y ∈ ws) && !decide (y ∈ barred)).map V.str)) ∧ Same Hd Hc) ?_ ?_ ?_ ?_
        · exact ⟨upd_same, (Same.refl Hd).put hD2⟩
        · rintro j Hc _ ⟨_, sd⟩
          exact SqL.of (sd _ _ e3)
        · rintro j y Hc hy ⟨g2, sd⟩
          rw [List.getElem?_map] at hy
          obtain ⟨y0, hy0, rfl⟩ : ∃ y0, (cands x)[j]? = some y0 ∧ y = .str y0 := by
            cases h : (cands x)[j]? with
            | none => rw [h] at hy; cases hy
            | some y0 => rw [h] at hy; exact ⟨y0, rfl, (Option.some.inj hy).symm⟩
          have et : (cands x).take (j + 1) = (cands x).take j ++ [y0] := by rw [List.take_add_one, hy0]; rfl
          have sz : ((((cands x).take j).filter fun y => !decide (y ∈ ws) && !decide (y ∈ barred)).map V.str).length < 16777216 := by
            rw [List.length_map]
            have h1 := List.length_filter_le (fun y => !decide (y ∈ ws) && !decide (y ∈ barred)) ((cands x).take j)
            have h2 : ((cands x).take j).length ≤ 27 := by
              rw [List.length_take]
              have : (cands x).length = 27 := by unfold cands; rw [List.length_cons, List.length_map, letters_len]
              omega
            omega
          refine ⟨rfl, _, rfl, _, rfl, l, _, rfl, .inl (SqL.of (sd _ _ hLd)), rfl, flat_strs _, _, rfl, ?_⟩
          rw [if_pos rfl, inV_strs]
          by_cases h1 : y0 ∈ ws
          · rw [decide_eq_true h1]
            refine iteF ⟨?_, sd⟩
            rw [et, List.filter_append, List.filter_cons_of_neg (by simp [h1]), List.filter_nil, List.append_nil]
            exact g2
          · rw [decide_eq_false h1]
            refine iteT ⟨_, rfl, _, rfl, bl, _, rfl, .inl (SqL.of (sd _ _ hBd)), rfl, flat_strs _, _, rfl, ?_⟩
            rw [if_pos rfl, inV_strs]
            by_cases h2 : y0 ∈ barred
            · rw [decide_eq_true h2]
              refine iteF ⟨?_, sd⟩
              rw [et, List.filter_append, List.filter_cons_of_neg (by simp [h2]), List.filter_nil, List.append_nil]
              exact g2
            · rw [decide_eq_false h2]
              refine iteT ⟨_, rfl, _, g2, sz, ?_, sd.put hD2⟩
              rw [upd_same, et, List.filter_append, List.filter_cons_of_pos (by simp [h1, h2]), List.filter_nil, List.map_append]
              rfl
        rintro He ⟨g2, sd⟩
        rw [List.length_map, List.take_length] at g2
        obtain ⟨y, hy, f1, f2⟩ := cand_free x (found := ws) (by omega)
        obtain ⟨y0, r0, er⟩ : ∃ y0 r0, (cands x).filter (fun y => !decide (y ∈ ws) && !decide (y ∈ barred)) = y0 :: r0 := by
          cases h : (cands x).filter (fun y => !decide (y ∈ ws) && !decide (y ∈ barred)) with
          | nil =>
            rw [List.filter_eq_nil_iff] at h
            exact absurd (by simp [f1, f2]) (h y hy)
          | cons y0 r0 => exact ⟨y0, r0, rfl⟩
        have hm0 : y0 ∈ (cands x).filter (fun y => !decide (y ∈ ws) && !decide (y ∈ barred)) := by rw [er]; exact List.mem_cons_self
        obtain ⟨hc0, hq0⟩ := List.mem_filter.mp hm0
        have hq0 : y0 ∉ ws ∧ y0 ∉ barred := by simpa using hq0
        rw [er] at g2
        refine ⟨D2, _, _, _, rfl, rfl, SqL.of g2, atI_nat (j := 0) rfl, l, _, _, rfl, rfl, sd _ _ hLd, (by rw [List.length_map, wsl]; show _ < 16777216; omega), ?_⟩
        refine ⟨_, _, _, _, _, _, _, ws ++ [y0], rfl, words_snoc hws (cand_low hx hc0) hq0.1 hq0.2, by rw [List.length_append, wsl]; rfl, by rw [upd_same, List.map_append]; rfl, ?_, fun b' o' hb' nb' => ?_, ((Pd.same sd).upd' nl.symm ncl).mono (by omega)⟩
        · rw [upd_ne nbl2]
          exact sd _ _ hBd
        · rw [upd_ne (ne_of_none hb' hlH)]
          exact (k09.trans (s93.trans sd).keep) b' o' hb' nb'
    · rintro σ Hc ⟨v6, v7, v8, v9, v10, v11, v12, ws, rfl, hws, wsl, hL, hB, kc, Pc⟩
      exact ⟨_, rfl, k l ws Hc hws wsl hL nl kc (Pc.mono (by omega))⟩
end
end K2
end
section
set_option Elab.async false
set_option maxRecDepth 100000
set_option linter.all false
/-! super().m(..) in a method of a class of one's own -/
namespace SupX
open PySem PySem.Spec PyProof.Rows L2 NdefX
/-- the cell that says which class a def stands in, and the def's module -/
structure SFun (P : Program) (K : PySem.W.Frag) (D cc : Addr) (x qual : Str) (st : Stmt) (f : Addr) (fd : FuncData) : Prop where
  ex : ∃ (oc : Value) (od : Option Addr) (kV doc pm : Value) (an : Option Addr) (cda : Addr) (ct : Value) (osl : Array (Option Value)),
    fd = PySem.W.fnX x qual (defArgs st) (defBody st) (defScope st) [("__class__", cc)] .none kV doc pm an (.ref cda) ct ∧ K.lookup f = some ⟨oc, od, .func fd, osl⟩ ∧ PySem.W.codeIn K (.ref cda) qual = true ∧
    ∃ (ccl : Value) (cdd : Option Addr) (vs : Array Value) (ccs : Array (Option Value)) (file : Str) (tf : Tok), K.lookup cda = some ⟨ccl, cdd, .fields vs, ccs⟩ ∧ vs[2]? = some (.str file tf) ∧ ((P.main.file : Str) == file) = true
  cell : ∃ (cl : Value) (cld : Option Addr) (csl : Array (Option Value)), K.lookup cc = some ⟨cl, cld, .cell (some (.ref D)), csl⟩
  isc : PySem.W.isClsIn K D = true
  kp : PySem.W.keepIn K (.ref f) = true
/-- C is D or stands below it; D's next m above, from C, is the def at g -/
structure SMeth (K : PySem.W.Frag) (C D : Addr) (m : Str) (g : Addr) : Prop where
  sub : PySem.W.mroIn K C (.ref D) = some true
  op : PySem.W.nsIn K PySem.cStatics "thirdparty.any" = some none
  at_ : PySem.W.ks_superIn K C D m = some (some (.ref g))
  ty : PySem.W.typeIn K (.ref g) = some (.type "function")
  fi : PySem.W.fnIn K g = true
abbrev nfOf (x qual : Str) (st : Stmt) (cc c : Addr) : NF := ⟨x, qual, defArgs st, defBody st, defScope st, [("__class__", cc)], c⟩
/-- code that runs in the def's own activation -/
structure PEA (X : Cx) (c : Code) (e : Expr) (t : TE) : Prop where
  run : ∀ (pins : List (Addr × Obj)) (s : Shared) (σ : L2.St) (H : Hp) (Q : VK), Inv X pins σ H s → t σ H Q → _root_.PySem.wpAt (model X.prog X.w) X.A c (eval e X.env) (EP X pins σ Q) X.xe s
structure PSA (X : Cx) (c : Code) (st : Stmt) (t : TS) : Prop where
  run : ∀ (pins : List (Addr × Obj)) (s : Shared) (σ : L2.St) (H : Hp) (D : Ends), Inv X pins σ H s → t D σ H → _root_.PySem.wpAt (model X.prog X.w) X.A c (exec st X.env) (SP X pins D) X.xe s
structure PSsA (X : Cx) (c : Code) (st : List Stmt) (t : TS) : Prop where
  run : ∀ (pins : List (Addr × Obj)) (s : Shared) (σ : L2.St) (H : Hp) (D : Ends), Inv X pins σ H s → t D σ H → _root_.PySem.wpAt (model X.prog X.w) X.A c (execs st X.env) (SP X pins D) X.xe s
section
variable {X : Cx} {c : Code} {e : Expr} {st : Stmt} {rest : List Stmt} {te : TE} {t u : TS} {pos : Pos}
theorem psa_of (h : PS X st t) : PSA X c st t := ⟨fun pins s σ H D I q => wpAt_of_wpAny (h.run pins s σ H D I q)⟩
theorem pssa_of (h : PSs X rest t) : PSsA X c rest t := ⟨fun pins s σ H D I q => wpAt_of_wpAny (h.run pins s σ H D I q)⟩
theorem pssa_cons (h : PSA X c st t) (k : PSsA X c rest u) : PSsA X c (st :: rest) (tSeq t u) := by
  refine ⟨fun pins s σ H D I q => ks_wpAt_execs_cons (ks_wpAt_mono (h.run pins s σ H { D with nx := u D } I q) (fun fl s' hs => ?_) fun _ _ z => z)⟩
  cases fl with
  | next =>
    obtain ⟨σ', H', J, q'⟩ := hs
    exact k.run pins s' σ' H' D J q'
  | brk => exact hs
  | cont => exact hs
  | ret v => exact hs
theorem psa_ret (h : PEA X c e te) : PSA X c (.Return (some e) pos) (tRet te) := by
  refine ⟨fun pins s σ H D I q => ks_wpAt_Return_some (ks_wpAt_mono (h.run pins s σ H D.rt I q) (fun v s' hs => ?_) fun _ _ z => z)⟩
  obtain ⟨v', H', J, r, q'⟩ := hs
  exact ⟨v', σ, H', J, r, q'⟩
theorem psa_expr (h : PEA X c e te) (hi : interactive X.env = false := by rfl) (hs : swapsWith e none pos.line X.env = pure false := by rfl) : PSA X c (.Expr e pos) (tDrop te) := by
  refine ⟨fun pins s σ H D I q => ks_wpAt_Expr_any (ks_wpAt_mono (h.run pins s σ H _ I q) (fun v s' hs => ?_) fun _ _ z => z) hi hs⟩
  obtain ⟨v', H', J, r, q'⟩ := hs
  exact ⟨σ, H', J, q'⟩
end
/-- what super() asks of the activation -/
structure SAt (P : Program) (K : PySem.W.Frag) (D cc cda f : Addr) (st : Stmt) : Prop where
  fnc : ∃ (oc : Value) (od : Option Addr) (fd : FuncData) (osl : Array (Option Value)), K.lookup f = some ⟨oc, od, .func fd, osl⟩ ∧ fd.params = defArgs st
  code : ∃ (ccl : Value) (cdd : Option Addr) (vs : Array Value) (ccs : Array (Option Value)) (file : Str) (tf : Tok), K.lookup cda = some ⟨ccl, cdd, .fields vs, ccs⟩ ∧ vs[2]? = some (.str file tf) ∧ ((P.main.file : Str) == file) = true
  cell : ∃ (cl : Value) (cld : Option Addr) (csl : Array (Option Value)), K.lookup cc = some ⟨cl, cld, .cell (some (.ref D)), csl⟩
  isc : PySem.W.isClsIn K D = true
section
variable {P : Program} {w : World} {K : PySem.W.Frag} {mg : Str → Option Value} {base : Heap}
/-- THE RULE: a def with super() in it, by its body -/
theorem SFun.ok {D cc : Addr} {x qual : Str} {st : Stmt} {f : Addr} {fd : FuncData} {N ps : List Str} {k : Nat} {sp : Sp} (F : SFun P K D cc x qual st f fd) (S : NScope N ps ["__class__"] (defScope st)) (len : ∀ vs H Q E, sp vs H Q E → vs.length = ps.length)
    (hbody : ∀ (cda : Addr) (A : Around) (outer : List Env) (s : Shared) (H : Hp) (vs : List V) (Q : VK) (E : XK), Room k (A.deeper (envF (nfOf x qual st cc cda) f s.heap.objs.size)) → SAt P K D cc cda f st → sp vs H Q E →
      ∃ t, PSsA (ncx CX0 P w K mg base N (nfOf x qual st cc cda) f A outer s H E).nox (.func (defBody st) (envF (nfOf x qual st cc cda) f s.heap.objs.size)) (defBody st) t ∧ t { nx := fun _ H' => Q .non H', rt := Q } (startF N vs [none]) H) :
    FnOk P w K mg base CX0 (k + 1) f fd ps sp := by
  obtain ⟨oc, od, kV, doc, pm, an, cda, ct, osl, rfl, lk, hcd, hfile⟩ := F.ex
  have SA : SAt P K D cc cda f st := ⟨⟨_, _, _, _, lk, rfl⟩, hfile, F.cell, F.isc⟩
  obtain ⟨cl, cld, csl, lc⟩ := F.cell
  refine ⟨len, fun A outer s H args us vs Q E hr e0 hb r hsp => ?_⟩
  have hl := len _ _ _ _ hsp
  have KX : K.In s.heap := e0.mod.kin.keeps fun b o e => (e0.bs b o e).1
  have lim : s.heap.NoLimit := e0.mod.nolimit.keeps fun b o e => (e0.bs b o e).1
  refine PySem.ks_codeAny_call_defAt (body := defBody st) (binds := ps.zip us) hr.depth (KX _ _ lk) rfl lim (PySem.W.codeRec_of KX hcd) rfl hb S.nocell (fun ⟨n, _⟩ hy => S.par n (List.of_mem_zip hy).1) (fun h₁ hns kp => ?_) S.co S.gen S.kind
  obtain ⟨t, ht, hq⟩ := hbody cda A outer s H vs Q E (hr.deeper _) SA hsp
  have C : CellsAt [(("__class__" : Str), cc)] ["__class__"] [none] s.heap H := by
    refine ⟨rfl, fun y c e => ?_, fun a b c e1 e2 => ?_, fun i y e => ?_⟩
    · obtain ⟨rfl, rfl⟩ : y = "__class__" ∧ c = cc := by
        have := PySem.mem_of_lookup e
        simpa using this
      exact ⟨(e0.bs _ _ (e0.mod.kin _ _ lc)).2, _, _, KX _ _ lc, rfl⟩
    · have h1 := PySem.mem_of_lookup e1
      have h2 := PySem.mem_of_lookup e2
      simp at h1 h2
      rw [h1.1, h2.1]
    · cases i with
      | zero =>
        cases e
        exact ⟨cc, rfl, fun v hv => by cases hv⟩
      | succ i => cases e
  have I : Inv (ncx CX0 P w K mg base N (nfOf x qual st cc cda) f A outer s H E).nox [] (startF N vs [none]) H { s with heap := h₁, toks := s.toks + (ps.zip us).length } := (inv_startN (F := nfOf x qual st cc cda) (f := f) (CX := CX0) (E := E) S hr.hd e0 hl r C hns kp).wish _
  refine PySem.ks_wpAt_mono (ht.run [] _ (startF N vs [none]) H _ I hq) (fun fl s' hs => ?_) fun e s' hs => False.elim hs
  have fin : ∀ {σ' : L2.St} {H' : Hp} {v : V} {u : Value}, Inv (ncx CX0 P w K mg base N (nfOf x qual st cc cda) f A outer s H E).nox [] σ' H' s' → L2.RelV v u → Q v H' → CE outer P w H s Q u s' :=
    fun {σ' H' v u} J rv q => ⟨v, H', J.os, J.bare, J.base, J.hok, rv, q⟩
  cases fl with
  | ret u =>
    obtain ⟨v, σ', H', J, rv, q⟩ := hs
    exact fin J rv q
  | next =>
    obtain ⟨σ', H', J, q⟩ := hs
    exact fin (v := V.non) (u := Value.none) J rfl q
  | brk =>
    obtain ⟨_, _, _, q⟩ := hs
    exact False.elim q
  | cont =>
    obtain ⟨_, _, _, q⟩ := hs
    exact False.elim q
/-- the same for a def that may raise -/
theorem SFun.okX {D cc : Addr} {x qual : Str} {st : Stmt} {f : Addr} {fd : FuncData} {N ps : List Str} {k : Nat} {sp : Sp} (F : SFun P K D cc x qual st f fd) (S : NScope N ps ["__class__"] (defScope st)) (len : ∀ vs H Q E, sp vs H Q E → vs.length = ps.length)
    (hbody : ∀ (cda : Addr) (A : Around) (outer : List Env) (s : Shared) (H : Hp) (vs : List V) (Q : VK) (E : XK), Room k (A.deeper (envF (nfOf x qual st cc cda) f s.heap.objs.size)) → SAt P K D cc cda f st → sp vs H Q E →
      ∃ t, PSsA (ncx (L2.CX P w) P w K mg base N (nfOf x qual st cc cda) f A outer s H E) (.func (defBody st) (envF (nfOf x qual st cc cda) f s.heap.objs.size)) (defBody st) t ∧ t { nx := fun _ H' => Q .non H', rt := Q } (startF N vs [none]) H) :
    FnOk P w K mg base (L2.CX P w) (k + 1) f fd ps sp := by
  obtain ⟨oc, od, kV, doc, pm, an, cda, ct, osl, rfl, lk, hcd, hfile⟩ := F.ex
  have SA : SAt P K D cc cda f st := ⟨⟨_, _, _, _, lk, rfl⟩, hfile, F.cell, F.isc⟩
  obtain ⟨cl, cld, csl, lc⟩ := F.cell
  refine ⟨len, fun A outer s H args us vs Q E hr e0 hb r hsp => ?_⟩
  have hl := len _ _ _ _ hsp
  have KX : K.In s.heap := e0.mod.kin.keeps fun b o e => (e0.bs b o e).1
  have lim : s.heap.NoLimit := e0.mod.nolimit.keeps fun b o e => (e0.bs b o e).1
  refine PySem.ks_codeAny_call_defAt (body := defBody st) (binds := ps.zip us) hr.depth (KX _ _ lk) rfl lim (PySem.W.codeRec_of KX hcd) rfl hb S.nocell (fun ⟨n, _⟩ hy => S.par n (List.of_mem_zip hy).1) (fun h₁ hns kp => ?_) S.co S.gen S.kind
  obtain ⟨t, ht, hq⟩ := hbody cda A outer s H vs Q E (hr.deeper _) SA hsp
  have C : CellsAt [(("__class__" : Str), cc)] ["__class__"] [none] s.heap H := by
    refine ⟨rfl, fun y c e => ?_, fun a b c e1 e2 => ?_, fun i y e => ?_⟩
    · obtain ⟨rfl, rfl⟩ : y = "__class__" ∧ c = cc := by
        have := PySem.mem_of_lookup e
        simpa using this
      exact ⟨(e0.bs _ _ (e0.mod.kin _ _ lc)).2, _, _, KX _ _ lc, rfl⟩
    · have h1 := PySem.mem_of_lookup e1
      have h2 := PySem.mem_of_lookup e2
      simp at h1 h2
      rw [h1.1, h2.1]
    · cases i with
      | zero =>
        cases e
        exact ⟨cc, rfl, fun v hv => by cases hv⟩
      | succ i => cases e
  have I : Inv (ncx (L2.CX P w) P w K mg base N (nfOf x qual st cc cda) f A outer s H E) [] (startF N vs [none]) H { s with heap := h₁, toks := s.toks + (ps.zip us).length } := (inv_startN (F := nfOf x qual st cc cda) (f := f) (CX := L2.CX P w) (E := E) S hr.hd e0 hl r C hns kp)
  refine PySem.ks_wpAt_mono (ht.run [] _ (startF N vs [none]) H _ I hq) (fun fl s' hs => ?_) fun e s' hs => hs
  have fin : ∀ {σ' : L2.St} {H' : Hp} {v : V} {u : Value}, Inv (ncx (L2.CX P w) P w K mg base N (nfOf x qual st cc cda) f A outer s H E) [] σ' H' s' → L2.RelV v u → Q v H' → CE outer P w H s Q u s' :=
    fun {σ' H' v u} J rv q => ⟨v, H', J.os, J.bare, J.base, J.hok, rv, q⟩
  cases fl with
  | ret u =>
    obtain ⟨v, σ', H', J, rv, q⟩ := hs
    exact fin J rv q
  | next =>
    obtain ⟨σ', H', J, q⟩ := hs
    exact fin (v := V.non) (u := Value.none) J rfl q
  | brk =>
    obtain ⟨_, _, _, q⟩ := hs
    exact False.elim q
  | cont =>
    obtain ⟨_, _, _, q⟩ := hs
    exact False.elim q
end
/-- super().m(..): the reading -/
def tSuper (C : Addr) (sp : Sp) (E : XK) (t : TA) : TE := fun σ H Q => ∃ a dx fs, σ[0]? = some (some (.ref a)) ∧ H a = some (.ins C dx fs) ∧ t σ H fun vs H1 => sp (.ref a :: vs) H1 Q E
section
variable {X : Cx} {CX : CXT} {k : Nat} {C D cc cda f g : Addr} {st : Stmt} {body : List Stmt} {env' : Env} {fdg : FuncData} {ps : List Str} {sp : Sp} {E : XK} {e : Expr} {es : List Expr} {m a0 : Str} {p0 p1 apos pos : Pos} {t : TA}
theorem pea_super {pl : Sem Bool} (S : SAt X.prog X.K D cc cda f st) (M : SMeth X.K C D m g) (F : FnOk X.prog X.w X.K X.mg X.base CX k g fdg ps sp) (hr : Room k X.A) (hb : Binds X.K fdg ps []) (hx : Passes CX X E) (ha : PA X (e :: es) t) (hmg : X.mg "super" = none)
    (htop : (X.prog.main.scope.names.lookup ("super" : Str)).isSome = false)
    (h0 : ∃ ar : Arg, ((defArgs st).posonlyargs ++ (defArgs st).args).head? = some ar ∧ ar.arg = a0) (hN : X.N[0]? = some a0 := by rfl) (hl : X.env.kindOf a0 = some .local := by rfl)
    (hks : X.env.kindOf "super" = some .globalImplicit := by rfl) (hkc : X.env.kindOf "__class__" = some .free := by rfl) (hfu : X.env.func = some f := by rfl) (hco : X.env.code = .ref cda := by rfl) (hcl : X.env.cells.lookup ("__class__" : Str) = some cc := by rfl) (hfr : X.env.frame = env'.frame := by rfl)
    (hat : (m == ("__class__" : Str)) = false := by decide)
    (hst : starEach (e :: es) X.env = (false, eval e X.env) :: starEach es X.env := by rfl) (hpl : (backTo pos (starEach es X.env)).any (·.1) = false := by rfl)
    (hev : X.env = env' := by rfl)
    (ht : eval (.Call (.Attribute (.Call (.Name "super" p0) [] [] p1) m apos) (e :: es) [] pos) X.env = (do
      let ov ← attributeBase (.Call (.Name "super" p0) [] [] p1) m X.env (eval (.Call (.Name "super" p0) [] [] p1) X.env)
      standAt apos.atName
      let (f, first) ← holding [ov] (getMethod ov m pl)
      callWith pos f first (backTo pos (starEach (e :: es) X.env)) []) := by rfl) :
    PEA X (.func body env') (.Call (.Attribute (.Call (.Name "super" p0) [] [] p1) m apos) (e :: es) [] pos) (tSuper C sp E t) := by
  subst hev
  refine ⟨fun pins s σ H Q I h => ?_⟩
  obtain ⟨a, dx, fs, hσ, hx1, h⟩ := h
  refine ks_wpAt_MethodCall (pl := pl) ?_ ht
  have KX := I.kIn
  obtain ⟨oc, od, fd, osl, lk, hps⟩ := S.fnc
  obtain ⟨ccl, cdd, vs0, ccs, file, tf, lc, hvs, hfile⟩ := S.code
  obtain ⟨cl, cld, csl, lcell⟩ := S.cell
  obtain ⟨ar, har, harg⟩ := h0
  obtain ⟨cdD, hcdD⟩ := Option.isSome_iff_exists.mp (show (PySem.W.clsIn X.K D).isSome = true from S.isc)
  obtain ⟨mA, O, _, _, _, _⟩ := ins_get I.hok hx1
  obtain ⟨od1, J, _⟩ := O.look
  obtain ⟨oD, hD1, hD2⟩ : ∃ oD, s.heap.get? D = some oD ∧ oD.data = .cls cdD := by
    unfold PySem.W.clsIn at hcdD
    split at hcdD
    · rename_i c d cd' sl ho
      cases hcdD
      exact ⟨_, KX _ _ ho, rfl⟩
    · cases hcdD
  obtain ⟨cdC, hcdC⟩ : ∃ cdC, PySem.W.clsIn X.K C = some cdC := by
    cases hc : PySem.W.clsIn X.K C with
    | none =>
      have := M.at_
      unfold PySem.W.ks_superIn at this
      rw [hc] at this
      cases this
    | some cd => exact ⟨cd, rfl⟩
  refine PySem.ks_wpAt_super_base (env := X.env) (ar := ar) hks hkc hat hfu (KX _ _ lk) rfl (by rw [hps]; exact har) hco (KX _ _ lc) rfl hvs hfile htop ?_
  obtain ⟨mb, b1, b2⟩ := I.mod.blt
  refine PySem.W.ks_loadName_global I.ok.kind hks (Calls.loadGlobal_builtin (by rw [I.ok.glob]; exact I.mod.glob.keeps I.bk) hmg (by rw [I.ok.blt]; exact b1.keeps I.bk) ((b2 "super" (by decide)).trans (show bootBuiltins "super" = some (.type "super") by first | rfl | decide +kernel)) ⟨rfl, ?_⟩)
  refine wpAny_loadName_free I.ok.kind hkc hcl ⟨_, KX _ _ lcell, rfl⟩ ?_
  obtain ⟨mm, hn, hloc⟩ := I.loc
  obtain ⟨u, ru, hlook⟩ := hloc 0 a0 (.ref a) hN hσ (Or.inl hl)
  obtain rfl : u = Value.ref a := ru
  have hm0 : mm a0 = some (.ref a) := by
    rcases hlook with ⟨_, z⟩ | ⟨z, _⟩
    · exact z
    · rw [hl] at z
      rcases z with z | z <;> cases z
  rw [harg]
  refine wpAny_loadName_local I.ok.kind hl hn hm0 ?_
  refine PySem.ks_wpAny_isType_cls hD1 hD2 ⟨rfl, ?_⟩
  refine PySem.ks_wpAny_call_super hD1 hD2 J.at_ J.cls (fun c e => ?_) (PySem.W.looks_mroIn KX M.sub) (fun h' eso kh => ?_)
  · have := J.no
    unfold PySem.W.notCls at this
    rw [e] at this
    exact Bool.noConfusion this
  -- the super object is there
  have I1 : Inv X ((s.heap.objs.size, PySem.W.ks_superObj D a C) :: pins) σ H { s with heap := h' } := ClX.pin_new (t' := s.toks) I (fun b u q => kh b u q) (Nat.le_refl _) eso (fun v z => nomatch z)
  have KX1 : X.K.In h' := I1.kIn
  obtain ⟨of, hof, hofc⟩ : ∃ of, h'.get? g = some of ∧ of.cls = .type "function" := by
    have ht' : (X.K.lookup g).map (·.cls) = some (.type "function") := M.ty
    cases z : X.K.lookup g with
    | none => rw [z] at ht'; cases ht'
    | some of => rw [z] at ht'; exact ⟨of, KX1 _ _ z, Option.some.inj ht'⟩
  have hmro : PySem.W.ks_superIn X.K C D m = some (some (.ref g)) := M.at_
  unfold PySem.W.ks_superIn at hmro
  rw [hcdC] at hmro
  refine PySem.ks_wpAny_getMethod_super (l₀ := cdC.mro) eso (PySem.W.looks_opaque KX1 M.op) ?_ rfl KX1 hmro hof hofc (PySem.W.ks_ne KX J hcdC) hat ?_
  · exact fun A Q E s k q => wpAny_bind ((PySem.W.looks_clsIn KX1 hcdC) A _ E s k (wpAny_pure q))
  have I2 := ClX.met_new (g := g) (C := a) I1
  refine ClX.callwith_cm I2 (ClX.base_none I1 (Nat.le_refl _)) M.fi (thn (ha.run pos _ _ σ H _ I2 h) fun us s3 ⟨vs, H2, I3, rv, q2⟩ => ⟨⟨ClX.pin_at I3, I3.kIn⟩, ?_⟩) hst hpl
  have hl2 : (Value.ref a :: us).length = ps.length := by
    have := F.len _ _ _ _ q2
    rw [← this, List.length_cons, List.length_cons, rv.length]
  have hb2 := hb s3 (.ref a :: us) I3.kIn (by simpa using hl2)
  rw [List.append_nil] at hb2
  have z : wpAny (model X.prog X.w) X.A (call (.ref h'.objs.size) us) (EP X ((h'.objs.size, PySem.W.methodObj (.ref g) (.ref a)) :: (s.heap.objs.size, PySem.W.ks_superObj D a C) :: pins) σ Q) X.xe s3 := by
    refine wpAny_call (PySem.W.method_call (ClX.pin_at I3) (codeAny_mono (F.run X.A X.stack s3 H2 ⟨.ref a :: us, []⟩ (.ref a :: us) (.ref a :: vs) Q E hr I3.env0 hb2 (.cons rfl rv) q2) fun y z hq => ?_))
    cases y with
    | error e => exact hx _ σ H2 s3 e z I3 hq
    | ok fl =>
      cases fl with
      | ret u => exact I3.after hq
      | next => exact hq.elim
      | brk => exact hq.elim
      | cont => exact hq.elim
  exact thn z fun _ _ y => ClX.unpinE (ClX.unpinE y)
end
end SupX
end
section
set_option Elab.async false
set_option maxRecDepth 100000
set_option linter.all false
/-! Level and ByKind -/
namespace K2
open PySem L2 SupX NdefX PyProof.Rows
abbrev sLI : Stmt := inClass (top 20) 1
abbrev sKI : Stmt := inClass (top 23) 1
abbrev sKV : Stmt := inClass (top 23) 2
abbrev sKT : Stmt := inClass (top 23) 3
abbrev sKD : Stmt := inClass (top 23) 4
abbrev sKN : Stmt := inClass (top 23) 5
abbrev nKI : List Str := ["self", "classes", "__class__", "everything"]
abbrev nKT : List Str := ["self", "view", "names", "name"]
/-- in of an object of one's own, within a comprehension -/
theorem op_inOK {X : Cx} {P' : Program} {w' : World} {K' : PySem.W.Frag} {mg' : Str → Option Value} {base' : Heap} {A' : Around} {k : Nat} {f C : Addr} {fd : FuncData} {ps : List Str} {sp : Sp} {E : XK} (F : FnOk P' w' K' mg' base' CX0 k f fd ps sp) (hb : Binds K' fd ps []) (hr : Room k A')
    (hs : PySem.W.findIn K' (.ref C) "__contains__" = some (some (.ref f))) (hf : PySem.W.isFn K' (.ref f) = true) (e1 : X.prog = P') (e2 : X.w = w') (e3 : X.K = K') (e4 : X.mg = mg') (e5 : X.base = base') (e6 : X.A = A') :
    OpR X (compareOp .In) (fun x y H Q => ∃ a dx fs, y = .ref a ∧ H a = some (.ins C dx fs) ∧ sp [.ref a, x] H (fun v H' => ∃ b, v = .bl b ∧ Q (.bl b) H') E) := by
  subst e1 e2 e3 e4 e5 e6
  exact op_inO F hb pass0 hr hs hf
def rInO (C : Addr) (sp : Sp) : R2 := fun x y H Q => ∃ a dx fs, y = .ref a ∧ H a = some (.ins C dx fs) ∧ sp [.ref a, x] H (fun v H' => ∃ b, v = .bl b ∧ Q (.bl b) H') (fun _ _ _ => False)
/-- a field of what a name holds -/
theorem pfv {X : Cx} (i : Nat) {x f : Str} {p0 pos : Pos} (hN : X.N[i]? = some x := by rfl) (hv : Vis X.env.scope x := by first | exact Or.inl rfl | exact Or.inr (Or.inl rfl) | exact Or.inr (Or.inr rfl)) (hd : (x == ("__debug__" : Str)) = false := by decide)
    (hcd : (x == ("__classdict__" : Str)) = false := by decide) (hb : attributeBase (.Name x p0) f X.env (eval (.Name x p0) X.env) = eval (.Name x p0) X.env := by rfl) : PE X (.Attribute (.Name x p0) f pos) (tFld X.K (tVar i) f) := pe_fld (pe_var hN hv hd hcd) hb
/-! the objects -/
def fldsK (cl ev : Addr) : List (Str × V) := putF "_everything" (.ref ev) (putF "classes" (.ref cl) [])
theorem nmc_ : ¬ (("classes" : Str) = "_everything") := by decide +kernel
theorem fldsK_classes (cl ev : Addr) : (fldsK cl ev).lookup ("classes" : Str) = some (.ref cl) := by
  unfold fldsK
  rw [lookup_putF, if_neg nmc_, lookup_putF, if_pos rfl]
theorem fldsK_every (cl ev : Addr) : (fldsK cl ev).lookup ("_everything" : Str) = some (.ref ev) := by
  unfold fldsK
  rw [lookup_putF, if_pos rfl]
theorem fldsK_no (cl ev : Addr) {f : Str} (h1 : ¬ f = "_everything") (h2 : ¬ f = "classes") : (fldsK cl ev).lookup f = none := by
  unfold fldsK
  rw [lookup_putF, if_neg h1, lookup_putF, if_neg h2]
  rfl
theorem _root_.K2.Pen.tup_ne {H : Hp} {p c b : Addr} {ns : List Int} {n : Nat} {xs : List V} (P : Pen H p c ns n) (h : H b = some (.tup xs)) : b ≠ p := fun e => by
  obtain ⟨a, l, hp, _⟩ := P.pen
  rw [e, hp] at h
  cases h
theorem _root_.K2.Pen.ins_ne {H : Hp} {p c b B dx : Addr} {ns : List Int} {n : Nat} {fs : List (Str × V)} (P : Pen H p c ns n) (h : H b = some (.ins B dx fs)) : b ≠ p := fun e => by
  obtain ⟨a, l, hp, _⟩ := P.pen
  rw [e, hp] at h
  cases h
/-- a level of kinds stands at p -/
def LvK (B C : Addr) (H : Hp) (p : Addr) (rs : List Row) (ys : List (List Str)) : Prop := ∃ dx cl ev bs, H p = some (.ins B dx (fldsK cl ev)) ∧ H ev = some (.tup (.str "returns" :: bs.map V.ref)) ∧ PAt H bs ys ∧ ClsW C H cl rs
theorem PAt.sameT {H H' : Hp} {as : List Addr} {ps : List (List Str)} (h : PAt H as ps) (s : ∀ b xs, H b = some (.tup xs) → H' b = some (.tup xs)) : PAt H' as ps := by
  refine (?_ : as.map H' = _)
  have e : as.map H = _ := h
  rw [← e]
  apply List.map_congr_left
  intro b hb
  obtain ⟨xs, _, e⟩ := h.mem hb
  rw [e, s b _ e]
theorem LvK.same {B C p : Addr} {H H' : Hp} {rs : List Row} {ys : List (List Str)} (h : LvK B C H p rs ys) (s : Same H H') : LvK B C H' p rs ys := by
  obtain ⟨dx, cl, ev, bs, h1, h2, h3, h4⟩ := h
  exact ⟨dx, cl, ev, bs, s _ _ h1, s _ _ h2, h3.sameT fun b xs e => s b _ e, h4.same s⟩
theorem LvK.kp {B C p c b : Addr} {ns : List Int} {n : Nat} {H H' : Hp} {rs : List Row} {ys : List (List Str)} (h : LvK B C H b rs ys) (k : Keep p H H') (P : Pen H p c ns n) : LvK B C H' b rs ys := by
  obtain ⟨dx, cl, ev, bs, h1, h2, h3, h4⟩ := h
  exact ⟨dx, cl, ev, bs, k _ _ h1 (P.ins_ne h1), k _ _ h2 (P.tup_ne h2), h3.sameT fun b xs e => k b _ e (P.tup_ne e), h4.kp k P⟩
structure LTxt (K : PySem.W.Frag) (B : Addr) : Prop where
  cl : Cls K B
  nC : NoAttr K B "classes"
  nE : NoAttr K B "_everything"
def spLI (B : Addr) : Sp := fun vs H Q _ => ∃ p cl dx, vs = [.ref p, .ref cl] ∧ H p = some (.ins B dx []) ∧ Q .non (upd H p (.ins B dx (putF "classes" (.ref cl) [])))
def spKI (B C CT : Addr) : Sp := fun vs H Q E => ∃ (p cl dx : Addr) (rs : List Row), vs = [.ref p, .ref cl] ∧ H p = some (.ins B dx []) ∧ ClsW C H cl rs ∧ (keys (ups rs)).Nodup ∧ (keys (ups rs)).length ≤ 40 ∧
  ((keys (ups rs)).length ≤ 6 → ∀ (ev : Addr) (bs : List Addr) (S : List Str) (ys : List (List Str)) (H' : Hp), S.Perm (keys (ups rs)) → sortedS S = true → ys.Perm (growK (ups rs) S).tail → ys.Pairwise tle → H' p = some (.ins B dx (fldsK cl ev)) → H' ev = some (.tup (.str "returns" :: bs.map V.ref)) → PAt H' bs ys → (∀ b o, H b = some o → b ≠ p → H' b = some o) → Q .non H') ∧
  (6 < (keys (ups rs)).length → ∀ (d : Addr) (H' : Hp), Same H H' → H' d = some (.xd [("most", .int 6), ("what", .str "classes")]) → E (.ref CT) (some d) H')
def spKV : Sp := fun vs H Q _ => ∃ (p : Addr) (nm : Str) (z : V), vs = [.ref p, .str nm, z] ∧ ∀ a H', Same H H' → H' a = some (.tup [.str nm]) → Q (.ref a) H'
def spKT (B C : Addr) (L : Bool) : Sp := fun vs H Q _ => ∃ (p vt nt : Addr) (rs : List Row) (ys : List (List Str)) (kd ns : List Str), vs = [.ref p, .ref vt, .ref nt] ∧ LvK B C H p rs ys ∧ H vt = some (.tup (kd.map V.str)) ∧ (∀ x ∈ kd, x ∈ keys (ups rs)) ∧ kd.length ≤ 40 ∧
  H nt = some (if L then .lst (ns.map V.str) else .tup (ns.map V.str)) ∧ ns.length ≤ 40 ∧ ∀ H', Same H H' → Q (.bl (meet (ups rs) kd ns)) H'
def spKD (B : Addr) : Sp := fun vs H Q _ => ∃ (p dx cl ev : Addr) (x y : V), vs = [.ref p, x, y] ∧ H p = some (.ins B dx (fldsK cl ev)) ∧ Q (.ref ev) H
def spKN : Sp := fun vs H Q _ => ∃ (p t : Addr) (xs : List V), vs = [.ref p, .ref t] ∧ H t = some (.tup xs) ∧ xs.length ≤ 1000 ∧ ((∃ v, xs = [v] ∧ Q v H) ∨ (xs.length ≠ 1 ∧ Q .non H))
section
variable {P : Program} {w : World} {K : PySem.W.Frag} {mg : Str → Option Value} {base : Heap}
theorem scLI : FnScope ["self", "classes"] ["self", "classes"] (defScope sLI) := ⟨rfl, rfl, rfl, by decide +kernel, rfl, by decide +kernel, by decide +kernel⟩
theorem scKI : NScope nKI ["self", "classes"] ["__class__"] (defScope sKI) := nscope_by (by decide +kernel)
theorem scKV : FnScope ["self", "name", "cause"] ["self", "name", "cause"] (defScope sKV) := ⟨rfl, rfl, rfl, by decide +kernel, rfl, by decide +kernel, by decide +kernel⟩
theorem scKT : FnScope nKT ["self", "view", "names"] (defScope sKT) := ⟨rfl, rfl, rfl, by decide +kernel, rfl, by decide +kernel, by decide +kernel⟩
theorem scKD : FnScope ["self", "callback", "handled"] ["self", "callback", "handled"] (defScope sKD) := ⟨rfl, rfl, rfl, by decide +kernel, rfl, by decide +kernel, by decide +kernel⟩
theorem scKN : FnScope ["self", "view"] ["self", "view"] (defScope sKN) := ⟨rfl, rfl, rfl, by decide +kernel, rfl, by decide +kernel, by decide +kernel⟩
theorem ok_li {f B : Addr} {fd : FuncData} (F : Fun K "__init__" "Level.__init__" sLI f fd) (Y : LTxt K B) : FnOk P w K mg base CX0 1 f fd ["self", "classes"] (spLI B) := by
  refine F.ok scLI (fun vs H Q E h => ?_) (fun cdv A outer s H vs Q E hr h => ?_)
  · obtain ⟨p, cl, dx, rfl, _⟩ := h
    rfl
  · obtain ⟨p, cl, dx, rfl, hp, k⟩ := h
    refine ⟨_, pss_one (ps_fld (pv 0) (pv 1) rfl), ?_⟩
    exact ⟨_, rfl, _, rfl, p, B, dx, _, rfl, hp, Y.cl, Y.nC, (by show 0 < 1000; decide), k⟩
theorem ok_ki {f g fK B C CT cc : Addr} {fd fdg fdK : FuncData} (F : SFun P K B cc "__init__" "ByKind.__init__" sKI f fd) (Y : LTxt K B) (YC : Txt K mg C) (M : SMeth K B B "__init__" g) (GI : FnOk P w K mg base CX0 1 g fdg ["self", "classes"] (spLI B)) (bI : Binds K fdg ["self", "classes"] [])
    (mK : Meth K C "kinds" fK) (GK : FnOk P w K mg base (L2.CX P w) 4 fK fdK ["self"] (spKinds C CT)) (bK : Binds K fdK ["self"] [])
    (mS : mg "super" = none) (top0 : (P.main.scope.names.lookup ("super" : Str)).isSome = false) : FnOk P w K mg base (L2.CX P w) 5 f fd ["self", "classes"] (spKI B C CT) := by
  refine F.okX scKI (fun vs H Q E h => ?_) (fun cda A outer s H vs Q E hr SA h => ?_)
  · obtain ⟨p, cl, dx, rs, rfl, _⟩ := h
    rfl
  · obtain ⟨p, cl, dx, rs, rfl, hp, cw, nd, h40, kQ, kE⟩ := h
    have hr4 : Room 4 _ := hr
    have hr1 : Room 1 _ := hr.mono (by decide)
    refine ⟨_, pssa_cons (psa_of (ps_set (i := 3) scKI.nd rfl (Or.inl rfl) (pe_op op_cat2 (pe_tup (pa_cons pe_str pa_nil)) (pe_meth0 (pv 1) YC.cl mK GK hr4 bK .nil (passes_call (takes_of rfl rfl rfl rfl) fun _ _ _ _ h => h)))))
      (pssa_cons (psa_expr (pea_super SA M GI hr1 bI pass0 (pa_cons (pv 1) pa_nil) mS top0 ⟨_, rfl, rfl⟩)) (pssa_of (pss_one (ps_fld (pv 0) (pv 3) rfl)))), ?_⟩
    obtain ⟨dc, fc, f1, f2⟩ := cw.ins
    refine ⟨(by show 1 ≤ sizeLine; decide), fun t ht => ?_⟩
    have s1 : Same H (upd H t (.tup [.str "returns"])) := (Same.refl H).put ht
    have e1 : (upd H t (.tup [.str "returns"])) t = some (.tup [.str "returns"]) := upd_same
    generalize upd H t (.tup [.str "returns"]) = H1 at s1 e1 ⊢
    refine ⟨_, rfl, cl, dc, fc, rfl, s1 _ _ f1, f2 "kinds" (by decide +kernel) (by decide +kernel) (by decide +kernel), cl, rs, rfl, cw.same s1, nd, h40, fun h6 r bs S ys H2 hS hso hr2 hbs hys hpw s2 => ?_, fun h6 d H2 s2 hd => kE h6 d H2 (s1.trans s2) hd⟩
    have lb : bs.length ≤ 64 := by
      rw [hbs.len, hys.length_eq, List.length_tail]
      have := growK_sz (tb := ups rs) (S := S) (by rw [hS.length_eq]; exact h6)
      omega
    refine ⟨t, r, _, _, rfl, rfl, s2 _ _ e1, hr2, (by rw [List.length_map]; show 1 + _ ≤ 16777216; omega), fun ev H3 s3 hev => ?_⟩
    have s13 := (s1.trans s2).trans s3
    have hp3 := s13 _ _ hp
    refine ⟨p, dx, _, rfl, hp3, _, rfl, p, cl, dx, rfl, hp3, ?_⟩
    refine ⟨_, rfl, _, rfl, p, B, dx, _, rfl, upd_same, Y.cl, Y.nE, (by show 1 < 1000; decide), ?_⟩
    rw [upd_upd]
    have nt : ∀ b xs, H3 b = some (.tup xs) → (upd H3 p (.ins B dx (fldsK cl ev))) b = some (.tup xs) := fun b xs e => by rw [upd_ne (ne_of e hp3 (by intro z; cases z))]; exact e
    exact kQ h6 ev bs S ys _ hS hso hys hpw upd_same (nt _ _ hev) (hbs.sameT fun b xs e => nt _ _ (s3 _ _ e)) fun b o hb hne => by rw [upd_ne hne]; exact s13 _ _ hb
theorem ok_kv {f : Addr} {fd : FuncData} {dvs : List V} (F : FunD K "view" "ByKind.view" (defArgs sKV) (defBody sKV) (defScope sKV) dvs [] f fd) : FnOk P w K mg base CX0 1 f fd ["self", "name", "cause"] spKV := by
  refine F.ok scKV (fun vs H Q E h => ?_) (fun cdv A outer s H vs Q E hr h => ?_)
  · obtain ⟨p, nm, z, rfl, _⟩ := h
    rfl
  · suffices hs : ∃ tt, PSs (cxOf CX0 P w K mg base ["self", "name", "cause"] "ByKind.view" (defScope sKV) f cdv A outer s H E).nox (defBody sKV) tt ∧ tt { nx := fun _ H' => Q .non H', rt := Q } (L2.start ["self", "name", "cause"] vs) H by
      obtain ⟨tt, h1, h2⟩ := hs
      exact ⟨tt, h1.nox, h2⟩
    obtain ⟨p, nm, z, rfl, k⟩ := h
    refine ⟨_, pss_one (ps_ret (pe_tup (pa_cons (pv 1) pa_nil))), ?_⟩
    exact ⟨_, rfl, (by show 1 ≤ sizeLine; decide), fun a ha => k a _ ((Same.refl H).put ha) upd_same⟩
theorem ok_kd {f B : Addr} {fd : FuncData} (F : Fun K "does" "ByKind.does" sKD f fd) (Y : LTxt K B) : FnOk P w K mg base CX0 1 f fd ["self", "callback", "handled"] (spKD B) := by
  refine F.ok scKD (fun vs H Q E h => ?_) (fun cdv A outer s H vs Q E hr h => ?_)
  · obtain ⟨p, dx, cl, ev, x, y, rfl, _⟩ := h
    rfl
  · obtain ⟨p, dx, cl, ev, x, y, rfl, hp, k⟩ := h
    refine ⟨_, pss_one (ps_ret (pe_fld (pv 0) rfl)), ?_⟩
    exact ⟨_, rfl, p, B, dx, _, _, rfl, hp, Y.cl, Y.nE, fldsK_every _ _, k⟩
theorem ok_kn {f : Addr} {fd : FuncData} (F : Fun K "name_of" "ByKind.name_of" sKN f fd) (T : Bi mg) : FnOk P w K mg base CX0 1 f fd ["self", "view"] spKN := by
  refine F.ok scKN (fun vs H Q E h => ?_) (fun cdv A outer s H vs Q E hr h => ?_)
  · obtain ⟨p, t, xs, rfl, _⟩ := h
    rfl
  · obtain ⟨p, t, xs, rfl, ht, hl, k⟩ := h
    refine ⟨_, pss_one (ps_ret (pe_ifExp (pt_cmpR op_eq (pe_callB call_len_seq (by rfl) T.len PySem.boot_len (pa_cons (pv 1) pa_nil)) pe_int (nomark _)) (pe_ix ix_tup (pv 1) pe_int (fun _ _ => rfl)) pe_non)), ?_⟩
    refine ⟨_, rfl, t, _, rfl, .inr (SqT.of ht), rfl, _, rfl, ite2 (fun z => ?_) (fun z => ?_)⟩
    · have z := V.int.inj (of_decide_eq_true z)
      rcases k with ⟨v, rfl, q⟩ | ⟨ne, _⟩
      · exact ⟨_, rfl, t, _, _, _, rfl, rfl, SqT.of ht, atI_nat (j := 0) rfl, q⟩
      · omega
    · rcases k with ⟨v, rfl, q⟩ | ⟨ne, q⟩
      · exact absurd (decide_eq_true rfl) z
      · exact q
theorem ok_kt {f B C fC fM : Addr} {fd fdC fdM : FuncData} (L : Bool) (F : Fun K "taken" "ByKind.taken" sKT f fd) (Y : LTxt K B) (YC : Txt K mg C) (T : Bi mg)
    (GCo : FnOk P w K mg base CX0 1 fC fdC ["self", "x"] (spCo K C)) (bCo : Binds K fdC ["self", "x"] []) (hCo : PySem.W.findIn K (.ref C) "__contains__" = some (some (.ref fC))) (hCof : PySem.W.isFn K (.ref fC) = true)
    (mM : Meth K C "meets" fM) (GM : FnOk P w K mg base CX0 3 fM fdM ["self", "kind", "names"] (spMeets C L)) (bM : Binds K fdM ["self", "kind", "names"] []) : FnOk P w K mg base CX0 4 f fd ["self", "view", "names"] (spKT B C L) := by
  refine F.ok scKT (fun vs H Q E h => ?_) (fun cdv A outer s H vs Q E hr h => ?_)
  · obtain ⟨p, vt, nt, rs, ys, kd, ns, rfl, _⟩ := h
    rfl
  · obtain ⟨p, vt, nt, rs, ys, kd, ns, rfl, ⟨dx, cl, ev, bs, hp, hev, hbs, hc⟩, hvt, hkd, kl, hnt, hl, k⟩ := h
    have hr1 : Room 1 _ := hr.mono (by decide)
    have hr3 : Room 3 _ := hr
    refine ⟨_, pss_one (ps_ret (pe_and (pe_callB (cr_all rfl) (by rfl) T.all (by decide +kernel) (pa_cons (pe_lc (own := [("name", 3)]) (g := gName 3) (tt := tYes) (te := tOp (rInO C (spCo K C)) (tVar 3) (tFld K (tVar 0) "classes")) rfl scKT.nd (pi_tup (pv 1)) (blkOk_by (N := nKT) (sc := defScope sKT) (by decide +kernel)) (fun _ _ _ _ _ => pg_name (i := 3) scKT.nd rfl (Or.inl rfl)) (fun _ _ _ _ _ => pts_nil)
      (fun s1 H1 C1 cl1 fp1 => ?el)) pa_nil))
      (pe_one (pe_meth (pe_fld (pv 0) rfl) YC.cl mM GM hr3 bM .nil pass0 (pa_cons (pv 1) (pa_cons (pv 2) pa_nil)))))), ?_⟩
    case el => exact pe_cmpR (op_inO GCo bCo pass0 hr1 hCo hCof) (pv 3) (pe_fld (pv 0) rfl) rfl
    obtain ⟨dx1, fs1, e1, e2⟩ := hc.ins
    refine ⟨_, rfl, vt, rfl, ⟨_, SqT.of hvt⟩, fun D hD => ?_⟩
    refine lc_tup (K := K) (a := vt) (xs := kd.map V.str) (fun i Hc => Hc D = some (.lst ((List.replicate i true).map V.bl)) ∧ Same H Hc) ?_ ?_ ?_ ?_
    · exact ⟨upd_same, (Same.refl H).put hD⟩
    · rintro i Hc _ ⟨_, sm⟩
      exact SqT.of (sm _ _ hvt)
    · rintro i y Hc hy ⟨h1, sm⟩
      obtain ⟨x, hxm, rfl⟩ := List.mem_map.mp (List.mem_of_getElem? hy)
      have hil : i < kd.length := by
        have := (List.getElem?_eq_some_iff.mp hy).1
        rwa [List.length_map] at this
      refine ⟨rfl, _, rfl, _, rfl, p, B, dx, _, _, rfl, sm _ _ hp, Y.cl, Y.nC, fldsK_classes _ _, cl, dx1, fs1, rfl, sm _ _ e1, cl, .str x, rs, rfl, hc.same sm, .inl ⟨x, rfl, _, rfl, _, h1, ?_, ?_, sm.put hD⟩⟩
      · rw [List.length_map, List.length_replicate]; show _ < 16777216; omega
      · rw [upd_same, List.replicate_succ', List.map_append, decide_eq_true (hkd x hxm)]
        rfl
    · rintro Hc ⟨h1, sm⟩
      refine ⟨D, _, rfl, SqL.of h1, _, rfl, ?_⟩
      have : (List.replicate (kd.map V.str).length true).all id = true := by simp
      rw [this]
      refine iteT ⟨_, rfl, p, B, dx, _, _, rfl, sm _ _ hp, Y.cl, Y.nC, fldsK_classes _ _, cl, dx1, fs1, rfl, sm _ _ e1, e2 "meets" (by decide +kernel) (by decide +kernel) (by decide +kernel), _, rfl, _, rfl, ?_⟩
      exact ⟨cl, vt, nt, kd, ns, ups rs, rfl, (hc.same sm).at, sm _ _ hvt, sm _ _ hnt, hkd, kl, hl, fun H' s2 => k H' (sm.trans s2)⟩
end
end K2
end
section
set_option Elab.async false
set_option maxRecDepth 100000
set_option linter.all false
/-! what is above what -/
namespace K2
open PySem L2
/-! ### lists and tuples beside empty ones -/
section
variable {X : Cx}
/-- xs != [] of any list -/
def rNeL0 (K : PySem.W.Frag) : R2 := fun x y H Q => ∃ a b xs, x = .ref a ∧ y = .ref b ∧ SqL K H a xs ∧ SqL K H b [] ∧ Q (.bl (!xs.isEmpty)) H
def rEqL0 (K : PySem.W.Frag) : R2 := fun x y H Q => ∃ a b xs, x = .ref a ∧ y = .ref b ∧ SqL K H a xs ∧ SqL K H b [] ∧ Q (.bl xs.isEmpty) H
/-- t != () of any tuple -/
def rNeT0 (K : PySem.W.Frag) : R2 := fun x y H Q => ∃ a b xs, x = .ref a ∧ y = .ref b ∧ SqT K H a xs ∧ SqT K H b [] ∧ Q (.bl (!xs.isEmpty)) H
theorem op_neL0 (hu : X.A.units < cLine) : OpR X (compareOp .NotEq) (rNeL0 X.K) := by
  intro pins s σ H x y v u Q I rx ry h
  obtain ⟨a, b, xs, rfl, rfl, ha, hb, q⟩ := h
  cases rx
  cases ry
  obtain ⟨as, ra, la, _⟩ := I.list ha
  obtain ⟨bs, rb, lb, _⟩ := I.list hb
  cases rb
  have fin : EP X pins σ Q (.bool (!xs.isEmpty)) s := ⟨.bl _, H, I, rfl, q⟩
  show wpAny (model X.prog X.w) X.A (richCompare .NotEq (.ref a) (.ref b)) (EP X pins σ Q) X.xe s
  cases ra with
  | nil => exact SeqAt.RcNeAt.lists (e := fun _ => true) la.isList lb.isList rfl hu (fun j h1 h2 => absurd h1 (Nat.not_lt_zero j)) _ _ _ _ fin
  | cons r t => exact SeqAt.RcNeAt.lists_lengths la.isList lb.isList (by simp) hu _ _ _ _ fin
theorem op_eqL0 (hu : X.A.units < cLine) : OpR X (compareOp .Eq) (rEqL0 X.K) := by
  intro pins s σ H x y v u Q I rx ry h
  obtain ⟨a, b, xs, rfl, rfl, ha, hb, q⟩ := h
  cases rx
  cases ry
  obtain ⟨as, ra, la, _⟩ := I.list ha
  obtain ⟨bs, rb, lb, _⟩ := I.list hb
  cases rb
  have fin : EP X pins σ Q (.bool xs.isEmpty) s := ⟨.bl _, H, I, rfl, q⟩
  show wpAny (model X.prog X.w) X.A (richCompare .Eq (.ref a) (.ref b)) (EP X pins σ Q) X.xe s
  cases ra with
  | nil => exact SeqAt.RcAt.lists (e := fun _ => true) la.isList lb.isList rfl hu (fun j h1 h2 => absurd h1 (Nat.not_lt_zero j)) _ _ _ _ fin
  | cons r t => exact SeqAt.RcAt.lists_lengths la.isList lb.isList (by simp) hu _ _ _ _ fin
end

theorem ix_tupK {X : Cx} {K' : PySem.W.Frag} (hK : X.K = K') : IxR X (rIxT K') := by
  subst hK
  exact ix_tup
theorem u0_of {A : Around} {k : Nat} (hr : Room k A) : A.units < cLine := Nat.lt_of_succ_lt (hu_of hr)
abbrev sAb : Stmt := top 36
abbrev nAb : List Str := ["_law_rows_here", "_law_above_here", "_law_row", "_law_found", "_law_base", "_law_one"]
section
variable {P : Program} {w : World} {K : PySem.W.Frag} {mg : Str → Option Value} {base : Heap}
theorem scAb : FnScope nAb ["_law_rows_here"] (defScope sAb) := ⟨rfl, rfl, rfl, by decide +kernel, rfl, by decide +kernel, by decide +kernel⟩
theorem ok_ab {f : Addr} {fd : FuncData} (F : Fun K "_law_above" "_law_above" sAb f fd) : FnOk P w K mg base CX0 1 f fd ["_law_rows_here"] spUppers := by
  refine F.ok scAb (fun vs H Q E h => ?_) (fun cdv A outer s H vs Q E hr h => ?_)
  · obtain ⟨l, ts, rs, rfl, _⟩ := h
    rfl
  · obtain ⟨l, ts, rs, rfl, hl, R, g, h31, k⟩ := h
    have hu := hu_of hr
    refine ⟨_, (pss_cons (ps_set (i := 1) scAb.nd rfl (Or.inl rfl) (pe_disp (pps_cons pe_str (pe_lst (pa_cons pe_str pa_nil)) (pps_cons pe_str (pe_lst (pa_cons pe_str (pa_cons pe_str pa_nil))) pps_nil)) (by rfl) (by rfl) (fun z => by cases z) (by decide)))
      (pss_cons (ps_for PassesOwn.never rfl (pi_list (pv 0)) (pg_name (i := 2) scAb.nd rfl (Or.inl rfl))
      (pss_cons (ps_set (i := 3) scAb.nd rfl (Or.inr rfl) (pe_lst (pa_cons (pe_ix ix_tup (pv 2) pe_int (fun _ _ => rfl)) pa_nil)))
        (pss_cons (ps_for PassesOwn.never rfl (pi_tup (pe_slice sl_tup2 (pv 2) (po_some pe_int) po_none)) (pg_name (i := 4) scAb.nd rfl (Or.inl rfl))
        (pss_one (ps_set (i := 3) scAb.nd rfl (Or.inr rfl) (pe_op op_cat (pv 3) (pe_lc (own := [("_law_one", 5)]) (g := gName 5)  rfl scAb.nd (pi_list (pe_dget hu (pv 1) (pv 4) (fun _ _ => rfl))) (blkOk_by (N := nAb) (sc := defScope sAb) (by decide +kernel)) (fun _ _ _ _ _ => pg_name (i := 5) scAb.nd rfl (Or.inl rfl)) (fun _ _ _ _ _ => pts_one (pt_cmpR (op_notIn_seqK (K' := K) rfl) (pv 5) (pv 3) rfl)) (fun _ _ _ _ _ => pv 5))))))
        (pss_one (ps_dput hu (pv 1) (pe_ix ix_tup (pv 2) pe_int (fun _ _ => rfl)) (pv 3) rfl)))))
      (pss_one (ps_ret (pv 1))))), ?_⟩
    refine fun d hd => ⟨(by show 1 ≤ sizeLine; decide), fun a1 ha1 => ⟨(by show 2 ≤ sizeLine; decide), fun a2 ha2 => ?_⟩⟩
    have hda : d ≠ a1 := fun e => by rw [← e, upd_same] at ha1; cases ha1
    have h1d : (upd (upd H d (.dK [])) a1 (.lst [V.str (Str.ofString "error")])) d = some (.dK []) := by rw [upd_ne hda, upd_same]
    have hdb : d ≠ a2 := ne_of_none h1d ha2
    have hab : a1 ≠ a2 := fun e => by rw [← e, upd_same] at ha2; cases ha2
    have ha1H : H a1 = none := by rw [upd_ne hda.symm] at ha1; exact ha1
    have ha2H : H a2 = none := by rw [upd_ne hab.symm, upd_ne hdb.symm] at ha2; exact ha2
    refine ⟨by rw [upd_ne hdb]; exact h1d, [(Sum.inr (Str.ofString "error"), V.ref a1), (Sum.inr (Str.ofString "vacant"), V.ref a2)], rfl, (by show 2 ≤ 15; decide), ?_⟩
    rw [merge2]
    have sm0 : Same H (upd (upd (upd (upd H d (.dK [])) a1 (.lst [V.str (Str.ofString "error")])) a2 (.lst [V.str (Str.ofString "vacant"), V.str (Str.ofString "error")])) d (.dK [((Sum.inr (Str.ofString "error") : Key), V.ref a1), ((Sum.inr (Str.ofString "vacant") : Key), V.ref a2)])) :=
      ((((Same.refl H).put hd).put ha1H).put ha2H).put hd
    have hd0 : (upd (upd (upd (upd H d (.dK [])) a1 (.lst [V.str (Str.ofString "error")])) a2 (.lst [V.str (Str.ofString "vacant"), V.str (Str.ofString "error")])) d (.dK [((Sum.inr (Str.ofString "error") : Key), V.ref a1), ((Sum.inr (Str.ofString "vacant") : Key), V.ref a2)])) d = some (.dK [((Sum.inr (Str.ofString "error") : Key), V.ref a1), ((Sum.inr (Str.ofString "vacant") : Key), V.ref a2)]) := upd_same
    have T0 : Tab fL (upd (upd (upd (upd H d (.dK [])) a1 (.lst [V.str (Str.ofString "error")])) a2 (.lst [V.str (Str.ofString "vacant"), V.str (Str.ofString "error")])) d (.dK [((Sum.inr (Str.ofString "error") : Key), V.ref a1), ((Sum.inr (Str.ofString "vacant") : Key), V.ref a2)])) [((Sum.inr (Str.ofString "error") : Key), V.ref a1), ((Sum.inr (Str.ofString "vacant") : Key), V.ref a2)] t0 :=
      .cons (by rw [upd_ne hda.symm, upd_ne hab, upd_same]; rfl) (.cons (by rw [upd_ne hdb.symm, upd_same]; rfl) .nil)
    generalize upd (upd (upd (upd H d (.dK [])) a1 (.lst [V.str (Str.ofString "error")])) a2 (.lst [V.str (Str.ofString "vacant"), V.str (Str.ofString "error")])) d (.dK [((Sum.inr (Str.ofString "error") : Key), V.ref a1), ((Sum.inr (Str.ofString "vacant") : Key), V.ref a2)]) = H0 at sm0 hd0 T0 ⊢
    refine ⟨_, rfl, l, rfl, ⟨_, SqL.of (sm0 l _ hl)⟩, for_list (K := K) (a := l) (xs := ts.map V.ref)
      (fun i σ Hc => ∃ (kvs : List (Key × V)) (v2 v3 v4 v5 : Option V), σ = [some (.ref l), some (.ref d), v2, v3, v4, v5] ∧ Hc d = some (.dK kvs) ∧ Tab fL Hc kvs (ups (rs.take i)) ∧ Same H Hc) ?_ ?_ ?_ ?_⟩
    · exact ⟨_, _, _, _, _, rfl, hd0, T0, sm0⟩
    · rintro i σ Hc hi ⟨kvs, v2, v3, v4, v5, rfl, _, _, sm⟩
      exact SqL.of (sm l _ hl)
    · rintro i x σ Hc hi ⟨kvs, v2, v3, v4, v5, rfl, hD, TB, sm⟩
      have hil : i < rs.length := by
        have := (List.getElem?_eq_some_iff.mp hi).1
        rw [List.length_map, R.1] at this
        exact this
      have hti : ts[i]? = some (ts[i]'(by rw [R.1]; exact hil)) := List.getElem?_eq_getElem _
      rw [List.getElem?_map, hti] at hi
      generalize ts[i]'(by rw [R.1]; exact hil) = t at hti hi
      cases hi
      have hri : rs[i]? = some rs[i] := List.getElem?_eq_getElem hil
      have ht := sm t _ (R.2 i t _ hti hri)
      have RO := g i _ hri
      have TO := tok_ups g i (Nat.le_of_lt hil)
      have hks := keys_ups_take rs i
      have hus := ups_succ hri
      have hkl := knownAt_len (Nat.le_of_lt hil)
      generalize rs[i] = r at hri ht RO hus
      rw [← hks] at RO hkl
      generalize ups (rs.take i) = tb at TB TO hks hus RO hkl
      obtain ⟨x, bs⟩ := r
      unfold rowO at ht
      have hll := fun j => line_len TO (x := x) (bs := bs.take j) fun b hb => RO.sub b (List.mem_of_mem_take hb)
      refine ⟨_, rfl, t, _, _, _, rfl, rfl, SqT.of ht, atI_nat (j := 0) rfl, (by show 1 ≤ sizeLine; decide), fun m0 hm0 => ?_⟩
      have hdm : d ≠ m0 := ne_of_none hD hm0
      refine ⟨_, rfl, _, rfl, t, _, rfl, by rw [upd_ne (ne_of_none ht hm0)]; exact ht, fun rp H2 s2 hrp => ?_⟩
      rw [cut1'] at hrp
      have s0 : Same Hc H2 := ((Same.refl Hc).put hm0).trans s2
      have hm2 : H2 m0 = some (fL [x]) := s2 m0 _ upd_same
      refine ⟨rp, rfl, ⟨_, SqT.of hrp⟩, for_tup (K := K) (a := rp) (xs := bs.map V.str)
        (fun j σ Hd => ∃ (m : Addr) (v4 v5 : Option V), σ = [some (.ref l), some (.ref d), some (.ref t), some (.ref m), v4, v5] ∧ Same H2 Hd ∧ Hd m = some (fL (lineL tb [x] (bs.take j)))) ?_ ?_ ?_ ?_⟩
      · exact ⟨m0, _, _, rfl, Same.refl _, hm2⟩
      · rintro j σ Hd _ ⟨m, v4, v5, rfl, sd, _⟩
        exact SqT.of (sd rp _ hrp)
      · rintro j y σ Hd hj ⟨m, v4, v5, rfl, sd, hm⟩
        have hjl : j < bs.length := by
          have := (List.getElem?_eq_some_iff.mp hj).1
          rwa [List.length_map] at this
        have hbj : bs[j]? = some bs[j] := List.getElem?_eq_getElem hjl
        rw [List.getElem?_map, hbj] at hj
        cases hj
        obtain ⟨u, hu1, hu2⟩ := TB.val (RO.sub bs[j] (List.getElem_mem hjl))
        have hDd := sd d _ (s0 d _ hD)
        have hud := sd u _ (s0 u _ hu2)
        unfold fL at hud hm
        have husl : (look tb bs[j]).length ≤ (keys tb).length := by
          have q := TO.line (RO.sub bs[j] (List.getElem_mem hjl))
          exact q.1.length_le_of_subset q.2.2.2
        have hsucc := lineL_take (t := tb) (m := [x]) hbj
        have hl1 := hll j
        have hl2 := hll (j + 1)
        rw [hsucc] at hl2
        generalize lineL tb [x] (bs.take j) = mine at hm hsucc hl1 hl2
        generalize look tb bs[j] = us at hud hsucc hl2 husl
        refine ⟨_, rfl, _, rfl, _, rfl, d, _, rfl, dget_s hDd hu1, u, rfl, ⟨_, SqL.of hud⟩, fun D1 hD1 => ?_⟩
        refine lc_list (K := K) (a := u) (xs := us.map V.str) (fun i Hx => Hx D1 = some (fL ((us.take i).filter fun z => decide (z ∉ mine))) ∧ Same Hd Hx) ?_ ?_ ?_ ?_
        · exact ⟨upd_same, (Same.refl Hd).put hD1⟩
        · rintro i2 Hx _ ⟨_, sx⟩
          exact SqL.of (sx u _ hud)
        · rintro i2 y Hx hy ⟨hx, sx⟩
          have hi2 : i2 < us.length := by
            have := (List.getElem?_eq_some_iff.mp hy).1
            rwa [List.length_map] at this
          have hui : us[i2]? = some us[i2] := List.getElem?_eq_getElem hi2
          rw [List.getElem?_map, hui] at hy
          cases hy
          have et : us.take (i2 + 1) = us.take i2 ++ [us[i2]] := by rw [List.take_add_one, hui]; rfl
          refine ⟨rfl, _, rfl, _, rfl, m, _, rfl, .inl (SqL.of (sx m _ hm)), rfl, flat_strs _, _, rfl, ?_⟩
          rw [if_pos rfl, inV_strs]
          dsimp only
          have hfl : ((us.take i2).filter fun z => decide (z ∉ mine)).length ≤ us.length := Nat.le_trans (List.length_filter_le _ _) (by rw [List.length_take]; omega)
          by_cases hb : us[i2] ∈ mine
          · rw [if_neg (by simp [hb])]
            refine ⟨?_, sx⟩
            rw [et, List.filter_append, List.filter_cons]
            simp only [hb, not_true_eq_false, decide_false, Bool.false_eq_true, if_false, List.filter_nil, List.append_nil]
            exact hx
          · rw [if_pos (by simp [hb])]
            refine ⟨_, rfl, _, hx, ?_, ?_, sx.put hD1⟩
            · rw [List.length_map]; show _ < 16777216; omega
            · rw [upd_same, et, List.filter_append, List.filter_cons]
              simp only [hb, not_false_eq_true, decide_true, if_true, List.filter_nil]
              unfold fL
              rw [List.map_append]
              rfl
        · rintro Hx ⟨hx, sx⟩
          rw [List.length_map, List.take_length] at hx
          unfold fL at hx
          refine ⟨m, D1, _, _, rfl, rfl, sx m _ hm, hx, ?_, fun m2 hm2 => ?_⟩
          · rw [List.length_map, List.length_map, ← List.length_append]
            show (mergeU mine us).length ≤ 16777216
            omega
          · refine ⟨m2, _, _, rfl, (sd.trans sx).put ((sd.trans sx).free hm2), ?_⟩
            rw [upd_same, hsucc]
            unfold fL mergeU
            rw [List.map_append]
      · rintro σ Hd ⟨m, v4, v5, rfl, sd, hm⟩
        rw [List.length_map, List.take_length] at hm
        have hDd := sd d _ (s0 d _ hD)
        have htd := sd t _ (s0 t _ ht)
        have hxn : x ∉ keys tb := RO.new
        refine ⟨_, rfl, _, rfl, _, rfl, t, _, _, _, rfl, rfl, SqT.of htd, atI_nat (j := 0) rfl, d, _, rfl, DPut.k (k := Sum.inr x) hDd ?_, ?_⟩
        · rw [TB.len]; have : tb.length = (keys tb).length := by simp [keys]
          show _ < 16777216
          omega
        rw [putK_new _ (TB.none hxn)]
        have rk : ∀ (o : HO) (q : Addr) (us : List Str), Hd q = some (fL us) → (upd Hd d o) q = some (fL us) := fun o q us hq => by
          rw [upd_ne (ne_of hq hDd (by unfold fL; intro z; cases z))]
          exact hq
        refine ⟨_, _, _, _, _, rfl, upd_same, ?_, ?_⟩
        · rw [hus]
          exact ((TB.mono fun a us hq => rk _ a us ((s0.trans sd) a _ hq))).snoc (rk _ m _ hm)
        · exact (sm.trans (s0.trans sd)).put hd
    · rintro σ Hc ⟨kvs, v2, v3, v4, v5, rfl, hD, TB, sm⟩
      rw [List.length_map, R.1, List.take_length] at TB
      exact ⟨_, rfl, k d kvs Hc hd hD TB sm⟩
end
end K2
end
section
set_option Elab.async false
set_option maxRecDepth 100000
set_option linter.all false
/-! rows drawn -/
namespace K2
open PySem L2
abbrev sRo : Stmt := top 35
abbrev nRo : List Str := ["_law_pen_here", "_law_words_here", "_law_rows_here", "_law_word", "_law_known", "_law_row", "_law_bases", "_law_other"]
def spRo : Sp := fun vs H Q _ => ∃ (p c wl : Addr) (ns : List Int) (n : Nat) (ws : List Str), vs = [.ref p, .ref wl] ∧ Pen H p c ns n ∧ n + 100 ≤ 100000 ∧ H wl = some (.lst (ws.map V.str)) ∧ Words ws ∧ ws.length ≤ 20 ∧
  ∀ (rl : Addr) (ts : List Addr) (rs : List Row) (H' : Hp), rs.map (·.1) = ws → Good rs → (∀ r ∈ rs, r.2.length ≤ 2) → H' rl = some (.lst (ts.map V.ref)) → RowsAt H' ts rs → rl ≠ p → Keep p H H' → Pen H' p c ns (n + 60) → Q (.ref rl) H'
theorem niteN {b : Bool} {A B : Prop} (h1 : b = true → B) (h2 : b = false → A) : if (if true = true then !b else b) = true then A else B := by
  cases b with
  | true => exact (if_neg (by decide)).mpr (h1 rfl)
  | false => exact (if_pos (by decide)).mpr (h2 rfl)
section
variable {P : Program} {w : World} {K : PySem.W.Frag} {mg : Str → Option Value} {base : Heap}
theorem scRo : FnScope nRo ["_law_pen_here", "_law_words_here"] (defScope sRo) := ⟨rfl, rfl, rfl, by decide +kernel, rfl, by decide +kernel, by decide +kernel⟩
theorem ok_ro {f fD fP : Addr} {fd fdD fdP : FuncData} (F : Fun K "_law_rows" "_law_rows" sRo f fd) (T : Bi mg) (D : Df K mg "_law_draw" sDraw fD fdD ["_law_pen_here", "_law_many"]) (GD : FnOk P w K mg base CX0 1 fD fdD ["_law_pen_here", "_law_many"] spDraw)
    (PK : Df K mg "_law_pick" sPick fP fdP ["_law_pen_here", "_law_some"]) (GP : FnOk P w K mg base CX0 2 fP fdP ["_law_pen_here", "_law_some"] spPick) : FnOk P w K mg base CX0 3 f fd ["_law_pen_here", "_law_words_here"] spRo := by
  refine F.ok scRo (fun vs H Q E h => ?_) (fun cdv A outer s H vs Q E hr h => ?_)
  · obtain ⟨p, c, wl, ns, n, ws, rfl, _⟩ := h
    rfl
  · obtain ⟨p, c, wl, ns, n, ws, rfl, P0, hn, hwl, hws, w20, k⟩ := h
    have hr1 : Room 1 _ := hr.mono (by decide)
    have hr2 : Room 2 _ := hr
    refine ⟨_, (pss_cons (ps_set (i := 2) scRo.nd rfl (Or.inl rfl) (pe_lst pa_nil))
      (pss_cons (ps_for PassesOwn.never rfl (pi_list (pv 1)) (pg_name (i := 3) scRo.nd rfl (Or.inl rfl))
      (pss_cons (ps_set (i := 4) scRo.nd rfl (Or.inl rfl) (pe_op op_cat (pe_lst (pa_cons pe_str (pa_cons pe_str pa_nil))) (pe_lc (own := [("_law_row", 5)]) (g := gName 5) (tt := tYes) rfl scRo.nd (pi_list (pv 2)) (blkOk_by (N := nRo) (sc := defScope sRo) (by decide +kernel)) (fun _ _ _ _ _ => pg_name (i := 5) scRo.nd rfl (Or.inl rfl)) (fun _ _ _ _ _ => pts_nil) (fun _ _ _ _ _ => pe_ix (ix_tupK (K' := K) rfl) (pv 5) pe_int (fun _ _ => rfl)))))
        (pss_cons (ps_set (i := 6) scRo.nd rfl (Or.inl rfl) (pe_lst (pa_cons (pe_call GP hr2 (by rfl) PK.m PK.F.kp PK.b .nil pass0 (pa_cons (pv 0) (pa_cons (pe_op op_cat (pv 4) (pe_lst (pa_cons pe_str pa_nil))) pa_nil))) pa_nil)))
        (pss_cons (ps_set (i := 7) scRo.nd rfl (Or.inl rfl) (pe_call GP hr2 (by rfl) PK.m PK.F.kp PK.b .nil pass0 (pa_cons (pv 0) (pa_cons (pv 4) pa_nil))))
        (pss_cons (ps_if (PW.pt (pw_and (pt_cmpR op_notIn_seq (pv 7) (pv 6) rfl) (pw_and1 (pt_cmpR op_eq (pe_call GD hr1 (by rfl) D.m D.F.kp D.b .nil pass0 (pa_cons (pv 0) (pa_cons pe_int pa_nil))) pe_int (nomark _)))))
        (pss_one (ps_expr (pe_bm PySem.F.plainAttrs_list PySem.F.slot_list_append PySem.F.type_list_append mt_append (pv 6) (pa_cons (pv 7) pa_nil))))
        pss_nil)
        (pss_one (ps_expr (pe_bm PySem.F.plainAttrs_list PySem.F.slot_list_append PySem.F.type_list_append mt_append (pv 2) (pa_cons (pe_op op_cat2 (pe_tup (pa_cons (pv 3) pa_nil)) (pe_callTy call_tuple_of (by rfl) T.tuple (by decide +kernel) (pa_cons (pv 6) pa_nil))) pa_nil)))))))))
      (pss_one (ps_ret (pv 2))))), ?_⟩
    have wlp := P0.strs_ne hwl
    refine ⟨Nat.zero_le _, fun fl hfl => ?_⟩
    have pf := P0.pne hfl
    have cf := P0.cne hfl
    have nwf : wl ≠ fl := ne_of_none hwl hfl
    have s0 : Same H (upd H fl (.lst [])) := (Same.refl H).put hfl
    refine ⟨_, rfl, wl, rfl, ⟨_, SqL.of (s0 _ _ hwl)⟩, for_list (K := K) (a := wl) (xs := ws.map V.str)
      (fun i σ Hc => ∃ (rs : List Row) (ts : List Addr) (v3 v4 v5 v6 v7 : Option V), σ = [some (.ref p), some (.ref wl), some (.ref fl), v3, v4, v5, v6, v7] ∧ Good rs ∧ rs.map (·.1) = ws.take i ∧ (∀ r ∈ rs, r.2.length ≤ 2) ∧ RowsAt Hc ts rs ∧ Hc fl = some (.lst (ts.map V.ref)) ∧ Keep p H Hc ∧ Pen Hc p c ns (n + 3 * i)) ?_ ?_ ?_ ?_⟩
    · exact ⟨[], [], _, _, _, _, _, rfl, good_nil, rfl, by simp, rowsAt_nil _, upd_same, s0.keep, (P0.new hfl).mono (by omega)⟩
    · rintro i σ Hc _ ⟨rs, ts, v3, v4, v5, v6, v7, rfl, g, en, r2, R, hF, kc, Pc⟩
      exact SqL.of (kc _ _ hwl wlp)
    · rintro i x σ Hc hi ⟨rs, ts, v3, v4, v5, v6, v7, rfl, g, en, r2, R, hF, kc, Pc⟩
      have hil : i < ws.length := by
        have := (List.getElem?_eq_some_iff.mp hi).1
        rwa [List.length_map] at this
      have hwi : ws[i]? = some ws[i] := List.getElem?_eq_getElem hil
      rw [List.getElem?_map, hwi] at hi
      cases hi
      have hrl : rs.length = i := by
        have := congrArg List.length en
        rw [List.length_map, List.length_take] at this
        omega
      have tl := R.1
      -- what is known
      refine ⟨(by show 2 ≤ sizeLine; decide), fun k0 hk0 => ?_⟩
      have s1 : Same Hc (upd Hc k0 (.lst [.str "error", .str "vacant"])) := (Same.refl Hc).put hk0
      have e1 : (upd Hc k0 (.lst [.str "error", .str "vacant"])) k0 = some (.lst (base0.map V.str)) := upd_same
      generalize upd Hc k0 (.lst [.str "error", .str "vacant"]) = H1 at s1 e1 ⊢
      refine ⟨_, rfl, fl, rfl, ⟨_, SqL.of (s1 _ _ hF)⟩, fun D1 hD1 => ?_⟩
      refine lc_list (K := K) (a := fl) (xs := ts.map V.ref) (fun j Hx => Hx D1 = some (.lst (((rs.take j).map (·.1)).map V.str)) ∧ Same H1 Hx) ?_ ?_ ?_ ?_
      · exact ⟨upd_same, (Same.refl H1).put hD1⟩
      · rintro j Hx _ ⟨_, sx⟩
        exact SqL.of (sx _ _ (s1 _ _ hF))
      · rintro j y Hx hy ⟨hDx, sx⟩
        have hj : j < ts.length := by
          have := (List.getElem?_eq_some_iff.mp hy).1
          rwa [List.length_map] at this
        have hjr : j < rs.length := by omega
        rw [List.getElem?_map, List.getElem?_eq_getElem hj] at hy
        cases hy
        have hrow := sx _ _ (s1 _ _ (R.2 j ts[j] rs[j] (List.getElem?_eq_getElem hj) (List.getElem?_eq_getElem hjr)))
        unfold rowO at hrow
        have et : (rs.take (j + 1)) = rs.take j ++ [rs[j]] := by rw [List.take_add_one, List.getElem?_eq_getElem hjr]; rfl
        refine ⟨rfl, _, rfl, _, _, _, _, rfl, rfl, SqT.of hrow, atI_nat (j := 0) rfl, _, hDx, (by rw [List.length_map, List.length_map, List.length_take]; show _ < 16777216; omega), ?_, sx.put hD1⟩
        rw [upd_same, et, List.map_append, List.map_append]
        rfl
      rintro H2 ⟨hD2, s2⟩
      rw [List.length_map, tl, List.take_length] at hD2
      refine ⟨k0, D1, _, _, rfl, rfl, s2 _ _ e1, hD2, (by rw [List.length_map, List.length_map, List.length_map]; show 2 + _ ≤ 16777216; omega), fun kn hkn => ?_⟩
      rw [← List.map_append]
      have s3 : Same H2 (upd H2 kn (.lst ((base0 ++ rs.map (·.1)).map V.str))) := (Same.refl H2).put hkn
      have e3 : (upd H2 kn (.lst ((base0 ++ rs.map (·.1)).map V.str))) kn = some (.lst ((base0 ++ rs.map (·.1)).map V.str)) := upd_same
      generalize upd H2 kn (.lst ((base0 ++ rs.map (·.1)).map V.str)) = H3 at s3 e3 ⊢
      have s13 := (s1.trans s2).trans s3
      have P3 := Pc.same s13
      have knp := P3.strs_ne e3
      have kl : (base0 ++ rs.map (·.1)).length = i + 2 := by
        rw [List.length_append, List.length_map, hrl]
        show 2 + i = i + 2
        omega
      have hke : sErr ∈ base0 ++ rs.map (·.1) := by simp [base0]
      have kne : (base0 ++ rs.map (·.1)).map V.str ≠ [] := by simp [base0]
      clear e1 hD2 s1 s2
      generalize hkn9 : base0 ++ rs.map (·.1) = known at e3 kl hke kne ⊢
      -- the first base
      refine ⟨_, rfl, _, rfl, (by show 1 ≤ sizeLine; decide), fun q1 hq1 => ?_⟩
      have s4 : Same H3 (upd H3 q1 (.lst [.str "error"])) := (Same.refl H3).put hq1
      have e4 : (upd H3 q1 (.lst [.str "error"])) q1 = some (.lst [.str "error"]) := upd_same
      generalize upd H3 q1 (.lst [.str "error"]) = H4 at s4 e4 ⊢
      refine ⟨kn, q1, _, _, rfl, rfl, s4 _ _ e3, e4, (by rw [List.length_map, kl]; show _ + 1 ≤ 16777216; omega), fun q2 hq2 => ?_⟩
      have es : known.map V.str ++ [V.str "error"] = (known ++ [sErr]).map V.str := by rw [List.map_append]; rfl
      rw [es]
      have s5 : Same H4 (upd H4 q2 (.lst ((known ++ [sErr]).map V.str))) := (Same.refl H4).put hq2
      have e5 : (upd H4 q2 (.lst ((known ++ [sErr]).map V.str))) q2 = some (.lst ((known ++ [sErr]).map V.str)) := upd_same
      generalize upd H4 q2 (.lst ((known ++ [sErr]).map V.str)) = H5 at s5 e5 ⊢
      have s35 := s4.trans s5
      have P5 := P3.same s35
      refine ⟨p, c, ns, n + 3 * i, _, _, rfl, P5, by omega, .inl ⟨q2, rfl, P5.strs_ne e5, e5⟩, by simp, (by rw [List.length_map, List.length_append, kl]; show _ + 1 ≤ 1000; omega), fun j1 v1 H6 h1 k6 P6 => ⟨(by show 1 ≤ sizeLine; decide), fun bl hbl => ?_⟩⟩
      obtain ⟨b1, o1, rfl⟩ := List.mem_map.mp (List.mem_of_getElem? h1)
      have o1 : b1 ∈ known := (List.mem_append.mp o1).elim id fun h => by rw [List.mem_singleton.mp h]; exact hke
      have pbl := P6.pne hbl
      have cbl := P6.cne hbl
      have k36 := s35.keep.trans k6
      have e36 := k36 _ _ e3 knp
      have kc6 := s13.keep.trans k36
      have hblc : Hc bl = none := kc6.fresh P6 hbl
      have s7 : Same H6 (upd H6 bl (.lst [.str b1])) := (Same.refl H6).put hbl
      have e7 : (upd H6 bl (.lst [.str b1])) bl = some (.lst ([b1].map V.str)) := upd_same
      generalize upd H6 bl (.lst [.str b1]) = H7 at s7 e7 ⊢
      have P7 := P6.same s7
      -- the other
      refine ⟨_, rfl, _, rfl, p, c, ns, _, _, _, rfl, P7, by omega, .inl ⟨kn, rfl, knp, s7 _ _ e36⟩, kne, (by rw [List.length_map, kl]; show _ ≤ 1000; omega), fun j2 v2 H8 h2 k8 P8 => ?_⟩
      obtain ⟨b2, o2, rfl⟩ := List.mem_map.mp (List.mem_of_getElem? h2)
      have e8 := k8 _ _ e7 pbl.symm
      have kc8 := (kc6.trans s7.keep).trans k8
      let CC : Hp → Prop := fun Hd => ∃ bs : List Str, Hd bl = some (.lst (bs.map V.str)) ∧ (∀ x ∈ bs, x ∈ known) ∧ bs.Nodup ∧ 1 ≤ bs.length ∧ bs.length ≤ 2 ∧ (∀ b u, Hc b = some u → b ≠ p → Hd b = some u) ∧ Pen Hd p c ns (n + 3 * i + 3)
      have one : ∀ {Hd : Hp}, Hd bl = some (.lst ([b1].map V.str)) → Keep p Hc Hd → Pen Hd p c ns (n + 3 * i + 3) → CC Hd := fun h1 h2 h3 => ⟨[b1], h1, fun x hx => by rw [List.mem_singleton.mp hx]; exact o1, by simp, Nat.le_refl _, by show 1 ≤ 2; decide, fun b u hb hp => h2 b u hb hp, h3⟩
      refine (fun (tail : ∀ (Hd : Hp), CC Hd → _) => ⟨_, rfl, _, rfl, bl, _, rfl, .inl (SqL.of e8), rfl, flat_strs _, _, rfl,
        niteN (fun hi => iteF (have hC : CC H8 := one e8 kc8 (P8.mono (by omega)); tail H8 hC))
          (fun hi => ⟨_, rfl, p, c, ns, _, 2, rfl, P8, by omega, by decide, by decide, fun dv H9 d0 d1 k9 P9 => ⟨rfl, _, rfl, ite2 (fun _ => ?app) (fun _ => (have hC : CC H9 := one (k9 _ _ e8 pbl.symm) (kc8.trans k9) (P9.mono (by omega)); tail H9 hC))⟩⟩)⟩) ?tail
      case app =>
        have hne : b2 ∉ [b1] := by
          rw [inV_strs] at hi
          exact of_decide_eq_false hi
        have e9 := k9 _ _ e8 pbl.symm
        refine ⟨_, rfl, .inl ⟨rfl, _, SqL.of e9⟩, _, rfl, bl, _, _, rfl, rfl, e9, (by show 1 < sizeLine; decide), ?_⟩
        refine tail _ ⟨[b1, b2], upd_same, fun x hx => ?_, ?_, (by show 1 ≤ 2; decide), Nat.le_refl _, fun b u hb hp => ?_, (P9.upd' pbl cbl).mono (by omega)⟩
        · rcases List.mem_cons.mp hx with rfl | hx
          · exact o1
          · rw [List.mem_singleton.mp hx]; exact o2
        · refine List.nodup_cons.mpr ⟨fun h => hne ?_, by simp⟩
          rw [List.mem_singleton.mp h]
          simp
        · rw [upd_ne (ne_of_none hb hblc)]
          exact (kc8.trans k9) b u hb hp
      case tail =>
       rintro Hd ⟨bs, hb, bsub, bnd, bl1, bl2, kd, Pd⟩
       have hFd := kd _ _ hF pf.symm
       refine ⟨_, rfl, .inl ⟨rfl, _, SqL.of hFd⟩, _, rfl, (by show 1 ≤ sizeLine; decide), fun t1 ht1 => ?_⟩
       have sa : Same Hd (upd Hd t1 (.tup [.str ws[i]])) := (Same.refl Hd).put ht1
       have ea : (upd Hd t1 (.tup [.str ws[i]])) t1 = some (.tup [.str ws[i]]) := upd_same
       generalize upd Hd t1 (.tup [.str ws[i]]) = Ha at sa ea ⊢
       refine ⟨_, rfl, bl, _, rfl, .inl ⟨SqL.of (sa _ _ hb), fun t2 ht2 => ?_⟩⟩
       have sb : Same Ha (upd Ha t2 (.tup (bs.map V.str))) := (Same.refl Ha).put ht2
       have eb : (upd Ha t2 (.tup (bs.map V.str))) t2 = some (.tup (bs.map V.str)) := upd_same
       generalize upd Ha t2 (.tup (bs.map V.str)) = Hb at sb eb ⊢
       refine ⟨t1, t2, _, _, rfl, rfl, sb _ _ ea, eb, (by rw [List.length_map]; show 1 + _ ≤ 16777216; omega), fun t Hg sg ht => ?_⟩
       have sdg := (sa.trans sb).trans sg
       have hFg := sdg _ _ hFd
       have Pg := Pd.same sdg
       have kg : Keep p Hc Hg := fun b u hb hp => sdg _ _ (kd b u hb hp)
       refine ⟨fl, _, _, rfl, rfl, hFg, (by rw [List.length_map, tl]; show _ < 16777216; omega), ?_⟩
       have etk : ws.take (i + 1) = ws.take i ++ [ws[i]] := by rw [List.take_add_one, hwi]; rfl
       have hnew : ws[i] ∉ known := by
         intro hm
         rw [← hkn9, en] at hm
         rcases List.mem_append.mp hm with hm | hm
         · have := hws.nb ws[i] (List.getElem_mem _)
           unfold base0 at hm
           rcases List.mem_cons.mp hm with e | hm
           · rw [e] at this; exact this err_barred
           · have e : ws[i] = sVac := by simpa using hm
             rw [e] at this; exact this vac_barred
         · have := List.nodup_append.mp (etk ▸ hws.nd.sublist (List.take_sublist (i + 1) ws))
           exact this.2.2 _ hm _ (by simp) rfl
       have row1 : ∀ b r, Hg b = some (rowO r) → ∀ xs, (upd Hg fl (.lst xs)) b = some (rowO r) := fun b r e xs => by
         have h1 : b ≠ fl := ne_of e hFg (by unfold rowO; intro z; cases z)
         rw [upd_ne h1]
         exact e
       have bne : bs ≠ [] := fun e => by rw [e] at bl1; exact absurd bl1 (by decide)
       refine ⟨rs ++ [(ws[i], bs)], ts ++ [t], _, _, _, _, _, rfl, good_snoc g (by rw [hkn9]; exact ⟨hws.vw _ (List.getElem_mem _), hnew, bne, bnd, bsub⟩), by rw [List.map_append, en, etk]; rfl, ?_, ?_, by rw [upd_same, List.map_append]; rfl, (kc.trans kg).new hfl, (Pg.upd' pf cf).mono (by omega)⟩
       · intro r hr
         rcases List.mem_append.mp hr with hr | hr
         · exact r2 r hr
         · rw [List.mem_singleton.mp hr]; exact bl2
       · exact ((R.keep Pc kg).mono fun b r e => row1 b r e _).snoc (row1 t (ws[i], bs) ht _)
    · rintro σ Hc ⟨rs, ts, v3, v4, v5, v6, v7, rfl, g, en, r2, R, hF, kc, Pc⟩
      rw [List.length_map] at en Pc
      rw [List.take_length] at en
      exact ⟨_, rfl, k fl ts rs Hc en g r2 hF R pf.symm kc (Pc.mono (by omega))⟩
end
end K2
end
section
set_option Elab.async false
set_option maxRecDepth 100000
set_option linter.all false
/-! the kinds as the law builds them, what they take -/
namespace K2
open PySem L2 PySem.Spec PyProof.Rows
abbrev sKi : Stmt := top 37
abbrev sTk : Stmt := top 39
abbrev nKi : List Str := ["_law_above_here", "_law_found", "_law_word", "_law_more", "_law_kind", "_law_one"]
abbrev nTk : List Str := ["_law_above_here", "_law_kind", "_law_some", "_law_mine", "_law_one"]
theorem meet_one (tb : Tb) (x : Str) (ns : List Str) : meet tb [x] ns = !((ns.filter fun y => decide (y ∈ look tb x)).map V.str).isEmpty := by
  unfold meet
  rw [List.map_cons, List.map_nil, List.flatten_cons, List.flatten_nil, List.append_nil]
  induction ns with
  | nil => rfl
  | cons n ns ih =>
    rw [List.map_cons, List.any_cons]
    by_cases h : n ∈ look tb x
    · rw [List.filter_cons_of_pos (by simpa using h)]
      simp [h]
    · rw [List.filter_cons_of_neg (by simpa using h), ih]
      simp [h]
theorem meet_cons (tb : Tb) (x : Str) (ks ns : List Str) : meet tb (x :: ks) ns = (meet tb [x] ns || meet tb ks ns) := by
  unfold meet
  rw [List.map_cons, List.flatten_cons, List.any_append, List.map_cons, List.map_nil, List.flatten_cons, List.flatten_nil, List.append_nil]
theorem meet_snoc (tb : Tb) (x : Str) (ns : List Str) : ∀ ks : List Str, meet tb (ks ++ [x]) ns = (meet tb ks ns || meet tb [x] ns)
  | [] => rfl
  | k :: ks => by rw [List.cons_append, meet_cons, meet_snoc tb x ns ks, meet_cons tb k ks, Bool.or_assoc]
theorem meet_mem {tb : Tb} {x : Str} {ns : List Str} : ∀ {ks : List Str}, x ∈ ks → meet tb [x] ns = true → meet tb ks ns = true
  | [], h, _ => by simp at h
  | k :: ks, h, m => by
    rw [meet_cons]
    rcases List.mem_cons.mp h with rfl | h
    · rw [m]; rfl
    · rw [meet_mem h m, Bool.or_true]
theorem meet_nil (tb : Tb) (ns : List Str) : meet tb [] ns = false := rfl
/-- what is above what stands at d -/
def AbAt (H : Hp) (d : Addr) (tb : Tb) : Prop := ∃ kvs, H d = some (.dK kvs) ∧ Tab fL H kvs tb
theorem AbAt.same {H H' : Hp} {d : Addr} {tb : Tb} (h : AbAt H d tb) (s : Same H H') : AbAt H' d tb := by
  obtain ⟨kvs, h1, h2⟩ := h
  exact ⟨kvs, s _ _ h1, h2.mono fun a us e => s _ _ e⟩
theorem _root_.K2.Pen.dic_ne {H : Hp} {p c b : Addr} {ns : List Int} {n : Nat} {kvs : List (Key × V)} (P : Pen H p c ns n) (h : H b = some (.dK kvs)) : b ≠ p := fun e => by
  obtain ⟨a, l, hp, _⟩ := P.pen
  rw [e, hp] at h
  cases h
theorem AbAt.kp {H H' : Hp} {d p c : Addr} {tb : Tb} {ns : List Int} {n : Nat} (h : AbAt H d tb) (k : Keep p H H') (P : Pen H p c ns n) : AbAt H' d tb := by
  obtain ⟨kvs, h1, h2⟩ := h
  exact ⟨kvs, k _ _ h1 (P.dic_ne h1), h2.mono fun a us e => k _ _ e (P.strs_ne e)⟩
theorem Tab.names {f : List Str → HO} {H : Hp} {kvs : List (Key × V)} {t : Tb} (h : Tab f H kvs t) : (kvs.map fun kv => kV kv.1) = (keys t).map V.str := by
  have e := congrArg (List.map kV) h.keys_eq
  rw [List.map_map, List.map_map] at e
  exact e
theorem apart_filter (tb : Tb) (x : Str) (xs : List Str) : ((xs.filter (near tb x)).map V.str).isEmpty = apart tb x xs := by
  unfold apart
  induction xs with
  | nil => rfl
  | cons o xs ih =>
    rw [List.map_cons, List.any_cons]
    by_cases h : near tb x o = true
    · rw [List.filter_cons_of_pos h]
      simp [h]
    · rw [List.filter_cons_of_neg h, ih]
      have h : near tb x o = false := by simpa using h
      simp [h]
def spKi : Sp := fun vs H Q _ => ∃ (d : Addr) (tb : Tb), vs = [.ref d] ∧ AbAt H d tb ∧ (keys tb).Nodup ∧ (keys tb).length ≤ 6 ∧
  ∀ (ka : Addr) (bs : List Addr) (S : List Str) (ys : List (List Str)) (H' : Hp), S.Perm (keys tb) → sortedS S = true → ys.Perm (growK tb S).tail → ys.Pairwise tle → H' ka = some (.lst (bs.map V.ref)) → PAt H' bs ys → Same H H' → Q (.ref ka) H'
def spTk : Sp := fun vs H Q _ => ∃ (d kt sl : Addr) (tb : Tb) (kd some_ : List Str), vs = [.ref d, .ref kt, .ref sl] ∧ AbAt H d tb ∧ H kt = some (.tup (kd.map V.str)) ∧ H sl = some (.lst (some_.map V.str)) ∧ (∀ x ∈ kd, x ∈ keys tb) ∧ kd.length ≤ 40 ∧ some_.length ≤ 40 ∧ ∀ H', Same H H' → Q (.bl (meet tb kd some_)) H'
section
variable {P : Program} {w : World} {K : PySem.W.Frag} {mg : Str → Option Value} {base : Heap}
theorem scKi : FnScope nKi ["_law_above_here"] (defScope sKi) := ⟨rfl, rfl, rfl, by decide +kernel, rfl, by decide +kernel, by decide +kernel⟩
theorem scTk : FnScope nTk ["_law_above_here", "_law_kind", "_law_some"] (defScope sTk) := ⟨rfl, rfl, rfl, by decide +kernel, rfl, by decide +kernel, by decide +kernel⟩
theorem ok_tk {f : Addr} {fd : FuncData} (F : Fun K "_law_taken" "_law_taken" sTk f fd) : FnOk P w K mg base CX0 1 f fd ["_law_above_here", "_law_kind", "_law_some"] spTk := by
  refine F.ok scTk (fun vs H Q E h => ?_) (fun cdv A outer s H vs Q E hr h => ?_)
  · obtain ⟨d, kt, sl, tb, kd, sm, rfl, _⟩ := h
    rfl
  · obtain ⟨d, kt, sl, tb, kd, sm, rfl, ⟨kvs, hd, TB⟩, hkt, hsl, hkd, k40, s40, k⟩ := h
    have hu := hu_of hr
    refine ⟨_, (pss_cons (ps_for PassesOwn.never rfl (pi_tup (pv 1)) (pg_name (i := 3) scTk.nd rfl (Or.inr rfl))
      (pss_one (ps_if (pt_cmpR (op_neL0 (u0_of hr)) (pe_lc (own := [("_law_one", 4)]) (g := gName 4)  rfl scTk.nd (pi_list (pv 2)) (blkOk_by (N := nTk) (sc := defScope sTk) (by decide +kernel)) (fun _ _ _ _ _ => pg_name (i := 4) scTk.nd rfl (Or.inl rfl)) (fun _ _ _ _ _ => pts_one (pt_cmpR (op_in_seqK (K' := K) rfl) (pv 4) (pe_dget hu (pv 0) (pv 3) (fun _ _ => rfl)) rfl)) (fun _ _ _ _ _ => pv 4)) (pe_lst pa_nil) (nomark _))
        (pss_one (ps_ret pe_bl))
        pss_nil)))
      (pss_one (ps_ret pe_bl))), ?_⟩
    refine ⟨_, rfl, kt, rfl, ⟨_, SqT.of hkt⟩, for_tup (K := K) (a := kt) (xs := kd.map V.str) (fun j σ Hc => ∃ v3 v4 : Option V, σ = [some (.ref d), some (.ref kt), some (.ref sl), v3, v4] ∧ meet tb (kd.take j) sm = false ∧ Same H Hc) ?_ ?_ ?_ ?_⟩
    · exact ⟨_, _, rfl, rfl, Same.refl H⟩
    · rintro j σ Hc _ ⟨v3, v4, rfl, _, sc⟩
      exact SqT.of (sc _ _ hkt)
    · rintro j x σ Hc hj ⟨v3, v4, rfl, hm, sc⟩
      have hjl : j < kd.length := by
        have := (List.getElem?_eq_some_iff.mp hj).1
        rwa [List.length_map] at this
      have hkj : kd[j]? = some kd[j] := List.getElem?_eq_getElem hjl
      rw [List.getElem?_map, hkj] at hj
      cases hj
      have hmem : kd[j] ∈ kd := List.getElem_mem hjl
      generalize kd[j] = x at hkj hmem ⊢
      obtain ⟨u, hu1, hu2⟩ := TB.val (hkd x hmem)
      unfold fL at hu2
      refine ⟨_, rfl, sl, rfl, ⟨_, SqL.of (sc _ _ hsl)⟩, fun D hD => ?_⟩
      refine lc_list (K := K) (a := sl) (xs := sm.map V.str) (fun i Hx => Hx D = some (.lst (((sm.take i).filter fun y => decide (y ∈ look tb x)).map V.str)) ∧ Same Hc Hx) ?_ ?_ ?_ ?_
      · exact ⟨upd_same, (Same.refl Hc).put hD⟩
      · rintro i Hx _ ⟨_, sx⟩
        exact SqL.of (sx _ _ (sc _ _ hsl))
      · rintro i y Hx hy ⟨hDx, sx⟩
        have hi : i < sm.length := by
          have := (List.getElem?_eq_some_iff.mp hy).1
          rwa [List.length_map] at this
        have hmi : sm[i]? = some sm[i] := List.getElem?_eq_getElem hi
        rw [List.getElem?_map, hmi] at hy
        cases hy
        have et : sm.take (i + 1) = sm.take i ++ [sm[i]] := by rw [List.take_add_one, hmi]; rfl
        refine ⟨rfl, _, rfl, _, rfl, _, rfl, d, _, rfl, dget_s (sx _ _ (sc _ _ hd)) hu1, u, _, rfl, .inl (SqL.of (sx _ _ (sc _ _ hu2))), rfl, flat_strs _, _, rfl, ?_⟩
        rw [if_neg (by decide), inV_strs]
        by_cases hin : sm[i] ∈ look tb x
        · rw [decide_eq_true hin]
          refine iteT ⟨_, rfl, _, hDx, ?_, ?_, sx.put hD⟩
          · rw [List.length_map]
            have := List.length_filter_le (fun y => decide (y ∈ look tb x)) (sm.take i)
            rw [List.length_take] at this
            show _ < 16777216
            omega
          · rw [upd_same, et, List.filter_append, List.filter_cons_of_pos (by simpa using hin), List.filter_nil, List.map_append]
            rfl
        · rw [decide_eq_false hin]
          refine iteF ⟨?_, sx⟩
          rw [et, List.filter_append, List.filter_cons_of_neg (by simpa using hin), List.filter_nil, List.append_nil]
          exact hDx
      rintro H2 ⟨hD2, s2⟩
      rw [List.length_map, List.take_length] at hD2
      refine ⟨Nat.zero_le _, fun e0 he0 => ⟨D, e0, _, rfl, rfl, SqL.of (by rw [upd_ne (ne_of_none hD2 he0)]; exact hD2), SqL.of upd_same, _, rfl, ?_⟩⟩
      have s3 : Same H2 (upd H2 e0 (.lst [])) := (Same.refl H2).put he0
      have sall := (sc.trans s2).trans s3
      rw [← meet_one]
      have et : kd.take (j + 1) = kd.take j ++ [x] := by rw [List.take_add_one, hkj]; rfl
      cases hb : meet tb [x] sm with
      | true =>
        refine iteT ?_
        have := k _ sall
        rw [meet_mem hmem hb] at this
        exact this
      | false =>
        refine iteF ⟨_, _, rfl, ?_, sall⟩
        rw [et, meet_snoc, hm, hb]
        rfl
    · rintro σ Hc ⟨v3, v4, rfl, hm, sc⟩
      rw [List.length_map, List.take_length] at hm
      have := k _ sc
      rw [hm] at this
      exact this
theorem ok_lk {f : Addr} {fd : FuncData} (F : Fun K "_law_kinds" "_law_kinds" sKi f fd) (T : Bi mg) (tSo : mg "sorted" = none) : FnOk P w K mg base CX0 1 f fd ["_law_above_here"] spKi := by
  refine F.ok scKi (fun vs H Q E h => ?_) (fun cdv A outer s H vs Q E hr h => ?_)
  · obtain ⟨d, tb, rfl, _⟩ := h
    rfl
  · obtain ⟨d, tb, rfl, ⟨kvs, hd, TB⟩, nd, h6, k⟩ := h
    have hu := hu_of hr
    refine ⟨_, (pss_cons (ps_set (i := 1) scKi.nd rfl (Or.inl rfl) (pe_lst (pa_cons (pe_tup pa_nil) pa_nil)))
      (pss_cons (ps_for PassesOwn.never rfl (pi_list (pe_callB cr_sortedS (by rfl) tSo (by decide +kernel) (pa_cons (pe_callTy (call_list_dK rfl) (by rfl) T.list (by decide +kernel) (pa_cons (pv 0) pa_nil)) pa_nil))) (pg_name (i := 2) scKi.nd rfl (Or.inr rfl))
      (pss_cons (ps_set (i := 3) scKi.nd rfl (Or.inl rfl) (pe_lst pa_nil))
        (pss_cons (ps_for PassesOwn.never rfl (pi_list (pv 1)) (pg_name (i := 4) scKi.nd rfl (Or.inl rfl))
        (pss_one (ps_if (pt_cmpR (op_eqL0 (u0_of hr)) (pe_lc (own := [("_law_one", 5)]) (g := gName 5)  rfl scKi.nd (pi_tup (pv 4)) (blkOk_by (N := nKi) (sc := defScope sKi) (by decide +kernel)) (fun _ _ _ _ _ => pg_name (i := 5) scKi.nd rfl (Or.inl rfl)) (fun _ _ _ _ _ => pts_one (PW.pt (pw_or (pt_cmpR (op_in_seqK (K' := K) rfl) (pv 5) (pe_dget hu (pv 0) (pv 2) (fun _ _ => rfl)) rfl) (pw_or1 (pt_cmpR (op_in_seqK (K' := K) rfl) (pv 2) (pe_dget hu (pv 0) (pv 5) (fun _ _ => rfl)) rfl))))) (fun _ _ _ _ _ => pv 5)) (pe_lst pa_nil) (nomark _))
          (pss_one (ps_expr (pe_bm PySem.F.plainAttrs_list PySem.F.slot_list_append PySem.F.type_list_append mt_append (pv 3) (pa_cons (pe_op op_cat2 (pv 4) (pe_tup (pa_cons (pv 2) pa_nil))) pa_nil))))
          pss_nil)))
        (pss_one (ps_set (i := 1) scKi.nd rfl (Or.inl rfl) (pe_op op_cat (pv 1) (pv 3)))))))
      (pss_one (ps_ret (pe_callB cr_sortedTS (by rfl) tSo (by decide +kernel) (pa_cons (pe_slice sl_list (pv 1) (po_some pe_int) po_none) pa_nil)))))), ?_⟩
    refine ⟨Nat.zero_le _, fun e he => ⟨(by show 1 ≤ sizeLine; decide), fun l0 hl0 => ?_⟩⟩
    have s1 := (Same.refl H).put (o := .tup []) he
    have s2 := s1.put (o := .lst [.ref e]) (s1.free hl0)
    have pa0 : PAt (upd (upd H e (.tup [])) l0 (.lst [.ref e])) [e] [[]] := PAt.one (by rw [upd_ne (ne_of_none upd_same hl0), upd_same]; rfl)
    have el0 : (upd (upd H e (.tup [])) l0 (.lst [.ref e])) l0 = some (.lst ([e].map V.ref)) := upd_same
    generalize upd (upd H e (.tup [])) l0 (.lst [.ref e]) = H0 at s2 pa0 el0 ⊢
    refine ⟨_, rfl, d, kvs, rfl, s2 _ _ hd, fun ql hql => ?_⟩
    rw [TB.names]
    have s3 := s2.put (o := .lst ((keys tb).map V.str)) (s2.free hql)
    have pa1 : PAt (upd H0 ql (.lst ((keys tb).map V.str))) [e] [[]] := pa0.same fun b o _ hb => by rw [upd_ne (ne_of_none hb hql)]; exact hb
    have el1 : (upd H0 ql (.lst ((keys tb).map V.str))) l0 = some (.lst ([e].map V.ref)) := by rw [upd_ne (ne_of_none el0 hql)]; exact el0
    have eq1 : (upd H0 ql (.lst ((keys tb).map V.str))) ql = some (.lst ((keys tb).map V.str)) := upd_same
    generalize upd H0 ql (.lst ((keys tb).map V.str)) = H1 at s3 pa1 el1 eq1 ⊢
    refine ⟨ql, keys tb, rfl, SqL.of eq1, by omega, fun S q hS hso hq => ?_⟩
    have hSl : S.length ≤ 6 := by rw [hS.length_eq]; exact h6
    have s4 := s3.put (o := .lst (S.map V.str)) (s3.free hq)
    have pa2 : PAt (upd H1 q (.lst (S.map V.str))) [e] [[]] := pa1.same fun b o _ hb => by rw [upd_ne (ne_of_none hb hq)]; exact hb
    have el2 : (upd H1 q (.lst (S.map V.str))) l0 = some (.lst ([e].map V.ref)) := by rw [upd_ne (ne_of_none el1 hq)]; exact el1
    have eq2 : (upd H1 q (.lst (S.map V.str))) q = some (.lst (S.map V.str)) := upd_same
    clear pa0 el0 pa1 el1 eq1 s1 s2
    generalize upd H1 q (.lst (S.map V.str)) = H2 at s4 pa2 el2 eq2 ⊢
    refine ⟨q, rfl, ⟨_, SqL.of eq2⟩, ?_⟩
    refine for_list (K := K) (a := q) (xs := S.map V.str) (fun i σ Hc => ∃ (li : Addr) (as : List Addr) (v2 v3 v4 v5 : Option V), σ = [some (.ref d), some (.ref li), v2, v3, v4, v5] ∧ Hc li = some (.lst (as.map V.ref)) ∧ PAt Hc as (growK tb (S.take i)) ∧ Hc q = some (.lst (S.map V.str)) ∧ Same H Hc) ?_ ?_ ?_ ?_
    · exact ⟨l0, [e], _, _, _, _, rfl, el2, pa2, eq2, s4⟩
    · rintro i σ Hc _ ⟨li, as, v2, v3, v4, v5, rfl, g1, g2, g3, sm⟩
      exact SqL.of g3
    · rintro i x σ Hc hx ⟨li, as, v2, v3, v4, v5, rfl, g1, g2, g3, sm⟩
      rw [List.getElem?_map] at hx
      obtain ⟨nm, hnm, rfl⟩ : ∃ nm, S[i]? = some nm ∧ V.str nm = x := by
        cases hq2 : S[i]? with
        | none => rw [hq2] at hx; cases hx
        | some nm => rw [hq2] at hx; exact ⟨nm, rfl, Option.some.inj hx⟩
      have hnk : nm ∈ keys tb := hS.mem_iff.mp (List.mem_of_getElem? hnm)
      have gs : (growK tb (S.take i)).length ≤ 64 := growK_sz (by rw [List.length_take]; omega)
      rw [growK_take hnm]
      have gin : ∀ x ∈ growK tb (S.take i), x.length ≤ 6 ∧ ∀ u ∈ x, u ∈ keys tb := fun x hx => by
        obtain ⟨a, b⟩ := growK_in hx
        rw [List.length_take] at a
        exact ⟨by omega, fun u hu => hS.mem_iff.mp (List.mem_of_mem_take (b u hu))⟩
      generalize growK tb (S.take i) = G at *
      have hal := g2.len
      obtain ⟨un, un1, un2⟩ := TB.val hnk
      unfold fL at un2
      refine ⟨Nat.zero_le _, fun D hD => ?_⟩
      have sD : Same Hc (upd Hc D (.lst [])) := (Same.refl Hc).put hD
      refine ⟨_, rfl, li, rfl, ⟨_, SqL.of (sD _ _ g1)⟩, for_list (K := K) (a := li) (xs := as.map V.ref) (fun j σ Hd => ∃ (v4 v5 : Option V) (bs : List Addr), σ = [some (.ref d), some (.ref li), some (.str nm), some (.ref D), v4, v5] ∧ Hd D = some (.lst (bs.map V.ref)) ∧ PAt Hd bs (((G.take j).filter fun p => apart tb nm p).map fun p => p ++ [nm]) ∧ Same Hc Hd) ?_ ?_ ?_ ?_⟩
      · exact ⟨_, _, [], rfl, upd_same, rfl, sD⟩
      · rintro j σ Hd _ ⟨v4, v5, bs, rfl, _, _, sd⟩
        exact SqL.of (sd li _ g1)
      · rintro j y σ Hd hy ⟨v4, v5, bs, rfl, b1, b2, sd⟩
        rw [List.getElem?_map] at hy
        obtain ⟨b, hb, rfl⟩ : ∃ b, as[j]? = some b ∧ V.ref b = y := by
          cases hq2 : as[j]? with
          | none => rw [hq2] at hy; cases hy
          | some b => rw [hq2] at hy; exact ⟨b, rfl, Option.some.inj hy⟩
        obtain ⟨xs, hxs, hbt⟩ := g2.get hb
        have hxm := gin xs (List.mem_of_getElem? hxs)
        have hbd := sd _ _ hbt
        have hdd := sd _ _ (sm _ _ hd)
        have et : G.take (j + 1) = G.take j ++ [xs] := by rw [List.take_add_one, hxs]; rfl
        refine ⟨_, rfl, b, rfl, ⟨_, SqT.of hbd⟩, fun D2 hD2 => ?_⟩
        refine lc_tup (K := K) (a := b) (xs := xs.map V.str) (fun t Hx => Hx D2 = some (.lst (((xs.take t).filter (near tb nm)).map V.str)) ∧ Same Hd Hx) ?_ ?_ ?_ ?_
        · exact ⟨upd_same, (Same.refl Hd).put hD2⟩
        · rintro t Hx _ ⟨_, sx⟩
          exact SqT.of (sx _ _ hbd)
        · rintro t y Hx hy ⟨hDx, sx⟩
          have ht : t < xs.length := by
            have := (List.getElem?_eq_some_iff.mp hy).1
            rwa [List.length_map] at this
          have hxt : xs[t]? = some xs[t] := List.getElem?_eq_getElem ht
          rw [List.getElem?_map, hxt] at hy
          cases hy
          have eq : xs.take (t + 1) = xs.take t ++ [xs[t]] := by rw [List.take_add_one, hxt]; rfl
          have hok := hxm.2 xs[t] (List.getElem_mem ht)
          generalize xs[t] = o at eq hok ⊢
          obtain ⟨uo, uo1, uo2⟩ := TB.val hok
          unfold fL at uo2
          have szl : (((xs.take t).filter (near tb nm)).map V.str).length < 16777216 := by
            rw [List.length_map]
            have := List.length_filter_le (near tb nm) (xs.take t)
            rw [List.length_take] at this
            omega
          have yes : near tb nm o = true → ∃ acc, Hx D2 = some (.lst acc) ∧ acc.length < sizeLine ∧ ((upd Hx D2 (.lst (acc ++ [V.str o]))) D2 = some (.lst (((xs.take (t + 1)).filter (near tb nm)).map V.str)) ∧ Same Hd (upd Hx D2 (.lst (acc ++ [V.str o])))) := fun h => by
            refine ⟨_, hDx, szl, ?_, sx.put hD2⟩
            rw [upd_same, eq, List.filter_append, List.filter_cons_of_pos h, List.filter_nil, List.map_append]
            rfl
          refine ⟨rfl, _, rfl, _, rfl, _, rfl, d, _, rfl, dget_s (sx _ _ hdd) un1, un, _, rfl, .inl (SqL.of (sx _ _ (sd _ _ (sm _ _ un2)))), rfl, flat_strs _, _, rfl, ?_⟩
          rw [if_neg (by decide), inV_strs]
          by_cases h1 : o ∈ look tb nm
          · rw [decide_eq_true h1]
            exact iteT (iteT ⟨_, rfl, yes (by unfold near; rw [decide_eq_true h1]; rfl)⟩)
          · rw [decide_eq_false h1]
            refine iteF ⟨_, rfl, _, rfl, _, rfl, d, _, rfl, dget_s (sx _ _ hdd) uo1, uo, _, rfl, .inl (SqL.of (sx _ _ (sd _ _ (sm _ _ uo2)))), rfl, flat_strs _, _, rfl, ?_⟩
            rw [if_neg (by decide), inV_strs]
            by_cases h2 : nm ∈ look tb o
            · rw [decide_eq_true h2]
              exact iteT ⟨_, rfl, yes (by unfold near; rw [decide_eq_true h2, Bool.or_true])⟩
            · rw [decide_eq_false h2]
              refine iteF ⟨?_, sx⟩
              have hn : ¬ near tb nm o = true := by unfold near; rw [decide_eq_false h1, decide_eq_false h2]; decide
              rw [eq, List.filter_append, List.filter_cons_of_neg hn, List.filter_nil, List.append_nil]
              exact hDx
        rintro H3 ⟨hD3, s3'⟩
        rw [List.length_map, List.take_length] at hD3
        refine ⟨Nat.zero_le _, fun e0 he0 => ⟨D2, e0, _, rfl, rfl, SqL.of (by rw [upd_ne (ne_of_none hD3 he0)]; exact hD3), SqL.of upd_same, _, rfl, ?_⟩⟩
        rw [apart_filter]
        have s5 : Same Hd (upd H3 e0 (.lst [])) := s3'.trans ((Same.refl H3).put he0)
        generalize upd H3 e0 (.lst []) = H5 at s5 ⊢
        have b15 := s5 _ _ b1
        have b25 := b2.same (H' := H5) fun b o _ hb => s5 _ _ hb
        cases z : apart tb nm xs with
        | true =>
          have lb : bs.length ≤ 64 := by
            have := b2.len
            rw [List.length_map] at this
            have h2 := List.length_filter_le (fun p => apart tb nm p) (G.take j)
            rw [List.length_take] at h2
            omega
          refine iteT ⟨_, rfl, .inl ⟨rfl, _, SqL.of b15⟩, _, rfl, _, rfl, (by show 1 ≤ sizeLine; decide), fun t1 ht1 => ?_⟩
          have sx := s5.put (o := .tup [.str nm]) (s5.free ht1)
          refine ⟨b, t1, _, _, rfl, rfl, sx _ _ hbd, upd_same, ?_, fun t2 H6 s6 ht2 => ?_⟩
          · rw [List.length_map]; show _ + 1 ≤ 16777216; omega
          have s7 := sx.trans s6
          have b17 := s7 _ _ b1
          refine ⟨D, _, _, rfl, rfl, b17, (by rw [List.length_map]; show _ < 16777216; omega), ?_⟩
          refine ⟨_, _, bs ++ [t2], rfl, by rw [upd_same, List.map_append]; rfl, ?_, (sd.trans s7).put hD⟩
          rw [et, List.filter_append, List.map_append, List.filter_cons, if_pos z]
          have nD : ∀ (b : Addr) (o : List V), H6 b = some (.tup o) → b ≠ D := fun b o hb => ne_of hb b17 (by intro z; cases z)
          refine PAt.app (b2.same fun b o hb hbo => ?_) (PAt.one ?_)
          · obtain ⟨ys, _, e⟩ := b2.mem hb
            rw [upd_ne (nD _ _ (s7 _ _ e))]
            exact s7 _ _ hbo
          · rw [upd_ne (nD _ _ ht2), ht2, List.map_append]
            rfl
        | false =>
          refine iteF ⟨_, _, bs, rfl, b15, ?_, sd.trans s5⟩
          rw [et, List.filter_append, List.filter_cons, if_neg (by rw [z]; decide), List.filter_nil, List.append_nil]
          exact b25
      · rintro σ Hd ⟨v4, v5, bs, rfl, b1, b2, sd⟩
        rw [List.length_map, hal, List.take_length] at b2
        have hbl := b2.len
        rw [List.length_map] at hbl
        have hfl := List.length_filter_le (fun p => apart tb nm p) G
        refine ⟨_, rfl, _, rfl, li, D, _, _, rfl, rfl, sd _ _ g1, b1, ?_, fun l2 hl2 => ?_⟩
        · rw [List.length_map, List.length_map]; show _ ≤ 16777216; omega
        have sn : Same Hd (upd Hd l2 (.lst (as.map V.ref ++ bs.map V.ref))) := (Same.refl Hd).put hl2
        refine ⟨l2, as ++ bs, _, _, _, _, rfl, by rw [upd_same, List.map_append], ?_, sn _ _ (sd _ _ g3), (sm.trans sd).trans sn⟩
        exact PAt.app (g2.same fun b o _ hb => sn _ _ (sd _ _ hb)) (b2.same fun b o _ hb => sn _ _ hb)
    · rintro σ Hc ⟨li, as, v2, v3, v4, v5, rfl, g1, g2, g3, sm⟩
      rw [List.length_map, List.take_length] at g2
      have nS : S.Nodup := hS.nodup_iff.mpr nd
      have gt := grow_tail tb S nS
      have gne : ∀ x ∈ (growK tb S).tail, x ≠ [] := fun x hx => by
        rw [gt, List.tail_cons] at hx
        obtain ⟨m, hm, rfl⟩ := List.mem_map.mp (List.mem_filter.mp hx).1
        have := List.mem_range.mp hm
        exact masked_ne S (m + 1) (by omega) (by omega)
      obtain ⟨a0, as', rfl⟩ : ∃ a0 as', as = a0 :: as' := by
        have := g2.len
        rw [gt] at this
        cases as with
        | nil => simp at this
        | cons a0 as' => exact ⟨a0, as', rfl⟩
      have gp : PAt Hc as' (growK tb S).tail := by
        rw [gt] at g2 ⊢
        exact List.tail_eq_of_cons_eq g2
      generalize hG : (growK tb S).tail = G at *
      refine ⟨_, rfl, 1, rfl, li, _, rfl, SqL.of g1, fun l3 hl3 => ?_⟩
      have ecut : cutV ((a0 :: as').map V.ref) (some 1) none = as'.map V.ref := cutT _ _
      rw [ecut]
      have s3 := sm.put (o := .lst (as'.map V.ref)) (sm.free hl3)
      have gp3 : PAt (upd Hc l3 (.lst (as'.map V.ref))) as' G := gp.same fun b o _ hb => by rw [upd_ne (ne_of_none hb hl3)]; exact hb
      have e3 : (upd Hc l3 (.lst (as'.map V.ref))) l3 = some (.lst (as'.map V.ref)) := upd_same
      generalize upd Hc l3 (.lst (as'.map V.ref)) = H3 at *
      refine ⟨l3, as', rfl, SqL.of e3, fun b hb => ?_, fun bs p2 hp hpw hp2 => ?_⟩
      · obtain ⟨xs, hx, e⟩ := gp3.mem hb
        exact ⟨xs, gne xs hx, e⟩
      · have s4 := s3.put (o := .lst (bs.map V.ref)) (s3.free hp2)
        refine k p2 bs S (bs.map (strsAt H3)) _ hS hso ?_ hpw upd_same ?_ s4
        · have := hp.map (strsAt H3)
          rw [gp3.strs] at this
          rw [hG]
          exact this
        · have p3 : PAt H3 bs (bs.map (strsAt H3)) := PAt.of fun b hb => by
            obtain ⟨xs, _, e⟩ := gp3.mem (hp.mem_iff.mp hb)
            exact ⟨xs, e⟩
          exact p3.same fun b o _ hb => by rw [upd_ne (ne_of_none hb hp2)]; exact hb
end
end K2
end
section
set_option Elab.async false
set_option maxRecDepth 100000
set_option linter.all false
/-! what repr asks of data -/
namespace K2
open PySem L2 SupX NdefX PySem.Spec PyProof.Rows
/-! what repr and == ask of them -/
structure DFit (d : PyData) (dep wt : Nat) : Prop where
  show_ : d.showable = true
  nod : d.hasDict = false
  dep : d.depth ≤ dep
  wt : d.weight ≤ wt
  short : PyData.intsShort 13 d = true
  lay : d.canLay0 = true
structure DsFit (ds : List PyData) (dep wt : Nat) : Prop where
  show_ : PyData.showableAll ds = true
  nod : PyData.hasDictAll ds = false
  dep : PyData.depthAll ds ≤ dep
  wt : PyData.weightAll ds ≤ wt
  short : PyData.intsShortAll 13 ds = true
  lay : PyData.canLayAll0 ds = true
theorem DsFit.nil : DsFit [] 0 0 := ⟨rfl, rfl, Nat.le_refl _, Nat.le_refl _, rfl, rfl⟩
theorem DsFit.cons {d : PyData} {ds : List PyData} {e w w' : Nat} (h : DFit d e w) (k : DsFit ds e w') : DsFit (d :: ds) e (w + 1 + w') := by
  refine ⟨?_, ?_, ?_, ?_, ?_, ?_⟩
  · show (d.showable && PyData.showableAll ds) = true; rw [h.show_, k.show_]; rfl
  · show (d.hasDict || PyData.hasDictAll ds) = false; rw [h.nod, k.nod]; rfl
  · show max d.depth (PyData.depthAll ds) ≤ e; exact Nat.max_le.mpr ⟨h.dep, k.dep⟩
  · show d.weight + 1 + PyData.weightAll ds ≤ w + 1 + w'; have := h.wt; have := k.wt; omega
  · show (PyData.intsShort 13 d && PyData.intsShortAll 13 ds) = true; rw [h.short, k.short]; rfl
  · show (d.canLay0 && PyData.canLayAll0 ds) = true; rw [h.lay, k.lay]; rfl
theorem DsFit.mono {ds : List PyData} {e e' w w' : Nat} (h : DsFit ds e w) (he : e ≤ e') (hw : w ≤ w') : DsFit ds e' w' := ⟨h.show_, h.nod, Nat.le_trans h.dep he, Nat.le_trans h.wt hw, h.short, h.lay⟩
theorem DsFit.all {α : Type} {D : α → PyData} {e w : Nat} : ∀ {cs : List α}, (∀ c ∈ cs, DFit (D c) e w) → DsFit (cs.map D) e ((w + 1) * cs.length)
  | [], _ => DsFit.nil.mono (Nat.zero_le _) (Nat.zero_le _)
  | c :: cs, h => (DsFit.cons (h c List.mem_cons_self) (DsFit.all fun x hx => h x (List.mem_cons_of_mem _ hx))).mono (Nat.le_refl _) (by rw [List.length_cons, Nat.mul_add]; omega)
theorem DsFit.tup {ds : List PyData} {e w : Nat} (h : DsFit ds e w) : DFit (.tuple ds) (e + 1) w := by
  refine ⟨h.show_, h.nod, ?_, h.wt, h.short, h.lay⟩
  show PyData.depthAll ds + 1 ≤ e + 1
  have := h.dep
  omega
theorem DsFit.lst {ds : List PyData} {e w : Nat} (h : DsFit ds e w) : DFit (.list ds) (e + 1) w := by
  refine ⟨h.show_, h.nod, ?_, h.wt, h.short, h.lay⟩
  show PyData.depthAll ds + 1 ≤ e + 1
  have := h.dep
  omega
theorem str_fit {x : Str} (h : sOk x = true ∧ x.length ≤ 8) : DFit (.str x) 0 8 := ⟨rfl, rfl, Nat.le_refl _, h.2, rfl, h.1⟩
theorem non_fit : DFit .none 0 8 := ⟨rfl, rfl, Nat.le_refl _, Nat.zero_le _, rfl, rfl⟩
theorem int_all : ∀ n : Fin 201, PyData.intsShort 13 (.int (n.val : Nat)) = true ∧ PyData.weight (.int (n.val : Nat)) ≤ 8 ∧ PyData.showable (.int (n.val : Nat)) = true := by decide +kernel
theorem int_fit {n : Nat} (h : n ≤ 200) : DFit (.int (n : Nat)) 0 8 := ⟨(int_all ⟨n, by omega⟩).2.2, rfl, Nat.le_refl _, (int_all ⟨n, by omega⟩).2.1, (int_all ⟨n, by omega⟩).1, rfl⟩
theorem DFit.fits {d : PyData} {w : Nat} (h : DFit d 8 w) (hw : w ≤ 2 ^ 20) : d.shown.length ≤ sizeLine := by
  refine PyData.shown_fits_of_layable0 (B := 13) (by decide) (by decide) ?_ h.short
  show (d.canLay0 && decide (d.depth ≤ 64) && decide (d.weight ≤ 2 ^ 20)) = true
  rw [h.lay]
  have := h.dep
  have := h.wt
  simp only [Bool.true_and, Bool.and_eq_true, decide_eq_true_eq]
  omega
theorem DFit.mono {d : PyData} {e e' w w' : Nat} (h : DFit d e w) (he : e ≤ e') (hw : w ≤ w') : DFit d e' w' := ⟨h.show_, h.nod, Nat.le_trans h.dep he, Nat.le_trans h.wt hw, h.short, h.lay⟩

theorem strs_fit67 {xs : List Str} (h : ∀ x ∈ xs, sOk x = true ∧ x.length ≤ 8) : DsFit (xs.map PyData.str) 0 (9 * xs.length) := (DsFit.all (e := 0) (w := 8) fun y hy => str_fit (h y hy))
theorem boolsD_nd (bs : List Bool) : (boolsD bs).hasDict = false := bools_nodict bs
theorem boolsD_dep (bs : List Bool) : (boolsD bs).depth ≤ 8 := by
  show PyData.depthAll (bs.map PyData.bool) + 1 ≤ 8
  rw [bools_depth]
  decide
/-- repr of data that stands somewhere, or of a text -/
def rReprV (K : PySem.W.Frag) : List V → Hp → VK → Prop := fun xs H Q => rReprD K xs H Q ∨ ∃ x, xs = [V.str x] ∧ (PyData.str x).shown.length ≤ sizeLine ∧ Q (.str (PyData.str x).shown) H
section
variable {X : Cx}
theorem call_reprV (gu : X.A.guards = some []) (hu : X.A.units + 64 < cLine) : CallR X (.builtin "repr") (rReprV X.K) := by
  intro pins s σ H xs us Q I r h
  rcases h with h | ⟨x, rfl, hz, q⟩
  · exact call_reprD gu hu pins s σ H xs us Q I r h
  · obtain ⟨u, rfl, ru⟩ := r.one
    obtain ⟨t, rfl⟩ : ∃ t, u = Value.str x t := ru
    exact PySem.P.repr_of_str ⟨.str _, H, I.tok _, ⟨_, rfl⟩, q⟩ hz
end
end K2
end
section
set_option Elab.async false
set_option maxRecDepth 100000
set_option linter.all false
/-! a level of kinds refused -/
namespace K2
open PySem L2 SupX NdefX PySem.Spec PyProof.Rows
abbrev sRf : Stmt := top 38
abbrev nRf : List Str := ["_law_classes", "_law_caught", "error"]
structure TMany (K : PySem.W.Frag) (CT LE NC BA : Addr) : Prop where
  ex : PySem.W.exmOne K (.ref CT) (.ref LE) = some true
  isC : ExcC K CT
  xf : XfC K CT
  fw : PySem.W.findIn K (.ref CT) "what" = some none
  fm : PySem.W.findIn K (.ref CT) "most" = some none
  k6 : PySem.W.kitOne K (.ref CT) (.ref CT) = some true
  kt : PySem.W.kitAny K (.ref CT) ([NC, BA].map Value.ref) = some false
  kv : PySem.W.kitOne K (.ref CT) (.type "ValueError") = some true
abbrev tmF : List (Str × V) := [("most", .int 6), ("what", .str "classes")]
def tmD : PyData := .list [.str "classes", .int 6]
theorem tmD_fit : DFit tmD 8 100 := (DsFit.cons (str_fit (x := "classes") ⟨by decide +kernel, by decide +kernel⟩) (DsFit.cons (int_fit (n := 6) (by decide)) DsFit.nil)).lst.mono (by decide) (by decide)
theorem tmD_dp {K : PySem.W.Frag} {H : Hp} {a : Addr} (h : H a = some (.lst [.str "classes", .int 6])) : Dp K H (.ref a) tmD := .lst (SqL.of h) (.cons (.str _) (.cons (.int _) .nil))
def spRf (C : Addr) : Sp := fun vs H Q _ => ∃ (cl : Addr) (rs : List Row), vs = [.ref cl] ∧ ClsW C H cl rs ∧ (keys (ups rs)).Nodup ∧ 6 < (keys (ups rs)).length ∧ (keys (ups rs)).length ≤ 40 ∧ ∀ H', Same H H' → Q (.bl true) H'
section
variable {P : Program} {w : World} {K : PySem.W.Frag} {mg : Str → Option Value} {base : Heap}
theorem scRf : FnScope nRf ["_law_classes"] (defScope sRf) := ⟨rfl, rfl, rfl, by decide +kernel, rfl, by decide +kernel, by decide +kernel⟩
theorem ok_rf {f fKI B C CT LE NC BA : Addr} {fd fdKI : FuncData} (F : Fun K "_law_refused" "_law_refused" sRf f fd) (T : Bi mg) (tVE : mg "ValueError" = none)
    (mgB : mg "ByKind" = some (.ref B)) (mgT : mg "TooMany" = some (.ref CT)) (mgL : mg "LeaveError" = some (.ref LE)) (mgN : mg "NoClass" = some (.ref NC)) (mgA : mg "Barred" = some (.ref BA)) (M : TMany K CT LE NC BA)
    (MB : Mk K B fKI) (GKI : FnOk P w K mg base (L2.CX P w) 5 fKI fdKI ["self", "classes"] (spKI B C CT)) (bKI : Binds K fdKI ["self", "classes"] []) : FnG P w K mg base 7 f fd ["_law_classes"] (spRf C) := by
  refine okG F scRf (fun vs H Q E h => ?_) (fun cdv A outer s H vs Q E hr gu h => ?_)
  · obtain ⟨cl, rs, rfl, _⟩ := h
    rfl
  · obtain ⟨cl, rs, rfl, cw, nd, h6, h40, k⟩ := h
    have hr6 : Room 6 _ := hr
    have hge : Gl (cxOf CX0 P w K mg base nRf "_law_refused" (defScope sRf) f cdv A outer s H E).nox "LeaveError" := by rfl
    refine ⟨_, (pss_cons (ps_set (i := 1) scRf.nd rfl (Or.inl rfl) pe_non)
      (pss_cons (ps_try_asT (X := (cxOf CX0 P w K mg base nRf "_law_refused" (defScope sRf) f cdv A outer s H E).nox) (i := 2) (c := .ref LE)
        (tb := fun W D σ H => ∃ (Ech : XK) (cl : Addr) (rs : List Row), (∀ cls d σ' H', Ech cls d H' → W cls d σ' H') ∧ σ[0]? = some (some (.ref cl)) ∧ ClsW C H cl rs ∧ (keys (ups rs)).Nodup ∧ 6 < (keys (ups rs)).length ∧ (keys (ups rs)).length ≤ 40 ∧ ∀ (d : Addr) (H' : Hp), Same H H' → H' d = some (.xd tmF) → Ech (.ref CT) (some d) H')
        rfl rfl scRf.nd rfl (by rfl) ⟨hge, by decide +kernel, .inl mgL⟩ LamX.takes0 (fun W pn xe tk _ => ?tr) (fun a cls d pn => pss_one (ps_set (i := 1) scRf.nd rfl (Or.inl rfl) (pv 2))))
      (pss_cons (ps_if (PW.pt (pw_or (pt_not (pt_val (pe_callB call_isT (by rfl) T.isinstance (by decide +kernel) (pa_cons (pv 1) (pa_cons (pe_glob (v := .ref CT) (by rfl) mgT rfl) pa_nil)))))
          (pw_or (pt_val (pe_callB call_isTT (by rfl) T.isinstance (by decide +kernel) (pa_cons (pv 1) (pa_cons (pe_tup (pa_cons (pe_glob (v := .ref NC) (by rfl) mgN rfl) (pa_cons (pe_glob (v := .ref BA) (by rfl) mgA rfl) pa_nil))) pa_nil))))
            (pw_or1 (pt_not (pt_val (pe_callB call_isT (by rfl) T.isinstance (by decide +kernel) (pa_cons (pv 1) (pa_cons (pe_bltn (v := .ty "ValueError") (by rfl) tVE (by decide +kernel) rfl) pa_nil)))))))))
        (pss_one (ps_ret pe_bl)) pss_nil)
      (pss_one (ps_ret (pe_cmpR op_eq (pe_callB (call_reprV gu hr.units) (by rfl) T.repr (by decide +kernel) (pa_cons (pe_lst (pa_cons (pe_xt (pv 1)) (pa_cons (pe_xt (pv 1)) pa_nil))) pa_nil)) (pe_callB (call_reprV gu hr.units) (by rfl) T.repr (by decide +kernel) (pa_cons (pe_lst (pa_cons pe_str (pa_cons pe_int pa_nil))) pa_nil)) (nomark _))))))), ?body⟩
    case tr =>
      refine ⟨fun pins s' σ H' D I h' => ?_⟩
      obtain ⟨Ech, cl, rs, hW, h0, cw, nd, h6, h40, hk⟩ := h'
      refine (pss_one (ps_expr (pe_make MB GKI hr6 (by rfl) mgB bKI .nil (passes_call tk hW) (pa_cons (pv 0) pa_nil)))).run pins s' σ H' D I ?_
      refine ⟨_, h0, fun x dx hx hdx ne => ⟨x, cl, dx, rs, rfl, upd_same, ?_, nd, h40, fun q => absurd h6 (by omega), fun _ d H2 s2 hd => ?_⟩⟩
      · exact cw.same (((Same.refl H').put hdx).put hx)
      · exact hk d H2 ((((Same.refl H').put hdx).put hx).trans s2) hd
    refine ⟨fun cls d H' => ∃ dd, cls = .ref CT ∧ d = some dd ∧ H' dd = some (.xd tmF) ∧ Same H H', cl, rs, fun cls d σ' H' hm hlen => ?_, rfl, cw, nd, h6, h40, fun d H' s' e => ⟨d, rfl, rfl, e, s'⟩⟩
    obtain ⟨dd, rfl, rfl, hx, sH⟩ := hm
    refine ⟨true, M.ex, fun _ a na => ?_, fun z => nomatch z⟩
    obtain ⟨s0, s1, s2, rfl⟩ : ∃ s0 s1 s2, σ' = [s0, s1, s2] := by
      match σ', hlen with
      | [s0, s1, s2], _ => exact ⟨s0, s1, s2, rfl⟩
    have sE : Same H' (upd H' a (ExT (.ref CT) (some dd) a)) := (Same.refl H').put na
    have ha : (upd H' a (ExT (.ref CT) (some dd) a)) a = some (ExT (.ref CT) (some dd) a) := upd_same
    have hd := sE _ _ hx
    have s0H := sH.trans sE
    generalize upd H' a (ExT (.ref CT) (some dd) a) = He at *
    refine ⟨_, rfl, _, rfl, a, CT, dd, tmF, _, _, _, rfl, ha, hd, M.isC, fun _ r => r, M.k6, _, rfl, iteF ?_⟩
    refine ⟨_, rfl, (by show 2 ≤ sizeLine; decide), fun t ht => ?_⟩
    have s4 : Same He (upd He t (.tup [.ref NC, .ref BA])) := (Same.refl He).put ht
    have e4 : (upd He t (.tup [.ref NC, .ref BA])) t = some (.tup ([NC, BA].map V.ref)) := upd_same
    generalize upd He t (.tup [.ref NC, .ref BA]) = H4 at s4 e4 ⊢
    refine ⟨a, CT, dd, t, tmF, [NC, BA], _, rfl, s4 _ _ ha, s4 _ _ hd, M.isC, e4, M.kt, _, rfl, iteF ?_⟩
    refine ⟨_, rfl, a, CT, dd, tmF, _, _, _, rfl, s4 _ _ ha, s4 _ _ hd, M.isC, fun _ r => r, M.kv, _, rfl, iteF ?_⟩
    refine ⟨_, rfl, a, CT, dd, tmF, .str "classes", rfl, s4 _ _ ha, s4 _ _ hd, M.xf, M.fw, (by decide +kernel), _, rfl, a, CT, dd, tmF, .int 6, rfl, s4 _ _ ha, s4 _ _ hd, M.xf, M.fm, (by decide +kernel), (by show 2 ≤ sizeLine; decide), fun l1 hl1 => ?_⟩
    have s5 : Same H4 (upd H4 l1 (.lst [.str "classes", .int 6])) := (Same.refl H4).put hl1
    have e5 : (upd H4 l1 (.lst [.str "classes", .int 6])) l1 = some (.lst [.str "classes", .int 6]) := upd_same
    generalize upd H4 l1 (.lst [.str "classes", .int 6]) = H5 at s5 e5 ⊢
    refine .inl ⟨l1, tmD, rfl, tmD_dp e5, tmD_fit.show_, tmD_fit.nod, tmD_fit.dep, tmD_fit.fits (by decide), (by show 2 ≤ sizeLine; decide), fun l2 hl2 => ?_⟩
    have s6 : Same H5 (upd H5 l2 (.lst [.str "classes", .int 6])) := (Same.refl H5).put hl2
    have e6 : (upd H5 l2 (.lst [.str "classes", .int 6])) l2 = some (.lst [.str "classes", .int 6]) := upd_same
    generalize upd H5 l2 (.lst [.str "classes", .int 6]) = H6 at s6 e6 ⊢
    refine .inl ⟨l2, tmD, rfl, tmD_dp e6, tmD_fit.show_, tmD_fit.nod, tmD_fit.dep, tmD_fit.fits (by decide), rfl, ?_⟩
    rw [decide_eq_true rfl]
    exact k _ (s0H.trans (s4.trans (s5.trans s6)))
end
end K2
end
section
set_option Elab.async false
set_option maxRecDepth 100000
set_option linter.all false
/-! what a level of kinds shows -/
namespace K2
open PySem L2 SupX NdefX PySem.Spec PyProof.Rows
abbrev sSe : Stmt := top 40
abbrev nSe : List Str := ["_law_pen_here", "_law_level", "_law_above_here", "_law_kinds_here", "_law_words_here", "_law_due", "_law_turn", "_law_kind", "_law_mine", "_law_first", "_law_latter", "_law_some", "_law_one", "_law_found"]
def evD (ys : List (List Str)) : PyData := .tuple (.str "returns" :: ys.map tD)
theorem refsP_dp {K : PySem.W.Frag} {H : Hp} : ∀ {bs : List Addr} {ys : List (List Str)}, PAt H bs ys → DpAll K H (bs.map V.ref) (ys.map tD)
  | [], [], _ => .nil
  | [], _ :: _, h => by have := h.len; simp at this
  | _ :: _, [], h => by have := h.len; simp at this
  | b :: bs, y :: ys, h => by
    unfold PAt at h
    rw [List.map_cons, List.map_cons] at h
    obtain ⟨h1, h2⟩ := List.cons.inj h
    exact .cons (.tup (SqT.of h1) (strs_dp K H y)) (refsP_dp h2)
theorem evD_dp {K : PySem.W.Frag} {H : Hp} {a : Addr} {bs : List Addr} {ys : List (List Str)} (h : H a = some (.tup (.str "returns" :: bs.map V.ref))) (hb : PAt H bs ys) : Dp K H (.ref a) (evD ys) := .tup (SqT.of h) (.cons (.str _) (refsP_dp hb))
theorem tD_fit {y : List Str} (h : ∀ u ∈ y, sOk u = true ∧ u.length ≤ 8) (l : y.length ≤ 6) : DFit (tD y) 1 54 := (strs_fit67 h).tup.mono (by decide) (by omega)
theorem evD_fit {ys : List (List Str)} (h : ∀ y ∈ ys, y.length ≤ 6 ∧ ∀ u ∈ y, sOk u = true ∧ u.length ≤ 8) (l : ys.length ≤ 64) : DFit (evD ys) 8 4000 := by
  have h1 : DsFit (ys.map tD) 1 (55 * 64) := (DsFit.all (D := tD) (e := 1) (w := 54) fun y hy => tD_fit (h y hy).2 (h y hy).1).mono (Nat.le_refl _) (Nat.mul_le_mul_left 55 l)
  exact (DsFit.cons ((str_fit (x := "returns") ⟨by decide +kernel, by decide +kernel⟩).mono (by decide) (Nat.le_refl _)) h1).tup.mono (by decide) (by decide)
def vsD (x : Str) : PyData := .list [tD [x], tD [x], tD [x]]
theorem vsD_fit {x : Str} (h : sOk x = true ∧ x.length ≤ 8) : DFit (vsD x) 8 4000 := by
  have h1 : DFit (tD [x]) 1 54 := tD_fit (fun u hu => by rw [List.mem_singleton.mp hu]; exact h) (by show 1 ≤ 6; decide)
  exact (DsFit.cons h1 (DsFit.cons h1 (DsFit.cons h1 (DsFit.nil.mono (Nat.zero_le _) (Nat.le_refl _))))).lst.mono (by decide) (by decide)
theorem vsD_dp {K : PySem.W.Frag} {H : Hp} {a b1 b2 b3 : Addr} {x : Str} (h : H a = some (.lst [.ref b1, .ref b2, .ref b3])) (h1 : H b1 = some (.tup [.str x])) (h2 : H b2 = some (.tup [.str x])) (h3 : H b3 = some (.tup [.str x])) : Dp K H (.ref a) (vsD x) :=
  .lst (SqL.of h) (.cons (.tup (SqT.of h1) (strs_dp K H [x])) (.cons (.tup (SqT.of h2) (strs_dp K H [x])) (.cons (.tup (SqT.of h3) (strs_dp K H [x])) .nil)))
def nmD (d : PyData) (x : Str) : PyData := .list [d, .str x]
theorem nmD_fit {d : PyData} {x : Str} (hd : DFit d 0 8) (h : sOk x = true ∧ x.length ≤ 8) : DFit (nmD d x) 8 4000 := (DsFit.cons hd (DsFit.cons (str_fit h) DsFit.nil)).lst.mono (by decide) (by decide)
def spSe (B C : Addr) : Sp := fun vs H Q _ => ∃ (p c lv d ka wl : Addr) (ns : List Int) (n : Nat) (rs : List Row) (ys : List (List Str)) (bs : List Addr) (ws : List Str), vs = [.ref p, .ref lv, .ref d, .ref ka, .ref wl] ∧ Pen H p c ns n ∧ n + 100 ≤ 100000 ∧ LvK B C H lv rs ys ∧ AbAt H d (ups rs) ∧
  H ka = some (.lst (bs.map V.ref)) ∧ ka ≠ p ∧ PAt H bs ys ∧ ys ≠ [] ∧ ys.length ≤ 64 ∧ (∀ y ∈ ys, y.length ≤ 6 ∧ ∀ u ∈ y, u ∈ keys (ups rs)) ∧ (∀ u ∈ keys (ups rs), VW u) ∧ keys (ups rs) ≠ [] ∧ (keys (ups rs)).length ≤ 6 ∧ H wl = some (.lst (ws.map V.str)) ∧ ws ≠ [] ∧ ws.length ≤ 20 ∧
  ∀ H', Keep p H H' → Pen H' p c ns (n + 40) → Q (.bl true) H'
section
variable {P : Program} {w : World} {K : PySem.W.Frag} {mg : Str → Option Value} {base : Heap}
theorem scSe : FnScope nSe ["_law_pen_here", "_law_level", "_law_above_here", "_law_kinds_here", "_law_words_here"] (defScope sSe) := ⟨rfl, rfl, rfl, by decide +kernel, rfl, by decide +kernel, by decide +kernel⟩
theorem ok_se {f fD fP fT fV fN fTk fDo B C : Addr} {fd fdD fdP fdT fdV fdN fdTk fdDo : FuncData} {ds : List Value} (F : Fun K "_law_seen" "_law_seen" sSe f fd) (T : Bi mg) (Y : LTxt K B)
    (D : Df K mg "_law_draw" sDraw fD fdD ["_law_pen_here", "_law_many"]) (GD : FnOk P w K mg base CX0 1 fD fdD ["_law_pen_here", "_law_many"] spDraw)
    (PK : Df K mg "_law_pick" sPick fP fdP ["_law_pen_here", "_law_some"]) (GP : FnOk P w K mg base CX0 2 fP fdP ["_law_pen_here", "_law_some"] spPick)
    (TK : Df K mg "_law_taken" sTk fTk fdTk ["_law_above_here", "_law_kind", "_law_some"]) (GTk : FnOk P w K mg base CX0 1 fTk fdTk ["_law_above_here", "_law_kind", "_law_some"] spTk)
    (mV : Meth K B "view" fV) (GV : FnOk P w K mg base CX0 1 fV fdV ["self", "name", "cause"] spKV) (bV1 : Binds K fdV ["self", "name", "cause"] ds) (dV1 : Vals [V.non] ds) (bV2 : Binds K fdV ["self", "name", "cause"] [])
    (mN : Meth K B "name_of" fN) (GN : FnOk P w K mg base CX0 1 fN fdN ["self", "view"] spKN) (bN : Binds K fdN ["self", "view"] [])
    (mT : Meth K B "taken" fT) (GTf : FnOk P w K mg base CX0 4 fT fdT ["self", "view", "names"] (spKT B C false)) (GTt : FnOk P w K mg base CX0 4 fT fdT ["self", "view", "names"] (spKT B C true)) (bT : Binds K fdT ["self", "view", "names"] [])
    (mD : Meth K B "does" fDo) (GDo : FnOk P w K mg base CX0 1 fDo fdDo ["self", "callback", "handled"] (spKD B)) (bDo : Binds K fdDo ["self", "callback", "handled"] []) :
    FnG P w K mg base 5 f fd ["_law_pen_here", "_law_level", "_law_above_here", "_law_kinds_here", "_law_words_here"] (spSe B C) := by
  refine okG F scSe (fun vs H Q E h => ?_) (fun cdv A outer s H vs Q E hr gu h => ?_)
  · obtain ⟨p, c, lv, d, ka, wl, ns, n, rs, ys, bs, ws, rfl, _⟩ := h
    rfl
  · obtain ⟨p, c, lv, d, ka, wl, ns, n, rs, ys, bs, ws, rfl, P0, hn, hL, hA, hka, kap, hbs, yne, y64, yin, kvw, kne, k6, hwl, wne, w20, k⟩ := h
    have hr4 : Room 4 _ := hr
    have hr2 : Room 2 _ := hr.mono (by decide)
    have hr1 : Room 1 _ := hr.mono (by decide)
    refine ⟨_, (pss_cons (ps_set (i := 5) scSe.nd rfl (Or.inl rfl) (pe_callB (call_reprV gu hr.units) (by rfl) T.repr (by decide +kernel) (pa_cons (pe_op op_cat2 (pe_tup (pa_cons pe_str pa_nil)) (pe_callTy call_tuple_of (by rfl) T.tuple (by decide +kernel) (pa_cons (pv 3) pa_nil))) pa_nil)))
      (pss_cons (ps_for PassesOwn.never rfl (pi_range1 rfl T.range (pa_cons pe_int pa_nil)) (pg_name (i := 6) scSe.nd rfl (Or.inl rfl))
      (pss_cons (ps_par (i := 7) (j := 8) (by rfl) scSe.nd rfl rfl (by decide) rfl rfl (pa_cons (pe_call GP hr2 (by rfl) PK.m PK.F.kp PK.b .nil pass0 (pa_cons (pv 0) (pa_cons (pv 3) pa_nil))) (pa_cons (pe_call GP hr2 (by rfl) PK.m PK.F.kp PK.b .nil pass0 (pa_cons (pv 0) (pa_cons (pe_callTy (call_list_dK rfl) (by rfl) T.list (by decide +kernel) (pa_cons (pv 2) pa_nil)) pa_nil))) pa_nil)) (by rfl))
        (pss_cons (ps_if (pt_cmpR op_ne (pe_callB (call_reprV gu hr.units) (by rfl) T.repr (by decide +kernel) (pa_cons (pe_lst (pa_cons (pe_meth (pv 1) Y.cl mV GV hr1 bV1 dV1 pass0 (pa_cons (pv 8) pa_nil)) (pa_cons (pe_meth (pv 1) Y.cl mV GV hr1 bV2 .nil pass0 (pa_cons (pv 8) (pa_cons (pv 7) pa_nil))) (pa_cons (pe_meth (pv 1) Y.cl mV GV hr1 bV2 .nil pass0 (pa_cons (pv 8) (pa_cons pe_non pa_nil))) pa_nil)))) pa_nil)) (pe_callB (call_reprV gu hr.units) (by rfl) T.repr (by decide +kernel) (pa_cons (pe_op op_rep (pe_lst (pa_cons (pe_tup (pa_cons (pv 8) pa_nil)) pa_nil)) pe_int) pa_nil)) (nomark _))
        (pss_one (ps_ret pe_bl))
        pss_nil)
        (pss_cons (ps_par (i := 9) (j := 10) (by rfl) scSe.nd rfl rfl (by decide) rfl rfl (pa_cons (pe_meth (pv 1) Y.cl mD GDo hr1 bDo .nil pass0 (pa_cons (pe_call GP hr2 (by rfl) PK.m PK.F.kp PK.b .nil pass0 (pa_cons (pv 0) (pa_cons (pv 4) pa_nil))) (pa_cons pe_non pa_nil))) (pa_cons (pe_meth (pv 1) Y.cl mD GDo hr1 bDo .nil pass0 (pa_cons (pe_call GP hr2 (by rfl) PK.m PK.F.kp PK.b .nil pass0 (pa_cons (pv 0) (pa_cons (pv 4) pa_nil))) (pa_cons (pv 7) pa_nil))) pa_nil)) (by rfl))
        (pss_cons (ps_if (PW.pt (pw_or (pt_cmpR op_ne (pe_callB (call_reprV gu hr.units) (by rfl) T.repr (by decide +kernel) (pa_cons (pv 9) pa_nil)) (pv 5) (nomark _)) (pw_or1 (pt_cmpR op_ne (pe_callB (call_reprV gu hr.units) (by rfl) T.repr (by decide +kernel) (pa_cons (pv 10) pa_nil)) (pv 5) (nomark _)))))
        (pss_one (ps_ret pe_bl))
        pss_nil)
        (pss_cons (ps_set (i := 11) scSe.nd rfl (Or.inr rfl) (pe_lc (own := [("_law_one", 12)]) (g := gName 12)  rfl scSe.nd (pi_list (pe_callTy (call_list_dK rfl) (by rfl) T.list (by decide +kernel) (pa_cons (pv 2) pa_nil))) (blkOk_by (N := nSe) (sc := defScope sSe) (by decide +kernel)) (fun _ _ _ _ _ => pg_name (i := 12) scSe.nd rfl (Or.inl rfl)) (fun _ _ _ _ _ => pts_one (pt_cmpR op_eq (pe_call GD hr1 (by rfl) D.m D.F.kp D.b .nil pass0 (pa_cons (pv 0) (pa_cons pe_int pa_nil))) pe_int (nomark _))) (fun _ _ _ _ _ => pv 12)))
        (pss_cons (ps_set (i := 13) scSe.nd rfl (Or.inl rfl) (pe_lst (pa_cons (pe_meth (pv 1) Y.cl mT GTf hr4 bT .nil pass0 (pa_cons (pv 7) (pa_cons (pe_callTy call_tuple_of (by rfl) T.tuple (by decide +kernel) (pa_cons (pv 11) pa_nil)) pa_nil))) (pa_cons (pe_meth (pv 1) Y.cl mT GTt hr4 bT .nil pass0 (pa_cons (pv 7) (pa_cons (pv 11) pa_nil))) (pa_cons (pe_meth (pv 1) Y.cl mT GTt hr4 bT .nil pass0 (pa_cons (pe_tup (pa_cons (pv 8) pa_nil)) (pa_cons (pv 11) pa_nil))) pa_nil)))))
        (pss_cons (ps_if (pt_cmpR op_ne (pe_callB (call_reprV gu hr.units) (by rfl) T.repr (by decide +kernel) (pa_cons (pv 13) pa_nil)) (pe_callB (call_reprV gu hr.units) (by rfl) T.repr (by decide +kernel) (pa_cons (pe_lc (own := [("_law_one", 12)]) (g := gName 12) (tt := tYes) rfl scSe.nd (pi_tup (pe_tup (pa_cons (pv 7) (pa_cons (pv 7) (pa_cons (pe_tup (pa_cons (pv 8) pa_nil)) pa_nil))))) (blkOk_by (N := nSe) (sc := defScope sSe) (by decide +kernel)) (fun _ _ _ _ _ => pg_name (i := 12) scSe.nd rfl (Or.inl rfl)) (fun _ _ _ _ _ => pts_nil) (fun _ _ _ _ _ => pe_call GTk hr1 (by rfl) TK.m TK.F.kp TK.b .nil pass0 (pa_cons (pv 2) (pa_cons (pv 12) (pa_cons (pv 11) pa_nil))))) pa_nil)) (nomark _))
        (pss_one (ps_ret pe_bl))
        pss_nil)
        (pss_one (ps_if (pt_cmpR op_ne (pe_callB (call_reprV gu hr.units) (by rfl) T.repr (by decide +kernel) (pa_cons (pe_lst (pa_cons (pe_meth (pv 1) Y.cl mN GN hr1 bN .nil pass0 (pa_cons (pv 7) pa_nil)) (pa_cons (pe_meth (pv 1) Y.cl mN GN hr1 bN .nil pass0 (pa_cons (pe_tup (pa_cons (pv 8) pa_nil)) pa_nil)) pa_nil))) pa_nil)) (pe_callB (call_reprV gu hr.units) (by rfl) T.repr (by decide +kernel) (pa_cons (pe_lst (pa_cons (pe_ifExp (pt_cmpR op_eq (pe_callB call_len_seq (by rfl) T.len PySem.boot_len (pa_cons (pv 7) pa_nil)) pe_int (nomark _)) (pe_ix ix_tup (pv 7) pe_int (fun _ _ => rfl)) pe_non) (pa_cons (pv 8) pa_nil))) pa_nil)) (nomark _))
        (pss_one (ps_ret pe_bl))
        pss_nil))))))))))
      (pss_one (ps_ret pe_bl)))), ?_⟩
    have efit := evD_fit (ys := ys) (fun y hy => ⟨(yin y hy).1, fun u hu => vw_ok (kvw u ((yin y hy).2 u hu))⟩) y64
    have bl := hbs.len
    have wlp := P0.strs_ne hwl
    refine ⟨(by show 1 ≤ sizeLine; decide), fun t0 ht0 => ?_⟩
    have s1 : Same H (upd H t0 (.tup [.str "returns"])) := (Same.refl H).put ht0
    have e1 : (upd H t0 (.tup [.str "returns"])) t0 = some (.tup [.str "returns"]) := upd_same
    generalize upd H t0 (.tup [.str "returns"]) = H1 at s1 e1 ⊢
    refine ⟨_, rfl, ka, _, rfl, .inl ⟨SqL.of (s1 _ _ hka), fun tk htk => ?_⟩⟩
    have s2 : Same H1 (upd H1 tk (.tup (bs.map V.ref))) := (Same.refl H1).put htk
    have e2 : (upd H1 tk (.tup (bs.map V.ref))) tk = some (.tup (bs.map V.ref)) := upd_same
    generalize upd H1 tk (.tup (bs.map V.ref)) = H2 at s2 e2 ⊢
    refine ⟨t0, tk, _, _, rfl, rfl, s2 _ _ e1, e2, (by rw [List.length_map]; show 1 + _ ≤ 16777216; omega), fun ev H3 s3 hev => ?_⟩
    have s03 := (s1.trans s2).trans s3
    refine .inl ⟨ev, evD ys, rfl, evD_dp hev (hbs.sameT fun b xs e => s03 b _ e), efit.show_, efit.nod, efit.dep, efit.fits (by decide), ?_⟩
    refine ⟨4, rfl, by decide, by decide, for_range (lo := 0) (n := 4) (fun i σ Hc => ∃ v6 v7 v8 v9 v10 v11 v12 v13 : Option V, σ = [some (.ref p), some (.ref lv), some (.ref d), some (.ref ka), some (.ref wl), some (.str (evD ys).shown), v6, v7, v8, v9, v10, v11, v12, v13] ∧ Keep p H Hc ∧ Pen Hc p c ns (n + 10 * i)) ?_ ?_ ?_⟩
    · exact ⟨_, _, _, _, _, _, _, _, rfl, s03.keep, (P0.same s03).mono (by omega)⟩
    · rintro i σ Hc hi ⟨v6, v7, v8, v9, v10, v11, v12, v13, rfl, kc, Pc⟩
      generalize hN : n + 10 * i = m at Pc
      have hkac := kc _ _ hka kap
      -- a kind and a name
      refine ⟨_, rfl, _, rfl, p, c, ns, m, _, _, rfl, Pc, by omega, .inl ⟨ka, rfl, kap, hkac⟩, (fun e => yne (by
        have := List.map_eq_nil_iff.mp e
        rw [this] at bl
        exact List.length_eq_zero_iff.mp bl.symm)), (by rw [List.length_map, bl]; omega), fun j1 v1 H4 h1 k4 P4 => ?_⟩
      obtain ⟨kt, hktm, rfl⟩ := List.mem_map.mp (List.mem_of_getElem? h1)
      have k04 := kc.trans k4
      obtain ⟨kvs, hd, TB⟩ := hA.kp k04 P0
      refine ⟨_, rfl, _, rfl, d, kvs, rfl, hd, fun q hq => ?_⟩
      rw [TB.names]
      have P5 := P4.new (o := .lst ((keys (ups rs)).map V.str)) hq
      have k05 : Keep p H (upd H4 q (.lst ((keys (ups rs)).map V.str))) := k04.new (k04.fresh P4 hq)
      have e5 : (upd H4 q (.lst ((keys (ups rs)).map V.str))) q = some (.lst ((keys (ups rs)).map V.str)) := upd_same
      generalize upd H4 q (.lst ((keys (ups rs)).map V.str)) = H5 at P5 k05 e5 ⊢
      refine ⟨p, c, ns, _, _, _, rfl, P5, by omega, .inl ⟨q, rfl, P5.strs_ne e5, e5⟩, (fun e => kne (List.map_eq_nil_iff.mp e)), (by rw [List.length_map]; omega), fun j2 v2 H6 h2 k6' P6 => ⟨_, _, rfl, ?_⟩⟩
      obtain ⟨mn, hmn, rfl⟩ := List.mem_map.mp (List.mem_of_getElem? h2)
      have k06 := k05.trans k6'
      have hL6 := hL.kp k06 P0
      obtain ⟨dx, cl, evl, bsl, hlv, hevl, hbsl, hcl⟩ := id hL6
      have hbs6 := hbs.sameT (H' := H6) fun b xs e => k06 b _ e (P0.tup_ne e)
      obtain ⟨kd, hkdm, hkt⟩ := hbs6.mem hktm
      obtain ⟨kl6, kdk⟩ := yin kd hkdm
      have mfit := vw_ok (kvw mn hmn)
      have no : ∀ {f : Str}, ¬ f = "_everything" → ¬ f = "classes" → (fldsK cl evl).lookup f = none := fun a b => fldsK_no _ _ a b
      -- views
      refine ⟨_, rfl, lv, dx, _, rfl, hlv, no (by decide +kernel) (by decide +kernel), _, rfl, lv, mn, .non, rfl, fun a1 Ha sa ha => ?_⟩
      refine ⟨_, rfl, lv, dx, _, rfl, sa _ _ hlv, no (by decide +kernel) (by decide +kernel), _, rfl, _, rfl, lv, mn, .ref kt, rfl, fun a2 Hb sb hb => ?_⟩
      have sab := sa.trans sb
      refine ⟨_, rfl, lv, dx, _, rfl, sab _ _ hlv, no (by decide +kernel) (by decide +kernel), _, rfl, lv, mn, .non, rfl, fun a3 Hd sd hd3 => ⟨(by show 3 ≤ sizeLine; decide), fun l1 hl1 => ?_⟩⟩
      have sad := sab.trans sd
      have s7 : Same Hd (upd Hd l1 (.lst [.ref a1, .ref a2, .ref a3])) := (Same.refl Hd).put hl1
      have e7 : (upd Hd l1 (.lst [.ref a1, .ref a2, .ref a3])) l1 = some (.lst [.ref a1, .ref a2, .ref a3]) := upd_same
      generalize upd Hd l1 (.lst [.ref a1, .ref a2, .ref a3]) = H7 at s7 e7 ⊢
      have vfit := vsD_fit mfit
      refine .inl ⟨l1, vsD mn, rfl, vsD_dp e7 (s7 _ _ (sd _ _ (sb _ _ ha))) (s7 _ _ (sd _ _ hb)) (s7 _ _ hd3), vfit.show_, vfit.nod, vfit.dep, vfit.fits (by decide), _, rfl, (by show 1 ≤ sizeLine; decide), fun t1 ht1 => ?_⟩
      have s8 : Same H7 (upd H7 t1 (.tup [.str mn])) := (Same.refl H7).put ht1
      have e8 : (upd H7 t1 (.tup [.str mn])) t1 = some (.tup [.str mn]) := upd_same
      generalize upd H7 t1 (.tup [.str mn]) = H8 at s8 e8 ⊢
      refine ⟨(by show 1 ≤ sizeLine; decide), fun l2 hl2 => ⟨l2, 3, [.ref t1], rfl, rfl, upd_same, by decide, by decide, (by show 1 * 3 ≤ 16777216; decide), fun l3 hl3 => ?_⟩⟩
      have s9 : Same H8 (upd (upd H8 l2 (.lst [.ref t1])) l3 (.lst [.ref t1, .ref t1, .ref t1])) := ((Same.refl H8).put hl2).put (((Same.refl H8).put hl2).free hl3)
      have e9 : (upd (upd H8 l2 (.lst [.ref t1])) l3 (.lst [.ref t1, .ref t1, .ref t1])) l3 = some (.lst [.ref t1, .ref t1, .ref t1]) := upd_same
      have erep : (List.replicate (3 : Int).toNat [V.ref t1]).flatten = [V.ref t1, .ref t1, .ref t1] := rfl
      rw [erep]
      generalize upd (upd H8 l2 (.lst [.ref t1])) l3 (.lst [.ref t1, .ref t1, .ref t1]) = H9 at s9 e9 ⊢
      have e89 := s9 _ _ e8
      refine .inl ⟨l3, vsD mn, rfl, vsD_dp e9 e89 e89 e89, vfit.show_, vfit.nod, vfit.dep, vfit.fits (by decide), rfl, _, rfl, iteNS rfl ?_⟩
      -- what is done
      have s69 := (sad.trans s7).trans (s8.trans s9)
      have P9 := P6.same s69
      have k09 := k06.trans s69.keep
      have wn : ws.map V.str ≠ [] := fun e => wne (List.map_eq_nil_iff.mp e)
      have wl2 : (ws.map V.str).length ≤ 1000 := by rw [List.length_map]; omega
      have kk9 := s69 _ _ hkt
      have kp9 := P9.tup_ne kk9
      refine ⟨_, rfl, lv, dx, _, rfl, s69 _ _ hlv, no (by decide +kernel) (by decide +kernel), _, rfl, _, rfl, p, c, ns, _, _, _, rfl, P9, by omega, .inl ⟨wl, rfl, wlp, k09 _ _ hwl wlp⟩, wn, wl2, fun j3 v3 Hk h3 kk Pk => ?_⟩
      have hlvk := kk _ _ (s69 _ _ hlv) (P9.ins_ne (s69 _ _ hlv))
      refine ⟨lv, dx, cl, evl, _, _, rfl, hlvk, ?_⟩
      have k0k := k09.trans kk
      refine ⟨_, rfl, lv, dx, _, rfl, hlvk, no (by decide +kernel) (by decide +kernel), _, rfl, _, rfl, p, c, ns, _, _, _, rfl, Pk, by omega, .inl ⟨wl, rfl, wlp, k0k _ _ hwl wlp⟩, wn, wl2, fun j4 v4 Hm h4 km Pm => ?_⟩
      have hlvm := km _ _ hlvk (Pk.ins_ne hlvk)
      refine ⟨_, rfl, lv, dx, cl, evl, _, _, rfl, hlvm, _, _, rfl, ?_⟩
      have k6m : Keep p H6 Hm := (s69.keep.trans kk).trans km
      have hevm := k6m _ _ hevl (P6.tup_ne hevl)
      have hbsm := hbsl.sameT (H' := Hm) fun b xs e => k6m b _ e (P6.tup_ne e)
      refine ⟨_, rfl, .inl ⟨evl, evD ys, rfl, evD_dp hevm hbsm, efit.show_, efit.nod, efit.dep, efit.fits (by decide), _, rfl, rfl, _, rfl, iteNS rfl ?_⟩⟩
      refine ⟨_, rfl, .inl ⟨evl, evD ys, rfl, evD_dp hevm hbsm, efit.show_, efit.nod, efit.dep, efit.fits (by decide), _, rfl, rfl, _, rfl, iteNS rfl ?_⟩⟩
      -- some names
      have k0m := k06.trans k6m
      have hktm' := k6m _ _ hkt (P6.tup_ne hkt)
      have hLm := hL6.kp k6m P6
      obtain ⟨kvm, hdm, TBm⟩ := hA.kp k0m P0
      clear hd TB P4 P5 k04 k05 e5 k4 k6' h1 h2 sa sb sd sab sad s7 e7 s8 e8 s9 e9 e89 s69 P9 k09 hlvk k0k
      refine ⟨_, rfl, d, kvm, rfl, hdm, fun ql hql => ?_⟩
      rw [TBm.names]
      have sq : Same Hm (upd Hm ql (.lst ((keys (ups rs)).map V.str))) := (Same.refl Hm).put hql
      have eq1 : (upd Hm ql (.lst ((keys (ups rs)).map V.str))) ql = some (.lst ((keys (ups rs)).map V.str)) := upd_same
      generalize upd Hm ql (.lst ((keys (ups rs)).map V.str)) = Hn at sq eq1 ⊢
      have Pn := Pm.same sq
      have qlp := Pn.strs_ne eq1
      refine ⟨ql, rfl, ⟨_, SqL.of eq1⟩, fun D1 hD1 => ?_⟩
      have pD := Pn.pne hD1
      have cD := Pn.cne hD1
      refine lc_list (K := K) (a := ql) (xs := (keys (ups rs)).map V.str) (fun j Hx => ∃ ms : List Str, Hx D1 = some (.lst (ms.map V.str)) ∧ ms.length ≤ j ∧ Keep p Hn Hx ∧ Pen Hx p c ns (m + 1 + 1 + 1 + 1 + j)) ?_ ?_ ?_ ?_
      · exact ⟨[], upd_same, Nat.zero_le _, (Keep.refl p Hn).new hD1, (Pn.new hD1).mono (by omega)⟩
      · rintro j Hx _ ⟨ms, _, _, kx, _⟩
        exact SqL.of (kx _ _ eq1 qlp)
      · rintro j y Hx hy ⟨ms, hDx, hml, kx, Px⟩
        have hj : j < (keys (ups rs)).length := by
          have := (List.getElem?_eq_some_iff.mp hy).1
          rwa [List.length_map] at this
        obtain ⟨z, _, rfl⟩ := List.mem_map.mp (List.mem_of_getElem? hy)
        refine ⟨rfl, _, rfl, p, c, ns, _, 3, rfl, Px, by omega, by decide, by decide, fun dv Hy d0 d1 ky Py => ⟨rfl, _, rfl, ite2 (fun _ => ?_) (fun _ => ?_)⟩⟩
        · exact ⟨_, rfl, _, ky _ _ hDx pD.symm, (by rw [List.length_map]; show _ < 16777216; omega), ms ++ [z], by rw [upd_same, List.map_append]; rfl, (by rw [List.length_append]; show _ + 1 ≤ _; omega), (kx.trans ky).new hD1, (Py.upd' pD cD).mono (by omega)⟩
        · exact ⟨ms, ky _ _ hDx pD.symm, by omega, kx.trans ky, Py.mono (by omega)⟩
      rintro Ho ⟨ms, hDo, hml, ko, Po⟩
      rw [List.length_map] at hml Po
      have kmo : Keep p Hm Ho := sq.keep.trans ko
      have hkto := kmo _ _ hktm' (Pm.tup_ne hktm')
      have hLo := hLm.kp kmo Pm
      have hAo : AbAt Ho d (ups rs) := AbAt.kp ⟨kvm, hdm, TBm⟩ kmo Pm
      obtain ⟨dy, cly, evy, bsy, hlvo, _⟩ := id hLo
      have noy : ∀ {f : Str}, ¬ f = "_everything" → ¬ f = "classes" → (fldsK cly evy).lookup f = none := fun a b => fldsK_no _ _ a b
      have ml : ms.length ≤ 40 := by omega
      -- what is taken
      refine ⟨_, rfl, lv, dy, _, rfl, hlvo, noy (by decide +kernel) (by decide +kernel), _, rfl, _, rfl, D1, _, rfl, .inl ⟨SqL.of hDo, fun st hst => ?_⟩⟩
      have sa : Same Ho (upd Ho st (.tup (ms.map V.str))) := (Same.refl Ho).put hst
      have ea : (upd Ho st (.tup (ms.map V.str))) st = some (.tup (ms.map V.str)) := upd_same
      generalize upd Ho st (.tup (ms.map V.str)) = Ha at sa ea ⊢
      refine ⟨lv, kt, st, rs, ys, kd, ms, rfl, hLo.same sa, sa _ _ hkto, kdk, by omega, ea, ml, fun Hb sb => ?_⟩
      have sab := sa.trans sb
      refine ⟨_, rfl, lv, dy, _, rfl, sab _ _ hlvo, noy (by decide +kernel) (by decide +kernel), _, rfl, _, rfl, lv, kt, D1, rs, ys, kd, ms, rfl, hLo.same sab, sab _ _ hkto, kdk, by omega, sab _ _ hDo, ml, fun Hd sd => ?_⟩
      have sad := sab.trans sd
      refine ⟨_, rfl, lv, dy, _, rfl, sad _ _ hlvo, noy (by decide +kernel) (by decide +kernel), _, rfl, (by show 1 ≤ sizeLine; decide), fun mt hmt => ?_⟩
      have se : Same Hd (upd Hd mt (.tup [.str mn])) := (Same.refl Hd).put hmt
      have ee : (upd Hd mt (.tup [.str mn])) mt = some (.tup ([mn].map V.str)) := upd_same
      generalize upd Hd mt (.tup [.str mn]) = He at se ee ⊢
      have sae := sad.trans se
      have mnk : ∀ x ∈ [mn], x ∈ keys (ups rs) := fun x hx => by rw [List.mem_singleton.mp hx]; exact hmn
      refine ⟨_, rfl, lv, mt, D1, rs, ys, [mn], ms, rfl, hLo.same sae, ee, mnk, (by show 1 ≤ 40; decide), sae _ _ hDo, ml, fun Hf sf => ⟨(by show 3 ≤ sizeLine; decide), fun l4 hl4 => ?_⟩⟩
      generalize hb1 : meet (ups rs) kd ms = b1
      generalize hb2 : meet (ups rs) [mn] ms = b2
      have sg : Same Hf (upd Hf l4 (.lst [.bl b1, .bl b1, .bl b2])) := (Same.refl Hf).put hl4
      have eg : (upd Hf l4 (.lst [.bl b1, .bl b1, .bl b2])) l4 = some (.lst ([b1, b1, b2].map V.bl)) := upd_same
      generalize upd Hf l4 (.lst [.bl b1, .bl b1, .bl b2]) = Hg at sg eg ⊢
      have sag := (sae.trans sf).trans sg
      refine ⟨_, rfl, .inl ⟨l4, boolsD [b1, b1, b2], rfl, .lst (SqL.of eg) (bools_dp _ _ _), bools_show _, boolsD_nd _, boolsD_dep _, bools_size _ (by show 3 ≤ 1000; decide), ?_⟩⟩
      refine ⟨_, rfl, _, rfl, _, rfl, (by show 1 ≤ sizeLine; decide), fun mt2 hmt2 => ?_⟩
      have sh : Same Hg (upd Hg mt2 (.tup [.str mn])) := (Same.refl Hg).put hmt2
      have eh : (upd Hg mt2 (.tup [.str mn])) mt2 = some (.tup ([mn].map V.str)) := upd_same
      generalize upd Hg mt2 (.tup [.str mn]) = Hh at sh eh ⊢
      refine ⟨(by show 3 ≤ sizeLine; decide), fun tt htt => ?_⟩
      have si : Same Hh (upd Hh tt (.tup [.ref kt, .ref kt, .ref mt2])) := (Same.refl Hh).put htt
      have ei : (upd Hh tt (.tup [.ref kt, .ref kt, .ref mt2])) tt = some (.tup [.ref kt, .ref kt, .ref mt2]) := upd_same
      generalize upd Hh tt (.tup [.ref kt, .ref kt, .ref mt2]) = Hi at si ei ⊢
      have sai := (sag.trans sh).trans si
      refine ⟨tt, rfl, ⟨_, SqT.of ei⟩, fun D2 hD2 => ?_⟩
      refine lc_tup (K := K) (a := tt) (xs := [.ref kt, .ref kt, .ref mt2]) (fun j Hx => Hx D2 = some (.lst (([b1, b1, b2].take j).map V.bl)) ∧ Same Hi Hx) ?_ ?_ ?_ ?_
      · exact ⟨upd_same, (Same.refl Hi).put hD2⟩
      · rintro j Hx _ ⟨_, sx⟩
        exact SqT.of (sx _ _ ei)
      · rintro j y Hx hy ⟨hDx, sx⟩
        have hj : j < 3 := (List.getElem?_eq_some_iff.mp hy).1
        obtain ⟨ad, kd', rfl, h1, h2, h3, h4⟩ : ∃ (ad : Addr) (kd' : List Str), y = .ref ad ∧ Hx ad = some (.tup (kd'.map V.str)) ∧ (∀ x ∈ kd', x ∈ keys (ups rs)) ∧ kd'.length ≤ 40 ∧ ([b1, b1, b2].take (j + 1)) = [b1, b1, b2].take j ++ [meet (ups rs) kd' ms] := by
          match j, hj, hy with
          | 0, _, hy => cases hy; exact ⟨kt, kd, rfl, sx _ _ (sai _ _ hkto), kdk, by omega, by rw [hb1]; rfl⟩
          | 1, _, hy => cases hy; exact ⟨kt, kd, rfl, sx _ _ (sai _ _ hkto), kdk, by omega, by rw [hb1]; rfl⟩
          | 2, _, hy => cases hy; exact ⟨mt2, [mn], rfl, sx _ _ (si _ _ eh), mnk, (by show 1 ≤ 40; decide), by rw [hb2]; rfl⟩
        refine ⟨rfl, _, rfl, _, rfl, _, rfl, d, ad, D1, ups rs, kd', ms, rfl, (hAo.same sai).same sx, h1, sx _ _ (sai _ _ hDo), h2, h3, ml, fun Hy sy => ⟨_, sy _ _ hDx, ?_, ?_, (sx.trans sy).put hD2⟩⟩
        · rw [List.length_map, List.length_take]; show min j 3 < 16777216; omega
        · rw [upd_same, h4, List.map_append]
          rfl
      rintro Hj ⟨hDj, sj⟩
      refine .inl ⟨D2, boolsD [b1, b1, b2], rfl, .lst (SqL.of hDj) (bools_dp _ _ _), bools_show _, boolsD_nd _, boolsD_dep _, bools_size _ (by show 3 ≤ 1000; decide), rfl, _, rfl, iteNS rfl ?_⟩
      -- names
      have saj := sai.trans sj
      have hlvj := saj _ _ hlvo
      have hktj := saj _ _ hkto
      have fin : ∀ Hz, Same Hj Hz → ∃ u6 u7 u8 u9 u10 u11 u12 u13 : Option V, [some (V.ref p), some (.ref lv), some (.ref d), some (.ref ka), some (.ref wl), some (.str (evD ys).shown), some (.int (0 + (i : Int))), some (.ref kt), some (.str mn), some (.ref evl), some (.ref evl), some (.ref D1), v12, some (.ref l4)] = [some (.ref p), some (.ref lv), some (.ref d), some (.ref ka), some (.ref wl), some (.str (evD ys).shown), u6, u7, u8, u9, u10, u11, u12, u13] ∧ Keep p H Hz ∧ Pen Hz p c ns (n + 10 * (i + 1)) := fun Hz sz =>
        ⟨_, _, _, _, _, _, _, _, rfl, (k0m.trans kmo).trans (saj.trans sz).keep, (Po.same (saj.trans sz)).mono (by omega)⟩
      have kcase : (∃ x, kd = [x]) ∨ kd.length ≠ 1 := by
        by_cases h : kd.length = 1
        · exact .inl (List.length_eq_one_iff.mp h)
        · exact .inr h
      rcases kcase with ⟨x, rfl⟩ | hne
      · have nfit := nmD_fit (str_fit (vw_ok (kvw x (kdk x List.mem_cons_self)))) mfit
        refine ⟨_, rfl, lv, dy, _, rfl, hlvj, noy (by decide +kernel) (by decide +kernel), _, rfl, lv, kt, _, rfl, hktj, (by show 1 ≤ 1000; decide), .inl ⟨.str x, rfl, ?_⟩⟩
        refine ⟨_, rfl, lv, dy, _, rfl, hlvj, noy (by decide +kernel) (by decide +kernel), _, rfl, (by show 1 ≤ sizeLine; decide), fun mt3 hmt3 => ?_⟩
        have sk : Same Hj (upd Hj mt3 (.tup [.str mn])) := (Same.refl Hj).put hmt3
        refine ⟨lv, mt3, _, rfl, upd_same, (by show 1 ≤ 1000; decide), .inl ⟨.str mn, rfl, (by show 2 ≤ sizeLine; decide), fun l5 hl5 => ?_⟩⟩
        have sl := sk.put (o := .lst [.str x, .str mn]) (sk.free hl5)
        have el : (upd (upd Hj mt3 (.tup [.str mn])) l5 (.lst [.str x, .str mn])) l5 = some (.lst [.str x, .str mn]) := upd_same
        generalize upd (upd Hj mt3 (.tup [.str mn])) l5 (.lst [.str x, .str mn]) = Hl at sl el ⊢
        refine .inl ⟨l5, nmD (.str x) mn, rfl, .lst (SqL.of el) (.cons (.str _) (.cons (.str _) .nil)), nfit.show_, nfit.nod, nfit.dep, nfit.fits (by decide), ?_⟩
        refine ⟨_, rfl, kt, _, rfl, .inr (SqT.of (sl _ _ hktj)), rfl, _, rfl, iteT ⟨_, rfl, kt, _, _, _, rfl, rfl, SqT.of (sl _ _ hktj), atI_nat (j := 0) rfl, _, rfl, (by show 2 ≤ sizeLine; decide), fun l6 hl6 => ?_⟩⟩
        have sm := sl.put (o := .lst [.str x, .str mn]) (sl.free hl6)
        have em : (upd Hl l6 (.lst [.str x, .str mn])) l6 = some (.lst [.str x, .str mn]) := upd_same
        generalize upd Hl l6 (.lst [.str x, .str mn]) = Hp' at sm em ⊢
        exact .inl ⟨l6, nmD (.str x) mn, rfl, .lst (SqL.of em) (.cons (.str _) (.cons (.str _) .nil)), nfit.show_, nfit.nod, nfit.dep, nfit.fits (by decide), rfl, _, rfl, iteNS rfl (fin _ sm)⟩
      · have nfit := nmD_fit non_fit mfit
        have hne' : (kd.map V.str).length ≠ 1 := by rw [List.length_map]; exact hne
        refine ⟨_, rfl, lv, dy, _, rfl, hlvj, noy (by decide +kernel) (by decide +kernel), _, rfl, lv, kt, _, rfl, hktj, (by rw [List.length_map]; omega), .inr ⟨hne', ?_⟩⟩
        refine ⟨_, rfl, lv, dy, _, rfl, hlvj, noy (by decide +kernel) (by decide +kernel), _, rfl, (by show 1 ≤ sizeLine; decide), fun mt3 hmt3 => ?_⟩
        have sk : Same Hj (upd Hj mt3 (.tup [.str mn])) := (Same.refl Hj).put hmt3
        refine ⟨lv, mt3, _, rfl, upd_same, (by show 1 ≤ 1000; decide), .inl ⟨.str mn, rfl, (by show 2 ≤ sizeLine; decide), fun l5 hl5 => ?_⟩⟩
        have sl := sk.put (o := .lst [.non, .str mn]) (sk.free hl5)
        have el : (upd (upd Hj mt3 (.tup [.str mn])) l5 (.lst [.non, .str mn])) l5 = some (.lst [.non, .str mn]) := upd_same
        generalize upd (upd Hj mt3 (.tup [.str mn])) l5 (.lst [.non, .str mn]) = Hl at sl el ⊢
        refine .inl ⟨l5, nmD .none mn, rfl, .lst (SqL.of el) (.cons .non (.cons (.str _) .nil)), nfit.show_, nfit.nod, nfit.dep, nfit.fits (by decide), ?_⟩
        refine ⟨_, rfl, kt, _, rfl, .inr (SqT.of (sl _ _ hktj)), rfl, _, rfl, ite2 (fun z => absurd (Int.ofNat.inj (V.int.inj (of_decide_eq_true z))) hne') (fun _ => ⟨_, rfl, (by show 2 ≤ sizeLine; decide), fun l6 hl6 => ?_⟩)⟩
        have sm := sl.put (o := .lst [.non, .str mn]) (sl.free hl6)
        have em : (upd Hl l6 (.lst [.non, .str mn])) l6 = some (.lst [.non, .str mn]) := upd_same
        generalize upd Hl l6 (.lst [.non, .str mn]) = Hp' at sm em ⊢
        exact .inl ⟨l6, nmD .none mn, rfl, .lst (SqL.of em) (.cons .non (.cons (.str _) .nil)), nfit.show_, nfit.nod, nfit.dep, nfit.fits (by decide), rfl, _, rfl, iteNS rfl (fin _ sm)⟩
    · rintro σ Hc ⟨v6, v7, v8, v9, v10, v11, v12, v13, rfl, kc, Pc⟩
      exact k Hc kc (Pc.mono (by omega))
end
end K2
end
section
set_option Elab.async false
set_option maxRecDepth 100000
set_option linter.all false
/-! the pen, the law -/
namespace K2
open PySem L2 SupX NdefX PySem.Spec PyProof.Rows
abbrev sPen : Stmt := top 31
abbrev sLaw : Stmt := top 41
abbrev nLaw : List Str := ["_law_script", "_law_pen_here", "_law_turn", "_law_words_here", "_law_rows_here", "_law_more", "_law_classes", "_law_above_here", "_law_level"]
def spPen (K : PySem.W.Frag) : Sp := fun vs H Q _ => ∃ (a : Addr) (ns : List Int), vs = [.ref a] ∧ SqL K H a (ns.map V.int) ∧ ns.length ≤ 63 ∧ ∀ (p c : Addr) (H' : Hp), Pen H' p c ns 0 → Same H H' → Q (.ref p) H'
def spLaw (K : PySem.W.Frag) : Sp := fun vs H Q _ => ∃ (a : Addr) (ns : List Int), vs = [.ref a] ∧ SqL K H a (ns.map V.int) ∧ ns.length ≤ 63 ∧ ∀ H', Q (.bl true) H'
theorem cut63 (ns : List Int) (h : ns.length ≤ 63) : cutV (ns.map V.int) none (some 63) = ns.map V.int := by
  unfold cutV
  rw [show (63 : Int) = ((63 : Nat) : Int) from rfl, HT.sIx_nat, HT.sIx_none, List.drop_zero, Nat.sub_zero, List.length_map, Nat.min_eq_right h]
  rw [List.take_of_length_le (by rw [List.length_map]; exact Nat.le_refl _)]
theorem Words.take {ws : List Str} (h : Words ws) (k : Nat) : Words (ws.take k) := ⟨fun y hy => h.vw y (List.mem_of_mem_take hy), fun y hy => h.nb y (List.mem_of_mem_take hy), h.nd.sublist (List.take_sublist k ws)⟩
theorem foldK_le {tb : Tb} : ∀ (S : List Str) (ps : List (List Str)), ps.length ≤ (S.foldl (stepK tb) ps).length
  | [], _ => Nat.le_refl _
  | x :: S, ps => by
    rw [List.foldl_cons]
    refine Nat.le_trans ?_ (foldK_le S _)
    unfold stepK
    rw [List.length_append]
    omega
theorem growK_two {tb : Tb} {S : List Str} (h : S ≠ []) : 2 ≤ (growK tb S).length := by
  cases S with
  | nil => exact absurd rfl h
  | cons x S =>
    unfold growK
    rw [List.foldl_cons]
    have e : (stepK tb [[]] x).length = 2 := rfl
    have := foldK_le (tb := tb) S (stepK tb [[]] x)
    omega
theorem ps_imp66 {X : Cx} {st : Stmt} {t t' : L2.TS} (h : PS X st t) (k : ∀ D σ H, t' D σ H → t D σ H) : PS X st t' := ⟨fun pins s σ H D I q => h.run pins s σ H D I (k D σ H q)⟩
/-- some rows that are too many, now and then -/
def tMo : L2.TS := fun D σ H => ∃ (p c wl : Addr) (ns : List Int) (n : Nat) (ws : List Str) (s0 s2 s4 s5 s6 s7 s8 : Option V), σ = [s0, some (.ref p), s2, some (.ref wl), s4, s5, s6, s7, s8] ∧ Pen H p c ns n ∧ n + 200 ≤ 100000 ∧ H wl = some (.lst (ws.map V.str)) ∧ wl ≠ p ∧ Words ws ∧ ws.length = 9 ∧
  ∀ (u5 : Option V) (Hf : Hp), Keep p H Hf → Pen Hf p c ns (n + 65) → D.nx [s0, some (.ref p), s2, some (.ref wl), s4, u5, s6, s7, s8] Hf
section
variable {P : Program} {w : World} {K : PySem.W.Frag} {mg : Str → Option Value} {base : Heap}
theorem scPen : FnScope ["_law_script"] ["_law_script"] (defScope sPen) := ⟨rfl, rfl, rfl, by decide +kernel, rfl, by decide +kernel, by decide +kernel⟩
theorem scLaw : FnScope nLaw ["_law_script"] (defScope sLaw) := ⟨rfl, rfl, rfl, by decide +kernel, rfl, by decide +kernel, by decide +kernel⟩
theorem ok_pen {f : Addr} {fd : FuncData} (F : Fun K "_law_pen" "_law_pen" sPen f fd) (T : Bi mg) : FnOk P w K mg base CX0 1 f fd ["_law_script"] (spPen K) := by
  refine F.ok scPen (fun vs H Q E h => ?_) (fun cdv A outer s H vs Q E hr h => ?_)
  · obtain ⟨a, ns, rfl, _⟩ := h
    rfl
  · obtain ⟨a, ns, rfl, hS, hl, k⟩ := h
    refine ⟨_, (pss_one (ps_ret (pe_lst (pa_cons (pe_callTy call_list_of (by rfl) T.list (by decide +kernel) (pa_cons (pe_slice sl_list (pv 0) po_none (po_some pe_int)) pa_nil)) (pa_cons pe_int (pa_cons pe_int pa_nil)))))), ?_⟩
    refine ⟨_, rfl, _, rfl, a, _, rfl, hS, fun q hq => ⟨q, _, rfl, .inl (SqL.of upd_same), fun c hc => ⟨(by show 3 ≤ sizeLine; decide), fun p hp => ?_⟩⟩⟩
    rw [cut63 ns hl] at hc hp ⊢
    have hcp : c ≠ p := ne_of_none upd_same hp
    have s1 := ((Same.refl H).put (o := .lst (ns.map V.int)) hq)
    have s2 := s1.put (o := .lst (ns.map V.int)) (s1.free hc)
    exact k p c _ ⟨⟨0, 0, upd_same, by decide, by decide, by decide⟩, by rw [upd_ne hcp, upd_same], hl⟩ (s2.put (s2.free hp))
set_option maxHeartbeats 2000000 in
theorem ok_law {f fPn fD fW fRo fRf fAb fKi fSe fM fE fKI pM B BC L C CT : Addr} {mc mcB mcL : Value} {fd fdPn fdD fdW fdRo fdRf fdAb fdKi fdSe fdM fdE fdKI : FuncData} {uk uL : Value} (F : Fun K "law" "law" sLaw f fd) (T : Bi mg) (Y : LTxt K B) (YC : Txt K mg C) (O : Own K B)
    (mgB : mg "ByKind" = some (.ref B)) (mgBC : mg "ByClass" = some (.ref BC)) (mgL : mg "Level" = some (.ref L)) (kBL : PySem.W.kitOne K (.ref B) (.ref L) = some true) (kBC : PySem.W.kitOne K (.ref B) (.ref BC) = some false)
    (PN : Df K mg "_law_pen" sPen fPn fdPn ["_law_script"]) (GPn : FnOk P w K mg base CX0 1 fPn fdPn ["_law_script"] (spPen K))
    (D : Df K mg "_law_draw" sDraw fD fdD ["_law_pen_here", "_law_many"]) (GD : FnOk P w K mg base CX0 1 fD fdD ["_law_pen_here", "_law_many"] spDraw)
    (WO : Df K mg "_law_words" sWords fW fdW ["_law_pen_here", "_law_many"]) (GW : FnOk P w K mg base CX0 3 fW fdW ["_law_pen_here", "_law_many"] spWordsB)
    (RO : Df K mg "_law_rows" sRo fRo fdRo ["_law_pen_here", "_law_words_here"]) (GRo : FnOk P w K mg base CX0 3 fRo fdRo ["_law_pen_here", "_law_words_here"] spRo)
    (RF : Df K mg "_law_refused" sRf fRf fdRf ["_law_classes"]) (GRf : FnG P w K mg base 7 fRf fdRf ["_law_classes"] (spRf C))
    (AB : Df K mg "_law_above" sAb fAb fdAb ["_law_rows_here"]) (GAb : FnOk P w K mg base CX0 1 fAb fdAb ["_law_rows_here"] spUppers)
    (KI : Df K mg "_law_kinds" sKi fKi fdKi ["_law_above_here"]) (GKi : FnOk P w K mg base CX0 1 fKi fdKi ["_law_above_here"] spKi)
    (SE : Df K mg "_law_seen" sSe fSe fdSe ["_law_pen_here", "_law_level", "_law_above_here", "_law_kinds_here", "_law_words_here"]) (GSe : FnG P w K mg base 5 fSe fdSe ["_law_pen_here", "_law_level", "_law_above_here", "_law_kinds_here", "_law_words_here"] (spSe B C))
    (cR : ClX.CRead K C mc) (cM : ClX.CMet K C mc "made" pM fM) (GM : FnOk P w K mg base CX0 6 fM fdM ["cls", "rows"] (spMade C)) (bM : Binds K fdM ["cls", "rows"] [])
    (GE : FnOk P w K mg base CX0 1 fE fdE ["self", "other"] (spEqC K C)) (bE : Binds K fdE ["self", "other"] []) (hE : PySem.W.findIn K (.ref C) "__eq__" = some (some (.ref fE))) (hEf : PySem.W.isFn K (.ref fE) = true)
    (hNe : PySem.W.findIn K (.ref C) "__ne__" = some (some (.builtin "object.__ne__"))) (hMo : PySem.W.mroIn K C (.type "object") = some true)
    (MB : Mk K B fKI) (GKI : FnOk P w K mg base (L2.CX P w) 5 fKI fdKI ["self", "classes"] (spKI B C CT)) (bKI : Binds K fdKI ["self", "classes"] [])
    (kon : Con K B "KIND" (.str "kind") uk) (cRB : ClX.CRead K B mcB) (cVB : ClX.CVal K B mcB "KIND" (.str "kind") uk) (cRL : ClX.CRead K L mcL) (cVL : ClX.CVal K L mcL "KIND" (.str "class") uL) : FnG P w K mg base 8 f fd ["_law_script"] (spLaw K) := by
  refine okG F scLaw (fun vs H Q E h => ?_) (fun cdv A outer s H vs Q E hr gu h => ?_)
  · obtain ⟨a, ns, rfl, _⟩ := h
    rfl
  · obtain ⟨a, ns, rfl, hS, hl63, kQ⟩ := h
    have hu := hu_of hr
    have hr1 : Room 1 _ := hr.mono (by decide)
    have hr2 : Room 2 _ := hr.mono (by decide)
    have hr3 : Room 3 _ := hr.mono (by decide)
    have hr5 : Room 5 _ := hr.mono (by decide)
    have hr6 : Room 6 _ := hr.mono (by decide)
    have hr7 : Room 7 _ := hr
    refine ⟨_, (pss_cons (ps_set (i := 1) scLaw.nd rfl (Or.inl rfl) (pe_call GPn hr1 (by rfl) PN.m PN.F.kp PN.b .nil pass0 (pa_cons (pv 0) pa_nil)))
      (pss_cons (ps_for PassesOwn.never rfl (pi_range1 rfl T.range (pa_cons pe_int pa_nil)) (pg_name (i := 2) scLaw.nd rfl (Or.inl rfl))
      (pss_cons (ps_set (i := 3) scLaw.nd rfl (Or.inl rfl) (pe_call GW hr3 (by rfl) WO.m WO.F.kp WO.b .nil pass0 (pa_cons (pv 1) (pa_cons pe_int pa_nil))))
        (pss_cons (ps_set (i := 4) scLaw.nd rfl (Or.inl rfl) (pe_call GRo hr3 (by rfl) RO.m RO.F.kp RO.b .nil pass0 (pa_cons (pv 1) (pa_cons (pe_slice sl_list (pv 3) po_none (po_some (pe_call GD hr1 (by rfl) D.m D.F.kp D.b .nil pass0 (pa_cons (pv 1) (pa_cons pe_int pa_nil))))) pa_nil))))
        (pss_cons (ps_imp66 (t' := tMo) (ps_if (pt_cmpR op_eq (pe_call GD hr1 (by rfl) D.m D.F.kp D.b .nil pass0 (pa_cons (pv 1) (pa_cons pe_int pa_nil))) pe_int (nomark _))
        (pss_cons (ps_set (i := 5) scLaw.nd rfl (Or.inl rfl) (pe_call GRo hr3 (by rfl) RO.m RO.F.kp RO.b .nil pass0 (pa_cons (pv 1) (pa_cons (pe_slice sl_list (pv 3) po_none (po_some (pe_op op_add pe_int (pe_call GD hr1 (by rfl) D.m D.F.kp D.b .nil pass0 (pa_cons (pv 1) (pa_cons pe_int pa_nil)))))) pa_nil))))
          (pss_one (ps_if (pt_not (pt_val (pe_callG GRf hr7 gu (by rfl) RF.m RF.F.kp RF.b (pa_cons (ClX.pe_cmeth (pe_glob (v := .ref C) rfl YC.mgC rfl) cR cM (GM.raw bM .nil) hr6 pass0 (pa_cons (pv 5) pa_nil)) pa_nil))))
          (pss_one (ps_ret pe_bl))
          pss_nil)))
        pss_nil) (fun D σ H h => ?mo))
        (pss_cons (ps_set (i := 6) scLaw.nd rfl (Or.inl rfl) (ClX.pe_cmeth (pe_glob (v := .ref C) rfl YC.mgC rfl) cR cM (GM.raw bM .nil) hr6 pass0 (pa_cons (pv 4) pa_nil)))
        (pss_cons (ps_set (i := 7) scLaw.nd rfl (Or.inl rfl) (pe_call GAb hr1 (by rfl) AB.m AB.F.kp AB.b .nil pass0 (pa_cons (pv 4) pa_nil)))
        (pss_cons (ps_set (i := 8) scLaw.nd rfl (Or.inl rfl) (pe_make MB GKI hr6 (by rfl) mgB bKI .nil passL (pa_cons (pv 6) pa_nil)))
        (pss_cons (ps_if (PW.pt (pw_or (pt_not (pt_val (pe_callB call_isi (by rfl) T.isinstance (by decide +kernel) (pa_cons (pv 8) (pa_cons (pe_glob (v := .ref L) rfl mgL rfl) pa_nil))))) (pw_or (pt_val (pe_callB call_isi (by rfl) T.isinstance (by decide +kernel) (pa_cons (pv 8) (pa_cons (pe_glob (v := .ref BC) rfl mgBC rfl) pa_nil)))) (pw_or1 (pt_cmpR (op_neO GE bE pass0 hr2 hu hE hEf hNe hMo) (pe_fld (pv 8) rfl) (pv 6) (nomark _))))))
        (pss_one (ps_ret pe_bl))
        pss_nil)
        (pss_cons (ps_if (PW.pt (pw_or (pt_cmpR op_ne (pe_con (pv 8) rfl) pe_str (nomark _)) (pw_or (pt_cmpR op_ne (ClX.pe_cval (pe_glob (v := .ref B) rfl mgB rfl)) pe_str (nomark _)) (pw_or1 (pt_cmpR op_ne (ClX.pe_cval (pe_glob (v := .ref L) rfl mgL rfl)) pe_str (nomark _))))))
        (pss_one (ps_ret pe_bl))
        pss_nil)
        (pss_one (ps_if (pt_not (pt_val (pe_callG GSe hr5 gu (by rfl) SE.m SE.F.kp SE.b (pa_cons (pv 1) (pa_cons (pv 8) (pa_cons (pv 7) (pa_cons (pe_call GKi hr1 (by rfl) KI.m KI.F.kp KI.b .nil pass0 (pa_cons (pv 7) pa_nil)) (pa_cons (pv 3) pa_nil))))))))
        (pss_one (ps_ret pe_bl))
        pss_nil)))))))))))
      (pss_one (ps_ret pe_bl)))), ?body⟩
    case mo =>
      obtain ⟨p, c, wl, ns, n, ws, s0, s2, s4, s5, s6, s7, s8, rfl, Pd, hn, hwl, wlp, hws, hwn, k⟩ := h
      refine ⟨_, rfl, p, c, ns, _, 6, rfl, Pd, by omega, by decide, by decide, fun dv2 He e0 e1 ke Pe => ⟨rfl, _, rfl, ite2 (fun _ => ?_) (fun _ => k s5 He ke (Pe.mono (by omega)))⟩⟩
      refine ⟨_, rfl, _, rfl, _, rfl, p, c, ns, _, 5, rfl, Pe, by omega, by decide, by decide, fun dv3 Hf f0 f1 kf Pf => ⟨_, _, rfl, rfl, _, rfl, wl, _, rfl, SqL.of (kf _ _ (ke _ _ hwl wlp) wlp), fun w2 hw2 => ?_⟩⟩
      obtain ⟨q2, rfl⟩ : ∃ j : Nat, dv3 = (j : Int) := ⟨dv3.toNat, (Int.toNat_of_nonneg f0).symm⟩
      rw [show (5 : Int) + (q2 : Int) = ((5 + q2 : Nat) : Int) by omega, cut_take]
      have sf : Same Hf (upd Hf w2 (.lst ((ws.take (5 + q2)).map V.str))) := (Same.refl Hf).put hw2
      have ef : (upd Hf w2 (.lst ((ws.take (5 + q2)).map V.str))) w2 = some (.lst ((ws.take (5 + q2)).map V.str)) := upd_same
      generalize upd Hf w2 (.lst ((ws.take (5 + q2)).map V.str)) = Hf' at sf ef ⊢
      have tq2 : (ws.take (5 + q2)).length = 5 + q2 := by rw [List.length_take]; omega
      refine ⟨p, c, w2, ns, _, _, rfl, Pf.same sf, by omega, ef, hws.take _, by omega, fun ml mts mrs Hg men mg_ mr2 hml mR mlp kg Pg => ?_⟩
      have ml9 : mrs.length = 5 + q2 := by
        have := congrArg List.length men
        rw [List.length_map] at this
        omega
      refine ⟨rfl, _, rfl, ml, mts, mrs, rfl, hml, mR, mg_, by omega, fun mcl Hh mcw sh => ?_⟩
      have mkl : (keys (ups mrs)).length = mrs.length + 2 := by
        rw [keys_ups, List.length_append, List.length_map]
        show 2 + _ = _
        omega
      have mnd : (keys (ups mrs)).Nodup := by
        have := mg_.nodup mrs.length (Nat.le_refl _)
        unfold knownAt at this
        rw [List.take_length] at this
        rw [keys_ups]
        exact this
      refine ⟨mcl, mrs, rfl, mcw, mnd, by omega, by omega, fun Hi si => ⟨_, rfl, iteF ?_⟩⟩
      exact k _ Hi (ke.trans (((kf.trans sf.keep).trans kg).trans (sh.trans si).keep)) ((Pg.same (sh.trans si)).mono (by omega))
    refine ⟨_, rfl, a, ns, rfl, hS, hl63, fun p c H1 P1 s1 => ?_⟩
    refine ⟨5, rfl, by decide, by decide, for_range (lo := 0) (n := 5) (fun i σ Hc => ∃ v2 v3 v4 v5 v6 v7 v8 : Option V, σ = [some (.ref a), some (.ref p), v2, v3, v4, v5, v6, v7, v8] ∧ Pen Hc p c ns (500 * i)) ?_ ?_ ?_⟩
    · exact ⟨_, _, _, _, _, _, _, rfl, P1⟩
    · rintro i σ Hc hi ⟨v2, v3, v4, v5, v6, v7, v8, rfl, Pc⟩
      generalize hN : 500 * i = n at Pc
      have hn : n ≤ 2000 := by omega
      refine ⟨_, rfl, p, c, ns, n, 9, rfl, Pc, by omega, by decide, fun wl ws Ha hws hwn hwl wlp ka Pa => ?_⟩
      -- the rows
      refine ⟨_, rfl, _, rfl, _, rfl, p, c, ns, _, 5, rfl, Pa, by omega, by decide, by decide, fun dv Hb d0 d1 kb Pb => ⟨_, rfl, wl, _, rfl, SqL.of (kb _ _ hwl wlp), fun w1 hw1 => ?_⟩⟩
      obtain ⟨q, rfl⟩ : ∃ j : Nat, dv = (j : Int) := ⟨dv.toNat, (Int.toNat_of_nonneg d0).symm⟩
      rw [cut_take]
      have sb : Same Hb (upd Hb w1 (.lst ((ws.take q).map V.str))) := (Same.refl Hb).put hw1
      have eb : (upd Hb w1 (.lst ((ws.take q).map V.str))) w1 = some (.lst ((ws.take q).map V.str)) := upd_same
      generalize upd Hb w1 (.lst ((ws.take q).map V.str)) = Hb' at sb eb ⊢
      have Pb' := Pb.same sb
      have tq : (ws.take q).length ≤ 4 := by rw [List.length_take]; omega
      refine ⟨p, c, w1, ns, _, _, rfl, Pb', by omega, eb, hws.take q, by omega, fun rl ts rs Hd en g r2 hrl R rlp kd Pd => ?_⟩
      have rl4 : rs.length ≤ 4 := by
        have := congrArg List.length en
        rw [List.length_map] at this
        omega
      have hwld := kd _ _ (sb _ _ (kb _ _ hwl wlp)) wlp
      refine ⟨p, c, wl, ns, _, ws, _, _, _, _, _, _, _, rfl, Pd, by omega, hwld, wlp, hws, hwn, fun u5 Hf kf Pf => ?_⟩
      have hrlf := kf _ _ hrl rlp
      have Rf := R.mono (H' := Hf) fun b r e => kf b _ e (Pd.tup_ne (by unfold rowO at e; exact e))
      have hwlf := kf _ _ hwld wlp
      have kl : (keys (ups rs)).length = rs.length + 2 := by
        rw [keys_ups, List.length_append, List.length_map]
        show 2 + _ = _
        omega
      have nd : (keys (ups rs)).Nodup := by
        have := g.nodup rs.length (Nat.le_refl _)
        unfold knownAt at this
        rw [List.take_length] at this
        rw [keys_ups]
        exact this
      have kvw : ∀ u ∈ keys (ups rs), VW u := fun u hu => g.vw_known rs.length u (by unfold knownAt; rw [List.take_length, ← keys_ups]; exact hu)
      have k6 : (keys (ups rs)).length ≤ 6 := by omega
      have fit := g.fit (by omega)
      clear ka Pa hwl kb Pb sb eb Pb' kd Pd hrl R hwld kf
      refine ⟨rfl, _, rfl, rl, ts, rs, rfl, hrlf, Rf, g, by omega, fun cl Hg cw sg => ?_⟩
      refine ⟨_, rfl, rl, ts, rs, rfl, sg _ _ hrlf, Rf.mono fun b r e => sg _ _ e, g, by omega, fun d kvs Hh hd0 hd TB sh => ?_⟩
      have sgh := sg.trans sh
      have cwh := cw.same sh
      refine ⟨_, rfl, fun lv dx hlv hdx ne => ⟨lv, cl, dx, rs, rfl, upd_same, cwh.same (((Same.refl Hh).put hdx).put hlv), nd, by omega, fun _ ev bs S ys Hi hS hso hys hpw hlvi hevi hbsi sx => ⟨rfl, ?_⟩, fun q => absurd k6 (by omega)⟩⟩
      have si : Same Hh Hi := fun b o e => by
        have n1 := ne_of_none e hlv
        exact sx b o (by rw [upd_ne n1, upd_ne (ne_of_none e hdx)]; exact e) n1
      have cwi := cwh.same si
      have ee := hlvi
      obtain ⟨dx1, fs1, f1, _⟩ := cwi.ins
      refine ⟨_, rfl, _, _, _, _, true, rfl, .own L, .base (.ins ee Y.cl O.ha O.hn O.htk O.hm), kBL, _, rfl, iteF ?_⟩
      refine ⟨_, rfl, _, _, _, _, false, rfl, .own BC, .base (.ins ee Y.cl O.ha O.hn O.htk O.hm), kBC, _, rfl, iteF ?_⟩
      refine ⟨_, rfl, lv, B, dx, _, _, rfl, ee, Y.cl, Y.nC, fldsK_classes _ _, _, rfl, cl, cl, dx1, fs1, dx1, fs1, rfl, rfl, f1, f1, cl, .ref cl, rs, rfl, cwi, fit, .inl ⟨cl, rs, rfl, cwi, fit, _, rfl, _, rfl, iteNS rfl ?_⟩⟩
      refine ⟨_, rfl, lv, B, dx, _, _, _, rfl, ee, Y.cl, kon, fldsK_no _ _ (by decide +kernel) (by decide +kernel), rfl, _, rfl, iteNS rfl ?_⟩
      refine ⟨B, _, _, _, rfl, cRB, cVB, rfl, _, rfl, iteNS rfl ?_⟩
      refine ⟨L, _, _, _, rfl, cRL, cVL, rfl, _, rfl, iteNS rfl ?_⟩
      have shi := sgh.trans si
      have Pi := Pf.same shi
      have AB1 : AbAt Hi d (ups rs) := ⟨kvs, si _ _ hd, TB.mono fun b us e => si _ _ e⟩
      refine ⟨_, rfl, _, rfl, _, rfl, _, rfl, d, ups rs, rfl, AB1, nd, k6, fun ka bs' S' ys' Hj hS' hso' hys' hpw' hka hbs' sj => ?_⟩
      obtain rfl : S' = S := sorted_one (hS'.nodup_iff.mpr nd) (hS.nodup_iff.mpr nd) hso' hso fun y => hS'.mem_iff.trans hS.mem_iff.symm
      obtain rfl : ys' = ys := asc_one (hys'.trans hys.symm) hpw' hpw
      have Sne : S' ≠ [] := fun e => by
        have := hS.length_eq
        rw [e] at this
        simp at this
        omega
      have gz := growK_sz (tb := ups rs) (S := S') (by rw [hS.length_eq]; exact k6)
      have g2 := growK_two (tb := ups rs) Sne
      have yl : ys'.length = (growK (ups rs) S').length - 1 := by rw [hys.length_eq, List.length_tail]
      have Pj := Pi.same sj
      have kap : ka ≠ p := fun e => by
        obtain ⟨a9, l9, hp9, _⟩ := Pj.pen
        rw [e, hp9] at hka
        unfold penO at hka
        have e9 := HO.lst.inj (Option.some.inj hka)
        have l9 := congrArg List.length e9
        rw [List.length_map, hbs'.len] at l9
        have h1 := congrArg (fun l => l[1]?) e9
        simp only [List.getElem?_map] at h1
        cases hq : bs'[1]? with
        | none => rw [hq] at h1; cases h1
        | some b => rw [hq] at h1; cases h1
      refine ⟨_, rfl, p, c, lv, d, ka, wl, ns, _, rs, ys', bs', ws, rfl, Pj, by omega, LvK.same ⟨dx, cl, ev, bs, ee, hevi, hbsi, cwi⟩ sj, AB1.same sj, hka, kap, hbs', (fun e => by rw [e] at yl; simp at yl; omega), by omega, fun y hy => ?_, kvw, (fun e => by rw [e] at kl; simp at kl), k6, sj _ _ (shi _ _ hwlf), (fun e => by rw [e] at hwn; simp at hwn), by omega, fun Hk kk Pk => ⟨_, rfl, iteF ?_⟩⟩
      · obtain ⟨h1, h2⟩ := growK_in (tb := ups rs) (List.mem_of_mem_tail (hys.mem_iff.mp hy))
        have := hS.length_eq
        exact ⟨by omega, fun u hu => hS.mem_iff.mp (h2 u hu)⟩
      · exact ⟨_, _, _, _, _, _, _, rfl, Pk.mono (by omega)⟩
    · rintro σ Hc ⟨v2, v3, v4, v5, v6, v7, v8, rfl, Pc⟩
      exact kQ _
end
end K2
end
section
set_option Elab.async false
set_option maxRecDepth 100000
set_option linter.all false
namespace K2
open PySem L2 PySem.Spec PyProof.Rows
section
variable {P : Program} {w : World} {K : PySem.W.Frag} {mg mb : Str → Option Value} {k : Nat} {fa a : Addr} {fd : FuncData} {x : Str} {s : Shared} {us : List Value} {ns : List Int}
/-- the call from the claim's own caller, told of any heap of which nothing but the script is tracked -/
theorem call_core {sp : Sp} {H : Hp} (kin : K.In s.heap) (gl : s.heap.Ns mainGlobals mg) (bl : s.heap.Ns builtinsNs mb) (bb : ∀ y : Str, y ≠ "__name__" → mb y = bootBuiltins y) (lim : s.heap.NoLimit) (gn : s.gens = #[])
    (ha : s.heap.get? a = some { cls := .type "list", data := .seq us.toArray }) (hr : Room k callerA) (F : ∀ base : Heap, K.In base → base.Ns mainGlobals mg → FnG P w K mg base k fa fd [x] sp) (bind : ∀ (z : Shared) (u : Value), BindsTo z fd ⟨[u], []⟩ [(x, u)])
    (only : Only H) (ok : HOk P w H s.heap) (lone : ∀ b, H b ≠ none → b = a) (apart : H a ≠ none → K.lookup a = none) (hsp : sp [.ref a] H (fun v _ => v = .bl true) fun _ _ _ => False) :
    codeAny (model P w) callerA (.call (.ref fa) ⟨[.ref a], []⟩) (fun r z => r = .ok (.ret (.bool true)) ∧ OldK s.heap z.heap ∧ z.os = s.os ∧ AllBare z.gens) s := by
  have un_dict : ∀ {b : Addr} {o : Obj} {es : Array DictEntry} {ep : Nat}, s.heap.get? b = some o → o.data = .dict es ep → H b = none := fun {b o es ep} e d => by
    by_cases q : H b = none
    · exact q
    · have := lone b q
      subst this
      rw [ha] at e
      cases e
      exact absurd (show Data.seq us.toArray _ = Data.dict es ep from d) (fun z => nomatch z)
  have ns2 : ∀ {b : Addr} {m : Str → Option Value}, s.heap.Ns b m → (hidT s.heap H).Ns b m := fun ⟨o, es, ep, e, d, r⟩ => ⟨o, es, ep, hidT_get e (un_dict e d), d, r⟩
  have kin2 : K.In (hidT s.heap H) := fun b o e => hidT_get (kin b o e) (by
    by_cases q : H b = none
    · exact q
    · have := lone b q
      subst this
      rw [apart q] at e
      cases e)
  have e0 : Env0 P w K mg (hidT s.heap H) callerA [] s H := ⟨rfl, ⟨kin2, ns2 gl, ⟨mb, ns2 bl, bb⟩, let ⟨mc, h1, h2⟩ := lim; ⟨mc, ns2 h1, h2⟩⟩, fun b o e => of_hidT e, Nat.le_of_eq (hidT_size _ _), trivial, fun b (hb : b ∈ ([] : List Addr)) => (List.not_mem_nil hb).elim, ok, .of_eq gn⟩
  refine codeAny_mono ((F _ kin2 (ns2 gl)).run callerA [] s H ⟨[.ref a], []⟩ [.ref a] [.ref a] _ _ hr rfl e0 (bind s (.ref a)) (.cons rfl .nil) hsp) fun r z h => ?_
  cases r with
  | error e => exact h.elim
  | ok fl =>
    cases fl with
    | next => exact h.elim
    | brk => exact h.elim
    | cont => exact h.elim
    | ret u =>
      obtain ⟨v, H2, os, bare, un, ok2, rv, q⟩ := h
      have q : v = .bl true := q
      subst q
      obtain rfl : u = Value.bool true := rv
      refine ⟨rfl, OldK.of_keep fun b o e => ?_, os, bare⟩
      rcases only b with z1 | ⟨ob, xs, z1⟩
      · exact un.keep b o e z1 (fun z : b ∈ ([] : List Addr) => (List.not_mem_nil z).elim) (fun z => (List.not_mem_nil z).elim)
      · obtain ⟨e1, _⟩ := ok b _ z1
        obtain ⟨e2, _⟩ := ok2 b _ (un.frzs b ob _ z1)
        rw [e] at e1
        cases e1
        exact e2
theorem law_callG (kin : K.In s.heap) (gl : s.heap.Ns mainGlobals mg) (bl : s.heap.Ns builtinsNs mb) (bb : ∀ y : Str, y ≠ "__name__" → mb y = bootBuiltins y) (lim : s.heap.NoLimit) (gn : s.gens = #[])
    (ha : s.heap.get? a = some { cls := .type "list", data := .seq us.toArray }) (hi : IntsAre us ns) (hl : ns.length ≤ 63) (hr : Room k callerA) (F : ∀ base : Heap, K.In base → base.Ns mainGlobals mg → FnG P w K mg base k fa fd [x] (spLaw K)) (bind : ∀ (z : Shared) (u : Value), BindsTo z fd ⟨[u], []⟩ [(x, u)]) :
    codeAny (model P w) callerA (.call (.ref fa) ⟨[.ref a], []⟩) (fun r z => r = .ok (.ret (.bool true)) ∧ OldK s.heap z.heap ∧ z.os = s.os ∧ AllBare z.gens) s := by
  have rv := vals_ints hi
  have ll := hi.length
  have pr : ∀ H : Hp, SqL K H a (ns.map V.int) → spLaw K [.ref a] H (fun v _ => v = .bl true) fun _ _ _ => False := fun H hS => ⟨a, ns, rfl, hS, hl, fun _ => rfl⟩
  cases hk : K.lookup a with
  | some o =>
    have e := kin a o hk
    rw [ha] at e
    cases e
    exact call_core (H := fun _ => none) kin gl bl bb lim gn ha hr F bind (fun _ => .inl rfl) (fun b u z => nomatch (show (none : Option HO) = some u from z)) (fun b z => absurd rfl z) (fun z => absurd rfl z)
      (pr _ (.inr ⟨_, us.toArray, _, hk, rfl, rfl, rfl, by rw [List.size_toArray, ll]; exact Nat.le_trans hl (by decide), by simpa using rv⟩))
  | none =>
    have at_ : ∀ b, (fun b => if b = a then some (HO.frz { cls := .type "list", data := .seq us.toArray } (.lst (ns.map V.int))) else none : Hp) b ≠ none → b = a := fun b z => by
      by_cases hb : b = a
      · exact hb
      · exact absurd (if_neg hb) z
    refine call_core (H := fun b => if b = a then some (HO.frz { cls := .type "list", data := .seq us.toArray } (.lst (ns.map V.int))) else none) kin gl bl bb lim gn ha hr F bind (fun b => ?_) (fun b u z => ?_) at_ (fun _ => hk)
      (pr _ (.inl (.inr ⟨{ cls := .type "list", data := .seq us.toArray }, if_pos rfl⟩)))
    · by_cases hb : b = a
      · exact .inr ⟨_, _, if_pos hb⟩
      · exact .inl (if_neg hb)
    · have hb : b = a := at_ b (by rw [z]; simp)
      subst hb
      have z2 := (if_pos rfl).symm.trans z
      cases z2
      exact ⟨ha, by rw [List.length_map]; exact Nat.le_trans hl (by decide), us, _, rv, ha⟩
end
theorem walk_ofG {l : PySem.W.OpenLaw} {q : Program} {loose : List Str} {XP : (Str → Option Value) → Heap → Prop} {YP : World → Heap → Prop} {d : DefRec} {K : Params → PySem.W.Frag} {k : Nat} {x : Str} (hn : l.most = some 63) (hdf : d.params.defaults = []) (hr : Room k callerA)
    (hY : ∀ (w : World) (h : Heap), YP w h → (K w.params).In h) (F : ∀ (w : World) (mg : Str → Option Value) (fa : Addr) (h : Heap), (K w.params).In h → h.Ns mainGlobals mg → mg d.name = some (.ref fa) →
      ∃ fd : FuncData, (∀ (z : Shared) (u : Value), BindsTo z fd ⟨[u], []⟩ [(x, u)]) ∧ ∀ base : Heap, (K w.params).In base → base.Ns mainGlobals mg → FnG l.prog w (K w.params) mg base k fa fd [x] (spLaw (K w.params))) :
    PySem.W.WalkO q loose XP YP l.row.toRowW d [] (fun f vs => PySem.call f vs) := by
  refine Att.attach_call hn hdf fun w s0 s1 mg mb fa o pm cd doc a vs ns G Y ho hd hcd hmg hobj hints hlen hg => ?_
  obtain ⟨fd, hb, hF⟩ := F w mg fa _ (hY w _ Y) G.T.g hmg
  exact law_callG (hY w _ Y) G.T.g G.T.b G.T.builtins G.T.nolimit hg hobj hints hlen hr hF hb
end K2
end
section
set_option Elab.async false
set_option maxRecDepth 100000
set_option linter.all false
namespace K2
open PySem L2 SupX NdefX
theorem vals_rev : ∀ {vs : List V} {us : List Value}, Vals vs us → Vals vs.reverse us.reverse
  | _, _, .nil => .nil
  | _ :: _, _ :: _, .cons r t => by
    rw [List.reverse_cons, List.reverse_cons]
    exact (vals_rev t).append (.cons r .nil)
def chkS : List Str → List Value → Bool
  | [], [] => true
  | x :: xs, .str y _ :: us => decide (x = y) && chkS xs us
  | _, _ => false
theorem chk_vals : ∀ {xs : List Str} {us : List Value}, chkS xs us = true → Vals (xs.map V.str) us
  | [], [], _ => .nil
  | x :: xs, .str y t :: us, h => by
    have h2 := Bool.and_eq_true_iff.mp (show (decide (x = y) && chkS xs us) = true from h)
    have e := of_decide_eq_true h2.1
    subst e
    exact .cons ⟨t, rfl⟩ (chk_vals h2.2)
theorem kit_ref {K : PySem.W.Frag} {D C : Addr} {b : Bool} (ne : (D == C) = false) (c : PySem.W.isClsIn K C = true) (t : PySem.W.typeIn K (.ref C) = some (.type "type")) (s : PySem.W.subIn K (.ref D) (.ref C) = some b) : PySem.W.kitOne K (.ref D) (.ref C) = some b := by
  have q : PySem.W.kitCls K (.ref D) (.ref C) = some b := by
    show (if ((PySem.W.clsIn K C).isSome && PySem.W.typeIn K (.ref C) == some (.type "type")) = true then PySem.W.subIn K (.ref D) (.ref C) else none) = some b
    have c' : (PySem.W.clsIn K C).isSome = true := c
    rw [c', t, if_pos (by simp)]
    exact s
  unfold PySem.W.kitOne
  rw [if_neg ?_]
  · exact q
  · intro z
    have e : D = C := Value.ref.inj (beq_iff_eq.mp z)
    rw [e] at ne
    simp at ne
theorem kit_same {K : PySem.W.Frag} {D : Addr} : PySem.W.kitOne K (.ref D) (.ref D) = some true := by
  unfold PySem.W.kitOne
  rw [if_pos (by simp)]
theorem kit_ve {K : PySem.W.Frag} {D : Addr} (s : PySem.W.subIn K (.ref D) (.type "ValueError") = some true) : PySem.W.kitOne K (.ref D) (.type "ValueError") = some true := by
  have q : PySem.W.kitCls K (.ref D) (.type "ValueError") = some true := by
    show (if PySem.W.kitMeta "ValueError" = true then PySem.W.subIn K (.ref D) (.type "ValueError") else none) = some true
    rw [if_pos (by decide +kernel)]
    exact s
  unfold PySem.W.kitOne
  rw [if_neg (by simp)]
  exact q
theorem any_no {K : PySem.W.Frag} {t c : Value} {r : List Value} (h : PySem.W.kitOne K t c = some false) (k : PySem.W.kitAny K t r = some false) : PySem.W.kitAny K t (c :: r) = some false := by
  show (match PySem.W.kitOne K t c with | some true => some true | some false => PySem.W.kitAny K t r | none => none) = some false
  rw [h]
  exact k
theorem kit_yes {K : PySem.W.Frag} {B L : Addr} (c : PySem.W.isClsIn K L = true) (t : PySem.W.typeIn K (.ref L) = some (.type "type")) (e : PySem.W.subIn K (.ref B) (.ref L) = some true) : PySem.W.kitOne K (.ref B) (.ref L) = some true := by
  have q : PySem.W.kitCls K (.ref B) (.ref L) = some true := by
    show (if ((PySem.W.clsIn K L).isSome && PySem.W.typeIn K (.ref L) == some (.type "type")) = true then PySem.W.subIn K (.ref B) (.ref L) else none) = some true
    have c' : (PySem.W.clsIn K L).isSome = true := c
    rw [c', t, if_pos (by simp)]
    exact e
  unfold PySem.W.kitOne
  split
  · rfl
  · exact q

set_option maxHeartbeats 4000000 in
theorem all_mk {l : PySem.W.OpenLaw} {w : World} {K : PySem.W.Frag} {h : Heap} {mg : Str → Option Value} {fa C B L BC CT LE NCx BAx pM aR cc TV : Addr} {rest : List Value} {t1 t2 t3 tkd tkl : Tok} {nm_x q_x N_x bs_x bm_x sn_x sub_x ab_x col_x dd_x k0_x k1_x k2_x k3_x k5_x} {ddR odT : Option Addr} {itsR : Array Value} {nR2 nT : Nat} {slR slT : Array (Option Value)} {ocT clc : Value} {cldc : Option Addr} {cslc : Array (Option Value)} (X : K.In h) (G : h.Ns mainGlobals mg) (hfa : mg "law" = some (.ref fa))
    {fIW fAW fAD fFA fLI fPN fD fPK fWO fRO fAB fKI fRF fTK fSE fLW fIN fMA fCO fEQ fWT fME fKN fIA fTI fLIN fBTK fBDO fBNO fBIN fBVI : Addr} {odIW anIW odAW anAW odAD anAD odFA anFA odLI anLI odPN anPN odD anD odPK anPK odWO anWO odRO anRO odAB anAB odKI anKI odRF anRF odTK anTK odSE anSE odLW anLW odIN anIN odMA anMA odCO anCO odEQ anEQ odWT anWT odME anME odKN anKN odIA anIA odTI anTI odLIN anLIN odBTK anBTK odBDO anBDO odBNO anBNO odBIN anBIN odBVI anBVI : Option Addr} {slIW slAW slAD slFA slLI slPN slD slPK slWO slRO slAB slKI slRF slTK slSE slLW slIN slMA slCO slEQ slWT slME slKN slIA slTI slLIN slBTK slBDO slBNO slBIN slBVI : Array (Option Value)} {ocIW kVIW dcIW pmIW ctIW ocAW kVAW dcAW pmAW ctAW ocAD kVAD dcAD pmAD ctAD ocFA kVFA dcFA pmFA ctFA ocLI kVLI dcLI pmLI ctLI ocPN kVPN dcPN pmPN ctPN ocD kVD dcD pmD ctD ocPK kVPK dcPK pmPK ctPK ocWO kVWO dcWO pmWO ctWO ocRO kVRO dcRO pmRO ctRO ocAB kVAB dcAB pmAB ctAB ocKI kVKI dcKI pmKI ctKI ocRF kVRF dcRF pmRF ctRF ocTK kVTK dcTK pmTK ctTK ocSE kVSE dcSE pmSE ctSE ocLW kVLW dcLW pmLW ctLW ocIN kVIN dcIN pmIN ctIN ocMA kVMA dcMA pmMA ctMA ocCO kVCO dcCO pmCO ctCO ocEQ kVEQ dcEQ pmEQ ctEQ ocWT kVWT dcWT pmWT ctWT ocME kVME dcME pmME ctME ocKN kVKN dcKN pmKN ctKN ocIA kVIA dcIA pmIA ctIA ocTI kVTI dcTI pmTI ctTI ocLIN kVLIN dcLIN pmLIN ctLIN ocBTK kVBTK dcBTK pmBTK ctBTK ocBDO kVBDO dcBDO pmBDO ctBDO ocBNO kVBNO dcBNO pmBNO ctBNO ocBIN kVBIN dcBIN pmBIN ctBIN ocBVI kVBVI dcBVI pmBVI ctBVI cdIW cdAW cdAD cdFA cdLI cdPN cdD cdPK cdWO cdRO cdAB cdKI cdRF cdTK cdSE cdLW cdIN cdMA cdCO cdEQ cdWT cdME cdKN cdIA cdTI cdLIN cdBTK cdBDO cdBNO cdBVI : Value}
    {cdaBIN : Addr} {cclBIN : Value} {cddBIN : Option Addr} {vsBIN : Array Value} {ccsBIN : Array (Option Value)} {fileBIN : Str} {tfBIN : Tok}
    (aIW : PySem.W.nsIn K mainGlobals "is_word" = some (some (.ref fIW)))
    (aAW : PySem.W.nsIn K mainGlobals "are_words" = some (some (.ref fAW)))
    (aAD : PySem.W.nsIn K mainGlobals "are_different" = some (some (.ref fAD)))
    (aFA : PySem.W.nsIn K mainGlobals "_fault" = some (some (.ref fFA)))
    (aLI : PySem.W.nsIn K mainGlobals "_line" = some (some (.ref fLI)))
    (aPN : PySem.W.nsIn K mainGlobals "_law_pen" = some (some (.ref fPN)))
    (aD : PySem.W.nsIn K mainGlobals "_law_draw" = some (some (.ref fD)))
    (aPK : PySem.W.nsIn K mainGlobals "_law_pick" = some (some (.ref fPK)))
    (aWO : PySem.W.nsIn K mainGlobals "_law_words" = some (some (.ref fWO)))
    (aRO : PySem.W.nsIn K mainGlobals "_law_rows" = some (some (.ref fRO)))
    (aAB : PySem.W.nsIn K mainGlobals "_law_above" = some (some (.ref fAB)))
    (aKI : PySem.W.nsIn K mainGlobals "_law_kinds" = some (some (.ref fKI)))
    (aRF : PySem.W.nsIn K mainGlobals "_law_refused" = some (some (.ref fRF)))
    (aTK : PySem.W.nsIn K mainGlobals "_law_taken" = some (some (.ref fTK)))
    (aSE : PySem.W.nsIn K mainGlobals "_law_seen" = some (some (.ref fSE)))
    (aLW : PySem.W.nsIn K mainGlobals "law" = some (some (.ref fLW)))
    (lIW : K.lookup fIW = some ⟨ocIW, odIW, .func (PySem.W.fnOf "is_word" "is_word" (defArgs sIsW) (defBody sIsW) (defScope sIsW) .none kVIW dcIW pmIW anIW cdIW ctIW), slIW⟩) (cIW : PySem.W.codeIn K cdIW "is_word" = true) (kIW : PySem.W.keepIn K (.ref fIW) = true)
    (lAW : K.lookup fAW = some ⟨ocAW, odAW, .func (PySem.W.fnOf "are_words" "are_words" (defArgs sAreW) (defBody sAreW) (defScope sAreW) .none kVAW dcAW pmAW anAW cdAW ctAW), slAW⟩) (cAW : PySem.W.codeIn K cdAW "are_words" = true) (kAW : PySem.W.keepIn K (.ref fAW) = true)
    (lAD : K.lookup fAD = some ⟨ocAD, odAD, .func (PySem.W.fnOf "are_different" "are_different" (defArgs sAreD) (defBody sAreD) (defScope sAreD) .none kVAD dcAD pmAD anAD cdAD ctAD), slAD⟩) (cAD : PySem.W.codeIn K cdAD "are_different" = true) (kAD : PySem.W.keepIn K (.ref fAD) = true)
    (lFA : K.lookup fFA = some ⟨ocFA, odFA, .func (PySem.W.fnOf "_fault" "_fault" (defArgs sFault) (defBody sFault) (defScope sFault) .none kVFA dcFA pmFA anFA cdFA ctFA), slFA⟩) (cFA : PySem.W.codeIn K cdFA "_fault" = true) (kFA : PySem.W.keepIn K (.ref fFA) = true)
    (lLI : K.lookup fLI = some ⟨ocLI, odLI, .func (PySem.W.fnOf "_line" "_line" (defArgs sLine) (defBody sLine) (defScope sLine) .none kVLI dcLI pmLI anLI cdLI ctLI), slLI⟩) (cLI : PySem.W.codeIn K cdLI "_line" = true) (kLI : PySem.W.keepIn K (.ref fLI) = true)
    (lPN : K.lookup fPN = some ⟨ocPN, odPN, .func (PySem.W.fnOf "_law_pen" "_law_pen" (defArgs sPen) (defBody sPen) (defScope sPen) .none kVPN dcPN pmPN anPN cdPN ctPN), slPN⟩) (cPN : PySem.W.codeIn K cdPN "_law_pen" = true) (kPN : PySem.W.keepIn K (.ref fPN) = true)
    (lD : K.lookup fD = some ⟨ocD, odD, .func (PySem.W.fnOf "_law_draw" "_law_draw" (defArgs sDraw) (defBody sDraw) (defScope sDraw) .none kVD dcD pmD anD cdD ctD), slD⟩) (cD : PySem.W.codeIn K cdD "_law_draw" = true) (kD : PySem.W.keepIn K (.ref fD) = true)
    (lPK : K.lookup fPK = some ⟨ocPK, odPK, .func (PySem.W.fnOf "_law_pick" "_law_pick" (defArgs sPick) (defBody sPick) (defScope sPick) .none kVPK dcPK pmPK anPK cdPK ctPK), slPK⟩) (cPK : PySem.W.codeIn K cdPK "_law_pick" = true) (kPK : PySem.W.keepIn K (.ref fPK) = true)
    (lWO : K.lookup fWO = some ⟨ocWO, odWO, .func (PySem.W.fnOf "_law_words" "_law_words" (defArgs sWords) (defBody sWords) (defScope sWords) .none kVWO dcWO pmWO anWO cdWO ctWO), slWO⟩) (cWO : PySem.W.codeIn K cdWO "_law_words" = true) (kWO : PySem.W.keepIn K (.ref fWO) = true)
    (lRO : K.lookup fRO = some ⟨ocRO, odRO, .func (PySem.W.fnOf "_law_rows" "_law_rows" (defArgs sRo) (defBody sRo) (defScope sRo) .none kVRO dcRO pmRO anRO cdRO ctRO), slRO⟩) (cRO : PySem.W.codeIn K cdRO "_law_rows" = true) (kRO : PySem.W.keepIn K (.ref fRO) = true)
    (lAB : K.lookup fAB = some ⟨ocAB, odAB, .func (PySem.W.fnOf "_law_above" "_law_above" (defArgs sAb) (defBody sAb) (defScope sAb) .none kVAB dcAB pmAB anAB cdAB ctAB), slAB⟩) (cAB : PySem.W.codeIn K cdAB "_law_above" = true) (kAB : PySem.W.keepIn K (.ref fAB) = true)
    (lKI : K.lookup fKI = some ⟨ocKI, odKI, .func (PySem.W.fnOf "_law_kinds" "_law_kinds" (defArgs sKi) (defBody sKi) (defScope sKi) .none kVKI dcKI pmKI anKI cdKI ctKI), slKI⟩) (cKI : PySem.W.codeIn K cdKI "_law_kinds" = true) (kKI : PySem.W.keepIn K (.ref fKI) = true)
    (lRF : K.lookup fRF = some ⟨ocRF, odRF, .func (PySem.W.fnOf "_law_refused" "_law_refused" (defArgs sRf) (defBody sRf) (defScope sRf) .none kVRF dcRF pmRF anRF cdRF ctRF), slRF⟩) (cRF : PySem.W.codeIn K cdRF "_law_refused" = true) (kRF : PySem.W.keepIn K (.ref fRF) = true)
    (lTK : K.lookup fTK = some ⟨ocTK, odTK, .func (PySem.W.fnOf "_law_taken" "_law_taken" (defArgs sTk) (defBody sTk) (defScope sTk) .none kVTK dcTK pmTK anTK cdTK ctTK), slTK⟩) (cTK : PySem.W.codeIn K cdTK "_law_taken" = true) (kTK : PySem.W.keepIn K (.ref fTK) = true)
    (lSE : K.lookup fSE = some ⟨ocSE, odSE, .func (PySem.W.fnOf "_law_seen" "_law_seen" (defArgs sSe) (defBody sSe) (defScope sSe) .none kVSE dcSE pmSE anSE cdSE ctSE), slSE⟩) (cSE : PySem.W.codeIn K cdSE "_law_seen" = true) (kSE : PySem.W.keepIn K (.ref fSE) = true)
    (lLW : K.lookup fLW = some ⟨ocLW, odLW, .func (PySem.W.fnOf "law" "law" (defArgs sLaw) (defBody sLaw) (defScope sLaw) .none kVLW dcLW pmLW anLW cdLW ctLW), slLW⟩) (cLW : PySem.W.codeIn K cdLW "law" = true) (kLW : PySem.W.keepIn K (.ref fLW) = true)
    (lIN : K.lookup fIN = some ⟨ocIN, odIN, .func (PySem.W.fnOf "__init__" "Classes.__init__" (defArgs sInit) (defBody sInit) (defScope sInit) .none kVIN dcIN pmIN anIN cdIN ctIN), slIN⟩) (cIN : PySem.W.codeIn K cdIN "Classes.__init__" = true) (kIN : PySem.W.keepIn K (.ref fIN) = true)
    (lMA : K.lookup fMA = some ⟨ocMA, odMA, .func (PySem.W.fnOf "made" "Classes.made" (defArgs sMade) (defBody sMade) (defScope sMade) .none kVMA dcMA pmMA anMA cdMA ctMA), slMA⟩) (cMA : PySem.W.codeIn K cdMA "Classes.made" = true) (kMA : PySem.W.keepIn K (.ref fMA) = true)
    (lCO : K.lookup fCO = some ⟨ocCO, odCO, .func (PySem.W.fnOf "__contains__" "Classes.__contains__" (defArgs sCo) (defBody sCo) (defScope sCo) .none kVCO dcCO pmCO anCO cdCO ctCO), slCO⟩) (cCO : PySem.W.codeIn K cdCO "Classes.__contains__" = true) (kCO : PySem.W.keepIn K (.ref fCO) = true)
    (lEQ : K.lookup fEQ = some ⟨ocEQ, odEQ, .func (PySem.W.fnOf "__eq__" "Classes.__eq__" (defArgs sEq) (defBody sEq) (defScope sEq) .none kVEQ dcEQ pmEQ anEQ cdEQ ctEQ), slEQ⟩) (cEQ : PySem.W.codeIn K cdEQ "Classes.__eq__" = true) (kEQ : PySem.W.keepIn K (.ref fEQ) = true)
    (lWT : K.lookup fWT = some ⟨ocWT, odWT, .func (PySem.W.fnOf "within" "Classes.within" (defArgs sWithin) (defBody sWithin) (defScope sWithin) .none kVWT dcWT pmWT anWT cdWT ctWT), slWT⟩) (cWT : PySem.W.codeIn K cdWT "Classes.within" = true) (kWT : PySem.W.keepIn K (.ref fWT) = true)
    (lME : K.lookup fME = some ⟨ocME, odME, .func (PySem.W.fnOf "meets" "Classes.meets" (defArgs sMeets) (defBody sMeets) (defScope sMeets) .none kVME dcME pmME anME cdME ctME), slME⟩) (cME : PySem.W.codeIn K cdME "Classes.meets" = true) (kME : PySem.W.keepIn K (.ref fME) = true)
    (lKN : K.lookup fKN = some ⟨ocKN, odKN, .func (PySem.W.fnOf "kinds" "Classes.kinds" (defArgs sKinds) (defBody sKinds) (defScope sKinds) .none kVKN dcKN pmKN anKN cdKN ctKN), slKN⟩) (cKN : PySem.W.codeIn K cdKN "Classes.kinds" = true) (kKN : PySem.W.keepIn K (.ref fKN) = true)
    (lIA : K.lookup fIA = some ⟨ocIA, odIA, .func (PySem.W.fnOf "_is_apart" "Classes._is_apart" (defArgs sIA) (defBody sIA) (defScope sIA) .none kVIA dcIA pmIA anIA cdIA ctIA), slIA⟩) (cIA : PySem.W.codeIn K cdIA "Classes._is_apart" = true) (kIA : PySem.W.keepIn K (.ref fIA) = true)
    (lTI : K.lookup fTI = some ⟨ocTI, odTI, .func (PySem.W.fnOf "__init__" "TooMany.__init__" (defArgs sTMI) (defBody sTMI) (defScope sTMI) .none kVTI dcTI pmTI anTI cdTI ctTI), slTI⟩) (cTI : PySem.W.codeIn K cdTI "TooMany.__init__" = true) (kTI : PySem.W.keepIn K (.ref fTI) = true)
    (lLIN : K.lookup fLIN = some ⟨ocLIN, odLIN, .func (PySem.W.fnOf "__init__" "Level.__init__" (defArgs sLI) (defBody sLI) (defScope sLI) .none kVLIN dcLIN pmLIN anLIN cdLIN ctLIN), slLIN⟩) (cLIN : PySem.W.codeIn K cdLIN "Level.__init__" = true) (kLIN : PySem.W.keepIn K (.ref fLIN) = true)
    (lBTK : K.lookup fBTK = some ⟨ocBTK, odBTK, .func (PySem.W.fnOf "taken" "ByKind.taken" (defArgs sKT) (defBody sKT) (defScope sKT) .none kVBTK dcBTK pmBTK anBTK cdBTK ctBTK), slBTK⟩) (cBTK : PySem.W.codeIn K cdBTK "ByKind.taken" = true) (kBTK : PySem.W.keepIn K (.ref fBTK) = true)
    (lBDO : K.lookup fBDO = some ⟨ocBDO, odBDO, .func (PySem.W.fnOf "does" "ByKind.does" (defArgs sKD) (defBody sKD) (defScope sKD) .none kVBDO dcBDO pmBDO anBDO cdBDO ctBDO), slBDO⟩) (cBDO : PySem.W.codeIn K cdBDO "ByKind.does" = true) (kBDO : PySem.W.keepIn K (.ref fBDO) = true)
    (lBNO : K.lookup fBNO = some ⟨ocBNO, odBNO, .func (PySem.W.fnOf "name_of" "ByKind.name_of" (defArgs sKN) (defBody sKN) (defScope sKN) .none kVBNO dcBNO pmBNO anBNO cdBNO ctBNO), slBNO⟩) (cBNO : PySem.W.codeIn K cdBNO "ByKind.name_of" = true) (kBNO : PySem.W.keepIn K (.ref fBNO) = true)
    (aC : PySem.W.nsIn K mainGlobals "Classes" = some (some (.ref C)))
    (aB : PySem.W.nsIn K mainGlobals "ByKind" = some (some (.ref B)))
    (aBC : PySem.W.nsIn K mainGlobals "ByClass" = some (some (.ref BC)))
    (aCT : PySem.W.nsIn K mainGlobals "TooMany" = some (some (.ref CT)))
    (aLE : PySem.W.nsIn K mainGlobals "LeaveError" = some (some (.ref LE)))
    (aNC : PySem.W.nsIn K mainGlobals "NoClass" = some (some (.ref NCx)))
    (aBA : PySem.W.nsIn K mainGlobals "Barred" = some (some (.ref BAx)))
    (aL : PySem.W.nsIn K mainGlobals "Level" = some (some (.ref L)))
    (aIN : PySem.W.findIn K (.ref C) "__init__" = some (some (.ref fIN)))
    (iIN : PySem.W.isFn K (.ref fIN) = true)
    (aCO : PySem.W.findIn K (.ref C) "__contains__" = some (some (.ref fCO)))
    (iCO : PySem.W.isFn K (.ref fCO) = true)
    (aEQ : PySem.W.findIn K (.ref C) "__eq__" = some (some (.ref fEQ)))
    (iEQ : PySem.W.isFn K (.ref fEQ) = true)
    (aWT : PySem.W.findIn K (.ref C) "within" = some (some (.ref fWT)))
    (iWT : PySem.W.isFn K (.ref fWT) = true)
    (aME : PySem.W.findIn K (.ref C) "meets" = some (some (.ref fME)))
    (iME : PySem.W.isFn K (.ref fME) = true)
    (aKN : PySem.W.findIn K (.ref C) "kinds" = some (some (.ref fKN)))
    (iKN : PySem.W.isFn K (.ref fKN) = true)
    (aIA : PySem.W.findIn K (.ref C) "_is_apart" = some (some (.ref fIA)))
    (iIA : PySem.W.isFn K (.ref fIA) = true)
    (aTI : PySem.W.findIn K (.ref CT) "__init__" = some (some (.ref fTI)))
    (iTI : PySem.W.isFn K (.ref fTI) = true)
    (aLIN : PySem.W.findIn K (.ref L) "__init__" = some (some (.ref fLIN)))
    (iLIN : PySem.W.isFn K (.ref fLIN) = true)
    (aBTK : PySem.W.findIn K (.ref B) "taken" = some (some (.ref fBTK)))
    (iBTK : PySem.W.isFn K (.ref fBTK) = true)
    (aBDO : PySem.W.findIn K (.ref B) "does" = some (some (.ref fBDO)))
    (iBDO : PySem.W.isFn K (.ref fBDO) = true)
    (aBNO : PySem.W.findIn K (.ref B) "name_of" = some (some (.ref fBNO)))
    (iBNO : PySem.W.isFn K (.ref fBNO) = true)
    (aBIN : PySem.W.findIn K (.ref B) "__init__" = some (some (.ref fBIN)))
    (iBIN : PySem.W.isFn K (.ref fBIN) = true)
    (aBVI : PySem.W.findIn K (.ref B) "view" = some (some (.ref fBVI)))
    (iBVI : PySem.W.isFn K (.ref fBVI) = true)
    (lBIN : K.lookup fBIN = some ⟨ocBIN, odBIN, .func (PySem.W.fnX "__init__" "ByKind.__init__" (defArgs sKI) (defBody sKI) (defScope sKI) [("__class__", cc)] .none kVBIN dcBIN pmBIN anBIN (.ref cdaBIN) ctBIN), slBIN⟩)
    (cBIN : PySem.W.codeIn K (.ref cdaBIN) "ByKind.__init__" = true)
    (kBIN : PySem.W.keepIn K (.ref fBIN) = true)
    (qBIN : K.lookup cdaBIN = some ⟨cclBIN, cddBIN, .fields vsBIN, ccsBIN⟩)
    (vBIN : vsBIN[2]? = some (.str fileBIN tfBIN))
    (eBIN : ((l.prog.main.file : Str) == fileBIN) = true)
    (sBIN : PySem.W.ks_superIn K B B "__init__" = some (some (.ref fLIN)))
    (tBIN : PySem.W.typeIn K (.ref fLIN) = some (.type "function"))
    (nBIN : PySem.W.fnIn K fLIN = true)
    (lcc : K.lookup cc = some ⟨clc, cldc, .cell (some (.ref B)), cslc⟩)
    (isB : PySem.W.isClsIn K B = true)
    (mBB : PySem.W.mroIn K B (.ref B) = some true)
    (opq : PySem.W.nsIn K PySem.cStatics "thirdparty.any" = some none)
    (bSu : PySem.W.nsIn K mainGlobals "super" = some none)
    (top0 : (l.prog.main.scope.names.lookup ("super" : Str)).isSome = false)
    (lBVI : K.lookup fBVI = some ⟨ocBVI, odBVI, .func (PySem.W.fnOf "view" "ByKind.view" (defArgs sKV) (defBody sKV) (defScope sKV) (.ref TV) kVBVI dcBVI pmBVI anBVI cdBVI ctBVI), slBVI⟩)
    (cBVI : PySem.W.codeIn K cdBVI "ByKind.view" = true)
    (kBVI : PySem.W.keepIn K (.ref fBVI) = true)
    (lTV : K.lookup TV = some ⟨ocT, odT, .seq #[.none] nT, slT⟩)
    (nE : PySem.W.findIn K (.ref C) "__ne__" = some (some (.builtin "object.__ne__")))
    (haC : PySem.W.findIn K (.ref C) "__class__" = some (some (.builtin "object.__class__")))
    (hmoC : PySem.W.mroIn K C (.type "object") = some true)
    (pgC : PySem.W.plainGet K C Str.empty = true)
    (hdC : PySem.W.hasDictIn K C = true)
    (poC : PySem.W.plainOver K C = true)
    (saC : PySem.W.findIn K (.ref C) "__setattr__" = some (some (.builtin "object.__setattr__")))
    (mkC : PySem.W.makesIn K C = true)
    (kcC : PySem.W.keepIn K (.ref C) = true)
    (rdC : PySem.W.readsIn K C (.type "type") = true)
    (gaC : PySem.W.specialIn K (.ref C) "__getattribute__" = some (some (.builtin "type.__getattribute__")))
    (haB : PySem.W.findIn K (.ref B) "__class__" = some (some (.builtin "object.__class__")))
    (hmoB : PySem.W.mroIn K B (.type "object") = some true)
    (pgB : PySem.W.plainGet K B Str.empty = true)
    (hdB : PySem.W.hasDictIn K B = true)
    (poB : PySem.W.plainOver K B = true)
    (saB : PySem.W.findIn K (.ref B) "__setattr__" = some (some (.builtin "object.__setattr__")))
    (mkB : PySem.W.makesIn K B = true)
    (kcB : PySem.W.keepIn K (.ref B) = true)
    (rdB : PySem.W.readsIn K B (.type "type") = true)
    (gaB : PySem.W.specialIn K (.ref B) "__getattribute__" = some (some (.builtin "type.__getattribute__")))
    (hn : PySem.W.specialIn K (.builtin "object.__class__") "__get__" = some (some (.builtin "getset_descriptor.__get__")))
    (htk : PySem.W.takesIn K (.builtin "object.__class__") = some true)
    (isL : PySem.W.isClsIn K L = true)
    (tyL : PySem.W.typeIn K (.ref L) = some (.type "type"))
    (suB : PySem.W.subIn K (.ref B) (.ref L) = some true)
    (nR : PySem.W.findIn K (.ref C) "rows" = some none)
    (nN : PySem.W.findIn K (.ref C) "names" = some none)
    (nL : PySem.W.findIn K (.ref C) "_lines" = some none)
    (nCl : PySem.W.findIn K (.ref B) "classes" = some none)
    (nMo : PySem.W.findIn K (.ref B) "_everything" = some none)
    (kd : PySem.W.findIn K (.ref B) "KIND" = some (some (.str "kind" tkd)))
    (kdg : PySem.W.specialIn K (.str "kind" tkd) "__get__" = some none)
    (rdL : PySem.W.readsIn K L (.type "type") = true)
    (gaL : PySem.W.specialIn K (.ref L) "__getattribute__" = some (some (.builtin "type.__getattribute__")))
    (kdl : PySem.W.findCls K (.ref L) (.type "type") "KIND" = some (.val (.str "class" tkl)))
    (kdc : PySem.W.findCls K (.ref B) (.type "type") "KIND" = some (.val (.str "kind" tkd)))
    (cm : PySem.W.findCls K (.ref C) (.type "type") "made" = some (.get (.builtin "classmethod.__get__") (.ref pM) .none (.ref C)))
    (rc : PySem.W.recIn K pM "classmethod" = some (.ref fMA :: rest))
    (fi : PySem.W.fnIn K fMA = true)
    (zL : PySem.W.nsIn K mainGlobals "LONGEST" = some (some (.int 8 t1)))
    (zM : PySem.W.nsIn K mainGlobals "MOST_ROWS" = some (some (.int 30 t2)))
    (zR : PySem.W.nsIn K mainGlobals "RESERVED" = some (some (.ref aR)))
    (lR : K.lookup aR = some ⟨.type "tuple", ddR, .seq itsR nR2, slR⟩)
    (vR : chkS resd itsR.toList = true)
    (szR : itsR.size ≤ sizeLine)
    (oK_x : K.lookup CT = some (excClassObj nm_x q_x CT N_x bs_x bm_x true sn_x sub_x ab_x col_x dd_x k0_x k1_x k2_x k3_x k5_x "ValueError.__new__"))
    (oR_x : PySem.HandSPX.refsVE bm_x = true)
    (x_sa : PySem.W.findIn K (.ref CT) "__setattr__" = some (some (.builtin "object.__setattr__")))
    (x_be : PySem.W.subIn K (.ref CT) (.type "BaseException") = some true)
    (x_ty : PySem.W.typeIn K (.ref CT) = some (.type "type"))
    (x_kp : PySem.W.keepIn K (.ref CT) = true)
    (tTI : PySem.W.typeIn K (.ref fTI) = some (.type "function"))
    (x_wh : PySem.W.findIn K (.ref CT) "what" = some none)
    (x_mo : PySem.W.findIn K (.ref CT) "most" = some none)
    (x_ga : PySem.W.findIn K (.ref CT) "__getattribute__" = some (some (.builtin "BaseException.__getattribute__")))
    (x_gg : PySem.W.findIn K (.ref CT) "__getattr__" = some none)
    (x_hd : PySem.W.hasDictIn K CT = true)
    (x_cl : PySem.W.findIn K (.ref CT) "__class__" = some (some (.builtin "object.__class__")))
    (x_ob : PySem.W.mroIn K CT (.type "object") = some true)
    (y_be : PySem.W.subIn K (.ref LE) (.type "BaseException") = some true)
    (y_hd : PySem.W.hasDictIn K LE = true)
    (y_ty : PySem.W.typeIn K (.ref LE) = some (.type "type"))
    (y_su : PySem.W.subIn K (.ref CT) (.ref LE) = some true)
    (x_ve : PySem.W.subIn K (.ref CT) (.type "ValueError") = some true)
    (n1 : (CT == NCx) = false) (ic1 : PySem.W.isClsIn K NCx = true) (ty1 : PySem.W.typeIn K (.ref NCx) = some (.type "type")) (su1 : PySem.W.subIn K (.ref CT) (.ref NCx) = some false)
    (n2 : (CT == BAx) = false) (ic2 : PySem.W.isClsIn K BAx = true) (ty2 : PySem.W.typeIn K (.ref BAx) = some (.type "type")) (su2 : PySem.W.subIn K (.ref CT) (.ref BAx) = some false)
    (n3 : (B == BC) = false) (ic3 : PySem.W.isClsIn K BC = true) (ty3 : PySem.W.typeIn K (.ref BC) = some (.type "type")) (su3 : PySem.W.subIn K (.ref B) (.ref BC) = some false)
    (z6 : PySem.W.nsIn K mainGlobals "MOST_FOR_KINDS" = some (some (.int 6 t3)))
    (b_len : PySem.W.nsIn K mainGlobals "len" = some none)
    (b_int : PySem.W.nsIn K mainGlobals "int" = some none)
    (b_abs : PySem.W.nsIn K mainGlobals "abs" = some none)
    (b_range : PySem.W.nsIn K mainGlobals "range" = some none)
    (b_list : PySem.W.nsIn K mainGlobals "list" = some none)
    (b_tuple : PySem.W.nsIn K mainGlobals "tuple" = some none)
    (b_enumerate : PySem.W.nsIn K mainGlobals "enumerate" = some none)
    (b_isinstance : PySem.W.nsIn K mainGlobals "isinstance" = some none)
    (b_str : PySem.W.nsIn K mainGlobals "str" = some none)
    (b_set : PySem.W.nsIn K mainGlobals "set" = some none)
    (b_all : PySem.W.nsIn K mainGlobals "all" = some none)
    (b_repr : PySem.W.nsIn K mainGlobals "repr" = some none)
    (b_any : PySem.W.nsIn K mainGlobals "any" = some none)
    (b_sorted : PySem.W.nsIn K mainGlobals "sorted" = some none)
    (b_ValueError : PySem.W.nsIn K mainGlobals "ValueError" = some none)
    : ∃ fd : FuncData, (∀ (z : Shared) (u : Value), BindsTo z fd ⟨[u], []⟩ [("_law_script", u)]) ∧ ∀ base : Heap, K.In base → base.Ns mainGlobals mg → FnG l.prog w K mg base 8 fa fd ["_law_script"] (spLaw K) := by
  have e := hfa.symm.trans (PySem.W.mg_of X G aLW)
  cases e
  have T : Bi mg := ⟨PySem.W.mg_none_of X G b_len, PySem.W.mg_none_of X G b_int, PySem.W.mg_none_of X G b_abs, PySem.W.mg_none_of X G b_range, PySem.W.mg_none_of X G b_list, PySem.W.mg_none_of X G b_tuple, PySem.W.mg_none_of X G b_enumerate, PySem.W.mg_none_of X G b_isinstance, PySem.W.mg_none_of X G b_str, PySem.W.mg_none_of X G b_set, PySem.W.mg_none_of X G b_all, PySem.W.mg_none_of X G b_repr⟩
  have GB : Gb K mg aR t1 t2 := ⟨PySem.W.mg_of X G zL, PySem.W.mg_of X G zM, PySem.W.mg_of X G zR, fun H => .inr ⟨_, itsR, nR2, lR, rfl, rfl, szR, chk_vals vR⟩⟩
  have YC : Txt K mg C := ⟨⟨pgC, hdC, poC, saC⟩, nR, nN, nL, PySem.W.mg_of X G aC⟩
  have Y : LTxt K B := ⟨⟨pgB, hdB, poB, saB⟩, nCl, nMo⟩
  have FIW := fun_mk (st := sIsW) lIW cIW kIW
  have FAW := fun_mk (st := sAreW) lAW cAW kAW
  have FAD := fun_mk (st := sAreD) lAD cAD kAD
  have FFA := fun_mk (st := sFault) lFA cFA kFA
  have FLI := fun_mk (st := sLine) lLI cLI kLI
  have FPN := fun_mk (st := sPen) lPN cPN kPN
  have FD := fun_mk (st := sDraw) lD cD kD
  have FPK := fun_mk (st := sPick) lPK cPK kPK
  have FWO := fun_mk (st := sWords) lWO cWO kWO
  have FRO := fun_mk (st := sRo) lRO cRO kRO
  have FAB := fun_mk (st := sAb) lAB cAB kAB
  have FKI := fun_mk (st := sKi) lKI cKI kKI
  have FRF := fun_mk (st := sRf) lRF cRF kRF
  have FTK := fun_mk (st := sTk) lTK cTK kTK
  have FSE := fun_mk (st := sSe) lSE cSE kSE
  have FLW := fun_mk (st := sLaw) lLW cLW kLW
  have FIN := fun_mk (st := sInit) lIN cIN kIN
  have FMA := fun_mk (st := sMade) lMA cMA kMA
  have FCO := fun_mk (st := sCo) lCO cCO kCO
  have FEQ := fun_mk (st := sEq) lEQ cEQ kEQ
  have FWT := fun_mk (st := sWithin) lWT cWT kWT
  have FME := fun_mk (st := sMeets) lME cME kME
  have FKN := fun_mk (st := sKinds) lKN cKN kKN
  have FIA := fun_mk (st := sIA) lIA cIA kIA
  have FTI := fun_mk (st := sTMI) lTI cTI kTI
  have FLIN := fun_mk (st := sLI) lLIN cLIN kLIN
  have FBTK := fun_mk (st := sKT) lBTK cBTK kBTK
  have FBDO := fun_mk (st := sKD) lBDO cBDO kBDO
  have FBNO := fun_mk (st := sKN) lBNO cBNO kBNO
  have DIW : Df K mg "is_word" sIsW fIW _ (["x"] : List Str) := ⟨FIW, PySem.W.mg_of X G aIW, FIW.binds (ps := ["x"]) fun _ _ _ _ _ _ us hl => match us, hl with | [_], _ => rfl⟩
  have DAW : Df K mg "are_words" sAreW fAW _ (["xs"] : List Str) := ⟨FAW, PySem.W.mg_of X G aAW, FAW.binds (ps := ["xs"]) fun _ _ _ _ _ _ us hl => match us, hl with | [_], _ => rfl⟩
  have DAD : Df K mg "are_different" sAreD fAD _ (["words"] : List Str) := ⟨FAD, PySem.W.mg_of X G aAD, FAD.binds (ps := ["words"]) fun _ _ _ _ _ _ us hl => match us, hl with | [_], _ => rfl⟩
  have DFA : Df K mg "_fault" sFault fFA _ (["row", "k", "lines"] : List Str) := ⟨FFA, PySem.W.mg_of X G aFA, FFA.binds (ps := ["row", "k", "lines"]) fun _ _ _ _ _ _ us hl => match us, hl with | [_, _, _], _ => rfl⟩
  have DLI : Df K mg "_line" sLine fLI _ (["row", "lines"] : List Str) := ⟨FLI, PySem.W.mg_of X G aLI, FLI.binds (ps := ["row", "lines"]) fun _ _ _ _ _ _ us hl => match us, hl with | [_, _], _ => rfl⟩
  have DPN : Df K mg "_law_pen" sPen fPN _ (["_law_script"] : List Str) := ⟨FPN, PySem.W.mg_of X G aPN, FPN.binds (ps := ["_law_script"]) fun _ _ _ _ _ _ us hl => match us, hl with | [_], _ => rfl⟩
  have DD : Df K mg "_law_draw" sDraw fD _ (["_law_pen_here", "_law_many"] : List Str) := ⟨FD, PySem.W.mg_of X G aD, FD.binds (ps := ["_law_pen_here", "_law_many"]) fun _ _ _ _ _ _ us hl => match us, hl with | [_, _], _ => rfl⟩
  have DPK : Df K mg "_law_pick" sPick fPK _ (["_law_pen_here", "_law_some"] : List Str) := ⟨FPK, PySem.W.mg_of X G aPK, FPK.binds (ps := ["_law_pen_here", "_law_some"]) fun _ _ _ _ _ _ us hl => match us, hl with | [_, _], _ => rfl⟩
  have DWO : Df K mg "_law_words" sWords fWO _ (["_law_pen_here", "_law_many"] : List Str) := ⟨FWO, PySem.W.mg_of X G aWO, FWO.binds (ps := ["_law_pen_here", "_law_many"]) fun _ _ _ _ _ _ us hl => match us, hl with | [_, _], _ => rfl⟩
  have DRO : Df K mg "_law_rows" sRo fRO _ (["_law_pen_here", "_law_words_here"] : List Str) := ⟨FRO, PySem.W.mg_of X G aRO, FRO.binds (ps := ["_law_pen_here", "_law_words_here"]) fun _ _ _ _ _ _ us hl => match us, hl with | [_, _], _ => rfl⟩
  have DAB : Df K mg "_law_above" sAb fAB _ (["_law_rows_here"] : List Str) := ⟨FAB, PySem.W.mg_of X G aAB, FAB.binds (ps := ["_law_rows_here"]) fun _ _ _ _ _ _ us hl => match us, hl with | [_], _ => rfl⟩
  have DKI : Df K mg "_law_kinds" sKi fKI _ (["_law_above_here"] : List Str) := ⟨FKI, PySem.W.mg_of X G aKI, FKI.binds (ps := ["_law_above_here"]) fun _ _ _ _ _ _ us hl => match us, hl with | [_], _ => rfl⟩
  have DRF : Df K mg "_law_refused" sRf fRF _ (["_law_classes"] : List Str) := ⟨FRF, PySem.W.mg_of X G aRF, FRF.binds (ps := ["_law_classes"]) fun _ _ _ _ _ _ us hl => match us, hl with | [_], _ => rfl⟩
  have DTK : Df K mg "_law_taken" sTk fTK _ (["_law_above_here", "_law_kind", "_law_some"] : List Str) := ⟨FTK, PySem.W.mg_of X G aTK, FTK.binds (ps := ["_law_above_here", "_law_kind", "_law_some"]) fun _ _ _ _ _ _ us hl => match us, hl with | [_, _, _], _ => rfl⟩
  have DSE : Df K mg "_law_seen" sSe fSE _ (["_law_pen_here", "_law_level", "_law_above_here", "_law_kinds_here", "_law_words_here"] : List Str) := ⟨FSE, PySem.W.mg_of X G aSE, FSE.binds (ps := ["_law_pen_here", "_law_level", "_law_above_here", "_law_kinds_here", "_law_words_here"]) fun _ _ _ _ _ _ us hl => match us, hl with | [_, _, _, _, _], _ => rfl⟩
  have BMA := FMA.binds (ps := ["cls", "rows"]) fun _ _ _ _ _ _ us hl => match us, hl with | [_, _], _ => rfl
  have BCO := FCO.binds (ps := ["self", "x"]) fun _ _ _ _ _ _ us hl => match us, hl with | [_, _], _ => rfl
  have BEQ := FEQ.binds (ps := ["self", "other"]) fun _ _ _ _ _ _ us hl => match us, hl with | [_, _], _ => rfl
  have BWT := FWT.binds (ps := ["self", "one", "other"]) fun _ _ _ _ _ _ us hl => match us, hl with | [_, _, _], _ => rfl
  have BME := FME.binds (ps := ["self", "kind", "names"]) fun _ _ _ _ _ _ us hl => match us, hl with | [_, _, _], _ => rfl
  have BKN := FKN.binds (ps := ["self"]) fun _ _ _ _ _ _ us hl => match us, hl with | [_], _ => rfl
  have BIA := FIA.binds (ps := ["self", "name", "part"]) fun _ _ _ _ _ _ us hl => match us, hl with | [_, _, _], _ => rfl
  have BTI := FTI.binds (ps := ["self", "what", "most"]) fun _ _ _ _ _ _ us hl => match us, hl with | [_, _, _], _ => rfl
  have BLIN := FLIN.binds (ps := ["self", "classes"]) fun _ _ _ _ _ _ us hl => match us, hl with | [_, _], _ => rfl
  have BBTK := FBTK.binds (ps := ["self", "view", "names"]) fun _ _ _ _ _ _ us hl => match us, hl with | [_, _, _], _ => rfl
  have BBDO := FBDO.binds (ps := ["self", "callback", "handled"]) fun _ _ _ _ _ _ us hl => match us, hl with | [_, _, _], _ => rfl
  have BBNO := FBNO.binds (ps := ["self", "view"]) fun _ _ _ _ _ _ us hl => match us, hl with | [_, _], _ => rfl
  have FBIN : SFun l.prog K B cc "__init__" "ByKind.__init__" sKI fBIN (PySem.W.fnX "__init__" "ByKind.__init__" (defArgs sKI) (defBody sKI) (defScope sKI) [("__class__", cc)] .none kVBIN dcBIN pmBIN anBIN (.ref cdaBIN) ctBIN) := ⟨⟨_, _, _, _, _, _, cdaBIN, _, _, rfl, lBIN, cBIN, _, _, vsBIN, _, fileBIN, tfBIN, qBIN, vBIN, eBIN⟩, ⟨_, _, _, lcc⟩, isB, kBIN⟩
  have MBIN : SMeth K B B "__init__" fLIN := ⟨mBB, opq, sBIN, tBIN, nBIN⟩
  have BBIN : Binds K (PySem.W.fnX "__init__" "ByKind.__init__" (defArgs sKI) (defBody sKI) (defScope sKI) [("__class__", cc)] .none kVBIN dcBIN pmBIN anBIN (.ref cdaBIN) ctBIN) (["self", "classes"] : List Str) [] := .all fun us hl => match us, hl with | [_, _], _ => rfl
  have FBV : FunD K "view" "ByKind.view" (defArgs sKV) (defBody sKV) (defScope sKV) [V.non] [] fBVI _ := ⟨⟨_, _, _, _, _, _, _, _, _, _, rfl, lBVI, cBVI, .inr ⟨by simp, TV, _, [.none], nT, rfl, lTV, rfl, .cons rfl .nil⟩, .inl rfl⟩, kBVI⟩
  obtain ⟨ds1, dV1, bV1⟩ := FBV.binds1 (ps := ["self", "name", "cause"]) 2 0 (by simp) rfl fun T kV doc pm an cdv ct us its h1 h2 => match us, its, h1, h2 with | [_, _], [_], _, _ => ⟨_, rfl, rfl⟩
  obtain ⟨ds2, dV2, bV2⟩ := FBV.binds1 (ps := ["self", "name", "cause"]) 3 1 (by simp) rfl fun T kV doc pm an cdv ct us its h1 h2 => match us, its, h1, h2 with | [_, _, _], [_], _, _ => ⟨_, rfl, rfl⟩
  obtain rfl : ds2 = [] := by cases dV2; rfl
  have tAny := PySem.W.mg_none_of X G b_any
  have mS := PySem.W.mg_none_of X G bSu
  have OC : Own K C := ⟨haC, hn, htk, hmoC⟩
  have OB : Own K B := ⟨haB, hn, htk, hmoB⟩
  have mWT : Meth K C "within" fWT := ⟨aWT, iWT, kWT⟩
  have mME : Meth K C "meets" fME := ⟨aME, iME, kME⟩
  have mVI : Meth K B "view" fBVI := ⟨aBVI, iBVI, kBVI⟩
  have mNO : Meth K B "name_of" fBNO := ⟨aBNO, iBNO, kBNO⟩
  have mTK : Meth K B "taken" fBTK := ⟨aBTK, iBTK, kBTK⟩
  have mDO : Meth K B "does" fBDO := ⟨aBDO, iBDO, kBDO⟩
  have M : Mk K C fIN := ⟨mkC, aIN, iIN, kcC⟩
  have MB : Mk K B fBIN := ⟨mkB, aBIN, iBIN, kcB⟩
  refine ⟨_, fun z u => .of_eq (fd := (PySem.W.fnOf "law" "law" (defArgs sLaw) (defBody sLaw) (defScope sLaw) .none kVLW dcLW pmLW anLW cdLW ctLW)) rfl, fun base _ _ => ?_⟩
  have tSo := PySem.W.mg_none_of X G b_sorted
  have tVE := PySem.W.mg_none_of X G b_ValueError
  have mKN : Meth K C "kinds" fKN := ⟨aKN, iKN, kKN⟩
  have mIA : Meth K C "_is_apart" fIA := ⟨aIA, iIA, kIA⟩
  have TMx : TM K mg CT fTI := ⟨⟨⟨_, _, _, _, _, _, _, _, _, _, _, _, _, _, _, oK_x, oR_x⟩, x_sa, x_be, x_ty, x_kp⟩, x_wh, x_mo, aTI, tTI, PySem.W.mg_of X G aCT⟩
  have TMn : TMany K CT LE NCx BAx := ⟨PySem.W.exm_ref y_be y_hd y_ty y_su, ⟨x_ga, x_gg, x_be, x_hd, x_cl, hn, htk, x_ob⟩, ⟨x_ga, x_gg, x_be, x_hd⟩, x_wh, x_mo, kit_same, any_no (kit_ref n1 ic1 ty1 su1) (any_no (kit_ref n2 ic2 ty2 su2) rfl), kit_ve x_ve⟩
  have GD := ok_draw (P := l.prog) (w := w) (base := base) FD T
  have GP := ok_pick (P := l.prog) (w := w) (base := base) FPK T DD
  have GWo := ok_wordsB FWO T DD GD DPK GP
  have GRo := ok_ro FRO T DD GD DPK GP
  have GAb := ok_ab (P := l.prog) (w := w) (mg := mg) (base := base) FAB
  have GKi := ok_lk (P := l.prog) (w := w) (base := base) FKI T tSo
  have GTk := ok_tk (P := l.prog) (w := w) (mg := mg) (base := base) FTK
  have GIw := ok_isw (P := l.prog) (w := w) (base := base) FIW T GB
  have GAw := ok_arew FAW T DIW GIw
  have GAd := ok_ared (P := l.prog) (w := w) (base := base) FAD T
  have GFa := ok_fault FFA T GB DAW GAw DAD GAd
  have GLi := ok_line (P := l.prog) (w := w) (mg := mg) (base := base) FLI
  have GIn : FnR l.prog w K mg base CX0 4 fIN (spInitR C) := ok_init FIN YC T DFA GFa DLI GLi
  have GMa := ok_made FMA M GIn
  have GWt := ok_within (P := l.prog) (w := w) (base := base) FWT YC
  have GMeL := ok_meets true FME YC T tAny mWT GWt BWT
  have GMeT := ok_meets false FME YC T tAny mWT GWt BWT
  have GCo := ok_co (P := l.prog) (w := w) (base := base) FCO YC T
  have GEq := ok_eq (P := l.prog) (w := w) (base := base) FEQ YC T OC
  have GIa := ok_ia FIA YC T tAny mWT GWt BWT
  have GTi := ok_tmi (P := l.prog) (w := w) (base := base) FTI TMx
  have GKn := ok_kinds FKN YC T tSo (PySem.W.mg_of X G z6) mIA GIa BIA TMx GTi BTI
  have GLI := ok_li (P := l.prog) (w := w) (mg := mg) (base := base) FLIN Y
  have GBI := ok_ki FBIN Y YC MBIN GLI BLIN mKN GKn BKN mS top0
  have GBd := ok_kd (P := l.prog) (w := w) (mg := mg) (base := base) FBDO Y
  have GBn := ok_kn (P := l.prog) (w := w) (base := base) FBNO T
  have GBv := ok_kv (P := l.prog) (w := w) (mg := mg) (base := base) FBV
  have GBtL := ok_kt true FBTK Y YC T GCo BCO aCO iCO mME GMeL BME
  have GBtT := ok_kt false FBTK Y YC T GCo BCO aCO iCO mME GMeT BME
  have GRf := ok_rf (C := C) FRF T tVE (PySem.W.mg_of X G aB) (PySem.W.mg_of X G aCT) (PySem.W.mg_of X G aLE) (PySem.W.mg_of X G aNC) (PySem.W.mg_of X G aBA) TMn MB GBI BBIN
  have GSe := ok_se FSE T Y DD GD DPK GP DTK GTk mVI GBv bV1 dV1 bV2 mNO GBn BBNO mTK GBtT GBtL BBTK mDO GBd BBDO
  have GPn := ok_pen (P := l.prog) (w := w) (base := base) FPN T
  have cR : ClX.CRead K C (.type "type") := ⟨rdC, gaC⟩
  have cM : ClX.CMet K C (.type "type") "made" pM fMA := ⟨cm, ⟨rest, rc⟩, fi⟩
  have kon : Con K B "KIND" (.str "kind") (.str "kind" tkd) := ⟨kd, ⟨tkd, rfl⟩, kdg, by decide +kernel⟩
  have cRB : ClX.CRead K B (.type "type") := ⟨rdB, gaB⟩
  have cRL : ClX.CRead K L (.type "type") := ⟨rdL, gaL⟩
  have cVL : ClX.CVal K L (.type "type") "KIND" (.str "class") (.str "class" tkl) := ⟨kdl, ⟨tkl, rfl⟩⟩
  have cVB : ClX.CVal K B (.type "type") "KIND" (.str "kind") (.str "kind" tkd) := ⟨kdc, ⟨tkd, rfl⟩⟩
  exact ok_law FLW T Y YC OB (PySem.W.mg_of X G aB) (PySem.W.mg_of X G aBC) (PySem.W.mg_of X G aL) (kit_yes isL tyL suB) (kit_ref n3 ic3 ty3 su3) DPN GPn DD GD DWO GWo DRO GRo DRF GRf DAB GAb DKI GKi DSE GSe cR cM GMa BMA GEq BEQ aEQ iEQ nE hmoC MB GBI BBIN kon cRB cVB cRL cVL
theorem walk {l : PySem.W.OpenLaw} {q : Program} {loose : List Str} {XP : (Str → Option Value) → Heap → Prop} {YP : World → Heap → Prop} {d : DefRec} {K : Params → PySem.W.Frag} (hn : l.most = some 63) (hdf : d.params.defaults = [])
    (hY : ∀ (w : World) (h : Heap), YP w h → (K w.params).In h)
    (F : ∀ (w : World) (mg : Str → Option Value) (fa : Addr) (h : Heap), (K w.params).In h → h.Ns mainGlobals mg → mg d.name = some (.ref fa) →
      ∃ fd : FuncData, (∀ (z : Shared) (u : Value), BindsTo z fd ⟨[u], []⟩ [("_law_script", u)]) ∧ ∀ base : Heap, (K w.params).In base → base.Ns mainGlobals mg → FnG l.prog w (K w.params) mg base 8 fa fd ["_law_script"] (spLaw (K w.params))) :
    PySem.W.WalkO q loose XP YP l.row.toRowW d [] (fun f vs => PySem.call f vs) := walk_ofG hn hdf ⟨rfl, by decide, by decide⟩ hY F
end K2
end
section
set_option Elab.async false
set_option maxRecDepth 100000
open PySem PySem.W PyProof.Rows
set_option maxRecDepth 100000 in
set_option maxHeartbeats 0 in
theorem PySem.Challenge.cw_whatleaves_k58_kinds_as_views_holds : PySem.Challenge.rw_whatleaves_k58_kinds_as_views.Holds := by
  w_on; o_law; k_head; (case hw => w_witness2)
  k_fill
  refine K2.walk (l := PySem.Challenge.rw_whatleaves_k58_kinds_as_views) rfl rfl (fun w h Y => PySem.W.kIn_of Y) ?F
  case F =>
    intro w mg fa h KX G hmg
    refine' K2.all_mk KX G hmg ?aIW ?aAW ?aAD ?aFA ?aLI ?aPN ?aD ?aPK ?aWO ?aRO ?aAB ?aKI ?aRF ?aTK ?aSE ?aLW ?lIW ?cIW ?kIW ?lAW ?cAW ?kAW ?lAD ?cAD ?kAD ?lFA ?cFA ?kFA ?lLI ?cLI ?kLI ?lPN ?cPN ?kPN ?lD ?cD ?kD ?lPK ?cPK ?kPK ?lWO ?cWO ?kWO ?lRO ?cRO ?kRO ?lAB ?cAB ?kAB ?lKI ?cKI ?kKI ?lRF ?cRF ?kRF ?lTK ?cTK ?kTK ?lSE ?cSE ?kSE ?lLW ?cLW ?kLW ?lIN ?cIN ?kIN ?lMA ?cMA ?kMA ?lCO ?cCO ?kCO ?lEQ ?cEQ ?kEQ ?lWT ?cWT ?kWT ?lME ?cME ?kME ?lKN ?cKN ?kKN ?lIA ?cIA ?kIA ?lTI ?cTI ?kTI ?lLIN ?cLIN ?kLIN ?lBTK ?cBTK ?kBTK ?lBDO ?cBDO ?kBDO ?lBNO ?cBNO ?kBNO ?aC ?aB ?aBC ?aCT ?aLE ?aNC ?aBA ?aL ?aIN ?iIN ?aCO ?iCO ?aEQ ?iEQ ?aWT ?iWT ?aME ?iME ?aKN ?iKN ?aIA ?iIA ?aTI ?iTI ?aLIN ?iLIN ?aBTK ?iBTK ?aBDO ?iBDO ?aBNO ?iBNO ?aBIN ?iBIN ?aBVI ?iBVI ?lBIN ?cBIN ?kBIN ?qBIN ?vBIN ?eBIN ?sBIN ?tBIN ?nBIN ?lcc ?isB ?mBB ?opq ?bSu ?top0 ?lBVI ?cBVI ?kBVI ?lTV ?nE ?haC ?hmoC ?pgC ?hdC ?poC ?saC ?mkC ?kcC ?rdC ?gaC ?haB ?hmoB ?pgB ?hdB ?poB ?saB ?mkB ?kcB ?rdB ?gaB ?hn ?htk ?isL ?tyL ?suB ?nR ?nN ?nL ?nCl ?nMo ?kd ?kdg ?rdL ?gaL ?kdl ?kdc ?cm ?rc ?fi ?zL ?zM ?zR ?lR ?vR ?szR ?oK_x ?oR_x ?x_sa ?x_be ?x_ty ?x_kp ?tTI ?x_wh ?x_mo ?x_ga ?x_gg ?x_hd ?x_cl ?x_ob ?y_be ?y_hd ?y_ty ?y_su ?x_ve ?n1 ?ic1 ?ty1 ?su1 ?n2 ?ic2 ?ty2 ?su2 ?n3 ?ic3 ?ty3 ?su3 ?z6 ?b_len ?b_int ?b_abs ?b_range ?b_list ?b_tuple ?b_enumerate ?b_isinstance ?b_str ?b_set ?b_all ?b_repr ?b_any ?b_sorted ?b_ValueError
    (case aIW => k_is)
    (case aAW => k_is)
    (case aAD => k_is)
    (case aFA => k_is)
    (case aLI => k_is)
    (case aPN => k_is)
    (case aD => k_is)
    (case aPK => k_is)
    (case aWO => k_is)
    (case aRO => k_is)
    (case aAB => k_is)
    (case aKI => k_is)
    (case aRF => k_is)
    (case aTK => k_is)
    (case aSE => k_is)
    (case aLW => k_is)
    (case lIW => k_is)
    (case cIW => k_is)
    (case kIW => k_is)
    (case lAW => k_is)
    (case cAW => k_is)
    (case kAW => k_is)
    (case lAD => k_is)
    (case cAD => k_is)
    (case kAD => k_is)
    (case lFA => k_is)
    (case cFA => k_is)
    (case kFA => k_is)
    (case lLI => k_is)
    (case cLI => k_is)
    (case kLI => k_is)
    (case lPN => k_is)
    (case cPN => k_is)
    (case kPN => k_is)
    (case lD => k_is)
    (case cD => k_is)
    (case kD => k_is)
    (case lPK => k_is)
    (case cPK => k_is)
    (case kPK => k_is)
    (case lWO => k_is)
    (case cWO => k_is)
    (case kWO => k_is)
    (case lRO => k_is)
    (case cRO => k_is)
    (case kRO => k_is)
    (case lAB => k_is)
    (case cAB => k_is)
    (case kAB => k_is)
    (case lKI => k_is)
    (case cKI => k_is)
    (case kKI => k_is)
    (case lRF => k_is)
    (case cRF => k_is)
    (case kRF => k_is)
    (case lTK => k_is)
    (case cTK => k_is)
    (case kTK => k_is)
    (case lSE => k_is)
    (case cSE => k_is)
    (case kSE => k_is)
    (case lLW => k_is)
    (case cLW => k_is)
    (case kLW => k_is)
    (case aC => k_is)
    (case aB => k_is)
    (case aBC => k_is)
    (case aCT => k_is)
    (case aLE => k_is)
    (case aNC => k_is)
    (case aBA => k_is)
    (case aL => k_is)
    (case aIN => k_is)
    (case iIN => k_is)
    (case aCO => k_is)
    (case iCO => k_is)
    (case aEQ => k_is)
    (case iEQ => k_is)
    (case aWT => k_is)
    (case iWT => k_is)
    (case aME => k_is)
    (case iME => k_is)
    (case aKN => k_is)
    (case iKN => k_is)
    (case aIA => k_is)
    (case iIA => k_is)
    (case aTI => k_is)
    (case iTI => k_is)
    (case aLIN => k_is)
    (case iLIN => k_is)
    (case aBTK => k_is)
    (case iBTK => k_is)
    (case aBDO => k_is)
    (case iBDO => k_is)
    (case aBNO => k_is)
    (case iBNO => k_is)
    (case aBIN => k_is)
    (case iBIN => k_is)
    (case aBVI => k_is)
    (case iBVI => k_is)
    (case lBIN => k_is)
    (case cBIN => k_is)
    (case kBIN => k_is)
    (case qBIN => k_is)
    (case vBIN => rfl)
    (case eBIN => first | rfl | decide +kernel)
    (case sBIN => ks_is)
    (case tBIN => k_is)
    (case nBIN => k_is)
    (case lcc => k_is)
    (case isB => k_is)
    (case mBB => k_is)
    (case opq => k_is)
    (case bSu => k_is)
    (case top0 => first | rfl | decide +kernel)
    (case lBVI => k_is)
    (case cBVI => k_is)
    (case kBVI => k_is)
    (case lTV => k_is)
    (case nE => k_is)
    (case haC => k_is)
    (case hmoC => k_is)
    (case pgC => k_is)
    (case hdC => k_is)
    (case poC => k_is)
    (case saC => k_is)
    (case mkC => k_is)
    (case kcC => k_is)
    (case rdC => k_is)
    (case gaC => k_is)
    (case haB => k_is)
    (case hmoB => k_is)
    (case pgB => k_is)
    (case hdB => k_is)
    (case poB => k_is)
    (case saB => k_is)
    (case mkB => k_is)
    (case kcB => k_is)
    (case rdB => k_is)
    (case gaB => k_is)
    (case hn => k_is)
    (case htk => k_is)
    (case isL => k_is)
    (case tyL => k_is)
    (case suB => k_is)
    (case nR => k_is)
    (case nN => k_is)
    (case nL => k_is)
    (case nCl => k_is)
    (case nMo => k_is)
    (case kd => k_is)
    (case kdg => k_is)
    (case rdL => k_is)
    (case gaL => k_is)
    (case kdl => k_is)
    (case kdc => k_is)
    (case cm => k_is)
    (case rc => k_is)
    (case lIN => k_is)
    (case cIN => k_is)
    (case kIN => k_is)
    (case lMA => k_is)
    (case cMA => k_is)
    (case kMA => k_is)
    (case lCO => k_is)
    (case cCO => k_is)
    (case kCO => k_is)
    (case lEQ => k_is)
    (case cEQ => k_is)
    (case kEQ => k_is)
    (case lWT => k_is)
    (case cWT => k_is)
    (case kWT => k_is)
    (case lME => k_is)
    (case cME => k_is)
    (case kME => k_is)
    (case lKN => k_is)
    (case cKN => k_is)
    (case kKN => k_is)
    (case lIA => k_is)
    (case cIA => k_is)
    (case kIA => k_is)
    (case lTI => k_is)
    (case cTI => k_is)
    (case kTI => k_is)
    (case lLIN => k_is)
    (case cLIN => k_is)
    (case kLIN => k_is)
    (case lBTK => k_is)
    (case cBTK => k_is)
    (case kBTK => k_is)
    (case lBDO => k_is)
    (case cBDO => k_is)
    (case kBDO => k_is)
    (case lBNO => k_is)
    (case cBNO => k_is)
    (case kBNO => k_is)
    (case fi => k_is)
    (case zL => k_is)
    (case zM => k_is)
    (case zR => k_is)
    (case lR => k_is)
    (case vR => decide +kernel)
    (case szR => decide +kernel)
    (case oK_x => k_is)
    (case oR_x => decide +kernel)
    (case x_sa => k_is)
    (case x_be => k_is)
    (case x_ty => k_is)
    (case x_kp => k_is)
    (case tTI => k_is)
    (case x_wh => k_is)
    (case x_mo => k_is)
    (case x_ga => k_is)
    (case x_gg => k_is)
    (case x_hd => k_is)
    (case x_cl => k_is)
    (case x_ob => k_is)
    (case y_be => k_is)
    (case y_hd => k_is)
    (case y_ty => k_is)
    (case y_su => k_is)
    (case x_ve => k_is)
    (case n1 => decide)
    (case ic1 => k_is)
    (case ty1 => k_is)
    (case su1 => k_is)
    (case n2 => decide)
    (case ic2 => k_is)
    (case ty2 => k_is)
    (case su2 => k_is)
    (case n3 => decide)
    (case ic3 => k_is)
    (case ty3 => k_is)
    (case su3 => k_is)
    (case z6 => k_is)
    (case b_len => k_is)
    (case b_int => k_is)
    (case b_abs => k_is)
    (case b_range => k_is)
    (case b_list => k_is)
    (case b_tuple => k_is)
    (case b_enumerate => k_is)
    (case b_isinstance => k_is)
    (case b_str => k_is)
    (case b_set => k_is)
    (case b_all => k_is)
    (case b_repr => k_is)
    (case b_any => k_is)
    (case b_sorted => k_is)
    (case b_ValueError => k_is)
end
