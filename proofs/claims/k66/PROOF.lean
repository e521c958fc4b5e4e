import PyProof.Rows.All
import Wide.All
import OpenK.AllK
import Wide.FinOn
import HandS.ForMost
import HandS.Style
import HandS.TupAny
import HandS.Strs
import HandS.IsInst
import HandS.StrMore
import HandS.Walk
import KE.GoesEnum
import KE.GoesMore
import HandS.Star
import HandS.Conv
import HandS.ClsMeth
import HandS.MakeKw
import PyProof.ReprLen
import HandS.Set
import HandS.SetTxt0
import PyProof.Rows.SortShellAny
import HandS.TupSets
import KE.KSortTupG
import PyProof.TupleOfSeq
import HandS.ExcIs
import HandS.ExcField
import HandS.ExcValue
import HandS.ExcInit
import KE.KIsAll
import HandS.Lambda
import HandS.WordsExc
import HandS.More
import HandS.OwnEq
import PyProof.InstNe
import HandS.Deep
import HandS.EndTab
import KE.KNestM
import HandS.Nested
import KE.KSuper
import HandS.MakeKwOnly
import KE.RegKSuper
import PySem.Challenge.RW_whatleaves_k66_views_by_trail
section
set_option autoImplicit true
namespace K2
open PySem

abbrev Row := Str × List Str
def barredL : List String := ["pass", "raise", "from", "none", "again", "return", "returns", "break", "call", "handling", "else", "either", "or", "loop", "try", "except", "as", "finally", "with", "quiet", "class", "def", "error", "vacant"]
def barred : List Str := barredL.map Str.ofString
def resd : List Str := barred.take 22
def sErr : Str := Str.ofString "error"
def sVac : Str := Str.ofString "vacant"
def codes (x : Str) : List Nat := x.cps.toList
def txt (l : List Nat) : Str := ⟨l.toArray⟩
theorem codes_txt (l : List Nat) : codes (txt l) = l := by simp [codes, txt]
theorem txt_codes (x : Str) : txt (codes x) = x := by cases x; simp [codes, txt]
theorem codes_inj {x y : Str} (h : codes x = codes y) : x = y := by rw [← txt_codes x, ← txt_codes y, h]

/-- a text of small letters -/
def Low (l : List Nat) : Prop := ∀ c ∈ l, 97 ≤ c ∧ c ≤ 122
/-- a word of the document -/
structure VW (x : Str) : Prop where
  low : Low (codes x)
  ne : codes x ≠ []
  le : (codes x).length ≤ 8
  nr : x ∉ resd
theorem vw_err : VW sErr := ⟨by unfold Low; decide +kernel, by decide +kernel, by decide +kernel, by decide +kernel⟩
theorem vw_vac : VW sVac := ⟨by unfold Low; decide +kernel, by decide +kernel, by decide +kernel, by decide +kernel⟩
theorem err_ne_vac : sErr ≠ sVac := by decide +kernel
theorem mem_resd {x : Str} (h : x ∈ resd) : x ∈ barred := List.mem_of_mem_take h
theorem err_barred : sErr ∈ barred := by decide +kernel
theorem vac_barred : sVac ∈ barred := by decide +kernel

/-! ### words -/
def wordAt (base : List Nat) (spot : Nat) (sign : Nat) : List Nat := base.take spot ++ [sign] ++ base.drop spot
def signAt (first hop k : Nat) : Nat := 97 + (first + hop * k) % 26
def finalAt (base : List Nat) (spot first hop k : Nat) : List Nat :=
  let w := wordAt base spot (signAt first hop k)
  w ++ (if 26 ≤ k then [113] else if txt w ∈ barred then [122] else [])
theorem barred_end : ∀ b ∈ barred, ∀ c, (codes b).getLast? = some c → c ≠ 113 ∧ c ≠ 122 := by
  have h : ∀ b ∈ barred, (codes b).getLast? ≠ some 113 ∧ (codes b).getLast? ≠ some 122 := by decide +kernel
  intro b hb c hc
  have := h b hb
  refine ⟨fun e => this.1 (by rw [hc, e]), fun e => this.2 (by rw [hc, e])⟩
theorem low_wordAt (hb : Low base) (h1 : 97 ≤ sign) (h2 : sign ≤ 122) : Low (wordAt base spot sign) := by
  intro c hc
  unfold wordAt at hc
  rcases List.mem_append.mp hc with hc | hc
  · rcases List.mem_append.mp hc with hc | hc
    · exact hb c (List.mem_of_mem_take hc)
    · have : c = sign := by simpa using hc
      omega
  · exact hb c (List.mem_of_mem_drop hc)
theorem len_wordAt (base : List Nat) (spot sign : Nat) : (wordAt base spot sign).length = base.length + 1 := by
  unfold wordAt
  simp only [List.length_append, List.length_take, List.length_drop, List.length_singleton]
  omega
theorem sign_lo (f h k : Nat) : 97 ≤ signAt f h k ∧ signAt f h k ≤ 122 := by
  unfold signAt; omega
theorem sign_ne {f hop i j : Nat} (hh : hop ∈ [1, 3, 5, 7, 9, 11]) (h1 : i < j) (h2 : j < i + 26) : signAt f hop i ≠ signAt f hop j := by
  unfold signAt
  simp only [List.mem_cons, List.not_mem_nil, or_false] at hh
  rcases hh with rfl | rfl | rfl | rfl | rfl | rfl <;> omega
theorem word_ne {base : List Nat} {spot s t : Nat} (h : s ≠ t) : wordAt base spot s ≠ wordAt base spot t := by
  unfold wordAt
  intro e
  rw [List.append_assoc, List.append_assoc] at e
  have := List.append_cancel_left e
  have h2 : s = t := by simpa using (List.cons.inj this).1
  exact h h2
theorem vw_final {base : List Nat} (hb : Low base) (hl : base.length ≤ 6) (spot f hop k : Nat) : VW (txt (finalAt base spot f hop k)) ∧ txt (finalAt base spot f hop k) ∉ barred := by
  have hw := low_wordAt (spot := spot) hb (sign_lo f hop k).1 (sign_lo f hop k).2
  have hlen := len_wordAt base spot (signAt f hop k)
  have nb : txt (finalAt base spot f hop k) ∉ barred := by
    intro hm
    have he := barred_end _ hm
    rw [codes_txt] at he
    by_cases h1 : 26 ≤ k
    · unfold finalAt at he
      simp only [h1, if_true] at he
      exact (he 113 (by simp)).1 rfl
    · by_cases h2 : txt (wordAt base spot (signAt f hop k)) ∈ barred
      · unfold finalAt at he
        simp only [h1, if_false, h2, if_true] at he
        exact (he 122 (by simp)).2 rfl
      · unfold finalAt at hm
        simp only [h1, if_false, h2, if_false, List.append_nil] at hm
  refine ⟨⟨?_, ?_, ?_, fun h => nb (mem_resd h)⟩, nb⟩
  · rw [codes_txt]
    unfold finalAt
    intro c hc
    rcases List.mem_append.mp hc with hc | hc
    · exact hw c hc
    · split at hc
      · have : c = 113 := by simpa using hc
        omega
      · split at hc
        · have : c = 122 := by simpa using hc
          omega
        · cases hc
  · rw [codes_txt]
    intro e
    have : (finalAt base spot f hop k).length = 0 := by rw [e]; rfl
    unfold finalAt at this
    rw [List.length_append, hlen] at this
    omega
  · rw [codes_txt]
    unfold finalAt
    rw [List.length_append, hlen]
    split
    · show base.length + 1 + 1 ≤ 8; omega
    · split
      · show base.length + 1 + 1 ≤ 8; omega
      · show base.length + 1 + 0 ≤ 8; omega
theorem final_ne {base : List Nat} {spot f hop i j : Nat} (hh : hop ∈ [1, 3, 5, 7, 9, 11]) (h1 : i < j) (hj : j < 32) : finalAt base spot f hop i ≠ finalAt base spot f hop j := by
  have li := len_wordAt base spot (signAt f hop i)
  have lj := len_wordAt base spot (signAt f hop j)
  intro e
  have key : ∀ {w1 w2 : List Nat} {a b : Nat}, w1 ++ [a] = w2 ++ [b] → w1 = w2 ∧ a = b := by
    intro w1 w2 a b h
    have := List.append_inj' h rfl
    exact ⟨this.1, by simpa using this.2⟩
  unfold finalAt at e
  by_cases c1 : 26 ≤ i
  · have c2 : 26 ≤ j := by omega
    simp only [c1, c2, if_true] at e
    exact word_ne (sign_ne hh h1 (by omega)) (key e).1
  · by_cases c2 : 26 ≤ j
    · simp only [c1, if_false, c2, if_true] at e
      by_cases c3 : txt (wordAt base spot (signAt f hop i)) ∈ barred
      · simp only [c3, if_true] at e
        exact absurd (key e).2 (by decide)
      · simp only [c3, if_false, List.append_nil] at e
        have := congrArg List.length e
        rw [List.length_append, li, lj] at this
        simp at this
    · have hs : wordAt base spot (signAt f hop i) ≠ wordAt base spot (signAt f hop j) := word_ne (sign_ne hh h1 (by omega))
      simp only [c1, if_false, c2] at e
      by_cases c3 : txt (wordAt base spot (signAt f hop i)) ∈ barred
      · by_cases c4 : txt (wordAt base spot (signAt f hop j)) ∈ barred
        · simp only [c3, c4, if_true] at e
          exact hs (key e).1
        · simp only [c3, c4, if_true, if_false, List.append_nil] at e
          have := congrArg List.length e
          rw [List.length_append, li, lj] at this
          simp at this
      · by_cases c4 : txt (wordAt base spot (signAt f hop j)) ∈ barred
        · simp only [c3, c4, if_true, if_false, List.append_nil] at e
          have := congrArg List.length e
          rw [List.length_append, li, lj] at this
          simp at this
        · simp only [c3, c4, if_false, List.append_nil] at e
          exact hs e
def finals (base : List Nat) (spot f hop n : Nat) : List Str := (List.range n).map fun k => txt (finalAt base spot f hop k)
/-- what words are for the law: so many unlike words, none of them error or vacant -/
structure Words (ws : List Str) : Prop where
  vw : ∀ x ∈ ws, VW x
  nb : ∀ x ∈ ws, x ∉ barred
  nd : ws.Nodup
theorem nodup_of_inj {α : Type} {f : Nat → α} {n : Nat} (h : ∀ i j, i < j → j < n → f i ≠ f j) : ((List.range n).map f).Nodup := by
  unfold List.Nodup
  rw [List.pairwise_map]
  refine List.Pairwise.imp_of_mem ?_ (List.pairwise_lt_range (n := n))
  intro a b _ hb hab
  exact h a b hab (List.mem_range.mp hb)
theorem words_finals {base : List Nat} (hb : Low base) (hl : base.length ≤ 6) {hop : Nat} (hh : hop ∈ [1, 3, 5, 7, 9, 11]) {n : Nat} (hn : n ≤ 32) (spot f : Nat) : Words (finals base spot f hop n) := by
  refine ⟨fun x hx => ?_, fun x hx => ?_, ?_⟩
  · obtain ⟨k, _, rfl⟩ := List.mem_map.mp hx
    exact (vw_final hb hl spot f hop k).1
  · obtain ⟨k, _, rfl⟩ := List.mem_map.mp hx
    exact (vw_final hb hl spot f hop k).2
  · refine nodup_of_inj fun i j h1 h2 e => final_ne (base := base) (spot := spot) (f := f) hh h1 (by omega) ?_
    have := congrArg codes e
    rwa [codes_txt, codes_txt] at this
theorem barred_two : ∀ b ∈ barred, 2 ≤ (codes b).length ∧ (codes b)[0]? ≠ (codes b)[1]? := by decide +kernel
def reps (c n : Nat) : List Str := (List.range n).map fun k => txt (List.replicate (k + 1) c)
theorem words_reps {c : Nat} (h1 : 97 ≤ c) (h2 : c ≤ 122) {n : Nat} (hn : n ≤ 8) : Words (reps c n) := by
  have nb : ∀ k, txt (List.replicate (k + 1) c) ∉ barred := by
    intro k hm
    have := barred_two _ hm
    rw [codes_txt] at this
    rw [List.length_replicate] at this
    apply this.2
    rw [List.getElem?_replicate, List.getElem?_replicate, if_pos (by omega), if_pos (by omega)]
  refine ⟨fun x hx => ?_, fun x hx => ?_, ?_⟩
  · obtain ⟨k, hk, rfl⟩ := List.mem_map.mp hx
    have hk := List.mem_range.mp hk
    refine ⟨?_, ?_, ?_, fun h => nb k (mem_resd h)⟩
    · rw [codes_txt]
      intro d hd
      have := List.eq_of_mem_replicate hd
      omega
    · rw [codes_txt]
      intro e
      have := congrArg List.length e
      rw [List.length_replicate] at this
      simp at this
    · rw [codes_txt, List.length_replicate]
      omega
  · obtain ⟨k, hk, rfl⟩ := List.mem_map.mp hx
    exact nb k
  · refine nodup_of_inj fun i j h1 h2 e => ?_
    have := congrArg (fun x => (codes x).length) e
    simp only [codes_txt, List.length_replicate] at this
    omega
theorem Words.rev {ws : List Str} (h : Words ws) : Words ws.reverse := ⟨fun x hx => h.vw x (List.mem_reverse.mp hx), fun x hx => h.nb x (List.mem_reverse.mp hx), by
  have := h.nd
  unfold List.Nodup at *
  rw [List.pairwise_reverse]
  exact this.imp fun h e => h e.symm⟩
end K2
end
section
set_option autoImplicit true
namespace K2
open PySem

def base0 : List Str := [sErr, sVac]
structure RowOk (known : List Str) (r : Row) : Prop where
  vw : VW r.1
  new : r.1 ∉ known
  ne : r.2 ≠ []
  nd : r.2.Nodup
  sub : ∀ b ∈ r.2, b ∈ known
def knownAt (rs : List Row) (i : Nat) : List Str := base0 ++ (rs.take i).map (·.1)
def Good (rs : List Row) : Prop := ∀ (i : Nat) (r : Row), rs[i]? = some r → RowOk (knownAt rs i) r
theorem good_nil : Good [] := fun i r h => by simp at h
theorem good_snoc {rs : List Row} {r : Row} (g : Good rs) (h : RowOk (base0 ++ rs.map (·.1)) r) : Good (rs ++ [r]) := by
  intro i q hq
  by_cases hi : i < rs.length
  · rw [List.getElem?_append_left hi] at hq
    have := g i q hq
    unfold knownAt at *
    rw [List.take_append_of_le_length (by omega)]
    exact this
  · have hi2 : i = rs.length := by
      have := (List.getElem?_eq_some_iff.mp hq).1
      rw [List.length_append, List.length_singleton] at this
      omega
    subst hi2
    rw [List.getElem?_append_right (Nat.le_refl _), Nat.sub_self] at hq
    simp at hq
    subst hq
    unfold knownAt
    rw [List.take_append_of_le_length (Nat.le_refl _), List.take_length]
    exact h
theorem vw_base0 : ∀ x ∈ base0, VW x := by
  intro x hx
  unfold base0 at hx
  rcases List.mem_cons.mp hx with rfl | hx
  · exact vw_err
  · have : x = sVac := by simpa using hx
    subst this
    exact vw_vac
theorem Good.vw_known {rs : List Row} (g : Good rs) (i : Nat) : ∀ x ∈ knownAt rs i, VW x := by
  intro x hx
  rcases List.mem_append.mp hx with hx | hx
  · exact vw_base0 x hx
  · obtain ⟨r, hr, rfl⟩ := List.mem_map.mp hx
    obtain ⟨j, hj⟩ := List.getElem?_of_mem (List.mem_of_mem_take hr)
    exact (g j r hj).vw
theorem knownAt_len {rs : List Row} {i : Nat} (h : i ≤ rs.length) : (knownAt rs i).length = i + 2 := by
  unfold knownAt base0
  simp [List.length_take]
  omega
theorem knownAt_succ {rs : List Row} {i : Nat} {r : Row} (h : rs[i]? = some r) : knownAt rs (i + 1) = knownAt rs i ++ [r.1] := by
  unfold knownAt
  rw [List.take_add_one, h]
  simp
theorem base0_nd : base0.Nodup := by
  unfold base0
  simp [err_ne_vac]
theorem Good.nodup {rs : List Row} (g : Good rs) : ∀ i, i ≤ rs.length → (knownAt rs i).Nodup
  | 0, _ => by simpa [knownAt] using base0_nd
  | i + 1, h => by
    have hi : rs[i]? = some rs[i] := List.getElem?_eq_getElem (by omega)
    rw [knownAt_succ hi]
    refine List.nodup_append.mpr ⟨g.nodup i (by omega), by simp, ?_⟩
    intro a ha b hb e
    have : b = rs[i].1 := by simpa using hb
    subst this
    subst e
    exact (g i _ hi).new ha
/-- the rows of words, with any bases among those known -/
def namesOf (rs : List Row) : List Str := rs.map (·.1)
structure Sub1 (r q : Row) : Prop where
  nm : q.1 = r.1
  sl : q.2.Sublist r.2
  ne : q.2 ≠ []
theorem good_sub {rs qs : List Row} (g : Good rs) (hl : qs.length = rs.length) (h : ∀ (i : Nat) (r q : Row), rs[i]? = some r → qs[i]? = some q → Sub1 r q) : Good qs := by
  have en : ∀ i, (qs.take i).map (·.1) = (rs.take i).map (·.1) := by
    intro i
    apply List.ext_getElem?
    intro j
    rw [List.getElem?_map, List.getElem?_map, List.getElem?_take, List.getElem?_take]
    split
    · by_cases hj : j < rs.length
      · have h1 : rs[j]? = some rs[j] := List.getElem?_eq_getElem hj
        have h2 : qs[j]? = some qs[j] := List.getElem?_eq_getElem (by omega)
        rw [h1, h2]
        simp [(h j _ _ h1 h2).nm]
      · rw [List.getElem?_eq_none (by omega), List.getElem?_eq_none (by omega)]
    · rfl
  intro i q hq
  have hi : i < rs.length := by
    have := (List.getElem?_eq_some_iff.mp hq).1
    omega
  have h1 : rs[i]? = some rs[i] := List.getElem?_eq_getElem hi
  have k := h i _ _ h1 hq
  have R := g i _ h1
  unfold knownAt at *
  rw [en i]
  refine ⟨by rw [k.nm]; exact R.vw, by rw [k.nm]; exact R.new, k.ne, R.nd.sublist k.sl, fun b hb => R.sub b (k.sl.subset hb)⟩

/-! ### what is within what -/
abbrev Tb := List (Str × List Str)
def look : Tb → Str → List Str
  | [], _ => []
  | (k, u) :: t, x => if k = x then u else look t x
def keys (t : Tb) : List Str := t.map (·.1)
def insK (ks : List Str) (x : Str) : List Str := if x ∈ ks then ks else ks ++ [x]
def mergeU (m us : List Str) : List Str := m ++ us.filter fun u => decide (u ∉ m)
def lineL (t : Tb) (m : List Str) (bs : List Str) : List Str := bs.foldl (fun m b => mergeU m (look t b)) m
def lineOf (t : Tb) (r : Row) : List Str := lineL t [r.1] r.2
def t0 : Tb := [(sErr, [sErr]), (sVac, [sVac, sErr])]
def stepT (t : Tb) (r : Row) : Tb := t ++ [(r.1, lineOf t r)]
def ups (rs : List Row) : Tb := rs.foldl stepT t0
theorem ups_succ {rs : List Row} {i : Nat} {r : Row} (h : rs[i]? = some r) : ups (rs.take (i + 1)) = stepT (ups (rs.take i)) r := by
  unfold ups
  rw [List.take_add_one, h]
  simp
theorem ups_snoc (rs : List Row) (r : Row) : ups (rs ++ [r]) = stepT (ups rs) r := by unfold ups; simp
theorem keys_ups (rs : List Row) : keys (ups rs) = base0 ++ rs.map (·.1) := by
  have h : ∀ (rs : List Row) (t : Tb), keys (rs.foldl stepT t) = keys t ++ rs.map (·.1) := by
    intro rs
    induction rs with
    | nil => intro t; simp
    | cons r rs ih =>
      intro t
      rw [List.foldl_cons, ih]
      simp [keys, stepT]
  exact h rs t0
theorem keys_ups_take (rs : List Row) (i : Nat) : keys (ups (rs.take i)) = knownAt rs i := keys_ups _
theorem foldl_insK : ∀ (us ks : List Str), us.Nodup → us.foldl insK ks = mergeU ks us
  | [], ks, _ => by simp [mergeU]
  | u :: us, ks, h => by
    have h1 := List.nodup_cons.mp h
    rw [List.foldl_cons, foldl_insK us _ h1.2]
    unfold insK mergeU
    by_cases hu : u ∈ ks
    · rw [if_pos hu, List.filter_cons]
      simp [hu]
    · rw [if_neg hu, List.filter_cons]
      simp only [hu, not_false_eq_true, decide_true, if_true]
      rw [List.append_assoc, List.singleton_append]
      congr 2
      apply List.filter_congr
      intro x hx
      have : x ≠ u := fun e => h1.1 (e ▸ hx)
      simp [this]
structure LineOk (pre : List Str) (x : Str) (us : List Str) : Prop where
  nd : us.Nodup
  self : x ∈ us
  err : sErr ∈ us
  sub : ∀ u ∈ us, u = x ∨ u ∈ pre
def TOk (t : Tb) : Prop := ∀ a x us b, t = a ++ (x, us) :: b → LineOk (keys a) x us ∧ x ∉ keys a
theorem tok_t0 : TOk t0 := by
  intro a x us b h
  unfold t0 at h
  rcases a with _ | ⟨p, a⟩
  · simp at h
    obtain ⟨⟨rfl, rfl⟩, _⟩ := h
    exact ⟨⟨by simp, by simp, by simp, by simp⟩, by simp [keys]⟩
  · rcases a with _ | ⟨q, a⟩
    · simp at h
      obtain ⟨rfl, ⟨rfl, rfl⟩, _⟩ := h
      refine ⟨⟨by simp [err_ne_vac.symm], by simp, by simp, ?_⟩, ?_⟩
      · intro u hu
        simp [keys] at *
        exact hu
      · simp [keys, err_ne_vac.symm]
    · simp at h
theorem look_mem : ∀ {t : Tb} {x : Str}, x ∈ keys t → ∃ a b, t = a ++ (x, look t x) :: b
  | [], x, h => by simp [keys] at h
  | (k, u) :: t, x, h => by
    by_cases e : k = x
    · subst e
      refine ⟨[], t, ?_⟩
      simp [look]
    · have h2 : x ∈ keys t := by
        unfold keys at *
        rcases List.mem_cons.mp h with e2 | h2
        · exact absurd e2.symm e
        · exact h2
      obtain ⟨a, b, hab⟩ := look_mem h2
      refine ⟨(k, u) :: a, b, ?_⟩
      simp only [look, if_neg e, List.cons_append]
      rw [← hab]
theorem keys_mid {a b : Tb} {x : Str} {us : List Str} : keys (a ++ (x, us) :: b) = keys a ++ x :: keys b := by simp [keys]
theorem TOk.line {t : Tb} (T : TOk t) {x : Str} (h : x ∈ keys t) : (look t x).Nodup ∧ x ∈ look t x ∧ sErr ∈ look t x ∧ ∀ u ∈ look t x, u ∈ keys t := by
  obtain ⟨a, b, e⟩ := look_mem h
  obtain ⟨L, _⟩ := T a x (look t x) b e
  refine ⟨L.nd, L.self, L.err, fun u hu => ?_⟩
  rw [e, keys_mid]
  rcases L.sub u hu with rfl | hu
  · simp
  · exact List.mem_append_left _ hu
theorem TOk.nodup : ∀ {t : Tb}, TOk t → (keys t).Nodup := by
  intro t T
  have h : ∀ (b a : Tb), t = a ++ b → (keys a).Nodup → (keys t).Nodup := by
    intro b
    induction b with
    | nil => intro a e h; rw [e, List.append_nil]; exact h
    | cons p b ih =>
      intro a e h
      obtain ⟨x, us⟩ := p
      refine ih (a ++ [(x, us)]) (by rw [e]; simp) ?_
      have := (T a x us b e).2
      unfold keys at *
      rw [List.map_append]
      refine List.nodup_append.mpr ⟨h, by simp, ?_⟩
      intro c hc d hd q
      have : d = x := by simpa using hd
      subst this
      subst q
      contradiction
  exact h t [] (by simp) (by simp [keys])
theorem split_uniq {a b c d : Tb} {x : Str} {us vs : List Str} (h : a ++ (x, us) :: b = c ++ (x, vs) :: d) (ha : x ∉ keys a) (hc : x ∉ keys c) : a = c := by
  induction a generalizing c with
  | nil =>
    rcases c with _ | ⟨q, c⟩
    · rfl
    · simp at h
      exfalso
      apply hc
      rw [← h.1]
      simp [keys]
  | cons p a ih =>
    rcases c with _ | ⟨q, c⟩
    · simp at h
      exfalso
      apply ha
      rw [h.1]
      simp [keys]
    · simp only [List.cons_append, List.cons.injEq] at h
      rw [h.1, ih h.2 (fun m => ha (by unfold keys at *; exact List.mem_cons_of_mem _ m)) (fun m => hc (by unfold keys at *; exact List.mem_cons_of_mem _ m))]
theorem TOk.back {t : Tb} (T : TOk t) {x y : Str} (hx : x ∈ keys t) (hy : y ∈ look t x) (ne : y ≠ x) : x ∉ look t y := by
  intro hxy
  obtain ⟨a, b, e⟩ := look_mem hx
  obtain ⟨L, hn⟩ := T a x _ b e
  have hya : y ∈ keys a := (L.sub y hy).resolve_left ne
  have hyt : y ∈ keys t := by rw [e, keys_mid]; exact List.mem_append_left _ hya
  obtain ⟨c, d, e2⟩ := look_mem hyt
  obtain ⟨M, hm⟩ := T c y _ d e2
  have hxc : x ∈ keys c := (M.sub x hxy).resolve_left ne.symm
  -- y stands in a, so c is a beginning of a
  obtain ⟨a1, a2, e3⟩ := look_mem hya
  have e4 : t = a1 ++ (y, look a y) :: (a2 ++ (x, look t x) :: b) := by
    rw [List.append_cons, ← List.append_assoc] 
    conv => lhs; rw [e, e3]
    simp
  have hm2 : y ∉ keys a1 := (T a1 y _ _ e4).2
  have : c = a1 := split_uniq (e2.symm.trans e4) hm hm2
  subst this
  apply hn
  rw [e3, keys_mid]
  exact List.mem_append_left _ hxc
theorem mergeU_ok {t : Tb} {m us : List Str} (hm : m.Nodup) (hu : us.Nodup) : (mergeU m us).Nodup := by
  unfold mergeU
  refine List.nodup_append.mpr ⟨hm, hu.filter _, ?_⟩
  intro a ha b hb e
  subst e
  have := (List.mem_filter.mp hb).2
  simp at this
  exact this ha
theorem lineL_ok {t : Tb} (T : TOk t) {x : Str} : ∀ (bs m : List Str), (∀ b ∈ bs, b ∈ keys t) → m.Nodup → (∀ u ∈ m, u = x ∨ u ∈ keys t) →
    (lineL t m bs).Nodup ∧ (∀ u ∈ lineL t m bs, u = x ∨ u ∈ keys t) ∧ (∀ u ∈ m, u ∈ lineL t m bs) ∧ (bs ≠ [] → sErr ∈ lineL t m bs)
  | [], m, _, h1, h2 => ⟨h1, h2, fun u hu => hu, fun h => absurd rfl h⟩
  | b :: bs, m, hb, h1, h2 => by
    have L := T.line (hb b List.mem_cons_self)
    have n1 := mergeU_ok (t := t) h1 L.1
    have s1 : ∀ u ∈ mergeU m (look t b), u = x ∨ u ∈ keys t := by
      intro u hu
      rcases List.mem_append.mp hu with hu | hu
      · exact h2 u hu
      · exact .inr (L.2.2.2 u (List.mem_filter.mp hu).1)
    obtain ⟨q1, q2, q3, q4⟩ := lineL_ok T bs (mergeU m (look t b)) (fun c hc => hb c (List.mem_cons_of_mem _ hc)) n1 s1
    refine ⟨q1, q2, fun u hu => q3 u (List.mem_append_left _ hu), fun _ => ?_⟩
    apply q3
    by_cases he : sErr ∈ m
    · exact List.mem_append_left _ he
    · exact List.mem_append_right _ (List.mem_filter.mpr ⟨L.2.2.1, by simpa using he⟩)
theorem tok_step {t : Tb} (T : TOk t) {r : Row} (R : RowOk (keys t) r) : TOk (stepT t r) := by
  intro a x us b e
  unfold stepT at e
  rcases List.eq_nil_or_concat b with rfl | ⟨b', z, rfl⟩
  · have := List.append_inj' e rfl
    obtain ⟨rfl, e2⟩ := this
    simp at e2
    obtain ⟨rfl, rfl⟩ := e2
    have := lineL_ok T (x := r.1) r.2 [r.1] R.sub (by simp) (by simp)
    exact ⟨⟨this.1, this.2.2.1 _ (by simp), this.2.2.2 R.ne, this.2.1⟩, R.new⟩
  · rw [List.concat_eq_append, ← List.cons_append, ← List.append_assoc] at e
    have := List.append_inj' e rfl
    exact T a x us b' this.1
theorem tok_ups {rs : List Row} (g : Good rs) : ∀ i, i ≤ rs.length → TOk (ups (rs.take i))
  | 0, _ => by simpa [ups] using tok_t0
  | i + 1, h => by
    have hi : rs[i]? = some rs[i] := List.getElem?_eq_getElem (by omega)
    rw [ups_succ hi]
    refine tok_step (tok_ups g i (by omega)) ?_
    rw [keys_ups_take]
    exact g i _ hi
end K2
end
section
set_option Elab.async false
set_option maxRecDepth 100000
set_option linter.all false
namespace K2
open PySem L2
/-! ### the text by places -/
def top (i : Nat) : Stmt := PySem.Challenge.pw_whatleaves_k66_views_by_trail.main.body.getD i (.Pass ⟨0, 0, 0, 0⟩)
abbrev sDraw : Stmt := top 21
abbrev sPick : Stmt := top 22
/-! ### what the built-in names hold -/
structure Bi (mg : Str → Option Value) : Prop where
  len : mg "len" = none
  int : mg "int" = none
  abs : mg "abs" = none
  range : mg "range" = none
  list : mg "list" = none
  tuple : mg "tuple" = none
  enumerate : mg "enumerate" = none
  isinstance : mg "isinstance" = none
  str : mg "str" = none
  set : mg "set" = none
  all : mg "all" = none
  repr : mg "repr" = none
/-! ### the pen -/
def kvsP (c : Addr) (a l : Int) : List (Key × V) := [(.inr "cells", .ref c), (.inr "next", .int a), (.inr "rest", .int l)]
def penO (c : Addr) (a l : Int) : HO := .dK (kvsP c a l)
structure Pen (H : Hp) (p c : Addr) (ns : List Int) (n : Nat) : Prop where
  pen : ∃ a l : Int, H p = some (penO c a l) ∧ 0 ≤ a ∧ a ≤ n ∧ 0 ≤ l
  cells : H c = some (.lst (ns.map V.int))
  small : ns.length ≤ 63
def Keep (p : Addr) (H H' : Hp) : Prop := ∀ b o, H b = some o → b ≠ p → H' b = some o
theorem Keep.refl (p : Addr) (H : Hp) : Keep p H H := fun _ _ h _ => h
theorem Keep.trans {p : Addr} {H H1 H2 : Hp} (a : Keep p H H1) (b : Keep p H1 H2) : Keep p H H2 := fun c o h n => b c o (a c o h n) n
theorem Keep.new {p q : Addr} {H H1 : Hp} {o : HO} (k : Keep p H H1) (h : H q = none) : Keep p H (upd H1 q o) := fun b u hb n => by
  rw [upd_ne (ne_of_none hb h)]
  exact k b u hb n
theorem Keep.at {p : Addr} {H H1 : Hp} {o : HO} (k : Keep p H H1) : Keep p H (upd H1 p o) := fun b u hb n => by
  rw [upd_ne n]
  exact k b u hb n
theorem Pen.mono {H : Hp} {p c : Addr} {ns : List Int} {n m : Nat} (h : Pen H p c ns n) (e : n ≤ m) : Pen H p c ns m := by
  obtain ⟨a, l, h1, h2, h3, h4⟩ := h.pen
  exact ⟨⟨a, l, h1, h2, by omega, h4⟩, h.cells, h.small⟩
theorem Pen.ne {H : Hp} {p c : Addr} {ns : List Int} {n : Nat} (h : Pen H p c ns n) : c ≠ p := by
  obtain ⟨a, l, h1, _⟩ := h.pen
  refine ne_of h.cells h1 ?_
  unfold penO
  intro e
  cases e
/-- the pen behind a new object -/
theorem Pen.new {H : Hp} {p c q : Addr} {ns : List Int} {n : Nat} {o : HO} (h : Pen H p c ns n) (hq : H q = none) : Pen (upd H q o) p c ns n := by
  obtain ⟨a, l, h1, h2, h3, h4⟩ := h.pen
  exact ⟨⟨a, l, by rw [upd_ne (ne_of_none h1 hq)]; exact h1, h2, h3, h4⟩, by rw [upd_ne (ne_of_none h.cells hq)]; exact h.cells, h.small⟩
/-- the pen behind a store elsewhere -/
theorem Pen.upd' {H : Hp} {p c q : Addr} {ns : List Int} {n : Nat} {o : HO} (h : Pen H p c ns n) (h1 : p ≠ q) (h2 : c ≠ q) : Pen (upd H q o) p c ns n := by
  obtain ⟨a, l, g1, g2, g3, g4⟩ := h.pen
  exact ⟨⟨a, l, by rw [upd_ne h1]; exact g1, g2, g3, g4⟩, by rw [upd_ne h2]; exact h.cells, h.small⟩
theorem Pen.set {H : Hp} {p c : Addr} {ns : List Int} {n m : Nat} (h : Pen H p c ns n) {a l : Int} (h1 : 0 ≤ a) (h2 : a ≤ m) (h3 : 0 ≤ l) : Pen (upd H p (penO c a l)) p c ns m :=
  ⟨⟨a, l, upd_same, h1, h2, h3⟩, by rw [upd_ne h.ne]; exact h.cells, h.small⟩

def spDraw : Sp := fun vs H Q _ => ∃ (p c : Addr) (ns : List Int) (n : Nat) (m : Int), vs = [.ref p, .int m] ∧ Pen H p c ns n ∧ n ≤ 100000 ∧ 0 < m ∧ m < 1073741824 ∧
  ∀ (v : Int) (H' : Hp), 0 ≤ v → v < m → Keep p H H' → Pen H' p c ns (n + 1) → Q (.int v) H'

section
variable {P : Program} {w : World} {K : PySem.W.Frag} {mg : Str → Option Value} {base : Heap}
abbrev nDraw : List Str := ["_law_pen_here", "_law_many", "_law_digit", "_law_at", "_law_cell", "_law_great", "_law_mixed"]
theorem scDraw : FnScope nDraw ["_law_pen_here", "_law_many"] (defScope sDraw) := ⟨rfl, rfl, rfl, by decide +kernel, rfl, by decide +kernel, by decide +kernel⟩
theorem fmod_lo {a m : Int} (h : 0 < m) : 0 ≤ a.fmod m := Int.fmod_nonneg_of_pos a h
theorem fmod_hi {a m : Int} (h : 0 < m) : a.fmod m < m := Int.fmod_lt_of_pos a h
theorem fdiv_nn {a m : Int} (ha : 0 ≤ a) (h : 0 < m) : 0 ≤ a.fdiv m := Int.fdiv_nonneg ha (Int.le_of_lt h)
theorem mul_bnd {x y X Y : Int} (h1 : 0 ≤ x) (h2 : x ≤ X) (h3 : 0 ≤ y) (h4 : y ≤ Y) : 0 ≤ x * y ∧ x * y ≤ X * Y :=
  ⟨Int.mul_nonneg h1 h3, Int.mul_le_mul h2 h4 h3 (Int.le_trans h1 h2)⟩
theorem ints_dp (K : PySem.W.Frag) (H : Hp) : ∀ ns : List Int, DpAll K H (ns.map V.int) (ns.map PyData.int)
  | [] => .nil
  | n :: ns => .cons (.int n) (ints_dp K H ns)
theorem canLay_ints : ∀ ns : List Int, PyData.canLayAll0 (ns.map PyData.int) = true
  | [] => rfl
  | n :: ns => by
    show (true && PyData.canLayAll0 (ns.map PyData.int)) = true
    rw [canLay_ints ns]
    rfl
theorem depth_ints : ∀ ns : List Int, PyData.depthAll (ns.map PyData.int) = 0
  | [] => rfl
  | n :: ns => by
    show max 0 (PyData.depthAll (ns.map PyData.int)) = 0
    rw [depth_ints ns]
    rfl
theorem shaped_ints (ns : List Int) : SeqAt.shaped (.list (ns.map PyData.int)) = true := by
  show (PyData.canLayAll0 (ns.map PyData.int) && decide (PyData.depthAll (ns.map PyData.int) + 1 ≤ 64)) = true
  rw [canLay_ints, depth_ints]
  rfl
theorem eqv_nil (ns : List Int) : (!PyData.eqv (.list (ns.map PyData.int)) (.list [])) = !ns.isEmpty := by
  cases ns <;> rfl
theorem len_pos_lt {n : Nat} {a : Int} (h : 0 < n) : 0 ≤ a.fmod (n : Int) ∧ a.fmod (n : Int) < n := ⟨fmod_lo (by omega), fmod_hi (by omega)⟩
theorem fmod64 {x m : Int} (h : 0 < m) (h2 : m ≤ 4294967296) : -(2 ^ 64) < x.fmod m ∧ x.fmod m < 2 ^ 64 := by
  have h1 := fmod_lo (a := x) h
  have h3 := fmod_hi (a := x) h
  omega
theorem pen_cells {H : Hp} {p c : Addr} {a l : Int} (h : H p = some (penO c a l)) : DGet H p (.str "cells") (some (.ref c)) := DGet.k (k := .inr "cells") h
theorem pen_next {H : Hp} {p c : Addr} {a l : Int} (h : H p = some (penO c a l)) : DGet H p (.str "next") (some (.int a)) := DGet.k (k := .inr "next") h
theorem pen_rest {H : Hp} {p c : Addr} {a l : Int} (h : H p = some (penO c a l)) : DGet H p (.str "rest") (some (.int l)) := DGet.k (k := .inr "rest") h
theorem ok_draw {f : Addr} {fd : FuncData} (F : Fun K "_law_draw" "_law_draw" sDraw f fd) (T : Bi mg) : FnOk P w K mg base CX0 1 f fd ["_law_pen_here", "_law_many"] spDraw := by
  refine F.ok scDraw (fun vs H Q E h => ?_) (fun cdv A outer s H vs Q E hr h => ?_)
  · obtain ⟨p, c, ns, n, m, rfl, _⟩ := h
    rfl
  · obtain ⟨p, c, ns, n, m, rfl, hP, hn, m0, m1, k⟩ := h
    have hu := hu_of hr
    have hmne : m ≠ 0 := by omega
    have hmab : m.natAbs < 1073741824 := by omega
    obtain ⟨a, l, hp, a0, an, l0⟩ := hP.pen
    refine ⟨_, (pss_cons (ps_if (pt_cmpR op_gt (pe_dget hu (pv 0) pe_str (fun _ _ => rfl)) pe_int (nomark _))
      (pss_cons (ps_set (i := 2) scDraw.nd rfl (Or.inl rfl) (pe_op op_modN (pe_callTy call_int1 (by rfl) T.int (by decide +kernel) (pa_cons (pe_dget hu (pv 0) pe_str (fun _ _ => rfl)) pa_nil)) (pv 1)))
        (pss_cons (ps_dput hu (pv 0) pe_str (pe_op op_fdivN (pe_callTy call_int1 (by rfl) T.int (by decide +kernel) (pa_cons (pe_dget hu (pv 0) pe_str (fun _ _ => rfl)) pa_nil)) (pv 1)) rfl)
        (pss_one (ps_ret (pv 2)))))
      pss_nil)
      (pss_cons (ps_set (i := 3) scDraw.nd rfl (Or.inl rfl) (pe_dget hu (pv 0) pe_str (fun _ _ => rfl)))
      (pss_cons (ps_dput hu (pv 0) pe_str (pe_op op_add (pv 3) pe_int) rfl)
      (pss_cons (ps_set (i := 4) scDraw.nd rfl (Or.inl rfl) (pe_op op_add (pe_op op_mul pe_int (pv 3)) pe_int))
      (pss_cons (ps_if (pt_cmpR (op_neD hr.units) (pe_dget hu (pv 0) pe_str (fun _ _ => rfl)) (pe_lst pa_nil) (nomark _))
      (pss_one (ps_set (i := 4) scDraw.nd rfl (Or.inl rfl) (pe_ix ix_list (pe_dget hu (pv 0) pe_str (fun _ _ => rfl)) (pe_op op_modN (pe_callTy call_int1 (by rfl) T.int (by decide +kernel) (pa_cons (pv 3) pa_nil)) (pe_callB call_len_seq (by rfl) T.len PySem.boot_len (pa_cons (pe_dget hu (pv 0) pe_str (fun _ _ => rfl)) pa_nil))) (fun _ _ => rfl))))
      pss_nil)
      (pss_cons (ps_if (PW.pt (pw_and (pt_cmpR op_lt (pv 3) (pe_callB call_len_seq (by rfl) T.len PySem.boot_len (pa_cons (pe_dget hu (pv 0) pe_str (fun _ _ => rfl)) pa_nil)) (nomark _)) (pw_and1 (pt_cmpR op_ge (pe_callB call_abs (by rfl) T.abs (by decide +kernel) (pa_cons (pv 4) pa_nil)) (pe_op op_pow pe_int pe_int) (nomark _)))))
      (pss_cons (ps_set (i := 5) scDraw.nd rfl (Or.inl rfl) (pe_op op_add (pe_op op_mul pe_int (pe_callB call_abs (by rfl) T.abs (by decide +kernel) (pa_cons (pv 4) pa_nil))) (pe_callTy call_int1 (by rfl) T.int (by decide +kernel) (pa_cons (pe_cmpR op_lt (pv 4) pe_int (nomark _)) pa_nil))))
        (pss_cons (ps_dput hu (pv 0) pe_str (pe_op op_fdivN (pv 5) (pv 1)) rfl)
        (pss_one (ps_ret (pe_op op_modN (pe_callTy call_int1 (by rfl) T.int (by decide +kernel) (pa_cons (pv 5) pa_nil)) (pv 1))))))
      pss_nil)
      (pss_cons (ps_set (i := 6) scDraw.nd rfl (Or.inl rfl) (pe_op op_add (pe_op op_add (pe_op op_add (pe_op op_mul (pe_op op_modN (pe_callTy call_int1 (by rfl) T.int (by decide +kernel) (pa_cons (pv 4) pa_nil)) pe_int) pe_int) (pe_op op_mul (pe_op op_mul pe_int (pv 3)) (pv 3))) (pe_op op_mul pe_int (pv 3))) pe_int))
      (pss_cons (ps_set (i := 6) scDraw.nd rfl (Or.inl rfl) (pe_op op_modN (pe_callTy call_int1 (by rfl) T.int (by decide +kernel) (pa_cons (pv 6) pa_nil)) pe_int))
      (pss_cons (ps_set (i := 6) scDraw.nd rfl (Or.inl rfl) (pe_op op_modN (pe_callTy call_int1 (by rfl) T.int (by decide +kernel) (pa_cons (pe_op op_mul (pv 6) (pe_op op_add (pe_op op_add (pe_op op_fdivN (pv 6) pe_int) (pe_op op_mul pe_int (pv 3))) pe_int)) pa_nil)) pe_int))
      (pss_cons (ps_set (i := 6) scDraw.nd rfl (Or.inl rfl) (pe_op op_modN (pe_callTy call_int1 (by rfl) T.int (by decide +kernel) (pa_cons (pe_op op_add (pe_op op_mul (pv 6) (pv 6)) (pe_op op_mul pe_int (pv 3))) pa_nil)) pe_int))
      (pss_one (ps_ret (pe_op op_modN (pe_callTy call_int1 (by rfl) T.int (by decide +kernel) (pa_cons (pe_op op_fdivN (pv 6) pe_int) pa_nil)) (pv 1)))))))))))))), ?_⟩
    have pz : (3 : Nat) < sizeLine := by show 3 < 16777216; decide
    refine ⟨_, rfl, p, _, rfl, pen_rest hp, _, _, rfl, rfl, _, rfl, ite2 (fun hg => ?_) (fun hg => ?_)⟩
    · have hl := of_decide_eq_true hg
      refine ⟨_, rfl, p, _, rfl, pen_rest hp, .inl ⟨_, rfl, _, rfl, _, _, rfl, rfl, hmne, ?_⟩⟩
      refine ⟨_, rfl, p, _, rfl, pen_rest hp, .inl ⟨_, rfl, _, rfl, _, _, rfl, rfl, ⟨hmne, hmab⟩, _, rfl, p, _, rfl, DPut.k (k := .inr "rest") hp pz, _, rfl, ?_⟩⟩
      refine k _ _ (fmod_lo m0) (fmod_hi m0) (Keep.refl _ _).at ?_
      exact hP.set a0 (by omega) (fdiv_nn l0 m0)
    · have hat : a ≤ 100000 := by omega
      refine ⟨_, rfl, p, _, rfl, pen_next hp, _, rfl, _, _, rfl, rfl, _, rfl, p, _, rfl, DPut.k (k := .inr "next") hp pz, ?_⟩
      generalize hH1 : upd H p (HO.dK (putK (kvsP c a l) (.inr "next") ((fun i j => V.int (i + j)) a 1))) = H1
      replace hH1 : upd H p (penO c (a + 1) l) = H1 := hH1
      have hp1 : H1 p = some (penO c (a + 1) l) := by rw [← hH1]; exact upd_same
      have hc1 : H1 c = some (.lst (ns.map V.int)) := by rw [← hH1, upd_ne hP.ne]; exact hP.cells
      have k1 : Keep p H H1 := by rw [← hH1]; exact (Keep.refl p H).at
      refine ⟨_, rfl, _, _, rfl, rfl, .inl ⟨by decide, by decide⟩, _, _, rfl, rfl, ?_⟩
      refine ⟨_, rfl, p, _, rfl, pen_cells hp1, Nat.zero_le _, fun e he => ?_⟩
      have he0 : H e = none := by
        cases q : H e with
        | none => rfl
        | some o =>
          by_cases ep : e = p
          · rw [ep, hp1] at he; cases he
          · rw [k1 e o q ep] at he; cases he
      have hp2 : (upd H1 e (.lst [])) p = some (penO c (a + 1) l) := by rw [upd_ne (ne_of_none hp1 he)]; exact hp1
      have hc2 : (upd H1 e (.lst [])) c = some (.lst (ns.map V.int)) := by rw [upd_ne (ne_of_none hc1 he)]; exact hc1
      have k2 : Keep p H (upd H1 e (.lst [])) := k1.new he0
      have P2 : Pen (upd H1 e (.lst [])) p c ns (n + 1) := ⟨⟨a + 1, l, hp2, by omega, by omega, l0⟩, hc2, hP.small⟩
      have hee : (upd H1 e (.lst [])) e = some (.lst []) := upd_same
      generalize hH2 : upd H1 e (.lst []) = H2 at hp2 hc2 k2 P2 hee ⊢
      refine ⟨.list (ns.map PyData.int), .list [], .lst (SqL.of hc2) (ints_dp _ _ ns), .lst (SqL.of hee) .nil, shaped_ints ns, rfl, _, rfl, ?_⟩
      rw [eqv_nil]
      have hzc : ∀ j : Nat, j < ns.length → ∃ z : Int, (ns.map V.int)[j]? = some (V.int z) := fun j hj => ⟨ns[j], by rw [List.getElem?_map, List.getElem?_eq_getElem hj]; rfl⟩
      refine ite2 (fun hb => ?b1) (fun hb => ?b2)
      case' b1 =>
        have hlen : 0 < ns.length := by
          cases ns with
          | nil => cases hb
          | cons z r => simp
        have hlen2 : (0 : Int) < ((ns.map V.int).length : Int) := by rw [List.length_map]; omega
        obtain ⟨j, hj⟩ : ∃ j : Nat, a.fmod ((ns.map V.int).length : Int) = (j : Int) := ⟨(a.fmod ((ns.map V.int).length : Int)).toNat, (Int.toNat_of_nonneg (fmod_lo hlen2)).symm⟩
        have hj2 : j < ns.length := by
          have := fmod_hi (a := a) hlen2
          rw [hj, List.length_map] at this
          omega
        obtain ⟨z, hz⟩ := hzc j hj2
        refine ⟨_, rfl, p, _, rfl, pen_cells hp2, _, rfl, .inl ⟨_, rfl, _, rfl, p, _, rfl, pen_cells hp2, c, _, rfl, .inl (SqL.of hc2), _, _, rfl, rfl, by omega, c, _, _, _, rfl, rfl, SqL.of hc2, at_of hj hz, ?_⟩⟩
      case' b2 => generalize hz9 : (fun i j => V.int (i + j)) (6947 * a) 521 = zz; replace hz9 : zz = .int (6947 * a + 521) := hz9.symm; subst hz9; generalize 6947 * a + 521 = z
      all_goals
        have pw15 : (10 : Int) ^ (15 : Int).toNat = 1000000000000000 := by decide
        have tl : ∀ (v : Int), 0 ≤ v → v < m → Q (.int v) H2 := fun v h0 h1 => k v H2 h0 h1 k2 P2
        refine (fun t => ⟨_, rfl, _, rfl, p, _, rfl, pen_cells hp2, c, _, rfl, .inl (SqL.of hc2), _, _, rfl, rfl, _, rfl, ite2 (fun hq1 =>
          ⟨_, rfl, _, rfl, _, _, rfl, rfl, ⟨by decide, by decide, by decide⟩, _, _, rfl, rfl, _, rfl, ite2 (fun hq2 => ?_) (fun _ => t)⟩) (fun _ => iteF t)⟩) ?_
        · have z1 := fmod_lo (a := z) (m := 2147483629) (by decide)
          have z2 := fmod_hi (a := z) (m := 2147483629) (by decide)
          refine ⟨_, rfl, .inl ⟨_, rfl, _, _, rfl, rfl, (by show (2147483629 : Int) ≠ 0; decide), _, _, rfl, rfl, .inr ⟨by decide, by decide⟩, _, rfl, _, _, rfl, rfl, .inl ⟨by decide, by decide⟩, _, rfl, _, _, rfl, rfl, .inl ⟨by omega, by omega⟩, _, _, rfl, rfl, _, rfl, _, _, rfl, rfl, .inl ⟨by decide, by decide⟩, _, _, rfl, rfl, _, _, rfl, rfl, ?_⟩⟩
          generalize hm0 : (fun i j : Int => V.int (i + j)) _ (167 : Int) = m0'
          replace hm0 := hm0.symm
          obtain ⟨y0, rfl⟩ : ∃ y0 : Int, m0' = V.int y0 := ⟨_, hm0⟩
          clear hm0
          refine ⟨_, rfl, .inl ⟨_, rfl, _, _, rfl, rfl, (by show (2147483647 : Int) ≠ 0; decide), ?_⟩⟩
          refine ⟨_, rfl, _, rfl, _, _, rfl, rfl, ⟨by decide, by decide⟩, _, rfl, _, _, rfl, rfl, .inl ⟨by decide, by decide⟩, _, _, rfl, rfl, _, _, rfl, rfl, _, _, rfl, rfl, .inl (fmod64 (by decide) (by decide)), .inl ⟨_, rfl, _, _, rfl, rfl, (by show (2147483587 : Int) ≠ 0; decide), ?_⟩⟩
          refine ⟨_, rfl, _, rfl, _, _, rfl, rfl, .inl (fmod64 (by decide) (by decide)), _, rfl, _, _, rfl, rfl, .inl ⟨by decide, by decide⟩, _, _, rfl, rfl, .inl ⟨_, rfl, _, _, rfl, rfl, (by show (2147483563 : Int) ≠ 0; decide), ?_⟩⟩
          refine ⟨_, rfl, _, _, rfl, rfl, ⟨by decide, by decide⟩, .inl ⟨_, rfl, _, rfl, _, _, rfl, rfl, hmne, tl _ (fmod_lo m0) (fmod_hi m0)⟩⟩
        · have hge := of_decide_eq_true hq2
          refine ⟨_, rfl, _, rfl, _, _, rfl, rfl, .inl ⟨by decide, by decide⟩, _, rfl, _, _, rfl, rfl, .inr ⟨_, rfl, _, _, rfl, rfl, ?_⟩⟩
          refine ⟨_, rfl, _, rfl, _, _, rfl, rfl, ⟨hmne, hmab⟩, _, rfl, p, _, rfl, DPut.k (k := .inr "rest") hp2 pz, _, rfl, .inl ⟨_, rfl, _, rfl, _, _, rfl, rfl, hmne, ?_⟩⟩
          refine k _ _ (fmod_lo m0) (fmod_hi m0) k2.at (P2.set (by omega) (by omega) (fdiv_nn ?_ m0))
          split at hge <;> split <;> omega
end
end K2
end
section
set_option Elab.async false
set_option maxRecDepth 100000
set_option linter.all false
namespace K2
open PySem L2
abbrev sBarred : Stmt := top 23
abbrev sWords : Stmt := top 24
/-- a def of the program: its text, where it stands, how it binds -/
structure Df (K : PySem.W.Frag) (mg : Str → Option Value) (x : Str) (st : Stmt) (f : Addr) (fd : FuncData) (ps : List Str) : Prop where
  F : Fun K x x st f fd
  m : mg x = some (.ref f)
  b : Binds K fd ps []
/-- a list of the heap, or a text: its items -/
def SeqV (p : Addr) (H : Hp) (y : V) (xs : List V) : Prop := (∃ l, y = .ref l ∧ l ≠ p ∧ H l = some (.lst xs)) ∨ (∃ z : Str, y = .str z ∧ xs = (codes z).map (fun c => V.str ⟨#[c]⟩) ∧ z.length ≤ 100) ∨ (∃ t, y = .ref t ∧ t ≠ p ∧ H t = some (.tup xs))
def spPick : Sp := fun vs H Q _ => ∃ (p c : Addr) (ns : List Int) (n : Nat) (y : V) (xs : List V), vs = [.ref p, y] ∧ Pen H p c ns n ∧ n ≤ 100000 ∧ SeqV p H y xs ∧ xs ≠ [] ∧ xs.length ≤ 1000 ∧
  ∀ (j : Nat) (v : V) (H' : Hp), xs[j]? = some v → Keep p H H' → Pen H' p c ns (n + 1) → Q v H'
def spBarred : Sp := fun vs H Q _ => vs = [] ∧ ∀ l, H l = none → Q (.ref l) (upd H l (.lst (barred.map V.str)))
section
variable {P : Program} {w : World} {K : PySem.W.Frag} {mg : Str → Option Value} {base : Heap}
theorem scBarred : FnScope ["_law_text"] [] (defScope sBarred) := ⟨rfl, rfl, rfl, by decide +kernel, rfl, by decide +kernel, by decide +kernel⟩
end
end K2
end
section
set_option Elab.async false
set_option maxRecDepth 100000
set_option linter.all false
namespace K2
open PySem L2
theorem str_eqV (a b : Str) : eqV (.str a) (.str b) = decide (a = b) := by
  show (a == b) = decide (a = b)
  by_cases h : a = b
  · simp [h]
  · simp [h]
theorem inV_strs (x : Str) : ∀ ys : List Str, inV (.str x) (ys.map V.str) = decide (x ∈ ys)
  | [] => rfl
  | y :: ys => by
    show (eqV (.str y) (.str x) || inV (.str x) (ys.map V.str)) = decide (x ∈ y :: ys)
    rw [inV_strs x ys, str_eqV]
    by_cases h : y = x
    · subst h; simp
    · have h2 : ¬ x = y := fun e => h e.symm
      simp [h, h2]
theorem flat_strs : ∀ ys : List Str, (ys.map V.str).all flatV = true
  | [] => rfl
  | y :: ys => by
    show (true && (ys.map V.str).all flatV) = true
    rw [flat_strs ys]
    rfl
theorem codes_append (x y : Str) : codes (x ++ y) = codes x ++ codes y := TL.tl_append x y
theorem codes_one (c : Nat) : codes ⟨#[c]⟩ = [c] := rfl
theorem len_codes (x : Str) : x.length = (codes x).length := by
  show x.cps.size = x.cps.toList.length
  simp
theorem join_ones : ∀ l : List Nat, codes (Txt.join Str.empty (l.map fun c => (⟨#[c]⟩ : Str))) = l := by
  intro l
  rw [TL.join_eq]
  show TL.tl (Str.join Str.empty _) = l
  rw [TL.tl_join]
  show TL.joinL [] _ = l
  induction l with
  | nil => rfl
  | cons c l ih =>
    cases l with
    | nil => rfl
    | cons d l =>
      show [c] ++ ([] ++ TL.joinL [] _) = _
      rw [List.nil_append]
      show [c] ++ TL.joinL [] (List.map TL.tl (List.map (fun c => (⟨#[c]⟩ : Str)) (d :: l))) = c :: d :: l
      rw [ih]
      rfl
theorem cut_to {z : Str} {k : Nat} (h : k ≤ (codes z).length) : codes (cutS z none (some (k : Int))) = (codes z).take k := by
  unfold cutS codes
  rw [HT.sIx_nat, HT.sIx_none]
  have e : z.length = z.cps.toList.length := len_codes z
  have h' : k ≤ z.cps.toList.length := h
  simp only [List.drop_zero, Nat.sub_zero]
  rw [Nat.min_eq_left (by omega)]
theorem cut_from {z : Str} {k : Nat} (h : k ≤ (codes z).length) : codes (cutS z (some (k : Int)) none) = (codes z).drop k := by
  unfold cutS codes
  rw [HT.sIx_nat, HT.sIx_none]
  have e : z.length = z.cps.toList.length := len_codes z
  have h' : k ≤ z.cps.toList.length := h
  rw [Nat.min_eq_left (by omega), e]
  simp only []
  rw [List.take_of_length_le (by rw [List.length_drop]; omega)]
theorem Pen.pne {H : Hp} {p c q : Addr} {ns : List Int} {n : Nat} (h : Pen H p c ns n) (hq : H q = none) : p ≠ q := by
  obtain ⟨a, l, g, _⟩ := h.pen
  exact ne_of_none g hq
theorem Pen.cne {H : Hp} {p c q : Addr} {ns : List Int} {n : Nat} (h : Pen H p c ns n) (hq : H q = none) : c ≠ q := ne_of_none h.cells hq
theorem Keep.fresh {p c q : Addr} {ns : List Int} {n : Nat} {H H1 : Hp} (k : Keep p H H1) (P1 : Pen H1 p c ns n) (h : H1 q = none) : H q = none := by
  cases e : H q with
  | none => rfl
  | some o =>
    rw [k q o e (P1.pne h).symm] at h
    cases h
section
variable {X : Cx}
theorem mulOk_small {x : Str} {k : Int} (h0 : 0 ≤ k) (h1 : k ≤ 8) (hx : x.length ≤ 8) : MulOk x k := by
  refine ⟨?_, fun _ _ => ?_, fun _ _ => ?_⟩
  · simp only [Bool.or_eq_false_iff, decide_eq_false_iff_not]
    omega
  · have : k = 0 ∨ k = 1 ∨ k = 2 ∨ k = 3 ∨ k = 4 ∨ k = 5 ∨ k = 6 ∨ k = 7 ∨ k = 8 := by omega
    rcases this with rfl | rfl | rfl | rfl | rfl | rfl | rfl | rfl | rfl <;> omega
  · unfold Builtin.Str.tooLong
    rw [decide_eq_false_iff_not]
    have h2 : x.length * k.toNat ≤ 8 * 8 := Nat.mul_le_mul hx (by omega)
    have : sizeLine = 16777216 := rfl
    omega
/-! the same rules with the written part named apart (within a comprehension) -/
theorem pe_bmK {K' : PySem.W.Frag} {T : String} {name : Str} {id : String} {r : V → List V → Hp → VK → Prop} {o e : Expr} {es : List Expr} {to : TE} {t : TA} {apos cpos : Pos} (hK : X.K = K') (pa : PlainAttrs T) (slot : PySem.Slot T name id) (hty : typeOf (.builtin id) = pure (.type "method_descriptor")) (hm : MtR X id r) (ho : PE X o to) (ha : PA X (e :: es) t)
    (hbase : attributeBase o name X.env (eval o X.env) = eval o X.env := by rfl)
    (hfew : ((backTo cpos (starEach (e :: es) X.env)).all (fun x => !x.1) && (backToKw cpos (keywordEach [] X.env)).all (fun x => x.1.isSome)
      && decide ((e :: es).length + ([] : List Keyword).length + (if ([] : List Keyword).isEmpty then 0 else 1) < 30)) = true := by rfl)
    (hline : (apos.endLine == cpos.line) = true := by rfl) (hs : starEach (e :: es) X.env = (false, eval e X.env) :: starEach es X.env := by rfl) (hplain : (backTo cpos (starEach es X.env)).any (·.1) = false := by rfl) :
    PE X (.Call (.Attribute o name apos) (e :: es) [] cpos) (tBM K' T r to t) := by
  subst hK
  exact pe_bm pa slot hty hm ho ha hbase hfew hline hs hplain
theorem call_len_seqK {K' : PySem.W.Frag} (hK : X.K = K') : CallR X (.builtin "len") (fun xs H Q => ∃ p ys, xs = [V.ref p] ∧ (SqL K' H p ys ∨ SqT K' H p ys) ∧ Q (.int ys.length) H) := by
  subst hK
  exact call_len_seq
theorem ix_listK {K' : PySem.W.Frag} (hK : X.K = K') : IxR X (rIxL K') := by
  subst hK
  exact ix_list
theorem op_in_seqK {K' : PySem.W.Frag} (hK : X.K = K') : OpR X (compareOp .In) (rIn K' false) := by
  subst hK
  exact op_in_seq
theorem op_notIn_seqK {K' : PySem.W.Frag} (hK : X.K = K') : OpR X (compareOp .NotIn) (rIn K' true) := by
  subst hK
  exact op_notIn_seq
theorem op_mul_str : OpR X (binaryOp .Mult) (fun x y H Q => ∃ a k, x = .str a ∧ y = .int k ∧ 0 ≤ k ∧ k ≤ 8 ∧ a.length ≤ 8 ∧ Q (.str (Txt.mul a k)) H) := by
  intro pins s σ H x y v u Q I rx ry h
  obtain ⟨a, k, rfl, rfl, h0, h1, hx, q⟩ := h
  obtain ⟨t, rfl⟩ := rx
  obtain ⟨t', rfl⟩ := ry
  exact SB.mul (mulOk_small h0 h1 hx) (fun t' tk => ⟨.str (Txt.mul a k), H, I.tok _, ⟨_, rfl⟩, q⟩)
end
end K2
end
section
set_option Elab.async false
set_option maxRecDepth 100000
set_option linter.all false
namespace K2
open PySem L2
theorem low_letters : ∀ c ∈ codes (Str.ofString "abcdefghijklmnopqrstuvwxyz"), 97 ≤ c ∧ c ≤ 122 := by decide +kernel
theorem at_letters : ∀ j, j < 26 → (codes (Str.ofString "abcdefghijklmnopqrstuvwxyz"))[j]? = some (97 + j) := by decide +kernel
theorem sum_ones : ∀ l : List Nat, (((l.map fun c => (⟨#[c]⟩ : Str)).map (·.length)).sum) = l.length
  | [] => rfl
  | c :: l => by
    rw [List.map_cons, List.map_cons, List.sum_cons, sum_ones l, List.length_cons]
    show 1 + l.length = l.length + 1
    omega
theorem if01 (c : Bool) : 0 ≤ (if c = true then (1 : Int) else 0) ∧ (if c = true then (1 : Int) else 0) ≤ 8 := by cases c <;> decide
theorem fin_q {W : Str} {b : List Nat} {spot f h i : Nat} (e : codes W = wordAt b spot (signAt f h i)) (hi : 26 ≤ i) : W ++ Str.ofString "q" = txt (finalAt b spot f h i) := by
  refine codes_inj ?_
  rw [codes_append, codes_txt, e]
  unfold finalAt
  dsimp only
  rw [if_pos hi]
  rfl
theorem fin_z {W : Str} {b : List Nat} {spot f h i : Nat} (e : codes W = wordAt b spot (signAt f h i)) (hi : ¬ 26 ≤ i) : W ++ Txt.mul (Str.ofString "z") (if W ∈ barred then 1 else 0) = txt (finalAt b spot f h i) := by
  refine codes_inj ?_
  have eW : txt (wordAt b spot (signAt f h i)) = W := by rw [← e, txt_codes]
  rw [codes_append, codes_txt, e]
  unfold finalAt
  dsimp only
  rw [if_neg hi, eW]
  congr 1
  by_cases hb : W ∈ barred
  · rw [if_pos hb, if_pos hb]
    decide +kernel
  · rw [if_neg hb, if_neg hb]
    decide +kernel
theorem finals_succ (b : List Nat) (spot f h i : Nat) : finals b spot f h (i + 1) = finals b spot f h i ++ [txt (finalAt b spot f h i)] := by
  unfold finals
  rw [List.range_succ, List.map_append]
  rfl
/-- a fresh list of m words -/
def spWords : Sp := fun vs H Q _ => ∃ (p c : Addr) (ns : List Int) (n m : Nat), vs = [.ref p, .int m] ∧ Pen H p c ns n ∧ n + 12 ≤ 100000 ∧ m ≤ 31 ∧
  ∀ (l : Addr) (ws : List Str) (H' : Hp), Words ws → ws.length = m → H' l = some (.lst (ws.map V.str)) → Keep p H H' → Pen H' p c ns (n + 12) → Q (.ref l) H'
abbrev nWords : List Str := ["_law_pen_here", "_law_many", "_law_letters", "_law_k", "_law_base", "_law_spot", "_law_first", "_law_hop", "_law_found", "_law_sign", "_law_word", "_law_more"]
section
variable {P : Program} {w : World} {K : PySem.W.Frag} {mg : Str → Option Value} {base : Heap}
theorem scWords : FnScope nWords ["_law_pen_here", "_law_many"] (defScope sWords) := ⟨rfl, rfl, rfl, by decide +kernel, rfl, by decide +kernel, by decide +kernel⟩
end
end K2
end
section
set_option Elab.async false
set_option maxRecDepth 100000
set_option linter.all false
namespace K2
open PySem L2
theorem mul8 (ch : Nat) : Txt.mul (⟨#[ch]⟩ : Str) 8 = txt (List.replicate 8 ch) := by rfl
theorem cut_rep {ch k : Nat} (h : k < 8) : cutS (txt (List.replicate 8 ch)) none (some ((0 + (k : Int)) + 1)) = txt (List.replicate (k + 1) ch) := by
  refine codes_inj ?_
  have e : (0 + (k : Int)) + 1 = ((k + 1 : Nat) : Int) := by omega
  rw [e, cut_to (by rw [codes_txt, List.length_replicate]; omega), codes_txt, codes_txt, List.take_replicate]
  congr 1
  omega
theorem cut_first {x : Str} (h : VW x) : ∃ ch, 97 ≤ ch ∧ ch ≤ 122 ∧ cutS x none (some 1) = ⟨#[ch]⟩ := by
  have hne := h.ne
  cases hc : codes x with
  | nil => exact absurd hc hne
  | cons ch r =>
    have hl := h.low ch (by rw [hc]; simp)
    refine ⟨ch, hl.1, hl.2, codes_inj ?_⟩
    rw [show (1 : Int) = ((1 : Nat) : Int) from rfl, cut_to (by rw [hc]; simp), hc]
    rfl
theorem reps_succ (ch i : Nat) : reps ch (i + 1) = reps ch i ++ [txt (List.replicate (i + 1) ch)] := by
  unfold reps
  rw [List.range_succ, List.map_append]
  rfl
def spBegun : Sp := fun vs H Q _ => ∃ (p c : Addr) (ns : List Int) (n m : Nat), vs = [.ref p, .int m] ∧ Pen H p c ns n ∧ n + 14 ≤ 100000 ∧ m ≤ 31 ∧
  ∀ (l : Addr) (ws : List Str) (H' : Hp), Words ws → ws.length = m → H' l = some (.lst (ws.map V.str)) → Keep p H H' → Pen H' p c ns (n + 14) → Q (.ref l) H'
abbrev nBegun : List Str := ["_law_pen_here", "_law_many", "_law_found", "_law_whole", "_law_some", "_law_k"]
section
variable {P : Program} {w : World} {K : PySem.W.Frag} {mg : Str → Option Value} {base : Heap}
end
end K2
end
section
set_option Elab.async false
set_option maxRecDepth 100000
set_option linter.all false
namespace K2
open PySem L2
theorem perm_erase {α : Type} : ∀ (l : List α) (k : Nat) (h : k < l.length), ([l[k]] ++ l.eraseIdx k).Perm l
  | [], k, h => absurd h (Nat.not_lt_zero _)
  | a :: l, 0, h => List.Perm.refl _
  | a :: l, k + 1, h => by
    have ih := perm_erase l k (Nat.lt_of_succ_lt_succ h)
    show (l[k]'(Nat.lt_of_succ_lt_succ h) :: (a :: l.eraseIdx k)).Perm (a :: l)
    exact (List.Perm.swap a _ _).trans (List.Perm.cons a ih)
theorem map_erase {α β : Type} (f : α → β) : ∀ (l : List α) (k : Nat), (l.map f).eraseIdx k = (l.eraseIdx k).map f
  | [], k => by simp
  | a :: l, 0 => rfl
  | a :: l, k + 1 => by
    show f a :: (l.map f).eraseIdx k = f a :: (l.eraseIdx k).map f
    rw [map_erase f l k]
def spMixed : Sp := fun vs H Q _ => ∃ (p c y : Addr) (ns : List Int) (n : Nat) (xs : List Str), vs = [.ref p, .ref y] ∧ Pen H p c ns n ∧ n + 40 ≤ 100000 ∧ H y = some (.lst (xs.map V.str)) ∧ xs.length ≤ 33 ∧
  ∀ (l : Addr) (ys : List Str) (H' : Hp), ys.Perm xs → H' l = some (.lst (ys.map V.str)) → Keep p H H' → Pen H' p c ns (n + xs.length) → Q (.ref l) H'
abbrev nMixed : List Str := ["_law_pen_here", "_law_some", "_law_left", "_law_k"]
section
variable {P : Program} {w : World} {K : PySem.W.Frag} {mg : Str → Option Value} {base : Heap}
theorem mt_popAtR (X : Cx) : MtR X "list.pop" rPopAt := mt_popAt
theorem six {k n : Nat} (h : k < n) : seqIndex? (k : Int) n = some k := by
  unfold seqIndex?
  simp
  omega
/-- a row of the heap -/
def rowO (r : Row) : HO := .tup ((r.1 :: r.2).map V.str)
def RowsAt (H : Hp) (ts : List Addr) (rs : List Row) : Prop := ts.length = rs.length ∧ ∀ (i : Nat) (t : Addr) (r : Row), ts[i]? = some t → rs[i]? = some r → H t = some (rowO r)
theorem RowsAt.mono {H H' : Hp} {ts : List Addr} {rs : List Row} (h : RowsAt H ts rs) (k : ∀ b r, H b = some (rowO r) → H' b = some (rowO r)) : RowsAt H' ts rs := ⟨h.1, fun i t r a b => k t r (h.2 i t r a b)⟩
theorem rowsAt_nil (H : Hp) : RowsAt H [] [] := ⟨rfl, fun i t r a => by simp at a⟩
theorem RowsAt.snoc {H : Hp} {ts : List Addr} {rs : List Row} {t : Addr} {r : Row} (h : RowsAt H ts rs) (ht : H t = some (rowO r)) : RowsAt H (ts ++ [t]) (rs ++ [r]) := by
  refine ⟨by simp [h.1], fun i u q a b => ?_⟩
  by_cases hi : i < ts.length
  · rw [List.getElem?_append_left hi] at a
    rw [List.getElem?_append_left (by rw [← h.1]; exact hi)] at b
    exact h.2 i u q a b
  · rw [List.getElem?_append_right (by omega)] at a
    rw [List.getElem?_append_right (by have := h.1; omega)] at b
    have : i - ts.length = 0 := by
      have := (List.getElem?_eq_some_iff.mp a).1
      simpa using this
    rw [this] at a
    rw [← h.1, this] at b
    simp at a b
    subst a b
    exact ht
theorem row_ne_pen {r : Row} {c : Addr} {a l : Int} : rowO r ≠ penO c a l := by
  unfold rowO penO
  intro e
  cases e
theorem Pen.row_ne {H : Hp} {p c q : Addr} {ns : List Int} {n : Nat} {r : Row} (h : Pen H p c ns n) (hq : H q = some (rowO r)) : q ≠ p := fun e => by
  obtain ⟨a, l, g, _⟩ := h.pen
  rw [e, g] at hq
  exact row_ne_pen (Option.some.inj hq).symm
theorem RowsAt.keep {H H' : Hp} {p c : Addr} {ns : List Int} {n : Nat} {ts : List Addr} {rs : List Row} (h : RowsAt H ts rs) (P : Pen H p c ns n) (k : Keep p H H') : RowsAt H' ts rs := h.mono fun b r e => k b _ e (P.row_ne e)
def spRow : Sp := fun vs H Q _ => ∃ (p c y : Addr) (ns : List Int) (n : Nat) (x : Str) (known : List Str), vs = [.ref p, .str x, .ref y] ∧ Pen H p c ns n ∧ n + 50 ≤ 100000 ∧ H y = some (.lst (known.map V.str)) ∧ known.Nodup ∧ 2 ≤ known.length ∧ known.length ≤ 33 ∧
  ∀ (t : Addr) (bs : List Str) (H' : Hp), bs ≠ [] → bs.Nodup → (∀ b ∈ bs, b ∈ known) → H' t = some (rowO (x, bs)) → Keep p H H' → Pen H' p c ns (n + 34) → Q (.ref t) H'
abbrev nRow : List Str := ["_law_pen_here", "_law_word", "_law_known", "_law_many"]
theorem cut_take (ys : List Str) (k : Nat) : cutV (ys.map V.str) none (some (k : Int)) = (ys.take k).map V.str := by
  unfold cutV
  rw [HT.sIx_nat, HT.sIx_none, List.drop_zero, Nat.sub_zero, ← List.map_take]
  congr 1
  rw [List.length_map]
  by_cases h : k ≤ ys.length
  · rw [Nat.min_eq_left h]
  · rw [Nat.min_eq_right (by omega), List.take_of_length_le (by omega), List.take_of_length_le (by omega)]
abbrev nRows : List Str := ["_law_pen_here", "_law_words_here", "_law_known", "_law_found", "_law_word"]
def spRows : Sp := fun vs H Q _ => ∃ (p c y : Addr) (ns : List Int) (n : Nat) (ws : List Str), vs = [.ref p, .ref y] ∧ Pen H p c ns n ∧ n + 2000 ≤ 100000 ∧ H y = some (.lst (ws.map V.str)) ∧ Words ws ∧ ws.length ≤ 31 ∧
  ∀ (l : Addr) (ts : List Addr) (rs : List Row) (H' : Hp), Good rs → rs.map (·.1) = ws → RowsAt H' ts rs → H' l = some (.lst (ts.map V.ref)) → Keep p H H' → Pen H' p c ns (n + 1500) → Q (.ref l) H'
end
end K2
end
section
set_option Elab.async false
set_option maxRecDepth 100000
set_option linter.all false
namespace K2
open PySem L2
theorem _root_.L2.Same.put {H H1 : Hp} {q : Addr} {o : HO} (k : Same H H1) (h : H q = none) : Same H (upd H1 q o) := fun b u hb => by
  rw [upd_ne (ne_of_none hb h)]
  exact k b u hb
theorem Pen.same {H H' : Hp} {p c : Addr} {ns : List Int} {n : Nat} (h : Pen H p c ns n) (k : Same H H') : Pen H' p c ns n := by
  obtain ⟨a, l, g, g1, g2, g3⟩ := h.pen
  exact ⟨⟨a, l, k _ _ g, g1, g2, g3⟩, k _ _ h.cells, h.small⟩
theorem _root_.L2.Same.keep {p : Addr} {H H' : Hp} (k : Same H H') : Keep p H H' := fun b o h _ => k b o h
theorem dget_s {H : Hp} {a : Addr} {kvs : List (Key × V)} {x : Str} {v : V} (e : H a = some (.dK kvs)) (hv : valV kvs (Sum.inr x : Key) = some v) : DGet H a (.str x) (some v) := by
  have := DGet.k (k := (Sum.inr x : Key)) e
  rw [hv] at this
  exact this
theorem cutV_whole {xs : List V} {lo hi : Option Int} (h : HT.sIx xs.length 0 lo = 0 ∧ HT.sIx xs.length xs.length hi = xs.length) : cutV xs lo hi = xs := by
  unfold cutV
  rw [h.1, h.2, List.drop_zero, Nat.sub_zero, List.take_length]
def rSl2 : V → Option Int → Option Int → Hp → VK → Prop := fun x lo hi H Q => ∃ a xs, x = .ref a ∧ H a = some (.tup xs) ∧ ∀ p H1, Same H H1 → H1 p = some (.tup (cutV xs lo hi)) → Q (.ref p) H1
def rCat2 : R2 := fun x y H Q => ∃ a b xs ys, x = .ref a ∧ y = .ref b ∧ H a = some (.tup xs) ∧ H b = some (.tup ys) ∧ xs.length + ys.length ≤ sizeLine ∧ ∀ p H1, Same H H1 → H1 p = some (.tup (xs ++ ys)) → Q (.ref p) H1
section
variable {X : Cx}
theorem sl_tup2 : SlR X rSl2 := by
  intro pins s σ H x v vl vu lo hi sl Q I rx hs pl pu h
  obtain ⟨a, xs, rfl, ha, q⟩ := h
  exact sl_tupA pins s σ H _ v vl vu lo hi sl Q I rx hs pl pu ⟨a, xs, rfl, SqT.of ha, fun hw => q a H (Same.refl H) (by rw [cutV_whole hw]; exact ha), fun _ p hp => q p _ ((Same.refl H).put hp) upd_same⟩
theorem op_cat2 : OpR X (binaryOp .Add) rCat2 := by
  intro pins s σ H x y v u Q I rx ry h
  obtain ⟨a, b, xs, ys, rfl, rfl, ha, hb, hz, q⟩ := h
  refine op_catA pins s σ H _ _ v u Q I rx ry ⟨a, b, xs, ys, rfl, rfl, SqT.of ha, SqT.of hb, hz, fun e => q b H (Same.refl H) (by rw [e]; exact hb), fun _ e => q a H (Same.refl H) (by rw [e, List.append_nil]; exact ha), fun _ _ p hp => q p _ ((Same.refl H).put hp) upd_same⟩
end
end K2
end
section
set_option Elab.async false
set_option maxRecDepth 100000
set_option linter.all false
namespace K2
open PySem L2
def HasI (kvs : List (Key × V)) (xs : List Str) : Prop := ∀ x ∈ xs, ∃ z : Int, valV kvs (Sum.inr x : Key) = some (.int z)
theorem HasI.put {kvs : List (Key × V)} {xs : List Str} (h : HasI kvs xs) (x : Str) (z : Int) : HasI (putK kvs (Sum.inr x : Key) (.int z)) (xs ++ [x]) := by
  intro y hy
  rw [valV_put]
  by_cases e : (Sum.inr y : Key) = Sum.inr x
  · rw [if_pos e]; exact ⟨z, rfl⟩
  · rw [if_neg e]
    rcases List.mem_append.mp hy with hy | hy
    · exact h y hy
    · have : y = x := by simpa using hy
      exact absurd (by rw [this]) e
def ways0 : List (Key × V) := mergeK [] [(Sum.inr (Str.ofString "error"), V.int 1), (Sum.inr (Str.ofString "vacant"), V.int 2)]
theorem ways0_has : HasI ways0 base0 := by
  intro x hx
  unfold base0 at hx
  rcases List.mem_cons.mp hx with rfl | hx
  · exact ⟨1, by decide +kernel⟩
  · have : x = sVac := by simpa using hx
    subst this
    exact ⟨2, by decide +kernel⟩
theorem ways0_len : ways0.length ≤ 2 := by decide +kernel
theorem putK_le (c : List (Key × V)) (k : Key) (x : V) : (putK c k x).length ≤ c.length + 1 := by
  unfold putK
  split
  · rw [List.length_map]; omega
  · rw [List.length_append]; simp
theorem cut2 (x b : Str) (bs : List Str) : cutV ((x :: b :: bs).map V.str) none (some 2) = [x, b].map V.str := by
  have := cut_take (x :: b :: bs) 2
  exact this
theorem cut2' (x b : Str) (bs : List Str) : cutV ((x :: b :: bs).map V.str) (some 2) none = bs.map V.str := by
  unfold cutV
  rw [show (2 : Int) = ((2 : Nat) : Int) from rfl, HT.sIx_nat, HT.sIx_none, List.length_map]
  have : min 2 (x :: b :: bs).length = 2 := by simp
  rw [this]
  show (bs.map V.str).take ((x :: b :: bs).length - 2) = bs.map V.str
  rw [List.take_of_length_le (by simp)]
theorem sub_snoc {bs ks : List Str} {j : Nat} {b : Str} (h : ks.Sublist (bs.take j)) (hb : bs[j]? = some b) : (ks ++ [b]).Sublist (bs.take (j + 1)) := by
  rw [List.take_add_one, hb]
  exact h.append (List.Sublist.refl _)
end K2
end
section
set_option Elab.async false
set_option maxRecDepth 100000
set_option linter.all false
namespace K2
open PySem L2
abbrev nUppers : List Str := ["_law_rows_here", "_law_found", "_law_row_here", "_law_mine", "_law_base", "_law_one"]
/-- a dict of the heap from names to objects that hold lists of names -/
inductive Tab (f : List Str → HO) (H : Hp) : List (Key × V) → Tb → Prop where
  | nil : Tab f H [] []
  | cons {x : Str} {us : List Str} {a : Addr} {kvs : List (Key × V)} {t : Tb} : H a = some (f us) → Tab f H kvs t → Tab f H ((Sum.inr x, .ref a) :: kvs) ((x, us) :: t)
theorem Tab.snoc {f : List Str → HO} {H : Hp} {kvs : List (Key × V)} {t : Tb} (h : Tab f H kvs t) {x : Str} {us : List Str} {a : Addr} (ha : H a = some (f us)) : Tab f H (kvs ++ [(Sum.inr x, .ref a)]) (t ++ [(x, us)]) := by
  induction h with
  | nil => exact .cons ha .nil
  | cons h1 _ ih => exact .cons h1 ih
theorem Tab.mono {f : List Str → HO} {H H' : Hp} {kvs : List (Key × V)} {t : Tb} (h : Tab f H kvs t) (k : ∀ a us, H a = some (f us) → H' a = some (f us)) : Tab f H' kvs t := by
  induction h with
  | nil => exact .nil
  | cons h1 _ ih => exact .cons (k _ _ h1) ih
theorem Tab.len {f : List Str → HO} {H : Hp} {kvs : List (Key × V)} {t : Tb} (h : Tab f H kvs t) : kvs.length = t.length := by
  induction h with
  | nil => rfl
  | cons _ _ ih => rw [List.length_cons, List.length_cons, ih]
theorem valV_cons (k : Key) (v : V) (kvs : List (Key × V)) (j : Key) : valV ((k, v) :: kvs) j = if k = j then some v else valV kvs j := by
  unfold valV
  rw [List.find?_cons]
  by_cases e : k = j
  · simp [e]
  · simp [e]
theorem Tab.val {f : List Str → HO} {H : Hp} {kvs : List (Key × V)} {t : Tb} (h : Tab f H kvs t) {x : Str} (hx : x ∈ keys t) : ∃ a, valV kvs (Sum.inr x : Key) = some (.ref a) ∧ H a = some (f (look t x)) := by
  induction h with
  | nil => simp [keys] at hx
  | @cons y us a kvs t h1 _ ih =>
    rw [valV_cons]
    by_cases e : y = x
    · subst e
      exact ⟨a, by rw [if_pos rfl], by simp only [look, if_true]; exact h1⟩
    · have e2 : ¬ (Sum.inr y : Key) = Sum.inr x := fun q => e (Sum.inr.inj q)
      rw [if_neg e2]
      simp only [look, if_neg e]
      refine ih ?_
      unfold keys at hx ⊢
      rcases List.mem_cons.mp hx with q | q
      · exact absurd q.symm e
      · exact q
theorem Tab.none {f : List Str → HO} {H : Hp} {kvs : List (Key × V)} {t : Tb} (h : Tab f H kvs t) {x : Str} (hx : x ∉ keys t) : valV kvs (Sum.inr x : Key) = none := by
  induction h with
  | nil => rfl
  | @cons y us a kvs t h1 _ ih =>
    rw [valV_cons]
    have e : ¬ y = x := fun q => hx (by rw [q]; simp [keys])
    have e2 : ¬ (Sum.inr y : Key) = Sum.inr x := fun q => e (Sum.inr.inj q)
    rw [if_neg e2]
    exact ih fun q => hx (by unfold keys at q ⊢; exact List.mem_cons_of_mem _ q)
theorem Tab.keys_eq {f : List Str → HO} {H : Hp} {kvs : List (Key × V)} {t : Tb} (h : Tab f H kvs t) : kvs.map (·.1) = (keys t).map Sum.inr := by
  induction h with
  | nil => rfl
  | cons _ _ ih =>
    rw [List.map_cons, ih]
    rfl
theorem merge2 (v1 v2 : V) : mergeK [] [((Sum.inr (Str.ofString "error") : Key), v1), ((Sum.inr (Str.ofString "vacant") : Key), v2)] = [((Sum.inr (Str.ofString "error") : Key), v1), ((Sum.inr (Str.ofString "vacant") : Key), v2)] := by
  show putK (putK [] (Sum.inr (Str.ofString "error") : Key) v1) (Sum.inr (Str.ofString "vacant") : Key) v2 = _
  rw [putK_new v1 rfl, putK_new v2 (by
    rw [List.nil_append, valV_cons, if_neg (by decide +kernel)]
    rfl)]
  rfl
def fL (us : List Str) : HO := .lst (us.map V.str)
def spUppers : Sp := fun vs H Q _ => ∃ (l : Addr) (ts : List Addr) (rs : List Row), vs = [.ref l] ∧ H l = some (.lst (ts.map V.ref)) ∧ RowsAt H ts rs ∧ Good rs ∧ rs.length ≤ 31 ∧
  ∀ (d : Addr) (kvs : List (Key × V)) (H' : Hp), H d = none → H' d = some (.dK kvs) → Tab fL H' kvs (ups rs) → Same H H' → Q (.ref d) H'
theorem cut1' (x : Str) (bs : List Str) : cutV ((x :: bs).map V.str) (some 1) none = bs.map V.str := by
  unfold cutV
  rw [show (1 : Int) = ((1 : Nat) : Int) from rfl, HT.sIx_nat, HT.sIx_none, List.length_map]
  have : min 1 (x :: bs).length = 1 := by simp
  rw [this]
  show (bs.map V.str).take ((x :: bs).length - 1) = bs.map V.str
  rw [List.take_of_length_le (by simp)]
theorem lineL_take {t : Tb} {m bs : List Str} {j : Nat} {b : Str} (h : bs[j]? = some b) : lineL t m (bs.take (j + 1)) = mergeU (lineL t m (bs.take j)) (look t b) := by
  unfold lineL
  rw [List.take_add_one, h]
  simp
/-- how long a line may be -/
theorem line_len {t : Tb} (T : TOk t) {x : Str} {bs : List Str} (h : ∀ b ∈ bs, b ∈ keys t) : (lineL t [x] bs).length ≤ (keys t).length + 1 := by
  obtain ⟨h1, h2, _⟩ := lineL_ok T (x := x) bs [x] h (by simp) (by simp)
  have := h1.length_le_of_subset (l₂ := x :: keys t) fun u hu => by
    rcases h2 u hu with rfl | q
    · simp
    · exact List.mem_cons_of_mem _ q
  simpa using this
section
variable {P : Program} {w : World} {K : PySem.W.Frag} {mg : Str → Option Value} {base : Heap}
end
end K2
end
section
set_option Elab.async false
set_option maxRecDepth 100000
set_option linter.all false
namespace K2
open PySem PySem.Spec PyProof.Rows L2
section
variable {p : Program} {w : World} {A : Around} {Z : Result → Shared → Prop} {it : Addr} {f g : List Addr} {Gs : Array GenState → Array GenState → Prop} {N : Nat} {Yv : Nat → Value → Prop} {Sv : Nat → Shared → Prop}
/-- a set that takes in unlike texts, one after the other -/
theorem set_takes (Wk : WalksS p w A.in1 it f g Gs N Yv Sv) {a : Addr} (af : a ∉ f) {xs : List Str} (lx : xs.length = N) (un : xs.Nodup) (few : N ≤ 1000) (val : ∀ j v, Yv j v → ∃ t, v = .str (xs.getD j Str.empty) t) :
    ∀ (m j : Nat) (s : Shared), N - j = m → j ≤ N → Sv j s → s.heap.SetOf (strKind p w) a (fun y => decide (y ∈ xs.take j)) j → (∀ z, Moved (a :: g) Gs s z → z.heap.SetOf (strKind p w) a (fun y => decide (y ∈ xs)) N → Z (.ok (.ret .none)) z) →
      codeAny (model p w) A (.builtin "set.update.loop" ⟨[.ref a, .ref it], []⟩) Z s := by
  have ag : a ∉ g := fun q => af (Wk.sub _ q)
  have up : ∀ b ∈ g, b ∈ a :: g := fun b q => List.mem_cons_of_mem _ q
  have here : ∀ {s z : Shared} {T : Str → Bool} {c : Nat}, Moved g Gs s z → s.heap.SetOf (strKind p w) a T c → z.heap.SetOf (strKind p w) a T c := fun mv q => by
    obtain ⟨o, es, ep, tb, ho, rest⟩ := q
    exact ⟨o, es, ep, tb, mv.heap a _ ag ho, rest⟩
  intro m
  induction m with
  | zero =>
    intro j s hm hj st se fin
    obtain rfl : j = N := by omega
    refine codeAny_builtin F.entry_set_update_loop (by
      rw [Around.under_plainId F.plain_set_update_loop _]
      refine wpAny_bind (Wk.done s _ _ st fun z mv => wpAny_pure (fin z (mv.mono up) ?_))
      rw [← lx, List.take_length] at se
      rw [← lx]
      exact here mv se)
  | succ m ih =>
    intro j s hm hj st se fin
    have jl : j < N := by omega
    have xj : xs[j]? = some (xs.getD j Str.empty) := by
      rw [List.getD_eq_getElem?_getD, List.getElem?_eq_getElem (by omega)]
      rfl
    generalize xs.getD j Str.empty = x at xj
    refine codeAny_builtin F.entry_set_update_loop (by
      rw [Around.under_plainId F.plain_set_update_loop _]
      refine wpAny_bind (Wk.item j s _ _ jl st fun v z hv st2 mv => ?_)
      obtain ⟨t, ev⟩ := val j v hv
      have ex : xs.getD j Str.empty = x := by rw [List.getD_eq_getElem?_getD, xj]; rfl
      rw [ex] at ev
      subst ev
      have fresh : decide (x ∈ xs.take j) = false := by
        rw [decide_eq_false_iff_not]
        intro q
        obtain ⟨i, hi⟩ := List.getElem?_of_mem q
        rw [List.getElem?_take] at hi
        split at hi
        · rename_i lt
          have := (List.getElem?_inj (i := i) (by omega) un).mp (hi.trans xj.symm)
          omega
        · cases hi
      have se' := here mv se
      refine wpAny_bind (wpAny_holding (by
        unfold setAdd
        refine wpAny_holding (wpAny_bind ((strKind p w).pyHash (k := x) (strKind_is _ _ _ _) (wpAny_setAddHashed_of (knd := strKind p w) (s := { z with toks := z.toks + 1 }) (strKind_is _ _ _ _) rfl se' (by unfold scanBound; omega) fun h2 sb se2 => ?_)))
        have se3 : h2.SetOf (strKind p w) a (fun y => decide (y ∈ xs.take (j + 1))) (j + 1) := SetOf_congr se2 (fun y => by
          rw [List.take_add_one, xj]
          simp [List.mem_append]) (by rw [fresh]; rfl)
        refine wpAny_pure ⟨plainId_quiet F.plain_set_update_loop _, ih (j + 1) _ (by omega) jl (Wk.frame _ z _ _ st2 (Nat.le_succ _) fun b hb o e => ?_) se3 fun y mv2 se4 => fin y (Moved.trans Wk.gtrans ((mv.mono up).then_heap (Nat.le_succ _) fun b o hb e => ?_) mv2) se4⟩
        · rw [sb.2 b fun q : b = a => af (q ▸ hb)]; exact e
        · rw [sb.2 b fun q : b = a => hb (q ▸ List.mem_cons_self)]; exact e)))
end
section
variable {p : Program} {w : World} {A : Around} {E : Value → Shared → Prop} {s : Shared}
def emptySet (b : Bool) : Obj := { cls := .type "set", dict := none, data := .set #[] 0 (.fresh 0 0 b) }
set_option maxHeartbeats 3200000 in
/-- set(t) of a tuple of unlike texts has as many items -/
theorem set_of_tup {l : Addr} {its : Array Value} {xs : List Str} {Q : Value → Shared → Prop} (hh : A.handled = none) (hl : s.heap.IsTuple l its) (hi : StrsAre its.toList xs) (un : xs.Nodup) (few : xs.length ≤ 1000)
    (fin : ∀ (h' : Heap) (tk : Nat), h'.SetOf (strKind p w) s.heap.objs.size (fun y => decide (y ∈ xs)) xs.length → (∀ b o, b < s.heap.objs.size → s.heap.get? b = some o → h'.get? b = some o) → Q (.ref s.heap.objs.size) { s with heap := h', toks := tk }) :
    wpAny (model p w) A (call (.type "set") [.ref l]) Q E s := by
  have sz : its.size = xs.length := by rw [← Array.length_toList, StrsAre.len_eq hi]
  obtain ⟨c, tl, hmro⟩ := F.called_set.mro
  have m1 := F.called_set.made
  have m2 := F.called_set.sub
  refine wpAny_call (codeAny_of_tree (wpAny_pure ⟨Code.quiet_builtin _ (by decide +kernel), codeAny_builtin F.entry_type_call (by
    rw [Around.under_plain (weight_type_call_type "set" [.ref l] []) rfl]
    have m3 := F.called_set.notType
    have m4 := F.called_set.canCreate
    have m5 := F.typeCall_set_1 (.ref l)
    repeat (any_goals (first | assumption | wp_step))
    refine codeAny_mono (code_set_new_1 (.ref l) (E := E) (Q₁ := fun v z => ∃ b : Bool, v = .ref s.heap.objs.size ∧ z = { s with heap := s.heap.push (emptySet b) }) fun b => ⟨b, rfl, rfl⟩) fun r z hr => ?_
    cases r with
    | error e => exact hr
    | ok fl =>
      cases fl with
      | next => exact hr.elim
      | brk => exact hr.elim
      | cont => exact hr.elim
      | ret v =>
        obtain ⟨led, rfl, rfl⟩ := hr
        have hS : (s.heap.push (emptySet led)).get? s.heap.objs.size = some (emptySet led) := Heap.get?_push_size _ rfl
        have hT : Shared.TypeIs { s with heap := s.heap.push (emptySet led) } (.ref s.heap.objs.size) "set" := ⟨_, hS, rfl⟩
        have n1 := F.called_set.init.lookup
        have n2 := F.called_set.init.bind (.ref s.heap.objs.size)
        repeat (any_goals (first | assumption | wp_step))
        refine codeAny_mono (codeAny_call_builtin (R := wants (fun r z => r = .none ∧ ∃ h' tk, z = { s with heap := h', toks := tk } ∧ h'.SetOf (strKind p w) s.heap.objs.size (fun y => decide (y ∈ xs)) xs.length ∧ (∀ b o, b < s.heap.objs.size → s.heap.get? b = some o → h'.get? b = some o)) E) F.called_set.init.plain F.entry_set_init (check_set_init_1 hT ?_)) fun r2 z2 hr2 => ?_
        · obtain ⟨⟨tc, td, tdata, tsl⟩, ho, hc, tn, hd⟩ := hl
          simp only at hc hd
          subst hc hd
          have ho2 : (s.heap.push (emptySet led)).get? l = some { cls := .type "tuple", dict := td, data := .seq its tn, slots := tsl } := Heap.get?_push_of_some _ ho
          have q1 := F.sub_tuple_set
          have q2 := F.sub_tuple_frozenset
          have q3 : (Value.type "tuple" == Value.type "dict") = false := by decide
          have tup : (s.heap.push (emptySet led)).IsTuple l its := ⟨_, ho2, rfl, tn, rfl⟩
          have lS : l < s.heap.objs.size := Heap.lt_size ho
          have pz : (s.heap.push (emptySet led)).objs.size = s.heap.objs.size + 1 := Heap.size_push ..
          unfold Builtin.«set.__init__» noKeywords Builtin.Frozenset.updateFrom
          generalize hPI : pyIter = PI
          unfold emptySet at *
          wp_walk
          subst hPI
          refine wpAny_pyIter_tuple tup (wpAny_bind (wpAny_runValue ?_))
          have hn3 : A.in1.in1.in1.handled = none := by simp [hh]
          have vals : ∀ (j : Nat) (v : Value), its[j]? = some v → ∃ t, v = .str (xs.getD j Str.empty) t := fun j v hv => SS.strs_at hi j v (by rw [Array.getElem?_toList]; exact hv)
          refine set_takes ((Walks.tuple hn3 _ l (by rw [Heap.size_push]; exact Nat.ne_of_lt (Nat.lt_succ_of_lt lS)) its).toS) (a := s.heap.objs.size) (by
            simp only [List.mem_cons, List.not_mem_nil, or_false, not_or]
            exact ⟨by rw [Heap.size_push]; exact (Nat.succ_ne_self _).symm, Nat.ne_of_gt lS⟩) sz.symm un (by omega) vals (its.size - 0) 0 _ (by omega) (Nat.zero_le _) ⟨⟨_, Heap.get?_push_size _ rfl, rfl, rfl⟩, tup.push _⟩ ?_ ?_
          · exact SetOf_congr ((setObjOf_fresh (knd := strKind p w) led).setOf (Heap.get?_push_of_some _ hS) (by decide)) (fun _ => by simp) rfl
          · rintro ⟨h', g', d', tk', os'⟩ mv se
            obtain rfl : g' = s.gens := mv.gens
            obtain rfl : d' = s.drawn := mv.drawn
            obtain rfl : os' = s.os := mv.os
            refine wpAny_pure (wpAny_pure ⟨rfl, h', tk', rfl, by rw [← sz]; exact se, fun b o hb e => mv.heap b o ?_ (Heap.get?_push_of_some _ (Heap.get?_push_of_some _ e))⟩)
            simp only [List.mem_cons, List.not_mem_nil, or_false, not_or]
            exact ⟨Nat.ne_of_lt hb, by rw [Heap.size_push]; exact Nat.ne_of_lt (Nat.lt_succ_of_lt hb)⟩
        · cases r2 with
          | error e => exact hr2
          | ok f2 =>
            cases f2 with
            | next => exact hr2.elim
            | brk => exact hr2.elim
            | cont => exact hr2.elim
            | ret v =>
              obtain ⟨rfl, h', tk, rfl, se, kp⟩ := hr2
              repeat (any_goals (first | assumption | wp_step))
              exact fin _ _ se kp)⟩))
end
end K2
end
section
set_option Elab.async false
set_option maxRecDepth 100000
set_option linter.all false
namespace K2
open PySem L2
abbrev sIsW : Stmt := top 7
abbrev sAreW : Stmt := top 8
/-- the module's constants -/
structure Gb (K : PySem.W.Frag) (mg : Str → Option Value) (aR : Addr) (t1 t2 : Tok) : Prop where
  long : mg "LONGEST" = some (.int 8 t1)
  most : mg "MOST_ROWS" = some (.int 30 t2)
  res : mg "RESERVED" = some (.ref aR)
  resT : ∀ H : Hp, SqT K H aR (resd.map V.str)
theorem uni : ∀ k, k < 26 → Unicode.isAlpha (97 + k) = true ∧ Unicode.isLower (97 + k) = true ∧ Unicode.isUpper (97 + k) = false ∧ Unicode.isTitle (97 + k) = false := by decide +kernel
theorem uni' {c : Nat} (h : 97 ≤ c ∧ c ≤ 122) : Unicode.isAlpha c = true ∧ Unicode.isLower c = true ∧ Unicode.isUpper c = false ∧ Unicode.isTitle c = false := by
  have := uni (c - 97) (by omega)
  rw [show 97 + (c - 97) = c by omega] at this
  exact this
theorem vw_ascii {x : Str} (h : VW x) : Txt.isascii x = true := by
  unfold Txt.isascii
  rw [← Array.all_toList, List.all_eq_true]
  intro c hc
  have := h.low c hc
  simp
  omega
theorem vw_alpha {x : Str} (h : VW x) : Txt.isalpha x = true := by
  unfold Txt.isalpha
  have hl : x.length > 0 := by
    rw [len_codes]
    exact List.length_pos_iff.mpr h.ne
  rw [← Array.all_toList, decide_eq_true hl, Bool.true_and, List.all_eq_true]
  intro c hc
  exact (uni' (h.low c hc)).1
theorem vw_lower {x : Str} (h : VW x) : Txt.islower x = true := by
  unfold Txt.islower
  rw [← Array.any_toList, ← Array.any_toList, Bool.and_eq_true]
  refine ⟨?_, ?_⟩
  · rw [List.any_eq_true]
    obtain ⟨c, r, e⟩ := List.exists_cons_of_ne_nil h.ne
    have hc : c ∈ x.cps.toList := by
      show c ∈ codes x
      rw [e]
      simp
    exact ⟨c, hc, (uni' (h.low c hc)).2.1⟩
  · rw [Bool.not_eq_true', List.any_eq_false]
    intro c hc
    have := uni' (h.low c hc)
    rw [this.2.2.1, this.2.2.2]
    decide
def spIsW : Sp := fun vs H Q _ => ∃ x : Str, vs = [.str x] ∧ VW x ∧ Q (.bl true) H
def spAreW : Sp := fun vs H Q _ => ∃ (t : Addr) (xs : List Str), vs = [.ref t] ∧ H t = some (.tup (xs.map V.str)) ∧ (∀ x ∈ xs, VW x) ∧ xs.length ≤ 100 ∧ ∀ H', Same H H' → Q (.bl true) H'
abbrev nAreW : List Str := ["xs", "x"]
section
variable {P : Program} {w : World} {K : PySem.W.Frag} {mg : Str → Option Value} {base : Heap}
theorem scIsW : FnScope ["x"] ["x"] (defScope sIsW) := ⟨rfl, rfl, rfl, by decide +kernel, rfl, by decide +kernel, by decide +kernel⟩
theorem ok_isw {f aR : Addr} {t1 t2 : Tok} {fd : FuncData} (F : Fun K "is_word" "is_word" sIsW f fd) (T : Bi mg) (G : Gb K mg aR t1 t2) : FnOk P w K mg base CX0 1 f fd ["x"] spIsW := by
  refine F.ok scIsW (fun vs H Q E h => ?_) (fun cdv A outer s H vs Q E hr h => ?_)
  · obtain ⟨x, rfl, _⟩ := h
    rfl
  · obtain ⟨x, rfl, hx, k⟩ := h
    refine ⟨_, (pss_cons (ps_if (PW.pt (pw_or (pt_not (pt_val (pe_callB call_isi (by rfl) T.isinstance (by decide +kernel) (pa_cons (pv 0) (pa_cons (pe_bltn (v := .ty "str") (by rfl) T.str (by decide +kernel) rfl) pa_nil))))) (pw_or1 (pt_cmpR op_gt (pe_callB call_len_str (by rfl) T.len PySem.boot_len (pa_cons (pv 0) pa_nil)) (pe_glob (v := .int 8) rfl G.long ⟨_, rfl⟩) (nomark _)))))
      (pss_one (ps_ret pe_bl))
      pss_nil)
      (pss_one (ps_ret (pe_and (pe_m0 PySem.F.slot_str_isascii PySem.F.type_str_isascii mt_isascii (pv 0)) (pe_and (pe_m0 PySem.F.slot_str_isalpha PySem.F.type_str_isalpha mt_isalpha (pv 0)) (pe_and (pe_m0 PySem.F.slot_str_islower PySem.F.type_str_islower mt_islower (pv 0)) (pe_one (pe_cmpR op_notIn_seq (pv 0) (pe_glob (v := .ref aR) rfl G.res rfl) rfl)))))))), ?_⟩
    have hl : x.length ≤ 8 := by rw [len_codes]; exact hx.le
    refine ⟨_, rfl, _, _, _, _, true, rfl, .ty _, .base (.str _), kit_ty (by decide +kernel), _, rfl, ?_⟩
    refine ⟨_, rfl, _, rfl, Nat.le_trans hl (by decide), _, _, rfl, rfl, _, rfl, ite2 (fun h8 => ?_) (fun _ => ?_)⟩
    · have := of_decide_eq_true h8
      omega
    refine ⟨_, rfl, ⟨_, rfl⟩, _, rfl, rfl, trivial, _, rfl, ?_⟩
    rw [vw_ascii hx]
    refine iteT ⟨_, rfl, ⟨_, rfl⟩, _, rfl, rfl, trivial, _, rfl, ?_⟩
    rw [vw_alpha hx]
    refine iteT ⟨_, rfl, ⟨_, rfl⟩, _, rfl, rfl, trivial, _, rfl, ?_⟩
    rw [vw_lower hx]
    refine iteT ⟨_, rfl, aR, _, rfl, .inr (G.resT H), rfl, flat_strs _, ?_⟩
    rw [if_pos rfl, inV_strs, decide_eq_false hx.nr]
    exact k
theorem scAreW : FnScope nAreW ["xs"] (defScope sAreW) := ⟨rfl, rfl, rfl, by decide +kernel, rfl, by decide +kernel, by decide +kernel⟩
theorem ok_arew {f fI : Addr} {fd fdI : FuncData} (F : Fun K "are_words" "are_words" sAreW f fd) (T : Bi mg) (IW : Df K mg "is_word" sIsW fI fdI ["x"]) (GI : FnOk P w K mg base CX0 1 fI fdI ["x"] spIsW) : FnOk P w K mg base CX0 2 f fd ["xs"] spAreW := by
  refine F.ok scAreW (fun vs H Q E h => ?_) (fun cdv A outer s H vs Q E hr h => ?_)
  · obtain ⟨t, xs, rfl, _⟩ := h
    rfl
  · obtain ⟨t, xs, rfl, ht, hx, hl, k⟩ := h
    have hr0 : Room 1 _ := hr
    refine ⟨_, (pss_one (ps_ret (pe_callB (cr_all rfl) (by rfl) T.all (by decide +kernel) (pa_cons (pe_lc (own := [("x", 1)]) (g := gName 1) (tt := tYes) rfl scAreW.nd (pi_tup (pv 0)) (blkOk_by (N := nAreW) (sc := defScope sAreW) (by decide +kernel)) (fun _ _ _ _ _ => pg_name (i := 1) scAreW.nd rfl (Or.inl rfl)) (fun _ _ _ _ _ => pts_nil) (fun _ _ _ _ _ => pe_call GI hr0 (by rfl) IW.m IW.F.kp IW.b .nil pass0 (pa_cons (pv 1) pa_nil))) pa_nil)))), ?_⟩
    refine ⟨_, rfl, t, rfl, ⟨_, SqT.of ht⟩, fun D hD => ?_⟩
    refine lc_tup (K := K) (a := t) (xs := xs.map V.str) (fun i Hc => Hc D = some (.lst ((List.replicate i true).map V.bl)) ∧ Same H Hc) ?_ ?_ ?_ ?_
    · exact ⟨upd_same, (Same.refl H).put hD⟩
    · rintro i Hc _ ⟨_, sm⟩
      exact SqT.of (sm t _ ht)
    · rintro i y Hc hy ⟨h1, sm⟩
      obtain ⟨x, hxm, rfl⟩ := List.mem_map.mp (List.mem_of_getElem? hy)
      have hil : i < xs.length := by
        have := (List.getElem?_eq_some_iff.mp hy).1
        rwa [List.length_map] at this
      refine ⟨rfl, _, rfl, x, rfl, hx x hxm, _, h1, ?_, ?_, sm.put hD⟩
      · rw [List.length_map, List.length_replicate]; show _ < 16777216; omega
      · rw [upd_same, List.replicate_succ', List.map_append]
        rfl
    · rintro Hc ⟨h1, sm⟩
      refine ⟨D, _, rfl, SqL.of h1, ?_⟩
      have : (List.replicate (xs.map V.str).length true).all id = true := by simp
      rw [this]
      exact k Hc sm
end
end K2
end
section
set_option Elab.async false
set_option maxRecDepth 100000
set_option linter.all false
namespace K2
open PySem L2
abbrev sAreD : Stmt := top 9
abbrev sFault : Stmt := top 17
abbrev sLine : Stmt := top 18
abbrev nLine : List Str := ["row", "lines", "line", "base", "name"]
abbrev nFault : List Str := ["row", "k", "lines", "bases", "base"]
/-- a dict of True for each name -/
def dkeys (us : List Str) : List (Key × V) := us.map fun u => ((Sum.inr u : Key), V.bl true)
def fD (us : List Str) : HO := .dK (dkeys us)
theorem dkeys_val (us : List Str) (x : Str) : valV (dkeys us) (Sum.inr x : Key) = if x ∈ us then some (.bl true) else none := by
  induction us with
  | nil => rfl
  | cons u us ih =>
    show valV (((Sum.inr u : Key), V.bl true) :: dkeys us) (Sum.inr x : Key) = _
    rw [valV_cons, ih]
    by_cases e : u = x
    · subst e; simp
    · have e2 : ¬ (Sum.inr u : Key) = Sum.inr x := fun q => e (Sum.inr.inj q)
      have e3 : ¬ x = u := fun q => e q.symm
      simp [e2, e3]
theorem dkeys_put (us : List Str) (x : Str) : putK (dkeys us) (Sum.inr x : Key) (.bl true) = dkeys (insK us x) := by
  unfold insK
  by_cases h : x ∈ us
  · rw [if_pos h]
    unfold putK
    rw [valV_any, dkeys_val, if_pos h]
    show (dkeys us).map _ = dkeys us
    unfold dkeys
    rw [List.map_map]
    apply List.map_congr_left
    intro u _
    show (if (Sum.inr u : Key) = Sum.inr x then _ else _) = _
    split <;> rfl
  · rw [if_neg h, putK_new _ (by rw [dkeys_val, if_neg h])]
    unfold dkeys
    rw [List.map_append]
    rfl
theorem dkeys_len (us : List Str) : (dkeys us).length = us.length := by simp [dkeys]
theorem insK_foldl_len (us m : List Str) : (us.foldl insK m).length ≤ m.length + us.length := by
  induction us generalizing m with
  | nil => simp
  | cons u us ih =>
    rw [List.foldl_cons]
    have := ih (insK m u)
    have h2 : (insK m u).length ≤ m.length + 1 := by
      unfold insK
      split
      · omega
      · simp
    rw [List.length_cons]
    omega
theorem merge1 (x : Str) (v : V) : mergeK [] [((Sum.inr x : Key), v)] = [((Sum.inr x : Key), v)] := by
  show putK [] (Sum.inr x : Key) v = _
  rw [putK_new v rfl]
  rfl
def spAreD : Sp := fun vs H Q _ => ∃ (t : Addr) (xs : List Str), vs = [.ref t] ∧ H t = some (.tup (xs.map V.str)) ∧ xs.Nodup ∧ xs.length ≤ 1000 ∧ Q (.bl true) H
def spLine : Sp := fun vs H Q _ => ∃ (t d : Addr) (r : Row) (kvs : List (Key × V)) (tb : Tb), vs = [.ref t, .ref d] ∧ H t = some (rowO r) ∧ H d = some (.dK kvs) ∧ Tab fD H kvs tb ∧ TOk tb ∧ RowOk (keys tb) r ∧ tb.length ≤ 40 ∧
  ∀ (m : Addr) (H' : Hp), H m = none → H' m = some (fD (lineOf tb r)) → Same H H' → Q (.ref m) H'
def spFault : Sp := fun vs H Q _ => ∃ (t d : Addr) (k : Nat) (r : Row) (kvs : List (Key × V)) (tb : Tb), vs = [.ref t, .int k, .ref d] ∧ k < 30 ∧ H t = some (rowO r) ∧ H d = some (.dK kvs) ∧ Tab fD H kvs tb ∧ TOk tb ∧ RowOk (keys tb) r ∧ (∀ x ∈ r.2, VW x) ∧ tb.length ≤ 40 ∧
  ∀ (H' : Hp), Same H H' → Q .non H'
section
variable {P : Program} {w : World} {K : PySem.W.Frag} {mg : Str → Option Value} {base : Heap}
theorem scLine : FnScope nLine ["row", "lines"] (defScope sLine) := ⟨rfl, rfl, rfl, by decide +kernel, rfl, by decide +kernel, by decide +kernel⟩
theorem scFault : FnScope nFault ["row", "k", "lines"] (defScope sFault) := ⟨rfl, rfl, rfl, by decide +kernel, rfl, by decide +kernel, by decide +kernel⟩
theorem ok_line {f : Addr} {fd : FuncData} (F : Fun K "_line" "_line" sLine f fd) : FnOk P w K mg base CX0 1 f fd ["row", "lines"] spLine := by
  refine F.ok scLine (fun vs H Q E h => ?_) (fun cdv A outer s H vs Q E hr h => ?_)
  · obtain ⟨t, d, r, kvs, tb, rfl, _⟩ := h
    rfl
  · obtain ⟨t, d, ⟨x, bs⟩, kvs, tb, rfl, ht, hd, TB, TO, RO, h40, k⟩ := h
    have hu := hu_of hr
    refine ⟨_, (pss_cons (ps_set (i := 2) scLine.nd rfl (Or.inl rfl) (pe_disp (pps_cons (pe_ix ix_tup (pv 0) pe_int (fun _ _ => rfl)) pe_bl pps_nil) (by rfl) (by rfl) (fun z => by cases z) (by decide)))
      (pss_cons (ps_for PassesOwn.never rfl (pi_tup (pe_slice sl_tup2 (pv 0) (po_some pe_int) po_none)) (pg_name (i := 3) scLine.nd rfl (Or.inl rfl))
      (pss_one (ps_lock (ps_for PassesOwn.never rfl (pi_keys (pe_dget hu (pv 1) (pv 3) (fun _ _ => rfl))) (pg_name (i := 4) scLine.nd rfl (Or.inl rfl))
        (pss_one (ps_dput hu (pv 2) (pv 4) pe_bl rfl))))))
      (pss_one (ps_ret (pv 2))))), ?_⟩
    have htl : tb.length = (keys tb).length := by simp [keys]
    have hll := fun j => line_len TO (x := x) (bs := bs.take j) fun b hb => RO.sub b (List.mem_of_mem_take hb)
    unfold rowO at ht
    refine fun m hm => ⟨_, rfl, t, _, _, _, rfl, rfl, SqT.of (by rw [upd_ne (ne_of_none ht hm)]; exact ht), atI_nat (j := 0) rfl, upd_same, [((Sum.inr x : Key), V.bl true)], rfl, (by show 1 ≤ 15; decide), ?_⟩
    rw [merge1, upd_upd]
    have sm : Same H (upd H m (.dK [((Sum.inr x : Key), V.bl true)])) := (Same.refl H).put hm
    have hm1 : (upd H m (.dK [((Sum.inr x : Key), V.bl true)])) m = some (fD [x]) := upd_same
    generalize upd H m (.dK [((Sum.inr x : Key), V.bl true)]) = H1 at sm hm1 ⊢
    refine ⟨_, rfl, _, rfl, t, _, rfl, sm t _ ht, fun rp H2 s2 hrp => ?_⟩
    rw [cut1'] at hrp
    refine ⟨rp, rfl, ⟨_, SqT.of hrp⟩, for_tup (K := K) (a := rp) (xs := bs.map V.str)
      (fun j σ Hd => ∃ (v3 v4 : Option V), σ = [some (.ref t), some (.ref d), some (.ref m), v3, v4] ∧ Same H Hd ∧ Hd rp = some (.tup (bs.map V.str)) ∧ Hd m = some (fD (lineL tb [x] (bs.take j)))) ?_ ?_ ?_ ?_⟩
    · exact ⟨_, _, rfl, sm.trans s2, hrp, s2 m _ hm1⟩
    · rintro j σ Hd _ ⟨v3, v4, rfl, _, hr2, _⟩
      exact SqT.of hr2
    · rintro j y σ Hd hj ⟨v3, v4, rfl, sd, hr2, hmd⟩
      have hjl : j < bs.length := by
        have := (List.getElem?_eq_some_iff.mp hj).1
        rwa [List.length_map] at this
      have hbj : bs[j]? = some bs[j] := List.getElem?_eq_getElem hjl
      rw [List.getElem?_map, hbj] at hj
      cases hj
      obtain ⟨u, hu1, hu2⟩ := TB.val (RO.sub bs[j] (List.getElem_mem hjl))
      have q := TO.line (RO.sub bs[j] (List.getElem_mem hjl))
      have husl : (look tb bs[j]).length ≤ (keys tb).length := q.1.length_le_of_subset q.2.2.2
      have hun := q.1
      have hsucc := lineL_take (t := tb) (m := [x]) hbj
      have hl1 := hll j
      have hmu : u ≠ m := ne_of_none hu2 hm
      have hud := sd u _ hu2
      have hdd := sd d _ hd
      generalize look tb bs[j] = us at hu2 hud hsucc husl hun
      generalize lineL tb [x] (bs.take j) = mine at hmd hsucc hl1
      -- for name in lines[base]: the dict at u is locked
      refine ⟨u, fD us, hud, True.intro, fun od => ?_⟩
      have hmf : m ≠ u := hmu.symm
      have hget : ∀ hq : Hp, (∀ b, b ≠ u → b ≠ m → hq b = Hd b) → (d = u → hq u = some (.frz od (fD us))) → True := fun _ _ _ => trivial
      have hD2 : DGet (upd Hd u (.frz od (fD us))) d (.str bs[j]) (some (.ref u)) := by
        by_cases e : d = u
        · subst e
          rw [hdd] at hud
          have e2 := Option.some.inj hud
          refine .inl ⟨kvs, Sum.inr bs[j], .inr ⟨od, ?_⟩, rfl, hu1.symm⟩
          rw [upd_same, e2]
        · exact dget_s (by rw [upd_ne e]; exact hdd) hu1
      refine ⟨_, rfl, _, rfl, d, _, rfl, hD2, u, od, rfl, .inl ⟨dkeys us, upd_same, for_it walk_keys
        (fun i σ Hx => ∃ v4 : Option V, σ = [some (.ref t), some (.ref d), some (.ref m), some (.str bs[j]), v4] ∧ Hx u = some (.frz od (fD us)) ∧ Hx m = some (fD ((us.take i).foldl insK mine)) ∧ ∀ b o, Hd b = some o → b ≠ m → b ≠ u → Hx b = some o) ?_ ?_ ?_ ?_⟩⟩
      · exact ⟨_, rfl, upd_same, by rw [upd_ne hmf]; exact hmd, fun b o hb _ h2 => by rw [upd_ne h2]; exact hb⟩
      · rintro i σ Hx _ ⟨v4, rfl, hx, _, _⟩
        exact hx
      · rintro i y σ Hx Hy hi ⟨v4, rfl, hx, hmx, kx⟩ ⟨rfl, kk, vv, hkv, rfl⟩
        rw [dkeys_len] at hi
        have hui : us[i]? = some us[i] := List.getElem?_eq_getElem hi
        unfold dkeys at hkv
        rw [List.getElem?_map, hui] at hkv
        cases hkv
        have hfl := insK_foldl_len (us.take i) mine
        rw [List.length_take] at hfl
        refine ⟨_, rfl, _, rfl, m, _, rfl, DPut.k (k := Sum.inr us[i]) hmx ?_, ?_⟩
        · rw [dkeys_len]; show _ < 16777216; omega
        · refine ⟨_, rfl, by rw [upd_ne hmu]; exact hx, ?_, fun b o hb h1 h2 => by rw [upd_ne h1]; exact kx b o hb h1 h2⟩
          have et : us.take (i + 1) = us.take i ++ [us[i]] := by rw [List.take_add_one, hui]; rfl
          rw [upd_same, dkeys_put, et, List.foldl_append]
          rfl
      · rintro σ Hx ⟨v4, rfl, hx, hmx, kx⟩
        rw [dkeys_len, List.take_length, foldl_insK _ _ hun] at hmx
        have back : ∀ b o, Hd b = some o → b ≠ m → (upd Hx u (fD us)) b = some o := fun b o hb h1 => by
          by_cases e : b = u
          · subst e
            rw [hud] at hb
            rw [upd_same]
            exact hb
          · rw [upd_ne e]
            exact kx b o hb h1 e
        refine ⟨hx, _, _, rfl, fun b o hb => back b o (sd b o hb) (ne_of_none hb hm), back rp _ hr2 ?_, ?_⟩
        · exact ne_of hr2 hmd (by unfold fD; intro z; cases z)
        · rw [upd_ne hmf, hmx, hsucc]
    · rintro σ Hd ⟨v3, v4, rfl, sd, hr2, hmd⟩
      rw [List.length_map, List.take_length] at hmd
      exact ⟨_, rfl, k m Hd hm hmd sd⟩
end
end K2
end
section
set_option Elab.async false
set_option maxRecDepth 100000
set_option linter.all false
namespace K2
open PySem PySem.Spec PyProof.Rows L2
def tLenSetT (ta : TE) : TE := fun σ H Q => ta σ H fun x H1 => ∃ (l : Addr) (xs : List Str), x = .ref l ∧ H1 l = some (.tup (xs.map V.str)) ∧ xs.Nodup ∧ xs.length ≤ 1000 ∧ Q (.int (xs.length : Nat)) H1
section
variable {X : Cx}
/-- len(set(t)), t a tuple of unlike texts -/
theorem pe_lenSetT {a : Expr} {ta : TE} {p1 p2 p3 pos : Pos} (h1 : Gl X "len") (h2 : X.mg "len" = none) (h3 : Gl X "set") (h4 : X.mg "set" = none) (ha : PE X a ta) (hc : X.calm = true := by rfl)
    (na : starEach [a] X.env = (false, eval a X.env) :: starEach [] X.env := by rfl) : PE X (.Call (.Name "len" p1) [.Call (.Name "set" p2) [a] [] p3] [] pos) (tLenSetT ta) := by
  refine ⟨fun pins s σ H Q I h => Call_ (ld_blt I h1 h2 boot_len (callWith_builtin1 (args_cons (Call_ (ld_blt I h3 h4 boot_set (callWith_type1 (args_cons (thn (ha.run pins s σ H _ I h) fun v s1 ⟨x, H1, I1, r1, q1⟩ => args_nil ?_) na) na rfl))) rfl) rfl rfl))⟩
  obtain ⟨l, xs, rfl, ht, un, few, q⟩ := q1
  cases r1
  obtain ⟨its, r, pl, _⟩ := I1.tuple (SqT.of ht)
  refine set_of_tup (I1.ok.hd hc) pl (by simpa using strsAre_of r) un few fun h' tk hS hk => args_nil ?_
  obtain ⟨o, es, ep, t, ho, hex, hd, _, _, _, hf, hn⟩ := hS
  have I2 : Inv X pins σ H1 { s1 with heap := h', toks := tk } := I1.kept fun b o e => hk b o (Heap.lt_size e) e
  exact call_len_set ho hex hd hf (by rw [hn]; omega) ⟨.int xs.length, H1, I2.tok _, ⟨_, by rw [hn]⟩, q⟩
end
section
variable {P : Program} {w : World} {K : PySem.W.Frag} {mg : Str → Option Value} {base : Heap}
theorem scAreD : FnScope ["words"] ["words"] (defScope sAreD) := ⟨rfl, rfl, rfl, by decide +kernel, rfl, by decide +kernel, by decide +kernel⟩
theorem ok_ared {f : Addr} {fd : FuncData} (F : Fun K "are_different" "are_different" sAreD f fd) (T : Bi mg) : FnOk P w K mg base CX0 1 f fd ["words"] spAreD := by
  refine F.ok scAreD (fun vs H Q E h => ?_) (fun cdv A outer s H vs Q E hr h => ?_)
  · obtain ⟨t, xs, rfl, _⟩ := h
    rfl
  · obtain ⟨t, xs, rfl, ht, un, few, k⟩ := h
    refine ⟨_, pss_one (ps_ret (pe_cmpR op_eq (pe_lenSetT (by rfl) T.len (by rfl) T.set (pv 0)) (pe_callB call_len_seq (by rfl) T.len PySem.boot_len (pa_cons (pv 0) pa_nil)) (nomark _))), ?_⟩
    refine ⟨_, rfl, t, xs, rfl, ht, un, few, _, rfl, t, _, rfl, .inr (SqT.of ht), rfl, ?_⟩
    rw [List.length_map, decide_eq_true rfl]
    exact k
end
end K2
end
section
set_option Elab.async false
set_option maxRecDepth 100000
set_option linter.all false
namespace K2
open PySem L2
section
variable {P : Program} {w : World} {K : PySem.W.Frag} {mg : Str → Option Value} {base : Heap}
theorem ok_fault {f fA fF aR : Addr} {fd fdA fdF : FuncData} {t1 t2 : Tok} (F : Fun K "_fault" "_fault" sFault f fd) (T : Bi mg) (G : Gb K mg aR t1 t2) (AW : Df K mg "are_words" sAreW fA fdA ["xs"]) (GA : FnOk P w K mg base CX0 2 fA fdA ["xs"] spAreW)
    (AD : Df K mg "are_different" sAreD fF fdF ["words"]) (GF : FnOk P w K mg base CX0 1 fF fdF ["words"] spAreD) : FnOk P w K mg base CX0 3 f fd ["row", "k", "lines"] spFault := by
  refine F.ok scFault (fun vs H Q E h => ?_) (fun cdv A outer s H vs Q E hr h => ?_)
  · obtain ⟨t, d, k, r, kvs, tb, rfl, _⟩ := h
    rfl
  · obtain ⟨t, d, n, ⟨x, bs⟩, kvs, tb, rfl, hn, ht, hd, TB, TO, RO, hvw, h40, k⟩ := h
    have hu := hu_of hr
    have hr2 : Room 2 _ := hr
    have hr1 : Room 1 _ := hr.mono (by decide)
    refine ⟨_, (pss_cons (ps_if (pt_cmpR op_eq (pv 1) (pe_glob (v := .int 30) rfl G.most ⟨_, rfl⟩) (nomark _))
      (pss_one (ps_ret pe_str))
      pss_nil)
      (pss_cons (ps_if (PW.pt (pw_or (pt_not (pt_val (pe_callB call_isi (by rfl) T.isinstance (by decide +kernel) (pa_cons (pv 0) (pa_cons (pe_bltn (v := .ty "tuple") (by rfl) T.tuple (by decide +kernel) rfl) pa_nil))))) (pw_or (pt_cmpR op_lt (pe_callB call_len_seq (by rfl) T.len PySem.boot_len (pa_cons (pv 0) pa_nil)) pe_int (nomark _)) (pw_or1 (pt_not (pt_val (pe_call GA hr2 (by rfl) AW.m AW.F.kp AW.b .nil pass0 (pa_cons (pv 0) pa_nil))))))))
      (pss_one (ps_ret pe_str))
      pss_nil)
      (pss_cons (ps_if (pt_cmp (pc_din hu (pe_ix ix_tup (pv 0) pe_int (fun _ _ => rfl)) (pv 2)))
      (pss_one (ps_ret pe_str))
      pss_nil)
      (pss_cons (ps_set (i := 3) scFault.nd rfl (Or.inl rfl) (pe_slice sl_tup2 (pv 0) (po_some pe_int) po_none))
      (pss_cons (ps_if (PW.pt (pw_or (pt_not (pt_val (pe_callB (cr_all rfl) (by rfl) T.all (by decide +kernel) (pa_cons (pe_lc (own := [("base", 4)]) (g := gName 4) (tt := tYes) rfl scFault.nd (pi_tup (pv 3)) (blkOk_by (N := nFault) (sc := defScope sFault) (by decide +kernel)) (fun _ _ _ _ _ => pg_name (i := 4) scFault.nd rfl (Or.inl rfl)) (fun _ _ _ _ _ => pts_nil) (fun _ _ _ _ _ => pe_cmp (pc_din hu (pv 4) (pv 2)) rfl)) pa_nil)))) (pw_or1 (pt_not (pt_val (pe_call GF hr1 (by rfl) AD.m AD.F.kp AD.b .nil pass0 (pa_cons (pv 3) pa_nil)))))))
      (pss_one (ps_ret pe_str))
      pss_nil)
      (pss_one (ps_ret pe_non))))))), ?_⟩
    have htl : tb.length = (keys tb).length := by simp [keys]
    have hbl : bs.length ≤ 40 := by
      have q : bs.length ≤ (keys tb).length := RO.nd.length_le_of_subset (RO.sub)
      omega
    have hb0 : 1 ≤ bs.length := List.length_pos_iff.mpr RO.ne
    unfold rowO at ht
    refine ⟨_, rfl, rfl, _, rfl, ite2 (fun h0 => ?_) (fun _ => ?_)⟩
    · have e : (n : Int) = 30 := V.int.inj (of_decide_eq_true h0)
      omega
    refine ⟨_, rfl, _, _, _, _, true, rfl, .ty _, .base (.tup ht), kit_ty (by decide +kernel), _, rfl, ?_⟩
    refine ⟨_, rfl, t, _, rfl, .inr (SqT.of ht), _, _, rfl, rfl, _, rfl, ite2 (fun h0 => ?_) (fun _ => ?_)⟩
    · have := of_decide_eq_true h0
      rw [List.length_map, List.length_cons] at this
      have h1 : 1 ≤ (x, bs).snd.length := hb0
      omega
    refine ⟨_, rfl, t, _, rfl, ht, ?_, ?_, fun H1 s1 => ⟨_, rfl, ?_⟩⟩
    · intro y hy
      rcases List.mem_cons.mp hy with rfl | hy
      · exact RO.vw
      · exact hvw y hy
    · show bs.length + 1 ≤ 100
      omega
    refine ⟨_, rfl, t, _, _, _, rfl, rfl, SqT.of (s1 t _ ht), atI_nat (j := 0) rfl, _, rfl, d, _, rfl, DGet.k (k := Sum.inr x) (s1 d _ hd), _, rfl, ?_⟩
    rw [TB.none RO.new]
    refine ⟨_, rfl, _, rfl, t, _, rfl, s1 t _ ht, fun bp H2 s2 hbp => ?_⟩
    rw [cut1'] at hbp
    have s12 := s1.trans s2
    refine ⟨_, rfl, bp, rfl, ⟨_, SqT.of hbp⟩, fun D hD => ?_⟩
    refine lc_tup (K := K) (a := bp) (xs := bs.map V.str) (fun i Hc => Hc D = some (.lst ((List.replicate i true).map V.bl)) ∧ Same H2 Hc) ?_ ?_ ?_ ?_
    · exact ⟨upd_same, (Same.refl H2).put hD⟩
    · rintro i Hc _ ⟨_, sm⟩
      exact SqT.of (sm bp _ hbp)
    · rintro i y Hc hy ⟨h1, sm⟩
      obtain ⟨b, hb, rfl⟩ := List.mem_map.mp (List.mem_of_getElem? hy)
      have hil : i < bs.length := by
        have := (List.getElem?_eq_some_iff.mp hy).1
        rwa [List.length_map] at this
      obtain ⟨u, hu1, _⟩ := TB.val (RO.sub b hb)
      refine ⟨rfl, _, rfl, _, rfl, d, _, rfl, DGet.k (k := Sum.inr b) (sm d _ (s12 d _ hd)), _, h1, ?_, ?_, sm.put hD⟩
      · rw [List.length_map, List.length_replicate]; show _ < 16777216; omega
      · rw [upd_same, List.replicate_succ', List.map_append, hu1]
        rfl
    · rintro Hc ⟨h1, sm⟩
      refine ⟨D, _, rfl, SqL.of h1, _, rfl, ?_⟩
      have e : (List.replicate (bs.map V.str).length true).all id = true := by simp
      rw [e]
      refine ⟨_, rfl, bp, bs, rfl, sm bp _ hbp, RO.nd, by omega, _, rfl, ?_⟩
      exact k Hc (s12.trans sm)
end
end K2
end
section
set_option Elab.async false
set_option maxRecDepth 100000
set_option linter.all false
namespace K2
open PySem PySem.Spec PyProof.Rows L2
/-! enumerate(t) of a tuple -/
def enumO (i : Addr) : Obj := { cls := .type "enumerate", data := .fields #[.none, .bool false, .ref i, rawInt 0, .none, .none] }
set_option maxHeartbeats 1000000 in
theorem enum_made {v : Value} {o : Obj} {B : Heap → Prop} (b : Begins v o B) :
    Meets (Builtin.«enumerate.__new__» ⟨[.type "enumerate", v], []⟩) (fun _ R s => B s.heap ∧ R (.ok (.ret (.ref (s.heap.push o).objs.size))) { s with heap := (s.heap.push o).push (enumO s.heap.objs.size) }) :=
  .of_wp fun prog w A R ⟨hp, g, d, tk, os⟩ ⟨h1, h⟩ => by
    have q0 := sub_enumerate
    have q1 : ∀ {A' : Around} {E : Value → Shared → Prop} {Q : Value → Shared → Prop}, Q (.ref hp.objs.size) ⟨hp.push o, g, d, tk, os⟩ → wpAny (model prog w) A' (pyIter v) Q E ⟨hp, g, d, tk, os⟩ := fun q => b.iter prog w _ _ ⟨hp, g, d, tk, os⟩ _ h1 q
    wp_walk using q1
    refine wpAny_stack_any fun st => wpAny_pure ?_
    split
    · rename_i c _ _ _ _ _
      cases (c == Value.type "enumerate") <;> (wp_walk using q1; exact ⟨_, rfl, h⟩)
    · wp_walk using q1
      exact ⟨_, rfl, h⟩
section
variable {prog : Program} {w : World} {A : Around} {E : Value → Shared → Prop} {s : Shared}
theorem enum_call {v : Value} {o : Obj} {B : Heap → Prop} {Q : Value → Shared → Prop} (b : Begins v o B) (h1 : B s.heap)
    (h : ∀ h', IsEnum h' (s.heap.objs.size + 1) s.heap.objs.size 0 .none → h'.get? s.heap.objs.size = some o → (∀ a u, s.heap.get? a = some u → h'.get? a = some u) → Q (.ref (s.heap.objs.size + 1)) { s with heap := h' }) :
    wpAny (model prog w) A (call (.type "enumerate") [v]) Q E s := by
  refine callType_new F.called_enumerate (by decide) (F.typeCall_enumerate_1 _) (F.newCall_enumerate_1 _) (fun obj => F.args_object_init_2 obj _) F.entry_enumerate_new (enum_made b) ⟨h1, ?_⟩
  have sz : (s.heap.push o).objs.size = s.heap.objs.size + 1 := Heap.size_push ..
  have at1 := Heap.get?_push_size (s.heap.push o) (o := enumO s.heap.objs.size) rfl
  rw [sz] at at1
  show _ ∧ _
  rw [sz]
  exact ⟨⟨_, at1, rfl⟩, h _ at1 (Heap.get?_push_of_some _ (Heap.get?_push_size _ b.free)) fun a u x => Heap.get?_push_of_some _ (Heap.get?_push_of_some _ x)⟩
end
/-- the items of the tuple at a, each in a new pair with its number -/
def IteT (a : Addr) (xs : List V) : It :=
  ⟨fun i H => H a = some (.tup xs) ∧ i < xs.length, fun i H v H' => ∃ T x, v = .ref T ∧ H T = none ∧ H' = upd H T (.tup [.int (i : Nat), x]) ∧ xs[i]? = some x, fun i H => H a = some (.tup xs) ∧ i = xs.length⟩
def tnE (e it t : Addr) (i : Nat) (h : Heap) : Prop := (∃ old, IsEnum h e it (0 + ((i : Nat) : Int)) old) ∧ h.IsTupleIter it t i ∧ e ≠ it ∧ t ≠ it ∧ e ≠ t
theorem turn_enumT {P : Program} {w : World} {K : PySem.W.Frag} {elts : List Expr} {kk : Nat} {tpos : Pos} (xs : List V) (t e it : Addr) : Turn P w K (.Tuple elts kk tpos) (IteT t xs) [e, it] e (tnE e it t) where
  mem := by simp
  obj := fun i h ⟨⟨old, he⟩, ⟨o, ho, hc, hd⟩, _⟩ b hb => by
    rcases List.mem_cons.mp hb with z | z
    · subst z; exact ⟨_, he, fun v q => nomatch q⟩
    · rw [List.mem_singleton.mp z]; exact ⟨o, ho, fun v q => by rw [hd] at q; cases q⟩
  keep := fun i h h' ⟨⟨old, he⟩, hi, n1, n2, n3⟩ k => ⟨⟨old, k e (by simp) _ he⟩, hi.at fun o q => k it (by simp) o q, n1, n2, n3⟩
  item := by
    rintro X rfl rfl rfl hc i pins s σ H E I hf ⟨he, hi, n1, n2, n3⟩ ⟨ha, hlt⟩
    obtain ⟨its, rv, pl, _⟩ := I.tuple (SqT.of ha)
    have sz : its.toArray.size = xs.length := by rw [List.size_toArray, rv.length]
    have W := WalksT.enumFrom (prog := X.prog) (w := X.w) (A := X.A) 0 (Draws.tuple (A := X.A.in1) (by simp [I.ok.hd hc]) it t n2 its.toArray) e n1 (by simp [n1, n3]) (by simp)
    refine W.item i s _ _ (by rw [sz]; exact hlt) ⟨he, hi, pl⟩ fun T vals h' tk ⟨tt, x, hx, ev⟩ hT hTup mid fr => ⟨_, rfl, W.go elts kk tpos i T _ _ _ mid fun h'' ⟨he2, hi2, _⟩ fr2 => ?_⟩
    have hx2 : its[i]? = some x := by simpa using hx
    obtain ⟨y, hy, ry⟩ : ∃ y, xs[i]? = some y ∧ RelV y x := by
      have q : xs[i]? = some xs[i] := List.getElem?_eq_getElem hlt
      obtain ⟨u, hu, ru⟩ := rv.get q
      rw [hx2] at hu
      cases hu
      exact ⟨_, q, ru⟩
    have hTw := W.apart i T _ mid
    have hTf : H T = none := I.hok.fresh hT
    obtain ⟨o2, ho2, hc2, nn, hd2⟩ := hTup
    have new : ObjOk X.prog X.w (upd H T (.tup [.int (i : Nat), y])) h'' T (.tup [.int (i : Nat), y]) :=
      ⟨by show 2 ≤ sizeLine; decide, [.int (i : Nat) tt, x], .cons ⟨_, rfl⟩ (.cons ry .nil), ⟨o2, fr2 T o2 hTw ho2, hc2, nn, by rw [hd2, ev, Int.zero_add]⟩⟩
    refine ⟨.ref T, _, I.turnedNew (ch := [e, it]) (fun b ob hb q => fr2 b ob hb (fr b ob hb q)) hf hT new, rfl, ⟨T, y, rfl, hTf, rfl, hy⟩, ⟨he2, hi2, n1, n2, n3⟩, fun b hb => ?_⟩
    rw [upd_ne fun z : b = T => hTw (z ▸ hb)]
    exact (hf b hb).1
  done := by
    rintro X rfl rfl rfl hc i pins s σ H E I hf ⟨he, hi, n1, n2, n3⟩ ⟨ha, hle⟩
    obtain ⟨its, rv, pl, _⟩ := I.tuple (SqT.of ha)
    have sz : its.toArray.size = i := by rw [List.size_toArray, ← rv.length, hle]
    have W := WalksT.enumFrom (prog := X.prog) (w := X.w) (A := X.A) 0 (Draws.tuple (A := X.A.in1) (by simp [I.ok.hd hc]) it t n2 its.toArray) e n1 (by simp [n1, n3]) (by simp)
    rw [sz] at W
    exact W.done s _ _ ⟨he, hi, pl⟩ fun h' tk fr => ⟨rfl, I.turnedL (ch := [e, it]) fr hf⟩
  self := fun A i s Q E ⟨⟨_, he⟩, _⟩ h => wpAny_pyIter_enum he h
def iEnumT (ta : TA) : TI := fun σ H R => ta σ H fun vs H1 => ∃ a xs, vs = [.ref a] ∧ H1 a = some (.tup xs) ∧ R (IteT a xs) H1
theorem pi_enumT {X : Cx} {e : Expr} {ta : TA} {p pos tpos : Pos} {elts : List Expr} {kk : Nat} (hg : Gl X "enumerate") (hm : X.mg "enumerate" = none) (ha : PA X [e] ta) (hs : starEach [e] X.env = [(false, eval e X.env)] := by rfl) :
    PI X (.Tuple elts kk tpos) (.Call (.Name "enumerate" p) [e] [] pos) (iEnumT ta) := by
  refine ⟨fun pins s σ H R I h => Call_ (ld_blt I hg hm boot_enumerate (callWith_type1 (thn (ha.run pos pins s σ H _ I h) fun us s1 ⟨vs, H1, I1, r1, q1⟩ => ?_) hs rfl))⟩
  obtain ⟨a, xs, rfl, ht, q⟩ := q1
  cases r1 with
  | cons r rr =>
    cases rr
    cases r
    obtain ⟨its, rv, pl, _⟩ := I1.tuple (SqT.of ht)
    have al : a < s1.heap.objs.size := by obtain ⟨_, z, _⟩ := pl; exact Heap.lt_size z
    refine enum_call (begins_tuple a its.toArray) pl fun h' he hit hk => wpAny_pyIter_enum he ⟨s1.heap.objs.size + 1, [s1.heap.objs.size + 1, s1.heap.objs.size], _, _, H1, rfl, I1.kept (t' := s1.toks) hk, turn_enumT xs a (s1.heap.objs.size + 1) s1.heap.objs.size,
      ⟨⟨.none, he⟩, ⟨_, hit, rfl, rfl⟩, Nat.succ_ne_self _, Nat.ne_of_lt al, Nat.ne_of_gt (Nat.lt_succ_of_lt al)⟩, fun b hb => ?_, q⟩
    have le : s1.heap.objs.size ≤ b := by
      rcases List.mem_cons.mp hb with z | z
      · rw [z]; exact Nat.le_succ _
      · rw [List.mem_singleton.mp z]; exact Nat.le_refl _
    exact I1.fpOk le (I1.hok.fresh le)
theorem walk_enumT (a : Addr) (xs : List V) : Walk (IteT a xs) xs.length (fun H => H a = some (.tup xs)) (fun i H v H' => ∃ T x, v = .ref T ∧ H T = none ∧ H' = upd H T (.tup [.int (i : Nat), x]) ∧ xs[i]? = some x) :=
  ⟨fun i H hi h => ⟨h, hi⟩, fun H h => ⟨h, rfl⟩, fun i H x H' _ _ y => y⟩
end K2
end
section
set_option Elab.async false
set_option maxRecDepth 100000
set_option linter.all false
namespace K2
open PySem L2
abbrev sInit : Stmt := inClass (top 16) 0
abbrev sMade : Stmt := inClass (top 16) 2
abbrev sWithin : Stmt := inClass (top 16) 6
abbrev nInit : List Str := ["self", "rows", "lines", "k", "row", "reason"]
def flds (r n l : Addr) : List (Str × V) := putF "_lines" (.ref l) (putF "names" (.ref n) (putF "rows" (.ref r) []))
theorem k1_ : ¬ (("rows" : Str) = "names") := by decide +kernel
theorem k2_ : ¬ (("rows" : Str) = "_lines") := by decide +kernel
theorem k3_ : ¬ (("names" : Str) = "_lines") := by decide +kernel
theorem flds_lines (r n l : Addr) : (flds r n l).lookup ("_lines" : Str) = some (.ref l) := by
  unfold flds
  rw [lookup_putF, if_pos rfl]
theorem flds_no (r n l : Addr) {m : Str} (h1 : ¬ m = "_lines") (h2 : ¬ m = "names") (h3 : ¬ m = "rows") : (flds r n l).lookup m = none := by
  unfold flds
  rw [lookup_putF, if_neg h1, lookup_putF, if_neg h2, lookup_putF, if_neg h3]
  rfl
theorem merge2' (v1 v2 : V) : mergeK [] [((Sum.inr (Str.ofString "vacant") : Key), v1), ((Sum.inr (Str.ofString "error") : Key), v2)] = [((Sum.inr (Str.ofString "vacant") : Key), v1), ((Sum.inr (Str.ofString "error") : Key), v2)] := by
  show putK (putK [] (Sum.inr (Str.ofString "vacant") : Key) v1) (Sum.inr (Str.ofString "error") : Key) v2 = _
  rw [putK_new v1 rfl, putK_new v2 (by
    rw [List.nil_append, valV_cons, if_neg (by decide +kernel)]
    rfl)]
  rfl
/-- Classes stand at p, and know what is within what -/
def ClsAt (C : Addr) (H : Hp) (p : Addr) (tb : Tb) : Prop := ∃ (dx r n l : Addr) (kvs : List (Key × V)), H p = some (.ins C dx (flds r n l)) ∧ H l = some (.dK kvs) ∧ Tab fD H kvs tb
/-- Classes stand at p, made of these rows -/
def ClsW (C : Addr) (H : Hp) (p : Addr) (rs : List Row) : Prop := ∃ (dx r n l : Addr) (kvs : List (Key × V)) (ts : List Addr), H p = some (.ins C dx (flds r n l)) ∧ H l = some (.dK kvs) ∧ Tab fD H kvs (ups rs) ∧ H n = some (.tup ((keys (ups rs)).map V.str)) ∧ H r = some (.tup (ts.map V.ref)) ∧ RowsAt H ts rs
theorem ClsW.at {C p : Addr} {H : Hp} {rs : List Row} (h : ClsW C H p rs) : ClsAt C H p (ups rs) := by
  obtain ⟨dx, r, n, l, kvs, ts, h1, h2, h3, _⟩ := h
  exact ⟨dx, r, n, l, kvs, h1, h2, h3⟩
theorem keys_vals {f : List Str → HO} {H : Hp} {kvs : List (Key × V)} {t : Tb} (TB : Tab f H kvs t) : kvs.map (fun e => kV e.1) = (keys t).map V.str := by
  have := congrArg (List.map kV) TB.keys_eq
  rw [List.map_map, List.map_map] at this
  exact this
theorem flds_names (r n l : Addr) : (flds r n l).lookup ("names" : Str) = some (.ref n) := by
  unfold flds
  rw [lookup_putF, if_neg k3_, lookup_putF, if_pos rfl]
theorem flds_rows (r n l : Addr) : (flds r n l).lookup ("rows" : Str) = some (.ref r) := by
  unfold flds
  rw [lookup_putF, if_neg k2_, lookup_putF, if_neg k1_, lookup_putF, if_pos rfl]
theorem Tab.monoM {f : List Str → HO} {H H' : Hp} {kvs : List (Key × V)} {t : Tb} (h : Tab f H kvs t) (k : ∀ a us, (∃ y, (y, V.ref a) ∈ kvs) → H a = some (f us) → H' a = some (f us)) : Tab f H' kvs t := by
  induction h with
  | nil => exact .nil
  | cons h1 _ ih => exact .cons (k _ _ ⟨_, List.mem_cons_self⟩ h1) (ih fun a us ⟨y, hy⟩ => k a us ⟨y, List.mem_cons_of_mem _ hy⟩)
structure Txt (K : PySem.W.Frag) (mg : Str → Option Value) (C : Addr) : Prop where
  cl : Cls K C
  nR : NoAttr K C "rows"
  nN : NoAttr K C "names"
  nL : NoAttr K C "_lines"
  mgC : mg "Classes" = some (.ref C)
def spInit (C : Addr) : Sp := fun vs H Q _ => ∃ (p dx rt : Addr) (ts : List Addr) (rs : List Row), vs = [.ref p, .ref rt] ∧ H p = some (.ins C dx []) ∧ H rt = some (.tup (ts.map V.ref)) ∧ RowsAt H ts rs ∧ Good rs ∧ rs.length ≤ 30 ∧
  ∀ (H' : Hp), ClsW C H' p rs → (∀ b o, H b = some o → b ≠ p → H' b = some o) → Q .non H'
theorem init_bind (kV doc pm : Value) (an : Option Addr) (cdv ct : Value) : ∀ us rest : List Value, us.length = ["self"].length → bindArgs (PySem.W.fnOf "__init__" "Classes.__init__" (defArgs sInit) (defBody sInit) (defScope sInit) .none kV doc pm an cdv ct) ⟨us ++ rest, []⟩ = (newTuple rest >>= fun t => pure (([("self" : Str)]).zip us ++ [(("rows" : Str), t)])) :=
  StX.bind_star1 (B := fun l => bindArgs (PySem.W.fnOf "__init__" "Classes.__init__" (defArgs sInit) (defBody sInit) (defScope sInit) .none kV doc pm an cdv ct) ⟨l, []⟩) (fun a => rfl) (fun a r rs => rfl)
section
variable {P : Program} {w : World} {K : PySem.W.Frag} {mg : Str → Option Value} {base : Heap}
theorem scInit : FnScope nInit ["self", "rows"] (defScope sInit) := ⟨rfl, rfl, rfl, by decide +kernel, rfl, by decide +kernel, by decide +kernel⟩
theorem ok_init {f C fF fL : Addr} {fd fdF fdL : FuncData} (F : Fun K "__init__" "Classes.__init__" sInit f fd) (X : Txt K mg C) (T : Bi mg) (FA : Df K mg "_fault" sFault fF fdF ["row", "k", "lines"]) (GF : FnOk P w K mg base CX0 3 fF fdF ["row", "k", "lines"] spFault)
    (LI : Df K mg "_line" sLine fL fdL ["row", "lines"]) (GL : FnOk P w K mg base CX0 1 fL fdL ["row", "lines"] spLine) :
    FnR P w K mg base CX0 4 f (fun vs H Q E => ∃ ws rest, vs = ws ++ rest ∧ ws.length = 1 ∧ rest.length ≤ sizeLine ∧ ∀ p, H p = none → spInit C (ws ++ [V.ref p]) (upd H p (.tup rest)) Q E) := by
  obtain ⟨oc, od, kV, doc, pm, an, cdv, ct, osl, rfl, lk, hcd⟩ := F.ex
  refine StX.fn_star (ps := ["self"]) (pv := "rows") lk hcd scInit StX.cxUp_none (init_bind kV doc pm an cdv ct) fun A outer s H vs Q E hr h => ?_
  obtain ⟨p, dx, rt, ts, rs, rfl, hp, ht, R, g, h30, k⟩ := h
  have hr2 : Room 3 _ := hr
  have hr0 : Room 1 _ := hr.mono (by decide)
  have hu := hu_of hr
  suffices hs : ∃ t, PSs (cxOf CX0 P w K mg base nInit "Classes.__init__" (defScope sInit) f cdv A outer s H E).nox (defBody sInit) t ∧ t { nx := fun _ H' => Q .non H', rt := Q } (start nInit [V.ref p, V.ref rt]) H by
    obtain ⟨t, h1, h2⟩ := hs
    exact ⟨t, h1.nox, h2⟩
  refine ⟨_, (pss_cons (ps_set (i := 2) scInit.nd rfl (Or.inl rfl) (pe_disp (pps_cons pe_str (pe_disp (pps_cons pe_str pe_bl pps_nil) (by rfl) (by rfl) (fun z => by cases z) (by decide)) (pps_cons pe_str (pe_disp (pps_cons pe_str pe_bl (pps_cons pe_str pe_bl pps_nil)) (by rfl) (by rfl) (fun z => by cases z) (by decide)) pps_nil)) (by rfl) (by rfl) (fun z => by cases z) (by decide)))
      (pss_cons (ps_for PassesOwn.never rfl (pi_enumT (by rfl) T.enumerate (pa_cons (pv 1) pa_nil)) (pg_tup rfl (pgs_cons (pg_name (i := 3) scInit.nd rfl (Or.inl rfl)) (pgs_cons (pg_name (i := 4) scInit.nd rfl (Or.inl rfl)) pgs_nil)))
      (pss_cons (ps_set (i := 5) scInit.nd rfl (Or.inl rfl) (pe_call GF hr2 (by rfl) FA.m FA.F.kp FA.b .nil pass0 (pa_cons (pv 4) (pa_cons (pv 3) (pa_cons (pv 2) pa_nil)))))
        (pss_cons (ps_if (pt_cmpR op_notN (pv 5) pe_non (nomark _))
        (pss_one (ps_never))
        pss_nil)
        (pss_one (ps_dput hu (pv 2) (pe_ix ix_tup (pv 4) pe_int (fun _ _ => rfl)) (pe_call GL hr0 (by rfl) LI.m LI.F.kp LI.b .nil pass0 (pa_cons (pv 4) (pa_cons (pv 2) pa_nil))) rfl)))))
      (pss_cons (ps_fld (pv 0) (pv 1) rfl)
      (pss_cons (ps_fld (pv 0) (pe_callTy call_tuple_of (by rfl) T.tuple (by decide +kernel) (pa_cons (pe_callTy (call_list_dK rfl) (by rfl) T.list (by decide +kernel) (pa_cons (pv 2) pa_nil)) pa_nil)) rfl)
      (pss_one (ps_fld (pv 0) (pv 2) rfl)))))), ?_⟩
  refine fun d hd d1 hd1 => ⟨upd_same, [((Sum.inr (Str.ofString "error") : Key), V.bl true)], rfl, (by show 1 ≤ 15; decide), fun d2 hd2 => ?_⟩
  rw [merge1, upd_upd] at hd2 ⊢
  refine ⟨upd_same, [((Sum.inr (Str.ofString "vacant") : Key), V.bl true), ((Sum.inr (Str.ofString "error") : Key), V.bl true)], rfl, (by show 2 ≤ 15; decide), ?_⟩
  rw [merge2', upd_upd]
  have n01 : d ≠ d1 := fun e => by rw [← e, upd_same] at hd1; cases hd1
  have n12 : d1 ≠ d2 := fun e => by rw [← e, upd_same] at hd2; cases hd2
  have n02 : d ≠ d2 := fun e => by rw [← e, upd_ne n01, upd_same] at hd2; cases hd2
  have hd1H : H d1 = none := by rw [upd_ne n01.symm] at hd1; exact hd1
  have hd2H : H d2 = none := by rw [upd_ne n12.symm, upd_ne n02.symm] at hd2; exact hd2
  refine ⟨by rw [upd_ne n02, upd_ne n01, upd_same], [((Sum.inr (Str.ofString "error") : Key), V.ref d1), ((Sum.inr (Str.ofString "vacant") : Key), V.ref d2)], rfl, (by show 2 ≤ 15; decide), ?_⟩
  rw [merge2]
  have facts : ∀ H0, H0 = upd (upd (upd (upd H d (.dK [])) d1 (.dK [((Sum.inr (Str.ofString "error") : Key), V.bl true)])) d2 (.dK [((Sum.inr (Str.ofString "vacant") : Key), V.bl true), ((Sum.inr (Str.ofString "error") : Key), V.bl true)])) d
      (.dK [((Sum.inr (Str.ofString "error") : Key), V.ref d1), ((Sum.inr (Str.ofString "vacant") : Key), V.ref d2)]) → Same H H0 ∧ H0 d = some (.dK [((Sum.inr (Str.ofString "error") : Key), V.ref d1), ((Sum.inr (Str.ofString "vacant") : Key), V.ref d2)]) ∧
      Tab fD H0 [((Sum.inr (Str.ofString "error") : Key), V.ref d1), ((Sum.inr (Str.ofString "vacant") : Key), V.ref d2)] t0 := fun H0 e => by
    subst e
    refine ⟨((((Same.refl H).put hd).put hd1H).put hd2H).put hd, upd_same, .cons ?_ (.cons ?_ .nil)⟩
    · rw [upd_ne n01.symm, upd_ne n12, upd_same]
      rfl
    · rw [upd_ne n02.symm, upd_same]
      rfl
  generalize hH0 : upd (upd (upd (upd H d (.dK [])) d1 (.dK [((Sum.inr (Str.ofString "error") : Key), V.bl true)])) d2 (.dK [((Sum.inr (Str.ofString "vacant") : Key), V.bl true), ((Sum.inr (Str.ofString "error") : Key), V.bl true)])) d
      (.dK [((Sum.inr (Str.ofString "error") : Key), V.ref d1), ((Sum.inr (Str.ofString "vacant") : Key), V.ref d2)]) = H0
  obtain ⟨sm0, hd0, T0⟩ := facts H0 hH0.symm
  have tl : (ts.map V.ref).length = rs.length := by rw [List.length_map, R.1]
  refine ⟨_, rfl, rt, _, rfl, sm0 rt _ ht, for_it (walk_enumT rt (ts.map V.ref)) (fun i σ Hc => ∃ (kvs : List (Key × V)) (v3 v4 v5 : Option V), σ = [some (.ref p), some (.ref rt), some (.ref d), v3, v4, v5] ∧ Hc d = some (.dK kvs) ∧ Tab fD Hc kvs (ups (rs.take i)) ∧ Same H Hc ∧ ∀ y a, (y, V.ref a) ∈ kvs → a ≠ d) ?_ ?_ ?_ ?_⟩
  · refine ⟨_, _, _, _, rfl, hd0, T0, sm0, fun y a hya => ?_⟩
    simp only [List.mem_cons, List.not_mem_nil, or_false, Prod.mk.injEq, V.ref.injEq] at hya
    rcases hya with ⟨_, rfl⟩ | ⟨_, rfl⟩
    · exact n01.symm
    · exact n02.symm
  · rintro i σ Hc _ ⟨kvs, v3, v4, v5, rfl, _, _, sm, _⟩
    exact sm rt _ ht
  · rintro i y σ Hc Hy hi ⟨kvs, v3, v4, v5, rfl, hD, TB, sm, hav⟩ ⟨T9, x, rfl, hT9, rfl, hx⟩
    rw [tl] at hi
    have hti : ts[i]? = some (ts[i]'(by rw [R.1]; exact hi)) := List.getElem?_eq_getElem _
    rw [List.getElem?_map, hti] at hx
    generalize ts[i]'(by rw [R.1]; exact hi) = t at hti hx
    cases hx
    have hri : rs[i]? = some rs[i] := List.getElem?_eq_getElem hi
    have htH := sm t _ (R.2 i t _ hti hri)
    have RO := g i _ hri
    have TO := tok_ups g i (Nat.le_of_lt hi)
    have hks := keys_ups_take rs i
    have hus := ups_succ hri
    have hkl := knownAt_len (Nat.le_of_lt hi)
    have hvw := g.vw_known i
    generalize rs[i] = r at hri htH RO hus
    rw [← hks] at RO hkl hvw
    generalize ups (rs.take i) = tb at TB TO hks hus RO hkl hvw
    have htl2 : tb.length = (keys tb).length := by simp [keys]
    have s9 : Same Hc (upd Hc T9 (.tup [V.int (i : Nat), V.ref t])) := (Same.refl Hc).put hT9
    refine ⟨T9, _, rfl, SqT.of upd_same, rfl, _, _, rfl, _, _, rfl, rfl, ?_⟩
    have TB9 : ∀ {H2 : Hp}, Same Hc H2 → Tab fD H2 kvs tb := fun s => TB.mono fun a us e => s a _ e
    refine ⟨_, rfl, _, rfl, _, rfl, t, d, i, r, kvs, tb, rfl, by omega, s9 t _ htH, s9 d _ hD, TB9 s9, TO, RO, fun x hx => hvw x (RO.sub x hx), by omega, fun H2 s2 => ?_⟩
    refine ⟨_, rfl, rfl, _, rfl, iteNS rfl ?_⟩
    have s92 := s9.trans s2
    refine ⟨_, rfl, _, rfl, t, d, r, kvs, tb, rfl, s92 t _ htH, s92 d _ hD, TB9 s92, TO, RO, by omega, fun m H3 hmf hm s3 => ?_⟩
    have s93 := s92.trans s3
    have hD3 := s93 d _ hD
    have ht3 := s93 t _ htH
    obtain ⟨x, bs⟩ := r
    unfold rowO at ht3
    refine ⟨_, rfl, _, rfl, t, _, _, _, rfl, rfl, SqT.of ht3, atI_nat (j := 0) rfl, d, _, rfl, DPut.k (k := Sum.inr x) hD3 ?_, ?_⟩
    · rw [TB.len, htl2]; show _ < 16777216; omega
    rw [putK_new _ (TB.none RO.new)]
    have hmd : m ≠ d := (ne_of_none (s92 d _ hD) hmf).symm
    refine ⟨_, _, _, _, rfl, upd_same, ?_, (sm.trans s93).put hd, fun y a hya => ?_⟩
    · rw [hus]
      refine Tab.snoc ((TB9 s93).monoM fun a us ⟨y, hy⟩ e => by rw [upd_ne (hav y a hy)]; exact e) ?_
      rw [upd_ne hmd]
      exact hm
    · rcases List.mem_append.mp hya with hya | hya
      · exact hav y a hya
      · simp only [List.mem_cons, List.not_mem_nil, or_false, Prod.mk.injEq, V.ref.injEq] at hya
        rw [hya.2]
        exact hmd
  · rintro σ Hc ⟨kvs, v3, v4, v5, rfl, hD, TB, sm, hav⟩
    rw [tl, List.take_length] at TB
    have hpc := sm p _ hp
    have hdp : d ≠ p := ne_of hD hpc (by intro z; cases z)
    refine ⟨_, rfl, _, rfl, p, C, dx, _, rfl, hpc, X.cl, X.nR, (by show 0 < 1000; decide), ?_⟩
    refine ⟨_, rfl, d, kvs, rfl, by rw [upd_ne hdp]; exact hD, fun q1 hq1 => ?_⟩
    refine ⟨q1, _, rfl, .inl ⟨SqL.of upd_same, fun q2 hq2 => ?_⟩⟩
    have np1 : p ≠ q1 := ne_of_none upd_same hq1
    have np2 : p ≠ q2 := ne_of_none ((upd_ne np1).trans upd_same) hq2
    have back : ∀ b o, Hc b = some o → b ≠ p → ∀ o1 o2 o3 o4, (upd (upd (upd (upd Hc p o1) q1 o2) q2 o3) p o4) b = some o := fun b o e n o1 o2 o3 o4 => by
      have e1 : (upd Hc p (.ins C dx (putF "rows" (V.ref rt) []))) b = some o := by rw [upd_ne n]; exact e
      have n1 : b ≠ q1 := ne_of_none e1 hq1
      have n2 : b ≠ q2 := by
        refine ne_of_none (o := o) ?_ hq2
        rw [upd_ne n1]
        exact e1
      rw [upd_ne n, upd_ne n2, upd_ne n1, upd_ne n]
      exact e
    refine ⟨_, rfl, p, C, dx, _, rfl, by rw [upd_ne np2, upd_ne np1, upd_same], X.cl, X.nN, (by show 1 < 1000; decide), ?_⟩
    refine ⟨_, rfl, _, rfl, p, C, dx, _, rfl, upd_same, X.cl, X.nL, ?_, ?_⟩
    · show (if ("rows" : Str) = "names" then _ else _ : List (Str × V)).length < 1000
      rw [if_neg k1_]
      show 2 < 1000
      decide
    rw [upd_upd]
    have nr : ∀ (a : Addr) (us : List V), Hc a = some (.tup us) → a ≠ p := fun a us e => ne_of e hpc (by intro z; cases z)
    refine k _ ⟨dx, rt, q2, d, kvs, ts, upd_same, back d _ hD hdp _ _ _ _, TB.mono fun a us e => back a _ e (ne_of e hpc (by unfold fD; intro z; cases z)) _ _ _ _, ?_, back rt _ (sm rt _ ht) (nr _ _ (sm rt _ ht)) _ _ _ _, R.mono fun b r e => back b _ (sm b _ e) (nr _ _ (sm b _ e)) _ _ _ _⟩ fun b o e n => back b o (sm b o e) n _ _ _ _
    rw [upd_ne np2.symm, upd_same, keys_vals TB]
end
end K2
end
section
set_option Elab.async false
set_option maxRecDepth 100000
set_option linter.all false
namespace K2
open PySem L2 PySem.Spec PyProof.Rows
section
variable {X : Cx} {CX : CXT} {k n i : Nat} {f C : Addr} {fd : FuncData} {ps ks : List Str} {sp : Sp} {E : XK} {m x : Str} {o e : Expr} {p q pos apos : Pos} {ta tk te : TA} {g : List Value → List Value → List Value} {gV : List V → List V → List V} {kws : List Keyword}
theorem run_fnK {pins : List (Addr × Obj)} {σ : L2.St} {H : Hp} {s : Shared} {Q : VK} {us ws : List Value} {vs zs : List V} (F : FnOk X.prog X.w X.K X.mg X.base CX k f fd ps sp) (hr : Room k X.A) (hb : KBn X.K fd ps n ks g gV) (hx : Passes CX X E) (I : Inv X pins σ H s)
    (r : Vals vs us) (rz : Vals zs ws) (l1 : us.length = n) (l2 : ws.length = ks.length) (h : sp (gV vs zs) H Q E) : wpAny (model X.prog X.w) X.A (call (.ref f) us (ks.zip ws)) (EP X pins σ Q) X.xe s := by
  refine wpAny_call (codeAny_mono (F.run X.A X.stack s H ⟨us, ks.zip ws⟩ (g us ws) (gV vs zs) Q E hr I.env0 (hb.to s us ws I.kIn l1 l2) (hb.rel r rz) h) fun y z hq => ?_)
  cases y with
  | error e => exact hx pins σ H s e z I hq
  | ok fl =>
    cases fl with
    | ret u => exact I.after hq
    | next => exact hq.elim
    | brk => exact hq.elim
    | cont => exact hq.elim
/-- o.m(k = v, ..) -/
def tMethK (C : Addr) (m : Str) (sp : Sp) (ks : List Str) (gV : List V → List V → List V) (E : XK) (to : TE) (tk : TA) : TE := fun σ H Q => to σ H fun x H1 => ∃ a dx fs, x = .ref a ∧ H1 a = some (.ins C dx fs) ∧ fs.lookup m = none ∧ tk σ H1 fun zs H2 => zs.length = ks.length ∧ sp (gV [x] zs) H2 Q E
theorem pe_methK {to : TE} {pl : Sem Bool} (he : PE X o to) (c : Cls X.K C) (hm : Meth X.K C m f) (F : FnOk X.prog X.w X.K X.mg X.base CX k f fd ps sp) (hr : Room k X.A) (hb : KBn X.K fd ps 1 ks g gV) (hx : Passes CX X E) (hkw : PK X kws tk)
    (hall : (backToKw pos (keywordEach kws X.env)).all (·.1.isSome) = true := by rfl) (hks : (backToKw pos (keywordEach kws X.env)).filterMap (·.1) = ks := by rfl) (hpl : ((backTo pos (starEach [] X.env)).any (·.1) || (backToKw pos (keywordEach kws X.env)).any (·.1.isNone)) = false := by rfl)
    (ht : eval (.Call (.Attribute o m apos) [] kws pos) X.env = (do
      let ov ← eval o X.env
      standAt apos.atName
      let (f, first) ← holding [ov] (getMethod ov m pl)
      callWith pos f first (backTo pos (starEach [] X.env)) (backToKw pos (keywordEach kws X.env))) := by rfl) : PE X (.Call (.Attribute o m apos) [] kws pos) (tMethK C m sp ks gV E to tk) := by
  refine ⟨fun pins s σ H Q I h => PySem.W.methodCall_KW (pl := pl) (thn (he.run pins s σ H _ I h) fun u s1 ⟨x, H1, I1, rx, a, dx, fs, ex, ea, l, q⟩ => ?_) ht⟩
  subst ex
  obtain rfl : u = Value.ref a := rx
  refine getmeth_ok I1 ea c hm l (PySem.W.callWith_KW0 (first := [.ref a]) (h₀ := X.base) I.ok.mod.kin hm.kp hall (thn (hkw.run pos pins s1 σ H1 _ I1 q) fun ws s2 ⟨zs, H2, I2, rz, l2, q2⟩ => ⟨I2.kIn, ?_⟩) hpl)
  rw [hks]
  exact run_fnK (us := [.ref a]) (vs := [.ref a]) F hr hb hx I2 (.cons rfl .nil) rz rfl (by rw [← l2, rz.length]) q2
/-- c(*y), c a name that holds a class -/
def tMakeL (i : Nat) (K : PySem.W.Frag) (C : Addr) (sp : Sp) (E : XK) (te : TE) : TE := fun σ H Q => σ[i]? = some (some (.ref C)) ∧ te σ H fun y H1 => ∃ a xs, y = .ref a ∧ (SqT K H1 a xs ∨ SqL K H1 a xs) ∧ ∀ x dx, H1 x = none → H1 dx = none → dx ≠ x →
  sp (V.ref x :: xs) (upd (upd H1 dx (.own x)) x (.ins C dx [])) (fun v H2 => v = .non ∧ Q (.ref x) H2) E
theorem pe_makeL {te : TE} (M : Mk X.K C f) (F : FnR X.prog X.w X.K X.mg X.base CX k f sp) (hr : Room (k + 1) X.A) (hN : X.N[i]? = some x) (hv : Vis X.env.scope x) (hx : Passes CX X E) (he : PE X e te) (hdb : (x == ("__debug__" : Str)) = false := by decide) (hcd : (x == ("__classdict__" : Str)) = false := by decide)
    (hst : starEach [.Starred e q] X.env = [(true, eval e X.env)] := by rfl) : PE X (.Call (.Name x p) [.Starred e q] [] pos) (tMakeL i X.K C sp E te) := by
  refine ⟨fun pins s σ H Q I ⟨hs, ht⟩ => wpAny_Call_Name_kw (thn ((pe_var (pos := p) hN hv hdb hcd).run pins s σ H (fun v H1 => v = .ref C ∧ H1 = H) I ⟨.ref C, hs, rfl, rfl⟩) fun u s1 ⟨v, H1, I1, r1, q1⟩ => ?_)⟩
  obtain ⟨rfl, rfl⟩ := q1
  cases r1
  refine PySem.W.callWith_S (h₀ := X.base) I.ok.mod.kin M.kp (thn (he.run pins s1 σ _ _ I1 ht) fun v s2 ⟨y, H2, I2, ry, a, xs, ey, hxs, h2⟩ => ?_) hst
  subst ey
  obtain rfl : v = Value.ref a := ry
  exact StX.star_any I2 hxs fun us s3 I3 rv => ⟨I3.kIn, StX.run_makeR M F hr hx I3 rv h2⟩
end
def spWithin (C : Addr) : Sp := fun vs H Q _ => ∃ (p : Addr) (x y : Str) (tb : Tb), vs = [.ref p, .str x, .str y] ∧ ClsAt C H p tb ∧ x ∈ keys tb ∧ Q (.bl (decide (y ∈ look tb x))) H
def spMade (C : Addr) : Sp := fun vs H Q _ => ∃ (l : Addr) (ts : List Addr) (rs : List Row), vs = [.ref C, .ref l] ∧ H l = some (.lst (ts.map V.ref)) ∧ RowsAt H ts rs ∧ Good rs ∧ rs.length ≤ 30 ∧ ∀ (p : Addr) (H' : Hp), ClsW C H' p rs → Same H H' → Q (.ref p) H'
section
variable {P : Program} {w : World} {K : PySem.W.Frag} {mg : Str → Option Value} {base : Heap}
theorem scWithin : FnScope ["self", "one", "other"] ["self", "one", "other"] (defScope sWithin) := ⟨rfl, rfl, rfl, by decide +kernel, rfl, by decide +kernel, by decide +kernel⟩
theorem ok_within {f C : Addr} {fd : FuncData} (F : Fun K "within" "Classes.within" sWithin f fd) (X : Txt K mg C) : FnOk P w K mg base CX0 1 f fd ["self", "one", "other"] (spWithin C) := by
  refine F.ok scWithin (fun vs H Q E h => ?_) (fun cdv A outer s H vs Q E hr h => ?_)
  · obtain ⟨p, x, y, tb, rfl, _⟩ := h
    rfl
  · obtain ⟨p, x, y, tb, rfl, ⟨dx, r, n, l, kvs, hp, hl, TB⟩, hx, k⟩ := h
    have hu := hu_of hr
    refine ⟨_, pss_one (ps_ret (pe_cmp (pc_din hu (pv 2) (pe_dget hu (pe_fld (pv 0) rfl) (pv 1) (fun _ _ => rfl))) rfl)), ?_⟩
    obtain ⟨a, ha1, ha2⟩ := TB.val hx
    refine ⟨_, rfl, _, rfl, p, C, dx, _, _, rfl, hp, X.cl, X.nL, flds_lines _ _ _, _, rfl, l, _, rfl, dget_s hl ha1, a, _, rfl, DGet.k (k := Sum.inr y) ha2, ?_⟩
    rw [dkeys_val]
    by_cases h : y ∈ look tb x
    · rw [if_pos h]
      rw [decide_eq_true h] at k
      exact k
    · rw [if_neg h]
      rw [decide_eq_false h] at k
      exact k
theorem scMade : FnScope ["cls", "rows"] ["cls", "rows"] (defScope sMade) := ⟨rfl, rfl, rfl, by decide +kernel, rfl, by decide +kernel, by decide +kernel⟩
theorem ok_made {f fI C : Addr} {fd : FuncData} (F : Fun K "made" "Classes.made" sMade f fd) (M : Mk K C fI)
    (GI : FnR P w K mg base CX0 4 fI (fun vs H Q E => ∃ ws rest, vs = ws ++ rest ∧ ws.length = 1 ∧ rest.length ≤ sizeLine ∧ ∀ p, H p = none → spInit C (ws ++ [V.ref p]) (upd H p (.tup rest)) Q E)) : FnOk P w K mg base CX0 6 f fd ["cls", "rows"] (spMade C) := by
  refine F.ok scMade (fun vs H Q E h => ?_) (fun cdv A outer s H vs Q E hr h => ?_)
  · obtain ⟨l, ts, rs, rfl, _⟩ := h
    rfl
  · obtain ⟨l, ts, rs, rfl, hl, R, g, h30, k⟩ := h
    refine ⟨_, pss_one (ps_ret (pe_makeL (i := 0) M GI hr rfl (Or.inl rfl) pass0 (pv 1))), ?_⟩
    refine ⟨rfl, _, rfl, l, _, rfl, .inr (SqL.of hl), fun x dx nx ndx ne => ⟨[V.ref x], _, rfl, rfl, ?_, fun pt hpt => ?_⟩⟩
    · rw [List.length_map, R.1]; show _ ≤ 16777216; omega
    have s1 : Same H (upd (upd H dx (.own x)) x (.ins C dx [])) := ((Same.refl H).put ndx).put nx
    have s2 : Same H (upd (upd (upd H dx (.own x)) x (.ins C dx [])) pt (.tup (ts.map V.ref))) := s1.put (s1.free hpt)
    refine ⟨x, dx, pt, ts, rs, rfl, by rw [upd_ne (ne_of_none upd_same hpt), upd_same], upd_same, R.mono fun b r e => s2 b _ e, g, h30, fun H' cl kp => ⟨rfl, k x H' cl fun b o e => kp b o (s2 b o e) (ne_of_none e nx)⟩⟩
end
end K2
end
section
set_option Elab.async false
set_option maxRecDepth 100000
set_option linter.all false
namespace K2
open PySem L2 PySem.Spec PyProof.Rows
/-- a def's promise where no repr runs around -/
structure FnG (P : Program) (w : World) (K : PySem.W.Frag) (mg : Str → Option Value) (base : Heap) (k : Nat) (f : Addr) (fd : FuncData) (ps : List Str) (sp : Sp) : Prop where
  len : ∀ vs H Q E, sp vs H Q E → vs.length = ps.length
  run : ∀ (A : Around) (outer : List Env) (s : Shared) (H : Hp) (args : Args) (us : List Value) (vs : List V) (Q : VK) (E : XK), Room k A → A.guards = some [] → Env0 P w K mg base A outer s H → BindsTo s fd args (ps.zip us) → Vals vs us → sp vs H Q E →
    codeAny (model P w) A (.call (.ref f) args) (CR CX0 outer P w H s Q E) s
section
variable {P : Program} {w : World} {K : PySem.W.Frag} {mg : Str → Option Value} {base : Heap}
theorem okG {x qual : Str} {st : Stmt} {f : Addr} {fd : FuncData} {N ps : List Str} {k : Nat} {sp : Sp} (F : Fun K x qual st f fd) (S : FnScope N ps (defScope st)) (len : ∀ vs H Q E, sp vs H Q E → vs.length = ps.length)
    (body : ∀ (cdv : Value) (A : Around) (outer : List Env) (s : Shared) (H : Hp) (vs : List V) (Q : VK) (E : XK), Room k (A.deeper (envOfC qual (defScope st) s.heap.objs.size f cdv)) → A.guards = some [] → sp vs H Q E →
      ∃ t, PSs (cxOf CX0 P w K mg base N qual (defScope st) f cdv A outer s H E).nox (defBody st) t ∧ t { nx := fun _ H' => Q .non H', rt := Q } (start N vs) H) : FnG P w K mg base (k + 1) f fd ps sp := by
  obtain ⟨oc, od, kV, doc, pm, an, cdv, ct, osl, rfl, lk, hcd⟩ := F.ex
  refine ⟨len, fun A outer s H args us vs Q E hr hg e0 hb rv hs => ?_⟩
  refine StX.run_bnd (G := fun xs H2 => xs = vs ∧ H2 = H) lk hcd S hr e0 (fun A' Ex Q' h => hb _ _ _ _ (h s H vs us e0 Un.refl rfl (fun _ _ z => z) rv (len _ _ _ _ hs) ⟨rfl, rfl⟩)) fun s2 H2 xs ⟨e1, e2⟩ hr2 => ?_
  subst e1 e2
  obtain ⟨t, h1, h2⟩ := body cdv A outer s2 _ _ Q E hr2 hg hs
  exact ⟨t, h1.nox, h2⟩
end
section
variable {X : Cx} {k : Nat} {f : Addr} {fd : FuncData} {ps : List Str} {sp : Sp} {x : Str} {e : Expr} {es : List Expr} {p pos : Pos} {t : TA}
theorem pe_callG (F : FnG X.prog X.w X.K X.mg X.base k f fd ps sp) (hr : Room k X.A) (gu : X.A.guards = some []) (hg : Gl X x) (hm : X.mg x = some (.ref f)) (hk : PySem.W.keepIn X.K (.ref f) = true) (hb : Binds X.K fd ps []) (ha : PA X (e :: es) t) (hdb : (x == ("__debug__" : Str)) = false := by decide)
    (he : starEach (e :: es) X.env = (false, eval e X.env) :: starEach es X.env := by rfl) (hpl : (backTo pos (starEach es X.env)).any (·.1) = false := by rfl) : PE X (.Call (.Name x p) (e :: es) [] pos) (fun σ H Q => t σ H fun vs H1 => sp vs H1 Q E0) := by
  refine ⟨fun pins s σ H Q I h => wpAny_Call_Name_kw (ld_glob I hg hm ?_ hdb)⟩
  refine PySem.W.callWith_K (h₀ := X.base) I.ok.mod.kin hk (thn (ha.run pos pins s σ H _ I h) fun us s1 ⟨vs, H1, I1, r, q⟩ => ⟨I1.kIn, ?_⟩) he hpl
  have l2 : us.length = ps.length := by rw [← r.length]; exact F.len _ _ _ _ q
  have hb2 := hb s1 us I1.kIn (by simpa using l2)
  rw [List.append_nil] at hb2
  refine wpAny_call (codeAny_mono (F.run X.A X.stack s1 H1 ⟨us, []⟩ us vs Q E0 hr gu I1.env0 hb2 r q) fun y z hq => ?_)
  cases y with
  | error e => exact hq.elim
  | ok fl =>
    cases fl with
    | ret u => exact I1.after hq
    | next => exact hq.elim
    | brk => exact hq.elim
    | cont => exact hq.elim
/-! repr of a list of bools -/
def boolsD (bs : List Bool) : PyData := .list (bs.map PyData.bool)
theorem bools_dp (K : PySem.W.Frag) (H : Hp) : ∀ bs : List Bool, DpAll K H (bs.map V.bl) (bs.map PyData.bool)
  | [] => .nil
  | b :: bs => .cons (.bl b) (bools_dp K H bs)
theorem bools_show : ∀ bs : List Bool, PyData.showableAll (bs.map PyData.bool) = true
  | [] => rfl
  | b :: bs => by
    show (true && PyData.showableAll (bs.map PyData.bool)) = true
    rw [bools_show bs]
    rfl
theorem bools_depth : ∀ bs : List Bool, PyData.depthAll (bs.map PyData.bool) = 0
  | [] => rfl
  | b :: bs => by
    show max 0 (PyData.depthAll (bs.map PyData.bool)) = 0
    rw [bools_depth bs]
    rfl
theorem bools_nodict : ∀ bs : List Bool, PyData.hasDictAll (bs.map PyData.bool) = false
  | [] => rfl
  | b :: bs => by
    show (false || PyData.hasDictAll (bs.map PyData.bool)) = false
    rw [bools_nodict bs]
    rfl
theorem bools_sum : ∀ bs : List Bool, ((PyData.shownAll (bs.map PyData.bool)).map (·.length)).sum ≤ 5 * bs.length ∧ (PyData.shownAll (bs.map PyData.bool)).length = bs.length
  | [] => ⟨Nat.le_refl _, rfl⟩
  | b :: bs => by
    obtain ⟨h1, h2⟩ := bools_sum bs
    have hb : (PyData.shown (.bool b)).length ≤ 5 := by cases b <;> decide +kernel
    refine ⟨?_, ?_⟩
    · show (PyData.shown (.bool b)).length + ((PyData.shownAll (bs.map PyData.bool)).map (·.length)).sum ≤ 5 * (bs.length + 1)
      omega
    · show (PyData.shownAll (bs.map PyData.bool)).length + 1 = bs.length + 1
      omega
theorem bools_size (bs : List Bool) (h : bs.length ≤ 1000) : (boolsD bs).shown.length ≤ sizeLine := by
  have h1 := listText_len_le (PyData.shownAll (bs.map PyData.bool))
  obtain ⟨h2, h3⟩ := bools_sum bs
  show (listText (PyData.shownAll (bs.map PyData.bool))).length ≤ 16777216
  omega
/-- repr(xs) of a list of bools: a text that hangs on the bools alone -/
def rReprB (K : PySem.W.Frag) : List V → Hp → VK → Prop := fun xs H Q => ∃ a bs, xs = [V.ref a] ∧ SqL K H a (bs.map V.bl) ∧ (boolsD bs).shown.length ≤ sizeLine ∧ Q (.str (boolsD bs).shown) H
theorem call_reprB (gu : X.A.guards = some []) (hu : X.A.units + 64 < cLine) : CallR X (.builtin "repr") (rReprB X.K) := by
  intro pins s σ H xs us Q I r h
  obtain ⟨a, bs, rfl, hs, hz, q⟩ := h
  obtain ⟨u, rfl, ru⟩ := r.one
  cases ru
  obtain ⟨as, rd⟩ := Dp.reads I (boolsD bs) (V.ref a) (Value.ref a) (.lst hs (bools_dp _ _ bs)) rfl
  have dp : (boolsD bs).depth = 1 := by
    show PyData.depthAll (bs.map PyData.bool) + 1 = 1
    rw [bools_depth]
  refine repr_of_reads' rd (bools_show bs) (fun z => by rw [show (boolsD bs).hasDict = false from bools_nodict bs] at z; cases z) gu (by rw [dp]; omega) (fun b o e => e) (fun h' u tk hk => ⟨.str _, H, I.kept (t' := tk) hk, ⟨u, rfl⟩, q⟩) hz
end
end K2
end
section
set_option Elab.async false
set_option maxRecDepth 100000
set_option linter.all false
namespace K2
open PySem PySem.Spec PyProof.Rows L2
/-! ### sets of texts that are walked -/
def sTxt (e : Int × Value) : Str := match e.2 with | .str k _ => k | _ => Str.empty
structure WkS (P : Program) (w : World) (D : Froz.SD) (l : List Str) : Prop where
  ok : Froz.TxOk P w D l
  tx : ∀ e ∈ D.1.toList, ∃ u, e.2 = .str (sTxt e) u
  pm : (D.1.toList.map sTxt).Perm l
  rs : Ris D.2.2.place.toList
  ld : w.params.followText "set-order" = true ∨ D.2.2.led = true
theorem addTx_is (h : Int) (v : Value) (D : Froz.SD) : (Froz.addTx h v D).1.toList.Perm (D.1.toList ++ [(h, v)]) ∧ (Ris D.2.2.place.toList → Ris (Froz.addTx h v D).2.2.place.toList) ∧ (Froz.addTx h v D).2.2.led = D.2.2.led := by
  obtain ⟨es, ep, t⟩ := D
  have p := layNew_perm t es h v
  have r := layNew_ris t es h v
  have l := layNew_led t es h v
  unfold Froz.addTx Froz.tailTx
  dsimp only
  generalize layNew t es h v = Z at p r l ⊢
  obtain ⟨e1, t1, wd, gv⟩ := Z
  dsimp only at p r l ⊢
  rw [Array.toList_push] at p
  have r2 : Ris t.place.toList → Ris (if t1.plain = true then { t1 with plain := false } else t1).place.toList := fun q => by split <;> exact r q
  have l2 : (if t1.plain = true then { t1 with plain := false } else t1).led = t.led := by split <;> exact l
  generalize (if t1.plain = true then { t1 with plain := false } else t1) = t2 at r2 l2 ⊢
  by_cases c : (!wd && t2.tooFull) = true
  · rw [if_pos c]
    exact ⟨(relayAll_perm t2 e1 _).trans p, fun _ => relayAll_ris t2 e1 _, (relayAll_led t2 e1 _).trans l2⟩
  · rw [if_neg c]
    exact ⟨p, r2, l2⟩
section
variable {P : Program} {w : World} {A : Around} {E : Value → Shared → Prop} {s : Shared}
theorem WkS.add {D : Froz.SD} {l : List Str} {k : Str} (u : Tok) (W : WkS P w D l) : WkS P w (Froz.addTx (hashStr w k) (.str k u) D) (k :: l) := by
  obtain ⟨p, r, d⟩ := addTx_is (hashStr w k) (.str k u) D
  refine ⟨Froz.add_ok u W.ok, fun e he => ?_, ?_, r W.rs, W.ld.imp id fun z => d.trans z⟩
  · rcases List.mem_append.mp (p.mem_iff.mp he) with q | q
    · exact W.tx e q
    · rw [List.mem_singleton.mp q]
      exact ⟨u, rfl⟩
  · have q := p.map sTxt
    rw [List.map_append] at q
    exact q.trans ((List.perm_append_singleton _ _).trans (W.pm.cons k))
theorem dup_x {a : Addr} {D : Froz.SD} {l : List Str} {k : Str} {u : Tok} {Q : Bool → Shared → Prop} (ho : s.heap.get? a = some (Froz.sObj "set" D)) (F : Froz.TxOk P w D l) (hk : k ∈ l) (hb : l.length < scanBound) (h : Q false s) :
    wpAny (model P w) A (setAddHashed a (.str k u) (hashStr w k)) Q E s := by
  obtain ⟨es, ep, t⟩ := D
  have fits : t.fits es.size = true := F.fit
  have el : ElemsOf (strKind P w) es.toList := F.el
  have few : es.size < scanBound := by
    have : es.size = l.length := F.sz
    omega
  have me : (strKind P w).is k (.str k u) = true := Froz.is_str k u
  obtain ⟨e0, m0, z0⟩ := (F.mem k).mp hk
  unfold setAddHashed setAddHashedIn
  refine wpAny_holding (wpAny_bind (wpAny_setState_of ho rfl fits ?_))
  dsimp only
  rw [byScan_of rfl few el]
  simp only [↓reduceIte]
  unfold setAddByScan
  refine wpAny_bind (wpAny_bind (wpAny_rule (wpAny_bind (wpAny_setScan_of (knd := strKind P w) (k := k) me ho rfl fits el ?_))))
  cases hf : List.findIdx? (fun e => (strKind P w).is k e.2) es.toList with
  | none =>
    have c := List.findIdx?_eq_none_iff.mp hf e0 m0
    rw [z0] at c
    cases c
  | some j => exact wpAny_pure (wpAny_pure h)
theorem fresh_led {a : Value} {Q : Value → Shared → Prop} (h : Q (.ref s.heap.objs.size) { s with heap := s.heap.push (Froz.sObj "set" (#[], 0, .fresh 0 0 (!w.params.followText "set-order"))) }) :
    codeAny (model P w) A (.call (.builtin "set.__new__") ⟨[.type "set", a], []⟩) (wants Q E) s := by
  refine codeAny_of_tree (wpAny_bind (wpAny_of_eq (F.newCall_set_1 a) (wpAny_pure ⟨plainId_quiet F.plain_set_new _, codeAny_builtin F.entry_set_new ?_⟩)))
  rw [Around.under_plainId F.plain_set_new _]
  unfold Builtin.«set.__new__» Builtin.Frozenset.newClass
  have sub := sub_set_self
  obtain ⟨hp, g, d, tk, os⟩ := s
  dsimp only
  wp_walk
  refine wpAny_askSetting (wpAny_pure ?_)
  dsimp only
  simp only [newObj]
  exact wpAny_bind (wpAny_alloc (wpAny_pure (wpAny_pure h)))
end
/-- at a stands a set of just the texts ys, at most n of them -/
def HasS (P : Program) (w : World) (h : Heap) (a : Addr) (ys : List Str) (n : Nat) : Prop := ∃ D l, h.get? a = some (Froz.sObj "set" D) ∧ WkS P w D l ∧ l.Nodup ∧ l.length ≤ n ∧ ∀ y, y ∈ l ↔ y ∈ ys
section
variable {p : Program} {w : World} {A : Around} {Z : Result → Shared → Prop} {it : Addr} {f g : List Addr} {Gs : Array GenState → Array GenState → Prop} {N : Nat} {Yv : Nat → Value → Prop} {Sv : Nat → Shared → Prop}
/-- a set that takes in texts, one after the other -/
theorem set_eats (Wk : WalksS p w A.in1 it f g Gs N Yv Sv) {a : Addr} (af : a ∉ f) {xs : List Str} (lx : xs.length = N) (few : N ≤ 1000) (val : ∀ j v, Yv j v → ∃ t, v = .str (xs.getD j Str.empty) t) :
    ∀ (m j : Nat) (s : Shared), N - j = m → j ≤ N → Sv j s → HasS p w s.heap a (xs.take j) j → (∀ z, Moved (a :: g) Gs s z → HasS p w z.heap a xs N → Z (.ok (.ret .none)) z) →
      codeAny (model p w) A (.builtin "set.update.loop" ⟨[.ref a, .ref it], []⟩) Z s := by
  have ag : a ∉ g := fun q => af (Wk.sub _ q)
  have wide : ∀ b ∈ g, b ∈ a :: g := fun b q => List.mem_cons_of_mem _ q
  have stays : ∀ {s z : Shared} {ys : List Str} {c : Nat}, Moved g Gs s z → HasS p w s.heap a ys c → HasS p w z.heap a ys c := fun mv q => by
    obtain ⟨D, l, ho, r⟩ := q
    exact ⟨D, l, mv.heap a _ ag ho, r⟩
  intro m
  induction m with
  | zero =>
    intro j s hm hj st se fin
    obtain rfl : j = N := by omega
    refine codeAny_builtin F.entry_set_update_loop (by
      rw [Around.under_plainId F.plain_set_update_loop _]
      refine wpAny_bind (Wk.done s _ _ st fun z mv => wpAny_pure (fin z (mv.mono wide) ?_))
      have q := stays mv se
      rwa [← lx, List.take_length, lx] at q)
  | succ m ih =>
    intro j s hm hj st se fin
    have jl : j < N := by omega
    have xj : xs[j]? = some (xs.getD j Str.empty) := by
      rw [List.getD_eq_getElem?_getD, List.getElem?_eq_getElem (by omega)]
      rfl
    have tk : xs.take (j + 1) = xs.take j ++ [xs.getD j Str.empty] := by rw [List.take_add_one, xj]; rfl
    refine codeAny_builtin F.entry_set_update_loop (by
      rw [Around.under_plainId F.plain_set_update_loop _]
      refine wpAny_bind (Wk.item j s _ _ jl st fun v z hv st2 mv => ?_)
      obtain ⟨t, rfl⟩ := val j v hv
      generalize xs.getD j Str.empty = x at xj tk
      obtain ⟨D, l, ho, wk, nd, le, me⟩ := stays mv se
      have go : ∀ (b : Bool) (h2 : Heap), (∀ b o, b ≠ a → z.heap.get? b = some o → h2.get? b = some o) → HasS p w h2 a (xs.take (j + 1)) (j + 1) →
          codeAny (model p w) A (.builtin "set.update.loop" ⟨[.ref a, .ref it], []⟩) Z { z with heap := h2, toks := z.toks + 1 } := fun b h2 kp hs =>
        ih (j + 1) _ (by omega) jl (Wk.frame _ z _ _ st2 (Nat.le_succ _) fun b hb o e => kp b o (fun q => af (q ▸ hb)) e) hs fun y mv2 se4 =>
          fin y (Moved.trans Wk.gtrans ((mv.mono wide).then_heap (Nat.le_succ _) fun b o hb e => kp b o (fun q => hb (q ▸ List.mem_cons_self)) e) mv2) se4
      refine wpAny_bind (wpAny_holding (by
        unfold setAdd
        refine wpAny_holding (wpAny_bind ((strKind p w).pyHash (k := x) (strKind_is _ _ _ _) ?_))
        by_cases hx : x ∈ l
        · refine dup_x (s := { z with toks := z.toks + 1 }) ho wk.ok hx (by unfold scanBound; omega) ?_
          refine wpAny_pure ⟨plainId_quiet F.plain_set_update_loop _, go false z.heap (fun _ _ _ e => e) ⟨D, l, ho, wk, nd, by omega, fun y => ?_⟩⟩
          rw [tk, List.mem_append, List.mem_singleton, ← me y]
          exact ⟨.inl, fun q => q.elim id fun e => e ▸ hx⟩
        · refine Froz.add_x (s := { z with toks := z.toks + 1 }) ho wk.ok hx (by unfold scanBound; omega) ?_
          refine wpAny_pure ⟨plainId_quiet F.plain_set_update_loop _, go true _ (fun b o hb e => (Heap.get?_update_other _ _ (Ne.symm hb)).trans e) ⟨_, x :: l, Froz.get_upd _ ho rfl, wk.add t, List.nodup_cons.mpr ⟨hx, nd⟩, by rw [List.length_cons]; omega, fun y => ?_⟩⟩
          rw [tk, List.mem_append, List.mem_singleton, ← me y, List.mem_cons]
          exact Or.comm)))
end
section
variable {p : Program} {w : World} {A : Around} {E : Value → Shared → Prop} {s : Shared}
set_option maxHeartbeats 3200000 in
/-- set(l) of a list of texts holds just these -/
theorem set_of_lst {l : Addr} {its : Array Value} {xs : List Str} {Q : Value → Shared → Prop} (hh : A.handled = none) (hl : s.heap.IsList l its) (hi : StrsAre its.toList xs) (few : xs.length ≤ 1000)
    (fin : ∀ (h' : Heap) (tk : Nat), HasS p w h' s.heap.objs.size xs xs.length → (∀ b o, b < s.heap.objs.size → s.heap.get? b = some o → h'.get? b = some o) → Q (.ref s.heap.objs.size) { s with heap := h', toks := tk }) :
    wpAny (model p w) A (call (.type "set") [.ref l]) Q E s := by
  have sz : its.size = xs.length := by rw [← Array.length_toList, StrsAre.len_eq hi]
  obtain ⟨c, tl, hmro⟩ := F.called_set.mro
  have m1 := F.called_set.made
  have m2 := F.called_set.sub
  refine wpAny_call (codeAny_of_tree (wpAny_pure ⟨Code.quiet_builtin _ (by decide +kernel), codeAny_builtin F.entry_type_call (by
    rw [Around.under_plain (weight_type_call_type "set" [.ref l] []) rfl]
    have m3 := F.called_set.notType
    have m4 := F.called_set.canCreate
    have m5 := F.typeCall_set_1 (.ref l)
    repeat (any_goals (first | assumption | wp_step))
    refine codeAny_mono (fresh_led (P := p) (w := w) (a := .ref l) (E := E) (Q := fun v z => v = .ref s.heap.objs.size ∧ z = { s with heap := s.heap.push (Froz.sObj "set" (#[], 0, .fresh 0 0 (!w.params.followText "set-order"))) }) ⟨rfl, rfl⟩) fun r z hr => ?_
    cases r with
    | error e => exact hr
    | ok fl =>
      cases fl with
      | next => exact hr.elim
      | brk => exact hr.elim
      | cont => exact hr.elim
      | ret v =>
        obtain ⟨rfl, rfl⟩ := hr
        generalize hled : (!w.params.followText "set-order") = led
        have hS : (s.heap.push (Froz.sObj "set" (#[], 0, .fresh 0 0 led))).get? s.heap.objs.size = some (Froz.sObj "set" (#[], 0, .fresh 0 0 led)) := Heap.get?_push_size _ rfl
        have hT : Shared.TypeIs { s with heap := s.heap.push (Froz.sObj "set" (#[], 0, .fresh 0 0 led)) } (.ref s.heap.objs.size) "set" := ⟨_, hS, rfl⟩
        have n1 := F.called_set.init.lookup
        have n2 := F.called_set.init.bind (.ref s.heap.objs.size)
        repeat (any_goals (first | assumption | wp_step))
        refine codeAny_mono (codeAny_call_builtin (R := wants (fun r z => r = .none ∧ ∃ h' tk, z = { s with heap := h', toks := tk } ∧ HasS p w h' s.heap.objs.size xs xs.length ∧ (∀ b o, b < s.heap.objs.size → s.heap.get? b = some o → h'.get? b = some o)) E) F.called_set.init.plain F.entry_set_init (check_set_init_1 hT ?_)) fun r2 z2 hr2 => ?_
        · obtain ⟨⟨tc, td, tdata, tsl⟩, ho, hc, tn, hd⟩ := hl
          simp only at hc hd
          subst hc hd
          have ho2 : (s.heap.push (Froz.sObj "set" (#[], 0, .fresh 0 0 led))).get? l = some { cls := .type "list", dict := td, data := .seq its tn, slots := tsl } := Heap.get?_push_of_some _ ho
          have q1 := F.sub_list_set
          have q2 := F.sub_list_frozenset
          have q3 : (Value.type "list" == Value.type "dict") = false := by decide
          have lis : (s.heap.push (Froz.sObj "set" (#[], 0, .fresh 0 0 led))).IsList l its := ⟨_, ho2, rfl, tn, rfl⟩
          have lS : l < s.heap.objs.size := Heap.lt_size ho
          have pz : (s.heap.push (Froz.sObj "set" (#[], 0, .fresh 0 0 led))).objs.size = s.heap.objs.size + 1 := Heap.size_push ..
          unfold Builtin.«set.__init__» noKeywords Builtin.Frozenset.updateFrom
          generalize hPI : pyIter = PI
          unfold Froz.sObj at *
          wp_walk
          subst hPI
          refine wpAny_pyIter_list lis (wpAny_bind (wpAny_runValue ?_))
          have hn3 : A.in1.in1.in1.handled = none := by simp [hh]
          have vals : ∀ (j : Nat) (v : Value), its[j]? = some v → ∃ t, v = .str (xs.getD j Str.empty) t := fun j v hv => SS.strs_at hi j v (by rw [Array.getElem?_toList]; exact hv)
          refine set_eats ((Walks.list hn3 _ l (by rw [Heap.size_push]; exact Nat.ne_of_lt (Nat.lt_succ_of_lt lS)) its).toS) (a := s.heap.objs.size) (by
            simp only [List.mem_cons, List.not_mem_nil, or_false, not_or]
            exact ⟨by rw [Heap.size_push]; exact (Nat.succ_ne_self _).symm, Nat.ne_of_gt lS⟩) sz.symm (by omega) vals (its.size - 0) 0 _ (by omega) (Nat.zero_le _) ⟨⟨_, Heap.get?_push_size _ rfl, rfl, rfl⟩, lis.push _⟩ ?_ ?_
          · refine ⟨(#[], 0, .fresh 0 0 led), [], Heap.get?_push_of_some _ hS, ⟨Froz.TxOk.nil rfl, fun e he => by simp at he, .nil, List.Pairwise.nil, ?_⟩, List.nodup_nil, Nat.zero_le _, fun y => by simp⟩
            show _ ∨ led = true
            rw [← hled]
            cases w.params.followText "set-order"
            · exact .inr rfl
            · exact .inl rfl
          · rintro ⟨h', g', d', tk', os'⟩ mv se
            obtain rfl : g' = s.gens := mv.gens
            obtain rfl : d' = s.drawn := mv.drawn
            obtain rfl : os' = s.os := mv.os
            refine wpAny_pure (wpAny_pure ⟨rfl, h', tk', rfl, by rw [← sz]; exact se, fun b o hb e => mv.heap b o ?_ (Heap.get?_push_of_some _ (Heap.get?_push_of_some _ e))⟩)
            simp only [List.mem_cons, List.not_mem_nil, or_false, not_or]
            exact ⟨Nat.ne_of_lt hb, by rw [Heap.size_push]; exact Nat.ne_of_lt (Nat.lt_succ_of_lt hb)⟩
        · cases r2 with
          | error e => exact hr2
          | ok f2 =>
            cases f2 with
            | next => exact hr2.elim
            | brk => exact hr2.elim
            | cont => exact hr2.elim
            | ret v =>
              obtain ⟨rfl, h', tk, rfl, se, kp⟩ := hr2
              repeat (any_goals (first | assumption | wp_step))
              exact fin _ _ se kp)⟩))
end
end K2
end
section
set_option Elab.async false
set_option maxRecDepth 100000
set_option linter.all false
namespace K2
open PySem PySem.Spec PyProof.Rows L2
section
variable {p : Program} {w : World} {A : Around} {E : Value → Shared → Prop} {s : Shared}
/-- sorted(a), a set of texts, fewer than 64 -/
theorem sorted_has {a : Addr} {xs : List Str} {n : Nat} {Q : Value → Shared → Prop} (S : HasS p w s.heap a xs n) (hh : A.handled = none) (h64 : n < 64)
    (fin : ∀ z q (out : Array Value) (c : Nat) (ys : List Str), (∀ b o, s.heap.get? b = some o → z.heap.get? b = some o) → z.gens = s.gens → z.os = s.os → s.heap.objs.size ≤ q →
      z.heap.get? q = some (seqObj "list" out c) → StrsAre out.toList ys → ys.Nodup → ys.length ≤ n → (∀ y, y ∈ ys ↔ y ∈ xs) → sortedS ys = true → Q (.ref q) z) :
    wpAny (model p w) A (call (.builtin "sorted") [.ref a]) Q E s := by
  obtain ⟨⟨es, ep, t⟩, l, ho, W, nd, le, me⟩ := S
  have few : es.size < scanBound := by
    have : es.size = l.length := W.ok.sz
    unfold scanBound
    omega
  refine Calls.call_function_entry kind_sorted plain_sorted entry_sorted (args_sorted1 _) (by
    unfold Builtin.«sorted»
    refine wpAny_bind (m := checkCount "sorted" 1 1 _) (wpAny_pure (wpAny_bind (collect_set (A := A.in1) hh ⟨_, ho, rfl, rfl⟩ W.ok.fit few W.rs W.ld fun z vs k1 hz g1 o1 pm => ?_)))
    have sv : StrsAre vs (vs.map strOf) := strsAre_map vs fun v hv => by
      obtain ⟨e, he, q⟩ := List.mem_map.mp (pm.mem_iff.mp hv)
      obtain ⟨u, hu⟩ := W.tx e he
      exact ⟨_, u, q.symm.trans hu⟩
    have pl : (vs.map strOf).Perm l := by
      have q := pm.map strOf
      rw [List.map_map] at q
      refine q.trans ((List.Perm.of_eq (List.map_congr_left fun e he => ?_)).trans W.pm)
      obtain ⟨u, hu⟩ := W.tx e he
      show strOf e.2 = sTxt e
      rw [hu]
      rfl
    have vl : vs.length = l.length := by rw [← pl.length_eq, List.length_map]
    refine wpAny_bind (wpAny_newList ?_ (by rw [vl, sizeLine_eq]; omega))
    have ol : (z.heap.push (seqObj "list" vs.toArray 0)).get? z.heap.objs.size = some (seqObj "list" vs.toArray 0) := Heap.get?_push_size _ rfl
    refine wpAny_bind (wpAny_holding (wpAny_call_entry slot_list_sort ⟨_, ol, rfl⟩ entry_list_sort (list_sort_treeKAny strKind_oneLt ol sv.keysOf (fun v1 v2 rest e => keyKind_strs (by rw [← e]; exact sv)) (by rw [vl, sizeLine_eq]; omega) fun st hp hs => ⟨_, rfl, ?_⟩) (args_list_sort _)))
    obtain ⟨ys, y1, y2, y3⟩ := sorted_out_str sv hp hs
    obtain ⟨c, hc⟩ := sortedHeap_at (vs := vs) (out := (arrOf st).map (·.2)) ol
    have py := y2.trans pl
    refine wpAny_pure ⟨_, rfl, fin _ z.heap.objs.size _ c ys (fun b u e => ?_) g1 o1 hz hc y1 (py.nodup_iff.mpr nd) (by rw [py.length_eq]; exact le) (fun y => (py.mem_iff).trans (me y)) y3⟩
    have lt := Heap.lt_size (k1 b u e)
    show (sortedHeap (z.heap.push (seqObj "list" vs.toArray 0)) z.heap.objs.size vs _).get? b = some u
    rw [sortedHeap_old (Nat.ne_of_lt lt) (by rw [size_push']; exact Nat.lt_succ_of_lt lt)]
    exact Heap.get?_push_of_some _ (k1 b u e))
end
end K2
end
section
set_option Elab.async false
set_option maxRecDepth 100000
set_option linter.all false
namespace K2
open PySem PySem.Spec PyProof.Rows L2
def tSortedSet (te : TE) : TE := fun σ H Q => te σ H fun x H1 => ∃ (l : Addr) (xs : List Str), x = .ref l ∧ H1 l = some (.lst (xs.map V.str)) ∧ xs.length < 64 ∧
  ∀ (ys : List Str) (q : Addr), ys.Nodup → ys.length ≤ xs.length → (∀ y, y ∈ ys ↔ y ∈ xs) → sortedS ys = true → H1 q = none → Q (.ref q) (upd H1 q (.lst (ys.map V.str)))
section
variable {X : Cx}
/-- sorted(set(l)), l a list of texts -/
theorem pe_sortedSet {a : Expr} {ta : TE} {p1 p2 p3 pos : Pos} (h1 : Gl X "sorted") (h2 : X.mg "sorted" = none) (h3 : Gl X "set") (h4 : X.mg "set" = none) (ha : PE X a ta) (hc : X.calm = true := by rfl)
    (na : starEach [a] X.env = (false, eval a X.env) :: starEach [] X.env := by rfl) (bs : bootBuiltins "sorted" = some (.builtin "sorted") := by decide +kernel) : PE X (.Call (.Name "sorted" p1) [.Call (.Name "set" p2) [a] [] p3] [] pos) (tSortedSet ta) := by
  refine ⟨fun pins s σ H Q I h => Call_ (ld_blt I h1 h2 bs (callWith_builtin1 (args_cons (Call_ (ld_blt I h3 h4 boot_set (callWith_type1 (args_cons (thn (ha.run pins s σ H _ I h) fun v s1 ⟨x, H1, I1, r1, q1⟩ => args_nil ?_) na) na rfl))) rfl) rfl rfl))⟩
  obtain ⟨l, xs, rfl, hl, few, q⟩ := q1
  cases r1
  obtain ⟨its, r, pl, _⟩ := I1.list (SqL.of hl)
  have hx : StrsAre its xs := by simpa using strsAre_of r
  refine set_of_lst (I1.ok.hd hc) pl.isList (by simpa using hx) (by omega) fun h' tk hS hk => args_nil ?_
  have I2 : Inv X pins σ H1 { s1 with heap := h', toks := tk } := I1.kept fun b o e => hk b o (Heap.lt_size e) e
  have hS2 : HasS X.prog X.w ({ s1 with heap := h', toks := tk } : Shared).heap s1.heap.objs.size xs xs.length := hS
  generalize ({ s1 with heap := h', toks := tk } : Shared) = s2 at I2 hS2 ⊢
  refine sorted_has hS2 (I1.ok.hd hc) few fun z p out c ys k g o hp hg hi nd le me so => ?_
  have hlen : (ys.map V.str).length ≤ sizeLine := by rw [List.length_map, sizeLine_eq]; omega
  have hn : H1 p = none := I2.hok.fresh hp
  have J : Inv X pins σ (upd H1 p (.lst (ys.map V.str))) { s2 with heap := z.heap, gens := z.gens, drawn := z.drawn, toks := z.toks } :=
    I2.call (ch := []) (Un.laid k hp hn) (I2.hok.laid k hp ⟨hlen, out.toList, c, vals_of_strs hi, hg⟩) (by rw [g]; exact I2.bare) (fun _ z => nomatch z)
  have e : z = { s2 with heap := z.heap, gens := z.gens, drawn := z.drawn, toks := z.toks } := by
    cases z
    cases s2
    cases o
    rfl
  rw [e]
  exact ⟨.ref p, _, J, rfl, q ys p nd le me so hn⟩
end
end K2
end
section
set_option Elab.async false
set_option maxRecDepth 100000
set_option linter.all false
namespace K2
open PySem L2
theorem strs_dp (K : PySem.W.Frag) (H : Hp) : ∀ xs : List Str, DpAll K H (xs.map V.str) (xs.map PyData.str)
  | [] => .nil
  | x :: xs => .cons (.str x) (strs_dp K H xs)
def sOk (x : Str) : Bool := x.cps.all (· < 0x110000)
theorem strs_lay : ∀ xs : List Str, (∀ x ∈ xs, sOk x = true) → PyData.canLayAll0 (xs.map PyData.str) = true
  | [], _ => rfl
  | x :: xs, h => by
    show (sOk x && PyData.canLayAll0 (xs.map PyData.str)) = true
    rw [strs_lay xs fun y hy => h y (List.mem_cons_of_mem _ hy), h x List.mem_cons_self]
    rfl
theorem strs_depth : ∀ xs : List Str, PyData.depthAll (xs.map PyData.str) = 0
  | [] => rfl
  | x :: xs => by
    show max 0 (PyData.depthAll (xs.map PyData.str)) = 0
    rw [strs_depth xs]
    rfl
theorem strs_shaped (xs : List Str) (h : ∀ x ∈ xs, sOk x = true) : SeqAt.shaped (.list (xs.map PyData.str)) = true := by
  show (PyData.canLayAll0 (xs.map PyData.str) && decide (PyData.depthAll (xs.map PyData.str) + 1 ≤ 64)) = true
  rw [strs_lay xs h, strs_depth]
  rfl
theorem strs_eqv0 (xs : List Str) : PyData.eqv (.list (xs.map PyData.str)) (.list []) = decide (xs = []) := by
  cases xs with
  | nil => rfl
  | cons x xs => rfl
theorem rising_pw : ∀ (p : Str) (l : List Str), PyProof.Rows.risingS p l = true → (p :: l).Pairwise (fun a b => PySem.Spec.ltCps b.cps.toList a.cps.toList = false)
  | p, [], _ => List.pairwise_singleton _ _
  | p, x :: r, h => by
    have h2 := Bool.and_eq_true_iff.mp (show (!PySem.Spec.ltCps x.cps.toList p.cps.toList && PyProof.Rows.risingS x r) = true from h)
    have ih := rising_pw x r h2.2
    have h1 : PySem.Spec.ltCps x.cps.toList p.cps.toList = false := by simpa using h2.1
    refine List.pairwise_cons.mpr ⟨fun y hy => ?_, ih⟩
    rcases List.mem_cons.mp hy with rfl | hy
    · exact h1
    · have h3 := (List.pairwise_cons.mp ih).1 y hy
      rw [PyProof.Rows.ltCps_eq, decide_eq_false_iff_not] at h1 h3 ⊢
      exact List.le_trans (α := Nat) (l₁ := p.cps.toList) (l₂ := x.cps.toList) (l₃ := y.cps.toList) h1 h3
theorem sorted_pw : ∀ l : List Str, PyProof.Rows.sortedS l = true → l.Pairwise (fun a b => PySem.Spec.ltCps b.cps.toList a.cps.toList = false)
  | [], _ => .nil
  | x :: r, h => rising_pw x r h
theorem sorted_sub {l l' : List Str} (h : PyProof.Rows.sortedS l' = true) (s : l.Sublist l') : PyProof.Rows.sortedS l = true := PyProof.Rows.sortedS_of_pairwise l ((sorted_pw l' h).sublist s)
/-- ascending lists of the same unlike texts are one -/
theorem sorted_one : ∀ {l l' : List Str}, l.Nodup → l'.Nodup → PyProof.Rows.sortedS l = true → PyProof.Rows.sortedS l' = true → (∀ y, y ∈ l ↔ y ∈ l') → l = l' := by
  have anti : ∀ {a b : Str}, PySem.Spec.ltCps a.cps.toList b.cps.toList = false → PySem.Spec.ltCps b.cps.toList a.cps.toList = false → a = b := fun {a b} h1 h2 => by
    rw [PyProof.Rows.ltCps_eq, decide_eq_false_iff_not] at h1 h2
    have e : a.cps.toList = b.cps.toList := List.le_antisymm (α := Nat) h2 h1
    have e2 : a.cps = b.cps := Array.toList_inj.mp e
    cases a
    cases b
    cases e2
    rfl
  intro l
  induction l with
  | nil =>
    intro l' _ _ _ _ h
    cases l' with
    | nil => rfl
    | cons y r => exact absurd ((h y).mpr List.mem_cons_self) (by simp)
  | cons x l ih =>
    intro l' n1 n2 s1 s2 h
    cases l' with
    | nil => exact absurd ((h x).mp List.mem_cons_self) (by simp)
    | cons y r =>
      have p1 := List.pairwise_cons.mp (sorted_pw _ s1)
      have p2 := List.pairwise_cons.mp (sorted_pw _ s2)
      have e : x = y := by
        rcases List.mem_cons.mp ((h x).mp List.mem_cons_self) with q | q
        · exact q
        · rcases List.mem_cons.mp ((h y).mpr List.mem_cons_self) with q2 | q2
          · exact q2.symm
          · exact anti (p2.1 x q) (p1.1 y q2)
      subst e
      have m1 := List.nodup_cons.mp n1
      have m2 := List.nodup_cons.mp n2
      rw [ih m1.2 m2.2 (sorted_sub s1 (List.sublist_cons_self _ _)) (sorted_sub s2 (List.sublist_cons_self _ _)) fun z => ?_]
      constructor
      · intro hz
        rcases List.mem_cons.mp ((h z).mp (List.mem_cons_of_mem _ hz)) with q | q
        · exact absurd (q ▸ hz) m1.1
        · exact q
      · intro hz
        rcases List.mem_cons.mp ((h z).mpr (List.mem_cons_of_mem _ hz)) with q | q
        · exact absurd (q ▸ hz) m2.1
        · exact q
def above (tb : Tb) (xs : List Str) (y : Str) : List Str := xs.filter fun z => decide (z ≠ y) && decide (y ∈ look tb z)
def lowB (tb : Tb) (xs : List Str) (y : Str) : Bool := decide (above tb xs y = [])
/-- a dict of the heap, locked or not -/
def DL (H : Hp) (d : Addr) (kvs : List (Key × V)) : Prop := H d = some (.dK kvs) ∨ ∃ od, H d = some (.frz od (.dK kvs))
theorem DL.same {H H' : Hp} {d : Addr} {kvs : List (Key × V)} (h : DL H d kvs) (s : Same H H') : DL H' d kvs := by
  rcases h with h | ⟨od, h⟩
  · exact .inl (s _ _ h)
  · exact .inr ⟨od, s _ _ h⟩
theorem DL.get {H : Hp} {d : Addr} {kvs : List (Key × V)} {x : Str} {v : V} (h : DL H d kvs) (e : valV kvs (Sum.inr x : Key) = some v) : DGet H d (.str x) (some v) := by
  rcases h with h | ⟨od, h⟩
  · exact dget_s h e
  · exact .inl ⟨kvs, Sum.inr x, .inr ⟨od, h⟩, rfl, e.symm⟩
end K2
end
section
set_option Elab.async false
set_option maxRecDepth 100000
set_option linter.all false
namespace K2
open PySem L2 PySem.Spec PyProof.Rows
def rReprD (K : PySem.W.Frag) : List V → Hp → VK → Prop := fun xs H Q => ∃ a d, xs = [V.ref a] ∧ Dp K H (.ref a) d ∧ d.showable = true ∧ d.hasDict = false ∧ d.depth ≤ 8 ∧ d.shown.length ≤ sizeLine ∧ Q (.str d.shown) H
section
variable {X : Cx}
theorem call_reprD (gu : X.A.guards = some []) (hu : X.A.units + 64 < cLine) : CallR X (.builtin "repr") (rReprD X.K) := by
  intro pins s σ H xs us Q I r h
  obtain ⟨a, d, rfl, hd, hs, hn, dp, hz, q⟩ := h
  obtain ⟨u, rfl, ru⟩ := r.one
  cases ru
  obtain ⟨as, rd⟩ := Dp.reads I d (V.ref a) (Value.ref a) hd rfl
  exact repr_of_reads' rd hs (fun z => by rw [hn] at z; cases z) gu (by omega) (fun b o e => e) (fun h' u tk hk => ⟨.str _, H, I.kept (t' := tk) hk, ⟨u, rfl⟩, q⟩) hz
end
/-- a tuple of texts -/
def tD (ys : List Str) : PyData := .tuple (ys.map PyData.str)
theorem strs_show : ∀ xs : List Str, PyData.showableAll (xs.map PyData.str) = true
  | [] => rfl
  | x :: xs => by
    show (true && PyData.showableAll (xs.map PyData.str)) = true
    rw [strs_show xs]
    rfl
theorem strs_nodict : ∀ xs : List Str, PyData.hasDictAll (xs.map PyData.str) = false
  | [] => rfl
  | x :: xs => by
    show (false || PyData.hasDictAll (xs.map PyData.str)) = false
    rw [strs_nodict xs]
    rfl
theorem strs_weight : ∀ xs : List Str, (∀ x ∈ xs, x.length ≤ 8) → PyData.weightAll (xs.map PyData.str) ≤ 9 * xs.length
  | [], _ => Nat.le_refl _
  | x :: xs, h => by
    have ih := strs_weight xs fun y hy => h y (List.mem_cons_of_mem _ hy)
    have hx : x.cps.size ≤ 8 := h x List.mem_cons_self
    show x.cps.size + 1 + PyData.weightAll (xs.map PyData.str) ≤ 9 * (xs.length + 1)
    omega
theorem tD_show (ys : List Str) : (tD ys).showable = true := strs_show ys
theorem tD_nodict (ys : List Str) : (tD ys).hasDict = false := strs_nodict ys
theorem tD_depth (ys : List Str) : (tD ys).depth = 1 := by
  show PyData.depthAll (ys.map PyData.str) + 1 = 1
  rw [strs_depth]
theorem tD_fits {ys : List Str} (ok : ∀ y ∈ ys, sOk y = true) (h8 : ∀ y ∈ ys, y.length ≤ 8) (hl : ys.length ≤ 40) : (tD ys).shown.length ≤ sizeLine := by
  refine PyData.shown_fits_of_layable0 (B := 13) (by decide) (by decide) ?_ (PyData.intsShortAll_strs 13 ys)
  have w := strs_weight ys h8
  have q : PyData.weight (tD ys) = PyData.weightAll (ys.map PyData.str) := rfl
  show (PyData.canLayAll0 (ys.map PyData.str) && decide (PyData.depth (tD ys) ≤ 64) && decide (PyData.weight (tD ys) ≤ 2 ^ 20)) = true
  rw [strs_lay ys ok, tD_depth, q]
  simp only [Bool.true_and, Bool.and_eq_true, decide_eq_true_eq]
  omega
/-! rows shown -/
def rowsD (rs : List Row) : PyData := .tuple (rs.map fun r => tD (r.1 :: r.2))
theorem rows_dp (K : PySem.W.Frag) {H : Hp} : ∀ (rs : List Row) (ts : List Addr), RowsAt H ts rs → DpAll K H (ts.map V.ref) (rs.map fun r => tD (r.1 :: r.2))
  | [], [], _ => .nil
  | [], _ :: _, h => absurd h.1 (by simp)
  | _ :: _, [], h => absurd h.1 (by simp)
  | r :: rs, t :: ts, h => .cons (.tup (SqT.of (h.2 0 t r rfl rfl)) (strs_dp K H (r.1 :: r.2))) (rows_dp K rs ts ⟨by have := h.1; simpa using this, fun i u q a b => h.2 (i + 1) u q a b⟩)
theorem rows_show : ∀ rs : List Row, PyData.showableAll (rs.map fun r => tD (r.1 :: r.2)) = true
  | [] => rfl
  | r :: rs => by
    show (PyData.showable (tD (r.1 :: r.2)) && PyData.showableAll (rs.map fun r => tD (r.1 :: r.2))) = true
    rw [tD_show, rows_show rs]
    rfl
theorem rows_nodict : ∀ rs : List Row, PyData.hasDictAll (rs.map fun r => tD (r.1 :: r.2)) = false
  | [] => rfl
  | r :: rs => by
    show (PyData.hasDict (tD (r.1 :: r.2)) || PyData.hasDictAll (rs.map fun r => tD (r.1 :: r.2))) = false
    rw [tD_nodict, rows_nodict rs]
    rfl
theorem rows_depth : ∀ rs : List Row, PyData.depthAll (rs.map fun r => tD (r.1 :: r.2)) ≤ 1
  | [] => Nat.zero_le _
  | r :: rs => by
    show max (PyData.depth (tD (r.1 :: r.2))) (PyData.depthAll (rs.map fun r => tD (r.1 :: r.2))) ≤ 1
    rw [tD_depth]
    exact Nat.max_le.mpr ⟨Nat.le_refl _, rows_depth rs⟩
structure RowFit (r : Row) : Prop where
  ok : ∀ y ∈ r.1 :: r.2, sOk y = true
  h8 : ∀ y ∈ r.1 :: r.2, y.length ≤ 8
  len : (r.1 :: r.2).length ≤ 40
theorem rows_lay : ∀ rs : List Row, (∀ r ∈ rs, RowFit r) → PyData.canLayAll0 (rs.map fun r => tD (r.1 :: r.2)) = true
  | [], _ => rfl
  | r :: rs, h => by
    have q : PyData.canLay0 (tD (r.1 :: r.2)) = true := strs_lay _ (h r List.mem_cons_self).ok
    show (PyData.canLay0 (tD (r.1 :: r.2)) && PyData.canLayAll0 (rs.map fun r => tD (r.1 :: r.2))) = true
    rw [q, rows_lay rs fun y hy => h y (List.mem_cons_of_mem _ hy)]
    rfl
theorem rows_short : ∀ rs : List Row, PyData.intsShortAll 13 (rs.map fun r => tD (r.1 :: r.2)) = true
  | [] => rfl
  | r :: rs => by
    have q : PyData.intsShort 13 (tD (r.1 :: r.2)) = true := PyData.intsShortAll_strs 13 (r.1 :: r.2)
    show (PyData.intsShort 13 (tD (r.1 :: r.2)) && PyData.intsShortAll 13 (rs.map fun r => tD (r.1 :: r.2))) = true
    rw [q, rows_short rs]
    rfl
theorem rows_weight : ∀ rs : List Row, (∀ r ∈ rs, RowFit r) → PyData.weightAll (rs.map fun r => tD (r.1 :: r.2)) ≤ 361 * rs.length
  | [], _ => Nat.le_refl _
  | r :: rs, h => by
    have R := h r List.mem_cons_self
    have w := strs_weight (r.1 :: r.2) R.h8
    have l := R.len
    have ih := rows_weight rs fun y hy => h y (List.mem_cons_of_mem _ hy)
    show PyData.weightAll ((r.1 :: r.2).map PyData.str) + 1 + PyData.weightAll (rs.map fun r => tD (r.1 :: r.2)) ≤ 361 * (rs.length + 1)
    omega
theorem rowsD_show (rs : List Row) : (rowsD rs).showable = true := rows_show rs
theorem rowsD_nodict (rs : List Row) : (rowsD rs).hasDict = false := rows_nodict rs
theorem rowsD_depth (rs : List Row) : (rowsD rs).depth ≤ 2 := by
  have := rows_depth rs
  show PyData.depthAll (rs.map fun r => tD (r.1 :: r.2)) + 1 ≤ 2
  omega
theorem rowsD_fits {rs : List Row} (h : ∀ r ∈ rs, RowFit r) (hl : rs.length ≤ 64) : (rowsD rs).shown.length ≤ sizeLine := by
  refine PyData.shown_fits_of_layable0 (B := 13) (by decide) (by decide) ?_ (rows_short rs)
  have w := rows_weight rs h
  have d := rowsD_depth rs
  have q : PyData.weight (rowsD rs) = PyData.weightAll (rs.map fun r => tD (r.1 :: r.2)) := rfl
  show (PyData.canLayAll0 (rs.map fun r => tD (r.1 :: r.2)) && decide (PyData.depth (rowsD rs) ≤ 64) && decide (PyData.weight (rowsD rs) ≤ 2 ^ 20)) = true
  rw [rows_lay rs h, q]
  simp only [Bool.true_and, Bool.and_eq_true, decide_eq_true_eq]
  omega
theorem vw_ok {x : Str} (h : VW x) : sOk x = true ∧ x.length ≤ 8 := by
  have l := h.le
  refine ⟨?_, l⟩
  have q := h.low
  unfold sOk
  rw [Array.all_eq_true]
  intro i hi
  have := q x.cps[i] (by
    show x.cps[i] ∈ x.cps.toList
    exact Array.getElem_mem_toList hi)
  simp only [decide_eq_true_eq]
  omega
theorem Good.fit {rs : List Row} (g : Good rs) (h30 : rs.length ≤ 30) : ∀ r ∈ rs, RowFit r := by
  intro r hr
  obtain ⟨i, hi⟩ := List.getElem?_of_mem hr
  have R := g i r hi
  have il : i < rs.length := (List.getElem?_eq_some_iff.mp hi).1
  have vw : ∀ y ∈ r.1 :: r.2, VW y := fun y hy => by
    rcases List.mem_cons.mp hy with rfl | hy
    · exact R.vw
    · exact g.vw_known i y (R.sub y hy)
  refine ⟨fun y hy => (vw_ok (vw y hy)).1, fun y hy => (vw_ok (vw y hy)).2, ?_⟩
  have := R.nd.length_le_of_subset R.sub
  rw [knownAt_len (Nat.le_of_lt il)] at this
  rw [List.length_cons]
  omega
theorem RowsAt.left {H : Hp} {ts1 ts2 : List Addr} {rs1 rs2 : List Row} (h : RowsAt H (ts1 ++ ts2) (rs1 ++ rs2)) (e : ts1.length = rs1.length) : RowsAt H ts1 rs1 := by
  refine ⟨e, fun i t r a b => ?_⟩
  have i1 := (List.getElem?_eq_some_iff.mp a).1
  have i2 := (List.getElem?_eq_some_iff.mp b).1
  exact h.2 i t r (by rw [List.getElem?_append_left i1]; exact a) (by rw [List.getElem?_append_left i2]; exact b)
theorem tD_eqv (x : Str) : PyData.eqv (tD [x]) (tD [x]) = true := by
  show ((x == x) && true) = true
  simp
theorem tD_shaped (xs : List Str) (h : ∀ x ∈ xs, sOk x = true) : SeqAt.shaped (tD xs) = true := by
  show (PyData.canLayAll0 (xs.map PyData.str) && decide (PyData.depthAll (xs.map PyData.str) + 1 ≤ 64)) = true
  rw [strs_lay xs h, strs_depth]
  rfl
theorem Tab.mp {p : Addr} {f : List Str → HO} {H H' : Hp} {kvs : List (Key × V)} {t : Tb} (h : Tab f H kvs t) (k : Keep p H H') (n : ∀ us, H p ≠ some (f us)) : Tab f H' kvs t := h.mono fun a us e => k a _ e fun q => n us (q ▸ e)
theorem any_filter {α : Type} (p : α → Bool) : ∀ l : List α, (!decide (l.filter p = [])) = l.any p
  | [] => rfl
  | x :: l => by
    rw [List.filter_cons, List.any_cons]
    cases h : p x with
    | true => simp
    | false => simpa using any_filter p l
theorem op_neDK {X : Cx} {K' : PySem.W.Frag} (hK : X.K = K') (hu : X.A.units + 64 < cLine) : OpR X (compareOp .NotEq) (rNeD K') := by
  subst hK
  exact op_neD hu
theorem call_reprBl {X : Cx} : CallR X (.builtin "repr") (fun xs H Q => ∃ b, xs = [V.bl b] ∧ Q (.str (if b then "True" else "False")) H) := by
  intro pins s σ H xs us Q I r h
  obtain ⟨b, rfl, q⟩ := h
  obtain ⟨u, rfl, ru⟩ := r.one
  obtain rfl : u = Value.bool b := ru
  exact PySem.P.repr_of_bool ⟨.str _, H, I.tok _, ⟨_, rfl⟩, q⟩
theorem pe_fldK {X : Cx} {K' : PySem.W.Frag} {e : Expr} {f : Str} {pos : Pos} {ta : TE} (hK : X.K = K') (he : PE X e ta) (hb : attributeBase e f X.env (eval e X.env) = eval e X.env) : PE X (.Attribute e f pos) (tFld K' ta f) := by
  subst hK
  exact pe_fld he hb
theorem ClsW.same {C p : Addr} {H H' : Hp} {rs : List Row} (h : ClsW C H p rs) (s : Same H H') : ClsW C H' p rs := by
  obtain ⟨dx, r, n, l, kvs, ts, h1, h2, h3, h4, h5, h6⟩ := h
  exact ⟨dx, r, n, l, kvs, ts, s _ _ h1, s _ _ h2, h3.mono fun a us e => s a _ e, s _ _ h4, s _ _ h5, h6.mono fun b r e => s b _ e⟩
theorem strs_eqv : ∀ xs ys : List Str, PyData.eqvAll (xs.map PyData.str) (ys.map PyData.str) = decide (xs = ys)
  | [], [] => rfl
  | [], _ :: _ => rfl
  | _ :: _, [] => rfl
  | x :: xs, y :: ys => by
    show ((x == y) && PyData.eqvAll (xs.map PyData.str) (ys.map PyData.str)) = decide (x :: xs = y :: ys)
    rw [strs_eqv xs ys, Bool.eq_iff_iff]
    simp
theorem rows_eqv : ∀ rs qs : List Row, PyData.eqvAll (rs.map fun r => tD (r.1 :: r.2)) (qs.map fun r => tD (r.1 :: r.2)) = decide (rs = qs)
  | [], [] => rfl
  | [], _ :: _ => rfl
  | _ :: _, [] => rfl
  | r :: rs, q :: qs => by
    show (PyData.eqvAll ((r.1 :: r.2).map PyData.str) ((q.1 :: q.2).map PyData.str) && PyData.eqvAll (rs.map fun r => tD (r.1 :: r.2)) (qs.map fun r => tD (r.1 :: r.2))) = decide (r :: rs = q :: qs)
    rw [strs_eqv, rows_eqv rs qs, Bool.eq_iff_iff]
    obtain ⟨a, as⟩ := r
    obtain ⟨b, bs⟩ := q
    simp
theorem rowsD_eqv (rs qs : List Row) : PyData.eqv (rowsD rs) (rowsD qs) = decide (rs = qs) := rows_eqv rs qs
theorem rowsD_shaped {rs : List Row} (h : ∀ r ∈ rs, RowFit r) : SeqAt.shaped (rowsD rs) = true := by
  have d := rowsD_depth rs
  show (PyData.canLayAll0 (rs.map fun r => tD (r.1 :: r.2)) && decide (PyData.depth (rowsD rs) ≤ 64)) = true
  rw [rows_lay rs h]
  simp only [Bool.true_and, decide_eq_true_eq]
  omega
end K2
end
section
set_option Elab.async false
set_option maxRecDepth 100000
set_option linter.all false
namespace K2
open PySem L2
abbrev sMeets : Stmt := inClass (top 16) 10
abbrev nMeets : List Str := ["self", "kind", "names", "one", "other"]
def meet (tb : Tb) (ks ns : List Str) : Bool := ((ks.map fun k => ns.map fun n => decide (n ∈ look tb k)).flatten).any id
def spMeets (C : Addr) (L : Bool) : Sp := fun vs H Q _ => ∃ (p kt nt : Addr) (ks ns : List Str) (tb : Tb), vs = [.ref p, .ref kt, .ref nt] ∧ ClsAt C H p tb ∧ H kt = some (.tup (ks.map V.str)) ∧ H nt = some (if L then .lst (ns.map V.str) else .tup (ns.map V.str)) ∧
  (∀ x ∈ ks, x ∈ keys tb) ∧ ks.length ≤ 40 ∧ ns.length ≤ 40 ∧ ∀ H', Same H H' → Q (.bl (meet tb ks ns)) H'
section
variable {P : Program} {w : World} {K : PySem.W.Frag} {mg : Str → Option Value} {base : Heap}
theorem any_it {J : It} {n : Nat} {G : Hp → Prop} {Y : Nat → Hp → V → Hp → Prop} (w : Walk J n G Y) {B : (Hp → Prop) → V → Hp → Prop} {H0 : Hp} {Qd : Hp → Prop} (Pv : Nat → Hp → Prop) (h0 : Pv 0 H0) (hG : ∀ i H, i ≤ n → Pv i H → G H)
    (hs : ∀ i x H H', i < n → Pv i H → Y i H x H' → B (Pv (i + 1)) x H') (hd : ∀ H, Pv n H → Qd H) :
    ∃ W : Nat → Nat → Hp → Prop, (∃ m, W 0 m H0) ∧ ∀ i m H, W i m H → (J.stop i H ∧ Qd H) ∨ (J.go i H ∧ ∃ Nx : Hp → Prop, (∀ H', Nx H' → ∃ m', m' < m ∧ W (i + 1) m' H') ∧ ∀ x H', J.yld i H x H' → B Nx x H') := by
  refine ⟨fun i m H => m = n - i ∧ i ≤ n ∧ Pv i H, ⟨n, rfl, Nat.zero_le _, h0⟩, ?_⟩
  rintro i m H ⟨rfl, hi, p⟩
  by_cases lt : i < n
  · exact .inr ⟨w.goes i H lt (hG i H hi p), Pv (i + 1), fun H' p' => ⟨n - (i + 1), by omega, rfl, lt, p'⟩, fun x H' y => hs i x H H' lt p (w.yields i H x H' lt (hG i H hi p) y)⟩
  · obtain rfl : i = n := by omega
    exact .inl ⟨w.stops H (hG _ H hi p), hd H p⟩
theorem scMeets : FnScope nMeets ["self", "kind", "names"] (defScope sMeets) := ⟨rfl, rfl, rfl, by decide +kernel, rfl, by decide +kernel, by decide +kernel⟩
theorem pi_listK {X : Cx} {K' : PySem.W.Frag} {tg l : Expr} {tl : TE} (hK : X.K = K') (hl : PE X l tl) : PI X tg l (iList K' tl) := by
  subst hK
  exact pi_list hl
theorem meets_flat (tb : Tb) (ns : List Str) (k : Str) (ks : List Str) : ((ks ++ [k]).map fun k => ns.map fun n => decide (n ∈ look tb k)).flatten = (ks.map fun k => ns.map fun n => decide (n ∈ look tb k)).flatten ++ ns.map fun n => decide (n ∈ look tb k) := by
  rw [List.map_append, List.flatten_append]
  simp
theorem flat_len (tb : Tb) (ns : List Str) : ∀ ks : List Str, ((ks.map fun k => ns.map fun n => decide (n ∈ look tb k)).flatten).length = ks.length * ns.length
  | [] => by simp
  | k :: ks => by
    rw [List.map_cons, List.flatten_cons, List.length_append, flat_len tb ns ks, List.length_map, List.length_cons, Nat.add_mul, Nat.one_mul]
    omega
end
end K2
end
section
set_option Elab.async false
set_option maxRecDepth 100000
set_option linter.all false
namespace K2
open PySem L2 PySem.Spec PyProof.Rows
section
variable {X : Cx} {CX : CXT} {k : Nat} {f C : Addr} {fd : FuncData} {ps : List Str} {sp : Sp} {E : XK}
/-- a def called somewhere below -/
theorem run_at {A : Around} {pins : List (Addr × Obj)} {σ : L2.St} {H : Hp} {s : Shared} {Q : VK} {us : List Value} {vs : List V} (F : FnOk X.prog X.w X.K X.mg X.base CX k f fd ps sp) (hb : Binds X.K fd ps []) (hx : Passes CX X E) (sb : Sub X k A) (I : Inv X pins σ H s) (rv : Vals vs us) (hsp : sp vs H Q E) :
    wpAny (model X.prog X.w) A (call (.ref f) us) (EP X pins σ Q) X.xe s := by
  have e0 : Env0 X.prog X.w X.K X.mg X.base A X.stack s H := by
    have e := I.env0
    exact ⟨by rw [sb.fr]; exact e.frames, e.mod, e.bs, e.bsz, e.funs, e.frf, e.hok, e.bare⟩
  have hl : us.length = ps.length := by rw [← rv.length]; exact F.len _ _ _ _ hsp
  have b2 := hb s us I.kIn (by simpa using hl)
  rw [List.append_nil] at b2
  refine wpAny_call (codeAny_mono (F.run A X.stack s H ⟨us, []⟩ us vs Q E sb.room e0 b2 rv hsp) fun r s' hq => ?_)
  cases r with
  | error e => exact hx pins σ H s e s' I hq
  | ok fl =>
    cases fl with
    | ret w => exact I.after hq
    | next => exact False.elim hq
    | brk => exact False.elim hq
    | cont => exact False.elim hq
/-- len(o) -/
theorem call_lenO (F : FnOk X.prog X.w X.K X.mg X.base CX k f fd ps sp) (hb : Binds X.K fd ps []) (hx : Passes CX X E) (hr : Room (k + 1) X.A) (hs : PySem.W.findIn X.K (.ref C) "__len__" = some (some (.ref f))) (hf : PySem.W.isFn X.K (.ref f) = true) :
    CallR X (.builtin "len") (fun xs H Q => ∃ a dx fs, xs = [.ref a] ∧ H a = some (.ins C dx fs) ∧ sp [.ref a] H (fun v H' => ∃ n : Nat, v = .int n ∧ n < 1000000 ∧ Q (.int n) H') E) := by
  intro pins s σ H xs us Q I r h
  obtain ⟨a, dx, fs, rfl, ha, hsp⟩ := h
  obtain ⟨u, rfl, ru⟩ := r.one
  cases ru
  obtain ⟨mA, J, _⟩ := ins_get I.hok ha
  obtain ⟨od, J, _⟩ := J.look
  obtain ⟨m, hF⟩ := I.fr
  refine PySem.W.len_K hF I.ok.mod.kin J hs hf (wpAny_mono (run_at (vs := [.ref a]) F hb hx (Sub.in1 ⟨hr, rfl⟩) I (.cons rfl .nil) hsp) (fun v s' q => ?_) fun _ _ x => x)
  obtain ⟨x, H', I', rx, n, rfl, hn, q⟩ := q
  obtain ⟨t, rfl⟩ := rx
  exact ⟨⟨by omega, by omega⟩, .int n, H', I'.tok _, ⟨_, rfl⟩, q⟩
/-- x in o -/
theorem op_inO (F : FnOk X.prog X.w X.K X.mg X.base CX k f fd ps sp) (hb : Binds X.K fd ps []) (hx : Passes CX X E) (hr : Room k X.A) (hs : PySem.W.findIn X.K (.ref C) "__contains__" = some (some (.ref f))) (hf : PySem.W.isFn X.K (.ref f) = true) :
    OpR X (compareOp .In) (fun x y H Q => ∃ a dx fs, y = .ref a ∧ H a = some (.ins C dx fs) ∧ sp [.ref a, x] H (fun v H' => ∃ b, v = .bl b ∧ Q (.bl b) H') E) := by
  intro pins s σ H x y v u Q I rx ry h
  obtain ⟨a, dx, fs, rfl, ha, hsp⟩ := h
  cases ry
  obtain ⟨mA, J, _⟩ := ins_get I.hok ha
  obtain ⟨od, J, _⟩ := J.look
  obtain ⟨m, hF⟩ := I.fr
  refine PySem.W.in_K hF I.ok.mod.kin J hs hf (wpAny_mono (run_at (vs := [.ref a, x]) F hb hx ⟨hr, rfl⟩ I (.cons rfl (.cons rx .nil)) hsp) (fun r s' q => ?_) fun _ _ x => x)
  obtain ⟨z, H', I', rz, b, rfl, q⟩ := q
  cases rz
  exact wpAny_truthy_bool ⟨.bl b, H', I', rfl, q⟩
/-- the right side's type, not above the class -/
def RightT (K : PySem.W.Frag) (C : Addr) (H : Hp) (y : V) : Prop := ∃ t, TyX K H y t ∧ PySem.W.notFirst K C t = true
/-- o == y -/
theorem op_eqO (F : FnOk X.prog X.w X.K X.mg X.base CX k f fd ps sp) (hb : Binds X.K fd ps []) (hx : Passes CX X E) (hr : Room k X.A) (hu : X.A.units < cLine) (hs : PySem.W.findIn X.K (.ref C) "__eq__" = some (some (.ref f))) (hf : PySem.W.isFn X.K (.ref f) = true) :
    OpR X (compareOp .Eq) (fun x y H Q => ∃ a dx fs, x = .ref a ∧ H a = some (.ins C dx fs) ∧ RightT X.K C H y ∧ sp [.ref a, y] H (fun v H' => ∃ b, v = .bl b ∧ Q (.bl b) H') E) := by
  intro pins s σ H x y v u Q I rx ry h
  obtain ⟨a, dx, fs, rfl, ha, ⟨t, ty, hn⟩, hsp⟩ := h
  cases rx
  obtain ⟨mA, J, _⟩ := ins_get I.hok ha
  obtain ⟨od, J, _⟩ := J.look
  obtain ⟨m, hF⟩ := I.fr
  obtain ⟨Pz, Z, p, _⟩ := kit_of I ry ty
  show wpAny (model X.prog X.w) X.A (richCompare .Eq (.ref a) u) (EP X pins σ Q) X.xe s
  have lk : PySem.W.Looks (model X.prog X.w) s.heap (typeOf u) t := Z.ty _ _ I.kIn p
  refine PySem.W.cmp_K (op := .Eq) hu hF I.ok.mod.kin J lk hn hs hf (wpAny_mono (run_at (vs := [.ref a, y]) F hb hx ⟨hr, rfl⟩ I (.cons rfl (.cons ry .nil)) hsp) (fun r s' q => ?_) fun _ _ x => x)
  obtain ⟨z, H', I', rz, b, rfl, q⟩ := q
  cases rz
  exact ⟨.bl b, H', I', rfl, q⟩
/-! o != y: by object's own, which asks the class's == -/
theorem bound_ne {M : Model} {A : Around} {Er : Value → Shared → Prop} {s : Shared} {K : PySem.W.Frag} {x C : Addr} {ox : Obj} {od : Option Obj} {args : List Value} {Q : Option Value → Shared → Prop} (Y : K.In s.heap) (J : PySem.W.InstAt s.heap x ox C od)
    (hs : PySem.W.findIn K (.ref C) "__ne__" = some (some (.builtin "object.__ne__"))) (h : wpAny M A (call (.builtin "object.__ne__") (.ref x :: args)) (fun v => Q (some v)) Er s) : wpAny M A (callSpecialIfBound? (.ref x) "__ne__" args) Q Er s := by
  simp only [callSpecialIfBound?, bindSpecialIfBound?]
  refine wpAny_holding (wpAny_bind (wpAny_bind (wpAny_bind (J.type.here ((PySem.W.looks_findIn Y hs).here ?_)))))
  refine wpAny_bind (wpAny_askSetting (wpAny_ite ?_))
  have go : wpAny M A (call (.builtin "object.__ne__") ([.ref x] ++ args) >>= fun v => pure (some v)) Q Er s := wpAny_bind (wpAny_mono h (fun v s' q => wpAny_pure q) fun _ _ q => q)
  split
  · exact wpAny_bind (wpAny_of_eq (F.cmp_object.ne.bind _) (wpAny_pure (by exact go)))
  · exact wpAny_tryCatch (wpAny_bind (wpAny_of_eq (F.cmp_object.ne.bind _) (wpAny_pure (by exact go))))
theorem entry_ne {prog : Program} {w : World} {A : Around} {Er : Value → Shared → Prop} {s : Shared} {K : PySem.W.Frag} {x C f : Addr} {y : Value} {ox : Obj} {od : Option Obj} {Q : Fin → Shared → Prop} (Y : K.In s.heap) (J : PySem.W.InstAt s.heap x ox C od) (hu : A.units < cLine)
    (hs : PySem.W.findIn K (.ref C) "__eq__" = some (some (.ref f))) (hf : PySem.W.isFn K (.ref f) = true)
    (h : wpAny (model prog w) A (call (.ref f) [.ref x, y]) (fun v s' => ∃ b, v = .bool b ∧ Q (.done (.ret (.bool (!b)))) s') Er s) : wpAny (model prog w) A (Builtin.«object.__ne__» ⟨[.ref x, y], []⟩) Q Er s := by
  unfold Builtin.«object.__ne__»
  repeat (first
    | with_reducible refine wpAny_cRoomFor hu ?_
    | (refine wpAny_bind (m := callSpecialIfBound? (.ref x) (Str.ofString "__eq__") [y]) (PySem.W.ifBound_K Y J hs hf (wpAny_mono h (fun r s' hr => by
          obtain ⟨b, rfl, hq⟩ := hr
          repeat (first | exact hq | exact wpAny_pure hq | exact wpAny_truthy_bool hq | (refine wpAny_bind (m := truthy (.bool _)) (wpAny_truthy_bool ?_)) | wp_step)) fun _ _ e => e)))
    | wp_step)
theorem try_ne {prog : Program} {w : World} {A : Around} {Er : Value → Shared → Prop} {s : Shared} {K : PySem.W.Frag} {x C f : Addr} {y : Value} {ox : Obj} {od : Option Obj} {Q : Option Value → Shared → Prop} (Y : K.In s.heap) (J : PySem.W.InstAt s.heap x ox C od) (hu : A.units + 1 < cLine)
    (hn : PySem.W.findIn K (.ref C) "__ne__" = some (some (.builtin "object.__ne__"))) (hm : PySem.W.mroIn K C (.type "object") = some true) (hs : PySem.W.findIn K (.ref C) "__eq__" = some (some (.ref f))) (hf : PySem.W.isFn K (.ref f) = true)
    (h : wpAny (model prog w) A.in1 (call (.ref f) [.ref x, y]) (fun v s' => ∃ b, v = .bool b ∧ Q (some (.bool (!b))) s') Er s) : wpAny (model prog w) A (tryCompare (.ref x) "__ne__" y) Q Er s := by
  unfold tryCompare
  refine wpAny_bind (bound_ne Y J hn (wpAny_call (codeAny_call_builtin F.cmp_object.ne.plain F.cmpEntry_ne (PySem.W.check_slot F.cmpKind_ne F.cmpSplit_ne (J.type.andThen (PySem.W.looks_mroIn Y hm)) (F.cmpArgs_ne _ _)
    (entry_ne (A := A.in1) Y J hu hs hf (wpAny_mono h (fun v s' hv => ?_) fun _ _ e => e))))))
  obtain ⟨b, rfl, hq⟩ := hv
  exact ⟨b, rfl, wpAny_pure hq⟩
theorem op_neO (F : FnOk X.prog X.w X.K X.mg X.base CX k f fd ps sp) (hb : Binds X.K fd ps []) (hx : Passes CX X E) (hr : Room (k + 1) X.A) (hu : X.A.units + 1 < cLine) (hs : PySem.W.findIn X.K (.ref C) "__eq__" = some (some (.ref f))) (hf : PySem.W.isFn X.K (.ref f) = true)
    (hn : PySem.W.findIn X.K (.ref C) "__ne__" = some (some (.builtin "object.__ne__"))) (hm : PySem.W.mroIn X.K C (.type "object") = some true) :
    OpR X (compareOp .NotEq) (fun x y H Q => ∃ a b dx fs dy gs, x = .ref a ∧ y = .ref b ∧ H a = some (.ins C dx fs) ∧ H b = some (.ins C dy gs) ∧ sp [.ref a, .ref b] H (fun v H' => ∃ c, v = .bl c ∧ Q (.bl (!c)) H') E) := by
  intro pins s σ H x y v u Q I rx ry h
  obtain ⟨a, b, dx, fs, dy, gs, rfl, rfl, ha, hb2, hsp⟩ := h
  cases rx
  cases ry
  obtain ⟨mA, J, _⟩ := ins_get I.hok ha
  obtain ⟨od, J, _⟩ := J.look
  obtain ⟨mB, J2, _⟩ := ins_get I.hok hb2
  obtain ⟨od2, J2, _⟩ := J2.look
  have call := run_at (us := [.ref a, .ref b]) (vs := [.ref a, .ref b]) F hb hx (Sub.in1 ⟨hr, rfl⟩) I (.cons rfl (.cons rfl .nil)) hsp
  show wpAny (model X.prog X.w) X.A (richCompare .NotEq (.ref a) (.ref b)) (EP X pins σ Q) X.xe s
  unfold richCompare
  simp only [oneThing_ref]
  refine wpAny_holding (wpAny_bind (wpAny_cRoomFor (Nat.lt_of_succ_lt hu) ?_))
  rw [cmpInfo_NotEq]
  dsimp only
  refine wpAny_bind (J.type.here (wpAny_bind (J2.type.here ?_)))
  rw [show (Value.ref C != Value.ref C) = false from by simp]
  simp only [Bool.false_eq_true, if_false]
  refine wpAny_bind (wpAny_pure ?_)
  simp only [Bool.false_eq_true, if_false]
  refine wpAny_bind (try_ne I.kIn J hu hn hm hs hf (wpAny_mono call (fun r s' q => ?_) fun _ _ x => x))
  obtain ⟨z, H', I', rz, c, rfl, q⟩ := q
  cases rz
  exact ⟨c, rfl, wpAny_pure ⟨.bl (!c), H', I', rfl, q⟩⟩
end
end K2
end
section
set_option Elab.async false
set_option maxRecDepth 100000
set_option linter.all false
namespace K2
open PySem L2 PySem.Spec PyProof.Rows
/-- the staticmethod m of the class at C is the def at g -/
structure SMet (K : PySem.W.Frag) (C : Addr) (mc : Value) (m : Str) (p g : Addr) : Prop where
  at_ : PySem.W.findCls K (.ref C) mc m = some (.get (.builtin "staticmethod.__get__") (.ref p) .none (.ref C))
  rc : ∃ rest, PySem.W.recIn K p "staticmethod" = some (.ref g :: rest)
  kp : PySem.W.keepIn K (.ref g) = true
section
variable {X : Cx} {CX : CXT} {k : Nat} {f g C p : Addr} {mc : Value} {fd : FuncData} {ps ks : List Str} {sp : Sp} {E : XK} {m x : Str} {o e : Expr} {q pos apos nap : Pos} {ta te tk : TE} {tks : TA} {kws : List Keyword}
/-- C.m(), m a staticmethod -/
theorem pe_smeth0 {pl : Sem Bool} (he : PE X o ta) (r : ClX.CRead X.K C mc) (c : SMet X.K C mc m p g) (F : FnOk X.prog X.w X.K X.mg X.base CX k g fd [] sp) (hb : Binds X.K fd [] []) (hr : Room k X.A) (hx : Passes CX X E)
    (ht : eval (.Call (.Attribute o m apos) [] [] pos) X.env = (do
      let ov ← eval o X.env
      standAt apos.atName
      let (f, first) ← holding [ov] (getMethod ov m pl)
      callWith pos f first (backTo pos (starEach [] X.env)) (backToKw pos (keywordEach [] X.env))) := by rfl) : PE X (.Call (.Attribute o m apos) [] [] pos) (fun σ H Q => ta σ H fun z H1 => z = .ref C ∧ sp [] H1 Q E) := by
  constructor
  intro pins s σ H Q I h
  refine PySem.W.methodCall_KW (pl := pl) (thn (he.run pins s σ H _ I h) fun u s1 ⟨z, H1, I1, rz, ez, hs⟩ => ?_) ht
  subst ez
  obtain rfl : u = Value.ref C := rz
  obtain ⟨rest, hp⟩ := c.rc
  refine PySem.W.method_cls I1.kIn r.ga (PySem.W.cls_bind I1.kIn r.rd c.at_ (wpAny_call (PySem.W.sm_get (s := { s1 with toks := s1.toks + 1 }) I1.kIn hp (PySem.W.handed_on rfl ?_))))
  have I2 := I1.tok (s1.toks + 1)
  exact PySem.W.callWith_K0 (first := []) I2.kIn c.kp (run_at (us := []) (vs := []) F hb hx ⟨hr, rfl⟩ I2 .nil hs)
/-- x(), x a class whose __init__ takes any number of things -/
theorem pe_makeR0 (M : Mk X.K C f) (F : FnR X.prog X.w X.K X.mg X.base CX k f sp) (hr : Room (k + 1) X.A) (hg : Gl X x) (hm : X.mg x = some (.ref C)) (hx : Passes CX X E) (hdb : (x == ("__debug__" : Str)) = false := by decide) :
    PE X (.Call (.Name x nap) [] [] pos) (fun σ H Q => ∀ y dx, H y = none → H dx = none → dx ≠ y → sp [V.ref y] (upd (upd H dx (.own y)) y (.ins C dx [])) (fun v H2 => v = .non ∧ Q (.ref y) H2) E) := by
  constructor
  intro pins s σ H Q I h
  refine wpAny_Call_Name_kw (ld_glob I hg hm ?_ hdb)
  exact PySem.W.callWith_K0 (first := []) I.kIn M.kp (StX.run_makeR (us := []) (vs := []) M F hr hx I .nil h)
/-- x(*e) -/
theorem pe_makeSG (M : Mk X.K C f) (F : FnR X.prog X.w X.K X.mg X.base CX k f sp) (hr : Room (k + 1) X.A) (hg : Gl X x) (hm : X.mg x = some (.ref C)) (hx : Passes CX X E) (he : PE X e te) (hdb : (x == ("__debug__" : Str)) = false := by decide)
    (hst : starEach [.Starred e q] X.env = [(true, eval e X.env)] := by rfl) : PE X (.Call (.Name x nap) [.Starred e q] [] pos) (fun σ H Q => te σ H fun z H1 => ∃ a xs, z = .ref a ∧ (SqT X.K H1 a xs ∨ SqL X.K H1 a xs) ∧ ∀ y dx, H1 y = none → H1 dx = none → dx ≠ y →
      sp (V.ref y :: xs) (upd (upd H1 dx (.own y)) y (.ins C dx [])) (fun v H2 => v = .non ∧ Q (.ref y) H2) E) := by
  constructor
  intro pins s σ H Q I h
  refine wpAny_Call_Name_kw (ld_glob I hg hm ?_ hdb)
  refine PySem.W.callWith_S (h₀ := X.base) I.ok.mod.kin M.kp (thn (he.run pins s σ H _ I h) fun v s2 ⟨z, H2, I2, rz, a, xs, ez, hxs, h2⟩ => ?_) hst
  subst ez
  obtain rfl : v = Value.ref a := rz
  exact StX.star_any I2 hxs fun us s3 I3 rv => ⟨I3.kIn, StX.run_makeR M F hr hx I3 rv h2⟩
/-- o.m(), m takes any number of things -/
theorem pe_methR0 {pl : Sem Bool} (he : PE X o ta) (c : Cls X.K C) (hm : Meth X.K C m f) (F : FnR X.prog X.w X.K X.mg X.base CX k f sp) (hr : Room k X.A) (hx : Passes CX X E)
    (ht : eval (.Call (.Attribute o m apos) [] [] pos) X.env = (do
      let ov ← eval o X.env
      standAt apos.atName
      let (f, first) ← holding [ov] (getMethod ov m pl)
      callWith pos f first (backTo pos (starEach [] X.env)) (backToKw pos (keywordEach [] X.env))) := by rfl) : PE X (.Call (.Attribute o m apos) [] [] pos) (fun σ H Q => ta σ H fun z H1 => ∃ a dx fs, z = .ref a ∧ H1 a = some (.ins C dx fs) ∧ fs.lookup m = none ∧ sp [.ref a] H1 Q E) := by
  constructor
  intro pins s σ H Q I h
  refine PySem.W.methodCall_KW (pl := pl) (thn (he.run pins s σ H _ I h) fun u s1 ⟨z, H1, I1, rz, a, dx, fs, ez, ea, l, hs⟩ => ?_) ht
  subst ez
  obtain rfl : u = Value.ref a := rz
  exact getmeth_ok I1 ea c hm l (PySem.W.callWith_K0 (first := [.ref a]) I1.kIn hm.kp (wpAny_call (run_fnR (us := [.ref a]) (vs := [.ref a]) F hr hx I1 (.cons rfl .nil) hs)))
/-- C.m(k = v, ..), m a classmethod -/
theorem pe_cmethK {pl : Sem Bool} {gr : List Value → List Value → List Value} {gV : List V → List V → List V} (he : PE X o ta) (r : ClX.CRead X.K C mc) (c : ClX.CMet X.K C mc m p g) (F : FnOk X.prog X.w X.K X.mg X.base CX k g fd ps sp) (hr : Room k X.A) (hb : KBn X.K fd ps 1 ks gr gV) (hx : Passes CX X E) (hkw : PK X kws tks)
    (hall : (backToKw pos (keywordEach kws X.env)).all (·.1.isSome) = true := by rfl) (hks : (backToKw pos (keywordEach kws X.env)).filterMap (·.1) = ks := by rfl) (hpl : ((backTo pos (starEach [] X.env)).any (·.1) || (backToKw pos (keywordEach kws X.env)).any (·.1.isNone)) = false := by rfl)
    (ht : eval (.Call (.Attribute o m apos) [] kws pos) X.env = (do
      let ov ← eval o X.env
      standAt apos.atName
      let (f, first) ← holding [ov] (getMethod ov m pl)
      callWith pos f first (backTo pos (starEach [] X.env)) (backToKw pos (keywordEach kws X.env))) := by rfl) :
    PE X (.Call (.Attribute o m apos) [] kws pos) (fun σ H Q => ta σ H fun z H1 => z = .ref C ∧ tks σ H1 fun zs H2 => zs.length = ks.length ∧ sp (gV [.ref C] zs) H2 Q E) := by
  constructor
  intro pins s σ H Q I h
  refine PySem.W.methodCall_KW (pl := pl) (thn (he.run pins s σ H _ I h) fun u s1 ⟨z, H1, I1, rz, ez, hs⟩ => ?_) ht
  subst ez
  obtain rfl : u = Value.ref C := rz
  refine ClX.getmethcm_ok I1 r c fun s2 I2 => ?_
  refine PySem.W.callWith_of (P := PySem.W.MethP X.K s1.heap.objs.size g (.ref C)) hpl (PySem.W.keeps_M c.fi) (evalArgs_kw2_nil hall (thn (hkw.run pos _ s2 σ H1 _ I2 hs) fun ws s3 ⟨zs, H2, I3, rw', l2, q2⟩ => ⟨⟨ClX.pin_at I3, I3.kIn⟩, ?_⟩))
  rw [hks]
  have z : wpAny (model X.prog X.w) X.A (call (.ref s1.heap.objs.size) [] (ks.zip ws)) (EP X ((s1.heap.objs.size, PySem.W.methodObj (.ref g) (.ref C)) :: pins) σ Q) X.xe s3 := by
    refine wpAny_call (PySem.W.method_call (ClX.pin_at I3) (codeAny_mono (F.run X.A X.stack s3 H2 ⟨[.ref C], ks.zip ws⟩ (gr [.ref C] ws) (gV [.ref C] zs) Q E hr I3.env0 (hb.to s3 [.ref C] ws I3.kIn rfl (by rw [← l2, rw'.length])) (hb.rel (vs := [.ref C]) (us := [.ref C]) (.cons rfl .nil) rw') q2) fun y z hq => ?_))
    cases y with
    | error e => exact hx _ σ H2 s3 e z I3 hq
    | ok fl =>
      cases fl with
      | ret u => exact I3.after hq
      | next => exact hq.elim
      | brk => exact hq.elim
      | cont => exact hq.elim
  exact thn z fun _ _ y => ClX.unpinE y
end
end K2
end
section
set_option Elab.async false
set_option maxRecDepth 100000
set_option linter.all false
namespace K2
open PySem L2 PySem.Spec PyProof.Rows
abbrev sPlain : Stmt := inClass (top 16) 1
abbrev sLen : Stmt := inClass (top 16) 3
abbrev sCo : Stmt := inClass (top 16) 4
abbrev sEq : Stmt := inClass (top 16) 5
abbrev sWR : Stmt := inClass (top 16) 7
structure Own (K : PySem.W.Frag) (C : Addr) : Prop where
  ha : PySem.W.findIn K (.ref C) "__class__" = some (some (.builtin "object.__class__"))
  hn : PySem.W.specialIn K (.builtin "object.__class__") "__get__" = some (some (.builtin "getset_descriptor.__get__"))
  htk : PySem.W.takesIn K (.builtin "object.__class__") = some true
  hm : PySem.W.mroIn K C (.type "object") = some true
theorem ClsW.ty {K : PySem.W.Frag} {C p : Addr} {H : Hp} {rs : List Row} (h : ClsW C H p rs) (c : Cls K C) (o : Own K C) : TyX K H (.ref p) (.ref C) := by
  obtain ⟨dx, r, n, l, kvs, ts, h1, _⟩ := h
  exact .base (.ins h1 c o.ha o.hn o.htk o.hm)
theorem ClsW.ins {C p : Addr} {H : Hp} {rs : List Row} (h : ClsW C H p rs) : ∃ dx fs, H p = some (.ins C dx fs) ∧ ∀ m : Str, ¬ m = "_lines" → ¬ m = "names" → ¬ m = "rows" → fs.lookup m = none := by
  obtain ⟨dx, r, n, l, kvs, ts, h1, _⟩ := h
  exact ⟨dx, _, h1, fun m a b c => flds_no r n l a b c⟩
theorem kit_own {K : PySem.W.Frag} (C : Addr) : PySem.W.kitOne K (.ref C) (.ref C) = some true := by
  unfold PySem.W.kitOne
  rw [if_pos (by simp)]
theorem right_own {K : PySem.W.Frag} {C p : Addr} {H : Hp} {rs : List Row} (h : ClsW C H p rs) (c : Cls K C) (o : Own K C) : RightT K C H (.ref p) := ⟨_, h.ty c o, by unfold PySem.W.notFirst; simp⟩
def spLenC (C : Addr) : Sp := fun vs H Q _ => ∃ (p : Addr) (rs : List Row), vs = [.ref p] ∧ ClsW C H p rs ∧ Q (.int ((rs.length + 2 : Nat) : Int)) H
def spCo (K : PySem.W.Frag) (C : Addr) : Sp := fun vs H Q _ => ∃ (p : Addr) (x : V) (rs : List Row), vs = [.ref p, x] ∧ ClsW C H p rs ∧
  ((∃ y, x = .str y ∧ Q (.bl (decide (y ∈ keys (ups rs)))) H) ∨ (∃ t, TyX K H x t ∧ PySem.W.kitOne K t (.type "str") = some false ∧ Q (.bl false) H))
def spEqC (K : PySem.W.Frag) (C : Addr) : Sp := fun vs H Q _ => ∃ (p : Addr) (y : V) (rs : List Row), vs = [.ref p, y] ∧ ClsW C H p rs ∧ (∀ r ∈ rs, RowFit r) ∧
  ((∃ q qs, y = .ref q ∧ ClsW C H q qs ∧ (∀ r ∈ qs, RowFit r) ∧ Q (.bl (decide (rs = qs))) H) ∨ (∃ t, TyX K H y t ∧ PySem.W.kitOne K t (.ref C) = some false ∧ Q (.bl false) H))
def spWR (C : Addr) : Sp := fun vs H Q _ => ∃ (p t : Addr) (rs qs : List Row) (ts : List Addr), vs = [.ref p, .ref t] ∧ ClsW C H p rs ∧ H t = some (.tup (ts.map V.ref)) ∧ RowsAt H ts qs ∧ Good (rs ++ qs) ∧ (rs ++ qs).length ≤ 30 ∧
  ∀ (r : Addr) (H' : Hp), ClsW C H' r (rs ++ qs) → Same H H' → Q (.ref r) H'
def spWRr (C : Addr) : Sp := fun vs H Q E => ∃ ws rest, vs = ws ++ rest ∧ ws.length = 1 ∧ rest.length ≤ sizeLine ∧ ∀ p, H p = none → spWR C (ws ++ [V.ref p]) (upd H p (.tup rest)) Q E
def spInitR (C : Addr) : Sp := fun vs H Q E => ∃ ws rest, vs = ws ++ rest ∧ ws.length = 1 ∧ rest.length ≤ sizeLine ∧ ∀ p, H p = none → spInit C (ws ++ [V.ref p]) (upd H p (.tup rest)) Q E
def spPlain (C : Addr) : Sp := fun vs H Q _ => vs = [] ∧ ∀ (r : Addr) (H' : Hp), ClsW C H' r [] → Same H H' → Q (.ref r) H'
theorem RowsAt.app {H : Hp} {ts1 ts2 : List Addr} {rs1 rs2 : List Row} (h1 : RowsAt H ts1 rs1) (h2 : RowsAt H ts2 rs2) : RowsAt H (ts1 ++ ts2) (rs1 ++ rs2) := by
  refine ⟨by simp [h1.1, h2.1], fun i t r a b => ?_⟩
  by_cases hi : i < ts1.length
  · rw [List.getElem?_append_left hi] at a
    rw [List.getElem?_append_left (by rw [← h1.1]; exact hi)] at b
    exact h1.2 i t r a b
  · rw [List.getElem?_append_right (by omega)] at a
    rw [List.getElem?_append_right (by have := h1.1; omega), ← h1.1] at b
    exact h2.2 _ t r a b
/-- what the making of Classes of rows asks -/
theorem initR {C : Addr} {H : Hp} {ts : List Addr} {rs : List Row} {Q : VK} {E : XK} (R : RowsAt H ts rs) (g : Good rs) (h30 : rs.length ≤ 30) (k : ∀ (r : Addr) (H' : Hp), ClsW C H' r rs → Same H H' → Q (.ref r) H') :
    ∀ x dx, H x = none → H dx = none → dx ≠ x → spInitR C (V.ref x :: ts.map V.ref) (upd (upd H dx (.own x)) x (.ins C dx [])) (fun v H2 => v = .non ∧ Q (.ref x) H2) E := by
  intro x dx nx ndx ne
  refine ⟨[V.ref x], _, rfl, rfl, ?_, fun pt hpt => ?_⟩
  · rw [List.length_map, R.1]; show _ ≤ 16777216; omega
  have s1 : Same H (upd (upd H dx (.own x)) x (.ins C dx [])) := ((Same.refl H).put ndx).put nx
  have s2 : Same H (upd (upd (upd H dx (.own x)) x (.ins C dx [])) pt (.tup (ts.map V.ref))) := s1.put (s1.free hpt)
  exact ⟨x, dx, pt, ts, rs, rfl, by rw [upd_ne (ne_of_none upd_same hpt), upd_same], upd_same, R.mono fun b r e => s2 b _ e, g, h30, fun H' cl kp => ⟨rfl, k x H' cl fun b o e => kp b o (s2 b o e) (ne_of_none e nx)⟩⟩
theorem wr_bind (kV doc pm : Value) (an : Option Addr) (cdv ct : Value) : ∀ us rest : List Value, us.length = ["self"].length → bindArgs (PySem.W.fnOf "with_rows" "Classes.with_rows" (defArgs sWR) (defBody sWR) (defScope sWR) .none kV doc pm an cdv ct) ⟨us ++ rest, []⟩ = (newTuple rest >>= fun t => pure (([("self" : Str)]).zip us ++ [(("rows" : Str), t)])) :=
  StX.bind_star1 (B := fun l => bindArgs (PySem.W.fnOf "with_rows" "Classes.with_rows" (defArgs sWR) (defBody sWR) (defScope sWR) .none kV doc pm an cdv ct) ⟨l, []⟩) (fun a => rfl) (fun a r rs => rfl)
section
variable {P : Program} {w : World} {K : PySem.W.Frag} {mg : Str → Option Value} {base : Heap}
theorem scLenC : FnScope ["self"] ["self"] (defScope sLen) := ⟨rfl, rfl, rfl, by decide +kernel, rfl, by decide +kernel, by decide +kernel⟩
theorem scCo : FnScope ["self", "x"] ["self", "x"] (defScope sCo) := ⟨rfl, rfl, rfl, by decide +kernel, rfl, by decide +kernel, by decide +kernel⟩
theorem scEq : FnScope ["self", "other"] ["self", "other"] (defScope sEq) := ⟨rfl, rfl, rfl, by decide +kernel, rfl, by decide +kernel, by decide +kernel⟩
theorem scWR : FnScope ["self", "rows", "both"] ["self", "rows"] (defScope sWR) := ⟨rfl, rfl, rfl, by decide +kernel, rfl, by decide +kernel, by decide +kernel⟩
theorem scPlain : FnScope [] [] (defScope sPlain) := ⟨rfl, rfl, rfl, by decide +kernel, rfl, by decide +kernel, by decide +kernel⟩
theorem ok_lenC {f C : Addr} {fd : FuncData} (F : Fun K "__len__" "Classes.__len__" sLen f fd) (Y : Txt K mg C) (T : Bi mg) : FnOk P w K mg base CX0 1 f fd ["self"] (spLenC C) := by
  refine F.ok scLenC (fun vs H Q E h => ?_) (fun cdv A outer s H vs Q E hr h => ?_)
  · obtain ⟨p, rs, rfl, _⟩ := h
    rfl
  · obtain ⟨p, rs, rfl, cw, k⟩ := h
    refine ⟨_, pss_one (ps_ret (pe_callB call_len_seq (by rfl) T.len PySem.boot_len (pa_cons (pe_fld (pv 0) rfl) pa_nil))), ?_⟩
    obtain ⟨dx, r, n, l, kvs, ts, h1, _, _, h4, _, _⟩ := cw
    refine ⟨_, rfl, p, C, dx, _, _, rfl, h1, Y.cl, Y.nN, flds_names _ _ _, n, _, rfl, .inr (SqT.of h4), ?_⟩
    rw [List.length_map, keys_ups]
    have e : (base0 ++ rs.map (·.1)).length = rs.length + 2 := by
      rw [List.length_append, List.length_map]
      show 2 + rs.length = rs.length + 2
      omega
    rw [e]
    exact k
theorem ok_co {f C : Addr} {fd : FuncData} (F : Fun K "__contains__" "Classes.__contains__" sCo f fd) (Y : Txt K mg C) (T : Bi mg) : FnOk P w K mg base CX0 1 f fd ["self", "x"] (spCo K C) := by
  refine F.ok scCo (fun vs H Q E h => ?_) (fun cdv A outer s H vs Q E hr h => ?_)
  · obtain ⟨p, x, rs, rfl, _⟩ := h
    rfl
  · obtain ⟨p, x, rs, rfl, cw, k⟩ := h
    refine ⟨_, pss_one (ps_ret (pe_and (pe_callB call_isi (by rfl) T.isinstance (by decide +kernel) (pa_cons (pv 1) (pa_cons (pe_bltn (v := .ty "str") (by rfl) T.str (by decide +kernel) rfl) pa_nil))) (pe_one (pe_cmpR op_in_seq (pv 1) (pe_fld (pv 0) rfl) rfl)))), ?_⟩
    obtain ⟨dx, r, n, l, kvs, ts, h1, _, _, h4, _, _⟩ := cw
    rcases k with ⟨y, rfl, k⟩ | ⟨t, ht, hk, k⟩
    · refine ⟨_, rfl, _, _, _, _, true, rfl, .ty _, .base (.str y), kit_ty (by decide +kernel), _, rfl, ?_⟩
      refine iteT ⟨_, rfl, _, rfl, p, C, dx, _, _, rfl, h1, Y.cl, Y.nN, flds_names _ _ _, n, _, rfl, .inr (SqT.of h4), rfl, flat_strs _, ?_⟩
      rw [if_neg Bool.false_ne_true, inV_strs]
      exact k
    · exact ⟨_, rfl, _, _, _, _, false, rfl, .ty _, ht, hk, _, rfl, iteF k⟩
theorem ok_eq {f C : Addr} {fd : FuncData} (F : Fun K "__eq__" "Classes.__eq__" sEq f fd) (Y : Txt K mg C) (T : Bi mg) (O : Own K C) : FnOk P w K mg base CX0 1 f fd ["self", "other"] (spEqC K C) := by
  refine F.ok scEq (fun vs H Q E h => ?_) (fun cdv A outer s H vs Q E hr h => ?_)
  · obtain ⟨p, x, rs, rfl, _⟩ := h
    rfl
  · obtain ⟨p, x, rs, rfl, cw, fit, k⟩ := h
    refine ⟨_, pss_one (ps_ret (pe_and (pe_callB call_isi (by rfl) T.isinstance (by decide +kernel) (pa_cons (pv 1) (pa_cons (pe_glob (v := .ref C) rfl Y.mgC rfl) pa_nil))) (pe_one (pe_cmpR (op_eqD hr.units) (pe_fld (pv 0) rfl) (pe_fld (pv 1) rfl) (nomark _))))), ?_⟩
    rcases k with ⟨q, qs, rfl, cw2, fit2, k⟩ | ⟨t, ht, hk, k⟩
    · refine ⟨_, rfl, _, _, _, _, true, rfl, .own C, cw2.ty Y.cl O, kit_own C, _, rfl, ?_⟩
      obtain ⟨dx, r, n, l, kvs, ts, h1, _, _, _, h5, h6⟩ := cw
      obtain ⟨dy, r2, n2, l2, kvs2, ts2, g1, _, _, _, g5, g6⟩ := cw2
      refine iteT ⟨_, rfl, p, C, dx, _, _, rfl, h1, Y.cl, Y.nR, flds_rows _ _ _, _, rfl, q, C, dy, _, _, rfl, g1, Y.cl, Y.nR, flds_rows _ _ _, rowsD rs, rowsD qs, .tup (SqT.of h5) (rows_dp K rs ts h6), .tup (SqT.of g5) (rows_dp K qs ts2 g6), rowsD_shaped fit, rowsD_shaped fit2, ?_⟩
      rw [rowsD_eqv]
      exact k
    · exact ⟨_, rfl, _, _, _, _, false, rfl, .own C, ht, hk, _, rfl, iteF k⟩
end
end K2
end
section
set_option Elab.async false
set_option maxRecDepth 100000
set_option linter.all false
/-! what hangs on the pen's form -/
namespace K2
open PySem L2
theorem strs_ne_pen {ys : List Str} {c : Addr} {a l : Int} : HO.lst (ys.map V.str) ≠ penO c a l := by
  unfold penO
  intro e
  cases e
theorem Pen.strs_ne {H : Hp} {p c q : Addr} {ns : List Int} {n : Nat} {ys : List Str} (h : Pen H p c ns n) (hq : H q = some (.lst (ys.map V.str))) : q ≠ p := fun e => by
  obtain ⟨a, l, g, _⟩ := h.pen
  rw [e, g] at hq
  exact strs_ne_pen (Option.some.inj hq).symm
theorem refs_ne_pen {ts : List Addr} {c : Addr} {a l : Int} : HO.lst (ts.map V.ref) ≠ penO c a l := by
  unfold penO
  intro e
  cases e
theorem Pen.refs_ne {H : Hp} {p c q : Addr} {ns : List Int} {n : Nat} {ts : List Addr} (h : Pen H p c ns n) (hq : H q = some (.lst (ts.map V.ref))) : q ≠ p := fun e => by
  obtain ⟨a, l, g, _⟩ := h.pen
  rw [e, g] at hq
  exact refs_ne_pen (Option.some.inj hq).symm
theorem Pen.lst_ne {H : Hp} {p c q : Addr} {ns : List Int} {n : Nat} {xs : List V} (h : Pen H p c ns n) (hq : H q = some (.lst xs)) : q ≠ p := fun e => by
  obtain ⟨a, l, g, _⟩ := h.pen
  rw [e, g] at hq
  cases hq
theorem Pen.tup_ne {H : Hp} {p c q : Addr} {ns : List Int} {n : Nat} {xs : List V} (h : Pen H p c ns n) (hq : H q = some (.tup xs)) : q ≠ p := fun e => by
  obtain ⟨a, l, g, _⟩ := h.pen
  rw [e, g] at hq
  cases hq
theorem Pen.ins_ne {H : Hp} {p c q C dx : Addr} {ns : List Int} {n : Nat} {fs : List (Str × V)} (h : Pen H p c ns n) (hq : H q = some (.ins C dx fs)) : q ≠ p := fun e => by
  obtain ⟨a, l, g, _⟩ := h.pen
  rw [e, g] at hq
  cases hq
theorem ClsW.kp {C p c b : Addr} {ns : List Int} {n : Nat} {H H' : Hp} {rs : List Row} (h : ClsW C H b rs) (k : Keep p H H') (P : Pen H p c ns n) : ClsW C H' b rs := by
  obtain ⟨a, l, g, _⟩ := P.pen
  obtain ⟨dx, r, m, d, kvs, ts, h1, h2, h3, h4, h5, h6⟩ := h
  have nt : ∀ (q : Addr) (xs : List V), H q = some (.tup xs) → q ≠ p := fun q xs e => P.tup_ne e
  refine ⟨dx, r, m, d, kvs, ts, k _ _ h1 (P.ins_ne h1), k _ _ h2 fun e => ?_, h3.mono fun a us e => k a _ e fun q => ?_, k _ _ h4 (nt _ _ h4), k _ _ h5 (nt _ _ h5), h6.mono fun b r e => k b _ e (nt _ _ e)⟩
  · rw [e, g] at h2
    have h2 := HO.dK.inj (Option.some.inj h2)
    have h7 := h3.keys_eq
    rw [← h2, keys_ups] at h7
    have h8 := (List.cons.inj h7).1
    have h8 : (Str.ofString "cells") = sErr := Sum.inr.inj h8
    exact absurd h8 (by decide +kernel)
  · rw [q, g] at e
    have e := HO.dK.inj (Option.some.inj e)
    unfold dkeys kvsP at e
    cases us with
    | nil => cases e
    | cons u us => cases e
theorem ClsAt.same {C : Addr} {H H' : Hp} {p : Addr} {tb : Tb} (h : ClsAt C H p tb) (s : Same H H') : ClsAt C H' p tb := by
  obtain ⟨dx, r, n, l, kvs, h1, h2, h3⟩ := h
  exact ⟨dx, r, n, l, kvs, s _ _ h1, s _ _ h2, h3.mono fun a us e => s a _ e⟩
theorem pi_tupK {X : Cx} {K' : PySem.W.Frag} {tg l : Expr} {tl : TE} (hK : X.K = K') (hl : PE X l tl) : PI X tg l (iTup K' tl) := by
  subst hK
  exact pi_tup hl
theorem ClsAt.ins {C : Addr} {H : Hp} {p : Addr} {tb : Tb} (h : ClsAt C H p tb) : ∃ dx fs, H p = some (.ins C dx fs) ∧ ∀ m : Str, ¬ m = "_lines" → ¬ m = "names" → ¬ m = "rows" → fs.lookup m = none := by
  obtain ⟨dx, r, n, l, kvs, h1, h2, h3⟩ := h
  exact ⟨dx, _, h1, fun m a b c => flds_no _ _ _ a b c⟩
theorem ix_tupK {X : Cx} {K' : PySem.W.Frag} (hK : X.K = K') : IxR X (rIxT K') := by
  subst hK
  exact ix_tup
section
variable {P : Program} {w : World} {K : PySem.W.Frag} {mg : Str → Option Value} {base : Heap}
theorem scPick : FnScope ["_law_pen_here", "_law_some_here"] ["_law_pen_here", "_law_some_here"] (defScope sPick) := ⟨rfl, rfl, rfl, by decide +kernel, rfl, by decide +kernel, by decide +kernel⟩
theorem ok_pick {f fD : Addr} {fd fdD : FuncData} (F : Fun K "_law_pick" "_law_pick" sPick f fd) (T : Bi mg) (D : Df K mg "_law_draw" sDraw fD fdD ["_law_pen_here", "_law_many"]) : FnOk P w K mg base CX0 2 f fd ["_law_pen_here", "_law_some_here"] spPick := by
  have GD : FnOk P w K mg base CX0 1 fD fdD ["_law_pen_here", "_law_many"] spDraw := ok_draw D.F T
  refine F.ok scPick (fun vs H Q E h => ?_) (fun cdv A outer s H vs Q E hr h => ?_)
  · obtain ⟨p, c, ns, n, y, xs, rfl, _⟩ := h
    rfl
  · obtain ⟨p, c, ns, n, y, xs, rfl, hP, hn, hS, hne, hlen, k⟩ := h
    refine ⟨_, (pss_one (ps_ret (pe_ix ix_seq (pv 1) (pe_call GD hr (by rfl) D.m D.F.kp D.b .nil pass0 (pa_cons (pv 0) (pa_cons (pe_callB call_len (by rfl) T.len PySem.boot_len (pa_cons (pv 1) pa_nil)) pa_nil))) (fun _ _ => rfl)))), ?_⟩
    have hx0 : 0 < xs.length := List.length_pos_iff.mpr hne
    have hL : LenV K y H xs.length := by
      rcases hS with ⟨l, rfl, _, hl⟩ | ⟨z, rfl, rfl, hz⟩ | ⟨t, rfl, _, ht⟩
      · exact .inl ⟨_, SqL.of hl, rfl⟩
      · refine ⟨Nat.le_trans hz (by decide), ?_⟩
        rw [List.length_map]
        rfl
      · exact .inr ⟨_, SqT.of ht, rfl⟩
    refine ⟨_, rfl, _, rfl, _, rfl, _, _, rfl, hL, p, c, ns, n, _, rfl, hP, hn, by omega, by omega, fun v H' h0 h1 kp P' => ?_⟩
    obtain ⟨j, rfl⟩ : ∃ j : Nat, v = (j : Int) := ⟨v.toNat, (Int.toNat_of_nonneg h0).symm⟩
    have hj : j < xs.length := by omega
    have hv : xs[j]? = some xs[j] := List.getElem?_eq_getElem hj
    rcases hS with ⟨l, rfl, hlp, hl⟩ | ⟨z, rfl, rfl, hz⟩ | ⟨t, rfl, htp, ht⟩
    · exact .inl ⟨l, xs, _, _, rfl, rfl, SqL.of (kp l _ hl hlp), atI_nat hv, k j _ H' hv kp P'⟩
    · refine .inr (.inr ⟨z, _, (codes z)[j]'(by rw [List.length_map] at hj; exact hj), rfl, rfl, Nat.le_trans hz (by decide), atI_nat (List.getElem?_eq_getElem _), k j _ H' ?_ kp P'⟩)
      rw [List.getElem?_map, List.getElem?_eq_getElem (by rw [List.length_map] at hj; exact hj)]
      rfl
    · exact .inr (.inl ⟨t, xs, _, _, rfl, rfl, SqT.of (kp t _ ht htp), atI_nat hv, k j _ H' hv kp P'⟩)
theorem scBarredB : FnScope ["_law_some_here"] [] (defScope sBarred) := ⟨rfl, rfl, rfl, by decide +kernel, rfl, by decide +kernel, by decide +kernel⟩
theorem ok_barred {f : Addr} {fd : FuncData} (F : Fun K "_law_barred" "_law_barred" sBarred f fd) : FnOk P w K mg base CX0 1 f fd [] spBarred := by
  refine F.ok scBarredB (fun vs H Q E h => ?_) (fun cdv A outer s H vs Q E hr h => ?_)
  · obtain ⟨rfl, _⟩ := h
    rfl
  · obtain ⟨rfl, k⟩ := h
    refine ⟨_, (pss_cons (ps_set (i := 0) scBarredB.nd rfl (Or.inl rfl) pe_str)
      (pss_cons (ps_set (i := 0) scBarredB.nd rfl (Or.inl rfl) (pe_op op_add_str (pv 0) pe_str))
      (pss_one (ps_ret (pe_split (pv 0) pe_str))))), ?_⟩
    refine ⟨_, rfl, _, _, rfl, rfl, by decide +kernel, _, rfl, ⟨_, rfl⟩, _, _, rfl, rfl, by decide +kernel, by decide +kernel, fun l hl => ?_⟩
    have e : barred = Txt.split ((Str.ofString "pass raise from none again return returns break call handling else either or loop") ++ Str.ofString " try except as finally with quiet class def error vacant") (Str.ofString " ") := by decide +kernel
    have := k l hl
    rw [e] at this
    exact this
theorem ok_meets {f C fW : Addr} {fd fdW : FuncData} (L : Bool) (F : Fun K "meets" "Classes.meets" sMeets f fd) (X : Txt K mg C) (T : Bi mg) (tAny : mg "any" = none)
    (mW : Meth K C "within" fW) (GW : FnOk P w K mg base CX0 1 fW fdW ["self", "one", "other"] (spWithin C)) (bW : Binds K fdW ["self", "one", "other"] []) : FnOk P w K mg base CX0 3 f fd ["self", "kind", "names"] (spMeets C L) := by
  refine F.ok scMeets (fun vs H Q E h => ?_) (fun cdv A outer s H vs Q E hr h => ?_)
  · obtain ⟨p, kt, nt, ks, ns, tb, rfl, _⟩ := h
    rfl
  · obtain ⟨p, kt, nt, ks, ns, tb, rfl, cl, hkt, hnt, hk, k4, n4, k⟩ := h
    have hr1 : Room 1 _ := hr.mono (by decide)
    have hu := hu_of hr
    obtain ⟨J, G, wi1, hG, W, hwi, hPI⟩ : ∃ (J : It) (G : Hp → Prop) (wi1 : TI), (∀ H', Same H H' → G H') ∧ Walk J ns.length G (YAt (ns.map V.str)) ∧ (∀ (σ : L2.St) (H' : Hp) (R : It → Hp → Prop), σ[2]? = some (some (V.ref nt)) → Same H H' → R J H' → wi1 σ H' R) ∧
        (∀ (tg1 : Expr) (X' : Cx), X'.K = K → ∀ e, PE X' e (tVar 2) → PI X' tg1 e wi1) := by
      cases L with
      | true =>
        refine ⟨Itl K nt, fun H' => SqL K H' nt (ns.map V.str), iList K (tVar 2), fun H' s => SqL.of (s nt _ hnt), ?_, fun σ H' R e s r => ⟨_, e, nt, rfl, ⟨_, SqL.of (s nt _ hnt)⟩, r⟩, fun tg1 X' hK e he => pi_listK hK he⟩
        have := walk_list (K := K) (a := nt) (xs := ns.map V.str)
        rwa [List.length_map] at this
      | false =>
        refine ⟨Itt K nt, fun H' => SqT K H' nt (ns.map V.str), iTup K (tVar 2), fun H' s => SqT.of (s nt _ hnt), ?_, fun σ H' R e s r => ⟨_, e, nt, rfl, ⟨_, SqT.of (s nt _ hnt)⟩, r⟩, fun tg1 X' hK e he => pi_tupK hK he⟩
        have := walk_tup (K := K) (a := nt) (xs := ns.map V.str)
        rwa [List.length_map] at this
    refine ⟨_, pss_one (ps_ret (pe_callB (cr_any rfl) (by rfl) tAny (by decide +kernel) (pa_cons
      (pe_lc2 (own := [("one", 3), ("other", 4)]) (vs1 := [4]) (g := gName 3) (g1 := gName 4) (tt := tYes) (tt1 := tYes) rfl scMeets.nd (pi_tup (pv 1)) (blkOk_by (N := nMeets) (sc := defScope sMeets) (by decide +kernel)) (by decide +kernel)
        (fun _ _ _ _ _ => pg_name (i := 3) scMeets.nd rfl (Or.inl rfl)) (fun _ _ _ _ _ => pts_nil) (fun _ _ _ _ _ => hPI _ _ rfl _ (pv 2)) (fun _ _ _ _ _ => pg_name (i := 4) scMeets.nd rfl (Or.inl rfl)) (fun _ _ _ _ _ => pts_nil)
        (fun _ _ _ _ _ => pe_meth (pv 0) X.cl mW GW hr1 bW .nil pass0 (pa_cons (pv 3) (pa_cons (pv 4) pa_nil)))) pa_nil))), ?_⟩
    refine ⟨_, rfl, kt, rfl, ⟨_, SqT.of hkt⟩, fun D hD => ?_⟩
    have hsz : ks.length * ns.length ≤ 1600 := Nat.mul_le_mul k4 n4
    refine any_it (walk_tup (K := K) (a := kt) (xs := ks.map V.str)) (fun i Hc => Hc D = some (.lst ((((ks.take i).map fun k => ns.map fun n => decide (n ∈ look tb k)).flatten).map V.bl)) ∧ Same H Hc) ?_ ?_ ?_ ?_
    · exact ⟨upd_same, (Same.refl H).put hD⟩
    · rintro i Hc _ ⟨_, sm⟩
      exact SqT.of (sm kt _ hkt)
    · rintro i y Hc _ hi ⟨h1, sm⟩ ⟨rfl, hy⟩
      rw [List.length_map] at hi
      have hki : ks[i]? = some ks[i] := List.getElem?_eq_getElem hi
      rw [List.getElem?_map, hki] at hy
      have hkk := hk ks[i] (List.getElem_mem hi)
      have et : ks.take (i + 1) = ks.take i ++ [ks[i]] := by rw [List.take_add_one, hki]; rfl
      generalize ks[i] = q at hki hy hkk et
      cases hy
      refine ⟨rfl, hwi _ _ _ rfl sm ?_⟩
      have fl0 := flat_len tb ns (ks.take i)
      have fl1 : (ks.take i).length * ns.length + ns.length ≤ 1640 := by
        have : (ks.take i).length * ns.length ≤ ks.length * ns.length := Nat.mul_le_mul_right _ (by rw [List.length_take]; omega)
        omega
      generalize hpre : ((ks.take i).map fun k => ns.map fun n => decide (n ∈ look tb k)).flatten = pre at h1 fl0
      refine any_it W (fun j Hd => Hd D = some (.lst ((pre ++ (ns.take j).map fun n => decide (n ∈ look tb q)).map V.bl)) ∧ Same H Hd) ?_ ?_ ?_ ?_
      · refine ⟨?_, sm⟩
        simpa using h1
      · rintro j Hd _ ⟨_, sd⟩
        exact hG Hd sd
      · rintro j y Hd _ hj ⟨g1, sd⟩ ⟨rfl, hy⟩
        have hnj : ns[j]? = some ns[j] := List.getElem?_eq_getElem hj
        rw [List.getElem?_map, hnj] at hy
        have en : ns.take (j + 1) = ns.take j ++ [ns[j]] := by rw [List.take_add_one, hnj]; rfl
        generalize ns[j] = z at hnj hy en
        cases hy
        obtain ⟨dx, fs, hp1, hp2⟩ := (cl.same sd).ins
        refine ⟨rfl, _, rfl, p, dx, fs, rfl, hp1, hp2 "within" (by decide +kernel) (by decide +kernel) (by decide +kernel), _, rfl, _, rfl, p, q, z, tb, rfl, cl.same sd, hkk, _, g1, ?_, ?_, sd.put hD⟩
        · rw [List.length_map, List.length_append, List.length_map, List.length_take]; show _ < 16777216; omega
        · rw [upd_same, en, List.map_append, List.map_append, List.map_append, List.map_append, List.append_assoc]
          rfl
      · rintro Hd ⟨g1, sd⟩
        rw [List.take_length] at g1
        refine ⟨?_, sd⟩
        rw [et, meets_flat, hpre]
        exact g1
    · rintro Hc ⟨h1, sm⟩
      rw [List.length_map, List.take_length] at h1
      exact ⟨D, _, rfl, SqL.of h1, k Hc sm⟩
end
end K2
end
section
set_option Elab.async false
set_option maxRecDepth 100000
set_option linter.all false
/-! words of the third style -/
namespace K2
open PySem L2
def finalX (base : List Nat) (spot first hop k : Nat) : List Nat :=
  let w := wordAt base spot (signAt first hop k)
  w ++ (if txt w ∈ barred then [120] else [])
theorem barred_endX : ∀ b ∈ barred, ∀ c, (codes b).getLast? = some c → c ≠ 120 := by
  have h : ∀ b ∈ barred, (codes b).getLast? ≠ some 120 := by decide +kernel
  intro b hb c hc e
  exact h b hb (by rw [hc, e])
theorem vw_finalX {base : List Nat} (hb : Low base) (hl : base.length ≤ 6) (spot f hop k : Nat) : VW (txt (finalX base spot f hop k)) ∧ txt (finalX base spot f hop k) ∉ barred := by
  have hw := low_wordAt (spot := spot) hb (sign_lo f hop k).1 (sign_lo f hop k).2
  have hlen := len_wordAt base spot (signAt f hop k)
  have nb : txt (finalX base spot f hop k) ∉ barred := by
    intro hm
    have he := barred_endX _ hm
    rw [codes_txt] at he
    by_cases h2 : txt (wordAt base spot (signAt f hop k)) ∈ barred
    · unfold finalX at he
      simp only [h2, if_true] at he
      exact (he 120 (by simp)) rfl
    · unfold finalX at hm
      simp only [h2, if_false, List.append_nil] at hm
  refine ⟨⟨?_, ?_, ?_, fun h => nb (mem_resd h)⟩, nb⟩
  · rw [codes_txt]
    unfold finalX
    intro c hc
    rcases List.mem_append.mp hc with hc | hc
    · exact hw c hc
    · split at hc
      · have : c = 120 := by simpa using hc
        omega
      · cases hc
  · rw [codes_txt]
    intro e
    have : (finalX base spot f hop k).length = 0 := by rw [e]; rfl
    unfold finalX at this
    rw [List.length_append, hlen] at this
    omega
  · rw [codes_txt]
    unfold finalX
    rw [List.length_append, hlen]
    split
    · show base.length + 1 + 1 ≤ 8; omega
    · show base.length + 1 + 0 ≤ 8; omega
theorem finalX_ne {base : List Nat} {spot f hop i j : Nat} (hh : hop ∈ [1, 3, 5, 7, 9, 11]) (h1 : i < j) (hj : j < 26) : finalX base spot f hop i ≠ finalX base spot f hop j := by
  have li := len_wordAt base spot (signAt f hop i)
  have lj := len_wordAt base spot (signAt f hop j)
  intro e
  have hs : wordAt base spot (signAt f hop i) ≠ wordAt base spot (signAt f hop j) := word_ne (sign_ne hh h1 (by omega))
  unfold finalX at e
  by_cases c3 : txt (wordAt base spot (signAt f hop i)) ∈ barred
  · by_cases c4 : txt (wordAt base spot (signAt f hop j)) ∈ barred
    · simp only [c3, c4, if_true] at e
      exact hs (List.append_inj' e rfl).1
    · simp only [c3, c4, if_true, if_false, List.append_nil] at e
      have := congrArg List.length e
      rw [List.length_append, li, lj] at this
      simp at this
  · by_cases c4 : txt (wordAt base spot (signAt f hop j)) ∈ barred
    · simp only [c3, c4, if_true, if_false, List.append_nil] at e
      have := congrArg List.length e
      rw [List.length_append, li, lj] at this
      simp at this
    · simp only [c3, c4, if_false, List.append_nil] at e
      exact hs e
def finalsX (base : List Nat) (spot f hop n : Nat) : List Str := (List.range n).map fun k => txt (finalX base spot f hop k)
theorem words_finalsX {base : List Nat} (hb : Low base) (hl : base.length ≤ 6) {hop : Nat} (hh : hop ∈ [1, 3, 5, 7, 9, 11]) {n : Nat} (hn : n ≤ 26) (spot f : Nat) : Words (finalsX base spot f hop n) := by
  refine ⟨fun x hx => ?_, fun x hx => ?_, ?_⟩
  · obtain ⟨k, _, rfl⟩ := List.mem_map.mp hx
    exact (vw_finalX hb hl spot f hop k).1
  · obtain ⟨k, _, rfl⟩ := List.mem_map.mp hx
    exact (vw_finalX hb hl spot f hop k).2
  · refine nodup_of_inj fun i j h1 h2 e => finalX_ne (base := base) (spot := spot) (f := f) hh h1 (by omega) ?_
    have := congrArg codes e
    rwa [codes_txt, codes_txt] at this
theorem finalsX_succ (b : List Nat) (spot f h i : Nat) : finalsX b spot f h (i + 1) = finalsX b spot f h i ++ [txt (finalX b spot f h i)] := by
  unfold finalsX
  rw [List.range_succ, List.map_append]
  rfl
theorem fin_x {W : Str} {b : List Nat} {spot f h i : Nat} (e : codes W = wordAt b spot (signAt f h i)) : W ++ Txt.mul (Str.ofString "x") (if W ∈ barred then 1 else 0) = txt (finalX b spot f h i) := by
  refine codes_inj ?_
  have eW : txt (wordAt b spot (signAt f h i)) = W := by rw [← e, txt_codes]
  rw [codes_append, codes_txt, e]
  unfold finalX
  dsimp only
  rw [eW]
  congr 1
  by_cases hb : W ∈ barred
  · rw [if_pos hb, if_pos hb]
    decide +kernel
  · rw [if_neg hb, if_neg hb]
    decide +kernel
def spWordsX : Sp := fun vs H Q _ => ∃ (p c : Addr) (ns : List Int) (n m : Nat), vs = [.ref p, .int m] ∧ Pen H p c ns n ∧ n + 12 ≤ 100000 ∧ m ≤ 26 ∧
  ∀ (l : Addr) (ws : List Str) (H' : Hp), Words ws → ws.length = m → H' l = some (.lst (ws.map V.str)) → Keep p H H' → Pen H' p c ns (n + 12) → Q (.ref l) H'
abbrev nWordsX : List Str := ["_law_pen_here", "_law_many", "_law_letters", "_law_long", "_law_stem", "_law_k", "_law_place", "_law_begin", "_law_stride", "_law_found", "_law_letter", "_law_word"]
section
variable {P : Program} {w : World} {K : PySem.W.Frag} {mg : Str → Option Value} {base : Heap}
theorem scWordsX : FnScope nWordsX ["_law_pen_here", "_law_many"] (defScope sWords) := ⟨rfl, rfl, rfl, by decide +kernel, rfl, by decide +kernel, by decide +kernel⟩
theorem ok_wordsX {f fD fP fB : Addr} {fd fdD fdP fdB : FuncData} (F : Fun K "_law_words" "_law_words" sWords f fd) (T : Bi mg) (D : Df K mg "_law_draw" sDraw fD fdD ["_law_pen_here", "_law_many"]) (GD : FnOk P w K mg base CX0 1 fD fdD ["_law_pen_here", "_law_many"] spDraw)
    (PK : Df K mg "_law_pick" sPick fP fdP ["_law_pen_here", "_law_some_here"]) (GP : FnOk P w K mg base CX0 2 fP fdP ["_law_pen_here", "_law_some_here"] spPick)
    (BA : Df K mg "_law_barred" sBarred fB fdB []) (GB : FnOk P w K mg base CX0 1 fB fdB [] spBarred) : FnOk P w K mg base CX0 3 f fd ["_law_pen_here", "_law_many"] spWordsX := by
  refine F.ok scWordsX (fun vs H Q E h => ?_) (fun cdv A outer s H vs Q E hr h => ?_)
  · obtain ⟨p, c, ns, n, m, rfl, _⟩ := h
    rfl
  · obtain ⟨p, c, ns, n, m, rfl, hP, hn, hm, k⟩ := h
    have hr2 : Room 2 _ := hr
    have hr1 : Room 1 _ := hr.mono (by decide)
    refine ⟨_, (pss_cons (ps_set (i := 2) scWordsX.nd rfl (Or.inr rfl) pe_str)
      (pss_cons (ps_set (i := 3) scWordsX.nd rfl (Or.inl rfl) (pe_call GP hr2 (by rfl) PK.m PK.F.kp PK.b .nil pass0 (pa_cons (pv 0) (pa_cons (pe_lst (pa_cons pe_int (pa_cons pe_int (pa_cons pe_int (pa_cons pe_int (pa_cons pe_int (pa_cons pe_int pa_nil))))))) pa_nil))))
      (pss_cons (ps_set (i := 4) scWordsX.nd rfl (Or.inl rfl) (pe_join pe_str (pe_lc (own := [("_law_k", 5)]) (g := gName 5) (tt := tYes) rfl scWordsX.nd (pi_range1 rfl T.range (pa_cons (pv 3) pa_nil)) (blkOk_by (N := nWordsX) (sc := defScope sWords) (by decide +kernel)) (fun _ _ _ _ _ => pg_name (i := 5) scWordsX.nd rfl (Or.inl rfl)) (fun _ _ _ _ _ => pts_nil) (fun _ _ _ _ _ => pe_ix ix_str (pv 2) (pe_call GD hr1 (by rfl) D.m D.F.kp D.b .nil pass0 (pa_cons (pv 0) (pa_cons pe_int pa_nil))) (fun _ _ => rfl)))))
      (pss_cons (ps_set (i := 4) scWordsX.nd rfl (Or.inl rfl) (pe_call GP hr2 (by rfl) PK.m PK.F.kp PK.b .nil pass0 (pa_cons (pv 0) (pa_cons (pe_lst (pa_cons (pv 4) (pa_cons (pv 4) (pa_cons (pv 4) (pa_cons pe_str (pa_cons pe_str (pa_cons pe_str (pa_cons pe_str pa_nil)))))))) pa_nil))))
      (pss_cons (ps_set (i := 6) scWordsX.nd rfl (Or.inl rfl) (pe_call GD hr1 (by rfl) D.m D.F.kp D.b .nil pass0 (pa_cons (pv 0) (pa_cons (pe_op op_add (pe_callB call_len_str (by rfl) T.len PySem.boot_len (pa_cons (pv 4) pa_nil)) pe_int) pa_nil))))
      (pss_cons (ps_set (i := 7) scWordsX.nd rfl (Or.inl rfl) (pe_call GD hr1 (by rfl) D.m D.F.kp D.b .nil pass0 (pa_cons (pv 0) (pa_cons pe_int pa_nil))))
      (pss_cons (ps_set (i := 8) scWordsX.nd rfl (Or.inl rfl) (pe_op op_add (pe_op op_mul pe_int (pe_call GD hr1 (by rfl) D.m D.F.kp D.b .nil pass0 (pa_cons (pv 0) (pa_cons pe_int pa_nil)))) pe_int))
      (pss_cons (ps_set (i := 9) scWordsX.nd rfl (Or.inl rfl) (pe_lst pa_nil))
      (pss_cons (ps_for PassesOwn.never rfl (pi_range1 rfl T.range (pa_cons (pv 1) pa_nil)) (pg_name (i := 5) scWordsX.nd rfl (Or.inl rfl))
      (pss_cons (ps_set (i := 10) scWordsX.nd rfl (Or.inl rfl) (pe_ix ix_str (pv 2) (pe_op op_modN (pe_callTy call_int1 (by rfl) T.int (by decide +kernel) (pa_cons (pe_op op_add (pv 7) (pe_op op_mul (pv 8) (pv 5))) pa_nil)) pe_int) (fun _ _ => rfl)))
        (pss_cons (ps_set (i := 11) scWordsX.nd rfl (Or.inl rfl) (pe_op op_add_str (pe_op op_add_str (pe_slice sl_str (pv 4) po_none (po_some (pv 6))) (pv 10)) (pe_slice sl_str (pv 4) (po_some (pv 6)) po_none)))
        (pss_one (ps_expr (pe_bm PySem.F.plainAttrs_list PySem.F.slot_list_append PySem.F.type_list_append mt_append (pv 9) (pa_cons (pe_op op_add_str (pv 11) (pe_op op_mul_str pe_str (pe_callTy call_int1 (by rfl) T.int (by decide +kernel) (pa_cons (pe_cmpR op_in_seq (pv 11) (pe_call0 GB hr1 (by rfl) BA.m BA.F.kp BA.b .nil pass0) rfl) pa_nil)))) pa_nil)))))))
      (pss_one (ps_ret (pv 9)))))))))))), ?_⟩
    refine ⟨_, rfl, (by show 6 ≤ sizeLine; decide), fun l0 h0 => ?_⟩
    refine ⟨p, c, ns, n, _, _, rfl, hP.new h0, by omega, .inl ⟨l0, rfl, (hP.pne h0).symm, upd_same⟩, by simp, (by show 6 ≤ 1000; decide), fun j0 v0 H1 hv0 k1 P1 => ?_⟩
    obtain ⟨q1, rfl, q16⟩ : ∃ j : Nat, v0 = .int (j : Int) ∧ j ≤ 6 := by
      have hm6 := List.mem_of_getElem? hv0
      simp only [List.mem_cons, List.not_mem_nil, or_false] at hm6
      rcases hm6 with rfl | rfl | rfl | rfl | rfl | rfl
      · exact ⟨0, rfl, by omega⟩
      · exact ⟨0, rfl, by omega⟩
      · exact ⟨1, rfl, by omega⟩
      · exact ⟨2, rfl, by omega⟩
      · exact ⟨4, rfl, by omega⟩
      · exact ⟨6, rfl, by omega⟩
    have k1 : Keep p H H1 := ((Keep.refl p H).new h0).trans k1
    refine ⟨⟨_, rfl⟩, _, rfl, _, rfl, by omega, by omega, fun D1 hD1 => ?_⟩
    have hD1H : H D1 = none := k1.fresh P1 hD1
    have hpD := P1.pne hD1
    have hcD := P1.cne hD1
    refine lc_range (lo := 0) (n := q1) (fun i Hc => ∃ ys : List Nat, Low ys ∧ ys.length = i ∧ Hc D1 = some (.lst ((ys.map fun c => (⟨#[c]⟩ : Str)).map V.str)) ∧ Keep p H Hc ∧ Pen Hc p c ns (n + 1 + i)) ?_ ?_ ?_
    · refine ⟨[], fun _ h => (by cases h), rfl, upd_same, k1.new hD1H, P1.new hD1⟩
    · rintro i Hc hi ⟨ys, hys, hyl, hD, kc, Pc⟩
      have hDp : D1 ≠ p := hpD.symm
      refine ⟨rfl, _, rfl, _, rfl, p, c, ns, n + 1 + i, 26, rfl, Pc, by omega, by decide, by decide, fun dv Hd d0 d1 kd Pd => ?_⟩
      obtain ⟨jl, rfl⟩ : ∃ j : Nat, dv = (j : Int) := ⟨dv.toNat, (Int.toNat_of_nonneg d0).symm⟩
      have hjl : jl < 26 := by omega
      have hch : 97 ≤ 97 + jl ∧ 97 + jl ≤ 122 := by omega
      refine ⟨_, _, _, rfl, rfl, by decide +kernel, atI_nat (at_letters _ hjl), _, kd D1 _ hD hDp, ?_, ys ++ [97 + jl], ?_, ?_, ?_, ?_, ?_⟩
      · rw [List.length_map, List.length_map, hyl]
        have : sizeLine = 16777216 := rfl
        omega
      · intro d hd
        rcases List.mem_append.mp hd with hd | hd
        · exact hys d hd
        · have : d = 97 + jl := by simpa using hd
          omega
      · rw [List.length_append, hyl]
        rfl
      · rw [upd_same, List.map_append, List.map_append]
        rfl
      · exact (kc.trans kd).new hD1H
      · exact Pd.upd' hpD hcD
    · rintro Hj ⟨ys, hys, hyl, hD, kj, Pj⟩
      refine ⟨Str.empty, D1, ys.map fun c => (⟨#[c]⟩ : Str), rfl, rfl, .inl (SqL.of hD), ?_, ?_⟩
      · rw [sum_ones, List.length_map]
        show ys.length + ys.length * 0 ≤ 16777216
        omega
      have hb0 := join_ones ys
      generalize Txt.join Str.empty (ys.map fun c => (⟨#[c]⟩ : Str)) = b0 at hb0
      refine ⟨_, rfl, _, rfl, _, rfl, _, rfl, (by show 7 ≤ sizeLine; decide), fun l6 h6 => ?_⟩
      refine ⟨p, c, ns, n + 1 + q1, _, _, rfl, Pj.new h6, by omega, .inl ⟨l6, rfl, (Pj.pne h6).symm, upd_same⟩, by simp, (by show 7 ≤ 1000; decide), fun j6 v6 H2 hv6 k2 P2 => ?_⟩
      obtain ⟨b, rfl, hbl, hb6⟩ : ∃ b : Str, v6 = .str b ∧ Low (codes b) ∧ (codes b).length ≤ 6 := by
        have hm6 := List.mem_of_getElem? hv6
        have l0 : Low (codes b0) ∧ (codes b0).length ≤ 6 := by rw [hb0]; exact ⟨hys, by omega⟩
        simp only [List.mem_cons, List.not_mem_nil, or_false] at hm6
        rcases hm6 with rfl | rfl | rfl | rfl | rfl | rfl | rfl
        · exact ⟨_, rfl, l0⟩
        · exact ⟨_, rfl, l0⟩
        · exact ⟨_, rfl, l0⟩
        · exact ⟨_, rfl, by unfold Low; decide +kernel, by decide +kernel⟩
        · exact ⟨_, rfl, by unfold Low; decide +kernel, by decide +kernel⟩
        · exact ⟨_, rfl, by unfold Low; decide +kernel, by decide +kernel⟩
        · exact ⟨_, rfl, by unfold Low; decide +kernel, by decide +kernel⟩
      have k2' : Keep p H H2 := (kj.new (kj.fresh Pj h6)).trans k2
      refine ⟨_, rfl, _, rfl, _, rfl, (by rw [len_codes]; show _ ≤ 16777216; omega), _, _, rfl, rfl, p, c, ns, n + 1 + q1 + 1, _, rfl, P2, by omega, by omega, by rw [len_codes]; omega, fun vs H3 s0 s1 k3 P3 => ?_⟩
      obtain ⟨spot, rfl⟩ : ∃ j : Nat, vs = (j : Int) := ⟨vs.toNat, (Int.toNat_of_nonneg s0).symm⟩
      have hspot : spot ≤ (codes b).length := by rw [len_codes] at s1; omega
      have k3' := k2'.trans k3
      refine ⟨_, rfl, p, c, ns, n + 1 + q1 + 1 + 1, _, rfl, P3, by omega, by decide, by decide, fun vf H4 f0 f1 k4 P4 => ?_⟩
      obtain ⟨fst, rfl⟩ : ∃ j : Nat, vf = (j : Int) := ⟨vf.toNat, (Int.toNat_of_nonneg f0).symm⟩
      have k4' := k3'.trans k4
      refine ⟨_, rfl, p, c, ns, n + 1 + q1 + 1 + 1 + 1, 6, rfl, P4, by omega, by decide, by decide, fun vh H5 h0' h1' k5 P5 => ?_⟩
      obtain ⟨hp0, rfl⟩ : ∃ j : Nat, vh = (j : Int) := ⟨vh.toNat, (Int.toNat_of_nonneg h0').symm⟩
      have hp6 : hp0 < 6 := by omega
      refine ⟨_, _, rfl, rfl, .inl ⟨by decide, by decide⟩, _, _, rfl, rfl, ?_⟩
      obtain ⟨hop, ehop⟩ : ∃ hop : Nat, hop = 2 * hp0 + 1 := ⟨_, rfl⟩
      rw [show (fun i j : Int => V.int (i + j)) (2 * (hp0 : Int)) 1 = V.int (hop : Int) from congrArg V.int (by omega)]
      have hhop : hop ∈ [1, 3, 5, 7, 9, 11] := by
        rcases (by omega : hp0 = 0 ∨ hp0 = 1 ∨ hp0 = 2 ∨ hp0 = 3 ∨ hp0 = 4 ∨ hp0 = 5) with rfl | rfl | rfl | rfl | rfl | rfl <;> (rw [ehop]; decide)
      have k5' : Keep p H H5 := k4'.trans k5
      refine ⟨Nat.zero_le _, fun l hl => ?_⟩
      have hlH : H l = none := k5'.fresh P5 hl
      have hpl := P5.pne hl
      have hcl := P5.cne hl
      have hb11 : hop ≤ 11 := by omega
      refine ⟨_, rfl, _, rfl, by omega, by omega, for_range (lo := 0) (n := m) (fun i σ Hc => ∃ v5 v10 v11 : Option V, σ = [some (.ref p), some (.int m), some (.str (Str.ofString "abcdefghijklmnopqrstuvwxyz")), some (.int q1), some (.str b), v5, some (.int spot), some (.int fst), some (.int hop), some (.ref l), v10, v11] ∧
        Hc l = some (.lst ((finalsX (codes b) spot fst hop i).map V.str)) ∧ Keep p H Hc ∧ Pen Hc p c ns (n + 12)) ?_ ?_ ?_⟩
      · refine ⟨_, _, _, rfl, upd_same, k5'.new hlH, (P5.new hl).mono (by omega)⟩
      · rintro i σ Hc hi ⟨v5, v10, v11, rfl, hL, kc, Pc⟩
        have eN : ((fst : Int) + (hop : Int) * (0 + (i : Int))).fmod 26 = (((fst + hop * i) % 26 : Nat) : Int) := by
          rw [Int.zero_add, Int.fmod_eq_emod_of_nonneg _ (by decide)]
          have : ((fst : Int) + (hop : Int) * (i : Int)) = ((fst + hop * i : Nat) : Int) := by
            rw [Int.natCast_add, Int.natCast_mul]
          rw [this]
          rfl
        have hlt : (fst + hop * i) % 26 < 26 := Nat.mod_lt _ (by decide)
        refine ⟨_, rfl, _, rfl, _, rfl, _, rfl, _, _, rfl, rfl, .inl ⟨by omega, by omega⟩, _, _, rfl, rfl, .inl ⟨_, rfl, _, _, rfl, rfl, (by show (26 : Int) ≠ 0; decide), _, _, _, rfl, rfl, by decide +kernel, (by rw [eN]; exact atI_nat (at_letters _ hlt)), ?_⟩⟩
        have lc1 := len_codes b
        refine ⟨_, rfl, _, rfl, _, rfl, _, rfl, ?_, _, rfl, _, _, rfl, rfl, ?_, _, rfl, _, rfl, _, rfl, _, rfl, ?_, _, _, rfl, rfl, ?_, ?_⟩
        · rw [lc1]; show _ ≤ 16777216; omega
        · rw [len_codes (cutS b none (some (spot : Int))), cut_to hspot, List.length_take]; show _ + 1 ≤ 16777216; omega
        · rw [lc1]; show _ ≤ 16777216; omega
        · rw [len_codes (cutS b none (some (spot : Int)) ++ _), codes_append, cut_to hspot, len_codes (cutS b _ none), cut_from hspot, List.length_append, List.length_take, List.length_drop]
          show _ + 1 + _ ≤ 16777216
          omega
        have hW : codes (cutS b none (some (spot : Int)) ++ (⟨#[97 + (fst + hop * i) % 26]⟩ : Str) ++ cutS b (some (spot : Int)) none) = wordAt (codes b) spot (signAt fst hop i) := by
          rw [codes_append, codes_append, cut_to hspot, cut_from hspot]
          rfl
        generalize cutS b none (some (spot : Int)) ++ (⟨#[97 + (fst + hop * i) % 26]⟩ : Str) ++ cutS b (some (spot : Int)) none = W at hW ⊢
        have fsz : (finalsX (codes b) spot fst hop i).length = i := by simp [finalsX]
        have lW : W.length = (codes b).length + 1 := by rw [len_codes, hW, len_wordAt]
        refine ⟨_, rfl, .inl ⟨rfl, _, SqL.of hL⟩, _, rfl, _, rfl, rfl, fun lb hlb => ⟨lb, _, rfl, .inl (SqL.of upd_same), rfl, flat_strs _, .inr ⟨_, rfl, _, _, rfl, rfl, ?_, ?_, by decide +kernel, ?_⟩⟩⟩
        · exact (if01 _).1
        · exact (if01 _).2
        have hz : (if (if false = true then !inV (V.str W) (barred.map V.str) else inV (V.str W) (barred.map V.str)) = true then (1 : Int) else 0) = (if W ∈ barred then 1 else 0) := by
          rw [if_neg Bool.false_ne_true, inV_strs]
          by_cases hb : W ∈ barred
          · rw [if_pos hb, if_pos (by simpa using hb)]
          · rw [if_neg hb, if_neg (by simpa using hb)]
        have hlbH : H lb = none := kc.fresh Pc hlb
        have hll : l ≠ lb := ne_of_none hL hlb
        have hL2 : (upd Hc lb (.lst (barred.map V.str))) l = some (.lst ((finalsX (codes b) spot fst hop i).map V.str)) := by rw [upd_ne hll]; exact hL
        have kc2 : Keep p H (upd Hc lb (.lst (barred.map V.str))) := kc.new hlbH
        have Pc2 := Pc.new (o := .lst (barred.map V.str)) hlb
        have hxl : (Txt.mul (Str.ofString "x") (if W ∈ barred then 1 else 0)).length ≤ 1 := by
          by_cases hb : W ∈ barred
          · rw [if_pos hb]; decide +kernel
          · rw [if_neg hb]; decide +kernel
        refine ⟨_, _, rfl, rfl, ?_, l, _, _, rfl, rfl, hL2, ?_, ?_⟩
        · rw [hz]
          show _ ≤ 16777216
          omega
        · rw [List.length_map, fsz]; show _ < 16777216; omega
        rw [hz, fin_x hW]
        refine ⟨_, _, _, rfl, ?_, kc2.new hlH, Pc2.upd' hpl hcl⟩
        rw [upd_same, finalsX_succ, List.map_append]
        rfl
      · rintro σ Hc ⟨v5, v10, v11, rfl, hL, kc, Pc⟩
        exact ⟨_, rfl, k l _ Hc (words_finalsX hbl hb6 hhop hm spot fst) (by simp [finalsX]) hL kc Pc⟩
end
end K2
end
section
set_option autoImplicit true
set_option linter.all false
namespace K2
open PySem L2
theorem mem_mergeU {m us : List Str} {u : Str} : u ∈ mergeU m us ↔ u ∈ m ∨ u ∈ us := by
  unfold mergeU
  rw [List.mem_append, List.mem_filter]
  constructor
  · rintro (h | ⟨h, _⟩)
    · exact .inl h
    · exact .inr h
  · rintro (h | h)
    · exact .inl h
    · by_cases q : u ∈ m
      · exact .inl q
      · exact .inr ⟨h, by simpa using q⟩
theorem mem_lineL {t : Tb} {u : Str} : ∀ (bs m : List Str), u ∈ lineL t m bs ↔ u ∈ m ∨ ∃ b ∈ bs, u ∈ look t b
  | [], m => by simp [lineL]
  | b :: bs, m => by
    show u ∈ lineL t (mergeU m (look t b)) bs ↔ _
    rw [mem_lineL bs, mem_mergeU]
    constructor
    · rintro ((h | h) | ⟨c, hc, h⟩)
      · exact .inl h
      · exact .inr ⟨b, List.mem_cons_self, h⟩
      · exact .inr ⟨c, List.mem_cons_of_mem _ hc, h⟩
    · rintro (h | ⟨c, hc, h⟩)
      · exact .inl (.inl h)
      · rcases List.mem_cons.mp hc with rfl | hc
        · exact .inl (.inr h)
        · exact .inr ⟨c, hc, h⟩
theorem look_app {t e : Tb} {x : Str} (h : x ∈ keys t) : look (t ++ e) x = look t x := by
  induction t with
  | nil => simp [keys] at h
  | cons p t ih =>
    obtain ⟨k, us⟩ := p
    show (if k = x then us else look (t ++ e) x) = (if k = x then us else look t x)
    by_cases q : k = x
    · rw [if_pos q, if_pos q]
    · rw [if_neg q, if_neg q]
      refine ih ?_
      unfold keys at h ⊢
      rcases List.mem_cons.mp h with r | r
      · exact absurd r.symm q
      · exact r
theorem look_new {t : Tb} {x : Str} {us : List Str} (h : x ∉ keys t) : look (t ++ [(x, us)]) x = us := by
  induction t with
  | nil => simp [look]
  | cons p t ih =>
    obtain ⟨k, vs⟩ := p
    have q : ¬ k = x := fun e => h (by rw [e]; simp [keys])
    show (if k = x then vs else look (t ++ [(x, us)]) x) = us
    rw [if_neg q]
    exact ih fun m => h (by unfold keys at m ⊢; exact List.mem_cons_of_mem _ m)
def Tra (t : Tb) : Prop := ∀ x ∈ keys t, ∀ y ∈ look t x, ∀ z ∈ look t y, z ∈ look t x
theorem tra_t0 : Tra t0 := by
  intro x hx y hy z hz
  have e1 : look t0 sErr = [sErr] := by decide +kernel
  have e2 : look t0 sVac = [sVac, sErr] := by decide +kernel
  have hx : x = sErr ∨ x = sVac := by simpa [keys, t0] using hx
  rcases hx with rfl | rfl
  · rw [e1] at hy
    have : y = sErr := by simpa using hy
    subst this
    rwa [e1] at hz ⊢
  · rw [e2] at hy
    have : y = sVac ∨ y = sErr := by simpa using hy
    rcases this with rfl | rfl
    · exact hz
    · rw [e1] at hz
      have : z = sErr := by simpa using hz
      subst this
      rw [e2]
      simp
theorem tra_step {t : Tb} (T : TOk t) (h : Tra t) {r : Row} (R : RowOk (keys t) r) : Tra (stepT t r) := by
  have new : look (stepT t r) r.1 = lineOf t r := look_new R.new
  have old : ∀ y ∈ keys t, look (stepT t r) y = look t y := fun y hy => look_app hy
  intro x hx y hy z hz
  have hx : x ∈ keys t ∨ x = r.1 := by simpa [keys, stepT] using hx
  rcases hx with hx | rfl
  · rw [old x hx] at hy ⊢
    rw [old y ((T.line hx).2.2.2 y hy)] at hz
    exact h x hx y hy z hz
  · rw [new] at hy ⊢
    unfold lineOf at hy ⊢
    rcases (mem_lineL r.2 [r.1]).mp hy with q | ⟨b, hb, q⟩
    · have : y = r.1 := by simpa using q
      subst this
      rw [new] at hz
      exact hz
    · have hbk := R.sub b hb
      rw [old y ((T.line hbk).2.2.2 y q)] at hz
      exact (mem_lineL r.2 [r.1]).mpr (.inr ⟨b, hb, h b hbk y q z hz⟩)
theorem tra_ups {rs : List Row} (g : Good rs) : ∀ i, i ≤ rs.length → Tra (ups (rs.take i))
  | 0, _ => by simpa [ups] using tra_t0
  | i + 1, h => by
    have hi : rs[i]? = some rs[i] := List.getElem?_eq_getElem (by omega)
    rw [ups_succ hi]
    refine tra_step (tok_ups g i (by omega)) (tra_ups g i (by omega)) ?_
    rw [keys_ups_take]
    exact g i _ hi
theorem foldl_pre : ∀ (rs : List Row) (t : Tb), ∃ e, rs.foldl stepT t = t ++ e
  | [], t => ⟨[], by simp⟩
  | r :: rs, t => by
    obtain ⟨e, he⟩ := foldl_pre rs (stepT t r)
    refine ⟨[(r.1, lineOf t r)] ++ e, ?_⟩
    show rs.foldl stepT (stepT t r) = _
    rw [he]
    unfold stepT
    rw [List.append_assoc]
theorem ups_pre (rs qs : List Row) : ∃ e, ups (rs ++ qs) = ups rs ++ e := by
  unfold ups
  rw [List.foldl_append]
  exact foldl_pre qs _
theorem good_take {rs : List Row} (g : Good rs) (m : Nat) : Good (rs.take m) := by
  intro i r h
  have hi : i < (rs.take m).length := (List.getElem?_eq_some_iff.mp h).1
  rw [List.length_take] at hi
  rw [List.getElem?_take, if_pos (by omega)] at h
  have := g i r h
  unfold knownAt at this ⊢
  rwa [List.take_take, Nat.min_eq_left (by omega)]
/-! ### what one more name sees -/
/-- the classes of t0 around x -/
def around (t0 t : Tb) (x : Str) : List Str := (keys t0).filter fun y => decide (y ∈ look t x)
structure Two (t0 t : Tb) : Prop where
  T0 : TOk t0
  T : TOk t
  tr : Tra t
  pre : ∃ e, t = t0 ++ e
theorem Two.old {t0 t : Tb} (W : Two t0 t) {y : Str} (h : y ∈ keys t0) : look t y = look t0 y := by
  obtain ⟨e, rfl⟩ := W.pre
  exact look_app h
theorem Two.sub {t0 t : Tb} (W : Two t0 t) {y : Str} (h : y ∈ keys t0) : y ∈ keys t := by
  obtain ⟨e, rfl⟩ := W.pre
  unfold keys at h ⊢
  rw [List.map_append]
  exact List.mem_append_left _ h
theorem mem_around {t0 t : Tb} {x y : Str} : y ∈ around t0 t x ↔ y ∈ keys t0 ∧ y ∈ look t x := by
  unfold around
  rw [List.mem_filter, decide_eq_true_iff]
theorem two_of {rs qs : List Row} (g : Good (rs ++ qs)) : Two (ups rs) (ups (rs ++ qs)) := by
  have g0 : Good rs := by
    have := good_take g rs.length
    rwa [List.take_left'] at this
    rfl
  have a := tok_ups g0 rs.length (Nat.le_refl _)
  have b := tok_ups g (rs ++ qs).length (Nat.le_refl _)
  have c := tra_ups g (rs ++ qs).length (Nat.le_refl _)
  rw [List.take_length] at a b c
  exact ⟨a, b, c, ups_pre rs qs⟩
end K2
end
section
set_option Elab.async false
set_option maxRecDepth 100000
set_option linter.all false
/-! classes drawn, and what is within what by a walk -/
namespace K2
open PySem L2 PySem.Spec PyProof.Rows
/-! ### lists and tuples beside empty ones -/
section
variable {X : Cx}
/-- xs != [] of any list -/
def rNeL0 (K : PySem.W.Frag) : R2 := fun x y H Q => ∃ a b xs, x = .ref a ∧ y = .ref b ∧ SqL K H a xs ∧ SqL K H b [] ∧ Q (.bl (!xs.isEmpty)) H
def rEqL0 (K : PySem.W.Frag) : R2 := fun x y H Q => ∃ a b xs, x = .ref a ∧ y = .ref b ∧ SqL K H a xs ∧ SqL K H b [] ∧ Q (.bl xs.isEmpty) H
/-- t != () of any tuple -/
def rNeT0 (K : PySem.W.Frag) : R2 := fun x y H Q => ∃ a b xs, x = .ref a ∧ y = .ref b ∧ SqT K H a xs ∧ SqT K H b [] ∧ Q (.bl (!xs.isEmpty)) H
theorem op_neL0 (hu : X.A.units < cLine) : OpR X (compareOp .NotEq) (rNeL0 X.K) := by
  intro pins s σ H x y v u Q I rx ry h
  obtain ⟨a, b, xs, rfl, rfl, ha, hb, q⟩ := h
  cases rx
  cases ry
  obtain ⟨as, ra, la, _⟩ := I.list ha
  obtain ⟨bs, rb, lb, _⟩ := I.list hb
  cases rb
  have fin : EP X pins σ Q (.bool (!xs.isEmpty)) s := ⟨.bl _, H, I, rfl, q⟩
  show wpAny (model X.prog X.w) X.A (richCompare .NotEq (.ref a) (.ref b)) (EP X pins σ Q) X.xe s
  cases ra with
  | nil => exact SeqAt.RcNeAt.lists (e := fun _ => true) la.isList lb.isList rfl hu (fun j h1 h2 => absurd h1 (Nat.not_lt_zero j)) _ _ _ _ fin
  | cons r t => exact SeqAt.RcNeAt.lists_lengths la.isList lb.isList (by simp) hu _ _ _ _ fin
theorem op_eqL0 (hu : X.A.units < cLine) : OpR X (compareOp .Eq) (rEqL0 X.K) := by
  intro pins s σ H x y v u Q I rx ry h
  obtain ⟨a, b, xs, rfl, rfl, ha, hb, q⟩ := h
  cases rx
  cases ry
  obtain ⟨as, ra, la, _⟩ := I.list ha
  obtain ⟨bs, rb, lb, _⟩ := I.list hb
  cases rb
  have fin : EP X pins σ Q (.bool xs.isEmpty) s := ⟨.bl _, H, I, rfl, q⟩
  show wpAny (model X.prog X.w) X.A (richCompare .Eq (.ref a) (.ref b)) (EP X pins σ Q) X.xe s
  cases ra with
  | nil => exact SeqAt.RcAt.lists (e := fun _ => true) la.isList lb.isList rfl hu (fun j h1 h2 => absurd h1 (Nat.not_lt_zero j)) _ _ _ _ fin
  | cons r t => exact SeqAt.RcAt.lists_lengths la.isList lb.isList (by simp) hu _ _ _ _ fin
end

theorem u0_of {A : Around} {k : Nat} (hr : Room k A) : A.units < cLine := Nat.lt_of_succ_lt (hu_of hr)
abbrev sSo : Stmt := top 25
abbrev sKl : Stmt := top 26
abbrev sWi : Stmt := top 27
abbrev nSo : List Str := ["_law_pen_here", "_law_names", "_law_one", "_law_two"]
abbrev nKl : List Str := ["_law_pen_here", "_law_most", "_law_rows", "_law_names", "_law_word"]
abbrev nWi : List Str := ["_law_rows", "_law_one", "_law_other", "_law_waiting", "_law_met", "_law_word", "_law_row"]
/-! the mathematics -/
theorem look_err (rs : List Row) : look (ups rs) sErr = [sErr] := by
  obtain ⟨e, h⟩ := foldl_pre rs t0
  unfold ups
  rw [h, look_app (by decide +kernel)]
  decide +kernel
theorem look_vac (rs : List Row) : look (ups rs) sVac = [sVac, sErr] := by
  obtain ⟨e, h⟩ := foldl_pre rs t0
  unfold ups
  rw [h, look_app (by decide +kernel)]
  decide +kernel
theorem look_row {rs : List Row} (g : Good rs) {i : Nat} {r : Row} (h : rs[i]? = some r) {y : Str} : y ∈ look (ups rs) r.1 ↔ y = r.1 ∨ ∃ b ∈ r.2, y ∈ look (ups rs) b := by
  have R := g i r h
  rw [← keys_ups_take] at R
  have e1 : ∃ e, ups rs = ups (rs.take (i + 1)) ++ e := by
    have := ups_pre (rs.take (i + 1)) (rs.drop (i + 1))
    rwa [List.take_append_drop] at this
  have e2 : ∃ e, ups rs = ups (rs.take i) ++ e := by
    have := ups_pre (rs.take i) (rs.drop i)
    rwa [List.take_append_drop] at this
  obtain ⟨e, he⟩ := e1
  obtain ⟨e', he'⟩ := e2
  have lb : ∀ b ∈ r.2, look (ups rs) b = look (ups (rs.take i)) b := fun b hb => by rw [he', look_app (R.sub b hb)]
  have l1 : look (ups rs) r.1 = lineOf (ups (rs.take i)) r := by
    rw [he, ups_succ h]
    unfold stepT
    rw [look_app (by unfold keys; simp), look_new R.new]
  rw [l1]
  unfold lineOf
  rw [mem_lineL, List.mem_singleton]
  constructor
  · rintro (q | ⟨b, hb, q⟩)
    · exact .inl q
    · exact .inr ⟨b, hb, by rw [lb b hb]; exact q⟩
  · rintro (q | ⟨b, hb, q⟩)
    · exact .inl q
    · exact .inr ⟨b, hb, by rw [← lb b hb]; exact q⟩
theorem walk_done {rs : List Row} (g : Good rs) {met : List Str} (he : sErr ∈ met) (hcl : ∀ r ∈ rs, r.1 ∈ met → ∀ b ∈ r.2, b ∈ met) : ∀ i, i ≤ rs.length → ∀ x ∈ keys (ups (rs.take i)), x ∈ met → ∀ y ∈ look (ups rs) x, y ∈ met
  | 0, _, x, hx, hm, y, hy => by
    rw [keys_ups_take] at hx
    have hx : x ∈ base0 := by simpa [knownAt] using hx
    unfold base0 at hx
    rcases List.mem_cons.mp hx with rfl | hx
    · rw [look_err] at hy
      rw [List.mem_singleton.mp hy]; exact he
    · obtain rfl : x = sVac := by simpa using hx
      rw [look_vac] at hy
      rcases List.mem_cons.mp hy with rfl | hy
      · exact hm
      · rw [List.mem_singleton.mp hy]; exact he
  | i + 1, h, x, hx, hm, y, hy => by
    have hi : rs[i]? = some rs[i] := List.getElem?_eq_getElem (by omega)
    rw [keys_ups_take, knownAt_succ hi, ← keys_ups_take] at hx
    rcases List.mem_append.mp hx with hx | hx
    · exact walk_done g he hcl i (by omega) x hx hm y hy
    · obtain rfl : x = rs[i].1 := by simpa using hx
      rcases (look_row g hi).mp hy with rfl | ⟨b, hb, hy⟩
      · exact hm
      · have R := g i _ hi
        rw [← keys_ups_take] at R
        exact walk_done g he hcl i (by omega) b (R.sub b hb) (hcl _ (List.getElem_mem _) hm b hb) y hy
def adds (rs : List Row) (w : Str) : List Str := (rs.filter fun r => decide (r.1 = w)).flatMap (·.2)
theorem adds_mem {rs : List Row} {w b : Str} : b ∈ adds rs w ↔ ∃ r ∈ rs, r.1 = w ∧ b ∈ r.2 := by
  unfold adds
  rw [List.mem_flatMap]
  constructor
  · rintro ⟨r, hr, hb⟩
    obtain ⟨h1, h2⟩ := List.mem_filter.mp hr
    exact ⟨r, h1, of_decide_eq_true h2, hb⟩
  · rintro ⟨r, h1, h2, hb⟩
    exact ⟨r, List.mem_filter.mpr ⟨h1, decide_eq_true h2⟩, hb⟩
theorem adds_len {rs : List Row} {w : Str} (h : ∀ r ∈ rs, r.2.length ≤ 2) : (adds rs w).length ≤ 2 * rs.length := by
  induction rs with
  | nil => exact Nat.le_refl _
  | cons r rs ih =>
    have i2 := ih fun q hq => h q (List.mem_cons_of_mem _ hq)
    have h1 := h r List.mem_cons_self
    unfold adds at i2 ⊢
    by_cases e : r.1 = w
    · rw [List.filter_cons_of_pos (by simpa using e), List.flatMap_cons, List.length_append, List.length_cons]
      omega
    · rw [List.filter_cons_of_neg (by simpa using e), List.length_cons]
      omega
theorem adds_snoc {rs : List Row} {w : Str} {i : Nat} {r : Row} (h : rs[i]? = some r) : adds (rs.take (i + 1)) w = adds (rs.take i) w ++ (if r.1 = w then r.2 else []) := by
  unfold adds
  rw [List.take_add_one, h, List.filter_append, List.flatMap_append]
  congr 1
  by_cases e : r.1 = w
  · rw [if_pos e]
    simp [e]
  · rw [if_neg e]
    simp [e]
def cnt (ks met : List Str) : Nat := (ks.filter fun k => decide (k ∉ met)).length
theorem cnt_le (ks met : List Str) (w : Str) : cnt ks (met ++ [w]) ≤ cnt ks met := by
  induction ks with
  | nil => exact Nat.le_refl _
  | cons k ks ih =>
    unfold cnt at ih ⊢
    rw [List.filter_cons, List.filter_cons]
    by_cases h1 : k ∈ met
    · have h2 : k ∈ met ++ [w] := List.mem_append_left _ h1
      simp only [h1, h2, not_true, decide_false, Bool.false_eq_true, if_false]
      exact ih
    · by_cases h2 : k ∈ met ++ [w]
      · simp only [h1, h2, not_true, not_false_eq_true, decide_false, decide_true, Bool.false_eq_true, if_false, if_true, List.length_cons]
        omega
      · simp only [h1, h2, not_false_eq_true, decide_true, if_true, List.length_cons]
        omega
theorem cnt_lt {ks met : List Str} {w : Str} (hk : w ∈ ks) (hm : w ∉ met) : cnt ks (met ++ [w]) < cnt ks met := by
  induction ks with
  | nil => cases hk
  | cons k ks ih =>
    have le := cnt_le ks met w
    unfold cnt at ih le ⊢
    rw [List.filter_cons, List.filter_cons]
    by_cases e : k = w
    · subst e
      have h2 : k ∈ met ++ [k] := by simp
      simp only [hm, h2, not_true, not_false_eq_true, decide_false, decide_true, Bool.false_eq_true, if_false, if_true, List.length_cons]
      omega
    · have hk2 : w ∈ ks := by
        rcases List.mem_cons.mp hk with q | q
        · exact absurd q.symm e
        · exact q
      have := ih hk2
      by_cases h1 : k ∈ met
      · have h2 : k ∈ met ++ [w] := List.mem_append_left _ h1
        simp only [h1, h2, not_true, decide_false, Bool.false_eq_true, if_false]
        exact this
      · have h2 : k ∉ met ++ [w] := fun q => by
          rcases List.mem_append.mp q with q | q
          · exact h1 q
          · exact e (by simpa using q)
        simp only [h1, h2, not_false_eq_true, decide_true, if_true, List.length_cons]
        omega
/-- one turn of the walk -/
structure Wlk (rs : List Row) (one : Str) (wait met : List Str) : Prop where
  m1 : ∀ x ∈ met, x ∈ look (ups rs) one
  w1 : ∀ x ∈ wait, x ∈ look (ups rs) one
  cl : ∀ r ∈ rs, r.1 ∈ met → ∀ b ∈ r.2, b ∈ met ∨ b ∈ wait
  st : one ∈ met ∨ one ∈ wait
  er : sErr ∈ met
  nd : met.Nodup
theorem Wlk.skip {rs : List Row} {one w : Str} {wait met : List Str} (h : Wlk rs one (wait ++ [w]) met) (hw : w ∈ met) : Wlk rs one wait met := by
  refine ⟨h.m1, fun x hx => h.w1 x (List.mem_append_left _ hx), fun r hr hm b hb => ?_, ?_, h.er, h.nd⟩
  · rcases h.cl r hr hm b hb with q | q
    · exact .inl q
    · rcases List.mem_append.mp q with q | q
      · exact .inr q
      · rw [List.mem_singleton.mp q]; exact .inl hw
  · rcases h.st with q | q
    · exact .inl q
    · rcases List.mem_append.mp q with q | q
      · exact .inr q
      · rw [List.mem_singleton.mp q]; exact .inl hw
theorem Wlk.take {rs : List Row} {one w : Str} {wait met : List Str} (g : Good rs) (h1 : one ∈ keys (ups rs)) (h : Wlk rs one (wait ++ [w]) met) (hw : w ∉ met) : Wlk rs one (wait ++ adds rs w) (met ++ [w]) := by
  have T := tra_ups g rs.length (Nat.le_refl _)
  have TK := tok_ups g rs.length (Nat.le_refl _)
  rw [List.take_length] at T TK
  have hwl := h.w1 w (by simp)
  have hwk := (TK.line h1).2.2.2 w hwl
  refine ⟨fun x hx => ?_, fun x hx => ?_, fun r hr hm b hb => ?_, ?_, List.mem_append_left _ h.er, ?_⟩
  · rcases List.mem_append.mp hx with hx | hx
    · exact h.m1 x hx
    · rw [List.mem_singleton.mp hx]; exact hwl
  · rcases List.mem_append.mp hx with hx | hx
    · exact h.w1 x (List.mem_append_left _ hx)
    · obtain ⟨r, hr, e, hb⟩ := adds_mem.mp hx
      obtain ⟨i, hi⟩ := List.getElem?_of_mem hr
      refine T one h1 w hwl x ?_
      rw [← e]
      refine (look_row g hi).mpr (.inr ⟨x, hb, ?_⟩)
      have hxk : x ∈ keys (ups rs) := by
        have R := g i r hi
        have := R.sub x hb
        rw [keys_ups]
        unfold knownAt at this
        rcases List.mem_append.mp this with q | q
        · exact List.mem_append_left _ q
        · refine List.mem_append_right _ ?_
          obtain ⟨r', hr', e'⟩ := List.mem_map.mp q
          exact List.mem_map.mpr ⟨r', List.mem_of_mem_take hr', e'⟩
      exact (TK.line hxk).2.1
  · rcases List.mem_append.mp hm with hm | hm
    · rcases h.cl r hr hm b hb with q | q
      · exact .inl (List.mem_append_left _ q)
      · rcases List.mem_append.mp q with q | q
        · exact .inr (List.mem_append_left _ q)
        · exact .inl (List.mem_append_right _ q)
    · exact .inr (List.mem_append_right _ (adds_mem.mpr ⟨r, hr, List.mem_singleton.mp hm, hb⟩))
  · rcases h.st with q | q
    · exact .inl (List.mem_append_left _ q)
    · rcases List.mem_append.mp q with q | q
      · exact .inr (List.mem_append_left _ q)
      · exact .inl (List.mem_append_right _ q)
  · refine List.nodup_append.mpr ⟨h.nd, by simp, fun a ha b hb e => ?_⟩
    rw [List.mem_singleton.mp hb] at e
    exact hw (e ▸ ha)
theorem Wlk.fin {rs : List Row} {one : Str} {met : List Str} (g : Good rs) (h1 : one ∈ keys (ups rs)) (h : Wlk rs one [] met) (y : Str) : decide (y ∈ met) = decide (y ∈ look (ups rs) one) := by
  have hm : one ∈ met := h.st.resolve_right (by simp)
  have := walk_done g h.er (fun r hr q b hb => (h.cl r hr q b hb).resolve_right (by simp)) rs.length (Nat.le_refl _) one (by rw [List.take_length]; exact h1) hm
  exact decide_eq_decide.mpr ⟨h.m1 y, this y⟩
def spSo : Sp := fun vs H Q _ => ∃ (p c nl : Addr) (ns : List Int) (n : Nat) (names : List Str), vs = [.ref p, .ref nl] ∧ Pen H p c ns n ∧ n + 10 ≤ 100000 ∧ H nl = some (.lst (names.map V.str)) ∧ names ≠ [] ∧ names.length ≤ 1000 ∧
  ∀ (a : Addr) (ws : List Str) (H' : Hp), H' a = some (.tup (ws.map V.str)) → (∀ y ∈ ws, y ∈ names) → ws.Nodup → 1 ≤ ws.length → ws.length ≤ 2 → Keep p H H' → Pen H' p c ns (n + 3) → Q (.ref a) H'
def spKl : Sp := fun vs H Q _ => ∃ (p c : Addr) (ns : List Int) (n m : Nat), vs = [.ref p, .int (m : Nat)] ∧ Pen H p c ns n ∧ n + 200 ≤ 100000 ∧ m ≤ 20 ∧
  ∀ (a rl nl : Addr) (ts : List Addr) (rs : List Row) (H' : Hp), H' a = some (.tup [.ref rl, .ref nl]) → H' rl = some (.lst (ts.map V.ref)) → RowsAt H' ts rs → Good rs → rs.length ≤ m → (∀ r ∈ rs, r.2.length ≤ 2) → H' nl = some (.lst ((base0 ++ rs.map (·.1)).map V.str)) → Keep p H H' → Pen H' p c ns (n + 100) → Q (.ref a) H'
def spWi : Sp := fun vs H Q _ => ∃ (rl : Addr) (ts : List Addr) (rs : List Row) (one other : Str), vs = [.ref rl, .str one, .str other] ∧ H rl = some (.lst (ts.map V.ref)) ∧ RowsAt H ts rs ∧ Good rs ∧ rs.length ≤ 20 ∧ (∀ r ∈ rs, r.2.length ≤ 2) ∧ one ∈ keys (ups rs) ∧
  ∀ H', Same H H' → Q (.bl (decide (other ∈ look (ups rs) one))) H'
section
variable {P : Program} {w : World} {K : PySem.W.Frag} {mg : Str → Option Value} {base : Heap}
theorem scSo : FnScope nSo ["_law_pen_here", "_law_names"] (defScope sSo) := ⟨rfl, rfl, rfl, by decide +kernel, rfl, by decide +kernel, by decide +kernel⟩
theorem scKl : FnScope nKl ["_law_pen_here", "_law_most"] (defScope sKl) := ⟨rfl, rfl, rfl, by decide +kernel, rfl, by decide +kernel, by decide +kernel⟩
theorem scWi : FnScope nWi ["_law_rows", "_law_one", "_law_other"] (defScope sWi) := ⟨rfl, rfl, rfl, by decide +kernel, rfl, by decide +kernel, by decide +kernel⟩
theorem ok_so {f fD fP : Addr} {fd fdD fdP : FuncData} (F : Fun K "_law_some" "_law_some" sSo f fd) (D : Df K mg "_law_draw" sDraw fD fdD ["_law_pen_here", "_law_many"]) (GD : FnOk P w K mg base CX0 1 fD fdD ["_law_pen_here", "_law_many"] spDraw)
    (PK : Df K mg "_law_pick" sPick fP fdP ["_law_pen_here", "_law_some_here"]) (GP : FnOk P w K mg base CX0 2 fP fdP ["_law_pen_here", "_law_some_here"] spPick) : FnOk P w K mg base CX0 3 f fd ["_law_pen_here", "_law_names"] spSo := by
  refine F.ok scSo (fun vs H Q E h => ?_) (fun cdv A outer s H vs Q E hr h => ?_)
  · obtain ⟨p, c, nl, ns, n, names, rfl, _⟩ := h
    rfl
  · obtain ⟨p, c, nl, ns, n, names, rfl, P0, hn, hnl, hne, hle, k⟩ := h
    have hr1 : Room 1 _ := hr.mono (by decide)
    have hr2 : Room 2 _ := hr
    refine ⟨_, (pss_cons (ps_par (i := 2) (j := 3) (by rfl) scSo.nd rfl rfl (by decide) rfl rfl (pa_cons (pe_call GP hr2 (by rfl) PK.m PK.F.kp PK.b .nil pass0 (pa_cons (pv 0) (pa_cons (pv 1) pa_nil))) (pa_cons (pe_call GP hr2 (by rfl) PK.m PK.F.kp PK.b .nil pass0 (pa_cons (pv 0) (pa_cons (pv 1) pa_nil))) pa_nil)) (by rfl))
      (pss_one (ps_ret (pe_ifExp (PW.pt (pw_or (pt_cmpR op_eq (pv 2) (pv 3) (nomark _)) (pw_or1 (pt_cmpR op_eq (pe_call GD hr1 (by rfl) D.m D.F.kp D.b .nil pass0 (pa_cons (pv 0) (pa_cons pe_int pa_nil))) pe_int (nomark _))))) (pe_tup (pa_cons (pv 2) pa_nil)) (pe_tup (pa_cons (pv 2) (pa_cons (pv 3) pa_nil))))))), ?_⟩
    have ne : names.map V.str ≠ [] := fun e => hne (List.map_eq_nil_iff.mp e)
    have l9 : (names.map V.str).length ≤ 1000 := by rw [List.length_map]; exact hle
    have nlp := P0.lst_ne hnl
    refine ⟨_, rfl, _, rfl, p, c, ns, n, _, _, rfl, P0, by omega, .inl ⟨nl, rfl, nlp, hnl⟩, ne, l9, fun j1 v1 H1 h1 k1 P1 => ?_⟩
    have hnl1 := k1 _ _ hnl nlp
    refine ⟨_, rfl, _, rfl, p, c, ns, n + 1, _, _, rfl, P1, by omega, .inl ⟨nl, rfl, nlp, hnl1⟩, ne, l9, fun j2 v2 H2 h2 k2 P2 => ?_⟩
    have pick : ∀ {j : Nat} {v : V}, (names.map V.str)[j]? = some v → ∃ y, v = .str y ∧ y ∈ names := fun {j v} h => by
      obtain ⟨y, hy, rfl⟩ := List.mem_map.mp (List.mem_of_getElem? h)
      exact ⟨y, rfl, hy⟩
    obtain ⟨y1, rfl, o1⟩ := pick h1
    obtain ⟨y2, rfl, o2⟩ := pick h2
    have k12 := k1.trans k2
    have one : ∀ {H3 : Hp} {c0 : Nat}, Keep p H H3 → Pen H3 p c ns (n + 1 + 1 + c0) → c0 ≤ 1 → ∀ t, H3 t = none → Q (.ref t) (upd H3 t (.tup [.str y1])) := fun {H3 c0} k3 P3 hc t ht =>
      k t [y1] _ upd_same (fun z hz => by rw [List.mem_singleton.mp hz]; exact o1) (by simp) (Nat.le_refl _) (Nat.le_succ 1) (k3.new (k3.fresh P3 ht)) ((P3.new ht).mono (by omega))
    have two : y1 ≠ y2 → ∀ {H3 : Hp} {c0 : Nat}, Keep p H H3 → Pen H3 p c ns (n + 1 + 1 + c0) → c0 ≤ 1 → ∀ t, H3 t = none → Q (.ref t) (upd H3 t (.tup [.str y1, .str y2])) := fun ny {H3 c0} k3 P3 hc t ht =>
      k t [y1, y2] _ upd_same (fun z hz => by
        rcases List.mem_cons.mp hz with rfl | hz
        · exact o1
        · rw [List.mem_singleton.mp hz]; exact o2) (by simp [ny]) (Nat.le_succ 1) (Nat.le_refl _) (k3.new (k3.fresh P3 ht)) ((P3.new ht).mono (by omega))
    refine ⟨_, _, rfl, ?_⟩
    refine ⟨_, rfl, _, rfl, rfl, _, rfl, ite2 (fun z => ?_) (fun z => ?_)⟩
    · exact ⟨_, rfl, (by show 1 ≤ sizeLine; decide), fun t ht => one (c0 := 0) k12 P2 (by decide) t ht⟩
    · have ny : y1 ≠ y2 := fun e => z (decide_eq_true (by rw [e]))
      refine ⟨_, rfl, p, c, ns, n + 1 + 1, 2, rfl, P2, by omega, by decide, by decide, fun v3 H3 v30 v31 k3 P3 => ⟨rfl, _, rfl, ite2 (fun z => ?_) (fun z => ?_)⟩⟩
      · exact ⟨_, rfl, (by show 1 ≤ sizeLine; decide), fun t ht => one (c0 := 1) (k12.trans k3) P3 (by decide) t ht⟩
      · exact ⟨_, rfl, _, rfl, (by show 2 ≤ sizeLine; decide), fun t ht => two ny (c0 := 1) (k12.trans k3) P3 (by decide) t ht⟩
theorem ok_kl {f fD fW fS : Addr} {fd fdD fdW fdS : FuncData} (F : Fun K "_law_classes" "_law_classes" sKl f fd) (D : Df K mg "_law_draw" sDraw fD fdD ["_law_pen_here", "_law_many"]) (GD : FnOk P w K mg base CX0 1 fD fdD ["_law_pen_here", "_law_many"] spDraw)
    (WO : Df K mg "_law_words" sWords fW fdW ["_law_pen_here", "_law_many"]) (GW : FnOk P w K mg base CX0 3 fW fdW ["_law_pen_here", "_law_many"] spWordsX)
    (SO : Df K mg "_law_some" sSo fS fdS ["_law_pen_here", "_law_names"]) (GSo : FnOk P w K mg base CX0 3 fS fdS ["_law_pen_here", "_law_names"] spSo) : FnOk P w K mg base CX0 4 f fd ["_law_pen_here", "_law_most"] spKl := by
  refine F.ok scKl (fun vs H Q E h => ?_) (fun cdv A outer s H vs Q E hr h => ?_)
  · obtain ⟨p, c, ns, n, m, rfl, _⟩ := h
    rfl
  · obtain ⟨p, c, ns, n, m, rfl, P0, hn, hm, k⟩ := h
    have hr1 : Room 1 _ := hr.mono (by decide)
    have hr3 : Room 3 _ := hr
    refine ⟨_, (pss_cons (ps_set (i := 2) scKl.nd rfl (Or.inl rfl) (pe_lst pa_nil))
      (pss_cons (ps_set (i := 3) scKl.nd rfl (Or.inl rfl) (pe_lst (pa_cons pe_str (pa_cons pe_str pa_nil))))
      (pss_cons (ps_for PassesOwn.never rfl (pi_list (pe_call GW hr3 (by rfl) WO.m WO.F.kp WO.b .nil pass0 (pa_cons (pv 0) (pa_cons (pe_call GD hr1 (by rfl) D.m D.F.kp D.b .nil pass0 (pa_cons (pv 0) (pa_cons (pe_op op_add (pv 1) pe_int) pa_nil))) pa_nil)))) (pg_name (i := 4) scKl.nd rfl (Or.inl rfl))
      (pss_cons (ps_expr (pe_bm PySem.F.plainAttrs_list PySem.F.slot_list_append PySem.F.type_list_append mt_append (pv 2) (pa_cons (pe_op op_cat2 (pe_tup (pa_cons (pv 4) pa_nil)) (pe_call GSo hr3 (by rfl) SO.m SO.F.kp SO.b .nil pass0 (pa_cons (pv 0) (pa_cons (pv 3) pa_nil)))) pa_nil)))
        (pss_one (ps_expr (pe_bm PySem.F.plainAttrs_list PySem.F.slot_list_append PySem.F.type_list_append mt_append (pv 3) (pa_cons (pv 4) pa_nil))))))
      (pss_one (ps_ret (pe_tup (pa_cons (pv 2) (pa_cons (pv 3) pa_nil)))))))), ?_⟩
    refine ⟨Nat.zero_le _, fun fl hfl => ⟨(by show 2 ≤ sizeLine; decide), fun kn hkn => ?_⟩⟩
    have nkf : fl ≠ kn := fun e => by rw [← e, upd_same] at hkn; cases hkn
    have hkn0 : H kn = none := by rw [upd_ne nkf.symm] at hkn; exact hkn
    have pk := P0.pne hkn0
    have ck := P0.cne hkn0
    have pf := P0.pne hfl
    have cf := P0.cne hfl
    have kk : Keep p H (upd (upd H fl (.lst [])) kn (.lst [.str sErr, .str sVac])) := ((Keep.refl p H).new hfl).new hkn0
    have Pk : Pen (upd (upd H fl (.lst [])) kn (.lst [.str sErr, .str sVac])) p c ns n := (P0.new hfl).new hkn
    have ef : (upd (upd H fl (.lst [])) kn (.lst [.str sErr, .str sVac])) fl = some (.lst []) := by rw [upd_ne nkf]; exact upd_same
    have ek : (upd (upd H fl (.lst [])) kn (.lst [.str sErr, .str sVac])) kn = some (.lst ((base0).map V.str)) := upd_same
    refine ⟨_, rfl, _, rfl, _, rfl, _, _, rfl, rfl, p, c, ns, n, _, rfl, Pk, by omega, by omega, by omega, fun dv H1 d0 d1 k1 P1 => ?_⟩
    obtain ⟨q, rfl⟩ : ∃ j : Nat, dv = (j : Int) := ⟨dv.toNat, (Int.toNat_of_nonneg d0).symm⟩
    have hq : q ≤ m := by omega
    refine ⟨p, c, ns, n + 1, q, rfl, P1, by omega, by omega, fun y ws H2 hw hwl hy k2 P2 => ?_⟩
    have k02 := (kk.trans k1).trans k2
    have k12 := k1.trans k2
    have yp := P2.lst_ne hy
    have ef2 := k12 _ _ ef pf.symm
    have ek2 := k12 _ _ ek pk.symm
    have nyk : y ≠ kn := fun e => by
      rw [e, ek2] at hy
      have h1 := HO.lst.inj (Option.some.inj hy)
      cases ws with
      | nil => cases h1
      | cons x xs =>
        have h2 : sErr = x := V.str.inj (List.cons.inj h1).1
        exact hw.nb x List.mem_cons_self (h2 ▸ err_barred)
    have nyf : ws ≠ [] → y ≠ fl := fun hne e => by
      rw [e, ef2] at hy
      have h1 := HO.lst.inj (Option.some.inj hy)
      cases ws with
      | nil => exact hne rfl
      | cons x xs => cases h1
    refine ⟨y, rfl, ⟨_, SqL.of hy⟩, for_list (K := K) (a := y) (xs := ws.map V.str)
      (fun i σ Hc => ∃ (rs : List Row) (ts : List Addr) (v4 : Option V), σ = [some (.ref p), some (.int (m : Nat)), some (.ref fl), some (.ref kn), v4] ∧ Good rs ∧ rs.map (·.1) = ws.take i ∧ (∀ r ∈ rs, r.2.length ≤ 2) ∧ RowsAt Hc ts rs ∧ Hc y = some (.lst (ws.map V.str)) ∧ Hc kn = some (.lst ((base0 ++ ws.take i).map V.str)) ∧ Hc fl = some (.lst (ts.map V.ref)) ∧ Keep p H Hc ∧ Pen Hc p c ns (n + 13 + 3 * i)) ?_ ?_ ?_ ?_⟩
    · refine ⟨[], [], none, rfl, good_nil, rfl, by simp, rowsAt_nil _, hy, by rw [ek2]; rfl, ef2, k02, P2.mono (by omega)⟩
    · rintro i σ Hc hi ⟨rs, ts, v4, rfl, g, en, r2, R, hY, hK, hF, kc, Pc⟩
      exact SqL.of hY
    · rintro i x σ Hc hi ⟨rs, ts, v4, rfl, g, en, r2, R, hY, hK, hF, kc, Pc⟩
      have hil : i < ws.length := by
        have := (List.getElem?_eq_some_iff.mp hi).1
        rwa [List.length_map] at this
      have hwi : ws[i]? = some ws[i] := List.getElem?_eq_getElem hil
      rw [List.getElem?_map, hwi] at hi
      cases hi
      have hrl : rs.length = i := by
        have := congrArg List.length en
        rw [List.length_map, List.length_take] at this
        omega
      have hkl : (base0 ++ ws.take i).length = i + 2 := by
        simp [base0, List.length_take]
        omega
      have i26 : i < 20 := by omega
      have nyf := nyf (fun e => by rw [e] at hil; exact absurd hil (Nat.not_lt_zero _))
      refine ⟨_, rfl, .inl ⟨rfl, _, SqL.of hF⟩, _, rfl, (by show 1 ≤ sizeLine; decide), fun t1 ht1 => ?_⟩
      have s1 : Same Hc (upd Hc t1 (.tup [.str ws[i]])) := (Same.refl Hc).put ht1
      have e1 : (upd Hc t1 (.tup [.str ws[i]])) t1 = some (.tup [.str ws[i]]) := upd_same
      generalize upd Hc t1 (.tup [.str ws[i]]) = Hd at s1 e1 ⊢
      refine ⟨_, rfl, _, rfl, p, c, kn, ns, n + 13 + 3 * i, _, rfl, Pc.same s1, by omega, s1 _ _ hK, by simp [base0], by omega, fun a bs He ha bsub bnd b1 b2 ke Pe => ?_⟩
      have ht1e := ke _ _ e1 (Pc.same s1 |>.tup_ne e1)
      refine ⟨t1, a, _, _, rfl, rfl, ht1e, ha, (by rw [List.length_map]; show 1 + _ ≤ 16777216; omega), fun t Hg sg ht => ?_⟩
      have kcg := s1.keep.trans (ke.trans sg.keep)
      have hFg := kcg _ _ hF pf.symm
      have hKg := kcg _ _ hK pk.symm
      have hYg := kcg _ _ hY yp
      have Pg := Pe.same sg
      refine ⟨fl, _, _, rfl, rfl, hFg, (by rw [List.length_map, R.1, hrl]; show _ < 16777216; omega), ?_⟩
      refine ⟨_, rfl, .inl ⟨rfl, _, SqL.of (by rw [upd_ne nkf.symm]; exact hKg)⟩, _, rfl, kn, _, _, rfl, rfl, by rw [upd_ne nkf.symm]; exact hKg, (by rw [List.length_map, hkl]; show _ < 16777216; omega), ?_⟩
      have etk : ws.take (i + 1) = ws.take i ++ [ws[i]] := by rw [List.take_add_one, hwi]; rfl
      have hnew : ws[i] ∉ base0 ++ ws.take i := by
        intro hm
        rcases List.mem_append.mp hm with hm | hm
        · have := hw.nb ws[i] (List.getElem_mem _)
          unfold base0 at hm
          rcases List.mem_cons.mp hm with e | hm
          · rw [e] at this; exact this err_barred
          · have e : ws[i] = sVac := by simpa using hm
            rw [e] at this; exact this vac_barred
        · have := List.nodup_append.mp (etk ▸ hw.nd.sublist (List.take_sublist (i + 1) ws))
          exact this.2.2 _ hm _ (by simp) rfl
      have row1 : ∀ b r, Hg b = some (rowO r) → ∀ xs ys, (upd (upd Hg fl (.lst xs)) kn (.lst ys)) b = some (rowO r) := fun b r e xs ys => by
        have h1 : b ≠ fl := ne_of e hFg (by unfold rowO; intro z; cases z)
        have h2 : b ≠ kn := ne_of e hKg (by unfold rowO; intro z; cases z)
        rw [upd_ne h2, upd_ne h1]
        exact e
      have bne : bs ≠ [] := fun e => by rw [e] at b1; exact absurd b1 (by decide)
      refine ⟨rs ++ [(ws[i], bs)], ts ++ [t], _, rfl, good_snoc g (by rw [en]; exact ⟨hw.vw _ (List.getElem_mem _), hnew, bne, bnd, bsub⟩), by rw [List.map_append, en, etk]; rfl, ?_, ?_, ?_, ?_, ?_, ?_, ?_⟩
      · intro r hr
        rcases List.mem_append.mp hr with hr | hr
        · exact r2 r hr
        · rw [List.mem_singleton.mp hr]; exact b2
      · exact ((R.keep Pc kcg).mono fun b r e => row1 b r e _ _).snoc (row1 t (ws[i], bs) ht _ _)
      · rw [upd_ne nyk, upd_ne nyf]; exact hYg
      · rw [upd_same, etk, ← List.append_assoc, List.map_append (l₂ := [ws[i]])]
        rfl
      · rw [upd_ne nkf, upd_same, List.map_append]
        rfl
      · exact ((kc.trans kcg).new hfl).new hkn0
      · exact ((Pg.upd' pf cf).upd' pk ck).mono (by omega)
    · rintro σ Hc ⟨rs, ts, v4, rfl, g, en, r2, R, hY, hK, hF, kc, Pc⟩
      rw [List.length_map] at en Pc hK
      rw [List.take_length] at en hK
      have hrl : rs.length = ws.length := by
        have := congrArg List.length en
        rwa [List.length_map] at this
      refine ⟨_, rfl, _, rfl, (by show 2 ≤ sizeLine; decide), fun t ht => ?_⟩
      have sz : Same Hc (upd Hc t (.tup [.ref fl, .ref kn])) := (Same.refl Hc).put ht
      exact k t fl kn ts rs _ upd_same (sz _ _ hF) (R.mono fun b r e => sz b _ e) g (by omega) r2 (by rw [sz _ _ hK, en]) (kc.new (kc.fresh Pc ht)) ((Pc.new ht).mono (by omega))
theorem ok_wi {f : Addr} {fd : FuncData} (F : Fun K "_law_within" "_law_within" sWi f fd) (T : Bi mg) : FnOk P w K mg base CX0 1 f fd ["_law_rows", "_law_one", "_law_other"] spWi := by
  refine F.ok scWi (fun vs H Q E h => ?_) (fun cdv A outer s H vs Q E hr h => ?_)
  · obtain ⟨rl, ts, rs, one, other, rfl, _⟩ := h
    rfl
  · obtain ⟨rl, ts, rs, one, other, rfl, hrl, R, g, h20, r2, h1, k⟩ := h
    refine ⟨_, (pss_cons (ps_set (i := 3) scWi.nd rfl (Or.inl rfl) (pe_lst (pa_cons (pv 1) pa_nil)))
      (pss_cons (ps_set (i := 4) scWi.nd rfl (Or.inl rfl) (pe_lst (pa_cons pe_str pa_nil)))
      (pss_cons (ps_while PassesOwn.never (pt_cmpR (op_neL0 (u0_of hr)) (pv 3) (pe_lst pa_nil) (nomark _))
      (pss_cons (ps_set (i := 5) scWi.nd rfl (Or.inl rfl) (pe_bm0 PySem.F.plainAttrs_list PySem.F.slot_list_pop PySem.F.type_list_pop mt_pop (pv 3)))
        (pss_one (ps_if (pt_cmpR op_notIn_seq (pv 5) (pv 4) rfl)
        (pss_cons (ps_expr (pe_bm PySem.F.plainAttrs_list PySem.F.slot_list_append PySem.F.type_list_append mt_append (pv 4) (pa_cons (pv 5) pa_nil)))
          (pss_one (ps_for PassesOwn.never rfl (pi_list (pv 0)) (pg_name (i := 6) scWi.nd rfl (Or.inl rfl))
          (pss_one (ps_if (pt_cmpR op_eq (pe_ix ix_tup (pv 6) pe_int (fun _ _ => rfl)) (pv 5) (nomark _))
            (pss_one (ps_set (i := 3) scWi.nd rfl (Or.inl rfl) (pe_op op_cat (pv 3) (pe_callTy call_list_of (by rfl) T.list (by decide +kernel) (pa_cons (pe_slice sl_tup2 (pv 6) (po_some pe_int) po_none) pa_nil)))))
            pss_nil)))))
        pss_nil))))
      (pss_one (ps_ret (pe_cmpR op_in_seq (pv 2) (pv 4) rfl)))))), ?_⟩
    have TK := tok_ups g rs.length (Nat.le_refl _)
    rw [List.take_length] at TK
    have kl : (keys (ups rs)).length ≤ 22 := by
      rw [keys_ups, List.length_append, List.length_map]
      show 2 + rs.length ≤ 22
      omega
    refine ⟨_, rfl, (by show 1 ≤ sizeLine; decide), fun wl hwl => ⟨(by show 1 ≤ sizeLine; decide), fun ml hml => ?_⟩⟩
    have nwm : wl ≠ ml := fun e => by rw [← e, upd_same] at hml; cases hml
    have hml0 : H ml = none := by rw [upd_ne nwm.symm] at hml; exact hml
    have s0 : Same H (upd (upd H wl (.lst [.str one])) ml (.lst [.str (Str.ofString "error")])) := ((Same.refl H).put hwl).put hml0
    have ew : (upd (upd H wl (.lst [.str one])) ml (.lst [.str (Str.ofString "error")])) wl = some (.lst [.str one]) := by rw [upd_ne nwm]; exact upd_same
    have em : (upd (upd H wl (.lst [.str one])) ml (.lst [.str (Str.ofString "error")])) ml = some (.lst [.str (Str.ofString "error")]) := upd_same
    generalize upd (upd H wl (.lst [.str one])) ml (.lst [.str (Str.ofString "error")]) = H0 at s0 ew em ⊢
    refine ⟨fun m σ Hc => ∃ (wl : Addr) (v5 v6 : Option V) (wait met : List Str), m = 41 * cnt (keys (ups rs)) met + wait.length ∧ m ≤ 1000 ∧ σ = [some (.ref rl), some (.str one), some (.str other), some (.ref wl), some (.ref ml), v5, v6] ∧ H wl = none ∧ wl ≠ ml ∧
      Hc wl = some (.lst (wait.map V.str)) ∧ Hc ml = some (.lst (met.map V.str)) ∧ Wlk rs one wait met ∧ Same H Hc, ?_, ?_⟩
    · have c1 : cnt (keys (ups rs)) [sErr] ≤ 22 := Nat.le_trans (List.length_filter_le _ _) kl
      refine ⟨_, wl, none, none, [one], [sErr], rfl, ?_, rfl, hwl, nwm, ew, em, ⟨fun x hx => ?_, fun x hx => ?_, fun r hr hm b hb => ?_, .inr List.mem_cons_self, List.mem_cons_self, by simp⟩, s0⟩
      · show 41 * _ + 1 ≤ 1000
        omega
      · rw [List.mem_singleton.mp hx]; exact (TK.line h1).2.2.1
      · rw [List.mem_singleton.mp hx]; exact (TK.line h1).2.1
      · exfalso
        obtain ⟨i, hi⟩ := List.getElem?_of_mem hr
        exact (g i r hi).new (by rw [List.mem_singleton.mp hm]; unfold knownAt base0; simp)
    rintro m σ Hc ⟨wl, v5, v6, wait, met, rfl, hm1, rfl, hw0, nwm, hW, hM, wk, sc⟩
    refine ⟨_, rfl, Nat.zero_le _, fun e0 he0 => ?_⟩
    have s1 : Same Hc (upd Hc e0 (.lst [])) := (Same.refl Hc).put he0
    have e1 : (upd Hc e0 (.lst [])) e0 = some (.lst []) := upd_same
    generalize upd Hc e0 (.lst []) = Hd at s1 e1 ⊢
    have hW1 := s1 _ _ hW
    have hM1 := s1 _ _ hM
    have sd := sc.trans s1
    refine ⟨wl, e0, _, rfl, rfl, SqL.of hW1, SqL.of e1, _, rfl, ?_⟩
    rcases List.eq_nil_or_concat wait with rfl | ⟨wr, wd, rfl⟩
    · refine iteF ⟨_, rfl, _, rfl, ml, _, rfl, .inl (SqL.of hM1), rfl, flat_strs _, ?_⟩
      rw [if_neg Bool.false_ne_true, inV_strs, wk.fin g h1]
      exact k _ sd
    · rw [List.concat_eq_append] at hW1 hm1 wk ⊢
      have hne : (!((wr ++ [wd]).map V.str).isEmpty) = true := by rw [List.map_append]; simp
      rw [hne]
      refine iteT ⟨fun σ' H' => ∃ m', m' < 41 * cnt (keys (ups rs)) met + (wr ++ [wd]).length ∧ ∃ (wl : Addr) (v5 v6 : Option V) (wait met : List Str), m' = 41 * cnt (keys (ups rs)) met + wait.length ∧ m' ≤ 1000 ∧ σ' = [some (.ref rl), some (.str one), some (.str other), some (.ref wl), some (.ref ml), v5, v6] ∧ H wl = none ∧ wl ≠ ml ∧
        H' wl = some (.lst (wait.map V.str)) ∧ H' ml = some (.lst (met.map V.str)) ∧ Wlk rs one wait met ∧ Same H H', fun σ' H' h => h, ?_⟩
      rw [List.length_append, List.length_singleton] at hm1 ⊢
      rw [List.map_append] at hW1
      refine ⟨_, rfl, .inl ⟨rfl, _, SqL.of hW1⟩, wl, _, V.str wd, rfl, rfl, hW1, (by rw [List.length_append]; show (_ ++ [V.str wd])[_ + 1 - 1]? = _; rw [Nat.add_sub_cancel, List.getElem?_append_right (Nat.le_refl _), Nat.sub_self]; rfl), ?_⟩
      rw [show (wr.map V.str ++ [wd].map V.str).dropLast = wr.map V.str from List.dropLast_concat]
      have hW2 : (upd Hd wl (.lst (wr.map V.str))) wl = some (.lst (wr.map V.str)) := upd_same
      have hM2 : (upd Hd wl (.lst (wr.map V.str))) ml = some (.lst (met.map V.str)) := by rw [upd_ne nwm.symm]; exact hM1
      have s2 : Same H (upd Hd wl (.lst (wr.map V.str))) := fun b o hb => by rw [upd_ne (ne_of_none hb hw0)]; exact sd _ _ hb
      generalize upd Hd wl (.lst (wr.map V.str)) = He at hW2 hM2 s2 ⊢
      refine ⟨_, rfl, _, rfl, ml, _, rfl, .inl (SqL.of hM2), rfl, flat_strs _, _, rfl, ?_⟩
      rw [if_pos rfl, inV_strs]
      by_cases hin : wd ∈ met
      · rw [decide_eq_true hin]
        refine iteF ⟨_, ?_, wl, _, _, wr, met, rfl, by omega, rfl, hw0, nwm, hW2, hM2, wk.skip hin, s2⟩
        omega
      · rw [decide_eq_false hin]
        have hwk : wd ∈ keys (ups rs) := (TK.line h1).2.2.2 wd (wk.w1 wd (by simp))
        have hlt := cnt_lt hwk hin
        have ml22 : met.length ≤ 22 := Nat.le_trans (wk.nd.length_le_of_subset fun x hx => (TK.line h1).2.2.2 x (wk.m1 x hx)) kl
        refine iteT ⟨_, rfl, .inl ⟨rfl, _, SqL.of hM2⟩, _, rfl, ml, _, _, rfl, rfl, hM2, (by rw [List.length_map]; show _ < 16777216; omega), ?_⟩
        have hM3 : (upd He ml (.lst (met.map V.str ++ [V.str wd]))) ml = some (.lst ((met ++ [wd]).map V.str)) := by rw [upd_same, List.map_append]; rfl
        have hW3 : (upd He ml (.lst (met.map V.str ++ [V.str wd]))) wl = some (.lst (wr.map V.str)) := by rw [upd_ne nwm]; exact hW2
        have s3 : Same H (upd He ml (.lst (met.map V.str ++ [V.str wd]))) := fun b o hb => by rw [upd_ne (ne_of_none hb hml0)]; exact s2 _ _ hb
        generalize upd He ml (.lst (met.map V.str ++ [V.str wd])) = Hf at hM3 hW3 s3 ⊢
        refine ⟨_, rfl, rl, rfl, ⟨_, SqL.of (s3 _ _ hrl)⟩, for_list (K := K) (a := rl) (xs := ts.map V.ref)
          (fun i σ Hg => ∃ (wl : Addr) (v6 : Option V), σ = [some (.ref rl), some (.str one), some (.str other), some (.ref wl), some (.ref ml), some (.str wd), v6] ∧ H wl = none ∧ wl ≠ ml ∧ Hg wl = some (.lst ((wr ++ adds (rs.take i) wd).map V.str)) ∧ Hg ml = some (.lst ((met ++ [wd]).map V.str)) ∧ Same H Hg) ?_ ?_ ?_ ?_⟩
        · exact ⟨wl, v6, rfl, hw0, nwm, by simpa [adds] using hW3, hM3, s3⟩
        · rintro i σ Hg _ ⟨wl, v6, rfl, _, _, _, _, sg⟩
          exact SqL.of (sg _ _ hrl)
        · rintro i x σ Hg hi ⟨wl, v6, rfl, hw0, nwm, hW4, hM4, s4⟩
          have hil : i < ts.length := by
            have := (List.getElem?_eq_some_iff.mp hi).1
            rwa [List.length_map] at this
          have hti : ts[i]? = some ts[i] := List.getElem?_eq_getElem hil
          have hri : rs[i]? = some (rs[i]'(by rw [← R.1]; exact hil)) := List.getElem?_eq_getElem _
          have hrow := R.2 i _ _ hti hri
          have hsn := adds_snoc (w := wd) hri
          have h2i := r2 _ (List.getElem_mem (by rw [← R.1]; exact hil : i < rs.length))
          rw [List.getElem?_map, hti] at hi
          generalize rs[i]'(by rw [← R.1]; exact hil) = r at hri hrow hsn h2i
          cases hi
          unfold rowO at hrow
          have hrow4 := s4 _ _ hrow
          refine ⟨_, rfl, ts[i], _, _, _, rfl, rfl, SqT.of hrow4, atI_nat (j := 0) rfl, _, rfl, rfl, _, rfl, ite2 (fun z => ?_) (fun z => ?_)⟩
          · have ez : r.1 = wd := V.str.inj (of_decide_eq_true z)
            rw [if_pos ez] at hsn
            refine ⟨_, rfl, _, rfl, _, rfl, ts[i], _, rfl, hrow4, fun q H5 s5 hq => ?_⟩
            have hcut : cutV ((r.1 :: r.2).map V.str) (some 1) none = r.2.map V.str := by
              have := cut1' r.1 r.2
              exact this
            rw [hcut] at hq
            refine ⟨q, _, rfl, .inr (SqT.of hq), fun q2 hq2 => ?_⟩
            have s6 : Same Hg (upd H5 q2 (.lst (r.2.map V.str))) := s5.trans ((Same.refl H5).put hq2)
            have hW6 := s6 _ _ hW4
            have hM6 := s6 _ _ hM4
            have e6 : (upd H5 q2 (.lst (r.2.map V.str))) q2 = some (.lst (r.2.map V.str)) := upd_same
            generalize upd H5 q2 (.lst (r.2.map V.str)) = H6 at s6 hW6 hM6 e6 ⊢
            have al := adds_len (rs := rs.take i) (w := wd) fun q hq => r2 q (List.mem_of_mem_take hq)
            refine ⟨wl, q2, _, _, rfl, rfl, hW6, e6, ?_, fun wn hwn => ?_⟩
            · rw [List.length_map, List.length_map, List.length_append]
              rw [List.length_take] at al
              show _ + _ + _ ≤ 16777216
              omega
            · have s7 : Same H6 (upd H6 wn (.lst ((wr ++ adds (rs.take i) wd).map V.str ++ r.2.map V.str))) := (Same.refl H6).put hwn
              refine ⟨wn, _, rfl, (s4.trans s6).free hwn, (ne_of_none hM6 hwn).symm, ?_, s7 _ _ hM6, (s4.trans s6).trans s7⟩
              rw [upd_same, hsn, ← List.append_assoc, List.map_append (l₂ := r.2)]
          · have ez : ¬ r.1 = wd := fun e => z (decide_eq_true (by rw [e]))
            rw [if_neg ez, List.append_nil] at hsn
            exact ⟨wl, _, rfl, hw0, nwm, by rw [hsn]; exact hW4, hM4, s4⟩
        · rintro σ Hg ⟨wl, v6, rfl, hw0, nwm, hW4, hM4, s4⟩
          rw [List.length_map, R.1, List.take_length] at hW4
          have al := adds_len (w := wd) r2
          refine ⟨_, ?_, wl, _, _, wr ++ adds rs wd, met ++ [wd], rfl, ?_, rfl, hw0, nwm, hW4, hM4, wk.take g h1 hin, s4⟩
          · rw [List.length_append]
            omega
          · rw [List.length_append]
            omega
end
end K2
end
section
set_option Elab.async false
set_option maxRecDepth 100000
set_option linter.all false
/-! super().m(..) in a method of a class of one's own -/
namespace SupX
open PySem PySem.Spec PyProof.Rows L2 NdefX
/-- the cell that says which class a def stands in, and the def's module -/
structure SFun (P : Program) (K : PySem.W.Frag) (D cc : Addr) (x qual : Str) (st : Stmt) (f : Addr) (fd : FuncData) : Prop where
  ex : ∃ (oc : Value) (od : Option Addr) (kV doc pm : Value) (an : Option Addr) (cda : Addr) (ct : Value) (osl : Array (Option Value)),
    fd = PySem.W.fnX x qual (defArgs st) (defBody st) (defScope st) [("__class__", cc)] .none kV doc pm an (.ref cda) ct ∧ K.lookup f = some ⟨oc, od, .func fd, osl⟩ ∧ PySem.W.codeIn K (.ref cda) qual = true ∧
    ∃ (ccl : Value) (cdd : Option Addr) (vs : Array Value) (ccs : Array (Option Value)) (file : Str) (tf : Tok), K.lookup cda = some ⟨ccl, cdd, .fields vs, ccs⟩ ∧ vs[2]? = some (.str file tf) ∧ ((P.main.file : Str) == file) = true
  cell : ∃ (cl : Value) (cld : Option Addr) (csl : Array (Option Value)), K.lookup cc = some ⟨cl, cld, .cell (some (.ref D)), csl⟩
  isc : PySem.W.isClsIn K D = true
  kp : PySem.W.keepIn K (.ref f) = true
/-- C is D or stands below it; D's next m above, from C, is the def at g -/
structure SMeth (K : PySem.W.Frag) (C D : Addr) (m : Str) (g : Addr) : Prop where
  sub : PySem.W.mroIn K C (.ref D) = some true
  op : PySem.W.nsIn K PySem.cStatics "thirdparty.any" = some none
  at_ : PySem.W.ks_superIn K C D m = some (some (.ref g))
  ty : PySem.W.typeIn K (.ref g) = some (.type "function")
  fi : PySem.W.fnIn K g = true
abbrev nfOf (x qual : Str) (st : Stmt) (cc c : Addr) : NF := ⟨x, qual, defArgs st, defBody st, defScope st, [("__class__", cc)], c⟩
/-- code that runs in the def's own activation -/
structure PEA (X : Cx) (c : Code) (e : Expr) (t : TE) : Prop where
  run : ∀ (pins : List (Addr × Obj)) (s : Shared) (σ : L2.St) (H : Hp) (Q : VK), Inv X pins σ H s → t σ H Q → _root_.PySem.wpAt (model X.prog X.w) X.A c (eval e X.env) (EP X pins σ Q) X.xe s
structure PSA (X : Cx) (c : Code) (st : Stmt) (t : TS) : Prop where
  run : ∀ (pins : List (Addr × Obj)) (s : Shared) (σ : L2.St) (H : Hp) (D : Ends), Inv X pins σ H s → t D σ H → _root_.PySem.wpAt (model X.prog X.w) X.A c (exec st X.env) (SP X pins D) X.xe s
structure PSsA (X : Cx) (c : Code) (st : List Stmt) (t : TS) : Prop where
  run : ∀ (pins : List (Addr × Obj)) (s : Shared) (σ : L2.St) (H : Hp) (D : Ends), Inv X pins σ H s → t D σ H → _root_.PySem.wpAt (model X.prog X.w) X.A c (execs st X.env) (SP X pins D) X.xe s
section
variable {X : Cx} {c : Code} {e : Expr} {st : Stmt} {rest : List Stmt} {te : TE} {t u : TS} {pos : Pos}
theorem psa_of (h : PS X st t) : PSA X c st t := ⟨fun pins s σ H D I q => wpAt_of_wpAny (h.run pins s σ H D I q)⟩
theorem pssa_of (h : PSs X rest t) : PSsA X c rest t := ⟨fun pins s σ H D I q => wpAt_of_wpAny (h.run pins s σ H D I q)⟩
theorem pssa_cons (h : PSA X c st t) (k : PSsA X c rest u) : PSsA X c (st :: rest) (tSeq t u) := by
  refine ⟨fun pins s σ H D I q => ks_wpAt_execs_cons (ks_wpAt_mono (h.run pins s σ H { D with nx := u D } I q) (fun fl s' hs => ?_) fun _ _ z => z)⟩
  cases fl with
  | next =>
    obtain ⟨σ', H', J, q'⟩ := hs
    exact k.run pins s' σ' H' D J q'
  | brk => exact hs
  | cont => exact hs
  | ret v => exact hs
theorem psa_ret (h : PEA X c e te) : PSA X c (.Return (some e) pos) (tRet te) := by
  refine ⟨fun pins s σ H D I q => ks_wpAt_Return_some (ks_wpAt_mono (h.run pins s σ H D.rt I q) (fun v s' hs => ?_) fun _ _ z => z)⟩
  obtain ⟨v', H', J, r, q'⟩ := hs
  exact ⟨v', σ, H', J, r, q'⟩
theorem psa_expr (h : PEA X c e te) (hi : interactive X.env = false := by rfl) (hs : swapsWith e none pos.line X.env = pure false := by rfl) : PSA X c (.Expr e pos) (tDrop te) := by
  refine ⟨fun pins s σ H D I q => ks_wpAt_Expr_any (ks_wpAt_mono (h.run pins s σ H _ I q) (fun v s' hs => ?_) fun _ _ z => z) hi hs⟩
  obtain ⟨v', H', J, r, q'⟩ := hs
  exact ⟨σ, H', J, q'⟩
end
/-- what super() asks of the activation -/
structure SAt (P : Program) (K : PySem.W.Frag) (D cc cda f : Addr) (st : Stmt) : Prop where
  fnc : ∃ (oc : Value) (od : Option Addr) (fd : FuncData) (osl : Array (Option Value)), K.lookup f = some ⟨oc, od, .func fd, osl⟩ ∧ fd.params = defArgs st
  code : ∃ (ccl : Value) (cdd : Option Addr) (vs : Array Value) (ccs : Array (Option Value)) (file : Str) (tf : Tok), K.lookup cda = some ⟨ccl, cdd, .fields vs, ccs⟩ ∧ vs[2]? = some (.str file tf) ∧ ((P.main.file : Str) == file) = true
  cell : ∃ (cl : Value) (cld : Option Addr) (csl : Array (Option Value)), K.lookup cc = some ⟨cl, cld, .cell (some (.ref D)), csl⟩
  isc : PySem.W.isClsIn K D = true
section
variable {P : Program} {w : World} {K : PySem.W.Frag} {mg : Str → Option Value} {base : Heap}
/-- THE RULE: a def with super() in it, by its body -/
theorem SFun.ok {D cc : Addr} {x qual : Str} {st : Stmt} {f : Addr} {fd : FuncData} {N ps : List Str} {k : Nat} {sp : Sp} (F : SFun P K D cc x qual st f fd) (S : NScope N ps ["__class__"] (defScope st)) (len : ∀ vs H Q E, sp vs H Q E → vs.length = ps.length)
    (hbody : ∀ (cda : Addr) (A : Around) (outer : List Env) (s : Shared) (H : Hp) (vs : List V) (Q : VK) (E : XK), Room k (A.deeper (envF (nfOf x qual st cc cda) f s.heap.objs.size)) → SAt P K D cc cda f st → sp vs H Q E →
      ∃ t, PSsA (ncx CX0 P w K mg base N (nfOf x qual st cc cda) f A outer s H E).nox (.func (defBody st) (envF (nfOf x qual st cc cda) f s.heap.objs.size)) (defBody st) t ∧ t { nx := fun _ H' => Q .non H', rt := Q } (startF N vs [none]) H) :
    FnOk P w K mg base CX0 (k + 1) f fd ps sp := by
  obtain ⟨oc, od, kV, doc, pm, an, cda, ct, osl, rfl, lk, hcd, hfile⟩ := F.ex
  have SA : SAt P K D cc cda f st := ⟨⟨_, _, _, _, lk, rfl⟩, hfile, F.cell, F.isc⟩
  obtain ⟨cl, cld, csl, lc⟩ := F.cell
  refine ⟨len, fun A outer s H args us vs Q E hr e0 hb r hsp => ?_⟩
  have hl := len _ _ _ _ hsp
  have KX : K.In s.heap := e0.mod.kin.keeps fun b o e => (e0.bs b o e).1
  have lim : s.heap.NoLimit := e0.mod.nolimit.keeps fun b o e => (e0.bs b o e).1
  refine PySem.ks_codeAny_call_defAt (body := defBody st) (binds := ps.zip us) hr.depth (KX _ _ lk) rfl lim (PySem.W.codeRec_of KX hcd) rfl hb S.nocell (fun ⟨n, _⟩ hy => S.par n (List.of_mem_zip hy).1) (fun h₁ hns kp => ?_) S.co S.gen S.kind
  obtain ⟨t, ht, hq⟩ := hbody cda A outer s H vs Q E (hr.deeper _) SA hsp
  have C : CellsAt [(("__class__" : Str), cc)] ["__class__"] [none] s.heap H := by
    refine ⟨rfl, fun y c e => ?_, fun a b c e1 e2 => ?_, fun i y e => ?_⟩
    · obtain ⟨rfl, rfl⟩ : y = "__class__" ∧ c = cc := by
        have := PySem.mem_of_lookup e
        simpa using this
      exact ⟨(e0.bs _ _ (e0.mod.kin _ _ lc)).2, _, _, KX _ _ lc, rfl⟩
    · have h1 := PySem.mem_of_lookup e1
      have h2 := PySem.mem_of_lookup e2
      simp at h1 h2
      rw [h1.1, h2.1]
    · cases i with
      | zero =>
        cases e
        exact ⟨cc, rfl, fun v hv => by cases hv⟩
      | succ i => cases e
  have I : Inv (ncx CX0 P w K mg base N (nfOf x qual st cc cda) f A outer s H E).nox [] (startF N vs [none]) H { s with heap := h₁, toks := s.toks + (ps.zip us).length } := (inv_startN (F := nfOf x qual st cc cda) (f := f) (CX := CX0) (E := E) S hr.hd e0 hl r C hns kp).wish _
  refine PySem.ks_wpAt_mono (ht.run [] _ (startF N vs [none]) H _ I hq) (fun fl s' hs => ?_) fun e s' hs => False.elim hs
  have fin : ∀ {σ' : L2.St} {H' : Hp} {v : V} {u : Value}, Inv (ncx CX0 P w K mg base N (nfOf x qual st cc cda) f A outer s H E).nox [] σ' H' s' → L2.RelV v u → Q v H' → CE outer P w H s Q u s' :=
    fun {σ' H' v u} J rv q => ⟨v, H', J.os, J.bare, J.base, J.hok, rv, q⟩
  cases fl with
  | ret u =>
    obtain ⟨v, σ', H', J, rv, q⟩ := hs
    exact fin J rv q
  | next =>
    obtain ⟨σ', H', J, q⟩ := hs
    exact fin (v := V.non) (u := Value.none) J rfl q
  | brk =>
    obtain ⟨_, _, _, q⟩ := hs
    exact False.elim q
  | cont =>
    obtain ⟨_, _, _, q⟩ := hs
    exact False.elim q
end
/-- super().m(..): the reading -/
def tSuper (C : Addr) (sp : Sp) (E : XK) (t : TA) : TE := fun σ H Q => ∃ a dx fs, σ[0]? = some (some (.ref a)) ∧ H a = some (.ins C dx fs) ∧ t σ H fun vs H1 => sp (.ref a :: vs) H1 Q E
section
variable {X : Cx} {CX : CXT} {k : Nat} {C D cc cda f g : Addr} {st : Stmt} {body : List Stmt} {env' : Env} {fdg : FuncData} {ps : List Str} {sp : Sp} {E : XK} {e : Expr} {es : List Expr} {m a0 : Str} {p0 p1 apos pos : Pos} {t : TA}
theorem pea_super {pl : Sem Bool} (S : SAt X.prog X.K D cc cda f st) (M : SMeth X.K C D m g) (F : FnOk X.prog X.w X.K X.mg X.base CX k g fdg ps sp) (hr : Room k X.A) (hb : Binds X.K fdg ps []) (hx : Passes CX X E) (ha : PA X (e :: es) t) (hmg : X.mg "super" = none)
    (htop : (X.prog.main.scope.names.lookup ("super" : Str)).isSome = false)
    (h0 : ∃ ar : Arg, ((defArgs st).posonlyargs ++ (defArgs st).args).head? = some ar ∧ ar.arg = a0) (hN : X.N[0]? = some a0 := by rfl) (hl : X.env.kindOf a0 = some .local := by rfl)
    (hks : X.env.kindOf "super" = some .globalImplicit := by rfl) (hkc : X.env.kindOf "__class__" = some .free := by rfl) (hfu : X.env.func = some f := by rfl) (hco : X.env.code = .ref cda := by rfl) (hcl : X.env.cells.lookup ("__class__" : Str) = some cc := by rfl) (hfr : X.env.frame = env'.frame := by rfl)
    (hat : (m == ("__class__" : Str)) = false := by decide)
    (hst : starEach (e :: es) X.env = (false, eval e X.env) :: starEach es X.env := by rfl) (hpl : (backTo pos (starEach es X.env)).any (·.1) = false := by rfl)
    (hev : X.env = env' := by rfl)
    (ht : eval (.Call (.Attribute (.Call (.Name "super" p0) [] [] p1) m apos) (e :: es) [] pos) X.env = (do
      let ov ← attributeBase (.Call (.Name "super" p0) [] [] p1) m X.env (eval (.Call (.Name "super" p0) [] [] p1) X.env)
      standAt apos.atName
      let (f, first) ← holding [ov] (getMethod ov m pl)
      callWith pos f first (backTo pos (starEach (e :: es) X.env)) []) := by rfl) :
    PEA X (.func body env') (.Call (.Attribute (.Call (.Name "super" p0) [] [] p1) m apos) (e :: es) [] pos) (tSuper C sp E t) := by
  subst hev
  refine ⟨fun pins s σ H Q I h => ?_⟩
  obtain ⟨a, dx, fs, hσ, hx1, h⟩ := h
  refine ks_wpAt_MethodCall (pl := pl) ?_ ht
  have KX := I.kIn
  obtain ⟨oc, od, fd, osl, lk, hps⟩ := S.fnc
  obtain ⟨ccl, cdd, vs0, ccs, file, tf, lc, hvs, hfile⟩ := S.code
  obtain ⟨cl, cld, csl, lcell⟩ := S.cell
  obtain ⟨ar, har, harg⟩ := h0
  obtain ⟨cdD, hcdD⟩ := Option.isSome_iff_exists.mp (show (PySem.W.clsIn X.K D).isSome = true from S.isc)
  obtain ⟨mA, O, _, _, _, _⟩ := ins_get I.hok hx1
  obtain ⟨od1, J, _⟩ := O.look
  obtain ⟨oD, hD1, hD2⟩ : ∃ oD, s.heap.get? D = some oD ∧ oD.data = .cls cdD := by
    unfold PySem.W.clsIn at hcdD
    split at hcdD
    · rename_i c d cd' sl ho
      cases hcdD
      exact ⟨_, KX _ _ ho, rfl⟩
    · cases hcdD
  obtain ⟨cdC, hcdC⟩ : ∃ cdC, PySem.W.clsIn X.K C = some cdC := by
    cases hc : PySem.W.clsIn X.K C with
    | none =>
      have := M.at_
      unfold PySem.W.ks_superIn at this
      rw [hc] at this
      cases this
    | some cd => exact ⟨cd, rfl⟩
  refine PySem.ks_wpAt_super_base (env := X.env) (ar := ar) hks hkc hat hfu (KX _ _ lk) rfl (by rw [hps]; exact har) hco (KX _ _ lc) rfl hvs hfile htop ?_
  obtain ⟨mb, b1, b2⟩ := I.mod.blt
  refine PySem.W.ks_loadName_global I.ok.kind hks (Calls.loadGlobal_builtin (by rw [I.ok.glob]; exact I.mod.glob.keeps I.bk) hmg (by rw [I.ok.blt]; exact b1.keeps I.bk) ((b2 "super" (by decide)).trans (show bootBuiltins "super" = some (.type "super") by first | rfl | decide +kernel)) ⟨rfl, ?_⟩)
  refine wpAny_loadName_free I.ok.kind hkc hcl ⟨_, KX _ _ lcell, rfl⟩ ?_
  obtain ⟨mm, hn, hloc⟩ := I.loc
  obtain ⟨u, ru, hlook⟩ := hloc 0 a0 (.ref a) hN hσ (Or.inl hl)
  obtain rfl : u = Value.ref a := ru
  have hm0 : mm a0 = some (.ref a) := by
    rcases hlook with ⟨_, z⟩ | ⟨z, _⟩
    · exact z
    · rw [hl] at z
      rcases z with z | z <;> cases z
  rw [harg]
  refine wpAny_loadName_local I.ok.kind hl hn hm0 ?_
  refine PySem.ks_wpAny_isType_cls hD1 hD2 ⟨rfl, ?_⟩
  refine PySem.ks_wpAny_call_super hD1 hD2 J.at_ J.cls (fun c e => ?_) (PySem.W.looks_mroIn KX M.sub) (fun h' eso kh => ?_)
  · have := J.no
    unfold PySem.W.notCls at this
    rw [e] at this
    exact Bool.noConfusion this
  -- the super object is there
  have I1 : Inv X ((s.heap.objs.size, PySem.W.ks_superObj D a C) :: pins) σ H { s with heap := h' } := ClX.pin_new (t' := s.toks) I (fun b u q => kh b u q) (Nat.le_refl _) eso (fun v z => nomatch z)
  have KX1 : X.K.In h' := I1.kIn
  obtain ⟨of, hof, hofc⟩ : ∃ of, h'.get? g = some of ∧ of.cls = .type "function" := by
    have ht' : (X.K.lookup g).map (·.cls) = some (.type "function") := M.ty
    cases z : X.K.lookup g with
    | none => rw [z] at ht'; cases ht'
    | some of => rw [z] at ht'; exact ⟨of, KX1 _ _ z, Option.some.inj ht'⟩
  have hmro : PySem.W.ks_superIn X.K C D m = some (some (.ref g)) := M.at_
  unfold PySem.W.ks_superIn at hmro
  rw [hcdC] at hmro
  refine PySem.ks_wpAny_getMethod_super (l₀ := cdC.mro) eso (PySem.W.looks_opaque KX1 M.op) ?_ rfl KX1 hmro hof hofc (PySem.W.ks_ne KX J hcdC) hat ?_
  · exact fun A Q E s k q => wpAny_bind ((PySem.W.looks_clsIn KX1 hcdC) A _ E s k (wpAny_pure q))
  have I2 := ClX.met_new (g := g) (C := a) I1
  refine ClX.callwith_cm I2 (ClX.base_none I1 (Nat.le_refl _)) M.fi (thn (ha.run pos _ _ σ H _ I2 h) fun us s3 ⟨vs, H2, I3, rv, q2⟩ => ⟨⟨ClX.pin_at I3, I3.kIn⟩, ?_⟩) hst hpl
  have hl2 : (Value.ref a :: us).length = ps.length := by
    have := F.len _ _ _ _ q2
    rw [← this, List.length_cons, List.length_cons, rv.length]
  have hb2 := hb s3 (.ref a :: us) I3.kIn (by simpa using hl2)
  rw [List.append_nil] at hb2
  have z : wpAny (model X.prog X.w) X.A (call (.ref h'.objs.size) us) (EP X ((h'.objs.size, PySem.W.methodObj (.ref g) (.ref a)) :: (s.heap.objs.size, PySem.W.ks_superObj D a C) :: pins) σ Q) X.xe s3 := by
    refine wpAny_call (PySem.W.method_call (ClX.pin_at I3) (codeAny_mono (F.run X.A X.stack s3 H2 ⟨.ref a :: us, []⟩ (.ref a :: us) (.ref a :: vs) Q E hr I3.env0 hb2 (.cons rfl rv) q2) fun y z hq => ?_))
    cases y with
    | error e => exact hx _ σ H2 s3 e z I3 hq
    | ok fl =>
      cases fl with
      | ret u => exact I3.after hq
      | next => exact hq.elim
      | brk => exact hq.elim
      | cont => exact hq.elim
  exact thn z fun _ _ y => ClX.unpinE (ClX.unpinE y)
end
end SupX
end
section
set_option Elab.async false
set_option maxRecDepth 100000
set_option linter.all false
/-! Level and ByTrail -/
namespace K2
open PySem L2 SupX NdefX
abbrev sLI : Stmt := inClass (top 11) 1
abbrev sLT : Stmt := inClass (top 11) 3
abbrev sLD : Stmt := inClass (top 11) 4
abbrev sBI : Stmt := inClass (top 13) 1
abbrev sBV : Stmt := inClass (top 13) 2
abbrev sBT : Stmt := inClass (top 13) 3
abbrev sBD : Stmt := inClass (top 13) 4
abbrev sBN : Stmt := inClass (top 13) 5
/-! the mathematics -/
/-- where the rest of the trail begins that is told by rest -/
def duI (line rest : List Str) : Int := if line.drop (line.length - rest.length) = rest then ((line.length - rest.length : Nat) : Int) else -1
def vI (line : List Str) (nm : Str) (b : Int) : Int := if 0 < b ∧ line[(b - 1).toNat]? = some nm then b - 1 else -1
theorem duI_le (line rest : List Str) : duI line rest ≤ line.length ∧ -1 ≤ duI line rest := by
  unfold duI
  split <;> omega
theorem duI_nil (line : List Str) : duI line [] = line.length := by
  unfold duI
  rw [if_pos (by simp)]
  simp
theorem vI_du (line rest : List Str) (nm : Str) : vI line nm (duI line rest) = duI line (nm :: rest) := by
  by_cases h : line.drop (line.length - rest.length) = rest
  · have hl : rest.length ≤ line.length := by
      have := congrArg List.length h
      rw [List.length_drop] at this
      omega
    have e : duI line rest = ((line.length - rest.length : Nat) : Int) := by unfold duI; rw [if_pos h]
    rw [e]
    by_cases h0 : line.length = rest.length
    · have e0 : line.length - rest.length = 0 := by omega
      unfold vI duI
      rw [if_neg (by omega), if_neg]
      intro q
      have := congrArg List.length q
      rw [List.length_drop, List.length_cons] at this
      omega
    · have ek : line.length - (nm :: rest).length + 1 = line.length - rest.length := by rw [List.length_cons]; omega
      have hk : line.length - (nm :: rest).length < line.length := by rw [List.length_cons]; omega
      have et : (((line.length - rest.length : Nat) : Int) - 1).toNat = line.length - (nm :: rest).length := by omega
      have edr := List.drop_eq_getElem_cons hk
      rw [ek, h] at edr
      unfold vI duI
      rw [et, edr, List.getElem?_eq_getElem hk]
      by_cases hn : line[line.length - (nm :: rest).length] = nm
      · rw [if_pos ⟨by omega, by rw [hn]⟩, if_pos (by rw [hn])]
        omega
      · rw [if_neg (fun q => hn (Option.some.inj q.2)), if_neg (fun q => hn (List.cons.inj q).1)]
  · have e : duI line rest = -1 := by unfold duI; rw [if_neg h]
    rw [e]
    unfold vI duI
    rw [if_neg (by omega), if_neg]
    intro q
    have hl := congrArg List.length q
    rw [List.length_drop, List.length_cons] at hl
    have hk : line.length - (nm :: rest).length < line.length := by rw [List.length_cons]; omega
    have edr := List.drop_eq_getElem_cons hk
    rw [q] at edr
    apply h
    have ek : line.length - (nm :: rest).length + 1 = line.length - rest.length := by rw [List.length_cons]; omega
    rw [ek] at edr
    exact (List.cons.inj edr).2.symm
/-! the objects -/
def fldsL (cl tr : Addr) : List (Str × V) := putF "trail" (.ref tr) (putF "classes" (.ref cl) [])
theorem nmc_ : ¬ (("classes" : Str) = "trail") := by decide +kernel
theorem fldsL_classes (cl tr : Addr) : (fldsL cl tr).lookup ("classes" : Str) = some (.ref cl) := by
  unfold fldsL
  rw [lookup_putF, if_neg nmc_, lookup_putF, if_pos rfl]
theorem fldsL_trail (cl tr : Addr) : (fldsL cl tr).lookup ("trail" : Str) = some (.ref tr) := by
  unfold fldsL
  rw [lookup_putF, if_pos rfl]
theorem fldsL_no (cl tr : Addr) {f : Str} (h1 : ¬ f = "trail") (h2 : ¬ f = "classes") : (fldsL cl tr).lookup f = none := by
  unfold fldsL
  rw [lookup_putF, if_neg h1, lookup_putF, if_neg h2]
  rfl
/-- a level by trail stands at p -/
def Lvl (B C : Addr) (H : Hp) (p : Addr) (line : List Str) (rs : List Row) : Prop := ∃ dx cl tr, H p = some (.ins B dx (fldsL cl tr)) ∧ H tr = some (.tup (line.map V.str)) ∧ ClsW C H cl rs
theorem Lvl.same {B C p : Addr} {H H' : Hp} {m : List Str} {rs : List Row} (h : Lvl B C H p m rs) (s : Same H H') : Lvl B C H' p m rs := by
  obtain ⟨dx, cl, tr, h1, h2, h3⟩ := h
  exact ⟨dx, cl, tr, s _ _ h1, s _ _ h2, h3.same s⟩
theorem Lvl.kp {B C p c b : Addr} {ns : List Int} {n : Nat} {H H' : Hp} {m : List Str} {rs : List Row} (h : Lvl B C H b m rs) (k : Keep p H H') (P : Pen H p c ns n) : Lvl B C H' b m rs := by
  obtain ⟨dx, cl, tr, h1, h2, h3⟩ := h
  exact ⟨dx, cl, tr, k _ _ h1 (P.ins_ne h1), k _ _ h2 (P.tup_ne h2), h3.kp k P⟩
theorem pe_imp67 {X : Cx} {e : Expr} {t t' : TE} (h : PE X e t) (k : ∀ σ H Q, t' σ H Q → t σ H Q) : PE X e t' := ⟨fun pins s σ H Q I q => h.run pins s σ H Q I (k σ H Q q)⟩
structure LTxt (K : PySem.W.Frag) (B : Addr) : Prop where
  cl : Cls K B
  nC : NoAttr K B "classes"
  nT : NoAttr K B "trail"
def spLI (B : Addr) : Sp := fun vs H Q _ => ∃ p cl dx, vs = [.ref p, .ref cl] ∧ H p = some (.ins B dx []) ∧ Q .non (upd H p (.ins B dx (putF "classes" (.ref cl) [])))
def spBI (B : Addr) : Sp := fun vs H Q _ => ∃ p cl dx m, vs = [.ref p, .ref cl, .ref m] ∧ H p = some (.ins B dx []) ∧ Q .non (upd H p (.ins B dx (fldsL cl m)))
def spBV (B : Addr) : Sp := fun vs H Q _ => ∃ (p cl tr dx : Addr) (line : List Str) (nm : Str) (z : V) (b : Int), vs = [.ref p, .str nm, z] ∧ H p = some (.ins B dx (fldsL cl tr)) ∧ H tr = some (.tup (line.map V.str)) ∧ b ≤ line.length ∧
  ((z = .non ∧ b = line.length) ∨ (∃ (q : Addr) (x : V), z = .ref q ∧ H q = some (.tup [x, .int b]))) ∧ ∀ a H', Same H H' → H' a = some (.tup [.str nm, .int (vI line nm b)]) → Q (.ref a) H'
def spTk (B C : Addr) (L W : Bool) : Sp := fun vs H Q _ => ∃ (p nt : Addr) (m : List Str) (rs : List Row) (x : Str) (v : V) (ns : List Str), vs = [.ref p, v, .ref nt] ∧ Lvl B C H p m rs ∧ x ∈ keys (ups rs) ∧ (if W then v = .str x else ∃ t xs, v = .ref t ∧ H t = some (.tup (V.str x :: xs))) ∧
  H nt = some (if L then .lst (ns.map V.str) else .tup (ns.map V.str)) ∧ ns.length ≤ 40 ∧ ∀ H', Same H H' → Q (.bl (meet (ups rs) [x] ns)) H'
def spDo : Sp := fun vs H Q _ => ∃ p x y, vs = [.ref p, x, y] ∧ ∀ a H', Same H H' → H' a = some (.tup []) → Q (.ref a) H'
def spDoB (B : Addr) : Sp := fun vs H Q _ => ∃ p dx fs x y, vs = [.ref p, x, y] ∧ H p = some (.ins B dx fs) ∧ ∀ a H', Same H H' → H' a = some (.tup []) → Q (.ref a) H'
def spBN : Sp := fun vs H Q _ => ∃ p t v xs, vs = [.ref p, .ref t] ∧ H t = some (.tup (v :: xs)) ∧ Q v H
section
variable {P : Program} {w : World} {K : PySem.W.Frag} {mg : Str → Option Value} {base : Heap}
theorem scLI : FnScope ["self", "classes"] ["self", "classes"] (defScope sLI) := ⟨rfl, rfl, rfl, by decide +kernel, rfl, by decide +kernel, by decide +kernel⟩
theorem scLT : FnScope ["self", "view", "names"] ["self", "view", "names"] (defScope sLT) := ⟨rfl, rfl, rfl, by decide +kernel, rfl, by decide +kernel, by decide +kernel⟩
theorem scLD : FnScope ["self", "callback", "handled"] ["self", "callback", "handled"] (defScope sLD) := ⟨rfl, rfl, rfl, by decide +kernel, rfl, by decide +kernel, by decide +kernel⟩
theorem scBN : FnScope ["self", "view"] ["self", "view"] (defScope sBN) := ⟨rfl, rfl, rfl, by decide +kernel, rfl, by decide +kernel, by decide +kernel⟩
theorem scBV : FnScope ["self", "name", "cause", "behind"] ["self", "name", "cause"] (defScope sBV) := ⟨rfl, rfl, rfl, by decide +kernel, rfl, by decide +kernel, by decide +kernel⟩
theorem scBI : NScope ["self", "classes", "trail", "__class__"] ["self", "classes", "trail"] ["__class__"] (defScope sBI) := nscope_by (by decide +kernel)
theorem scBT : NScope ["self", "view", "names", "__class__"] ["self", "view", "names"] ["__class__"] (defScope sBT) := nscope_by (by decide +kernel)
theorem scBD : NScope ["self", "callback", "handled", "__class__"] ["self", "callback", "handled"] ["__class__"] (defScope sBD) := nscope_by (by decide +kernel)
theorem ok_li {f B : Addr} {fd : FuncData} (F : Fun K "__init__" "Level.__init__" sLI f fd) (Y : LTxt K B) : FnOk P w K mg base CX0 1 f fd ["self", "classes"] (spLI B) := by
  refine F.ok scLI (fun vs H Q E h => ?_) (fun cdv A outer s H vs Q E hr h => ?_)
  · obtain ⟨p, cl, dx, rfl, _⟩ := h
    rfl
  · obtain ⟨p, cl, dx, rfl, hp, k⟩ := h
    refine ⟨_, pss_one (ps_fld (pv 0) (pv 1) rfl), ?_⟩
    exact ⟨_, rfl, _, rfl, p, B, dx, _, rfl, hp, Y.cl, Y.nC, (by show 0 < 1000; decide), k⟩
theorem ok_bi {f g B cc : Addr} {fd fdg : FuncData} (F : SFun P K B cc "__init__" "ByTrail.__init__" sBI f fd) (Y : LTxt K B) (M : SMeth K B B "__init__" g) (GI : FnOk P w K mg base CX0 1 g fdg ["self", "classes"] (spLI B)) (bI : Binds K fdg ["self", "classes"] [])
    (mS : mg "super" = none) (top0 : (P.main.scope.names.lookup ("super" : Str)).isSome = false) : FnOk P w K mg base CX0 2 f fd ["self", "classes", "trail"] (spBI B) := by
  refine F.ok scBI (fun vs H Q E h => ?_) (fun cda A outer s H vs Q E hr SA h => ?_)
  · obtain ⟨p, cl, dx, m, rfl, _⟩ := h
    rfl
  · obtain ⟨p, cl, dx, m, rfl, hp, k⟩ := h
    have hr1 : Room 1 _ := hr
    refine ⟨_, pssa_cons (psa_expr (pea_super SA M GI hr1 bI pass0 (pa_cons (pv 1) pa_nil) mS top0 ⟨_, rfl, rfl⟩)) (pssa_of (pss_one (ps_fld (pv 0) (pv 2) rfl))), ?_⟩
    refine ⟨p, dx, _, rfl, hp, _, rfl, p, cl, dx, rfl, hp, ?_⟩
    refine ⟨_, rfl, _, rfl, p, B, dx, _, rfl, upd_same, Y.cl, Y.nT, (by show 1 < 1000; decide), ?_⟩
    rw [upd_upd]
    exact k
theorem ok_ld {f : Addr} {fd : FuncData} (F : Fun K "does" "Level.does" sLD f fd) : FnOk P w K mg base CX0 1 f fd ["self", "callback", "handled"] spDo := by
  refine F.ok scLD (fun vs H Q E h => ?_) (fun cdv A outer s H vs Q E hr h => ?_)
  · obtain ⟨p, x, y, rfl, _⟩ := h
    rfl
  · obtain ⟨p, x, y, rfl, k⟩ := h
    refine ⟨_, pss_one (ps_ret (pe_tup pa_nil)), ?_⟩
    exact ⟨Nat.zero_le _, fun a ha => k a _ ((Same.refl H).put ha) upd_same⟩
theorem ok_bd {f g B cc : Addr} {fd fdg : FuncData} (F : SFun P K B cc "does" "ByTrail.does" sBD f fd) (M : SMeth K B B "does" g) (GD : FnOk P w K mg base CX0 1 g fdg ["self", "callback", "handled"] spDo) (bD : Binds K fdg ["self", "callback", "handled"] [])
    (mS : mg "super" = none) (top0 : (P.main.scope.names.lookup ("super" : Str)).isSome = false) : FnOk P w K mg base CX0 2 f fd ["self", "callback", "handled"] (spDoB B) := by
  refine F.ok scBD (fun vs H Q E h => ?_) (fun cda A outer s H vs Q E hr SA h => ?_)
  · obtain ⟨p, dx, fs, x, y, rfl, _⟩ := h
    rfl
  · obtain ⟨p, dx, fs, x, y, rfl, hp, k⟩ := h
    have hr1 : Room 1 _ := hr
    refine ⟨_, pssa_cons (psa_ret (pea_super SA M GD hr1 bD pass0 (pa_cons (pv 1) (pa_cons (pv 2) pa_nil)) mS top0 ⟨_, rfl, rfl⟩)) (pssa_of pss_nil), ?_⟩
    exact ⟨p, dx, _, rfl, hp, _, rfl, _, rfl, p, x, y, rfl, k⟩
theorem ok_bn {f : Addr} {fd : FuncData} (F : Fun K "name_of" "ByTrail.name_of" sBN f fd) : FnOk P w K mg base CX0 1 f fd ["self", "view"] spBN := by
  refine F.ok scBN (fun vs H Q E h => ?_) (fun cdv A outer s H vs Q E hr h => ?_)
  · obtain ⟨p, t, v, xs, rfl, _⟩ := h
    rfl
  · obtain ⟨p, t, v, xs, rfl, ht, k⟩ := h
    refine ⟨_, pss_one (ps_ret (pe_ix ix_tup (pv 1) pe_int (fun _ _ => rfl))), ?_⟩
    exact ⟨_, rfl, t, _, _, _, rfl, rfl, SqT.of ht, atI_nat (j := 0) rfl, k⟩
theorem ok_lt {f B C fC fM : Addr} {fd fdC fdM : FuncData} (L : Bool) (F : Fun K "taken" "Level.taken" sLT f fd) (Y : LTxt K B) (YC : Txt K mg C)
    (GCo : FnOk P w K mg base CX0 1 fC fdC ["self", "x"] (spCo K C)) (bCo : Binds K fdC ["self", "x"] []) (hCo : PySem.W.findIn K (.ref C) "__contains__" = some (some (.ref fC))) (hCof : PySem.W.isFn K (.ref fC) = true)
    (mM : Meth K C "meets" fM) (GM : FnOk P w K mg base CX0 3 fM fdM ["self", "kind", "names"] (spMeets C L)) (bM : Binds K fdM ["self", "kind", "names"] []) : FnOk P w K mg base CX0 4 f fd ["self", "view", "names"] (spTk B C L true) := by
  refine F.ok scLT (fun vs H Q E h => ?_) (fun cdv A outer s H vs Q E hr h => ?_)
  · obtain ⟨p, nt, m, rs, x, v, ns, rfl, _⟩ := h
    rfl
  · obtain ⟨p, nt, m, rs, x, v, ns, rfl, ⟨dx, cl, tr, hp, htr, hc⟩, hx, hv, hnt, hl, k⟩ := h
    obtain rfl : v = .str x := hv
    have hr1 : Room 1 _ := hr.mono (by decide)
    have hr3 : Room 3 _ := hr
    refine ⟨_, pss_one (ps_ret (pe_and (pe_cmpR (op_inO GCo bCo pass0 hr1 hCo hCof) (pv 1) (pe_fld (pv 0) rfl) rfl) (pe_one (pe_meth (pe_fld (pv 0) rfl) YC.cl mM GM hr3 bM .nil pass0 (pa_cons (pe_tup (pa_cons (pv 1) pa_nil)) (pa_cons (pv 2) pa_nil)))))), ?_⟩
    have hci : ∃ dx fs, H cl = some (.ins C dx fs) ∧ fs.lookup ("meets" : Str) = none := by
      obtain ⟨dx1, fs1, e1, e2⟩ := hc.ins
      exact ⟨dx1, fs1, e1, e2 "meets" (by decide +kernel) (by decide +kernel) (by decide +kernel)⟩
    obtain ⟨dx1, fs1, e1, e2⟩ := hci
    refine ⟨_, rfl, _, rfl, p, B, dx, _, _, rfl, hp, Y.cl, Y.nC, fldsL_classes _ _, cl, dx1, fs1, rfl, e1, cl, .str x, rs, rfl, hc, .inl ⟨x, rfl, _, rfl, _, rfl, ?_⟩⟩
    rw [decide_eq_true hx]
    refine iteT ⟨_, rfl, p, B, dx, _, _, rfl, hp, Y.cl, Y.nC, fldsL_classes _ _, cl, dx1, fs1, rfl, e1, e2, _, rfl, (by show 1 ≤ sizeLine; decide), fun t ht => ?_⟩
    have s1 : Same H (upd H t (.tup [.str x])) := (Same.refl H).put ht
    exact ⟨_, rfl, cl, t, nt, [x], ns, ups rs, rfl, (hc.same s1).at, upd_same, s1 _ _ hnt, fun y hy => by rw [List.mem_singleton.mp hy]; exact hx, (by show 1 ≤ 40; decide), hl, fun H' s2 => k H' (s1.trans s2)⟩
theorem ok_bt {f g B C cc : Addr} {fd fdg : FuncData} (L : Bool) (F : SFun P K B cc "taken" "ByTrail.taken" sBT f fd) (M : SMeth K B B "taken" g) (GT : FnOk P w K mg base CX0 4 g fdg ["self", "view", "names"] (spTk B C L true)) (bT : Binds K fdg ["self", "view", "names"] [])
    (mS : mg "super" = none) (top0 : (P.main.scope.names.lookup ("super" : Str)).isSome = false) : FnOk P w K mg base CX0 5 f fd ["self", "view", "names"] (spTk B C L false) := by
  refine F.ok scBT (fun vs H Q E h => ?_) (fun cda A outer s H vs Q E hr SA h => ?_)
  · obtain ⟨p, nt, m, rs, x, v, ns, rfl, _⟩ := h
    rfl
  · obtain ⟨p, nt, m, rs, x, v, ns, rfl, hL, hx, hv, hnt, hl, k⟩ := h
    obtain ⟨t, xs, rfl, ht⟩ := hv
    obtain ⟨dx, cl, tr, hp, htr, hc⟩ := hL
    have hr4 : Room 4 _ := hr
    refine ⟨_, pssa_cons (psa_ret (pea_super SA M GT hr4 bT pass0 (pa_cons (pe_ix ix_tup (pv 1) pe_int (fun _ _ => rfl)) (pa_cons (pv 2) pa_nil)) mS top0 ⟨_, rfl, rfl⟩)) (pssa_of pss_nil), ?_⟩
    exact ⟨p, dx, _, rfl, hp, _, rfl, t, _, _, _, rfl, rfl, SqT.of ht, atI_nat (j := 0) rfl, _, rfl, p, nt, m, rs, x, .str x, ns, rfl, ⟨dx, cl, tr, hp, htr, hc⟩, hx, rfl, hnt, hl, k⟩
theorem ok_bv {f B : Addr} {fd : FuncData} {dvs : List V} (F : FunD K "view" "ByTrail.view" (defArgs sBV) (defBody sBV) (defScope sBV) dvs [] f fd) (Y : LTxt K B) (T : Bi mg) : FnOk P w K mg base CX0 1 f fd ["self", "name", "cause"] (spBV B) := by
  refine F.ok scBV (fun vs H Q E h => ?_) (fun cdv A outer s H vs Q E hr h => ?_)
  · obtain ⟨p, cl, tr, dx, line, nm, z, b, rfl, _⟩ := h
    rfl
  · suffices hs : ∃ tt, PSs (cxOf CX0 P w K mg base ["self", "name", "cause", "behind"] "ByTrail.view" (defScope sBV) f cdv A outer s H E).nox (defBody sBV) tt ∧ tt { nx := fun _ H' => Q .non H', rt := Q } (L2.start ["self", "name", "cause", "behind"] vs) H by
      obtain ⟨tt, h1, h2⟩ := hs
      exact ⟨tt, h1.nox, h2⟩
    obtain ⟨p, cl, tr, dx, line, nm, z, b, rfl, hp, htr, hb, hz, k⟩ := h
    refine ⟨_, (pss_cons (ps_set (i := 3) scBV.nd rfl (Or.inl rfl) (pe_imp67 (t' := fun σ1 H1 Q1 => σ1[0]? = some (some (.ref p)) ∧ σ1[2]? = some (some z) ∧ H1 = H ∧ Q1 (.int b) H)
        (pe_ifExp (pt_cmpR op_isN (pv 2) pe_non (nomark _)) (pe_callB call_len_seq (by rfl) T.len PySem.boot_len (pa_cons (pe_fld (pv 0) rfl) pa_nil)) (pe_ix ix_tup (pv 2) pe_int (fun _ _ => rfl))) (fun σ1 H1 Q1 h1 => ?beh)))
      (pss_cons (ps_if (PW.pt (pw_and (pt_cmpR op_gt (pv 3) pe_int (nomark _)) (pw_and1 (pt_cmpR op_eq (pe_ix ix_tup (pe_fld (pv 0) rfl) (pe_op op_sub (pv 3) pe_int) (fun _ _ => rfl)) (pv 1) (nomark _)))))
        (pss_one (ps_ret (pe_tup (pa_cons (pv 1) (pa_cons (pe_op op_sub (pv 3) pe_int) pa_nil))))) pss_nil)
      (pss_one (ps_ret (pe_tup (pa_cons (pv 1) (pa_cons (pe_un un_neg pe_int) pa_nil))))))), ?body⟩
    case beh =>
      obtain ⟨e0, e2, rfl, q⟩ := h1
      refine ⟨_, e2, rfl, _, rfl, ite2 (fun hn => ?_) (fun hn => ?_)⟩
      · have hn := of_decide_eq_true hn
        rcases hz with ⟨_, eb⟩ | ⟨qq, x, e, _⟩
        · refine ⟨_, e0, p, B, dx, _, _, rfl, hp, Y.cl, Y.nT, fldsL_trail _ _, tr, _, rfl, .inr (SqT.of htr), ?_⟩
          rw [List.length_map, ← eb]
          exact q
        · rw [e] at hn; cases hn
      · rcases hz with ⟨e, _⟩ | ⟨qq, x, e, hq⟩
        · exact absurd (decide_eq_true e) hn
        · rw [e] at e2
          exact ⟨_, e2, qq, _, _, _, rfl, rfl, SqT.of hq, atI_nat (j := 1) rfl, q⟩
    have no : vI line nm b = -1 → ∀ t, H t = none → Q (.ref t) (upd H t (.tup [.str nm, .int (-1)])) := fun e t ht => k t _ ((Same.refl H).put ht) (by rw [upd_same, e])
    refine ⟨rfl, rfl, rfl, _, rfl, _, _, rfl, rfl, _, rfl, ite2 (fun z1 => ?_) (fun z1 => ?_)⟩
    · have b0 : 0 < b := of_decide_eq_true z1
      obtain ⟨kb, ekb⟩ : ∃ kb : Nat, b - 1 = (kb : Int) := ⟨(b - 1).toNat, (Int.toNat_of_nonneg (by omega)).symm⟩
      have hkb : kb < line.length := by omega
      have hat : (line.map V.str)[kb]? = some (V.str line[kb]) := by rw [List.getElem?_map, List.getElem?_eq_getElem hkb]; rfl
      refine ⟨_, rfl, p, B, dx, _, _, rfl, hp, Y.cl, Y.nT, fldsL_trail _ _, _, rfl, _, _, rfl, rfl, ?_⟩
      rw [show (fun i j : Int => V.int (i - j)) b 1 = V.int (kb : Int) from congrArg V.int ekb]
      refine ⟨tr, _, _, _, rfl, rfl, SqT.of htr, atI_nat hat, _, rfl, rfl, _, rfl, ite2 (fun z2 => ?_) (fun z2 => ?_)⟩
      · have en : line[kb] = nm := V.str.inj (of_decide_eq_true z2)
        refine ⟨_, rfl, _, rfl, _, _, rfl, rfl, (by show 2 ≤ sizeLine; decide), fun t ht => k t _ ((Same.refl H).put ht) ?_⟩
        have : vI line nm b = b - 1 := by
          unfold vI
          rw [ekb, show ((kb : Int)).toNat = kb from rfl, List.getElem?_eq_getElem hkb, en, if_pos ⟨b0, rfl⟩]
        rw [upd_same, this]
      · have en : ¬ line[kb] = nm := fun q => z2 (decide_eq_true (by rw [q]))
        refine ⟨_, rfl, _, rfl, (by show 2 ≤ sizeLine; decide), no ?_⟩
        unfold vI
        rw [ekb, show ((kb : Int)).toNat = kb from rfl, List.getElem?_eq_getElem hkb, if_neg (fun q => en (Option.some.inj q.2))]
    · refine iteF ⟨_, rfl, _, rfl, (by show 2 ≤ sizeLine; decide), no ?_⟩
      unfold vI
      rw [if_neg (fun q => z1 (decide_eq_true q.1))]
end
end K2
end
section
set_option Elab.async false
set_option maxRecDepth 100000
set_option linter.all false
namespace K2
open PySem L2 PySem.Spec PyProof.Rows
theorem pick_all {α : Type} : ∀ l : List α, (List.range l.length).filterMap (fun k => l[k]?) = l
  | [] => rfl
  | a :: l => by
    rw [List.length_cons, List.range_succ_eq_map, List.filterMap_cons]
    simp only [List.getElem?_cons_zero, List.filterMap_map]
    congr 1
    have e : ((fun k => (a :: l)[k]?) ∘ Nat.succ) = fun k => l[k]? := by
      funext k
      simp
    rw [e]
    exact pick_all l
theorem pick_rev (xs : Array Value) : (List.range xs.size).filterMap (fun (k : Nat) => xs[(((xs.size : Int) - 1) + (k : Int) * (-1)).toNat]?) = xs.toList.reverse := by
  have h := pick_all xs.toList.reverse
  rw [List.length_reverse, Array.length_toList] at h
  refine Eq.trans ?_ h
  have cong : ∀ (l : List Nat) (f g : Nat → Option Value), (∀ k ∈ l, f k = g k) → l.filterMap f = l.filterMap g := by
    intro l f g
    induction l with
    | nil => intro _; rfl
    | cons a l ih =>
      intro q
      rw [List.filterMap_cons, List.filterMap_cons, q a List.mem_cons_self, ih fun k hk => q k (List.mem_cons_of_mem _ hk)]
  refine cong _ _ _ fun k hk => ?_
  have hk := List.mem_range.mp hk
  rw [List.getElem?_reverse (by rw [Array.length_toList]; exact hk), Array.length_toList, Array.getElem?_toList]
  congr 1
  omega
section
variable {prog : Program} {w : World} {A : Around} {E : Value → Shared → Prop} {s : Shared}
theorem rev_applied {sl : Addr} {vs : Value} {n : Nat} {Q : Int × Int × Nat → Shared → Prop} (hn : 0 < n) (hs : s.heap.IsSliceOf sl .none .none vs) (ps : IsPart vs (some (-1)))
    (h : Q (((n : Int) - 1), -1, n) s) : wpAny (model prog w) A (Builtin.Slice.sliceApplied (.ref sl) (pure (n : Int))) Q E s := by
  obtain ⟨os, hos, hcs, hds⟩ := id hs
  unfold Builtin.Slice.sliceApplied Builtin.Slice.sliceFields
  refine wpAny_bind (wpAny_bind (wpAny_field hos hds (x := .none) rfl (wpAny_bind (wpAny_field hos hds (x := .none) rfl (wpAny_bind (wpAny_field hos hds (x := vs) rfl (wpAny_pure ?_)))))))
  refine wpAny_bind (HT.slicePart_ ps ?_)
  show wpAny _ _ (if ((-1 : Int) == 0) = true then _ else _) _ _ s
  rw [if_neg (by decide)]
  refine wpAny_bind (slicePart_none (wpAny_bind (slicePart_none (wpAny_bind (wpAny_pure ?_)))))
  have e : Builtin.Slice.slicePlaces ((n : Int) - 1) (-1) (-1) = n := by
    unfold Builtin.Slice.slicePlaces
    rw [if_neg (by decide), if_pos (by omega)]
    have : ((n : Int) - 1 - -1 - 1) / (- -1) + 1 = n := by
      rw [show (- -1 : Int) = 1 from rfl, Int.ediv_one]
      omega
    rw [this]
    rfl
  show wpAny _ _ (pure (((n : Int) - 1), (-1 : Int), Builtin.Slice.slicePlaces ((n : Int) - 1) (-1) (-1))) _ _ s
  rw [e]
  exact wpAny_pure h
theorem rev_tuple {t sl : Addr} {items : Array Value} {vs : Value} {Q : Value → Shared → Prop} (hn : 0 < items.size) (ht : IsTup s.heap t items) (hs : s.heap.IsSliceOf sl .none .none vs) (ps : IsPart vs (some (-1)))
    (h : Q (.ref s.heap.objs.size) { s with heap := s.heap.push { cls := .type "tuple", data := .seq items.toList.reverse.toArray } }) (hsz : items.size ≤ sizeLine) : wpAny (model prog w) A (getItem (.ref t) (.ref sl)) Q E s := by
  have hz : sizeOk (.seq items.toList.reverse.toArray) := by
    show items.toList.reverse.toArray.size ≤ sizeLine
    rw [List.size_toArray, List.length_reverse, Array.length_toList]
    exact hsz
  obtain ⟨os, hos, hcs, hds⟩ := id hs
  have hTs : s.TypeIs (.ref sl) "slice" := ⟨os, hos, hcs⟩
  unfold getItem
  try with_reducible refine wpAny_holding ?_
  first | refine wpAny_bind (wpAny_pure ?_) | skip
  refine wpAny_bind (wpAny_sequenceKey ht.typeIs (by decide) ?_)
  refine wpAny_bind (wpAny_callSpecial?_slot (name := Str.ofString "__getitem__") ht.typeIs PyProof.Rows.slot_tuple_getitem
    (wpAny_call_entry PyProof.Rows.slot_tuple_getitem ht.typeIs entry_tuple_getitem ?_ (args_tuple_getitem _ _)))
  show wpAny _ _ (Builtin.Tuple.tupleItemsOf (.ref t) >>= _) _ _ s
  refine wpAny_bind (PyProof.Rows.tupleItemsOf_ ht ?_)
  refine wpAny_bind (wpAny_typeOf hTs ?_)
  rw [if_pos (by decide)]
  refine wpAny_bind (rev_applied hn hs ps ?_)
  have no : ¬ ((((items.size : Int) - 1) == 0 && (-1 : Int) == 1 && items.size == items.size) = true) := by simp
  show wpAny _ _ (if (((items.size : Int) - 1) == 0 && (-1 : Int) == 1 && items.size == items.size) = true then _ else _) _ _ s
  rw [if_neg no, pick_rev]
  first
    | exact wpAny_bind (m := Builtin.Tuple.tupleExact _) (wpAny_newObj_type (wpAny_pure ⟨_, rfl, wpAny_pure h⟩) hz)
    | exact wpAny_bind (m := Builtin.Tuple.tupleExact _) (wpAny_newObj_type (wpAny_bind (wpAny_pure (wpAny_pure ⟨_, rfl, wpAny_pure h⟩))) hz)
    | exact wpAny_bind (wpAny_bind (m := Builtin.Tuple.tupleExact _) (wpAny_newObj_type (wpAny_pure (wpAny_pure ⟨_, rfl, wpAny_pure h⟩)) hz))
    | exact wpAny_bind (wpAny_bind (m := Builtin.Tuple.tupleExact _) (wpAny_newObj_type (wpAny_pure ⟨_, rfl, wpAny_pure h⟩) hz))
end
/-- t[::-1] of a tuple -/
def tRevT (te : TE) : TE := fun σ H Q => te σ H fun x H1 => ∃ a xs, x = .ref a ∧ H1 a = some (.tup xs) ∧ 0 < xs.length ∧ ∀ p, H1 p = none → Q (.ref p) (upd H1 p (.tup xs.reverse))
theorem pe_revT {X : Cx} {e : Expr} {te : TE} {k : Nat} {p1 p2 p3 pos : Pos} (he : PE X e te) : PE X (.Subscript e (.Slice none none (some (.UnaryOp .USub (.Constant (.int 1) k p1) p2)) p3) pos) (tRevT te) := by
  constructor
  intro pins s σ H Q I h
  refine Subscript_ (thn (he.run pins s σ H _ I h) fun v s1 ⟨x, H1, I1, r1, a, xs, ex, hx, hn, q⟩ => ?_)
  subst ex
  cases r1
  have hst : PO X (some (.UnaryOp .USub (.Constant (.int 1) k p1) p2)) (tPart (tUn (rU fun i => .int (-i)) (tC (.int 1)))) := po_some (pe_un un_neg pe_int)
  refine wpAny_Slice (thn (po_none.run pins s1 σ H1 (fun o H2 => o = none ∧ H2 = H1) I1 ⟨rfl, rfl⟩) fun vl s2 ⟨l, H2, I2, pl, el, e2⟩ => ?_)
  subst el e2
  refine thn (po_none.run pins s2 σ H2 (fun o H3 => o = none ∧ H3 = H2) I2 ⟨rfl, rfl⟩) fun vu s3 ⟨u, H3, I3, pu, eu, e3⟩ => ?_
  subst eu e3
  refine thn (hst.run pins s3 σ H3 (fun o H4 => o = some (-1) ∧ H4 = H3) I3 ⟨1, rfl, -1, rfl, rfl, rfl⟩) fun vs s4 ⟨o, H4, I4, ps, eo, e4⟩ => ?_
  subst eo e4
  cases pl
  cases pu
  have I5 : Inv X pins σ H4 { s4 with heap := s4.heap.push { cls := .type "slice", data := .fields #[.none, .none, vs] } } := I4.kept (t' := s4.toks) fun b ob q => Heap.get?_push_of_some _ q
  obtain ⟨its, r, ht, hz⟩ := I5.tuple (SqT.of hx)
  have hlen := r.length
  show wpAny (model X.prog X.w) X.A (subscriptTail e (.Slice none none (some (.UnaryOp .USub (.Constant (.int 1) k p1) p2)) p3) (.ref a) (.ref s4.heap.objs.size)) (EP X pins σ Q) X.xe { s4 with heap := s4.heap.push { cls := .type "slice", data := .fields #[.none, .none, vs] } }
  refine tail_any (ops := [.ref a, .ref s4.heap.objs.size]) ht.typeIs (PyProof.Rows.slot_tuple_getitem.lookup) ?_ (by with_unfolding_all rfl)
  refine rev_tuple (by rw [List.size_toArray]; omega) ht (Heap.IsSliceOf.new _ .none .none vs) ps ?_ (by rw [List.size_toArray]; omega)
  refine ⟨.ref _, _, I5.laid (t' := s4.toks) (o := .tup xs.reverse) (fun b ob q => Heap.get?_push_of_some _ q) (Nat.le_refl _) ?_, rfl, q _ (I5.hok.fresh (Nat.le_refl _))⟩
  exact ⟨by rw [List.length_reverse]; exact hz, _, r.reverse, IsTup.new _ _⟩
end K2
end
section
set_option Elab.async false
set_option maxRecDepth 100000
set_option linter.all false
/-! what repr asks of data -/
namespace K2
open PySem L2
/-! what repr and == ask of them -/
structure DFit (d : PyData) (dep wt : Nat) : Prop where
  show_ : d.showable = true
  nod : d.hasDict = false
  dep : d.depth ≤ dep
  wt : d.weight ≤ wt
  short : PyData.intsShort 13 d = true
  lay : d.canLay0 = true
structure DsFit (ds : List PyData) (dep wt : Nat) : Prop where
  show_ : PyData.showableAll ds = true
  nod : PyData.hasDictAll ds = false
  dep : PyData.depthAll ds ≤ dep
  wt : PyData.weightAll ds ≤ wt
  short : PyData.intsShortAll 13 ds = true
  lay : PyData.canLayAll0 ds = true
theorem DsFit.nil : DsFit [] 0 0 := ⟨rfl, rfl, Nat.le_refl _, Nat.le_refl _, rfl, rfl⟩
theorem DsFit.cons {d : PyData} {ds : List PyData} {e w w' : Nat} (h : DFit d e w) (k : DsFit ds e w') : DsFit (d :: ds) e (w + 1 + w') := by
  refine ⟨?_, ?_, ?_, ?_, ?_, ?_⟩
  · show (d.showable && PyData.showableAll ds) = true; rw [h.show_, k.show_]; rfl
  · show (d.hasDict || PyData.hasDictAll ds) = false; rw [h.nod, k.nod]; rfl
  · show max d.depth (PyData.depthAll ds) ≤ e; exact Nat.max_le.mpr ⟨h.dep, k.dep⟩
  · show d.weight + 1 + PyData.weightAll ds ≤ w + 1 + w'; have := h.wt; have := k.wt; omega
  · show (PyData.intsShort 13 d && PyData.intsShortAll 13 ds) = true; rw [h.short, k.short]; rfl
  · show (d.canLay0 && PyData.canLayAll0 ds) = true; rw [h.lay, k.lay]; rfl
theorem DsFit.mono {ds : List PyData} {e e' w w' : Nat} (h : DsFit ds e w) (he : e ≤ e') (hw : w ≤ w') : DsFit ds e' w' := ⟨h.show_, h.nod, Nat.le_trans h.dep he, Nat.le_trans h.wt hw, h.short, h.lay⟩
theorem DsFit.all {α : Type} {D : α → PyData} {e w : Nat} : ∀ {cs : List α}, (∀ c ∈ cs, DFit (D c) e w) → DsFit (cs.map D) e ((w + 1) * cs.length)
  | [], _ => DsFit.nil.mono (Nat.zero_le _) (Nat.zero_le _)
  | c :: cs, h => (DsFit.cons (h c List.mem_cons_self) (DsFit.all fun x hx => h x (List.mem_cons_of_mem _ hx))).mono (Nat.le_refl _) (by rw [List.length_cons, Nat.mul_add]; omega)
theorem DsFit.tup {ds : List PyData} {e w : Nat} (h : DsFit ds e w) : DFit (.tuple ds) (e + 1) w := by
  refine ⟨h.show_, h.nod, ?_, h.wt, h.short, h.lay⟩
  show PyData.depthAll ds + 1 ≤ e + 1
  have := h.dep
  omega
theorem DsFit.lst {ds : List PyData} {e w : Nat} (h : DsFit ds e w) : DFit (.list ds) (e + 1) w := by
  refine ⟨h.show_, h.nod, ?_, h.wt, h.short, h.lay⟩
  show PyData.depthAll ds + 1 ≤ e + 1
  have := h.dep
  omega
theorem str_fit {x : Str} (h : sOk x = true ∧ x.length ≤ 8) : DFit (.str x) 0 8 := ⟨rfl, rfl, Nat.le_refl _, h.2, rfl, h.1⟩
theorem non_fit : DFit .none 0 8 := ⟨rfl, rfl, Nat.le_refl _, Nat.zero_le _, rfl, rfl⟩
theorem int_all : ∀ n : Fin 201, PyData.intsShort 13 (.int (n.val : Nat)) = true ∧ PyData.weight (.int (n.val : Nat)) ≤ 8 ∧ PyData.showable (.int (n.val : Nat)) = true := by decide +kernel
theorem int_fit {n : Nat} (h : n ≤ 200) : DFit (.int (n : Nat)) 0 8 := ⟨(int_all ⟨n, by omega⟩).2.2, rfl, Nat.le_refl _, (int_all ⟨n, by omega⟩).2.1, (int_all ⟨n, by omega⟩).1, rfl⟩
theorem DFit.fits {d : PyData} {w : Nat} (h : DFit d 8 w) (hw : w ≤ 2 ^ 20) : d.shown.length ≤ sizeLine := by
  refine PyData.shown_fits_of_layable0 (B := 13) (by decide) (by decide) ?_ h.short
  show (d.canLay0 && decide (d.depth ≤ 64) && decide (d.weight ≤ 2 ^ 20)) = true
  rw [h.lay]
  have := h.dep
  have := h.wt
  simp only [Bool.true_and, Bool.and_eq_true, decide_eq_true_eq]
  omega
theorem DFit.mono {d : PyData} {e e' w w' : Nat} (h : DFit d e w) (he : e ≤ e') (hw : w ≤ w') : DFit d e' w' := ⟨h.show_, h.nod, Nat.le_trans h.dep he, Nat.le_trans h.wt hw, h.short, h.lay⟩

theorem strs_fit67 {xs : List Str} (h : ∀ x ∈ xs, sOk x = true ∧ x.length ≤ 8) : DsFit (xs.map PyData.str) 0 (9 * xs.length) := (DsFit.all (e := 0) (w := 8) fun y hy => str_fit (h y hy))
theorem refs_dp {K : PySem.W.Frag} {H : Hp} {g : Nat → List Str} : ∀ (fs : List Addr) (k : Nat), (∀ j a, fs[j]? = some a → H a = some (.tup ((g (k + j)).map V.str))) → DpAll K H (fs.map V.ref) ((List.range' k fs.length).map fun j => tD (g j))
  | [], k, _ => .nil
  | a :: fs, k, h => by
    refine .cons (.tup (SqT.of (h 0 a rfl)) (strs_dp K H _)) ?_
    refine refs_dp fs (k + 1) fun j b e => ?_
    have := h (j + 1) b (by rw [List.getElem?_cons_succ]; exact e)
    rwa [show k + (j + 1) = k + 1 + j by omega] at this
theorem cutV_drop (xs : List Str) (k : Nat) : cutV (xs.map V.str) (some ((k : Nat) : Int)) none = (xs.drop k).map V.str := by
  unfold cutV
  rw [HT.sIx_nat, HT.sIx_none, List.length_map]
  by_cases h : k ≤ xs.length
  · rw [Nat.min_eq_left h, List.map_drop]
    exact List.take_of_length_le (by rw [List.length_drop, List.length_map]; omega)
  · rw [Nat.min_eq_right (by omega), Nat.sub_self, List.take_zero, List.drop_of_length_le (by omega)]
    rfl
theorem meet_one (tb : Tb) (x : Str) (ns : List Str) : meet tb [x] ns = !((ns.filter fun y => decide (y ∈ look tb x)).map V.str).isEmpty := by
  unfold meet
  rw [List.map_cons, List.map_nil, List.flatten_cons, List.flatten_nil, List.append_nil]
  induction ns with
  | nil => rfl
  | cons n ns ih =>
    rw [List.map_cons, List.any_cons]
    by_cases h : n ∈ look tb x
    · rw [List.filter_cons_of_pos (by simpa using h)]
      simp [h]
    · rw [List.filter_cons_of_neg (by simpa using h), ih]
      simp [h]
end K2
end
section
set_option Elab.async false
set_option maxRecDepth 100000
set_option linter.all false
/-! chains of causes, what is due of one -/
namespace K2
open PySem L2 SupX NdefX PySem.Spec PyProof.Rows
abbrev sCh : Stmt := top 28
abbrev sDu : Stmt := top 29
abbrev nCh : List Str := ["_law_pen_here", "_law_line", "_law_names", "_law_rest", "_law_at", "_law_mark", "_law_ahead", "_law_some_here", "_law_found"]
abbrev nDu : List Str := ["_law_line", "_law_rest", "_law_places", "_law_k"]
section
variable {X : Cx}
theorem op_neT0 (hu : X.A.units < cLine) : OpR X (compareOp .NotEq) (rNeT0 X.K) := by
  intro pins s σ H x y v u Q I rx ry h
  obtain ⟨a, b, xs, rfl, rfl, ha, hb, q⟩ := h
  cases rx
  cases ry
  obtain ⟨as, ra, ta, _⟩ := I.tuple ha
  obtain ⟨bs, rb, tb, _⟩ := I.tuple hb
  cases rb
  have fin : EP X pins σ Q (.bool (!xs.isEmpty)) s := ⟨.bl _, H, I, rfl, q⟩
  show wpAny (model X.prog X.w) X.A (richCompare .NotEq (.ref a) (.ref b)) (EP X pins σ Q) X.xe s
  have := SeqAt.RcNeAt.tuples (A := X.A) (s := s) (e := fun _ => true) ta tb hu (fun j h1 h2 => absurd h2 (Nat.not_lt_zero j))
  cases ra with
  | nil => exact this _ _ _ _ fin
  | cons r t => exact this _ _ _ _ fin
/-! ### repr of None or of data -/
def rReprU (K : PySem.W.Frag) : List V → Hp → VK → Prop := fun xs H Q => (xs = [V.non] ∧ Q (.str "None") H) ∨ rReprD K xs H Q
theorem call_reprU (gu : X.A.guards = some []) (hu : X.A.units + 64 < cLine) : CallR X (.builtin "repr") (rReprU X.K) := by
  intro pins s σ H xs us Q I r h
  rcases h with ⟨rfl, q⟩ | h
  · obtain ⟨u, rfl, ru⟩ := r.one
    obtain rfl : u = Value.none := ru
    exact PySem.P.repr_of_none ⟨.str _, H, I.tok _, ⟨_, rfl⟩, q⟩
  · exact call_reprD gu hu pins s σ H xs us Q I r h
theorem op_eqDK {K' : PySem.W.Frag} (hK : X.K = K') (hu : X.A.units + 64 < cLine) : OpR X (compareOp .Eq) (rEqD K') := by
  subst hK
  exact op_eqD hu
end
theorem cutV_sub (xs : List Str) (lo hi : Option Int) : ∃ ys : List Str, cutV (xs.map V.str) lo hi = ys.map V.str ∧ (∀ y ∈ ys, y ∈ xs) ∧ ys.length ≤ xs.length := by
  unfold cutV
  refine ⟨(xs.drop _).take _, by rw [List.map_take, List.map_drop], fun y hy => List.mem_of_mem_drop (List.mem_of_mem_take hy), ?_⟩
  rw [List.length_take, List.length_drop]
  omega
/-- a tuple of texts, each of them right -/
def TS (H : Hp) (S : Str → Prop) (n : Nat) (v : V) : Prop := ∃ (a : Addr) (xs : List Str), v = .ref a ∧ H a = some (.tup (xs.map V.str)) ∧ (∀ x ∈ xs, S x) ∧ xs.length ≤ n
theorem TS.same {H H' : Hp} {S : Str → Prop} {n : Nat} {v : V} (h : TS H S n v) (s : Same H H') : TS H' S n v := by
  obtain ⟨a, xs, e, h1, h2⟩ := h
  exact ⟨a, xs, e, s _ _ h1, h2⟩
theorem TS.kp {H H' : Hp} {S : Str → Prop} {n m : Nat} {v : V} {p c : Addr} {ns : List Int} (h : TS H S n v) (P : Pen H p c ns m) (k : Keep p H H') : TS H' S n v := by
  obtain ⟨a, xs, e, h1, h2⟩ := h
  exact ⟨a, xs, e, k _ _ h1 (P.tup_ne h1), h2⟩
theorem TS.mk {H : Hp} {S : Str → Prop} {n : Nat} {a : Addr} {xs : List Str} (h : H a = some (.tup (xs.map V.str))) (hs : ∀ x ∈ xs, S x) (hl : xs.length ≤ n) : TS H S n (.ref a) := ⟨a, xs, rfl, h, hs, hl⟩
structure ChOk (ch : List Str) : Prop where
  ne : ch ≠ []
  le : ch.length ≤ 60
def spCh : Sp := fun vs H Q _ => ∃ (p c lt nl : Addr) (ns : List Int) (n : Nat) (line names : List Str), vs = [.ref p, .ref lt, .ref nl] ∧ Pen H p c ns n ∧ n + 20 ≤ 100000 ∧ H lt = some (.tup (line.map V.str)) ∧ line ≠ [] ∧ line.length ≤ 12 ∧ H nl = some (.lst (names.map V.str)) ∧ names ≠ [] ∧ names.length ≤ 1000 ∧
  ∀ (a : Addr) (ch : List Str) (H' : Hp), H' a = some (.tup (ch.map V.str)) → ChOk ch → (∀ x ∈ ch, x ∈ line ∨ x ∈ names) → Keep p H H' → Pen H' p c ns (n + 10) → Q (.ref a) H'
def spDu : Sp := fun vs H Q _ => ∃ (lt t : Addr) (line : List Str) (x : Str) (xs : List Str), vs = [.ref lt, .ref t] ∧ H lt = some (.tup (line.map V.str)) ∧ H t = some (.tup ((x :: xs).map V.str)) ∧ line.length ≤ 20 ∧ (∀ y ∈ line, sOk y = true) ∧ (∀ y ∈ x :: xs, sOk y = true) ∧
  ∀ a H', Same H H' → H' a = some (.tup [.str x, .int (duI line (x :: xs))]) → Q (.ref a) H'
section
variable {P : Program} {w : World} {K : PySem.W.Frag} {mg : Str → Option Value} {base : Heap}
theorem scCh : FnScope nCh ["_law_pen_here", "_law_line", "_law_names"] (defScope sCh) := ⟨rfl, rfl, rfl, by decide +kernel, rfl, by decide +kernel, by decide +kernel⟩
theorem scDu : FnScope nDu ["_law_line", "_law_rest"] (defScope sDu) := ⟨rfl, rfl, rfl, by decide +kernel, rfl, by decide +kernel, by decide +kernel⟩
theorem ok_du {f : Addr} {fd : FuncData} (F : Fun K "_law_due" "_law_due" sDu f fd) (T : Bi mg) : FnOk P w K mg base CX0 1 f fd ["_law_line", "_law_rest"] spDu := by
  refine F.ok scDu (fun vs H Q E h => ?_) (fun cdv A outer s H vs Q E hr h => ?_)
  · obtain ⟨lt, t, line, x, xs, rfl, _⟩ := h
    rfl
  · obtain ⟨lt, t, line, x, xs, rfl, hlt, ht, l20, ok1, ok2, k⟩ := h
    refine ⟨_, (pss_cons (ps_setLc (i := 2) (own := [("_law_k", 3)]) (g := gName 3)  rfl scDu.nd rfl rfl (sw_true rfl rfl rfl (by decide +kernel)) (pi_range1 rfl T.range (pa_cons (pe_callB call_len_seq (by rfl) T.len PySem.boot_len (pa_cons (pv 0) pa_nil)) pa_nil)) (blkOk_by (N := nDu) (sc := defScope sDu) (by decide +kernel)) (fun _ _ _ _ _ => pg_name (i := 3) scDu.nd rfl (Or.inl rfl)) (fun _ _ _ _ _ => pts_one (pt_cmpR (op_eqDK (K' := K) rfl hr.units) (pe_slice sl_tup2 (pv 0) (po_some (pv 3)) po_none) (pv 1) (nomark _))) (fun _ _ _ _ _ => pv 3))
      (pss_one (ps_ret (pe_tup (pa_cons (pe_ix ix_tup (pv 1) pe_int (fun _ _ => rfl)) (pa_cons (pe_ifExp (pt_cmpR (op_neL0 (u0_of hr)) (pv 2) (pe_lst pa_nil) (nomark _)) (pe_ix ix_list (pv 2) pe_int (fun _ _ => rfl)) (pe_un un_neg pe_int)) pa_nil)))))), ?_⟩
    refine ⟨_, rfl, lt, _, rfl, .inr (SqT.of hlt), _, rfl, by rw [List.length_map]; omega, by rw [List.length_map]; omega, fun D hD => ?_⟩
    refine lc_range (lo := 0) (n := ((line.map V.str).length : Int).toNat) (fun i Hc => Hc D = some (.lst (((List.range i).filter fun j => decide (line.drop j = x :: xs)).map fun j => V.int ((j : Nat) : Int))) ∧ Same H Hc) ?_ ?_ ?_
    · exact ⟨upd_same, (Same.refl H).put hD⟩
    · rintro i Hc hi ⟨hDc, sc⟩
      rw [List.length_map] at hi
      refine ⟨rfl, _, rfl, _, rfl, _, rfl, lt, _, rfl, sc _ _ hlt, fun q H5 s5 hq => ?_⟩
      rw [show (0 : Int) + (i : Int) = ((i : Nat) : Int) by omega, cutV_drop] at hq
      refine ⟨_, rfl, tD (line.drop i), tD (x :: xs), .tup (SqT.of hq) (strs_dp _ _ _), .tup (SqT.of (s5 _ _ (sc _ _ ht))) (strs_dp _ _ _), tD_shaped _ fun y hy => ok1 y (List.mem_of_mem_drop hy), tD_shaped _ ok2, _, rfl, ?_⟩
      rw [show PyData.eqv (tD (line.drop i)) (tD (x :: xs)) = decide (line.drop i = x :: xs) from strs_eqv _ _]
      have hD5 := s5 _ _ hDc
      by_cases h1 : line.drop i = x :: xs
      · rw [decide_eq_true h1]
        refine iteT ⟨_, rfl, _, hD5, ?_, ?_, (sc.trans s5).put hD⟩
        · rw [List.length_map]
          have := List.length_filter_le (fun j => decide (line.drop j = x :: xs)) (List.range i)
          rw [List.length_range] at this
          show _ < 16777216
          omega
        · rw [upd_same, List.range_succ, List.filter_append, List.filter_cons_of_pos (by simpa using h1), List.filter_nil, List.map_append, show (0 : Int) + (i : Int) = ((i : Nat) : Int) by omega]
          rfl
      · rw [decide_eq_false h1]
        refine iteF ⟨?_, sc.trans s5⟩
        rw [List.range_succ, List.filter_append, List.filter_cons_of_neg (by simpa using h1), List.filter_nil, List.append_nil]
        exact hD5
    rintro H2 ⟨hD2, s2⟩
    rw [show ((line.map V.str).length : Int).toNat = line.length by rw [List.length_map]; omega] at hD2
    generalize hfl : (List.range line.length).filter (fun j => decide (line.drop j = x :: xs)) = fl at hD2
    have hmem : ∀ j ∈ fl, j < line.length ∧ line.drop j = x :: xs := fun j hj => by
      rw [← hfl] at hj
      obtain ⟨h1, h2⟩ := List.mem_filter.mp hj
      exact ⟨List.mem_range.mp h1, of_decide_eq_true h2⟩
    have hno : ∀ j, j < line.length → line.drop j = x :: xs → j ∈ fl := fun j h1 h2 => by
      rw [← hfl]
      exact List.mem_filter.mpr ⟨List.mem_range.mpr h1, decide_eq_true h2⟩
    have ht2 := s2 _ _ ht
    refine ⟨_, rfl, t, _, _, _, rfl, rfl, SqT.of ht2, atI_nat (j := 0) rfl, _, rfl, Nat.zero_le _, fun e0 he0 => ⟨D, e0, _, rfl, rfl, SqL.of (by rw [upd_ne (ne_of_none hD2 he0)]; exact hD2), SqL.of upd_same, _, rfl, ?_⟩⟩
    have s3 : Same H2 (upd H2 e0 (.lst [])) := (Same.refl H2).put he0
    have s23 := s2.trans s3
    have hD3 := s3 _ _ hD2
    generalize upd H2 e0 (.lst []) = H3 at s3 s23 hD3 ⊢
    cases fl with
    | nil =>
      refine iteF ⟨_, rfl, (by show 2 ≤ sizeLine; decide), fun a ha => k a _ (s23.put (s23.free ha)) ?_⟩
      have e : duI line (x :: xs) = -1 := by
        unfold duI
        rw [if_neg]
        intro q
        by_cases hl : line.length - (x :: xs).length < line.length
        · have := hno _ hl q
          simp at this
        · have := congrArg List.length q
          rw [List.length_drop, List.length_cons] at this
          rw [List.length_cons] at hl
          omega
      rw [upd_same, e]
    | cons j fl =>
      obtain ⟨h1, h2⟩ := hmem j List.mem_cons_self
      refine iteT ⟨_, rfl, D, _, _, _, rfl, rfl, SqL.of hD3, atI_nat (j := 0) rfl, (by show 2 ≤ sizeLine; decide), fun a ha => k a _ (s23.put (s23.free ha)) ?_⟩
      have ej : line.length - (x :: xs).length = j := by
        have := congrArg List.length h2
        rw [List.length_drop] at this
        omega
      have e : duI line (x :: xs) = ((j : Nat) : Int) := by
        unfold duI
        rw [ej, if_pos h2]
      rw [upd_same, e]
theorem ok_ch {f fD fP : Addr} {fd fdD fdP : FuncData} (F : Fun K "_law_chain" "_law_chain" sCh f fd) (T : Bi mg) (D : Df K mg "_law_draw" sDraw fD fdD ["_law_pen_here", "_law_many"]) (GD : FnOk P w K mg base CX0 1 fD fdD ["_law_pen_here", "_law_many"] spDraw)
    (PK : Df K mg "_law_pick" sPick fP fdP ["_law_pen_here", "_law_some_here"]) (GP : FnOk P w K mg base CX0 2 fP fdP ["_law_pen_here", "_law_some_here"] spPick) : FnOk P w K mg base CX0 3 f fd ["_law_pen_here", "_law_line", "_law_names"] spCh := by
  refine F.ok scCh (fun vs H Q E h => ?_) (fun cdv A outer s H vs Q E hr h => ?_)
  · obtain ⟨p, c, lt, nl, ns, n, line, names, rfl, _⟩ := h
    rfl
  · obtain ⟨p, c, lt, nl, ns, n, line, names, rfl, P0, hn, hlt, lne, l12, hnl, nne, nle, k⟩ := h
    have hr1 : Room 1 _ := hr.mono (by decide)
    have hr2 : Room 2 _ := hr
    refine ⟨_, (pss_cons (ps_set (i := 3) scCh.nd rfl (Or.inl rfl) (pe_slice sl_tup2 (pv 1) (po_some (pe_call GD hr1 (by rfl) D.m D.F.kp D.b .nil pass0 (pa_cons (pv 0) (pa_cons (pe_callB call_len_seq (by rfl) T.len PySem.boot_len (pa_cons (pv 1) pa_nil)) pa_nil)))) po_none))
      (pss_cons (ps_set (i := 4) scCh.nd rfl (Or.inl rfl) (pe_call GD hr1 (by rfl) D.m D.F.kp D.b .nil pass0 (pa_cons (pv 0) (pa_cons (pe_callB call_len_seq (by rfl) T.len PySem.boot_len (pa_cons (pv 3) pa_nil)) pa_nil))))
      (pss_cons (ps_set (i := 5) scCh.nd rfl (Or.inl rfl) (pe_call GP hr2 (by rfl) PK.m PK.F.kp PK.b .nil pass0 (pa_cons (pv 0) (pa_cons (pv 2) pa_nil))))
      (pss_cons (ps_set (i := 6) scCh.nd rfl (Or.inl rfl) (pe_slice sl_tup2 (pv 1) po_none (po_some (pe_call GD hr1 (by rfl) D.m D.F.kp D.b .nil pass0 (pa_cons (pv 0) (pa_cons pe_int pa_nil))))))
      (pss_cons (ps_set (i := 7) scCh.nd rfl (Or.inl rfl) (pe_lst (pa_cons (pv 3) (pa_cons (pv 3) (pa_cons (pv 1) (pa_cons (pe_op op_cat2 (pe_tup (pa_cons (pv 5) pa_nil)) (pv 3)) (pa_cons (pe_op op_cat2 (pv 6) (pv 3)) (pa_cons (pe_op op_cat2 (pe_op op_cat2 (pe_slice sl_tup2 (pv 3) po_none (po_some (pv 4))) (pe_tup (pa_cons (pv 5) pa_nil))) (pe_slice sl_tup2 (pv 3) (po_some (pe_op op_add (pv 4) pe_int)) po_none)) (pa_cons (pe_op op_cat2 (pv 3) (pe_tup (pa_cons (pv 5) pa_nil))) pa_nil)))))))))
      (pss_cons (ps_set (i := 7) scCh.nd rfl (Or.inl rfl) (pe_op op_cat (pv 7) (pe_lst (pa_cons (pe_op op_cat2 (pe_op op_cat2 (pe_slice sl_tup2 (pv 3) po_none (po_some (pv 4))) (pe_slice sl_tup2 (pv 3) (po_some (pv 4)) (po_some (pe_op op_add (pv 4) pe_int)))) (pe_slice sl_tup2 (pv 3) (po_some (pv 4)) po_none)) (pa_cons (pe_op op_cat2 (pe_slice sl_tup2 (pv 3) po_none (po_some (pv 4))) (pe_slice sl_tup2 (pv 3) (po_some (pe_op op_add (pv 4) pe_int)) po_none)) (pa_cons (pe_tup (pa_cons (pv 5) (pa_cons (pv 5) pa_nil))) pa_nil))))))
      (pss_cons (ps_set (i := 8) scCh.nd rfl (Or.inl rfl) (pe_call GP hr2 (by rfl) PK.m PK.F.kp PK.b .nil pass0 (pa_cons (pv 0) (pa_cons (pv 7) pa_nil))))
      (pss_one (ps_ret (pe_ifExp (pt_cmpR (op_neT0 (u0_of hr)) (pv 8) (pe_tup pa_nil) (nomark _)) (pv 8) (pe_tup (pa_cons (pv 5) pa_nil)))))))))))), ?_⟩
    have hl0 := List.length_pos_iff.mpr lne
    have ltp := P0.tup_ne hlt
    have nlp := P0.lst_ne hnl
    refine ⟨_, rfl, _, rfl, _, rfl, lt, _, rfl, .inr (SqT.of hlt), p, c, ns, n, _, rfl, P0, by omega, by rw [List.length_map]; omega, by rw [List.length_map]; omega, fun dv H1 d0 d1 k1 P1 => ⟨_, rfl, ?_⟩⟩
    obtain ⟨kd, rfl⟩ : ∃ j : Nat, dv = (j : Int) := ⟨dv.toNat, (Int.toNat_of_nonneg d0).symm⟩
    rw [List.length_map] at d1
    have hlt1 := k1 _ _ hlt ltp
    refine ⟨lt, _, rfl, hlt1, fun r H2 s2 hr0 => ?_⟩
    rw [cutV_drop] at hr0
    have rl : (line.drop kd).length = line.length - kd := List.length_drop
    have rS : ∀ x ∈ line.drop kd, x ∈ line := fun x hx => List.mem_of_mem_drop hx
    generalize line.drop kd = rest at hr0 rl rS
    have r12 : rest.length ≤ 12 := by omega
    have r1 : 1 ≤ rest.length := by omega
    have P2 := P1.same s2
    have k2 := k1.trans s2.keep
    refine ⟨_, rfl, _, rfl, r, _, rfl, .inr (SqT.of hr0), p, c, ns, n + 1, _, rfl, P2, by omega, by rw [List.length_map]; omega, by rw [List.length_map]; omega, fun da H3 a0 a1 k3 P3 => ?_⟩
    obtain ⟨ka, rfl⟩ : ∃ j : Nat, da = (j : Int) := ⟨da.toNat, (Int.toNat_of_nonneg a0).symm⟩
    have k03 := k2.trans k3
    have ne : names.map V.str ≠ [] := fun e => nne (List.map_eq_nil_iff.mp e)
    refine ⟨_, rfl, _, rfl, p, c, ns, n + 1 + 1, _, _, rfl, P3, by omega, .inl ⟨nl, rfl, nlp, k03 _ _ hnl nlp⟩, ne, by rw [List.length_map]; exact nle, fun jm vm H4 hm k4 P4 => ?_⟩
    obtain ⟨mk, hmk, rfl⟩ := List.mem_map.mp (List.mem_of_getElem? hm)
    have k04 := k03.trans k4
    refine ⟨_, rfl, _, rfl, p, c, ns, n + 1 + 1 + 1, 3, rfl, P4, by omega, by decide, by decide, fun dv2 H5 b0 b1 k5 P5 => ⟨_, rfl, lt, _, rfl, (k04.trans k5) _ _ hlt ltp, fun ah H6 s6 hah => ?_⟩⟩
    have k06 := (k04.trans k5).trans s6.keep
    have P6 := P5.same s6
    obtain ⟨ahs, eah, ahS, ahl⟩ := cutV_sub line none (some dv2)
    rw [eah] at hah
    have hr6 : H6 r = some (.tup (rest.map V.str)) := s6 _ _ (k5 _ _ (k4 _ _ (k3 _ _ hr0 (P2.tup_ne hr0)) (P3.tup_ne (k3 _ _ hr0 (P2.tup_ne hr0)))) (P4.tup_ne (k4 _ _ (k3 _ _ hr0 (P2.tup_ne hr0)) (P3.tup_ne (k3 _ _ hr0 (P2.tup_ne hr0))))))
    have hl6 := k06 _ _ hlt ltp
    clear hr0 k1 k2 k3 k4 k5 k03 k04 P1 P2 P3 P4 P5 s2 s6 hlt1 hm eah
    let S : Str → Prop := fun x => x ∈ line ∨ x ∈ names
    have Sr : ∀ x ∈ rest, S x := fun x hx => .inl (rS x hx)
    have Sl : ∀ x ∈ line, S x := fun x hx => .inl hx
    have Sa : ∀ x ∈ ahs, S x := fun x hx => .inl (ahS x hx)
    have Sm : ∀ x ∈ [mk], S x := fun x hx => by rw [List.mem_singleton.mp hx]; exact .inr hmk
    have Sapp : ∀ {xs ys : List Str}, (∀ x ∈ xs, S x) → (∀ x ∈ ys, S x) → ∀ x ∈ xs ++ ys, S x := fun h1 h2 x hx => (List.mem_append.mp hx).elim (h1 x) (h2 x)
    have cut : ∀ (lo hi : Option Int), ∃ ys : List Str, cutV (rest.map V.str) lo hi = ys.map V.str ∧ (∀ y ∈ ys, S y) ∧ ys.length ≤ 12 := fun lo hi => by
      obtain ⟨ys, e, s1, l1⟩ := cutV_sub rest lo hi
      exact ⟨ys, e, fun y hy => Sr y (s1 y hy), by omega⟩
    have sz : ∀ {xs ys : List Str}, xs.length ≤ 24 → ys.length ≤ 24 → (xs.map V.str).length + (ys.map V.str).length ≤ sizeLine := fun h1 h2 => by rw [List.length_map, List.length_map]; show _ ≤ 16777216; omega
    -- (mark,) + rest
    refine ⟨_, rfl, _, rfl, _, rfl, _, rfl, (by show 1 ≤ sizeLine; decide), fun t1 ht1 => ?_⟩
    have s7 : Same H6 (upd H6 t1 (.tup [.str mk])) := (Same.refl H6).put ht1
    have e7 : (upd H6 t1 (.tup [.str mk])) t1 = some (.tup ([mk].map V.str)) := upd_same
    generalize upd H6 t1 (.tup [.str mk]) = H7 at s7 e7 ⊢
    refine ⟨_, rfl, t1, r, _, _, rfl, rfl, e7, s7 _ _ hr6, sz (by show 1 ≤ 24; decide) (by omega), fun a1 H8 s8 ha1 => ?_⟩
    rw [← List.map_append] at ha1
    have s68 := s7.trans s8
    -- ahead + rest
    refine ⟨_, rfl, _, rfl, ah, r, _, _, rfl, rfl, s68 _ _ hah, s68 _ _ hr6, sz (by omega) (by omega), fun a2 H9 s9 ha2 => ?_⟩
    rw [← List.map_append] at ha2
    have s69 := s68.trans s9
    -- rest[:at] + (mark,) + rest[at + 1:]
    refine ⟨_, rfl, _, rfl, _, rfl, r, _, rfl, s69 _ _ hr6, fun b1' Ha sa hb1 => ?_⟩
    obtain ⟨y1, e1, S1, l1⟩ := cut none (some (ka : Int))
    rw [e1] at hb1
    have s6a := s69.trans sa
    refine ⟨_, rfl, (by show 1 ≤ sizeLine; decide), fun t2 ht2 => ?_⟩
    have sb : Same Ha (upd Ha t2 (.tup [.str mk])) := (Same.refl Ha).put ht2
    have eb : (upd Ha t2 (.tup [.str mk])) t2 = some (.tup ([mk].map V.str)) := upd_same
    generalize upd Ha t2 (.tup [.str mk]) = Hb at sb eb ⊢
    refine ⟨b1', t2, _, _, rfl, rfl, sb _ _ hb1, eb, sz (by omega) (by show 1 ≤ 24; decide), fun b2' Hc sc hb2 => ?_⟩
    rw [← List.map_append] at hb2
    have s6c := (s6a.trans sb).trans sc
    refine ⟨_, rfl, _, rfl, _, _, rfl, rfl, _, rfl, r, _, rfl, s6c _ _ hr6, fun b3' Hd sd hb3 => ?_⟩
    obtain ⟨y2, e2, S2, l2⟩ := cut (some ((ka : Int) + 1)) none
    rw [e2] at hb3
    refine ⟨b2', b3', _, _, rfl, rfl, sd _ _ hb2, hb3, sz (by rw [List.length_append]; show _ + 1 ≤ 24; omega) (by omega), fun a3 He se ha3 => ?_⟩
    rw [← List.map_append] at ha3
    have s6e := (s6c.trans sd).trans se
    -- rest + (mark,)
    refine ⟨_, rfl, _, rfl, (by show 1 ≤ sizeLine; decide), fun t3 ht3 => ?_⟩
    have sf : Same He (upd He t3 (.tup [.str mk])) := (Same.refl He).put ht3
    have ef : (upd He t3 (.tup [.str mk])) t3 = some (.tup ([mk].map V.str)) := upd_same
    generalize upd He t3 (.tup [.str mk]) = Hf at sf ef ⊢
    refine ⟨r, t3, _, _, rfl, rfl, sf _ _ (s6e _ _ hr6), ef, sz (by omega) (by show 1 ≤ 24; decide), fun a4 Hg sg ha4 => ⟨(by show 7 ≤ sizeLine; decide), fun l7 hl7 => ?_⟩⟩
    rw [← List.map_append] at ha4
    have s6g := (s6e.trans sf).trans sg
    have T0 : TS Hg S 60 (.ref r) := .mk (s6g _ _ hr6) Sr (by omega)
    have T1 : TS Hg S 60 (.ref lt) := .mk (s6g _ _ hl6) Sl (by omega)
    have T2 : TS Hg S 60 (.ref a1) := .mk ((s9.trans (sa.trans (sb.trans (sc.trans (sd.trans (se.trans (sf.trans sg))))))) _ _ ha1) (Sapp Sm Sr) (by rw [List.length_append]; show 1 + _ ≤ 60; omega)
    have T3 : TS Hg S 60 (.ref a2) := .mk ((sa.trans (sb.trans (sc.trans (sd.trans (se.trans (sf.trans sg)))))) _ _ ha2) (Sapp Sa Sr) (by rw [List.length_append]; omega)
    have T4 : TS Hg S 60 (.ref a3) := .mk ((sf.trans sg) _ _ ha3) (Sapp (Sapp S1 Sm) S2) (by rw [List.length_append, List.length_append]; show _ + 1 + _ ≤ 60; omega)
    have T5 : TS Hg S 60 (.ref a4) := .mk ha4 (Sapp Sr Sm) (by rw [List.length_append]; show _ + 1 ≤ 60; omega)
    have sh : Same Hg (upd Hg l7 (.lst [.ref r, .ref r, .ref lt, .ref a1, .ref a2, .ref a3, .ref a4])) := (Same.refl Hg).put hl7
    have eh : (upd Hg l7 (.lst [.ref r, .ref r, .ref lt, .ref a1, .ref a2, .ref a3, .ref a4])) l7 = some (.lst [.ref r, .ref r, .ref lt, .ref a1, .ref a2, .ref a3, .ref a4]) := upd_same
    have TL : ∀ v ∈ [V.ref r, .ref r, .ref lt, .ref a1, .ref a2, .ref a3, .ref a4], TS Hg S 60 v := fun v hv => by
      simp only [List.mem_cons, List.not_mem_nil, or_false] at hv
      rcases hv with rfl | rfl | rfl | rfl | rfl | rfl | rfl <;> assumption
    have ll : [V.ref r, .ref r, .ref lt, .ref a1, .ref a2, .ref a3, .ref a4].length = 7 := rfl
    generalize [V.ref r, .ref r, .ref lt, .ref a1, .ref a2, .ref a3, .ref a4] = L1 at sh eh TL ll ⊢
    generalize upd Hg l7 (.lst L1) = Hh at sh eh ⊢
    have s6h := s6g.trans sh
    have hrh := s6h _ _ hr6
    have TL' : ∀ v ∈ L1, TS Hh S 60 v := fun v hv => (TL v hv).same sh
    clear TL T0 T1 T2 T3 T4 T5 s7 e7 s8 s68 s69 sa s6a sb eb sc s6c sd se s6e sf ef sg s6g sh ha1 ha2 ha3 ha4 hb1 hb2 hb3
    -- rest[:at] + rest[at:at + 1] + rest[at:]
    refine ⟨_, rfl, _, rfl, _, rfl, _, rfl, r, _, rfl, hrh, fun b1' Ha sa hb1 => ?_⟩
    rw [e1] at hb1
    refine ⟨_, rfl, _, rfl, _, rfl, _, rfl, _, _, rfl, rfl, _, rfl, r, _, rfl, sa _ _ hrh, fun b2' Hb sb hb2 => ?_⟩
    obtain ⟨y3, e3, S3, l3⟩ := cut (some (ka : Int)) (some ((ka : Int) + 1))
    rw [e3] at hb2
    refine ⟨b1', b2', _, _, rfl, rfl, sb _ _ hb1, hb2, sz (by omega) (by omega), fun b3' Hc sc hb3 => ?_⟩
    rw [← List.map_append] at hb3
    have sac := (sa.trans sb).trans sc
    refine ⟨_, rfl, _, rfl, _, rfl, r, _, rfl, sac _ _ hrh, fun b4' Hd sd hb4 => ?_⟩
    obtain ⟨y4, e4, S4, l4⟩ := cut (some (ka : Int)) none
    rw [e4] at hb4
    refine ⟨b3', b4', _, _, rfl, rfl, sd _ _ hb3, hb4, sz (by rw [List.length_append]; omega) (by omega), fun c1 He se hc1 => ?_⟩
    rw [← List.map_append] at hc1
    have sae := (sac.trans sd).trans se
    -- rest[:at] + rest[at + 1:]
    refine ⟨_, rfl, _, rfl, _, rfl, r, _, rfl, sae _ _ hrh, fun b5' Hf sf hb5 => ?_⟩
    rw [e1] at hb5
    have saf := sae.trans sf
    refine ⟨_, rfl, _, rfl, _, _, rfl, rfl, _, rfl, r, _, rfl, saf _ _ hrh, fun b6' Hg sg hb6 => ?_⟩
    rw [e2] at hb6
    refine ⟨b5', b6', _, _, rfl, rfl, sg _ _ hb5, hb6, sz (by omega) (by omega), fun c2 Hi si hc2 => ?_⟩
    rw [← List.map_append] at hc2
    have sai := (saf.trans sg).trans si
    -- (mark, mark)
    refine ⟨_, rfl, _, rfl, (by show 2 ≤ sizeLine; decide), fun c3 hc3 => ?_⟩
    have sj : Same Hi (upd Hi c3 (.tup [.str mk, .str mk])) := (Same.refl Hi).put hc3
    have ej : (upd Hi c3 (.tup [.str mk, .str mk])) c3 = some (.tup (([mk] ++ [mk]).map V.str)) := upd_same
    generalize upd Hi c3 (.tup [.str mk, .str mk]) = Hj at sj ej ⊢
    refine ⟨(by show 3 ≤ sizeLine; decide), fun l3' hl3 => ?_⟩
    have saj := sai.trans sj
    have U1 : TS Hj S 60 (.ref c1) := .mk ((sf.trans (sg.trans (si.trans sj))) _ _ hc1) (Sapp (Sapp S1 S3) S4) (by rw [List.length_append, List.length_append]; omega)
    have U2 : TS Hj S 60 (.ref c2) := .mk (sj _ _ hc2) (Sapp S1 S2) (by rw [List.length_append]; omega)
    have U3 : TS Hj S 60 (.ref c3) := .mk ej (Sapp Sm Sm) (by show 2 ≤ 60; decide)
    have sk : Same Hj (upd Hj l3' (.lst [.ref c1, .ref c2, .ref c3])) := (Same.refl Hj).put hl3
    have ek : (upd Hj l3' (.lst [.ref c1, .ref c2, .ref c3])) l3' = some (.lst [.ref c1, .ref c2, .ref c3]) := upd_same
    have UL : ∀ v ∈ [V.ref c1, .ref c2, .ref c3], TS Hj S 60 v := fun v hv => by
      simp only [List.mem_cons, List.not_mem_nil, or_false] at hv
      rcases hv with rfl | rfl | rfl <;> assumption
    have ul : [V.ref c1, .ref c2, .ref c3].length = 3 := rfl
    generalize [V.ref c1, .ref c2, .ref c3] = L2' at sk ek UL ul ⊢
    generalize upd Hj l3' (.lst L2') = Hk at sk ek ⊢
    have sak := saj.trans sk
    refine ⟨l7, l3', _, _, rfl, rfl, sak _ _ eh, ek, (by rw [ll, ul]; show 10 ≤ 16777216; decide), fun l9 hl9 => ?_⟩
    have sl : Same Hk (upd Hk l9 (.lst (L1 ++ L2'))) := (Same.refl Hk).put hl9
    have el : (upd Hk l9 (.lst (L1 ++ L2'))) l9 = some (.lst (L1 ++ L2')) := upd_same
    generalize upd Hk l9 (.lst (L1 ++ L2')) = Hl at sl el ⊢
    have sal := sak.trans sl
    have TLL : ∀ v ∈ L1 ++ L2', TS Hl S 60 v := fun v hv => by
      rcases List.mem_append.mp hv with hv | hv
      · exact (TL' v hv).same sal
      · exact (UL v hv).same (sk.trans sl)
    have Pl := P6.same (s6h.trans sal)
    refine ⟨_, rfl, _, rfl, p, c, ns, _, _, _, rfl, Pl, by omega, .inl ⟨l9, rfl, Pl.lst_ne el, el⟩, (fun e => by have := congrArg List.length e; rw [List.length_append, ll] at this; simp at this), (by rw [List.length_append, ll, ul]; show 10 ≤ 1000; decide), fun jv v Hm hv km Pm => ?_⟩
    obtain ⟨a, xs, rfl, ha, hS, hl⟩ := (TLL v (List.mem_of_getElem? hv)).kp Pl km
    have k0m : Keep p H Hm := (k06.trans (s6h.trans sal).keep).trans km
    refine ⟨_, rfl, Nat.zero_le _, fun e0 he0 => ?_⟩
    have sn : Same Hm (upd Hm e0 (.tup [])) := (Same.refl Hm).put he0
    have en : (upd Hm e0 (.tup [])) e0 = some (.tup []) := upd_same
    generalize upd Hm e0 (.tup []) = Hn at sn en ⊢
    refine ⟨a, e0, _, rfl, rfl, SqT.of (sn _ _ ha), SqT.of en, _, rfl, ?_⟩
    have kn := k0m.trans sn.keep
    have Pn := Pm.same sn
    cases xs with
    | nil =>
      refine iteF ⟨_, rfl, (by show 1 ≤ sizeLine; decide), fun t ht => ?_⟩
      exact k t [mk] _ upd_same ⟨by simp, by show 1 ≤ 60; decide⟩ Sm (kn.new (kn.fresh Pn ht)) ((Pn.new ht).mono (by omega))
    | cons x xs => exact iteT ⟨_, rfl, k a (x :: xs) Hn (sn _ _ ha) ⟨by simp, hl⟩ hS kn (Pn.mono (by omega))⟩
end
end K2
end
section
set_option Elab.async false
set_option maxRecDepth 100000
set_option linter.all false
/-! views are right, what is taken is right -/
namespace K2
open PySem L2 SupX NdefX PySem.Spec PyProof.Rows
abbrev sVr : Stmt := top 30
abbrev sTr : Stmt := top 31
abbrev nVr : List Str := ["_law_pen_here", "_law_level", "_law_line", "_law_chain_here", "_law_seen", "_law_k"]
abbrev nTr : List Str := ["_law_pen_here", "_law_level", "_law_rows", "_law_names", "_law_chain_here", "_law_one", "_law_view", "_law_k", "_law_some_here", "_law_due_here", "_law_mark"]
theorem boolsD_nd (bs : List Bool) : (boolsD bs).hasDict = false := bools_nodict bs
theorem boolsD_dep (bs : List Bool) : (boolsD bs).depth ≤ 8 := by
  show PyData.depthAll (bs.map PyData.bool) + 1 ≤ 8
  rw [bools_depth]
  decide
def doesD : PyData := .list [.tuple [], .tuple []]
theorem doesD_shown : doesD.shown = Str.ofString "[(), ()]" := by decide +kernel
/-- a view as data -/
def viewD (nm : Str) (i : Int) : PyData := .tuple [.str nm, .int i]
theorem viewD_dp {K : PySem.W.Frag} {H : Hp} {a : Addr} {nm : Str} {i : Int} (h : H a = some (.tup [.str nm, .int i])) : Dp K H (.ref a) (viewD nm i) := .tup (SqT.of h) (.cons (.str _) (.cons (.int _) .nil))
theorem intm_fit : DFit (.int (-1)) 0 8 := ⟨by decide +kernel, rfl, Nat.le_refl _, by decide +kernel, by decide +kernel, rfl⟩
theorem viewD_fit {nm : Str} {i : Int} (h : sOk nm = true ∧ nm.length ≤ 8) (h1 : -1 ≤ i) (h2 : i ≤ 200) : DFit (viewD nm i) 8 100 := by
  have hi : DFit (.int i) 0 8 := by
    by_cases z : i = -1
    · rw [z]; exact intm_fit
    · obtain ⟨n, rfl⟩ : ∃ n : Nat, i = (n : Int) := ⟨i.toNat, (Int.toNat_of_nonneg (by omega)).symm⟩
      exact int_fit (by omega)
  exact (DsFit.cons (str_fit h) (DsFit.cons hi DsFit.nil)).tup.mono (by decide) (by decide)
/-- repr of data that stands somewhere, or of a text -/
def rReprV (K : PySem.W.Frag) : List V → Hp → VK → Prop := fun xs H Q => rReprD K xs H Q ∨ ∃ x, xs = [V.str x] ∧ (PyData.str x).shown.length ≤ sizeLine ∧ Q (.str (PyData.str x).shown) H
/-- seen = a view of the next name -/
def tVw (B p c : Addr) (ns : List Int) : L2.TS := fun D σ H => ∃ (lv dx cl tr ct : Addr) (line ch : List Str) (nm : Str) (kk n : Nat) (z : V) (b : Int), σ[0]? = some (some (.ref p)) ∧ σ[1]? = some (some (.ref lv)) ∧ σ[3]? = some (some (.ref ct)) ∧ σ[4]? = some (some z) ∧ σ[5]? = some (some (.int ((kk : Nat) : Int))) ∧
  Pen H p c ns n ∧ n + 5 ≤ 100000 ∧ H lv = some (.ins B dx (fldsL cl tr)) ∧ H tr = some (.tup (line.map V.str)) ∧ H ct = some (.tup (ch.map V.str)) ∧ ch[kk]? = some nm ∧ b ≤ line.length ∧
  ((z = .non ∧ b = line.length) ∨ (∃ (q : Addr) (x : V), z = .ref q ∧ H q = some (.tup [x, .int b]))) ∧
  ∀ a H', Keep p H H' → Pen H' p c ns (n + 2) → H' a = some (.tup [.str nm, .int (vI line nm b)]) → D.nx (σ.set 4 (some (.ref a))) H'
theorem ps_imp66 {X : Cx} {st : Stmt} {t t' : L2.TS} (h : PS X st t) (k : ∀ D σ H, t' D σ H → t D σ H) : PS X st t' := ⟨fun pins s σ H D I q => h.run pins s σ H D I (k D σ H q)⟩
section
variable {X : Cx}
theorem call_reprV (gu : X.A.guards = some []) (hu : X.A.units + 64 < cLine) : CallR X (.builtin "repr") (rReprV X.K) := by
  intro pins s σ H xs us Q I r h
  rcases h with h | ⟨x, rfl, hz, q⟩
  · exact call_reprD gu hu pins s σ H xs us Q I r h
  · obtain ⟨u, rfl, ru⟩ := r.one
    obtain ⟨t, rfl⟩ : ∃ t, u = Value.str x t := ru
    exact PySem.P.repr_of_str ⟨.str _, H, I.tok _, ⟨_, rfl⟩, q⟩ hz
end
def spVr (B C : Addr) : Sp := fun vs H Q _ => ∃ (p c lv lt ct : Addr) (ns : List Int) (n : Nat) (rs : List Row) (line ch : List Str), vs = [.ref p, .ref lv, .ref lt, .ref ct] ∧ Pen H p c ns n ∧ n + 200 ≤ 100000 ∧ Lvl B C H lv line rs ∧ H lt = some (.tup (line.map V.str)) ∧ line.length ≤ 12 ∧ (∀ x ∈ line, VW x) ∧ H ct = some (.tup (ch.map V.str)) ∧ ChOk ch ∧ (∀ x ∈ ch, VW x) ∧
  ∀ H', Keep p H H' → Pen H' p c ns (n + 120) → Q (.bl true) H'
section
variable {P : Program} {w : World} {K : PySem.W.Frag} {mg : Str → Option Value} {base : Heap}
theorem scVr : FnScope nVr ["_law_pen_here", "_law_level", "_law_line", "_law_chain_here"] (defScope sVr) := ⟨rfl, rfl, rfl, by decide +kernel, rfl, by decide +kernel, by decide +kernel⟩
theorem ok_vr {f fD fU fV fN B C : Addr} {fd fdD fdU fdV fdN : FuncData} {ds : List Value} (F : Fun K "_law_views_right" "_law_views_right" sVr f fd) (T : Bi mg) (Y : LTxt K B)
    (D : Df K mg "_law_draw" sDraw fD fdD ["_law_pen_here", "_law_many"]) (GD : FnOk P w K mg base CX0 1 fD fdD ["_law_pen_here", "_law_many"] spDraw)
    (DU : Df K mg "_law_due" sDu fU fdU ["_law_line", "_law_rest"]) (GDu : FnOk P w K mg base CX0 1 fU fdU ["_law_line", "_law_rest"] spDu)
    (mV : Meth K B "view" fV) (GV : FnOk P w K mg base CX0 1 fV fdV ["self", "name", "cause"] (spBV B)) (bV1 : Binds K fdV ["self", "name", "cause"] ds) (dV1 : Vals [V.non] ds) (bV2 : Binds K fdV ["self", "name", "cause"] [])
    {gk : List Value → List Value → List Value} (kV : KBn K fdV ["self", "name", "cause"] 1 ["cause", "name"] gk (fun vs zs => vs ++ zs.reverse))
    (mN : Meth K B "name_of" fN) (GN : FnOk P w K mg base CX0 1 fN fdN ["self", "view"] spBN) (bN : Binds K fdN ["self", "view"] []) :
    FnG P w K mg base 2 f fd ["_law_pen_here", "_law_level", "_law_line", "_law_chain_here"] (spVr B C) := by
  refine okG F scVr (fun vs H Q E h => ?_) (fun cdv A outer s H vs Q E hr gu h => ?_)
  · obtain ⟨p, c, lv, lt, ct, ns, n, rs, line, ch, rfl, _⟩ := h
    rfl
  · obtain ⟨p, c, lv, lt, ct, ns, n, rs, line, ch, rfl, P0, hn, hL, hlt, l12, lvw, hct, hch, cvw, k⟩ := h
    have hr1 : Room 1 _ := hr
    refine ⟨_, (pss_cons (ps_set (i := 4) scVr.nd rfl (Or.inl rfl) pe_non)
      (pss_cons (ps_for PassesOwn.never rfl (pi_range3 rfl T.range (pa_cons (pe_op op_sub (pe_callB call_len_seq (by rfl) T.len PySem.boot_len (pa_cons (pv 3) pa_nil)) pe_int) (pa_cons (pe_un un_neg pe_int) (pa_cons (pe_un un_neg pe_int) pa_nil)))) (pg_name (i := 5) scVr.nd rfl (Or.inl rfl))
      (pss_cons (ps_imp66 (t' := tVw B p c ns) (ps_if (PW.pt (pw_and (pt_cmpR op_isN (pv 4) pe_non (nomark _)) (pw_and1 (pt_cmpR op_eq (pe_call GD hr1 (by rfl) D.m D.F.kp D.b .nil pass0 (pa_cons (pv 0) (pa_cons pe_int pa_nil))) pe_int (nomark _)))))
        (pss_one (ps_set (i := 4) scVr.nd rfl (Or.inl rfl) (pe_meth (pv 1) Y.cl mV GV hr1 bV1 dV1 pass0 (pa_cons (pe_ix ix_tup (pv 3) (pv 5) (fun _ _ => rfl)) pa_nil))))
        (pss_one (ps_if (pt_cmpR op_eq (pe_call GD hr1 (by rfl) D.m D.F.kp D.b .nil pass0 (pa_cons (pv 0) (pa_cons pe_int pa_nil))) pe_int (nomark _))
          (pss_one (ps_set (i := 4) scVr.nd rfl (Or.inl rfl) (pe_methK (pv 1) Y.cl mV GV hr1 kV pass0 (pk_cons (pv 4) (pk_cons (pe_ix ix_tup (pv 3) (pv 5) (fun _ _ => rfl)) pk_nil)))))
          (pss_one (ps_set (i := 4) scVr.nd rfl (Or.inl rfl) (pe_meth (pv 1) Y.cl mV GV hr1 bV2 .nil pass0 (pa_cons (pe_ix ix_tup (pv 3) (pv 5) (fun _ _ => rfl)) (pa_cons (pv 4) pa_nil)))))))) (fun D σ H h => ?vw))
        (pss_one (ps_if (PW.pt (pw_or (pt_cmpR op_ne (pe_callB (call_reprV gu hr.units) (by rfl) T.repr (by decide +kernel) (pa_cons (pv 4) pa_nil)) (pe_callB (call_reprV gu hr.units) (by rfl) T.repr (by decide +kernel) (pa_cons (pe_call GDu hr1 (by rfl) DU.m DU.F.kp DU.b .nil pass0 (pa_cons (pv 2) (pa_cons (pe_slice sl_tup2 (pv 3) (po_some (pv 5)) po_none) pa_nil))) pa_nil)) (nomark _)) (pw_or1 (pt_cmpR op_ne (pe_callB (call_reprV gu hr.units) (by rfl) T.repr (by decide +kernel) (pa_cons (pe_meth (pv 1) Y.cl mN GN hr1 bN .nil pass0 (pa_cons (pv 4) pa_nil)) pa_nil)) (pe_callB (call_reprV gu hr.units) (by rfl) T.repr (by decide +kernel) (pa_cons (pe_ix ix_tup (pv 3) (pv 5) (fun _ _ => rfl)) pa_nil)) (nomark _)))))
        (pss_one (ps_ret pe_bl))
        pss_nil))))
      (pss_one (ps_ret pe_bl)))), ?body⟩
    case vw =>
      have nv : ∀ (cl tr : Addr), (fldsL cl tr).lookup ("view" : Str) = none := fun cl tr => fldsL_no _ _ (by decide +kernel) (by decide +kernel)
      obtain ⟨lv, dx, cl, tr, ct, line, ch, nm, kk, n, z, b, e0, e1, e3, e4, e5, P0, hn, hlv, htr, hct, hnm, hb, hz, k⟩ := h
      have hat : (ch.map V.str)[kk]? = some (V.str nm) := by rw [List.getElem?_map, hnm]; rfl
      have at4 := atI_nat hat
      have fin : ∀ {H1 : Hp}, Keep p H H1 → ∀ {m : Nat}, Pen H1 p c ns m → m ≤ n + 2 → H1 lv = some (.ins B dx (fldsL cl tr)) ∧ H1 tr = some (.tup (line.map V.str)) ∧ H1 ct = some (.tup (ch.map V.str)) ∧ ((z = .non ∧ b = line.length) ∨ (∃ (q : Addr) (x : V), z = .ref q ∧ H1 q = some (.tup [x, .int b]))) ∧ ∀ a H', Same H1 H' → H' a = some (.tup [.str nm, .int (vI line nm b)]) → D.nx (σ.set 4 (some (.ref a))) H' := fun {H1} k1 {m} P1 hm =>
        ⟨k1 _ _ hlv (P0.ins_ne hlv), k1 _ _ htr (P0.tup_ne htr), k1 _ _ hct (P0.tup_ne hct), hz.imp id fun ⟨q, x, e, hq⟩ => ⟨q, x, e, k1 _ _ hq (P0.tup_ne hq)⟩, fun a H' s ha => k a H' (k1.trans s.keep) ((P1.same s).mono hm) ha⟩
      refine (fun (tail : ∀ (Hd : Hp), Keep p H Hd → Pen Hd p c ns (n + 1) → _) => ⟨z, e4, rfl, _, rfl, ite2 (fun hzn => ⟨_, e0, p, c, ns, n, 2, rfl, P0, by omega, by decide, by decide, fun dv Hd d0 d1 kd Pd => ⟨rfl, _, rfl, ite2 (fun _ => ?one) (fun _ => tail Hd kd Pd)⟩⟩)
        (fun _ => iteF (tail H (Keep.refl p H) (P0.mono (by omega))))⟩) ?tail
      case one =>
        obtain ⟨f1, f2, f3, f4, f5⟩ := fin kd Pd (by omega)
        have hzn := of_decide_eq_true hzn
        refine ⟨_, e1, lv, dx, _, rfl, f1, nv _ _, _, e3, _, e5, ct, _, _, _, rfl, rfl, SqT.of f3, at4, lv, cl, tr, dx, line, nm, .non, b, rfl, f1, f2, hb, .inl ⟨rfl, ?_⟩, f5⟩
        rcases f4 with ⟨_, e⟩ | ⟨q, x, e, _⟩
        · exact e
        · rw [e] at hzn; cases hzn
      case tail =>
        intro Hd kd Pd
        refine ⟨_, e0, p, c, ns, n + 1, 2, rfl, Pd, by omega, by decide, by decide, fun dv He d0 d1 ke Pe => ⟨rfl, _, rfl, ?_⟩⟩
        obtain ⟨f1, f2, f3, f4, f5⟩ := fin (kd.trans ke) Pe (by omega)
        refine ite2 (fun _ => ?_) (fun _ => ?_)
        · exact ⟨_, e1, lv, dx, _, rfl, f1, nv _ _, _, e4, _, e3, _, e5, ct, _, _, _, rfl, rfl, SqT.of f3, at4, rfl, lv, cl, tr, dx, line, nm, z, b, rfl, f1, f2, hb, f4, f5⟩
        · exact ⟨_, e1, lv, dx, _, rfl, f1, nv _ _, _, e3, _, e5, ct, _, _, _, rfl, rfl, SqT.of f3, at4, _, e4, lv, cl, tr, dx, line, nm, z, b, rfl, f1, f2, hb, f4, f5⟩
    have hl0 : 1 ≤ ch.length := List.length_pos_iff.mpr hch.ne
    have hl60 := hch.le
    refine ⟨_, rfl, ct, _, rfl, .inr (SqT.of hct), _, _, rfl, rfl, _, rfl, _, rfl, (((ch.map V.str).length : Int) - 1), -1, -1, ch.length, rfl, ?_, ?_⟩
    · have := RgC.neg (i := ((ch.map V.str).length : Int) - 1) (j := -1) (by omega) (by rw [List.length_map]; omega) (by decide) (by decide)
      rwa [show ((((ch.map V.str).length : Int) - 1) - (-1)).toNat = ch.length by rw [List.length_map]; omega] at this
    let Pv : Nat → L2.St → Hp → Prop := fun i σ Hc => ∃ (z : V) (v5 : Option V), σ = [some (.ref p), some (.ref lv), some (.ref lt), some (.ref ct), some z, v5] ∧ ((z = .non ∧ i = 0) ∨ (∃ (q : Addr) (x : V), z = .ref q ∧ Hc q = some (.tup [x, .int (duI line (ch.drop (ch.length - i)))]))) ∧ Keep p H Hc ∧ Pen Hc p c ns (n + 2 * i)
    refine for_rangeC (n := ch.length) Pv ?_ ?_ ?_
    · exact ⟨.non, none, rfl, .inl ⟨rfl, rfl⟩, Keep.refl p H, P0.mono (by omega)⟩
    · rintro i σ Hc hi ⟨z, v5, rfl, hz, kc, Pc⟩
      have hLc := hL.kp kc P0
      obtain ⟨dx, cl, tr, hlv, htr, _⟩ := id hLc
      have hctc := kc _ _ hct (P0.tup_ne hct)
      have hltc := kc _ _ hlt (P0.tup_ne hlt)
      obtain ⟨kk, hkk⟩ : ∃ kk : Nat, kk = ch.length - 1 - i := ⟨_, rfl⟩
      have hkl : kk < ch.length := by omega
      have ek : (((ch.map V.str).length : Int) - 1) + ((i : Nat) : Int) * (-1) = ((kk : Nat) : Int) := by rw [List.length_map]; omega
      rw [ek]
      have hat : (ch.map V.str)[kk]? = some (V.str ch[kk]) := by rw [List.getElem?_map, List.getElem?_eq_getElem hkl]; rfl
      have edr : ch.drop kk = ch[kk] :: ch.drop (kk + 1) := List.drop_eq_getElem_cons hkl
      have hd1 : ch.length - i = kk + 1 := by omega
      rw [hd1] at hz
      have bz := duI_le line (ch.drop (kk + 1))
      refine ⟨lv, dx, cl, tr, ct, line, ch, ch[kk], kk, n + 2 * i, z, duI line (ch.drop (kk + 1)), rfl, rfl, rfl, rfl, rfl, Pc, by omega, hlv, htr, hctc, List.getElem?_eq_getElem hkl, bz.1, ?_, fun a H1 k1 P1 ha => ?_⟩
      · refine hz.imp (fun ⟨e, i0⟩ => ⟨e, ?_⟩) id
        rw [show ch.drop (kk + 1) = [] from List.drop_eq_nil_of_le (by omega)]
        exact duI_nil line
      rw [vI_du] at ha
      have hx := cvw _ (List.getElem_mem hkl)
      have bd := duI_le line (ch[kk] :: ch.drop (kk + 1))
      have fit := viewD_fit (i := duI line (ch[kk] :: ch.drop (kk + 1))) (vw_ok hx) bd.2 (by omega)
      have hct1 := k1 _ _ hctc (Pc.tup_ne hctc)
      have hlt1 := k1 _ _ hltc (Pc.tup_ne hltc)
      have hlv1 := k1 _ _ hlv (Pc.ins_ne hlv)
      refine ⟨_, rfl, .inl ⟨a, _, rfl, viewD_dp ha, fit.show_, fit.nod, fit.dep, fit.fits (by decide), _, rfl, _, rfl, _, rfl, _, rfl, ct, _, rfl, hct1, fun q H2 s2 hq => ?_⟩⟩
      rw [cutV_drop, edr] at hq
      refine ⟨lt, q, line, ch[kk], ch.drop (kk + 1), rfl, s2 _ _ hlt1, hq, by omega, fun y hy => (vw_ok (lvw y hy)).1, (fun y hy => (vw_ok (cvw y (by
        rw [← edr] at hy
        exact List.mem_of_mem_drop hy))).1), fun b H3 s3 hb => .inl ⟨b, _, rfl, viewD_dp hb, fit.show_, fit.nod, fit.dep, fit.fits (by decide), rfl, _, rfl, iteNS rfl ?_⟩⟩
      have s13 := s2.trans s3
      have fitn := (str_fit (vw_ok hx)).mono (e' := 8) (w' := 100) (by decide) (by decide)
      refine ⟨_, rfl, lv, dx, _, rfl, s13 _ _ hlv1, fldsL_no _ _ (by decide +kernel) (by decide +kernel), _, rfl, lv, a, _, _, rfl, s13 _ _ ha, .inr ⟨_, rfl, fitn.fits (by decide), _, rfl, _, rfl, ct, _, _, _, rfl, rfl, SqT.of (s13 _ _ hct1), atI_nat hat, .inr ⟨_, rfl, fitn.fits (by decide), rfl, _, rfl, iteNS rfl ?_⟩⟩⟩
      refine ⟨.ref a, _, rfl, .inr ⟨a, .str ch[kk], rfl, ?_⟩, (kc.trans k1).trans s13.keep, (P1.same s13).mono (by omega)⟩
      rw [show ch.length - (i + 1) = kk by omega, edr]
      exact s13 _ _ ha
    · rintro σ Hc ⟨z, v5, rfl, hz, kc, Pc⟩
      exact k Hc kc (Pc.mono (by omega))
def spTr (B C : Addr) : Sp := fun vs H Q _ => ∃ (p c lv ct rl nl : Addr) (ns : List Int) (n : Nat) (rs : List Row) (ts : List Addr) (line ch : List Str), vs = [.ref p, .ref lv, .ref rl, .ref nl, .ref ct] ∧ Pen H p c ns n ∧ n + 200 ≤ 100000 ∧ Lvl B C H lv line rs ∧ line.length ≤ 12 ∧ H ct = some (.tup (ch.map V.str)) ∧ ChOk ch ∧ (∀ x ∈ ch, VW x ∧ x ∈ keys (ups rs)) ∧
  H rl = some (.lst (ts.map V.ref)) ∧ RowsAt H ts rs ∧ Good rs ∧ rs.length ≤ 20 ∧ (∀ r ∈ rs, r.2.length ≤ 2) ∧ H nl = some (.lst ((base0 ++ rs.map (·.1)).map V.str)) ∧ ∀ H', Keep p H H' → Pen H' p c ns (n + 20) → Q (.bl true) H'
theorem scTr : FnScope nTr ["_law_pen_here", "_law_level", "_law_rows", "_law_names", "_law_chain_here"] (defScope sTr) := ⟨rfl, rfl, rfl, by decide +kernel, rfl, by decide +kernel, by decide +kernel⟩
theorem ok_tr {f fD fP fW fV fT fDo B C : Addr} {fd fdD fdP fdW fdV fdT fdDo : FuncData} (F : Fun K "_law_taken_right" "_law_taken_right" sTr f fd) (T : Bi mg) (Y : LTxt K B)
    (D : Df K mg "_law_draw" sDraw fD fdD ["_law_pen_here", "_law_many"]) (GD : FnOk P w K mg base CX0 1 fD fdD ["_law_pen_here", "_law_many"] spDraw)
    (PK : Df K mg "_law_pick" sPick fP fdP ["_law_pen_here", "_law_some_here"]) (GP : FnOk P w K mg base CX0 2 fP fdP ["_law_pen_here", "_law_some_here"] spPick)
    (WI : Df K mg "_law_within" sWi fW fdW ["_law_rows", "_law_one", "_law_other"]) (GWi : FnOk P w K mg base CX0 1 fW fdW ["_law_rows", "_law_one", "_law_other"] spWi)
    (mV : Meth K B "view" fV) (GV : FnOk P w K mg base CX0 1 fV fdV ["self", "name", "cause"] (spBV B)) (bV2 : Binds K fdV ["self", "name", "cause"] [])
    (mT : Meth K B "taken" fT) (GTf : FnOk P w K mg base CX0 5 fT fdT ["self", "view", "names"] (spTk B C false false)) (GTt : FnOk P w K mg base CX0 5 fT fdT ["self", "view", "names"] (spTk B C true false)) (bT : Binds K fdT ["self", "view", "names"] [])
    (mD : Meth K B "does" fDo) (GDo : FnOk P w K mg base CX0 2 fDo fdDo ["self", "callback", "handled"] (spDoB B)) (bDo : Binds K fdDo ["self", "callback", "handled"] []) :
    FnG P w K mg base 6 f fd ["_law_pen_here", "_law_level", "_law_rows", "_law_names", "_law_chain_here"] (spTr B C) := by
  refine okG F scTr (fun vs H Q E h => ?_) (fun cdv A outer s H vs Q E hr gu h => ?_)
  · obtain ⟨p, c, lv, ct, rl, nl, ns, n, rs, ts, line, ch, rfl, _⟩ := h
    rfl
  · obtain ⟨p, c, lv, ct, rl, nl, ns, n, rs, ts, line, ch, rfl, P1, hn, hL1, l12, hct1, hch, hvw, hrl1, R1, g, h20, r2, hnl1, k⟩ := h
    have hr5 : Room 5 _ := hr
    have hr2 : Room 2 _ := hr.mono (by decide)
    have hr1 : Room 1 _ := hr.mono (by decide)
    refine ⟨_, (pss_cons (ps_set (i := 5) scTr.nd rfl (Or.inr rfl) (pe_ix ix_tup (pv 4) pe_int (fun _ _ => rfl)))
      (pss_cons (ps_set (i := 6) scTr.nd rfl (Or.inl rfl) pe_non)
      (pss_cons (ps_for PassesOwn.never rfl (pi_range3 rfl T.range (pa_cons (pe_op op_sub (pe_callB call_len_seq (by rfl) T.len PySem.boot_len (pa_cons (pv 4) pa_nil)) pe_int) (pa_cons (pe_un un_neg pe_int) (pa_cons (pe_un un_neg pe_int) pa_nil)))) (pg_name (i := 7) scTr.nd rfl (Or.inl rfl))
      (pss_one (ps_set (i := 6) scTr.nd rfl (Or.inl rfl) (pe_meth (pv 1) Y.cl mV GV hr1 bV2 .nil pass0 (pa_cons (pe_ix ix_tup (pv 4) (pv 7) (fun _ _ => rfl)) (pa_cons (pv 6) pa_nil))))))
      (pss_cons (ps_setLc (i := 8) (own := [("_law_k", 7)]) (g := gName 7) (tt := tYes) rfl scTr.nd rfl rfl (sw_true rfl rfl rfl (by decide +kernel)) (pi_range1 rfl T.range (pa_cons (pe_call GD hr1 (by rfl) D.m D.F.kp D.b .nil pass0 (pa_cons (pv 0) (pa_cons pe_int pa_nil))) pa_nil)) (blkOk_by (N := nTr) (sc := defScope sTr) (by decide +kernel)) (fun _ _ _ _ _ => pg_name (i := 7) scTr.nd rfl (Or.inl rfl)) (fun _ _ _ _ _ => pts_nil) (fun _ _ _ _ _ => pe_call GP hr2 (by rfl) PK.m PK.F.kp PK.b .nil pass0 (pa_cons (pv 0) (pa_cons (pv 3) pa_nil))))
      (pss_cons (ps_set (i := 9) scTr.nd rfl (Or.inl rfl) (pe_cmpR (op_neL0 (u0_of hr)) (pe_lc (own := [("_law_mark", 10)]) (g := gName 10)  rfl scTr.nd (pi_list (pv 8)) (blkOk_by (N := nTr) (sc := defScope sTr) (by decide +kernel)) (fun _ _ _ _ _ => pg_name (i := 10) scTr.nd rfl (Or.inl rfl)) (fun _ _ _ _ _ => pts_one (pt_val (pe_call GWi hr1 (by rfl) WI.m WI.F.kp WI.b .nil pass0 (pa_cons (pv 2) (pa_cons (pv 5) (pa_cons (pv 10) pa_nil)))))) (fun _ _ _ _ _ => pv 10)) (pe_lst pa_nil) (nomark _)))
      (pss_cons (ps_if (pt_cmpR op_ne (pe_callB (call_reprV gu hr.units) (by rfl) T.repr (by decide +kernel) (pa_cons (pe_lst (pa_cons (pe_meth (pv 1) Y.cl mT GTt hr5 bT .nil pass0 (pa_cons (pv 6) (pa_cons (pv 8) pa_nil))) (pa_cons (pe_meth (pv 1) Y.cl mT GTf hr5 bT .nil pass0 (pa_cons (pv 6) (pa_cons (pe_callTy call_tuple_of (by rfl) T.tuple (by decide +kernel) (pa_cons (pv 8) pa_nil)) pa_nil))) pa_nil))) pa_nil)) (pe_callB (call_reprV gu hr.units) (by rfl) T.repr (by decide +kernel) (pa_cons (pe_lst (pa_cons (pv 9) (pa_cons (pv 9) pa_nil))) pa_nil)) (nomark _))
      (pss_one (ps_ret pe_bl))
      pss_nil)
      (pss_one (ps_ret (pe_cmpR op_eq (pe_callB (call_reprV gu hr.units) (by rfl) T.repr (by decide +kernel) (pa_cons (pe_lst (pa_cons (pe_meth (pv 1) Y.cl mD GDo hr2 bDo .nil pass0 (pa_cons pe_str (pa_cons (pv 6) pa_nil))) (pa_cons (pe_meth (pv 1) Y.cl mD GDo hr2 bDo .nil pass0 (pa_cons (pv 5) (pa_cons pe_non pa_nil))) pa_nil))) pa_nil)) pe_str (nomark _)))))))))), ?body⟩
    have hl0 : 1 ≤ ch.length := List.length_pos_iff.mpr hch.ne
    have hl60 := hch.le
    obtain ⟨x0, xr, ech⟩ := List.exists_cons_of_ne_nil hch.ne
    have hx0 : x0 ∈ ch := by rw [ech]; exact List.mem_cons_self
    have hat0 : (ch.map V.str)[0]? = some (V.str x0) := by rw [ech]; rfl
    refine ⟨_, rfl, ct, _, _, _, rfl, rfl, SqT.of hct1, atI_nat (j := 0) hat0, ?_⟩
    refine ⟨_, rfl, ct, _, rfl, .inr (SqT.of hct1), _, _, rfl, rfl, _, rfl, _, rfl, (((ch.map V.str).length : Int) - 1), -1, -1, ch.length, rfl, ?_, ?_⟩
    · have := RgC.neg (i := ((ch.map V.str).length : Int) - 1) (j := -1) (by omega) (by rw [List.length_map]; omega) (by decide) (by decide)
      rwa [show ((((ch.map V.str).length : Int) - 1) - (-1)).toNat = ch.length by rw [List.length_map]; omega] at this
    let Pv : Nat → L2.St → Hp → Prop := fun i σ Hc => ∃ (z : V) (v7 : Option V), σ = [some (.ref p), some (.ref lv), some (.ref rl), some (.ref nl), some (.ref ct), some (.str x0), some z, v7, none, none, none] ∧ ((z = .non ∧ i = 0) ∨ (∃ (q : Addr) (x : V), z = .ref q ∧ Hc q = some (.tup [x, .int (duI line (ch.drop (ch.length - i)))]) ∧ (ch.map V.str)[ch.length - i]? = some x)) ∧ Same H Hc
    refine for_rangeC (n := ch.length) Pv ?_ ?_ ?_
    · exact ⟨.non, none, rfl, .inl ⟨rfl, rfl⟩, Same.refl H⟩
    · rintro i σ Hc hi ⟨z, v7, rfl, hz, sc⟩
      obtain ⟨dx, cl, tr, hlv, htr, _⟩ := id (hL1.same sc)
      have hctc := sc _ _ hct1
      obtain ⟨kk, hkk⟩ : ∃ kk : Nat, kk = ch.length - 1 - i := ⟨_, rfl⟩
      have hkl : kk < ch.length := by omega
      have ek : (((ch.map V.str).length : Int) - 1) + ((i : Nat) : Int) * (-1) = ((kk : Nat) : Int) := by rw [List.length_map]; omega
      rw [ek]
      have hat : (ch.map V.str)[kk]? = some (V.str ch[kk]) := by rw [List.getElem?_map, List.getElem?_eq_getElem hkl]; rfl
      have edr : ch.drop kk = ch[kk] :: ch.drop (kk + 1) := List.drop_eq_getElem_cons hkl
      have hd1 : ch.length - i = kk + 1 := by omega
      rw [hd1] at hz
      have bz := duI_le line (ch.drop (kk + 1))
      refine ⟨_, rfl, lv, dx, _, rfl, hlv, fldsL_no _ _ (by decide +kernel) (by decide +kernel), _, rfl, _, rfl, ct, _, _, _, rfl, rfl, SqT.of hctc, atI_nat hat, _, rfl, lv, cl, tr, dx, line, ch[kk], z, duI line (ch.drop (kk + 1)), rfl, hlv, htr, bz.1, ?_, fun a H1 s1 ha => ?_⟩
      · rcases hz with ⟨e, i0⟩ | ⟨q, x, e, hq, _⟩
        · refine .inl ⟨e, ?_⟩
          rw [show ch.drop (kk + 1) = [] from List.drop_eq_nil_of_le (by omega)]
          exact duI_nil line
        · exact .inr ⟨q, x, e, hq⟩
      rw [vI_du] at ha
      have hd2 : ch.length - (i + 1) = kk := by omega
      exact ⟨.ref a, _, rfl, .inr ⟨a, _, rfl, (by rw [hd2, edr]; exact ha), (by rw [hd2]; exact hat)⟩, sc.trans s1⟩
    rintro σ H0 ⟨z, v7, rfl, hz, s0⟩
    obtain ⟨fla, yv, vxs, rfl, hfl0, eyv⟩ : ∃ (q : Addr) (x y : V), z = .ref q ∧ H0 q = some (.tup [x, y]) ∧ x = V.str x0 := by
      rcases hz with ⟨_, e⟩ | ⟨q, x, e, hq, hx⟩
      · omega
      · refine ⟨q, x, _, e, hq, ?_⟩
        rw [Nat.sub_self, hat0] at hx
        exact (Option.some.inj hx).symm
    subst eyv
    -- names asked of
    have P5 := P1.same s0
    have nlp := P1.lst_ne hnl1
    refine ⟨_, rfl, p, c, ns, _, 4, rfl, P5, by omega, by decide, by decide, fun dv H6 d0 d1 k6 P6 => ?_⟩
    obtain ⟨q4, rfl⟩ : ∃ j : Nat, dv = (j : Int) := ⟨dv.toNat, (Int.toNat_of_nonneg d0).symm⟩
    refine ⟨_, rfl, by omega, by omega, fun D3 hD3' => ?_⟩
    have hnl6 := k6 _ _ (s0 _ _ hnl1) nlp
    have pD3 := P6.pne hD3'
    have cD3 := P6.cne hD3'
    refine lc_range (lo := 0) (n := q4) (fun i Hc => ∃ ms : List Str, Hc D3 = some (.lst (ms.map V.str)) ∧ ms.length = i ∧ Keep p H6 Hc ∧ Pen Hc p c ns (n + 1 + i)) ?_ ?_ ?_
    · exact ⟨[], upd_same, rfl, (Keep.refl p H6).new hD3', (P6.new hD3').mono (by omega)⟩
    · rintro i Hc hi ⟨ms, hDm, hml, kc, Pc⟩
      refine ⟨rfl, _, rfl, _, rfl, p, c, ns, _, _, _, rfl, Pc, by omega, .inl ⟨nl, rfl, nlp, kc _ _ hnl6 nlp⟩, by simp [base0], (by rw [List.length_map, List.length_append, List.length_map]; show 2 + _ ≤ 1000; omega), fun j v H7 hv k7 P7 => ?_⟩
      obtain ⟨y, _, rfl⟩ := List.mem_map.mp (List.mem_of_getElem? hv)
      exact ⟨_, k7 _ _ hDm pD3.symm, (by rw [List.length_map, hml]; show _ < 16777216; omega), ms ++ [y], by rw [upd_same, List.map_append]; rfl, by rw [List.length_append, hml]; rfl, (kc.trans k7).new hD3', (P7.upd' pD3 cD3).mono (by omega)⟩
    rintro H8 ⟨ms, e8, hml, k7, P8⟩
    have k18 : Keep p H H8 := s0.keep.trans (k6.trans k7)
    have hct8 := k18 _ _ hct1 (P1.tup_ne hct1)
    have hrl8 := k18 _ _ hrl1 (P1.lst_ne hrl1)
    have hL8 := hL1.kp k18 P1
    have hfl8 := (k6.trans k7) _ _ hfl0 (P5.tup_ne hfl0)
    have R8 := R1.mono (H' := H8) fun b r e => k18 b _ e (P1.tup_ne (by unfold rowO at e; exact e))
    have ml3 : ms.length ≤ 3 := by omega
    -- which of them take it
    refine ⟨_, rfl, D3, rfl, ⟨_, SqL.of e8⟩, fun D4 hD4 => ?_⟩
    refine lc_list (K := K) (a := D3) (xs := ms.map V.str) (fun j Hc => Hc D4 = some (.lst (((ms.take j).filter fun y => decide (y ∈ look (ups rs) x0)).map V.str)) ∧ Same H8 Hc) ?_ ?_ ?_ ?_
    · exact ⟨upd_same, (Same.refl H8).put hD4⟩
    · rintro j Hc _ ⟨_, sc⟩
      exact SqL.of (sc _ _ e8)
    · rintro j y Hc hy ⟨hDc, sc⟩
      have hj : j < ms.length := by
        have := (List.getElem?_eq_some_iff.mp hy).1
        rwa [List.length_map] at this
      have hmj : ms[j]? = some ms[j] := List.getElem?_eq_getElem hj
      rw [List.getElem?_map, hmj] at hy
      cases hy
      have et : ms.take (j + 1) = ms.take j ++ [ms[j]] := by rw [List.take_add_one, hmj]; rfl
      refine ⟨rfl, _, rfl, _, rfl, _, rfl, rl, ts, rs, x0, ms[j], rfl, sc _ _ hrl8, R8.mono fun b r e => sc _ _ e, g, h20, r2, (hvw x0 hx0).2, fun H9 s9 => ⟨_, rfl, ?_⟩⟩
      have hD9 := s9 _ _ hDc
      by_cases hin : ms[j] ∈ look (ups rs) x0
      · rw [decide_eq_true hin]
        refine iteT ⟨_, rfl, _, hD9, ?_, ?_, (sc.trans s9).put hD4⟩
        · rw [List.length_map]
          have := List.length_filter_le (fun y => decide (y ∈ look (ups rs) x0)) (ms.take j)
          rw [List.length_take] at this
          show _ < 16777216
          omega
        · rw [upd_same, et, List.filter_append, List.filter_cons_of_pos (by simpa using hin), List.filter_nil, List.map_append]
          rfl
      · rw [decide_eq_false hin]
        refine iteF ⟨?_, sc.trans s9⟩
        rw [et, List.filter_append, List.filter_cons_of_neg (by simpa using hin), List.filter_nil, List.append_nil]
        exact hD9
    rintro H9 ⟨hD9, s9⟩
    rw [List.length_map, List.take_length] at hD9
    refine ⟨Nat.zero_le _, fun e0 he0 => ⟨D4, e0, _, rfl, rfl, SqL.of (by rw [upd_ne (ne_of_none hD9 he0)]; exact hD9), SqL.of upd_same, ?_⟩⟩
    have s10 : Same H8 (upd H9 e0 (.lst [])) := s9.trans ((Same.refl H9).put he0)
    generalize upd H9 e0 (.lst []) = Ha at s10 ⊢
    rw [← meet_one]
    generalize hb : meet (ups rs) [x0] ms = tb
    -- what is taken
    have hLA := hL8.same s10
    obtain ⟨dx2, cl2, tr2, hlvA, _⟩ := id hLA
    have no2 : ∀ {f : Str}, ¬ f = "trail" → ¬ f = "classes" → (fldsL cl2 tr2).lookup f = none := fun a b => fldsL_no _ _ a b
    have hflaA := s10 _ _ hfl8
    have e8A := s10 _ _ e8
    refine ⟨_, rfl, lv, dx2, _, rfl, hlvA, no2 (by decide +kernel) (by decide +kernel), _, rfl, _, rfl, lv, D3, line, rs, x0, .ref fla, ms, rfl, hLA, (hvw x0 hx0).2, ⟨fla, _, rfl, hflaA⟩, e8A, by omega, fun Hb sb => ?_⟩
    rw [hb]
    refine ⟨_, rfl, lv, dx2, _, rfl, sb _ _ hlvA, no2 (by decide +kernel) (by decide +kernel), _, rfl, _, rfl, D3, _, rfl, .inl ⟨SqL.of (sb _ _ e8A), fun ll hll => ?_⟩⟩
    have sc2 : Same Hb (upd Hb ll (.tup (ms.map V.str))) := (Same.refl Hb).put hll
    have ec2 : (upd Hb ll (.tup (ms.map V.str))) ll = some (.tup (ms.map V.str)) := upd_same
    generalize upd Hb ll (.tup (ms.map V.str)) = Hc at sc2 ec2 ⊢
    have sac := sb.trans sc2
    refine ⟨lv, ll, line, rs, x0, .ref fla, ms, rfl, hLA.same sac, (hvw x0 hx0).2, ⟨fla, _, rfl, sac _ _ hflaA⟩, ec2, by omega, fun Hd sd => ?_⟩
    rw [hb]
    refine ⟨(by show 2 ≤ sizeLine; decide), fun l3 hl3 => ?_⟩
    have s13 : Same Hd (upd Hd l3 (.lst [.bl tb, .bl tb])) := (Same.refl Hd).put hl3
    have e13 : (upd Hd l3 (.lst [.bl tb, .bl tb])) l3 = some (.lst ([tb, tb].map V.bl)) := upd_same
    generalize upd Hd l3 (.lst [.bl tb, .bl tb]) = He at s13 e13 ⊢
    refine .inl ⟨l3, boolsD [tb, tb], rfl, .lst (SqL.of e13) (bools_dp _ _ _), bools_show _, boolsD_nd _, boolsD_dep _, bools_size _ (by show 2 ≤ 1000; decide), _, rfl, _, rfl, (by show 2 ≤ sizeLine; decide), fun l4 hl4 => ?_⟩
    have s14 : Same He (upd He l4 (.lst [.bl tb, .bl tb])) := (Same.refl He).put hl4
    have e14 : (upd He l4 (.lst [.bl tb, .bl tb])) l4 = some (.lst ([tb, tb].map V.bl)) := upd_same
    generalize upd He l4 (.lst [.bl tb, .bl tb]) = Hf at s14 e14 ⊢
    refine .inl ⟨l4, boolsD [tb, tb], rfl, .lst (SqL.of e14) (bools_dp _ _ _), bools_show _, boolsD_nd _, boolsD_dep _, bools_size _ (by show 2 ≤ 1000; decide), rfl, _, rfl, iteNS rfl ?_⟩
    -- what is done
    have sAf := (sac.trans sd).trans (s13.trans s14)
    refine ⟨_, rfl, lv, dx2, _, rfl, sAf _ _ hlvA, no2 (by decide +kernel) (by decide +kernel), _, rfl, lv, dx2, _, _, _, rfl, sAf _ _ hlvA, fun t1 Hg sg ht1 => ?_⟩
    have sAg := sAf.trans sg
    refine ⟨_, rfl, lv, dx2, _, rfl, sAg _ _ hlvA, no2 (by decide +kernel) (by decide +kernel), _, rfl, lv, dx2, _, _, _, rfl, sAg _ _ hlvA, fun t2 Hh sh ht2 => ?_⟩
    refine ⟨(by show 2 ≤ sizeLine; decide), fun l5 hl5 => ?_⟩
    have s15' : Same Hh (upd Hh l5 (.lst [.ref t1, .ref t2])) := (Same.refl Hh).put hl5
    have e15 : (upd Hh l5 (.lst [.ref t1, .ref t2])) l5 = some (.lst [.ref t1, .ref t2]) := upd_same
    generalize upd Hh l5 (.lst [.ref t1, .ref t2]) = Hi at s15' e15 ⊢
    have sAi := (sAg.trans sh).trans s15'
    refine .inl ⟨l5, doesD, rfl, .lst (SqL.of e15) (.cons (.tup (SqT.of (s15' _ _ (sh _ _ ht1))) .nil) (.cons (.tup (SqT.of (s15' _ _ ht2)) .nil) .nil)), rfl, rfl, (by show 2 ≤ 8; decide), (by rw [doesD_shown]; decide +kernel), rfl, ?_⟩
    rw [doesD_shown, decide_eq_true rfl]
    exact k Hi (k18.trans (s10.trans sAi).keep) ((P8.same (s10.trans sAi)).mono (by omega))
end
end K2
end
section
set_option Elab.async false
set_option maxRecDepth 100000
set_option linter.all false
/-! the pen, the law -/
namespace K2
open PySem L2 SupX NdefX
abbrev sPen : Stmt := top 20
abbrev sLaw : Stmt := top 32
abbrev nLaw : List Str := ["_law_script", "_law_pen_here", "_law_turn", "_law_rows", "_law_names", "_law_few", "_law_k", "_law_line", "_law_level", "_law_again", "_law_chain_here"]
def spPen (K : PySem.W.Frag) : Sp := fun vs H Q _ => ∃ (a : Addr) (ns : List Int), vs = [.ref a] ∧ SqL K H a (ns.map V.int) ∧ ns.length ≤ 63 ∧ ∀ (p c : Addr) (H' : Hp), Pen H' p c ns 0 → Same H H' → Q (.ref p) H'
def spLaw (K : PySem.W.Frag) : Sp := fun vs H Q _ => ∃ (a : Addr) (ns : List Int), vs = [.ref a] ∧ SqL K H a (ns.map V.int) ∧ ns.length ≤ 63 ∧ ∀ H', Q (.bl true) H'
theorem cut63 (ns : List Int) (h : ns.length ≤ 63) : cutV (ns.map V.int) none (some 63) = ns.map V.int := by
  unfold cutV
  rw [show (63 : Int) = ((63 : Nat) : Int) from rfl, HT.sIx_nat, HT.sIx_none, List.drop_zero, Nat.sub_zero, List.length_map, Nat.min_eq_right h]
  rw [List.take_of_length_le (by rw [List.length_map]; exact Nat.le_refl _)]
/-- what stands through a turn -/
structure Sta (B C : Addr) (H : Hp) (lv lt : Addr) (line : List Str) (rl : Addr) (ts : List Addr) (rs : List Row) (nl fw : Addr) (few : List Str) : Prop where
  L : Lvl B C H lv line rs
  lt : H lt = some (.tup (line.map V.str))
  rl : H rl = some (.lst (ts.map V.ref))
  R : RowsAt H ts rs
  nl : H nl = some (.lst ((base0 ++ rs.map (·.1)).map V.str))
  fw : H fw = some (.lst (few.map V.str))
theorem Sta.kp {B C p c lv lt rl nl fw : Addr} {ns : List Int} {n : Nat} {H H' : Hp} {line few : List Str} {ts : List Addr} {rs : List Row} (h : Sta B C H lv lt line rl ts rs nl fw few) (P : Pen H p c ns n) (k : Keep p H H') : Sta B C H' lv lt line rl ts rs nl fw few :=
  ⟨h.L.kp k P, k _ _ h.lt (P.tup_ne h.lt), k _ _ h.rl (P.lst_ne h.rl), h.R.mono fun b r e => k _ _ e (P.tup_ne (by unfold rowO at e; exact e)), k _ _ h.nl (P.lst_ne h.nl), k _ _ h.fw (P.lst_ne h.fw)⟩
section
variable {P : Program} {w : World} {K : PySem.W.Frag} {mg : Str → Option Value} {base : Heap}
theorem scPen : FnScope ["_law_script"] ["_law_script"] (defScope sPen) := ⟨rfl, rfl, rfl, by decide +kernel, rfl, by decide +kernel, by decide +kernel⟩
theorem scLaw : FnScope nLaw ["_law_script"] (defScope sLaw) := ⟨rfl, rfl, rfl, by decide +kernel, rfl, by decide +kernel, by decide +kernel⟩
theorem ok_pen {f : Addr} {fd : FuncData} (F : Fun K "_law_pen" "_law_pen" sPen f fd) (T : Bi mg) : FnOk P w K mg base CX0 1 f fd ["_law_script"] (spPen K) := by
  refine F.ok scPen (fun vs H Q E h => ?_) (fun cdv A outer s H vs Q E hr h => ?_)
  · obtain ⟨a, ns, rfl, _⟩ := h
    rfl
  · obtain ⟨a, ns, rfl, hS, hl, k⟩ := h
    refine ⟨_, (pss_one (ps_ret (pe_disp (pps_cons pe_str (pe_callTy call_list_of (by rfl) T.list (by decide +kernel) (pa_cons (pe_slice sl_list (pv 0) po_none (po_some pe_int)) pa_nil)) (pps_cons pe_str pe_int (pps_cons pe_str pe_int pps_nil))) (by rfl) (by rfl) (fun z => by cases z) (by decide)))), ?_⟩
    refine fun p hp => ?_
    have s0 : Same H (upd H p (.dK [])) := (Same.refl H).put hp
    refine ⟨_, rfl, _, rfl, a, _, rfl, s0.seq hS, fun q hq => ⟨q, _, rfl, .inl (SqL.of upd_same), fun c hc => ?_⟩⟩
    rw [cut63 ns hl] at hc ⊢
    have npq : p ≠ q := fun e => by rw [← e, upd_same] at hq; cases hq
    have npc : p ≠ c := fun e => by rw [← e, upd_ne npq, upd_same] at hc; cases hc
    have s01 : Same H (upd (upd H p (.dK [])) q (.lst (ns.map V.int))) := s0.put (s0.free hq)
    have s1 : Same H (upd (upd (upd H p (.dK [])) q (.lst (ns.map V.int))) c (.lst (ns.map V.int))) := s01.put (s01.free hc)
    refine ⟨by rw [upd_ne npc, upd_ne npq]; exact upd_same, [(.inr "cells", .ref c), (.inr "next", .int 0), (.inr "rest", .int 0)], rfl, (by show 3 ≤ 15; decide), ?_⟩
    refine k p c _ ⟨⟨0, 0, upd_same, by decide, by decide, by decide⟩, by rw [upd_ne npc.symm]; exact upd_same, hl⟩ fun b o e => ?_
    rw [upd_ne (ne_of_none e hp)]
    exact s1 _ _ e
set_option maxHeartbeats 2000000 in
theorem ok_law {f fPn fD fP fKl fCh fVr fTr fM fE fBI pM B L C : Addr} {mc mcB mcL : Value} {fd fdPn fdD fdP fdKl fdCh fdVr fdTr fdM fdE fdBI : FuncData} {gk : List Value → List Value → List Value} {uk uL : Value} (F : Fun K "law" "law" sLaw f fd) (T : Bi mg) (Y : LTxt K B) (YC : Txt K mg C) (O : Own K B)
    (mgB : mg "ByTrail" = some (.ref B)) (mgL : mg "Level" = some (.ref L)) (kBL : PySem.W.kitOne K (.ref B) (.ref L) = some true)
    (PN : Df K mg "_law_pen" sPen fPn fdPn ["_law_script"]) (GPn : FnOk P w K mg base CX0 1 fPn fdPn ["_law_script"] (spPen K))
    (D : Df K mg "_law_draw" sDraw fD fdD ["_law_pen_here", "_law_many"]) (GD : FnOk P w K mg base CX0 1 fD fdD ["_law_pen_here", "_law_many"] spDraw)
    (PK : Df K mg "_law_pick" sPick fP fdP ["_law_pen_here", "_law_some_here"]) (GP : FnOk P w K mg base CX0 2 fP fdP ["_law_pen_here", "_law_some_here"] spPick)
    (KL : Df K mg "_law_classes" sKl fKl fdKl ["_law_pen_here", "_law_most"]) (GKl : FnOk P w K mg base CX0 4 fKl fdKl ["_law_pen_here", "_law_most"] spKl)
    (CH : Df K mg "_law_chain" sCh fCh fdCh ["_law_pen_here", "_law_line", "_law_names"]) (GCh : FnOk P w K mg base CX0 3 fCh fdCh ["_law_pen_here", "_law_line", "_law_names"] spCh)
    (VR : Df K mg "_law_views_right" sVr fVr fdVr ["_law_pen_here", "_law_level", "_law_line", "_law_chain_here"]) (GVr : FnG P w K mg base 2 fVr fdVr ["_law_pen_here", "_law_level", "_law_line", "_law_chain_here"] (spVr B C))
    (TR : Df K mg "_law_taken_right" sTr fTr fdTr ["_law_pen_here", "_law_level", "_law_rows", "_law_names", "_law_chain_here"]) (GTr : FnG P w K mg base 6 fTr fdTr ["_law_pen_here", "_law_level", "_law_rows", "_law_names", "_law_chain_here"] (spTr B C))
    (cR : ClX.CRead K C mc) (cM : ClX.CMet K C mc "made" pM fM) (GM : FnOk P w K mg base CX0 6 fM fdM ["cls", "rows"] (spMade C)) (bM : Binds K fdM ["cls", "rows"] [])
    (GE : FnOk P w K mg base CX0 1 fE fdE ["self", "other"] (spEqC K C)) (bE : Binds K fdE ["self", "other"] []) (hE : PySem.W.findIn K (.ref C) "__eq__" = some (some (.ref fE))) (hEf : PySem.W.isFn K (.ref fE) = true)
    (hNe : PySem.W.findIn K (.ref C) "__ne__" = some (some (.builtin "object.__ne__"))) (hMo : PySem.W.mroIn K C (.type "object") = some true)
    (MB : Mk K B fBI) (GBI : FnOk P w K mg base CX0 2 fBI fdBI ["self", "classes", "trail"] (spBI B)) (kBI : KBn K fdBI ["self", "classes", "trail"] 1 ["trail", "classes"] gk (fun vs zs => vs ++ zs.reverse))
    (kon : Con K B "KIND" (.str "trail") uk) (cRB : ClX.CRead K B mcB) (cVB : ClX.CVal K B mcB "KIND" (.str "trail") uk) (cRL : ClX.CRead K L mcL) (cVL : ClX.CVal K L mcL "KIND" (.str "class") uL) : FnG P w K mg base 8 f fd ["_law_script"] (spLaw K) := by
  refine okG F scLaw (fun vs H Q E h => ?_) (fun cdv A outer s H vs Q E hr gu h => ?_)
  · obtain ⟨a, ns, rfl, _⟩ := h
    rfl
  · obtain ⟨a, ns, rfl, hS, hl63, kQ⟩ := h
    have hu := hu_of hr
    have hr1 : Room 1 _ := hr.mono (by decide)
    have hr2 : Room 2 _ := hr.mono (by decide)
    have hr3 : Room 3 _ := hr.mono (by decide)
    have hr4 : Room 4 _ := hr.mono (by decide)
    have hr6 : Room 6 _ := hr.mono (by decide)
    refine ⟨_, (pss_cons (ps_set (i := 1) scLaw.nd rfl (Or.inr rfl) (pe_call GPn hr1 (by rfl) PN.m PN.F.kp PN.b .nil pass0 (pa_cons (pv 0) pa_nil)))
      (pss_cons (ps_for PassesOwn.never rfl (pi_range1 rfl T.range (pa_cons pe_int pa_nil)) (pg_name (i := 2) scLaw.nd rfl (Or.inl rfl))
      (pss_cons (ps_asg (pe_call GKl hr4 (by rfl) KL.m KL.F.kp KL.b .nil pass0 (pa_cons (pv 1) (pa_cons pe_int pa_nil))) (pg_tup rfl (pgs_cons (pg_name (i := 3) scLaw.nd rfl (Or.inl rfl)) (pgs_cons (pg_name (i := 4) scLaw.nd rfl (Or.inr rfl)) pgs_nil))))
        (pss_cons (ps_set (i := 5) scLaw.nd rfl (Or.inr rfl) (pe_lc (own := [("_law_k", 6)]) (g := gName 6) (tt := tYes) rfl scLaw.nd (pi_range1 rfl T.range (pa_cons (pe_op op_add pe_int (pe_call GD hr1 (by rfl) D.m D.F.kp D.b .nil pass0 (pa_cons (pv 1) (pa_cons pe_int pa_nil)))) pa_nil)) (blkOk_by (N := nLaw) (sc := defScope sLaw) (by decide +kernel)) (fun _ _ _ _ _ => pg_name (i := 6) scLaw.nd rfl (Or.inl rfl)) (fun _ _ _ _ _ => pts_nil) (fun _ _ _ _ _ => pe_call GP hr2 (by rfl) PK.m PK.F.kp PK.b .nil pass0 (pa_cons (pv 1) (pa_cons (pv 4) pa_nil)))))
        (pss_cons (ps_set (i := 7) scLaw.nd rfl (Or.inl rfl) (pe_callTy call_tuple_of (by rfl) T.tuple (by decide +kernel) (pa_cons (pe_lc (own := [("_law_k", 6)]) (g := gName 6) (tt := tYes) rfl scLaw.nd (pi_range1 rfl T.range (pa_cons (pe_op op_add pe_int (pe_call GD hr1 (by rfl) D.m D.F.kp D.b .nil pass0 (pa_cons (pv 1) (pa_cons pe_int pa_nil)))) pa_nil)) (blkOk_by (N := nLaw) (sc := defScope sLaw) (by decide +kernel)) (fun _ _ _ _ _ => pg_name (i := 6) scLaw.nd rfl (Or.inl rfl)) (fun _ _ _ _ _ => pts_nil) (fun _ _ _ _ _ => pe_call GP hr2 (by rfl) PK.m PK.F.kp PK.b .nil pass0 (pa_cons (pv 1) (pa_cons (pv 5) pa_nil)))) pa_nil)))
        (pss_cons (ps_set (i := 8) scLaw.nd rfl (Or.inl rfl) (pe_makeK0 MB GBI hr3 (by rfl) mgB kBI pass0 (pk_cons (pv 7) (pk_cons (ClX.pe_cmeth (pe_glob (v := .ref C) rfl YC.mgC rfl) cR cM (GM.raw bM .nil) hr6 pass0 (pa_cons (pv 3) pa_nil)) pk_nil))))
        (pss_cons (ps_if (PW.pt (pw_or (pt_not (pt_val (pe_callB call_isi (by rfl) T.isinstance (by decide +kernel) (pa_cons (pv 8) (pa_cons (pe_glob (v := .ref L) rfl mgL rfl) pa_nil))))) (pw_or (pt_cmpR (op_neO GE bE pass0 hr2 hu hE hEf hNe hMo) (pe_fld (pv 8) rfl) (ClX.pe_cmeth (pe_glob (v := .ref C) rfl YC.mgC rfl) cR cM (GM.raw bM .nil) hr6 pass0 (pa_cons (pv 3) pa_nil)) (nomark _)) (pw_or1 (pt_cmpR op_ne (pe_con (pv 8) rfl) pe_str (nomark _))))))
        (pss_one (ps_ret pe_bl))
        pss_nil)
        (pss_one (ps_for PassesOwn.never rfl (pi_range1 rfl T.range (pa_cons pe_int pa_nil)) (pg_name (i := 9) scLaw.nd rfl (Or.inl rfl))
        (pss_cons (ps_set (i := 10) scLaw.nd rfl (Or.inl rfl) (pe_call GCh hr3 (by rfl) CH.m CH.F.kp CH.b .nil pass0 (pa_cons (pv 1) (pa_cons (pv 7) (pa_cons (pe_call GP hr2 (by rfl) PK.m PK.F.kp PK.b .nil pass0 (pa_cons (pv 1) (pa_cons (pe_lst (pa_cons (pv 5) (pa_cons (pv 4) pa_nil))) pa_nil))) pa_nil)))))
          (pss_cons (ps_if (pt_not (pt_val (pe_callG GVr hr2 gu (by rfl) VR.m VR.F.kp VR.b (pa_cons (pv 1) (pa_cons (pv 8) (pa_cons (pv 7) (pa_cons (pv 10) pa_nil)))))))
          (pss_one (ps_ret pe_bl))
          pss_nil)
          (pss_one (ps_if (pt_not (pt_val (pe_callG GTr hr6 gu (by rfl) TR.m TR.F.kp TR.b (pa_cons (pv 1) (pa_cons (pv 8) (pa_cons (pv 3) (pa_cons (pv 4) (pa_cons (pv 10) pa_nil))))))))
          (pss_one (ps_ret pe_bl))
          pss_nil))))))))))))
      (pss_one (ps_ret (pe_and (pe_cmpR op_eq (ClX.pe_cval (pe_glob (v := .ref B) rfl mgB rfl)) pe_str (nomark _)) (pe_one (pe_cmpR op_eq (ClX.pe_cval (pe_glob (v := .ref L) rfl mgL rfl)) pe_str (nomark _)))))))), ?_⟩
    refine ⟨_, rfl, a, ns, rfl, hS, hl63, fun p c H1 P1 s1 => ?_⟩
    refine ⟨6, rfl, by decide, by decide, for_range (lo := 0) (n := 6) (fun i σ Hc => ∃ v2 v3 v4 v5 v6 v7 v8 v9 v10 : Option V, σ = [some (.ref a), some (.ref p), v2, v3, v4, v5, v6, v7, v8, v9, v10] ∧ Pen Hc p c ns (2000 * i)) ?_ ?_ ?_⟩
    · exact ⟨_, _, _, _, _, _, _, _, _, rfl, P1⟩
    · rintro i σ Hc hi ⟨v2, v3, v4, v5, v6, v7, v8, v9, v10, rfl, Pc⟩
      generalize hN : 2000 * i = n at Pc
      have hn : n ≤ 10000 := by omega
      refine ⟨_, rfl, p, c, ns, n, 6, rfl, Pc, by omega, by decide, fun a1 rl nl ts rs Ha ha hrl R g h6 r2 hnl ka Pa => ?_⟩
      refine ⟨a1, _, rfl, SqT.of ha, rfl, _, _, rfl, _, _, rfl, rfl, ?_⟩
      have hvn : ∀ x ∈ base0 ++ rs.map (·.1), VW x ∧ x ∈ keys (ups rs) := fun x hx => by
        have h1 := g.vw_known rs.length x (by unfold knownAt; rw [List.take_length]; exact hx)
        exact ⟨h1, by rw [keys_ups]; exact hx⟩
      have nne : (base0 ++ rs.map (·.1)).map V.str ≠ [] := by simp [base0]
      have nle : (base0 ++ rs.map (·.1)).length ≤ 1000 := by rw [List.length_append, List.length_map]; show 2 + _ ≤ 1000; omega
      have nle' : ((base0 ++ rs.map (·.1)).map V.str).length ≤ 1000 := by rw [List.length_map]; exact nle
      -- the few
      refine ⟨_, rfl, p, c, ns, n + 100, 3, rfl, Pa, by omega, by decide, by decide, fun dv Hb d0 d1 kb Pb => ⟨_, _, rfl, rfl, ?_⟩⟩
      obtain ⟨mz, rfl⟩ : ∃ j : Nat, dv = (j : Int) := ⟨dv.toNat, (Int.toNat_of_nonneg d0).symm⟩
      obtain ⟨m, em⟩ : ∃ m : Nat, m = 1 + mz := ⟨_, rfl⟩
      rw [show (fun i j : Int => V.int (i + j)) 1 ((mz : Nat) : Int) = V.int ((m : Nat) : Int) from congrArg V.int (by omega)]
      have hrlb := kb _ _ hrl (Pa.lst_ne hrl)
      have hnlb := kb _ _ hnl (Pa.lst_ne hnl)
      have Rb := R.mono (H' := Hb) fun b r e => kb b _ e (Pa.tup_ne (by unfold rowO at e; exact e))
      refine ⟨_, rfl, by omega, by omega, fun fw hfw => ?_⟩
      have pfw := Pb.pne hfw
      have cfw := Pb.cne hfw
      have nlp := Pb.lst_ne hnlb
      refine lc_range (lo := 0) (n := m) (fun t Hx => ∃ few : List Str, Hx fw = some (.lst (few.map V.str)) ∧ few.length = t ∧ (∀ x ∈ few, x ∈ base0 ++ rs.map (·.1)) ∧ Keep p Hb Hx ∧ Pen Hx p c ns (n + 101 + t)) ?_ ?_ ?_
      · exact ⟨[], upd_same, rfl, fun x hx => by simp at hx, (Keep.refl p Hb).new hfw, (Pb.new hfw).mono (by omega)⟩
      · rintro t Hx ht ⟨few, hF, hfl, hfm, kx, Px⟩
        refine ⟨rfl, _, rfl, _, rfl, p, c, ns, _, _, _, rfl, Px, by omega, .inl ⟨nl, rfl, nlp, kx _ _ hnlb nlp⟩, nne, nle', fun j4 w4 H7 h4 k7 P7 => ?_⟩
        obtain ⟨y, hy, rfl⟩ := List.mem_map.mp (List.mem_of_getElem? h4)
        refine ⟨_, k7 _ _ hF pfw.symm, (by rw [List.length_map, hfl]; show _ < 16777216; omega), few ++ [y], by rw [upd_same, List.map_append]; rfl, by rw [List.length_append, hfl]; rfl, fun x hx => ?_, (kx.trans k7).new hfw, (P7.upd' pfw cfw).mono (by omega)⟩
        rcases List.mem_append.mp hx with hx | hx
        · exact hfm x hx
        · rw [List.mem_singleton.mp hx]; exact hy
      rintro H2 ⟨few, hF, hfl, hfm, k2, P2⟩
      have fwp := P2.lst_ne hF
      have fne : few.map V.str ≠ [] := fun e => by rw [List.map_eq_nil_iff.mp e] at hfl; simp at hfl; omega
      -- the line
      refine ⟨_, rfl, p, c, ns, _, 12, rfl, P2, by omega, by decide, by decide, fun dv H3 e0 e1 k3 P3 => ⟨_, _, rfl, rfl, ?_⟩⟩
      obtain ⟨lz, rfl⟩ : ∃ j : Nat, dv = (j : Int) := ⟨dv.toNat, (Int.toNat_of_nonneg e0).symm⟩
      obtain ⟨ll, el⟩ : ∃ ll : Nat, ll = 1 + lz := ⟨_, rfl⟩
      rw [show (fun i j : Int => V.int (i + j)) 1 ((lz : Nat) : Int) = V.int ((ll : Nat) : Int) from congrArg V.int (by omega)]
      have hF3 := k3 _ _ hF fwp
      refine ⟨_, rfl, by omega, by omega, fun D6 hD6 => ?_⟩
      have pD6 := P3.pne hD6
      have cD6 := P3.cne hD6
      refine lc_range (lo := 0) (n := ll) (fun t Hx => ∃ ch : List Str, Hx D6 = some (.lst (ch.map V.str)) ∧ ch.length = t ∧ (∀ x ∈ ch, x ∈ few) ∧ Keep p H3 Hx ∧ Pen Hx p c ns (n + 120 + t)) ?_ ?_ ?_
      · exact ⟨[], upd_same, rfl, fun x hx => by simp at hx, (Keep.refl p H3).new hD6, (P3.new hD6).mono (by omega)⟩
      · rintro t Hx ht ⟨ch, hDx, hcl, hc2, kx, Px⟩
        refine ⟨rfl, _, rfl, _, rfl, p, c, ns, _, _, _, rfl, Px, by omega, .inl ⟨fw, rfl, fwp, kx _ _ hF3 fwp⟩, fne, (by rw [List.length_map, hfl]; omega), fun j4 w4 H7 h4 k7 P7 => ?_⟩
        obtain ⟨y, hy, rfl⟩ := List.mem_map.mp (List.mem_of_getElem? h4)
        refine ⟨_, k7 _ _ hDx pD6.symm, (by rw [List.length_map, hcl]; show _ < 16777216; omega), ch ++ [y], by rw [upd_same, List.map_append]; rfl, by rw [List.length_append, hcl]; rfl, fun x hx => ?_, (kx.trans k7).new hD6, (P7.upd' pD6 cD6).mono (by omega)⟩
        rcases List.mem_append.mp hx with hx | hx
        · exact hc2 x hx
        · rw [List.mem_singleton.mp hx]; exact hy
      rintro H7 ⟨line, hD7, hll, hlm, k7, P7⟩
      refine ⟨D6, _, rfl, .inl ⟨SqL.of hD7, fun lt hlt => ?_⟩⟩
      have s8 : Same H7 (upd H7 lt (.tup (line.map V.str))) := (Same.refl H7).put hlt
      have e8 : (upd H7 lt (.tup (line.map V.str))) lt = some (.tup (line.map V.str)) := upd_same
      generalize upd H7 lt (.tup (line.map V.str)) = H8 at s8 e8 ⊢
      have kb8 : Keep p Hb H8 := ((k2.trans k3).trans k7).trans s8.keep
      have hF8 := (k7.trans s8.keep) _ _ hF3 fwp
      have P8 := P7.same s8
      have hrl8 := kb8 _ _ hrlb (Pb.lst_ne hrlb)
      have hnl8 := kb8 _ _ hnlb (Pb.lst_ne hnlb)
      have R8 := Rb.mono (H' := H8) fun b r e => kb8 b _ e (Pb.tup_ne (by unfold rowO at e; exact e))
      have fit := g.fit (by omega)
      -- the level
      refine ⟨_, rfl, rfl, _, rfl, rl, ts, rs, rfl, hrl8, R8, g, by omega, fun cl Hd cw sd => ⟨rfl, rfl, fun lv dx hlv hdx ne => ⟨lv, cl, dx, lt, rfl, upd_same, ?_⟩⟩⟩
      refine ⟨rfl, ?_⟩
      rw [upd_upd]
      have se : Same Hd (upd (upd Hd dx (.own lv)) lv (.ins B dx (fldsL cl lt))) := ((Same.refl Hd).put hdx).put hlv
      have ee : (upd (upd Hd dx (.own lv)) lv (.ins B dx (fldsL cl lt))) lv = some (.ins B dx (fldsL cl lt)) := upd_same
      generalize upd (upd Hd dx (.own lv)) lv (.ins B dx (fldsL cl lt)) = He at se ee ⊢
      have sbe := sd.trans se
      have cwe := cw.same se
      have Pe := P8.same sbe
      obtain ⟨dx1, fs1, f1, _⟩ := cwe.ins
      -- the level is right
      refine ⟨_, rfl, _, _, _, _, true, rfl, .own L, .base (.ins ee Y.cl O.ha O.hn O.htk O.hm), kBL, _, rfl, iteF ?_⟩
      refine ⟨_, rfl, lv, B, dx, _, _, rfl, ee, Y.cl, Y.nC, fldsL_classes _ _, rfl, _, rfl, rl, ts, rs, rfl, sbe _ _ hrl8, R8.mono fun b r e => sbe _ _ e, g, by omega, fun c2 Hf cw2 sf => ?_⟩
      obtain ⟨dx2, fs2, f2, _⟩ := cw2.ins
      refine ⟨cl, c2, dx1, fs1, dx2, fs2, rfl, rfl, sf _ _ f1, f2, cl, .ref c2, rs, rfl, cwe.same sf, fit, .inl ⟨c2, rs, rfl, cw2, fit, _, rfl, _, rfl, iteNS rfl ?_⟩⟩
      refine ⟨_, rfl, lv, B, dx, _, _, _, rfl, sf _ _ ee, Y.cl, kon, fldsL_no _ _ (by decide +kernel) (by decide +kernel), rfl, _, rfl, iteNS rfl ?_⟩
      have Pf := Pe.same sf
      have st : Sta B C Hf lv lt line rl ts rs nl fw few := ⟨⟨dx, cl, lt, sf _ _ ee, sf _ _ (sbe _ _ e8), cwe.same sf⟩, sf _ _ (sbe _ _ e8), sf _ _ (sbe _ _ hrl8), R8.mono fun b r e => sf _ _ (sbe _ _ e), sf _ _ (sbe _ _ hnl8), sf _ _ (sbe _ _ hF8)⟩
      have lvn : ∀ x ∈ line, VW x ∧ x ∈ keys (ups rs) := fun x hx => hvn x (hfm x (hlm x hx))
      have l12 : line.length ≤ 12 := by omega
      have lne : line ≠ [] := fun e => by rw [e] at hll; simp at hll; omega
      have f3 : few.length ≤ 3 := by omega
      have fne2 : few ≠ [] := fun e => fne (by rw [e]; rfl)
      clear ka kb Pa Pb Pe hrl hnl R ha hrlb hnlb Rb cw cwe cw2 f1 f2 sd se sbe ee sf d0 d1 e0 e1 hF hF3 hF8 P2 P3 P7 P8 k2 k3 k7 kb8 hrl8 hnl8 R8 e8 s8 hD7
      refine ⟨8, rfl, by decide, by decide, for_range (lo := 0) (n := 8) (fun j σ Hg => ∃ (v9 v10 : Option V), σ = [some (.ref a), some (.ref p), some (.int (0 + (i : Int))), some (.ref rl), some (.ref nl), some (.ref fw), v6, some (.ref lt), some (.ref lv), v9, v10] ∧ Keep p Hf Hg ∧ Pen Hg p c ns (n + 150 + 160 * j)) ?_ ?_ ?_⟩
      · exact ⟨_, _, rfl, Keep.refl p Hf, Pf.mono (by omega)⟩
      · rintro j σ Hg hj ⟨v9, v10, rfl, kg, Pg⟩
        have stg := st.kp Pf kg
        generalize hR : n + 150 + 160 * j = r at Pg
        have hr0 : r ≤ 12000 := by omega
        refine ⟨_, rfl, _, rfl, _, rfl, _, rfl, _, rfl, (by show 2 ≤ sizeLine; decide), fun l2 hl2 => ?_⟩
        refine ⟨p, c, ns, _, _, _, rfl, Pg.new hl2, by omega, .inl ⟨l2, rfl, (Pg.pne hl2).symm, upd_same⟩, by simp, (by show 2 ≤ 1000; decide), fun j3 w3 H5 h3 k5 P5 => ?_⟩
        have kg5 : Keep p Hg H5 := ((Keep.refl p Hg).new hl2).trans k5
        have st5 := stg.kp Pg kg5
        obtain ⟨q, nms, rfl, hq, qne, qle, qv⟩ : ∃ (q : Addr) (nms : List Str), w3 = .ref q ∧ H5 q = some (.lst (nms.map V.str)) ∧ nms ≠ [] ∧ nms.length ≤ 1000 ∧ ∀ x ∈ nms, VW x ∧ x ∈ keys (ups rs) := by
          have hm3 := List.mem_of_getElem? h3
          simp only [List.mem_cons, List.not_mem_nil, or_false] at hm3
          rcases hm3 with rfl | rfl
          · exact ⟨_, _, rfl, st5.fw, fne2, by omega, fun x hx => hvn x (hfm x hx)⟩
          · exact ⟨_, _, rfl, st5.nl, (by simp [base0]), nle, hvn⟩
        refine ⟨p, c, lt, q, ns, _, line, nms, rfl, P5, by omega, st5.lt, lne, l12, hq, qne, qle, fun ca ch H6 hca hch hmem k6 P6 => ?_⟩
        have st6 := st5.kp P5 k6
        have cvn : ∀ x ∈ ch, VW x ∧ x ∈ keys (ups rs) := fun x hx => (hmem x hx).elim (lvn x) (qv x)
        refine ⟨_, rfl, _, rfl, _, rfl, _, rfl, p, c, lv, lt, ca, ns, _, rs, line, ch, rfl, P6, by omega, st6.L, st6.lt, l12, fun x hx => (lvn x hx).1, hca, hch, fun x hx => (cvn x hx).1, fun H7 k7 P7 => ⟨_, rfl, iteF ?_⟩⟩
        have st7 := st6.kp P6 k7
        refine ⟨_, rfl, _, rfl, _, rfl, _, rfl, _, rfl, p, c, lv, ca, rl, nl, ns, _, rs, ts, line, ch, rfl, P7, by omega, st7.L, l12, k7 _ _ hca (P6.tup_ne hca), hch, cvn, st7.rl, st7.R, g, by omega, r2, st7.nl, fun H8 k8 P8 => ⟨_, rfl, iteF ?_⟩⟩
        exact ⟨_, _, rfl, kg.trans (kg5.trans (k6.trans (k7.trans k8))), P8.mono (by omega)⟩
      · rintro σ Hg ⟨v9, v10, rfl, kg, Pg⟩
        exact ⟨_, _, _, _, _, _, _, _, _, rfl, Pg.mono (by omega)⟩
    · rintro σ Hc ⟨v2, v3, v4, v5, v6, v7, v8, v9, v10, rfl, Pc⟩
      refine ⟨B, _, _, _, rfl, cRB, cVB, ?_⟩
      refine ⟨rfl, _, rfl, iteT ⟨L, _, _, _, rfl, cRL, cVL, rfl, ?_⟩⟩
      rw [decide_eq_true rfl]
      exact kQ _
end
end K2
end
section
set_option Elab.async false
set_option maxRecDepth 100000
set_option linter.all false
namespace K2
open PySem L2 PySem.Spec PyProof.Rows
section
variable {P : Program} {w : World} {K : PySem.W.Frag} {mg mb : Str → Option Value} {k : Nat} {fa a : Addr} {fd : FuncData} {x : Str} {s : Shared} {us : List Value} {ns : List Int}
/-- the call from the claim's own caller, told of any heap of which nothing but the script is tracked -/
theorem call_core {sp : Sp} {H : Hp} (kin : K.In s.heap) (gl : s.heap.Ns mainGlobals mg) (bl : s.heap.Ns builtinsNs mb) (bb : ∀ y : Str, y ≠ "__name__" → mb y = bootBuiltins y) (lim : s.heap.NoLimit) (gn : s.gens = #[])
    (ha : s.heap.get? a = some { cls := .type "list", data := .seq us.toArray }) (hr : Room k callerA) (F : ∀ base : Heap, K.In base → base.Ns mainGlobals mg → FnG P w K mg base k fa fd [x] sp) (bind : ∀ (z : Shared) (u : Value), BindsTo z fd ⟨[u], []⟩ [(x, u)])
    (only : Only H) (ok : HOk P w H s.heap) (lone : ∀ b, H b ≠ none → b = a) (apart : H a ≠ none → K.lookup a = none) (hsp : sp [.ref a] H (fun v _ => v = .bl true) fun _ _ _ => False) :
    codeAny (model P w) callerA (.call (.ref fa) ⟨[.ref a], []⟩) (fun r z => r = .ok (.ret (.bool true)) ∧ OldK s.heap z.heap ∧ z.os = s.os ∧ AllBare z.gens) s := by
  have un_dict : ∀ {b : Addr} {o : Obj} {es : Array DictEntry} {ep : Nat}, s.heap.get? b = some o → o.data = .dict es ep → H b = none := fun {b o es ep} e d => by
    by_cases q : H b = none
    · exact q
    · have := lone b q
      subst this
      rw [ha] at e
      cases e
      exact absurd (show Data.seq us.toArray _ = Data.dict es ep from d) (fun z => nomatch z)
  have ns2 : ∀ {b : Addr} {m : Str → Option Value}, s.heap.Ns b m → (hidT s.heap H).Ns b m := fun ⟨o, es, ep, e, d, r⟩ => ⟨o, es, ep, hidT_get e (un_dict e d), d, r⟩
  have kin2 : K.In (hidT s.heap H) := fun b o e => hidT_get (kin b o e) (by
    by_cases q : H b = none
    · exact q
    · have := lone b q
      subst this
      rw [apart q] at e
      cases e)
  have e0 : Env0 P w K mg (hidT s.heap H) callerA [] s H := ⟨rfl, ⟨kin2, ns2 gl, ⟨mb, ns2 bl, bb⟩, let ⟨mc, h1, h2⟩ := lim; ⟨mc, ns2 h1, h2⟩⟩, fun b o e => of_hidT e, Nat.le_of_eq (hidT_size _ _), trivial, fun b (hb : b ∈ ([] : List Addr)) => (List.not_mem_nil hb).elim, ok, .of_eq gn⟩
  refine codeAny_mono ((F _ kin2 (ns2 gl)).run callerA [] s H ⟨[.ref a], []⟩ [.ref a] [.ref a] _ _ hr rfl e0 (bind s (.ref a)) (.cons rfl .nil) hsp) fun r z h => ?_
  cases r with
  | error e => exact h.elim
  | ok fl =>
    cases fl with
    | next => exact h.elim
    | brk => exact h.elim
    | cont => exact h.elim
    | ret u =>
      obtain ⟨v, H2, os, bare, un, ok2, rv, q⟩ := h
      have q : v = .bl true := q
      subst q
      obtain rfl : u = Value.bool true := rv
      refine ⟨rfl, OldK.of_keep fun b o e => ?_, os, bare⟩
      rcases only b with z1 | ⟨ob, xs, z1⟩
      · exact un.keep b o e z1 (fun z : b ∈ ([] : List Addr) => (List.not_mem_nil z).elim) (fun z => (List.not_mem_nil z).elim)
      · obtain ⟨e1, _⟩ := ok b _ z1
        obtain ⟨e2, _⟩ := ok2 b _ (un.frzs b ob _ z1)
        rw [e] at e1
        cases e1
        exact e2
theorem law_callG (kin : K.In s.heap) (gl : s.heap.Ns mainGlobals mg) (bl : s.heap.Ns builtinsNs mb) (bb : ∀ y : Str, y ≠ "__name__" → mb y = bootBuiltins y) (lim : s.heap.NoLimit) (gn : s.gens = #[])
    (ha : s.heap.get? a = some { cls := .type "list", data := .seq us.toArray }) (hi : IntsAre us ns) (hl : ns.length ≤ 63) (hr : Room k callerA) (F : ∀ base : Heap, K.In base → base.Ns mainGlobals mg → FnG P w K mg base k fa fd [x] (spLaw K)) (bind : ∀ (z : Shared) (u : Value), BindsTo z fd ⟨[u], []⟩ [(x, u)]) :
    codeAny (model P w) callerA (.call (.ref fa) ⟨[.ref a], []⟩) (fun r z => r = .ok (.ret (.bool true)) ∧ OldK s.heap z.heap ∧ z.os = s.os ∧ AllBare z.gens) s := by
  have rv := vals_ints hi
  have ll := hi.length
  have pr : ∀ H : Hp, SqL K H a (ns.map V.int) → spLaw K [.ref a] H (fun v _ => v = .bl true) fun _ _ _ => False := fun H hS => ⟨a, ns, rfl, hS, hl, fun _ => rfl⟩
  cases hk : K.lookup a with
  | some o =>
    have e := kin a o hk
    rw [ha] at e
    cases e
    exact call_core (H := fun _ => none) kin gl bl bb lim gn ha hr F bind (fun _ => .inl rfl) (fun b u z => nomatch (show (none : Option HO) = some u from z)) (fun b z => absurd rfl z) (fun z => absurd rfl z)
      (pr _ (.inr ⟨_, us.toArray, _, hk, rfl, rfl, rfl, by rw [List.size_toArray, ll]; exact Nat.le_trans hl (by decide), by simpa using rv⟩))
  | none =>
    have at_ : ∀ b, (fun b => if b = a then some (HO.frz { cls := .type "list", data := .seq us.toArray } (.lst (ns.map V.int))) else none : Hp) b ≠ none → b = a := fun b z => by
      by_cases hb : b = a
      · exact hb
      · exact absurd (if_neg hb) z
    refine call_core (H := fun b => if b = a then some (HO.frz { cls := .type "list", data := .seq us.toArray } (.lst (ns.map V.int))) else none) kin gl bl bb lim gn ha hr F bind (fun b => ?_) (fun b u z => ?_) at_ (fun _ => hk)
      (pr _ (.inl (.inr ⟨{ cls := .type "list", data := .seq us.toArray }, if_pos rfl⟩)))
    · by_cases hb : b = a
      · exact .inr ⟨_, _, if_pos hb⟩
      · exact .inl (if_neg hb)
    · have hb : b = a := at_ b (by rw [z]; simp)
      subst hb
      have z2 := (if_pos rfl).symm.trans z
      cases z2
      exact ⟨ha, by rw [List.length_map]; exact Nat.le_trans hl (by decide), us, _, rv, ha⟩
end
theorem walk_ofG {l : PySem.W.OpenLaw} {q : Program} {loose : List Str} {XP : (Str → Option Value) → Heap → Prop} {YP : World → Heap → Prop} {d : DefRec} {K : Params → PySem.W.Frag} {k : Nat} {x : Str} (hn : l.most = some 63) (hdf : d.params.defaults = []) (hr : Room k callerA)
    (hY : ∀ (w : World) (h : Heap), YP w h → (K w.params).In h) (F : ∀ (w : World) (mg : Str → Option Value) (fa : Addr) (h : Heap), (K w.params).In h → h.Ns mainGlobals mg → mg d.name = some (.ref fa) →
      ∃ fd : FuncData, (∀ (z : Shared) (u : Value), BindsTo z fd ⟨[u], []⟩ [(x, u)]) ∧ ∀ base : Heap, (K w.params).In base → base.Ns mainGlobals mg → FnG l.prog w (K w.params) mg base k fa fd [x] (spLaw (K w.params))) :
    PySem.W.WalkO q loose XP YP l.row.toRowW d [] (fun f vs => PySem.call f vs) := by
  refine Att.attach_call hn hdf fun w s0 s1 mg mb fa o pm cd doc a vs ns G Y ho hd hcd hmg hobj hints hlen hg => ?_
  obtain ⟨fd, hb, hF⟩ := F w mg fa _ (hY w _ Y) G.T.g hmg
  exact law_callG (hY w _ Y) G.T.g G.T.b G.T.builtins G.T.nolimit hg hobj hints hlen hr hF hb
end K2
end
section
set_option Elab.async false
set_option maxRecDepth 100000
set_option linter.all false
namespace K2
open PySem L2 SupX NdefX
theorem vals_rev : ∀ {vs : List V} {us : List Value}, Vals vs us → Vals vs.reverse us.reverse
  | _, _, .nil => .nil
  | _ :: _, _ :: _, .cons r t => by
    rw [List.reverse_cons, List.reverse_cons]
    exact (vals_rev t).append (.cons r .nil)
def chkS : List Str → List Value → Bool
  | [], [] => true
  | x :: xs, .str y _ :: us => decide (x = y) && chkS xs us
  | _, _ => false
theorem chk_vals : ∀ {xs : List Str} {us : List Value}, chkS xs us = true → Vals (xs.map V.str) us
  | [], [], _ => .nil
  | x :: xs, .str y t :: us, h => by
    have h2 := Bool.and_eq_true_iff.mp (show (decide (x = y) && chkS xs us) = true from h)
    have e := of_decide_eq_true h2.1
    subst e
    exact .cons ⟨t, rfl⟩ (chk_vals h2.2)
theorem kit_yes {K : PySem.W.Frag} {B L : Addr} (c : PySem.W.isClsIn K L = true) (t : PySem.W.typeIn K (.ref L) = some (.type "type")) (e : PySem.W.subIn K (.ref B) (.ref L) = some true) : PySem.W.kitOne K (.ref B) (.ref L) = some true := by
  have q : PySem.W.kitCls K (.ref B) (.ref L) = some true := by
    show (if ((PySem.W.clsIn K L).isSome && PySem.W.typeIn K (.ref L) == some (.type "type")) = true then PySem.W.subIn K (.ref B) (.ref L) else none) = some true
    have c' : (PySem.W.clsIn K L).isSome = true := c
    rw [c', t, if_pos (by simp)]
    exact e
  unfold PySem.W.kitOne
  split
  · rfl
  · exact q

set_option maxHeartbeats 4000000 in
theorem all_mk {l : PySem.W.OpenLaw} {w : World} {K : PySem.W.Frag} {h : Heap} {mg : Str → Option Value} {fa C B L pM aR cc TV : Addr} {rest : List Value} {t1 t2 tkd tkl : Tok} {ddR odT : Option Addr} {itsR : Array Value} {nR2 nT : Nat} {slR slT : Array (Option Value)} {ocT clc : Value} {cldc : Option Addr} {cslc : Array (Option Value)} (X : K.In h) (G : h.Ns mainGlobals mg) (hfa : mg "law" = some (.ref fa))
    {fIW fAW fAD fFA fLI fPN fD fPK fBA fWO fSO fKL fWI fCH fDU fVR fTR fLW fIN fMA fCO fEQ fWT fME fLIN fLTK fLDO fBNO fBIN fBTK fBDO fBVI : Addr} {odIW anIW odAW anAW odAD anAD odFA anFA odLI anLI odPN anPN odD anD odPK anPK odBA anBA odWO anWO odSO anSO odKL anKL odWI anWI odCH anCH odDU anDU odVR anVR odTR anTR odLW anLW odIN anIN odMA anMA odCO anCO odEQ anEQ odWT anWT odME anME odLIN anLIN odLTK anLTK odLDO anLDO odBNO anBNO odBIN anBIN odBTK anBTK odBDO anBDO odBVI anBVI : Option Addr} {slIW slAW slAD slFA slLI slPN slD slPK slBA slWO slSO slKL slWI slCH slDU slVR slTR slLW slIN slMA slCO slEQ slWT slME slLIN slLTK slLDO slBNO slBIN slBTK slBDO slBVI : Array (Option Value)} {ocIW kVIW dcIW pmIW ctIW ocAW kVAW dcAW pmAW ctAW ocAD kVAD dcAD pmAD ctAD ocFA kVFA dcFA pmFA ctFA ocLI kVLI dcLI pmLI ctLI ocPN kVPN dcPN pmPN ctPN ocD kVD dcD pmD ctD ocPK kVPK dcPK pmPK ctPK ocBA kVBA dcBA pmBA ctBA ocWO kVWO dcWO pmWO ctWO ocSO kVSO dcSO pmSO ctSO ocKL kVKL dcKL pmKL ctKL ocWI kVWI dcWI pmWI ctWI ocCH kVCH dcCH pmCH ctCH ocDU kVDU dcDU pmDU ctDU ocVR kVVR dcVR pmVR ctVR ocTR kVTR dcTR pmTR ctTR ocLW kVLW dcLW pmLW ctLW ocIN kVIN dcIN pmIN ctIN ocMA kVMA dcMA pmMA ctMA ocCO kVCO dcCO pmCO ctCO ocEQ kVEQ dcEQ pmEQ ctEQ ocWT kVWT dcWT pmWT ctWT ocME kVME dcME pmME ctME ocLIN kVLIN dcLIN pmLIN ctLIN ocLTK kVLTK dcLTK pmLTK ctLTK ocLDO kVLDO dcLDO pmLDO ctLDO ocBNO kVBNO dcBNO pmBNO ctBNO ocBIN kVBIN dcBIN pmBIN ctBIN ocBTK kVBTK dcBTK pmBTK ctBTK ocBDO kVBDO dcBDO pmBDO ctBDO ocBVI kVBVI dcBVI pmBVI ctBVI cdIW cdAW cdAD cdFA cdLI cdPN cdD cdPK cdBA cdWO cdSO cdKL cdWI cdCH cdDU cdVR cdTR cdLW cdIN cdMA cdCO cdEQ cdWT cdME cdLIN cdLTK cdLDO cdBNO cdBVI : Value}
    {cdaBIN : Addr} {cclBIN : Value} {cddBIN : Option Addr} {vsBIN : Array Value} {ccsBIN : Array (Option Value)} {fileBIN : Str} {tfBIN : Tok} {cdaBTK : Addr} {cclBTK : Value} {cddBTK : Option Addr} {vsBTK : Array Value} {ccsBTK : Array (Option Value)} {fileBTK : Str} {tfBTK : Tok} {cdaBDO : Addr} {cclBDO : Value} {cddBDO : Option Addr} {vsBDO : Array Value} {ccsBDO : Array (Option Value)} {fileBDO : Str} {tfBDO : Tok}
    (aIW : PySem.W.nsIn K mainGlobals "is_word" = some (some (.ref fIW)))
    (aAW : PySem.W.nsIn K mainGlobals "are_words" = some (some (.ref fAW)))
    (aAD : PySem.W.nsIn K mainGlobals "are_different" = some (some (.ref fAD)))
    (aFA : PySem.W.nsIn K mainGlobals "_fault" = some (some (.ref fFA)))
    (aLI : PySem.W.nsIn K mainGlobals "_line" = some (some (.ref fLI)))
    (aPN : PySem.W.nsIn K mainGlobals "_law_pen" = some (some (.ref fPN)))
    (aD : PySem.W.nsIn K mainGlobals "_law_draw" = some (some (.ref fD)))
    (aPK : PySem.W.nsIn K mainGlobals "_law_pick" = some (some (.ref fPK)))
    (aBA : PySem.W.nsIn K mainGlobals "_law_barred" = some (some (.ref fBA)))
    (aWO : PySem.W.nsIn K mainGlobals "_law_words" = some (some (.ref fWO)))
    (aSO : PySem.W.nsIn K mainGlobals "_law_some" = some (some (.ref fSO)))
    (aKL : PySem.W.nsIn K mainGlobals "_law_classes" = some (some (.ref fKL)))
    (aWI : PySem.W.nsIn K mainGlobals "_law_within" = some (some (.ref fWI)))
    (aCH : PySem.W.nsIn K mainGlobals "_law_chain" = some (some (.ref fCH)))
    (aDU : PySem.W.nsIn K mainGlobals "_law_due" = some (some (.ref fDU)))
    (aVR : PySem.W.nsIn K mainGlobals "_law_views_right" = some (some (.ref fVR)))
    (aTR : PySem.W.nsIn K mainGlobals "_law_taken_right" = some (some (.ref fTR)))
    (aLW : PySem.W.nsIn K mainGlobals "law" = some (some (.ref fLW)))
    (lIW : K.lookup fIW = some ⟨ocIW, odIW, .func (PySem.W.fnOf "is_word" "is_word" (defArgs sIsW) (defBody sIsW) (defScope sIsW) .none kVIW dcIW pmIW anIW cdIW ctIW), slIW⟩) (cIW : PySem.W.codeIn K cdIW "is_word" = true) (kIW : PySem.W.keepIn K (.ref fIW) = true)
    (lAW : K.lookup fAW = some ⟨ocAW, odAW, .func (PySem.W.fnOf "are_words" "are_words" (defArgs sAreW) (defBody sAreW) (defScope sAreW) .none kVAW dcAW pmAW anAW cdAW ctAW), slAW⟩) (cAW : PySem.W.codeIn K cdAW "are_words" = true) (kAW : PySem.W.keepIn K (.ref fAW) = true)
    (lAD : K.lookup fAD = some ⟨ocAD, odAD, .func (PySem.W.fnOf "are_different" "are_different" (defArgs sAreD) (defBody sAreD) (defScope sAreD) .none kVAD dcAD pmAD anAD cdAD ctAD), slAD⟩) (cAD : PySem.W.codeIn K cdAD "are_different" = true) (kAD : PySem.W.keepIn K (.ref fAD) = true)
    (lFA : K.lookup fFA = some ⟨ocFA, odFA, .func (PySem.W.fnOf "_fault" "_fault" (defArgs sFault) (defBody sFault) (defScope sFault) .none kVFA dcFA pmFA anFA cdFA ctFA), slFA⟩) (cFA : PySem.W.codeIn K cdFA "_fault" = true) (kFA : PySem.W.keepIn K (.ref fFA) = true)
    (lLI : K.lookup fLI = some ⟨ocLI, odLI, .func (PySem.W.fnOf "_line" "_line" (defArgs sLine) (defBody sLine) (defScope sLine) .none kVLI dcLI pmLI anLI cdLI ctLI), slLI⟩) (cLI : PySem.W.codeIn K cdLI "_line" = true) (kLI : PySem.W.keepIn K (.ref fLI) = true)
    (lPN : K.lookup fPN = some ⟨ocPN, odPN, .func (PySem.W.fnOf "_law_pen" "_law_pen" (defArgs sPen) (defBody sPen) (defScope sPen) .none kVPN dcPN pmPN anPN cdPN ctPN), slPN⟩) (cPN : PySem.W.codeIn K cdPN "_law_pen" = true) (kPN : PySem.W.keepIn K (.ref fPN) = true)
    (lD : K.lookup fD = some ⟨ocD, odD, .func (PySem.W.fnOf "_law_draw" "_law_draw" (defArgs sDraw) (defBody sDraw) (defScope sDraw) .none kVD dcD pmD anD cdD ctD), slD⟩) (cD : PySem.W.codeIn K cdD "_law_draw" = true) (kD : PySem.W.keepIn K (.ref fD) = true)
    (lPK : K.lookup fPK = some ⟨ocPK, odPK, .func (PySem.W.fnOf "_law_pick" "_law_pick" (defArgs sPick) (defBody sPick) (defScope sPick) .none kVPK dcPK pmPK anPK cdPK ctPK), slPK⟩) (cPK : PySem.W.codeIn K cdPK "_law_pick" = true) (kPK : PySem.W.keepIn K (.ref fPK) = true)
    (lBA : K.lookup fBA = some ⟨ocBA, odBA, .func (PySem.W.fnOf "_law_barred" "_law_barred" (defArgs sBarred) (defBody sBarred) (defScope sBarred) .none kVBA dcBA pmBA anBA cdBA ctBA), slBA⟩) (cBA : PySem.W.codeIn K cdBA "_law_barred" = true) (kBA : PySem.W.keepIn K (.ref fBA) = true)
    (lWO : K.lookup fWO = some ⟨ocWO, odWO, .func (PySem.W.fnOf "_law_words" "_law_words" (defArgs sWords) (defBody sWords) (defScope sWords) .none kVWO dcWO pmWO anWO cdWO ctWO), slWO⟩) (cWO : PySem.W.codeIn K cdWO "_law_words" = true) (kWO : PySem.W.keepIn K (.ref fWO) = true)
    (lSO : K.lookup fSO = some ⟨ocSO, odSO, .func (PySem.W.fnOf "_law_some" "_law_some" (defArgs sSo) (defBody sSo) (defScope sSo) .none kVSO dcSO pmSO anSO cdSO ctSO), slSO⟩) (cSO : PySem.W.codeIn K cdSO "_law_some" = true) (kSO : PySem.W.keepIn K (.ref fSO) = true)
    (lKL : K.lookup fKL = some ⟨ocKL, odKL, .func (PySem.W.fnOf "_law_classes" "_law_classes" (defArgs sKl) (defBody sKl) (defScope sKl) .none kVKL dcKL pmKL anKL cdKL ctKL), slKL⟩) (cKL : PySem.W.codeIn K cdKL "_law_classes" = true) (kKL : PySem.W.keepIn K (.ref fKL) = true)
    (lWI : K.lookup fWI = some ⟨ocWI, odWI, .func (PySem.W.fnOf "_law_within" "_law_within" (defArgs sWi) (defBody sWi) (defScope sWi) .none kVWI dcWI pmWI anWI cdWI ctWI), slWI⟩) (cWI : PySem.W.codeIn K cdWI "_law_within" = true) (kWI : PySem.W.keepIn K (.ref fWI) = true)
    (lCH : K.lookup fCH = some ⟨ocCH, odCH, .func (PySem.W.fnOf "_law_chain" "_law_chain" (defArgs sCh) (defBody sCh) (defScope sCh) .none kVCH dcCH pmCH anCH cdCH ctCH), slCH⟩) (cCH : PySem.W.codeIn K cdCH "_law_chain" = true) (kCH : PySem.W.keepIn K (.ref fCH) = true)
    (lDU : K.lookup fDU = some ⟨ocDU, odDU, .func (PySem.W.fnOf "_law_due" "_law_due" (defArgs sDu) (defBody sDu) (defScope sDu) .none kVDU dcDU pmDU anDU cdDU ctDU), slDU⟩) (cDU : PySem.W.codeIn K cdDU "_law_due" = true) (kDU : PySem.W.keepIn K (.ref fDU) = true)
    (lVR : K.lookup fVR = some ⟨ocVR, odVR, .func (PySem.W.fnOf "_law_views_right" "_law_views_right" (defArgs sVr) (defBody sVr) (defScope sVr) .none kVVR dcVR pmVR anVR cdVR ctVR), slVR⟩) (cVR : PySem.W.codeIn K cdVR "_law_views_right" = true) (kVR : PySem.W.keepIn K (.ref fVR) = true)
    (lTR : K.lookup fTR = some ⟨ocTR, odTR, .func (PySem.W.fnOf "_law_taken_right" "_law_taken_right" (defArgs sTr) (defBody sTr) (defScope sTr) .none kVTR dcTR pmTR anTR cdTR ctTR), slTR⟩) (cTR : PySem.W.codeIn K cdTR "_law_taken_right" = true) (kTR : PySem.W.keepIn K (.ref fTR) = true)
    (lLW : K.lookup fLW = some ⟨ocLW, odLW, .func (PySem.W.fnOf "law" "law" (defArgs sLaw) (defBody sLaw) (defScope sLaw) .none kVLW dcLW pmLW anLW cdLW ctLW), slLW⟩) (cLW : PySem.W.codeIn K cdLW "law" = true) (kLW : PySem.W.keepIn K (.ref fLW) = true)
    (lIN : K.lookup fIN = some ⟨ocIN, odIN, .func (PySem.W.fnOf "__init__" "Classes.__init__" (defArgs sInit) (defBody sInit) (defScope sInit) .none kVIN dcIN pmIN anIN cdIN ctIN), slIN⟩) (cIN : PySem.W.codeIn K cdIN "Classes.__init__" = true) (kIN : PySem.W.keepIn K (.ref fIN) = true)
    (lMA : K.lookup fMA = some ⟨ocMA, odMA, .func (PySem.W.fnOf "made" "Classes.made" (defArgs sMade) (defBody sMade) (defScope sMade) .none kVMA dcMA pmMA anMA cdMA ctMA), slMA⟩) (cMA : PySem.W.codeIn K cdMA "Classes.made" = true) (kMA : PySem.W.keepIn K (.ref fMA) = true)
    (lCO : K.lookup fCO = some ⟨ocCO, odCO, .func (PySem.W.fnOf "__contains__" "Classes.__contains__" (defArgs sCo) (defBody sCo) (defScope sCo) .none kVCO dcCO pmCO anCO cdCO ctCO), slCO⟩) (cCO : PySem.W.codeIn K cdCO "Classes.__contains__" = true) (kCO : PySem.W.keepIn K (.ref fCO) = true)
    (lEQ : K.lookup fEQ = some ⟨ocEQ, odEQ, .func (PySem.W.fnOf "__eq__" "Classes.__eq__" (defArgs sEq) (defBody sEq) (defScope sEq) .none kVEQ dcEQ pmEQ anEQ cdEQ ctEQ), slEQ⟩) (cEQ : PySem.W.codeIn K cdEQ "Classes.__eq__" = true) (kEQ : PySem.W.keepIn K (.ref fEQ) = true)
    (lWT : K.lookup fWT = some ⟨ocWT, odWT, .func (PySem.W.fnOf "within" "Classes.within" (defArgs sWithin) (defBody sWithin) (defScope sWithin) .none kVWT dcWT pmWT anWT cdWT ctWT), slWT⟩) (cWT : PySem.W.codeIn K cdWT "Classes.within" = true) (kWT : PySem.W.keepIn K (.ref fWT) = true)
    (lME : K.lookup fME = some ⟨ocME, odME, .func (PySem.W.fnOf "meets" "Classes.meets" (defArgs sMeets) (defBody sMeets) (defScope sMeets) .none kVME dcME pmME anME cdME ctME), slME⟩) (cME : PySem.W.codeIn K cdME "Classes.meets" = true) (kME : PySem.W.keepIn K (.ref fME) = true)
    (lLIN : K.lookup fLIN = some ⟨ocLIN, odLIN, .func (PySem.W.fnOf "__init__" "Level.__init__" (defArgs sLI) (defBody sLI) (defScope sLI) .none kVLIN dcLIN pmLIN anLIN cdLIN ctLIN), slLIN⟩) (cLIN : PySem.W.codeIn K cdLIN "Level.__init__" = true) (kLIN : PySem.W.keepIn K (.ref fLIN) = true)
    (lLTK : K.lookup fLTK = some ⟨ocLTK, odLTK, .func (PySem.W.fnOf "taken" "Level.taken" (defArgs sLT) (defBody sLT) (defScope sLT) .none kVLTK dcLTK pmLTK anLTK cdLTK ctLTK), slLTK⟩) (cLTK : PySem.W.codeIn K cdLTK "Level.taken" = true) (kLTK : PySem.W.keepIn K (.ref fLTK) = true)
    (lLDO : K.lookup fLDO = some ⟨ocLDO, odLDO, .func (PySem.W.fnOf "does" "Level.does" (defArgs sLD) (defBody sLD) (defScope sLD) .none kVLDO dcLDO pmLDO anLDO cdLDO ctLDO), slLDO⟩) (cLDO : PySem.W.codeIn K cdLDO "Level.does" = true) (kLDO : PySem.W.keepIn K (.ref fLDO) = true)
    (lBNO : K.lookup fBNO = some ⟨ocBNO, odBNO, .func (PySem.W.fnOf "name_of" "ByTrail.name_of" (defArgs sBN) (defBody sBN) (defScope sBN) .none kVBNO dcBNO pmBNO anBNO cdBNO ctBNO), slBNO⟩) (cBNO : PySem.W.codeIn K cdBNO "ByTrail.name_of" = true) (kBNO : PySem.W.keepIn K (.ref fBNO) = true)
    (aC : PySem.W.nsIn K mainGlobals "Classes" = some (some (.ref C)))
    (aB : PySem.W.nsIn K mainGlobals "ByTrail" = some (some (.ref B)))
    (aL : PySem.W.nsIn K mainGlobals "Level" = some (some (.ref L)))
    (aIN : PySem.W.findIn K (.ref C) "__init__" = some (some (.ref fIN)))
    (iIN : PySem.W.isFn K (.ref fIN) = true)
    (aCO : PySem.W.findIn K (.ref C) "__contains__" = some (some (.ref fCO)))
    (iCO : PySem.W.isFn K (.ref fCO) = true)
    (aEQ : PySem.W.findIn K (.ref C) "__eq__" = some (some (.ref fEQ)))
    (iEQ : PySem.W.isFn K (.ref fEQ) = true)
    (aWT : PySem.W.findIn K (.ref C) "within" = some (some (.ref fWT)))
    (iWT : PySem.W.isFn K (.ref fWT) = true)
    (aME : PySem.W.findIn K (.ref C) "meets" = some (some (.ref fME)))
    (iME : PySem.W.isFn K (.ref fME) = true)
    (aLIN : PySem.W.findIn K (.ref L) "__init__" = some (some (.ref fLIN)))
    (iLIN : PySem.W.isFn K (.ref fLIN) = true)
    (aLTK : PySem.W.findIn K (.ref L) "taken" = some (some (.ref fLTK)))
    (iLTK : PySem.W.isFn K (.ref fLTK) = true)
    (aLDO : PySem.W.findIn K (.ref L) "does" = some (some (.ref fLDO)))
    (iLDO : PySem.W.isFn K (.ref fLDO) = true)
    (aBNO : PySem.W.findIn K (.ref B) "name_of" = some (some (.ref fBNO)))
    (iBNO : PySem.W.isFn K (.ref fBNO) = true)
    (aBIN : PySem.W.findIn K (.ref B) "__init__" = some (some (.ref fBIN)))
    (iBIN : PySem.W.isFn K (.ref fBIN) = true)
    (aBTK : PySem.W.findIn K (.ref B) "taken" = some (some (.ref fBTK)))
    (iBTK : PySem.W.isFn K (.ref fBTK) = true)
    (aBDO : PySem.W.findIn K (.ref B) "does" = some (some (.ref fBDO)))
    (iBDO : PySem.W.isFn K (.ref fBDO) = true)
    (aBVI : PySem.W.findIn K (.ref B) "view" = some (some (.ref fBVI)))
    (iBVI : PySem.W.isFn K (.ref fBVI) = true)
    (lBIN : K.lookup fBIN = some ⟨ocBIN, odBIN, .func (PySem.W.fnX "__init__" "ByTrail.__init__" (defArgs sBI) (defBody sBI) (defScope sBI) [("__class__", cc)] .none kVBIN dcBIN pmBIN anBIN (.ref cdaBIN) ctBIN), slBIN⟩)
    (cBIN : PySem.W.codeIn K (.ref cdaBIN) "ByTrail.__init__" = true)
    (kBIN : PySem.W.keepIn K (.ref fBIN) = true)
    (qBIN : K.lookup cdaBIN = some ⟨cclBIN, cddBIN, .fields vsBIN, ccsBIN⟩)
    (vBIN : vsBIN[2]? = some (.str fileBIN tfBIN))
    (eBIN : ((l.prog.main.file : Str) == fileBIN) = true)
    (sBIN : PySem.W.ks_superIn K B B "__init__" = some (some (.ref fLIN)))
    (tBIN : PySem.W.typeIn K (.ref fLIN) = some (.type "function"))
    (nBIN : PySem.W.fnIn K fLIN = true)
    (lBTK : K.lookup fBTK = some ⟨ocBTK, odBTK, .func (PySem.W.fnX "taken" "ByTrail.taken" (defArgs sBT) (defBody sBT) (defScope sBT) [("__class__", cc)] .none kVBTK dcBTK pmBTK anBTK (.ref cdaBTK) ctBTK), slBTK⟩)
    (cBTK : PySem.W.codeIn K (.ref cdaBTK) "ByTrail.taken" = true)
    (kBTK : PySem.W.keepIn K (.ref fBTK) = true)
    (qBTK : K.lookup cdaBTK = some ⟨cclBTK, cddBTK, .fields vsBTK, ccsBTK⟩)
    (vBTK : vsBTK[2]? = some (.str fileBTK tfBTK))
    (eBTK : ((l.prog.main.file : Str) == fileBTK) = true)
    (sBTK : PySem.W.ks_superIn K B B "taken" = some (some (.ref fLTK)))
    (tBTK : PySem.W.typeIn K (.ref fLTK) = some (.type "function"))
    (nBTK : PySem.W.fnIn K fLTK = true)
    (lBDO : K.lookup fBDO = some ⟨ocBDO, odBDO, .func (PySem.W.fnX "does" "ByTrail.does" (defArgs sBD) (defBody sBD) (defScope sBD) [("__class__", cc)] .none kVBDO dcBDO pmBDO anBDO (.ref cdaBDO) ctBDO), slBDO⟩)
    (cBDO : PySem.W.codeIn K (.ref cdaBDO) "ByTrail.does" = true)
    (kBDO : PySem.W.keepIn K (.ref fBDO) = true)
    (qBDO : K.lookup cdaBDO = some ⟨cclBDO, cddBDO, .fields vsBDO, ccsBDO⟩)
    (vBDO : vsBDO[2]? = some (.str fileBDO tfBDO))
    (eBDO : ((l.prog.main.file : Str) == fileBDO) = true)
    (sBDO : PySem.W.ks_superIn K B B "does" = some (some (.ref fLDO)))
    (tBDO : PySem.W.typeIn K (.ref fLDO) = some (.type "function"))
    (nBDO : PySem.W.fnIn K fLDO = true)
    (lcc : K.lookup cc = some ⟨clc, cldc, .cell (some (.ref B)), cslc⟩)
    (isB : PySem.W.isClsIn K B = true)
    (mBB : PySem.W.mroIn K B (.ref B) = some true)
    (opq : PySem.W.nsIn K PySem.cStatics "thirdparty.any" = some none)
    (bSu : PySem.W.nsIn K mainGlobals "super" = some none)
    (top0 : (l.prog.main.scope.names.lookup ("super" : Str)).isSome = false)
    (lBVI : K.lookup fBVI = some ⟨ocBVI, odBVI, .func (PySem.W.fnOf "view" "ByTrail.view" (defArgs sBV) (defBody sBV) (defScope sBV) (.ref TV) kVBVI dcBVI pmBVI anBVI cdBVI ctBVI), slBVI⟩)
    (cBVI : PySem.W.codeIn K cdBVI "ByTrail.view" = true)
    (kBVI : PySem.W.keepIn K (.ref fBVI) = true)
    (lTV : K.lookup TV = some ⟨ocT, odT, .seq #[.none] nT, slT⟩)
    (nE : PySem.W.findIn K (.ref C) "__ne__" = some (some (.builtin "object.__ne__")))
    (haC : PySem.W.findIn K (.ref C) "__class__" = some (some (.builtin "object.__class__")))
    (hmoC : PySem.W.mroIn K C (.type "object") = some true)
    (pgC : PySem.W.plainGet K C Str.empty = true)
    (hdC : PySem.W.hasDictIn K C = true)
    (poC : PySem.W.plainOver K C = true)
    (saC : PySem.W.findIn K (.ref C) "__setattr__" = some (some (.builtin "object.__setattr__")))
    (mkC : PySem.W.makesIn K C = true)
    (kcC : PySem.W.keepIn K (.ref C) = true)
    (rdC : PySem.W.readsIn K C (.type "type") = true)
    (gaC : PySem.W.specialIn K (.ref C) "__getattribute__" = some (some (.builtin "type.__getattribute__")))
    (haB : PySem.W.findIn K (.ref B) "__class__" = some (some (.builtin "object.__class__")))
    (hmoB : PySem.W.mroIn K B (.type "object") = some true)
    (pgB : PySem.W.plainGet K B Str.empty = true)
    (hdB : PySem.W.hasDictIn K B = true)
    (poB : PySem.W.plainOver K B = true)
    (saB : PySem.W.findIn K (.ref B) "__setattr__" = some (some (.builtin "object.__setattr__")))
    (mkB : PySem.W.makesIn K B = true)
    (kcB : PySem.W.keepIn K (.ref B) = true)
    (rdB : PySem.W.readsIn K B (.type "type") = true)
    (gaB : PySem.W.specialIn K (.ref B) "__getattribute__" = some (some (.builtin "type.__getattribute__")))
    (hn : PySem.W.specialIn K (.builtin "object.__class__") "__get__" = some (some (.builtin "getset_descriptor.__get__")))
    (htk : PySem.W.takesIn K (.builtin "object.__class__") = some true)
    (isL : PySem.W.isClsIn K L = true)
    (tyL : PySem.W.typeIn K (.ref L) = some (.type "type"))
    (suB : PySem.W.subIn K (.ref B) (.ref L) = some true)
    (nR : PySem.W.findIn K (.ref C) "rows" = some none)
    (nN : PySem.W.findIn K (.ref C) "names" = some none)
    (nL : PySem.W.findIn K (.ref C) "_lines" = some none)
    (nCl : PySem.W.findIn K (.ref B) "classes" = some none)
    (nMo : PySem.W.findIn K (.ref B) "trail" = some none)
    (kd : PySem.W.findIn K (.ref B) "KIND" = some (some (.str "trail" tkd)))
    (kdg : PySem.W.specialIn K (.str "trail" tkd) "__get__" = some none)
    (rdL : PySem.W.readsIn K L (.type "type") = true)
    (gaL : PySem.W.specialIn K (.ref L) "__getattribute__" = some (some (.builtin "type.__getattribute__")))
    (kdl : PySem.W.findCls K (.ref L) (.type "type") "KIND" = some (.val (.str "class" tkl)))
    (kdc : PySem.W.findCls K (.ref B) (.type "type") "KIND" = some (.val (.str "trail" tkd)))
    (cm : PySem.W.findCls K (.ref C) (.type "type") "made" = some (.get (.builtin "classmethod.__get__") (.ref pM) .none (.ref C)))
    (rc : PySem.W.recIn K pM "classmethod" = some (.ref fMA :: rest))
    (fi : PySem.W.fnIn K fMA = true)
    (zL : PySem.W.nsIn K mainGlobals "LONGEST" = some (some (.int 8 t1)))
    (zM : PySem.W.nsIn K mainGlobals "MOST_ROWS" = some (some (.int 30 t2)))
    (zR : PySem.W.nsIn K mainGlobals "RESERVED" = some (some (.ref aR)))
    (lR : K.lookup aR = some ⟨.type "tuple", ddR, .seq itsR nR2, slR⟩)
    (vR : chkS resd itsR.toList = true)
    (szR : itsR.size ≤ sizeLine)
    (b_len : PySem.W.nsIn K mainGlobals "len" = some none)
    (b_int : PySem.W.nsIn K mainGlobals "int" = some none)
    (b_abs : PySem.W.nsIn K mainGlobals "abs" = some none)
    (b_range : PySem.W.nsIn K mainGlobals "range" = some none)
    (b_list : PySem.W.nsIn K mainGlobals "list" = some none)
    (b_tuple : PySem.W.nsIn K mainGlobals "tuple" = some none)
    (b_enumerate : PySem.W.nsIn K mainGlobals "enumerate" = some none)
    (b_isinstance : PySem.W.nsIn K mainGlobals "isinstance" = some none)
    (b_str : PySem.W.nsIn K mainGlobals "str" = some none)
    (b_set : PySem.W.nsIn K mainGlobals "set" = some none)
    (b_all : PySem.W.nsIn K mainGlobals "all" = some none)
    (b_repr : PySem.W.nsIn K mainGlobals "repr" = some none)
    (b_any : PySem.W.nsIn K mainGlobals "any" = some none)
    : ∃ fd : FuncData, (∀ (z : Shared) (u : Value), BindsTo z fd ⟨[u], []⟩ [("_law_script", u)]) ∧ ∀ base : Heap, K.In base → base.Ns mainGlobals mg → FnG l.prog w K mg base 8 fa fd ["_law_script"] (spLaw K) := by
  have e := hfa.symm.trans (PySem.W.mg_of X G aLW)
  cases e
  have T : Bi mg := ⟨PySem.W.mg_none_of X G b_len, PySem.W.mg_none_of X G b_int, PySem.W.mg_none_of X G b_abs, PySem.W.mg_none_of X G b_range, PySem.W.mg_none_of X G b_list, PySem.W.mg_none_of X G b_tuple, PySem.W.mg_none_of X G b_enumerate, PySem.W.mg_none_of X G b_isinstance, PySem.W.mg_none_of X G b_str, PySem.W.mg_none_of X G b_set, PySem.W.mg_none_of X G b_all, PySem.W.mg_none_of X G b_repr⟩
  have GB : Gb K mg aR t1 t2 := ⟨PySem.W.mg_of X G zL, PySem.W.mg_of X G zM, PySem.W.mg_of X G zR, fun H => .inr ⟨_, itsR, nR2, lR, rfl, rfl, szR, chk_vals vR⟩⟩
  have YC : Txt K mg C := ⟨⟨pgC, hdC, poC, saC⟩, nR, nN, nL, PySem.W.mg_of X G aC⟩
  have Y : LTxt K B := ⟨⟨pgB, hdB, poB, saB⟩, nCl, nMo⟩
  have FIW := fun_mk (st := sIsW) lIW cIW kIW
  have FAW := fun_mk (st := sAreW) lAW cAW kAW
  have FAD := fun_mk (st := sAreD) lAD cAD kAD
  have FFA := fun_mk (st := sFault) lFA cFA kFA
  have FLI := fun_mk (st := sLine) lLI cLI kLI
  have FPN := fun_mk (st := sPen) lPN cPN kPN
  have FD := fun_mk (st := sDraw) lD cD kD
  have FPK := fun_mk (st := sPick) lPK cPK kPK
  have FBA := fun_mk (st := sBarred) lBA cBA kBA
  have FWO := fun_mk (st := sWords) lWO cWO kWO
  have FSO := fun_mk (st := sSo) lSO cSO kSO
  have FKL := fun_mk (st := sKl) lKL cKL kKL
  have FWI := fun_mk (st := sWi) lWI cWI kWI
  have FCH := fun_mk (st := sCh) lCH cCH kCH
  have FDU := fun_mk (st := sDu) lDU cDU kDU
  have FVR := fun_mk (st := sVr) lVR cVR kVR
  have FTR := fun_mk (st := sTr) lTR cTR kTR
  have FLW := fun_mk (st := sLaw) lLW cLW kLW
  have FIN := fun_mk (st := sInit) lIN cIN kIN
  have FMA := fun_mk (st := sMade) lMA cMA kMA
  have FCO := fun_mk (st := sCo) lCO cCO kCO
  have FEQ := fun_mk (st := sEq) lEQ cEQ kEQ
  have FWT := fun_mk (st := sWithin) lWT cWT kWT
  have FME := fun_mk (st := sMeets) lME cME kME
  have FLIN := fun_mk (st := sLI) lLIN cLIN kLIN
  have FLTK := fun_mk (st := sLT) lLTK cLTK kLTK
  have FLDO := fun_mk (st := sLD) lLDO cLDO kLDO
  have FBNO := fun_mk (st := sBN) lBNO cBNO kBNO
  have DIW : Df K mg "is_word" sIsW fIW _ (["x"] : List Str) := ⟨FIW, PySem.W.mg_of X G aIW, FIW.binds (ps := ["x"]) fun _ _ _ _ _ _ us hl => match us, hl with | [_], _ => rfl⟩
  have DAW : Df K mg "are_words" sAreW fAW _ (["xs"] : List Str) := ⟨FAW, PySem.W.mg_of X G aAW, FAW.binds (ps := ["xs"]) fun _ _ _ _ _ _ us hl => match us, hl with | [_], _ => rfl⟩
  have DAD : Df K mg "are_different" sAreD fAD _ (["words"] : List Str) := ⟨FAD, PySem.W.mg_of X G aAD, FAD.binds (ps := ["words"]) fun _ _ _ _ _ _ us hl => match us, hl with | [_], _ => rfl⟩
  have DFA : Df K mg "_fault" sFault fFA _ (["row", "k", "lines"] : List Str) := ⟨FFA, PySem.W.mg_of X G aFA, FFA.binds (ps := ["row", "k", "lines"]) fun _ _ _ _ _ _ us hl => match us, hl with | [_, _, _], _ => rfl⟩
  have DLI : Df K mg "_line" sLine fLI _ (["row", "lines"] : List Str) := ⟨FLI, PySem.W.mg_of X G aLI, FLI.binds (ps := ["row", "lines"]) fun _ _ _ _ _ _ us hl => match us, hl with | [_, _], _ => rfl⟩
  have DPN : Df K mg "_law_pen" sPen fPN _ (["_law_script"] : List Str) := ⟨FPN, PySem.W.mg_of X G aPN, FPN.binds (ps := ["_law_script"]) fun _ _ _ _ _ _ us hl => match us, hl with | [_], _ => rfl⟩
  have DD : Df K mg "_law_draw" sDraw fD _ (["_law_pen_here", "_law_many"] : List Str) := ⟨FD, PySem.W.mg_of X G aD, FD.binds (ps := ["_law_pen_here", "_law_many"]) fun _ _ _ _ _ _ us hl => match us, hl with | [_, _], _ => rfl⟩
  have DPK : Df K mg "_law_pick" sPick fPK _ (["_law_pen_here", "_law_some_here"] : List Str) := ⟨FPK, PySem.W.mg_of X G aPK, FPK.binds (ps := ["_law_pen_here", "_law_some_here"]) fun _ _ _ _ _ _ us hl => match us, hl with | [_, _], _ => rfl⟩
  have DBA : Df K mg "_law_barred" sBarred fBA _ ([] : List Str) := ⟨FBA, PySem.W.mg_of X G aBA, FBA.binds (ps := []) fun _ _ _ _ _ _ us hl => match us, hl with | [], _ => rfl⟩
  have DWO : Df K mg "_law_words" sWords fWO _ (["_law_pen_here", "_law_many"] : List Str) := ⟨FWO, PySem.W.mg_of X G aWO, FWO.binds (ps := ["_law_pen_here", "_law_many"]) fun _ _ _ _ _ _ us hl => match us, hl with | [_, _], _ => rfl⟩
  have DSO : Df K mg "_law_some" sSo fSO _ (["_law_pen_here", "_law_names"] : List Str) := ⟨FSO, PySem.W.mg_of X G aSO, FSO.binds (ps := ["_law_pen_here", "_law_names"]) fun _ _ _ _ _ _ us hl => match us, hl with | [_, _], _ => rfl⟩
  have DKL : Df K mg "_law_classes" sKl fKL _ (["_law_pen_here", "_law_most"] : List Str) := ⟨FKL, PySem.W.mg_of X G aKL, FKL.binds (ps := ["_law_pen_here", "_law_most"]) fun _ _ _ _ _ _ us hl => match us, hl with | [_, _], _ => rfl⟩
  have DWI : Df K mg "_law_within" sWi fWI _ (["_law_rows", "_law_one", "_law_other"] : List Str) := ⟨FWI, PySem.W.mg_of X G aWI, FWI.binds (ps := ["_law_rows", "_law_one", "_law_other"]) fun _ _ _ _ _ _ us hl => match us, hl with | [_, _, _], _ => rfl⟩
  have DCH : Df K mg "_law_chain" sCh fCH _ (["_law_pen_here", "_law_line", "_law_names"] : List Str) := ⟨FCH, PySem.W.mg_of X G aCH, FCH.binds (ps := ["_law_pen_here", "_law_line", "_law_names"]) fun _ _ _ _ _ _ us hl => match us, hl with | [_, _, _], _ => rfl⟩
  have DDU : Df K mg "_law_due" sDu fDU _ (["_law_line", "_law_rest"] : List Str) := ⟨FDU, PySem.W.mg_of X G aDU, FDU.binds (ps := ["_law_line", "_law_rest"]) fun _ _ _ _ _ _ us hl => match us, hl with | [_, _], _ => rfl⟩
  have DVR : Df K mg "_law_views_right" sVr fVR _ (["_law_pen_here", "_law_level", "_law_line", "_law_chain_here"] : List Str) := ⟨FVR, PySem.W.mg_of X G aVR, FVR.binds (ps := ["_law_pen_here", "_law_level", "_law_line", "_law_chain_here"]) fun _ _ _ _ _ _ us hl => match us, hl with | [_, _, _, _], _ => rfl⟩
  have DTR : Df K mg "_law_taken_right" sTr fTR _ (["_law_pen_here", "_law_level", "_law_rows", "_law_names", "_law_chain_here"] : List Str) := ⟨FTR, PySem.W.mg_of X G aTR, FTR.binds (ps := ["_law_pen_here", "_law_level", "_law_rows", "_law_names", "_law_chain_here"]) fun _ _ _ _ _ _ us hl => match us, hl with | [_, _, _, _, _], _ => rfl⟩
  have BMA := FMA.binds (ps := ["cls", "rows"]) fun _ _ _ _ _ _ us hl => match us, hl with | [_, _], _ => rfl
  have BCO := FCO.binds (ps := ["self", "x"]) fun _ _ _ _ _ _ us hl => match us, hl with | [_, _], _ => rfl
  have BEQ := FEQ.binds (ps := ["self", "other"]) fun _ _ _ _ _ _ us hl => match us, hl with | [_, _], _ => rfl
  have BWT := FWT.binds (ps := ["self", "one", "other"]) fun _ _ _ _ _ _ us hl => match us, hl with | [_, _, _], _ => rfl
  have BME := FME.binds (ps := ["self", "kind", "names"]) fun _ _ _ _ _ _ us hl => match us, hl with | [_, _, _], _ => rfl
  have BLIN := FLIN.binds (ps := ["self", "classes"]) fun _ _ _ _ _ _ us hl => match us, hl with | [_, _], _ => rfl
  have BLTK := FLTK.binds (ps := ["self", "view", "names"]) fun _ _ _ _ _ _ us hl => match us, hl with | [_, _, _], _ => rfl
  have BLDO := FLDO.binds (ps := ["self", "callback", "handled"]) fun _ _ _ _ _ _ us hl => match us, hl with | [_, _, _], _ => rfl
  have BBNO := FBNO.binds (ps := ["self", "view"]) fun _ _ _ _ _ _ us hl => match us, hl with | [_, _], _ => rfl
  have FBIN : SFun l.prog K B cc "__init__" "ByTrail.__init__" sBI fBIN (PySem.W.fnX "__init__" "ByTrail.__init__" (defArgs sBI) (defBody sBI) (defScope sBI) [("__class__", cc)] .none kVBIN dcBIN pmBIN anBIN (.ref cdaBIN) ctBIN) := ⟨⟨_, _, _, _, _, _, cdaBIN, _, _, rfl, lBIN, cBIN, _, _, vsBIN, _, fileBIN, tfBIN, qBIN, vBIN, eBIN⟩, ⟨_, _, _, lcc⟩, isB, kBIN⟩
  have MBIN : SMeth K B B "__init__" fLIN := ⟨mBB, opq, sBIN, tBIN, nBIN⟩
  have BBIN : Binds K (PySem.W.fnX "__init__" "ByTrail.__init__" (defArgs sBI) (defBody sBI) (defScope sBI) [("__class__", cc)] .none kVBIN dcBIN pmBIN anBIN (.ref cdaBIN) ctBIN) (["self", "classes", "trail"] : List Str) [] := .all fun us hl => match us, hl with | [_, _, _], _ => rfl
  have KBI : KBn K (PySem.W.fnX "__init__" "ByTrail.__init__" (defArgs sBI) (defBody sBI) (defScope sBI) [("__class__", cc)] .none kVBIN dcBIN pmBIN anBIN (.ref cdaBIN) ctBIN) ["self", "classes", "trail"] 1 ["trail", "classes"] (fun us ws => us ++ ws.reverse) (fun vs zs => vs ++ zs.reverse) :=
    ⟨fun z us ws _ h1 h2 => match us, ws, h1, h2 with | [_], [_, _], _, _ => BindsTo.of_eq (fd := (PySem.W.fnX "__init__" "ByTrail.__init__" (defArgs sBI) (defBody sBI) (defScope sBI) [("__class__", cc)] .none kVBIN dcBIN pmBIN anBIN (.ref cdaBIN) ctBIN)) rfl, fun r1 r2 => r1.append (vals_rev r2)⟩
  have FBTK : SFun l.prog K B cc "taken" "ByTrail.taken" sBT fBTK (PySem.W.fnX "taken" "ByTrail.taken" (defArgs sBT) (defBody sBT) (defScope sBT) [("__class__", cc)] .none kVBTK dcBTK pmBTK anBTK (.ref cdaBTK) ctBTK) := ⟨⟨_, _, _, _, _, _, cdaBTK, _, _, rfl, lBTK, cBTK, _, _, vsBTK, _, fileBTK, tfBTK, qBTK, vBTK, eBTK⟩, ⟨_, _, _, lcc⟩, isB, kBTK⟩
  have MBTK : SMeth K B B "taken" fLTK := ⟨mBB, opq, sBTK, tBTK, nBTK⟩
  have BBTK : Binds K (PySem.W.fnX "taken" "ByTrail.taken" (defArgs sBT) (defBody sBT) (defScope sBT) [("__class__", cc)] .none kVBTK dcBTK pmBTK anBTK (.ref cdaBTK) ctBTK) (["self", "view", "names"] : List Str) [] := .all fun us hl => match us, hl with | [_, _, _], _ => rfl
  have FBDO : SFun l.prog K B cc "does" "ByTrail.does" sBD fBDO (PySem.W.fnX "does" "ByTrail.does" (defArgs sBD) (defBody sBD) (defScope sBD) [("__class__", cc)] .none kVBDO dcBDO pmBDO anBDO (.ref cdaBDO) ctBDO) := ⟨⟨_, _, _, _, _, _, cdaBDO, _, _, rfl, lBDO, cBDO, _, _, vsBDO, _, fileBDO, tfBDO, qBDO, vBDO, eBDO⟩, ⟨_, _, _, lcc⟩, isB, kBDO⟩
  have MBDO : SMeth K B B "does" fLDO := ⟨mBB, opq, sBDO, tBDO, nBDO⟩
  have BBDO : Binds K (PySem.W.fnX "does" "ByTrail.does" (defArgs sBD) (defBody sBD) (defScope sBD) [("__class__", cc)] .none kVBDO dcBDO pmBDO anBDO (.ref cdaBDO) ctBDO) (["self", "callback", "handled"] : List Str) [] := .all fun us hl => match us, hl with | [_, _, _], _ => rfl
  have FBV : FunD K "view" "ByTrail.view" (defArgs sBV) (defBody sBV) (defScope sBV) [V.non] [] fBVI _ := ⟨⟨_, _, _, _, _, _, _, _, _, _, rfl, lBVI, cBVI, .inr ⟨by simp, TV, _, [.none], nT, rfl, lTV, rfl, .cons rfl .nil⟩, .inl rfl⟩, kBVI⟩
  obtain ⟨ds1, dV1, bV1⟩ := FBV.binds1 (ps := ["self", "name", "cause"]) 2 0 (by simp) rfl fun T kV doc pm an cdv ct us its h1 h2 => match us, its, h1, h2 with | [_, _], [_], _, _ => ⟨_, rfl, rfl⟩
  obtain ⟨ds2, dV2, bV2⟩ := FBV.binds1 (ps := ["self", "name", "cause"]) 3 1 (by simp) rfl fun T kV doc pm an cdv ct us its h1 h2 => match us, its, h1, h2 with | [_, _, _], [_], _, _ => ⟨_, rfl, rfl⟩
  obtain rfl : ds2 = [] := by cases dV2; rfl
  obtain ⟨itk, kVw⟩ := FBV.kbindsD (ps := ["self", "name", "cause"]) 1 ["cause", "name"] (fun us _ ws => us ++ ws.reverse) (by simp) (fun r1 _ r3 => r1.append (vals_rev r3)) fun T kV doc pm an cdv ct us its ws h1 h2 h3 => match us, its, ws, h1, h2, h3 with | [_], [_], [_, _], _, _, _ => ⟨_, rfl, rfl⟩
  have tAny := PySem.W.mg_none_of X G b_any
  have mS := PySem.W.mg_none_of X G bSu
  have OC : Own K C := ⟨haC, hn, htk, hmoC⟩
  have OB : Own K B := ⟨haB, hn, htk, hmoB⟩
  have mWT : Meth K C "within" fWT := ⟨aWT, iWT, kWT⟩
  have mME : Meth K C "meets" fME := ⟨aME, iME, kME⟩
  have mVI : Meth K B "view" fBVI := ⟨aBVI, iBVI, kBVI⟩
  have mNO : Meth K B "name_of" fBNO := ⟨aBNO, iBNO, kBNO⟩
  have mTK : Meth K B "taken" fBTK := ⟨aBTK, iBTK, kBTK⟩
  have mDO : Meth K B "does" fBDO := ⟨aBDO, iBDO, kBDO⟩
  have M : Mk K C fIN := ⟨mkC, aIN, iIN, kcC⟩
  have MB : Mk K B fBIN := ⟨mkB, aBIN, iBIN, kcB⟩
  refine ⟨_, fun z u => .of_eq (fd := (PySem.W.fnOf "law" "law" (defArgs sLaw) (defBody sLaw) (defScope sLaw) .none kVLW dcLW pmLW anLW cdLW ctLW)) rfl, fun base _ _ => ?_⟩
  have GD := ok_draw (P := l.prog) (w := w) (base := base) FD T
  have GP := ok_pick (P := l.prog) (w := w) (base := base) FPK T DD
  have GBa := ok_barred (P := l.prog) (w := w) (mg := mg) (base := base) FBA
  have GWo := ok_wordsX FWO T DD GD DPK GP DBA GBa
  have GSo := ok_so FSO DD GD DPK GP
  have GKl := ok_kl FKL DD GD DWO GWo DSO GSo
  have GWi := ok_wi (P := l.prog) (w := w) (base := base) FWI T
  have GDu := ok_du (P := l.prog) (w := w) (base := base) FDU T
  have GIw := ok_isw (P := l.prog) (w := w) (base := base) FIW T GB
  have GAw := ok_arew FAW T DIW GIw
  have GAd := ok_ared (P := l.prog) (w := w) (base := base) FAD T
  have GFa := ok_fault FFA T GB DAW GAw DAD GAd
  have GLi := ok_line (P := l.prog) (w := w) (mg := mg) (base := base) FLI
  have GIn : FnR l.prog w K mg base CX0 4 fIN (spInitR C) := ok_init FIN YC T DFA GFa DLI GLi
  have GMa := ok_made FMA M GIn
  have GWt := ok_within (P := l.prog) (w := w) (base := base) FWT YC
  have GMeL := ok_meets true FME YC T tAny mWT GWt BWT
  have GMeT := ok_meets false FME YC T tAny mWT GWt BWT
  have GCo := ok_co (P := l.prog) (w := w) (base := base) FCO YC T
  have GEq := ok_eq (P := l.prog) (w := w) (base := base) FEQ YC T OC
  have GLI := ok_li (P := l.prog) (w := w) (mg := mg) (base := base) FLIN Y
  have GBI := ok_bi FBIN Y MBIN GLI BLIN mS top0
  have GLd := ok_ld (P := l.prog) (w := w) (mg := mg) (base := base) FLDO
  have GBd := ok_bd FBDO MBDO GLd BLDO mS top0
  have GBn := ok_bn (P := l.prog) (w := w) (mg := mg) (base := base) FBNO
  have GBv := ok_bv (P := l.prog) (w := w) (base := base) FBV Y T
  have GLtL := ok_lt true FLTK Y YC GCo BCO aCO iCO mME GMeL BME
  have GLtT := ok_lt false FLTK Y YC GCo BCO aCO iCO mME GMeT BME
  have GBtL := ok_bt true FBTK MBTK GLtL BLTK mS top0
  have GBtT := ok_bt false FBTK MBTK GLtT BLTK mS top0
  have GCh := ok_ch FCH T DD GD DPK GP
  have GVr := ok_vr (C := C) FVR T Y DD GD DDU GDu mVI GBv bV1 dV1 bV2 kVw mNO GBn BBNO
  have GTr := ok_tr FTR T Y DD GD DPK GP DWI GWi mVI GBv bV2 mTK GBtT GBtL BBTK mDO GBd BBDO
  have GPn := ok_pen (P := l.prog) (w := w) (base := base) FPN T
  have cR : ClX.CRead K C (.type "type") := ⟨rdC, gaC⟩
  have cM : ClX.CMet K C (.type "type") "made" pM fMA := ⟨cm, ⟨rest, rc⟩, fi⟩
  have kon : Con K B "KIND" (.str "trail") (.str "trail" tkd) := ⟨kd, ⟨tkd, rfl⟩, kdg, by decide +kernel⟩
  have cRB : ClX.CRead K B (.type "type") := ⟨rdB, gaB⟩
  have cRL : ClX.CRead K L (.type "type") := ⟨rdL, gaL⟩
  have cVL : ClX.CVal K L (.type "type") "KIND" (.str "class") (.str "class" tkl) := ⟨kdl, ⟨tkl, rfl⟩⟩
  have cVB : ClX.CVal K B (.type "type") "KIND" (.str "trail") (.str "trail" tkd) := ⟨kdc, ⟨tkd, rfl⟩⟩
  exact ok_law FLW T Y YC OB (PySem.W.mg_of X G aB) (PySem.W.mg_of X G aL) (kit_yes isL tyL suB) DPN GPn DD GD DPK GP DKL GKl DCH GCh DVR GVr DTR GTr cR cM GMa BMA GEq BEQ aEQ iEQ nE hmoC MB GBI KBI kon cRB cVB cRL cVL
theorem walk {l : PySem.W.OpenLaw} {q : Program} {loose : List Str} {XP : (Str → Option Value) → Heap → Prop} {YP : World → Heap → Prop} {d : DefRec} {K : Params → PySem.W.Frag} (hn : l.most = some 63) (hdf : d.params.defaults = [])
    (hY : ∀ (w : World) (h : Heap), YP w h → (K w.params).In h)
    (F : ∀ (w : World) (mg : Str → Option Value) (fa : Addr) (h : Heap), (K w.params).In h → h.Ns mainGlobals mg → mg d.name = some (.ref fa) →
      ∃ fd : FuncData, (∀ (z : Shared) (u : Value), BindsTo z fd ⟨[u], []⟩ [("_law_script", u)]) ∧ ∀ base : Heap, (K w.params).In base → base.Ns mainGlobals mg → FnG l.prog w (K w.params) mg base 8 fa fd ["_law_script"] (spLaw (K w.params))) :
    PySem.W.WalkO q loose XP YP l.row.toRowW d [] (fun f vs => PySem.call f vs) := walk_ofG hn hdf ⟨rfl, by decide, by decide⟩ hY F
end K2
end
section
set_option Elab.async false
set_option maxRecDepth 100000
open PySem PySem.W PyProof.Rows
set_option maxRecDepth 100000 in
set_option maxHeartbeats 0 in
theorem PySem.Challenge.cw_whatleaves_k66_views_by_trail_holds : PySem.Challenge.rw_whatleaves_k66_views_by_trail.Holds := by
  w_on; o_law; k_head; (case hw => w_witness2)
  k_fill
  refine K2.walk (l := PySem.Challenge.rw_whatleaves_k66_views_by_trail) rfl rfl (fun w h Y => PySem.W.kIn_of Y) ?F
  case F =>
    intro w mg fa h KX G hmg
    refine' K2.all_mk KX G hmg ?aIW ?aAW ?aAD ?aFA ?aLI ?aPN ?aD ?aPK ?aBA ?aWO ?aSO ?aKL ?aWI ?aCH ?aDU ?aVR ?aTR ?aLW ?lIW ?cIW ?kIW ?lAW ?cAW ?kAW ?lAD ?cAD ?kAD ?lFA ?cFA ?kFA ?lLI ?cLI ?kLI ?lPN ?cPN ?kPN ?lD ?cD ?kD ?lPK ?cPK ?kPK ?lBA ?cBA ?kBA ?lWO ?cWO ?kWO ?lSO ?cSO ?kSO ?lKL ?cKL ?kKL ?lWI ?cWI ?kWI ?lCH ?cCH ?kCH ?lDU ?cDU ?kDU ?lVR ?cVR ?kVR ?lTR ?cTR ?kTR ?lLW ?cLW ?kLW ?lIN ?cIN ?kIN ?lMA ?cMA ?kMA ?lCO ?cCO ?kCO ?lEQ ?cEQ ?kEQ ?lWT ?cWT ?kWT ?lME ?cME ?kME ?lLIN ?cLIN ?kLIN ?lLTK ?cLTK ?kLTK ?lLDO ?cLDO ?kLDO ?lBNO ?cBNO ?kBNO ?aC ?aB ?aL ?aIN ?iIN ?aCO ?iCO ?aEQ ?iEQ ?aWT ?iWT ?aME ?iME ?aLIN ?iLIN ?aLTK ?iLTK ?aLDO ?iLDO ?aBNO ?iBNO ?aBIN ?iBIN ?aBTK ?iBTK ?aBDO ?iBDO ?aBVI ?iBVI ?lBIN ?cBIN ?kBIN ?qBIN ?vBIN ?eBIN ?sBIN ?tBIN ?nBIN ?lBTK ?cBTK ?kBTK ?qBTK ?vBTK ?eBTK ?sBTK ?tBTK ?nBTK ?lBDO ?cBDO ?kBDO ?qBDO ?vBDO ?eBDO ?sBDO ?tBDO ?nBDO ?lcc ?isB ?mBB ?opq ?bSu ?top0 ?lBVI ?cBVI ?kBVI ?lTV ?nE ?haC ?hmoC ?pgC ?hdC ?poC ?saC ?mkC ?kcC ?rdC ?gaC ?haB ?hmoB ?pgB ?hdB ?poB ?saB ?mkB ?kcB ?rdB ?gaB ?hn ?htk ?isL ?tyL ?suB ?nR ?nN ?nL ?nCl ?nMo ?kd ?kdg ?rdL ?gaL ?kdl ?kdc ?cm ?rc ?fi ?zL ?zM ?zR ?lR ?vR ?szR ?b_len ?b_int ?b_abs ?b_range ?b_list ?b_tuple ?b_enumerate ?b_isinstance ?b_str ?b_set ?b_all ?b_repr ?b_any
    (case aIW => k_is)
    (case aAW => k_is)
    (case aAD => k_is)
    (case aFA => k_is)
    (case aLI => k_is)
    (case aPN => k_is)
    (case aD => k_is)
    (case aPK => k_is)
    (case aBA => k_is)
    (case aWO => k_is)
    (case aSO => k_is)
    (case aKL => k_is)
    (case aWI => k_is)
    (case aCH => k_is)
    (case aDU => k_is)
    (case aVR => k_is)
    (case aTR => k_is)
    (case aLW => k_is)
    (case lIW => k_is)
    (case cIW => k_is)
    (case kIW => k_is)
    (case lAW => k_is)
    (case cAW => k_is)
    (case kAW => k_is)
    (case lAD => k_is)
    (case cAD => k_is)
    (case kAD => k_is)
    (case lFA => k_is)
    (case cFA => k_is)
    (case kFA => k_is)
    (case lLI => k_is)
    (case cLI => k_is)
    (case kLI => k_is)
    (case lPN => k_is)
    (case cPN => k_is)
    (case kPN => k_is)
    (case lD => k_is)
    (case cD => k_is)
    (case kD => k_is)
    (case lPK => k_is)
    (case cPK => k_is)
    (case kPK => k_is)
    (case lBA => k_is)
    (case cBA => k_is)
    (case kBA => k_is)
    (case lWO => k_is)
    (case cWO => k_is)
    (case kWO => k_is)
    (case lSO => k_is)
    (case cSO => k_is)
    (case kSO => k_is)
    (case lKL => k_is)
    (case cKL => k_is)
    (case kKL => k_is)
    (case lWI => k_is)
    (case cWI => k_is)
    (case kWI => k_is)
    (case lCH => k_is)
    (case cCH => k_is)
    (case kCH => k_is)
    (case lDU => k_is)
    (case cDU => k_is)
    (case kDU => k_is)
    (case lVR => k_is)
    (case cVR => k_is)
    (case kVR => k_is)
    (case lTR => k_is)
    (case cTR => k_is)
    (case kTR => k_is)
    (case lLW => k_is)
    (case cLW => k_is)
    (case kLW => k_is)
    (case aC => k_is)
    (case aB => k_is)
    (case aL => k_is)
    (case aIN => k_is)
    (case iIN => k_is)
    (case aCO => k_is)
    (case iCO => k_is)
    (case aEQ => k_is)
    (case iEQ => k_is)
    (case aWT => k_is)
    (case iWT => k_is)
    (case aME => k_is)
    (case iME => k_is)
    (case aLIN => k_is)
    (case iLIN => k_is)
    (case aLTK => k_is)
    (case iLTK => k_is)
    (case aLDO => k_is)
    (case iLDO => k_is)
    (case aBNO => k_is)
    (case iBNO => k_is)
    (case aBIN => k_is)
    (case iBIN => k_is)
    (case aBTK => k_is)
    (case iBTK => k_is)
    (case aBDO => k_is)
    (case iBDO => k_is)
    (case aBVI => k_is)
    (case iBVI => k_is)
    (case lBIN => k_is)
    (case cBIN => k_is)
    (case kBIN => k_is)
    (case qBIN => k_is)
    (case vBIN => rfl)
    (case eBIN => first | rfl | decide +kernel)
    (case sBIN => ks_is)
    (case tBIN => k_is)
    (case nBIN => k_is)
    (case lBTK => k_is)
    (case cBTK => k_is)
    (case kBTK => k_is)
    (case qBTK => k_is)
    (case vBTK => rfl)
    (case eBTK => first | rfl | decide +kernel)
    (case sBTK => ks_is)
    (case tBTK => k_is)
    (case nBTK => k_is)
    (case lBDO => k_is)
    (case cBDO => k_is)
    (case kBDO => k_is)
    (case qBDO => k_is)
    (case vBDO => rfl)
    (case eBDO => first | rfl | decide +kernel)
    (case sBDO => ks_is)
    (case tBDO => k_is)
    (case nBDO => k_is)
    (case lcc => k_is)
    (case isB => k_is)
    (case mBB => k_is)
    (case opq => k_is)
    (case bSu => k_is)
    (case top0 => first | rfl | decide +kernel)
    (case lBVI => k_is)
    (case cBVI => k_is)
    (case kBVI => k_is)
    (case lTV => k_is)
    (case nE => k_is)
    (case haC => k_is)
    (case hmoC => k_is)
    (case pgC => k_is)
    (case hdC => k_is)
    (case poC => k_is)
    (case saC => k_is)
    (case mkC => k_is)
    (case kcC => k_is)
    (case rdC => k_is)
    (case gaC => k_is)
    (case haB => k_is)
    (case hmoB => k_is)
    (case pgB => k_is)
    (case hdB => k_is)
    (case poB => k_is)
    (case saB => k_is)
    (case mkB => k_is)
    (case kcB => k_is)
    (case rdB => k_is)
    (case gaB => k_is)
    (case hn => k_is)
    (case htk => k_is)
    (case isL => k_is)
    (case tyL => k_is)
    (case suB => k_is)
    (case nR => k_is)
    (case nN => k_is)
    (case nL => k_is)
    (case nCl => k_is)
    (case nMo => k_is)
    (case kd => k_is)
    (case kdg => k_is)
    (case rdL => k_is)
    (case gaL => k_is)
    (case kdl => k_is)
    (case kdc => k_is)
    (case cm => k_is)
    (case rc => k_is)
    (case lIN => k_is)
    (case cIN => k_is)
    (case kIN => k_is)
    (case lMA => k_is)
    (case cMA => k_is)
    (case kMA => k_is)
    (case lCO => k_is)
    (case cCO => k_is)
    (case kCO => k_is)
    (case lEQ => k_is)
    (case cEQ => k_is)
    (case kEQ => k_is)
    (case lWT => k_is)
    (case cWT => k_is)
    (case kWT => k_is)
    (case lME => k_is)
    (case cME => k_is)
    (case kME => k_is)
    (case lLIN => k_is)
    (case cLIN => k_is)
    (case kLIN => k_is)
    (case lLTK => k_is)
    (case cLTK => k_is)
    (case kLTK => k_is)
    (case lLDO => k_is)
    (case cLDO => k_is)
    (case kLDO => k_is)
    (case lBNO => k_is)
    (case cBNO => k_is)
    (case kBNO => k_is)
    (case fi => k_is)
    (case zL => k_is)
    (case zM => k_is)
    (case zR => k_is)
    (case lR => k_is)
    (case vR => decide +kernel)
    (case szR => decide +kernel)
    (case b_len => k_is)
    (case b_int => k_is)
    (case b_abs => k_is)
    (case b_range => k_is)
    (case b_list => k_is)
    (case b_tuple => k_is)
    (case b_enumerate => k_is)
    (case b_isinstance => k_is)
    (case b_str => k_is)
    (case b_set => k_is)
    (case b_all => k_is)
    (case b_repr => k_is)
    (case b_any => k_is)
end
