import PyProof.Rows.All
import Wide.All
import OpenK.AllK
import Wide.FinOn
import HandS.ForMost
import HandS.Style
import HandS.TupAny
import HandS.Strs
import HandS.IsInst
import HandS.StrMore
import HandS.Walk
import KE.GoesEnum
import KE.GoesMore
import HandS.Star
import HandS.Conv
import HandS.ClsMeth
import HandS.MakeKw
import PyProof.ReprLen
import HandS.Set
import HandS.SetTxt0
import PyProof.Rows.SortShellAny
import HandS.OwnEq
import PyProof.InstNe
import HandS.More
import HandS.TupSets
import KE.KSortTupG
import PyProof.TupleOfSeq
import HandS.ExcIs
import HandS.ExcField
import HandS.ExcValue
import HandS.ExcInit
import KE.KIsAll
import HandS.Lambda
import HandS.WordsExc
import PyProof.NeKinds
import HandS.Wide
import HandS.EndTab
import KE.KNestM
import HandS.Deep
import HandS.GenList
import HandS.CallLocal
import HandS.MakeKwOnly
import PyProof.TupleOfGen
import PySem.Challenge.RW_whatleaves_k10_names_and_callbacks_refus
section
set_option autoImplicit true
namespace K2
open PySem

abbrev Row := Str × List Str
def barredL : List String := ["pass", "raise", "from", "none", "again", "return", "returns", "break", "call", "handling", "else", "either", "or", "loop", "try", "except", "as", "finally", "with", "quiet", "class", "def", "error", "vacant"]
def barred : List Str := barredL.map Str.ofString
def resd : List Str := barred.take 22
def sErr : Str := Str.ofString "error"
def sVac : Str := Str.ofString "vacant"
def codes (x : Str) : List Nat := x.cps.toList
def txt (l : List Nat) : Str := ⟨l.toArray⟩
theorem codes_txt (l : List Nat) : codes (txt l) = l := by simp [codes, txt]
theorem txt_codes (x : Str) : txt (codes x) = x := by cases x; simp [codes, txt]
theorem codes_inj {x y : Str} (h : codes x = codes y) : x = y := by rw [← txt_codes x, ← txt_codes y, h]

/-- a text of small letters -/
def Low (l : List Nat) : Prop := ∀ c ∈ l, 97 ≤ c ∧ c ≤ 122
/-- a word of the document -/
structure VW (x : Str) : Prop where
  low : Low (codes x)
  ne : codes x ≠ []
  le : (codes x).length ≤ 8
  nr : x ∉ resd
theorem vw_err : VW sErr := ⟨by unfold Low; decide +kernel, by decide +kernel, by decide +kernel, by decide +kernel⟩
theorem vw_vac : VW sVac := ⟨by unfold Low; decide +kernel, by decide +kernel, by decide +kernel, by decide +kernel⟩
theorem err_ne_vac : sErr ≠ sVac := by decide +kernel
theorem mem_resd {x : Str} (h : x ∈ resd) : x ∈ barred := List.mem_of_mem_take h
theorem err_barred : sErr ∈ barred := by decide +kernel
theorem vac_barred : sVac ∈ barred := by decide +kernel

/-! ### words -/
def wordAt (base : List Nat) (spot : Nat) (sign : Nat) : List Nat := base.take spot ++ [sign] ++ base.drop spot
def signAt (first hop k : Nat) : Nat := 97 + (first + hop * k) % 26
def finalAt (base : List Nat) (spot first hop k : Nat) : List Nat :=
  let w := wordAt base spot (signAt first hop k)
  w ++ (if 26 ≤ k then [113] else if txt w ∈ barred then [122] else [])
theorem barred_end : ∀ b ∈ barred, ∀ c, (codes b).getLast? = some c → c ≠ 113 ∧ c ≠ 122 := by
  have h : ∀ b ∈ barred, (codes b).getLast? ≠ some 113 ∧ (codes b).getLast? ≠ some 122 := by decide +kernel
  intro b hb c hc
  have := h b hb
  refine ⟨fun e => this.1 (by rw [hc, e]), fun e => this.2 (by rw [hc, e])⟩
theorem low_wordAt (hb : Low base) (h1 : 97 ≤ sign) (h2 : sign ≤ 122) : Low (wordAt base spot sign) := by
  intro c hc
  unfold wordAt at hc
  rcases List.mem_append.mp hc with hc | hc
  · rcases List.mem_append.mp hc with hc | hc
    · exact hb c (List.mem_of_mem_take hc)
    · have : c = sign := by simpa using hc
      omega
  · exact hb c (List.mem_of_mem_drop hc)
theorem len_wordAt (base : List Nat) (spot sign : Nat) : (wordAt base spot sign).length = base.length + 1 := by
  unfold wordAt
  simp only [List.length_append, List.length_take, List.length_drop, List.length_singleton]
  omega
theorem sign_lo (f h k : Nat) : 97 ≤ signAt f h k ∧ signAt f h k ≤ 122 := by
  unfold signAt; omega
theorem sign_ne {f hop i j : Nat} (hh : hop ∈ [1, 3, 5, 7, 9, 11]) (h1 : i < j) (h2 : j < i + 26) : signAt f hop i ≠ signAt f hop j := by
  unfold signAt
  simp only [List.mem_cons, List.not_mem_nil, or_false] at hh
  rcases hh with rfl | rfl | rfl | rfl | rfl | rfl <;> omega
theorem word_ne {base : List Nat} {spot s t : Nat} (h : s ≠ t) : wordAt base spot s ≠ wordAt base spot t := by
  unfold wordAt
  intro e
  rw [List.append_assoc, List.append_assoc] at e
  have := List.append_cancel_left e
  have h2 : s = t := by simpa using (List.cons.inj this).1
  exact h h2
theorem vw_final {base : List Nat} (hb : Low base) (hl : base.length ≤ 6) (spot f hop k : Nat) : VW (txt (finalAt base spot f hop k)) ∧ txt (finalAt base spot f hop k) ∉ barred := by
  have hw := low_wordAt (spot := spot) hb (sign_lo f hop k).1 (sign_lo f hop k).2
  have hlen := len_wordAt base spot (signAt f hop k)
  have nb : txt (finalAt base spot f hop k) ∉ barred := by
    intro hm
    have he := barred_end _ hm
    rw [codes_txt] at he
    by_cases h1 : 26 ≤ k
    · unfold finalAt at he
      simp only [h1, if_true] at he
      exact (he 113 (by simp)).1 rfl
    · by_cases h2 : txt (wordAt base spot (signAt f hop k)) ∈ barred
      · unfold finalAt at he
        simp only [h1, if_false, h2, if_true] at he
        exact (he 122 (by simp)).2 rfl
      · unfold finalAt at hm
        simp only [h1, if_false, h2, if_false, List.append_nil] at hm
  refine ⟨⟨?_, ?_, ?_, fun h => nb (mem_resd h)⟩, nb⟩
  · rw [codes_txt]
    unfold finalAt
    intro c hc
    rcases List.mem_append.mp hc with hc | hc
    · exact hw c hc
    · split at hc
      · have : c = 113 := by simpa using hc
        omega
      · split at hc
        · have : c = 122 := by simpa using hc
          omega
        · cases hc
  · rw [codes_txt]
    intro e
    have : (finalAt base spot f hop k).length = 0 := by rw [e]; rfl
    unfold finalAt at this
    rw [List.length_append, hlen] at this
    omega
  · rw [codes_txt]
    unfold finalAt
    rw [List.length_append, hlen]
    split
    · show base.length + 1 + 1 ≤ 8; omega
    · split
      · show base.length + 1 + 1 ≤ 8; omega
      · show base.length + 1 + 0 ≤ 8; omega
theorem final_ne {base : List Nat} {spot f hop i j : Nat} (hh : hop ∈ [1, 3, 5, 7, 9, 11]) (h1 : i < j) (hj : j < 32) : finalAt base spot f hop i ≠ finalAt base spot f hop j := by
  have li := len_wordAt base spot (signAt f hop i)
  have lj := len_wordAt base spot (signAt f hop j)
  intro e
  have key : ∀ {w1 w2 : List Nat} {a b : Nat}, w1 ++ [a] = w2 ++ [b] → w1 = w2 ∧ a = b := by
    intro w1 w2 a b h
    have := List.append_inj' h rfl
    exact ⟨this.1, by simpa using this.2⟩
  unfold finalAt at e
  by_cases c1 : 26 ≤ i
  · have c2 : 26 ≤ j := by omega
    simp only [c1, c2, if_true] at e
    exact word_ne (sign_ne hh h1 (by omega)) (key e).1
  · by_cases c2 : 26 ≤ j
    · simp only [c1, if_false, c2, if_true] at e
      by_cases c3 : txt (wordAt base spot (signAt f hop i)) ∈ barred
      · simp only [c3, if_true] at e
        exact absurd (key e).2 (by decide)
      · simp only [c3, if_false, List.append_nil] at e
        have := congrArg List.length e
        rw [List.length_append, li, lj] at this
        simp at this
    · have hs : wordAt base spot (signAt f hop i) ≠ wordAt base spot (signAt f hop j) := word_ne (sign_ne hh h1 (by omega))
      simp only [c1, if_false, c2] at e
      by_cases c3 : txt (wordAt base spot (signAt f hop i)) ∈ barred
      · by_cases c4 : txt (wordAt base spot (signAt f hop j)) ∈ barred
        · simp only [c3, c4, if_true] at e
          exact hs (key e).1
        · simp only [c3, c4, if_true, if_false, List.append_nil] at e
          have := congrArg List.length e
          rw [List.length_append, li, lj] at this
          simp at this
      · by_cases c4 : txt (wordAt base spot (signAt f hop j)) ∈ barred
        · simp only [c3, c4, if_true, if_false, List.append_nil] at e
          have := congrArg List.length e
          rw [List.length_append, li, lj] at this
          simp at this
        · simp only [c3, c4, if_false, List.append_nil] at e
          exact hs e
def finals (base : List Nat) (spot f hop n : Nat) : List Str := (List.range n).map fun k => txt (finalAt base spot f hop k)
/-- what words are for the law: so many unlike words, none of them error or vacant -/
structure Words (ws : List Str) : Prop where
  vw : ∀ x ∈ ws, VW x
  nb : ∀ x ∈ ws, x ∉ barred
  nd : ws.Nodup
theorem nodup_of_inj {α : Type} {f : Nat → α} {n : Nat} (h : ∀ i j, i < j → j < n → f i ≠ f j) : ((List.range n).map f).Nodup := by
  unfold List.Nodup
  rw [List.pairwise_map]
  refine List.Pairwise.imp_of_mem ?_ (List.pairwise_lt_range (n := n))
  intro a b _ hb hab
  exact h a b hab (List.mem_range.mp hb)
theorem words_finals {base : List Nat} (hb : Low base) (hl : base.length ≤ 6) {hop : Nat} (hh : hop ∈ [1, 3, 5, 7, 9, 11]) {n : Nat} (hn : n ≤ 32) (spot f : Nat) : Words (finals base spot f hop n) := by
  refine ⟨fun x hx => ?_, fun x hx => ?_, ?_⟩
  · obtain ⟨k, _, rfl⟩ := List.mem_map.mp hx
    exact (vw_final hb hl spot f hop k).1
  · obtain ⟨k, _, rfl⟩ := List.mem_map.mp hx
    exact (vw_final hb hl spot f hop k).2
  · refine nodup_of_inj fun i j h1 h2 e => final_ne (base := base) (spot := spot) (f := f) hh h1 (by omega) ?_
    have := congrArg codes e
    rwa [codes_txt, codes_txt] at this
theorem barred_two : ∀ b ∈ barred, 2 ≤ (codes b).length ∧ (codes b)[0]? ≠ (codes b)[1]? := by decide +kernel
def reps (c n : Nat) : List Str := (List.range n).map fun k => txt (List.replicate (k + 1) c)
theorem words_reps {c : Nat} (h1 : 97 ≤ c) (h2 : c ≤ 122) {n : Nat} (hn : n ≤ 8) : Words (reps c n) := by
  have nb : ∀ k, txt (List.replicate (k + 1) c) ∉ barred := by
    intro k hm
    have := barred_two _ hm
    rw [codes_txt] at this
    rw [List.length_replicate] at this
    apply this.2
    rw [List.getElem?_replicate, List.getElem?_replicate, if_pos (by omega), if_pos (by omega)]
  refine ⟨fun x hx => ?_, fun x hx => ?_, ?_⟩
  · obtain ⟨k, hk, rfl⟩ := List.mem_map.mp hx
    have hk := List.mem_range.mp hk
    refine ⟨?_, ?_, ?_, fun h => nb k (mem_resd h)⟩
    · rw [codes_txt]
      intro d hd
      have := List.eq_of_mem_replicate hd
      omega
    · rw [codes_txt]
      intro e
      have := congrArg List.length e
      rw [List.length_replicate] at this
      simp at this
    · rw [codes_txt, List.length_replicate]
      omega
  · obtain ⟨k, hk, rfl⟩ := List.mem_map.mp hx
    exact nb k
  · refine nodup_of_inj fun i j h1 h2 e => ?_
    have := congrArg (fun x => (codes x).length) e
    simp only [codes_txt, List.length_replicate] at this
    omega
theorem Words.rev {ws : List Str} (h : Words ws) : Words ws.reverse := ⟨fun x hx => h.vw x (List.mem_reverse.mp hx), fun x hx => h.nb x (List.mem_reverse.mp hx), by
  have := h.nd
  unfold List.Nodup at *
  rw [List.pairwise_reverse]
  exact this.imp fun h e => h e.symm⟩
end K2
end
section
set_option autoImplicit true
namespace K2
open PySem

def base0 : List Str := [sErr, sVac]
structure RowOk (known : List Str) (r : Row) : Prop where
  vw : VW r.1
  new : r.1 ∉ known
  ne : r.2 ≠ []
  nd : r.2.Nodup
  sub : ∀ b ∈ r.2, b ∈ known
def knownAt (rs : List Row) (i : Nat) : List Str := base0 ++ (rs.take i).map (·.1)
def Good (rs : List Row) : Prop := ∀ (i : Nat) (r : Row), rs[i]? = some r → RowOk (knownAt rs i) r
theorem good_nil : Good [] := fun i r h => by simp at h
theorem good_snoc {rs : List Row} {r : Row} (g : Good rs) (h : RowOk (base0 ++ rs.map (·.1)) r) : Good (rs ++ [r]) := by
  intro i q hq
  by_cases hi : i < rs.length
  · rw [List.getElem?_append_left hi] at hq
    have := g i q hq
    unfold knownAt at *
    rw [List.take_append_of_le_length (by omega)]
    exact this
  · have hi2 : i = rs.length := by
      have := (List.getElem?_eq_some_iff.mp hq).1
      rw [List.length_append, List.length_singleton] at this
      omega
    subst hi2
    rw [List.getElem?_append_right (Nat.le_refl _), Nat.sub_self] at hq
    simp at hq
    subst hq
    unfold knownAt
    rw [List.take_append_of_le_length (Nat.le_refl _), List.take_length]
    exact h
theorem vw_base0 : ∀ x ∈ base0, VW x := by
  intro x hx
  unfold base0 at hx
  rcases List.mem_cons.mp hx with rfl | hx
  · exact vw_err
  · have : x = sVac := by simpa using hx
    subst this
    exact vw_vac
theorem Good.vw_known {rs : List Row} (g : Good rs) (i : Nat) : ∀ x ∈ knownAt rs i, VW x := by
  intro x hx
  rcases List.mem_append.mp hx with hx | hx
  · exact vw_base0 x hx
  · obtain ⟨r, hr, rfl⟩ := List.mem_map.mp hx
    obtain ⟨j, hj⟩ := List.getElem?_of_mem (List.mem_of_mem_take hr)
    exact (g j r hj).vw
theorem knownAt_len {rs : List Row} {i : Nat} (h : i ≤ rs.length) : (knownAt rs i).length = i + 2 := by
  unfold knownAt base0
  simp [List.length_take]
  omega
theorem knownAt_succ {rs : List Row} {i : Nat} {r : Row} (h : rs[i]? = some r) : knownAt rs (i + 1) = knownAt rs i ++ [r.1] := by
  unfold knownAt
  rw [List.take_add_one, h]
  simp
theorem base0_nd : base0.Nodup := by
  unfold base0
  simp [err_ne_vac]
theorem Good.nodup {rs : List Row} (g : Good rs) : ∀ i, i ≤ rs.length → (knownAt rs i).Nodup
  | 0, _ => by simpa [knownAt] using base0_nd
  | i + 1, h => by
    have hi : rs[i]? = some rs[i] := List.getElem?_eq_getElem (by omega)
    rw [knownAt_succ hi]
    refine List.nodup_append.mpr ⟨g.nodup i (by omega), by simp, ?_⟩
    intro a ha b hb e
    have : b = rs[i].1 := by simpa using hb
    subst this
    subst e
    exact (g i _ hi).new ha
/-- the rows of words, with any bases among those known -/
def namesOf (rs : List Row) : List Str := rs.map (·.1)
structure Sub1 (r q : Row) : Prop where
  nm : q.1 = r.1
  sl : q.2.Sublist r.2
  ne : q.2 ≠ []
theorem good_sub {rs qs : List Row} (g : Good rs) (hl : qs.length = rs.length) (h : ∀ (i : Nat) (r q : Row), rs[i]? = some r → qs[i]? = some q → Sub1 r q) : Good qs := by
  have en : ∀ i, (qs.take i).map (·.1) = (rs.take i).map (·.1) := by
    intro i
    apply List.ext_getElem?
    intro j
    rw [List.getElem?_map, List.getElem?_map, List.getElem?_take, List.getElem?_take]
    split
    · by_cases hj : j < rs.length
      · have h1 : rs[j]? = some rs[j] := List.getElem?_eq_getElem hj
        have h2 : qs[j]? = some qs[j] := List.getElem?_eq_getElem (by omega)
        rw [h1, h2]
        simp [(h j _ _ h1 h2).nm]
      · rw [List.getElem?_eq_none (by omega), List.getElem?_eq_none (by omega)]
    · rfl
  intro i q hq
  have hi : i < rs.length := by
    have := (List.getElem?_eq_some_iff.mp hq).1
    omega
  have h1 : rs[i]? = some rs[i] := List.getElem?_eq_getElem hi
  have k := h i _ _ h1 hq
  have R := g i _ h1
  unfold knownAt at *
  rw [en i]
  refine ⟨by rw [k.nm]; exact R.vw, by rw [k.nm]; exact R.new, k.ne, R.nd.sublist k.sl, fun b hb => R.sub b (k.sl.subset hb)⟩

/-! ### what is within what -/
abbrev Tb := List (Str × List Str)
def look : Tb → Str → List Str
  | [], _ => []
  | (k, u) :: t, x => if k = x then u else look t x
def keys (t : Tb) : List Str := t.map (·.1)
def insK (ks : List Str) (x : Str) : List Str := if x ∈ ks then ks else ks ++ [x]
def mergeU (m us : List Str) : List Str := m ++ us.filter fun u => decide (u ∉ m)
def lineL (t : Tb) (m : List Str) (bs : List Str) : List Str := bs.foldl (fun m b => mergeU m (look t b)) m
def lineOf (t : Tb) (r : Row) : List Str := lineL t [r.1] r.2
def t0 : Tb := [(sErr, [sErr]), (sVac, [sVac, sErr])]
def stepT (t : Tb) (r : Row) : Tb := t ++ [(r.1, lineOf t r)]
def ups (rs : List Row) : Tb := rs.foldl stepT t0
theorem ups_succ {rs : List Row} {i : Nat} {r : Row} (h : rs[i]? = some r) : ups (rs.take (i + 1)) = stepT (ups (rs.take i)) r := by
  unfold ups
  rw [List.take_add_one, h]
  simp
theorem ups_snoc (rs : List Row) (r : Row) : ups (rs ++ [r]) = stepT (ups rs) r := by unfold ups; simp
theorem keys_ups (rs : List Row) : keys (ups rs) = base0 ++ rs.map (·.1) := by
  have h : ∀ (rs : List Row) (t : Tb), keys (rs.foldl stepT t) = keys t ++ rs.map (·.1) := by
    intro rs
    induction rs with
    | nil => intro t; simp
    | cons r rs ih =>
      intro t
      rw [List.foldl_cons, ih]
      simp [keys, stepT]
  exact h rs t0
theorem keys_ups_take (rs : List Row) (i : Nat) : keys (ups (rs.take i)) = knownAt rs i := keys_ups _
theorem foldl_insK : ∀ (us ks : List Str), us.Nodup → us.foldl insK ks = mergeU ks us
  | [], ks, _ => by simp [mergeU]
  | u :: us, ks, h => by
    have h1 := List.nodup_cons.mp h
    rw [List.foldl_cons, foldl_insK us _ h1.2]
    unfold insK mergeU
    by_cases hu : u ∈ ks
    · rw [if_pos hu, List.filter_cons]
      simp [hu]
    · rw [if_neg hu, List.filter_cons]
      simp only [hu, not_false_eq_true, decide_true, if_true]
      rw [List.append_assoc, List.singleton_append]
      congr 2
      apply List.filter_congr
      intro x hx
      have : x ≠ u := fun e => h1.1 (e ▸ hx)
      simp [this]
structure LineOk (pre : List Str) (x : Str) (us : List Str) : Prop where
  nd : us.Nodup
  self : x ∈ us
  err : sErr ∈ us
  sub : ∀ u ∈ us, u = x ∨ u ∈ pre
def TOk (t : Tb) : Prop := ∀ a x us b, t = a ++ (x, us) :: b → LineOk (keys a) x us ∧ x ∉ keys a
theorem tok_t0 : TOk t0 := by
  intro a x us b h
  unfold t0 at h
  rcases a with _ | ⟨p, a⟩
  · simp at h
    obtain ⟨⟨rfl, rfl⟩, _⟩ := h
    exact ⟨⟨by simp, by simp, by simp, by simp⟩, by simp [keys]⟩
  · rcases a with _ | ⟨q, a⟩
    · simp at h
      obtain ⟨rfl, ⟨rfl, rfl⟩, _⟩ := h
      refine ⟨⟨by simp [err_ne_vac.symm], by simp, by simp, ?_⟩, ?_⟩
      · intro u hu
        simp [keys] at *
        exact hu
      · simp [keys, err_ne_vac.symm]
    · simp at h
theorem look_mem : ∀ {t : Tb} {x : Str}, x ∈ keys t → ∃ a b, t = a ++ (x, look t x) :: b
  | [], x, h => by simp [keys] at h
  | (k, u) :: t, x, h => by
    by_cases e : k = x
    · subst e
      refine ⟨[], t, ?_⟩
      simp [look]
    · have h2 : x ∈ keys t := by
        unfold keys at *
        rcases List.mem_cons.mp h with e2 | h2
        · exact absurd e2.symm e
        · exact h2
      obtain ⟨a, b, hab⟩ := look_mem h2
      refine ⟨(k, u) :: a, b, ?_⟩
      simp only [look, if_neg e, List.cons_append]
      rw [← hab]
theorem keys_mid {a b : Tb} {x : Str} {us : List Str} : keys (a ++ (x, us) :: b) = keys a ++ x :: keys b := by simp [keys]
theorem TOk.line {t : Tb} (T : TOk t) {x : Str} (h : x ∈ keys t) : (look t x).Nodup ∧ x ∈ look t x ∧ sErr ∈ look t x ∧ ∀ u ∈ look t x, u ∈ keys t := by
  obtain ⟨a, b, e⟩ := look_mem h
  obtain ⟨L, _⟩ := T a x (look t x) b e
  refine ⟨L.nd, L.self, L.err, fun u hu => ?_⟩
  rw [e, keys_mid]
  rcases L.sub u hu with rfl | hu
  · simp
  · exact List.mem_append_left _ hu
theorem TOk.nodup : ∀ {t : Tb}, TOk t → (keys t).Nodup := by
  intro t T
  have h : ∀ (b a : Tb), t = a ++ b → (keys a).Nodup → (keys t).Nodup := by
    intro b
    induction b with
    | nil => intro a e h; rw [e, List.append_nil]; exact h
    | cons p b ih =>
      intro a e h
      obtain ⟨x, us⟩ := p
      refine ih (a ++ [(x, us)]) (by rw [e]; simp) ?_
      have := (T a x us b e).2
      unfold keys at *
      rw [List.map_append]
      refine List.nodup_append.mpr ⟨h, by simp, ?_⟩
      intro c hc d hd q
      have : d = x := by simpa using hd
      subst this
      subst q
      contradiction
  exact h t [] (by simp) (by simp [keys])
theorem split_uniq {a b c d : Tb} {x : Str} {us vs : List Str} (h : a ++ (x, us) :: b = c ++ (x, vs) :: d) (ha : x ∉ keys a) (hc : x ∉ keys c) : a = c := by
  induction a generalizing c with
  | nil =>
    rcases c with _ | ⟨q, c⟩
    · rfl
    · simp at h
      exfalso
      apply hc
      rw [← h.1]
      simp [keys]
  | cons p a ih =>
    rcases c with _ | ⟨q, c⟩
    · simp at h
      exfalso
      apply ha
      rw [h.1]
      simp [keys]
    · simp only [List.cons_append, List.cons.injEq] at h
      rw [h.1, ih h.2 (fun m => ha (by unfold keys at *; exact List.mem_cons_of_mem _ m)) (fun m => hc (by unfold keys at *; exact List.mem_cons_of_mem _ m))]
theorem TOk.back {t : Tb} (T : TOk t) {x y : Str} (hx : x ∈ keys t) (hy : y ∈ look t x) (ne : y ≠ x) : x ∉ look t y := by
  intro hxy
  obtain ⟨a, b, e⟩ := look_mem hx
  obtain ⟨L, hn⟩ := T a x _ b e
  have hya : y ∈ keys a := (L.sub y hy).resolve_left ne
  have hyt : y ∈ keys t := by rw [e, keys_mid]; exact List.mem_append_left _ hya
  obtain ⟨c, d, e2⟩ := look_mem hyt
  obtain ⟨M, hm⟩ := T c y _ d e2
  have hxc : x ∈ keys c := (M.sub x hxy).resolve_left ne.symm
  -- y stands in a, so c is a beginning of a
  obtain ⟨a1, a2, e3⟩ := look_mem hya
  have e4 : t = a1 ++ (y, look a y) :: (a2 ++ (x, look t x) :: b) := by
    rw [List.append_cons, ← List.append_assoc] 
    conv => lhs; rw [e, e3]
    simp
  have hm2 : y ∉ keys a1 := (T a1 y _ _ e4).2
  have : c = a1 := split_uniq (e2.symm.trans e4) hm hm2
  subst this
  apply hn
  rw [e3, keys_mid]
  exact List.mem_append_left _ hxc
theorem mergeU_ok {t : Tb} {m us : List Str} (hm : m.Nodup) (hu : us.Nodup) : (mergeU m us).Nodup := by
  unfold mergeU
  refine List.nodup_append.mpr ⟨hm, hu.filter _, ?_⟩
  intro a ha b hb e
  subst e
  have := (List.mem_filter.mp hb).2
  simp at this
  exact this ha
theorem lineL_ok {t : Tb} (T : TOk t) {x : Str} : ∀ (bs m : List Str), (∀ b ∈ bs, b ∈ keys t) → m.Nodup → (∀ u ∈ m, u = x ∨ u ∈ keys t) →
    (lineL t m bs).Nodup ∧ (∀ u ∈ lineL t m bs, u = x ∨ u ∈ keys t) ∧ (∀ u ∈ m, u ∈ lineL t m bs) ∧ (bs ≠ [] → sErr ∈ lineL t m bs)
  | [], m, _, h1, h2 => ⟨h1, h2, fun u hu => hu, fun h => absurd rfl h⟩
  | b :: bs, m, hb, h1, h2 => by
    have L := T.line (hb b List.mem_cons_self)
    have n1 := mergeU_ok (t := t) h1 L.1
    have s1 : ∀ u ∈ mergeU m (look t b), u = x ∨ u ∈ keys t := by
      intro u hu
      rcases List.mem_append.mp hu with hu | hu
      · exact h2 u hu
      · exact .inr (L.2.2.2 u (List.mem_filter.mp hu).1)
    obtain ⟨q1, q2, q3, q4⟩ := lineL_ok T bs (mergeU m (look t b)) (fun c hc => hb c (List.mem_cons_of_mem _ hc)) n1 s1
    refine ⟨q1, q2, fun u hu => q3 u (List.mem_append_left _ hu), fun _ => ?_⟩
    apply q3
    by_cases he : sErr ∈ m
    · exact List.mem_append_left _ he
    · exact List.mem_append_right _ (List.mem_filter.mpr ⟨L.2.2.1, by simpa using he⟩)
theorem tok_step {t : Tb} (T : TOk t) {r : Row} (R : RowOk (keys t) r) : TOk (stepT t r) := by
  intro a x us b e
  unfold stepT at e
  rcases List.eq_nil_or_concat b with rfl | ⟨b', z, rfl⟩
  · have := List.append_inj' e rfl
    obtain ⟨rfl, e2⟩ := this
    simp at e2
    obtain ⟨rfl, rfl⟩ := e2
    have := lineL_ok T (x := r.1) r.2 [r.1] R.sub (by simp) (by simp)
    exact ⟨⟨this.1, this.2.2.1 _ (by simp), this.2.2.2 R.ne, this.2.1⟩, R.new⟩
  · rw [List.concat_eq_append, ← List.cons_append, ← List.append_assoc] at e
    have := List.append_inj' e rfl
    exact T a x us b' this.1
theorem tok_ups {rs : List Row} (g : Good rs) : ∀ i, i ≤ rs.length → TOk (ups (rs.take i))
  | 0, _ => by simpa [ups] using tok_t0
  | i + 1, h => by
    have hi : rs[i]? = some rs[i] := List.getElem?_eq_getElem (by omega)
    rw [ups_succ hi]
    refine tok_step (tok_ups g i (by omega)) ?_
    rw [keys_ups_take]
    exact g i _ hi
end K2
end
section
set_option Elab.async false
set_option maxRecDepth 100000
set_option linter.all false
namespace K2
open PySem L2
/-! ### the text by places -/
def top (i : Nat) : Stmt := PySem.Challenge.pw_whatleaves_k10_names_and_callbacks_refus.main.body.getD i (.Pass ⟨0, 0, 0, 0⟩)
abbrev sDraw : Stmt := top 49
abbrev sPick : Stmt := top 50
/-! ### what the built-in names hold -/
structure Bi (mg : Str → Option Value) : Prop where
  len : mg "len" = none
  int : mg "int" = none
  abs : mg "abs" = none
  range : mg "range" = none
  list : mg "list" = none
  tuple : mg "tuple" = none
  enumerate : mg "enumerate" = none
  isinstance : mg "isinstance" = none
  str : mg "str" = none
  set : mg "set" = none
  all : mg "all" = none
  repr : mg "repr" = none
/-! ### the pen -/
def penO (c : Addr) (a l : Int) : HO := .lst [.ref c, .int a, .int l]
structure Pen (H : Hp) (p c : Addr) (ns : List Int) (n : Nat) : Prop where
  pen : ∃ a l : Int, H p = some (penO c a l) ∧ 0 ≤ a ∧ a ≤ n ∧ 0 ≤ l
  cells : H c = some (.lst (ns.map V.int))
  small : ns.length ≤ 63
def Keep (p : Addr) (H H' : Hp) : Prop := ∀ b o, H b = some o → b ≠ p → H' b = some o
theorem Keep.refl (p : Addr) (H : Hp) : Keep p H H := fun _ _ h _ => h
theorem Keep.trans {p : Addr} {H H1 H2 : Hp} (a : Keep p H H1) (b : Keep p H1 H2) : Keep p H H2 := fun c o h n => b c o (a c o h n) n
theorem Keep.new {p q : Addr} {H H1 : Hp} {o : HO} (k : Keep p H H1) (h : H q = none) : Keep p H (upd H1 q o) := fun b u hb n => by
  rw [upd_ne (ne_of_none hb h)]
  exact k b u hb n
theorem Keep.at {p : Addr} {H H1 : Hp} {o : HO} (k : Keep p H H1) : Keep p H (upd H1 p o) := fun b u hb n => by
  rw [upd_ne n]
  exact k b u hb n
theorem Pen.mono {H : Hp} {p c : Addr} {ns : List Int} {n m : Nat} (h : Pen H p c ns n) (e : n ≤ m) : Pen H p c ns m := by
  obtain ⟨a, l, h1, h2, h3, h4⟩ := h.pen
  exact ⟨⟨a, l, h1, h2, by omega, h4⟩, h.cells, h.small⟩
theorem Pen.ne {H : Hp} {p c : Addr} {ns : List Int} {n : Nat} (h : Pen H p c ns n) : c ≠ p := by
  obtain ⟨a, l, h1, _⟩ := h.pen
  refine ne_of h.cells h1 ?_
  unfold penO
  intro e
  injection e with e
  cases ns with
  | nil => simp at e
  | cons n ns => simp at e
/-- the pen behind a new object -/
theorem Pen.new {H : Hp} {p c q : Addr} {ns : List Int} {n : Nat} {o : HO} (h : Pen H p c ns n) (hq : H q = none) : Pen (upd H q o) p c ns n := by
  obtain ⟨a, l, h1, h2, h3, h4⟩ := h.pen
  exact ⟨⟨a, l, by rw [upd_ne (ne_of_none h1 hq)]; exact h1, h2, h3, h4⟩, by rw [upd_ne (ne_of_none h.cells hq)]; exact h.cells, h.small⟩
/-- the pen behind a store elsewhere -/
theorem Pen.upd' {H : Hp} {p c q : Addr} {ns : List Int} {n : Nat} {o : HO} (h : Pen H p c ns n) (h1 : p ≠ q) (h2 : c ≠ q) : Pen (upd H q o) p c ns n := by
  obtain ⟨a, l, g1, g2, g3, g4⟩ := h.pen
  exact ⟨⟨a, l, by rw [upd_ne h1]; exact g1, g2, g3, g4⟩, by rw [upd_ne h2]; exact h.cells, h.small⟩
theorem Pen.set {H : Hp} {p c : Addr} {ns : List Int} {n m : Nat} (h : Pen H p c ns n) {a l : Int} (h1 : 0 ≤ a) (h2 : a ≤ m) (h3 : 0 ≤ l) : Pen (upd H p (penO c a l)) p c ns m :=
  ⟨⟨a, l, upd_same, h1, h2, h3⟩, by rw [upd_ne h.ne]; exact h.cells, h.small⟩

def spDraw : Sp := fun vs H Q _ => ∃ (p c : Addr) (ns : List Int) (n : Nat) (m : Int), vs = [.ref p, .int m] ∧ Pen H p c ns n ∧ n ≤ 100000 ∧ 0 < m ∧ m < 1073741824 ∧
  ∀ (v : Int) (H' : Hp), 0 ≤ v → v < m → Keep p H H' → Pen H' p c ns (n + 1) → Q (.int v) H'

section
variable {P : Program} {w : World} {K : PySem.W.Frag} {mg : Str → Option Value} {base : Heap}
abbrev nDraw : List Str := ["_law_pen_here", "_law_many", "_law_digit", "_law_at", "_law_cell", "_law_great", "_law_mixed"]
theorem scDraw : FnScope nDraw ["_law_pen_here", "_law_many"] (defScope sDraw) := ⟨rfl, rfl, rfl, by decide +kernel, rfl, by decide +kernel, by decide +kernel⟩
theorem fmod_lo {a m : Int} (h : 0 < m) : 0 ≤ a.fmod m := Int.fmod_nonneg_of_pos a h
theorem fmod_hi {a m : Int} (h : 0 < m) : a.fmod m < m := Int.fmod_lt_of_pos a h
theorem fdiv_nn {a m : Int} (ha : 0 ≤ a) (h : 0 < m) : 0 ≤ a.fdiv m := Int.fdiv_nonneg ha (Int.le_of_lt h)
theorem mul_bnd {x y X Y : Int} (h1 : 0 ≤ x) (h2 : x ≤ X) (h3 : 0 ≤ y) (h4 : y ≤ Y) : 0 ≤ x * y ∧ x * y ≤ X * Y :=
  ⟨Int.mul_nonneg h1 h3, Int.mul_le_mul h2 h4 h3 (Int.le_trans h1 h2)⟩
theorem ints_dp (K : PySem.W.Frag) (H : Hp) : ∀ ns : List Int, DpAll K H (ns.map V.int) (ns.map PyData.int)
  | [] => .nil
  | n :: ns => .cons (.int n) (ints_dp K H ns)
theorem canLay_ints : ∀ ns : List Int, PyData.canLayAll0 (ns.map PyData.int) = true
  | [] => rfl
  | n :: ns => by
    show (true && PyData.canLayAll0 (ns.map PyData.int)) = true
    rw [canLay_ints ns]
    rfl
theorem depth_ints : ∀ ns : List Int, PyData.depthAll (ns.map PyData.int) = 0
  | [] => rfl
  | n :: ns => by
    show max 0 (PyData.depthAll (ns.map PyData.int)) = 0
    rw [depth_ints ns]
    rfl
theorem shaped_ints (ns : List Int) : SeqAt.shaped (.list (ns.map PyData.int)) = true := by
  show (PyData.canLayAll0 (ns.map PyData.int) && decide (PyData.depthAll (ns.map PyData.int) + 1 ≤ 64)) = true
  rw [canLay_ints, depth_ints]
  rfl
theorem eqv_nil (ns : List Int) : (!PyData.eqv (.list (ns.map PyData.int)) (.list [])) = !ns.isEmpty := by
  cases ns <;> rfl
theorem len_pos_lt {n : Nat} {a : Int} (h : 0 < n) : 0 ≤ a.fmod (n : Int) ∧ a.fmod (n : Int) < n := ⟨fmod_lo (by omega), fmod_hi (by omega)⟩
theorem ok_draw {f : Addr} {fd : FuncData} (F : Fun K "_law_draw" "_law_draw" sDraw f fd) (T : Bi mg) : FnOk P w K mg base CX0 1 f fd ["_law_pen_here", "_law_many"] spDraw := by
  refine F.ok scDraw (fun vs H Q E h => ?_) (fun cdv A outer s H vs Q E hr h => ?_)
  · obtain ⟨p, c, ns, n, m, rfl, _⟩ := h
    rfl
  · obtain ⟨p, c, ns, n, m, rfl, hP, hn, m0, m1, k⟩ := h
    have hmne : m ≠ 0 := by omega
    have hmab : m.natAbs < 1073741824 := by omega
    obtain ⟨a, l, hp, a0, an, l0⟩ := hP.pen
    unfold penO at hp
    refine ⟨_, (pss_cons (ps_if (pt_cmpR op_gt (pe_ix ix_list (pv 0) pe_int (fun _ _ => rfl)) pe_int (nomark _))
      (pss_cons (ps_set (i := 2) scDraw.nd rfl (Or.inl rfl) (pe_op op_modN (pe_callTy call_int1 (by rfl) T.int (by decide +kernel) (pa_cons (pe_ix ix_list (pv 0) pe_int (fun _ _ => rfl)) pa_nil)) (pv 1)))
        (pss_cons (ps_asg (pe_op op_fdivN (pe_ix ix_list (pv 0) pe_int (fun _ _ => rfl)) (pv 1)) (pg_sub (pv 0) pe_int set_list))
        (pss_one (ps_ret (pv 2)))))
      pss_nil)
      (pss_cons (ps_set (i := 3) scDraw.nd rfl (Or.inl rfl) (pe_ix ix_list (pv 0) pe_int (fun _ _ => rfl)))
      (pss_cons (ps_asg (pe_op op_add (pv 3) pe_int) (pg_sub (pv 0) pe_int set_list))
      (pss_cons (ps_set (i := 4) scDraw.nd rfl (Or.inl rfl) (pe_op op_add (pe_op op_mul pe_int (pv 3)) pe_int))
      (pss_cons (ps_if (pt_cmpR (op_neD hr.units) (pe_ix ix_list (pv 0) pe_int (fun _ _ => rfl)) (pe_lst pa_nil) (nomark _))
      (pss_one (ps_set (i := 4) scDraw.nd rfl (Or.inl rfl) (pe_ix ix_list (pe_ix ix_list (pv 0) pe_int (fun _ _ => rfl)) (pe_op op_modN (pe_callTy call_int1 (by rfl) T.int (by decide +kernel) (pa_cons (pv 3) pa_nil)) (pe_callB call_len_seq (by rfl) T.len PySem.boot_len (pa_cons (pe_ix ix_list (pv 0) pe_int (fun _ _ => rfl)) pa_nil))) (fun _ _ => rfl))))
      pss_nil)
      (pss_cons (ps_if (PW.pt (pw_and (pt_cmpR op_lt (pv 3) (pe_callB call_len_seq (by rfl) T.len PySem.boot_len (pa_cons (pe_ix ix_list (pv 0) pe_int (fun _ _ => rfl)) pa_nil)) (nomark _)) (pw_and1 (pt_cmpR op_ge (pe_callB call_abs (by rfl) T.abs (by decide +kernel) (pa_cons (pv 4) pa_nil)) (pe_op op_pow pe_int pe_int) (nomark _)))))
      (pss_cons (ps_set (i := 5) scDraw.nd rfl (Or.inl rfl) (pe_op op_add (pe_op op_mul pe_int (pe_op op_sub (pe_callB call_abs (by rfl) T.abs (by decide +kernel) (pa_cons (pv 4) pa_nil)) (pe_op op_pow pe_int pe_int))) (pe_callTy call_int1 (by rfl) T.int (by decide +kernel) (pa_cons (pe_cmpR op_lt (pv 4) pe_int (nomark _)) pa_nil))))
        (pss_cons (ps_asg (pe_op op_fdivN (pv 5) (pv 1)) (pg_sub (pv 0) pe_int set_list))
        (pss_one (ps_ret (pe_op op_modN (pe_callTy call_int1 (by rfl) T.int (by decide +kernel) (pa_cons (pv 5) pa_nil)) (pv 1))))))
      pss_nil)
      (pss_cons (ps_set (i := 6) scDraw.nd rfl (Or.inl rfl) (pe_op op_modN (pe_callTy call_int1 (by rfl) T.int (by decide +kernel) (pa_cons (pe_op op_pow (pe_op op_add (pe_op op_add (pe_op op_modN (pe_callTy call_int1 (by rfl) T.int (by decide +kernel) (pa_cons (pv 4) pa_nil)) pe_int) (pe_op op_mul pe_int (pv 3))) pe_int) pe_int) pa_nil)) pe_int))
      (pss_cons (ps_set (i := 6) scDraw.nd rfl (Or.inl rfl) (pe_op op_modN (pe_callTy call_int1 (by rfl) T.int (by decide +kernel) (pa_cons (pe_op op_pow (pe_op op_add (pe_op op_add (pe_op op_mul (pv 6) (pe_op op_add (pe_op op_mul pe_int (pv 3)) pe_int)) (pe_op op_mul (pe_op op_mul pe_int (pv 3)) (pv 3))) pe_int) pe_int) pa_nil)) pe_int))
      (pss_one (ps_ret (pe_op op_modN (pe_callTy call_int1 (by rfl) T.int (by decide +kernel) (pa_cons (pe_op op_fdivN (pv 6) pe_int) pa_nil)) (pv 1)))))))))))), ?_⟩
    refine ⟨_, rfl, p, _, _, _, rfl, rfl, SqL.of hp, atI_nat (j := 2) rfl, _, _, rfl, rfl, _, rfl, ite2 (fun hg => ?_) (fun hg => ?_)⟩
    · have hl := of_decide_eq_true hg
      refine ⟨_, rfl, p, _, _, _, rfl, rfl, SqL.of hp, atI_nat (j := 2) rfl, .inl ⟨_, rfl, _, rfl, _, _, rfl, rfl, hmne, ?_⟩⟩
      refine ⟨_, rfl, p, _, _, _, rfl, rfl, SqL.of hp, atI_nat (j := 2) rfl, _, rfl, _, _, rfl, rfl, ⟨hmne, hmab⟩, _, rfl, p, _, _, 2, rfl, rfl, hp, rfl, _, rfl, ?_⟩
      refine k _ _ (fmod_lo m0) (fmod_hi m0) (Keep.refl _ _).at ?_
      exact hP.set a0 (by omega) (fdiv_nn l0 m0)
    · have hat : a ≤ 100000 := by omega
      -- at = pen[1]; pen[1] = at + 1; cell = 8627 * at + 349; pen[0] != []
      refine ⟨_, rfl, p, _, _, _, rfl, rfl, SqL.of hp, atI_nat (j := 1) rfl, _, rfl, _, _, rfl, rfl, _, rfl, p, _, _, 1, rfl, rfl, hp, rfl, ?_⟩
      generalize hH1 : upd H p (HO.lst ([V.ref c, V.int a, V.int l].set 1 ((fun i j => V.int (i + j)) a 1))) = H1
      replace hH1 : upd H p (.lst [.ref c, .int (a + 1), .int l]) = H1 := hH1
      have hp1 : H1 p = some (.lst [.ref c, .int (a + 1), .int l]) := by rw [← hH1]; exact upd_same
      have hc1 : H1 c = some (.lst (ns.map V.int)) := by rw [← hH1, upd_ne hP.ne]; exact hP.cells
      have k1 : Keep p H H1 := by rw [← hH1]; exact (Keep.refl p H).at
      refine ⟨_, rfl, _, _, rfl, rfl, .inl ⟨by decide, by decide⟩, _, _, rfl, rfl, ?_⟩
      refine ⟨_, rfl, p, _, _, _, rfl, rfl, SqL.of hp1, atI_nat (j := 0) rfl, Nat.zero_le _, fun e he => ?_⟩
      have he0 : H e = none := by
        cases q : H e with
        | none => rfl
        | some o =>
          by_cases ep : e = p
          · rw [ep, hp1] at he; cases he
          · rw [k1 e o q ep] at he; cases he
      have hp2 : (upd H1 e (.lst [])) p = some (.lst [.ref c, .int (a + 1), .int l]) := by rw [upd_ne (ne_of_none hp1 he)]; exact hp1
      have hc2 : (upd H1 e (.lst [])) c = some (.lst (ns.map V.int)) := by rw [upd_ne (ne_of_none hc1 he)]; exact hc1
      have k2 : Keep p H (upd H1 e (.lst [])) := k1.new he0
      have P2 : Pen (upd H1 e (.lst [])) p c ns (n + 1) := ⟨⟨a + 1, l, hp2, by omega, by omega, l0⟩, hc2, hP.small⟩
      have hee : (upd H1 e (.lst [])) e = some (.lst []) := upd_same
      generalize hH2 : upd H1 e (.lst []) = H2 at hp2 hc2 k2 P2 hee ⊢
      refine ⟨.list (ns.map PyData.int), .list [], .lst (SqL.of hc2) (ints_dp _ _ ns), .lst (SqL.of hee) .nil, shaped_ints ns, rfl, _, rfl, ?_⟩
      rw [eqv_nil]
      have hz0 : ns = [] ∨ ∃ z r, ns = z :: r := by cases ns with
        | nil => exact .inl rfl
        | cons z r => exact .inr ⟨z, r, rfl⟩
      have hzc : ∀ j : Nat, j < ns.length → ∃ z : Int, (ns.map V.int)[j]? = some (V.int z) := fun j hj => ⟨ns[j], by rw [List.getElem?_map, List.getElem?_eq_getElem hj]; rfl⟩
      refine ite2 (fun hb => ?b1) (fun hb => ?b2)
      case' b1 =>
        have hlen : 0 < ns.length := by
          cases ns with
          | nil => cases hb
          | cons z r => simp
        have hlen2 : (0 : Int) < ((ns.map V.int).length : Int) := by rw [List.length_map]; omega
        obtain ⟨j, hj⟩ : ∃ j : Nat, a.fmod ((ns.map V.int).length : Int) = (j : Int) := ⟨(a.fmod ((ns.map V.int).length : Int)).toNat, (Int.toNat_of_nonneg (fmod_lo hlen2)).symm⟩
        have hj2 : j < ns.length := by
          have := fmod_hi (a := a) hlen2
          rw [hj, List.length_map] at this
          omega
        obtain ⟨z, hz⟩ := hzc j hj2
        refine ⟨_, rfl, p, _, _, _, rfl, rfl, SqL.of hp2, atI_nat (j := 0) rfl, _, rfl, .inl ⟨_, rfl, _, rfl, p, _, _, _, rfl, rfl, SqL.of hp2, atI_nat (j := 0) rfl, c, _, rfl, .inl (SqL.of hc2), _, _, rfl, rfl, by omega, c, _, _, _, rfl, rfl, SqL.of hc2, at_of hj hz, ?_⟩⟩
      case' b2 => generalize hz9 : (fun i j => V.int (i + j)) (8627 * a) 349 = zz; replace hz9 : zz = .int (8627 * a + 349) := hz9.symm; subst hz9; generalize 8627 * a + 349 = z
      all_goals
        -- at < len(pen[0]) and abs(cell) >= 10 ** 18
        have pw18 : (10 : Int) ^ (18 : Int).toNat = 1000000000000000000 := by decide
        have tl : ∀ (v : Int), 0 ≤ v → v < m → Q (.int v) H2 := fun v h0 h1 => k v H2 h0 h1 k2 P2
        refine (fun t => ⟨_, rfl, _, rfl, p, _, _, _, rfl, rfl, SqL.of hp2, atI_nat (j := 0) rfl, c, _, rfl, .inl (SqL.of hc2), _, _, rfl, rfl, _, rfl, ite2 (fun hq1 =>
          ⟨_, rfl, _, rfl, _, _, rfl, rfl, ⟨by decide, by decide, by decide⟩, _, _, rfl, rfl, _, rfl, ite2 (fun hq2 => ?_) (fun _ => t)⟩) (fun _ => iteF t)⟩) ?_
        · -- mixed
          refine ⟨_, rfl, .inl ⟨_, rfl, _, _, rfl, rfl, (by show (2147483549 : Int) ≠ 0; decide), _, rfl, _, _, rfl, rfl, .inl ⟨by decide, by decide⟩, _, _, rfl, rfl, _, _, rfl, rfl, _, _, rfl, rfl, ⟨by decide, by decide, ?_⟩, .inl ⟨_, rfl, _, _, rfl, rfl, (by show (2147483629 : Int) ≠ 0; decide), ?_⟩⟩⟩
          · have h1 := fmod_lo (a := z) (m := 2147483549) (by decide)
            have h2 := fmod_hi (a := z) (m := 2147483549) (by decide)
            generalize z.fmod 2147483549 = y at h1 h2 ⊢
            omega
          have g1 := fmod_lo (a := (z.fmod 2147483549 + 52361 * a + 71) ^ (3 : Int).toNat) (m := 2147483629) (by decide)
          have g2 := fmod_hi (a := (z.fmod 2147483549 + 52361 * a + 71) ^ (3 : Int).toNat) (m := 2147483629) (by decide)
          have b1 := mul_bnd (X := 2147483629) (y := 2 * a + 53) (Y := 200053) g1 (Int.le_of_lt g2) (by omega) (by omega)
          have b2 := mul_bnd (x := 61417 * a) (X := 6141700000) (y := a) (Y := 100000) (by omega) (by omega) a0 hat
          refine ⟨_, rfl, _, rfl, _, _, rfl, rfl, .inl ⟨by decide, by decide⟩, _, _, rfl, rfl, _, _, rfl, rfl, .inl ⟨?_, ?_⟩, _, rfl, _, _, rfl, rfl, .inl ⟨by decide, by decide⟩, _, rfl, _, _, rfl, rfl, .inl ⟨?_, ?_⟩, _, _, rfl, rfl, _, _, rfl, rfl, _, _, rfl, rfl, ⟨by decide, by decide, ?_⟩, .inl ⟨_, rfl, _, _, rfl, rfl, (by show (2147483587 : Int) ≠ 0; decide), ?_⟩⟩
          · omega
          · omega
          · omega
          · omega
          · omega
          have g3 := fmod_lo (a := ((((z.fmod 2147483549 + 52361 * a + 71) ^ (3 : Int).toNat).fmod 2147483629) * (2 * a + 53) + 61417 * a * a + 23) ^ (5 : Int).toNat) (m := 2147483587) (by decide)
          refine ⟨_, rfl, _, _, rfl, rfl, ⟨by decide, by decide⟩, .inl ⟨_, rfl, _, rfl, _, _, rfl, rfl, hmne, tl _ (fmod_lo m0) (fmod_hi m0)⟩⟩
        · -- great
          refine ⟨_, rfl, _, rfl, _, _, rfl, rfl, ⟨by decide, by decide, by decide⟩, _, _, rfl, rfl, _, _, rfl, rfl, .inl ⟨by decide, by decide⟩, _, rfl, _, _, rfl, rfl, .inr ⟨_, rfl, _, _, rfl, rfl, ?_⟩⟩
          refine ⟨_, rfl, _, rfl, _, _, rfl, rfl, ⟨hmne, hmab⟩, _, rfl, p, _, _, 2, rfl, rfl, hp2, rfl, _, rfl, .inl ⟨_, rfl, _, rfl, _, _, rfl, rfl, hmne, ?_⟩⟩
          refine k _ _ (fmod_lo m0) (fmod_hi m0) k2.at (P2.set (by omega) (by omega) (fdiv_nn ?_ m0))
          have hge := of_decide_eq_true hq2
          rw [pw18] at hge ⊢
          split at hge <;> split <;> omega
end
end K2
end
section
set_option Elab.async false
set_option maxRecDepth 100000
set_option linter.all false
namespace K2
open PySem L2
abbrev sBarred : Stmt := top 51
abbrev sWords : Stmt := top 52
/-- a def of the program: its text, where it stands, how it binds -/
structure Df (K : PySem.W.Frag) (mg : Str → Option Value) (x : Str) (st : Stmt) (f : Addr) (fd : FuncData) (ps : List Str) : Prop where
  F : Fun K x x st f fd
  m : mg x = some (.ref f)
  b : Binds K fd ps []
/-- a list of the heap, or a text: its items -/
def SeqV (p : Addr) (H : Hp) (y : V) (xs : List V) : Prop := (∃ l, y = .ref l ∧ l ≠ p ∧ H l = some (.lst xs)) ∨ (∃ z : Str, y = .str z ∧ xs = (codes z).map (fun c => V.str ⟨#[c]⟩) ∧ z.length ≤ 100) ∨ (∃ t, y = .ref t ∧ t ≠ p ∧ H t = some (.tup xs))
def spPick : Sp := fun vs H Q _ => ∃ (p c : Addr) (ns : List Int) (n : Nat) (y : V) (xs : List V), vs = [.ref p, y] ∧ Pen H p c ns n ∧ n ≤ 100000 ∧ SeqV p H y xs ∧ xs ≠ [] ∧ xs.length ≤ 1000 ∧
  ∀ (j : Nat) (v : V) (H' : Hp), xs[j]? = some v → Keep p H H' → Pen H' p c ns (n + 1) → Q v H'
def spBarred : Sp := fun vs H Q _ => vs = [] ∧ ∀ l, H l = none → Q (.ref l) (upd H l (.lst (barred.map V.str)))
section
variable {P : Program} {w : World} {K : PySem.W.Frag} {mg : Str → Option Value} {base : Heap}
theorem scPick : FnScope ["_law_pen_here", "_law_some"] ["_law_pen_here", "_law_some"] (defScope sPick) := ⟨rfl, rfl, rfl, by decide +kernel, rfl, by decide +kernel, by decide +kernel⟩
theorem ok_pick {f fD : Addr} {fd fdD : FuncData} (F : Fun K "_law_pick" "_law_pick" sPick f fd) (T : Bi mg) (D : Df K mg "_law_draw" sDraw fD fdD ["_law_pen_here", "_law_many"]) : FnOk P w K mg base CX0 2 f fd ["_law_pen_here", "_law_some"] spPick := by
  have GD : FnOk P w K mg base CX0 1 fD fdD ["_law_pen_here", "_law_many"] spDraw := ok_draw D.F T
  refine F.ok scPick (fun vs H Q E h => ?_) (fun cdv A outer s H vs Q E hr h => ?_)
  · obtain ⟨p, c, ns, n, y, xs, rfl, _⟩ := h
    rfl
  · obtain ⟨p, c, ns, n, y, xs, rfl, hP, hn, hS, hne, hlen, k⟩ := h
    refine ⟨_, (pss_one (ps_ret (pe_ix ix_seq (pv 1) (pe_call GD hr (by rfl) D.m D.F.kp D.b .nil pass0 (pa_cons (pv 0) (pa_cons (pe_callB call_len (by rfl) T.len PySem.boot_len (pa_cons (pv 1) pa_nil)) pa_nil))) (fun _ _ => rfl)))), ?_⟩
    have hx0 : 0 < xs.length := List.length_pos_iff.mpr hne
    have hL : LenV K y H xs.length := by
      rcases hS with ⟨l, rfl, _, hl⟩ | ⟨z, rfl, rfl, hz⟩ | ⟨t, rfl, _, ht⟩
      · exact .inl ⟨_, SqL.of hl, rfl⟩
      · refine ⟨Nat.le_trans hz (by decide), ?_⟩
        rw [List.length_map]
        rfl
      · exact .inr ⟨_, SqT.of ht, rfl⟩
    refine ⟨_, rfl, _, rfl, _, rfl, _, _, rfl, hL, p, c, ns, n, _, rfl, hP, hn, by omega, by omega, fun v H' h0 h1 kp P' => ?_⟩
    obtain ⟨j, rfl⟩ : ∃ j : Nat, v = (j : Int) := ⟨v.toNat, (Int.toNat_of_nonneg h0).symm⟩
    have hj : j < xs.length := by omega
    have hv : xs[j]? = some xs[j] := List.getElem?_eq_getElem hj
    rcases hS with ⟨l, rfl, hlp, hl⟩ | ⟨z, rfl, rfl, hz⟩ | ⟨t, rfl, htp, ht⟩
    · exact .inl ⟨l, xs, _, _, rfl, rfl, SqL.of (kp l _ hl hlp), atI_nat hv, k j _ H' hv kp P'⟩
    · refine .inr (.inr ⟨z, _, (codes z)[j]'(by rw [List.length_map] at hj; exact hj), rfl, rfl, Nat.le_trans hz (by decide), atI_nat (List.getElem?_eq_getElem _), k j _ H' ?_ kp P'⟩)
      rw [List.getElem?_map, List.getElem?_eq_getElem (by rw [List.length_map] at hj; exact hj)]
      rfl
    · exact .inr (.inl ⟨t, xs, _, _, rfl, rfl, SqT.of (kp t _ ht htp), atI_nat hv, k j _ H' hv kp P'⟩)
theorem scBarred : FnScope ["_law_text"] [] (defScope sBarred) := ⟨rfl, rfl, rfl, by decide +kernel, rfl, by decide +kernel, by decide +kernel⟩
theorem ok_barred {f : Addr} {fd : FuncData} (F : Fun K "_law_barred" "_law_barred" sBarred f fd) : FnOk P w K mg base CX0 1 f fd [] spBarred := by
  refine F.ok scBarred (fun vs H Q E h => ?_) (fun cdv A outer s H vs Q E hr h => ?_)
  · obtain ⟨rfl, _⟩ := h
    rfl
  · obtain ⟨rfl, k⟩ := h
    refine ⟨_, (pss_cons (ps_set (i := 0) scBarred.nd rfl (Or.inl rfl) pe_str)
      (pss_cons (ps_set (i := 0) scBarred.nd rfl (Or.inl rfl) (pe_op op_add_str (pv 0) pe_str))
      (pss_one (ps_ret (pe_split (pv 0) pe_str))))), ?_⟩
    refine ⟨_, rfl, _, _, rfl, rfl, by decide +kernel, _, rfl, ⟨_, rfl⟩, _, _, rfl, rfl, by decide +kernel, by decide +kernel, fun l hl => ?_⟩
    have e : barred = Txt.split ((Str.ofString "pass raise from none again return returns break call handling else either or loop") ++ Str.ofString " try except as finally with quiet class def error vacant") (Str.ofString " ") := by decide +kernel
    have := k l hl
    rw [e] at this
    exact this
end
end K2
end
section
set_option Elab.async false
set_option maxRecDepth 100000
set_option linter.all false
namespace K2
open PySem L2
theorem strs_ne_pen {ys : List Str} {c : Addr} {a l : Int} : HO.lst (ys.map V.str) ≠ penO c a l := by
  unfold penO
  intro e
  injection e with e
  cases ys with
  | nil => simp at e
  | cons y ys => simp at e
theorem str_eqV (a b : Str) : eqV (.str a) (.str b) = decide (a = b) := by
  show (a == b) = decide (a = b)
  by_cases h : a = b
  · simp [h]
  · simp [h]
theorem inV_strs (x : Str) : ∀ ys : List Str, inV (.str x) (ys.map V.str) = decide (x ∈ ys)
  | [] => rfl
  | y :: ys => by
    show (eqV (.str y) (.str x) || inV (.str x) (ys.map V.str)) = decide (x ∈ y :: ys)
    rw [inV_strs x ys, str_eqV]
    by_cases h : y = x
    · subst h; simp
    · have h2 : ¬ x = y := fun e => h e.symm
      simp [h, h2]
theorem flat_strs : ∀ ys : List Str, (ys.map V.str).all flatV = true
  | [] => rfl
  | y :: ys => by
    show (true && (ys.map V.str).all flatV) = true
    rw [flat_strs ys]
    rfl
theorem codes_append (x y : Str) : codes (x ++ y) = codes x ++ codes y := TL.tl_append x y
theorem codes_one (c : Nat) : codes ⟨#[c]⟩ = [c] := rfl
theorem len_codes (x : Str) : x.length = (codes x).length := by
  show x.cps.size = x.cps.toList.length
  simp
theorem join_ones : ∀ l : List Nat, codes (Txt.join Str.empty (l.map fun c => (⟨#[c]⟩ : Str))) = l := by
  intro l
  rw [TL.join_eq]
  show TL.tl (Str.join Str.empty _) = l
  rw [TL.tl_join]
  show TL.joinL [] _ = l
  induction l with
  | nil => rfl
  | cons c l ih =>
    cases l with
    | nil => rfl
    | cons d l =>
      show [c] ++ ([] ++ TL.joinL [] _) = _
      rw [List.nil_append]
      show [c] ++ TL.joinL [] (List.map TL.tl (List.map (fun c => (⟨#[c]⟩ : Str)) (d :: l))) = c :: d :: l
      rw [ih]
      rfl
theorem cut_to {z : Str} {k : Nat} (h : k ≤ (codes z).length) : codes (cutS z none (some (k : Int))) = (codes z).take k := by
  unfold cutS codes
  rw [HT.sIx_nat, HT.sIx_none]
  have e : z.length = z.cps.toList.length := len_codes z
  have h' : k ≤ z.cps.toList.length := h
  simp only [List.drop_zero, Nat.sub_zero]
  rw [Nat.min_eq_left (by omega)]
theorem cut_from {z : Str} {k : Nat} (h : k ≤ (codes z).length) : codes (cutS z (some (k : Int)) none) = (codes z).drop k := by
  unfold cutS codes
  rw [HT.sIx_nat, HT.sIx_none]
  have e : z.length = z.cps.toList.length := len_codes z
  have h' : k ≤ z.cps.toList.length := h
  rw [Nat.min_eq_left (by omega), e]
  simp only []
  rw [List.take_of_length_le (by rw [List.length_drop]; omega)]
theorem Pen.pne {H : Hp} {p c q : Addr} {ns : List Int} {n : Nat} (h : Pen H p c ns n) (hq : H q = none) : p ≠ q := by
  obtain ⟨a, l, g, _⟩ := h.pen
  exact ne_of_none g hq
theorem Pen.cne {H : Hp} {p c q : Addr} {ns : List Int} {n : Nat} (h : Pen H p c ns n) (hq : H q = none) : c ≠ q := ne_of_none h.cells hq
theorem Keep.fresh {p c q : Addr} {ns : List Int} {n : Nat} {H H1 : Hp} (k : Keep p H H1) (P1 : Pen H1 p c ns n) (h : H1 q = none) : H q = none := by
  cases e : H q with
  | none => rfl
  | some o =>
    rw [k q o e (P1.pne h).symm] at h
    cases h
theorem Pen.strs_ne {H : Hp} {p c q : Addr} {ns : List Int} {n : Nat} {ys : List Str} (h : Pen H p c ns n) (hq : H q = some (.lst (ys.map V.str))) : q ≠ p := fun e => by
  obtain ⟨a, l, g, _⟩ := h.pen
  rw [e, g] at hq
  exact strs_ne_pen (Option.some.inj hq).symm
section
variable {X : Cx}
theorem mulOk_small {x : Str} {k : Int} (h0 : 0 ≤ k) (h1 : k ≤ 8) (hx : x.length ≤ 8) : MulOk x k := by
  refine ⟨?_, fun _ _ => ?_, fun _ _ => ?_⟩
  · simp only [Bool.or_eq_false_iff, decide_eq_false_iff_not]
    omega
  · have : k = 0 ∨ k = 1 ∨ k = 2 ∨ k = 3 ∨ k = 4 ∨ k = 5 ∨ k = 6 ∨ k = 7 ∨ k = 8 := by omega
    rcases this with rfl | rfl | rfl | rfl | rfl | rfl | rfl | rfl | rfl <;> omega
  · unfold Builtin.Str.tooLong
    rw [decide_eq_false_iff_not]
    have h2 : x.length * k.toNat ≤ 8 * 8 := Nat.mul_le_mul hx (by omega)
    have : sizeLine = 16777216 := rfl
    omega
/-! the same rules with the written part named apart (within a comprehension) -/
theorem pe_bmK {K' : PySem.W.Frag} {T : String} {name : Str} {id : String} {r : V → List V → Hp → VK → Prop} {o e : Expr} {es : List Expr} {to : TE} {t : TA} {apos cpos : Pos} (hK : X.K = K') (pa : PlainAttrs T) (slot : PySem.Slot T name id) (hty : typeOf (.builtin id) = pure (.type "method_descriptor")) (hm : MtR X id r) (ho : PE X o to) (ha : PA X (e :: es) t)
    (hbase : attributeBase o name X.env (eval o X.env) = eval o X.env := by rfl)
    (hfew : ((backTo cpos (starEach (e :: es) X.env)).all (fun x => !x.1) && (backToKw cpos (keywordEach [] X.env)).all (fun x => x.1.isSome)
      && decide ((e :: es).length + ([] : List Keyword).length + (if ([] : List Keyword).isEmpty then 0 else 1) < 30)) = true := by rfl)
    (hline : (apos.endLine == cpos.line) = true := by rfl) (hs : starEach (e :: es) X.env = (false, eval e X.env) :: starEach es X.env := by rfl) (hplain : (backTo cpos (starEach es X.env)).any (·.1) = false := by rfl) :
    PE X (.Call (.Attribute o name apos) (e :: es) [] cpos) (tBM K' T r to t) := by
  subst hK
  exact pe_bm pa slot hty hm ho ha hbase hfew hline hs hplain
theorem call_len_seqK {K' : PySem.W.Frag} (hK : X.K = K') : CallR X (.builtin "len") (fun xs H Q => ∃ p ys, xs = [V.ref p] ∧ (SqL K' H p ys ∨ SqT K' H p ys) ∧ Q (.int ys.length) H) := by
  subst hK
  exact call_len_seq
theorem ix_listK {K' : PySem.W.Frag} (hK : X.K = K') : IxR X (rIxL K') := by
  subst hK
  exact ix_list
theorem op_in_seqK {K' : PySem.W.Frag} (hK : X.K = K') : OpR X (compareOp .In) (rIn K' false) := by
  subst hK
  exact op_in_seq
theorem op_notIn_seqK {K' : PySem.W.Frag} (hK : X.K = K') : OpR X (compareOp .NotIn) (rIn K' true) := by
  subst hK
  exact op_notIn_seq
theorem op_mul_str : OpR X (binaryOp .Mult) (fun x y H Q => ∃ a k, x = .str a ∧ y = .int k ∧ 0 ≤ k ∧ k ≤ 8 ∧ a.length ≤ 8 ∧ Q (.str (Txt.mul a k)) H) := by
  intro pins s σ H x y v u Q I rx ry h
  obtain ⟨a, k, rfl, rfl, h0, h1, hx, q⟩ := h
  obtain ⟨t, rfl⟩ := rx
  obtain ⟨t', rfl⟩ := ry
  exact SB.mul (mulOk_small h0 h1 hx) (fun t' tk => ⟨.str (Txt.mul a k), H, I.tok _, ⟨_, rfl⟩, q⟩)
end
end K2
end
section
set_option Elab.async false
set_option maxRecDepth 100000
set_option linter.all false
namespace K2
open PySem L2
theorem low_letters : ∀ c ∈ codes (Str.ofString "abcdefghijklmnopqrstuvwxyz"), 97 ≤ c ∧ c ≤ 122 := by decide +kernel
theorem at_letters : ∀ j, j < 26 → (codes (Str.ofString "abcdefghijklmnopqrstuvwxyz"))[j]? = some (97 + j) := by decide +kernel
theorem sum_ones : ∀ l : List Nat, (((l.map fun c => (⟨#[c]⟩ : Str)).map (·.length)).sum) = l.length
  | [] => rfl
  | c :: l => by
    rw [List.map_cons, List.map_cons, List.sum_cons, sum_ones l, List.length_cons]
    show 1 + l.length = l.length + 1
    omega
theorem if01 (c : Bool) : 0 ≤ (if c = true then (1 : Int) else 0) ∧ (if c = true then (1 : Int) else 0) ≤ 8 := by cases c <;> decide
theorem fin_q {W : Str} {b : List Nat} {spot f h i : Nat} (e : codes W = wordAt b spot (signAt f h i)) (hi : 26 ≤ i) : W ++ Str.ofString "q" = txt (finalAt b spot f h i) := by
  refine codes_inj ?_
  rw [codes_append, codes_txt, e]
  unfold finalAt
  dsimp only
  rw [if_pos hi]
  rfl
theorem fin_z {W : Str} {b : List Nat} {spot f h i : Nat} (e : codes W = wordAt b spot (signAt f h i)) (hi : ¬ 26 ≤ i) : W ++ Txt.mul (Str.ofString "z") (if W ∈ barred then 1 else 0) = txt (finalAt b spot f h i) := by
  refine codes_inj ?_
  have eW : txt (wordAt b spot (signAt f h i)) = W := by rw [← e, txt_codes]
  rw [codes_append, codes_txt, e]
  unfold finalAt
  dsimp only
  rw [if_neg hi, eW]
  congr 1
  by_cases hb : W ∈ barred
  · rw [if_pos hb, if_pos hb]
    decide +kernel
  · rw [if_neg hb, if_neg hb]
    decide +kernel
theorem finals_succ (b : List Nat) (spot f h i : Nat) : finals b spot f h (i + 1) = finals b spot f h i ++ [txt (finalAt b spot f h i)] := by
  unfold finals
  rw [List.range_succ, List.map_append]
  rfl
/-- a fresh list of m words -/
def spWords : Sp := fun vs H Q _ => ∃ (p c : Addr) (ns : List Int) (n m : Nat), vs = [.ref p, .int m] ∧ Pen H p c ns n ∧ n + 12 ≤ 100000 ∧ m ≤ 31 ∧
  ∀ (l : Addr) (ws : List Str) (H' : Hp), Words ws → ws.length = m → H' l = some (.lst (ws.map V.str)) → Keep p H H' → Pen H' p c ns (n + 12) → Q (.ref l) H'
abbrev nWords : List Str := ["_law_pen_here", "_law_many", "_law_letters", "_law_k", "_law_base", "_law_spot", "_law_first", "_law_hop", "_law_found", "_law_sign", "_law_word", "_law_more"]
section
variable {P : Program} {w : World} {K : PySem.W.Frag} {mg : Str → Option Value} {base : Heap}
theorem scWords : FnScope nWords ["_law_pen_here", "_law_many"] (defScope sWords) := ⟨rfl, rfl, rfl, by decide +kernel, rfl, by decide +kernel, by decide +kernel⟩
theorem ok_words {f fD fP fB : Addr} {fd fdD fdP fdB : FuncData} (F : Fun K "_law_words" "_law_words" sWords f fd) (T : Bi mg) (D : Df K mg "_law_draw" sDraw fD fdD ["_law_pen_here", "_law_many"]) (PK : Df K mg "_law_pick" sPick fP fdP ["_law_pen_here", "_law_some"])
    (BA : Df K mg "_law_barred" sBarred fB fdB []) : FnOk P w K mg base CX0 3 f fd ["_law_pen_here", "_law_many"] spWords := by
  have GD : FnOk P w K mg base CX0 1 fD fdD ["_law_pen_here", "_law_many"] spDraw := ok_draw D.F T
  have GP : FnOk P w K mg base CX0 2 fP fdP ["_law_pen_here", "_law_some"] spPick := ok_pick PK.F T D
  have GB : FnOk P w K mg base CX0 1 fB fdB [] spBarred := ok_barred BA.F
  refine F.ok scWords (fun vs H Q E h => ?_) (fun cdv A outer s H vs Q E hr h => ?_)
  · obtain ⟨p, c, ns, n, m, rfl, _⟩ := h
    rfl
  · obtain ⟨p, c, ns, n, m, rfl, hP, hn, hm, k⟩ := h
    have hr1 : Room 2 _ := hr
    have hr0 : Room 1 _ := hr.mono (by decide)
    refine ⟨_, (pss_cons (ps_set (i := 2) scWords.nd rfl (Or.inr rfl) pe_str)
      (pss_cons (ps_set (i := 4) scWords.nd rfl (Or.inl rfl) (pe_join pe_str (pe_lc (own := [("_law_k", 3)]) (g := gName 3) (tt := tYes) rfl scWords.nd (pi_range1 rfl T.range (pa_cons (pe_call GD hr0 (by rfl) D.m D.F.kp D.b .nil pass0 (pa_cons (pv 0) (pa_cons pe_int pa_nil))) pa_nil)) (blkOk_by (N := nWords) (sc := defScope sWords) (by decide +kernel)) (fun _ _ _ _ _ => pg_name (i := 3) scWords.nd rfl (Or.inl rfl)) (fun _ _ _ _ _ => pts_nil) (fun _ _ _ _ _ => pe_call GP hr1 (by rfl) PK.m PK.F.kp PK.b .nil pass0 (pa_cons (pv 0) (pa_cons (pv 2) pa_nil))))))
      (pss_cons (ps_set (i := 4) scWords.nd rfl (Or.inl rfl) (pe_call GP hr1 (by rfl) PK.m PK.F.kp PK.b .nil pass0 (pa_cons (pv 0) (pa_cons (pe_lst (pa_cons (pv 4) (pa_cons (pv 4) (pa_cons (pv 4) (pa_cons pe_str (pa_cons pe_str (pa_cons pe_str pa_nil))))))) pa_nil))))
      (pss_cons (ps_set (i := 5) scWords.nd rfl (Or.inl rfl) (pe_call GD hr0 (by rfl) D.m D.F.kp D.b .nil pass0 (pa_cons (pv 0) (pa_cons (pe_op op_add (pe_callB call_len_str (by rfl) T.len PySem.boot_len (pa_cons (pv 4) pa_nil)) pe_int) pa_nil))))
      (pss_cons (ps_set (i := 6) scWords.nd rfl (Or.inl rfl) (pe_call GD hr0 (by rfl) D.m D.F.kp D.b .nil pass0 (pa_cons (pv 0) (pa_cons pe_int pa_nil))))
      (pss_cons (ps_set (i := 7) scWords.nd rfl (Or.inl rfl) (pe_call GP hr1 (by rfl) PK.m PK.F.kp PK.b .nil pass0 (pa_cons (pv 0) (pa_cons (pe_lst (pa_cons pe_int (pa_cons pe_int (pa_cons pe_int (pa_cons pe_int (pa_cons pe_int (pa_cons pe_int pa_nil))))))) pa_nil))))
      (pss_cons (ps_set (i := 8) scWords.nd rfl (Or.inl rfl) (pe_lst pa_nil))
      (pss_cons (ps_for PassesOwn.never rfl (pi_range1 rfl T.range (pa_cons (pv 1) pa_nil)) (pg_name (i := 3) scWords.nd rfl (Or.inl rfl))
      (pss_cons (ps_set (i := 9) scWords.nd rfl (Or.inl rfl) (pe_ix ix_str (pv 2) (pe_op op_modN (pe_callTy call_int1 (by rfl) T.int (by decide +kernel) (pa_cons (pe_op op_add (pv 6) (pe_op op_mul (pv 7) (pv 3))) pa_nil)) pe_int) (fun _ _ => rfl)))
        (pss_cons (ps_set (i := 10) scWords.nd rfl (Or.inl rfl) (pe_op op_add_str (pe_op op_add_str (pe_slice sl_str (pv 4) po_none (po_some (pv 5))) (pv 9)) (pe_slice sl_str (pv 4) (po_some (pv 5)) po_none)))
        (pss_cons (ps_set (i := 11) scWords.nd rfl (Or.inl rfl) (pe_op op_mul_str pe_str (pe_callTy call_int1 (by rfl) T.int (by decide +kernel) (pa_cons (pe_cmpR op_in_seq (pv 10) (pe_call0 GB hr0 (by rfl) BA.m BA.F.kp BA.b .nil pass0) rfl) pa_nil))))
        (pss_one (ps_expr (pe_bm PySem.F.plainAttrs_list PySem.F.slot_list_append PySem.F.type_list_append mt_append (pv 8) (pa_cons (pe_op op_add_str (pv 10) (pe_ifExp (pt_cmpR op_ge (pv 3) pe_int (nomark _)) pe_str (pv 11))) pa_nil))))))))
      (pss_one (ps_ret (pv 8))))))))))), ?_⟩
    -- letters; the first base
    refine ⟨⟨_, rfl⟩, _, rfl, p, c, ns, n, 7, rfl, hP, by omega, by decide, by decide, fun v1 H1 v10 v11 k1 P1 => ?_⟩
    obtain ⟨q1, rfl⟩ : ∃ j : Nat, v1 = (j : Int) := ⟨v1.toNat, (Int.toNat_of_nonneg v10).symm⟩
    refine ⟨_, rfl, by omega, by omega, fun D1 hD1 => ?_⟩
    have hD1H : H D1 = none := k1.fresh P1 hD1
    have hpD := P1.pne hD1
    have hcD := P1.cne hD1
    refine lc_range (lo := 0) (n := q1) (fun i Hc => ∃ ys : List Nat, Low ys ∧ ys.length = i ∧ Hc D1 = some (.lst ((ys.map fun c => (⟨#[c]⟩ : Str)).map V.str)) ∧ Keep p H Hc ∧ Pen Hc p c ns (n + 1 + i)) ?_ ?_ ?_
    · refine ⟨[], fun _ h => (by cases h), rfl, upd_same, k1.new hD1H, P1.new hD1⟩
    · rintro i Hc hi ⟨ys, hys, hyl, hD, kc, Pc⟩
      have hDp : D1 ≠ p := hpD.symm
      refine ⟨rfl, _, rfl, _, rfl, p, c, ns, n + 1 + i, _, _, rfl, Pc, by omega, .inr (.inl ⟨_, rfl, rfl, by decide +kernel⟩), by decide +kernel, by decide +kernel, fun j v Hd hv kd Pd => ?_⟩
      rw [List.getElem?_map] at hv
      cases hc : (codes (Str.ofString "abcdefghijklmnopqrstuvwxyz"))[j]? with
      | none => rw [hc] at hv; cases hv
      | some ch =>
        rw [hc] at hv
        cases hv
        have hch := low_letters ch (List.mem_of_getElem? hc)
        refine ⟨_, kd D1 _ hD hDp, ?_, ys ++ [ch], ?_, ?_, ?_, ?_, ?_⟩
        · rw [List.length_map, List.length_map, hyl]
          have : sizeLine = 16777216 := rfl
          omega
        · intro d hd
          rcases List.mem_append.mp hd with hd | hd
          · exact hys d hd
          · have : d = ch := by simpa using hd
            omega
        · rw [List.length_append, hyl]
          rfl
        · rw [upd_same, List.map_append, List.map_append]
          rfl
        · exact (kc.trans kd).new hD1H
        · exact Pd.upd' hpD hcD
    · -- the join, the first pick
      rintro Hj ⟨ys, hys, hyl, hD, kj, Pj⟩
      refine ⟨Str.empty, D1, ys.map fun c => (⟨#[c]⟩ : Str), rfl, rfl, .inl (SqL.of hD), ?_, ?_⟩
      · rw [sum_ones, List.length_map]
        show ys.length + ys.length * 0 ≤ 16777216
        omega
      have hb0 := join_ones ys
      generalize Txt.join Str.empty (ys.map fun c => (⟨#[c]⟩ : Str)) = b0 at hb0
      refine ⟨_, rfl, _, rfl, _, rfl, _, rfl, (by show 6 ≤ sizeLine; decide), fun l6 h6 => ?_⟩
      refine ⟨p, c, ns, n + 1 + q1, _, _, rfl, Pj.new h6, by omega, .inl ⟨l6, rfl, (Pj.pne h6).symm, upd_same⟩, by simp, (by show 6 ≤ 1000; decide), fun j6 v6 H2 hv6 k2 P2 => ?_⟩
      obtain ⟨b, rfl, hbl, hb6⟩ : ∃ b : Str, v6 = .str b ∧ Low (codes b) ∧ (codes b).length ≤ 6 := by
        have hm6 := List.mem_of_getElem? hv6
        have l0 : Low (codes b0) ∧ (codes b0).length ≤ 6 := by rw [hb0]; exact ⟨hys, by omega⟩
        simp only [List.mem_cons, List.not_mem_nil, or_false] at hm6
        rcases hm6 with rfl | rfl | rfl | rfl | rfl | rfl
        · exact ⟨_, rfl, l0⟩
        · exact ⟨_, rfl, l0⟩
        · exact ⟨_, rfl, l0⟩
        · exact ⟨_, rfl, by unfold Low; decide +kernel, by decide +kernel⟩
        · exact ⟨_, rfl, by unfold Low; decide +kernel, by decide +kernel⟩
        · exact ⟨_, rfl, by unfold Low; decide +kernel, by decide +kernel⟩
      have k2' : Keep p H H2 := (kj.new (kj.fresh Pj h6)).trans k2
      -- spot
      refine ⟨_, rfl, _, rfl, _, rfl, (by rw [len_codes]; show _ ≤ 16777216; omega), _, _, rfl, rfl, p, c, ns, n + 1 + q1 + 1, _, rfl, P2, by omega, by omega, by rw [len_codes]; omega, fun vs H3 s0 s1 k3 P3 => ?_⟩
      obtain ⟨spot, rfl⟩ : ∃ j : Nat, vs = (j : Int) := ⟨vs.toNat, (Int.toNat_of_nonneg s0).symm⟩
      have hspot : spot ≤ (codes b).length := by rw [len_codes] at s1; omega
      have k3' := k2'.trans k3
      -- first
      refine ⟨_, rfl, p, c, ns, n + 1 + q1 + 1 + 1, _, rfl, P3, by omega, by decide, by decide, fun vf H4 f0 f1 k4 P4 => ?_⟩
      obtain ⟨fst, rfl⟩ : ∃ j : Nat, vf = (j : Int) := ⟨vf.toNat, (Int.toNat_of_nonneg f0).symm⟩
      have k4' := k3'.trans k4
      -- hop
      refine ⟨_, rfl, (by show 6 ≤ sizeLine; decide), fun lh hlh => ?_⟩
      refine ⟨p, c, ns, n + 1 + q1 + 1 + 1 + 1, _, _, rfl, P4.new hlh, by omega, .inl ⟨lh, rfl, (P4.pne hlh).symm, upd_same⟩, by simp, (by show 6 ≤ 1000; decide), fun jh vh H5 hvh k5 P5 => ?_⟩
      obtain ⟨hop, rfl, hhop⟩ : ∃ h : Nat, vh = .int (h : Int) ∧ h ∈ [1, 3, 5, 7, 9, 11] := by
        have hm6 := List.mem_of_getElem? hvh
        simp only [List.mem_cons, List.not_mem_nil, or_false] at hm6
        rcases hm6 with rfl | rfl | rfl | rfl | rfl | rfl
        · exact ⟨1, rfl, by simp⟩
        · exact ⟨3, rfl, by simp⟩
        · exact ⟨5, rfl, by simp⟩
        · exact ⟨7, rfl, by simp⟩
        · exact ⟨9, rfl, by simp⟩
        · exact ⟨11, rfl, by simp⟩
      have k5' : Keep p H H5 := (k4'.new (k4'.fresh P4 hlh)).trans k5
      -- found = []
      refine ⟨Nat.zero_le _, fun l hl => ?_⟩
      have hlH : H l = none := k5'.fresh P5 hl
      have hpl := P5.pne hl
      have hcl := P5.cne hl
      have hb11 : hop ≤ 11 := by
        simp only [List.mem_cons, List.not_mem_nil, or_false] at hhop
        omega
      refine ⟨_, rfl, _, rfl, by omega, by omega, for_range (lo := 0) (n := m) (fun i σ Hc => ∃ v3 v9 v10 v11 : Option V, σ = [some (.ref p), some (.int m), some (.str (Str.ofString "abcdefghijklmnopqrstuvwxyz")), v3, some (.str b), some (.int spot), some (.int fst), some (.int hop), some (.ref l), v9, v10, v11] ∧
        Hc l = some (.lst ((finals (codes b) spot fst hop i).map V.str)) ∧ Keep p H Hc ∧ Pen Hc p c ns (n + 12)) ?_ ?_ ?_⟩
      · refine ⟨_, _, _, _, rfl, upd_same, k5'.new hlH, (P5.new hl).mono (by omega)⟩
      · rintro i σ Hc hi ⟨v3, v9, v10, v11, rfl, hL, kc, Pc⟩
        have eN : ((fst : Int) + (hop : Int) * (0 + (i : Int))).fmod 26 = (((fst + hop * i) % 26 : Nat) : Int) := by
          rw [Int.zero_add, Int.fmod_eq_emod_of_nonneg _ (by decide)]
          have : ((fst : Int) + (hop : Int) * (i : Int)) = ((fst + hop * i : Nat) : Int) := by
            rw [Int.natCast_add, Int.natCast_mul]
          rw [this]
          rfl
        have hlt : (fst + hop * i) % 26 < 26 := Nat.mod_lt _ (by decide)
        refine ⟨_, rfl, _, rfl, _, rfl, _, rfl, _, _, rfl, rfl, .inl ⟨by omega, by omega⟩, _, _, rfl, rfl, .inl ⟨_, rfl, _, _, rfl, rfl, (by show (26 : Int) ≠ 0; decide), _, _, _, rfl, rfl, by decide +kernel, (by rw [eN]; exact atI_nat (at_letters _ hlt)), ?_⟩⟩
        have lc1 := len_codes b
        refine ⟨_, rfl, _, rfl, _, rfl, _, rfl, ?_, _, rfl, _, _, rfl, rfl, ?_, _, rfl, _, rfl, _, rfl, _, rfl, ?_, _, _, rfl, rfl, ?_, ?_⟩
        · rw [lc1]; show _ ≤ 16777216; omega
        · rw [len_codes (cutS b none (some (spot : Int))), cut_to hspot, List.length_take]; show _ + 1 ≤ 16777216; omega
        · rw [lc1]; show _ ≤ 16777216; omega
        · rw [len_codes (cutS b none (some (spot : Int)) ++ _), codes_append, cut_to hspot, len_codes (cutS b _ none), cut_from hspot, List.length_append, List.length_take, List.length_drop]
          show _ + 1 + _ ≤ 16777216
          omega
        have hW : codes (cutS b none (some (spot : Int)) ++ (⟨#[97 + (fst + hop * i) % 26]⟩ : Str) ++ cutS b (some (spot : Int)) none) = wordAt (codes b) spot (signAt fst hop i) := by
          rw [codes_append, codes_append, cut_to hspot, cut_from hspot]
          rfl
        generalize cutS b none (some (spot : Int)) ++ (⟨#[97 + (fst + hop * i) % 26]⟩ : Str) ++ cutS b (some (spot : Int)) none = W at hW ⊢
        refine ⟨_, rfl, rfl, fun lb hlb => ⟨lb, _, rfl, .inl (SqL.of upd_same), rfl, flat_strs _, .inr ⟨_, rfl, _, _, rfl, rfl, ?_, ?_, by decide +kernel, ?_⟩⟩⟩
        · exact (if01 _).1
        · exact (if01 _).2
        have hz : (if (if false = true then !inV (V.str W) (barred.map V.str) else inV (V.str W) (barred.map V.str)) = true then (1 : Int) else 0) = (if W ∈ barred then 1 else 0) := by
          rw [if_neg Bool.false_ne_true, inV_strs]
          by_cases hb : W ∈ barred
          · rw [if_pos hb, if_pos (by simpa using hb)]
          · rw [if_neg hb, if_neg (by simpa using hb)]
        have hlbH : H lb = none := kc.fresh Pc hlb
        have hll : l ≠ lb := ne_of_none hL hlb
        have hL2 : (upd Hc lb (.lst (barred.map V.str))) l = some (.lst ((finals (codes b) spot fst hop i).map V.str)) := by rw [upd_ne hll]; exact hL
        have kc2 : Keep p H (upd Hc lb (.lst (barred.map V.str))) := kc.new hlbH
        have Pc2 := Pc.new (o := .lst (barred.map V.str)) hlb
        have fin : ∀ x : Str, x = txt (finalAt (codes b) spot fst hop i) → (upd (upd Hc lb (.lst (barred.map V.str))) l (.lst ((finals (codes b) spot fst hop i).map V.str ++ [V.str x]))) l = some (.lst ((finals (codes b) spot fst hop (i + 1)).map V.str)) := fun x hx => by
          rw [upd_same, finals_succ, List.map_append, hx]
          rfl
        have fsz : (finals (codes b) spot fst hop i).length = i := by simp [finals]
        have lW : W.length = (codes b).length + 1 := by rw [len_codes, hW, len_wordAt]
        refine ⟨_, rfl, .inl ⟨rfl, _, SqL.of hL2⟩, _, rfl, _, rfl, _, _, rfl, rfl, _, rfl, ite2 (fun hg => ?_) (fun hg => ?_)⟩
        · have hg := of_decide_eq_true hg
          have hi26 : 26 ≤ i := by omega
          refine ⟨_, _, rfl, rfl, ?_, l, _, _, rfl, rfl, hL2, ?_, ?_⟩
          · rw [lW]; show _ + 1 ≤ 16777216; omega
          · rw [List.length_map, fsz]; show _ < 16777216; omega
          · exact ⟨_, _, _, _, rfl, fin _ (fin_q hW hi26), kc2.new hlH, Pc2.upd' hpl hcl⟩
        · have hi26 : ¬ 26 ≤ i := fun h => hg (decide_eq_true (by omega))
          refine ⟨_, rfl, _, _, rfl, rfl, ?_, l, _, _, rfl, rfl, hL2, ?_, ?_⟩
          · rw [hz, lW]
            have : (Txt.mul (Str.ofString "z") (if W ∈ barred then 1 else 0)).length ≤ 1 := by
              by_cases hb : W ∈ barred
              · rw [if_pos hb]; decide +kernel
              · rw [if_neg hb]; decide +kernel
            show _ ≤ 16777216
            omega
          · rw [List.length_map, fsz]; show _ < 16777216; omega
          · refine ⟨_, _, _, _, rfl, fin _ ?_, kc2.new hlH, Pc2.upd' hpl hcl⟩
            rw [hz]
            exact fin_z hW hi26
      · rintro σ Hc ⟨v3, v9, v10, v11, rfl, hL, kc, Pc⟩
        refine ⟨_, rfl, ?_⟩
        exact k l _ Hc (words_finals hbl hb6 hhop (by omega) spot fst) (by simp [finals]) hL kc Pc
end
end K2
end
section
set_option Elab.async false
set_option maxRecDepth 100000
set_option linter.all false
namespace K2
open PySem L2
abbrev sBegun : Stmt := top 53
theorem mul8 (ch : Nat) : Txt.mul (⟨#[ch]⟩ : Str) 8 = txt (List.replicate 8 ch) := by rfl
theorem cut_rep {ch k : Nat} (h : k < 8) : cutS (txt (List.replicate 8 ch)) none (some ((0 + (k : Int)) + 1)) = txt (List.replicate (k + 1) ch) := by
  refine codes_inj ?_
  have e : (0 + (k : Int)) + 1 = ((k + 1 : Nat) : Int) := by omega
  rw [e, cut_to (by rw [codes_txt, List.length_replicate]; omega), codes_txt, codes_txt, List.take_replicate]
  congr 1
  omega
theorem cut_first {x : Str} (h : VW x) : ∃ ch, 97 ≤ ch ∧ ch ≤ 122 ∧ cutS x none (some 1) = ⟨#[ch]⟩ := by
  have hne := h.ne
  cases hc : codes x with
  | nil => exact absurd hc hne
  | cons ch r =>
    have hl := h.low ch (by rw [hc]; simp)
    refine ⟨ch, hl.1, hl.2, codes_inj ?_⟩
    rw [show (1 : Int) = ((1 : Nat) : Int) from rfl, cut_to (by rw [hc]; simp), hc]
    rfl
theorem reps_succ (ch i : Nat) : reps ch (i + 1) = reps ch i ++ [txt (List.replicate (i + 1) ch)] := by
  unfold reps
  rw [List.range_succ, List.map_append]
  rfl
def spBegun : Sp := fun vs H Q _ => ∃ (p c : Addr) (ns : List Int) (n m : Nat), vs = [.ref p, .int m] ∧ Pen H p c ns n ∧ n + 14 ≤ 100000 ∧ m ≤ 31 ∧
  ∀ (l : Addr) (ws : List Str) (H' : Hp), Words ws → ws.length = m → H' l = some (.lst (ws.map V.str)) → Keep p H H' → Pen H' p c ns (n + 14) → Q (.ref l) H'
abbrev nBegun : List Str := ["_law_pen_here", "_law_many", "_law_found", "_law_whole", "_law_some", "_law_k"]
section
variable {P : Program} {w : World} {K : PySem.W.Frag} {mg : Str → Option Value} {base : Heap}
theorem scBegun : FnScope nBegun ["_law_pen_here", "_law_many"] (defScope sBegun) := ⟨rfl, rfl, rfl, by decide +kernel, rfl, by decide +kernel, by decide +kernel⟩
theorem ok_begun {f fD fW : Addr} {fd fdD fdW : FuncData} (F : Fun K "_law_begun" "_law_begun" sBegun f fd) (T : Bi mg) (D : Df K mg "_law_draw" sDraw fD fdD ["_law_pen_here", "_law_many"]) (WO : Df K mg "_law_words" sWords fW fdW ["_law_pen_here", "_law_many"])
    (GW : FnOk P w K mg base CX0 3 fW fdW ["_law_pen_here", "_law_many"] spWords) : FnOk P w K mg base CX0 4 f fd ["_law_pen_here", "_law_many"] spBegun := by
  have GD : FnOk P w K mg base CX0 1 fD fdD ["_law_pen_here", "_law_many"] spDraw := ok_draw D.F T
  refine F.ok scBegun (fun vs H Q E h => ?_) (fun cdv A outer s H vs Q E hr h => ?_)
  · obtain ⟨p, c, ns, n, m, rfl, _⟩ := h
    rfl
  · obtain ⟨p, c, ns, n, m, rfl, hP, hn, hm, k⟩ := h
    have hr2 : Room 3 _ := hr
    have hr0 : Room 1 _ := hr.mono (by decide)
    refine ⟨_, (pss_cons (ps_set (i := 2) scBegun.nd rfl (Or.inl rfl) (pe_call GW hr2 (by rfl) WO.m WO.F.kp WO.b .nil pass0 (pa_cons (pv 0) (pa_cons (pv 1) pa_nil))))
      (pss_cons (ps_if (PW.pt (pw_or (pt_cmpR op_eq (pv 1) pe_int (nomark _)) (pw_or (pt_cmpR op_gt (pv 1) pe_int (nomark _)) (pw_or1 (pt_cmpR op_gt (pe_call GD hr0 (by rfl) D.m D.F.kp D.b .nil pass0 (pa_cons (pv 0) (pa_cons pe_int pa_nil))) pe_int (nomark _))))))
      (pss_one (ps_ret (pv 2)))
      pss_nil)
      (pss_cons (ps_set (i := 3) scBegun.nd rfl (Or.inr rfl) (pe_op op_mul_str (pe_slice sl_str (pe_ix ix_list (pv 2) pe_int (fun _ _ => rfl)) po_none (po_some pe_int)) pe_int))
      (pss_cons (ps_setLc (i := 4) (own := [("_law_k", 5)]) (g := gName 5) (tt := tYes) rfl scBegun.nd rfl rfl (sw_true rfl rfl rfl (by decide +kernel)) (pi_range1 rfl T.range (pa_cons (pv 1) pa_nil)) (blkOk_by (N := nBegun) (sc := defScope sBegun) (by decide +kernel)) (fun _ _ _ _ _ => pg_name (i := 5) scBegun.nd rfl (Or.inl rfl)) (fun _ _ _ _ _ => pts_nil) (fun _ _ _ _ _ => pe_slice sl_str (pv 3) po_none (po_some (pe_op op_add (pv 5) pe_int))))
      (pss_one (ps_ret (pe_ifExp (pt_cmpR op_eq (pe_call GD hr0 (by rfl) D.m D.F.kp D.b .nil pass0 (pa_cons (pv 0) (pa_cons pe_int pa_nil))) pe_int (nomark _)) (pv 4) (pe_revL (pv 4))))))))), ?_⟩
    refine ⟨_, rfl, _, rfl, p, c, ns, n, m, rfl, hP, by omega, hm, fun l ws H1 hw hwl hl k1 P1 => ?_⟩
    have give : ∀ H2 : Hp, Keep p H1 H2 → Pen H2 p c ns (n + 12 + 1) → Q (.ref l) H2 := fun H2 k2 P2 =>
      k l ws H2 hw hwl (k2 l _ hl (P1.strs_ne hl)) (k1.trans k2) (P2.mono (by omega))
    refine ⟨_, rfl, rfl, _, rfl, ite2 (fun h0 => ?_) (fun h0 => ?_)⟩
    · exact ⟨_, rfl, give H1 (Keep.refl _ _) (P1.mono (by omega))⟩
    refine ⟨_, rfl, _, _, rfl, rfl, _, rfl, ite2 (fun h1 => ?_) (fun h1 => ?_)⟩
    · exact ⟨_, rfl, give H1 (Keep.refl _ _) (P1.mono (by omega))⟩
    refine ⟨_, rfl, p, c, ns, n + 12, _, rfl, P1, by omega, by decide, by decide, fun v H2 v0 v1 k2 P2 => ?_⟩
    refine ⟨_, _, rfl, rfl, _, rfl, ite2 (fun h2 => ?_) (fun h2 => ?_)⟩
    · exact ⟨_, rfl, give H2 k2 P2⟩
    have m0 : 0 < m := by
      have : ¬ (V.int (m : Int) = V.int 0) := fun e => h0 (decide_eq_true e)
      rcases Nat.eq_zero_or_pos m with e | e
      · exact absurd (by rw [e]; rfl) this
      · exact e
    have m8 : m ≤ 8 := by
      have : ¬ (8 < (m : Int)) := fun e => h1 (decide_eq_true e)
      omega
    have hl2 := k2 l _ hl (P1.strs_ne hl)
    have k2' := k1.trans k2
    have h00 : ws[0]? = some ws[0] := List.getElem?_eq_getElem (by omega)
    obtain ⟨ch, c1, c2, hcut⟩ := cut_first (hw.vw ws[0] (List.getElem_mem _))
    have hvw := hw.vw ws[0] (List.getElem_mem _)
    refine ⟨_, rfl, l, _, _, _, rfl, rfl, SqL.of hl2, atI_nat (j := 0) (by rw [List.getElem?_map, h00]; rfl), _, rfl, _, rfl, ?_, _, _, rfl, rfl, by decide, by decide, ?_, ?_⟩
    · rw [len_codes]; have := hvw.le; show _ ≤ 16777216; omega
    · rw [hcut]; show 1 ≤ 8; decide
    rw [hcut, mul8]
    refine ⟨_, rfl, _, rfl, by omega, by omega, fun D1 hD1 => ?_⟩
    have hD1H : H D1 = none := k2'.fresh P2 hD1
    have hpD := P2.pne hD1
    have hcD := P2.cne hD1
    refine lc_range (lo := 0) (n := m) (fun i Hc => Hc D1 = some (.lst ((reps ch i).map V.str)) ∧ Keep p H Hc ∧ Pen Hc p c ns (n + 13)) ?_ ?_ ?_
    · exact ⟨upd_same, k2'.new hD1H, (P2.new hD1).mono (by omega)⟩
    · rintro i Hc hi ⟨hD, kc, Pc⟩
      refine ⟨rfl, _, rfl, _, rfl, _, _, rfl, rfl, _, rfl, _, rfl, ?_, _, hD, ?_, ?_, ?_, ?_⟩
      · rw [len_codes, codes_txt, List.length_replicate]; decide
      · rw [List.length_map]; simp [reps]; show _ < 16777216; omega
      · rw [upd_same, cut_rep (by omega), reps_succ, List.map_append]
        rfl
      · exact kc.new hD1H
      · exact Pc.upd' hpD hcD
    · rintro Hj ⟨hD, kj, Pj⟩
      refine ⟨_, rfl, p, c, ns, n + 13, _, rfl, Pj, by omega, by decide, by decide, fun v3 H3 v30 v31 k3 P3 => ?_⟩
      have hD3 := k3 D1 _ hD hpD.symm
      have rl : (reps ch m).length = m := by simp [reps]
      refine ⟨rfl, _, rfl, ite2 (fun hq => ?_) (fun hq => ?_)⟩
      · exact ⟨_, rfl, k D1 _ H3 (words_reps c1 c2 m8) rl hD3 (kj.trans k3) (P3.mono (by omega))⟩
      · refine ⟨_, rfl, D1, _, rfl, SqL.of hD3, fun r hr' => ?_⟩
        refine k r _ _ (words_reps c1 c2 m8).rev (by rw [List.length_reverse]; exact rl) (by rw [upd_same, List.map_reverse]) ((kj.trans k3).new ((kj.trans k3).fresh P3 hr')) ((P3.new hr').mono (by omega))
end
end K2
end
section
set_option Elab.async false
set_option maxRecDepth 100000
set_option linter.all false
namespace K2
open PySem L2
theorem perm_erase {α : Type} : ∀ (l : List α) (k : Nat) (h : k < l.length), ([l[k]] ++ l.eraseIdx k).Perm l
  | [], k, h => absurd h (Nat.not_lt_zero _)
  | a :: l, 0, h => List.Perm.refl _
  | a :: l, k + 1, h => by
    have ih := perm_erase l k (Nat.lt_of_succ_lt_succ h)
    show (l[k]'(Nat.lt_of_succ_lt_succ h) :: (a :: l.eraseIdx k)).Perm (a :: l)
    exact (List.Perm.swap a _ _).trans (List.Perm.cons a ih)
theorem map_erase {α β : Type} (f : α → β) : ∀ (l : List α) (k : Nat), (l.map f).eraseIdx k = (l.eraseIdx k).map f
  | [], k => by simp
  | a :: l, 0 => rfl
  | a :: l, k + 1 => by
    show f a :: (l.map f).eraseIdx k = f a :: (l.eraseIdx k).map f
    rw [map_erase f l k]
def spMixed : Sp := fun vs H Q _ => ∃ (p c y : Addr) (ns : List Int) (n : Nat) (xs : List Str), vs = [.ref p, .ref y] ∧ Pen H p c ns n ∧ n + 40 ≤ 100000 ∧ H y = some (.lst (xs.map V.str)) ∧ xs.length ≤ 33 ∧
  ∀ (l : Addr) (ys : List Str) (H' : Hp), ys.Perm xs → H' l = some (.lst (ys.map V.str)) → Keep p H H' → Pen H' p c ns (n + xs.length) → Q (.ref l) H'
abbrev nMixed : List Str := ["_law_pen_here", "_law_some", "_law_left", "_law_k"]
section
variable {P : Program} {w : World} {K : PySem.W.Frag} {mg : Str → Option Value} {base : Heap}
theorem mt_popAtR (X : Cx) : MtR X "list.pop" rPopAt := mt_popAt
theorem six {k n : Nat} (h : k < n) : seqIndex? (k : Int) n = some k := by
  unfold seqIndex?
  simp
  omega
/-- a row of the heap -/
def rowO (r : Row) : HO := .tup ((r.1 :: r.2).map V.str)
def RowsAt (H : Hp) (ts : List Addr) (rs : List Row) : Prop := ts.length = rs.length ∧ ∀ (i : Nat) (t : Addr) (r : Row), ts[i]? = some t → rs[i]? = some r → H t = some (rowO r)
theorem RowsAt.mono {H H' : Hp} {ts : List Addr} {rs : List Row} (h : RowsAt H ts rs) (k : ∀ b r, H b = some (rowO r) → H' b = some (rowO r)) : RowsAt H' ts rs := ⟨h.1, fun i t r a b => k t r (h.2 i t r a b)⟩
theorem rowsAt_nil (H : Hp) : RowsAt H [] [] := ⟨rfl, fun i t r a => by simp at a⟩
theorem RowsAt.snoc {H : Hp} {ts : List Addr} {rs : List Row} {t : Addr} {r : Row} (h : RowsAt H ts rs) (ht : H t = some (rowO r)) : RowsAt H (ts ++ [t]) (rs ++ [r]) := by
  refine ⟨by simp [h.1], fun i u q a b => ?_⟩
  by_cases hi : i < ts.length
  · rw [List.getElem?_append_left hi] at a
    rw [List.getElem?_append_left (by rw [← h.1]; exact hi)] at b
    exact h.2 i u q a b
  · rw [List.getElem?_append_right (by omega)] at a
    rw [List.getElem?_append_right (by have := h.1; omega)] at b
    have : i - ts.length = 0 := by
      have := (List.getElem?_eq_some_iff.mp a).1
      simpa using this
    rw [this] at a
    rw [← h.1, this] at b
    simp at a b
    subst a b
    exact ht
theorem row_ne_pen {r : Row} {c : Addr} {a l : Int} : rowO r ≠ penO c a l := by
  unfold rowO penO
  intro e
  cases e
theorem Pen.row_ne {H : Hp} {p c q : Addr} {ns : List Int} {n : Nat} {r : Row} (h : Pen H p c ns n) (hq : H q = some (rowO r)) : q ≠ p := fun e => by
  obtain ⟨a, l, g, _⟩ := h.pen
  rw [e, g] at hq
  exact row_ne_pen (Option.some.inj hq).symm
theorem RowsAt.keep {H H' : Hp} {p c : Addr} {ns : List Int} {n : Nat} {ts : List Addr} {rs : List Row} (h : RowsAt H ts rs) (P : Pen H p c ns n) (k : Keep p H H') : RowsAt H' ts rs := h.mono fun b r e => k b _ e (P.row_ne e)
def spRow : Sp := fun vs H Q _ => ∃ (p c y : Addr) (ns : List Int) (n : Nat) (x : Str) (known : List Str), vs = [.ref p, .str x, .ref y] ∧ Pen H p c ns n ∧ n + 50 ≤ 100000 ∧ H y = some (.lst (known.map V.str)) ∧ known.Nodup ∧ 2 ≤ known.length ∧ known.length ≤ 33 ∧
  ∀ (t : Addr) (bs : List Str) (H' : Hp), bs ≠ [] → bs.Nodup → (∀ b ∈ bs, b ∈ known) → H' t = some (rowO (x, bs)) → Keep p H H' → Pen H' p c ns (n + 34) → Q (.ref t) H'
abbrev nRow : List Str := ["_law_pen_here", "_law_word", "_law_known", "_law_many"]
theorem cut_take (ys : List Str) (k : Nat) : cutV (ys.map V.str) none (some (k : Int)) = (ys.take k).map V.str := by
  unfold cutV
  rw [HT.sIx_nat, HT.sIx_none, List.drop_zero, Nat.sub_zero, ← List.map_take]
  congr 1
  rw [List.length_map]
  by_cases h : k ≤ ys.length
  · rw [Nat.min_eq_left h]
  · rw [Nat.min_eq_right (by omega), List.take_of_length_le (by omega), List.take_of_length_le (by omega)]
abbrev nRows : List Str := ["_law_pen_here", "_law_words_here", "_law_known", "_law_found", "_law_word"]
def spRows : Sp := fun vs H Q _ => ∃ (p c y : Addr) (ns : List Int) (n : Nat) (ws : List Str), vs = [.ref p, .ref y] ∧ Pen H p c ns n ∧ n + 2000 ≤ 100000 ∧ H y = some (.lst (ws.map V.str)) ∧ Words ws ∧ ws.length ≤ 31 ∧
  ∀ (l : Addr) (ts : List Addr) (rs : List Row) (H' : Hp), Good rs → rs.map (·.1) = ws → RowsAt H' ts rs → H' l = some (.lst (ts.map V.ref)) → Keep p H H' → Pen H' p c ns (n + 1500) → Q (.ref l) H'
end
end K2
end
section
set_option Elab.async false
set_option maxRecDepth 100000
set_option linter.all false
namespace K2
open PySem L2
theorem _root_.L2.Same.put {H H1 : Hp} {q : Addr} {o : HO} (k : Same H H1) (h : H q = none) : Same H (upd H1 q o) := fun b u hb => by
  rw [upd_ne (ne_of_none hb h)]
  exact k b u hb
theorem Pen.same {H H' : Hp} {p c : Addr} {ns : List Int} {n : Nat} (h : Pen H p c ns n) (k : Same H H') : Pen H' p c ns n := by
  obtain ⟨a, l, g, g1, g2, g3⟩ := h.pen
  exact ⟨⟨a, l, k _ _ g, g1, g2, g3⟩, k _ _ h.cells, h.small⟩
theorem _root_.L2.Same.keep {p : Addr} {H H' : Hp} (k : Same H H') : Keep p H H' := fun b o h _ => k b o h
theorem dget_s {H : Hp} {a : Addr} {kvs : List (Key × V)} {x : Str} {v : V} (e : H a = some (.dK kvs)) (hv : valV kvs (Sum.inr x : Key) = some v) : DGet H a (.str x) (some v) := by
  have := DGet.k (k := (Sum.inr x : Key)) e
  rw [hv] at this
  exact this
theorem cutV_whole {xs : List V} {lo hi : Option Int} (h : HT.sIx xs.length 0 lo = 0 ∧ HT.sIx xs.length xs.length hi = xs.length) : cutV xs lo hi = xs := by
  unfold cutV
  rw [h.1, h.2, List.drop_zero, Nat.sub_zero, List.take_length]
def rSl2 : V → Option Int → Option Int → Hp → VK → Prop := fun x lo hi H Q => ∃ a xs, x = .ref a ∧ H a = some (.tup xs) ∧ ∀ p H1, Same H H1 → H1 p = some (.tup (cutV xs lo hi)) → Q (.ref p) H1
def rCat2 : R2 := fun x y H Q => ∃ a b xs ys, x = .ref a ∧ y = .ref b ∧ H a = some (.tup xs) ∧ H b = some (.tup ys) ∧ xs.length + ys.length ≤ sizeLine ∧ ∀ p H1, Same H H1 → H1 p = some (.tup (xs ++ ys)) → Q (.ref p) H1
section
variable {X : Cx}
theorem sl_tup2 : SlR X rSl2 := by
  intro pins s σ H x v vl vu lo hi sl Q I rx hs pl pu h
  obtain ⟨a, xs, rfl, ha, q⟩ := h
  exact sl_tupA pins s σ H _ v vl vu lo hi sl Q I rx hs pl pu ⟨a, xs, rfl, SqT.of ha, fun hw => q a H (Same.refl H) (by rw [cutV_whole hw]; exact ha), fun _ p hp => q p _ ((Same.refl H).put hp) upd_same⟩
theorem op_cat2 : OpR X (binaryOp .Add) rCat2 := by
  intro pins s σ H x y v u Q I rx ry h
  obtain ⟨a, b, xs, ys, rfl, rfl, ha, hb, hz, q⟩ := h
  refine op_catA pins s σ H _ _ v u Q I rx ry ⟨a, b, xs, ys, rfl, rfl, SqT.of ha, SqT.of hb, hz, fun e => q b H (Same.refl H) (by rw [e]; exact hb), fun _ e => q a H (Same.refl H) (by rw [e, List.append_nil]; exact ha), fun _ _ p hp => q p _ ((Same.refl H).put hp) upd_same⟩
end
end K2
end
section
set_option Elab.async false
set_option maxRecDepth 100000
set_option linter.all false
namespace K2
open PySem PySem.Spec PyProof.Rows L2
section
variable {p : Program} {w : World} {A : Around} {Z : Result → Shared → Prop} {it : Addr} {f g : List Addr} {Gs : Array GenState → Array GenState → Prop} {N : Nat} {Yv : Nat → Value → Prop} {Sv : Nat → Shared → Prop}
/-- a set that takes in unlike texts, one after the other -/
theorem set_takes (Wk : WalksS p w A.in1 it f g Gs N Yv Sv) {a : Addr} (af : a ∉ f) {xs : List Str} (lx : xs.length = N) (un : xs.Nodup) (few : N ≤ 1000) (val : ∀ j v, Yv j v → ∃ t, v = .str (xs.getD j Str.empty) t) :
    ∀ (m j : Nat) (s : Shared), N - j = m → j ≤ N → Sv j s → s.heap.SetOf (strKind p w) a (fun y => decide (y ∈ xs.take j)) j → (∀ z, Moved (a :: g) Gs s z → z.heap.SetOf (strKind p w) a (fun y => decide (y ∈ xs)) N → Z (.ok (.ret .none)) z) →
      codeAny (model p w) A (.builtin "set.update.loop" ⟨[.ref a, .ref it], []⟩) Z s := by
  have ag : a ∉ g := fun q => af (Wk.sub _ q)
  have up : ∀ b ∈ g, b ∈ a :: g := fun b q => List.mem_cons_of_mem _ q
  have here : ∀ {s z : Shared} {T : Str → Bool} {c : Nat}, Moved g Gs s z → s.heap.SetOf (strKind p w) a T c → z.heap.SetOf (strKind p w) a T c := fun mv q => by
    obtain ⟨o, es, ep, tb, ho, rest⟩ := q
    exact ⟨o, es, ep, tb, mv.heap a _ ag ho, rest⟩
  intro m
  induction m with
  | zero =>
    intro j s hm hj st se fin
    obtain rfl : j = N := by omega
    refine codeAny_builtin F.entry_set_update_loop (by
      rw [Around.under_plainId F.plain_set_update_loop _]
      refine wpAny_bind (Wk.done s _ _ st fun z mv => wpAny_pure (fin z (mv.mono up) ?_))
      rw [← lx, List.take_length] at se
      rw [← lx]
      exact here mv se)
  | succ m ih =>
    intro j s hm hj st se fin
    have jl : j < N := by omega
    have xj : xs[j]? = some (xs.getD j Str.empty) := by
      rw [List.getD_eq_getElem?_getD, List.getElem?_eq_getElem (by omega)]
      rfl
    generalize xs.getD j Str.empty = x at xj
    refine codeAny_builtin F.entry_set_update_loop (by
      rw [Around.under_plainId F.plain_set_update_loop _]
      refine wpAny_bind (Wk.item j s _ _ jl st fun v z hv st2 mv => ?_)
      obtain ⟨t, ev⟩ := val j v hv
      have ex : xs.getD j Str.empty = x := by rw [List.getD_eq_getElem?_getD, xj]; rfl
      rw [ex] at ev
      subst ev
      have fresh : decide (x ∈ xs.take j) = false := by
        rw [decide_eq_false_iff_not]
        intro q
        obtain ⟨i, hi⟩ := List.getElem?_of_mem q
        rw [List.getElem?_take] at hi
        split at hi
        · rename_i lt
          have := (List.getElem?_inj (i := i) (by omega) un).mp (hi.trans xj.symm)
          omega
        · cases hi
      have se' := here mv se
      refine wpAny_bind (wpAny_holding (by
        unfold setAdd
        refine wpAny_holding (wpAny_bind ((strKind p w).pyHash (k := x) (strKind_is _ _ _ _) (wpAny_setAddHashed_of (knd := strKind p w) (s := { z with toks := z.toks + 1 }) (strKind_is _ _ _ _) rfl se' (by unfold scanBound; omega) fun h2 sb se2 => ?_)))
        have se3 : h2.SetOf (strKind p w) a (fun y => decide (y ∈ xs.take (j + 1))) (j + 1) := SetOf_congr se2 (fun y => by
          rw [List.take_add_one, xj]
          simp [List.mem_append]) (by rw [fresh]; rfl)
        refine wpAny_pure ⟨plainId_quiet F.plain_set_update_loop _, ih (j + 1) _ (by omega) jl (Wk.frame _ z _ _ st2 (Nat.le_succ _) fun b hb o e => ?_) se3 fun y mv2 se4 => fin y (Moved.trans Wk.gtrans ((mv.mono up).then_heap (Nat.le_succ _) fun b o hb e => ?_) mv2) se4⟩
        · rw [sb.2 b fun q : b = a => af (q ▸ hb)]; exact e
        · rw [sb.2 b fun q : b = a => hb (q ▸ List.mem_cons_self)]; exact e)))
end
section
variable {p : Program} {w : World} {A : Around} {E : Value → Shared → Prop} {s : Shared}
def emptySet (b : Bool) : Obj := { cls := .type "set", dict := none, data := .set #[] 0 (.fresh 0 0 b) }
set_option maxHeartbeats 3200000 in
/-- set(t) of a tuple of unlike texts has as many items -/
theorem set_of_tup {l : Addr} {its : Array Value} {xs : List Str} {Q : Value → Shared → Prop} (hh : A.handled = none) (hl : s.heap.IsTuple l its) (hi : StrsAre its.toList xs) (un : xs.Nodup) (few : xs.length ≤ 1000)
    (fin : ∀ (h' : Heap) (tk : Nat), h'.SetOf (strKind p w) s.heap.objs.size (fun y => decide (y ∈ xs)) xs.length → (∀ b o, b < s.heap.objs.size → s.heap.get? b = some o → h'.get? b = some o) → Q (.ref s.heap.objs.size) { s with heap := h', toks := tk }) :
    wpAny (model p w) A (call (.type "set") [.ref l]) Q E s := by
  have sz : its.size = xs.length := by rw [← Array.length_toList, StrsAre.len_eq hi]
  obtain ⟨c, tl, hmro⟩ := F.called_set.mro
  have m1 := F.called_set.made
  have m2 := F.called_set.sub
  refine wpAny_call (codeAny_of_tree (wpAny_pure ⟨Code.quiet_builtin _ (by decide +kernel), codeAny_builtin F.entry_type_call (by
    rw [Around.under_plain (weight_type_call_type "set" [.ref l] []) rfl]
    have m3 := F.called_set.notType
    have m4 := F.called_set.canCreate
    have m5 := F.typeCall_set_1 (.ref l)
    repeat (any_goals (first | assumption | wp_step))
    refine codeAny_mono (code_set_new_1 (.ref l) (E := E) (Q₁ := fun v z => ∃ b : Bool, v = .ref s.heap.objs.size ∧ z = { s with heap := s.heap.push (emptySet b) }) fun b => ⟨b, rfl, rfl⟩) fun r z hr => ?_
    cases r with
    | error e => exact hr
    | ok fl =>
      cases fl with
      | next => exact hr.elim
      | brk => exact hr.elim
      | cont => exact hr.elim
      | ret v =>
        obtain ⟨led, rfl, rfl⟩ := hr
        have hS : (s.heap.push (emptySet led)).get? s.heap.objs.size = some (emptySet led) := Heap.get?_push_size _ rfl
        have hT : Shared.TypeIs { s with heap := s.heap.push (emptySet led) } (.ref s.heap.objs.size) "set" := ⟨_, hS, rfl⟩
        have n1 := F.called_set.init.lookup
        have n2 := F.called_set.init.bind (.ref s.heap.objs.size)
        repeat (any_goals (first | assumption | wp_step))
        refine codeAny_mono (codeAny_call_builtin (R := wants (fun r z => r = .none ∧ ∃ h' tk, z = { s with heap := h', toks := tk } ∧ h'.SetOf (strKind p w) s.heap.objs.size (fun y => decide (y ∈ xs)) xs.length ∧ (∀ b o, b < s.heap.objs.size → s.heap.get? b = some o → h'.get? b = some o)) E) F.called_set.init.plain F.entry_set_init (check_set_init_1 hT ?_)) fun r2 z2 hr2 => ?_
        · obtain ⟨⟨tc, td, tdata, tsl⟩, ho, hc, tn, hd⟩ := hl
          simp only at hc hd
          subst hc hd
          have ho2 : (s.heap.push (emptySet led)).get? l = some { cls := .type "tuple", dict := td, data := .seq its tn, slots := tsl } := Heap.get?_push_of_some _ ho
          have q1 := F.sub_tuple_set
          have q2 := F.sub_tuple_frozenset
          have q3 : (Value.type "tuple" == Value.type "dict") = false := by decide
          have tup : (s.heap.push (emptySet led)).IsTuple l its := ⟨_, ho2, rfl, tn, rfl⟩
          have lS : l < s.heap.objs.size := Heap.lt_size ho
          have pz : (s.heap.push (emptySet led)).objs.size = s.heap.objs.size + 1 := Heap.size_push ..
          unfold Builtin.«set.__init__» noKeywords Builtin.Frozenset.updateFrom
          generalize hPI : pyIter = PI
          unfold emptySet at *
          wp_walk
          subst hPI
          refine wpAny_pyIter_tuple tup (wpAny_bind (wpAny_runValue ?_))
          have hn3 : A.in1.in1.in1.handled = none := by simp [hh]
          have vals : ∀ (j : Nat) (v : Value), its[j]? = some v → ∃ t, v = .str (xs.getD j Str.empty) t := fun j v hv => SS.strs_at hi j v (by rw [Array.getElem?_toList]; exact hv)
          refine set_takes ((Walks.tuple hn3 _ l (by rw [Heap.size_push]; exact Nat.ne_of_lt (Nat.lt_succ_of_lt lS)) its).toS) (a := s.heap.objs.size) (by
            simp only [List.mem_cons, List.not_mem_nil, or_false, not_or]
            exact ⟨by rw [Heap.size_push]; exact (Nat.succ_ne_self _).symm, Nat.ne_of_gt lS⟩) sz.symm un (by omega) vals (its.size - 0) 0 _ (by omega) (Nat.zero_le _) ⟨⟨_, Heap.get?_push_size _ rfl, rfl, rfl⟩, tup.push _⟩ ?_ ?_
          · exact SetOf_congr ((setObjOf_fresh (knd := strKind p w) led).setOf (Heap.get?_push_of_some _ hS) (by decide)) (fun _ => by simp) rfl
          · rintro ⟨h', g', d', tk', os'⟩ mv se
            obtain rfl : g' = s.gens := mv.gens
            obtain rfl : d' = s.drawn := mv.drawn
            obtain rfl : os' = s.os := mv.os
            refine wpAny_pure (wpAny_pure ⟨rfl, h', tk', rfl, by rw [← sz]; exact se, fun b o hb e => mv.heap b o ?_ (Heap.get?_push_of_some _ (Heap.get?_push_of_some _ e))⟩)
            simp only [List.mem_cons, List.not_mem_nil, or_false, not_or]
            exact ⟨Nat.ne_of_lt hb, by rw [Heap.size_push]; exact Nat.ne_of_lt (Nat.lt_succ_of_lt hb)⟩
        · cases r2 with
          | error e => exact hr2
          | ok f2 =>
            cases f2 with
            | next => exact hr2.elim
            | brk => exact hr2.elim
            | cont => exact hr2.elim
            | ret v =>
              obtain ⟨rfl, h', tk, rfl, se, kp⟩ := hr2
              repeat (any_goals (first | assumption | wp_step))
              exact fin _ _ se kp)⟩))
end
end K2
end
section
set_option Elab.async false
set_option maxRecDepth 100000
set_option linter.all false
namespace K2
open PySem L2
abbrev sIsW : Stmt := top 17
abbrev sAreW : Stmt := top 18
/-- the module's constants -/
structure Gb (K : PySem.W.Frag) (mg : Str → Option Value) (aR : Addr) (t1 t2 : Tok) : Prop where
  long : mg "LONGEST" = some (.int 8 t1)
  res : mg "RESERVED" = some (.ref aR)
  resT : ∀ H : Hp, SqT K H aR (resd.map V.str)
theorem uni : ∀ k, k < 26 → Unicode.isAlpha (97 + k) = true ∧ Unicode.isLower (97 + k) = true ∧ Unicode.isUpper (97 + k) = false ∧ Unicode.isTitle (97 + k) = false := by decide +kernel
theorem uni' {c : Nat} (h : 97 ≤ c ∧ c ≤ 122) : Unicode.isAlpha c = true ∧ Unicode.isLower c = true ∧ Unicode.isUpper c = false ∧ Unicode.isTitle c = false := by
  have := uni (c - 97) (by omega)
  rw [show 97 + (c - 97) = c by omega] at this
  exact this
theorem vw_ascii {x : Str} (h : VW x) : Txt.isascii x = true := by
  unfold Txt.isascii
  rw [← Array.all_toList, List.all_eq_true]
  intro c hc
  have := h.low c hc
  simp
  omega
theorem vw_alpha {x : Str} (h : VW x) : Txt.isalpha x = true := by
  unfold Txt.isalpha
  have hl : x.length > 0 := by
    rw [len_codes]
    exact List.length_pos_iff.mpr h.ne
  rw [← Array.all_toList, decide_eq_true hl, Bool.true_and, List.all_eq_true]
  intro c hc
  exact (uni' (h.low c hc)).1
theorem vw_lower {x : Str} (h : VW x) : Txt.islower x = true := by
  unfold Txt.islower
  rw [← Array.any_toList, ← Array.any_toList, Bool.and_eq_true]
  refine ⟨?_, ?_⟩
  · rw [List.any_eq_true]
    obtain ⟨c, r, e⟩ := List.exists_cons_of_ne_nil h.ne
    have hc : c ∈ x.cps.toList := by
      show c ∈ codes x
      rw [e]
      simp
    exact ⟨c, hc, (uni' (h.low c hc)).2.1⟩
  · rw [Bool.not_eq_true', List.any_eq_false]
    intro c hc
    have := uni' (h.low c hc)
    rw [this.2.2.1, this.2.2.2]
    decide
def spIsW : Sp := fun vs H Q _ => ∃ x : Str, vs = [.str x] ∧ VW x ∧ Q (.bl true) H
def spAreW : Sp := fun vs H Q _ => ∃ (t : Addr) (xs : List Str), vs = [.ref t] ∧ H t = some (.tup (xs.map V.str)) ∧ (∀ x ∈ xs, VW x) ∧ xs.length ≤ 100 ∧ ∀ H', Same H H' → Q (.bl true) H'
abbrev nAreW : List Str := ["xs", "x"]
section
variable {P : Program} {w : World} {K : PySem.W.Frag} {mg : Str → Option Value} {base : Heap}
theorem scIsW : FnScope ["x"] ["x"] (defScope sIsW) := ⟨rfl, rfl, rfl, by decide +kernel, rfl, by decide +kernel, by decide +kernel⟩
theorem ok_isw {f aR : Addr} {t1 t2 : Tok} {fd : FuncData} (F : Fun K "is_word" "is_word" sIsW f fd) (T : Bi mg) (G : Gb K mg aR t1 t2) : FnOk P w K mg base CX0 1 f fd ["x"] spIsW := by
  refine F.ok scIsW (fun vs H Q E h => ?_) (fun cdv A outer s H vs Q E hr h => ?_)
  · obtain ⟨x, rfl, _⟩ := h
    rfl
  · obtain ⟨x, rfl, hx, k⟩ := h
    refine ⟨_, (pss_cons (ps_if (PW.pt (pw_or (pt_not (pt_val (pe_callB call_isi (by rfl) T.isinstance (by decide +kernel) (pa_cons (pv 0) (pa_cons (pe_bltn (v := .ty "str") (by rfl) T.str (by decide +kernel) rfl) pa_nil))))) (pw_or1 (pt_cmpR op_gt (pe_callB call_len_str (by rfl) T.len PySem.boot_len (pa_cons (pv 0) pa_nil)) (pe_glob (v := .int 8) rfl G.long ⟨_, rfl⟩) (nomark _)))))
      (pss_one (ps_ret pe_bl))
      pss_nil)
      (pss_one (ps_ret (pe_and (pe_m0 PySem.F.slot_str_isascii PySem.F.type_str_isascii mt_isascii (pv 0)) (pe_and (pe_m0 PySem.F.slot_str_isalpha PySem.F.type_str_isalpha mt_isalpha (pv 0)) (pe_and (pe_m0 PySem.F.slot_str_islower PySem.F.type_str_islower mt_islower (pv 0)) (pe_one (pe_cmpR op_notIn_seq (pv 0) (pe_glob (v := .ref aR) rfl G.res rfl) rfl)))))))), ?_⟩
    have hl : x.length ≤ 8 := by rw [len_codes]; exact hx.le
    refine ⟨_, rfl, _, _, _, _, true, rfl, .ty _, .base (.str _), kit_ty (by decide +kernel), _, rfl, ?_⟩
    refine ⟨_, rfl, _, rfl, Nat.le_trans hl (by decide), _, _, rfl, rfl, _, rfl, ite2 (fun h8 => ?_) (fun _ => ?_)⟩
    · have := of_decide_eq_true h8
      omega
    refine ⟨_, rfl, ⟨_, rfl⟩, _, rfl, rfl, trivial, _, rfl, ?_⟩
    rw [vw_ascii hx]
    refine iteT ⟨_, rfl, ⟨_, rfl⟩, _, rfl, rfl, trivial, _, rfl, ?_⟩
    rw [vw_alpha hx]
    refine iteT ⟨_, rfl, ⟨_, rfl⟩, _, rfl, rfl, trivial, _, rfl, ?_⟩
    rw [vw_lower hx]
    refine iteT ⟨_, rfl, aR, _, rfl, .inr (G.resT H), rfl, flat_strs _, ?_⟩
    rw [if_pos rfl, inV_strs, decide_eq_false hx.nr]
    exact k
theorem scAreW : FnScope nAreW ["xs"] (defScope sAreW) := ⟨rfl, rfl, rfl, by decide +kernel, rfl, by decide +kernel, by decide +kernel⟩
theorem ok_arew {f fI : Addr} {fd fdI : FuncData} (F : Fun K "are_words" "are_words" sAreW f fd) (T : Bi mg) (IW : Df K mg "is_word" sIsW fI fdI ["x"]) (GI : FnOk P w K mg base CX0 1 fI fdI ["x"] spIsW) : FnOk P w K mg base CX0 2 f fd ["xs"] spAreW := by
  refine F.ok scAreW (fun vs H Q E h => ?_) (fun cdv A outer s H vs Q E hr h => ?_)
  · obtain ⟨t, xs, rfl, _⟩ := h
    rfl
  · obtain ⟨t, xs, rfl, ht, hx, hl, k⟩ := h
    have hr0 : Room 1 _ := hr
    refine ⟨_, (pss_one (ps_ret (pe_callB (cr_all rfl) (by rfl) T.all (by decide +kernel) (pa_cons (pe_lc (own := [("x", 1)]) (g := gName 1) (tt := tYes) rfl scAreW.nd (pi_tup (pv 0)) (blkOk_by (N := nAreW) (sc := defScope sAreW) (by decide +kernel)) (fun _ _ _ _ _ => pg_name (i := 1) scAreW.nd rfl (Or.inl rfl)) (fun _ _ _ _ _ => pts_nil) (fun _ _ _ _ _ => pe_call GI hr0 (by rfl) IW.m IW.F.kp IW.b .nil pass0 (pa_cons (pv 1) pa_nil))) pa_nil)))), ?_⟩
    refine ⟨_, rfl, t, rfl, ⟨_, SqT.of ht⟩, fun D hD => ?_⟩
    refine lc_tup (K := K) (a := t) (xs := xs.map V.str) (fun i Hc => Hc D = some (.lst ((List.replicate i true).map V.bl)) ∧ Same H Hc) ?_ ?_ ?_ ?_
    · exact ⟨upd_same, (Same.refl H).put hD⟩
    · rintro i Hc _ ⟨_, sm⟩
      exact SqT.of (sm t _ ht)
    · rintro i y Hc hy ⟨h1, sm⟩
      obtain ⟨x, hxm, rfl⟩ := List.mem_map.mp (List.mem_of_getElem? hy)
      have hil : i < xs.length := by
        have := (List.getElem?_eq_some_iff.mp hy).1
        rwa [List.length_map] at this
      refine ⟨rfl, _, rfl, x, rfl, hx x hxm, _, h1, ?_, ?_, sm.put hD⟩
      · rw [List.length_map, List.length_replicate]; show _ < 16777216; omega
      · rw [upd_same, List.replicate_succ', List.map_append]
        rfl
    · rintro Hc ⟨h1, sm⟩
      refine ⟨D, _, rfl, SqL.of h1, ?_⟩
      have : (List.replicate (xs.map V.str).length true).all id = true := by simp
      rw [this]
      exact k Hc sm
end
end K2
end
section
set_option Elab.async false
set_option maxRecDepth 100000
set_option linter.all false
namespace K2
open PySem L2
abbrev sAreD : Stmt := top 19
abbrev nLine : List Str := ["row", "lines", "line", "base", "name"]
abbrev nFault : List Str := ["row", "k", "lines", "bases", "base"]
/-- a dict of True for each name -/
def dkeys (us : List Str) : List (Key × V) := us.map fun u => ((Sum.inr u : Key), V.bl true)
def fD (us : List Str) : HO := .dK (dkeys us)
theorem dkeys_len (us : List Str) : (dkeys us).length = us.length := by simp [dkeys]
theorem insK_foldl_len (us m : List Str) : (us.foldl insK m).length ≤ m.length + us.length := by
  induction us generalizing m with
  | nil => simp
  | cons u us ih =>
    rw [List.foldl_cons]
    have := ih (insK m u)
    have h2 : (insK m u).length ≤ m.length + 1 := by
      unfold insK
      split
      · omega
      · simp
    rw [List.length_cons]
    omega
theorem merge1 (x : Str) (v : V) : mergeK [] [((Sum.inr x : Key), v)] = [((Sum.inr x : Key), v)] := by
  show putK [] (Sum.inr x : Key) v = _
  rw [putK_new v rfl]
  rfl
def spAreD : Sp := fun vs H Q _ => ∃ (t : Addr) (xs : List Str), vs = [.ref t] ∧ H t = some (.tup (xs.map V.str)) ∧ xs.Nodup ∧ xs.length ≤ 1000 ∧ Q (.bl true) H
section
variable {P : Program} {w : World} {K : PySem.W.Frag} {mg : Str → Option Value} {base : Heap}
end
end K2
end
section
set_option Elab.async false
set_option maxRecDepth 100000
set_option linter.all false
namespace K2
open PySem PySem.Spec PyProof.Rows L2
def tLenSetT (ta : TE) : TE := fun σ H Q => ta σ H fun x H1 => ∃ (l : Addr) (xs : List Str), x = .ref l ∧ H1 l = some (.tup (xs.map V.str)) ∧ xs.Nodup ∧ xs.length ≤ 1000 ∧ Q (.int (xs.length : Nat)) H1
section
variable {X : Cx}
/-- len(set(t)), t a tuple of unlike texts -/
theorem pe_lenSetT {a : Expr} {ta : TE} {p1 p2 p3 pos : Pos} (h1 : Gl X "len") (h2 : X.mg "len" = none) (h3 : Gl X "set") (h4 : X.mg "set" = none) (ha : PE X a ta) (hc : X.calm = true := by rfl)
    (na : starEach [a] X.env = (false, eval a X.env) :: starEach [] X.env := by rfl) : PE X (.Call (.Name "len" p1) [.Call (.Name "set" p2) [a] [] p3] [] pos) (tLenSetT ta) := by
  refine ⟨fun pins s σ H Q I h => Call_ (ld_blt I h1 h2 boot_len (callWith_builtin1 (args_cons (Call_ (ld_blt I h3 h4 boot_set (callWith_type1 (args_cons (thn (ha.run pins s σ H _ I h) fun v s1 ⟨x, H1, I1, r1, q1⟩ => args_nil ?_) na) na rfl))) rfl) rfl rfl))⟩
  obtain ⟨l, xs, rfl, ht, un, few, q⟩ := q1
  cases r1
  obtain ⟨its, r, pl, _⟩ := I1.tuple (SqT.of ht)
  refine set_of_tup (I1.ok.hd hc) pl (by simpa using strsAre_of r) un few fun h' tk hS hk => args_nil ?_
  obtain ⟨o, es, ep, t, ho, hex, hd, _, _, _, hf, hn⟩ := hS
  have I2 : Inv X pins σ H1 { s1 with heap := h', toks := tk } := I1.kept fun b o e => hk b o (Heap.lt_size e) e
  exact call_len_set ho hex hd hf (by rw [hn]; omega) ⟨.int xs.length, H1, I2.tok _, ⟨_, by rw [hn]⟩, q⟩
end
section
variable {P : Program} {w : World} {K : PySem.W.Frag} {mg : Str → Option Value} {base : Heap}
theorem scAreD : FnScope ["words"] ["words"] (defScope sAreD) := ⟨rfl, rfl, rfl, by decide +kernel, rfl, by decide +kernel, by decide +kernel⟩
theorem ok_ared {f : Addr} {fd : FuncData} (F : Fun K "are_different" "are_different" sAreD f fd) (T : Bi mg) : FnOk P w K mg base CX0 1 f fd ["words"] spAreD := by
  refine F.ok scAreD (fun vs H Q E h => ?_) (fun cdv A outer s H vs Q E hr h => ?_)
  · obtain ⟨t, xs, rfl, _⟩ := h
    rfl
  · obtain ⟨t, xs, rfl, ht, un, few, k⟩ := h
    refine ⟨_, pss_one (ps_ret (pe_cmpR op_eq (pe_lenSetT (by rfl) T.len (by rfl) T.set (pv 0)) (pe_callB call_len_seq (by rfl) T.len PySem.boot_len (pa_cons (pv 0) pa_nil)) (nomark _))), ?_⟩
    refine ⟨_, rfl, t, xs, rfl, ht, un, few, _, rfl, t, _, rfl, .inr (SqT.of ht), rfl, ?_⟩
    rw [List.length_map, decide_eq_true rfl]
    exact k
end
end K2
end
section
set_option Elab.async false
set_option maxRecDepth 100000
set_option linter.all false
namespace K2
open PySem L2
section
variable {P : Program} {w : World} {K : PySem.W.Frag} {mg : Str → Option Value} {base : Heap}
end
end K2
end
section
set_option Elab.async false
set_option maxRecDepth 100000
set_option linter.all false
namespace K2
open PySem PySem.Spec PyProof.Rows L2
/-! enumerate(t) of a tuple -/
def enumO (i : Addr) : Obj := { cls := .type "enumerate", data := .fields #[.none, .bool false, .ref i, rawInt 0, .none, .none] }
set_option maxHeartbeats 1000000 in
theorem enum_made {v : Value} {o : Obj} {B : Heap → Prop} (b : Begins v o B) :
    Meets (Builtin.«enumerate.__new__» ⟨[.type "enumerate", v], []⟩) (fun _ R s => B s.heap ∧ R (.ok (.ret (.ref (s.heap.push o).objs.size))) { s with heap := (s.heap.push o).push (enumO s.heap.objs.size) }) :=
  .of_wp fun prog w A R ⟨hp, g, d, tk, os⟩ ⟨h1, h⟩ => by
    have q0 := sub_enumerate
    have q1 : ∀ {A' : Around} {E : Value → Shared → Prop} {Q : Value → Shared → Prop}, Q (.ref hp.objs.size) ⟨hp.push o, g, d, tk, os⟩ → wpAny (model prog w) A' (pyIter v) Q E ⟨hp, g, d, tk, os⟩ := fun q => b.iter prog w _ _ ⟨hp, g, d, tk, os⟩ _ h1 q
    wp_walk using q1
    refine wpAny_stack_any fun st => wpAny_pure ?_
    split
    · rename_i c _ _ _ _ _
      cases (c == Value.type "enumerate") <;> (wp_walk using q1; exact ⟨_, rfl, h⟩)
    · wp_walk using q1
      exact ⟨_, rfl, h⟩
section
variable {prog : Program} {w : World} {A : Around} {E : Value → Shared → Prop} {s : Shared}
theorem enum_call {v : Value} {o : Obj} {B : Heap → Prop} {Q : Value → Shared → Prop} (b : Begins v o B) (h1 : B s.heap)
    (h : ∀ h', IsEnum h' (s.heap.objs.size + 1) s.heap.objs.size 0 .none → h'.get? s.heap.objs.size = some o → (∀ a u, s.heap.get? a = some u → h'.get? a = some u) → Q (.ref (s.heap.objs.size + 1)) { s with heap := h' }) :
    wpAny (model prog w) A (call (.type "enumerate") [v]) Q E s := by
  refine callType_new F.called_enumerate (by decide) (F.typeCall_enumerate_1 _) (F.newCall_enumerate_1 _) (fun obj => F.args_object_init_2 obj _) F.entry_enumerate_new (enum_made b) ⟨h1, ?_⟩
  have sz : (s.heap.push o).objs.size = s.heap.objs.size + 1 := Heap.size_push ..
  have at1 := Heap.get?_push_size (s.heap.push o) (o := enumO s.heap.objs.size) rfl
  rw [sz] at at1
  show _ ∧ _
  rw [sz]
  exact ⟨⟨_, at1, rfl⟩, h _ at1 (Heap.get?_push_of_some _ (Heap.get?_push_size _ b.free)) fun a u x => Heap.get?_push_of_some _ (Heap.get?_push_of_some _ x)⟩
end
/-- the items of the tuple at a, each in a new pair with its number -/
def IteT (a : Addr) (xs : List V) : It :=
  ⟨fun i H => H a = some (.tup xs) ∧ i < xs.length, fun i H v H' => ∃ T x, v = .ref T ∧ H T = none ∧ H' = upd H T (.tup [.int (i : Nat), x]) ∧ xs[i]? = some x, fun i H => H a = some (.tup xs) ∧ i = xs.length⟩
def tnE (e it t : Addr) (i : Nat) (h : Heap) : Prop := (∃ old, IsEnum h e it (0 + ((i : Nat) : Int)) old) ∧ h.IsTupleIter it t i ∧ e ≠ it ∧ t ≠ it ∧ e ≠ t
theorem turn_enumT {P : Program} {w : World} {K : PySem.W.Frag} {elts : List Expr} {kk : Nat} {tpos : Pos} (xs : List V) (t e it : Addr) : Turn P w K (.Tuple elts kk tpos) (IteT t xs) [e, it] e (tnE e it t) where
  mem := by simp
  obj := fun i h ⟨⟨old, he⟩, ⟨o, ho, hc, hd⟩, _⟩ b hb => by
    rcases List.mem_cons.mp hb with z | z
    · subst z; exact ⟨_, he, fun v q => nomatch q⟩
    · rw [List.mem_singleton.mp z]; exact ⟨o, ho, fun v q => by rw [hd] at q; cases q⟩
  keep := fun i h h' ⟨⟨old, he⟩, hi, n1, n2, n3⟩ k => ⟨⟨old, k e (by simp) _ he⟩, hi.at fun o q => k it (by simp) o q, n1, n2, n3⟩
  item := by
    rintro X rfl rfl rfl hc i pins s σ H E I hf ⟨he, hi, n1, n2, n3⟩ ⟨ha, hlt⟩
    obtain ⟨its, rv, pl, _⟩ := I.tuple (SqT.of ha)
    have sz : its.toArray.size = xs.length := by rw [List.size_toArray, rv.length]
    have W := WalksT.enumFrom (prog := X.prog) (w := X.w) (A := X.A) 0 (Draws.tuple (A := X.A.in1) (by simp [I.ok.hd hc]) it t n2 its.toArray) e n1 (by simp [n1, n3]) (by simp)
    refine W.item i s _ _ (by rw [sz]; exact hlt) ⟨he, hi, pl⟩ fun T vals h' tk ⟨tt, x, hx, ev⟩ hT hTup mid fr => ⟨_, rfl, W.go elts kk tpos i T _ _ _ mid fun h'' ⟨he2, hi2, _⟩ fr2 => ?_⟩
    have hx2 : its[i]? = some x := by simpa using hx
    obtain ⟨y, hy, ry⟩ : ∃ y, xs[i]? = some y ∧ RelV y x := by
      have q : xs[i]? = some xs[i] := List.getElem?_eq_getElem hlt
      obtain ⟨u, hu, ru⟩ := rv.get q
      rw [hx2] at hu
      cases hu
      exact ⟨_, q, ru⟩
    have hTw := W.apart i T _ mid
    have hTf : H T = none := I.hok.fresh hT
    obtain ⟨o2, ho2, hc2, nn, hd2⟩ := hTup
    have new : ObjOk X.prog X.w (upd H T (.tup [.int (i : Nat), y])) h'' T (.tup [.int (i : Nat), y]) :=
      ⟨by show 2 ≤ sizeLine; decide, [.int (i : Nat) tt, x], .cons ⟨_, rfl⟩ (.cons ry .nil), ⟨o2, fr2 T o2 hTw ho2, hc2, nn, by rw [hd2, ev, Int.zero_add]⟩⟩
    refine ⟨.ref T, _, I.turnedNew (ch := [e, it]) (fun b ob hb q => fr2 b ob hb (fr b ob hb q)) hf hT new, rfl, ⟨T, y, rfl, hTf, rfl, hy⟩, ⟨he2, hi2, n1, n2, n3⟩, fun b hb => ?_⟩
    rw [upd_ne fun z : b = T => hTw (z ▸ hb)]
    exact (hf b hb).1
  done := by
    rintro X rfl rfl rfl hc i pins s σ H E I hf ⟨he, hi, n1, n2, n3⟩ ⟨ha, hle⟩
    obtain ⟨its, rv, pl, _⟩ := I.tuple (SqT.of ha)
    have sz : its.toArray.size = i := by rw [List.size_toArray, ← rv.length, hle]
    have W := WalksT.enumFrom (prog := X.prog) (w := X.w) (A := X.A) 0 (Draws.tuple (A := X.A.in1) (by simp [I.ok.hd hc]) it t n2 its.toArray) e n1 (by simp [n1, n3]) (by simp)
    rw [sz] at W
    exact W.done s _ _ ⟨he, hi, pl⟩ fun h' tk fr => ⟨rfl, I.turnedL (ch := [e, it]) fr hf⟩
  self := fun A i s Q E ⟨⟨_, he⟩, _⟩ h => wpAny_pyIter_enum he h
def iEnumT (ta : TA) : TI := fun σ H R => ta σ H fun vs H1 => ∃ a xs, vs = [.ref a] ∧ H1 a = some (.tup xs) ∧ R (IteT a xs) H1
theorem pi_enumT {X : Cx} {e : Expr} {ta : TA} {p pos tpos : Pos} {elts : List Expr} {kk : Nat} (hg : Gl X "enumerate") (hm : X.mg "enumerate" = none) (ha : PA X [e] ta) (hs : starEach [e] X.env = [(false, eval e X.env)] := by rfl) :
    PI X (.Tuple elts kk tpos) (.Call (.Name "enumerate" p) [e] [] pos) (iEnumT ta) := by
  refine ⟨fun pins s σ H R I h => Call_ (ld_blt I hg hm boot_enumerate (callWith_type1 (thn (ha.run pos pins s σ H _ I h) fun us s1 ⟨vs, H1, I1, r1, q1⟩ => ?_) hs rfl))⟩
  obtain ⟨a, xs, rfl, ht, q⟩ := q1
  cases r1 with
  | cons r rr =>
    cases rr
    cases r
    obtain ⟨its, rv, pl, _⟩ := I1.tuple (SqT.of ht)
    have al : a < s1.heap.objs.size := by obtain ⟨_, z, _⟩ := pl; exact Heap.lt_size z
    refine enum_call (begins_tuple a its.toArray) pl fun h' he hit hk => wpAny_pyIter_enum he ⟨s1.heap.objs.size + 1, [s1.heap.objs.size + 1, s1.heap.objs.size], _, _, H1, rfl, I1.kept (t' := s1.toks) hk, turn_enumT xs a (s1.heap.objs.size + 1) s1.heap.objs.size,
      ⟨⟨.none, he⟩, ⟨_, hit, rfl, rfl⟩, Nat.succ_ne_self _, Nat.ne_of_lt al, Nat.ne_of_gt (Nat.lt_succ_of_lt al)⟩, fun b hb => ?_, q⟩
    have le : s1.heap.objs.size ≤ b := by
      rcases List.mem_cons.mp hb with z | z
      · rw [z]; exact Nat.le_succ _
      · rw [List.mem_singleton.mp z]; exact Nat.le_refl _
    exact I1.fpOk le (I1.hok.fresh le)
theorem walk_enumT (a : Addr) (xs : List V) : Walk (IteT a xs) xs.length (fun H => H a = some (.tup xs)) (fun i H v H' => ∃ T x, v = .ref T ∧ H T = none ∧ H' = upd H T (.tup [.int (i : Nat), x]) ∧ xs[i]? = some x) :=
  ⟨fun i H hi h => ⟨h, hi⟩, fun H h => ⟨h, rfl⟩, fun i H x H' _ _ y => y⟩
end K2
end
section
set_option Elab.async false
set_option maxRecDepth 100000
set_option linter.all false
namespace K2
open PySem L2
abbrev nInit : List Str := ["self", "rows", "lines", "k", "row", "reason"]
def flds (r n l : Addr) : List (Str × V) := putF "_lines" (.ref l) (putF "names" (.ref n) (putF "rows" (.ref r) []))
theorem k1_ : ¬ (("rows" : Str) = "names") := by decide +kernel
theorem k2_ : ¬ (("rows" : Str) = "_lines") := by decide +kernel
theorem k3_ : ¬ (("names" : Str) = "_lines") := by decide +kernel
theorem flds_lines (r n l : Addr) : (flds r n l).lookup ("_lines" : Str) = some (.ref l) := by
  unfold flds
  rw [lookup_putF, if_pos rfl]
theorem flds_no (r n l : Addr) {m : Str} (h1 : ¬ m = "_lines") (h2 : ¬ m = "names") (h3 : ¬ m = "rows") : (flds r n l).lookup m = none := by
  unfold flds
  rw [lookup_putF, if_neg h1, lookup_putF, if_neg h2, lookup_putF, if_neg h3]
  rfl
theorem flds_names (r n l : Addr) : (flds r n l).lookup ("names" : Str) = some (.ref n) := by
  unfold flds
  rw [lookup_putF, if_neg k3_, lookup_putF, if_pos rfl]
theorem flds_rows (r n l : Addr) : (flds r n l).lookup ("rows" : Str) = some (.ref r) := by
  unfold flds
  rw [lookup_putF, if_neg k2_, lookup_putF, if_neg k1_, lookup_putF, if_pos rfl]
structure Txt (K : PySem.W.Frag) (mg : Str → Option Value) (C : Addr) : Prop where
  cl : Cls K C
  nR : NoAttr K C "rows"
  nN : NoAttr K C "names"
  nL : NoAttr K C "_lines"
  mgC : mg "Classes" = some (.ref C)
section
variable {P : Program} {w : World} {K : PySem.W.Frag} {mg : Str → Option Value} {base : Heap}
end
end K2
end
section
set_option Elab.async false
set_option maxRecDepth 100000
set_option linter.all false
namespace K2
open PySem L2 PySem.Spec PyProof.Rows
section
variable {X : Cx} {CX : CXT} {k n i : Nat} {f C : Addr} {fd : FuncData} {ps ks : List Str} {sp : Sp} {E : XK} {m x : Str} {o e : Expr} {p q pos apos : Pos} {ta tk te : TA} {g : List Value → List Value → List Value} {gV : List V → List V → List V} {kws : List Keyword}
theorem run_fnK {pins : List (Addr × Obj)} {σ : L2.St} {H : Hp} {s : Shared} {Q : VK} {us ws : List Value} {vs zs : List V} (F : FnOk X.prog X.w X.K X.mg X.base CX k f fd ps sp) (hr : Room k X.A) (hb : KBn X.K fd ps n ks g gV) (hx : Passes CX X E) (I : Inv X pins σ H s)
    (r : Vals vs us) (rz : Vals zs ws) (l1 : us.length = n) (l2 : ws.length = ks.length) (h : sp (gV vs zs) H Q E) : wpAny (model X.prog X.w) X.A (call (.ref f) us (ks.zip ws)) (EP X pins σ Q) X.xe s := by
  refine wpAny_call (codeAny_mono (F.run X.A X.stack s H ⟨us, ks.zip ws⟩ (g us ws) (gV vs zs) Q E hr I.env0 (hb.to s us ws I.kIn l1 l2) (hb.rel r rz) h) fun y z hq => ?_)
  cases y with
  | error e => exact hx pins σ H s e z I hq
  | ok fl =>
    cases fl with
    | ret u => exact I.after hq
    | next => exact hq.elim
    | brk => exact hq.elim
    | cont => exact hq.elim
/-- o.m(k = v, ..) -/
def tMethK (C : Addr) (m : Str) (sp : Sp) (ks : List Str) (gV : List V → List V → List V) (E : XK) (to : TE) (tk : TA) : TE := fun σ H Q => to σ H fun x H1 => ∃ a dx fs, x = .ref a ∧ H1 a = some (.ins C dx fs) ∧ fs.lookup m = none ∧ tk σ H1 fun zs H2 => zs.length = ks.length ∧ sp (gV [x] zs) H2 Q E
theorem pe_methK {to : TE} {pl : Sem Bool} (he : PE X o to) (c : Cls X.K C) (hm : Meth X.K C m f) (F : FnOk X.prog X.w X.K X.mg X.base CX k f fd ps sp) (hr : Room k X.A) (hb : KBn X.K fd ps 1 ks g gV) (hx : Passes CX X E) (hkw : PK X kws tk)
    (hall : (backToKw pos (keywordEach kws X.env)).all (·.1.isSome) = true := by rfl) (hks : (backToKw pos (keywordEach kws X.env)).filterMap (·.1) = ks := by rfl) (hpl : ((backTo pos (starEach [] X.env)).any (·.1) || (backToKw pos (keywordEach kws X.env)).any (·.1.isNone)) = false := by rfl)
    (ht : eval (.Call (.Attribute o m apos) [] kws pos) X.env = (do
      let ov ← eval o X.env
      standAt apos.atName
      let (f, first) ← holding [ov] (getMethod ov m pl)
      callWith pos f first (backTo pos (starEach [] X.env)) (backToKw pos (keywordEach kws X.env))) := by rfl) : PE X (.Call (.Attribute o m apos) [] kws pos) (tMethK C m sp ks gV E to tk) := by
  refine ⟨fun pins s σ H Q I h => PySem.W.methodCall_KW (pl := pl) (thn (he.run pins s σ H _ I h) fun u s1 ⟨x, H1, I1, rx, a, dx, fs, ex, ea, l, q⟩ => ?_) ht⟩
  subst ex
  obtain rfl : u = Value.ref a := rx
  refine getmeth_ok I1 ea c hm l (PySem.W.callWith_KW0 (first := [.ref a]) (h₀ := X.base) I.ok.mod.kin hm.kp hall (thn (hkw.run pos pins s1 σ H1 _ I1 q) fun ws s2 ⟨zs, H2, I2, rz, l2, q2⟩ => ⟨I2.kIn, ?_⟩) hpl)
  rw [hks]
  exact run_fnK (us := [.ref a]) (vs := [.ref a]) F hr hb hx I2 (.cons rfl .nil) rz rfl (by rw [← l2, rz.length]) q2
/-- c(*y), c a name that holds a class -/
def tMakeL (i : Nat) (K : PySem.W.Frag) (C : Addr) (sp : Sp) (E : XK) (te : TE) : TE := fun σ H Q => σ[i]? = some (some (.ref C)) ∧ te σ H fun y H1 => ∃ a xs, y = .ref a ∧ (SqT K H1 a xs ∨ SqL K H1 a xs) ∧ ∀ x dx, H1 x = none → H1 dx = none → dx ≠ x →
  sp (V.ref x :: xs) (upd (upd H1 dx (.own x)) x (.ins C dx [])) (fun v H2 => v = .non ∧ Q (.ref x) H2) E
theorem pe_makeL {te : TE} (M : Mk X.K C f) (F : FnR X.prog X.w X.K X.mg X.base CX k f sp) (hr : Room (k + 1) X.A) (hN : X.N[i]? = some x) (hv : Vis X.env.scope x) (hx : Passes CX X E) (he : PE X e te) (hdb : (x == ("__debug__" : Str)) = false := by decide) (hcd : (x == ("__classdict__" : Str)) = false := by decide)
    (hst : starEach [.Starred e q] X.env = [(true, eval e X.env)] := by rfl) : PE X (.Call (.Name x p) [.Starred e q] [] pos) (tMakeL i X.K C sp E te) := by
  refine ⟨fun pins s σ H Q I ⟨hs, ht⟩ => wpAny_Call_Name_kw (thn ((pe_var (pos := p) hN hv hdb hcd).run pins s σ H (fun v H1 => v = .ref C ∧ H1 = H) I ⟨.ref C, hs, rfl, rfl⟩) fun u s1 ⟨v, H1, I1, r1, q1⟩ => ?_)⟩
  obtain ⟨rfl, rfl⟩ := q1
  cases r1
  refine PySem.W.callWith_S (h₀ := X.base) I.ok.mod.kin M.kp (thn (he.run pins s1 σ _ _ I1 ht) fun v s2 ⟨y, H2, I2, ry, a, xs, ey, hxs, h2⟩ => ?_) hst
  subst ey
  obtain rfl : v = Value.ref a := ry
  exact StX.star_any I2 hxs fun us s3 I3 rv => ⟨I3.kIn, StX.run_makeR M F hr hx I3 rv h2⟩
end
section
variable {P : Program} {w : World} {K : PySem.W.Frag} {mg : Str → Option Value} {base : Heap}
end
end K2
end
section
set_option Elab.async false
set_option maxRecDepth 100000
set_option linter.all false
namespace K2
open PySem L2 PySem.Spec PyProof.Rows
/-- a def's promise where no repr runs around -/
structure FnG (P : Program) (w : World) (K : PySem.W.Frag) (mg : Str → Option Value) (base : Heap) (k : Nat) (f : Addr) (fd : FuncData) (ps : List Str) (sp : Sp) : Prop where
  len : ∀ vs H Q E, sp vs H Q E → vs.length = ps.length
  run : ∀ (A : Around) (outer : List Env) (s : Shared) (H : Hp) (args : Args) (us : List Value) (vs : List V) (Q : VK) (E : XK), Room k A → A.guards = some [] → Env0 P w K mg base A outer s H → BindsTo s fd args (ps.zip us) → Vals vs us → sp vs H Q E →
    codeAny (model P w) A (.call (.ref f) args) (CR CX0 outer P w H s Q E) s
section
variable {P : Program} {w : World} {K : PySem.W.Frag} {mg : Str → Option Value} {base : Heap}
theorem okG {x qual : Str} {st : Stmt} {f : Addr} {fd : FuncData} {N ps : List Str} {k : Nat} {sp : Sp} (F : Fun K x qual st f fd) (S : FnScope N ps (defScope st)) (len : ∀ vs H Q E, sp vs H Q E → vs.length = ps.length)
    (body : ∀ (cdv : Value) (A : Around) (outer : List Env) (s : Shared) (H : Hp) (vs : List V) (Q : VK) (E : XK), Room k (A.deeper (envOfC qual (defScope st) s.heap.objs.size f cdv)) → A.guards = some [] → sp vs H Q E →
      ∃ t, PSs (cxOf CX0 P w K mg base N qual (defScope st) f cdv A outer s H E).nox (defBody st) t ∧ t { nx := fun _ H' => Q .non H', rt := Q } (start N vs) H) : FnG P w K mg base (k + 1) f fd ps sp := by
  obtain ⟨oc, od, kV, doc, pm, an, cdv, ct, osl, rfl, lk, hcd⟩ := F.ex
  refine ⟨len, fun A outer s H args us vs Q E hr hg e0 hb rv hs => ?_⟩
  refine StX.run_bnd (G := fun xs H2 => xs = vs ∧ H2 = H) lk hcd S hr e0 (fun A' Ex Q' h => hb _ _ _ _ (h s H vs us e0 Un.refl rfl (fun _ _ z => z) rv (len _ _ _ _ hs) ⟨rfl, rfl⟩)) fun s2 H2 xs ⟨e1, e2⟩ hr2 => ?_
  subst e1 e2
  obtain ⟨t, h1, h2⟩ := body cdv A outer s2 _ _ Q E hr2 hg hs
  exact ⟨t, h1.nox, h2⟩
end
section
variable {X : Cx} {k : Nat} {f : Addr} {fd : FuncData} {ps : List Str} {sp : Sp} {x : Str} {e : Expr} {es : List Expr} {p pos : Pos} {t : TA}
theorem pe_callG (F : FnG X.prog X.w X.K X.mg X.base k f fd ps sp) (hr : Room k X.A) (gu : X.A.guards = some []) (hg : Gl X x) (hm : X.mg x = some (.ref f)) (hk : PySem.W.keepIn X.K (.ref f) = true) (hb : Binds X.K fd ps []) (ha : PA X (e :: es) t) (hdb : (x == ("__debug__" : Str)) = false := by decide)
    (he : starEach (e :: es) X.env = (false, eval e X.env) :: starEach es X.env := by rfl) (hpl : (backTo pos (starEach es X.env)).any (·.1) = false := by rfl) : PE X (.Call (.Name x p) (e :: es) [] pos) (fun σ H Q => t σ H fun vs H1 => sp vs H1 Q E0) := by
  refine ⟨fun pins s σ H Q I h => wpAny_Call_Name_kw (ld_glob I hg hm ?_ hdb)⟩
  refine PySem.W.callWith_K (h₀ := X.base) I.ok.mod.kin hk (thn (ha.run pos pins s σ H _ I h) fun us s1 ⟨vs, H1, I1, r, q⟩ => ⟨I1.kIn, ?_⟩) he hpl
  have l2 : us.length = ps.length := by rw [← r.length]; exact F.len _ _ _ _ q
  have hb2 := hb s1 us I1.kIn (by simpa using l2)
  rw [List.append_nil] at hb2
  refine wpAny_call (codeAny_mono (F.run X.A X.stack s1 H1 ⟨us, []⟩ us vs Q E0 hr gu I1.env0 hb2 r q) fun y z hq => ?_)
  cases y with
  | error e => exact hq.elim
  | ok fl =>
    cases fl with
    | ret u => exact I1.after hq
    | next => exact hq.elim
    | brk => exact hq.elim
    | cont => exact hq.elim
/-! repr of a list of bools -/
def boolsD (bs : List Bool) : PyData := .list (bs.map PyData.bool)
theorem bools_dp (K : PySem.W.Frag) (H : Hp) : ∀ bs : List Bool, DpAll K H (bs.map V.bl) (bs.map PyData.bool)
  | [] => .nil
  | b :: bs => .cons (.bl b) (bools_dp K H bs)
theorem bools_show : ∀ bs : List Bool, PyData.showableAll (bs.map PyData.bool) = true
  | [] => rfl
  | b :: bs => by
    show (true && PyData.showableAll (bs.map PyData.bool)) = true
    rw [bools_show bs]
    rfl
theorem bools_depth : ∀ bs : List Bool, PyData.depthAll (bs.map PyData.bool) = 0
  | [] => rfl
  | b :: bs => by
    show max 0 (PyData.depthAll (bs.map PyData.bool)) = 0
    rw [bools_depth bs]
    rfl
theorem bools_nodict : ∀ bs : List Bool, PyData.hasDictAll (bs.map PyData.bool) = false
  | [] => rfl
  | b :: bs => by
    show (false || PyData.hasDictAll (bs.map PyData.bool)) = false
    rw [bools_nodict bs]
    rfl
theorem bools_sum : ∀ bs : List Bool, ((PyData.shownAll (bs.map PyData.bool)).map (·.length)).sum ≤ 5 * bs.length ∧ (PyData.shownAll (bs.map PyData.bool)).length = bs.length
  | [] => ⟨Nat.le_refl _, rfl⟩
  | b :: bs => by
    obtain ⟨h1, h2⟩ := bools_sum bs
    have hb : (PyData.shown (.bool b)).length ≤ 5 := by cases b <;> decide +kernel
    refine ⟨?_, ?_⟩
    · show (PyData.shown (.bool b)).length + ((PyData.shownAll (bs.map PyData.bool)).map (·.length)).sum ≤ 5 * (bs.length + 1)
      omega
    · show (PyData.shownAll (bs.map PyData.bool)).length + 1 = bs.length + 1
      omega
theorem bools_size (bs : List Bool) (h : bs.length ≤ 1000) : (boolsD bs).shown.length ≤ sizeLine := by
  have h1 := listText_len_le (PyData.shownAll (bs.map PyData.bool))
  obtain ⟨h2, h3⟩ := bools_sum bs
  show (listText (PyData.shownAll (bs.map PyData.bool))).length ≤ 16777216
  omega
/-- repr(xs) of a list of bools: a text that hangs on the bools alone -/
def rReprB (K : PySem.W.Frag) : List V → Hp → VK → Prop := fun xs H Q => ∃ a bs, xs = [V.ref a] ∧ SqL K H a (bs.map V.bl) ∧ (boolsD bs).shown.length ≤ sizeLine ∧ Q (.str (boolsD bs).shown) H
theorem call_reprB (gu : X.A.guards = some []) (hu : X.A.units + 64 < cLine) : CallR X (.builtin "repr") (rReprB X.K) := by
  intro pins s σ H xs us Q I r h
  obtain ⟨a, bs, rfl, hs, hz, q⟩ := h
  obtain ⟨u, rfl, ru⟩ := r.one
  cases ru
  obtain ⟨as, rd⟩ := Dp.reads I (boolsD bs) (V.ref a) (Value.ref a) (.lst hs (bools_dp _ _ bs)) rfl
  have dp : (boolsD bs).depth = 1 := by
    show PyData.depthAll (bs.map PyData.bool) + 1 = 1
    rw [bools_depth]
  refine repr_of_reads' rd (bools_show bs) (fun z => by rw [show (boolsD bs).hasDict = false from bools_nodict bs] at z; cases z) gu (by rw [dp]; omega) (fun b o e => e) (fun h' u tk hk => ⟨.str _, H, I.kept (t' := tk) hk, ⟨u, rfl⟩, q⟩) hz
end
end K2
end
section
set_option Elab.async false
set_option maxRecDepth 100000
set_option linter.all false
namespace K2
open PySem PySem.Spec PyProof.Rows L2
/-! ### sets of texts that are walked -/
def sTxt (e : Int × Value) : Str := match e.2 with | .str k _ => k | _ => Str.empty
structure WkS (P : Program) (w : World) (D : Froz.SD) (l : List Str) : Prop where
  ok : Froz.TxOk P w D l
  tx : ∀ e ∈ D.1.toList, ∃ u, e.2 = .str (sTxt e) u
  pm : (D.1.toList.map sTxt).Perm l
  rs : Ris D.2.2.place.toList
  ld : w.params.followText "set-order" = true ∨ D.2.2.led = true
theorem addTx_is (h : Int) (v : Value) (D : Froz.SD) : (Froz.addTx h v D).1.toList.Perm (D.1.toList ++ [(h, v)]) ∧ (Ris D.2.2.place.toList → Ris (Froz.addTx h v D).2.2.place.toList) ∧ (Froz.addTx h v D).2.2.led = D.2.2.led := by
  obtain ⟨es, ep, t⟩ := D
  have p := layNew_perm t es h v
  have r := layNew_ris t es h v
  have l := layNew_led t es h v
  unfold Froz.addTx Froz.tailTx
  dsimp only
  generalize layNew t es h v = Z at p r l ⊢
  obtain ⟨e1, t1, wd, gv⟩ := Z
  dsimp only at p r l ⊢
  rw [Array.toList_push] at p
  have r2 : Ris t.place.toList → Ris (if t1.plain = true then { t1 with plain := false } else t1).place.toList := fun q => by split <;> exact r q
  have l2 : (if t1.plain = true then { t1 with plain := false } else t1).led = t.led := by split <;> exact l
  generalize (if t1.plain = true then { t1 with plain := false } else t1) = t2 at r2 l2 ⊢
  by_cases c : (!wd && t2.tooFull) = true
  · rw [if_pos c]
    exact ⟨(relayAll_perm t2 e1 _).trans p, fun _ => relayAll_ris t2 e1 _, (relayAll_led t2 e1 _).trans l2⟩
  · rw [if_neg c]
    exact ⟨p, r2, l2⟩
section
variable {P : Program} {w : World} {A : Around} {E : Value → Shared → Prop} {s : Shared}
theorem WkS.add {D : Froz.SD} {l : List Str} {k : Str} (u : Tok) (W : WkS P w D l) : WkS P w (Froz.addTx (hashStr w k) (.str k u) D) (k :: l) := by
  obtain ⟨p, r, d⟩ := addTx_is (hashStr w k) (.str k u) D
  refine ⟨Froz.add_ok u W.ok, fun e he => ?_, ?_, r W.rs, W.ld.imp id fun z => d.trans z⟩
  · rcases List.mem_append.mp (p.mem_iff.mp he) with q | q
    · exact W.tx e q
    · rw [List.mem_singleton.mp q]
      exact ⟨u, rfl⟩
  · have q := p.map sTxt
    rw [List.map_append] at q
    exact q.trans ((List.perm_append_singleton _ _).trans (W.pm.cons k))
theorem dup_x {a : Addr} {D : Froz.SD} {l : List Str} {k : Str} {u : Tok} {Q : Bool → Shared → Prop} (ho : s.heap.get? a = some (Froz.sObj "set" D)) (F : Froz.TxOk P w D l) (hk : k ∈ l) (hb : l.length < scanBound) (h : Q false s) :
    wpAny (model P w) A (setAddHashed a (.str k u) (hashStr w k)) Q E s := by
  obtain ⟨es, ep, t⟩ := D
  have fits : t.fits es.size = true := F.fit
  have el : ElemsOf (strKind P w) es.toList := F.el
  have few : es.size < scanBound := by
    have : es.size = l.length := F.sz
    omega
  have me : (strKind P w).is k (.str k u) = true := Froz.is_str k u
  obtain ⟨e0, m0, z0⟩ := (F.mem k).mp hk
  unfold setAddHashed setAddHashedIn
  refine wpAny_holding (wpAny_bind (wpAny_setState_of ho rfl fits ?_))
  dsimp only
  rw [byScan_of rfl few el]
  simp only [↓reduceIte]
  unfold setAddByScan
  refine wpAny_bind (wpAny_bind (wpAny_rule (wpAny_bind (wpAny_setScan_of (knd := strKind P w) (k := k) me ho rfl fits el ?_))))
  cases hf : List.findIdx? (fun e => (strKind P w).is k e.2) es.toList with
  | none =>
    have c := List.findIdx?_eq_none_iff.mp hf e0 m0
    rw [z0] at c
    cases c
  | some j => exact wpAny_pure (wpAny_pure h)
theorem fresh_led {a : Value} {Q : Value → Shared → Prop} (h : Q (.ref s.heap.objs.size) { s with heap := s.heap.push (Froz.sObj "set" (#[], 0, .fresh 0 0 (!w.params.followText "set-order"))) }) :
    codeAny (model P w) A (.call (.builtin "set.__new__") ⟨[.type "set", a], []⟩) (wants Q E) s := by
  refine codeAny_of_tree (wpAny_bind (wpAny_of_eq (F.newCall_set_1 a) (wpAny_pure ⟨plainId_quiet F.plain_set_new _, codeAny_builtin F.entry_set_new ?_⟩)))
  rw [Around.under_plainId F.plain_set_new _]
  unfold Builtin.«set.__new__» Builtin.Frozenset.newClass
  have sub := sub_set_self
  obtain ⟨hp, g, d, tk, os⟩ := s
  dsimp only
  wp_walk
  refine wpAny_askSetting (wpAny_pure ?_)
  dsimp only
  simp only [newObj]
  exact wpAny_bind (wpAny_alloc (wpAny_pure (wpAny_pure h)))
end
/-- at a stands a set of just the texts ys, at most n of them -/
def HasS (P : Program) (w : World) (h : Heap) (a : Addr) (ys : List Str) (n : Nat) : Prop := ∃ D l, h.get? a = some (Froz.sObj "set" D) ∧ WkS P w D l ∧ l.Nodup ∧ l.length ≤ n ∧ ∀ y, y ∈ l ↔ y ∈ ys
section
variable {p : Program} {w : World} {A : Around} {Z : Result → Shared → Prop} {it : Addr} {f g : List Addr} {Gs : Array GenState → Array GenState → Prop} {N : Nat} {Yv : Nat → Value → Prop} {Sv : Nat → Shared → Prop}
/-- a set that takes in texts, one after the other -/
theorem set_eats (Wk : WalksS p w A.in1 it f g Gs N Yv Sv) {a : Addr} (af : a ∉ f) {xs : List Str} (lx : xs.length = N) (few : N ≤ 1000) (val : ∀ j v, Yv j v → ∃ t, v = .str (xs.getD j Str.empty) t) :
    ∀ (m j : Nat) (s : Shared), N - j = m → j ≤ N → Sv j s → HasS p w s.heap a (xs.take j) j → (∀ z, Moved (a :: g) Gs s z → HasS p w z.heap a xs N → Z (.ok (.ret .none)) z) →
      codeAny (model p w) A (.builtin "set.update.loop" ⟨[.ref a, .ref it], []⟩) Z s := by
  have ag : a ∉ g := fun q => af (Wk.sub _ q)
  have wide : ∀ b ∈ g, b ∈ a :: g := fun b q => List.mem_cons_of_mem _ q
  have stays : ∀ {s z : Shared} {ys : List Str} {c : Nat}, Moved g Gs s z → HasS p w s.heap a ys c → HasS p w z.heap a ys c := fun mv q => by
    obtain ⟨D, l, ho, r⟩ := q
    exact ⟨D, l, mv.heap a _ ag ho, r⟩
  intro m
  induction m with
  | zero =>
    intro j s hm hj st se fin
    obtain rfl : j = N := by omega
    refine codeAny_builtin F.entry_set_update_loop (by
      rw [Around.under_plainId F.plain_set_update_loop _]
      refine wpAny_bind (Wk.done s _ _ st fun z mv => wpAny_pure (fin z (mv.mono wide) ?_))
      have q := stays mv se
      rwa [← lx, List.take_length, lx] at q)
  | succ m ih =>
    intro j s hm hj st se fin
    have jl : j < N := by omega
    have xj : xs[j]? = some (xs.getD j Str.empty) := by
      rw [List.getD_eq_getElem?_getD, List.getElem?_eq_getElem (by omega)]
      rfl
    have tk : xs.take (j + 1) = xs.take j ++ [xs.getD j Str.empty] := by rw [List.take_add_one, xj]; rfl
    refine codeAny_builtin F.entry_set_update_loop (by
      rw [Around.under_plainId F.plain_set_update_loop _]
      refine wpAny_bind (Wk.item j s _ _ jl st fun v z hv st2 mv => ?_)
      obtain ⟨t, rfl⟩ := val j v hv
      generalize xs.getD j Str.empty = x at xj tk
      obtain ⟨D, l, ho, wk, nd, le, me⟩ := stays mv se
      have go : ∀ (b : Bool) (h2 : Heap), (∀ b o, b ≠ a → z.heap.get? b = some o → h2.get? b = some o) → HasS p w h2 a (xs.take (j + 1)) (j + 1) →
          codeAny (model p w) A (.builtin "set.update.loop" ⟨[.ref a, .ref it], []⟩) Z { z with heap := h2, toks := z.toks + 1 } := fun b h2 kp hs =>
        ih (j + 1) _ (by omega) jl (Wk.frame _ z _ _ st2 (Nat.le_succ _) fun b hb o e => kp b o (fun q => af (q ▸ hb)) e) hs fun y mv2 se4 =>
          fin y (Moved.trans Wk.gtrans ((mv.mono wide).then_heap (Nat.le_succ _) fun b o hb e => kp b o (fun q => hb (q ▸ List.mem_cons_self)) e) mv2) se4
      refine wpAny_bind (wpAny_holding (by
        unfold setAdd
        refine wpAny_holding (wpAny_bind ((strKind p w).pyHash (k := x) (strKind_is _ _ _ _) ?_))
        by_cases hx : x ∈ l
        · refine dup_x (s := { z with toks := z.toks + 1 }) ho wk.ok hx (by unfold scanBound; omega) ?_
          refine wpAny_pure ⟨plainId_quiet F.plain_set_update_loop _, go false z.heap (fun _ _ _ e => e) ⟨D, l, ho, wk, nd, by omega, fun y => ?_⟩⟩
          rw [tk, List.mem_append, List.mem_singleton, ← me y]
          exact ⟨.inl, fun q => q.elim id fun e => e ▸ hx⟩
        · refine Froz.add_x (s := { z with toks := z.toks + 1 }) ho wk.ok hx (by unfold scanBound; omega) ?_
          refine wpAny_pure ⟨plainId_quiet F.plain_set_update_loop _, go true _ (fun b o hb e => (Heap.get?_update_other _ _ (Ne.symm hb)).trans e) ⟨_, x :: l, Froz.get_upd _ ho rfl, wk.add t, List.nodup_cons.mpr ⟨hx, nd⟩, by rw [List.length_cons]; omega, fun y => ?_⟩⟩
          rw [tk, List.mem_append, List.mem_singleton, ← me y, List.mem_cons]
          exact Or.comm)))
end
section
variable {p : Program} {w : World} {A : Around} {E : Value → Shared → Prop} {s : Shared}
set_option maxHeartbeats 3200000 in
/-- set(l) of a list of texts holds just these -/
theorem set_of_lst {l : Addr} {its : Array Value} {xs : List Str} {Q : Value → Shared → Prop} (hh : A.handled = none) (hl : s.heap.IsList l its) (hi : StrsAre its.toList xs) (few : xs.length ≤ 1000)
    (fin : ∀ (h' : Heap) (tk : Nat), HasS p w h' s.heap.objs.size xs xs.length → (∀ b o, b < s.heap.objs.size → s.heap.get? b = some o → h'.get? b = some o) → Q (.ref s.heap.objs.size) { s with heap := h', toks := tk }) :
    wpAny (model p w) A (call (.type "set") [.ref l]) Q E s := by
  have sz : its.size = xs.length := by rw [← Array.length_toList, StrsAre.len_eq hi]
  obtain ⟨c, tl, hmro⟩ := F.called_set.mro
  have m1 := F.called_set.made
  have m2 := F.called_set.sub
  refine wpAny_call (codeAny_of_tree (wpAny_pure ⟨Code.quiet_builtin _ (by decide +kernel), codeAny_builtin F.entry_type_call (by
    rw [Around.under_plain (weight_type_call_type "set" [.ref l] []) rfl]
    have m3 := F.called_set.notType
    have m4 := F.called_set.canCreate
    have m5 := F.typeCall_set_1 (.ref l)
    repeat (any_goals (first | assumption | wp_step))
    refine codeAny_mono (fresh_led (P := p) (w := w) (a := .ref l) (E := E) (Q := fun v z => v = .ref s.heap.objs.size ∧ z = { s with heap := s.heap.push (Froz.sObj "set" (#[], 0, .fresh 0 0 (!w.params.followText "set-order"))) }) ⟨rfl, rfl⟩) fun r z hr => ?_
    cases r with
    | error e => exact hr
    | ok fl =>
      cases fl with
      | next => exact hr.elim
      | brk => exact hr.elim
      | cont => exact hr.elim
      | ret v =>
        obtain ⟨rfl, rfl⟩ := hr
        generalize hled : (!w.params.followText "set-order") = led
        have hS : (s.heap.push (Froz.sObj "set" (#[], 0, .fresh 0 0 led))).get? s.heap.objs.size = some (Froz.sObj "set" (#[], 0, .fresh 0 0 led)) := Heap.get?_push_size _ rfl
        have hT : Shared.TypeIs { s with heap := s.heap.push (Froz.sObj "set" (#[], 0, .fresh 0 0 led)) } (.ref s.heap.objs.size) "set" := ⟨_, hS, rfl⟩
        have n1 := F.called_set.init.lookup
        have n2 := F.called_set.init.bind (.ref s.heap.objs.size)
        repeat (any_goals (first | assumption | wp_step))
        refine codeAny_mono (codeAny_call_builtin (R := wants (fun r z => r = .none ∧ ∃ h' tk, z = { s with heap := h', toks := tk } ∧ HasS p w h' s.heap.objs.size xs xs.length ∧ (∀ b o, b < s.heap.objs.size → s.heap.get? b = some o → h'.get? b = some o)) E) F.called_set.init.plain F.entry_set_init (check_set_init_1 hT ?_)) fun r2 z2 hr2 => ?_
        · obtain ⟨⟨tc, td, tdata, tsl⟩, ho, hc, tn, hd⟩ := hl
          simp only at hc hd
          subst hc hd
          have ho2 : (s.heap.push (Froz.sObj "set" (#[], 0, .fresh 0 0 led))).get? l = some { cls := .type "list", dict := td, data := .seq its tn, slots := tsl } := Heap.get?_push_of_some _ ho
          have q1 := F.sub_list_set
          have q2 := F.sub_list_frozenset
          have q3 : (Value.type "list" == Value.type "dict") = false := by decide
          have lis : (s.heap.push (Froz.sObj "set" (#[], 0, .fresh 0 0 led))).IsList l its := ⟨_, ho2, rfl, tn, rfl⟩
          have lS : l < s.heap.objs.size := Heap.lt_size ho
          have pz : (s.heap.push (Froz.sObj "set" (#[], 0, .fresh 0 0 led))).objs.size = s.heap.objs.size + 1 := Heap.size_push ..
          unfold Builtin.«set.__init__» noKeywords Builtin.Frozenset.updateFrom
          generalize hPI : pyIter = PI
          unfold Froz.sObj at *
          wp_walk
          subst hPI
          refine wpAny_pyIter_list lis (wpAny_bind (wpAny_runValue ?_))
          have hn3 : A.in1.in1.in1.handled = none := by simp [hh]
          have vals : ∀ (j : Nat) (v : Value), its[j]? = some v → ∃ t, v = .str (xs.getD j Str.empty) t := fun j v hv => SS.strs_at hi j v (by rw [Array.getElem?_toList]; exact hv)
          refine set_eats ((Walks.list hn3 _ l (by rw [Heap.size_push]; exact Nat.ne_of_lt (Nat.lt_succ_of_lt lS)) its).toS) (a := s.heap.objs.size) (by
            simp only [List.mem_cons, List.not_mem_nil, or_false, not_or]
            exact ⟨by rw [Heap.size_push]; exact (Nat.succ_ne_self _).symm, Nat.ne_of_gt lS⟩) sz.symm (by omega) vals (its.size - 0) 0 _ (by omega) (Nat.zero_le _) ⟨⟨_, Heap.get?_push_size _ rfl, rfl, rfl⟩, lis.push _⟩ ?_ ?_
          · refine ⟨(#[], 0, .fresh 0 0 led), [], Heap.get?_push_of_some _ hS, ⟨Froz.TxOk.nil rfl, fun e he => by simp at he, .nil, List.Pairwise.nil, ?_⟩, List.nodup_nil, Nat.zero_le _, fun y => by simp⟩
            show _ ∨ led = true
            rw [← hled]
            cases w.params.followText "set-order"
            · exact .inr rfl
            · exact .inl rfl
          · rintro ⟨h', g', d', tk', os'⟩ mv se
            obtain rfl : g' = s.gens := mv.gens
            obtain rfl : d' = s.drawn := mv.drawn
            obtain rfl : os' = s.os := mv.os
            refine wpAny_pure (wpAny_pure ⟨rfl, h', tk', rfl, by rw [← sz]; exact se, fun b o hb e => mv.heap b o ?_ (Heap.get?_push_of_some _ (Heap.get?_push_of_some _ e))⟩)
            simp only [List.mem_cons, List.not_mem_nil, or_false, not_or]
            exact ⟨Nat.ne_of_lt hb, by rw [Heap.size_push]; exact Nat.ne_of_lt (Nat.lt_succ_of_lt hb)⟩
        · cases r2 with
          | error e => exact hr2
          | ok f2 =>
            cases f2 with
            | next => exact hr2.elim
            | brk => exact hr2.elim
            | cont => exact hr2.elim
            | ret v =>
              obtain ⟨rfl, h', tk, rfl, se, kp⟩ := hr2
              repeat (any_goals (first | assumption | wp_step))
              exact fin _ _ se kp)⟩))
end
end K2
end
section
set_option Elab.async false
set_option maxRecDepth 100000
set_option linter.all false
namespace K2
open PySem PySem.Spec PyProof.Rows L2
section
variable {p : Program} {w : World} {A : Around} {E : Value → Shared → Prop} {s : Shared}
/-- sorted(a), a set of texts, fewer than 64 -/
theorem sorted_has {a : Addr} {xs : List Str} {n : Nat} {Q : Value → Shared → Prop} (S : HasS p w s.heap a xs n) (hh : A.handled = none) (h64 : n < 64)
    (fin : ∀ z q (out : Array Value) (c : Nat) (ys : List Str), (∀ b o, s.heap.get? b = some o → z.heap.get? b = some o) → z.gens = s.gens → z.os = s.os → s.heap.objs.size ≤ q →
      z.heap.get? q = some (seqObj "list" out c) → StrsAre out.toList ys → ys.Nodup → ys.length ≤ n → (∀ y, y ∈ ys ↔ y ∈ xs) → sortedS ys = true → Q (.ref q) z) :
    wpAny (model p w) A (call (.builtin "sorted") [.ref a]) Q E s := by
  obtain ⟨⟨es, ep, t⟩, l, ho, W, nd, le, me⟩ := S
  have few : es.size < scanBound := by
    have : es.size = l.length := W.ok.sz
    unfold scanBound
    omega
  refine Calls.call_function_entry kind_sorted plain_sorted entry_sorted (args_sorted1 _) (by
    unfold Builtin.«sorted»
    refine wpAny_bind (m := checkCount "sorted" 1 1 _) (wpAny_pure (wpAny_bind (collect_set (A := A.in1) hh ⟨_, ho, rfl, rfl⟩ W.ok.fit few W.rs W.ld fun z vs k1 hz g1 o1 pm => ?_)))
    have sv : StrsAre vs (vs.map strOf) := strsAre_map vs fun v hv => by
      obtain ⟨e, he, q⟩ := List.mem_map.mp (pm.mem_iff.mp hv)
      obtain ⟨u, hu⟩ := W.tx e he
      exact ⟨_, u, q.symm.trans hu⟩
    have pl : (vs.map strOf).Perm l := by
      have q := pm.map strOf
      rw [List.map_map] at q
      refine q.trans ((List.Perm.of_eq (List.map_congr_left fun e he => ?_)).trans W.pm)
      obtain ⟨u, hu⟩ := W.tx e he
      show strOf e.2 = sTxt e
      rw [hu]
      rfl
    have vl : vs.length = l.length := by rw [← pl.length_eq, List.length_map]
    refine wpAny_bind (wpAny_newList ?_ (by rw [vl, sizeLine_eq]; omega))
    have ol : (z.heap.push (seqObj "list" vs.toArray 0)).get? z.heap.objs.size = some (seqObj "list" vs.toArray 0) := Heap.get?_push_size _ rfl
    refine wpAny_bind (wpAny_holding (wpAny_call_entry slot_list_sort ⟨_, ol, rfl⟩ entry_list_sort (list_sort_treeKAny strKind_oneLt ol sv.keysOf (fun v1 v2 rest e => keyKind_strs (by rw [← e]; exact sv)) (by rw [vl, sizeLine_eq]; omega) fun st hp hs => ⟨_, rfl, ?_⟩) (args_list_sort _)))
    obtain ⟨ys, y1, y2, y3⟩ := sorted_out_str sv hp hs
    obtain ⟨c, hc⟩ := sortedHeap_at (vs := vs) (out := (arrOf st).map (·.2)) ol
    have py := y2.trans pl
    refine wpAny_pure ⟨_, rfl, fin _ z.heap.objs.size _ c ys (fun b u e => ?_) g1 o1 hz hc y1 (py.nodup_iff.mpr nd) (by rw [py.length_eq]; exact le) (fun y => (py.mem_iff).trans (me y)) y3⟩
    have lt := Heap.lt_size (k1 b u e)
    show (sortedHeap (z.heap.push (seqObj "list" vs.toArray 0)) z.heap.objs.size vs _).get? b = some u
    rw [sortedHeap_old (Nat.ne_of_lt lt) (by rw [size_push']; exact Nat.lt_succ_of_lt lt)]
    exact Heap.get?_push_of_some _ (k1 b u e))
end
end K2
end
section
set_option Elab.async false
set_option maxRecDepth 100000
set_option linter.all false
namespace K2
open PySem PySem.Spec PyProof.Rows L2
def tSortedSet (te : TE) : TE := fun σ H Q => te σ H fun x H1 => ∃ (l : Addr) (xs : List Str), x = .ref l ∧ H1 l = some (.lst (xs.map V.str)) ∧ xs.length < 64 ∧
  ∀ (ys : List Str) (q : Addr), ys.Nodup → ys.length ≤ xs.length → (∀ y, y ∈ ys ↔ y ∈ xs) → sortedS ys = true → H1 q = none → Q (.ref q) (upd H1 q (.lst (ys.map V.str)))
section
variable {X : Cx}
/-- sorted(set(l)), l a list of texts -/
theorem pe_sortedSet {a : Expr} {ta : TE} {p1 p2 p3 pos : Pos} (h1 : Gl X "sorted") (h2 : X.mg "sorted" = none) (h3 : Gl X "set") (h4 : X.mg "set" = none) (ha : PE X a ta) (hc : X.calm = true := by rfl)
    (na : starEach [a] X.env = (false, eval a X.env) :: starEach [] X.env := by rfl) (bs : bootBuiltins "sorted" = some (.builtin "sorted") := by decide +kernel) : PE X (.Call (.Name "sorted" p1) [.Call (.Name "set" p2) [a] [] p3] [] pos) (tSortedSet ta) := by
  refine ⟨fun pins s σ H Q I h => Call_ (ld_blt I h1 h2 bs (callWith_builtin1 (args_cons (Call_ (ld_blt I h3 h4 boot_set (callWith_type1 (args_cons (thn (ha.run pins s σ H _ I h) fun v s1 ⟨x, H1, I1, r1, q1⟩ => args_nil ?_) na) na rfl))) rfl) rfl rfl))⟩
  obtain ⟨l, xs, rfl, hl, few, q⟩ := q1
  cases r1
  obtain ⟨its, r, pl, _⟩ := I1.list (SqL.of hl)
  have hx : StrsAre its xs := by simpa using strsAre_of r
  refine set_of_lst (I1.ok.hd hc) pl.isList (by simpa using hx) (by omega) fun h' tk hS hk => args_nil ?_
  have I2 : Inv X pins σ H1 { s1 with heap := h', toks := tk } := I1.kept fun b o e => hk b o (Heap.lt_size e) e
  have hS2 : HasS X.prog X.w ({ s1 with heap := h', toks := tk } : Shared).heap s1.heap.objs.size xs xs.length := hS
  generalize ({ s1 with heap := h', toks := tk } : Shared) = s2 at I2 hS2 ⊢
  refine sorted_has hS2 (I1.ok.hd hc) few fun z p out c ys k g o hp hg hi nd le me so => ?_
  have hlen : (ys.map V.str).length ≤ sizeLine := by rw [List.length_map, sizeLine_eq]; omega
  have hn : H1 p = none := I2.hok.fresh hp
  have J : Inv X pins σ (upd H1 p (.lst (ys.map V.str))) { s2 with heap := z.heap, gens := z.gens, drawn := z.drawn, toks := z.toks } :=
    I2.call (ch := []) (Un.laid k hp hn) (I2.hok.laid k hp ⟨hlen, out.toList, c, vals_of_strs hi, hg⟩) (by rw [g]; exact I2.bare) (fun _ z => nomatch z)
  have e : z = { s2 with heap := z.heap, gens := z.gens, drawn := z.drawn, toks := z.toks } := by
    cases z
    cases s2
    cases o
    rfl
  rw [e]
  exact ⟨.ref p, _, J, rfl, q ys p nd le me so hn⟩
end
end K2
end
section
set_option Elab.async false
set_option maxRecDepth 100000
set_option linter.all false
namespace K2
open PySem L2 PySem.Spec PyProof.Rows
section
variable {X : Cx} {CX : CXT} {k : Nat} {f C : Addr} {fd : FuncData} {ps : List Str} {sp : Sp} {E : XK}
/-- a def called somewhere below -/
theorem run_at {A : Around} {pins : List (Addr × Obj)} {σ : L2.St} {H : Hp} {s : Shared} {Q : VK} {us : List Value} {vs : List V} (F : FnOk X.prog X.w X.K X.mg X.base CX k f fd ps sp) (hb : Binds X.K fd ps []) (hx : Passes CX X E) (sb : Sub X k A) (I : Inv X pins σ H s) (rv : Vals vs us) (hsp : sp vs H Q E) :
    wpAny (model X.prog X.w) A (call (.ref f) us) (EP X pins σ Q) X.xe s := by
  have e0 : Env0 X.prog X.w X.K X.mg X.base A X.stack s H := by
    have e := I.env0
    exact ⟨by rw [sb.fr]; exact e.frames, e.mod, e.bs, e.bsz, e.funs, e.frf, e.hok, e.bare⟩
  have hl : us.length = ps.length := by rw [← rv.length]; exact F.len _ _ _ _ hsp
  have b2 := hb s us I.kIn (by simpa using hl)
  rw [List.append_nil] at b2
  refine wpAny_call (codeAny_mono (F.run A X.stack s H ⟨us, []⟩ us vs Q E sb.room e0 b2 rv hsp) fun r s' hq => ?_)
  cases r with
  | error e => exact hx pins σ H s e s' I hq
  | ok fl =>
    cases fl with
    | ret w => exact I.after hq
    | next => exact False.elim hq
    | brk => exact False.elim hq
    | cont => exact False.elim hq
/-- len(o) -/
theorem call_lenO (F : FnOk X.prog X.w X.K X.mg X.base CX k f fd ps sp) (hb : Binds X.K fd ps []) (hx : Passes CX X E) (hr : Room (k + 1) X.A) (hs : PySem.W.findIn X.K (.ref C) "__len__" = some (some (.ref f))) (hf : PySem.W.isFn X.K (.ref f) = true) :
    CallR X (.builtin "len") (fun xs H Q => ∃ a dx fs, xs = [.ref a] ∧ H a = some (.ins C dx fs) ∧ sp [.ref a] H (fun v H' => ∃ n : Nat, v = .int n ∧ n < 1000000 ∧ Q (.int n) H') E) := by
  intro pins s σ H xs us Q I r h
  obtain ⟨a, dx, fs, rfl, ha, hsp⟩ := h
  obtain ⟨u, rfl, ru⟩ := r.one
  cases ru
  obtain ⟨mA, J, _⟩ := ins_get I.hok ha
  obtain ⟨od, J, _⟩ := J.look
  obtain ⟨m, hF⟩ := I.fr
  refine PySem.W.len_K hF I.ok.mod.kin J hs hf (wpAny_mono (run_at (vs := [.ref a]) F hb hx (Sub.in1 ⟨hr, rfl⟩) I (.cons rfl .nil) hsp) (fun v s' q => ?_) fun _ _ x => x)
  obtain ⟨x, H', I', rx, n, rfl, hn, q⟩ := q
  obtain ⟨t, rfl⟩ := rx
  exact ⟨⟨by omega, by omega⟩, .int n, H', I'.tok _, ⟨_, rfl⟩, q⟩
/-- x in o -/
theorem op_inO (F : FnOk X.prog X.w X.K X.mg X.base CX k f fd ps sp) (hb : Binds X.K fd ps []) (hx : Passes CX X E) (hr : Room k X.A) (hs : PySem.W.findIn X.K (.ref C) "__contains__" = some (some (.ref f))) (hf : PySem.W.isFn X.K (.ref f) = true) :
    OpR X (compareOp .In) (fun x y H Q => ∃ a dx fs, y = .ref a ∧ H a = some (.ins C dx fs) ∧ sp [.ref a, x] H (fun v H' => ∃ b, v = .bl b ∧ Q (.bl b) H') E) := by
  intro pins s σ H x y v u Q I rx ry h
  obtain ⟨a, dx, fs, rfl, ha, hsp⟩ := h
  cases ry
  obtain ⟨mA, J, _⟩ := ins_get I.hok ha
  obtain ⟨od, J, _⟩ := J.look
  obtain ⟨m, hF⟩ := I.fr
  refine PySem.W.in_K hF I.ok.mod.kin J hs hf (wpAny_mono (run_at (vs := [.ref a, x]) F hb hx ⟨hr, rfl⟩ I (.cons rfl (.cons rx .nil)) hsp) (fun r s' q => ?_) fun _ _ x => x)
  obtain ⟨z, H', I', rz, b, rfl, q⟩ := q
  cases rz
  exact wpAny_truthy_bool ⟨.bl b, H', I', rfl, q⟩
/-- the right side's type, not above the class -/
def RightT (K : PySem.W.Frag) (C : Addr) (H : Hp) (y : V) : Prop := ∃ t, TyX K H y t ∧ PySem.W.notFirst K C t = true
/-- o == y -/
theorem op_eqO (F : FnOk X.prog X.w X.K X.mg X.base CX k f fd ps sp) (hb : Binds X.K fd ps []) (hx : Passes CX X E) (hr : Room k X.A) (hu : X.A.units < cLine) (hs : PySem.W.findIn X.K (.ref C) "__eq__" = some (some (.ref f))) (hf : PySem.W.isFn X.K (.ref f) = true) :
    OpR X (compareOp .Eq) (fun x y H Q => ∃ a dx fs, x = .ref a ∧ H a = some (.ins C dx fs) ∧ RightT X.K C H y ∧ sp [.ref a, y] H (fun v H' => ∃ b, v = .bl b ∧ Q (.bl b) H') E) := by
  intro pins s σ H x y v u Q I rx ry h
  obtain ⟨a, dx, fs, rfl, ha, ⟨t, ty, hn⟩, hsp⟩ := h
  cases rx
  obtain ⟨mA, J, _⟩ := ins_get I.hok ha
  obtain ⟨od, J, _⟩ := J.look
  obtain ⟨m, hF⟩ := I.fr
  obtain ⟨Pz, Z, p, _⟩ := kit_of I ry ty
  show wpAny (model X.prog X.w) X.A (richCompare .Eq (.ref a) u) (EP X pins σ Q) X.xe s
  have lk : PySem.W.Looks (model X.prog X.w) s.heap (typeOf u) t := Z.ty _ _ I.kIn p
  refine PySem.W.cmp_K (op := .Eq) hu hF I.ok.mod.kin J lk hn hs hf (wpAny_mono (run_at (vs := [.ref a, y]) F hb hx ⟨hr, rfl⟩ I (.cons rfl (.cons ry .nil)) hsp) (fun r s' q => ?_) fun _ _ x => x)
  obtain ⟨z, H', I', rz, b, rfl, q⟩ := q
  cases rz
  exact ⟨.bl b, H', I', rfl, q⟩
/-! o != y: by object's own, which asks the class's == -/
theorem bound_ne {M : Model} {A : Around} {Er : Value → Shared → Prop} {s : Shared} {K : PySem.W.Frag} {x C : Addr} {ox : Obj} {od : Option Obj} {args : List Value} {Q : Option Value → Shared → Prop} (Y : K.In s.heap) (J : PySem.W.InstAt s.heap x ox C od)
    (hs : PySem.W.findIn K (.ref C) "__ne__" = some (some (.builtin "object.__ne__"))) (h : wpAny M A (call (.builtin "object.__ne__") (.ref x :: args)) (fun v => Q (some v)) Er s) : wpAny M A (callSpecialIfBound? (.ref x) "__ne__" args) Q Er s := by
  simp only [callSpecialIfBound?, bindSpecialIfBound?]
  refine wpAny_holding (wpAny_bind (wpAny_bind (wpAny_bind (J.type.here ((PySem.W.looks_findIn Y hs).here ?_)))))
  refine wpAny_bind (wpAny_askSetting (wpAny_ite ?_))
  have go : wpAny M A (call (.builtin "object.__ne__") ([.ref x] ++ args) >>= fun v => pure (some v)) Q Er s := wpAny_bind (wpAny_mono h (fun v s' q => wpAny_pure q) fun _ _ q => q)
  split
  · exact wpAny_bind (wpAny_of_eq (F.cmp_object.ne.bind _) (wpAny_pure (by exact go)))
  · exact wpAny_tryCatch (wpAny_bind (wpAny_of_eq (F.cmp_object.ne.bind _) (wpAny_pure (by exact go))))
theorem entry_ne {prog : Program} {w : World} {A : Around} {Er : Value → Shared → Prop} {s : Shared} {K : PySem.W.Frag} {x C f : Addr} {y : Value} {ox : Obj} {od : Option Obj} {Q : Fin → Shared → Prop} (Y : K.In s.heap) (J : PySem.W.InstAt s.heap x ox C od) (hu : A.units < cLine)
    (hs : PySem.W.findIn K (.ref C) "__eq__" = some (some (.ref f))) (hf : PySem.W.isFn K (.ref f) = true)
    (h : wpAny (model prog w) A (call (.ref f) [.ref x, y]) (fun v s' => ∃ b, v = .bool b ∧ Q (.done (.ret (.bool (!b)))) s') Er s) : wpAny (model prog w) A (Builtin.«object.__ne__» ⟨[.ref x, y], []⟩) Q Er s := by
  unfold Builtin.«object.__ne__»
  repeat (first
    | with_reducible refine wpAny_cRoomFor hu ?_
    | (refine wpAny_bind (m := callSpecialIfBound? (.ref x) (Str.ofString "__eq__") [y]) (PySem.W.ifBound_K Y J hs hf (wpAny_mono h (fun r s' hr => by
          obtain ⟨b, rfl, hq⟩ := hr
          repeat (first | exact hq | exact wpAny_pure hq | exact wpAny_truthy_bool hq | (refine wpAny_bind (m := truthy (.bool _)) (wpAny_truthy_bool ?_)) | wp_step)) fun _ _ e => e)))
    | wp_step)
theorem try_ne {prog : Program} {w : World} {A : Around} {Er : Value → Shared → Prop} {s : Shared} {K : PySem.W.Frag} {x C f : Addr} {y : Value} {ox : Obj} {od : Option Obj} {Q : Option Value → Shared → Prop} (Y : K.In s.heap) (J : PySem.W.InstAt s.heap x ox C od) (hu : A.units + 1 < cLine)
    (hn : PySem.W.findIn K (.ref C) "__ne__" = some (some (.builtin "object.__ne__"))) (hm : PySem.W.mroIn K C (.type "object") = some true) (hs : PySem.W.findIn K (.ref C) "__eq__" = some (some (.ref f))) (hf : PySem.W.isFn K (.ref f) = true)
    (h : wpAny (model prog w) A.in1 (call (.ref f) [.ref x, y]) (fun v s' => ∃ b, v = .bool b ∧ Q (some (.bool (!b))) s') Er s) : wpAny (model prog w) A (tryCompare (.ref x) "__ne__" y) Q Er s := by
  unfold tryCompare
  refine wpAny_bind (bound_ne Y J hn (wpAny_call (codeAny_call_builtin F.cmp_object.ne.plain F.cmpEntry_ne (PySem.W.check_slot F.cmpKind_ne F.cmpSplit_ne (J.type.andThen (PySem.W.looks_mroIn Y hm)) (F.cmpArgs_ne _ _)
    (entry_ne (A := A.in1) Y J hu hs hf (wpAny_mono h (fun v s' hv => ?_) fun _ _ e => e))))))
  obtain ⟨b, rfl, hq⟩ := hv
  exact ⟨b, rfl, wpAny_pure hq⟩
theorem op_neO (F : FnOk X.prog X.w X.K X.mg X.base CX k f fd ps sp) (hb : Binds X.K fd ps []) (hx : Passes CX X E) (hr : Room (k + 1) X.A) (hu : X.A.units + 1 < cLine) (hs : PySem.W.findIn X.K (.ref C) "__eq__" = some (some (.ref f))) (hf : PySem.W.isFn X.K (.ref f) = true)
    (hn : PySem.W.findIn X.K (.ref C) "__ne__" = some (some (.builtin "object.__ne__"))) (hm : PySem.W.mroIn X.K C (.type "object") = some true) :
    OpR X (compareOp .NotEq) (fun x y H Q => ∃ a b dx fs dy gs, x = .ref a ∧ y = .ref b ∧ H a = some (.ins C dx fs) ∧ H b = some (.ins C dy gs) ∧ sp [.ref a, .ref b] H (fun v H' => ∃ c, v = .bl c ∧ Q (.bl (!c)) H') E) := by
  intro pins s σ H x y v u Q I rx ry h
  obtain ⟨a, b, dx, fs, dy, gs, rfl, rfl, ha, hb2, hsp⟩ := h
  cases rx
  cases ry
  obtain ⟨mA, J, _⟩ := ins_get I.hok ha
  obtain ⟨od, J, _⟩ := J.look
  obtain ⟨mB, J2, _⟩ := ins_get I.hok hb2
  obtain ⟨od2, J2, _⟩ := J2.look
  have call := run_at (us := [.ref a, .ref b]) (vs := [.ref a, .ref b]) F hb hx (Sub.in1 ⟨hr, rfl⟩) I (.cons rfl (.cons rfl .nil)) hsp
  show wpAny (model X.prog X.w) X.A (richCompare .NotEq (.ref a) (.ref b)) (EP X pins σ Q) X.xe s
  unfold richCompare
  simp only [oneThing_ref]
  refine wpAny_holding (wpAny_bind (wpAny_cRoomFor (Nat.lt_of_succ_lt hu) ?_))
  rw [cmpInfo_NotEq]
  dsimp only
  refine wpAny_bind (J.type.here (wpAny_bind (J2.type.here ?_)))
  rw [show (Value.ref C != Value.ref C) = false from by simp]
  simp only [Bool.false_eq_true, if_false]
  refine wpAny_bind (wpAny_pure ?_)
  simp only [Bool.false_eq_true, if_false]
  refine wpAny_bind (try_ne I.kIn J hu hn hm hs hf (wpAny_mono call (fun r s' q => ?_) fun _ _ x => x))
  obtain ⟨z, H', I', rz, c, rfl, q⟩ := q
  cases rz
  exact ⟨c, rfl, wpAny_pure ⟨.bl (!c), H', I', rfl, q⟩⟩
end
end K2
end
section
set_option Elab.async false
set_option maxRecDepth 100000
set_option linter.all false
namespace K2
open PySem L2 PySem.Spec PyProof.Rows
/-- the staticmethod m of the class at C is the def at g -/
structure SMet (K : PySem.W.Frag) (C : Addr) (mc : Value) (m : Str) (p g : Addr) : Prop where
  at_ : PySem.W.findCls K (.ref C) mc m = some (.get (.builtin "staticmethod.__get__") (.ref p) .none (.ref C))
  rc : ∃ rest, PySem.W.recIn K p "staticmethod" = some (.ref g :: rest)
  kp : PySem.W.keepIn K (.ref g) = true
section
variable {X : Cx} {CX : CXT} {k : Nat} {f g C p : Addr} {mc : Value} {fd : FuncData} {ps ks : List Str} {sp : Sp} {E : XK} {m x : Str} {o e : Expr} {q pos apos nap : Pos} {ta te tk : TE} {tks : TA} {kws : List Keyword}
/-- C.m(), m a staticmethod -/
theorem pe_smeth0 {pl : Sem Bool} (he : PE X o ta) (r : ClX.CRead X.K C mc) (c : SMet X.K C mc m p g) (F : FnOk X.prog X.w X.K X.mg X.base CX k g fd [] sp) (hb : Binds X.K fd [] []) (hr : Room k X.A) (hx : Passes CX X E)
    (ht : eval (.Call (.Attribute o m apos) [] [] pos) X.env = (do
      let ov ← eval o X.env
      standAt apos.atName
      let (f, first) ← holding [ov] (getMethod ov m pl)
      callWith pos f first (backTo pos (starEach [] X.env)) (backToKw pos (keywordEach [] X.env))) := by rfl) : PE X (.Call (.Attribute o m apos) [] [] pos) (fun σ H Q => ta σ H fun z H1 => z = .ref C ∧ sp [] H1 Q E) := by
  constructor
  intro pins s σ H Q I h
  refine PySem.W.methodCall_KW (pl := pl) (thn (he.run pins s σ H _ I h) fun u s1 ⟨z, H1, I1, rz, ez, hs⟩ => ?_) ht
  subst ez
  obtain rfl : u = Value.ref C := rz
  obtain ⟨rest, hp⟩ := c.rc
  refine PySem.W.method_cls I1.kIn r.ga (PySem.W.cls_bind I1.kIn r.rd c.at_ (wpAny_call (PySem.W.sm_get (s := { s1 with toks := s1.toks + 1 }) I1.kIn hp (PySem.W.handed_on rfl ?_))))
  have I2 := I1.tok (s1.toks + 1)
  exact PySem.W.callWith_K0 (first := []) I2.kIn c.kp (run_at (us := []) (vs := []) F hb hx ⟨hr, rfl⟩ I2 .nil hs)
/-- x(), x a class whose __init__ takes any number of things -/
theorem pe_makeR0 (M : Mk X.K C f) (F : FnR X.prog X.w X.K X.mg X.base CX k f sp) (hr : Room (k + 1) X.A) (hg : Gl X x) (hm : X.mg x = some (.ref C)) (hx : Passes CX X E) (hdb : (x == ("__debug__" : Str)) = false := by decide) :
    PE X (.Call (.Name x nap) [] [] pos) (fun σ H Q => ∀ y dx, H y = none → H dx = none → dx ≠ y → sp [V.ref y] (upd (upd H dx (.own y)) y (.ins C dx [])) (fun v H2 => v = .non ∧ Q (.ref y) H2) E) := by
  constructor
  intro pins s σ H Q I h
  refine wpAny_Call_Name_kw (ld_glob I hg hm ?_ hdb)
  exact PySem.W.callWith_K0 (first := []) I.kIn M.kp (StX.run_makeR (us := []) (vs := []) M F hr hx I .nil h)
/-- x(*e) -/
theorem pe_makeSG (M : Mk X.K C f) (F : FnR X.prog X.w X.K X.mg X.base CX k f sp) (hr : Room (k + 1) X.A) (hg : Gl X x) (hm : X.mg x = some (.ref C)) (hx : Passes CX X E) (he : PE X e te) (hdb : (x == ("__debug__" : Str)) = false := by decide)
    (hst : starEach [.Starred e q] X.env = [(true, eval e X.env)] := by rfl) : PE X (.Call (.Name x nap) [.Starred e q] [] pos) (fun σ H Q => te σ H fun z H1 => ∃ a xs, z = .ref a ∧ (SqT X.K H1 a xs ∨ SqL X.K H1 a xs) ∧ ∀ y dx, H1 y = none → H1 dx = none → dx ≠ y →
      sp (V.ref y :: xs) (upd (upd H1 dx (.own y)) y (.ins C dx [])) (fun v H2 => v = .non ∧ Q (.ref y) H2) E) := by
  constructor
  intro pins s σ H Q I h
  refine wpAny_Call_Name_kw (ld_glob I hg hm ?_ hdb)
  refine PySem.W.callWith_S (h₀ := X.base) I.ok.mod.kin M.kp (thn (he.run pins s σ H _ I h) fun v s2 ⟨z, H2, I2, rz, a, xs, ez, hxs, h2⟩ => ?_) hst
  subst ez
  obtain rfl : v = Value.ref a := rz
  exact StX.star_any I2 hxs fun us s3 I3 rv => ⟨I3.kIn, StX.run_makeR M F hr hx I3 rv h2⟩
/-- o.m(), m takes any number of things -/
theorem pe_methR0 {pl : Sem Bool} (he : PE X o ta) (c : Cls X.K C) (hm : Meth X.K C m f) (F : FnR X.prog X.w X.K X.mg X.base CX k f sp) (hr : Room k X.A) (hx : Passes CX X E)
    (ht : eval (.Call (.Attribute o m apos) [] [] pos) X.env = (do
      let ov ← eval o X.env
      standAt apos.atName
      let (f, first) ← holding [ov] (getMethod ov m pl)
      callWith pos f first (backTo pos (starEach [] X.env)) (backToKw pos (keywordEach [] X.env))) := by rfl) : PE X (.Call (.Attribute o m apos) [] [] pos) (fun σ H Q => ta σ H fun z H1 => ∃ a dx fs, z = .ref a ∧ H1 a = some (.ins C dx fs) ∧ fs.lookup m = none ∧ sp [.ref a] H1 Q E) := by
  constructor
  intro pins s σ H Q I h
  refine PySem.W.methodCall_KW (pl := pl) (thn (he.run pins s σ H _ I h) fun u s1 ⟨z, H1, I1, rz, a, dx, fs, ez, ea, l, hs⟩ => ?_) ht
  subst ez
  obtain rfl : u = Value.ref a := rz
  exact getmeth_ok I1 ea c hm l (PySem.W.callWith_K0 (first := [.ref a]) I1.kIn hm.kp (wpAny_call (run_fnR (us := [.ref a]) (vs := [.ref a]) F hr hx I1 (.cons rfl .nil) hs)))
/-- C.m(k = v, ..), m a classmethod -/
theorem pe_cmethK {pl : Sem Bool} {gr : List Value → List Value → List Value} {gV : List V → List V → List V} (he : PE X o ta) (r : ClX.CRead X.K C mc) (c : ClX.CMet X.K C mc m p g) (F : FnOk X.prog X.w X.K X.mg X.base CX k g fd ps sp) (hr : Room k X.A) (hb : KBn X.K fd ps 1 ks gr gV) (hx : Passes CX X E) (hkw : PK X kws tks)
    (hall : (backToKw pos (keywordEach kws X.env)).all (·.1.isSome) = true := by rfl) (hks : (backToKw pos (keywordEach kws X.env)).filterMap (·.1) = ks := by rfl) (hpl : ((backTo pos (starEach [] X.env)).any (·.1) || (backToKw pos (keywordEach kws X.env)).any (·.1.isNone)) = false := by rfl)
    (ht : eval (.Call (.Attribute o m apos) [] kws pos) X.env = (do
      let ov ← eval o X.env
      standAt apos.atName
      let (f, first) ← holding [ov] (getMethod ov m pl)
      callWith pos f first (backTo pos (starEach [] X.env)) (backToKw pos (keywordEach kws X.env))) := by rfl) :
    PE X (.Call (.Attribute o m apos) [] kws pos) (fun σ H Q => ta σ H fun z H1 => z = .ref C ∧ tks σ H1 fun zs H2 => zs.length = ks.length ∧ sp (gV [.ref C] zs) H2 Q E) := by
  constructor
  intro pins s σ H Q I h
  refine PySem.W.methodCall_KW (pl := pl) (thn (he.run pins s σ H _ I h) fun u s1 ⟨z, H1, I1, rz, ez, hs⟩ => ?_) ht
  subst ez
  obtain rfl : u = Value.ref C := rz
  refine ClX.getmethcm_ok I1 r c fun s2 I2 => ?_
  refine PySem.W.callWith_of (P := PySem.W.MethP X.K s1.heap.objs.size g (.ref C)) hpl (PySem.W.keeps_M c.fi) (evalArgs_kw2_nil hall (thn (hkw.run pos _ s2 σ H1 _ I2 hs) fun ws s3 ⟨zs, H2, I3, rw', l2, q2⟩ => ⟨⟨ClX.pin_at I3, I3.kIn⟩, ?_⟩))
  rw [hks]
  have z : wpAny (model X.prog X.w) X.A (call (.ref s1.heap.objs.size) [] (ks.zip ws)) (EP X ((s1.heap.objs.size, PySem.W.methodObj (.ref g) (.ref C)) :: pins) σ Q) X.xe s3 := by
    refine wpAny_call (PySem.W.method_call (ClX.pin_at I3) (codeAny_mono (F.run X.A X.stack s3 H2 ⟨[.ref C], ks.zip ws⟩ (gr [.ref C] ws) (gV [.ref C] zs) Q E hr I3.env0 (hb.to s3 [.ref C] ws I3.kIn rfl (by rw [← l2, rw'.length])) (hb.rel (vs := [.ref C]) (us := [.ref C]) (.cons rfl .nil) rw') q2) fun y z hq => ?_))
    cases y with
    | error e => exact hx _ σ H2 s3 e z I3 hq
    | ok fl =>
      cases fl with
      | ret u => exact I3.after hq
      | next => exact hq.elim
      | brk => exact hq.elim
      | cont => exact hq.elim
  exact thn z fun _ _ y => ClX.unpinE y
end
end K2
end
section
set_option Elab.async false
set_option maxRecDepth 100000
set_option linter.all false
namespace K2
open PySem L2 PySem.Spec PyProof.Rows
theorem strs_dp (K : PySem.W.Frag) (H : Hp) : ∀ xs : List Str, DpAll K H (xs.map V.str) (xs.map PyData.str)
  | [] => .nil
  | x :: xs => .cons (.str x) (strs_dp K H xs)
def sOk (x : Str) : Bool := x.cps.all (· < 0x110000)
theorem strs_lay : ∀ xs : List Str, (∀ x ∈ xs, sOk x = true) → PyData.canLayAll0 (xs.map PyData.str) = true
  | [], _ => rfl
  | x :: xs, h => by
    show (sOk x && PyData.canLayAll0 (xs.map PyData.str)) = true
    rw [strs_lay xs fun y hy => h y (List.mem_cons_of_mem _ hy), h x List.mem_cons_self]
    rfl
theorem strs_depth : ∀ xs : List Str, PyData.depthAll (xs.map PyData.str) = 0
  | [] => rfl
  | x :: xs => by
    show max 0 (PyData.depthAll (xs.map PyData.str)) = 0
    rw [strs_depth xs]
    rfl
theorem strs_shaped (xs : List Str) (h : ∀ x ∈ xs, sOk x = true) : SeqAt.shaped (.list (xs.map PyData.str)) = true := by
  show (PyData.canLayAll0 (xs.map PyData.str) && decide (PyData.depthAll (xs.map PyData.str) + 1 ≤ 64)) = true
  rw [strs_lay xs h, strs_depth]
  rfl
theorem strs_eqv0 (xs : List Str) : PyData.eqv (.list (xs.map PyData.str)) (.list []) = decide (xs = []) := by
  cases xs with
  | nil => rfl
  | cons x xs => rfl
/-! ### repr of any data of the heap without dicts -/
def rReprD (K : PySem.W.Frag) : List V → Hp → VK → Prop := fun xs H Q => ∃ a d, xs = [V.ref a] ∧ Dp K H (.ref a) d ∧ d.showable = true ∧ d.hasDict = false ∧ d.depth ≤ 8 ∧ d.shown.length ≤ sizeLine ∧ Q (.str d.shown) H
section
variable {X : Cx}
theorem call_reprD (gu : X.A.guards = some []) (hu : X.A.units + 64 < cLine) : CallR X (.builtin "repr") (rReprD X.K) := by
  intro pins s σ H xs us Q I r h
  obtain ⟨a, d, rfl, hd, hs, hn, dp, hz, q⟩ := h
  obtain ⟨u, rfl, ru⟩ := r.one
  cases ru
  obtain ⟨as, rd⟩ := Dp.reads I d (V.ref a) (Value.ref a) hd rfl
  exact repr_of_reads' rd hs (fun z => by rw [hn] at z; cases z) gu (by omega) (fun b o e => e) (fun h' u tk hk => ⟨.str _, H, I.kept (t' := tk) hk, ⟨u, rfl⟩, q⟩) hz
end
/-- a tuple of texts -/
def tD (ys : List Str) : PyData := .tuple (ys.map PyData.str)
theorem strs_show : ∀ xs : List Str, PyData.showableAll (xs.map PyData.str) = true
  | [] => rfl
  | x :: xs => by
    show (true && PyData.showableAll (xs.map PyData.str)) = true
    rw [strs_show xs]
    rfl
theorem strs_nodict : ∀ xs : List Str, PyData.hasDictAll (xs.map PyData.str) = false
  | [] => rfl
  | x :: xs => by
    show (false || PyData.hasDictAll (xs.map PyData.str)) = false
    rw [strs_nodict xs]
    rfl
theorem strs_weight : ∀ xs : List Str, (∀ x ∈ xs, x.length ≤ 8) → PyData.weightAll (xs.map PyData.str) ≤ 9 * xs.length
  | [], _ => Nat.le_refl _
  | x :: xs, h => by
    have ih := strs_weight xs fun y hy => h y (List.mem_cons_of_mem _ hy)
    have hx : x.cps.size ≤ 8 := h x List.mem_cons_self
    show x.cps.size + 1 + PyData.weightAll (xs.map PyData.str) ≤ 9 * (xs.length + 1)
    omega
theorem tD_show (ys : List Str) : (tD ys).showable = true := strs_show ys
theorem tD_nodict (ys : List Str) : (tD ys).hasDict = false := strs_nodict ys
theorem tD_depth (ys : List Str) : (tD ys).depth = 1 := by
  show PyData.depthAll (ys.map PyData.str) + 1 = 1
  rw [strs_depth]
theorem tD_fits {ys : List Str} (ok : ∀ y ∈ ys, sOk y = true) (h8 : ∀ y ∈ ys, y.length ≤ 8) (hl : ys.length ≤ 40) : (tD ys).shown.length ≤ sizeLine := by
  refine PyData.shown_fits_of_layable0 (B := 13) (by decide) (by decide) ?_ (PyData.intsShortAll_strs 13 ys)
  have w := strs_weight ys h8
  have q : PyData.weight (tD ys) = PyData.weightAll (ys.map PyData.str) := rfl
  show (PyData.canLayAll0 (ys.map PyData.str) && decide (PyData.depth (tD ys) ≤ 64) && decide (PyData.weight (tD ys) ≤ 2 ^ 20)) = true
  rw [strs_lay ys ok, tD_depth, q]
  simp only [Bool.true_and, Bool.and_eq_true, decide_eq_true_eq]
  omega
/-! rows shown -/
def rowsD (rs : List Row) : PyData := .tuple (rs.map fun r => tD (r.1 :: r.2))
theorem rows_dp (K : PySem.W.Frag) {H : Hp} : ∀ (rs : List Row) (ts : List Addr), RowsAt H ts rs → DpAll K H (ts.map V.ref) (rs.map fun r => tD (r.1 :: r.2))
  | [], [], _ => .nil
  | [], _ :: _, h => absurd h.1 (by simp)
  | _ :: _, [], h => absurd h.1 (by simp)
  | r :: rs, t :: ts, h => .cons (.tup (SqT.of (h.2 0 t r rfl rfl)) (strs_dp K H (r.1 :: r.2))) (rows_dp K rs ts ⟨by have := h.1; simpa using this, fun i u q a b => h.2 (i + 1) u q a b⟩)
theorem rows_show : ∀ rs : List Row, PyData.showableAll (rs.map fun r => tD (r.1 :: r.2)) = true
  | [] => rfl
  | r :: rs => by
    show (PyData.showable (tD (r.1 :: r.2)) && PyData.showableAll (rs.map fun r => tD (r.1 :: r.2))) = true
    rw [tD_show, rows_show rs]
    rfl
theorem rows_nodict : ∀ rs : List Row, PyData.hasDictAll (rs.map fun r => tD (r.1 :: r.2)) = false
  | [] => rfl
  | r :: rs => by
    show (PyData.hasDict (tD (r.1 :: r.2)) || PyData.hasDictAll (rs.map fun r => tD (r.1 :: r.2))) = false
    rw [tD_nodict, rows_nodict rs]
    rfl
theorem rows_depth : ∀ rs : List Row, PyData.depthAll (rs.map fun r => tD (r.1 :: r.2)) ≤ 1
  | [] => Nat.zero_le _
  | r :: rs => by
    show max (PyData.depth (tD (r.1 :: r.2))) (PyData.depthAll (rs.map fun r => tD (r.1 :: r.2))) ≤ 1
    rw [tD_depth]
    exact Nat.max_le.mpr ⟨Nat.le_refl _, rows_depth rs⟩
structure RowFit (r : Row) : Prop where
  ok : ∀ y ∈ r.1 :: r.2, sOk y = true
  h8 : ∀ y ∈ r.1 :: r.2, y.length ≤ 8
  len : (r.1 :: r.2).length ≤ 40
theorem rows_lay : ∀ rs : List Row, (∀ r ∈ rs, RowFit r) → PyData.canLayAll0 (rs.map fun r => tD (r.1 :: r.2)) = true
  | [], _ => rfl
  | r :: rs, h => by
    have q : PyData.canLay0 (tD (r.1 :: r.2)) = true := strs_lay _ (h r List.mem_cons_self).ok
    show (PyData.canLay0 (tD (r.1 :: r.2)) && PyData.canLayAll0 (rs.map fun r => tD (r.1 :: r.2))) = true
    rw [q, rows_lay rs fun y hy => h y (List.mem_cons_of_mem _ hy)]
    rfl
theorem rows_short : ∀ rs : List Row, PyData.intsShortAll 13 (rs.map fun r => tD (r.1 :: r.2)) = true
  | [] => rfl
  | r :: rs => by
    have q : PyData.intsShort 13 (tD (r.1 :: r.2)) = true := PyData.intsShortAll_strs 13 (r.1 :: r.2)
    show (PyData.intsShort 13 (tD (r.1 :: r.2)) && PyData.intsShortAll 13 (rs.map fun r => tD (r.1 :: r.2))) = true
    rw [q, rows_short rs]
    rfl
theorem rows_weight : ∀ rs : List Row, (∀ r ∈ rs, RowFit r) → PyData.weightAll (rs.map fun r => tD (r.1 :: r.2)) ≤ 361 * rs.length
  | [], _ => Nat.le_refl _
  | r :: rs, h => by
    have R := h r List.mem_cons_self
    have w := strs_weight (r.1 :: r.2) R.h8
    have l := R.len
    have ih := rows_weight rs fun y hy => h y (List.mem_cons_of_mem _ hy)
    show PyData.weightAll ((r.1 :: r.2).map PyData.str) + 1 + PyData.weightAll (rs.map fun r => tD (r.1 :: r.2)) ≤ 361 * (rs.length + 1)
    omega
theorem rowsD_show (rs : List Row) : (rowsD rs).showable = true := rows_show rs
theorem rowsD_nodict (rs : List Row) : (rowsD rs).hasDict = false := rows_nodict rs
theorem rowsD_depth (rs : List Row) : (rowsD rs).depth ≤ 2 := by
  have := rows_depth rs
  show PyData.depthAll (rs.map fun r => tD (r.1 :: r.2)) + 1 ≤ 2
  omega
theorem rowsD_fits {rs : List Row} (h : ∀ r ∈ rs, RowFit r) (hl : rs.length ≤ 40) : (rowsD rs).shown.length ≤ sizeLine := by
  refine PyData.shown_fits_of_layable0 (B := 13) (by decide) (by decide) ?_ (rows_short rs)
  have w := rows_weight rs h
  have d := rowsD_depth rs
  have q : PyData.weight (rowsD rs) = PyData.weightAll (rs.map fun r => tD (r.1 :: r.2)) := rfl
  show (PyData.canLayAll0 (rs.map fun r => tD (r.1 :: r.2)) && decide (PyData.depth (rowsD rs) ≤ 64) && decide (PyData.weight (rowsD rs) ≤ 2 ^ 20)) = true
  rw [rows_lay rs h, q]
  simp only [Bool.true_and, Bool.and_eq_true, decide_eq_true_eq]
  omega
theorem vw_ok {x : Str} (h : VW x) : sOk x = true ∧ x.length ≤ 8 := by
  have l := h.le
  refine ⟨?_, l⟩
  have q := h.low
  unfold sOk
  rw [Array.all_eq_true]
  intro i hi
  have := q x.cps[i] (by
    show x.cps[i] ∈ x.cps.toList
    exact Array.getElem_mem_toList hi)
  simp only [decide_eq_true_eq]
  omega
theorem Good.fit {rs : List Row} (g : Good rs) (h30 : rs.length ≤ 30) : ∀ r ∈ rs, RowFit r := by
  intro r hr
  obtain ⟨i, hi⟩ := List.getElem?_of_mem hr
  have R := g i r hi
  have il : i < rs.length := (List.getElem?_eq_some_iff.mp hi).1
  have vw : ∀ y ∈ r.1 :: r.2, VW y := fun y hy => by
    rcases List.mem_cons.mp hy with rfl | hy
    · exact R.vw
    · exact g.vw_known i y (R.sub y hy)
  refine ⟨fun y hy => (vw_ok (vw y hy)).1, fun y hy => (vw_ok (vw y hy)).2, ?_⟩
  have := R.nd.length_le_of_subset R.sub
  rw [knownAt_len (Nat.le_of_lt il)] at this
  rw [List.length_cons]
  omega
theorem RowsAt.left {H : Hp} {ts1 ts2 : List Addr} {rs1 rs2 : List Row} (h : RowsAt H (ts1 ++ ts2) (rs1 ++ rs2)) (e : ts1.length = rs1.length) : RowsAt H ts1 rs1 := by
  refine ⟨e, fun i t r a b => ?_⟩
  have i1 := (List.getElem?_eq_some_iff.mp a).1
  have i2 := (List.getElem?_eq_some_iff.mp b).1
  exact h.2 i t r (by rw [List.getElem?_append_left i1]; exact a) (by rw [List.getElem?_append_left i2]; exact b)
theorem refs_ne_pen {ts : List Addr} {c : Addr} {a l : Int} : HO.lst (ts.map V.ref) ≠ penO c a l := by
  unfold penO
  intro e
  injection e with e
  match ts, e with
  | [], e => simp at e
  | [_], e => simp at e
  | _ :: _ :: _, e => simp at e
theorem Pen.refs_ne {H : Hp} {p c q : Addr} {ns : List Int} {n : Nat} {ts : List Addr} (h : Pen H p c ns n) (hq : H q = some (.lst (ts.map V.ref))) : q ≠ p := fun e => by
  obtain ⟨a, l, g, _⟩ := h.pen
  rw [e, g] at hq
  exact refs_ne_pen (Option.some.inj hq).symm
theorem tD_eqv (x : Str) : PyData.eqv (tD [x]) (tD [x]) = true := by
  show ((x == x) && true) = true
  simp
theorem tD_shaped (xs : List Str) (h : ∀ x ∈ xs, sOk x = true) : SeqAt.shaped (tD xs) = true := by
  show (PyData.canLayAll0 (xs.map PyData.str) && decide (PyData.depthAll (xs.map PyData.str) + 1 ≤ 64)) = true
  rw [strs_lay xs h, strs_depth]
  rfl
theorem any_filter {α : Type} (p : α → Bool) : ∀ l : List α, (!decide (l.filter p = [])) = l.any p
  | [] => rfl
  | x :: l => by
    rw [List.filter_cons, List.any_cons]
    cases h : p x with
    | true => simp
    | false => simpa using any_filter p l
theorem op_neDK {X : Cx} {K' : PySem.W.Frag} (hK : X.K = K') (hu : X.A.units + 64 < cLine) : OpR X (compareOp .NotEq) (rNeD K') := by
  subst hK
  exact op_neD hu
theorem call_reprBl {X : Cx} : CallR X (.builtin "repr") (fun xs H Q => ∃ b, xs = [V.bl b] ∧ Q (.str (if b then "True" else "False")) H) := by
  intro pins s σ H xs us Q I r h
  obtain ⟨b, rfl, q⟩ := h
  obtain ⟨u, rfl, ru⟩ := r.one
  obtain rfl : u = Value.bool b := ru
  exact PySem.P.repr_of_bool ⟨.str _, H, I.tok _, ⟨_, rfl⟩, q⟩
theorem pe_fldK {X : Cx} {K' : PySem.W.Frag} {e : Expr} {f : Str} {pos : Pos} {ta : TE} (hK : X.K = K') (he : PE X e ta) (hb : attributeBase e f X.env (eval e X.env) = eval e X.env) : PE X (.Attribute e f pos) (tFld K' ta f) := by
  subst hK
  exact pe_fld he hb
theorem strs_eqv : ∀ xs ys : List Str, PyData.eqvAll (xs.map PyData.str) (ys.map PyData.str) = decide (xs = ys)
  | [], [] => rfl
  | [], _ :: _ => rfl
  | _ :: _, [] => rfl
  | x :: xs, y :: ys => by
    show ((x == y) && PyData.eqvAll (xs.map PyData.str) (ys.map PyData.str)) = decide (x :: xs = y :: ys)
    rw [strs_eqv xs ys, Bool.eq_iff_iff]
    simp
theorem rows_eqv : ∀ rs qs : List Row, PyData.eqvAll (rs.map fun r => tD (r.1 :: r.2)) (qs.map fun r => tD (r.1 :: r.2)) = decide (rs = qs)
  | [], [] => rfl
  | [], _ :: _ => rfl
  | _ :: _, [] => rfl
  | r :: rs, q :: qs => by
    show (PyData.eqvAll ((r.1 :: r.2).map PyData.str) ((q.1 :: q.2).map PyData.str) && PyData.eqvAll (rs.map fun r => tD (r.1 :: r.2)) (qs.map fun r => tD (r.1 :: r.2))) = decide (r :: rs = q :: qs)
    rw [strs_eqv, rows_eqv rs qs, Bool.eq_iff_iff]
    obtain ⟨a, as⟩ := r
    obtain ⟨b, bs⟩ := q
    simp
theorem rowsD_eqv (rs qs : List Row) : PyData.eqv (rowsD rs) (rowsD qs) = decide (rs = qs) := rows_eqv rs qs
theorem rowsD_shaped {rs : List Row} (h : ∀ r ∈ rs, RowFit r) : SeqAt.shaped (rowsD rs) = true := by
  have d := rowsD_depth rs
  show (PyData.canLayAll0 (rs.map fun r => tD (r.1 :: r.2)) && decide (PyData.depth (rowsD rs) ≤ 64)) = true
  rw [rows_lay rs h]
  simp only [Bool.true_and, decide_eq_true_eq]
  omega
end K2
end
section
set_option Elab.async false
set_option maxRecDepth 100000
set_option linter.all false
namespace K2
open PySem L2 PySem.Spec PyProof.Rows
/-! ### sorted of a list of tuples of texts -/
def tk (xs : List Str) : List (Int ⊕ List Nat) := xs.map fun x => Sum.inr x.cps.toList
theorem tk_inj : ∀ {xs ys : List Str}, tk xs = tk ys → xs = ys
  | [], [], _ => rfl
  | [], _ :: _, h => by simp [tk] at h
  | _ :: _, [], h => by simp [tk] at h
  | x :: xs, y :: ys, h => by
    simp only [tk, List.map_cons, List.cons.injEq] at h
    obtain ⟨h1, h2⟩ := h
    have e1 : x = y := by
      cases x with
      | mk a =>
        cases y with
        | mk b =>
          have : a.toList = b.toList := Sum.inr.inj h1
          rw [show a = b from Array.ext' this]
    rw [e1, tk_inj (xs := xs) (ys := ys) h2]
/-- not behind: xs may stand ahead of ys -/
def tle (xs ys : List Str) : Prop := lexLt itemOrd (tk ys) (tk xs) = false
theorem tle_anti {xs ys : List Str} (h1 : tle xs ys) (h2 : tle ys xs) : xs = ys := tk_inj (lex_total (O := itemOrd) _ _ h2 h1)
/-- two ascending rows of the same are one -/
theorem asc_one : ∀ {as bs : List (List Str)}, as.Perm bs → as.Pairwise tle → bs.Pairwise tle → as = bs
  | [], bs, p, _, _ => (List.nil_perm.mp p).symm
  | a :: as, [], p, _, _ => absurd p.length_eq (by simp)
  | a :: as, b :: bs, p, h1, h2 => by
    obtain ⟨a1, a2⟩ := List.pairwise_cons.mp h1
    obtain ⟨b1, b2⟩ := List.pairwise_cons.mp h2
    have e : a = b := by
      rcases List.mem_cons.mp (p.mem_iff.mp (List.mem_cons_self : a ∈ a :: as)) with e | ha
      · exact e
      · rcases List.mem_cons.mp (p.mem_iff.mpr (List.mem_cons_self : b ∈ b :: bs)) with e | hb
        · exact e.symm
        · exact tle_anti (a1 b hb) (b1 a ha)
    subst e
    rw [asc_one p.cons_inv a2 b2]
/-- the texts of the tuple at b -/
def strsAt (H : Hp) (b : Addr) : List Str := match H b with
  | some (.tup vs) => vs.filterMap fun v => match v with | .str x => some x | _ => none
  | _ => []
theorem strsAt_of {H : Hp} {b : Addr} {xs : List Str} (h : H b = some (.tup (xs.map V.str))) : strsAt H b = xs := by
  unfold strsAt
  rw [h]
  show List.filterMap _ (xs.map V.str) = xs
  rw [List.filterMap_map]
  induction xs with
  | nil => rfl
  | cons x xs ih => 
    rw [List.filterMap_cons]
    show x :: _ = _
    rw [show List.filterMap _ xs = xs from ?_]
    clear h ih
    induction xs with
    | nil => rfl
    | cons y ys ih => 
      rw [List.filterMap_cons]
      show y :: _ = _
      rw [ih]
def rSortedTS (K : PySem.W.Frag) : List V → Hp → VK → Prop := fun vs H Q => ∃ (a : Addr) (as : List Addr), vs = [V.ref a] ∧ SqL K H a (as.map V.ref) ∧ (∀ b ∈ as, ∃ xs : List Str, xs ≠ [] ∧ H b = some (.tup (xs.map V.str))) ∧
  ∀ (bs : List Addr) (p : Addr), bs.Perm as → (bs.map (strsAt H)).Pairwise tle → H p = none → Q (.ref p) (upd H p (.lst (bs.map V.ref)))
section
variable {X : Cx} {pins : List (Addr × Obj)} {σ : L2.St} {H : Hp} {s : Shared}
theorem items_strs : ∀ (xs : List Str) (its : List Value) (i : Nat), Vals (xs.map V.str) its → tupItems (fun _ => true) i its = some (tk xs)
  | [], _, _, r => by cases r; rfl
  | x :: xs, _, i, r => by
    cases r with
    | @cons _ u _ us r1 r2 =>
      obtain ⟨t, rfl⟩ : ∃ t, u = Value.str x t := r1
      show (if true = true then (tupItems (fun _ => true) (i + 1) us).map (Sum.inr x.cps.toList :: ·) else none) = _
      rw [if_pos rfl, items_strs xs us (i + 1) r2]
      rfl
theorem key_at (I : Inv X pins σ H s) {b : Addr} {xs : List Str} (h : H b = some (.tup (xs.map V.str))) : G.tupKeyC s.heap (fun _ => true) (.ref b) = some (tk xs) ∧ (xs ≠ [] → ∃ f, TupOf s.heap (fun _ => true) (.ref b) f) := by
  obtain ⟨its, rv, ⟨o, ho, hc, n, hd⟩, _⟩ := I.tuple (SqT.of (K := X.K) h)
  have e := items_strs xs its 0 rv
  refine ⟨?_, fun hne => ?_⟩
  · unfold G.tupKeyC
    have e1 : G.isTupObj s.heap (.ref b) = true := by simp [G.isTupObj, ho, hc]
    rw [if_pos e1]
    simp only [tupKey, ho, hd]
    exact e
  · cases xs with
    | nil => exact absurd rfl hne
    | cons x xs =>
      cases rv with
      | @cons _ u _ us r1 r2 =>
        obtain ⟨t, rfl⟩ : ∃ t, u = Value.str x t := r1
        exact ⟨.str x t, b, o, _, n, rfl, ho, hc, hd, rfl, fun h => absurd h (by decide), fun _ => ⟨x, t, rfl⟩⟩
theorem tups_of (I : Inv X pins σ H s) : ∀ (as : List Addr), (∀ b ∈ as, ∃ xs : List Str, xs ≠ [] ∧ H b = some (.tup (xs.map V.str))) → ∃ fs, TupsOf s.heap (fun _ => true) (as.map Value.ref) fs
  | [], _ => ⟨[], .nil⟩
  | b :: as, h => by
    obtain ⟨fs, t⟩ := tups_of I as fun c hc => h c (List.mem_cons_of_mem _ hc)
    obtain ⟨xs, hne, hb⟩ := h b List.mem_cons_self
    obtain ⟨f, hf⟩ := (key_at I hb).2 hne
    exact ⟨f :: fs, .cons hf t⟩
theorem vals_refs : ∀ {as : List Addr} {us : List Value}, Vals (as.map V.ref) us → us = as.map Value.ref
  | [], _, r => by cases r; rfl
  | a :: as, _, r => by
    cases r with
    | @cons _ u _ us r1 r2 =>
      obtain rfl : u = Value.ref a := r1
      rw [List.map_cons, vals_refs r2]
theorem refs_vals : ∀ (as : List Addr), Vals (as.map V.ref) (as.map Value.ref)
  | [] => .nil
  | a :: as => .cons (show RelV (.ref a) (.ref a) from rfl) (refs_vals as)
theorem map_refs : ∀ (us : List Value) (as : List Addr), us.Perm (as.map Value.ref) → ∃ bs : List Addr, us = bs.map Value.ref ∧ bs.Perm as := by
  intro us as p
  have h : ∀ u ∈ us, ∃ b, u = Value.ref b := fun u hu => by
    obtain ⟨b, _, e⟩ := List.mem_map.mp (p.mem_iff.mp hu)
    exact ⟨b, e.symm⟩
  obtain ⟨bs, e⟩ : ∃ bs : List Addr, us = bs.map Value.ref := by
    clear p
    induction us with
    | nil => exact ⟨[], rfl⟩
    | cons u us ih =>
      obtain ⟨b, rfl⟩ := h u List.mem_cons_self
      obtain ⟨bs, e⟩ := ih fun v hv => h v (List.mem_cons_of_mem _ hv)
      exact ⟨b :: bs, by rw [e]; rfl⟩
  refine ⟨bs, e, ?_⟩
  rw [e] at p
  have q := p.map fun v => match v with | Value.ref b => b | _ => 0
  rw [List.map_map, List.map_map] at q
  have i : ∀ l : List Addr, List.map ((fun v => match v with | Value.ref b => b | _ => 0) ∘ Value.ref) l = l := fun l => by
    induction l with
    | nil => rfl
    | cons x l ih => rw [List.map_cons, ih]; rfl
  rw [i, i] at q
  exact q
theorem cr_sortedTS : CallR X (.builtin "sorted") (rSortedTS X.K) := by
  intro pins s σ H vs us Q I r h
  obtain ⟨a, as, rfl, hs, hx, q⟩ := h
  obtain ⟨its, rv, hl, hz⟩ := I.list hs
  rw [Vals.ref1 r]
  have ei := vals_refs rv
  rw [List.length_map] at hz
  obtain ⟨fs, ht⟩ := tups_of I as hx
  have kat : ∀ b ∈ as, G.tupKeyC s.heap (fun _ => true) (.ref b) = some (tk (strsAt H b)) := fun b hb => by
    obtain ⟨xs, _, e⟩ := hx b hb
    rw [strsAt_of e]
    exact (key_at I e).1
  refine G.sorted_tups (shape := fun _ => true) (fs := fs) hl.isList (by rw [ei]; exact ht) (fun v hv => ?_) (by rw [ei, List.length_map]; exact hz) fun st h1 h2 _ => ?_
  · rw [ei] at hv
    obtain ⟨b, hb, rfl⟩ := List.mem_map.mp hv
    exact ⟨_, kat b hb⟩
  · have p1 : ((arrOf st).toList).Perm (its.zip its) := by
      rw [← pairsOf_toList]
      exact Array.perm_iff_toList_perm.mp h1
    have p2 : ((arrOf st).toList.map Prod.snd).Perm (as.map Value.ref) := by
      have z := p1.map Prod.snd
      rw [List.map_snd_zip (Nat.le_refl _), ei] at z
      exact z
    obtain ⟨bs, eb, pb⟩ := map_refs _ _ p2
    have ms : ∀ p ∈ (arrOf st).toList, p.1 = p.2 := fun p hp => (mem_zip_self (p1.mem_iff.mp hp)).1
    have ez : (arrOf st).size = (pairsOf its).size := h1.size_eq
    obtain ⟨ep, he'⟩ := PyProof.Rows.sortedAll_at s.heap its ((arrOf st).map (·.2))
    have hlen : (bs.map V.ref).length ≤ sizeLine := by rw [List.length_map, pb.length_eq]; exact hz
    refine ⟨.ref _, upd H (s.heap.objs.size + 1) (.lst (bs.map V.ref)), I.laid (t' := s.toks) (fun _ _ => PyProof.Rows.sortedAll_old) (Nat.le_succ _) ⟨hlen, bs.map Value.ref, ep, refs_vals bs, ?_⟩, rfl, q bs _ pb ?_ (I.hok.fresh (Nat.le_succ _))⟩
    · have e2 : (arrOf st).map (·.2) = (bs.map Value.ref).toArray := by
        apply Array.ext'
        rw [Array.toList_map, ← eb]
      rw [← e2]
      exact he'
    · rw [List.pairwise_iff_getElem]
      intro i j hi hj hij
      rw [List.length_map] at hi hj
      have hlb : bs.length = (arrOf st).size := by
        have := congrArg List.length eb
        rw [List.length_map, List.length_map, Array.length_toList] at this
        exact this.symm
      have key : ∀ i (h : i < bs.length), KK (G.tupKindC s.heap fun _ => true) (arrOf st) i = tk (strsAt H bs[i]) := fun i h => by
        have hi2 : i < (arrOf st).size := by omega
        have e0 : (arrOf st)[i]? = some (arrOf st)[i] := Array.getElem?_eq_getElem hi2
        have e1 : ((arrOf st).toList.map Prod.snd)[i]? = (bs.map Value.ref)[i]? := by rw [eb]
        have e3 : (arrOf st)[i].2 = Value.ref bs[i] := by
          rw [List.getElem?_map, List.getElem?_map, Array.getElem?_toList, e0, List.getElem?_eq_getElem h] at e1
          exact Option.some.inj e1
        have e4 : (arrOf st)[i].1 = Value.ref bs[i] := by
          rw [ms _ (by rw [Array.mem_toList_iff]; exact Array.getElem_mem hi2)]
          exact e3
        unfold KK
        rw [e0]
        show ((G.tupKindC s.heap fun _ => true).keyOf (arrOf st)[i].1).getD _ = _
        rw [e4]
        show (G.tupKeyC s.heap (fun _ => true) (.ref bs[i])).getD _ = _
        rw [kat _ (pb.mem_iff.mp (List.getElem_mem h))]
        rfl
      have z := h2 i j (Nat.le_of_lt hij) (by rw [← ez]; omega)
      rw [key i hi, key j hj] at z
      rw [List.getElem_map, List.getElem_map]
      exact z
end
end K2
end
section
set_option Elab.async false
set_option maxRecDepth 100000
set_option linter.all false
namespace K2
open PySem L2 PySem.Spec PyProof.Rows
section
variable {prog : Program} {w : World} {A : Around} {E : Value → Shared → Prop} {s : Shared}
theorem collect_tup {l : Addr} {vs : List Value} {Q : List Value → Shared → Prop} (hl : IsTup s.heap l vs.toArray)
    (h : Q vs { s with heap := (s.heap.push (seqObj "list" #[] 0)).update s.heap.objs.size (Obj.mapSeq (· ++ vs.toArray)) }) (hsz : vs.length ≤ sizeLine := by size_fits) :
    wpAny (model prog w) A (collect (.ref l)) Q E s := by
  obtain ⟨o, ho, hc, n, hd⟩ := id hl
  unfold collect
  refine wpAny_bind (wpAny_runValue (codeAny_builtin entry_proto_collect' ?_))
  show wpAny _ _ (do again (.builtin "list.__iadd__" ⟨[← newList [], .ref l], []⟩)) _ _ s
  refine wpAny_bind (wpAny_newList (wpAny_pure ⟨Code.quiet_builtin _ (by decide +kernel), codeAny_builtin entry_list_iadd' ?_⟩))
  show wpAny _ _ (Builtin.List.listExtendWith (.ref s.heap.objs.size) (.ref l) (.ref s.heap.objs.size)) _ _ { s with heap := s.heap.push (seqObj "list" #[] 0) }
  unfold Builtin.List.listExtendWith
  have ho' : (s.heap.push (seqObj "list" #[] 0)).get? l = some o := Heap.get?_push_of_some _ ho
  refine wpAny_bind (wpAny_typeOf (T := "tuple") ⟨o, ho', hc⟩ ?_)
  have ht : (Value.type "tuple" == Value.type "tuple") = true := by rfl
  rw [if_pos (by rw [ht]; simp)]
  refine wpAny_bind (listItems_at ho' hd ?_)
  refine wpAny_bind (listItems_at (xs := #[]) (n := 0) (Heap.get?_push_size _ rfl) rfl ?_)
  rw [if_neg (by simp)]
  refine wpAny_bind (listUpdate_at (xs := #[]) (n := 0) (Heap.get?_push_size _ rfl) rfl ?_ (Nat.zero_le _) (by show (#[] ++ vs.toArray).size ≤ sizeLine + 1; simp only [Array.size_append, List.size_toArray, List.length_nil]; omega))
  refine wpAny_pure ?_
  show wpAny (model prog w) A (do
      let o ← load s.heap.objs.size
      match o.data with
      | .seq xs _ => pure xs.toList
      | _ => unsupported "internal:collect") Q E { s with heap := (s.heap.push (seqObj "list" #[] 0)).update s.heap.objs.size (Obj.mapSeq (· ++ vs.toArray)) }
  refine wpAny_bind (wpAny_load (get?_update_seq (Heap.get?_push_size _ rfl) _) ?_)
  show wpAny _ _ (pure ((#[] : Array Value) ++ vs.toArray).toList) Q E _
  rw [show ((#[] : Array Value) ++ vs.toArray).toList = vs by simp]
  exact wpAny_pure h
theorem sorted_strs_tup {t : Addr} {vs : List Value} {ss : List Str} {Q : Value → Shared → Prop} (ht : IsTup s.heap t vs.toArray) (hS : StrsAre vs ss) (h64 : vs.length < 64)
    (h : ∀ (a : Addr) (h' : Heap) (out : Array Value) (ss' : List Str) (e : Nat), s.heap.objs.size ≤ a → (∀ b o, s.heap.get? b = some o → h'.get? b = some o) → h'.get? a = some (seqObj "list" out e) → StrsAre out.toList ss' → ss'.Perm ss → sortedS ss' = true → Q (.ref a) { s with heap := h' }) :
    wpAny (model prog w) A (call (.builtin "sorted") [.ref t]) Q E s := by
  refine Calls.call_function_entry kind_sorted plain_sorted entry_sorted (args_sorted1 _) ?_
  unfold Builtin.«sorted»
  refine wpAny_bind (m := checkCount "sorted" 1 1 _) (wpAny_pure ?_)
  refine wpAny_bind (collect_tup ht ?_ (by rw [sizeLine_eq]; omega))
  refine wpAny_bind (wpAny_newList ?_ (by show vs.length ≤ _; rw [sizeLine_eq]; omega))
  have hsz : ((s.heap.push (seqObj "list" #[] 0)).update s.heap.objs.size (Obj.mapSeq (· ++ vs.toArray))).objs.size = s.heap.objs.size + 1 := by
    rw [Heap.size_update, size_push']
  have hoL : (((s.heap.push (seqObj "list" #[] 0)).update s.heap.objs.size (Obj.mapSeq (· ++ vs.toArray))).push (seqObj "list" vs.toArray 0)).get? (s.heap.objs.size + 1) = some (seqObj "list" vs.toArray 0) := by
    rw [← hsz]; exact Heap.get?_push_size _ rfl
  show wpAny _ _ _ _ _ { s with heap := ((s.heap.push (seqObj "list" #[] 0)).update s.heap.objs.size (Obj.mapSeq (· ++ vs.toArray))).push (seqObj "list" vs.toArray 0) }
  rw [hsz]
  refine wpAny_bind (wpAny_holding (wpAny_call_entry slot_list_sort ⟨_, hoL, rfl⟩ entry_list_sort (list_sort_treeK (vs := vs) strKind_oneLt hoL hS.keysOf (fun v₁ v₂ rest e => keyKind_strs (by rw [← e]; exact hS)) h64 fun st' hp hs => ⟨_, rfl, ?_⟩) (args_list_sort _)))
  obtain ⟨ss', e1, e2, e3⟩ := sorted_out_str hS hp hs
  obtain ⟨ep, he⟩ := sortedAll_at s.heap vs ((arrOf st').map (·.2))
  exact wpAny_pure ⟨_, rfl, h _ _ _ ss' ep (Nat.le_succ _) (fun b o e => sortedAll_old e) he e1 e2 e3⟩
end
def rSortedST (K : PySem.W.Frag) : List V → Hp → VK → Prop := fun vs H Q => ∃ (t : Addr) (xs : List Str), vs = [V.ref t] ∧ SqT K H t (xs.map V.str) ∧ xs.length < 64 ∧
  ∀ (ys : List Str) (p : Addr), ys.Perm xs → sortedS ys = true → H p = none → Q (.ref p) (upd H p (.lst (ys.map V.str)))
theorem cr_sortedST {X : Cx} : CallR X (.builtin "sorted") (rSortedST X.K) := by
  intro pins s σ H vs us Q I r h
  obtain ⟨t, xs, rfl, hs, h64, q⟩ := h
  obtain ⟨its, rv, ht, hz⟩ := I.tuple hs
  rw [Vals.ref1 r]
  have hl0 := rv.length
  rw [List.length_map] at hl0
  refine sorted_strs_tup ht rv.strs (by omega) fun a h' out ys ep ha kp he h1 h2 h3 => ?_
  have hlen : (ys.map V.str).length ≤ sizeLine := by rw [List.length_map, h2.length_eq, sizeLine_eq]; omega
  exact ⟨.ref a, upd H a (.lst (ys.map V.str)), I.laid (t' := s.toks) kp ha ⟨hlen, out.toList, ep, vals_of_strs h1, he⟩, rfl, q ys _ h2 h3 (I.hok.fresh ha)⟩
end K2
end
section
set_option Elab.async false
set_option maxRecDepth 100000
set_option linter.all false
set_option maxHeartbeats 2000000
/-! ### a caught error that is kept -/
namespace L2
open PySem PySem.Spec PyProof.Rows
/-- an exception of the class cls, caught and kept, its dict at d -/
def ExT (cls : Value) (d : Option Addr) (a : Addr) : HO := .ext fun h => ∃ (oe : Obj) (vs : Array Value), h.get? a = some oe ∧ Zc cls d oe ∧ oe.data = .fields vs
theorem exT_ok {P : Program} {w : World} {H : Hp} {h : Heap} {a : Addr} {cls : Value} {d : Option Addr} {oe : Obj} {vs : Array Value} (e : h.get? a = some oe) (z : Zc cls d oe) (hd : oe.data = .fields vs) : ObjOk P w H h a (ExT cls d a) :=
  ⟨⟨oe, vs, e, z, hd⟩, ⟨_, e⟩, fun h1 h2 q k => by
    obtain ⟨oe, vs, e, z⟩ := q
    exact ⟨oe, vs, k _ e, z⟩⟩
theorem exT_at {P : Program} {w : World} {H : Hp} {h : Heap} {a : Addr} {cls : Value} {d : Option Addr} (hok : HOk P w H h) (he : H a = some (ExT cls d a)) : ∃ (oe : Obj) (vs : Array Value), h.get? a = some oe ∧ Zc cls d oe ∧ oe.data = .fields vs := by
  have x : ObjOk P w H h a (.ext fun h => ∃ (oe : Obj) (vs : Array Value), h.get? a = some oe ∧ Zc cls d oe ∧ oe.data = .fields vs) := hok a _ he
  exact x.1
section
variable {X : Cx} {pins : List (Addr × Obj)} {σ : St} {H : Hp} {s s' sI : Shared} {B : Heap} {a : Addr} {o : HO}
theorem Inv.landedT (I : Inv X pins σ H sI) (nb : ∀ b o, sI.heap.get? b = some o → b ∉ frs X.stack → B.get? b = some o) (st : B.StaysIn s'.heap) (up : sI.heap.UpToSlots s'.heap) (os : s'.os = sI.os) (ag : AllBare s'.gens)
    (na : H a = none) (ha : sI.heap.get? a = none) (new : ObjOk X.prog X.w (upd H a o) s'.heap a o) : Inv X pins σ (upd H a o) s' := by
  have nf : ∀ b ∈ frs X.stack, ∀ o, sI.heap.get? b = some o → ∃ sl, s'.heap.get? b = some { o with slots := sl } := fun b hb o e => by
    obtain ⟨_, o', e', hd⟩ := I.stack.mem hb
    rw [e] at e'; cases e'
    exact up b o e hd
  have ne : ∀ b u, sI.heap.get? b = some u → b ≠ a := fun b u e z => by
    rw [z, ha] at e
    cases e
  have hk : HOk X.prog X.w H s'.heap := (I.inGround nb).kept st
  have J := I.call (ch := []) (h' := s'.heap) (g' := s'.gens) (t' := s'.toks) (d' := s'.drawn) (H' := upd H a o)
    ⟨fun b o e _ hb _ => st b o (nb b o e hb), fun b o e _ hb _ => nf b hb o e, fun b u e n _ => by rw [upd_ne (ne b u e)]; exact n, fun b o e _ => by
      by_cases hb : b ∈ frs X.stack
      · obtain ⟨sl, q⟩ := nf b hb o e
        exact ⟨_, q⟩
      · exact ⟨o, st b o (nb b o e hb)⟩, fun b _ e => by rw [upd_ne (ne_of_none e na)]; exact e, fun b _ _ e => by rw [upd_ne (ne_of_none e na)]; exact e, fun b ps e => ⟨#[], by rw [upd_ne (ne_of_none e na), e]; simp⟩⟩
    (hk.laidN (fun _ _ e => e) na new) ag (fun _ z => nomatch z)
  obtain ⟨a1, a2, a3, a4, a5⟩ := s'
  have e5 : a5 = sI.os := os
  subst e5
  exact J
theorem Inv.suiteT (I : Inv X pins σ H s) (a : Addr) : Inv (X.suite a (X.pn ++ pins)) [] σ H s :=
  ⟨I.ok.suite _ _, I.os, I.bare, I.base, I.loc, I.cell, I.free, I.freeC, fun p hp => I.pin p (by rw [List.append_nil] at hp; exact hp), I.hok, I.len⟩
theorem Inv.unsuiteT {pn' : List (Addr × Obj)} (I : Inv (X.suite a (X.pn ++ pins)) pn' σ H s) (ok : X.Ok) : Inv X pins σ H s :=
  ⟨ok, I.os, I.bare, I.base, I.loc, I.cell, I.free, I.freeC, fun p hp => I.pin p (List.mem_append_left _ hp), I.hok, I.len⟩
end
/-- what the clause 'except x as n' wishes of an exception that is kept -/
def wAsT (K : PySem.W.Frag) (c : Value) (n i : Nat) (ts : Addr → Value → Option Addr → TS) (Wout : WX) (D : Ends) : WX := fun cls d σ H => σ.length = n →
  ∃ b, PySem.W.exmOne K cls c = some b ∧ (b = true → ∀ a, H a = none → ts a cls d { nx := fun σ' H' => D.nx (σ'.set i none) H', rt := D.rt, bk := fun σ' H' => D.bk (σ'.set i none) H', ct := fun σ' H' => D.ct (σ'.set i none) H' } (σ.set i (some (.ref a))) (upd H a (ExT cls d a))) ∧
    (b = false → Wout cls d σ H)
section
variable {X : Cx} {x n : Str} {c : Value} {i : Nat} {body suite : List Stmt} {b₀ : Stmt} {np pos pos' : Pos} {tb : WX → TS} {ts : Addr → Value → Option Addr → TS} {Wout : WX}
theorem ps_try_asT (hs : X.stack = X.env :: X.outer) (hf : X.env.frame = some X.env.locals) (hN : X.N.Nodup) (hi : X.N[i]? = some n) (hln : X.env.kindOf n = some .local) (hc : Names X x c) (tk : Takes X Wout)
    (hb : ∀ (W : WX) (pn : List (Addr × Obj)) (xe : Value → Shared → Prop), Takes (X.tr pn xe) W → PassesOwn (model X.prog X.w) X.A X.env xe → PSs (X.tr pn xe) body (tb W))
    (hsu : ∀ (a : Addr) (cls : Value) (d : Option Addr) (pn : List (Addr × Obj)), PSs (X.suite a pn) (b₀ :: suite) (ts a cls d)) :
    PS X (.Try body [.ExceptHandler (some (.Name x np)) (some n) (b₀ :: suite) pos'] [] [] pos) (fun D σ H => tb (wAsT X.K c X.N.length i ts Wout D) D σ H) := by
  refine ⟨fun pins s σ H D I h => ?_⟩
  have ok := I.ok
  have hfr : X.A.frames = some (X.env :: X.outer) := by rw [ok.frames, hs]
  have hloc : Loc X.env.scope n := .inl hln
  refine wpAny_Try_except ?_
  refine wpAny_mono ((hb (wAsT X.K c X.N.length i ts Wout D) (X.pn ++ pins) (fun e s₁ => wpAny (model X.prog X.w) X.A (noteFrame e X.env) (fun _ s₂ => wpAny (model X.prog X.w) X.A (setFlight e none) (fun _ s₃ =>
    wpAny (model X.prog X.w) X.A (handleBy e X.env [.ExceptHandler (some (.Name x np)) (some n) (b₀ :: suite) pos']) (SP X pins D) X.xe s₃) X.xe s₂) X.xe s₁) (fun u s' xx => ?_) PassesOwn.looking).run [] s σ H D (I.toTry _) h) (fun f s1 hsp => ?_) (fun e s1 he => he)
  · -- the catch
    obtain ⟨a, B, sI, pins', σ', H', cls, d, rfl, J', nb, up, sky, na, os, ag, hwish⟩ := xx
    have J : Inv X pins σ' H' sI := J'.ofTry ok
    obtain ⟨b, hb1, hyes, hno⟩ := hwish J.len
    have sky' : Sky B (X.env :: X.outer) a (Zc cls d) X.env.locals s'.heap := by rw [← hs]; exact sky
    show wpAny (model X.prog X.w) X.A (noteFrame (.ref a) X.env) _ _ _
    refine Sky.land Zc.steady hfr hf sky' fun h3 fl3 up3 => ?_
    have J3 : Inv X pins σ' H' { s' with heap := h3 } := J.landed nb fl3.1 (up.trans up3) os ag
    obtain ⟨oe3, vs3, he3, hz3, hd3⟩ := fl3.there
    have notFr : ∀ {h : Heap} {o : Obj} {vs : Array Value}, h.FunFrames B (X.env :: X.outer) → h.get? a = some o → o.data = .fields vs → a ∉ frs (X.env :: X.outer) := fun {h o vs} ff e dd hm => by
      obtain ⟨_, o', e', hnf⟩ := ff.mem hm
      rw [e] at e'; cases e'
      exact hnf _ dd
    have nfr := notFr fl3.2.2.1 he3 hd3
    have nL : a ≠ X.env.locals := fun z => nfr (List.mem_filterMap.mpr ⟨X.env, List.mem_cons_self, by rw [hf, z]⟩)
    have nF : a ∉ X.fs := fun hm => by
      obtain ⟨e, he, q⟩ := List.mem_filterMap.mp hm
      exact nfr (List.mem_filterMap.mpr ⟨e, List.mem_cons_of_mem _ he, q⟩)
    have S3 := J3.suite he3 hd3 na nL nF
    refine wpAny_handleBy_cons (codeAny_handlers_test ?_) (by intro q; cases q)
    have LT : PySem.W.Looks (model X.prog X.w) h3 (typeOf (.ref a)) cls := fun A Q E s k q => wpAny_typeOf_ref (k _ _ he3) (by rw [hz3.1]; exact q)
    have LM := PySem.W.exm_one (M := model X.prog X.w) (J3.kIn) LT hb1
    have test : ∀ {Q : Value → Shared → Prop} {E : Value → Shared → Prop}, Q c { s' with heap := h3 } → wpAny (model X.prog X.w) (X.A.mark (some (.ref a))) (eval (.Name x np) X.env) Q E { s' with heap := h3 } := fun {Q E} q => by
      obtain ⟨hg, hdbg, hm | ⟨hm, hv, hnn⟩⟩ := hc
      · exact ld_glob (X := X.suite a ((a, oe3) :: (X.pn ++ pins))) S3 hg hm q hdbg
      · exact ld_blt (X := X.suite a ((a, oe3) :: (X.pn ++ pins))) S3 hg hm hv q hnn hdbg
    refine test (LM.here ?_)
    cases b with
    | true =>
      refine codeAny_handlers_suite_as ?_
      refine HandSPX.lands_againZ fl3 fun h4 fl4 up4 => ?_
      obtain ⟨oe4, vs4, he4, hz4, hd4⟩ := fl4.there
      have hsa : sI.heap.get? a = none := by
        cases e : sI.heap.get? a with
        | none => rfl
        | some o =>
          have z := nb a o e (by rw [hs]; exact nfr)
          rw [fl4.2.1] at z
          cases z
      have J4 : Inv X pins σ' (upd H' a (ExT cls d a)) { s' with heap := h4 } := J.landedT nb fl4.1 ((up.trans up3).trans up4) os ag na hsa (exT_ok he4 hz4 hd4)
      have S4 := J4.suiteT a
      refine store_ok (X := X.suite a (X.pn ++ pins)) (v := .ref a) S4 hN hi hloc rfl (fun s5 S5 => ?_) (.inr hln)
      refine wpAny_mono ((hsu a cls d (X.pn ++ pins)).run [] s5 _ _ _ S5 (hyes rfl a na)) (fun f s6 hsp => ?_) (fun _ _ z => False.elim z)
      have end_ : ∀ {σ6 : St} {H6 : Hp} {Q : Shared → Prop}, Inv (X.suite a (X.pn ++ pins)) [] σ6 H6 s6 → (∀ s7, Inv X pins (σ6.set i none) H6 s7 → Q s7) →
          wpAny (model X.prog X.w) X.A (do bindName X.env n .none; unbindBehindTheSuite X.env n pos') (fun _ s7 => Q s7) X.xe s6 := fun {σ6 H6 Q} S6 hq => gone_ok (S6.unsuiteT ok) hN hi hln hq
      cases f with
      | next =>
        obtain ⟨σ6, H6, S6, q6⟩ := hsp
        exact end_ S6 fun s7 J7 => ⟨_, _, J7, q6⟩
      | brk =>
        obtain ⟨σ6, H6, S6, q6⟩ := hsp
        exact end_ S6 fun s7 J7 => ⟨_, _, J7, q6⟩
      | cont =>
        obtain ⟨σ6, H6, S6, q6⟩ := hsp
        exact end_ S6 fun s7 J7 => ⟨_, _, J7, q6⟩
      | ret u =>
        obtain ⟨v6, σ6, H6, S6, r6, q6⟩ := hsp
        exact end_ S6 fun s7 J7 => ⟨_, _, _, J7, r6, q6⟩
    | false =>
      show wpAny _ X.A (handleBy (.ref a) X.env []) _ _ _
      refine wpAny_handleBy_nil ?_
      obtain ⟨k1, k2, k3, oe, vs, T, oT, ts', he, hz, hd, h1, hr⟩ := id fl3
      unfold PySem.passOn
      refine wpAny_bind (wpAny_field he hd h1 ?_)
      rw [if_neg (show ¬ ((Value.ref T == Value.none) = true) from by simp)]
      have fin : wpAny (model X.prog X.w) X.A (setFlight (.ref a) X.env.frame) (fun _ s4 => wpAny (model X.prog X.w) X.A (throw (.ref a) : Sem Flow) (SP X pins D) X.xe s4) X.xe { s' with heap := h3 } := by
        rw [hf]
        refine HandSPX.setFlight_upZ fl3 fun h4 hh4 up4 => wpAny_throw (tk _ _ ?_)
        exact ⟨a, B, sI, pins, σ', H', cls, d, rfl, J, nb, (up.trans up3).trans up4, .inr (.inr (by rw [hs]; exact hh4)), na, os, ag, hno rfl⟩
      first
        | exact wpAny_bind (wpAny_pure (wpAny_bind fin))
        | exact wpAny_bind fin
  · cases f with
    | next =>
      obtain ⟨σ', H', J', q⟩ := hsp
      exact wpAny_execs_nil ⟨σ', H', J'.ofTry ok, q⟩
    | brk =>
      obtain ⟨σ', H', J', q⟩ := hsp
      exact ⟨σ', H', J'.ofTry ok, q⟩
    | cont =>
      obtain ⟨σ', H', J', q⟩ := hsp
      exact ⟨σ', H', J'.ofTry ok, q⟩
    | ret u =>
      obtain ⟨v, σ', H', J', r, q⟩ := hsp
      exact ⟨v, σ', H', J'.ofTry ok, r, q⟩
end
end L2
end
section
set_option Elab.async false
set_option maxRecDepth 100000
set_option linter.all false
set_option maxHeartbeats 4000000
namespace PySem.W
open PySem PySem.Spec PySem.Calls PyProof.Rows
section
variable {prog : Program} {w : World} {A : Around} {E : Value → Shared → Prop} {s : Shared} {K : Frag} {x D : Addr} {ox : Obj}
theorem findObj_dataT {C : Addr} {name : Str} {a g : Value} {od : Option Obj} (hc : (clsIn K C).isSome = true) (ha : findIn K (.ref C) name = some (some a)) (hg : specialIn K a "__get__" = some (some g)) (ht : takesIn K a = some true) : findObj K C od name = some (.bind g a) := by
  obtain ⟨cd, hc⟩ := Option.isSome_iff_exists.mp hc
  unfold findObj
  rw [hc, Option.bind_some, ha, Option.bind_some]
  simp [hg, ht]
theorem kin_classT {Q : Option Value → Shared → Prop} (hga : findIn K (.ref D) "__getattribute__" = some (some (.builtin "BaseException.__getattribute__"))) (hgt : findIn K (.ref D) "__getattr__" = some none) (hsub : subIn K (.ref D) (.type "BaseException") = some true)
    (hdct : hasDictIn K D = true) (ha : findIn K (.ref D) "__class__" = some (some (.builtin "object.__class__")))
    (hn : specialIn K (.builtin "object.__class__") "__get__" = some (some (.builtin "getset_descriptor.__get__"))) (htk : takesIn K (.builtin "object.__class__") = some true) (hm : mroIn K D (.type "object") = some true)
    {od : Option Obj} (X : K.In s.heap) (I : InstAt s.heap x ox D od) (h : Q (some (.ref D)) { s with toks := s.toks + 1 }) : wpAny (model prog w) A (getAttr? (.ref x) "__class__") Q E s := by
  have hf : findObj K D od "__class__" = some (.bind (.builtin "getset_descriptor.__get__") (.builtin "object.__class__")) := findObj_dataT (by obtain ⟨cd, hc, _⟩ := any_some hdct; rw [hc]; rfl) ha hn htk
  obtain ⟨hp, g, d, t, os⟩ := s
  have L0 := I.type (M := model prog w)
  have L1 := looks_findIn (M := model prog w) X hga
  have L2 := looks_findIn (M := model prog w) X hgt
  have L3 := looks_find (M := model prog w) X I hf
  have sub : Looks (model prog w) hp (isInstance (.ref x) (.type "BaseException")) true := L0.andThen (looks_subIn X hsub)
  have hx0 : (false && onTheHeap (Value.builtin "BaseException.__getattribute__")) = false := rfl
  have hx2 : (Value.builtin "BaseException.__getattribute__" == Value.builtin "object.__getattribute__") = false := by decide +kernel
  have hx1 : (onTheHeap (Value.ref D) && Value.builtin "BaseException.__getattribute__" == Value.builtin "object.__getattribute__") = false := by rw [hx2]; rfl
  unfold getAttr? getAttrBy? getAttrBy
  refine wpAny_bind (wpAny_mkText (wpAny_bind (wpAny_attempt (wpAny_holding (wpAny_bind (L0.at (wpAny_bind (L1.at ?_))))))))
  show wpAny _ _ (if (onTheHeap (Value.ref D) && Value.builtin "BaseException.__getattribute__" == Value.builtin "object.__getattribute__") = true then _ else _) _ _ _
  rw [hx1, if_neg Bool.false_ne_true]
  unfold getAttrByItsOwn hookBefore
  refine wpAny_bind ?_
  rw [if_pos (show onTheHeap (Value.ref D) = true from rfl)]
  refine L2.at ?_
  refine wpAny_bind (wpAny_attempt (wpAny_holding ?_))
  unfold callGetattribute
  rw [hx0, if_neg Bool.false_ne_true]
  unfold boundAndCalled
  rw [PySem.F.excAttr_ValueError.ga.bind (.ref x)]
  refine wpAny_bind (wpAny_pure ?_)
  show wpAny _ _ (call (.builtin "BaseException.__getattribute__") [.ref x, .str "__class__" t]) _ _ _
  refine wpAny_call (codeAny_call_builtin PySem.F.excAttr_ValueError.ga.plain PySem.F.entry_bexc_ga ?_)
  refine @check_slot (model prog w) _ _ ⟨hp, g, d, t + 1, os⟩ "BaseException.__getattribute__" "BaseException" "__getattribute__" (.ref x) [.str "__class__" t] [] _ (by decide +kernel) (by decide +kernel) sub (PySem.F.args_bexc_ga (.ref x) (.str "__class__" t)) ?_
  unfold Builtin.«object.__getattribute__»
  refine wpAny_bind (wpAny_of_eq (a := ((Value.ref x : Value), [Value.str "__class__" t])) (by first | rfl | (simp only [slotArgs]; rfl)) ?_)
  refine wpAny_bind (wpAny_pure (wpAny_bind (L0.at (wpAny_bind (L3.at ?_)))))
  show wpAny _ _ (holding [Value.builtin "object.__class__"] (call (.builtin "getset_descriptor.__get__") [.builtin "object.__class__", .ref x, .ref D]) >>= ret) _ _ _
  refine wpAny_bind (wpAny_holding (wpAny_call (class_get (s := ⟨hp, g, d, t + 1, os⟩) (ox := ox) (od := od) X I hm ?_)))
  refine wpAny_pure ?_
  show wpAny _ _ (handedOut (.ref D)) _ _ _
  rw [handedOut_of (v := .ref D) rfl]
  first
    | exact wpAny_pure (wpAny_pure h)
    | exact wpAny_pure h
    | exact wpAny_pure (wpAny_bind (wpAny_pure (wpAny_pure h)))
theorem kitx_excT (hga : findIn K (.ref D) "__getattribute__" = some (some (.builtin "BaseException.__getattribute__"))) (hgt : findIn K (.ref D) "__getattr__" = some none) (hsub : subIn K (.ref D) (.type "BaseException") = some true) (hdct : hasDictIn K D = true) (ha : findIn K (.ref D) "__class__" = some (some (.builtin "object.__class__")))
    (hn : specialIn K (.builtin "object.__class__") "__get__" = some (some (.builtin "getset_descriptor.__get__"))) (htk : takesIn K (.builtin "object.__class__") = some true) (hm : mroIn K D (.type "object") = some true) :
    KitX K (.ref x) (.ref D) (fun h => ∃ (ox : Obj) (od : Option Obj), InstAt h x ox D od) where
  ty := fun _ _ _ I => by
    obtain ⟨ox, od, I⟩ := I
    exact I.type
  it := fun _ _ X _ => by
    obtain ⟨cdD, hcD, _⟩ := any_some hdct
    unfold clsIn at hcD
    split at hcD
    · rename_i c' d' cd' sl' ho
      intro A' Q' E' s' k q
      unfold isType loadHead
      exact wpAny_bind (wpAny_loadPart (k _ _ (X _ _ ho)) (wpAny_pure q))
    · cases hcD
  ne := fun h tp dd its n sl X htp => by
    obtain ⟨cdD, hcD, _⟩ := any_some hdct
    refine Bool.eq_false_iff.mpr fun q => ?_
    have e : D = tp := Value.ref.inj (beq_iff_eq.mp q)
    subst e
    unfold clsIn at hcD
    split at hcD
    · rename_i c' d' cd' sl' ho
      have z := (X _ _ ho).symm.trans htp
      cases z
    · cases hcD
  ca := fun X I k => by
    obtain ⟨ox, od, I⟩ := I
    exact kin_classT hga hgt hsub hdct ha hn htk hm X I k
end
end PySem.W
namespace L2
open PySem PySem.Spec PyProof.Rows
section
variable {X : Cx} {pins : List (Addr × Obj)} {σ : St} {H : Hp} {s : Shared}
theorem exT_inst (I : Inv X pins σ H s) {a D : Addr} {d : Option Addr} {fs : List (Str × V)} (e : H a = some (ExT (.ref D) d a)) (hd : ∀ dd, d = some dd → H dd = some (.xd fs)) : ∃ (ox : Obj) (od : Option Obj), PySem.W.InstAt s.heap a ox D od := by
  obtain ⟨oe, vs, he, hz, hv⟩ := exT_at I.hok e
  cases d with
  | none => exact ⟨oe, none, he, hz.1, by unfold PySem.W.notCls; rw [hv] <;> rfl, by rw [hz.2]; trivial⟩
  | some dd =>
    have hx : ObjOk X.prog X.w H s.heap dd (.xd fs) := I.hok dd _ (hd dd rfl)
    obtain ⟨mA, hns, hr⟩ := hx
    obtain ⟨od, ho, hl⟩ := lookIn_ns hns
    exact ⟨oe, some od, he, hz.1, by unfold PySem.W.notCls; rw [hv] <;> rfl, by rw [hz.2]; exact ho⟩
/-- isinstance(e, c), e a kept error -/
def rIsT (K : PySem.W.Frag) : List V → Hp → VK → Prop := fun xs H Q => ∃ (a D dd : Addr) (fs : List (Str × V)) (c : V) (cv : Value) (b : Bool), xs = [.ref a, c] ∧ H a = some (ExT (.ref D) (some dd) a) ∧ H dd = some (.xd fs) ∧ ExcC K D ∧ (∀ u, RelV c u → u = cv) ∧ PySem.W.kitOne K (.ref D) cv = some b ∧ Q (.bl b) H
theorem call_isT {X : Cx} : CallR X (.builtin "isinstance") (rIsT X.K) := by
  intro pins s σ H xs us Q I r h
  obtain ⟨a, D, dd, fs, c, cv, b, rfl, e, ed, C, hcv, hb, q⟩ := h
  cases r with
  | cons rx rr =>
    cases rr with
    | cons rt rr =>
      cases rr
      cases rx
      have ec := hcv _ rt
      subst ec
      exact PySem.W.kia_one (PySem.W.kitx_excT C.hg C.hk C.hs C.hd C.ha C.hn C.ht C.hm) I.kIn (exT_inst I e (fun d' z => by cases z; exact ed)) hb (fun z => nomatch z) fun tk => ⟨.bl b, H, I.kept (t' := tk) fun _ _ z => z, rfl, q⟩
/-- isinstance(e, (c, ..)), e a kept error -/
def rIsTT (K : PySem.W.Frag) : List V → Hp → VK → Prop := fun xs H Q => ∃ (a D dd t : Addr) (fs : List (Str × V)) (cs : List Addr) (b : Bool), xs = [.ref a, .ref t] ∧ H a = some (ExT (.ref D) (some dd) a) ∧ H dd = some (.xd fs) ∧ ExcC K D ∧ H t = some (.tup (cs.map V.ref)) ∧ PySem.W.kitAny K (.ref D) (cs.map Value.ref) = some b ∧ Q (.bl b) H
theorem call_isTT {X : Cx} : CallR X (.builtin "isinstance") (rIsTT X.K) := by
  intro pins s σ H xs us Q I r h
  obtain ⟨a, D, dd, t, fs, cs, b, rfl, e, ed, C, ht, hb, q⟩ := h
  cases r with
  | cons rx rr =>
    cases rr with
    | cons rt rr =>
      cases rr
      cases rx
      cases rt
      obtain ⟨its, rv, ⟨ot, ho, hc, n, hd⟩, _⟩ := I.tuple (SqT.of (K := X.K) ht)
      have ei := K2.vals_refs rv
      subst ei
      obtain ⟨c0, d0, dt0, sl0⟩ := ot
      dsimp only at hc hd
      subst hc
      subst hd
      exact PySem.W.kia_tup (PySem.W.kitx_excT C.hg C.hk C.hs C.hd C.ha C.hn C.ht C.hm) I.kIn (exT_inst I e (fun d' z => by cases z; exact ed)) ho hb (fun z => nomatch z) fun tk => ⟨.bl b, H, I.kept (t' := tk) fun _ _ z => z, rfl, q⟩
/-- e.f, e a kept error -/
def tXt (K : PySem.W.Frag) (f : Str) (te : TE) : TE := fun σ H Q => te σ H fun x H1 => ∃ (a C dd : Addr) (fs : List (Str × V)) (v : V), x = .ref a ∧ H1 a = some (ExT (.ref C) (some dd) a) ∧ H1 dd = some (.xd fs) ∧ XfC K C ∧ PySem.W.findIn K (.ref C) f = some none ∧ fs.lookup f = some v ∧ Q v H1
theorem pe_xt {X : Cx} {e : Expr} {te : TE} {pos : Pos} {n : Str} (he : PE X e te) (hb : attributeBase e n X.env (eval e X.env) = eval e X.env := by rfl) :
    PE X (.Attribute e n pos) (tXt X.K n te) := by
  refine ⟨fun pins s σ H Q I h => ?_⟩
  refine attr_of hb (thn (he.run pins s σ H _ I h) fun u s1 hh => ?_)
  obtain ⟨x, H1, I1, rx, a, C, dd, fs, v, ex, e, ea, T, hno, l, q⟩ := hh
  subst ex
  obtain rfl : u = Value.ref a := rx
  obtain ⟨oe, vs, ha, hz, hd⟩ := exT_at I1.hok e
  have hx : ObjOk X.prog X.w H1 s1.heap dd (.xd fs) := I1.hok dd _ ea
  obtain ⟨mA, hns, hr⟩ := hx
  obtain ⟨od, ho, hl⟩ := lookIn_ns hns
  obtain ⟨u, hu, ru⟩ := RelO.some_of (v := v) (o := mA n) (by rw [← l]; exact hr n)
  have J : PySem.W.InstAt s1.heap a oe C (some od) := ⟨ha, hz.1, by unfold PySem.W.notCls; rw [hd] <;> rfl, by rw [hz.2]; exact ho⟩
  exact HandSPX.exc_get I1.kIn J T.ga T.gg T.exC (PySem.W.findObj_own T.hdC hno rfl (by rw [hl, hu])) (handed_of ru) ⟨v, H1, I1.tok _, ru, q⟩
end
end L2
end
section
set_option Elab.async false
set_option maxRecDepth 100000
set_option linter.all false
namespace K2
open PySem L2 LamX
abbrev sHeard : Stmt := top 54
abbrev nHeard : List Str := ["_law_ask", "_law_caught", "error", "_law_marks"]
theorem ps_dead {X : Cx} {st : Stmt} : PS X st (fun _ _ _ => False) := ⟨fun _ _ _ _ _ _ h => h.elim⟩
theorem pe_dead {X : Cx} {e : Expr} : PE X e (fun _ _ _ => False) := ⟨fun _ _ _ _ _ _ h => h.elim⟩
section
variable {X : Cx}
def rCntB (K : PySem.W.Frag) : V → List V → Hp → VK → Prop := fun x xs H Q => ∃ (p : Addr) (ys : List V) (y : V), x = .ref p ∧ xs = [y] ∧ SqL K H p ys ∧ flatV y = true ∧ ys.all flatV = true ∧ Q (.int (ys.countP fun z => eqV z y : Nat)) H
theorem countP_U {x : V} : ∀ {ys : List V} {us : List Value}, Vals ys us → ys.all flatV = true → us.countP (eqU x) = ys.countP fun z => eqV z x
  | _, _, .nil, _ => rfl
  | y :: ys, u :: us, .cons r t, f => by
    rw [List.all_cons, Bool.and_eq_true] at f
    rw [List.countP_cons, List.countP_cons, countP_U t f.2, eqU_of r f.1]
theorem mt_lcountB : MtR X "list.count" (rCntB X.K) := by
  intro pins s σ H x xs v us Q I rx rxs h
  obtain ⟨p, ys, y, rfl, rfl, hs, fy, fys, q⟩ := h
  cases rx
  obtain ⟨u, rfl, ry⟩ := rxs.one
  obtain ⟨its, rv, ⟨⟨cls, dd, data, sl⟩, n, ho, hc, hdn, hd⟩, hlen⟩ := I.list hs
  simp only at hc hd
  subst hc hd
  refine call_meets PySem.F.slot_list_count ⟨_, ho, rfl⟩ PySem.F.entry_list_count (PySem.F.args_list_count_2 _ _)
    (SeqAt.list_countAt p its.toArray n dd sl u (eqU y)) ⟨ho, fun u' hu' => mem_eqAt ry fy rv fys u' (by simpa using hu'), ?_⟩
  have ec : its.toArray.toList.countP (eqU y) = ys.countP fun z => eqV z y := countP_U rv fys
  refine ⟨.int (ys.countP fun z => eqV z y : Nat), H, I.tok _, ⟨s.toks, ?_⟩, q⟩
  show Value.int ((its.toArray.toList.countP (eqU y) : Nat) : Int) s.toks = _
  rw [ec]
end
abbrev errs : List Str := ["LeaveError", "NoClass", "NoFunction", "NoProgram", "NoName", "NoCase", "TooMany", "NoText", "NoAct", "NoRecord", "Barred", "Unlike", "NoRow"]
/-- D is the class TooMany -/
structure Many (K : PySem.W.Frag) (cl : Str → Addr) (D : Addr) : Prop where
  ex : PySem.W.exmOne K (.ref D) (.ref (cl "LeaveError")) = some true
  isC : ExcC K D
  xf : XfC K D
  fw : PySem.W.findIn K (.ref D) "what" = some none
  fm : PySem.W.findIn K (.ref D) "most" = some none
  k1 : PySem.W.kitOne K (.ref D) (.ref (cl "NoClass")) = some false
  k2 : PySem.W.kitOne K (.ref D) (.ref (cl "NoFunction")) = some false
  k3 : PySem.W.kitOne K (.ref D) (.ref (cl "NoProgram")) = some false
  k4 : PySem.W.kitOne K (.ref D) (.ref (cl "NoName")) = some false
  k5 : PySem.W.kitOne K (.ref D) (.ref (cl "NoCase")) = some false
  k6 : PySem.W.kitOne K (.ref D) (.ref (cl "TooMany")) = some true
  kt : PySem.W.kitAny K (.ref D) ([cl "NoText", cl "NoAct", cl "NoRecord", cl "Barred", cl "Unlike", cl "NoRow"].map Value.ref) = some false
  kv : PySem.W.kitOne K (.ref D) (.type "ValueError") = some true
def HM (K : PySem.W.Frag) (cl : Str → Addr) (Q : VK) : XK := fun cls d H' => ∃ (D dd : Addr) (fs : List (Str × V)) (v1 v2 : V), cls = .ref D ∧ d = some dd ∧ H' dd = some (.xd fs) ∧ Many K cl D ∧ fs.lookup ("what" : Str) = some v1 ∧ fs.lookup ("most" : Str) = some v2 ∧
  ∀ (t : Addr) (H'' : Hp), Same H' H'' → H'' t = some (.tup [.str "MANY", v1, v2]) → Q (.ref t) H''
def TTh (K : PySem.W.Frag) (cl : Str → Addr) : (XK → Hp → VK → Prop) → Hp → VK → Prop := fun tl H Q => tl (HM K cl Q) H fun v H' => [v].length ≤ sizeLine ∧ ∀ p, H' p = none → Q (.ref p) (upd H' p (.lst [v]))
theorem scHeard : FnScope nHeard ["_law_ask"] (defScope sHeard) := ⟨rfl, rfl, rfl, by decide +kernel, rfl, by decide +kernel, by decide +kernel⟩
theorem heard_gives {X : Cx} {g : Addr} {cdg : Value} {q : Str} {cl : Str → Addr} (T : Bi X.mg) (tVE : X.mg "ValueError" = none) (hcl : ∀ x ∈ errs, X.mg x = some (.ref (cl x))) :
    GivesTo X nHeard "_law_heard" (defScope sHeard) g cdg (defBody sHeard) "_law_ask" q (TTh X.K cl) := by
  intro f c' s H Q tl act hc h
  have hge : Gl (cxOf C8.CX0 X.prog X.w X.K X.mg X.base nHeard "_law_heard" (defScope sHeard) g cdg X.A X.stack s H C8.E0).nox "LeaveError" := by rfl
  refine ⟨_, (pss_cons (ps_set (i := 1) scHeard.nd rfl (Or.inl rfl) pe_non)
    (pss_cons (ps_try_asT (X := (cxOf C8.CX0 X.prog X.w X.K X.mg X.base nHeard "_law_heard" (defScope sHeard) g cdg X.A X.stack s H C8.E0).nox) (i := 2) (c := .ref (cl "LeaveError"))
      (tb := fun W D σ H => ∃ Ech : XK, (∀ cls d σ' H', Ech cls d H' → W cls d σ' H') ∧ σ[0]? = some (some (.ref f)) ∧ H c' = some (CodeO c' q) ∧ tl Ech H fun v H1 => [v].length ≤ sizeLine ∧ ∀ p, H1 p = none → D.rt (.ref p) (upd H1 p (.lst [v])))
      rfl rfl scHeard.nd rfl (by rfl) ⟨hge, by decide +kernel, .inl (hcl "LeaveError" (by decide +kernel))⟩ LamX.takes0 (fun W pn xe tk _ => ?_) (fun a cls d pn => pss_one (ps_set (i := 1) scHeard.nd rfl (Or.inl rfl) (pv 2))))
    (pss_cons (ps_set (i := 3) scHeard.nd rfl (Or.inl rfl) (pe_lst (pa_cons (pe_callB call_isT (by rfl) T.isinstance (by decide +kernel) (pa_cons (pv 1) (pa_cons (pe_glob (v := .ref (cl "NoClass")) (by rfl) (hcl "NoClass" (by decide +kernel)) rfl) pa_nil))) (pa_cons (pe_callB call_isT (by rfl) T.isinstance (by decide +kernel) (pa_cons (pv 1) (pa_cons (pe_glob (v := .ref (cl "NoFunction")) (by rfl) (hcl "NoFunction" (by decide +kernel)) rfl) pa_nil))) (pa_cons (pe_callB call_isT (by rfl) T.isinstance (by decide +kernel) (pa_cons (pv 1) (pa_cons (pe_glob (v := .ref (cl "NoProgram")) (by rfl) (hcl "NoProgram" (by decide +kernel)) rfl) pa_nil))) pa_nil)))))
    (pss_cons (ps_set (i := 3) scHeard.nd rfl (Or.inl rfl) (pe_op op_cat (pv 3) (pe_lst (pa_cons (pe_callB call_isT (by rfl) T.isinstance (by decide +kernel) (pa_cons (pv 1) (pa_cons (pe_glob (v := .ref (cl "NoName")) (by rfl) (hcl "NoName" (by decide +kernel)) rfl) pa_nil))) (pa_cons (pe_callB call_isT (by rfl) T.isinstance (by decide +kernel) (pa_cons (pv 1) (pa_cons (pe_glob (v := .ref (cl "NoCase")) (by rfl) (hcl "NoCase" (by decide +kernel)) rfl) pa_nil))) (pa_cons (pe_callB call_isT (by rfl) T.isinstance (by decide +kernel) (pa_cons (pv 1) (pa_cons (pe_glob (v := .ref (cl "TooMany")) (by rfl) (hcl "TooMany" (by decide +kernel)) rfl) pa_nil))) pa_nil))))))
    (pss_cons (ps_expr (pe_bm PySem.F.plainAttrs_list PySem.F.slot_list_append PySem.F.type_list_append mt_append (pv 3) (pa_cons (pe_callB call_isTT (by rfl) T.isinstance (by decide +kernel) (pa_cons (pv 1) (pa_cons (pe_tup (pa_cons (pe_glob (v := .ref (cl "NoText")) (by rfl) (hcl "NoText" (by decide +kernel)) rfl) (pa_cons (pe_glob (v := .ref (cl "NoAct")) (by rfl) (hcl "NoAct" (by decide +kernel)) rfl) (pa_cons (pe_glob (v := .ref (cl "NoRecord")) (by rfl) (hcl "NoRecord" (by decide +kernel)) rfl) (pa_cons (pe_glob (v := .ref (cl "Barred")) (by rfl) (hcl "Barred" (by decide +kernel)) rfl) (pa_cons (pe_glob (v := .ref (cl "Unlike")) (by rfl) (hcl "Unlike" (by decide +kernel)) rfl) (pa_cons (pe_glob (v := .ref (cl "NoRow")) (by rfl) (hcl "NoRow" (by decide +kernel)) rfl) pa_nil))))))) pa_nil))) pa_nil)))
    (pss_cons (ps_if (PW.pt (pw_or (pt_cmpR op_ne (pe_bm PySem.F.plainAttrs_list PySem.F.slot_list_count PySem.F.type_list_count mt_lcountB (pv 3) (pa_cons pe_bl pa_nil)) pe_int (nomark _))
        (pw_or (pt_val (pe_ix ix_list (pv 3) pe_int (fun _ _ => rfl))) (pw_or1 (pt_not (pt_val (pe_callB call_isT (by rfl) T.isinstance (by decide +kernel) (pa_cons (pv 1) (pa_cons (pe_bltn (v := .ty "ValueError") (by rfl) tVE (by decide +kernel) rfl) pa_nil))))))))) (pss_one ps_dead) pss_nil)
    (pss_cons (ps_if (pt_cmpR op_in_seq pe_bl (pe_slice sl_list (pv 3) po_none (po_some pe_int)) rfl) (pss_one ps_dead) pss_nil)
    (pss_cons (ps_if (pt_val (pe_ix ix_list (pv 3) pe_int (fun _ _ => rfl))) (pss_one ps_dead) pss_nil)
    (pss_one (ps_ret (pe_ifExp (pt_val (pe_ix ix_list (pv 3) pe_int (fun _ _ => rfl))) pe_dead (pe_tup (pa_cons pe_str (pa_cons (pe_xt (pv 1)) (pa_cons (pe_xt (pv 1)) pa_nil))))))))))))))), ?_⟩
  · refine ⟨fun pins s' σ H' D I h' => ?_⟩
    obtain ⟨Ech, hW, h1, h2, h3⟩ := h'
    refine (pss_one (ps_ret (pe_lst (pa_cons (act W pn xe Ech _ _ tk hW) pa_nil)))).run pins s' σ H' D I ?_
    exact ⟨h1, h2, h3⟩
  · refine ⟨HM X.K cl Q, fun cls d σ' H' hm hlen => ?_, rfl, hc, h⟩
    obtain ⟨D, dd, fs, v1, v2, rfl, rfl, hx, M, l1, l2, k⟩ := hm
    refine ⟨true, M.ex, fun _ a na => ?_, fun z => nomatch z⟩
    obtain ⟨s0, s1, s2, s3, rfl⟩ : ∃ s0 s1 s2 s3, σ' = [s0, s1, s2, s3] := by
      match σ', hlen with
      | [s0, s1, s2, s3], _ => exact ⟨s0, s1, s2, s3, rfl⟩
    have sE : Same H' (upd H' a (ExT (.ref D) (some dd) a)) := (Same.refl H').put na
    have ha : ∀ {H1 : Hp}, Same (upd H' a (ExT (.ref D) (some dd) a)) H1 → H1 a = some (ExT (.ref D) (some dd) a) := fun s => s _ _ upd_same
    have hd : ∀ {H1 : Hp}, Same (upd H' a (ExT (.ref D) (some dd) a)) H1 → H1 dd = some (.xd fs) := fun s => s _ _ (sE _ _ hx)
    generalize hHe : upd H' a (ExT (.ref D) (some dd) a) = He at *
    have r0 : Same He He := Same.refl He
    refine ⟨_, rfl, _, rfl, a, D, dd, fs, _, _, _, rfl, ha r0, hd r0, M.isC, fun _ r => r, M.k1, _, rfl, a, D, dd, fs, _, _, _, rfl, ha r0, hd r0, M.isC, fun _ r => r, M.k2, _, rfl, a, D, dd, fs, _, _, _, rfl, ha r0, hd r0, M.isC, fun _ r => r, M.k3, (by show 3 ≤ sizeLine; decide), fun p1 hp1 => ?_⟩
    have r1 := r0.put (o := .lst [.bl false, .bl false, .bl false]) hp1
    refine ⟨_, rfl, _, rfl, a, D, dd, fs, _, _, _, rfl, ha r1, hd r1, M.isC, fun _ r => r, M.k4, _, rfl, a, D, dd, fs, _, _, _, rfl, ha r1, hd r1, M.isC, fun _ r => r, M.k5, _, rfl, a, D, dd, fs, _, _, _, rfl, ha r1, hd r1, M.isC, fun _ r => r, M.k6, (by show 3 ≤ sizeLine; decide), fun p2 hp2 => ?_⟩
    have r2 := r1.put (o := .lst [.bl false, .bl false, .bl true]) (r1.free hp2)
    refine ⟨p1, p2, _, _, rfl, rfl, by rw [upd_ne (ne_of_none upd_same hp2), upd_same], upd_same, (by show 6 ≤ sizeLine; decide), fun p3 hp3 => ?_⟩
    have r3 := r2.put (o := .lst ([.bl false, .bl false, .bl false] ++ [.bl false, .bl false, .bl true])) (r2.free hp3)
    refine ⟨_, rfl, .inl ⟨rfl, _, SqL.of upd_same⟩, ?_⟩
    generalize hH3 : upd (upd (upd He p1 (.lst [.bl false, .bl false, .bl false])) p2 (.lst [.bl false, .bl false, .bl true])) p3 (.lst ([.bl false, .bl false, .bl false] ++ [.bl false, .bl false, .bl true])) = H3 at *
    have e3 : H3 p3 = some (.lst [.bl false, .bl false, .bl false, .bl false, .bl false, .bl true]) := by rw [← hH3, upd_same]; rfl
    refine ⟨_, rfl, (by show 6 ≤ sizeLine; decide), fun t ht => ?_⟩
    have r4 := r3.put (o := .tup [.ref (cl "NoText"), .ref (cl "NoAct"), .ref (cl "NoRecord"), .ref (cl "Barred"), .ref (cl "Unlike"), .ref (cl "NoRow")]) (r3.free ht)
    refine ⟨a, D, dd, t, fs, _, _, rfl, ha r4, hd r4, M.isC, upd_same, M.kt, p3, _, _, rfl, rfl, by rw [upd_ne (ne_of_none e3 ht)]; exact e3, (by show 6 < sizeLine; decide), ?_⟩
    have r5 : Same He (upd (upd H3 t (.tup [.ref (cl "NoText"), .ref (cl "NoAct"), .ref (cl "NoRecord"), .ref (cl "Barred"), .ref (cl "Unlike"), .ref (cl "NoRow")])) p3 (.lst ([.bl false, .bl false, .bl false, .bl false, .bl false, .bl true] ++ [.bl false]))) := fun b o e => by
      have n3 : b ≠ p3 := ne_of_none e (r2.free hp3)
      rw [upd_ne n3]
      exact r4 b o e
    generalize hH5 : upd (upd H3 t (.tup [.ref (cl "NoText"), .ref (cl "NoAct"), .ref (cl "NoRecord"), .ref (cl "Barred"), .ref (cl "Unlike"), .ref (cl "NoRow")])) p3 (.lst ([.bl false, .bl false, .bl false, .bl false, .bl false, .bl true] ++ [.bl false])) = H5 at *
    have e5 : H5 p3 = some (.lst [.bl false, .bl false, .bl false, .bl false, .bl false, .bl true, .bl false]) := by rw [← hH5, upd_same]; rfl
    refine ⟨_, rfl, .inl ⟨rfl, _, SqL.of e5⟩, p3, _, _, rfl, rfl, SqL.of e5, rfl, rfl, rfl, _, rfl, ite2 (fun z => absurd z (by decide)) fun _ => ?_⟩
    refine ⟨_, rfl, p3, _, 6, _, rfl, rfl, SqL.of e5, rfl, _, rfl, ite2 (fun z => absurd z (by decide)) fun _ => ?_⟩
    refine ⟨_, rfl, a, D, dd, fs, _, _, _, rfl, ha r5, hd r5, M.isC, fun _ r => r, M.kv, _, rfl, ite2 (fun z => absurd z (by decide)) fun _ => ?_⟩
    have ec : cutV [.bl false, .bl false, .bl false, .bl false, .bl false, .bl true, .bl false] none (some 3) = [.bl false, .bl false, .bl false] := by rfl
    refine ⟨_, rfl, ?_⟩
    refine ⟨3, rfl, p3, _, rfl, SqL.of e5, fun p4 hp4 => ?_⟩
    rw [ec]
    have r6 := r5.put (o := .lst [.bl false, .bl false, .bl false]) (r5.free hp4)
    have e6 : (upd H5 p4 (.lst [.bl false, .bl false, .bl false])) p3 = some (.lst [.bl false, .bl false, .bl false, .bl false, .bl false, .bl true, .bl false]) := by rw [upd_ne (ne_of_none e5 hp4)]; exact e5
    refine ⟨p4, _, rfl, .inl (SqL.of upd_same), rfl, rfl, _, rfl, ite2 (fun z => absurd z (by decide)) fun _ => ?_⟩
    refine ⟨_, rfl, p3, _, 3, _, rfl, rfl, SqL.of e6, rfl, _, rfl, ite2 (fun z => absurd z (by decide)) fun _ => ?_⟩
    refine ⟨_, rfl, p3, _, 4, _, rfl, rfl, SqL.of e6, rfl, _, rfl, ite2 (fun z => absurd z (by decide)) fun _ => ?_⟩
    refine ⟨_, rfl, a, D, dd, fs, v1, rfl, ha r6, hd r6, M.xf, M.fw, l1, _, rfl, a, D, dd, fs, v2, rfl, ha r6, hd r6, M.xf, M.fm, l2, (by show 3 ≤ sizeLine; decide), fun t2 ht2 => ?_⟩
    exact k t2 _ (sE.trans (r6.put (r6.free ht2))) upd_same
end K2
end
section
set_option Elab.async false
set_option maxRecDepth 100000
set_option linter.all false
/-! _law_heard for an error of NoClass: ('CLASS', reason, place) -/
namespace K2
open PySem L2 LamX
/-- D is the class NoClass -/
structure OfClass (K : PySem.W.Frag) (cl : Str → Addr) (D : Addr) : Prop where
  ex : PySem.W.exmOne K (.ref D) (.ref (cl "LeaveError")) = some true
  isC : ExcC K D
  xf : XfC K D
  fw : PySem.W.findIn K (.ref D) "reason" = some none
  fm : PySem.W.findIn K (.ref D) "place" = some none
  k1 : PySem.W.kitOne K (.ref D) (.ref (cl "NoClass")) = some true
  k2 : PySem.W.kitOne K (.ref D) (.ref (cl "NoFunction")) = some false
  k3 : PySem.W.kitOne K (.ref D) (.ref (cl "NoProgram")) = some false
  k4 : PySem.W.kitOne K (.ref D) (.ref (cl "NoName")) = some false
  k5 : PySem.W.kitOne K (.ref D) (.ref (cl "NoCase")) = some false
  k6 : PySem.W.kitOne K (.ref D) (.ref (cl "TooMany")) = some false
  kt : PySem.W.kitAny K (.ref D) ([cl "NoText", cl "NoAct", cl "NoRecord", cl "Barred", cl "Unlike", cl "NoRow"].map Value.ref) = some false
  kv : PySem.W.kitOne K (.ref D) (.type "ValueError") = some true
def HMC (K : PySem.W.Frag) (cl : Str → Addr) (Q : VK) : XK := fun cls d H' => ∃ (D dd : Addr) (fs : List (Str × V)) (v1 v2 : V), cls = .ref D ∧ d = some dd ∧ H' dd = some (.xd fs) ∧ OfClass K cl D ∧ fs.lookup ("reason" : Str) = some v1 ∧ fs.lookup ("place" : Str) = some v2 ∧
  ∀ (t : Addr) (H'' : Hp), Same H' H'' → H'' t = some (.tup [.str "CLASS", v1, v2]) → Q (.ref t) H''
def TThC (K : PySem.W.Frag) (cl : Str → Addr) : (XK → Hp → VK → Prop) → Hp → VK → Prop := fun tl H Q => tl (HMC K cl Q) H fun v H' => [v].length ≤ sizeLine ∧ ∀ p, H' p = none → Q (.ref p) (upd H' p (.lst [v]))
theorem heard_givesC {X : Cx} {g : Addr} {cdg : Value} {q : Str} {cl : Str → Addr} (T : Bi X.mg) (tVE : X.mg "ValueError" = none) (hcl : ∀ x ∈ errs, X.mg x = some (.ref (cl x))) :
    GivesTo X nHeard "_law_heard" (defScope sHeard) g cdg (defBody sHeard) "_law_ask" q (TThC X.K cl) := by
  intro f c' s H Q tl act hc h
  have hge : Gl (cxOf C8.CX0 X.prog X.w X.K X.mg X.base nHeard "_law_heard" (defScope sHeard) g cdg X.A X.stack s H C8.E0).nox "LeaveError" := by rfl
  refine ⟨_, (pss_cons (ps_set (i := 1) scHeard.nd rfl (Or.inl rfl) pe_non)
    (pss_cons (ps_try_asT (X := (cxOf C8.CX0 X.prog X.w X.K X.mg X.base nHeard "_law_heard" (defScope sHeard) g cdg X.A X.stack s H C8.E0).nox) (i := 2) (c := .ref (cl "LeaveError"))
      (tb := fun W D σ H => ∃ Ech : XK, (∀ cls d σ' H', Ech cls d H' → W cls d σ' H') ∧ σ[0]? = some (some (.ref f)) ∧ H c' = some (CodeO c' q) ∧ tl Ech H fun v H1 => [v].length ≤ sizeLine ∧ ∀ p, H1 p = none → D.rt (.ref p) (upd H1 p (.lst [v])))
      rfl rfl scHeard.nd rfl (by rfl) ⟨hge, by decide +kernel, .inl (hcl "LeaveError" (by decide +kernel))⟩ LamX.takes0 (fun W pn xe tk _ => ?_) (fun a cls d pn => pss_one (ps_set (i := 1) scHeard.nd rfl (Or.inl rfl) (pv 2))))
    (pss_cons (ps_set (i := 3) scHeard.nd rfl (Or.inl rfl) (pe_lst (pa_cons (pe_callB call_isT (by rfl) T.isinstance (by decide +kernel) (pa_cons (pv 1) (pa_cons (pe_glob (v := .ref (cl "NoClass")) (by rfl) (hcl "NoClass" (by decide +kernel)) rfl) pa_nil))) (pa_cons (pe_callB call_isT (by rfl) T.isinstance (by decide +kernel) (pa_cons (pv 1) (pa_cons (pe_glob (v := .ref (cl "NoFunction")) (by rfl) (hcl "NoFunction" (by decide +kernel)) rfl) pa_nil))) (pa_cons (pe_callB call_isT (by rfl) T.isinstance (by decide +kernel) (pa_cons (pv 1) (pa_cons (pe_glob (v := .ref (cl "NoProgram")) (by rfl) (hcl "NoProgram" (by decide +kernel)) rfl) pa_nil))) pa_nil)))))
    (pss_cons (ps_set (i := 3) scHeard.nd rfl (Or.inl rfl) (pe_op op_cat (pv 3) (pe_lst (pa_cons (pe_callB call_isT (by rfl) T.isinstance (by decide +kernel) (pa_cons (pv 1) (pa_cons (pe_glob (v := .ref (cl "NoName")) (by rfl) (hcl "NoName" (by decide +kernel)) rfl) pa_nil))) (pa_cons (pe_callB call_isT (by rfl) T.isinstance (by decide +kernel) (pa_cons (pv 1) (pa_cons (pe_glob (v := .ref (cl "NoCase")) (by rfl) (hcl "NoCase" (by decide +kernel)) rfl) pa_nil))) (pa_cons (pe_callB call_isT (by rfl) T.isinstance (by decide +kernel) (pa_cons (pv 1) (pa_cons (pe_glob (v := .ref (cl "TooMany")) (by rfl) (hcl "TooMany" (by decide +kernel)) rfl) pa_nil))) pa_nil))))))
    (pss_cons (ps_expr (pe_bm PySem.F.plainAttrs_list PySem.F.slot_list_append PySem.F.type_list_append mt_append (pv 3) (pa_cons (pe_callB call_isTT (by rfl) T.isinstance (by decide +kernel) (pa_cons (pv 1) (pa_cons (pe_tup (pa_cons (pe_glob (v := .ref (cl "NoText")) (by rfl) (hcl "NoText" (by decide +kernel)) rfl) (pa_cons (pe_glob (v := .ref (cl "NoAct")) (by rfl) (hcl "NoAct" (by decide +kernel)) rfl) (pa_cons (pe_glob (v := .ref (cl "NoRecord")) (by rfl) (hcl "NoRecord" (by decide +kernel)) rfl) (pa_cons (pe_glob (v := .ref (cl "Barred")) (by rfl) (hcl "Barred" (by decide +kernel)) rfl) (pa_cons (pe_glob (v := .ref (cl "Unlike")) (by rfl) (hcl "Unlike" (by decide +kernel)) rfl) (pa_cons (pe_glob (v := .ref (cl "NoRow")) (by rfl) (hcl "NoRow" (by decide +kernel)) rfl) pa_nil))))))) pa_nil))) pa_nil)))
    (pss_cons (ps_if (PW.pt (pw_or (pt_cmpR op_ne (pe_bm PySem.F.plainAttrs_list PySem.F.slot_list_count PySem.F.type_list_count mt_lcountB (pv 3) (pa_cons pe_bl pa_nil)) pe_int (nomark _))
        (pw_or (pt_val (pe_ix ix_list (pv 3) pe_int (fun _ _ => rfl))) (pw_or1 (pt_not (pt_val (pe_callB call_isT (by rfl) T.isinstance (by decide +kernel) (pa_cons (pv 1) (pa_cons (pe_bltn (v := .ty "ValueError") (by rfl) tVE (by decide +kernel) rfl) pa_nil))))))))) (pss_one ps_dead) pss_nil)
    (pss_cons (ps_if (pt_cmpR op_in_seq pe_bl (pe_slice sl_list (pv 3) po_none (po_some pe_int)) rfl)
      (pss_one (ps_ret (pe_tup (pa_cons (pe_ix ix_list (pe_lst (pa_cons pe_str (pa_cons pe_str (pa_cons pe_str pa_nil)))) (pe_bm PySem.F.plainAttrs_list PySem.F.slot_list_index PySem.F.type_list_index mt_index (pv 3) (pa_cons pe_bl pa_nil)) (fun _ _ => rfl)) (pa_cons (pe_xt (pv 1)) (pa_cons (pe_xt (pv 1)) pa_nil)))))) pss_nil)
    (pss_cons ps_dead (pss_one ps_dead))))))))), ?_⟩
  · refine ⟨fun pins s' σ H' D I h' => ?_⟩
    obtain ⟨Ech, hW, h1, h2, h3⟩ := h'
    refine (pss_one (ps_ret (pe_lst (pa_cons (act W pn xe Ech _ _ tk hW) pa_nil)))).run pins s' σ H' D I ?_
    exact ⟨h1, h2, h3⟩
  · refine ⟨HMC X.K cl Q, fun cls d σ' H' hm hlen => ?_, rfl, hc, h⟩
    obtain ⟨D, dd, fs, v1, v2, rfl, rfl, hx, M, l1, l2, k⟩ := hm
    refine ⟨true, M.ex, fun _ a na => ?_, fun z => nomatch z⟩
    obtain ⟨s0, s1, s2, s3, rfl⟩ : ∃ s0 s1 s2 s3, σ' = [s0, s1, s2, s3] := by
      match σ', hlen with
      | [s0, s1, s2, s3], _ => exact ⟨s0, s1, s2, s3, rfl⟩
    have sE : Same H' (upd H' a (ExT (.ref D) (some dd) a)) := (Same.refl H').put na
    have ha : ∀ {H1 : Hp}, Same (upd H' a (ExT (.ref D) (some dd) a)) H1 → H1 a = some (ExT (.ref D) (some dd) a) := fun s => s _ _ upd_same
    have hd : ∀ {H1 : Hp}, Same (upd H' a (ExT (.ref D) (some dd) a)) H1 → H1 dd = some (.xd fs) := fun s => s _ _ (sE _ _ hx)
    generalize hHe : upd H' a (ExT (.ref D) (some dd) a) = He at *
    have r0 : Same He He := Same.refl He
    refine ⟨_, rfl, _, rfl, a, D, dd, fs, _, _, _, rfl, ha r0, hd r0, M.isC, fun _ r => r, M.k1, _, rfl, a, D, dd, fs, _, _, _, rfl, ha r0, hd r0, M.isC, fun _ r => r, M.k2, _, rfl, a, D, dd, fs, _, _, _, rfl, ha r0, hd r0, M.isC, fun _ r => r, M.k3, (by show 3 ≤ sizeLine; decide), fun p1 hp1 => ?_⟩
    have r1 := r0.put (o := .lst [.bl true, .bl false, .bl false]) hp1
    refine ⟨_, rfl, _, rfl, a, D, dd, fs, _, _, _, rfl, ha r1, hd r1, M.isC, fun _ r => r, M.k4, _, rfl, a, D, dd, fs, _, _, _, rfl, ha r1, hd r1, M.isC, fun _ r => r, M.k5, _, rfl, a, D, dd, fs, _, _, _, rfl, ha r1, hd r1, M.isC, fun _ r => r, M.k6, (by show 3 ≤ sizeLine; decide), fun p2 hp2 => ?_⟩
    have r2 := r1.put (o := .lst [.bl false, .bl false, .bl false]) (r1.free hp2)
    refine ⟨p1, p2, _, _, rfl, rfl, by rw [upd_ne (ne_of_none upd_same hp2), upd_same], upd_same, (by show 6 ≤ sizeLine; decide), fun p3 hp3 => ?_⟩
    have r3 := r2.put (o := .lst ([.bl true, .bl false, .bl false] ++ [.bl false, .bl false, .bl false])) (r2.free hp3)
    refine ⟨_, rfl, .inl ⟨rfl, _, SqL.of upd_same⟩, ?_⟩
    generalize hH3 : upd (upd (upd He p1 (.lst [.bl true, .bl false, .bl false])) p2 (.lst [.bl false, .bl false, .bl false])) p3 (.lst ([.bl true, .bl false, .bl false] ++ [.bl false, .bl false, .bl false])) = H3 at *
    have e3 : H3 p3 = some (.lst [.bl true, .bl false, .bl false, .bl false, .bl false, .bl false]) := by rw [← hH3, upd_same]; rfl
    refine ⟨_, rfl, (by show 6 ≤ sizeLine; decide), fun t ht => ?_⟩
    have r4 := r3.put (o := .tup [.ref (cl "NoText"), .ref (cl "NoAct"), .ref (cl "NoRecord"), .ref (cl "Barred"), .ref (cl "Unlike"), .ref (cl "NoRow")]) (r3.free ht)
    refine ⟨a, D, dd, t, fs, _, _, rfl, ha r4, hd r4, M.isC, upd_same, M.kt, p3, _, _, rfl, rfl, by rw [upd_ne (ne_of_none e3 ht)]; exact e3, (by show 6 < sizeLine; decide), ?_⟩
    have r5 : Same He (upd (upd H3 t (.tup [.ref (cl "NoText"), .ref (cl "NoAct"), .ref (cl "NoRecord"), .ref (cl "Barred"), .ref (cl "Unlike"), .ref (cl "NoRow")])) p3 (.lst ([.bl true, .bl false, .bl false, .bl false, .bl false, .bl false] ++ [.bl false]))) := fun b o e => by
      have n3 : b ≠ p3 := ne_of_none e (r2.free hp3)
      rw [upd_ne n3]
      exact r4 b o e
    generalize hH5 : upd (upd H3 t (.tup [.ref (cl "NoText"), .ref (cl "NoAct"), .ref (cl "NoRecord"), .ref (cl "Barred"), .ref (cl "Unlike"), .ref (cl "NoRow")])) p3 (.lst ([.bl true, .bl false, .bl false, .bl false, .bl false, .bl false] ++ [.bl false])) = H5 at *
    have e5 : H5 p3 = some (.lst [.bl true, .bl false, .bl false, .bl false, .bl false, .bl false, .bl false]) := by rw [← hH5, upd_same]; rfl
    refine ⟨_, rfl, .inl ⟨rfl, _, SqL.of e5⟩, p3, _, _, rfl, rfl, SqL.of e5, rfl, rfl, rfl, _, rfl, ite2 (fun z => absurd z (by decide)) fun _ => ?_⟩
    refine ⟨_, rfl, p3, _, 6, _, rfl, rfl, SqL.of e5, rfl, _, rfl, ite2 (fun z => absurd z (by decide)) fun _ => ?_⟩
    refine ⟨_, rfl, a, D, dd, fs, _, _, _, rfl, ha r5, hd r5, M.isC, fun _ r => r, M.kv, _, rfl, ite2 (fun z => absurd z (by decide)) fun _ => ?_⟩
    have ec : cutV [.bl true, .bl false, .bl false, .bl false, .bl false, .bl false, .bl false] none (some 3) = [.bl true, .bl false, .bl false] := by rfl
    refine ⟨_, rfl, 3, rfl, p3, _, rfl, SqL.of e5, fun p4 hp4 => ?_⟩
    rw [ec]
    have r6 := r5.put (o := .lst [.bl true, .bl false, .bl false]) (r5.free hp4)
    have e6 : (upd H5 p4 (.lst [.bl true, .bl false, .bl false])) p3 = some (.lst [.bl true, .bl false, .bl false, .bl false, .bl false, .bl false, .bl false]) := by rw [upd_ne (ne_of_none e5 hp4)]; exact e5
    refine ⟨p4, _, rfl, .inl (SqL.of upd_same), rfl, rfl, _, rfl, ite2 (fun _ => ?_) fun z => absurd rfl z⟩
    refine ⟨(by show 3 ≤ sizeLine; decide), fun p5 hp5 => ?_⟩
    have r7 := r6.put (o := .lst [.str "CLASS", .str "FUNCTION", .str "PROGRAM"]) (r6.free hp5)
    have e7 : (upd (upd H5 p4 (.lst [.bl true, .bl false, .bl false])) p5 (.lst [.str "CLASS", .str "FUNCTION", .str "PROGRAM"])) p3 = some (.lst [.bl true, .bl false, .bl false, .bl false, .bl false, .bl false, .bl false]) := by rw [upd_ne (ne_of_none e6 hp5)]; exact e6
    refine ⟨_, rfl, .inl ⟨rfl, _, SqL.of e7⟩, p3, _, _, 0, _, rfl, rfl, SqL.of e7, rfl, rfl, rfl, rfl, (fun m z h => absurd h (Nat.not_lt_zero m)), p5, _, _, _, rfl, rfl, SqL.of upd_same, atI_nat (j := 0) rfl, ?_⟩
    refine ⟨_, rfl, a, D, dd, fs, v1, rfl, ha r7, hd r7, M.xf, M.fw, l1, _, rfl, a, D, dd, fs, v2, rfl, ha r7, hd r7, M.xf, M.fm, l2, (by show 3 ≤ sizeLine; decide), fun t2 ht2 => ?_⟩
    exact k t2 _ (sE.trans (r7.put (r7.free ht2))) upd_same
end K2
end
section
set_option Elab.async false
set_option maxRecDepth 100000
set_option linter.all false
namespace K2
open PySem L2 PySem.Spec PyProof.Rows
theorem pick_all {α : Type} : ∀ l : List α, (List.range l.length).filterMap (fun k => l[k]?) = l
  | [] => rfl
  | a :: l => by
    rw [List.length_cons, List.range_succ_eq_map, List.filterMap_cons]
    simp only [List.getElem?_cons_zero, List.filterMap_map]
    congr 1
    have e : ((fun k => (a :: l)[k]?) ∘ Nat.succ) = fun k => l[k]? := by
      funext k
      simp
    rw [e]
    exact pick_all l
theorem pick_rev (xs : Array Value) : (List.range xs.size).filterMap (fun (k : Nat) => xs[(((xs.size : Int) - 1) + (k : Int) * (-1)).toNat]?) = xs.toList.reverse := by
  have h := pick_all xs.toList.reverse
  rw [List.length_reverse, Array.length_toList] at h
  refine Eq.trans ?_ h
  have cong : ∀ (l : List Nat) (f g : Nat → Option Value), (∀ k ∈ l, f k = g k) → l.filterMap f = l.filterMap g := by
    intro l f g
    induction l with
    | nil => intro _; rfl
    | cons a l ih =>
      intro q
      rw [List.filterMap_cons, List.filterMap_cons, q a List.mem_cons_self, ih fun k hk => q k (List.mem_cons_of_mem _ hk)]
  refine cong _ _ _ fun k hk => ?_
  have hk := List.mem_range.mp hk
  rw [List.getElem?_reverse (by rw [Array.length_toList]; exact hk), Array.length_toList, Array.getElem?_toList]
  congr 1
  omega
section
variable {prog : Program} {w : World} {A : Around} {E : Value → Shared → Prop} {s : Shared}
theorem rev_applied {sl : Addr} {vs : Value} {n : Nat} {Q : Int × Int × Nat → Shared → Prop} (hn : 0 < n) (hs : s.heap.IsSliceOf sl .none .none vs) (ps : IsPart vs (some (-1)))
    (h : Q (((n : Int) - 1), -1, n) s) : wpAny (model prog w) A (Builtin.Slice.sliceApplied (.ref sl) (pure (n : Int))) Q E s := by
  obtain ⟨os, hos, hcs, hds⟩ := id hs
  unfold Builtin.Slice.sliceApplied Builtin.Slice.sliceFields
  refine wpAny_bind (wpAny_bind (wpAny_field hos hds (x := .none) rfl (wpAny_bind (wpAny_field hos hds (x := .none) rfl (wpAny_bind (wpAny_field hos hds (x := vs) rfl (wpAny_pure ?_)))))))
  refine wpAny_bind (HT.slicePart_ ps ?_)
  show wpAny _ _ (if ((-1 : Int) == 0) = true then _ else _) _ _ s
  rw [if_neg (by decide)]
  refine wpAny_bind (slicePart_none (wpAny_bind (slicePart_none (wpAny_bind (wpAny_pure ?_)))))
  have e : Builtin.Slice.slicePlaces ((n : Int) - 1) (-1) (-1) = n := by
    unfold Builtin.Slice.slicePlaces
    rw [if_neg (by decide), if_pos (by omega)]
    have : ((n : Int) - 1 - -1 - 1) / (- -1) + 1 = n := by
      rw [show (- -1 : Int) = 1 from rfl, Int.ediv_one]
      omega
    rw [this]
    rfl
  show wpAny _ _ (pure (((n : Int) - 1), (-1 : Int), Builtin.Slice.slicePlaces ((n : Int) - 1) (-1) (-1))) _ _ s
  rw [e]
  exact wpAny_pure h
theorem rev_tuple {t sl : Addr} {items : Array Value} {vs : Value} {Q : Value → Shared → Prop} (hn : 0 < items.size) (ht : IsTup s.heap t items) (hs : s.heap.IsSliceOf sl .none .none vs) (ps : IsPart vs (some (-1)))
    (h : Q (.ref s.heap.objs.size) { s with heap := s.heap.push { cls := .type "tuple", data := .seq items.toList.reverse.toArray } }) (hsz : items.size ≤ sizeLine) : wpAny (model prog w) A (getItem (.ref t) (.ref sl)) Q E s := by
  have hz : sizeOk (.seq items.toList.reverse.toArray) := by
    show items.toList.reverse.toArray.size ≤ sizeLine
    rw [List.size_toArray, List.length_reverse, Array.length_toList]
    exact hsz
  obtain ⟨os, hos, hcs, hds⟩ := id hs
  have hTs : s.TypeIs (.ref sl) "slice" := ⟨os, hos, hcs⟩
  unfold getItem
  try with_reducible refine wpAny_holding ?_
  first | refine wpAny_bind (wpAny_pure ?_) | skip
  refine wpAny_bind (wpAny_sequenceKey ht.typeIs (by decide) ?_)
  refine wpAny_bind (wpAny_callSpecial?_slot (name := Str.ofString "__getitem__") ht.typeIs PyProof.Rows.slot_tuple_getitem
    (wpAny_call_entry PyProof.Rows.slot_tuple_getitem ht.typeIs entry_tuple_getitem ?_ (args_tuple_getitem _ _)))
  show wpAny _ _ (Builtin.Tuple.tupleItemsOf (.ref t) >>= _) _ _ s
  refine wpAny_bind (PyProof.Rows.tupleItemsOf_ ht ?_)
  refine wpAny_bind (wpAny_typeOf hTs ?_)
  rw [if_pos (by decide)]
  refine wpAny_bind (rev_applied hn hs ps ?_)
  have no : ¬ ((((items.size : Int) - 1) == 0 && (-1 : Int) == 1 && items.size == items.size) = true) := by simp
  show wpAny _ _ (if (((items.size : Int) - 1) == 0 && (-1 : Int) == 1 && items.size == items.size) = true then _ else _) _ _ s
  rw [if_neg no, pick_rev]
  first
    | exact wpAny_bind (m := Builtin.Tuple.tupleExact _) (wpAny_newObj_type (wpAny_pure ⟨_, rfl, wpAny_pure h⟩) hz)
    | exact wpAny_bind (m := Builtin.Tuple.tupleExact _) (wpAny_newObj_type (wpAny_bind (wpAny_pure (wpAny_pure ⟨_, rfl, wpAny_pure h⟩))) hz)
    | exact wpAny_bind (wpAny_bind (m := Builtin.Tuple.tupleExact _) (wpAny_newObj_type (wpAny_pure (wpAny_pure ⟨_, rfl, wpAny_pure h⟩)) hz))
    | exact wpAny_bind (wpAny_bind (m := Builtin.Tuple.tupleExact _) (wpAny_newObj_type (wpAny_pure ⟨_, rfl, wpAny_pure h⟩) hz))
end
/-- t[::-1] of a tuple -/
def tRevT (te : TE) : TE := fun σ H Q => te σ H fun x H1 => ∃ a xs, x = .ref a ∧ H1 a = some (.tup xs) ∧ 0 < xs.length ∧ ∀ p, H1 p = none → Q (.ref p) (upd H1 p (.tup xs.reverse))
theorem pe_revT {X : Cx} {e : Expr} {te : TE} {k : Nat} {p1 p2 p3 pos : Pos} (he : PE X e te) : PE X (.Subscript e (.Slice none none (some (.UnaryOp .USub (.Constant (.int 1) k p1) p2)) p3) pos) (tRevT te) := by
  constructor
  intro pins s σ H Q I h
  refine Subscript_ (thn (he.run pins s σ H _ I h) fun v s1 ⟨x, H1, I1, r1, a, xs, ex, hx, hn, q⟩ => ?_)
  subst ex
  cases r1
  have hst : PO X (some (.UnaryOp .USub (.Constant (.int 1) k p1) p2)) (tPart (tUn (rU fun i => .int (-i)) (tC (.int 1)))) := po_some (pe_un un_neg pe_int)
  refine wpAny_Slice (thn (po_none.run pins s1 σ H1 (fun o H2 => o = none ∧ H2 = H1) I1 ⟨rfl, rfl⟩) fun vl s2 ⟨l, H2, I2, pl, el, e2⟩ => ?_)
  subst el e2
  refine thn (po_none.run pins s2 σ H2 (fun o H3 => o = none ∧ H3 = H2) I2 ⟨rfl, rfl⟩) fun vu s3 ⟨u, H3, I3, pu, eu, e3⟩ => ?_
  subst eu e3
  refine thn (hst.run pins s3 σ H3 (fun o H4 => o = some (-1) ∧ H4 = H3) I3 ⟨1, rfl, -1, rfl, rfl, rfl⟩) fun vs s4 ⟨o, H4, I4, ps, eo, e4⟩ => ?_
  subst eo e4
  cases pl
  cases pu
  have I5 : Inv X pins σ H4 { s4 with heap := s4.heap.push { cls := .type "slice", data := .fields #[.none, .none, vs] } } := I4.kept (t' := s4.toks) fun b ob q => Heap.get?_push_of_some _ q
  obtain ⟨its, r, ht, hz⟩ := I5.tuple (SqT.of hx)
  have hlen := r.length
  show wpAny (model X.prog X.w) X.A (subscriptTail e (.Slice none none (some (.UnaryOp .USub (.Constant (.int 1) k p1) p2)) p3) (.ref a) (.ref s4.heap.objs.size)) (EP X pins σ Q) X.xe { s4 with heap := s4.heap.push { cls := .type "slice", data := .fields #[.none, .none, vs] } }
  refine tail_any (ops := [.ref a, .ref s4.heap.objs.size]) ht.typeIs (PyProof.Rows.slot_tuple_getitem.lookup) ?_ (by with_unfolding_all rfl)
  refine rev_tuple (by rw [List.size_toArray]; omega) ht (Heap.IsSliceOf.new _ .none .none vs) ps ?_ (by rw [List.size_toArray]; omega)
  refine ⟨.ref _, _, I5.laid (t' := s4.toks) (o := .tup xs.reverse) (fun b ob q => Heap.get?_push_of_some _ q) (Nat.le_refl _) ?_, rfl, q _ (I5.hok.fresh (Nat.le_refl _))⟩
  exact ⟨by rw [List.length_reverse]; exact hz, _, r.reverse, IsTup.new _ _⟩
end K2
end
section
set_option Elab.async false
set_option maxRecDepth 100000
set_option linter.all false
namespace K2
open PySem L2
theorem _root_.L2.TyX.same {K : PySem.W.Frag} {H H' : Hp} {x : V} {t : Value} (h : TyX K H x t) (s : Same H H') : TyX K H' x t := by
  cases h with
  | base h =>
    cases h with
    | non => exact .base .non
    | bl b => exact .base (.bl b)
    | int i => exact .base (.int i)
    | str y => exact .base (.str y)
    | flt y => exact .base (.flt y)
    | lst e => exact .base (.lst (s _ _ e))
    | frz e => exact .base (.frz (s _ _ e))
    | tup e => exact .base (.tup (s _ _ e))
    | dK e => exact .base (.dK (s _ _ e))
    | dT e => exact .base (.dT (s _ _ e))
    | ins e cl ha hn htk hm => exact .base (.ins (s _ _ e) cl ha hn htk hm)
  | byt b => exact .byt b
  | set e => exact .set (s _ _ e)
  | kList e c => exact .kList e c
  | kTuple e c => exact .kTuple e c
  | kDict e c => exact .kDict e c
  | fTuple e => exact .fTuple (s _ _ e)
  | fDict e => exact .fDict (s _ _ e)
/-- is_word of a text -/
def isW (x : Str) : Bool := !decide (8 < x.length) && (Txt.isascii x && (Txt.isalpha x && (Txt.islower x && !decide (x ∈ resd))))
theorem vw_isW {x : Str} (h : VW x) : isW x = true := by
  have hl : x.length ≤ 8 := by rw [len_codes]; exact h.le
  unfold isW
  rw [vw_ascii h, vw_alpha h, vw_lower h, decide_eq_false h.nr, decide_eq_false (by omega)]
  rfl
theorem long_isW {x : Str} (h : 8 < x.length) : isW x = false := by
  unfold isW
  rw [decide_eq_true h]
  rfl
/-- is_word of a value gives b -/
inductive WdV (K : PySem.W.Frag) (H : Hp) : V → Bool → Prop where
  | str (x : Str) (l : x.length ≤ sizeLine) : WdV K H (.str x) (isW x)
  | no {x : V} {t : Value} (ty : TyX K H x t) (k : PySem.W.kitOne K t (.type "str") = some false) : WdV K H x false
theorem WdV.same {K : PySem.W.Frag} {H H' : Hp} {x : V} {b : Bool} (h : WdV K H x b) (s : Same H H') : WdV K H' x b := by
  cases h with
  | str x l => exact .str x l
  | no ty k => exact .no (ty.same s) k
theorem WdV.vw {K : PySem.W.Frag} {H : Hp} {x : Str} (h : VW x) : WdV K H (.str x) true := by
  have := WdV.str (K := K) (H := H) x (Nat.le_trans (by rw [len_codes]; exact h.le) (by decide : 8 ≤ sizeLine))
  rwa [vw_isW h] at this
def spIsWG (K : PySem.W.Frag) : Sp := fun vs H Q _ => ∃ (x : V) (b : Bool), vs = [x] ∧ WdV K H x b ∧ Q (.bl b) H
/-- what the items of a tuple give -/
def WdAll (K : PySem.W.Frag) (H : Hp) (xs : List V) (bs : List Bool) : Prop := xs.length = bs.length ∧ ∀ (i : Nat) (x : V) (b : Bool), xs[i]? = some x → bs[i]? = some b → WdV K H x b
theorem WdAll.vw {K : PySem.W.Frag} {H : Hp} {xs : List Str} (h : ∀ x ∈ xs, VW x) : WdAll K H (xs.map V.str) (xs.map fun _ => true) :=
  ⟨by simp, fun i x b h1 h2 => by
    rw [List.getElem?_map] at h1 h2
    cases hx : xs[i]? with
    | none => rw [hx] at h1; cases h1
    | some y =>
      rw [hx] at h1 h2
      cases h1
      cases h2
      exact .vw (h y (List.mem_of_getElem? hx))⟩
def spAreWG (K : PySem.W.Frag) : Sp := fun vs H Q _ => ∃ (t : Addr) (xs : List V) (bs : List Bool), vs = [.ref t] ∧ H t = some (.tup xs) ∧ WdAll K H xs bs ∧ xs.length ≤ 100 ∧ ∀ H', Same H H' → Q (.bl (bs.all id)) H'
section
variable {P : Program} {w : World} {K : PySem.W.Frag} {mg : Str → Option Value} {base : Heap}
theorem ok_iswG {f aR : Addr} {t1 t2 : Tok} {fd : FuncData} (F : Fun K "is_word" "is_word" sIsW f fd) (T : Bi mg) (G : Gb K mg aR t1 t2) : FnOk P w K mg base CX0 1 f fd ["x"] (spIsWG K) := by
  refine F.ok scIsW (fun vs H Q E h => ?_) (fun cdv A outer s H vs Q E hr h => ?_)
  · obtain ⟨x, b, rfl, _⟩ := h
    rfl
  · obtain ⟨x, b, rfl, hx, k⟩ := h
    refine ⟨_, (pss_cons (ps_if (PW.pt (pw_or (pt_not (pt_val (pe_callB call_isi (by rfl) T.isinstance (by decide +kernel) (pa_cons (pv 0) (pa_cons (pe_bltn (v := .ty "str") (by rfl) T.str (by decide +kernel) rfl) pa_nil))))) (pw_or1 (pt_cmpR op_gt (pe_callB call_len_str (by rfl) T.len PySem.boot_len (pa_cons (pv 0) pa_nil)) (pe_glob (v := .int 8) rfl G.long ⟨_, rfl⟩) (nomark _)))))
      (pss_one (ps_ret pe_bl))
      pss_nil)
      (pss_one (ps_ret (pe_and (pe_m0 PySem.F.slot_str_isascii PySem.F.type_str_isascii mt_isascii (pv 0)) (pe_and (pe_m0 PySem.F.slot_str_isalpha PySem.F.type_str_isalpha mt_isalpha (pv 0)) (pe_and (pe_m0 PySem.F.slot_str_islower PySem.F.type_str_islower mt_islower (pv 0)) (pe_one (pe_cmpR op_notIn_seq (pv 0) (pe_glob (v := .ref aR) rfl G.res rfl) rfl)))))))), ?_⟩
    cases hx with
    | no ty kk => exact ⟨_, rfl, _, _, _, _, false, rfl, .ty _, ty, kk, _, rfl, iteT k⟩
    | str x hl =>
      refine ⟨_, rfl, _, _, _, _, true, rfl, .ty _, .base (.str _), kit_ty (by decide +kernel), _, rfl, ?_⟩
      refine ⟨_, rfl, _, rfl, hl, _, _, rfl, rfl, _, rfl, ite2 (fun h8 => ?_) (fun h8 => ?_)⟩
      · have h8 := of_decide_eq_true h8
        rw [long_isW (by omega)] at k
        exact k
      have h8 : ¬ 8 < x.length := fun q => h8 (decide_eq_true (by omega))
      have e : isW x = (Txt.isascii x && (Txt.isalpha x && (Txt.islower x && !decide (x ∈ resd)))) := by
        unfold isW
        rw [decide_eq_false h8]
        rfl
      rw [e] at k
      refine ⟨_, rfl, ⟨_, rfl⟩, _, rfl, rfl, trivial, _, rfl, ?_⟩
      cases h1 : Txt.isascii x with
      | false => rw [h1] at k; exact iteF k
      | true =>
        rw [h1] at k
        refine iteT ⟨_, rfl, ⟨_, rfl⟩, _, rfl, rfl, trivial, _, rfl, ?_⟩
        cases h2 : Txt.isalpha x with
        | false => rw [h2] at k; exact iteF k
        | true =>
          rw [h2] at k
          refine iteT ⟨_, rfl, ⟨_, rfl⟩, _, rfl, rfl, trivial, _, rfl, ?_⟩
          cases h3 : Txt.islower x with
          | false => rw [h3] at k; exact iteF k
          | true =>
            rw [h3] at k
            refine iteT ⟨_, rfl, aR, _, rfl, .inr (G.resT H), rfl, flat_strs _, ?_⟩
            rw [if_pos rfl, inV_strs]
            exact k
theorem ok_arewG {f fI : Addr} {fd fdI : FuncData} (F : Fun K "are_words" "are_words" sAreW f fd) (T : Bi mg) (IW : Df K mg "is_word" sIsW fI fdI ["x"]) (GI : FnOk P w K mg base CX0 1 fI fdI ["x"] (spIsWG K)) : FnOk P w K mg base CX0 2 f fd ["xs"] (spAreWG K) := by
  refine F.ok scAreW (fun vs H Q E h => ?_) (fun cdv A outer s H vs Q E hr h => ?_)
  · obtain ⟨t, xs, bs, rfl, _⟩ := h
    rfl
  · obtain ⟨t, xs, bs, rfl, ht, hx, hl, k⟩ := h
    have hr0 : Room 1 _ := hr
    refine ⟨_, (pss_one (ps_ret (pe_callB (cr_all rfl) (by rfl) T.all (by decide +kernel) (pa_cons (pe_lc (own := [("x", 1)]) (g := gName 1) (tt := tYes) rfl scAreW.nd (pi_tup (pv 0)) (blkOk_by (N := nAreW) (sc := defScope sAreW) (by decide +kernel)) (fun _ _ _ _ _ => pg_name (i := 1) scAreW.nd rfl (Or.inl rfl)) (fun _ _ _ _ _ => pts_nil) (fun _ _ _ _ _ => pe_call GI hr0 (by rfl) IW.m IW.F.kp IW.b .nil pass0 (pa_cons (pv 1) pa_nil))) pa_nil)))), ?_⟩
    refine ⟨_, rfl, t, rfl, ⟨_, SqT.of ht⟩, fun D hD => ?_⟩
    refine lc_tup (K := K) (a := t) (xs := xs) (fun i Hc => Hc D = some (.lst ((bs.take i).map V.bl)) ∧ Same H Hc) ?_ ?_ ?_ ?_
    · exact ⟨upd_same, (Same.refl H).put hD⟩
    · rintro i Hc _ ⟨_, sm⟩
      exact SqT.of (sm t _ ht)
    · rintro i y Hc hy ⟨h1, sm⟩
      have hil : i < xs.length := (List.getElem?_eq_some_iff.mp hy).1
      have hbi : bs[i]? = some (bs[i]'(by rw [← hx.1]; exact hil)) := List.getElem?_eq_getElem _
      generalize bs[i]'(by rw [← hx.1]; exact hil) = b at hbi
      refine ⟨rfl, _, rfl, y, b, rfl, (hx.2 i y b hy hbi).same sm, _, h1, ?_, ?_, sm.put hD⟩
      · rw [List.length_map, List.length_take]; show _ < 16777216; omega
      · rw [upd_same, List.take_add_one, hbi, List.map_append]
        rfl
    · rintro Hc ⟨h1, sm⟩
      rw [hx.1, List.take_length] at h1
      exact ⟨D, _, rfl, SqL.of h1, k Hc sm⟩
end
/-! ### NoClass -/
abbrev sNCI : Stmt := inClass (top 2) 0
def spNCI (C : Addr) : Sp := fun vs H Q _ => ∃ (a : Addr) (v1 v2 : V), vs = [.ref a, v1, v2] ∧ H a = some (exo a C none) ∧
  ∀ (d : Addr) (H' : Hp), H d = none → d ≠ a → H' a = some (exo a C (some d)) → H' d = some (exd d [("place", v2), ("reason", v1)]) → (∀ b o, H b = some o → b ≠ a → H' b = some o) → Q .non H'
structure NC (K : PySem.W.Frag) (mg : Str → Option Value) (C fI : Addr) : Prop where
  oex : OexC K C
  n1 : PySem.W.findIn K (.ref C) "reason" = some none
  n2 : PySem.W.findIn K (.ref C) "place" = some none
  iC : PySem.W.findIn K (.ref C) "__init__" = some (some (.ref fI))
  tI : PySem.W.typeIn K (.ref fI) = some (.type "function")
  gC : mg "NoClass" = some (.ref C)
section
variable {P : Program} {w : World} {K : PySem.W.Frag} {mg : Str → Option Value} {base : Heap}
theorem scNCI : FnScope ["self", "reason", "place"] ["self", "reason", "place"] (defScope sNCI) := ⟨rfl, rfl, rfl, by decide +kernel, rfl, by decide +kernel, by decide +kernel⟩
theorem ok_nci {f C : Addr} {fd : FuncData} (F : Fun K "__init__" "NoClass.__init__" sNCI f fd) (M : NC K mg C f) : FnOk P w K mg base CX0 1 f fd ["self", "reason", "place"] (spNCI C) := by
  refine F.ok scNCI (fun vs H Q E h => ?_) (fun cdv A outer s H vs Q E hr h => ?_)
  · obtain ⟨a, v1, v2, rfl, _⟩ := h
    rfl
  · obtain ⟨a, v1, v2, rfl, ha, k⟩ := h
    refine ⟨_, pss_cons (ps_ost (pv 0) (pv 1)) (pss_one (ps_ost (pv 0) (pv 2))), ?_⟩
    refine ⟨_, rfl, _, rfl, a, C, rfl, M.oex, M.n1, .inl ⟨ha, fun d hd hne => ?_⟩⟩
    have e1 : (upd (upd H d (exd d [("reason", v1)])) a (exo a C (some d))) d = some (exd d [("reason", v1)]) := by rw [upd_ne hne, upd_same]
    refine ⟨_, rfl, _, rfl, a, C, rfl, M.oex, M.n2, .inr ⟨d, _, upd_same, e1, (by show 1 ≤ 900; decide), ?_⟩⟩
    refine k d _ hd hne (by rw [upd_ne (Ne.symm hne), upd_same]) upd_same fun b o hb n => ?_
    rw [upd_ne (ne_of_none hb hd), upd_ne n, upd_ne (ne_of_none hb hd)]
    exact hb
end
end K2
end
section
set_option Elab.async false
set_option maxRecDepth 100000
set_option linter.all false
namespace K2
open PySem L2 PySem.Spec PyProof.Rows
theorem rising_pw : ∀ (p : Str) (l : List Str), PyProof.Rows.risingS p l = true → (p :: l).Pairwise (fun a b => PySem.Spec.ltCps b.cps.toList a.cps.toList = false)
  | p, [], _ => List.pairwise_singleton _ _
  | p, x :: r, h => by
    have h2 := Bool.and_eq_true_iff.mp (show (!PySem.Spec.ltCps x.cps.toList p.cps.toList && PyProof.Rows.risingS x r) = true from h)
    have ih := rising_pw x r h2.2
    have h1 : PySem.Spec.ltCps x.cps.toList p.cps.toList = false := by simpa using h2.1
    refine List.pairwise_cons.mpr ⟨fun y hy => ?_, ih⟩
    rcases List.mem_cons.mp hy with rfl | hy
    · exact h1
    · have h3 := (List.pairwise_cons.mp ih).1 y hy
      rw [PyProof.Rows.ltCps_eq, decide_eq_false_iff_not] at h1 h3 ⊢
      exact List.le_trans (α := Nat) (l₁ := p.cps.toList) (l₂ := x.cps.toList) (l₃ := y.cps.toList) h1 h3
theorem sorted_pw : ∀ l : List Str, PyProof.Rows.sortedS l = true → l.Pairwise (fun a b => PySem.Spec.ltCps b.cps.toList a.cps.toList = false)
  | [], _ => .nil
  | x :: r, h => rising_pw x r h
theorem sorted_sub {l l' : List Str} (h : PyProof.Rows.sortedS l' = true) (s : l.Sublist l') : PyProof.Rows.sortedS l = true := PyProof.Rows.sortedS_of_pairwise l ((sorted_pw l' h).sublist s)
theorem sorted_one : ∀ {l l' : List Str}, l.Nodup → l'.Nodup → PyProof.Rows.sortedS l = true → PyProof.Rows.sortedS l' = true → (∀ y, y ∈ l ↔ y ∈ l') → l = l' := by
  have anti : ∀ {a b : Str}, PySem.Spec.ltCps a.cps.toList b.cps.toList = false → PySem.Spec.ltCps b.cps.toList a.cps.toList = false → a = b := fun {a b} h1 h2 => by
    rw [PyProof.Rows.ltCps_eq, decide_eq_false_iff_not] at h1 h2
    have e : a.cps.toList = b.cps.toList := List.le_antisymm (α := Nat) h2 h1
    have e2 : a.cps = b.cps := Array.toList_inj.mp e
    cases a
    cases b
    cases e2
    rfl
  intro l
  induction l with
  | nil =>
    intro l' _ _ _ _ h
    cases l' with
    | nil => rfl
    | cons y r => exact absurd ((h y).mpr List.mem_cons_self) (by simp)
  | cons x l ih =>
    intro l' n1 n2 s1 s2 h
    cases l' with
    | nil => exact absurd ((h x).mp List.mem_cons_self) (by simp)
    | cons y r =>
      have p1 := List.pairwise_cons.mp (sorted_pw _ s1)
      have p2 := List.pairwise_cons.mp (sorted_pw _ s2)
      have e : x = y := by
        rcases List.mem_cons.mp ((h x).mp List.mem_cons_self) with q | q
        · exact q
        · rcases List.mem_cons.mp ((h y).mpr List.mem_cons_self) with q2 | q2
          · exact q2.symm
          · exact anti (p2.1 x q) (p1.1 y q2)
      subst e
      have m1 := List.nodup_cons.mp n1
      have m2 := List.nodup_cons.mp n2
      rw [ih m1.2 m2.2 (sorted_sub s1 (List.sublist_cons_self _ _)) (sorted_sub s2 (List.sublist_cons_self _ _)) fun z => ?_]
      constructor
      · intro hz
        rcases List.mem_cons.mp ((h z).mp (List.mem_cons_of_mem _ hz)) with q | q
        · exact absurd (q ▸ hz) m1.1
        · exact q
      · intro hz
        rcases List.mem_cons.mp ((h z).mpr (List.mem_cons_of_mem _ hz)) with q | q
        · exact absurd (q ▸ hz) m2.1
        · exact q
/-! ### lists and tuples beside empty ones -/
section
variable {X : Cx}
/-- xs != [] of any list -/
def rNeL0 (K : PySem.W.Frag) : R2 := fun x y H Q => ∃ a b xs, x = .ref a ∧ y = .ref b ∧ SqL K H a xs ∧ SqL K H b [] ∧ Q (.bl (!xs.isEmpty)) H
def rEqL0 (K : PySem.W.Frag) : R2 := fun x y H Q => ∃ a b xs, x = .ref a ∧ y = .ref b ∧ SqL K H a xs ∧ SqL K H b [] ∧ Q (.bl xs.isEmpty) H
/-- t != () of any tuple -/
def rNeT0 (K : PySem.W.Frag) : R2 := fun x y H Q => ∃ a b xs, x = .ref a ∧ y = .ref b ∧ SqT K H a xs ∧ SqT K H b [] ∧ Q (.bl (!xs.isEmpty)) H
theorem op_neL0 (hu : X.A.units < cLine) : OpR X (compareOp .NotEq) (rNeL0 X.K) := by
  intro pins s σ H x y v u Q I rx ry h
  obtain ⟨a, b, xs, rfl, rfl, ha, hb, q⟩ := h
  cases rx
  cases ry
  obtain ⟨as, ra, la, _⟩ := I.list ha
  obtain ⟨bs, rb, lb, _⟩ := I.list hb
  cases rb
  have fin : EP X pins σ Q (.bool (!xs.isEmpty)) s := ⟨.bl _, H, I, rfl, q⟩
  show wpAny (model X.prog X.w) X.A (richCompare .NotEq (.ref a) (.ref b)) (EP X pins σ Q) X.xe s
  cases ra with
  | nil => exact SeqAt.RcNeAt.lists (e := fun _ => true) la.isList lb.isList rfl hu (fun j h1 h2 => absurd h1 (Nat.not_lt_zero j)) _ _ _ _ fin
  | cons r t => exact SeqAt.RcNeAt.lists_lengths la.isList lb.isList (by simp) hu _ _ _ _ fin
theorem op_eqL0 (hu : X.A.units < cLine) : OpR X (compareOp .Eq) (rEqL0 X.K) := by
  intro pins s σ H x y v u Q I rx ry h
  obtain ⟨a, b, xs, rfl, rfl, ha, hb, q⟩ := h
  cases rx
  cases ry
  obtain ⟨as, ra, la, _⟩ := I.list ha
  obtain ⟨bs, rb, lb, _⟩ := I.list hb
  cases rb
  have fin : EP X pins σ Q (.bool xs.isEmpty) s := ⟨.bl _, H, I, rfl, q⟩
  show wpAny (model X.prog X.w) X.A (richCompare .Eq (.ref a) (.ref b)) (EP X pins σ Q) X.xe s
  cases ra with
  | nil => exact SeqAt.RcAt.lists (e := fun _ => true) la.isList lb.isList rfl hu (fun j h1 h2 => absurd h1 (Nat.not_lt_zero j)) _ _ _ _ fin
  | cons r t => exact SeqAt.RcAt.lists_lengths la.isList lb.isList (by simp) hu _ _ _ _ fin
theorem op_neT0 (hu : X.A.units < cLine) : OpR X (compareOp .NotEq) (rNeT0 X.K) := by
  intro pins s σ H x y v u Q I rx ry h
  obtain ⟨a, b, xs, rfl, rfl, ha, hb, q⟩ := h
  cases rx
  cases ry
  obtain ⟨as, ra, ta, _⟩ := I.tuple ha
  obtain ⟨bs, rb, tb, _⟩ := I.tuple hb
  cases rb
  have fin : EP X pins σ Q (.bool (!xs.isEmpty)) s := ⟨.bl _, H, I, rfl, q⟩
  show wpAny (model X.prog X.w) X.A (richCompare .NotEq (.ref a) (.ref b)) (EP X pins σ Q) X.xe s
  have := SeqAt.RcNeAt.tuples (A := X.A) (s := s) (e := fun _ => true) ta tb hu (fun j h1 h2 => absurd h2 (Nat.not_lt_zero j))
  cases ra with
  | nil => exact this _ _ _ _ fin
  | cons r t => exact this _ _ _ _ fin
/-! ### repr of None or of data -/
def rReprU (K : PySem.W.Frag) : List V → Hp → VK → Prop := fun xs H Q => (xs = [V.non] ∧ Q (.str "None") H) ∨ rReprD K xs H Q
theorem call_reprU (gu : X.A.guards = some []) (hu : X.A.units + 64 < cLine) : CallR X (.builtin "repr") (rReprU X.K) := by
  intro pins s σ H xs us Q I r h
  rcases h with ⟨rfl, q⟩ | h
  · obtain ⟨u, rfl, ru⟩ := r.one
    obtain rfl : u = Value.none := ru
    exact PySem.P.repr_of_none ⟨.str _, H, I.tok _, ⟨_, rfl⟩, q⟩
  · exact call_reprD gu hu pins s σ H xs us Q I r h
end
section
variable {p : Program} {w : World} {A : Around} {E : Value → Shared → Prop} {s : Shared}
set_option maxHeartbeats 3200000 in
/-- set(t) of a tuple of texts holds just these -/
theorem set_of_tupS {l : Addr} {its : Array Value} {xs : List Str} {Q : Value → Shared → Prop} (hh : A.handled = none) (hl : s.heap.IsTuple l its) (hi : StrsAre its.toList xs) (few : xs.length ≤ 1000)
    (fin : ∀ (h' : Heap) (tk : Nat), HasS p w h' s.heap.objs.size xs xs.length → (∀ b o, b < s.heap.objs.size → s.heap.get? b = some o → h'.get? b = some o) → Q (.ref s.heap.objs.size) { s with heap := h', toks := tk }) :
    wpAny (model p w) A (call (.type "set") [.ref l]) Q E s := by
  have sz : its.size = xs.length := by rw [← Array.length_toList, StrsAre.len_eq hi]
  obtain ⟨c, tl, hmro⟩ := F.called_set.mro
  have m1 := F.called_set.made
  have m2 := F.called_set.sub
  refine wpAny_call (codeAny_of_tree (wpAny_pure ⟨Code.quiet_builtin _ (by decide +kernel), codeAny_builtin F.entry_type_call (by
    rw [Around.under_plain (weight_type_call_type "set" [.ref l] []) rfl]
    have m3 := F.called_set.notType
    have m4 := F.called_set.canCreate
    have m5 := F.typeCall_set_1 (.ref l)
    repeat (any_goals (first | assumption | wp_step))
    refine codeAny_mono (fresh_led (P := p) (w := w) (a := .ref l) (E := E) (Q := fun v z => v = .ref s.heap.objs.size ∧ z = { s with heap := s.heap.push (Froz.sObj "set" (#[], 0, .fresh 0 0 (!w.params.followText "set-order"))) }) ⟨rfl, rfl⟩) fun r z hr => ?_
    cases r with
    | error e => exact hr
    | ok fl =>
      cases fl with
      | next => exact hr.elim
      | brk => exact hr.elim
      | cont => exact hr.elim
      | ret v =>
        obtain ⟨rfl, rfl⟩ := hr
        generalize hled : (!w.params.followText "set-order") = led
        have hS : (s.heap.push (Froz.sObj "set" (#[], 0, .fresh 0 0 led))).get? s.heap.objs.size = some (Froz.sObj "set" (#[], 0, .fresh 0 0 led)) := Heap.get?_push_size _ rfl
        have hT : Shared.TypeIs { s with heap := s.heap.push (Froz.sObj "set" (#[], 0, .fresh 0 0 led)) } (.ref s.heap.objs.size) "set" := ⟨_, hS, rfl⟩
        have n1 := F.called_set.init.lookup
        have n2 := F.called_set.init.bind (.ref s.heap.objs.size)
        repeat (any_goals (first | assumption | wp_step))
        refine codeAny_mono (codeAny_call_builtin (R := wants (fun r z => r = .none ∧ ∃ h' tk, z = { s with heap := h', toks := tk } ∧ HasS p w h' s.heap.objs.size xs xs.length ∧ (∀ b o, b < s.heap.objs.size → s.heap.get? b = some o → h'.get? b = some o)) E) F.called_set.init.plain F.entry_set_init (check_set_init_1 hT ?_)) fun r2 z2 hr2 => ?_
        · obtain ⟨⟨tc, td, tdata, tsl⟩, ho, hc, tn, hd⟩ := hl
          simp only at hc hd
          subst hc hd
          have ho2 : (s.heap.push (Froz.sObj "set" (#[], 0, .fresh 0 0 led))).get? l = some { cls := .type "tuple", dict := td, data := .seq its tn, slots := tsl } := Heap.get?_push_of_some _ ho
          have q1 := F.sub_tuple_set
          have q2 := F.sub_tuple_frozenset
          have q3 : (Value.type "tuple" == Value.type "dict") = false := by decide
          have lis : (s.heap.push (Froz.sObj "set" (#[], 0, .fresh 0 0 led))).IsTuple l its := ⟨_, ho2, rfl, tn, rfl⟩
          have lS : l < s.heap.objs.size := Heap.lt_size ho
          have pz : (s.heap.push (Froz.sObj "set" (#[], 0, .fresh 0 0 led))).objs.size = s.heap.objs.size + 1 := Heap.size_push ..
          unfold Builtin.«set.__init__» noKeywords Builtin.Frozenset.updateFrom
          generalize hPI : pyIter = PI
          unfold Froz.sObj at *
          wp_walk
          subst hPI
          refine wpAny_pyIter_tuple lis (wpAny_bind (wpAny_runValue ?_))
          have hn3 : A.in1.in1.in1.handled = none := by simp [hh]
          have vals : ∀ (j : Nat) (v : Value), its[j]? = some v → ∃ t, v = .str (xs.getD j Str.empty) t := fun j v hv => SS.strs_at hi j v (by rw [Array.getElem?_toList]; exact hv)
          refine set_eats ((Walks.tuple hn3 _ l (by rw [Heap.size_push]; exact Nat.ne_of_lt (Nat.lt_succ_of_lt lS)) its).toS) (a := s.heap.objs.size) (by
            simp only [List.mem_cons, List.not_mem_nil, or_false, not_or]
            exact ⟨by rw [Heap.size_push]; exact (Nat.succ_ne_self _).symm, Nat.ne_of_gt lS⟩) sz.symm (by omega) vals (its.size - 0) 0 _ (by omega) (Nat.zero_le _) ⟨⟨_, Heap.get?_push_size _ rfl, rfl, rfl⟩, lis.push _⟩ ?_ ?_
          · refine ⟨(#[], 0, .fresh 0 0 led), [], Heap.get?_push_of_some _ hS, ⟨Froz.TxOk.nil rfl, fun e he => by simp at he, .nil, List.Pairwise.nil, ?_⟩, List.nodup_nil, Nat.zero_le _, fun y => by simp⟩
            show _ ∨ led = true
            rw [← hled]
            cases w.params.followText "set-order"
            · exact .inr rfl
            · exact .inl rfl
          · rintro ⟨h', g', d', tk', os'⟩ mv se
            obtain rfl : g' = s.gens := mv.gens
            obtain rfl : d' = s.drawn := mv.drawn
            obtain rfl : os' = s.os := mv.os
            refine wpAny_pure (wpAny_pure ⟨rfl, h', tk', rfl, by rw [← sz]; exact se, fun b o hb e => mv.heap b o ?_ (Heap.get?_push_of_some _ (Heap.get?_push_of_some _ e))⟩)
            simp only [List.mem_cons, List.not_mem_nil, or_false, not_or]
            exact ⟨Nat.ne_of_lt hb, by rw [Heap.size_push]; exact Nat.ne_of_lt (Nat.lt_succ_of_lt hb)⟩
        · cases r2 with
          | error e => exact hr2
          | ok f2 =>
            cases f2 with
            | next => exact hr2.elim
            | brk => exact hr2.elim
            | cont => exact hr2.elim
            | ret v =>
              obtain ⟨rfl, h', tk, rfl, se, kp⟩ := hr2
              repeat (any_goals (first | assumption | wp_step))
              exact fin _ _ se kp)⟩))
end
section
variable {X : Cx}
def tLenSetG (ta : TE) : TE := fun σ H Q => ta σ H fun x H1 => ∃ (l : Addr) (xs : List Str), x = .ref l ∧ H1 l = some (.tup (xs.map V.str)) ∧ xs.length ≤ 1000 ∧ ∀ ys : List Str, ys.Nodup → (∀ y, y ∈ ys ↔ y ∈ xs) → Q (.int (ys.length : Nat)) H1
/-- len(set(t)), t a tuple of texts -/
theorem pe_lenSetG {a : Expr} {ta : TE} {p1 p2 p3 pos : Pos} (h1 : Gl X "len") (h2 : X.mg "len" = none) (h3 : Gl X "set") (h4 : X.mg "set" = none) (ha : PE X a ta) (hc : X.calm = true := by rfl)
    (na : starEach [a] X.env = (false, eval a X.env) :: starEach [] X.env := by rfl) : PE X (.Call (.Name "len" p1) [.Call (.Name "set" p2) [a] [] p3] [] pos) (tLenSetG ta) := by
  refine ⟨fun pins s σ H Q I h => Call_ (ld_blt I h1 h2 boot_len (callWith_builtin1 (args_cons (Call_ (ld_blt I h3 h4 boot_set (callWith_type1 (args_cons (thn (ha.run pins s σ H _ I h) fun v s1 ⟨x, H1, I1, r1, q1⟩ => args_nil ?_) na) na rfl))) rfl) rfl rfl))⟩
  obtain ⟨l, xs, rfl, hl, few, q⟩ := q1
  cases r1
  obtain ⟨its, r, pl, _⟩ := I1.tuple (SqT.of hl)
  have hx : StrsAre its xs := by simpa using strsAre_of r
  refine set_of_tupS (I1.ok.hd hc) pl (by simpa using hx) few fun h' tk hS hk => args_nil ?_
  obtain ⟨D, ys, hD, W, nd, hl2, hm⟩ := hS
  have I2 : Inv X pins σ H1 { s1 with heap := h', toks := tk } := I1.kept fun b o e => hk b o (Heap.lt_size e) e
  have sz := W.ok.sz
  refine call_len_set hD ⟨rfl, rfl, rfl⟩ rfl W.ok.fit (by omega) ⟨.int ys.length, H1, I2.tok _, ⟨_, by rw [sz]⟩, q ys nd hm⟩
def tSortedSetT (te : TE) : TE := fun σ H Q => te σ H fun x H1 => ∃ (l : Addr) (xs : List Str), x = .ref l ∧ H1 l = some (.tup (xs.map V.str)) ∧ xs.length < 64 ∧
  ∀ (ys : List Str) (q : Addr), ys.Nodup → ys.length ≤ xs.length → (∀ y, y ∈ ys ↔ y ∈ xs) → sortedS ys = true → H1 q = none → Q (.ref q) (upd H1 q (.lst (ys.map V.str)))
/-- sorted(set(t)), t a tuple of texts -/
theorem pe_sortedSetT {a : Expr} {ta : TE} {p1 p2 p3 pos : Pos} (h1 : Gl X "sorted") (h2 : X.mg "sorted" = none) (h3 : Gl X "set") (h4 : X.mg "set" = none) (ha : PE X a ta) (hc : X.calm = true := by rfl)
    (na : starEach [a] X.env = (false, eval a X.env) :: starEach [] X.env := by rfl) (bs : bootBuiltins "sorted" = some (.builtin "sorted") := by decide +kernel) : PE X (.Call (.Name "sorted" p1) [.Call (.Name "set" p2) [a] [] p3] [] pos) (tSortedSetT ta) := by
  refine ⟨fun pins s σ H Q I h => Call_ (ld_blt I h1 h2 bs (callWith_builtin1 (args_cons (Call_ (ld_blt I h3 h4 boot_set (callWith_type1 (args_cons (thn (ha.run pins s σ H _ I h) fun v s1 ⟨x, H1, I1, r1, q1⟩ => args_nil ?_) na) na rfl))) rfl) rfl rfl))⟩
  obtain ⟨l, xs, rfl, hl, few, q⟩ := q1
  cases r1
  obtain ⟨its, r, pl, _⟩ := I1.tuple (SqT.of hl)
  have hx : StrsAre its xs := by simpa using strsAre_of r
  refine set_of_tupS (I1.ok.hd hc) pl (by simpa using hx) (by omega) fun h' tk hS hk => args_nil ?_
  have I2 : Inv X pins σ H1 { s1 with heap := h', toks := tk } := I1.kept fun b o e => hk b o (Heap.lt_size e) e
  have hS2 : HasS X.prog X.w ({ s1 with heap := h', toks := tk } : Shared).heap s1.heap.objs.size xs xs.length := hS
  generalize ({ s1 with heap := h', toks := tk } : Shared) = s2 at I2 hS2 ⊢
  refine sorted_has hS2 (I1.ok.hd hc) few fun z p out c ys k g o hp hg hi nd le me so => ?_
  have hlen : (ys.map V.str).length ≤ sizeLine := by rw [List.length_map, sizeLine_eq]; omega
  have hn : H1 p = none := I2.hok.fresh hp
  have J : Inv X pins σ (upd H1 p (.lst (ys.map V.str))) { s2 with heap := z.heap, gens := z.gens, drawn := z.drawn, toks := z.toks } :=
    I2.call (ch := []) (Un.laid k hp hn) (I2.hok.laid k hp ⟨hlen, out.toList, c, vals_of_strs hi, hg⟩) (by rw [g]; exact I2.bare) (fun _ z => nomatch z)
  have e : z = { s2 with heap := z.heap, gens := z.gens, drawn := z.drawn, toks := z.toks } := by
    cases z
    cases s2
    cases o
    rfl
  rw [e]
  exact ⟨.ref p, _, J, rfl, q ys p nd le me so hn⟩
end
end K2
end
section
set_option Elab.async false
set_option maxRecDepth 100000
set_option linter.all false
namespace K2
open PySem L2
abbrev sPO : Stmt := top 23
abbrev nPO : List Str := ["statement", "word", "clauses", "clause", "ends", "block"]
theorem ix_tupK {X : Cx} {K' : PySem.W.Frag} (hK : X.K = K') : IxR X (rIxT K') := by
  subst hK
  exact ix_tup
/-- a statement that has these parts: blocks, each with its clause or None -/
inductive Stm (H : Hp) : V → List (V × V) → Prop where
  | leaf {a : Addr} {w : Str} {xs : List V} (h : H a = some (.tup (.str w :: xs))) (n1 : w ≠ "try") (n2 : w ≠ "with") (n3 : w ∉ (["handling", "either", "loop"] : List Str)) : Stm H (.ref a) []
  | many {a : Addr} {w : Str} {bs : List V} (h : H a = some (.tup (.str w :: bs))) (n3 : w ∈ (["handling", "either", "loop"] : List Str)) (l : bs.length ≤ 1000) : Stm H (.ref a) (bs.map fun b => (b, V.non))
  | wth {a : Addr} {e l q b : V} (h : H a = some (.tup [.str "with", e, l, q, b])) : Stm H (.ref a) [(b, .non)]
  | tr {a cs o l : Addr} {b : V} {ks : List (Addr × V)} {os ls : List V} (h : H a = some (.tup [.str "try", b, .ref cs, .ref o, .ref l])) (hc : H cs = some (.tup (ks.map fun k => V.ref k.1))) (hk : ∀ k ∈ ks, ∃ n m, H k.1 = some (.tup [n, m, k.2])) (lk : ks.length ≤ 1000)
      (ho : H o = some (.tup os)) (hl : H l = some (.tup ls)) : Stm H (.ref a) ((b, .non) :: ks.map (fun k => (k.2, V.ref k.1)) ++ (([(o, os), (l, ls)] : List (Addr × List V)).filter fun p => !p.2.isEmpty).map fun p => (V.ref p.1, V.non))
theorem Stm.same {H H' : Hp} {v : V} {ps : List (V × V)} (h : Stm H v ps) (s : Same H H') : Stm H' v ps := by
  cases h with
  | leaf h n1 n2 n3 => exact .leaf (s _ _ h) n1 n2 n3
  | many h n3 l => exact .many (s _ _ h) n3 l
  | wth h => exact .wth (s _ _ h)
  | tr h hc hk lk ho hl =>
    exact .tr (s _ _ h) (s _ _ hc) (fun k q => by obtain ⟨n, m, e⟩ := hk k q; exact ⟨n, m, s _ _ e⟩) lk (s _ _ ho) (s _ _ hl)
/-- pairs at addresses -/
def PairsAt (H : Hp) (ts : List Addr) (ps : List (V × V)) : Prop := ts.map H = ps.map fun p => some (HO.tup [p.1, p.2])
theorem PairsAt.nil (H : Hp) : PairsAt H [] [] := rfl
theorem PairsAt.len {H : Hp} {ts : List Addr} {ps : List (V × V)} (h : PairsAt H ts ps) : ts.length = ps.length := by
  have := congrArg List.length h
  rwa [List.length_map, List.length_map] at this
theorem PairsAt.same {H H' : Hp} {ts : List Addr} {ps : List (V × V)} (h : PairsAt H ts ps) (s : Same H H') : PairsAt H' ts ps := by
  unfold PairsAt at *
  rw [← h]
  apply List.map_congr_left
  intro t ht
  have : H t ∈ ts.map H := List.mem_map_of_mem ht
  rw [h] at this
  obtain ⟨p, _, e⟩ := List.mem_map.mp this
  rw [← e, s t _ e.symm]
theorem PairsAt.app {H : Hp} {ts us : List Addr} {ps qs : List (V × V)} (h1 : PairsAt H ts ps) (h2 : PairsAt H us qs) : PairsAt H (ts ++ us) (ps ++ qs) := by
  unfold PairsAt at *
  rw [List.map_append, List.map_append, h1, h2]
theorem PairsAt.one {H : Hp} {t : Addr} {p : V × V} (h : H t = some (.tup [p.1, p.2])) : PairsAt H [t] [p] := by
  unfold PairsAt
  rw [List.map_singleton, h]
  rfl
theorem PairsAt.get {H : Hp} {ts : List Addr} {ps : List (V × V)} (h : PairsAt H ts ps) {i : Nat} {t : Addr} (ht : ts[i]? = some t) : ∃ p, ps[i]? = some p ∧ H t = some (.tup [p.1, p.2]) := by
  have e : (ts.map H)[i]? = some (H t) := by rw [List.getElem?_map, ht]; rfl
  rw [h, List.getElem?_map] at e
  cases hp : ps[i]? with
  | none => rw [hp] at e; cases e
  | some p => rw [hp] at e; exact ⟨p, rfl, (Option.some.inj e).symm⟩
theorem PairsAt.updL {H : Hp} {ts : List Addr} {ps : List (V × V)} {D : Addr} {xs : List V} {o : HO} (h : PairsAt H ts ps) (hD : H D = some (.lst xs)) : PairsAt (upd H D o) ts ps := by
  unfold PairsAt at *
  rw [← h]
  apply List.map_congr_left
  intro t ht
  have : H t ∈ ts.map H := List.mem_map_of_mem ht
  rw [h] at this
  obtain ⟨p, _, e⟩ := List.mem_map.mp this
  exact upd_ne fun q => by rw [q, hD] at e; cases e
theorem cutV_from (xs : List V) (k : Nat) : cutV xs (some (k : Int)) none = xs.drop k := by
  unfold cutV
  rw [HT.sIx_nat, HT.sIx_none]
  by_cases h : k ≤ xs.length
  · rw [Nat.min_eq_left h, List.take_of_length_le (by rw [List.length_drop]; exact Nat.le_refl _)]
  · rw [Nat.min_eq_right (by omega), List.drop_of_length_le (Nat.le_refl _), List.drop_of_length_le (by omega)]
    simp
def spPO : Sp := fun vs H Q _ => ∃ (v : V) (ps : List (V × V)), vs = [v] ∧ Stm H v ps ∧ ∀ (l : Addr) (ts : List Addr) (H' : Hp), Same H H' → H l = none → H' l = some (.lst (ts.map V.ref)) → PairsAt H' ts ps → Q (.ref l) H'
section
variable {P : Program} {w : World} {K : PySem.W.Frag} {mg : Str → Option Value} {base : Heap}
theorem scPO : FnScope nPO ["statement"] (defScope sPO) := ⟨rfl, rfl, rfl, by decide +kernel, rfl, by decide +kernel, by decide +kernel⟩
theorem ok_po {f : Addr} {fd : FuncData} (F : Fun K "parts_of" "parts_of" sPO f fd) (T : Bi mg) : FnOk P w K mg base CX0 1 f fd ["statement"] spPO := by
  refine F.ok scPO (fun vs H Q E h => ?_) (fun cdv A outer s H vs Q E hr h => ?_)
  · obtain ⟨v, ps, rfl, _⟩ := h
    rfl
  · obtain ⟨v, ps, rfl, S, k⟩ := h
    refine ⟨_, (pss_cons (ps_set (i := 1) scPO.nd rfl (Or.inl rfl) (pe_ix ix_tup (pv 0) pe_int (fun _ _ => rfl)))
      (pss_cons (ps_if (pt_cmpR op_eq (pv 1) pe_str (nomark _))
      (pss_cons (ps_setLc (i := 2) (own := [("clause", 3)]) (g := gName 3) (tt := tYes) rfl scPO.nd rfl rfl (sw_true rfl rfl rfl (by decide +kernel)) (pi_tup (pe_ix ix_tup (pv 0) pe_int (fun _ _ => rfl))) (blkOk_by (N := nPO) (sc := defScope sPO) (by decide +kernel)) (fun _ _ _ _ _ => pg_name (i := 3) scPO.nd rfl (Or.inl rfl)) (fun _ _ _ _ _ => pts_nil) (fun _ _ _ _ _ => pe_tup (pa_cons (pe_ix (ix_tupK (K' := K) rfl) (pv 3) pe_int (fun _ _ => rfl)) (pa_cons (pv 3) pa_nil))))
        (pss_cons (ps_setLc (i := 4) (own := [("block", 5)]) (g := gName 5)  rfl scPO.nd rfl rfl (sw_true rfl rfl rfl (by decide +kernel)) (pi_tup (pe_slice sl_tup2 (pv 0) (po_some pe_int) po_none)) (blkOk_by (N := nPO) (sc := defScope sPO) (by decide +kernel)) (fun _ _ _ _ _ => pg_name (i := 5) scPO.nd rfl (Or.inl rfl)) (fun _ _ _ _ _ => pts_one (pt_cmpR op_gt (pe_callB (call_len_seqK (K' := K) rfl) (by rfl) T.len PySem.boot_len (pa_cons (pv 5) pa_nil)) pe_int (nomark _))) (fun _ _ _ _ _ => pe_tup (pa_cons (pv 5) (pa_cons pe_non pa_nil))))
        (pss_one (ps_ret (pe_op op_cat (pe_op op_cat (pe_lst (pa_cons (pe_tup (pa_cons (pe_ix ix_tup (pv 0) pe_int (fun _ _ => rfl)) (pa_cons pe_non pa_nil))) pa_nil)) (pv 2)) (pv 4))))))
      pss_nil)
      (pss_cons (ps_if (pt_cmpR op_eq (pv 1) pe_str (nomark _))
      (pss_one (ps_ret (pe_lst (pa_cons (pe_tup (pa_cons (pe_ix ix_tup (pv 0) pe_int (fun _ _ => rfl)) (pa_cons pe_non pa_nil))) pa_nil))))
      pss_nil)
      (pss_cons (ps_if (pt_cmpR op_in_seq (pv 1) (pe_tup (pa_cons pe_str (pa_cons pe_str (pa_cons pe_str pa_nil)))) rfl)
      (pss_one (ps_ret (pe_lc (own := [("block", 5)]) (g := gName 5) (tt := tYes) rfl scPO.nd (pi_tup (pe_slice sl_tup2 (pv 0) (po_some pe_int) po_none)) (blkOk_by (N := nPO) (sc := defScope sPO) (by decide +kernel)) (fun _ _ _ _ _ => pg_name (i := 5) scPO.nd rfl (Or.inl rfl)) (fun _ _ _ _ _ => pts_nil) (fun _ _ _ _ _ => pe_tup (pa_cons (pv 5) (pa_cons pe_non pa_nil))))))
      pss_nil)
      (pss_one (ps_ret (pe_lst pa_nil))))))), ?_⟩
    have sin : ∀ w : Str, inV (V.str w) [V.str "handling", V.str "either", V.str "loop"] = decide (w ∈ (["handling", "either", "loop"] : List Str)) := fun w => inV_strs w ["handling", "either", "loop"]
    have nw : ∀ {w x : Str}, w ≠ x → ¬ (decide (V.str w = V.str x) = true) := fun n q => n (V.str.inj (of_decide_eq_true q))
    cases S with
    | leaf h n1 n2 n3 =>
      refine ⟨_, rfl, _, _, _, _, rfl, rfl, SqT.of h, atI_nat (j := 0) rfl, _, rfl, rfl, _, rfl, ite2 (fun z => absurd z (nw n1)) fun _ => ?_⟩
      refine ⟨_, rfl, rfl, _, rfl, ite2 (fun z => absurd z (nw n2)) fun _ => ?_⟩
      refine ⟨_, rfl, (by show 3 ≤ sizeLine; decide), fun t ht => ⟨t, _, rfl, .inr (SqT.of upd_same), rfl, flat_strs ["handling", "either", "loop"], _, rfl, ?_⟩⟩
      rw [if_neg Bool.false_ne_true, sin, decide_eq_false n3]
      have s1 : Same H (upd H t (.tup [V.str "handling", V.str "either", V.str "loop"])) := (Same.refl H).put ht
      exact iteF ⟨Nat.zero_le _, fun l hl => k l [] _ (s1.put (s1.free hl)) (s1.free hl) upd_same (PairsAt.nil _)⟩
    | many h n3 lb =>
      rename_i a w bs
      have n1 : w ≠ "try" := fun e => by rw [e] at n3; exact absurd n3 (by decide +kernel)
      have n2 : w ≠ "with" := fun e => by rw [e] at n3; exact absurd n3 (by decide +kernel)
      refine ⟨_, rfl, _, _, _, _, rfl, rfl, SqT.of h, atI_nat (j := 0) rfl, _, rfl, rfl, _, rfl, ite2 (fun z => absurd z (nw n1)) fun _ => ?_⟩
      refine ⟨_, rfl, rfl, _, rfl, ite2 (fun z => absurd z (nw n2)) fun _ => ?_⟩
      refine ⟨_, rfl, (by show 3 ≤ sizeLine; decide), fun t ht => ⟨t, _, rfl, .inr (SqT.of upd_same), rfl, flat_strs ["handling", "either", "loop"], _, rfl, ?_⟩⟩
      rw [if_neg Bool.false_ne_true, sin, decide_eq_true n3]
      have s1 : Same H (upd H t (.tup [V.str "handling", V.str "either", V.str "loop"])) := (Same.refl H).put ht
      generalize upd H t (.tup [V.str "handling", V.str "either", V.str "loop"]) = H1 at s1 ⊢
      refine iteT ⟨_, rfl, _, rfl, a, _, rfl, s1 _ _ h, fun bp H2 s2 hbp => ?_⟩
      rw [show (1 : Int) = ((1 : Nat) : Int) from rfl, cutV_from] at hbp
      replace hbp : H2 bp = some (.tup bs) := hbp
      have s12 := s1.trans s2
      refine ⟨bp, rfl, ⟨_, SqT.of hbp⟩, fun D hD => ?_⟩
      refine lc_tup (K := K) (a := bp) (xs := bs) (fun i Hc => ∃ ts : List Addr, Hc D = some (.lst (ts.map V.ref)) ∧ ts.length = i ∧ PairsAt Hc ts ((bs.take i).map fun b => (b, V.non)) ∧ Same H2 Hc) ?_ ?_ ?_ ?_
      · exact ⟨[], upd_same, rfl, PairsAt.nil _, (Same.refl H2).put hD⟩
      · rintro i Hc _ ⟨_, _, _, _, sm⟩
        exact SqT.of (sm bp _ hbp)
      · rintro i y Hc hy ⟨ts, g1, g2, g3, sm⟩
        have hil : i < bs.length := (List.getElem?_eq_some_iff.mp hy).1
        refine ⟨rfl, _, rfl, (by show 2 ≤ sizeLine; decide), fun t1 ht1 => ?_⟩
        have s3 : Same Hc (upd Hc t1 (.tup [y, V.non])) := (Same.refl Hc).put ht1
        have e3 : (upd Hc t1 (.tup [y, V.non])) t1 = some (.tup [y, V.non]) := upd_same
        generalize upd Hc t1 (.tup [y, V.non]) = H3 at s3 e3 ⊢
        refine ⟨_, s3 _ _ g1, by rw [List.length_map]; show _ < 16777216; omega, ts ++ [t1], ?_, ?_, ?_, (sm.trans s3).put hD⟩
        · rw [upd_same, List.map_append]; rfl
        · rw [List.length_append, g2]; rfl
        · rw [List.take_add_one, hy, List.map_append]
          exact ((g3.same s3).updL (s3 _ _ g1)).app ((PairsAt.one e3).updL (s3 _ _ g1))
      · rintro Hc ⟨ts, g1, g2, g3, sm⟩
        rw [List.take_length] at g3
        exact k D ts Hc (s12.trans sm) (s12.free hD) g1 g3
    | @wth a e' l' q' b' h =>
      refine ⟨_, rfl, _, _, _, _, rfl, rfl, SqT.of h, atI_nat (j := 0) rfl, _, rfl, rfl, _, rfl, ite2 (fun z => absurd z (nw (by decide +kernel))) fun _ => ?_⟩
      refine ⟨_, rfl, rfl, _, rfl, ite2 (fun _ => ?_) fun z => absurd (decide_eq_true rfl) z⟩
      refine ⟨_, rfl, _, _, _, _, rfl, rfl, SqT.of h, atI_nat (j := 4) rfl, (by show 2 ≤ sizeLine; decide), fun t ht => ⟨(by show 1 ≤ sizeLine; decide), fun l hl => ?_⟩⟩
      have s1 : Same H (upd H t (.tup [b', V.non])) := (Same.refl H).put ht
      exact k l [t] _ (s1.put (s1.free hl)) (s1.free hl) upd_same (PairsAt.one (by rw [upd_ne (ne_of_none upd_same hl), upd_same]))
    | @tr a cs o l b ks os ls h hc hk lk ho hl =>
      refine ⟨_, rfl, _, _, _, _, rfl, rfl, SqT.of h, atI_nat (j := 0) rfl, _, rfl, rfl, _, rfl, ite2 (fun _ => ?_) fun z => absurd (decide_eq_true rfl) z⟩
      -- clauses
      refine ⟨_, rfl, _, _, _, _, rfl, rfl, SqT.of h, atI_nat (j := 2) rfl, cs, rfl, ⟨_, SqT.of hc⟩, fun D hD => ?_⟩
      refine lc_tup (K := K) (a := cs) (xs := ks.map fun k => V.ref k.1) (fun i Hc => ∃ ts : List Addr, Hc D = some (.lst (ts.map V.ref)) ∧ ts.length = i ∧ PairsAt Hc ts ((ks.take i).map fun k => (k.2, V.ref k.1)) ∧ Same H Hc) ?_ ?_ ?_ ?_
      · exact ⟨[], upd_same, rfl, PairsAt.nil _, (Same.refl H).put hD⟩
      · rintro i Hc _ ⟨_, _, _, _, sm⟩
        exact SqT.of (sm cs _ hc)
      · rintro i y Hc hy ⟨ts, g1, g2, g3, sm⟩
        have hil : i < ks.length := by
          have := (List.getElem?_eq_some_iff.mp hy).1
          rwa [List.length_map] at this
        obtain ⟨kk, hkk⟩ : ∃ kk, ks[i]? = some kk := ⟨_, List.getElem?_eq_getElem hil⟩
        rw [List.getElem?_map, hkk] at hy
        cases hy
        obtain ⟨n, m, ek⟩ := hk kk (List.mem_of_getElem? hkk)
        refine ⟨rfl, _, rfl, _, _, _, _, rfl, rfl, SqT.of (sm _ _ ek), atI_nat (j := 2) rfl, _, rfl, (by show 2 ≤ sizeLine; decide), fun t1 ht1 => ?_⟩
        have s3 : Same Hc (upd Hc t1 (.tup [kk.2, V.ref kk.1])) := (Same.refl Hc).put ht1
        have e3 : (upd Hc t1 (.tup [kk.2, V.ref kk.1])) t1 = some (.tup [kk.2, V.ref kk.1]) := upd_same
        generalize upd Hc t1 (.tup [kk.2, V.ref kk.1]) = H3 at s3 e3 ⊢
        refine ⟨_, s3 _ _ g1, by rw [List.length_map]; show _ < 16777216; omega, ts ++ [t1], ?_, ?_, ?_, (sm.trans s3).put hD⟩
        · rw [upd_same, List.map_append]; rfl
        · rw [List.length_append, g2]; rfl
        · rw [List.take_add_one, hkk, List.map_append]
          exact ((g3.same s3).updL (s3 _ _ g1)).app ((PairsAt.one (p := (kk.2, V.ref kk.1)) e3).updL (s3 _ _ g1))
      rintro H1 ⟨ts, g1, g2, g3, s1⟩
      rw [List.length_map, List.take_length] at g3
      -- ends
      refine ⟨_, rfl, _, rfl, a, _, rfl, s1 _ _ h, fun bp H2 s2 hbp => ?_⟩
      replace hbp : H2 bp = some (.tup [V.ref o, V.ref l]) := hbp
      have s12 := s1.trans s2
      refine ⟨bp, rfl, ⟨_, SqT.of hbp⟩, fun D2 hD2 => ?_⟩
      have two : ∀ (i : Nat) (y : V), ([V.ref o, V.ref l] : List V)[i]? = some y → ∃ p : Addr × List V, ([(o, os), (l, ls)] : List (Addr × List V))[i]? = some p ∧ y = .ref p.1 ∧ H p.1 = some (.tup p.2) := fun i y hy => by
        match i, hy with
        | 0, hy => cases hy; exact ⟨_, rfl, rfl, ho⟩
        | 1, hy => cases hy; exact ⟨_, rfl, rfl, hl⟩
        | n + 2, hy => cases hy
      refine lc_tup (K := K) (a := bp) (xs := [V.ref o, V.ref l]) (fun i Hc => ∃ us : List Addr, Hc D2 = some (.lst (us.map V.ref)) ∧ us.length ≤ i ∧ PairsAt Hc us ((((([(o, os), (l, ls)] : List (Addr × List V)).take i).filter fun p => !p.2.isEmpty)).map fun p => (V.ref p.1, V.non)) ∧ Same H2 Hc) ?_ ?_ ?_ ?_
      · exact ⟨[], upd_same, Nat.le_refl _, PairsAt.nil _, (Same.refl H2).put hD2⟩
      · rintro i Hc _ ⟨_, _, _, _, sm⟩
        exact SqT.of (sm bp _ hbp)
      · rintro i y Hc hy ⟨us, u1, u2, u3, sm⟩
        have hi2 : i < 2 := (List.getElem?_eq_some_iff.mp hy).1
        obtain ⟨p, hp, rfl, hpt⟩ := two i y hy
        have hpc := sm _ _ (s12 _ _ hpt)
        have et : ([(o, os), (l, ls)] : List (Addr × List V)).take (i + 1) = ([(o, os), (l, ls)] : List (Addr × List V)).take i ++ [p] := by rw [List.take_add_one, hp]; rfl
        refine ⟨rfl, _, rfl, p.1, _, rfl, .inr (SqT.of hpc), _, _, rfl, rfl, _, rfl, ite2 (fun z => ?_) (fun z => ?_)⟩
        · have z := of_decide_eq_true z
          have ne : (!p.2.isEmpty) = true := by
            cases hh : p.2 with
            | nil => rw [hh] at z; simp at z
            | cons _ _ => rfl
          refine ⟨_, rfl, (by show 2 ≤ sizeLine; decide), fun t1 ht1 => ?_⟩
          have s3 : Same Hc (upd Hc t1 (.tup [V.ref p.1, V.non])) := (Same.refl Hc).put ht1
          have e3 : (upd Hc t1 (.tup [V.ref p.1, V.non])) t1 = some (.tup [V.ref p.1, V.non]) := upd_same
          generalize upd Hc t1 (.tup [V.ref p.1, V.non]) = H3 at s3 e3 ⊢
          refine ⟨_, s3 _ _ u1, by rw [List.length_map]; show _ < 16777216; omega, us ++ [t1], ?_, ?_, ?_, (sm.trans s3).put hD2⟩
          · rw [upd_same, List.map_append]; rfl
          · rw [List.length_append]; show us.length + 1 ≤ _; omega
          · rw [et, List.filter_append, List.filter_cons, if_pos ne, List.map_append]
            exact ((u3.same s3).updL (s3 _ _ u1)).app ((PairsAt.one (p := (V.ref p.1, V.non)) e3).updL (s3 _ _ u1))
        · have ne : (!p.2.isEmpty) = false := by
            cases hh : p.2 with
            | nil => rfl
            | cons _ _ => exact absurd (decide_eq_true (by rw [hh, List.length_cons]; omega)) z
          refine ⟨us, u1, by omega, ?_, sm⟩
          rw [et, List.filter_append, List.filter_cons, ne, if_neg Bool.false_ne_true, List.filter_nil, List.append_nil]
          exact u3
      rintro H3 ⟨us, u1, u2, u3, s3⟩
      have s13 := s12.trans s3
      have lts : ts.length = ks.length := by rw [g2, List.length_map]
      have lus : us.length ≤ 2 := u2
      -- all
      refine ⟨_, rfl, _, _, _, _, rfl, rfl, SqT.of (s13 _ _ h), atI_nat (j := 1) rfl, (by show 2 ≤ sizeLine; decide), fun t4 ht4 => ⟨(by show 1 ≤ sizeLine; decide), fun l5 hl5 => ?_⟩⟩
      have s4 : Same H3 (upd H3 t4 (.tup [b, V.non])) := (Same.refl H3).put ht4
      have e4 : (upd H3 t4 (.tup [b, V.non])) t4 = some (.tup [b, V.non]) := upd_same
      generalize upd H3 t4 (.tup [b, V.non]) = H4 at s4 e4 hl5 ⊢
      have s5 : Same H4 (upd H4 l5 (.lst [V.ref t4])) := (Same.refl H4).put hl5
      have e5 : (upd H4 l5 (.lst [V.ref t4])) l5 = some (.lst [V.ref t4]) := upd_same
      generalize upd H4 l5 (.lst [V.ref t4]) = H5 at s5 e5 ⊢
      have s35 := s4.trans s5
      have s25 := s3.trans s35
      refine ⟨_, rfl, l5, D, _, _, rfl, rfl, e5, s25 _ _ (s2 _ _ g1), by rw [List.length_map]; show 1 + _ ≤ 16777216; omega, fun l6 hl6 => ?_⟩
      have s6 : Same H5 (upd H5 l6 (.lst ([V.ref t4] ++ ts.map V.ref))) := (Same.refl H5).put hl6
      have e6 : (upd H5 l6 (.lst ([V.ref t4] ++ ts.map V.ref))) l6 = some (.lst ([V.ref t4] ++ ts.map V.ref)) := upd_same
      generalize upd H5 l6 (.lst ([V.ref t4] ++ ts.map V.ref)) = H6 at s6 e6 ⊢
      refine ⟨_, rfl, l6, D2, _, _, rfl, rfl, e6, s6 _ _ (s35 _ _ u1), by rw [List.length_append, List.length_map, List.length_map]; show 1 + ts.length + us.length ≤ 16777216; omega, fun l7 hl7 => ?_⟩
      have s36 := s35.trans s6
      have s16 := s13.trans s36
      have s7 : Same H6 (upd H6 l7 (.lst ([V.ref t4] ++ ts.map V.ref ++ us.map V.ref))) := (Same.refl H6).put hl7
      refine k l7 ([t4] ++ ts ++ us) _ (s16.trans s7) (s16.free hl7) (by rw [upd_same, List.map_append, List.map_append]; rfl) ?_
      exact ((((PairsAt.one (p := (b, V.non)) e4).same s5).same s6).same s7 |>.app ((((g3.same s2).same s25).same s6).same s7)).app (((u3.same s35).same s6).same s7)
end
end K2
end
section
set_option Elab.async false
set_option maxRecDepth 100000
set_option linter.all false
namespace K2
open PySem L2 PySem.Spec PyProof.Rows
theorem pick_one (items : Array Value) : slicePick items none none (some 1) = items := slicePick_all items
def zStep (K : PySem.W.Frag) (Q : VK) (x : V) : Option Int → Hp → Prop := fun o H => ∃ a xs, x = .ref a ∧ SqL K H a xs ∧ ((o = some 1 ∧ ∀ p, H p = none → Q (.ref p) (upd H p (.lst xs))) ∨ (o = some (-1) ∧ ∀ p, H p = none → Q (.ref p) (upd H p (.lst xs.reverse))))
/-- l[::e], e is 1 or -1 -/
def tStepL (K : PySem.W.Frag) (te ts : TE) : TE := fun σ H Q => te σ H fun x H1 => ts σ H1 fun y H2 => ∃ i, y = .int i ∧ zStep K Q x (some i) H2
theorem pe_stepL {X : Cx} {e st : Expr} {te ts : TE} {p3 pos : Pos} (he : PE X e te) (hs : PE X st ts) : PE X (.Subscript e (.Slice none none (some st) p3) pos) (tStepL X.K te ts) := by
  constructor
  intro pins s σ H Q I h
  refine Subscript_ (thn (he.run pins s σ H _ I h) fun v s1 ⟨x, H1, I1, r1, q1⟩ => ?_)
  have hst : PO X (some st) (tPart ts) := po_some hs
  refine wpAny_Slice (thn (po_none.run pins s1 σ H1 (fun o H2 => o = none ∧ H2 = H1) I1 ⟨rfl, rfl⟩) fun vl s2 ⟨l, H2, I2, pl, el, e2⟩ => ?_)
  subst el e2
  refine thn (po_none.run pins s2 σ H2 (fun o H3 => o = none ∧ H3 = H2) I2 ⟨rfl, rfl⟩) fun vu s3 ⟨u, H3, I3, pu, eu, e3⟩ => ?_
  subst eu e3
  refine thn (hst.run pins s3 σ H3 (zStep X.K Q x) I3 q1) fun vs s4 ⟨o, H4, I4, ps, z⟩ => ?_
  obtain ⟨a, xs, ex, hx, z⟩ := z
  subst ex
  cases r1
  have I5 : Inv X pins σ H4 { s4 with heap := s4.heap.push { cls := .type "slice", data := .fields #[vl, vu, vs] } } := I4.kept (t' := s4.toks) fun b ob q => Heap.get?_push_of_some _ q
  obtain ⟨its, r, ht, hz⟩ := I5.list hx
  have hlen := r.length
  show wpAny (model X.prog X.w) X.A (subscriptTail e (.Slice none none (some st) p3) (.ref a) (.ref s4.heap.objs.size)) (EP X pins σ Q) X.xe { s4 with heap := s4.heap.push { cls := .type "slice", data := .fields #[vl, vu, vs] } }
  refine tail_any (ops := [.ref a, .ref s4.heap.objs.size]) ht.isList.typeIs (PySem.slot_list_getitem.lookup) ?_ (by with_unfolding_all rfl)
  rcases z with ⟨rfl, q⟩ | ⟨rfl, q⟩
  · refine wpAny_getItem_list_slice ht.isList (Heap.IsSliceOf.new _ vl vu vs) pl pu ps (by decide) ?_ (by rw [List.size_toArray]; omega)
    rw [pick_one]
    refine ⟨.ref _, _, I5.laid (t' := s4.toks) (o := .lst xs) (fun b ob q => Heap.get?_push_of_some _ q) (Nat.le_refl _) ?_, rfl, q _ (I5.hok.fresh (Nat.le_refl _))⟩
    exact ⟨hz, _, 0, r, Heap.get?_push_size _ rfl⟩
  · refine wpAny_getItem_list_slice ht.isList (Heap.IsSliceOf.new _ vl vu vs) pl pu ps (by decide) ?_ (by rw [List.size_toArray]; omega)
    rw [PySem.W.krv_pick]
    refine ⟨.ref _, _, I5.laid (t' := s4.toks) (o := .lst xs.reverse) (fun b ob q => Heap.get?_push_of_some _ q) (Nat.le_refl _) ?_, rfl, q _ (I5.hok.fresh (Nat.le_refl _))⟩
    exact ⟨by rw [List.length_reverse]; exact hz, _, 0, r.reverse, Heap.get?_push_size _ rfl⟩
end K2
end
section
set_option Elab.async false
set_option maxRecDepth 100000
set_option linter.all false
namespace K2
open PySem L2
abbrev sWa : Stmt := top 25
abbrev nWa : List Str := ["block", "waiting", "statement", "inner", "part", "clause", "step"]
theorem any_it {J : It} {n : Nat} {G : Hp → Prop} {Y : Nat → Hp → V → Hp → Prop} (w : Walk J n G Y) {B : (Hp → Prop) → V → Hp → Prop} {H0 : Hp} {Qd : Hp → Prop} (Pv : Nat → Hp → Prop) (h0 : Pv 0 H0) (hG : ∀ i H, i ≤ n → Pv i H → G H)
    (hs : ∀ i x H H', i < n → Pv i H → Y i H x H' → B (Pv (i + 1)) x H') (hd : ∀ H, Pv n H → Qd H) :
    ∃ W : Nat → Nat → Hp → Prop, (∃ m, W 0 m H0) ∧ ∀ i m H, W i m H → (J.stop i H ∧ Qd H) ∨ (J.go i H ∧ ∃ Nx : Hp → Prop, (∀ H', Nx H' → ∃ m', m' < m ∧ W (i + 1) m' H') ∧ ∀ x H', J.yld i H x H' → B Nx x H') := by
  refine ⟨fun i m H => m = n - i ∧ i ≤ n ∧ Pv i H, ⟨n, rfl, Nat.zero_le _, h0⟩, ?_⟩
  rintro i m H ⟨rfl, hi, p⟩
  by_cases lt : i < n
  · exact .inr ⟨w.goes i H lt (hG i H hi p), Pv (i + 1), fun H' p' => ⟨n - (i + 1), by omega, rfl, lt, p'⟩, fun x H' y => hs i x H H' lt p (w.yields i H x H' lt (hG i H hi p) y)⟩
  · obtain rfl : i = n := by omega
    exact .inl ⟨w.stops H (hG _ H hi p), hd H p⟩
theorem pi_tupK {X : Cx} {K' : PySem.W.Frag} {tg l : Expr} {tl : TE} (hK : X.K = K') (hl : PE X l tl) : PI X tg l (iTup K' tl) := by
  subst hK
  exact pi_tup hl
theorem pg_tupK {X : Cx} {K' : PySem.W.Frag} {es : List Expr} {k : Nat} {t : TGs} {n : Nat} {pos : Pos} (hK : X.K = K') (hc : X.calm = true) (h : PGs X es t) (hn : (assignEach es X.env).length = n := by rfl) (hst : (assignEach es X.env).findIdx? (·.1) = none := by rfl) : PG X (.Tuple es k pos) (gTup K' n t) := by
  subst hK
  exact pg_tup hc h hn hst
/-- the blocks of the parts -/
def Blocks (H : Hp) (ps : List (V × V)) (bss : List (List V)) : Prop := ps.length = bss.length ∧ ∀ (i : Nat) (p : V × V) (xs : List V), ps[i]? = some p → bss[i]? = some xs → ∃ a, p.1 = .ref a ∧ H a = some (.tup xs)
/-- statements that wait, the next one first, and the reading order from here on -/
inductive Ord (H : Hp) : List V → List V → Prop where
  | nil : Ord H [] []
  | cons {v : V} {ps : List (V × V)} {bss : List (List V)} {rest ys : List V} (S : Stm H v ps) (B : Blocks H ps bss) (o : Ord H (bss.flatten ++ rest) ys) : Ord H (v :: rest) (v :: ys)
theorem Ord.len {H : Hp} {xs ys : List V} (h : Ord H xs ys) : xs.length ≤ ys.length := by
  induction h with
  | nil => exact Nat.le_refl _
  | cons S B o ih =>
    rw [List.length_append] at ih
    rw [List.length_cons, List.length_cons]
    omega
theorem Blocks.same {H H' : Hp} {ps : List (V × V)} {bss : List (List V)} (h : Blocks H ps bss) (s : Same H H') : Blocks H' ps bss := ⟨h.1, fun i p xs a b => by
  obtain ⟨q, e, g⟩ := h.2 i p xs a b
  exact ⟨q, e, s _ _ g⟩⟩
theorem Ord.same {H H' : Hp} {xs ys : List V} (h : Ord H xs ys) (s : Same H H') : Ord H' xs ys := by
  induction h with
  | nil => exact .nil
  | cons S B o ih => exact .cons (S.same s) (B.same s) ih
def spWalk : SpG := fun vs H Q _ => ∃ (b : Addr) (xs ys : List V), vs = [.ref b] ∧ H b = some (.tup xs) ∧ xs ≠ [] ∧ Ord H xs ys ∧ ys.length ≤ 100000 ∧ ∀ H', Same H H' → Q ys H'
section
variable {P : Program} {w : World} {K : PySem.W.Frag} {mg : Str → Option Value} {base : Heap}
theorem scWa : GScope nWa ["block"] (defScope sWa) := ⟨rfl, rfl, rfl, by decide +kernel, rfl, by decide +kernel, by decide +kernel⟩
theorem tru_list {H : Hp} {l : Addr} {xs : List V} (h : H l = some (.lst xs)) : TruV K (.ref l) H (!xs.isEmpty) := by
  exact .inl ⟨xs, SqL.of h, rfl⟩
set_option maxHeartbeats 1000000 in
theorem ok_walk {f fP : Addr} {fd fdP : FuncData} (F : Fun K "walk" "walk" sWa f fd) (T : Bi mg) (PO : Df K mg "parts_of" sPO fP fdP ["statement"]) (GPO : FnOk P w K mg base CX0 1 fP fdP ["statement"] spPO) : GFn P w K mg base 2 f fd ["block"] spWalk := by
  obtain ⟨oc, od, kV, doc, pm, an, cdv, ct, osl, rfl, lk, hcd⟩ := F.ex
  refine gfn_of lk hcd scWa (fun vs H Q E h => ?_) fun A outer s H vs Q E pn hr h => ?_
  · obtain ⟨b, xs, ys, rfl, _⟩ := h
    rfl
  · obtain ⟨b, xs, ys, rfl, hb, hne, O, hl, k⟩ := h
    refine' ⟨_, gss_cons (gs_ps ?a) (gss_cons (gs_while owns_gcx ?b (gss_cons (gs_ps ?c) (gss_cons (gs_yield ?d) (gss_cons (gs_ps ?e) (gss_cons (gs_ps ?f) gss_nil))))) gss_nil), ?_⟩
    case a => exact ps_set (i := 1) scWa.nd rfl (Or.inl rfl) (pe_callTy call_list_of (by rfl) T.list (by decide +kernel) (pa_cons (pe_revT (pv 0)) pa_nil))
    case b => exact pt_truth (pv 1) (fun _ => by rfl)
    case c => exact ps_set (i := 2) scWa.nd rfl (Or.inl rfl) (pe_bm0 PySem.F.plainAttrs_list PySem.F.slot_list_pop PySem.F.type_list_pop mt_pop (pv 1))
    case d => exact pv 2
    case e => exact ps_setLc2 (X := gcxOf P w K mg base nWa "walk" (defScope sWa) f cdv A outer s H E pn) (i := 3) (own := [("part", 4), ("clause", 5), ("step", 6)]) (vs1 := [6]) (g1 := gName 6) (tt := tYes) (tt1 := tYes) rfl scWa.nd rfl rfl (sw_true rfl rfl rfl (by decide +kernel)) (pi_list (pe_call GPO hr (by rfl) PO.m PO.F.kp PO.b .nil pass0 (pa_cons (pv 2) pa_nil))) (blkOk_by (N := nWa) (sc := defScope sWa) (by decide +kernel)) (by decide +kernel) (fun _ _ _ _ _ => pg_tupK (K' := K) (n := 2) rfl rfl (pgs_cons (pg_name (i := 4) scWa.nd rfl (Or.inl rfl)) (pgs_cons (pg_name (i := 5) scWa.nd rfl (Or.inl rfl)) pgs_nil))) (fun _ _ _ _ _ => pts_nil) (fun _ _ _ _ _ => pi_tupK (K' := K) rfl (pv 4)) (fun _ _ _ _ _ => pg_name (i := 6) scWa.nd rfl (Or.inl rfl)) (fun _ _ _ _ _ => pts_nil) (fun _ _ _ _ _ => pv 6)
    case f => exact ps_expr (pe_bm PySem.F.plainAttrs_list PySem.F.slot_list_extend PySem.F.type_list_extend mt_extend (pv 1) (pa_cons (pe_stepL (pv 3) (pe_un un_neg pe_int)) pa_nil))
    refine ⟨_, rfl, b, xs, rfl, hb, List.length_pos_iff.mpr hne, fun p hp => ⟨p, _, rfl, .inr (SqT.of upd_same), fun w hw => ?_⟩⟩
    have s1 : Same H (upd H p (.tup xs.reverse)) := (Same.refl H).put hp
    have s2 : Same H (upd (upd H p (.tup xs.reverse)) w (.lst xs.reverse)) := s1.put (s1.free hw)
    have hw0 : H w = none := s1.free hw
    have hww : (upd (upd H p (.tup xs.reverse)) w (.lst xs.reverse)) w = some (.lst xs.reverse) := upd_same
    generalize upd (upd H p (.tup xs.reverse)) w (.lst xs.reverse) = H1 at s2 hww ⊢
    refine ⟨fun m yd σ Hc => ∃ (rest ysr : List V) (v2 v3 v4 v5 v6 : Option V), m = ysr.length ∧ yd ++ ysr = ys ∧ σ = [some (.ref b), some (.ref w), v2, v3, v4, v5, v6] ∧ Hc w = some (.lst rest.reverse) ∧ Ord H rest ysr ∧ Same H Hc,
      ⟨ys.length, xs, ys, _, _, _, _, _, rfl, rfl, rfl, hww, O, s2⟩, ?_⟩
    rintro m yd σ Hc ⟨rest, ysr, v2, v3, v4, v5, v6, rfl, eys, rfl, hwc, Oc, sc⟩
    refine ⟨_, rfl, _, tru_list hwc, ite2 (fun z => ?_) (fun z => ?_)⟩
    case refine_2 =>
      have er : rest = [] := by
        cases rest with
        | nil => rfl
        | cons v r => exact absurd (by simp) z
      subst er
      cases Oc
      rw [List.append_nil] at eys
      show Q yd Hc
      rw [eys]
      exact k Hc sc
    cases Oc with
    | nil => exact absurd z (by simp)
    | @cons v ps bss r ysq S B Oq =>
      have ol := Oq.len
      have lyd : yd.length + (ysq.length + 1) = ys.length := by rw [← eys, List.length_append, List.length_cons]
      refine ⟨fun ys' σ' H' => ∃ m', m' < (v :: ysq).length ∧ ∃ (rest ysr : List V) (v2 v3 v4 v5 v6 : Option V), m' = ysr.length ∧ ys' ++ ysr = ys ∧ σ' = [some (.ref b), some (.ref w), v2, v3, v4, v5, v6] ∧ H' w = some (.lst rest.reverse) ∧ Ord H rest ysr ∧ Same H H', fun _ _ _ h => h, ?_⟩
      rw [List.reverse_cons] at hwc
      refine ⟨_, rfl, .inl ⟨rfl, _, SqL.of hwc⟩, w, _, v, rfl, rfl, hwc, by simp, ?_⟩
      rw [List.dropLast_concat]
      have s3 : Same H (upd Hc w (.lst r.reverse)) := sc.put hw0
      have e3 : (upd Hc w (.lst r.reverse)) w = some (.lst r.reverse) := upd_same
      generalize upd Hc w (.lst r.reverse) = H3 at s3 e3 ⊢
      refine ⟨by show _ < 16777216; omega, _, rfl, ?_⟩
      refine ⟨_, rfl, v, ps, rfl, S.same s3, fun l ts H4 s4 hln hl4 PA => ⟨l, rfl, ⟨_, SqL.of hl4⟩, fun D hD => ?_⟩⟩
      have s34 := s3.trans s4
      refine any_it (walk_list (K := K) (a := l) (xs := ts.map V.ref)) (fun i Hd => Hd D = some (.lst (bss.take i).flatten) ∧ Same H4 Hd) ?_ ?_ ?_ ?_
      · exact ⟨upd_same, (Same.refl H4).put hD⟩
      · rintro i Hd _ ⟨_, sd⟩
        exact SqL.of (sd l _ hl4)
      · rintro i y Hd _ hi ⟨g1, sd⟩ ⟨rfl, hy⟩
        rw [List.length_map] at hi
        obtain ⟨t, ht⟩ : ∃ t, ts[i]? = some t := ⟨_, List.getElem?_eq_getElem hi⟩
        rw [List.getElem?_map, ht] at hy
        cases hy
        obtain ⟨pp, hpp, et⟩ := PA.get ht
        have ib : i < bss.length := by
          have := (List.getElem?_eq_some_iff.mp hpp).1
          have := B.1
          omega
        obtain ⟨bx, hbx⟩ : ∃ bx, bss[i]? = some bx := ⟨_, List.getElem?_eq_getElem ib⟩
        obtain ⟨ab, eab, hab⟩ := B.2 i pp bx hpp hbx
        have hab4 := s34 _ _ hab
        have fl : (bss.take (i + 1)).flatten = (bss.take i).flatten ++ bx := by rw [List.take_add_one, hbx, List.flatten_append]; simp
        have flen : (bss.take i).flatten.length + bx.length ≤ bss.flatten.length := by
          have e : bss.flatten = (bss.take (i + 1)).flatten ++ (bss.drop (i + 1)).flatten := by rw [← List.flatten_append, List.take_append_drop]
          rw [e, List.length_append, fl, List.length_append]
          omega
        have flys : bss.flatten.length ≤ ysq.length := by rw [List.length_append] at ol; omega
        refine ⟨t, _, rfl, SqT.of (sd t _ et), rfl, pp.1, [pp.2], rfl, pp.2, [], rfl, rfl, rfl, _, rfl, ab, eab, ⟨_, SqT.of (sd _ _ hab4)⟩, ?_⟩
        refine any_it (walk_tup (K := K) (a := ab) (xs := bx)) (fun j He => He D = some (.lst ((bss.take i).flatten ++ bx.take j)) ∧ Same H4 He) ?_ ?_ ?_ ?_
        · exact ⟨by rw [List.take_zero, List.append_nil]; exact g1, sd⟩
        · rintro j He _ ⟨_, se⟩
          exact SqT.of (se _ _ hab4)
        · rintro j y He _ hj ⟨g2, se⟩ ⟨rfl, hy⟩
          refine ⟨rfl, _, rfl, _, g2, ?_, ?_, se.put hD⟩
          · rw [List.length_append, List.length_take]; show _ < 16777216; omega
          · rw [upd_same, List.take_add_one, hy, List.append_assoc]
            rfl
        · rintro He ⟨g2, se⟩
          refine ⟨?_, se⟩
          rw [List.take_length] at g2
          rw [fl]
          exact g2
      · rintro Hd ⟨g1, sd⟩
        rw [List.length_map, PA.len, B.1, List.take_length] at g1
        have e5 := sd _ _ (s4 _ _ e3)
        have flys : bss.flatten.length + r.length ≤ ysq.length := by rw [List.length_append] at ol; omega
        refine ⟨_, rfl, .inl ⟨rfl, _, SqL.of e5⟩, _, rfl, 1, rfl, -1, rfl, D, _, rfl, SqL.of g1, .inr ⟨rfl, fun q hq => ?_⟩⟩
        have s5 : Same Hd (upd Hd q (.lst bss.flatten.reverse)) := (Same.refl Hd).put hq
        refine ⟨w, q, _, _, rfl, rfl, s5 _ _ e5, upd_same, by rw [List.length_reverse, List.length_reverse]; show _ ≤ 16777216; omega, ?_⟩
        have s6 := (s34.trans sd).trans s5
        refine ⟨ysq.length, Nat.lt_succ_self _, bss.flatten ++ r, ysq, _, _, _, _, _, rfl, by rw [← eys, List.append_assoc]; rfl, rfl, ?_, Oq, s6.put hw0⟩
        rw [upd_same, List.reverse_append]
end
end K2
end
section
set_option Elab.async false
set_option maxRecDepth 100000
set_option linter.all false
namespace K2
open PySem L2
/-- row n, a value v, has the fault r behind the names nm -/
inductive FaultV (K : PySem.W.Frag) (H : Hp) (nm : List Str) : V → Nat → Str → Prop where
  | many (v : V) : FaultV K H nm v 30 "many"
  | row1 {v : V} {t : Value} {n : Nat} (hn : n < 30) (ty : TyX K H v t) (k : PySem.W.kitOne K t (.type "tuple") = some false) : FaultV K H nm v n "row"
  | row2 {a : Addr} {xs : List V} {n : Nat} (hn : n < 30) (h : H a = some (.tup xs)) (l : xs.length < 2) : FaultV K H nm (.ref a) n "row"
  | row3 {a : Addr} {xs : List V} {bs : List Bool} {n : Nat} (hn : n < 30) (h : H a = some (.tup xs)) (l : 2 ≤ xs.length) (l2 : xs.length ≤ 100) (wd : WdAll K H xs bs) (no : bs.all id = false) : FaultV K H nm (.ref a) n "row"
  | name {a : Addr} {x : Str} {bs : List Str} {n : Nat} (hn : n < 30) (h : H a = some (.tup ((x :: bs).map V.str))) (l : bs ≠ []) (l2 : bs.length ≤ 60) (vw : ∀ y ∈ x :: bs, VW y) (hx : x ∈ nm) : FaultV K H nm (.ref a) n "name"
  | base {a : Addr} {x : Str} {bs : List Str} {n : Nat} (hn : n < 30) (h : H a = some (.tup ((x :: bs).map V.str))) (l : bs ≠ []) (l2 : bs.length ≤ 60) (vw : ∀ y ∈ x :: bs, VW y) (hx : x ∉ nm) (hb : (∃ b ∈ bs, b ∉ nm) ∨ ¬ bs.Nodup) : FaultV K H nm (.ref a) n "base"
theorem not_nodup : ∀ {xs : List Str}, ¬ xs.Nodup → ∃ zs : List Str, zs.length < xs.length ∧ ∀ y ∈ xs, y ∈ zs
  | [], h => absurd List.nodup_nil h
  | x :: r, h => by
    by_cases hx : x ∈ r
    · refine ⟨r, by simp, fun y hy => ?_⟩
      rcases List.mem_cons.mp hy with rfl | hy
      · exact hx
      · exact hy
    · obtain ⟨zs, h1, h2⟩ := not_nodup (xs := r) fun n => h (List.nodup_cons.mpr ⟨hx, n⟩)
      refine ⟨x :: zs, by simp; exact h1, fun y hy => ?_⟩
      rcases List.mem_cons.mp hy with rfl | hy
      · exact List.mem_cons_self
      · exact List.mem_cons_of_mem _ (h2 y hy)
theorem set_len {xs ys : List Str} (nd : ys.Nodup) (me : ∀ y, y ∈ ys ↔ y ∈ xs) : decide (ys.length = xs.length) = decide xs.Nodup := by
  by_cases h : xs.Nodup
  · rw [decide_eq_true h, decide_eq_true (((List.perm_ext_iff_of_nodup nd h).mpr me).length_eq)]
  · rw [decide_eq_false h]
    refine decide_eq_false fun e => ?_
    obtain ⟨zs, h1, h2⟩ := not_nodup h
    have := nd.length_le_of_subset fun y hy => h2 y ((me y).mp hy)
    omega
def spAreDG : Sp := fun vs H Q _ => ∃ (t : Addr) (xs : List Str), vs = [.ref t] ∧ H t = some (.tup (xs.map V.str)) ∧ xs.length ≤ 1000 ∧ Q (.bl (decide xs.Nodup)) H
section
variable {P : Program} {w : World} {K : PySem.W.Frag} {mg : Str → Option Value} {base : Heap}
theorem ok_aredG {f : Addr} {fd : FuncData} (F : Fun K "are_different" "are_different" sAreD f fd) (T : Bi mg) : FnOk P w K mg base CX0 1 f fd ["words"] spAreDG := by
  refine F.ok scAreD (fun vs H Q E h => ?_) (fun cdv A outer s H vs Q E hr h => ?_)
  · obtain ⟨t, xs, rfl, _⟩ := h
    rfl
  · obtain ⟨t, xs, rfl, ht, few, k⟩ := h
    refine ⟨_, pss_one (ps_ret (pe_cmpR op_eq (pe_lenSetG (by rfl) T.len (by rfl) T.set (pv 0)) (pe_callB call_len_seq (by rfl) T.len PySem.boot_len (pa_cons (pv 0) pa_nil)) (nomark _))), ?_⟩
    refine ⟨_, rfl, t, xs, rfl, ht, few, fun ys nd me => ⟨_, rfl, t, _, rfl, .inr (SqT.of ht), rfl, ?_⟩⟩
    have e : decide (V.int ((ys.length : Nat) : Int) = V.int (((xs.map V.str).length : Nat) : Int)) = decide xs.Nodup := by
      rw [← set_len nd me, List.length_map]
      refine decide_eq_decide.mpr ⟨fun q => ?_, fun q => by rw [q]⟩
      have := V.int.inj q
      omega
    rw [e]
    exact k
end
end K2
end
section
set_option Elab.async false
set_option maxRecDepth 100000
set_option linter.all false
/-! the forms of statements -/
namespace K2
open PySem L2
abbrev sIB : Stmt := top 21
abbrev sEM : Stmt := top 26
abbrev sRA : Stmt := top 27
abbrev sAG : Stmt := top 28
abbrev sCA : Stmt := top 29
abbrev sLO : Stmt := top 30
abbrev sHA : Stmt := top 31
abbrev sEI : Stmt := top 32
abbrev sAN : Stmt := top 36
abbrev nIB : List Str := ["x"]
abbrev nEM : List Str := ["rest"]
abbrev nRA : List Str := ["rest"]
abbrev nAG : List Str := ["rest"]
abbrev nCA : List Str := ["rest"]
abbrev nLO : List Str := ["rest"]
abbrev nHA : List Str := ["rest"]
abbrev nEI : List Str := ["rest", "part"]
abbrev nAN : List Str := ["x"]
/-- is_block of a value gives b -/
inductive BlV (K : PySem.W.Frag) (H : Hp) : V → Bool → Prop where
  | tup {a : Addr} {xs : List V} (h : H a = some (.tup xs)) : BlV K H (.ref a) (!xs.isEmpty)
  | no {x : V} {t : Value} (ty : TyX K H x t) (k : PySem.W.kitOne K t (.type "tuple") = some false) : BlV K H x false
theorem BlV.same {K : PySem.W.Frag} {H H' : Hp} {x : V} {b : Bool} (h : BlV K H x b) (s : Same H H') : BlV K H' x b := by
  cases h with
  | tup h => exact .tup (s _ _ h)
  | no ty k => exact .no (ty.same s) k
def BlAll (K : PySem.W.Frag) (H : Hp) (xs : List V) (bs : List Bool) : Prop := xs.length = bs.length ∧ ∀ (i : Nat) (x : V) (b : Bool), xs[i]? = some x → bs[i]? = some b → BlV K H x b
def spIB (K : PySem.W.Frag) : Sp := fun vs H Q _ => ∃ (x : V) (b : Bool), vs = [x] ∧ BlV K H x b ∧ Q (.bl b) H
def spEM : Sp := fun vs H Q _ => ∃ (a : Addr) (xs : List V), vs = [.ref a] ∧ H a = some (.tup xs) ∧ Q (.bl xs.isEmpty) H
def spLO (K : PySem.W.Frag) : Sp := fun vs H Q _ => ∃ (a : Addr) (xs : List V) (b : Bool), vs = [.ref a] ∧ H a = some (.tup xs) ∧ (xs.length ≠ 1 → b = false) ∧ (∀ x, xs = [x] → BlV K H x b) ∧ Q (.bl b) H
def spEI (K : PySem.W.Frag) : Sp := fun vs H Q _ => ∃ (a : Addr) (xs : List V) (bs : List Bool), vs = [.ref a] ∧ H a = some (.tup xs) ∧ xs.length ≤ 1000 ∧ BlAll K H xs bs ∧ ∀ H', Same H H' → Q (.bl (decide (2 ≤ xs.length) && bs.all id)) H'
def spHA (K : PySem.W.Frag) : Sp := fun vs H Q _ => ∃ (a : Addr) (xs : List V) (bs : List Bool), vs = [.ref a] ∧ H a = some (.tup xs) ∧ xs.length ≤ 1000 ∧ BlAll K H xs bs ∧ ∀ H', Same H H' → Q (.bl (decide (xs.length = 2) && bs.all id)) H'
def spCA (K : PySem.W.Frag) : Sp := fun vs H Q _ => ∃ (a : Addr) (xs : List V) (bs : List Bool), vs = [.ref a] ∧ H a = some (.tup xs) ∧ xs.length ≤ 100 ∧ WdAll K H xs bs ∧ ∀ H', Same H H' → Q (.bl (decide (1 ≤ xs.length) && bs.all id)) H'
def spAG (K : PySem.W.Frag) : Sp := fun vs H Q _ => ∃ (a : Addr) (xs : List V) (bs : List Bool), vs = [.ref a] ∧ H a = some (.tup xs) ∧ xs.length ≤ 100 ∧ WdAll K H xs bs ∧ ∀ H', Same H H' → Q (.bl (decide (xs.length ≤ 1) && bs.all id)) H'
section
variable {P : Program} {w : World} {K : PySem.W.Frag} {mg : Str → Option Value} {base : Heap}
theorem scIB : FnScope nIB ["x"] (defScope sIB) := ⟨rfl, rfl, rfl, by decide +kernel, rfl, by decide +kernel, by decide +kernel⟩
theorem scEM : FnScope nEM ["rest"] (defScope sEM) := ⟨rfl, rfl, rfl, by decide +kernel, rfl, by decide +kernel, by decide +kernel⟩
theorem scRA : FnScope nRA ["rest"] (defScope sRA) := ⟨rfl, rfl, rfl, by decide +kernel, rfl, by decide +kernel, by decide +kernel⟩
theorem scAG : FnScope nAG ["rest"] (defScope sAG) := ⟨rfl, rfl, rfl, by decide +kernel, rfl, by decide +kernel, by decide +kernel⟩
theorem scCA : FnScope nCA ["rest"] (defScope sCA) := ⟨rfl, rfl, rfl, by decide +kernel, rfl, by decide +kernel, by decide +kernel⟩
theorem scLO : FnScope nLO ["rest"] (defScope sLO) := ⟨rfl, rfl, rfl, by decide +kernel, rfl, by decide +kernel, by decide +kernel⟩
theorem scHA : FnScope nHA ["rest"] (defScope sHA) := ⟨rfl, rfl, rfl, by decide +kernel, rfl, by decide +kernel, by decide +kernel⟩
theorem scEI : FnScope nEI ["rest"] (defScope sEI) := ⟨rfl, rfl, rfl, by decide +kernel, rfl, by decide +kernel, by decide +kernel⟩
theorem scAN : FnScope nAN ["x"] (defScope sAN) := ⟨rfl, rfl, rfl, by decide +kernel, rfl, by decide +kernel, by decide +kernel⟩
theorem gt0 (xs : List V) : decide ((xs.length : Int) > 0) = !xs.isEmpty := by
  cases xs with
  | nil => rfl
  | cons x r => rw [List.length_cons, decide_eq_true (by omega)]; rfl
theorem ok_ib {f : Addr} {fd : FuncData} (F : Fun K "is_block" "is_block" sIB f fd) (T : Bi mg) : FnOk P w K mg base CX0 1 f fd ["x"] (spIB K) := by
  refine F.ok scIB (fun vs H Q E h => ?_) (fun cdv A outer s H vs Q E hr h => ?_)
  · obtain ⟨x, b, rfl, _⟩ := h
    rfl
  · obtain ⟨x, b, rfl, hb, k⟩ := h
    refine ⟨_, (pss_one (ps_ret (pe_and (pe_callB call_isi (by rfl) T.isinstance (by decide +kernel) (pa_cons (pv 0) (pa_cons (pe_bltn (v := .ty "tuple") (by rfl) T.tuple (by decide +kernel) rfl) pa_nil))) (pe_one (pe_cmpR op_gt (pe_callB call_len_seq (by rfl) T.len PySem.boot_len (pa_cons (pv 0) pa_nil)) pe_int (nomark _)))))), ?_⟩
    cases hb with
    | no ty kk => exact ⟨_, rfl, _, _, _, _, false, rfl, .ty _, ty, kk, _, rfl, iteF k⟩
    | @tup a xs h =>
      refine ⟨_, rfl, _, _, _, _, true, rfl, .ty _, .base (.tup h), kit_ty (by decide +kernel), _, rfl, iteT ⟨_, rfl, _, _, rfl, .inr (SqT.of h), _, _, rfl, rfl, ?_⟩⟩
      show Q (V.bl (decide ((0 : Int) < (xs.length : Int)))) H
      rw [show decide ((0 : Int) < (xs.length : Int)) = _ from gt0 xs]
      exact k
theorem ok_em {f : Addr} {fd : FuncData} (F : Fun K "_is_empty" "_is_empty" sEM f fd) (T : Bi mg) : FnOk P w K mg base CX0 1 f fd ["rest"] spEM := by
  refine F.ok scEM (fun vs H Q E h => ?_) (fun cdv A outer s H vs Q E hr h => ?_)
  · obtain ⟨a, xs, rfl, _⟩ := h
    rfl
  · obtain ⟨a, xs, rfl, h, k⟩ := h
    refine ⟨_, (pss_one (ps_ret (pe_cmpR op_eq (pe_callB call_len_seq (by rfl) T.len PySem.boot_len (pa_cons (pv 0) pa_nil)) pe_int (nomark _)))), ?_⟩
    refine ⟨_, rfl, a, _, rfl, .inr (SqT.of h), rfl, ?_⟩
    have e : decide (V.int (xs.length : Int) = V.int 0) = xs.isEmpty := by
      cases xs with
      | nil => rfl
      | cons x r =>
        rw [List.length_cons]
        exact decide_eq_false fun q => by have := V.int.inj q; omega
    rw [e]
    exact k
theorem ok_lo {f fB : Addr} {fd fdB : FuncData} (F : Fun K "_is_loop" "_is_loop" sLO f fd) (T : Bi mg) (IB : Df K mg "is_block" sIB fB fdB ["x"]) (GB : FnOk P w K mg base CX0 1 fB fdB ["x"] (spIB K)) : FnOk P w K mg base CX0 2 f fd ["rest"] (spLO K) := by
  refine F.ok scLO (fun vs H Q E h => ?_) (fun cdv A outer s H vs Q E hr h => ?_)
  · obtain ⟨a, xs, b, rfl, _⟩ := h
    rfl
  · obtain ⟨a, xs, b, rfl, h, h1, h2, k⟩ := h
    have hr1 : Room 1 _ := hr
    refine ⟨_, (pss_one (ps_ret (pe_and (pe_cmpR op_eq (pe_callB call_len_seq (by rfl) T.len PySem.boot_len (pa_cons (pv 0) pa_nil)) pe_int (nomark _)) (pe_one (pe_call GB hr1 (by rfl) IB.m IB.F.kp IB.b .nil pass0 (pa_cons (pe_ix ix_tup (pv 0) pe_int (fun _ _ => rfl)) pa_nil)))))), ?_⟩
    refine ⟨_, rfl, a, _, rfl, .inr (SqT.of h), rfl, _, rfl, ?_⟩
    by_cases hl : xs.length = 1
    · obtain ⟨x, rfl⟩ := List.length_eq_one_iff.mp hl
      exact iteT ⟨_, rfl, a, _, _, x, rfl, rfl, SqT.of h, atI_nat (j := 0) rfl, x, b, rfl, h2 x rfl, k⟩
    · have e : decide (V.int (xs.length : Int) = V.int 1) = false := decide_eq_false fun q => by have := V.int.inj q; omega
      rw [e]
      rw [h1 hl] at k
      exact iteF k
theorem all_blocks {xs : List V} {bs : List Bool} {i : Nat} {x : V} (hx : xs.length = bs.length) (h : xs[i]? = some x) : ∃ b, bs[i]? = some b := by
  have := (List.getElem?_eq_some_iff.mp h).1
  exact ⟨_, List.getElem?_eq_getElem (by omega)⟩
theorem ok_ei {f fB : Addr} {fd fdB : FuncData} (F : Fun K "_is_either" "_is_either" sEI f fd) (T : Bi mg) (IB : Df K mg "is_block" sIB fB fdB ["x"]) (GB : FnOk P w K mg base CX0 1 fB fdB ["x"] (spIB K)) : FnOk P w K mg base CX0 2 f fd ["rest"] (spEI K) := by
  refine F.ok scEI (fun vs H Q E h => ?_) (fun cdv A outer s H vs Q E hr h => ?_)
  · obtain ⟨a, xs, bs, rfl, _⟩ := h
    rfl
  · obtain ⟨a, xs, bs, rfl, h, hl, B, k⟩ := h
    have hr1 : Room 1 _ := hr
    refine ⟨_, (pss_one (ps_ret (pe_and (pe_cmpR op_ge (pe_callB call_len_seq (by rfl) T.len PySem.boot_len (pa_cons (pv 0) pa_nil)) pe_int (nomark _)) (pe_one (pe_callB (cr_all rfl) (by rfl) T.all (by decide +kernel) (pa_cons (pe_lc (own := [("part", 1)]) (g := gName 1) (tt := tYes) rfl scEI.nd (pi_tup (pv 0)) (blkOk_by (N := nEI) (sc := defScope sEI) (by decide +kernel)) (fun _ _ _ _ _ => pg_name (i := 1) scEI.nd rfl (Or.inl rfl)) (fun _ _ _ _ _ => pts_nil) (fun _ _ _ _ _ => pe_call GB hr1 (by rfl) IB.m IB.F.kp IB.b .nil pass0 (pa_cons (pv 1) pa_nil))) pa_nil)))))), ?_⟩
    refine ⟨_, rfl, a, _, rfl, .inr (SqT.of h), _, _, rfl, rfl, _, rfl, ?_⟩
    by_cases h2 : 2 ≤ xs.length
    case neg =>
      rw [decide_eq_false h2] at k
      show if (decide ((2 : Int) ≤ (xs.length : Int))) = true then _ else _
      rw [decide_eq_false (by omega)]
      exact iteF (k H (Same.refl H))
    rw [decide_eq_true h2, Bool.true_and] at k
    show if (decide ((2 : Int) ≤ (xs.length : Int))) = true then _ else _
    rw [decide_eq_true (by omega)]
    refine iteT ⟨_, rfl, a, rfl, ⟨_, SqT.of h⟩, fun D hD => ?_⟩
    refine lc_tup (K := K) (a := a) (xs := xs) (fun i Hc => Hc D = some (.lst ((bs.take i).map V.bl)) ∧ Same H Hc) ?_ ?_ ?_ ?_
    · exact ⟨upd_same, (Same.refl H).put hD⟩
    · rintro i Hc _ ⟨_, sm⟩
      exact SqT.of (sm a _ h)
    · rintro i y Hc hy ⟨h1, sm⟩
      have hil : i < xs.length := (List.getElem?_eq_some_iff.mp hy).1
      obtain ⟨b, hbi⟩ := all_blocks B.1 hy
      refine ⟨rfl, _, rfl, y, b, rfl, (B.2 i y b hy hbi).same sm, _, h1, ?_, ?_, sm.put hD⟩
      · rw [List.length_map, List.length_take]; show _ < 16777216; omega
      · rw [upd_same, List.take_add_one, hbi, List.map_append]
        rfl
    · rintro Hc ⟨h1, sm⟩
      rw [B.1, List.take_length] at h1
      exact ⟨D, _, rfl, SqL.of h1, k Hc sm⟩
theorem ok_ha {f fE : Addr} {fd fdE : FuncData} (F : Fun K "_is_handling" "_is_handling" sHA f fd) (T : Bi mg) (EI : Df K mg "_is_either" sEI fE fdE ["rest"]) (GE : FnOk P w K mg base CX0 2 fE fdE ["rest"] (spEI K)) : FnOk P w K mg base CX0 3 f fd ["rest"] (spHA K) := by
  refine F.ok scHA (fun vs H Q E h => ?_) (fun cdv A outer s H vs Q E hr h => ?_)
  · obtain ⟨a, xs, bs, rfl, _⟩ := h
    rfl
  · obtain ⟨a, xs, bs, rfl, h, hl, B, k⟩ := h
    have hr2 : Room 2 _ := hr
    refine ⟨_, (pss_one (ps_ret (pe_and (pe_cmpR op_eq (pe_callB call_len_seq (by rfl) T.len PySem.boot_len (pa_cons (pv 0) pa_nil)) pe_int (nomark _)) (pe_one (pe_call GE hr2 (by rfl) EI.m EI.F.kp EI.b .nil pass0 (pa_cons (pv 0) pa_nil)))))), ?_⟩
    refine ⟨_, rfl, a, _, rfl, .inr (SqT.of h), rfl, _, rfl, ?_⟩
    by_cases h2 : xs.length = 2
    · rw [decide_eq_true h2, Bool.true_and] at k
      have e : decide (V.int (xs.length : Int) = V.int 2) = true := decide_eq_true (by rw [h2]; rfl)
      rw [e]
      refine iteT ⟨_, rfl, a, xs, bs, rfl, h, hl, B, fun H' s' => ?_⟩
      rw [decide_eq_true (show 2 ≤ xs.length by omega), Bool.true_and]
      exact k H' s'
    · rw [decide_eq_false h2] at k
      have e : decide (V.int (xs.length : Int) = V.int 2) = false := decide_eq_false fun q => by have := V.int.inj q; omega
      rw [e]
      exact iteF (k H (Same.refl H))
theorem ok_ca {f fA : Addr} {fd fdA : FuncData} (F : Fun K "_is_call" "_is_call" sCA f fd) (T : Bi mg) (AW : Df K mg "are_words" sAreW fA fdA ["xs"]) (GA : FnOk P w K mg base CX0 2 fA fdA ["xs"] (spAreWG K)) : FnOk P w K mg base CX0 3 f fd ["rest"] (spCA K) := by
  refine F.ok scCA (fun vs H Q E h => ?_) (fun cdv A outer s H vs Q E hr h => ?_)
  · obtain ⟨a, xs, bs, rfl, _⟩ := h
    rfl
  · obtain ⟨a, xs, bs, rfl, h, hl, B, k⟩ := h
    have hr2 : Room 2 _ := hr
    refine ⟨_, (pss_one (ps_ret (pe_and (pe_cmpR op_ge (pe_callB call_len_seq (by rfl) T.len PySem.boot_len (pa_cons (pv 0) pa_nil)) pe_int (nomark _)) (pe_one (pe_call GA hr2 (by rfl) AW.m AW.F.kp AW.b .nil pass0 (pa_cons (pv 0) pa_nil)))))), ?_⟩
    refine ⟨_, rfl, a, _, rfl, .inr (SqT.of h), _, _, rfl, rfl, _, rfl, ?_⟩
    show if (decide ((1 : Int) ≤ (xs.length : Int))) = true then _ else _
    by_cases h2 : 1 ≤ xs.length
    · rw [decide_eq_true h2, Bool.true_and] at k
      rw [decide_eq_true (by omega)]
      exact iteT ⟨_, rfl, a, xs, bs, rfl, h, B, hl, k⟩
    · rw [decide_eq_false h2] at k
      rw [decide_eq_false (by omega)]
      exact iteF (k H (Same.refl H))
theorem ok_ag {f fA : Addr} {fd fdA : FuncData} (F : Fun K "_is_again" "_is_again" sAG f fd) (T : Bi mg) (AW : Df K mg "are_words" sAreW fA fdA ["xs"]) (GA : FnOk P w K mg base CX0 2 fA fdA ["xs"] (spAreWG K)) : FnOk P w K mg base CX0 3 f fd ["rest"] (spAG K) := by
  refine F.ok scAG (fun vs H Q E h => ?_) (fun cdv A outer s H vs Q E hr h => ?_)
  · obtain ⟨a, xs, bs, rfl, _⟩ := h
    rfl
  · obtain ⟨a, xs, bs, rfl, h, hl, B, k⟩ := h
    have hr2 : Room 2 _ := hr
    refine ⟨_, (pss_one (ps_ret (pe_and (pe_cmpR op_le (pe_callB call_len_seq (by rfl) T.len PySem.boot_len (pa_cons (pv 0) pa_nil)) pe_int (nomark _)) (pe_one (pe_call GA hr2 (by rfl) AW.m AW.F.kp AW.b .nil pass0 (pa_cons (pv 0) pa_nil)))))), ?_⟩
    refine ⟨_, rfl, a, _, rfl, .inr (SqT.of h), _, _, rfl, rfl, _, rfl, ?_⟩
    show if (decide ((xs.length : Int) ≤ 1)) = true then _ else _
    by_cases h2 : xs.length ≤ 1
    · rw [decide_eq_true h2, Bool.true_and] at k
      rw [decide_eq_true (by omega)]
      exact iteT ⟨_, rfl, a, xs, bs, rfl, h, B, hl, k⟩
    · rw [decide_eq_false h2] at k
      rw [decide_eq_false (by omega)]
      exact iteF (k H (Same.refl H))
end
end K2
end
section
set_option Elab.async false
set_option maxRecDepth 100000
set_option linter.all false
namespace K2
open PySem L2
abbrev sLW : Stmt := top 56
abbrev nLW : List Str := ["_law_thing", "_law_sign"]
def lets : Str := Str.ofString "abcdefghijklmnopqrstuvwxyz"
theorem lets_iff : ∀ c, c ∈ lets.cps.toList ↔ 97 ≤ c ∧ c ≤ 122 := by
  have h1 : ∀ c ∈ lets.cps.toList, 97 ≤ c ∧ c ≤ 122 := by decide +kernel
  have h2 : ∀ k, k < 26 → 97 + k ∈ lets.cps.toList := by decide +kernel
  intro c
  refine ⟨h1 c, fun h => ?_⟩
  have := h2 (c - 97) (by omega)
  rwa [show 97 + (c - 97) = c by omega] at this
theorem ascii_low : ∀ c, c < 128 → Unicode.isAlpha c = true → Unicode.isUpper c = false → 97 ≤ c ∧ c ≤ 122 := by decide +kernel
theorem isW_vw {x : Str} (h : isW x = true) : VW x := by
  unfold isW at h
  simp only [Bool.and_eq_true, Bool.not_eq_true', decide_eq_false_iff_not] at h
  obtain ⟨h8, h1, h2, h3, h4⟩ := h
  unfold Txt.isascii at h1
  unfold Txt.isalpha at h2
  unfold Txt.islower at h3
  rw [← Array.all_toList, List.all_eq_true] at h1
  rw [Bool.and_eq_true, ← Array.all_toList, List.all_eq_true] at h2
  rw [Bool.and_eq_true, Bool.not_eq_true', ← Array.any_toList, ← Array.any_toList, List.any_eq_false] at h3
  refine ⟨fun c hc => ?_, ?_, ?_, h4⟩
  · have a1 := h1 c hc
    have a2 := h2.2 c hc
    have a3 := h3.2 c hc
    refine ascii_low c (by simpa using a1) a2 ?_
    cases hu : Unicode.isUpper c with
    | false => rfl
    | true => simp [hu] at a3
  · intro e
    have := of_decide_eq_true h2.1
    rw [len_codes, e] at this
    simp at this
  · rw [← len_codes]
    omega
def offS (x : Str) : List Nat := (codes x).filter fun c => !decide (c ∈ lets.cps.toList)
def lawW (x : Str) : Bool := decide ((1 : Int) ≤ (x.length : Int)) && (decide ((x.length : Int) ≤ 8) && (!decide (x ∈ resd) && (offS x).isEmpty))
theorem lawW_isW (x : Str) : lawW x = isW x := by
  rw [Bool.eq_iff_iff]
  unfold lawW
  simp only [Bool.and_eq_true, decide_eq_true_eq, Bool.not_eq_true', decide_eq_false_iff_not, List.isEmpty_iff]
  constructor
  · rintro ⟨h1, h8, h3, h4⟩
    refine vw_isW ⟨fun c hc => ?_, ?_, ?_, h3⟩
    · unfold offS at h4
      rw [List.filter_eq_nil_iff] at h4
      have := h4 c hc
      simp only [Bool.not_eq_true', Bool.not_eq_false, decide_eq_true_eq, decide_eq_false_iff_not, Decidable.not_not] at this
      exact (lets_iff c).mp this
    · intro e
      rw [len_codes, e] at h1
      simp at h1
    · rw [← len_codes]
      omega
  · intro h
    have v := isW_vw h
    have hl := List.length_pos_iff.mpr v.ne
    have h8 := v.le
    rw [← len_codes] at hl h8
    refine ⟨by omega, by omega, v.nr, ?_⟩
    unfold offS
    rw [List.filter_eq_nil_iff]
    intro c hc
    have := (lets_iff c).mpr (v.low c hc)
    simp [this]
theorem cut_barred : cutV (barred.map V.str) none (some (-2)) = resd.map V.str := by decide +kernel
def spLW (K : PySem.W.Frag) : Sp := fun vs H Q _ => ∃ (x : V) (b : Bool), vs = [x] ∧ WdV K H x b ∧ ∀ H', Same H H' → Q (.bl b) H'
section
variable {P : Program} {w : World} {K : PySem.W.Frag} {mg : Str → Option Value} {base : Heap}
theorem scLW : FnScope nLW ["_law_thing"] (defScope sLW) := ⟨rfl, rfl, rfl, by decide +kernel, rfl, by decide +kernel, by decide +kernel⟩
theorem ok_lw {f fB : Addr} {fd fdB : FuncData} (F : Fun K "_law_is_word" "_law_is_word" sLW f fd) (T : Bi mg) (BA : Df K mg "_law_barred" sBarred fB fdB []) (GB : FnOk P w K mg base CX0 1 fB fdB [] spBarred) : FnOk P w K mg base CX0 2 f fd ["_law_thing"] (spLW K) := by
  refine F.ok scLW (fun vs H Q E h => ?_) (fun cdv A outer s H vs Q E hr h => ?_)
  · obtain ⟨x, b, rfl, _⟩ := h
    rfl
  · obtain ⟨x, b, rfl, hx, k⟩ := h
    have hr1 : Room 1 _ := hr
    have hu := hu_of hr
    refine ⟨_, (pss_cons (ps_if (PW.pt (pw_or (pt_not (pt_val (pe_callB call_isi (by rfl) T.isinstance (by decide +kernel) (pa_cons (pv 0) (pa_cons (pe_bltn (v := .ty "str") (by rfl) T.str (by decide +kernel) rfl) pa_nil)))))
        (pw_or (pt_not (pt_chain op_le op_le pe_int (pe_callB call_len_str (by rfl) T.len PySem.boot_len (pa_cons (pv 0) pa_nil)) pe_int))
        (pw_or1 (pt_cmpR op_in_seq (pv 0) (pe_slice sl_list (pe_call0 GB hr1 (by rfl) BA.m BA.F.kp BA.b .nil pass0) po_none (po_some (pe_un un_neg pe_int))) rfl))))) (pss_one (ps_ret pe_bl)) pss_nil)
      (pss_one (ps_ret (pe_cmpR (op_eqL0 (Nat.lt_of_succ_lt hu)) (pe_lc (own := [("_law_sign", 1)]) (g := gName 1) rfl scLW.nd (pi_str (pv 0)) (blkOk_by (N := nLW) (sc := defScope sLW) (by decide +kernel)) (fun _ _ _ _ _ => pg_name (i := 1) scLW.nd rfl (Or.inl rfl))
        (fun _ _ _ _ _ => pts_one (pt_cmpR op_notIn_sign (pv 1) pe_str rfl)) (fun _ _ _ _ _ => pv 1)) (pe_lst pa_nil) (nomark _))))), ?_⟩
    cases hx with
    | no ty kk => exact ⟨_, rfl, _, _, _, _, false, rfl, .ty _, ty, kk, _, rfl, iteT (k H (Same.refl H))⟩
    | str x hl =>
      rw [← lawW_isW] at k
      refine ⟨_, rfl, _, _, _, _, true, rfl, .ty _, .base (.str _), kit_ty (by decide +kernel), _, rfl, ?_⟩
      refine ⟨_, rfl, _, rfl, hl, _, _, rfl, rfl, _, rfl, ite2 (fun h1 => ?_) (fun h1 => ?_)⟩
      case refine_2 =>
        have e : lawW x = false := by
          unfold lawW
          rw [decide_eq_false (fun q => h1 (decide_eq_true q))]
          rfl
        rw [e] at k
        exact ⟨_, rfl, iteT (k H (Same.refl H))⟩
      have h1 := of_decide_eq_true h1
      refine ⟨_, _, rfl, rfl, _, rfl, ?_⟩
      by_cases h8 : (x.length : Int) ≤ 8
      case neg =>
        have e : lawW x = false := by
          unfold lawW
          rw [decide_eq_false h8, decide_eq_true h1]
          rfl
        rw [e] at k
        rw [decide_eq_false h8]
        exact iteT (k H (Same.refl H))
      rw [decide_eq_true h8]
      refine iteF ⟨_, rfl, rfl, fun lb hlb => ⟨2, rfl, _, rfl, lb, _, rfl, SqL.of upd_same, fun l2 hl2 => ?_⟩⟩
      have s1 : Same H (upd H lb (.lst (barred.map V.str))) := (Same.refl H).put hlb
      have s2 := s1.put (o := .lst (cutV (barred.map V.str) none (some (-2)))) (s1.free hl2)
      refine ⟨l2, _, rfl, .inl (SqL.of (by rw [upd_same, show cutV (barred.map V.str) none (some (-2)) = resd.map V.str from cut_barred])), rfl, flat_strs _, _, rfl, ?_⟩
      rw [if_neg Bool.false_ne_true, inV_strs]
      by_cases hr : x ∈ resd
      case pos =>
        have e : lawW x = false := by
          unfold lawW
          rw [decide_eq_true hr, decide_eq_true h8, decide_eq_true h1]
          rfl
        rw [e] at k
        rw [decide_eq_true hr]
        exact iteT (k _ s2)
      rw [decide_eq_false hr]
      have e : lawW x = (offS x).isEmpty := by
        unfold lawW
        rw [decide_eq_false hr, decide_eq_true h8, decide_eq_true h1]
        rfl
      rw [e] at k
      generalize upd (upd H lb (.lst (barred.map V.str))) l2 (.lst (cutV (barred.map V.str) none (some (-2)))) = H2 at s2 ⊢
      refine iteF ⟨_, rfl, _, rfl, fun D hD => ?_⟩
      refine lc_it walk_str (fun i Hc => Hc D = some (.lst ((((codes x).take i).filter fun c => !decide (c ∈ lets.cps.toList)).map fun c => V.str ⟨#[c]⟩)) ∧ Same H2 Hc) ?_ (fun _ _ _ _ => trivial) ?_ ?_
      · exact ⟨upd_same, (Same.refl H2).put hD⟩
      · rintro i y Hc _ hi ⟨g1, sm⟩ ⟨rfl, c, hc, rfl⟩
        have hc' : (codes x)[i]? = some c := by
          unfold codes
          rw [Array.getElem?_toList]
          exact hc
        have et : (codes x).take (i + 1) = (codes x).take i ++ [c] := by rw [List.take_add_one, hc']; rfl
        refine ⟨rfl, _, rfl, c, lets, rfl, rfl, _, rfl, ite2 (fun h => ⟨_, rfl, _, g1, ?_, ?_, sm.put hD⟩) (fun h => ⟨?_, sm⟩)⟩
        · rw [List.length_map]
          have := List.length_filter_le (fun c => !decide (c ∈ lets.cps.toList)) ((codes x).take i)
          rw [List.length_take, ← len_codes] at this
          show _ < 16777216
          omega
        · rw [upd_same, et, List.filter_append, List.filter_cons, if_pos h, List.map_append]
          rfl
        · rw [et, List.filter_append, List.filter_cons, if_neg h, List.filter_nil, List.append_nil]
          exact g1
      · rintro Hc ⟨g1, sm⟩
        have el : x.cps.size = (codes x).length := by unfold codes; rw [Array.length_toList]
        rw [el, List.take_length] at g1
        refine ⟨Nat.zero_le _, fun l3 hl3 => ?_⟩
        have s4 : Same Hc (upd Hc l3 (.lst [])) := (Same.refl Hc).put hl3
        refine ⟨D, l3, _, rfl, rfl, SqL.of (s4 _ _ g1), SqL.of upd_same, ?_⟩
        have ee : ((((codes x).filter fun c => !decide (c ∈ lets.cps.toList)).map fun c => V.str ⟨#[c]⟩)).isEmpty = (offS x).isEmpty := by
          unfold offS
          rw [List.isEmpty_map]
        rw [ee]
        exact k _ ((s2.trans sm).trans s4)
end
end K2
end
section
set_option Elab.async false
set_option maxRecDepth 100000
set_option linter.all false
namespace K2
open PySem L2
abbrev sOdd : Stmt := top 57
abbrev nOdd : List Str := ["_law_pen_here", "_law_some", "_law_barred_here", "_law_k"]
theorem call_isiK' {X : Cx} {K' : PySem.W.Frag} (hK : X.K = K') : CallR X (.builtin "isinstance") (rIsi K') := by
  subst hK
  exact call_isi
/-- a value that is no text, with its type -/
inductive Nos (H : Hp) : V → String → Prop where
  | non : Nos H .non "NoneType"
  | bl (b : Bool) : Nos H (.bl b) "bool"
  | int (i : Int) : Nos H (.int i) "int"
  | tup {a : Addr} {xs : List V} (h : H a = some (.tup xs)) : Nos H (.ref a) "tuple"
  | lst {a : Addr} {xs : List V} (h : H a = some (.lst xs)) : Nos H (.ref a) "list"
  | dK {a : Addr} {kvs : List (Key × V)} (h : H a = some (.dK kvs)) : Nos H (.ref a) "dict"
theorem Nos.keep {p : Addr} {H H' : Hp} {v : V} {t : String} (h : Nos H v t) (np : v ≠ .ref p) (k : Keep p H H') : Nos H' v t := by
  have ne : ∀ {a : Addr}, V.ref a ≠ .ref p → a ≠ p := fun h e => h (by rw [e])
  cases h with
  | non => exact .non
  | bl b => exact .bl b
  | int i => exact .int i
  | tup h => exact .tup (k _ _ h (ne np))
  | lst h => exact .lst (k _ _ h (ne np))
  | dK h => exact .dK (k _ _ h (ne np))
theorem Nos.ty {K : PySem.W.Frag} {H : Hp} {v : V} {t : String} (h : Nos H v t) : TyX K H v (.type t) := by
  cases h with
  | non => exact .base .non
  | bl b => exact .base (.bl b)
  | int i => exact .base (.int i)
  | tup h => exact .base (.tup h)
  | lst h => exact .base (.lst h)
  | dK h => exact .base (.dK h)
theorem Nos.kitS {K : PySem.W.Frag} {H : Hp} {v : V} {t : String} (h : Nos H v t) : PySem.W.kitOne K (.type t) (.type "str") = some false := by
  cases h <;> exact kit_ty (by decide +kernel)
theorem Nos.kitT {K : PySem.W.Frag} {H : Hp} {v : V} {t : String} (h : Nos H v t) (n : t ≠ "tuple") : PySem.W.kitOne K (.type t) (.type "tuple") = some false := by
  cases h
  case tup => exact absurd rfl n
  all_goals exact kit_ty (by decide +kernel)
/-- what may stand in a row -/
inductive It (H : Hp) (p : Addr) : V → Prop where
  | str (y : Str) (l : y.length ≤ sizeLine) : It H p (.str y)
  | no {v : V} {t : String} (h : Nos H v t) (np : v ≠ .ref p) : It H p v
theorem It.keep {p : Addr} {H H' : Hp} {v : V} (h : It H p v) (k : Keep p H H') : It H' p v := by
  cases h with
  | str y l => exact .str y l
  | no h np => exact .no (h.keep np k) np
theorem It.wd {K : PySem.W.Frag} {H : Hp} {p : Addr} {v : V} (h : It H p v) : ∃ b, WdV K H v b := by
  cases h with
  | str y l => exact ⟨_, .str y l⟩
  | no h np => exact ⟨_, .no h.ty h.kitS⟩
theorem Pen.tup_ne {H : Hp} {p c q : Addr} {ns : List Int} {n : Nat} {xs : List V} (h : Pen H p c ns n) (hq : H q = some (.tup xs)) : q ≠ p := fun e => by
  obtain ⟨a, l, g, _⟩ := h.pen
  rw [e, g] at hq
  cases hq
theorem Pen.dict_ne {H : Hp} {p c q : Addr} {ns : List Int} {n : Nat} {kvs : List (Key × V)} (h : Pen H p c ns n) (hq : H q = some (.dK kvs)) : q ≠ p := fun e => by
  obtain ⟨a, l, g, _⟩ := h.pen
  rw [e, g] at hq
  cases hq
theorem ref_ne {a p : Addr} (h : a ≠ p) : V.ref a ≠ .ref p := fun e => h (V.ref.inj e)
def spOdd : Sp := fun vs H Q _ => ∃ (p c : Addr) (ns : List Int) (n : Nat), vs = [.ref p] ∧ Pen H p c ns n ∧ n + 20 ≤ 100000 ∧ ∀ (v : V) (H' : Hp), It H' p v → Keep p H H' → Pen H' p c ns (n + 10) → Q v H'
section
variable {P : Program} {w : World} {K : PySem.W.Frag} {mg : Str → Option Value} {base : Heap}
theorem scOdd : FnScope nOdd ["_law_pen_here"] (defScope sOdd) := ⟨rfl, rfl, rfl, by decide +kernel, rfl, by decide +kernel, by decide +kernel⟩
theorem ok_odd {f fB fP : Addr} {fd fdB fdP : FuncData} (F : Fun K "_law_odd" "_law_odd" sOdd f fd) (T : Bi mg) (BA : Df K mg "_law_barred" sBarred fB fdB []) (GB : FnOk P w K mg base CX0 1 fB fdB [] spBarred)
    (PK : Df K mg "_law_pick" sPick fP fdP ["_law_pen_here", "_law_some"]) (GP : FnOk P w K mg base CX0 2 fP fdP ["_law_pen_here", "_law_some"] spPick) : FnOk P w K mg base CX0 3 f fd ["_law_pen_here"] spOdd := by
  refine F.ok scOdd (fun vs H Q E h => ?_) (fun cdv A outer s H vs Q E hr h => ?_)
  · obtain ⟨p, c, ns, n, rfl, _⟩ := h
    rfl
  · obtain ⟨p, c, ns, n, rfl, P0, hn, k⟩ := h
    have hr1 : Room 1 _ := hr.mono (by decide)
    have hr2 : Room 2 _ := hr
    have hu := hu_of hr
    refine ⟨_, (pss_cons (ps_set (i := 1) scOdd.nd rfl (Or.inl rfl) (pe_lst (pa_cons pe_non (pa_cons pe_bl (pa_cons pe_int (pa_cons pe_str (pa_cons pe_str (pa_cons pe_str (pa_cons pe_str (pa_cons pe_str (pa_cons pe_str (pa_cons (pe_tup (pa_cons pe_str pa_nil)) (pa_cons (pe_lst (pa_cons pe_str pa_nil)) (pa_cons pe_dnewK (pa_cons pe_str (pa_cons pe_str pa_nil))))))))))))))))
      (pss_cons (ps_set (i := 2) scOdd.nd rfl (Or.inr rfl) (pe_call0 GB hr1 (by rfl) BA.m BA.F.kp BA.b .nil pass0))
      (pss_cons (ps_set (i := 1) scOdd.nd rfl (Or.inl rfl) (pe_op op_cat (pv 1) (pe_lst (pa_cons pe_str (pa_cons pe_str (pa_cons pe_str (pa_cons (pe_op op_mulW (pe_op op_pow pe_int pe_int) (pe_op op_pow pe_int pe_int)) pa_nil)))))))
      (pss_one (ps_ret (pe_call GP hr2 (by rfl) PK.m PK.F.kp PK.b .nil pass0 (pa_cons (pv 0) (pa_cons (pe_op op_cat (pv 1) (pe_lc (own := [("_law_k", 3)]) (g := gName 3) (tt := tYes) rfl scOdd.nd (pi_range1 rfl T.range (pa_cons pe_int pa_nil)) (blkOk_by (N := nOdd) (sc := defScope sOdd) (by decide +kernel)) (fun _ _ _ _ _ => pg_name (i := 3) scOdd.nd rfl (Or.inl rfl)) (fun _ _ _ _ _ => pts_nil) (fun _ _ _ _ _ => pe_call GP hr2 (by rfl) PK.m PK.F.kp PK.b .nil pass0 (pa_cons (pv 0) (pa_cons (pv 2) pa_nil))))) pa_nil)))))))), ?_⟩
    refine ⟨(by show 1 ≤ sizeLine; decide), fun t1 ht1 => ⟨(by show 1 ≤ sizeLine; decide), fun l1 hl1 d1 hd1 => ⟨(by show 14 ≤ sizeLine; decide), fun l2 hl2 => ?_⟩⟩⟩
    have s1 : Same H (upd H t1 (.tup [V.str "a"])) := (Same.refl H).put ht1
    have s2 := s1.put (o := .lst [V.str "a"]) (s1.free hl1)
    have s3 := s2.put (o := .dK []) (s2.free hd1)
    have x1 : (upd (upd (upd H t1 (.tup [V.str "a"])) l1 (.lst [V.str "a"])) d1 (.dK [])) t1 = some (.tup [V.str "a"]) := by
      rw [upd_ne (ne_of_none (o := .tup [V.str "a"]) (by rw [upd_ne (ne_of_none upd_same hl1), upd_same]) hd1), upd_ne (ne_of_none upd_same hl1), upd_same]
    have x2 : (upd (upd (upd H t1 (.tup [V.str "a"])) l1 (.lst [V.str "a"])) d1 (.dK [])) l1 = some (.lst [V.str "a"]) := by rw [upd_ne (ne_of_none upd_same hd1), upd_same]
    have x3 : (upd (upd (upd H t1 (.tup [V.str "a"])) l1 (.lst [V.str "a"])) d1 (.dK [])) d1 = some (.dK []) := upd_same
    have nl1 : l1 ≠ p := ((P0.same s1).pne hl1).symm
    generalize upd (upd (upd H t1 (.tup [V.str "a"])) l1 (.lst [V.str "a"])) d1 (.dK []) = H3 at s3 x1 x2 x3 hl2 ⊢
    have P3 := P0.same s3
    have i14 : ∀ v ∈ [V.non, .bl true, .int 7, .str "", .str "A", .str "a1", .str "a b", .str "abcdefghi", .str "aB", .ref t1, .ref l1, .ref d1, .str "a ", .str " a"], It H3 p v := fun v hv => by
      simp only [List.mem_cons, List.not_mem_nil, or_false] at hv
      rcases hv with rfl | rfl | rfl | rfl | rfl | rfl | rfl | rfl | rfl | rfl | rfl | rfl | rfl | rfl
      · exact .no .non (by intro z; cases z)
      · exact .no (.bl _) (by intro z; cases z)
      · exact .no (.int _) (by intro z; cases z)
      · exact .str _ (by decide +kernel)
      · exact .str _ (by decide +kernel)
      · exact .str _ (by decide +kernel)
      · exact .str _ (by decide +kernel)
      · exact .str _ (by decide +kernel)
      · exact .str _ (by decide +kernel)
      · exact .no (.tup x1) (ref_ne (P3.tup_ne x1))
      · exact .no (.lst x2) (ref_ne nl1)
      · exact .no (.dK x3) (ref_ne (P3.dict_ne x3))
      · exact .str _ (by decide +kernel)
      · exact .str _ (by decide +kernel)
    have s4 : Same H3 (upd H3 l2 (.lst [V.non, .bl true, .int 7, .str "", .str "A", .str "a1", .str "a b", .str "abcdefghi", .str "aB", .ref t1, .ref l1, .ref d1, .str "a ", .str " a"])) := (Same.refl H3).put hl2
    have x4 : (upd H3 l2 (.lst [V.non, .bl true, .int 7, .str "", .str "A", .str "a1", .str "a b", .str "abcdefghi", .str "aB", .ref t1, .ref l1, .ref d1, .str "a ", .str " a"])) l2 = some (.lst [V.non, .bl true, .int 7, .str "", .str "A", .str "a1", .str "a b", .str "abcdefghi", .str "aB", .ref t1, .ref l1, .ref d1, .str "a ", .str " a"]) := upd_same
    obtain ⟨vs14, hvs⟩ : ∃ q, [V.non, .bl true, .int 7, .str "", .str "A", .str "a1", .str "a b", .str "abcdefghi", .str "aB", .ref t1, .ref l1, .ref d1, .str "a ", .str " a"] = q := ⟨_, rfl⟩
    have v14 : vs14.length = 14 := by rw [← hvs]; rfl
    rw [hvs] at i14 s4 x4
    rw [hvs]
    generalize upd H3 l2 (.lst vs14) = H4 at s4 x4 ⊢
    have P4 := P3.same s4
    refine ⟨rfl, fun lb hlb => ?_⟩
    have s5 : Same H4 (upd H4 lb (.lst (barred.map V.str))) := (Same.refl H4).put hlb
    have x5 : (upd H4 lb (.lst (barred.map V.str))) lb = some (.lst (barred.map V.str)) := upd_same
    have nlb : lb ≠ p := (P4.pne hlb).symm
    generalize upd H4 lb (.lst (barred.map V.str)) = H5 at s5 x5 ⊢
    have x45 := s5 _ _ x4
    have big : (10 : Int) ^ (60 : Int).toNat * 10 ^ (39 : Int).toNat = 10 ^ 99 := by decide +kernel
    refine ⟨_, rfl, _, _, rfl, rfl, ⟨by decide, by decide, by decide⟩, _, _, rfl, rfl, ⟨by decide, by decide, by decide⟩, _, _, rfl, rfl, wide_mul (a := 300) (b := 300) (by decide +kernel) (by decide +kernel) (by decide) (by decide) (by decide), (by show 4 ≤ sizeLine; decide), fun l3 hl3 => ?_⟩
    have s6 : Same H5 (upd H5 l3 (.lst [V.str "error", .str "vacant", .str "zzzzzzzz", .int (10 ^ (60 : Int).toNat * 10 ^ (39 : Int).toNat)])) := (Same.refl H5).put hl3
    have x6 : (upd H5 l3 (.lst [V.str "error", .str "vacant", .str "zzzzzzzz", .int (10 ^ (60 : Int).toNat * 10 ^ (39 : Int).toNat)])) l3 = some (.lst [V.str "error", .str "vacant", .str "zzzzzzzz", .int (10 ^ (60 : Int).toNat * 10 ^ (39 : Int).toNat)]) := upd_same
    have i4 : ∀ v ∈ [V.str "error", .str "vacant", .str "zzzzzzzz", .int (10 ^ (60 : Int).toNat * 10 ^ (39 : Int).toNat)], ∀ H, It H p v := fun v hv H => by
      simp only [List.mem_cons, List.not_mem_nil, or_false] at hv
      rcases hv with rfl | rfl | rfl | rfl
      · exact .str _ (by decide +kernel)
      · exact .str _ (by decide +kernel)
      · exact .str _ (by decide +kernel)
      · exact .no (.int _) (by intro z; cases z)
    obtain ⟨vs4, hv4⟩ : ∃ q, [V.str "error", .str "vacant", .str "zzzzzzzz", .int (10 ^ (60 : Int).toNat * 10 ^ (39 : Int).toNat)] = q := ⟨_, rfl⟩
    have v4 : vs4.length = 4 := by rw [← hv4]; rfl
    rw [hv4] at i4 s6 x6
    rw [hv4]
    generalize upd H5 l3 (.lst vs4) = H6 at s6 x6 ⊢
    refine ⟨l2, l3, _, _, rfl, rfl, s6 _ _ x45, x6, by rw [v14, v4]; decide, fun l4 hl4 => ?_⟩
    have s7 : Same H6 (upd H6 l4 (.lst (vs14 ++ vs4))) := (Same.refl H6).put hl4
    have x7 : (upd H6 l4 (.lst (vs14 ++ vs4))) l4 = some (.lst (vs14 ++ vs4)) := upd_same
    generalize upd H6 l4 (.lst (vs14 ++ vs4)) = H7 at s7 x7 ⊢
    have s47 := (s5.trans s6).trans s7
    have P7 := P4.same s47
    have nl4 : l4 ≠ p := (((P4.same s5).same s6).pne hl4).symm
    have x57 := (s6.trans s7) _ _ x5
    refine ⟨_, rfl, _, rfl, 9, rfl, by decide, by decide, fun D hD => ?_⟩
    have nD : D ≠ p := (P7.pne hD).symm
    refine lc_range (lo := 0) (n := 9) (fun i Hc => ∃ vs9 : List V, Hc D = some (.lst vs9) ∧ vs9.length = i ∧ (∀ v ∈ vs9, ∀ H, It H p v) ∧ Keep p H7 Hc ∧ Pen Hc p c ns (n + i)) ?_ ?_ ?_
    · exact ⟨[], upd_same, rfl, fun v hv => (by cases hv), (Keep.refl p H7).new hD, P7.new hD⟩
    · rintro i Hc hi ⟨vs9, g1, g2, g3, kc, Pc⟩
      refine ⟨rfl, _, rfl, _, rfl, p, c, ns, _, _, _, rfl, Pc, by omega, .inl ⟨lb, rfl, nlb, kc _ _ x57 nlb⟩, (by intro e; have := congrArg List.length e; revert this; decide +kernel), (by decide +kernel), fun j v H' hv k' P' => ?_⟩
      obtain ⟨w9, hw9, rfl⟩ := List.mem_map.mp (List.mem_of_getElem? hv)
      have hb : w9.length ≤ sizeLine := by
        have : ∀ w ∈ barred, w.length ≤ 16777216 := by decide +kernel
        exact this w9 hw9
      refine ⟨_, k' _ _ g1 nD, by rw [g2]; show i < 16777216; omega, vs9 ++ [V.str w9], upd_same, by rw [List.length_append, g2]; rfl, fun v hv H => ?_, fun b o e hb' => ?_, (P'.upd' nD.symm (ne_of_none P7.cells hD))⟩
      · rcases List.mem_append.mp hv with hv | hv
        · exact g3 v hv H
        · rw [List.mem_singleton.mp hv]
          exact .str _ hb
      · rw [upd_ne (ne_of_none e hD)]
        exact (kc.trans k') b o e hb'
    · rintro Hc ⟨vs9, g1, g2, g3, kc, Pc⟩
      refine ⟨l4, D, _, _, rfl, rfl, kc _ _ x7 nl4, g1, by rw [List.length_append, v14, v4, g2]; decide, fun l5 hl5 => ?_⟩
      have k37 : Keep p H3 Hc := ((s4.trans s47).keep).trans kc
      refine ⟨p, c, ns, n + 9, _, (vs14 ++ vs4) ++ vs9, rfl, Pc.new hl5, by omega, .inl ⟨l5, rfl, (Pc.pne hl5).symm, upd_same⟩, ?_, ?_, fun j v H' hv k' P' => ?_⟩
      · intro e
        have := congrArg List.length e
        rw [List.length_append, List.length_append, v14] at this
        simp at this
      · rw [List.length_append, List.length_append, v14, v4, g2]
        decide
      · have kk : Keep p Hc H' := ((Keep.refl p Hc).new hl5).trans k'
        refine k v H' ?_ ((s3.keep.trans k37).trans kk) P'
        rcases List.mem_append.mp (List.mem_of_getElem? hv) with h | h
        · rcases List.mem_append.mp h with h | h
          · exact (i14 v h).keep (k37.trans kk)
          · exact i4 v h H'
        · exact g3 v h H'
end
end K2
end
section
set_option Elab.async false
set_option maxRecDepth 100000
set_option linter.all false
/-! right clauses, tries, withs, raises -/
namespace K2
open PySem L2
abbrev sTR : Stmt := top 33
abbrev sCL : Stmt := top 34
abbrev sWI : Stmt := top 35
abbrev nTR : List Str := ["rest", "block", "clauses", "other", "last", "part", "clause"]
abbrev nCL : List Str := ["x", "names", "n", "block"]
abbrev nWI : List Str := ["rest", "enter", "leave", "quiet", "block"]
/-- a tuple of different words -/
def Nms (H : Hp) (v : V) : Prop := ∃ (a : Addr) (ys : List Str), v = .ref a ∧ H a = some (.tup (ys.map V.str)) ∧ (∀ y ∈ ys, VW y) ∧ ys.Nodup ∧ ys.length ≤ 60
theorem Nms.same {H H' : Hp} {v : V} (h : Nms H v) (s : Same H H') : Nms H' v := by
  obtain ⟨a, ys, e, h, r⟩ := h
  exact ⟨a, ys, e, s _ _ h, r⟩
/-- a block that is none empty -/
def Blk (H : Hp) (v : V) : Prop := ∃ (a : Addr) (xs : List V), v = .ref a ∧ H a = some (.tup xs) ∧ xs ≠ []
theorem Blk.same {H H' : Hp} {v : V} (h : Blk H v) (s : Same H H') : Blk H' v := by
  obtain ⟨a, xs, e, h, r⟩ := h
  exact ⟨a, xs, e, s _ _ h, r⟩
theorem Blk.v {K : PySem.W.Frag} {H : Hp} {v : V} (h : Blk H v) : BlV K H v true := by
  obtain ⟨a, xs, rfl, h, ne⟩ := h
  have := BlV.tup (K := K) h
  cases xs with
  | nil => exact absurd rfl ne
  | cons x r => exact this
/-- a right clause -/
def Cl1 (H : Hp) (v : V) : Prop := ∃ (a : Addr) (nm n b : V), v = .ref a ∧ H a = some (.tup [nm, n, b]) ∧ Blk H nm ∧ Nms H nm ∧ (n = .non ∨ ∃ y, n = .str y ∧ VW y) ∧ Blk H b
theorem Cl1.same {H H' : Hp} {v : V} (h : Cl1 H v) (s : Same H H') : Cl1 H' v := by
  obtain ⟨a, nm, n, b, e, h1, h2, h3, h4, h5⟩ := h
  exact ⟨a, nm, n, b, e, s _ _ h1, h2.same s, h3.same s, h4, h5.same s⟩
def spAN : Sp := fun vs H Q _ => ∃ v : V, vs = [v] ∧ Nms H v ∧ ∀ H', Same H H' → Q (.bl true) H'
def spCL : Sp := fun vs H Q _ => ∃ v : V, vs = [v] ∧ Cl1 H v ∧ ∀ H', Same H H' → Q (.bl true) H'
def spWI : Sp := fun vs H Q _ => ∃ (a : Addr) (e l : Str) (q b : V), vs = [.ref a] ∧ H a = some (.tup [.str e, .str l, q, b]) ∧ VW e ∧ VW l ∧ Nms H q ∧ Blk H b ∧ ∀ H', Same H H' → Q (.bl true) H'
def spTR : Sp := fun vs H Q _ => ∃ (a cs o l : Addr) (b : V) (ks os ls : List V), vs = [.ref a] ∧ H a = some (.tup [b, .ref cs, .ref o, .ref l]) ∧ Blk H b ∧ H cs = some (.tup ks) ∧ ks.length ≤ 1000 ∧ (∀ k ∈ ks, Cl1 H k) ∧ H o = some (.tup os) ∧ H l = some (.tup ls) ∧ (ks ≠ [] ∨ (ls ≠ [] ∧ os = [])) ∧ ∀ H', Same H H' → Q (.bl true) H'
section
variable {P : Program} {w : World} {K : PySem.W.Frag} {mg : Str → Option Value} {base : Heap}
theorem scTR : FnScope nTR ["rest"] (defScope sTR) := ⟨rfl, rfl, rfl, by decide +kernel, rfl, by decide +kernel, by decide +kernel⟩
theorem scCL : FnScope nCL ["x"] (defScope sCL) := ⟨rfl, rfl, rfl, by decide +kernel, rfl, by decide +kernel, by decide +kernel⟩
theorem scWI : FnScope nWI ["rest"] (defScope sWI) := ⟨rfl, rfl, rfl, by decide +kernel, rfl, by decide +kernel, by decide +kernel⟩
theorem ok_an {f fA fD : Addr} {fd fdA fdD : FuncData} (F : Fun K "_are_names" "_are_names" sAN f fd) (T : Bi mg) (AW : Df K mg "are_words" sAreW fA fdA ["xs"]) (GA : FnOk P w K mg base CX0 2 fA fdA ["xs"] (spAreWG K)) (AD : Df K mg "are_different" sAreD fD fdD ["words"]) (GD : FnOk P w K mg base CX0 1 fD fdD ["words"] spAreDG) :
    FnOk P w K mg base CX0 3 f fd ["x"] spAN := by
  refine F.ok scAN (fun vs H Q E h => ?_) (fun cdv A outer s H vs Q E hr h => ?_)
  · obtain ⟨v, rfl, _⟩ := h
    rfl
  · obtain ⟨v, rfl, ⟨a, ys, rfl, ha, vw, nd, l⟩, k⟩ := h
    have hr2 : Room 2 _ := hr
    have hr1 : Room 1 _ := hr.mono (by decide)
    refine ⟨_, (pss_one (ps_ret (pe_and (pe_callB call_isi (by rfl) T.isinstance (by decide +kernel) (pa_cons (pv 0) (pa_cons (pe_bltn (v := .ty "tuple") (by rfl) T.tuple (by decide +kernel) rfl) pa_nil))) (pe_and (pe_call GA hr2 (by rfl) AW.m AW.F.kp AW.b .nil pass0 (pa_cons (pv 0) pa_nil)) (pe_one (pe_call GD hr1 (by rfl) AD.m AD.F.kp AD.b .nil pass0 (pa_cons (pv 0) pa_nil))))))), ?_⟩
    refine ⟨_, rfl, _, _, _, _, true, rfl, .ty _, .base (.tup ha), kit_ty (by decide +kernel), _, rfl, iteT ?_⟩
    refine ⟨_, rfl, a, _, _, rfl, ha, .vw vw, by rw [List.length_map]; omega, fun H1 s1 => ⟨_, rfl, ?_⟩⟩
    have e : ((ys.map fun _ => true).all id) = true := by simp
    rw [e]
    refine iteT ⟨_, rfl, a, ys, rfl, s1 _ _ ha, by omega, ?_⟩
    rw [decide_eq_true nd]
    exact k H1 s1
theorem ok_cl {f fB fN fW : Addr} {fd fdB fdN fdW : FuncData} (F : Fun K "_is_clause" "_is_clause" sCL f fd) (T : Bi mg) (IB : Df K mg "is_block" sIB fB fdB ["x"]) (GB : FnOk P w K mg base CX0 1 fB fdB ["x"] (spIB K)) (NA : Df K mg "_are_names" sAN fN fdN ["x"]) (GN : FnOk P w K mg base CX0 3 fN fdN ["x"] spAN)
    (IW : Df K mg "is_word" sIsW fW fdW ["x"]) (GW : FnOk P w K mg base CX0 1 fW fdW ["x"] (spIsWG K)) : FnOk P w K mg base CX0 4 f fd ["x"] spCL := by
  refine F.ok scCL (fun vs H Q E h => ?_) (fun cdv A outer s H vs Q E hr h => ?_)
  · obtain ⟨v, rfl, _⟩ := h
    rfl
  · obtain ⟨v, rfl, ⟨a, nm, n, b, rfl, ha, hb, hn, hm, hk⟩, k⟩ := h
    have hr3 : Room 3 _ := hr
    have hr1 : Room 1 _ := hr.mono (by decide)
    refine ⟨_, (pss_cons (ps_if (PW.pt (pw_or (pt_not (pt_val (pe_callB call_isi (by rfl) T.isinstance (by decide +kernel) (pa_cons (pv 0) (pa_cons (pe_bltn (v := .ty "tuple") (by rfl) T.tuple (by decide +kernel) rfl) pa_nil))))) (pw_or1 (pt_cmpR op_ne (pe_callB call_len_seq (by rfl) T.len PySem.boot_len (pa_cons (pv 0) pa_nil)) pe_int (nomark _)))))
      (pss_one (ps_ret pe_bl))
      pss_nil)
      (pss_cons (ps_asg (pv 0) (pg_tup rfl (pgs_cons (pg_name (i := 1) scCL.nd rfl (Or.inl rfl)) (pgs_cons (pg_name (i := 2) scCL.nd rfl (Or.inl rfl)) (pgs_cons (pg_name (i := 3) scCL.nd rfl (Or.inl rfl)) pgs_nil)))))
      (pss_one (ps_ret (pe_and (pe_call GB hr1 (by rfl) IB.m IB.F.kp IB.b .nil pass0 (pa_cons (pv 1) pa_nil)) (pe_and (pe_call GN hr3 (by rfl) NA.m NA.F.kp NA.b .nil pass0 (pa_cons (pv 1) pa_nil)) (pe_and (pe_or (pe_cmpR op_isN (pv 2) pe_non (nomark _)) (pe_one (pe_call GW hr1 (by rfl) IW.m IW.F.kp IW.b .nil pass0 (pa_cons (pv 2) pa_nil)))) (pe_one (pe_call GB hr1 (by rfl) IB.m IB.F.kp IB.b .nil pass0 (pa_cons (pv 3) pa_nil)))))))))), ?_⟩
    refine ⟨_, rfl, _, _, _, _, true, rfl, .ty _, .base (.tup ha), kit_ty (by decide +kernel), _, rfl, ?_⟩
    refine ⟨_, rfl, a, _, rfl, .inr (SqT.of ha), rfl, _, rfl, ite2 (fun z => absurd z (by simp)) fun _ => ?_⟩
    refine ⟨_, rfl, a, _, rfl, SqT.of ha, rfl, nm, _, rfl, n, _, rfl, b, _, rfl, rfl, ?_⟩
    refine ⟨_, rfl, nm, true, rfl, hb.v, _, rfl, iteT ⟨_, rfl, nm, rfl, hn, fun H1 s1 => ⟨_, rfl, iteT ?_⟩⟩⟩
    rcases hm with rfl | ⟨y, rfl, vy⟩
    · exact ⟨_, rfl, rfl, _, rfl, iteT ⟨_, rfl, iteT ⟨_, rfl, b, true, rfl, (hk.same s1).v, k H1 s1⟩⟩⟩
    · exact ⟨_, rfl, rfl, _, rfl, iteF ⟨_, rfl, _, _, rfl, .vw vy, _, rfl, iteT ⟨_, rfl, b, true, rfl, (hk.same s1).v, k H1 s1⟩⟩⟩
theorem ok_wi {f fB fN fW : Addr} {fd fdB fdN fdW : FuncData} (F : Fun K "_is_with" "_is_with" sWI f fd) (T : Bi mg) (IB : Df K mg "is_block" sIB fB fdB ["x"]) (GB : FnOk P w K mg base CX0 1 fB fdB ["x"] (spIB K)) (NA : Df K mg "_are_names" sAN fN fdN ["x"]) (GN : FnOk P w K mg base CX0 3 fN fdN ["x"] spAN)
    (IW : Df K mg "is_word" sIsW fW fdW ["x"]) (GW : FnOk P w K mg base CX0 1 fW fdW ["x"] (spIsWG K)) : FnOk P w K mg base CX0 4 f fd ["rest"] spWI := by
  refine F.ok scWI (fun vs H Q E h => ?_) (fun cdv A outer s H vs Q E hr h => ?_)
  · obtain ⟨a, e, l, q, b, rfl, _⟩ := h
    rfl
  · obtain ⟨a, e, l, q, b, rfl, ha, ve, vl, hq, hb, k⟩ := h
    have hr3 : Room 3 _ := hr
    have hr1 : Room 1 _ := hr.mono (by decide)
    refine ⟨_, (pss_cons (ps_if (pt_cmpR op_ne (pe_callB call_len_seq (by rfl) T.len PySem.boot_len (pa_cons (pv 0) pa_nil)) pe_int (nomark _))
      (pss_one (ps_ret pe_bl))
      pss_nil)
      (pss_cons (ps_asg (pv 0) (pg_tup rfl (pgs_cons (pg_name (i := 1) scWI.nd rfl (Or.inl rfl)) (pgs_cons (pg_name (i := 2) scWI.nd rfl (Or.inl rfl)) (pgs_cons (pg_name (i := 3) scWI.nd rfl (Or.inl rfl)) (pgs_cons (pg_name (i := 4) scWI.nd rfl (Or.inl rfl)) pgs_nil))))))
      (pss_one (ps_ret (pe_and (pe_call GW hr1 (by rfl) IW.m IW.F.kp IW.b .nil pass0 (pa_cons (pv 1) pa_nil)) (pe_and (pe_call GW hr1 (by rfl) IW.m IW.F.kp IW.b .nil pass0 (pa_cons (pv 2) pa_nil)) (pe_and (pe_call GN hr3 (by rfl) NA.m NA.F.kp NA.b .nil pass0 (pa_cons (pv 3) pa_nil)) (pe_one (pe_call GB hr1 (by rfl) IB.m IB.F.kp IB.b .nil pass0 (pa_cons (pv 4) pa_nil)))))))))), ?_⟩
    refine ⟨_, rfl, a, _, rfl, .inr (SqT.of ha), rfl, _, rfl, ite2 (fun z => absurd z (by simp)) fun _ => ?_⟩
    refine ⟨_, rfl, a, _, rfl, SqT.of ha, rfl, _, _, rfl, _, _, rfl, q, _, rfl, b, _, rfl, rfl, ?_⟩
    exact ⟨_, rfl, _, _, rfl, .vw ve, _, rfl, iteT ⟨_, rfl, _, _, rfl, .vw vl, _, rfl, iteT ⟨_, rfl, q, rfl, hq, fun H1 s1 => ⟨_, rfl, iteT ⟨_, rfl, b, true, rfl, (hb.same s1).v, k H1 s1⟩⟩⟩⟩⟩
theorem ok_tr {f fB fC : Addr} {fd fdB fdC : FuncData} (F : Fun K "_is_try" "_is_try" sTR f fd) (T : Bi mg) (IB : Df K mg "is_block" sIB fB fdB ["x"]) (GB : FnOk P w K mg base CX0 1 fB fdB ["x"] (spIB K)) (CL : Df K mg "_is_clause" sCL fC fdC ["x"]) (GC : FnOk P w K mg base CX0 4 fC fdC ["x"] spCL) :
    FnOk P w K mg base CX0 5 f fd ["rest"] spTR := by
  refine F.ok scTR (fun vs H Q E h => ?_) (fun cdv A outer s H vs Q E hr h => ?_)
  · obtain ⟨a, cs, o, l, b, ks, os, ls, rfl, _⟩ := h
    rfl
  · obtain ⟨a, cs, o, l, b, ks, os, ls, rfl, ha, hb, hc, lk, hk, ho, hl, hne, k⟩ := h
    have hr4 : Room 4 _ := hr
    have hr1 : Room 1 _ := hr.mono (by decide)
    refine ⟨_, (pss_cons (ps_if (pt_cmpR op_ne (pe_callB call_len_seq (by rfl) T.len PySem.boot_len (pa_cons (pv 0) pa_nil)) pe_int (nomark _))
      (pss_one (ps_ret pe_bl))
      pss_nil)
      (pss_cons (ps_asg (pv 0) (pg_tup rfl (pgs_cons (pg_name (i := 1) scTR.nd rfl (Or.inl rfl)) (pgs_cons (pg_name (i := 2) scTR.nd rfl (Or.inl rfl)) (pgs_cons (pg_name (i := 3) scTR.nd rfl (Or.inl rfl)) (pgs_cons (pg_name (i := 4) scTR.nd rfl (Or.inl rfl)) pgs_nil))))))
      (pss_cons (ps_if (PW.pt (pw_or (pt_not (pt_val (pe_call GB hr1 (by rfl) IB.m IB.F.kp IB.b .nil pass0 (pa_cons (pv 1) pa_nil)))) (pw_or1 (pt_not (pt_val (pe_callB (cr_all rfl) (by rfl) T.all (by decide +kernel) (pa_cons (pe_lc (own := [("part", 5)]) (g := gName 5) (tt := tYes) rfl scTR.nd (pi_tup (pe_tup (pa_cons (pv 2) (pa_cons (pv 3) (pa_cons (pv 4) pa_nil))))) (blkOk_by (N := nTR) (sc := defScope sTR) (by decide +kernel)) (fun _ _ _ _ _ => pg_name (i := 5) scTR.nd rfl (Or.inl rfl)) (fun _ _ _ _ _ => pts_nil) (fun _ _ _ _ _ => pe_callB (call_isiK' (K' := K) rfl) (by rfl) T.isinstance (by decide +kernel) (pa_cons (pv 5) (pa_cons (pe_bltn (v := .ty "tuple") (by rfl) T.tuple (by decide +kernel) rfl) pa_nil)))) pa_nil)))))))
      (pss_one (ps_ret pe_bl))
      pss_nil)
      (pss_cons (ps_if (PW.pt (pw_and (pt_cmpR op_eq (pe_callB call_len_seq (by rfl) T.len PySem.boot_len (pa_cons (pv 2) pa_nil)) pe_int (nomark _)) (pw_and1 (PW.pt (pw_or (pt_cmpR op_eq (pe_callB call_len_seq (by rfl) T.len PySem.boot_len (pa_cons (pv 4) pa_nil)) pe_int (nomark _)) (pw_or1 (pt_cmpR op_gt (pe_callB call_len_seq (by rfl) T.len PySem.boot_len (pa_cons (pv 3) pa_nil)) pe_int (nomark _))))))))
      (pss_one (ps_ret pe_bl))
      pss_nil)
      (pss_one (ps_ret (pe_callB (cr_all rfl) (by rfl) T.all (by decide +kernel) (pa_cons (pe_lc (own := [("clause", 6)]) (g := gName 6) (tt := tYes) rfl scTR.nd (pi_tup (pv 2)) (blkOk_by (N := nTR) (sc := defScope sTR) (by decide +kernel)) (fun _ _ _ _ _ => pg_name (i := 6) scTR.nd rfl (Or.inl rfl)) (fun _ _ _ _ _ => pts_nil) (fun _ _ _ _ _ => pe_call GC hr4 (by rfl) CL.m CL.F.kp CL.b .nil pass0 (pa_cons (pv 6) pa_nil))) pa_nil)))))))), ?_⟩
    refine ⟨_, rfl, a, _, rfl, .inr (SqT.of ha), rfl, _, rfl, ite2 (fun z => absurd z (by simp)) fun _ => ?_⟩
    refine ⟨_, rfl, a, _, rfl, SqT.of ha, rfl, b, _, rfl, _, _, rfl, _, _, rfl, _, _, rfl, rfl, ?_⟩
    refine ⟨_, rfl, b, true, rfl, hb.v, _, rfl, ?_⟩
    -- tuples
    refine ⟨_, rfl, _, rfl, _, rfl, (by show 3 ≤ sizeLine; decide), fun t ht => ⟨t, rfl, ⟨_, SqT.of upd_same⟩, fun D hD => ?_⟩⟩
    have s1 : Same H (upd H t (.tup [V.ref cs, V.ref o, V.ref l])) := (Same.refl H).put ht
    have e1 : (upd H t (.tup [V.ref cs, V.ref o, V.ref l])) t = some (.tup [V.ref cs, V.ref o, V.ref l]) := upd_same
    generalize upd H t (.tup [V.ref cs, V.ref o, V.ref l]) = H1 at s1 e1 hD ⊢
    have three : ∀ (i : Nat) (y : V), ([V.ref cs, V.ref o, V.ref l] : List V)[i]? = some y → ∃ q xs, y = .ref q ∧ H q = some (.tup xs) := fun i y hy => by
      match i, hy with
      | 0, hy => cases hy; exact ⟨_, _, rfl, hc⟩
      | 1, hy => cases hy; exact ⟨_, _, rfl, ho⟩
      | 2, hy => cases hy; exact ⟨_, _, rfl, hl⟩
      | n + 3, hy => cases hy
    refine lc_tup (K := K) (a := t) (xs := [V.ref cs, V.ref o, V.ref l]) (fun i Hc => Hc D = some (.lst ((List.replicate i true).map V.bl)) ∧ Same H1 Hc) ?_ ?_ ?_ ?_
    · exact ⟨upd_same, (Same.refl H1).put hD⟩
    · rintro i Hc _ ⟨_, sm⟩
      exact SqT.of (sm t _ e1)
    · rintro i y Hc hy ⟨h1, sm⟩
      obtain ⟨q, xs, rfl, hq⟩ := three i y hy
      have hi3 : i < 3 := (List.getElem?_eq_some_iff.mp hy).1
      refine ⟨rfl, _, rfl, _, _, _, _, true, rfl, .ty _, .base (.tup (sm _ _ (s1 _ _ hq))), kit_ty (by decide +kernel), _, h1, ?_, ?_, sm.put hD⟩
      · rw [List.length_map, List.length_replicate]; show _ < 16777216; omega
      · rw [upd_same, List.replicate_succ', List.map_append]
        rfl
    rintro H2 ⟨h2, s2⟩
    have s12 := s1.trans s2
    refine ⟨D, _, rfl, SqL.of h2, _, rfl, ?_⟩
    refine iteF ?_
    -- lengths
    have e0 : ∀ xs : List V, decide (V.int (xs.length : Int) = V.int 0) = xs.isEmpty := fun xs => by
      cases xs with
      | nil => rfl
      | cons x r =>
        rw [List.length_cons]
        exact decide_eq_false fun q => by have := V.int.inj q; omega
    refine ⟨_, rfl, cs, _, rfl, .inr (SqT.of (s12 _ _ hc)), rfl, _, rfl, ite2 (fun z => ?_) (fun z => ?_)⟩
    · have k0 : ks = [] := by
        rw [e0] at z
        exact List.isEmpty_iff.mp z
      obtain ⟨lne, oe⟩ : ls ≠ [] ∧ os = [] := by
        rcases hne with h | h
        · exact absurd k0 h
        · exact h
      refine ⟨_, rfl, l, _, rfl, .inr (SqT.of (s12 _ _ hl)), rfl, _, rfl, ite2 (fun z2 => absurd (List.isEmpty_iff.mp (by rw [e0] at z2; exact z2)) lne) (fun _ => ?_)⟩
      refine ⟨_, rfl, o, _, rfl, .inr (SqT.of (s12 _ _ ho)), _, _, rfl, rfl, _, rfl, ite2 (fun z2 => absurd (of_decide_eq_true z2) (by rw [oe]; decide)) (fun _ => ?_)⟩
      refine ⟨_, rfl, cs, rfl, ⟨_, SqT.of (s12 _ _ hc)⟩, fun D3 hD3 => ?_⟩
      refine lc_tup (K := K) (a := cs) (xs := ks) (fun i Hc => Hc D3 = some (.lst ((List.replicate i true).map V.bl)) ∧ Same H2 Hc) ?_ ?_ ?_ ?_
      · exact ⟨upd_same, (Same.refl H2).put hD3⟩
      · rintro i Hc _ ⟨_, sm⟩
        exact SqT.of (sm _ _ (s12 _ _ hc))
      · rintro i y Hc hy ⟨h1, sm⟩
        have hi3 : i < ks.length := (List.getElem?_eq_some_iff.mp hy).1
        refine ⟨rfl, _, rfl, y, rfl, (hk y (List.mem_of_getElem? hy)).same (s12.trans sm), fun H4 s4 => ?_⟩
        refine ⟨_, s4 _ _ h1, ?_, ?_, (sm.trans s4).put hD3⟩
        · rw [List.length_map, List.length_replicate]; show _ < 16777216; omega
        · rw [upd_same, List.replicate_succ', List.map_append]
          rfl
      · rintro Hc ⟨h1, sm⟩
        refine ⟨D3, _, rfl, SqL.of h1, ?_⟩
        have e : (List.replicate ks.length true).all id = true := by rw [List.all_replicate]; simp
        rw [e]
        exact k Hc (s12.trans sm)
    · refine ⟨_, rfl, cs, rfl, ⟨_, SqT.of (s12 _ _ hc)⟩, fun D3 hD3 => ?_⟩
      refine lc_tup (K := K) (a := cs) (xs := ks) (fun i Hc => Hc D3 = some (.lst ((List.replicate i true).map V.bl)) ∧ Same H2 Hc) ?_ ?_ ?_ ?_
      · exact ⟨upd_same, (Same.refl H2).put hD3⟩
      · rintro i Hc _ ⟨_, sm⟩
        exact SqT.of (sm _ _ (s12 _ _ hc))
      · rintro i y Hc hy ⟨h1, sm⟩
        have hi3 : i < ks.length := (List.getElem?_eq_some_iff.mp hy).1
        refine ⟨rfl, _, rfl, y, rfl, (hk y (List.mem_of_getElem? hy)).same (s12.trans sm), fun H4 s4 => ?_⟩
        refine ⟨_, s4 _ _ h1, ?_, ?_, (sm.trans s4).put hD3⟩
        · rw [List.length_map, List.length_replicate]; show _ < 16777216; omega
        · rw [upd_same, List.replicate_succ', List.map_append]
          rfl
      · rintro Hc ⟨h1, sm⟩
        refine ⟨D3, _, rfl, SqL.of h1, ?_⟩
        have e : (List.replicate ks.length true).all id = true := by rw [List.all_replicate]; simp
        rw [e]
        exact k Hc (s12.trans sm)
end
end K2
end
section
set_option Elab.async false
set_option maxRecDepth 100000
set_option linter.all false
/-! is_statement of right statements -/
namespace K2
open PySem L2
abbrev sIS : Stmt := top 22
abbrev nIS : List Str := ["x", "has_form"]
def tCallH (k i : Nat) (P : Program) (w : World) (K : PySem.W.Frag) (mg : Str → Option Value) (base : Heap) (t : TA) : TE := fun σ H Q => ∃ f sp, σ[i]? = some (some (.ref f)) ∧ Held P w K mg base k f sp ∧ t σ H fun vs H1 => sp vs H1 Q (fun _ _ _ => False)
/-- x(e, ..), x a name that holds a def with a promise -/
theorem pe_callH {X : Cx} {k i : Nat} {x : Str} {p pos : Pos} {e : Expr} {es : List Expr} {t : TA} (hr : Room k X.A) (hN : X.N[i]? = some x) (hv : Vis X.env.scope x) (ha : PA X (e :: es) t)
    (hdb : (x == ("__debug__" : Str)) = false := by decide) (hcd : (x == ("__classdict__" : Str)) = false := by decide)
    (he : starEach (e :: es) X.env = (false, eval e X.env) :: starEach es X.env := by rfl) (hpl : (backTo pos (starEach es X.env)).any (·.1) = false := by rfl) : PE X (.Call (.Name x p) (e :: es) [] pos) (tCallH k i X.prog X.w X.K X.mg X.base t) := by
  refine ⟨fun pins s σ H Q I h => ?_⟩
  obtain ⟨f, sp, hs, hH, ht⟩ := h
  classical
  exact (pe_callA (i := i) (S := fun a => if a = f then some sp else none) (fun g sq hg => by
    by_cases e : g = f
    · subst e
      rw [if_pos rfl] at hg
      cases hg
      exact hH
    · rw [if_neg e] at hg
      cases hg) hr hN hv ha hdb hcd he hpl).run pins s σ H Q I ⟨f, sp, hs, if_pos rfl, ht⟩
def fwords : List Str := ["pass", "return", "break", "raise", "again", "call", "handling", "either", "loop", "try", "with"]
/-- the dict of the forms -/
structure Fms (K : PySem.W.Frag) (w : World) (mg : Str → Option Value) (d : Addr) (es : Array DictEntry) (n : Nat) (fm : Str → Addr) : Prop where
  kd : KDict K w d es n
  mg : mg "FORMS" = some (.ref d)
  at_ : ∀ x ∈ fwords, PySem.W.nsIn K d x = some (some (.ref (fm x)))
/-- a right statement, as far as its blocks' statements are not looked at -/
inductive RS (H : Hp) : V → Prop where
  | emp {a : Addr} {w : Str} (h : H a = some (.tup [.str w])) (m : w ∈ (["pass", "return", "break"] : List Str)) : RS H (.ref a)
  | rai1 {a : Addr} {x : Str} (h : H a = some (.tup [.str "raise", .str x])) (v : VW x) : RS H (.ref a)
  | rai2 {a : Addr} {x y : Str} (h : H a = some (.tup [.str "raise", .str x, .str y])) (v : VW x) (u : VW y ∨ y = "none") : RS H (.ref a)
  | aga {a : Addr} {ys : List Str} (h : H a = some (.tup (.str "again" :: ys.map V.str))) (l : ys.length ≤ 1) (v : ∀ y ∈ ys, VW y) : RS H (.ref a)
  | cal {a : Addr} {ys : List Str} (h : H a = some (.tup (.str "call" :: ys.map V.str))) (l : 1 ≤ ys.length) (l2 : ys.length ≤ 100) (v : ∀ y ∈ ys, VW y) : RS H (.ref a)
  | han {a : Addr} {b c : V} (h : H a = some (.tup [.str "handling", b, c])) (hb : Blk H b) (hc : Blk H c) : RS H (.ref a)
  | eit {a : Addr} {bs : List V} (h : H a = some (.tup (.str "either" :: bs))) (l : 2 ≤ bs.length) (l2 : bs.length ≤ 1000) (hb : ∀ b ∈ bs, Blk H b) : RS H (.ref a)
  | loo {a : Addr} {b : V} (h : H a = some (.tup [.str "loop", b])) (hb : Blk H b) : RS H (.ref a)
  | tr {a cs o l : Addr} {b : V} {ks os ls : List V} (h : H a = some (.tup [.str "try", b, .ref cs, .ref o, .ref l])) (hb : Blk H b) (hc : H cs = some (.tup ks)) (lk : ks.length ≤ 1000) (hk : ∀ k ∈ ks, Cl1 H k) (ho : H o = some (.tup os)) (hl : H l = some (.tup ls)) (ne : ks ≠ [] ∨ (ls ≠ [] ∧ os = [])) : RS H (.ref a)
  | wi {a : Addr} {e l : Str} {q b : V} (h : H a = some (.tup [.str "with", .str e, .str l, q, b])) (ve : VW e) (vl : VW l) (hq : Nms H q) (hb : Blk H b) : RS H (.ref a)
def spRA : Sp := fun vs H Q _ => ∃ (a : Addr) (x : Str), vs = [.ref a] ∧ VW x ∧ (H a = some (.tup [.str x]) ∨ ∃ y, H a = some (.tup [.str x, .str y]) ∧ (VW y ∨ y = "none")) ∧ Q (.bl true) H
def spIS : Sp := fun vs H Q _ => ∃ v : V, vs = [v] ∧ RS H v ∧ ∀ H', Same H H' → Q (.bl true) H'
section
variable {P : Program} {w : World} {K : PySem.W.Frag} {mg : Str → Option Value} {base : Heap}
theorem scIS : FnScope nIS ["x"] (defScope sIS) := ⟨rfl, rfl, rfl, by decide +kernel, rfl, by decide +kernel, by decide +kernel⟩
theorem none_word : isW (Str.ofString "none") = false := by decide +kernel
theorem ok_ra {f fW : Addr} {fd fdW : FuncData} (F : Fun K "_is_raise" "_is_raise" sRA f fd) (T : Bi mg) (IW : Df K mg "is_word" sIsW fW fdW ["x"]) (GW : FnOk P w K mg base CX0 1 fW fdW ["x"] (spIsWG K)) : FnOk P w K mg base CX0 2 f fd ["rest"] spRA := by
  refine F.ok scRA (fun vs H Q E h => ?_) (fun cdv A outer s H vs Q E hr h => ?_)
  · obtain ⟨a, x, rfl, _⟩ := h
    rfl
  · obtain ⟨a, x, rfl, vx, h, k⟩ := h
    have hr1 : Room 1 _ := hr
    refine ⟨_, (pss_cons (ps_if (pt_cmpR op_eq (pe_callB call_len_seq (by rfl) T.len PySem.boot_len (pa_cons (pv 0) pa_nil)) pe_int (nomark _))
      (pss_one (ps_ret (pe_and (pe_call GW hr1 (by rfl) IW.m IW.F.kp IW.b .nil pass0 (pa_cons (pe_ix ix_tup (pv 0) pe_int (fun _ _ => rfl)) pa_nil)) (pe_one (pe_or (pe_call GW hr1 (by rfl) IW.m IW.F.kp IW.b .nil pass0 (pa_cons (pe_ix ix_tup (pv 0) pe_int (fun _ _ => rfl)) pa_nil)) (pe_one (pe_cmpR op_eq (pe_ix ix_tup (pv 0) pe_int (fun _ _ => rfl)) pe_str (nomark _))))))))
      pss_nil)
      (pss_one (ps_ret (pe_and (pe_cmpR op_eq (pe_callB call_len_seq (by rfl) T.len PySem.boot_len (pa_cons (pv 0) pa_nil)) pe_int (nomark _)) (pe_one (pe_call GW hr1 (by rfl) IW.m IW.F.kp IW.b .nil pass0 (pa_cons (pe_ix ix_tup (pv 0) pe_int (fun _ _ => rfl)) pa_nil))))))), ?_⟩
    rcases h with h | ⟨y, h, hy⟩
    · refine ⟨_, rfl, a, _, rfl, .inr (SqT.of h), rfl, _, rfl, ite2 (fun z => absurd (V.int.inj (of_decide_eq_true z)) (by simp)) fun _ => ?_⟩
      exact ⟨_, rfl, a, _, rfl, .inr (SqT.of h), rfl, _, rfl, iteT ⟨_, rfl, a, _, _, _, rfl, rfl, SqT.of h, atI_nat (j := 0) rfl, _, _, rfl, .vw vx, k⟩⟩
    · refine ⟨_, rfl, a, _, rfl, .inr (SqT.of h), rfl, _, rfl, ite2 (fun _ => ?_) fun z => absurd (decide_eq_true rfl) z⟩
      refine ⟨_, rfl, a, _, _, _, rfl, rfl, SqT.of h, atI_nat (j := 0) rfl, _, _, rfl, .vw vx, _, rfl, iteT ⟨_, rfl, a, _, _, _, rfl, rfl, SqT.of h, atI_nat (j := 1) rfl, ?_⟩⟩
      rcases hy with vy | rfl
      · exact ⟨_, _, rfl, .vw vy, _, rfl, iteT k⟩
      · have := WdV.str (K := K) (H := H) (Str.ofString "none") (by decide +kernel)
        rw [none_word] at this
        exact ⟨_, _, rfl, this, _, rfl, iteF ⟨_, rfl, a, _, _, _, rfl, rfl, SqT.of h, atI_nat (j := 1) rfl, rfl, k⟩⟩
theorem RS.head {H : Hp} {v : V} (h : RS H v) : ∃ (a : Addr) (w : Str) (xs : List V), v = .ref a ∧ H a = some (.tup (.str w :: xs)) ∧ w ∈ fwords := by
  unfold fwords
  cases h with
  | emp h m =>
    refine ⟨_, _, _, rfl, h, ?_⟩
    simp only [List.mem_cons, List.not_mem_nil, or_false] at m
    rcases m with rfl | rfl | rfl <;> simp
  | rai1 h v => exact ⟨_, _, _, rfl, h, by simp⟩
  | rai2 h v u => exact ⟨_, _, _, rfl, h, by simp⟩
  | aga h l v => exact ⟨_, _, _, rfl, h, by simp⟩
  | cal h l l2 v => exact ⟨_, _, _, rfl, h, by simp⟩
  | han h hb hc => exact ⟨_, _, _, rfl, h, by simp⟩
  | eit h l l2 hb => exact ⟨_, _, _, rfl, h, by simp⟩
  | loo h hb => exact ⟨_, _, _, rfl, h, by simp⟩
  | tr h hb hc lk hk ho hl ne => exact ⟨_, _, _, rfl, h, by simp⟩
  | wi h ve vl hq hb => exact ⟨_, _, _, rfl, h, by simp⟩
theorem blks {H : Hp} {xs : List V} (h : ∀ x ∈ xs, Blk H x) : BlAll K H xs (xs.map fun _ => true) := ⟨by simp, fun i x b h1 h2 => by
  rw [List.getElem?_map, h1] at h2
  cases h2
  exact (h x (List.mem_of_getElem? h1)).v⟩
theorem all_true {α : Type} (xs : List α) : ((xs.map fun _ => true).all id) = true := by simp
/-- the forms' defs keep their promises -/
structure FmsOk (P : Program) (w : World) (K : PySem.W.Frag) (mg : Str → Option Value) (base : Heap) (fm : Str → Addr) : Prop where
  em : ∀ x ∈ (["pass", "return", "break"] : List Str), Held P w K mg base 5 (fm x) spEM
  ra : Held P w K mg base 5 (fm "raise") spRA
  ag : Held P w K mg base 5 (fm "again") (spAG K)
  ca : Held P w K mg base 5 (fm "call") (spCA K)
  ha : Held P w K mg base 5 (fm "handling") (spHA K)
  ei : Held P w K mg base 5 (fm "either") (spEI K)
  lo : Held P w K mg base 5 (fm "loop") (spLO K)
  tr : Held P w K mg base 5 (fm "try") spTR
  wi : Held P w K mg base 5 (fm "with") spWI
theorem ok_is {f dF : Addr} {fd : FuncData} {es : Array DictEntry} {n : Nat} {fm : Str → Addr} (F : Fun K "is_statement" "is_statement" sIS f fd) (T : Bi mg) (Fm : Fms K w mg dF es n fm) (O : FmsOk P w K mg base fm) : FnOk P w K mg base CX0 6 f fd ["x"] spIS := by
  refine F.ok scIS (fun vs H Q E h => ?_) (fun cdv A outer s H vs Q E hr h => ?_)
  · obtain ⟨v, rfl, _⟩ := h
    rfl
  · obtain ⟨v, rfl, hS, k⟩ := h
    have hr5 : Room 5 _ := hr
    refine ⟨_, (pss_cons (ps_if (PW.pt (pw_or (pt_not (pt_val (pe_callB call_isi (by rfl) T.isinstance (by decide +kernel) (pa_cons (pv 0) (pa_cons (pe_bltn (v := .ty "tuple") (by rfl) T.tuple (by decide +kernel) rfl) pa_nil))))) (pw_or (pt_cmpR op_eq (pe_callB call_len_seq (by rfl) T.len PySem.boot_len (pa_cons (pv 0) pa_nil)) pe_int (nomark _)) (pw_or (pt_not (pt_val (pe_callB call_isi (by rfl) T.isinstance (by decide +kernel) (pa_cons (pe_ix ix_tup (pv 0) pe_int (fun _ _ => rfl)) (pa_cons (pe_bltn (v := .ty "str") (by rfl) T.str (by decide +kernel) rfl) pa_nil))))) (pw_or1 (pt_cmpR (op_notIn_kd Fm.kd) (pe_ix ix_tup (pv 0) pe_int (fun _ _ => rfl)) (pe_glob (v := .ref dF) (by rfl) Fm.mg rfl) rfl))))))
      (pss_one (ps_ret pe_bl))
      pss_nil)
      (pss_cons (ps_set (i := 1) scIS.nd rfl (Or.inl rfl) (pe_ix ix_kdict (pe_glob (v := .ref dF) (by rfl) Fm.mg rfl) (pe_ix ix_tup (pv 0) pe_int (fun _ _ => rfl)) (fun _ _ => rfl)))
      (pss_one (ps_ret (pe_callH (i := 1) hr5 rfl (Or.inl rfl) (pa_cons (pe_slice sl_tup2 (pv 0) (po_some pe_int) po_none) pa_nil)))))), ?_⟩
    obtain ⟨a, wd, xs, ev, h, hw⟩ := hS.head
    subst ev
    refine ⟨_, rfl, _, _, _, _, true, rfl, .ty _, .base (.tup h), kit_ty (by decide +kernel), _, rfl, ?_⟩
    refine ⟨_, rfl, a, _, rfl, .inr (SqT.of h), rfl, _, rfl, ite2 (fun z => absurd (V.int.inj (of_decide_eq_true z)) (by rw [List.length_cons]; omega)) fun _ => ?_⟩
    refine ⟨_, rfl, a, _, _, _, rfl, rfl, SqT.of h, atI_nat (j := 0) rfl, _, _, _, _, true, rfl, .ty _, .base (.str _), kit_ty (by decide +kernel), _, rfl, ?_⟩
    refine ⟨_, rfl, a, _, _, _, rfl, rfl, SqT.of h, atI_nat (j := 0) rfl, wd, _, rfl, rfl, Fm.at_ wd hw, _, rfl, iteF ?_⟩
    refine ⟨_, rfl, a, _, _, _, rfl, rfl, SqT.of h, atI_nat (j := 0) rfl, dF, wd, .ref (fm wd), rfl, rfl, ⟨es, n, _, Fm.kd.at_, Fm.kd.lit, Fm.at_ wd hw, rfl⟩, ?_⟩
    have cut : ∀ {H1 : Hp} {bp : Addr}, H1 bp = some (.tup (cutV (.str wd :: xs) (some 1) none)) → H1 bp = some (.tup xs) := fun e => by
      rw [show (1 : Int) = ((1 : Nat) : Int) from rfl, cutV_from] at e
      exact e
    cases hS with
    | emp h' m =>
      rw [h] at h'
      cases h'
      exact ⟨_, _, rfl, O.em _ m, _, rfl, _, rfl, a, _, rfl, h, fun bp H1 s1 hbp => ⟨bp, [], rfl, cut hbp, k H1 s1⟩⟩
    | rai1 h' v =>
      rw [h] at h'
      cases h'
      exact ⟨_, _, rfl, O.ra, _, rfl, _, rfl, a, _, rfl, h, fun bp H1 s1 hbp => ⟨bp, _, rfl, v, .inl (cut hbp), k H1 s1⟩⟩
    | rai2 h' v u =>
      rw [h] at h'
      cases h'
      exact ⟨_, _, rfl, O.ra, _, rfl, _, rfl, a, _, rfl, h, fun bp H1 s1 hbp => ⟨bp, _, rfl, v, .inr ⟨_, cut hbp, u⟩, k H1 s1⟩⟩
    | @aga _ ys h' l v =>
      rw [h] at h'
      cases h'
      refine ⟨_, _, rfl, O.ag, _, rfl, _, rfl, a, _, rfl, h, fun bp H1 s1 hbp => ⟨bp, _, _, rfl, cut hbp, by rw [List.length_map]; omega, .vw v, fun H2 s2 => ?_⟩⟩
      rw [all_true, Bool.and_true, List.length_map, decide_eq_true l]
      exact k H2 (s1.trans s2)
    | @cal _ ys h' l l2 v =>
      rw [h] at h'
      cases h'
      refine ⟨_, _, rfl, O.ca, _, rfl, _, rfl, a, _, rfl, h, fun bp H1 s1 hbp => ⟨bp, _, _, rfl, cut hbp, by rw [List.length_map]; omega, .vw v, fun H2 s2 => ?_⟩⟩
      rw [all_true, Bool.and_true, List.length_map, decide_eq_true l]
      exact k H2 (s1.trans s2)
    | @han _ b c h' hb hc =>
      rw [h] at h'
      cases h'
      have B : ∀ x ∈ [b, c], Blk H x := fun x hx => by
        simp only [List.mem_cons, List.not_mem_nil, or_false] at hx
        rcases hx with rfl | rfl
        · exact hb
        · exact hc
      refine ⟨_, _, rfl, O.ha, _, rfl, _, rfl, a, _, rfl, h, fun bp H1 s1 hbp => ⟨bp, _, _, rfl, cut hbp, by simp, blks fun x hx => (B x hx).same s1, fun H2 s2 => ?_⟩⟩
      rw [all_true]
      exact k H2 (s1.trans s2)
    | @eit _ bs h' l l2 hb =>
      rw [h] at h'
      cases h'
      refine ⟨_, _, rfl, O.ei, _, rfl, _, rfl, a, _, rfl, h, fun bp H1 s1 hbp => ⟨bp, _, _, rfl, cut hbp, l2, blks fun x hx => (hb x hx).same s1, fun H2 s2 => ?_⟩⟩
      rw [all_true, Bool.and_true, decide_eq_true l]
      exact k H2 (s1.trans s2)
    | @loo _ b h' hb =>
      rw [h] at h'
      cases h'
      exact ⟨_, _, rfl, O.lo, _, rfl, _, rfl, a, _, rfl, h, fun bp H1 s1 hbp => ⟨bp, _, true, rfl, cut hbp, fun z => absurd rfl z, fun x e => by cases e; exact (hb.same s1).v, k H1 s1⟩⟩
    | @tr _ cs o l b ks os ls h' hb hc lk hk ho hl ne =>
      rw [h] at h'
      cases h'
      exact ⟨_, _, rfl, O.tr, _, rfl, _, rfl, a, _, rfl, h, fun bp H1 s1 hbp => ⟨bp, cs, o, l, b, ks, os, ls, rfl, cut hbp, hb.same s1, s1 _ _ hc, lk, fun x hx => (hk x hx).same s1, s1 _ _ ho, s1 _ _ hl, ne, fun H2 s2 => k H2 (s1.trans s2)⟩⟩
    | @wi _ e l q b h' ve vl hq hb =>
      rw [h] at h'
      cases h'
      exact ⟨_, _, rfl, O.wi, _, rfl, _, rfl, a, _, rfl, h, fun bp H1 s1 hbp => ⟨bp, e, l, q, b, rfl, cut hbp, ve, vl, hq.same s1, hb.same s1, fun H2 s2 => k H2 (s1.trans s2)⟩⟩
end
end K2
end
section
set_option Elab.async false
set_option maxRecDepth 100000
set_option linter.all false
/-! bound_names_in -/
namespace K2
open PySem L2
abbrev sBN : Stmt := top 24
abbrev nBN : List Str := ["statement"]
/-- the bound names that a statement reads -/
inductive BN (H : Hp) : V → List Str → Prop where
  | aga {a : Addr} {ys : List Str} (h : H a = some (.tup (.str "again" :: ys.map V.str))) : BN H (.ref a) ys
  | rai1 {a : Addr} {x : Str} (h : H a = some (.tup [.str "raise", .str x])) : BN H (.ref a) []
  | rai2 {a : Addr} {x y : Str} (h : H a = some (.tup [.str "raise", .str x, .str y])) (v : VW y) : BN H (.ref a) [y]
  | rain {a : Addr} {x : Str} (h : H a = some (.tup [.str "raise", .str x, .str "none"])) : BN H (.ref a) []
  | oth {a : Addr} {w : Str} {xs : List V} (h : H a = some (.tup (.str w :: xs))) (n1 : w ≠ "again") (n2 : w ≠ "raise") : BN H (.ref a) []
theorem BN.same {H H' : Hp} {v : V} {ys : List Str} (h : BN H v ys) (s : Same H H') : BN H' v ys := by
  cases h with
  | aga h => exact .aga (s _ _ h)
  | rai1 h => exact .rai1 (s _ _ h)
  | rai2 h v => exact .rai2 (s _ _ h) v
  | rain h => exact .rain (s _ _ h)
  | oth h n1 n2 => exact .oth (s _ _ h) n1 n2
def spBN : Sp := fun vs H Q _ => ∃ (v : V) (ys : List Str), vs = [v] ∧ BN H v ys ∧ ∀ t H', Same H H' → H' t = some (.tup (ys.map V.str)) → Q (.ref t) H'
theorem vw_not_none {y : Str} (v : VW y) : y ≠ Str.ofString "none" := fun e => by
  have := vw_isW v
  rw [e, none_word] at this
  cases this
section
variable {P : Program} {w : World} {K : PySem.W.Frag} {mg : Str → Option Value} {base : Heap}
theorem scBN : FnScope nBN ["statement"] (defScope sBN) := ⟨rfl, rfl, rfl, by decide +kernel, rfl, by decide +kernel, by decide +kernel⟩
theorem ok_bn {f : Addr} {fd : FuncData} (F : Fun K "bound_names_in" "bound_names_in" sBN f fd) (T : Bi mg) : FnOk P w K mg base CX0 1 f fd ["statement"] spBN := by
  refine F.ok scBN (fun vs H Q E h => ?_) (fun cdv A outer s H vs Q E hr h => ?_)
  · obtain ⟨v, ys, rfl, _⟩ := h
    rfl
  · obtain ⟨v, ys, rfl, B, k⟩ := h
    refine ⟨_, (pss_cons (ps_if (pt_cmpR op_eq (pe_ix ix_tup (pv 0) pe_int (fun _ _ => rfl)) pe_str (nomark _))
      (pss_one (ps_ret (pe_slice sl_tup2 (pv 0) (po_some pe_int) po_none)))
      pss_nil)
      (pss_cons (ps_if (PW.pt (pw_and (pt_cmpR op_eq (pe_ix ix_tup (pv 0) pe_int (fun _ _ => rfl)) pe_str (nomark _)) (pw_and1 (pt_cmpR (op_neD hr.units) (pe_slice sl_tup2 (pv 0) (po_some pe_int) po_none) (pe_tup (pa_cons pe_str pa_nil)) (nomark _)))))
      (pss_one (ps_ret (pe_slice sl_tup2 (pv 0) (po_some pe_int) po_none)))
      pss_nil)
      (pss_one (ps_ret (pe_tup pa_nil))))), ?_⟩
    have nw : ∀ {w x : Str}, w ≠ x → ¬ (decide (V.str w = V.str x) = true) := fun n q => n (V.str.inj (of_decide_eq_true q))
    have cut2' : ∀ (x y : V) (r : List V), cutV (x :: y :: r) (some 2) none = r := fun x y r => by
      rw [show (2 : Int) = ((2 : Nat) : Int) from rfl, cutV_from]
      rfl
    have no : sOk (Str.ofString "none") = true := by decide +kernel
    cases B with
    | @aga a ys h =>
      refine ⟨_, rfl, a, _, _, _, rfl, rfl, SqT.of h, atI_nat (j := 0) rfl, rfl, _, rfl, ite2 (fun _ => ?_) fun z => absurd (decide_eq_true rfl) z⟩
      refine ⟨_, rfl, _, rfl, a, _, rfl, h, fun bp H1 s1 hbp => k bp H1 s1 ?_⟩
      rw [show (1 : Int) = ((1 : Nat) : Int) from rfl, cutV_from] at hbp
      exact hbp
    | @oth a w xs h n1 n2 =>
      refine ⟨_, rfl, a, _, _, _, rfl, rfl, SqT.of h, atI_nat (j := 0) rfl, rfl, _, rfl, ite2 (fun z => absurd z (nw n1)) fun _ => ?_⟩
      refine ⟨_, rfl, a, _, _, _, rfl, rfl, SqT.of h, atI_nat (j := 0) rfl, rfl, _, rfl, ite2 (fun z => absurd z (nw n2)) fun _ => ?_⟩
      exact ⟨Nat.zero_le _, fun t ht => k t _ ((Same.refl H).put ht) upd_same⟩
    | @rai1 a x h =>
      refine ⟨_, rfl, a, _, _, _, rfl, rfl, SqT.of h, atI_nat (j := 0) rfl, rfl, _, rfl, ite2 (fun z => absurd z (nw (by decide +kernel))) fun _ => ?_⟩
      refine ⟨_, rfl, a, _, _, _, rfl, rfl, SqT.of h, atI_nat (j := 0) rfl, rfl, _, rfl, ite2 (fun _ => ?_) fun z => absurd (decide_eq_true rfl) z⟩
      refine ⟨_, rfl, _, rfl, a, _, rfl, h, fun bp H1 s1 hbp => ?_⟩
      rw [cut2'] at hbp
      refine ⟨(by show 1 ≤ sizeLine; decide), fun t ht => ?_⟩
      have s2 : Same H1 (upd H1 t (.tup [V.str (Str.ofString "none")])) := (Same.refl H1).put ht
      have e2 : (upd H1 t (.tup [V.str (Str.ofString "none")])) t = some (.tup ([Str.ofString "none"].map V.str)) := upd_same
      have h2 : (upd H1 t (.tup [V.str (Str.ofString "none")])) bp = some (.tup ((([] : List Str) : List Str).map V.str)) := s2 _ _ hbp
      have s12 := s1.trans s2
      refine ⟨tD ([] : List Str), tD [Str.ofString "none"], .tup (SqT.of h2) (strs_dp _ _ ([] : List Str)), .tup (SqT.of e2) (strs_dp _ _ [Str.ofString "none"]), tD_shaped _ (fun y hy => by cases hy), tD_shaped _ (fun y hy => by rw [List.mem_singleton.mp hy]; exact no), _, rfl, ?_⟩
      rw [show PyData.eqv (tD ([] : List Str)) (tD [Str.ofString "none"]) = decide (([] : List Str) = [Str.ofString "none"]) from strs_eqv _ _]
      rw [decide_eq_false (by simp)]
      refine iteT ⟨_, rfl, _, rfl, a, _, rfl, s12 _ _ h, fun b5 H5 s5 hb5 => k b5 H5 (s12.trans s5) ?_⟩
      rw [cut2'] at hb5
      exact hb5
    | @rai2 a x y h v =>
      refine ⟨_, rfl, a, _, _, _, rfl, rfl, SqT.of h, atI_nat (j := 0) rfl, rfl, _, rfl, ite2 (fun z => absurd z (nw (by decide +kernel))) fun _ => ?_⟩
      refine ⟨_, rfl, a, _, _, _, rfl, rfl, SqT.of h, atI_nat (j := 0) rfl, rfl, _, rfl, ite2 (fun _ => ?_) fun z => absurd (decide_eq_true rfl) z⟩
      refine ⟨_, rfl, _, rfl, a, _, rfl, h, fun bp H1 s1 hbp => ?_⟩
      rw [cut2'] at hbp
      refine ⟨(by show 1 ≤ sizeLine; decide), fun t ht => ?_⟩
      have s2 : Same H1 (upd H1 t (.tup [V.str (Str.ofString "none")])) := (Same.refl H1).put ht
      have e2 : (upd H1 t (.tup [V.str (Str.ofString "none")])) t = some (.tup ([Str.ofString "none"].map V.str)) := upd_same
      have h2 : (upd H1 t (.tup [V.str (Str.ofString "none")])) bp = some (.tup (([y] : List Str).map V.str)) := s2 _ _ hbp
      have s12 := s1.trans s2
      refine ⟨tD [y], tD [Str.ofString "none"], .tup (SqT.of h2) (strs_dp _ _ [y]), .tup (SqT.of e2) (strs_dp _ _ [Str.ofString "none"]), tD_shaped _ (fun z hz => by rw [List.mem_singleton.mp hz]; exact (vw_ok v).1), tD_shaped _ (fun y hy => by rw [List.mem_singleton.mp hy]; exact no), _, rfl, ?_⟩
      rw [show PyData.eqv (tD [y]) (tD [Str.ofString "none"]) = decide ([y] = [Str.ofString "none"]) from strs_eqv _ _]
      rw [decide_eq_false (by intro e; exact vw_not_none v (List.cons.inj e).1)]
      refine iteT ⟨_, rfl, _, rfl, a, _, rfl, s12 _ _ h, fun b5 H5 s5 hb5 => k b5 H5 (s12.trans s5) ?_⟩
      rw [cut2'] at hb5
      exact hb5
    | @rain a x h =>
      refine ⟨_, rfl, a, _, _, _, rfl, rfl, SqT.of h, atI_nat (j := 0) rfl, rfl, _, rfl, ite2 (fun z => absurd z (nw (by decide +kernel))) fun _ => ?_⟩
      refine ⟨_, rfl, a, _, _, _, rfl, rfl, SqT.of h, atI_nat (j := 0) rfl, rfl, _, rfl, ite2 (fun _ => ?_) fun z => absurd (decide_eq_true rfl) z⟩
      refine ⟨_, rfl, _, rfl, a, _, rfl, h, fun bp H1 s1 hbp => ?_⟩
      rw [cut2'] at hbp
      refine ⟨(by show 1 ≤ sizeLine; decide), fun t ht => ?_⟩
      have s2 : Same H1 (upd H1 t (.tup [V.str (Str.ofString "none")])) := (Same.refl H1).put ht
      have e2 : (upd H1 t (.tup [V.str (Str.ofString "none")])) t = some (.tup ([Str.ofString "none"].map V.str)) := upd_same
      have h2 : (upd H1 t (.tup [V.str (Str.ofString "none")])) bp = some (.tup (([Str.ofString "none"] : List Str).map V.str)) := s2 _ _ hbp
      have s12 := s1.trans s2
      refine ⟨tD [Str.ofString "none"], tD [Str.ofString "none"], .tup (SqT.of h2) (strs_dp _ _ [Str.ofString "none"]), .tup (SqT.of e2) (strs_dp _ _ [Str.ofString "none"]), tD_shaped _ (fun z hz => by rw [List.mem_singleton.mp hz]; exact no), tD_shaped _ (fun y hy => by rw [List.mem_singleton.mp hy]; exact no), _, rfl, ?_⟩
      rw [show PyData.eqv (tD [Str.ofString "none"]) (tD [Str.ofString "none"]) = decide ([Str.ofString "none"] = [Str.ofString "none"]) from strs_eqv _ _]
      rw [decide_eq_true rfl]
      exact iteF ⟨Nat.zero_le _, fun t5 ht5 => k t5 _ (s12.put (s12.free ht5)) upd_same⟩
end
end K2
end
section
set_option Elab.async false
set_option maxRecDepth 100000
set_option linter.all false
/-! the class Spot -/
namespace K2
open PySem L2
abbrev sSI : Stmt := inClass (top 44) 0
abbrev nSI : List Str := ["self", "statement", "depth", "in_loop", "bound", "clauses"]
def sflds (st d il bd cl : V) : List (Str × V) := [("statement", st), ("depth", d), ("in_loop", il), ("bound", bd), ("clauses", cl)]
structure SpT (K : PySem.W.Frag) (mg : Str → Option Value) (C : Addr) : Prop where
  cl : Cls K C
  f1 : NoAttr K C "statement"
  f2 : NoAttr K C "depth"
  f3 : NoAttr K C "in_loop"
  f4 : NoAttr K C "bound"
  f5 : NoAttr K C "clauses"
  mgC : mg "Spot" = some (.ref C)
theorem sne : ¬ (("statement" : Str) = "depth") ∧ ¬ (("statement" : Str) = "in_loop") ∧ ¬ (("statement" : Str) = "bound") ∧ ¬ (("statement" : Str) = "clauses") ∧ ¬ (("depth" : Str) = "in_loop") ∧ ¬ (("depth" : Str) = "bound") ∧ ¬ (("depth" : Str) = "clauses") ∧
    ¬ (("in_loop" : Str) = "bound") ∧ ¬ (("in_loop" : Str) = "clauses") ∧ ¬ (("bound" : Str) = "clauses") := by decide +kernel
theorem sput (st d il bd cl : V) : putF "clauses" cl (putF "bound" bd (putF "in_loop" il (putF "depth" d (putF "statement" st [])))) = sflds st d il bd cl := by
  obtain ⟨a1, a2, a3, a4, a5, a6, a7, a8, a9, a10⟩ := sne
  unfold sflds
  simp only [putF, a1, a2, a3, a4, a5, a6, a7, a8, a9, a10, if_false]
theorem sf_st (st d il bd cl : V) : (sflds st d il bd cl).lookup ("statement" : Str) = some st := by
  rw [← sput]
  obtain ⟨a1, a2, a3, a4, a5, a6, a7, a8, a9, a10⟩ := sne
  simp only [lookup_putF, if_neg a1, if_neg a2, if_neg a3, if_neg a4, if_true]
theorem sf_d (st d il bd cl : V) : (sflds st d il bd cl).lookup ("depth" : Str) = some d := by
  rw [← sput]
  obtain ⟨a1, a2, a3, a4, a5, a6, a7, a8, a9, a10⟩ := sne
  simp only [lookup_putF, if_neg a5, if_neg a6, if_neg a7, if_true]
theorem sf_il (st d il bd cl : V) : (sflds st d il bd cl).lookup ("in_loop" : Str) = some il := by
  rw [← sput]
  obtain ⟨a1, a2, a3, a4, a5, a6, a7, a8, a9, a10⟩ := sne
  simp only [lookup_putF, if_neg a8, if_neg a9, if_true]
theorem sf_bd (st d il bd cl : V) : (sflds st d il bd cl).lookup ("bound" : Str) = some bd := by
  rw [← sput]
  obtain ⟨a1, a2, a3, a4, a5, a6, a7, a8, a9, a10⟩ := sne
  simp only [lookup_putF, if_neg a10, if_true]
theorem sf_cl (st d il bd cl : V) : (sflds st d il bd cl).lookup ("clauses" : Str) = some cl := by
  rw [← sput]
  simp only [lookup_putF, if_true]
def spSI (C : Addr) : Sp := fun vs H Q _ => ∃ (p dx : Addr) (st d il bd cl : V), vs = [.ref p, st, d, il, bd, cl] ∧ H p = some (.ins C dx []) ∧ Q .non (upd H p (.ins C dx (sflds st d il bd cl)))
section
variable {P : Program} {w : World} {K : PySem.W.Frag} {mg : Str → Option Value} {base : Heap}
theorem scSI : FnScope nSI ["self", "statement", "depth", "in_loop", "bound", "clauses"] (defScope sSI) := ⟨rfl, rfl, rfl, by decide +kernel, rfl, by decide +kernel, by decide +kernel⟩
theorem ok_si {f C : Addr} {fd : FuncData} (F : Fun K "__init__" "Spot.__init__" sSI f fd) (Y : SpT K mg C) : FnOk P w K mg base CX0 1 f fd ["self", "statement", "depth", "in_loop", "bound", "clauses"] (spSI C) := by
  refine F.ok scSI (fun vs H Q E h => ?_) (fun cdv A outer s H vs Q E hr h => ?_)
  · obtain ⟨p, dx, st, d, il, bd, cl, rfl, _⟩ := h
    rfl
  · obtain ⟨p, dx, st, d, il, bd, cl, rfl, hp, k⟩ := h
    refine ⟨_, pss_cons (ps_fld (pv 0) (pv 1) rfl) (pss_cons (ps_fld (pv 0) (pv 2) rfl) (pss_cons (ps_fld (pv 0) (pv 3) rfl) (pss_cons (ps_fld (pv 0) (pv 4) rfl) (pss_one (ps_fld (pv 0) (pv 5) rfl))))), ?_⟩
    have lp : ∀ (f : Str) (v : V) (fs : List (Str × V)), (putF f v fs).length ≤ fs.length + 1 := fun f v fs => by
      induction fs with
      | nil => exact Nat.le_refl _
      | cons g r ih =>
        obtain ⟨g, y⟩ := g
        unfold putF
        split
        · simp
        · simp only [List.length_cons]; omega
    refine ⟨_, rfl, _, rfl, p, C, dx, _, rfl, hp, Y.cl, Y.f1, (by show 0 < 1000; decide), ?_⟩
    refine ⟨_, rfl, _, rfl, p, C, dx, _, rfl, upd_same, Y.cl, Y.f2, (by show 1 < 1000; decide), ?_⟩
    refine ⟨_, rfl, _, rfl, p, C, dx, _, rfl, upd_same, Y.cl, Y.f3, Nat.lt_of_le_of_lt (lp _ _ _) (by show 1 + 1 < 1000; decide), ?_⟩
    refine ⟨_, rfl, _, rfl, p, C, dx, _, rfl, upd_same, Y.cl, Y.f4, Nat.lt_of_le_of_lt (Nat.le_trans (lp _ _ _) (Nat.succ_le_succ (lp _ _ _))) (by show 1 + 1 + 1 < 1000; decide), ?_⟩
    refine ⟨_, rfl, _, rfl, p, C, dx, _, rfl, upd_same, Y.cl, Y.f5, Nat.lt_of_le_of_lt (Nat.le_trans (lp _ _ _) (Nat.succ_le_succ (Nat.le_trans (lp _ _ _) (Nat.succ_le_succ (lp _ _ _))))) (by show 1 + 1 + 1 + 1 < 1000; decide), ?_⟩
    rw [upd_upd, upd_upd, upd_upd, upd_upd, sput]
    exact k
end
end K2
end
section
set_option Elab.async false
set_option maxRecDepth 100000
set_option linter.all false
/-! Spot.fault -/
namespace K2
open PySem L2
abbrev sSF : Stmt := inClass (top 44) 2
abbrev nSF : List Str := ["self", "word", "n"]
def oV : Option Str → V
  | none => .non
  | some r => .str r
theorem inV_o (x : Str) : ∀ ys : List (Option Str), inV (.str x) (ys.map oV) = decide (some x ∈ ys)
  | [] => rfl
  | none :: ys => by
    show (eqV .non (.str x) || inV (.str x) (ys.map oV)) = decide (some x ∈ none :: ys)
    rw [inV_o x ys]
    show (false || decide (some x ∈ ys)) = _
    simp
  | some y :: ys => by
    show (eqV (.str y) (.str x) || inV (.str x) (ys.map oV)) = decide (some x ∈ some y :: ys)
    rw [inV_o x ys, str_eqV]
    by_cases h : y = x
    · subst h; simp
    · have : ¬ x = y := fun e => h e.symm
      simp [h, this]
theorem flat_o : ∀ ys : List (Option Str), (ys.map oV).all flatV = true
  | [] => rfl
  | none :: ys => by
    show (true && (ys.map oV).all flatV) = true
    rw [flat_o ys]
    rfl
  | some y :: ys => by
    show (true && (ys.map oV).all flatV) = true
    rw [flat_o ys]
    rfl
/-- the fault of a statement of a right form at a place: depth d, within a loop or not, bound names bs, c clauses around -/
inductive SpF (H : Hp) (v : V) (d : Nat) (il : Bool) (bs : List (Option Str)) (c : Nat) : Option Str → Prop where
  | deep (h : 12 < d) : SpF H v d il bs c (some "deep")
  | brk {a : Addr} {xs : List V} (h : d ≤ 12) (r : RS H v) (e : v = .ref a) (ha : H a = some (.tup (.str "break" :: xs))) (b : il = false) : SpF H v d il bs c (some "break")
  | bnd {a : Addr} {w : Str} {xs : List V} {ys : List Str} (h : d ≤ 12) (r : RS H v) (e : v = .ref a) (ha : H a = some (.tup (.str w :: xs))) (nb : w ≠ "break" ∨ il = true) (bn : BN H v ys) (l : ys.length ≤ 100) (no : ∃ y ∈ ys, some y ∉ bs) : SpF H v d il bs c (some "bound")
  | cla {a cs : Addr} {x : V} {xs ks : List V} {ys : List Str} (h : d ≤ 12) (r : RS H v) (e : v = .ref a) (ha : H a = some (.tup (.str "try" :: x :: .ref cs :: xs))) (hc : H cs = some (.tup ks)) (bn : BN H v ys) (l : ys.length ≤ 100) (al : ∀ y ∈ ys, some y ∈ bs) (ne : ks ≠ []) (h2 : 2 ≤ c) : SpF H v d il bs c (some "clauses")
  | ok {a : Addr} {w : Str} {xs : List V} {ys : List Str} (h : d ≤ 12) (r : RS H v) (e : v = .ref a) (ha : H a = some (.tup (.str w :: xs))) (nb : w ≠ "break" ∨ il = true) (bn : BN H v ys) (l : ys.length ≤ 100) (al : ∀ y ∈ ys, some y ∈ bs)
      (nc : w ≠ "try" ∨ ∃ x cs r ks, xs = x :: .ref cs :: r ∧ H cs = some (.tup ks) ∧ (ks = [] ∨ c < 2)) : SpF H v d il bs c none
def spSF (C : Addr) : Sp := fun vs H Q _ => ∃ (p dx t : Addr) (v : V) (d c : Nat) (il : Bool) (bs : List (Option Str)) (o : Option Str), vs = [.ref p] ∧ H p = some (.ins C dx (sflds v (.int d) (.bl il) (.ref t) (.int c))) ∧ H t = some (.tup (bs.map oV)) ∧ SpF H v d il bs c o ∧
  ∀ H', Same H H' → Q (oV o) H'
def tBrk (C : Addr) : TT := fun σ H Q => ∃ (p dx : Addr) (v d t c : V) (il : Bool) (w : Str), σ[0]? = some (some (.ref p)) ∧ σ[1]? = some (some (.str w)) ∧ H p = some (.ins C dx (sflds v d (.bl il) t c)) ∧ Q (decide (w = ("break" : Str)) && !il) H
def tTry (C : Addr) : TT := fun σ H Q => ∃ (p dx a : Addr) (d il t : V) (c : Nat) (w : Str) (xs : List V), σ[0]? = some (some (.ref p)) ∧ σ[1]? = some (some (.str w)) ∧ H p = some (.ins C dx (sflds (.ref a) d il t (.int c))) ∧ H a = some (.tup (.str w :: xs)) ∧
  ((w ≠ ("try" : Str) ∧ Q false H) ∨ (w = ("try" : Str) ∧ ∃ x cs r ks, xs = x :: .ref cs :: r ∧ H cs = some (.tup ks) ∧ Q (!ks.isEmpty && decide (2 ≤ c)) H))
section
variable {P : Program} {w : World} {K : PySem.W.Frag} {mg : Str → Option Value} {base : Heap}
theorem pt_imp {X : Cx} {e : Expr} {t t' : TT} (h : PT X e t) (k : ∀ σ H Q, t' σ H Q → t σ H Q) : PT X e t' := ⟨fun pins s σ H Q I q => h.run pins s σ H Q I (k σ H Q q)⟩
theorem scSF : FnScope nSF ["self"] (defScope sSF) := ⟨rfl, rfl, rfl, by decide +kernel, rfl, by decide +kernel, by decide +kernel⟩
set_option maxHeartbeats 1000000 in
theorem ok_sf {f C fI fB : Addr} {fd fdI fdB : FuncData} {t1 t2 : Tok} (F : Fun K "fault" "Spot.fault" sSF f fd) (T : Bi mg) (Y : SpT K mg C) (GD : mg "DEEPEST" = some (.int 12 t1)) (GC : mg "MOST_CLAUSES_AROUND" = some (.int 2 t2))
    (ISd : Df K mg "is_statement" sIS fI fdI ["x"]) (GIs : FnOk P w K mg base CX0 6 fI fdI ["x"] spIS) (BNd : Df K mg "bound_names_in" sBN fB fdB ["statement"]) (GBn : FnOk P w K mg base CX0 1 fB fdB ["statement"] spBN) : FnOk P w K mg base CX0 7 f fd ["self"] (spSF C) := by
  refine F.ok scSF (fun vs H Q E h => ?_) (fun cdv A outer s H vs Q E hr h => ?_)
  · obtain ⟨p, dx, t, v, d, c, il, bs, o, rfl, _⟩ := h
    rfl
  · obtain ⟨p, dx, t, v, d, c, il, bs, o, rfl, hp, ht, S, k⟩ := h
    have hr6 : Room 6 _ := hr
    have hr1 : Room 1 _ := hr.mono (by decide)
    refine ⟨_, (pss_cons (ps_if (pt_cmpR op_gt (pe_fld (pv 0) rfl) (pe_glob (v := .int 12) rfl GD ⟨_, rfl⟩) (nomark _))
      (pss_one (ps_ret pe_str))
      pss_nil)
      (pss_cons (ps_if (pt_not (pt_val (pe_call GIs hr6 (by rfl) ISd.m ISd.F.kp ISd.b .nil pass0 (pa_cons (pe_fld (pv 0) rfl) pa_nil))))
      (pss_one (ps_ret pe_str))
      pss_nil)
      (pss_cons (ps_set (i := 1) scSF.nd rfl (Or.inl rfl) (pe_ix ix_tup (pe_fld (pv 0) rfl) pe_int (fun _ _ => rfl)))
      (pss_cons (ps_if (pt_imp (t' := tBrk C) (PW.pt (pw_and (pt_cmpR op_eq (pv 1) pe_str (nomark _)) (pw_and1 (pt_not (pt_val (pe_fld (pv 0) rfl)))))) (fun σ H Q h => ?brk))
      (pss_one (ps_ret pe_str))
      pss_nil)
      (pss_cons (ps_if (pt_not (pt_val (pe_callB (cr_all rfl) (by rfl) T.all (by decide +kernel) (pa_cons (pe_lc (own := [("n", 2)]) (g := gName 2) (tt := tYes) rfl scSF.nd (pi_tup (pe_call GBn hr1 (by rfl) BNd.m BNd.F.kp BNd.b .nil pass0 (pa_cons (pe_fld (pv 0) rfl) pa_nil))) (blkOk_by (N := nSF) (sc := defScope sSF) (by decide +kernel)) (fun _ _ _ _ _ => pg_name (i := 2) scSF.nd rfl (Or.inl rfl)) (fun _ _ _ _ _ => pts_nil) (fun _ _ _ _ _ => pe_cmpR (op_in_seqK (K' := K) rfl) (pv 2) (pe_fldK (K' := K) rfl (pv 0) rfl) rfl)) pa_nil))))
      (pss_one (ps_ret pe_str))
      pss_nil)
      (pss_cons (ps_if (pt_imp (t' := tTry C) (PW.pt (pw_and (pt_cmpR op_eq (pv 1) pe_str (nomark _)) (pw_and (pt_cmpR op_gt (pe_callB call_len_seq (by rfl) T.len PySem.boot_len (pa_cons (pe_ix ix_tup (pe_fld (pv 0) rfl) pe_int (fun _ _ => rfl)) pa_nil)) pe_int (nomark _)) (pw_and1 (pt_cmpR op_ge (pe_fld (pv 0) rfl) (pe_glob (v := .int 2) rfl GC ⟨_, rfl⟩) (nomark _)))))) (fun σ H Q h => ?tri))
      (pss_one (ps_ret pe_str))
      pss_nil)
      (pss_one (ps_ret pe_non)))))))), ?_⟩
    case brk =>
      obtain ⟨p, dx, v, d, t, c, il, w, g0, g1, hp, q⟩ := h
      refine ⟨_, g1, rfl, _, rfl, ite2 (fun z => ?_) (fun z => ?_)⟩
      · refine ⟨_, g0, p, C, dx, _, _, rfl, hp, Y.cl, Y.f3, sf_il _ _ _ _ _, _, rfl, ?_⟩
        have e : w = ("break" : Str) := V.str.inj (of_decide_eq_true z)
        rw [decide_eq_true e, Bool.true_and] at q
        exact q
      · have e : w ≠ ("break" : Str) := fun e => z (decide_eq_true (by rw [e]))
        rw [decide_eq_false e, Bool.false_and] at q
        exact q
    case tri =>
      obtain ⟨p, dx, a, d, il, t, c, w, xs, g0, g1, hp, ha, ⟨nw, q⟩ | ⟨ew, x, cs, r, ks, ex, hc, q⟩⟩ := h
      · exact ⟨_, g1, rfl, _, rfl, ite2 (fun z => absurd (V.str.inj (of_decide_eq_true z)) nw) fun _ => q⟩
      · subst ew ex
        refine ⟨_, g1, rfl, _, rfl, ite2 (fun _ => ?_) fun z => absurd (decide_eq_true rfl) z⟩
        refine ⟨_, g0, p, C, dx, _, _, rfl, hp, Y.cl, Y.f1, sf_st _ _ _ _ _, a, _, _, _, rfl, rfl, SqT.of ha, atI_nat (j := 2) rfl, cs, _, rfl, .inr (SqT.of hc), _, _, rfl, rfl, _, rfl, ite2 (fun z => ?_) (fun z => ?_)⟩
        · have ne : (!ks.isEmpty) = true := by
            cases ks with
            | nil => exact absurd (of_decide_eq_true z) (by decide)
            | cons _ _ => rfl
          rw [ne, Bool.true_and] at q
          refine ⟨_, g0, p, C, dx, _, _, rfl, hp, Y.cl, Y.f5, sf_cl _ _ _ _ _, _, _, rfl, rfl, _, rfl, ?_⟩
          rw [show decide ((2 : Int) ≤ (c : Int)) = decide (2 ≤ c) by rw [decide_eq_decide]; omega]
          exact q
        · have ne : (!ks.isEmpty) = false := by
            cases ks with
            | nil => rfl
            | cons _ _ => exact absurd (decide_eq_true (by rw [List.length_cons]; omega)) z
          rw [ne, Bool.false_and] at q
          exact q
    refine ⟨_, rfl, p, C, dx, _, _, rfl, hp, Y.cl, Y.f2, sf_d _ _ _ _ _, _, _, rfl, rfl, _, rfl, ite2 (fun z => ?_) (fun z => ?_)⟩
    · have z := of_decide_eq_true z
      cases S with
      | deep h => exact k H (Same.refl H)
      | brk h => omega
      | bnd h => omega
      | cla h => omega
      | ok h => omega
    have zd : ¬ (12 : Int) < (d : Int) := fun q => z (decide_eq_true q)
    obtain ⟨r, a, wd, xs, ev, ha⟩ : RS H v ∧ ∃ a wd xs, v = .ref a ∧ H a = some (.tup (.str wd :: xs)) := by
      cases S with
      | deep h => omega
      | brk h r e ha b => exact ⟨r, _, _, _, e, ha⟩
      | bnd h r e ha => exact ⟨r, _, _, _, e, ha⟩
      | cla h r e ha => exact ⟨r, _, _, _, e, ha⟩
      | ok h r e ha => exact ⟨r, _, _, _, e, ha⟩
    refine ⟨_, rfl, p, C, dx, _, _, rfl, hp, Y.cl, Y.f1, sf_st _ _ _ _ _, v, rfl, r, fun H1 s1 => ⟨_, rfl, iteF ?_⟩⟩
    refine ⟨_, rfl, p, C, dx, _, _, rfl, s1 _ _ hp, Y.cl, Y.f1, sf_st _ _ _ _ _, a, _, _, _, ev, rfl, SqT.of (s1 _ _ ha), atI_nat (j := 0) rfl, ?_⟩
    have hp1 := s1 _ _ hp
    have nw : ∀ {w x : Str}, w ≠ x → ¬ (decide (V.str w = V.str x) = true) := fun n q => n (V.str.inj (of_decide_eq_true q))
    refine ⟨p, dx, v, .int d, .ref t, .int c, il, wd, rfl, rfl, hp1, ite2 (fun z => ?_) (fun z => ?_)⟩
    · rw [Bool.and_eq_true, decide_eq_true_eq] at z
      obtain ⟨hb, hil⟩ := z
      have eo : o = some ("break" : Str) := by
        subst ev
        cases S with
        | deep h => omega
        | brk h r e ha b => rfl
        | bnd h r e ha' nb =>
          cases e
          rw [ha] at ha'
          cases ha'
          rcases nb with nb | nb
          · exact absurd hb nb
          · rw [nb] at hil; cases hil
        | cla h r e ha' =>
          cases e
          rw [ha] at ha'
          cases ha'
          exact absurd hb (by decide +kernel)
        | ok h r e ha' nb =>
          cases e
          rw [ha] at ha'
          cases ha'
          rcases nb with nb | nb
          · exact absurd hb nb
          · rw [nb] at hil; cases hil
      rw [eo] at k
      exact k H1 s1
    have zb : wd ≠ ("break" : Str) ∨ il = true := by
      by_cases hb : wd = ("break" : Str)
      · right
        cases hil : il with
        | true => rfl
        | false => exact absurd (by rw [hb, hil]; rfl) z
      · exact .inl hb
    obtain ⟨ys, bn, l100, hcs⟩ : ∃ ys, BN H v ys ∧ ys.length ≤ 100 ∧ (((∃ y ∈ ys, some y ∉ bs) ∧ o = some ("bound" : Str)) ∨ ((∀ y ∈ ys, some y ∈ bs) ∧
        ((wd = ("try" : Str) ∧ ∃ x cs r ks, xs = x :: .ref cs :: r ∧ H cs = some (.tup ks) ∧ ks ≠ [] ∧ 2 ≤ c ∧ o = some ("clauses" : Str)) ∨ (o = none ∧ (wd ≠ ("try" : Str) ∨ ∃ x cs r ks, xs = x :: .ref cs :: r ∧ H cs = some (.tup ks) ∧ (ks = [] ∨ c < 2)))))) := by
      subst ev
      cases S with
      | deep h => omega
      | brk h r e ha' b =>
        cases e
        rw [ha] at ha'
        cases ha'
        rcases zb with zb | zb
        · exact absurd rfl zb
        · rw [b] at zb; cases zb
      | bnd h r e ha' nb bn l no => exact ⟨_, bn, l, .inl ⟨no, rfl⟩⟩
      | cla h r e ha' hc bn l al ne h2 =>
        cases e
        rw [ha] at ha'
        cases ha'
        exact ⟨_, bn, l, .inr ⟨al, .inl ⟨rfl, _, _, _, _, rfl, hc, ne, h2, rfl⟩⟩⟩
      | ok h r e ha' nb bn l al nc =>
        cases e
        rw [ha] at ha'
        cases ha'
        exact ⟨_, bn, l, .inr ⟨al, .inr ⟨rfl, nc⟩⟩⟩
    -- bound names
    refine ⟨_, rfl, p, C, dx, _, _, rfl, hp1, Y.cl, Y.f1, sf_st _ _ _ _ _, v, ys, rfl, bn.same s1, fun tb H2 s2 htb => ⟨tb, rfl, ⟨_, SqT.of htb⟩, fun D hD => ?_⟩⟩
    have s12 := s1.trans s2
    refine lc_tup (K := K) (a := tb) (xs := ys.map V.str) (fun i Hc => Hc D = some (.lst (((ys.take i).map fun y => decide (some y ∈ bs)).map V.bl)) ∧ Same H2 Hc) ?_ ?_ ?_ ?_
    · exact ⟨upd_same, (Same.refl H2).put hD⟩
    · rintro i Hc _ ⟨_, sm⟩
      exact SqT.of (sm tb _ htb)
    · rintro i y Hc hy ⟨h1, sm⟩
      have hil : i < ys.length := by
        have := (List.getElem?_eq_some_iff.mp hy).1
        rwa [List.length_map] at this
      obtain ⟨b, hbi⟩ : ∃ b, ys[i]? = some b := ⟨_, List.getElem?_eq_getElem hil⟩
      rw [List.getElem?_map, hbi] at hy
      cases hy
      have sc := s12.trans sm
      refine ⟨rfl, _, rfl, _, rfl, p, C, dx, _, _, rfl, sc _ _ hp, Y.cl, Y.f4, sf_bd _ _ _ _ _, t, _, rfl, .inr (SqT.of (sc _ _ ht)), rfl, flat_o _, _, h1, ?_, ?_, sm.put hD⟩
      · rw [List.length_map, List.length_map, List.length_take]; show _ < 16777216; omega
      · rw [upd_same, if_neg Bool.false_ne_true, inV_o, List.take_add_one, hbi, List.map_append, List.map_append]
        rfl
    rintro H3 ⟨h3, s3⟩
    rw [List.length_map, List.take_length] at h3
    have s13 := s12.trans s3
    refine ⟨D, _, rfl, SqL.of h3, _, rfl, ?_⟩
    rcases hcs with ⟨no, eo⟩ | ⟨al, hcs⟩
    · have e : (ys.map fun y => decide (some y ∈ bs)).all id = false := by
        obtain ⟨y, h1, h2⟩ := no
        rw [List.all_map, Bool.eq_false_iff]
        intro q
        rw [List.all_eq_true] at q
        exact h2 (of_decide_eq_true (q y h1))
      rw [e]
      rw [eo] at k
      exact iteT (k H3 s13)
    · have e : (ys.map fun y => decide (some y ∈ bs)).all id = true := by
        rw [List.all_map, List.all_eq_true]
        exact fun y hy => decide_eq_true (al y hy)
      rw [e]
      refine iteF ?_
      subst ev
      refine ⟨p, dx, a, _, _, _, c, wd, xs, rfl, rfl, s13 _ _ hp, s13 _ _ ha, ?_⟩
      rcases hcs with ⟨ew, x, cs, r, ks, ex, hc, ne, h2, eo⟩ | ⟨eo, hcs⟩
      · refine .inr ⟨ew, x, cs, r, ks, ex, s13 _ _ hc, ?_⟩
        have e : (!ks.isEmpty && decide (2 ≤ c)) = true := by
          cases ks with
          | nil => exact absurd rfl ne
          | cons _ _ => rw [decide_eq_true h2]; rfl
        rw [e]
        rw [eo] at k
        exact iteT (k H3 s13)
      · rw [eo] at k
        by_cases ew : wd = ("try" : Str)
        · obtain ⟨x, cs, r, ks, ex, hc, hk⟩ : ∃ x cs r ks, xs = x :: .ref cs :: r ∧ H cs = some (.tup ks) ∧ (ks = [] ∨ c < 2) := by
            rcases hcs with h | h
            · exact absurd ew h
            · exact h
          refine .inr ⟨ew, x, cs, r, ks, ex, s13 _ _ hc, ?_⟩
          have e : (!ks.isEmpty && decide (2 ≤ c)) = false := by
            rcases hk with rfl | h
            · rfl
            · rw [decide_eq_false (by omega), Bool.and_false]
          rw [e]
          exact iteF (k H3 s13)
        · exact .inl ⟨ew, iteF (k H3 s13)⟩
end
end K2
end
section
set_option Elab.async false
set_option maxRecDepth 100000
set_option linter.all false
/-! Spot.inner -/
namespace K2
open PySem L2
abbrev sSN : Stmt := inClass (top 44) 1
abbrev nSN : List Str := ["self", "in_loop", "spots", "block", "clause", "bound", "clauses", "step"]
/-- a place: the statement, its depth, within a loop or not, the names that are bound, clauses around -/
abbrev Plc := V × Nat × Bool × List (Option Str) × Nat
def SpotAt (C : Addr) (H : Hp) (p : Addr) (s : Plc) : Prop := ∃ dx t, H p = some (.ins C dx (sflds s.1 (.int s.2.1) (.bl s.2.2.1) (.ref t) (.int s.2.2.2.2))) ∧ H t = some (.tup (s.2.2.2.1.map oV))
def SpotsAt (C : Addr) (H : Hp) (ps : List Addr) (ss : List Plc) : Prop := ps.length = ss.length ∧ ∀ (i : Nat) (p : Addr) (s : Plc), ps[i]? = some p → ss[i]? = some s → SpotAt C H p s
theorem SpotAt.same {C : Addr} {H H' : Hp} {p : Addr} {s : Plc} (h : SpotAt C H p s) (k : Same H H') : SpotAt C H' p s := by
  obtain ⟨dx, t, h1, h2⟩ := h
  exact ⟨dx, t, k _ _ h1, k _ _ h2⟩
theorem SpotsAt.same {C : Addr} {H H' : Hp} {ps : List Addr} {ss : List Plc} (h : SpotsAt C H ps ss) (k : Same H H') : SpotsAt C H' ps ss := ⟨h.1, fun i p s a b => (h.2 i p s a b).same k⟩
theorem SpotsAt.nil (C : Addr) (H : Hp) : SpotsAt C H [] [] := ⟨rfl, fun i p s a => by simp at a⟩
theorem SpotsAt.app {C : Addr} {H : Hp} {ps qs : List Addr} {ss us : List Plc} (h1 : SpotsAt C H ps ss) (h2 : SpotsAt C H qs us) : SpotsAt C H (ps ++ qs) (ss ++ us) := by
  refine ⟨by simp [h1.1, h2.1], fun i p s a b => ?_⟩
  by_cases hi : i < ps.length
  · rw [List.getElem?_append_left hi] at a
    rw [List.getElem?_append_left (by rw [← h1.1]; exact hi)] at b
    exact h1.2 i p s a b
  · rw [List.getElem?_append_right (by omega)] at a
    rw [List.getElem?_append_right (by have := h1.1; omega), ← h1.1] at b
    exact h2.2 _ p s a b
theorem SpotsAt.one {C : Addr} {H : Hp} {p : Addr} {s : Plc} (h : SpotAt C H p s) : SpotsAt C H [p] [s] := ⟨rfl, fun i q u a b => by
  match i, a, b with
  | 0, a, b => cases a; cases b; exact h
  | n + 1, a, b => cases a⟩
/-- a list's item is no spot -/
theorem SpotsAt.updL {C : Addr} {H : Hp} {ps : List Addr} {ss : List Plc} {D : Addr} {xs : List V} {o : HO} (h : SpotsAt C H ps ss) (hD : H D = some (.lst xs)) : SpotsAt C (upd H D o) ps ss := ⟨h.1, fun i p s a b => by
  obtain ⟨dx, t, h1, h2⟩ := h.2 i p s a b
  exact ⟨dx, t, by rw [upd_ne (fun q => by rw [q, hD] at h1; cases h1)]; exact h1, by rw [upd_ne (fun q => by rw [q, hD] at h2; cases h2)]; exact h2⟩⟩
/-- the names that a part binds: none, or its clause's name -/
inductive PB (H : Hp) : V → Option (Option Str) → Prop where
  | no : PB H .non none
  | cl {k : Addr} {nm b : V} {n : Option Str} (h : H k = some (.tup [nm, oV n, b])) : PB H (.ref k) (some n)
def plcOf (d : Nat) (il : Bool) (bo : List (Option Str)) (c : Nat) (n : Option (Option Str)) (x : V) : Plc := match n with
  | none => (x, d + 1, il, bo, c)
  | some n => (x, d + 1, il, bo ++ [n], c + 1)
/-- the places of the statements within -/
def inner (d : Nat) (il : Bool) (bo : List (Option Str)) (c : Nat) : List (Option (Option Str)) → List (List V) → List Plc
  | n :: ns, bs :: bss => bs.map (plcOf d il bo c n) ++ inner d il bo c ns bss
  | _, _ => []
def spSN (C : Addr) : Sp := fun vs H Q _ => ∃ (p dx t a : Addr) (w : Str) (xs : List V) (d c : Nat) (il : Bool) (bo : List (Option Str)) (ps : List (V × V)) (bss : List (List V)) (ns : List (Option (Option Str))),
  vs = [.ref p] ∧ H p = some (.ins C dx (sflds (.ref a) (.int d) (.bl il) (.ref t) (.int c))) ∧ H t = some (.tup (bo.map oV)) ∧ H a = some (.tup (.str w :: xs)) ∧ Stm H (.ref a) ps ∧ Blocks H ps bss ∧ ns.length = ps.length ∧ (∀ (i : Nat) (q : V × V) (n : Option (Option Str)), ps[i]? = some q → ns[i]? = some n → PB H q.2 n) ∧
  d ≤ 100 ∧ c ≤ 100 ∧ bo.length ≤ 1000 ∧ bss.flatten.length ≤ 100000 ∧ ∀ (l : Addr) (ts : List Addr) (H' : Hp), Same H H' → H l = none → H' l = some (.lst (ts.map V.ref)) → SpotsAt C H' ts (inner d (il || decide (w = ("loop" : Str))) bo c ns bss) → Q (.ref l) H'
theorem pe_imp {X : Cx} {e : Expr} {t t' : TE} (h : PE X e t) (k : ∀ σ H Q, t' σ H Q → t σ H Q) : PE X e t' := ⟨fun pins s σ H Q I q => h.run pins s σ H Q I (k σ H Q q)⟩
def tInl (C : Addr) : TE := fun σ H Q => ∃ (p dx a : Addr) (d t c : V) (il : Bool) (w : Str) (xs : List V), σ[0]? = some (some (.ref p)) ∧ H p = some (.ins C dx (sflds (.ref a) d (.bl il) t c)) ∧ H a = some (.tup (.str w :: xs)) ∧ Q (.bl (il || decide (w = ("loop" : Str)))) H
theorem inner_succ (d : Nat) (il : Bool) (bo : List (Option Str)) (c : Nat) : ∀ (i : Nat) (ns : List (Option (Option Str))) (bss : List (List V)) (n : Option (Option Str)) (bs : List V), ns[i]? = some n → bss[i]? = some bs → inner d il bo c (ns.take (i + 1)) (bss.take (i + 1)) = inner d il bo c (ns.take i) (bss.take i) ++ bs.map (plcOf d il bo c n)
  | 0, [], _, _, _, h, _ => by cases h
  | 0, _ :: _, [], _, _, _, h => by cases h
  | 0, m :: ns, b :: bss, n, bs, h1, h2 => by
    cases h1
    cases h2
    simp [inner]
  | i + 1, [], _, _, _, h, _ => by cases h
  | i + 1, _ :: _, [], _, _, _, h => by cases h
  | i + 1, m :: ns, b :: bss, n, bs, h1, h2 => by
    have := inner_succ d il bo c i ns bss n bs h1 h2
    rw [List.take_succ_cons, List.take_succ_cons, List.take_succ_cons, List.take_succ_cons]
    show b.map _ ++ inner d il bo c (ns.take (i + 1)) (bss.take (i + 1)) = (b.map _ ++ inner d il bo c (ns.take i) (bss.take i)) ++ _
    rw [this, List.append_assoc]
section
variable {P : Program} {w : World} {K : PySem.W.Frag} {mg : Str → Option Value} {base : Heap}
theorem scSN : FnScope nSN ["self"] (defScope sSN) := ⟨rfl, rfl, rfl, by decide +kernel, rfl, by decide +kernel, by decide +kernel⟩
set_option maxHeartbeats 1000000 in
theorem ok_sn {f C fI fP : Addr} {fd fdI fdP : FuncData} (F : Fun K "inner" "Spot.inner" sSN f fd) (T : Bi mg) (Y : SpT K mg C) (M : Mk K C fI) (GI : FnOk P w K mg base CX0 1 fI fdI ["self", "statement", "depth", "in_loop", "bound", "clauses"] (spSI C)) (bI : Binds K fdI ["self", "statement", "depth", "in_loop", "bound", "clauses"] [])
    (PO : Df K mg "parts_of" sPO fP fdP ["statement"]) (GPO : FnOk P w K mg base CX0 1 fP fdP ["statement"] spPO) : FnOk P w K mg base CX0 3 f fd ["self"] (spSN C) := by
  refine F.ok scSN (fun vs H Q E h => ?_) (fun cdv A outer s H vs Q E hr h => ?_)
  · obtain ⟨p, dx, t, a, wd, xs, d, c, il, bo, ps, bss, ns, rfl, _⟩ := h
    rfl
  · obtain ⟨p, dx, t, a, wd, xs, d, c, il, bo, ps, bss, ns, rfl, hp, ht, ha, S, B, ln, hn, d100, c100, b1000, f100, k⟩ := h
    have hr2 : Room 2 _ := hr
    have hr1 : Room 1 _ := hr.mono (by decide)
    refine ⟨_, (pss_cons (ps_set (i := 1) scSN.nd rfl (Or.inr rfl) (pe_imp (t' := tInl C) (pe_or (pe_fld (pv 0) rfl) (pe_one (pe_cmpR op_eq (pe_ix ix_tup (pe_fld (pv 0) rfl) pe_int (fun _ _ => rfl)) pe_str (nomark _)))) (fun σ H Q h => ?inl)))
      (pss_cons (ps_set (i := 2) scSN.nd rfl (Or.inl rfl) (pe_lst pa_nil))
      (pss_cons (ps_for PassesOwn.never rfl (pi_list (pe_call GPO hr1 (by rfl) PO.m PO.F.kp PO.b .nil pass0 (pa_cons (pe_fld (pv 0) rfl) pa_nil))) (pg_tup rfl (pgs_cons (pg_name (i := 3) scSN.nd rfl (Or.inl rfl)) (pgs_cons (pg_name (i := 4) scSN.nd rfl (Or.inl rfl)) pgs_nil)))
      (pss_cons (ps_asg (pe_tup (pa_cons (pe_fld (pv 0) rfl) (pa_cons (pe_fld (pv 0) rfl) pa_nil))) (pg_tup rfl (pgs_cons (pg_name (i := 5) scSN.nd rfl (Or.inr rfl)) (pgs_cons (pg_name (i := 6) scSN.nd rfl (Or.inr rfl)) pgs_nil))))
        (pss_cons (ps_if (pt_cmpR op_notN (pv 4) pe_non (nomark _))
        (pss_one (ps_asg (pe_tup (pa_cons (pe_op op_cat2 (pv 5) (pe_tup (pa_cons (pe_ix ix_tup (pv 4) pe_int (fun _ _ => rfl)) pa_nil))) (pa_cons (pe_op op_add (pv 6) pe_int) pa_nil))) (pg_tup rfl (pgs_cons (pg_name (i := 5) scSN.nd rfl (Or.inr rfl)) (pgs_cons (pg_name (i := 6) scSN.nd rfl (Or.inr rfl)) pgs_nil)))))
        pss_nil)
        (pss_one (ps_expr (pe_bm PySem.F.plainAttrs_list PySem.F.slot_list_extend PySem.F.type_list_extend mt_extend (pv 2) (pa_cons (pe_lc (own := [("step", 7)]) (g := gName 7) (tt := tYes) rfl scSN.nd (pi_tup (pv 3)) (blkOk_by (N := nSN) (sc := defScope sSN) (by decide +kernel)) (fun _ _ _ _ _ => pg_name (i := 7) scSN.nd rfl (Or.inl rfl)) (fun _ _ _ _ _ => pts_nil) (fun _ _ _ _ _ => pe_make M GI hr2 (by rfl) Y.mgC bI .nil pass0 (pa_cons (pv 7) (pa_cons (pe_op op_add (pe_fldK (K' := K) rfl (pv 0) rfl) pe_int) (pa_cons (pv 1) (pa_cons (pv 5) (pa_cons (pv 6) pa_nil))))))) pa_nil)))))))
      (pss_one (ps_ret (pv 2)))))), ?_⟩
    case inl =>
      obtain ⟨p, dx, a, d, t, c, il, w, xs, g0, hp, ha, q⟩ := h
      refine ⟨_, g0, p, C, dx, _, _, rfl, hp, Y.cl, Y.f3, sf_il _ _ _ _ _, il, rfl, ?_⟩
      cases il with
      | true => exact iteT q
      | false =>
        refine iteF ⟨_, g0, p, C, dx, _, _, rfl, hp, Y.cl, Y.f1, sf_st _ _ _ _ _, a, _, _, _, rfl, rfl, SqT.of ha, atI_nat (j := 0) rfl, rfl, ?_⟩
        have e : decide (V.str w = V.str "loop") = decide (w = ("loop" : Str)) := by
          rw [decide_eq_decide]
          exact ⟨fun h => V.str.inj h, fun h => by rw [h]⟩
        rw [e]
        exact q
    refine ⟨p, dx, a, _, _, _, il, wd, xs, rfl, hp, ha, ?_⟩
    generalize (il || decide (wd = ("loop" : Str))) = il' at k ⊢
    refine ⟨Nat.zero_le _, fun sl hsl => ?_⟩
    have s1 : Same H (upd H sl (.lst [])) := (Same.refl H).put hsl
    have e1 : (upd H sl (.lst [])) sl = some (.lst []) := upd_same
    generalize upd H sl (.lst []) = H1 at s1 e1 ⊢
    refine ⟨_, rfl, p, C, dx, _, _, rfl, s1 _ _ hp, Y.cl, Y.f1, sf_st _ _ _ _ _, .ref a, ps, rfl, S.same s1, fun l ts H2 s2 hln hl2 PA => ⟨l, rfl, ⟨_, SqL.of hl2⟩, ?_⟩⟩
    have s12 := s1.trans s2
    have nls : l ≠ sl := fun e => by rw [e, e1] at hln; cases hln
    have up : ∀ {Hc : Hp}, Keep sl H2 Hc → Same H Hc := fun kk b o hb => kk b o (s12 b o hb) (ne_of_none hb hsl)
    have lts : ts.length = ps.length := PA.len
    refine for_list (K := K) (a := l) (xs := ts.map V.ref) (fun i σ Hc => ∃ (v3 v4 v5 v6 v7 : Option V), σ = [some (.ref p), some (.bl il'), some (.ref sl), v3, v4, v5, v6, v7] ∧ ∃ us : List Addr, Hc sl = some (.lst (us.map V.ref)) ∧ us.length ≤ (bss.take i).flatten.length ∧ SpotsAt C Hc us (inner d il' bo c (ns.take i) (bss.take i)) ∧ Keep sl H2 Hc) ?_ ?_ ?_ ?_
    · exact ⟨_, _, _, _, _, rfl, [], s2 _ _ e1, Nat.zero_le _, by simpa [inner] using SpotsAt.nil C H2, Keep.refl _ _⟩
    · rintro i σ Hc _ ⟨v3, v4, v5, v6, v7, rfl, us, _, _, _, kc⟩
      exact SqL.of (kc _ _ hl2 nls)
    · rintro i y σ Hc hy ⟨v3, v4, v5, v6, v7, rfl, us, g1, g2, g3, kc⟩
      have hi : i < ts.length := by
        have := (List.getElem?_eq_some_iff.mp hy).1
        rwa [List.length_map] at this
      obtain ⟨ti, hti⟩ : ∃ ti, ts[i]? = some ti := ⟨_, List.getElem?_eq_getElem hi⟩
      rw [List.getElem?_map, hti] at hy
      cases hy
      obtain ⟨pp, hpp, et⟩ := PA.get hti
      obtain ⟨bx, hbx⟩ : ∃ bx, bss[i]? = some bx := ⟨_, List.getElem?_eq_getElem (by have := B.1; omega)⟩
      obtain ⟨n, hni⟩ : ∃ n, ns[i]? = some n := ⟨_, List.getElem?_eq_getElem (by omega)⟩
      obtain ⟨ab, eab, hab⟩ := B.2 i pp bx hpp hbx
      have hpb := hn i pp n hpp hni
      have nt : ti ≠ sl := fun e => by rw [e, s2 _ _ e1] at et; cases et
      have flen : (bss.take i).flatten.length + bx.length ≤ bss.flatten.length := by
        have e : bss.flatten = (bss.take (i + 1)).flatten ++ (bss.drop (i + 1)).flatten := by rw [← List.flatten_append, List.take_append_drop]
        rw [e, List.length_append, List.take_add_one, hbx, List.flatten_append]
        simp
      have fl : (bss.take (i + 1)).flatten.length = (bss.take i).flatten.length + bx.length := by rw [List.take_add_one, hbx, List.flatten_append]; simp
      have sHc := up kc
      refine ⟨ti, _, rfl, SqT.of (kc _ _ et nt), rfl, pp.1, [pp.2], rfl, pp.2, [], rfl, rfl, ?_⟩
      refine ⟨_, rfl, p, C, dx, _, _, rfl, sHc _ _ hp, Y.cl, Y.f4, sf_bd _ _ _ _ _, _, rfl, p, C, dx, _, _, rfl, sHc _ _ hp, Y.cl, Y.f5, sf_cl _ _ _ _ _, (by show 2 ≤ sizeLine; decide), fun tt htt => ?_⟩
      have s4 : Same Hc (upd Hc tt (.tup [V.ref t, V.int c])) := (Same.refl Hc).put htt
      have e4 : (upd Hc tt (.tup [V.ref t, V.int c])) tt = some (.tup [V.ref t, V.int c]) := upd_same
      generalize upd Hc tt (.tup [V.ref t, V.int c]) = H4 at s4 e4 ⊢
      have kc4 : Keep sl H2 H4 := kc.trans s4.keep
      refine ⟨tt, _, rfl, SqT.of e4, rfl, _, _, rfl, _, _, rfl, rfl, ?_⟩
      have sH4 := sHc.trans s4
      generalize pp.2 = cl at hpb ⊢
      cases hpb with
      | no =>
        refine ⟨_, rfl, rfl, _, rfl, ite2 (fun z => absurd z (by decide)) fun _ => ?_⟩
        have gsX := s4 _ _ g1
        have habX := sH4 _ _ hab
        have hpX := sH4 _ _ hp
        have htbX := sH4 _ _ ht
        have g3X := g3.same s4
        have kX := kc4
        refine ⟨_, rfl, .inl ⟨rfl, _, SqL.of gsX⟩, _, rfl, ab, eab, ⟨_, SqT.of habX⟩, fun D hD => ?_⟩
        refine lc_tup (K := K) (a := ab) (xs := bx) (fun j He => ∃ zs : List Addr, He D = some (.lst (zs.map V.ref)) ∧ zs.length = j ∧ SpotsAt C He zs ((bx.take j).map (plcOf d il' bo c none)) ∧ Same H4 He) ?_ ?_ ?_ ?_
        · exact ⟨[], upd_same, rfl, SpotsAt.nil _ _, (Same.refl H4).put hD⟩
        · rintro j He _ ⟨_, _, _, _, se⟩
          exact SqT.of (se _ _ habX)
        · rintro j y He hy ⟨zs, z1, z2, z3, se⟩
          have hj : j < bx.length := (List.getElem?_eq_some_iff.mp hy).1
          refine ⟨rfl, _, rfl, _, rfl, p, C, dx, _, _, rfl, se _ _ hpX, Y.cl, Y.f2, sf_d _ _ _ _ _, _, _, rfl, rfl, _, rfl, _, rfl, _, rfl, fun x dx2 hx hdx nx => ?_⟩
          refine ⟨x, dx2, y, .int ((d : Int) + 1), .bl il', .ref t, .int c, rfl, upd_same, rfl, ?_⟩
          rw [upd_upd]
          have s7 : Same He (upd (upd He dx2 (.own x)) x (.ins C dx2 (sflds y (.int ((d : Int) + 1)) (.bl il') (.ref t) (.int c)))) := ((Same.refl He).put hdx).put hx
          have e7 : (upd (upd He dx2 (.own x)) x (.ins C dx2 (sflds y (.int ((d : Int) + 1)) (.bl il') (.ref t) (.int c)))) x = some (.ins C dx2 (sflds y (.int ((d : Int) + 1)) (.bl il') (.ref t) (.int c))) := upd_same
          generalize upd (upd He dx2 (.own x)) x (.ins C dx2 (sflds y (.int ((d : Int) + 1)) (.bl il') (.ref t) (.int c))) = H7 at s7 e7 ⊢
          refine ⟨_, s7 _ _ z1, by rw [List.length_map]; show _ < 16777216; omega, zs ++ [x], by rw [upd_same, List.map_append]; rfl, by rw [List.length_append, z2]; rfl, ?_, (se.trans s7).put hD⟩
          rw [List.take_add_one, hy, List.map_append]
          exact ((z3.same s7).updL (s7 _ _ z1)).app ((SpotsAt.one ⟨dx2, t, by rw [e7]; push_cast; rfl, (se.trans s7) _ _ htbX⟩).updL (s7 _ _ z1))
        · rintro He ⟨zs, z1, z2, z3, se⟩
          rw [List.take_length] at z3
          have lenU : us.length = (inner d il' bo c (ns.take i) (bss.take i)).length := g3.1
          refine ⟨sl, D, _, _, rfl, rfl, se _ _ gsX, z1, by rw [List.length_map, List.length_map]; show _ ≤ 16777216; omega, ?_⟩
          refine ⟨_, _, _, _, _, rfl, us ++ zs, by rw [upd_same, List.map_append], by rw [List.length_append]; omega, ?_, ?_⟩
          · rw [inner_succ d il' bo c i ns bss none bx hni hbx]
            exact ((g3X.same se).updL (se _ _ gsX)).app (z3.updL (se _ _ gsX))
          · exact fun b o hb nb => by rw [upd_ne nb]; exact se b o (kX b o hb nb)
      | @cl kk nm b nn hkk =>
        refine ⟨_, rfl, rfl, _, rfl, ite2 (fun _ => ?_) fun z => absurd rfl z⟩
        refine ⟨_, rfl, _, rfl, kk, _, _, _, rfl, rfl, SqT.of (sH4 _ _ hkk), atI_nat (j := 1) rfl, (by show 1 ≤ sizeLine; decide), fun t5 ht5 => ?_⟩
        have s5 : Same H4 (upd H4 t5 (.tup [oV nn])) := (Same.refl H4).put ht5
        have e5 : (upd H4 t5 (.tup [oV nn])) t5 = some (.tup [oV nn]) := upd_same
        generalize upd H4 t5 (.tup [oV nn]) = H5 at s5 e5 ⊢
        refine ⟨t, t5, _, _, rfl, rfl, s5 _ _ (sH4 _ _ ht), e5, by rw [List.length_map]; show _ + 1 ≤ 16777216; omega, fun tb H6 s6 e6 => ?_⟩
        refine ⟨_, rfl, _, _, rfl, rfl, (by show 2 ≤ sizeLine; decide), fun t9 ht9 => ?_⟩
        have s9 : Same H6 (upd H6 t9 (.tup [V.ref tb, V.int ((c : Int) + 1)])) := (Same.refl H6).put ht9
        have e9 : (upd H6 t9 (.tup [V.ref tb, V.int ((c : Int) + 1)])) t9 = some (.tup [V.ref tb, V.int ((c : Int) + 1)]) := upd_same
        generalize upd H6 t9 (.tup [V.ref tb, V.int ((c : Int) + 1)]) = H9 at s9 e9 ⊢
        have s49 : Same H4 H9 := (s5.trans s6).trans s9
        refine ⟨t9, _, rfl, SqT.of e9, rfl, _, _, rfl, _, _, rfl, rfl, ?_⟩
        have gsX := s49 _ _ (s4 _ _ g1)
        have habX := s49 _ _ (sH4 _ _ hab)
        have hpX := s49 _ _ (sH4 _ _ hp)
        have htbX : H9 tb = some (.tup ((bo ++ [nn]).map oV)) := by rw [List.map_append]; exact s9 _ _ e6
        have g3X := (g3.same s4).same s49
        have kX := kc4.trans s49.keep
        refine ⟨_, rfl, .inl ⟨rfl, _, SqL.of gsX⟩, _, rfl, ab, eab, ⟨_, SqT.of habX⟩, fun D hD => ?_⟩
        refine lc_tup (K := K) (a := ab) (xs := bx) (fun j He => ∃ zs : List Addr, He D = some (.lst (zs.map V.ref)) ∧ zs.length = j ∧ SpotsAt C He zs ((bx.take j).map (plcOf d il' bo c (some nn))) ∧ Same H9 He) ?_ ?_ ?_ ?_
        · exact ⟨[], upd_same, rfl, SpotsAt.nil _ _, (Same.refl H9).put hD⟩
        · rintro j He _ ⟨_, _, _, _, se⟩
          exact SqT.of (se _ _ habX)
        · rintro j y He hy ⟨zs, z1, z2, z3, se⟩
          have hj : j < bx.length := (List.getElem?_eq_some_iff.mp hy).1
          refine ⟨rfl, _, rfl, _, rfl, p, C, dx, _, _, rfl, se _ _ hpX, Y.cl, Y.f2, sf_d _ _ _ _ _, _, _, rfl, rfl, _, rfl, _, rfl, _, rfl, fun x dx2 hx hdx nx => ?_⟩
          refine ⟨x, dx2, y, .int ((d : Int) + 1), .bl il', .ref tb, (.int ((c : Int) + 1)), rfl, upd_same, rfl, ?_⟩
          rw [upd_upd]
          have s7 : Same He (upd (upd He dx2 (.own x)) x (.ins C dx2 (sflds y (.int ((d : Int) + 1)) (.bl il') (.ref tb) ((.int ((c : Int) + 1)))))) := ((Same.refl He).put hdx).put hx
          have e7 : (upd (upd He dx2 (.own x)) x (.ins C dx2 (sflds y (.int ((d : Int) + 1)) (.bl il') (.ref tb) ((.int ((c : Int) + 1)))))) x = some (.ins C dx2 (sflds y (.int ((d : Int) + 1)) (.bl il') (.ref tb) ((.int ((c : Int) + 1))))) := upd_same
          generalize upd (upd He dx2 (.own x)) x (.ins C dx2 (sflds y (.int ((d : Int) + 1)) (.bl il') (.ref tb) ((.int ((c : Int) + 1))))) = H7 at s7 e7 ⊢
          refine ⟨_, s7 _ _ z1, by rw [List.length_map]; show _ < 16777216; omega, zs ++ [x], by rw [upd_same, List.map_append]; rfl, by rw [List.length_append, z2]; rfl, ?_, (se.trans s7).put hD⟩
          rw [List.take_add_one, hy, List.map_append]
          exact ((z3.same s7).updL (s7 _ _ z1)).app ((SpotsAt.one ⟨dx2, tb, by rw [e7]; push_cast; rfl, (se.trans s7) _ _ htbX⟩).updL (s7 _ _ z1))
        · rintro He ⟨zs, z1, z2, z3, se⟩
          rw [List.take_length] at z3
          have lenU : us.length = (inner d il' bo c (ns.take i) (bss.take i)).length := g3.1
          refine ⟨sl, D, _, _, rfl, rfl, se _ _ gsX, z1, by rw [List.length_map, List.length_map]; show _ ≤ 16777216; omega, ?_⟩
          refine ⟨_, _, _, _, _, rfl, us ++ zs, by rw [upd_same, List.map_append], by rw [List.length_append]; omega, ?_, ?_⟩
          · rw [inner_succ d il' bo c i ns bss (some nn) bx hni hbx]
            exact ((g3X.same se).updL (se _ _ gsX)).app (z3.updL (se _ _ gsX))
          · exact fun b o hb nb => by rw [upd_ne nb]; exact se b o (kX b o hb nb)
    · rintro σ Hc ⟨v3, v4, v5, v6, v7, rfl, us, g1, g2, g3, kc⟩
      rw [List.length_map] at g3
      have e : inner d il' bo c (ns.take ts.length) (bss.take ts.length) = inner d il' bo c ns bss := by
        rw [List.take_of_length_le (by omega), List.take_of_length_le (by have := B.1; omega)]
      rw [e] at g3
      exact ⟨_, rfl, k sl us Hc (up kc) hsl g1 g3⟩
end
end K2
end
section
set_option Elab.async false
set_option maxRecDepth 100000
set_option linter.all false
/-! _check_block -/
namespace K2
open PySem L2
abbrev sNFI : Stmt := inClass (top 3) 0
abbrev sCB : Stmt := top 46
abbrev nCB : List Str := ["block", "waiting", "step", "i", "spot", "reason"]
structure NF (K : PySem.W.Frag) (mg : Str → Option Value) (C fI : Addr) : Prop where
  oex : OexC K C
  n1 : PySem.W.findIn K (.ref C) "reason" = some none
  n2 : PySem.W.findIn K (.ref C) "place" = some none
  iC : PySem.W.findIn K (.ref C) "__init__" = some (some (.ref fI))
  tI : PySem.W.typeIn K (.ref fI) = some (.type "function")
  gC : mg "NoFunction" = some (.ref C)
def nfF (r : Str) (v : V) : List (Str × V) := [("place", v), ("reason", .str r)]
/-- from place number i on: the first fault, with its number, or none -/
inductive Chk (H : Hp) : Nat → List Plc → Option (Str × Nat) → Prop where
  | done {i : Nat} : Chk H i [] none
  | many {p : Plc} {rest : List Plc} : Chk H 60 (p :: rest) (some ("many", 60))
  | bad {i : Nat} {p : Plc} {rest : List Plc} {r : Str} (hi : i < 60) (f : SpF H p.1 p.2.1 p.2.2.1 p.2.2.2.1 p.2.2.2.2 (some r)) : Chk H i (p :: rest) (some (r, i))
  | step {i : Nat} {p : Plc} {rest : List Plc} {o : Option (Str × Nat)} {a : Addr} {w : Str} {xs : List V} {ps : List (V × V)} {bss : List (List V)} {ns : List (Option (Option Str))} (hi : i < 60) (f : SpF H p.1 p.2.1 p.2.2.1 p.2.2.2.1 p.2.2.2.2 none) (e : p.1 = .ref a) (ha : H a = some (.tup (.str w :: xs)))
      (S : Stm H (.ref a) ps) (B : Blocks H ps bss) (ln : ns.length = ps.length) (hn : ∀ (j : Nat) (q : V × V) (n : Option (Option Str)), ps[j]? = some q → ns[j]? = some n → PB H q.2 n) (c100 : p.2.2.2.2 ≤ 100) (b1000 : p.2.2.2.1.length ≤ 1000) (f100 : bss.flatten.length ≤ 100000) (d100 : p.2.1 ≤ 100)
      (nx : Chk H (i + 1) (inner p.2.1 (p.2.2.1 || decide (w = ("loop" : Str))) p.2.2.2.1 p.2.2.2.2 ns bss ++ rest) o) : Chk H i (p :: rest) o
theorem inner_len (d : Nat) (il : Bool) (bo : List (Option Str)) (c : Nat) : ∀ (ns : List (Option (Option Str))) (bss : List (List V)), (inner d il bo c ns bss).length ≤ bss.flatten.length
  | [], _ => Nat.zero_le _
  | _ :: _, [] => Nat.zero_le _
  | n :: ns, b :: bss => by
    have := inner_len d il bo c ns bss
    show (b.map _ ++ inner d il bo c ns bss).length ≤ _
    rw [List.length_append, List.length_map, List.flatten_cons, List.length_append]
    omega
theorem SpF.same {H H' : Hp} {v : V} {d : Nat} {il : Bool} {bs : List (Option Str)} {c : Nat} {o : Option Str} (h : SpF H v d il bs c o) (s : Same H H') (rs : RS H v → RS H' v) : SpF H' v d il bs c o := by
  cases h with
  | deep h => exact .deep h
  | brk h r e ha b => exact .brk h (rs r) e (s _ _ ha) b
  | bnd h r e ha nb bn l no => exact .bnd h (rs r) e (s _ _ ha) nb (bn.same s) l no
  | cla h r e ha hc bn l al ne h2 => exact .cla h (rs r) e (s _ _ ha) (s _ _ hc) (bn.same s) l al ne h2
  | ok h r e ha nb bn l al nc =>
    refine .ok h (rs r) e (s _ _ ha) nb (bn.same s) l al ?_
    rcases nc with nc | ⟨x, cs, r, ks, ex, hc, q⟩
    · exact .inl nc
    · exact .inr ⟨x, cs, r, ks, ex, s _ _ hc, q⟩
theorem RS.same {H H' : Hp} {v : V} (h : RS H v) (s : Same H H') : RS H' v := by
  cases h with
  | emp h m => exact .emp (s _ _ h) m
  | rai1 h v => exact .rai1 (s _ _ h) v
  | rai2 h v u => exact .rai2 (s _ _ h) v u
  | aga h l v => exact .aga (s _ _ h) l v
  | cal h l l2 v => exact .cal (s _ _ h) l l2 v
  | han h hb hc => exact .han (s _ _ h) (hb.same s) (hc.same s)
  | eit h l l2 hb => exact .eit (s _ _ h) l l2 fun b q => (hb b q).same s
  | loo h hb => exact .loo (s _ _ h) (hb.same s)
  | tr h hb hc lk hk ho hl ne => exact .tr (s _ _ h) (hb.same s) (s _ _ hc) lk (fun k q => (hk k q).same s) (s _ _ ho) (s _ _ hl) ne
  | wi h ve vl hq hb => exact .wi (s _ _ h) ve vl (hq.same s) (hb.same s)
theorem PB.same {H H' : Hp} {v : V} {n : Option (Option Str)} (h : PB H v n) (s : Same H H') : PB H' v n := by
  cases h with
  | no => exact .no
  | cl h => exact .cl (s _ _ h)
theorem SpotsAt.rev {C : Addr} {H : Hp} {ps : List Addr} {ss : List Plc} (h : SpotsAt C H ps ss) : SpotsAt C H ps.reverse ss.reverse := by
  refine ⟨by rw [List.length_reverse, List.length_reverse]; exact h.1, fun i p s a b => ?_⟩
  have hi : i < ps.length := by
    have := (List.getElem?_eq_some_iff.mp a).1
    rwa [List.length_reverse] at this
  rw [List.getElem?_reverse hi] at a
  rw [List.getElem?_reverse (by rw [← h.1]; exact hi), ← h.1] at b
  exact h.2 _ p s a b
theorem sf_none (st d il bd cl : V) : (sflds st d il bd cl).lookup ("fault" : Str) = none ∧ (sflds st d il bd cl).lookup ("inner" : Str) = none := by
  have n : ∀ f ∈ (["fault", "inner"] : List Str), ¬ f = "clauses" ∧ ¬ f = "bound" ∧ ¬ f = "in_loop" ∧ ¬ f = "depth" ∧ ¬ f = "statement" := by decide +kernel
  rw [← sput]
  obtain ⟨a1, a2, a3, a4, a5⟩ := n "fault" (by simp)
  obtain ⟨b1, b2, b3, b4, b5⟩ := n "inner" (by simp)
  simp only [lookup_putF, if_neg a1, if_neg a2, if_neg a3, if_neg a4, if_neg a5, if_neg b1, if_neg b2, if_neg b3, if_neg b4, if_neg b5]
  exact ⟨rfl, rfl⟩
def spCB (C CN : Addr) : Sp := fun vs H Q E => ∃ (b : Addr) (xs : List V) (o : Option (Str × Nat)), vs = [.ref b] ∧ H b = some (.tup xs) ∧ xs ≠ [] ∧ xs.length ≤ 100000 ∧ Chk H 0 (xs.map fun x => ((x, 1, false, [], 0) : Plc)) o ∧
  (o = none → ∀ H', Same H H' → Q .non H') ∧ ∀ r i, o = some (r, i) → ∀ (dd : Addr) (H' : Hp), Same H H' → H' dd = some (.xd (nfF r (.int (i : Nat)))) → E (.ref CN) (some dd) H'
section
variable {P : Program} {w : World} {K : PySem.W.Frag} {mg : Str → Option Value} {base : Heap}
theorem scNFI : FnScope ["self", "reason", "place"] ["self", "reason", "place"] (defScope sNFI) := ⟨rfl, rfl, rfl, by decide +kernel, rfl, by decide +kernel, by decide +kernel⟩
theorem ok_nfi {f C : Addr} {fd : FuncData} (F : Fun K "__init__" "NoFunction.__init__" sNFI f fd) (M : NF K mg C f) : FnOk P w K mg base CX0 1 f fd ["self", "reason", "place"] (spNCI C) := by
  refine F.ok scNFI (fun vs H Q E h => ?_) (fun cdv A outer s H vs Q E hr h => ?_)
  · obtain ⟨a, v1, v2, rfl, _⟩ := h
    rfl
  · obtain ⟨a, v1, v2, rfl, ha, k⟩ := h
    refine ⟨_, pss_cons (ps_ost (pv 0) (pv 1)) (pss_one (ps_ost (pv 0) (pv 2))), ?_⟩
    refine ⟨_, rfl, _, rfl, a, C, rfl, M.oex, M.n1, .inl ⟨ha, fun d hd hne => ?_⟩⟩
    have e1 : (upd (upd H d (exd d [("reason", v1)])) a (exo a C (some d))) d = some (exd d [("reason", v1)]) := by rw [upd_ne hne, upd_same]
    refine ⟨_, rfl, _, rfl, a, C, rfl, M.oex, M.n2, .inr ⟨d, _, upd_same, e1, (by show 1 ≤ 900; decide), ?_⟩⟩
    refine k d _ hd hne (by rw [upd_ne (Ne.symm hne), upd_same]) upd_same fun b o hb n => ?_
    rw [upd_ne (ne_of_none hb hd), upd_ne n, upd_ne (ne_of_none hb hd)]
    exact hb
theorem scCB : FnScope nCB ["block"] (defScope sCB) := ⟨rfl, rfl, rfl, by decide +kernel, rfl, by decide +kernel, by decide +kernel⟩
set_option maxHeartbeats 2000000 in
theorem ok_cb {f C CN fI fF fN fNI : Addr} {fd fdI fdF fdN fdNI : FuncData} {t1 : Tok} (F : Fun K "_check_block" "_check_block" sCB f fd) (T : Bi mg) (Y : SpT K mg C) (GM : mg "MOST_STATEMENTS" = some (.int 60 t1)) (M : Mk K C fI) (GI : FnOk P w K mg base CX0 1 fI fdI ["self", "statement", "depth", "in_loop", "bound", "clauses"] (spSI C)) (bI : Binds K fdI ["self", "statement", "depth", "in_loop", "bound", "clauses"] [])
    (mFa : Meth K C "fault" fF) (GSF : FnOk P w K mg base CX0 7 fF fdF ["self"] (spSF C)) (bFa : Binds K fdF ["self"] []) (mIn : Meth K C "inner" fN) (GSN : FnOk P w K mg base CX0 3 fN fdN ["self"] (spSN C)) (bIn : Binds K fdN ["self"] [])
    (NFx : NF K mg CN fNI) (GNi : FnOk P w K mg base CX0 1 fNI fdNI ["self", "reason", "place"] (spNCI CN)) (bNi : Binds K fdNI ["self", "reason", "place"] []) : FnOk P w K mg base (L2.CX P w) 8 f fd ["block"] (spCB C CN) := by
  refine F.okX scCB (fun vs H Q E h => ?_) (fun cdv A outer s H vs Q E hr h => ?_)
  · obtain ⟨b, xs, o, rfl, _⟩ := h
    rfl
  · obtain ⟨b, xs, o, rfl, hb, hne, hl, hC, kN, kE⟩ := h
    have hr7 : Room 7 _ := hr
    have hr3 : Room 3 _ := hr.mono (by decide)
    have hr2 : Room 2 _ := hr.mono (by decide)
    refine ⟨_, (pss_cons (ps_setLc (i := 1) (own := [("step", 2)]) (g := gName 2) (tt := tYes) rfl scCB.nd rfl rfl (sw_true rfl rfl rfl (by decide +kernel)) (pi_tup (pe_revT (pv 0))) (blkOk_by (N := nCB) (sc := defScope sCB) (by decide +kernel)) (fun _ _ _ _ _ => pg_name (i := 2) scCB.nd rfl (Or.inl rfl)) (fun _ _ _ _ _ => pts_nil) (fun _ _ _ _ _ => pe_make M GI hr2 (by rfl) Y.mgC bI .nil pass0 (pa_cons (pv 2) (pa_cons pe_int (pa_cons pe_bl (pa_cons (pe_tup pa_nil) (pa_cons pe_int pa_nil)))))))
      (pss_cons (ps_set (i := 3) scCB.nd rfl (Or.inl rfl) pe_int)
      (pss_one (ps_while (passes_of rfl) (pt_truth (pv 1) (fun _ => by rfl)) (pss_cons (ps_set (i := 4) scCB.nd rfl (Or.inl rfl) (pe_bm0 PySem.F.plainAttrs_list PySem.F.slot_list_pop PySem.F.type_list_pop mt_pop (pv 1)))
        (pss_cons (ps_set (i := 5) scCB.nd rfl (Or.inl rfl) (pe_ifExp (pt_cmpR op_eq (pv 3) (pe_glob (v := .int 60) rfl GM ⟨_, rfl⟩) (nomark _)) pe_str (pe_meth0 (pv 4) Y.cl mFa GSF hr7 bFa .nil pass0)))
        (pss_cons (ps_if (pt_cmpR op_notN (pv 5) pe_non (nomark _))
        (pss_one (ps_raise rfl (takes_of rfl rfl rfl rfl) (pmk_oex NFx.oex NFx.iC NFx.tI GNi hr2 bNi .nil pass0 (by rfl) NFx.gC (pa_cons (pv 5) (pa_cons (pv 3) pa_nil)))))
        pss_nil)
        (pss_cons (ps_expr (pe_bm PySem.F.plainAttrs_list PySem.F.slot_list_extend PySem.F.type_list_extend mt_extend (pv 1) (pa_cons (pe_stepL (pe_meth0 (pv 4) Y.cl mIn GSN hr3 bIn .nil pass0) (pe_un un_neg pe_int)) pa_nil)))
        (pss_one (ps_set (i := 3) scCB.nd rfl (Or.inl rfl) (pe_op op_add (pv 3) pe_int))))))))))), ?_⟩
    let pl : V → Plc := fun x => (x, 1, false, [], 0)
    refine ⟨_, rfl, b, xs, rfl, hb, List.length_pos_iff.mpr hne, fun p1 hp1 => ⟨p1, rfl, ⟨_, SqT.of upd_same⟩, fun D hD => ?_⟩⟩
    have s1 : Same H (upd H p1 (.tup xs.reverse)) := (Same.refl H).put hp1
    have e1 : (upd H p1 (.tup xs.reverse)) p1 = some (.tup xs.reverse) := upd_same
    generalize upd H p1 (.tup xs.reverse) = H1 at s1 e1 hD ⊢
    refine lc_tup (K := K) (a := p1) (xs := xs.reverse) (fun j He => ∃ zs : List Addr, He D = some (.lst (zs.map V.ref)) ∧ zs.length = j ∧ SpotsAt C He zs ((xs.reverse.take j).map pl) ∧ Same H1 He) ?_ ?_ ?_ ?_
    · exact ⟨[], upd_same, rfl, SpotsAt.nil _ _, (Same.refl H1).put hD⟩
    · rintro j He _ ⟨_, _, _, _, se⟩
      exact SqT.of (se _ _ e1)
    · rintro j y He hy ⟨zs, z1, z2, z3, se⟩
      have hj : j < xs.reverse.length := (List.getElem?_eq_some_iff.mp hy).1
      rw [List.length_reverse] at hj
      refine ⟨rfl, _, rfl, Nat.zero_le _, fun t ht => ?_⟩
      have s2 : Same He (upd He t (.tup [])) := (Same.refl He).put ht
      have e2 : (upd He t (.tup [])) t = some (.tup []) := upd_same
      generalize upd He t (.tup []) = H2 at s2 e2 ⊢
      refine fun x dx2 hx hdx nx => ⟨x, dx2, y, .int 1, .bl false, .ref t, .int 0, rfl, upd_same, rfl, ?_⟩
      rw [upd_upd]
      have s7 : Same H2 (upd (upd H2 dx2 (.own x)) x (.ins C dx2 (sflds y (.int 1) (.bl false) (.ref t) (.int 0)))) := ((Same.refl H2).put hdx).put hx
      have e7 : (upd (upd H2 dx2 (.own x)) x (.ins C dx2 (sflds y (.int 1) (.bl false) (.ref t) (.int 0)))) x = some (.ins C dx2 (sflds y (.int 1) (.bl false) (.ref t) (.int 0))) := upd_same
      generalize upd (upd H2 dx2 (.own x)) x (.ins C dx2 (sflds y (.int 1) (.bl false) (.ref t) (.int 0))) = H7 at s7 e7 ⊢
      have s27 := s2.trans s7
      refine ⟨_, s27 _ _ z1, by rw [List.length_map]; show _ < 16777216; omega, zs ++ [x], by rw [upd_same, List.map_append]; rfl, by rw [List.length_append, z2]; rfl, ?_, (se.trans s27).put hD⟩
      rw [List.take_add_one, hy, List.map_append]
      exact ((z3.same s27).updL (s27 _ _ z1)).app ((SpotsAt.one (s := pl y) ⟨dx2, t, e7, s7 _ _ e2⟩).updL (s27 _ _ z1))
    rintro H3 ⟨zs, z1, z2, z3, s3⟩
    rw [List.take_length] at z3
    have hD0 : H D = none := s1.free hD
    have s03 := s1.trans s3
    have z4 : SpotsAt C H3 zs.reverse (xs.map pl) := by
      have := z3.rev
      rwa [← List.map_reverse, List.reverse_reverse] at this
    refine ⟨fun m σ Hc => ∃ (i : Nat) (rest : List Plc) (ws : List Addr) (v2 v4 v5 : Option V), m = 61 - i ∧ i ≤ 60 ∧ σ = [some (.ref b), some (.ref D), v2, some (.int (i : Nat)), v4, v5] ∧ Hc D = some (.lst (ws.map V.ref).reverse) ∧ SpotsAt C Hc ws rest ∧ Chk H i rest o ∧ Same H Hc ∧ rest.length ≤ 100000 * (i + 1), ?_, ?_⟩
    · exact ⟨61, 0, xs.map pl, zs.reverse, _, _, _, rfl, by omega, rfl, by rw [z1, ← List.map_reverse, List.reverse_reverse], z4, hC, s03, by rw [List.length_map]; omega⟩
    rintro m σ Hc ⟨i, rest, ws, v2, v4, v5, rfl, hi, rfl, hD3, hS, hCk, sc, hlen⟩
    refine ⟨_, rfl, _, tru_list hD3, ite2 (fun z => ?_) (fun z => ?_)⟩
    case refine_2 =>
      have ew : ws = [] := by
        cases ws with
        | nil => rfl
        | cons v r => exact absurd (by simp) z
      have er : rest = [] := by
        have := hS.1
        rw [ew] at this
        exact List.length_eq_zero_iff.mp this.symm
      subst er
      cases hCk
      exact kN rfl Hc sc
    obtain ⟨q, wr, rfl⟩ : ∃ q wr, ws = q :: wr := by
      cases ws with
      | nil => exact absurd z (by simp)
      | cons q wr => exact ⟨q, wr, rfl⟩
    obtain ⟨pp, rr, rfl⟩ : ∃ pp rr, rest = pp :: rr := by
      cases rest with
      | nil => have := hS.1; simp at this
      | cons p r => exact ⟨p, r, rfl⟩
    have hq : SpotAt C Hc q pp := hS.2 0 q pp rfl rfl
    have hSr : SpotsAt C Hc wr rr := ⟨by have := hS.1; simpa using this, fun j p s a b => hS.2 (j + 1) p s a b⟩
    refine ⟨fun σ' H' => ∃ m', m' < 61 - i ∧ ∃ (i : Nat) (rest : List Plc) (ws : List Addr) (v2 v4 v5 : Option V), m' = 61 - i ∧ i ≤ 60 ∧ σ' = [some (.ref b), some (.ref D), v2, some (.int (i : Nat)), v4, v5] ∧ H' D = some (.lst (ws.map V.ref).reverse) ∧ SpotsAt C H' ws rest ∧ Chk H i rest o ∧ Same H H' ∧ rest.length ≤ 100000 * (i + 1), fun _ _ h => h, ?_⟩
    have er : ((q :: wr).map V.ref).reverse = (wr.map V.ref).reverse ++ [V.ref q] := by rw [List.map_cons, List.reverse_cons]
    rw [er] at hD3
    refine ⟨_, rfl, .inl ⟨rfl, _, SqL.of hD3⟩, D, _, V.ref q, rfl, rfl, hD3, by simp, ?_⟩
    rw [List.dropLast_concat]
    have hq4 : SpotAt C (upd Hc D (.lst (wr.map V.ref).reverse)) q pp := ((SpotsAt.one hq).updL hD3).2 0 q pp rfl rfl
    have hS4 : SpotsAt C (upd Hc D (.lst (wr.map V.ref).reverse)) wr rr := hSr.updL hD3
    have s4 : Same H (upd Hc D (.lst (wr.map V.ref).reverse)) := sc.put hD0
    have e4 : (upd Hc D (.lst (wr.map V.ref).reverse)) D = some (.lst (wr.map V.ref).reverse) := upd_same
    generalize upd Hc D (.lst (wr.map V.ref).reverse) = H4 at hq4 hS4 s4 e4 ⊢
    obtain ⟨dx, tt, hq1, hq2⟩ := id hq4
    cases hCk with
    | many =>
      refine ⟨_, rfl, rfl, _, rfl, ite2 (fun _ => ?_) fun z => absurd (decide_eq_true rfl) z⟩
      refine ⟨_, rfl, rfl, _, rfl, ite2 (fun _ => ?_) fun z => absurd (by simp) z⟩
      refine ⟨_, rfl, _, rfl, (by show 2 ≤ 1000; decide), fun ea hea => ⟨ea, _, _, rfl, upd_same, fun d3 H' hd3 hne e1 e2 k => ?_⟩⟩
      rw [upd_ne hne] at hd3
      refine ⟨rfl, d3, _, e1, e2, hd3, kE _ _ rfl d3 _ (fun b o hb => ?_) upd_same⟩
      have hb2 := s4 b _ hb
      have n1 := ne_of_none hb2 hd3
      have n2 := ne_of_none hb2 hea
      rw [upd_ne n1, del_ne n2]
      exact k b o (by rw [upd_ne n2]; exact hb2) n2
    | @bad _ _ _ r hi6 f =>
      refine ⟨_, rfl, rfl, _, rfl, ite2 (fun z => absurd (V.int.inj (of_decide_eq_true z)) (by omega)) fun _ => ?_⟩
      refine ⟨_, rfl, q, dx, _, rfl, hq1, (sf_none _ _ _ _ _).1, q, dx, tt, pp.1, pp.2.1, pp.2.2.2.2, pp.2.2.1, pp.2.2.2.1, some r, rfl, hq1, hq2, f.same s4 fun r => r.same s4, fun H5 s5 => ?_⟩
      have s45 := s4.trans s5
      refine ⟨_, rfl, rfl, _, rfl, ite2 (fun _ => ?_) fun z => absurd (by rw [show oV (some r) = V.str r from rfl, decide_eq_false (by nofun)]; rfl) z⟩
      refine ⟨_, rfl, _, rfl, (by show 2 ≤ 1000; decide), fun ea hea => ⟨ea, _, _, rfl, upd_same, fun d3 H' hd3 hne e1 e2 k => ?_⟩⟩
      rw [upd_ne hne] at hd3
      refine ⟨rfl, d3, _, e1, e2, hd3, kE _ _ rfl d3 _ (fun b o hb => ?_) upd_same⟩
      have hb2 := s45 b _ hb
      have n1 := ne_of_none hb2 hd3
      have n2 := ne_of_none hb2 hea
      rw [upd_ne n1, del_ne n2]
      exact k b o (by rw [upd_ne n2]; exact hb2) n2
    | @step _ _ _ _ a w xs ps bss ns hi6 f e ha S B ln hn c100 b1000 f100 d100 nx =>
      refine ⟨_, rfl, rfl, _, rfl, ite2 (fun z => absurd (V.int.inj (of_decide_eq_true z)) (by omega)) fun _ => ?_⟩
      refine ⟨_, rfl, q, dx, _, rfl, hq1, (sf_none _ _ _ _ _).1, q, dx, tt, pp.1, pp.2.1, pp.2.2.2.2, pp.2.2.1, pp.2.2.2.1, none, rfl, hq1, hq2, f.same s4 fun r => r.same s4, fun H5 s5 => ?_⟩
      have s45 := s4.trans s5
      refine ⟨_, rfl, rfl, _, rfl, ite2 (fun z => absurd z (by decide)) fun _ => ?_⟩
      obtain ⟨st, dpt, il, bo, cc⟩ := pp
      cases e
      have hq5 := s5 _ _ hq1
      refine ⟨_, rfl, .inl ⟨rfl, _, SqL.of (s5 _ _ e4)⟩, _, rfl, q, dx, _, rfl, hq5, (sf_none _ _ _ _ _).2, ?_⟩
      refine ⟨q, dx, tt, a, w, xs, dpt, cc, il, bo, ps, bss, ns, rfl, hq5, s5 _ _ hq2, s45 _ _ ha, S.same s45, B.same s45, ln, fun j u n h1 h2 => (hn j u n h1 h2).same s45, d100, c100, b1000, f100, fun l ts H6 s6 hln hl6 hSp => ?_⟩
      have s46 : Same H4 H6 := s5.trans s6
      have il' := inner_len dpt (il || decide (w = ("loop" : Str))) bo cc ns bss
      have hln : rr.length ≤ 100000 * (i + 1) := by rw [List.length_cons] at hlen; omega
      have lts : ts.length ≤ 100000 := by rw [hSp.1]; omega
      have lwr : wr.length = rr.length := hS4.1
      refine ⟨1, rfl, -1, rfl, l, _, rfl, SqL.of hl6, .inr ⟨rfl, fun rv hrv => ?_⟩⟩
      have s7 : Same H6 (upd H6 rv (.lst (ts.map V.ref).reverse)) := (Same.refl H6).put hrv
      have e7 : (upd H6 rv (.lst (ts.map V.ref).reverse)) rv = some (.lst (ts.map V.ref).reverse) := upd_same
      generalize upd H6 rv (.lst (ts.map V.ref).reverse) = H7 at s7 e7 ⊢
      have s47 := s46.trans s7
      refine ⟨D, rv, _, _, rfl, rfl, s47 _ _ e4, e7, by rw [List.length_reverse, List.length_reverse, List.length_map, List.length_map]; show _ ≤ 16777216; omega, ?_⟩
      refine ⟨_, rfl, _, _, rfl, rfl, 61 - (i + 1), by omega, i + 1, _, ts ++ wr, _, _, _, rfl, by omega, rfl, ?_, ?_, nx, (s4.trans s47).put hD0, ?_⟩
      · rw [upd_same, List.map_append, List.reverse_append]
      · exact ((hSp.same s7).updL (s47 _ _ e4)).app ((hS4.same s47).updL (s47 _ _ e4))
      · show (inner dpt (il || decide (w = ("loop" : Str))) bo cc ns bss ++ rr).length ≤ _
        rw [List.length_append]
        have := il'
        omega
end
end K2
end
section
set_option Elab.async false
set_option maxRecDepth 100000
set_option linter.all false
/-! _check_head -/
namespace K2
open PySem L2
abbrev sCH : Stmt := top 45
abbrev nCH : List Str := ["name", "callbacks", "block", "k", "callback"]
/-- the first fault of a name, callbacks and a block: its reason and its place -/
inductive Hd (K : PySem.W.Frag) (H : Hp) : V → List V → V → Option (Str × V) → Prop where
  | name {v : V} {cs : List V} {bl : V} (h : WdV K H v false) : Hd K H v cs bl (some ("name", .non))
  | two {x : Str} {ys : List Str} {bad : V} {more : List V} {bl : V} (vx : VW x) (vy : ∀ y ∈ ys, VW y) (nd : (x :: ys).Nodup) (l : ys.length = 2) : Hd K H (.str x) (ys.map V.str ++ bad :: more) bl (some ("callback", .int (ys.length : Nat)))
  | word {x : Str} {ys : List Str} {bad : V} {more : List V} {bl : V} (vx : VW x) (vy : ∀ y ∈ ys, VW y) (nd : (x :: ys).Nodup) (l : ys.length < 2) (h : WdV K H bad false) : Hd K H (.str x) (ys.map V.str ++ bad :: more) bl (some ("callback", .int (ys.length : Nat)))
  | same {x y : Str} {ys : List Str} {more : List V} {bl : V} (vx : VW x) (vy : ∀ y ∈ ys, VW y) (nd : (x :: ys).Nodup) (l : ys.length < 2) (v : VW y) (h : y ∈ x :: ys) : Hd K H (.str x) (ys.map V.str ++ .str y :: more) bl (some ("callback", .int (ys.length : Nat)))
  | block {x : Str} {ys : List Str} {bl : V} (vx : VW x) (vy : ∀ y ∈ ys, VW y) (nd : (x :: ys).Nodup) (l : ys.length ≤ 2) (h : BlV K H bl false) : Hd K H (.str x) (ys.map V.str) bl (some ("block", .non))
  | ok {x : Str} {ys : List Str} {bl : V} (vx : VW x) (vy : ∀ y ∈ ys, VW y) (nd : (x :: ys).Nodup) (l : ys.length ≤ 2) (h : BlV K H bl true) : Hd K H (.str x) (ys.map V.str) bl none
def spCH (K : PySem.W.Frag) (CN : Addr) : Sp := fun vs H Q E => ∃ (v bl : V) (c : Addr) (cs : List V) (o : Option (Str × V)), vs = [v, .ref c, bl] ∧ H c = some (.tup cs) ∧ cs.length ≤ 1000 ∧ Hd K H v cs bl o ∧
  (o = none → ∀ H', Same H H' → Q .non H') ∧ ∀ r pl, o = some (r, pl) → ∀ (dd : Addr) (H' : Hp), Same H H' → H' dd = some (.xd (nfF r pl)) → E (.ref CN) (some dd) H'
section
variable {P : Program} {w : World} {K : PySem.W.Frag} {mg : Str → Option Value} {base : Heap}
theorem scCH : FnScope nCH ["name", "callbacks", "block"] (defScope sCH) := ⟨rfl, rfl, rfl, by decide +kernel, rfl, by decide +kernel, by decide +kernel⟩
set_option maxHeartbeats 2000000 in
theorem ok_ch {f CN fW fB fNI : Addr} {fd fdW fdB fdNI : FuncData} {t1 : Tok} (F : Fun K "_check_head" "_check_head" sCH f fd) (T : Bi mg) (GM : mg "MOST_CALLBACKS" = some (.int 2 t1)) (IW : Df K mg "is_word" sIsW fW fdW ["x"]) (GW : FnOk P w K mg base CX0 1 fW fdW ["x"] (spIsWG K)) (IB : Df K mg "is_block" sIB fB fdB ["x"]) (GB : FnOk P w K mg base CX0 1 fB fdB ["x"] (spIB K))
    (NFx : NF K mg CN fNI) (GNi : FnOk P w K mg base CX0 1 fNI fdNI ["self", "reason", "place"] (spNCI CN)) (bNi : Binds K fdNI ["self", "reason", "place"] []) : FnOk P w K mg base (L2.CX P w) 3 f fd ["name", "callbacks", "block"] (spCH K CN) := by
  refine F.okX scCH (fun vs H Q E h => ?_) (fun cdv A outer s H vs Q E hr h => ?_)
  · obtain ⟨v, bl, c, cs, o, rfl, _⟩ := h
    rfl
  · obtain ⟨v, bl, c, cs, o, rfl, hc, lc, hd, kN, kE⟩ := h
    have hr2 : Room 2 _ := hr
    have hr1 : Room 1 _ := hr.mono (by decide)
    refine ⟨_, (pss_cons (ps_if (pt_not (pt_val (pe_call GW hr1 (by rfl) IW.m IW.F.kp IW.b .nil pass0 (pa_cons (pv 0) pa_nil))))
      (pss_one (ps_raise rfl (takes_of rfl rfl rfl rfl) (pmk_oex NFx.oex NFx.iC NFx.tI GNi hr2 bNi .nil pass0 (by rfl) NFx.gC (pa_cons pe_str (pa_cons pe_non pa_nil)))))
      pss_nil)
      (pss_cons (ps_for (passes_of rfl) rfl (pi_enumT (by rfl) T.enumerate (pa_cons (pv 1) pa_nil)) (pg_tup rfl (pgs_cons (pg_name (i := 3) scCH.nd rfl (Or.inl rfl)) (pgs_cons (pg_name (i := 4) scCH.nd rfl (Or.inl rfl)) pgs_nil)))
      (pss_one (ps_if (PW.pt (pw_or (pt_cmpR op_eq (pv 3) (pe_glob (v := .int 2) rfl GM ⟨_, rfl⟩) (nomark _)) (pw_or (pt_not (pt_val (pe_call GW hr1 (by rfl) IW.m IW.F.kp IW.b .nil pass0 (pa_cons (pv 4) pa_nil)))) (pw_or (pt_cmpR op_eq (pv 4) (pv 0) (nomark _)) (pw_or1 (pt_cmpR op_in_seq (pv 4) (pe_slice sl_tup2 (pv 1) po_none (po_some (pv 3))) rfl))))))
        (pss_one (ps_raise rfl (takes_of rfl rfl rfl rfl) (pmk_oex NFx.oex NFx.iC NFx.tI GNi hr2 bNi .nil pass0 (by rfl) NFx.gC (pa_cons pe_str (pa_cons (pv 3) pa_nil)))))
        pss_nil)))
      (pss_one (ps_if (pt_not (pt_val (pe_call GB hr1 (by rfl) IB.m IB.F.kp IB.b .nil pass0 (pa_cons (pv 2) pa_nil))))
      (pss_one (ps_raise rfl (takes_of rfl rfl rfl rfl) (pmk_oex NFx.oex NFx.iC NFx.tI GNi hr2 bNi .nil pass0 (by rfl) NFx.gC (pa_cons pe_str (pa_cons pe_non pa_nil)))))
      pss_nil)))), ?_⟩
    have main : (v = v ∧ WdV K H v false ∧ o = some (("name" : Str), V.non)) ∨ ∃ (x : Str) (ys : List Str) (tail : List V), v = .str x ∧ cs = ys.map V.str ++ tail ∧ VW x ∧ (∀ y ∈ ys, VW y) ∧ (x :: ys).Nodup ∧ ys.length ≤ 2 ∧
        ((tail = [] ∧ ((BlV K H bl false ∧ o = some (("block" : Str), V.non)) ∨ (BlV K H bl true ∧ o = none))) ∨ ∃ bad more, tail = bad :: more ∧ o = some (("callback" : Str), V.int (ys.length : Nat)) ∧ (ys.length = 2 ∨ (ys.length < 2 ∧ (WdV K H bad false ∨ ∃ y, bad = .str y ∧ VW y ∧ y ∈ x :: ys)))) := by
      cases hd with
      | name h => exact .inl ⟨rfl, h, rfl⟩
      | two vx vy nd l => exact .inr ⟨_, _, _, rfl, rfl, vx, vy, nd, by omega, .inr ⟨_, _, rfl, rfl, .inl l⟩⟩
      | word vx vy nd l h => exact .inr ⟨_, _, _, rfl, rfl, vx, vy, nd, by omega, .inr ⟨_, _, rfl, rfl, .inr ⟨l, .inl h⟩⟩⟩
      | same vx vy nd l v h => exact .inr ⟨_, _, _, rfl, rfl, vx, vy, nd, by omega, .inr ⟨_, _, rfl, rfl, .inr ⟨l, .inr ⟨_, rfl, v, h⟩⟩⟩⟩
      | block vx vy nd l h => exact .inr ⟨_, _, [], rfl, by simp, vx, vy, nd, l, .inl ⟨rfl, .inl ⟨h, rfl⟩⟩⟩
      | ok vx vy nd l h => exact .inr ⟨_, _, [], rfl, by simp, vx, vy, nd, l, .inl ⟨rfl, .inr ⟨h, rfl⟩⟩⟩
    have s0 : Same H H := Same.refl H
    rcases main with ⟨_, h, rfl⟩ | ⟨x, ys, tail, rfl, rfl, vx, vy, nd, l2, ht⟩
    · refine ⟨_, rfl, v, false, rfl, h, _, rfl, iteT ?_⟩
      refine ⟨(by show 2 ≤ 1000; decide), fun ea hea => ⟨ea, _, _, rfl, upd_same, fun d3 H' hd3 hne e1 e2 k => ?_⟩⟩
      rw [upd_ne hne] at hd3
      refine ⟨rfl, d3, _, e1, e2, hd3, kE _ _ rfl d3 _ (fun b o hb => ?_) upd_same⟩
      have hb2 := s0 b _ hb
      have n1 := ne_of_none hb2 hd3
      have n2 := ne_of_none hb2 hea
      rw [upd_ne n1, del_ne n2]
      exact k b o (by rw [upd_ne n2]; exact hb2) n2
    refine ⟨_, rfl, _, _, rfl, .vw vx, _, rfl, iteF ?_⟩
    have ndx := List.nodup_cons.mp nd
    refine ⟨_, rfl, c, _, rfl, hc, for_it (walk_enumT c (ys.map V.str ++ tail)) (fun i σ Hc => i ≤ ys.length ∧ ∃ (v3 v4 : Option V), σ = [some (.str x), some (.ref c), some bl, v3, v4] ∧ Same H Hc) ?_ ?_ ?_ ?_⟩
    · exact ⟨Nat.zero_le _, _, _, rfl, Same.refl H⟩
    · rintro i σ Hc _ ⟨_, v3, v4, rfl, sm⟩
      exact sm _ _ hc
    · rintro i y σ Hc Hy hin0 ⟨hin, v3, v4, rfl, sm⟩ ⟨T9, z, rfl, hT9, rfl, hz⟩
      have s9 : Same H (upd Hc T9 (.tup [V.int (i : Nat), z])) := sm.put (sm.free hT9)
      have e9 : (upd Hc T9 (.tup [V.int (i : Nat), z])) T9 = some (.tup [V.int (i : Nat), z]) := upd_same
      generalize upd Hc T9 (.tup [V.int (i : Nat), z]) = H9 at s9 e9 ⊢
      refine ⟨T9, _, rfl, SqT.of e9, rfl, _, _, rfl, _, _, rfl, rfl, ?_⟩
      have n2 : i ≠ 2 → ¬ (decide (V.int (i : Int) = V.int 2) = true) := fun n q => n (by have := V.int.inj (of_decide_eq_true q); omega)
      have nw : ∀ {w x : Str}, w ≠ x → ¬ (decide (V.str w = V.str x) = true) := fun n q => n (V.str.inj (of_decide_eq_true q))
      have ctake : ∀ j : Nat, j ≤ ys.length → cutV (ys.map V.str ++ tail) none (some (j : Int)) = (ys.take j).map V.str := fun j hj => by
        unfold cutV
        rw [HT.sIx_nat, HT.sIx_none, List.drop_zero, Nat.sub_zero, Nat.min_eq_left (by rw [List.length_append, List.length_map]; omega), List.take_append_of_le_length (by rw [List.length_map]; exact hj), List.map_take]
      by_cases hi : i < ys.length
      · obtain ⟨y, hy⟩ : ∃ y, ys[i]? = some y := ⟨_, List.getElem?_eq_getElem hi⟩
        rw [List.getElem?_append_left (by rw [List.length_map]; exact hi), List.getElem?_map, hy] at hz
        cases hz
        have hm := List.mem_of_getElem? hy
        have nx : y ≠ x := fun e => ndx.1 (e ▸ hm)
        have nt : y ∉ ys.take i := fun q => by
          obtain ⟨j, hj⟩ := List.getElem?_of_mem q
          rw [List.getElem?_take] at hj
          split at hj
          · rename_i lt
            have := (List.getElem?_inj (i := j) (by omega) ndx.2).mp (hj.trans hy.symm)
            omega
          · cases hj
        refine ⟨_, rfl, rfl, _, rfl, ite2 (fun q => absurd q (n2 (by omega))) fun _ => ?_⟩
        refine ⟨_, rfl, _, _, rfl, .vw (vy y hm), _, rfl, ?_⟩
        refine ⟨_, rfl, _, rfl, rfl, _, rfl, ite2 (fun q => absurd q (nw nx)) fun _ => ?_⟩
        refine ⟨_, rfl, _, rfl, _, rfl, _, rfl, c, _, rfl, s9 _ _ hc, fun bp H6 s6 hbp => ?_⟩
        rw [ctake i hin] at hbp
        refine ⟨bp, _, rfl, .inr (SqT.of hbp), rfl, flat_strs _, _, rfl, ?_⟩
        rw [if_neg Bool.false_ne_true, inV_strs, decide_eq_false nt]
        exact iteF ⟨by omega, _, _, rfl, s9.trans s6⟩
      · obtain rfl : i = ys.length := by omega
        rcases ht with ⟨rfl, _⟩ | ⟨bad, more, rfl, rfl, hf⟩
        · rw [List.append_nil, List.length_map] at hin0
          omega
        have ez : bad = z := by
          rw [List.getElem?_append_right (by rw [List.length_map]; exact Nat.le_refl _), List.length_map, Nat.sub_self] at hz
          exact Option.some.inj hz
        subst ez
        rcases hf with h2 | ⟨h2, hw | ⟨y, rfl, vy', hm⟩⟩
        · refine ⟨_, rfl, rfl, _, rfl, ite2 (fun _ => ?_) fun q => absurd (by rw [h2]; exact decide_eq_true rfl) q⟩
          refine ⟨_, rfl, (by show 2 ≤ 1000; decide), fun ea hea => ⟨ea, _, _, rfl, upd_same, fun d3 H' hd3 hne e1 e2 k => ?_⟩⟩
          rw [upd_ne hne] at hd3
          refine ⟨rfl, d3, _, e1, e2, hd3, kE _ _ rfl d3 _ (fun b o hb => ?_) upd_same⟩
          have hb2 := s9 b _ hb
          have n1 := ne_of_none hb2 hd3
          have n2 := ne_of_none hb2 hea
          rw [upd_ne n1, del_ne n2]
          exact k b o (by rw [upd_ne n2]; exact hb2) n2
        · refine ⟨_, rfl, rfl, _, rfl, ite2 (fun q => absurd q (n2 (by omega))) fun _ => ?_⟩
          refine ⟨_, rfl, _, false, rfl, hw.same s9, _, rfl, ?_⟩
          refine ⟨_, rfl, (by show 2 ≤ 1000; decide), fun ea hea => ⟨ea, _, _, rfl, upd_same, fun d3 H' hd3 hne e1 e2 k => ?_⟩⟩
          rw [upd_ne hne] at hd3
          refine ⟨rfl, d3, _, e1, e2, hd3, kE _ _ rfl d3 _ (fun b o hb => ?_) upd_same⟩
          have hb2 := s9 b _ hb
          have n1 := ne_of_none hb2 hd3
          have n2 := ne_of_none hb2 hea
          rw [upd_ne n1, del_ne n2]
          exact k b o (by rw [upd_ne n2]; exact hb2) n2
        · refine ⟨_, rfl, rfl, _, rfl, ite2 (fun q => absurd q (n2 (by omega))) fun _ => ?_⟩
          refine ⟨_, rfl, _, _, rfl, .vw vy', _, rfl, ?_⟩
          by_cases ex : y = x
          · refine ⟨_, rfl, _, rfl, rfl, _, rfl, ite2 (fun _ => ?_) fun q => absurd (by rw [ex]; exact decide_eq_true rfl) q⟩
            refine ⟨_, rfl, (by show 2 ≤ 1000; decide), fun ea hea => ⟨ea, _, _, rfl, upd_same, fun d3 H' hd3 hne e1 e2 k => ?_⟩⟩
            rw [upd_ne hne] at hd3
            refine ⟨rfl, d3, _, e1, e2, hd3, kE _ _ rfl d3 _ (fun b o hb => ?_) upd_same⟩
            have hb2 := s9 b _ hb
            have n1 := ne_of_none hb2 hd3
            have n2 := ne_of_none hb2 hea
            rw [upd_ne n1, del_ne n2]
            exact k b o (by rw [upd_ne n2]; exact hb2) n2
          · have hm2 : y ∈ ys := by
              rcases List.mem_cons.mp hm with h | h
              · exact absurd h ex
              · exact h
            refine ⟨_, rfl, _, rfl, rfl, _, rfl, ite2 (fun q => absurd q (nw ex)) fun _ => ?_⟩
            refine ⟨_, rfl, _, rfl, _, rfl, _, rfl, c, _, rfl, s9 _ _ hc, fun bp H6 s6 hbp => ?_⟩
            rw [ctake _ (Nat.le_refl _), List.take_length] at hbp
            refine ⟨bp, _, rfl, .inr (SqT.of hbp), rfl, flat_strs _, _, rfl, ?_⟩
            rw [if_neg Bool.false_ne_true, inV_strs, decide_eq_true hm2]
            have s96 := s9.trans s6
            refine iteT ?_
            refine ⟨_, rfl, (by show 2 ≤ 1000; decide), fun ea hea => ⟨ea, _, _, rfl, upd_same, fun d3 H' hd3 hne e1 e2 k => ?_⟩⟩
            rw [upd_ne hne] at hd3
            refine ⟨rfl, d3, _, e1, e2, hd3, kE _ _ rfl d3 _ (fun b o hb => ?_) upd_same⟩
            have hb2 := s96 b _ hb
            have n1 := ne_of_none hb2 hd3
            have n2 := ne_of_none hb2 hea
            rw [upd_ne n1, del_ne n2]
            exact k b o (by rw [upd_ne n2]; exact hb2) n2
    · rintro σ Hc ⟨hin, v3, v4, rfl, sm⟩
      rcases ht with ⟨rfl, ⟨hb, rfl⟩ | ⟨hb, rfl⟩⟩ | ⟨bad, more, rfl, _⟩
      · refine ⟨_, rfl, bl, false, rfl, hb.same sm, _, rfl, iteT ?_⟩
        refine ⟨(by show 2 ≤ 1000; decide), fun ea hea => ⟨ea, _, _, rfl, upd_same, fun d3 H' hd3 hne e1 e2 k => ?_⟩⟩
        rw [upd_ne hne] at hd3
        refine ⟨rfl, d3, _, e1, e2, hd3, kE _ _ rfl d3 _ (fun b o hb => ?_) upd_same⟩
        have hb2 := sm b _ hb
        have n1 := ne_of_none hb2 hd3
        have n2 := ne_of_none hb2 hea
        rw [upd_ne n1, del_ne n2]
        exact k b o (by rw [upd_ne n2]; exact hb2) n2
      · exact ⟨_, rfl, bl, true, rfl, hb.same sm, _, rfl, iteF (kN rfl Hc sm)⟩
      · rw [List.length_append, List.length_map, List.length_cons] at hin
        omega
end
end K2
end
section
set_option Elab.async false
set_option maxRecDepth 100000
set_option linter.all false
/-! a def with a star and one keyword-only parameter; C(.., k = v), c(.., *xs, k = v) -/
namespace K2
open PySem L2 PySem.Spec PyProof.Rows PySem.W
section
variable {M : Model} {A : Around} {E0 : Value → Shared → Prop} {s : Shared} {K : PySem.W.Frag} {env : Env} {pos : Pos} {f : Value} {first : List Value} {Q : Value → Shared → Prop} {e : Expr} {rest : List Expr} {kws : List Keyword}
theorem cw_SK (hk : PySem.W.keepIn K f = true) (hall : (backToKw pos (keywordEach kws env)).all (·.1.isSome) = true)
    (h : wpAny M A (spliced (backTo pos (starEach (e :: rest) env))) (fun vs s₁ => wpAny M A (evalAll ((backToKw pos (keywordEach kws env)).map (·.2)))
      (fun ks s₂ => K.In s₂.heap ∧ wpAny M A (call f (first ++ vs) (((backToKw pos (keywordEach kws env)).filterMap (·.1)).zip ks)) Q E0 s₂) E0 s₁) E0 s)
    (hst : ((backTo pos (starEach (e :: rest) env)).any (·.1) || (backToKw pos (keywordEach kws env)).any (·.1.isNone)) = true := by rfl) (he : starEach (e :: rest) env = (false, eval e env) :: starEach rest env := by rfl) :
    wpAny M A (callWith pos f first (backTo pos (starEach (e :: rest) env)) (backToKw pos (keywordEach kws env))) Q E0 s := by
  have h2 : wpAny M A (evalArgs f true (backTo pos (starEach (e :: rest) env)) (backToKw pos (keywordEach kws env))) (fun a s₁ => K.In s₁.heap ∧ wpAny M A (call f (first ++ a.pos) a.kw) Q E0 s₁) E0 s := evalArgs_kw2 hall h he
  unfold callWith
  refine wpAny_bind (wpAny_holding (wpAny_mono h2 (fun a s₁ h₁ => wpAny_bind (wpAny_standAt ?_)) fun _ _ x => x))
  obtain ⟨k, hk', L⟩ := keeps_K (M := M) hk _ h₁.1
  simp only [hst]
  refine wpAny_bind (L.here ?_)
  have tail : ∀ {t : Sem Value}, wpAny M A t Q E0 s₁ → wpAny M A (t >>= fun r => holding [r] point >>= fun _ => pure r) Q E0 s₁ :=
    fun ht => wpAny_bind (wpAny_mono ht (fun r s₂ hr => wpAny_bind (wpAny_holding (wpAny_point (wpAny_pure hr)))) fun _ _ x => x)
  have marked (mk : Value) : wpAny M A (callMarked mk f (first ++ a.pos) a.kw) Q E0 s₁ := by unfold callMarked; exact Calls.wpAny_keep h₁.2
  rcases hk' with rfl | rfl | rfl <;> dsimp only <;> first | exact tail (marked _) | exact tail (wpAny_operating h₁.2)
end
/-- the promise of a def that is called with positional values and one keyword -/
def FnRK (P : Program) (w : World) (K : PySem.W.Frag) (mg : Str → Option Value) (base : Heap) (CX : CXT) (k : Nat) (f : Addr) (kn : Str) (sp : V → Sp) : Prop :=
  ∀ (A : Around) (outer : List Env) (s : Shared) (H : Hp) (us : List Value) (b : Value) (vs : List V) (z : V) (Q : VK) (E : XK), Room k A → Env0 P w K mg base A outer s H → Vals vs us → RelV z b → sp z vs H Q E →
    codeAny (model P w) A (.call (.ref f) ⟨us, [(kn, b)]⟩) (CR CX outer P w H s Q E) s
section
variable {P : Program} {w : World} {K : PySem.W.Frag} {mg : Str → Option Value} {base : Heap} {CX : CXT} {k : Nat} {f : Addr} {name qual : Str} {params : Arguments} {body : List Stmt} {scope : Scope} {dV kV doc pm cdv ct oc : Value} {an od : Option Addr}
  {osl : Array (Option Value)} {N ps : List Str} {sp : Sp}
theorem FnRK.mono {kn : Str} {sp : V → Sp} {j : Nat} (F : FnRK P w K mg base CX k f kn sp) (h : k ≤ j) : FnRK P w K mg base CX j f kn sp := fun A outer s H us b vs z Q E hr => F A outer s H us b vs z Q E (hr.mono h)
theorem fn_starK {pv kn : Str} (lk : K.lookup f = some ⟨oc, od, .func (PySem.W.fnOf name qual params body scope dV kV doc pm an cdv ct), osl⟩) (hcd : PySem.W.codeIn K cdv qual = true) (S : FnScope N (ps ++ [kn, pv]) scope) (hCX : StX.CXUp CX)
    (hb : ∀ (us rest : List Value) (b : Value), us.length = ps.length → bindArgs (PySem.W.fnOf name qual params body scope dV kV doc pm an cdv ct) ⟨us ++ rest, [(kn, b)]⟩ = (newTuple rest >>= fun t => pure (ps.zip us ++ [(kn, b), (pv, t)])))
    (hbody : ∀ (A : Around) (outer : List Env) (s : Shared) (H : Hp) (vs : List V) (Q : VK) (E : XK), Room k (A.deeper (envOfC qual scope s.heap.objs.size f cdv)) → sp vs H Q E →
      ∃ t, PSs (cxOf CX P w K mg base N qual scope f cdv A outer s H E) body t ∧ t { nx := fun _ H' => Q .non H', rt := Q } (start N vs) H) :
    FnRK P w K mg base CX (k + 1) f kn (fun z vs H Q E => ∃ ws rest, vs = ws ++ rest ∧ ws.length = ps.length ∧ rest.length ≤ sizeLine ∧ ∀ p, H p = Option.none → sp (ws ++ [z, V.ref p]) (upd H p (.tup rest)) Q E) := by
  intro A outer s H us b vs z Q E hr e0 r rz hsp
  obtain ⟨ws, rest, ev, hl, hz, hq⟩ := hsp
  subst ev
  obtain ⟨u1, u2, eu, r1, r2⟩ := StX.vals_split r
  subst eu
  have hn : H s.heap.objs.size = Option.none := e0.hok.fresh (Nat.le_refl _)
  have hl1 : u1.length = ps.length := by rw [← r1.length]; exact hl
  have hl2 : u2.length ≤ sizeLine := by rw [← r2.length]; exact hz
  refine StX.run_bnd lk hcd S hr e0 (G := fun xs H2 => ∃ p, H p = Option.none ∧ xs = ws ++ [z, V.ref p] ∧ H2 = upd H p (.tup rest)) (fun A' Ex Q' h => ?_) fun s2 H2 xs ⟨p, hp, ex, eH⟩ hr' => ?_
  · rw [hb u1 u2 b hl1]
    refine wpAny_bind (wpAny_newTuple (wpAny_pure ?_) hl2)
    have new : ObjOk P w (upd H s.heap.objs.size (.tup rest)) (s.heap.push ({ cls := .type "tuple", data := .seq u2.toArray } : Obj)) s.heap.objs.size (.tup rest) := ⟨hz, u2, r2, ⟨_, Heap.get?_push_size _ rfl, rfl, _, rfl⟩⟩
    have un := StX.un_laid (fs := frs outer) (s := s) (o := ({ cls := .type "tuple", data := .seq u2.toArray } : Obj)) (u := .tup rest) hn
    have y := h _ _ (ws ++ [z, V.ref s.heap.objs.size]) (u1 ++ [b, Value.ref s.heap.objs.size]) (StX.env0_laid e0 new) un rfl (fun e s' => hCX outer s H _ _ E e s' un (fun b o q => Heap.get?_push_of_some _ q) rfl) (r1.append (.cons rz (.cons rfl .nil)))
      (by rw [List.length_append, List.length_append, hl] <;> rfl) ⟨_, hn, rfl, rfl⟩
    rw [List.zip_append hl1.symm] at y
    exact y
  · subst ex eH
    exact hbody A outer s2 _ _ Q E hr' (hq p hp)
end
section
variable {X : Cx} {CX : CXT} {k i : Nat} {f C : Addr} {sp : V → Sp} {E : XK} {x kn : Str} {e : Expr} {es : List Expr} {kws : List Keyword} {t tk : TA} {p pos : Pos}
theorem run_makeRK {pins : List (Addr × Obj)} {σ : L2.St} {H : Hp} {s : Shared} {Q : VK} {us : List Value} {vs : List V} {b : Value} {z : V} (M : Mk X.K C f) (F : FnRK X.prog X.w X.K X.mg X.base CX k f kn sp) (hr : Room (k + 1) X.A) (hx : Passes CX X E) (I : Inv X pins σ H s) (r : Vals vs us) (rz : RelV z b)
    (h : ∀ x dx, H x = Option.none → H dx = Option.none → dx ≠ x → sp z (V.ref x :: vs) (upd (upd H dx (.own x)) x (.ins C dx [])) (fun v H2 => v = .non ∧ Q (.ref x) H2) E) :
    wpAny (model X.prog X.w) X.A (call (.ref C) us [(kn, b)]) (EP X pins σ Q) X.xe s := by
  have hq := h (s.heap.objs.size + 1) s.heap.objs.size (I.hok.fresh (Nat.le_succ _)) (I.hok.fresh (Nat.le_refl _)) (Nat.ne_of_lt (Nat.lt_succ_self _))
  have I2 := Inv.made (C := C) I
  have r2 : Vals (V.ref (s.heap.objs.size + 1) :: vs) (Value.ref (s.heap.objs.size + 1) :: us) := .cons rfl r
  refine wpAny_call (make_map (f := f) I.kIn M.makes M.init (beq_iff_eq.mp M.fn) (codeAny_mono (F _ X.stack _ _ (Value.ref (s.heap.objs.size + 1) :: us) b _ z _ E (hr.make C us [(kn, b)]) (I2.env0.make C us [(kn, b)]) r2 rz hq) fun r s' hq' => ?_))
  cases r with
  | error e => exact hx pins σ _ _ e s' I2 hq'
  | ok fl =>
    cases fl with
    | ret u =>
      obtain ⟨v, H', I3, rv, ev, q3⟩ := I2.after hq'
      subst ev
      exact ⟨rv, ⟨V.ref (s.heap.objs.size + 1), H', I3, rfl, q3⟩⟩
    | next => exact False.elim hq'
    | brk => exact False.elim hq'
    | cont => exact False.elim hq'
/-- a new C, by things and one keyword -/
def tMakeRK (C : Addr) (sp : V → Sp) (E : XK) (t tk : TA) : TE := fun σ H Q => t σ H fun vs H1 => tk σ H1 fun zs H2 => ∃ z, zs = [z] ∧ ∀ x dx, H2 x = Option.none → H2 dx = Option.none → dx ≠ x →
  sp z (V.ref x :: vs) (upd (upd H2 dx (.own x)) x (.ins C dx [])) (fun v H3 => v = .non ∧ Q (.ref x) H3) E
/-- C(e, .., k = v) -/
theorem pe_makeRK (M : Mk X.K C f) (F : FnRK X.prog X.w X.K X.mg X.base CX k f kn sp) (hr : Room (k + 1) X.A) (hg : Gl X x) (hm : X.mg x = some (.ref C)) (hx : Passes CX X E) (ha : PA X (e :: es) t) (hkw : PK X kws tk)
    (hall : (backToKw pos (keywordEach kws X.env)).all (·.1.isSome) = true := by rfl) (hks : (backToKw pos (keywordEach kws X.env)).filterMap (·.1) = [kn] := by rfl) (hdb : (x == ("__debug__" : Str)) = false := by decide)
    (he : starEach (e :: es) X.env = (false, eval e X.env) :: starEach es X.env := by rfl) (hpl : ((backTo pos (starEach (e :: es) X.env)).any (·.1) || (backToKw pos (keywordEach kws X.env)).any (·.1.isNone)) = false := by rfl) :
    PE X (.Call (.Name x p) (e :: es) kws pos) (tMakeRK C sp E t tk) := by
  refine ⟨fun pins s σ H Q I h => ?_⟩
  refine wpAny_Call_Name_kw (ld_glob I hg hm ?_ hdb)
  refine PySem.W.callWith_KW (h₀ := X.base) I.ok.mod.kin M.kp hall (thn (ha.run pos pins s σ H _ I h) fun us s1 ⟨vs, H1, I1, r, q⟩ => ?_) hpl he
  refine thn (hkw.run pos pins s1 σ H1 _ I1 q) fun ws s2 ⟨zs, H2, I2, rz, z, ez, q2⟩ => ⟨I2.kIn, ?_⟩
  subst ez
  rw [hks]
  cases rz with
  | cons r1 r0 =>
    cases r0
    exact run_makeRK M F hr hx I2 r r1 q2
/-- c(e, .., *y, .., k = v), c a name that holds a class -/
theorem pe_makeLK (M : Mk X.K C f) (F : FnRK X.prog X.w X.K X.mg X.base CX k f kn sp) (hr : Room (k + 1) X.A) (hN : X.N[i]? = some x) (hv : Vis X.env.scope x) (hx : Passes CX X E) (ha : PA X (e :: es) t) (hkw : PK X kws tk)
    (hall : (backToKw pos (keywordEach kws X.env)).all (·.1.isSome) = true := by rfl) (hks : (backToKw pos (keywordEach kws X.env)).filterMap (·.1) = [kn] := by rfl) (hdb : (x == ("__debug__" : Str)) = false := by decide) (hcd : (x == ("__classdict__" : Str)) = false := by decide)
    (he : starEach (e :: es) X.env = (false, eval e X.env) :: starEach es X.env := by rfl) (hst : ((backTo pos (starEach (e :: es) X.env)).any (·.1) || (backToKw pos (keywordEach kws X.env)).any (·.1.isNone)) = true := by rfl) :
    PE X (.Call (.Name x p) (e :: es) kws pos) (fun σ H Q => σ[i]? = some (some (.ref C)) ∧ tMakeRK C sp E t tk σ H Q) := by
  refine ⟨fun pins s σ H Q I ⟨hs, h⟩ => wpAny_Call_Name_kw (thn ((pe_var (pos := p) hN hv hdb hcd).run pins s σ H (fun v H1 => v = .ref C ∧ H1 = H) I ⟨.ref C, hs, rfl, rfl⟩) fun u s0 ⟨v, H0, I0, r0, q0⟩ => ?_)⟩
  obtain ⟨rfl, rfl⟩ := q0
  cases r0
  refine cw_SK M.kp hall (thn (ha.run pos pins s0 σ _ _ I0 h) fun us s1 ⟨vs, H1, I1, r, q⟩ => ?_) hst he
  refine thn (hkw.run pos pins s1 σ H1 _ I1 q) fun ws s2 ⟨zs, H2, I2, rz, z, ez, q2⟩ => ⟨I2.kIn, ?_⟩
  subst ez
  rw [hks]
  cases rz with
  | cons r1 r0 =>
    cases r0
    exact run_makeRK M F hr hx I2 r r1 q2
end
end K2
end
section
set_option Elab.async false
set_option maxRecDepth 100000
set_option linter.all false
set_option maxHeartbeats 1000000
/-! tuple(g), g a generator made by a call -/
namespace K2
open PySem PySem.Spec PyProof.Rows L2 GenW
theorem code_tuple_newG {P : Program} {w : World} {outer : List Env} {H : Hp} {sc s : Shared} {ex : List Addr} {Q : List V → Hp → Prop} {EX : XK} {A : Around} {k : Nat} {u : Value} {Q' : Value → Shared → Prop} {E : Value → Shared → Prop}
    (hr : Room (k + 3) A) (hfr : A.frames = some outer) (h : GMade P w k outer H sc ex Q EX u s)
    (hQ : ∀ (S : Addr) (s' : Shared) (acc : Array Value) (c : Nat) (H' : Hp) (ys : List V), s.heap.objs.size ≤ S → s'.heap.get? S = some (lstObj acc c) → Vals ys acc.toList → ys.length ≤ sizeLine → s'.os = sc.os → AllBare s'.gens → Un (frs outer) ex H H' sc.heap s'.heap → HOk P w H' s'.heap → H' S = none → Q ys H' → Q' (.ref s'.heap.objs.size) { s' with heap := s'.heap.push { cls := .type "tuple", data := .seq acc } })
    (hexc : ∀ (e : Value) (s' : Shared) (g : Nat), CX P w outer H sc EX e s' → NotStop (model P w) e s'.heap ∧ E e (s'.setGen g .finished)) :
    codeAny (model P w) A (.call (.builtin "tuple.__new__") ⟨[.type "tuple", u], []⟩) (wants Q' E) s := by
  obtain ⟨a, g, c, rfl, ha1, ha2, hg, hgs, hos, hb, hl, hkp, wake⟩ := h
  have hSa : s.heap.objs.size ≠ a := Nat.ne_of_gt ha2
  have hcl : cStatics < s.heap.objs.size := let ⟨_, hn, _⟩ := hl; hn.lt
  have hSc : s.heap.objs.size ≠ cStatics := Nat.ne_of_gt hcl
  refine codeAny_of_tree ?_
  show wpAny _ A.in1 (do checkBuiltinCall "tuple.__new__" ⟨[.type "tuple", .ref a], []⟩; again (.builtin "tuple.__new__" ⟨[.type "tuple", .ref a], []⟩)) _ _ s
  refine wpAny_bind (wpAny_of_eq (F.newCall_tuple_1 _) (wpAny_pure ⟨plainId_quiet F.plain_tuple_new _, codeAny_builtin F.entry_tuple_new ?_⟩))
  rw [Around.under_plainId F.plain_tuple_new _]
  have hsub := sub_tuple_self
  have hinit := init_tuple_lookup
  have hmh := madeHere_tuple
  have gty : ∀ {h : Heap}, (∀ b o, s.heap.get? b = some o → h.get? b = some o) → h.IsGen a g := fun {h} q => hg.keeps q
  have hTI : s.TypeIs (.ref a) "generator" := Heap.IsGen.typeIs hg
  have col : ∀ (Q2 : List Value → Shared → Prop), (∀ (S : Addr) (s' : Shared) (acc : Array Value) (c : Nat) (H' : Hp) (ys : List V), s.heap.objs.size ≤ S → s'.heap.get? S = some (lstObj acc c) → Vals ys acc.toList → ys.length ≤ sizeLine → s'.os = sc.os → AllBare s'.gens → Un (frs outer) ex H H' sc.heap s'.heap → HOk P w H' s'.heap → H' S = none → Q ys H' → Q2 acc.toList s') →
      wpAny (model P w) A.in1 (collect (.ref a)) Q2 E s := by
    intro Q2 hQ2
    have hS : (s.heap.push { cls := .type "list", data := .seq ([] : List Value).toArray }).get? s.heap.objs.size = some { cls := .type "list", data := .seq ([] : List Value).toArray } := Heap.get?_push_size _ rfl
    have k1 : ∀ b o, s.heap.get? b = some o → (s.heap.push { cls := .type "list", data := .seq ([] : List Value).toArray }).get? b = some o := fun b o e => Heap.get?_push_of_some _ e
    have up : ∀ (h : Heap) (f : Obj → Obj), (∀ b o, s.heap.get? b = some o → h.get? b = some o) → ∀ b o, s.heap.get? b = some o → (h.update s.heap.objs.size f).get? b = some o := fun h f q b o e =>
      (Heap.get?_update_other _ _ (Ne.symm (Nat.ne_of_lt (Heap.lt_size e)))).trans (q b o e)
    unfold collect
    refine wpAny_bind (wpAny_runValue (codeAny_builtin F.entry_proto_collect ?_))
    rw [Around.under_plainId F.plain_proto_collect _]
    show wpAny _ A.in1.in1 (newList [] >>= fun l => again (.builtin "list.__iadd__" ⟨[l, .ref a], []⟩)) _ _ s
    refine wpAny_bind (wpAny_newObj_type ?_)
    refine wpAny_pure ⟨plainId_quiet F.plain_list_iadd _, codeAny_builtin F.entry_list_iadd ?_⟩
    rw [Around.under_plainId F.plain_list_iadd _]
    show wpAny _ A.in1.in1 (Builtin.List.listExtendWith (.ref s.heap.objs.size) (.ref a) (.ref s.heap.objs.size)) _ _ _
    unfold Builtin.List.listExtendWith
    refine wpAny_bind (wpAny_typeOf (Heap.IsGen.typeIs (s := { s with heap := _ }) (gty k1)) ?_)
    have h1 : Builtin.List.listSameRef (.ref s.heap.objs.size) (.ref a) = false := by simp [Builtin.List.listSameRef, hSa]
    have h2 : (Value.type "generator" == Value.type "list") = false := by decide
    have h3 : (Value.type "generator" == Value.type "tuple") = false := by decide
    simp only [h1, h2, h3, Bool.or_false, Bool.false_eq_true, if_false]
    refine wpAny_bind (wpAny_pyIter_gen (s := { s with heap := _ }) (gty k1) ?_)
    refine wpAny_bind (wpAny_holding ?_)
    unfold Builtin.List.listLengthHint
    refine wpAny_bind (wpAny_specialOf (Heap.IsGen.typeIs (s := { s with heap := _ }) (gty k1)) F.gen_no_len ?_)
    show wpAny _ A.in1.in1 (specialOf (Value.ref a) (Str.ofString "__length_hint__") >>= _) _ _ _
    refine wpAny_bind (wpAny_specialOf (Heap.IsGen.typeIs (s := { s with heap := _ }) (gty k1)) F.gen_no_hint ?_)
    refine wpAny_pure ?_
    show wpAny _ A.in1.in1 (rule "list.extend.makes-room" >>= fun _ => Builtin.List.listTouch (.ref s.heap.objs.size) >>= fun _ =>
      again (.builtin "list.extend.loop" ⟨[.ref s.heap.objs.size, .ref a, .ref s.heap.objs.size], []⟩)) _ _ _
    refine wpAny_bind (wpAny_rule ?_)
    refine wpAny_bind ?_
    show wpAny _ A.in1.in1 (updateSeq s.heap.objs.size (·.push .none) >>= fun _ => updateSeq s.heap.objs.size (·.pop)) _ _ _
    refine wpAny_bind (wpAny_updateSeq hS rfl ?_)
    have hS3 := Heap.get?_update_self (Obj.mapSeq (·.push Value.none)) hS rfl
    refine wpAny_updateSeq (hz := by seq_fits) hS3 rfl ?_
    have hS4 := Heap.get?_update_self (Obj.mapSeq (·.pop)) hS3 rfl
    have k4 := up _ (Obj.mapSeq (·.pop)) (up _ (Obj.mapSeq (·.push Value.none)) k1)
    refine wpAny_pure ⟨plainId_quiet F.plain_extend_loop _, ?_⟩
    refine drain (P := P) (w := w) (outer := outer) (H := H) (sc := sc) (ex := ex) (Q := Q) (EX := EX) (A := A.in1) (g := g) hr.hd (by have := hr.dp; show A.depth < _; omega) hSa hSc
      (fun s' acc c H' ys q1 q2 q3 q4 q5 q6 q7 q8 q9 => ?_) (fun e s' hc => hexc e s' g hc)
      sizeLine _ (gty k4) (hl.keeps k4) ⟨_, hgs, rfl, ?_⟩
    · show wpAny _ A.in1 (load s.heap.objs.size >>= _) _ _ s'
      refine wpAny_bind (wpAny_load q1 ?_)
      exact wpAny_pure (hQ2 _ s' acc c H' ys (Nat.le_refl _) q1 q2 q3 q4 q5 q6 q7 q8 q9)
    · refine wake _ _ _ ⟨hr.hd, ?_, ?_⟩ hfr (Nat.le_refl _) k4 ⟨_, hS4⟩ hos (allBare_setGen (s := { s with heap := _ }) hb rfl)
      · have := hr.dp
        show A.depth + 3 * k + 5 < _
        omega
      · have := hr.un
        show A.units + 1 + 1 + 1 + 16 * k + 200 < _
        omega
  have col' := fun {Q2 : List Value → Shared → Prop} => col Q2
  wp_walk using wpAny_typeOf hTI, col'
  intro S s' acc c H' ys q0 q1 q2 q3 q4 q5 q6 q7 q8 q9
  show wpAny _ _ (Builtin.Tuple.tupleExact acc.toList.toArray >>= fun v => ret v) _ _ _
  unfold Builtin.Tuple.tupleExact
  have sz : acc.toList.length ≤ sizeLine := by rw [← q2.length]; exact q3
  refine wpAny_bind (wpAny_newObj_type ?_ (by show acc.toList.toArray.size ≤ sizeLine; simpa using sz))
  refine wpAny_pure ?_
  have e : acc.toList.toArray = acc := by simp
  rw [e]
  exact hQ S s' acc c H' ys q0 q1 q2 q3 q4 q5 q6 q7 q8 q9
theorem call_tuple_newG {P : Program} {w : World} {outer : List Env} {H : Hp} {sc s : Shared} {ex : List Addr} {Q : List V → Hp → Prop} {EX : XK} {A : Around} {k : Nat} {u : Value} {Q' : Value → Shared → Prop} {E : Value → Shared → Prop}
    (hr : Room (k + 4) A) (hfr : A.frames = some outer) (h : GMade P w k outer H sc ex Q EX u s)
    (hQ : ∀ (S : Addr) (s' : Shared) (acc : Array Value) (c : Nat) (H' : Hp) (ys : List V), s.heap.objs.size ≤ S → s'.heap.get? S = some (lstObj acc c) → Vals ys acc.toList → ys.length ≤ sizeLine → s'.os = sc.os → AllBare s'.gens → Un (frs outer) ex H H' sc.heap s'.heap → HOk P w H' s'.heap → H' S = none → Q ys H' → Q' (.ref s'.heap.objs.size) { s' with heap := s'.heap.push { cls := .type "tuple", data := .seq acc } })
    (hexc : ∀ (e : Value) (s' : Shared) (g : Nat), CX P w outer H sc EX e s' → NotStop (model P w) e s'.heap ∧ E e (s'.setGen g .finished)) :
    wpAny (model P w) A (call (.type "tuple") [u]) Q' E s := by
  have hr1 : Room (k + 3) A.in1 := ⟨hr.hd, by have := hr.dp; show A.depth + 3 * (k + 3) + 5 < _; omega, by have := hr.un; show A.units + 1 + 16 * (k + 3) + 200 < _; omega⟩
  refine callType_codes (Q₁ := fun obj s₁ => s₁.TypeIs obj "tuple" ∧ Q' obj s₁) F.called_tuple (F.typeCall_tuple_1 _) F.entry_object_init
    (code_tuple_newG hr1 hfr h (fun S s' acc c H' ys q0 q1 q2 q3 q4 q5 q6 q7 q8 q9 => ⟨⟨_, Heap.get?_push_size _ rfl, rfl⟩, hQ S s' acc c H' ys q0 q1 q2 q3 q4 q5 q6 q7 q8 q9⟩) hexc) fun obj s₁ h₁ => ?_
  exact ⟨h₁.1, F.args_object_init_2 obj _, object_init_meets F.called_tuple.init.lookup F.called_tuple.made (by decide) P w A.in1 _ s₁ ⟨h₁.1, rfl, h₁.2⟩⟩
def tTupG (tg : TGen) : TE := fun σ H Q => tg σ H fun out H2 => ∀ H3 p, Same H2 H3 → H3 p = none → Q (.ref p) (upd H3 p (.tup out))
section
variable {X : Cx} {k : Nat} {p pos : Pos}
/-- tuple(g) -/
theorem pe_tupG {e : Expr} {tg : TGen} {E : XK} {nm : Str} (h : PGen X k e tg E) (hx : Passes (CX X.prog X.w) X E) (hns : NoStop X.K E) (hr : Room (k + 4) X.A) (hg : Gl X nm) (hmg : X.mg nm = none) (hv : bootBuiltins nm = some (.type "tuple")) (hnm : nm ≠ "__name__" := by decide) (hdb : (nm == ("__debug__" : Str)) = false := by decide)
    (he : starEach [e] X.env = (false, eval e X.env) :: starEach [] X.env := by rfl) : PE X (.Call (.Name nm p) [e] [] pos) (tTupG tg) := by
  refine ⟨fun pins s σ H Q I hq => ?_⟩
  refine wpAny_Call_Name_kw (ld_blt I hg hmg hv ?_ hnm hdb)
  refine PyProof.Rows.callWith_type1 ?_ he rfl
  rw [he]
  show wpAny _ _ (spliced ((false, eval e X.env) :: backTo pos (starEach [] X.env))) _ _ s
  refine Calls.spliced_cons (thn (h.run pins s σ H _ I hq) fun u s1 ⟨H1, sc, ex, I1, hex, hG⟩ => ?_)
  refine Calls.spliced_nil ?_
  have hsz : sc.heap.objs.size ≤ s1.heap.objs.size := by
    obtain ⟨a, g, c, _, h1, h2, _⟩ := hG
    exact Nat.le_trans h1 (Nat.le_of_lt h2)
  refine call_tuple_newG hr I1.ok.frames hG (fun S s' acc c H' ys q0 q1 q2 hl q3 q4 q5 q6 q7 q8 => ?_) fun e s' g hc => ?_
  · have I2 := I1.drained (Nat.le_trans hsz q0) hl q1 q2 hex q3 q4 q5 q6 q7
    have I3 := I2.laid (t' := s'.toks) (o := .tup ys) (a := s'.heap.objs.size) (h' := s'.heap.push { cls := .type "tuple", data := .seq acc }) (fun b ob q => Heap.get?_push_of_some _ q) (Nat.le_refl _) ⟨hl, _, q2, IsTup.new _ _⟩
    exact ⟨V.ref s'.heap.objs.size, _, I3, rfl, q8 _ _ ((Same.refl H').put q7) (I2.hok.fresh (Nat.le_refl _))⟩
  · have kin : X.K.In s'.heap := by
      obtain ⟨a, B, H', cls, d, _, fl, _, ub, _⟩ := id hc
      refine I1.ok.mod.kin.keeps fun b o eb => fl.1 b o (ub.keep b o (I1.bs b o eb).1 (I1.bs b o eb).2 fun hm => ?_)
      rcases List.mem_cons.mp (I1.stkSub b hm) with z | z
      · have h1 := Heap.lt_size eb
        have h2 := Nat.le_trans I1.ok.bsz I1.ok.above
        rw [z] at h1
        exact absurd (Nat.lt_of_lt_of_le h1 h2) (Nat.lt_irrefl _)
      · exact I1.ok.nofr eb z
    refine ⟨notStop_of hns kin hc, hx pins σ H1 sc e _ I1 ?_⟩
    · obtain ⟨a, B, H', cls, d, z1, fl, z2, ub, z3, z4, z5, z6⟩ := hc
      exact ⟨a, B, H', cls, d, z1, fl, z2, ub, z3, z4, allBare_setGen z5 rfl, z6⟩
end
end K2
end
section
set_option Elab.async false
set_option maxRecDepth 100000
set_option linter.all false
/-! Function's __init__ and made -/
namespace K2
open PySem L2
abbrev sFI : Stmt := inClass (top 43) 0
abbrev sFM : Stmt := inClass (top 43) 1
abbrev nFI : List Str := ["self", "name", "block", "callbacks"]
abbrev nFM : List Str := ["cls", "name", "callbacks", "block"]
def ffl (nm cb bl st : V) : List (Str × V) := [("name", nm), ("callbacks", cb), ("block", bl), ("statements", st)]
structure FnT (K : PySem.W.Frag) (mg : Str → Option Value) (C : Addr) : Prop where
  cl : Cls K C
  f1 : NoAttr K C "name"
  f2 : NoAttr K C "callbacks"
  f3 : NoAttr K C "block"
  f4 : NoAttr K C "statements"
  mgC : mg "Function" = some (.ref C)
theorem fne : ¬ (("name" : Str) = "callbacks") ∧ ¬ (("name" : Str) = "block") ∧ ¬ (("name" : Str) = "statements") ∧ ¬ (("callbacks" : Str) = "block") ∧ ¬ (("callbacks" : Str) = "statements") ∧ ¬ (("block" : Str) = "statements") := by decide +kernel
theorem fput (nm cb bl st : V) : putF "statements" st (putF "block" bl (putF "callbacks" cb (putF "name" nm []))) = ffl nm cb bl st := by
  obtain ⟨a1, a2, a3, a4, a5, a6⟩ := fne
  unfold ffl
  simp only [putF, a1, a2, a3, a4, a5, a6, if_false]
theorem ff_nm (nm cb bl st : V) : (ffl nm cb bl st).lookup ("name" : Str) = some nm := by
  rw [← fput]
  obtain ⟨a1, a2, a3, a4, a5, a6⟩ := fne
  simp only [lookup_putF, if_neg a1, if_neg a2, if_neg a3, if_true]
theorem ff_cb (nm cb bl st : V) : (ffl nm cb bl st).lookup ("callbacks" : Str) = some cb := by
  rw [← fput]
  obtain ⟨a1, a2, a3, a4, a5, a6⟩ := fne
  simp only [lookup_putF, if_neg a4, if_neg a5, if_true]
theorem ff_bl (nm cb bl st : V) : (ffl nm cb bl st).lookup ("block" : Str) = some bl := by
  rw [← fput]
  obtain ⟨a1, a2, a3, a4, a5, a6⟩ := fne
  simp only [lookup_putF, if_neg a6, if_true]
theorem ff_st (nm cb bl st : V) : (ffl nm cb bl st).lookup ("statements" : Str) = some st := by
  rw [← fput]
  simp only [lookup_putF, if_true]
/-- what a Function's making comes to: a fault with its place, or the statements in reading order -/
inductive FOut (K : PySem.W.Frag) (H : Hp) (v : V) (cs : List V) (bl : V) : Option (Str × V) → List V → Prop where
  | head {q : Str × V} (h : Hd K H v cs bl (some q)) : FOut K H v cs bl (some q) []
  | block {b : Addr} {xs : List V} {r : Str} {i : Nat} (h : Hd K H v cs bl none) (e : bl = .ref b) (hb : H b = some (.tup xs)) (ne : xs ≠ []) (l : xs.length ≤ 100000) (c : Chk H 0 (xs.map fun x => ((x, 1, false, [], 0) : Plc)) (some (r, i))) : FOut K H v cs bl (some (r, .int (i : Nat))) []
  | ok {b : Addr} {xs ys : List V} (h : Hd K H v cs bl none) (e : bl = .ref b) (hb : H b = some (.tup xs)) (ne : xs ≠ []) (l : xs.length ≤ 100000) (c : Chk H 0 (xs.map fun x => ((x, 1, false, [], 0) : Plc)) none) (O : Ord H xs ys) (ly : ys.length ≤ 100000) : FOut K H v cs bl none ys
theorem Hd.keep {K : PySem.W.Frag} {H H' : Hp} {v bl : V} {cs : List V} {o : Option (Str × V)} (h : Hd K H v cs bl o) (s : Same H H') : Hd K H' v cs bl o := by
  cases h with
  | name h => exact .name (h.same s)
  | two a b c d => exact .two a b c d
  | word a b c d h => exact .word a b c d (h.same s)
  | same a b c d e f => exact .same a b c d e f
  | block a b c d h => exact .block a b c d (h.same s)
  | ok a b c d h => exact .ok a b c d (h.same s)
theorem Chk.same {H H' : Hp} {i : Nat} {ps : List Plc} {o : Option (Str × Nat)} (h : Chk H i ps o) (s : Same H H') : Chk H' i ps o := by
  induction h with
  | done => exact .done
  | many => exact .many
  | bad hi f => exact .bad hi (f.same s fun r => r.same s)
  | step hi f e ha S B ln hn c1 b1 f1 d1 nx ih => exact .step hi (f.same s fun r => r.same s) e (s _ _ ha) (S.same s) (B.same s) ln (fun j q n a b => (hn j q n a b).same s) c1 b1 f1 d1 ih
theorem FOut.same {K : PySem.W.Frag} {H H' : Hp} {v bl : V} {cs : List V} {o : Option (Str × V)} {ys : List V} (h : FOut K H v cs bl o ys) (s : Same H H') : FOut K H' v cs bl o ys := by
  cases h with
  | head h => exact .head (h.keep s)
  | block h e hb ne l c => exact .block (h.keep s) e (s _ _ hb) ne l (c.same s)
  | ok h e hb ne l c O ly => exact .ok (h.keep s) e (s _ _ hb) ne l (c.same s) (O.same s) ly
abbrev SameT (H H' : Hp) : Prop := ∀ a zs, H a = some (.tup zs) → H' a = some (.tup zs)
theorem Stm.sameT {H H' : Hp} {v : V} {ps : List (V × V)} (h : Stm H v ps) (s : SameT H H') : Stm H' v ps := by
  cases h with
  | leaf h n1 n2 n3 => exact .leaf (s _ _ h) n1 n2 n3
  | many h n3 l => exact .many (s _ _ h) n3 l
  | wth h => exact .wth (s _ _ h)
  | tr h hc hk lk ho hl =>
    exact .tr (s _ _ h) (s _ _ hc) (fun k q => by obtain ⟨n, m, e⟩ := hk k q; exact ⟨n, m, s _ _ e⟩) lk (s _ _ ho) (s _ _ hl)
theorem Blocks.sameT {H H' : Hp} {ps : List (V × V)} {bss : List (List V)} (h : Blocks H ps bss) (s : SameT H H') : Blocks H' ps bss := ⟨h.1, fun i p xs a b => by
  obtain ⟨q, e, g⟩ := h.2 i p xs a b
  exact ⟨q, e, s _ _ g⟩⟩
theorem Ord.sameT {H H' : Hp} {xs ys : List V} (h : Ord H xs ys) (s : SameT H H') : Ord H' xs ys := by
  induction h with
  | nil => exact .nil
  | cons S B o ih => exact .cons (S.sameT s) (B.sameT s) ih
def spFI (K : PySem.W.Frag) (C CN : Addr) : Sp := fun vs H Q E => ∃ (p dx ct : Addr) (v bl : V) (cs : List V) (o : Option (Str × V)) (ys : List V), vs = [.ref p, v, bl, .ref ct] ∧ H p = some (.ins C dx []) ∧ H ct = some (.tup cs) ∧ cs.length ≤ 1000 ∧ FOut K H v cs bl o ys ∧
  (o = none → ∀ (st : Addr) (H' : Hp), (∀ b o, H b = some o → b ≠ p → H' b = some o) → H' p = some (.ins C dx (ffl v (.ref ct) bl (.ref st))) → H' st = some (.tup ys) → Q .non H') ∧
  ∀ r pl, o = some (r, pl) → ∀ (dd : Addr) (H' : Hp), Same H H' → H' dd = some (.xd (nfF r pl)) → E (.ref CN) (some dd) H'
theorem fi_bind (kV doc pm : Value) (an : Option Addr) (cdv ct : Value) : ∀ (us rest : List Value) (b : Value), us.length = ["self", "name"].length → bindArgs (PySem.W.fnOf "__init__" "Function.__init__" (defArgs sFI) (defBody sFI) (defScope sFI) .none kV doc pm an cdv ct) ⟨us ++ rest, [("block", b)]⟩ =
    (newTuple rest >>= fun t => pure (([("self" : Str), "name"]).zip us ++ [(("block" : Str), b), (("callbacks" : Str), t)]))
  | [a, c], [], b, _ => rfl
  | [a, c], r :: rs, b, _ => rfl
section
variable {P : Program} {w : World} {K : PySem.W.Frag} {mg : Str → Option Value} {base : Heap} {SpC : Addr}
theorem scFI : FnScope nFI ["self", "name", "block", "callbacks"] (defScope sFI) := ⟨rfl, rfl, rfl, by decide +kernel, rfl, by decide +kernel, by decide +kernel⟩
theorem scFM : FnScope nFM ["cls", "name", "callbacks", "block"] (defScope sFM) := ⟨rfl, rfl, rfl, by decide +kernel, rfl, by decide +kernel, by decide +kernel⟩
abbrev spFIR (K : PySem.W.Frag) (C CN : Addr) : V → Sp := fun z vs H Q E => ∃ ws rest, vs = ws ++ rest ∧ ws.length = ["self", "name"].length ∧ rest.length ≤ sizeLine ∧ ∀ p, H p = Option.none → spFI K C CN (ws ++ [z, V.ref p]) (upd H p (.tup rest)) Q E
theorem ok_fi {f C CN fH fB fW : Addr} {fd fdH fdB fdW : FuncData} (F : Fun K "__init__" "Function.__init__" sFI f fd) (T : Bi mg) (Y : FnT K mg C) (CH : Df K mg "_check_head" sCH fH fdH ["name", "callbacks", "block"]) (GCH : FnOk P w K mg base (L2.CX P w) 3 fH fdH ["name", "callbacks", "block"] (spCH K CN))
    (CB : Df K mg "_check_block" sCB fB fdB ["block"]) (GCB : FnOk P w K mg base (L2.CX P w) 8 fB fdB ["block"] (spCB SpC CN)) (WA : Df K mg "walk" sWa fW fdW ["block"]) (GWA : GFn P w K mg base 2 fW fdW ["block"] spWalk) : FnRK P w K mg base (L2.CX P w) 9 f "block" (spFIR K C CN) := by
  obtain ⟨oc, od, kV, doc, pm, an, cdv, ct, osl, rfl, lk, hcd⟩ := F.ex
  refine fn_starK (ps := ["self", "name"]) (pv := "callbacks") (kn := "block") lk hcd scFI StX.cxUp (fi_bind kV doc pm an cdv ct) fun A outer s H vs Q E hr h => ?_
  obtain ⟨p, dx, ct, v, bl, cs, o, ys, rfl, hp, hct, lc, fo, kN, kE⟩ := h
  have hr8 : Room 8 _ := hr
  have hr6 : Room 6 _ := hr.mono (by decide)
  have hr3 : Room 3 _ := hr.mono (by decide)
  have hr2 : Room 2 _ := hr.mono (by decide)
  have lp : ∀ (f : Str) (v : V) (fs : List (Str × V)), (putF f v fs).length ≤ fs.length + 1 := fun f v fs => by
    induction fs with
    | nil => exact Nat.le_refl _
    | cons g r ih =>
      obtain ⟨g, y⟩ := g
      unfold putF
      split
      · simp
      · simp only [List.length_cons]; omega
  refine ⟨_, (pss_cons (ps_expr (pe_call GCH hr3 (by rfl) CH.m CH.F.kp CH.b .nil (passes_call (takes_of rfl rfl rfl rfl) fun _ _ _ _ h => h) (pa_cons (pv 1) (pa_cons (pv 3) (pa_cons (pv 2) pa_nil)))))
      (pss_cons (ps_expr (pe_call GCB hr8 (by rfl) CB.m CB.F.kp CB.b .nil (passes_call (takes_of rfl rfl rfl rfl) fun _ _ _ _ h => h) (pa_cons (pv 2) pa_nil)))
      (pss_cons (ps_fld (pv 0) (pv 1) rfl)
      (pss_cons (ps_fld (pv 0) (pv 3) rfl)
      (pss_cons (ps_fld (pv 0) (pv 2) rfl)
      (pss_one (ps_fld (pv 0) (pe_tupG (pgen_call (E := fun _ _ _ => False) GWA hr2 (by rfl) WA.m WA.F.kp WA.b .nil (pa_cons (pv 2) pa_nil)) (passes_call (takes_of rfl rfl rfl rfl) fun _ _ _ _ h => h.elim) (fun _ _ _ h => h.elim) hr6 (by rfl) T.tuple (by decide +kernel)) rfl))))))), ?_⟩
  cases fo with
  | @head q h =>
    obtain ⟨r, pl⟩ := q
    exact ⟨_, rfl, _, rfl, _, rfl, v, bl, ct, cs, some (r, pl), rfl, hct, lc, h, fun z => (by cases z), fun r' pl' e dd H' s1 e1 => kE r' pl' e dd H' s1 e1⟩
  | @block b xs r i h e hb ne l c =>
    subst e
    refine ⟨_, rfl, _, rfl, _, rfl, v, .ref b, ct, cs, none, rfl, hct, lc, h, fun _ H1 s1 => ?_, fun _ _ z => (by cases z)⟩
    exact ⟨_, rfl, b, xs, some (r, i), rfl, s1 _ _ hb, ne, l, c.same s1, fun z => (by cases z), fun r' i' z dd H' s2 e1 => by cases z; exact kE _ _ rfl dd H' (s1.trans s2) e1⟩
  | @ok b xs ys h e hb ne l c O ly =>
    subst e
    refine ⟨_, rfl, _, rfl, _, rfl, v, .ref b, ct, cs, none, rfl, hct, lc, h, fun _ H1 s1 => ?_, fun _ _ z => (by cases z)⟩
    refine ⟨_, rfl, b, xs, none, rfl, s1 _ _ hb, ne, l, c.same s1, fun _ H2 s2 => ?_, fun _ _ z => (by cases z)⟩
    have s12 := s1.trans s2
    have hp2 := s12 _ _ hp
    refine ⟨_, rfl, _, rfl, p, C, dx, _, rfl, hp2, Y.cl, Y.f1, (by show 0 < 1000; decide), ?_⟩
    refine ⟨_, rfl, _, rfl, p, C, dx, _, rfl, upd_same, Y.cl, Y.f2, (by show 1 < 1000; decide), ?_⟩
    refine ⟨_, rfl, _, rfl, p, C, dx, _, rfl, upd_same, Y.cl, Y.f3, Nat.lt_of_le_of_lt (lp _ _ _) (by show 1 + 1 < 1000; decide), ?_⟩
    rw [upd_upd, upd_upd]
    have keep : ∀ (u : HO) b o, H b = some o → b ≠ p → (upd H2 p u) b = some o := fun u b o q n => by rw [upd_ne n]; exact s12 _ _ q
    have keepT : ∀ (u : HO), SameT H (upd H2 p u) := fun u a zs q => keep u a _ q fun e => by rw [e, hp] at q; cases q
    refine ⟨_, rfl, b, xs, ys, rfl, keepT _ _ _ hb, ne, O.sameT (keepT _), ly, fun H3 s3 H4 st s4 hst => ?_⟩
    have s34 := s3.trans s4
    have hp5 := s34 _ _ (upd_same (H := H2) (a := p))
    have nst : st ≠ p := fun e => by rw [← e, hst] at hp5; cases hp5
    refine ⟨_, rfl, p, C, dx, _, rfl, by rw [upd_ne nst.symm]; exact hp5, Y.cl, Y.f4, Nat.lt_of_le_of_lt (Nat.le_trans (lp _ _ _) (Nat.succ_le_succ (Nat.le_trans (lp _ _ _) (Nat.succ_le_succ (lp _ _ _))))) (by show 1 + 1 + 1 < 1000; decide), ?_⟩
    rw [fput]
    refine kN rfl st _ (fun b o q n => ?_) upd_same (by rw [upd_ne nst, upd_same])
    have := s34 _ _ (keep _ b o q n)
    rw [upd_ne n, upd_ne (ne_of_none this hst)]
    exact this
end
end K2
end
section
set_option Elab.async false
set_option maxRecDepth 100000
set_option linter.all false
/-! _law_heard for an error of NoFunction -/
namespace K2
open PySem L2 LamX
/-- D is the class NoFunction -/
structure OfFun (K : PySem.W.Frag) (cl : Str → Addr) (D : Addr) : Prop where
  ex : PySem.W.exmOne K (.ref D) (.ref (cl "LeaveError")) = some true
  isC : ExcC K D
  xf : XfC K D
  fw : PySem.W.findIn K (.ref D) "reason" = some none
  fm : PySem.W.findIn K (.ref D) "place" = some none
  k1 : PySem.W.kitOne K (.ref D) (.ref (cl "NoClass")) = some false
  k2 : PySem.W.kitOne K (.ref D) (.ref (cl "NoFunction")) = some true
  k3 : PySem.W.kitOne K (.ref D) (.ref (cl "NoProgram")) = some false
  k4 : PySem.W.kitOne K (.ref D) (.ref (cl "NoName")) = some false
  k5 : PySem.W.kitOne K (.ref D) (.ref (cl "NoCase")) = some false
  k6 : PySem.W.kitOne K (.ref D) (.ref (cl "TooMany")) = some false
  kt : PySem.W.kitAny K (.ref D) ([cl "NoText", cl "NoAct", cl "NoRecord", cl "Barred", cl "Unlike", cl "NoRow"].map Value.ref) = some false
  kv : PySem.W.kitOne K (.ref D) (.type "ValueError") = some true
def HMF (K : PySem.W.Frag) (cl : Str → Addr) (Q : VK) : XK := fun cls d H' => ∃ (D dd : Addr) (fs : List (Str × V)) (v1 v2 : V), cls = .ref D ∧ d = some dd ∧ H' dd = some (.xd fs) ∧ OfFun K cl D ∧ fs.lookup ("reason" : Str) = some v1 ∧ fs.lookup ("place" : Str) = some v2 ∧
  ∀ (t : Addr) (H'' : Hp), Same H' H'' → H'' t = some (.tup [.str "FUNCTION", v1, v2]) → Q (.ref t) H''
def TThF (K : PySem.W.Frag) (cl : Str → Addr) : (XK → Hp → VK → Prop) → Hp → VK → Prop := fun tl H Q => tl (HMF K cl Q) H fun v H' => [v].length ≤ sizeLine ∧ ∀ p, H' p = none → Q (.ref p) (upd H' p (.lst [v]))
theorem heard_givesF {X : Cx} {g : Addr} {cdg : Value} {q : Str} {cl : Str → Addr} (T : Bi X.mg) (tVE : X.mg "ValueError" = none) (hcl : ∀ x ∈ errs, X.mg x = some (.ref (cl x))) :
    GivesTo X nHeard "_law_heard" (defScope sHeard) g cdg (defBody sHeard) "_law_ask" q (TThF X.K cl) := by
  intro f c' s H Q tl act hc h
  have hge : Gl (cxOf C8.CX0 X.prog X.w X.K X.mg X.base nHeard "_law_heard" (defScope sHeard) g cdg X.A X.stack s H C8.E0).nox "LeaveError" := by rfl
  refine ⟨_, (pss_cons (ps_set (i := 1) scHeard.nd rfl (Or.inl rfl) pe_non)
    (pss_cons (ps_try_asT (X := (cxOf C8.CX0 X.prog X.w X.K X.mg X.base nHeard "_law_heard" (defScope sHeard) g cdg X.A X.stack s H C8.E0).nox) (i := 2) (c := .ref (cl "LeaveError"))
      (tb := fun W D σ H => ∃ Ech : XK, (∀ cls d σ' H', Ech cls d H' → W cls d σ' H') ∧ σ[0]? = some (some (.ref f)) ∧ H c' = some (CodeO c' q) ∧ tl Ech H fun v H1 => [v].length ≤ sizeLine ∧ ∀ p, H1 p = none → D.rt (.ref p) (upd H1 p (.lst [v])))
      rfl rfl scHeard.nd rfl (by rfl) ⟨hge, by decide +kernel, .inl (hcl "LeaveError" (by decide +kernel))⟩ LamX.takes0 (fun W pn xe tk _ => ?_) (fun a cls d pn => pss_one (ps_set (i := 1) scHeard.nd rfl (Or.inl rfl) (pv 2))))
    (pss_cons (ps_set (i := 3) scHeard.nd rfl (Or.inl rfl) (pe_lst (pa_cons (pe_callB call_isT (by rfl) T.isinstance (by decide +kernel) (pa_cons (pv 1) (pa_cons (pe_glob (v := .ref (cl "NoClass")) (by rfl) (hcl "NoClass" (by decide +kernel)) rfl) pa_nil))) (pa_cons (pe_callB call_isT (by rfl) T.isinstance (by decide +kernel) (pa_cons (pv 1) (pa_cons (pe_glob (v := .ref (cl "NoFunction")) (by rfl) (hcl "NoFunction" (by decide +kernel)) rfl) pa_nil))) (pa_cons (pe_callB call_isT (by rfl) T.isinstance (by decide +kernel) (pa_cons (pv 1) (pa_cons (pe_glob (v := .ref (cl "NoProgram")) (by rfl) (hcl "NoProgram" (by decide +kernel)) rfl) pa_nil))) pa_nil)))))
    (pss_cons (ps_set (i := 3) scHeard.nd rfl (Or.inl rfl) (pe_op op_cat (pv 3) (pe_lst (pa_cons (pe_callB call_isT (by rfl) T.isinstance (by decide +kernel) (pa_cons (pv 1) (pa_cons (pe_glob (v := .ref (cl "NoName")) (by rfl) (hcl "NoName" (by decide +kernel)) rfl) pa_nil))) (pa_cons (pe_callB call_isT (by rfl) T.isinstance (by decide +kernel) (pa_cons (pv 1) (pa_cons (pe_glob (v := .ref (cl "NoCase")) (by rfl) (hcl "NoCase" (by decide +kernel)) rfl) pa_nil))) (pa_cons (pe_callB call_isT (by rfl) T.isinstance (by decide +kernel) (pa_cons (pv 1) (pa_cons (pe_glob (v := .ref (cl "TooMany")) (by rfl) (hcl "TooMany" (by decide +kernel)) rfl) pa_nil))) pa_nil))))))
    (pss_cons (ps_expr (pe_bm PySem.F.plainAttrs_list PySem.F.slot_list_append PySem.F.type_list_append mt_append (pv 3) (pa_cons (pe_callB call_isTT (by rfl) T.isinstance (by decide +kernel) (pa_cons (pv 1) (pa_cons (pe_tup (pa_cons (pe_glob (v := .ref (cl "NoText")) (by rfl) (hcl "NoText" (by decide +kernel)) rfl) (pa_cons (pe_glob (v := .ref (cl "NoAct")) (by rfl) (hcl "NoAct" (by decide +kernel)) rfl) (pa_cons (pe_glob (v := .ref (cl "NoRecord")) (by rfl) (hcl "NoRecord" (by decide +kernel)) rfl) (pa_cons (pe_glob (v := .ref (cl "Barred")) (by rfl) (hcl "Barred" (by decide +kernel)) rfl) (pa_cons (pe_glob (v := .ref (cl "Unlike")) (by rfl) (hcl "Unlike" (by decide +kernel)) rfl) (pa_cons (pe_glob (v := .ref (cl "NoRow")) (by rfl) (hcl "NoRow" (by decide +kernel)) rfl) pa_nil))))))) pa_nil))) pa_nil)))
    (pss_cons (ps_if (PW.pt (pw_or (pt_cmpR op_ne (pe_bm PySem.F.plainAttrs_list PySem.F.slot_list_count PySem.F.type_list_count mt_lcountB (pv 3) (pa_cons pe_bl pa_nil)) pe_int (nomark _))
        (pw_or (pt_val (pe_ix ix_list (pv 3) pe_int (fun _ _ => rfl))) (pw_or1 (pt_not (pt_val (pe_callB call_isT (by rfl) T.isinstance (by decide +kernel) (pa_cons (pv 1) (pa_cons (pe_bltn (v := .ty "ValueError") (by rfl) tVE (by decide +kernel) rfl) pa_nil))))))))) (pss_one ps_dead) pss_nil)
    (pss_cons (ps_if (pt_cmpR op_in_seq pe_bl (pe_slice sl_list (pv 3) po_none (po_some pe_int)) rfl)
      (pss_one (ps_ret (pe_tup (pa_cons (pe_ix ix_list (pe_lst (pa_cons pe_str (pa_cons pe_str (pa_cons pe_str pa_nil)))) (pe_bm PySem.F.plainAttrs_list PySem.F.slot_list_index PySem.F.type_list_index mt_index (pv 3) (pa_cons pe_bl pa_nil)) (fun _ _ => rfl)) (pa_cons (pe_xt (pv 1)) (pa_cons (pe_xt (pv 1)) pa_nil)))))) pss_nil)
    (pss_cons ps_dead (pss_one ps_dead))))))))), ?_⟩
  · refine ⟨fun pins s' σ H' D I h' => ?_⟩
    obtain ⟨Ech, hW, h1, h2, h3⟩ := h'
    refine (pss_one (ps_ret (pe_lst (pa_cons (act W pn xe Ech _ _ tk hW) pa_nil)))).run pins s' σ H' D I ?_
    exact ⟨h1, h2, h3⟩
  · refine ⟨HMF X.K cl Q, fun cls d σ' H' hm hlen => ?_, rfl, hc, h⟩
    obtain ⟨D, dd, fs, v1, v2, rfl, rfl, hx, M, l1, l2, k⟩ := hm
    refine ⟨true, M.ex, fun _ a na => ?_, fun z => nomatch z⟩
    obtain ⟨s0, s1, s2, s3, rfl⟩ : ∃ s0 s1 s2 s3, σ' = [s0, s1, s2, s3] := by
      match σ', hlen with
      | [s0, s1, s2, s3], _ => exact ⟨s0, s1, s2, s3, rfl⟩
    have sE : Same H' (upd H' a (ExT (.ref D) (some dd) a)) := (Same.refl H').put na
    have ha : ∀ {H1 : Hp}, Same (upd H' a (ExT (.ref D) (some dd) a)) H1 → H1 a = some (ExT (.ref D) (some dd) a) := fun s => s _ _ upd_same
    have hd : ∀ {H1 : Hp}, Same (upd H' a (ExT (.ref D) (some dd) a)) H1 → H1 dd = some (.xd fs) := fun s => s _ _ (sE _ _ hx)
    generalize hHe : upd H' a (ExT (.ref D) (some dd) a) = He at *
    have r0 : Same He He := Same.refl He
    refine ⟨_, rfl, _, rfl, a, D, dd, fs, _, _, _, rfl, ha r0, hd r0, M.isC, fun _ r => r, M.k1, _, rfl, a, D, dd, fs, _, _, _, rfl, ha r0, hd r0, M.isC, fun _ r => r, M.k2, _, rfl, a, D, dd, fs, _, _, _, rfl, ha r0, hd r0, M.isC, fun _ r => r, M.k3, (by show 3 ≤ sizeLine; decide), fun p1 hp1 => ?_⟩
    have r1 := r0.put (o := .lst [.bl false, .bl true, .bl false]) hp1
    refine ⟨_, rfl, _, rfl, a, D, dd, fs, _, _, _, rfl, ha r1, hd r1, M.isC, fun _ r => r, M.k4, _, rfl, a, D, dd, fs, _, _, _, rfl, ha r1, hd r1, M.isC, fun _ r => r, M.k5, _, rfl, a, D, dd, fs, _, _, _, rfl, ha r1, hd r1, M.isC, fun _ r => r, M.k6, (by show 3 ≤ sizeLine; decide), fun p2 hp2 => ?_⟩
    have r2 := r1.put (o := .lst [.bl false, .bl false, .bl false]) (r1.free hp2)
    refine ⟨p1, p2, _, _, rfl, rfl, by rw [upd_ne (ne_of_none upd_same hp2), upd_same], upd_same, (by show 6 ≤ sizeLine; decide), fun p3 hp3 => ?_⟩
    have r3 := r2.put (o := .lst ([.bl false, .bl true, .bl false] ++ [.bl false, .bl false, .bl false])) (r2.free hp3)
    refine ⟨_, rfl, .inl ⟨rfl, _, SqL.of upd_same⟩, ?_⟩
    generalize hH3 : upd (upd (upd He p1 (.lst [.bl false, .bl true, .bl false])) p2 (.lst [.bl false, .bl false, .bl false])) p3 (.lst ([.bl false, .bl true, .bl false] ++ [.bl false, .bl false, .bl false])) = H3 at *
    have e3 : H3 p3 = some (.lst [.bl false, .bl true, .bl false, .bl false, .bl false, .bl false]) := by rw [← hH3, upd_same]; rfl
    refine ⟨_, rfl, (by show 6 ≤ sizeLine; decide), fun t ht => ?_⟩
    have r4 := r3.put (o := .tup [.ref (cl "NoText"), .ref (cl "NoAct"), .ref (cl "NoRecord"), .ref (cl "Barred"), .ref (cl "Unlike"), .ref (cl "NoRow")]) (r3.free ht)
    refine ⟨a, D, dd, t, fs, _, _, rfl, ha r4, hd r4, M.isC, upd_same, M.kt, p3, _, _, rfl, rfl, by rw [upd_ne (ne_of_none e3 ht)]; exact e3, (by show 6 < sizeLine; decide), ?_⟩
    have r5 : Same He (upd (upd H3 t (.tup [.ref (cl "NoText"), .ref (cl "NoAct"), .ref (cl "NoRecord"), .ref (cl "Barred"), .ref (cl "Unlike"), .ref (cl "NoRow")])) p3 (.lst ([.bl false, .bl true, .bl false, .bl false, .bl false, .bl false] ++ [.bl false]))) := fun b o e => by
      have n3 : b ≠ p3 := ne_of_none e (r2.free hp3)
      rw [upd_ne n3]
      exact r4 b o e
    generalize hH5 : upd (upd H3 t (.tup [.ref (cl "NoText"), .ref (cl "NoAct"), .ref (cl "NoRecord"), .ref (cl "Barred"), .ref (cl "Unlike"), .ref (cl "NoRow")])) p3 (.lst ([.bl false, .bl true, .bl false, .bl false, .bl false, .bl false] ++ [.bl false])) = H5 at *
    have e5 : H5 p3 = some (.lst [.bl false, .bl true, .bl false, .bl false, .bl false, .bl false, .bl false]) := by rw [← hH5, upd_same]; rfl
    refine ⟨_, rfl, .inl ⟨rfl, _, SqL.of e5⟩, p3, _, _, rfl, rfl, SqL.of e5, rfl, rfl, rfl, _, rfl, ite2 (fun z => absurd z (by decide)) fun _ => ?_⟩
    refine ⟨_, rfl, p3, _, 6, _, rfl, rfl, SqL.of e5, rfl, _, rfl, ite2 (fun z => absurd z (by decide)) fun _ => ?_⟩
    refine ⟨_, rfl, a, D, dd, fs, _, _, _, rfl, ha r5, hd r5, M.isC, fun _ r => r, M.kv, _, rfl, ite2 (fun z => absurd z (by decide)) fun _ => ?_⟩
    have ec : cutV [.bl false, .bl true, .bl false, .bl false, .bl false, .bl false, .bl false] none (some 3) = [.bl false, .bl true, .bl false] := by rfl
    refine ⟨_, rfl, 3, rfl, p3, _, rfl, SqL.of e5, fun p4 hp4 => ?_⟩
    rw [ec]
    have r6 := r5.put (o := .lst [.bl false, .bl true, .bl false]) (r5.free hp4)
    have e6 : (upd H5 p4 (.lst [.bl false, .bl true, .bl false])) p3 = some (.lst [.bl false, .bl true, .bl false, .bl false, .bl false, .bl false, .bl false]) := by rw [upd_ne (ne_of_none e5 hp4)]; exact e5
    refine ⟨p4, _, rfl, .inl (SqL.of upd_same), rfl, rfl, _, rfl, ite2 (fun _ => ?_) fun z => absurd rfl z⟩
    refine ⟨(by show 3 ≤ sizeLine; decide), fun p5 hp5 => ?_⟩
    have r7 := r6.put (o := .lst [.str "CLASS", .str "FUNCTION", .str "PROGRAM"]) (r6.free hp5)
    have e7 : (upd (upd H5 p4 (.lst [.bl false, .bl true, .bl false])) p5 (.lst [.str "CLASS", .str "FUNCTION", .str "PROGRAM"])) p3 = some (.lst [.bl false, .bl true, .bl false, .bl false, .bl false, .bl false, .bl false]) := by rw [upd_ne (ne_of_none e6 hp5)]; exact e6
    refine ⟨_, rfl, .inl ⟨rfl, _, SqL.of e7⟩, p3, _, _, 1, _, rfl, rfl, SqL.of e7, rfl, rfl, rfl, rfl, ?idx, p5, _, _, _, rfl, rfl, SqL.of upd_same, atI_nat (j := 1) rfl, ?_⟩
    case idx =>
      intro m z h hz
      obtain rfl : m = 0 := by omega
      cases hz
      rfl
    refine ⟨_, rfl, a, D, dd, fs, v1, rfl, ha r7, hd r7, M.xf, M.fw, l1, _, rfl, a, D, dd, fs, v2, rfl, ha r7, hd r7, M.xf, M.fm, l2, (by show 3 ≤ sizeLine; decide), fun t2 ht2 => ?_⟩
    exact k t2 _ (sE.trans (r7.put (r7.free ht2))) upd_same
end K2
end
section
set_option Elab.async false
set_option maxRecDepth 100000
set_option linter.all false
/-! what the law says is due -/
namespace K2
open PySem L2
abbrev sDu : Stmt := top 58
abbrev nDu : List Str := ["_law_word", "_law_calls", "_law_body", "_law_k", "_law_one", "_law_more"]
def DuF (H : Hp) (o : Option (Str × V)) (dv : V) : Prop := (o = none ∧ dv = .non) ∨ ∃ r pl t, o = some (r, pl) ∧ dv = .ref t ∧ H t = some (.tup [.str "FUNCTION", .str r, pl])
def spDu (K : PySem.W.Frag) : Sp := fun vs H Q _ => ∃ (v bl : V) (l : Addr) (cs : List V) (o : Option (Str × V)), vs = [v, .ref l, bl] ∧ H l = some (.lst cs) ∧ cs.length ≤ 100 ∧ Hd K H v cs bl o ∧ ∀ dv H', Same H H' → DuF H' o dv → Q dv H'
theorem hd_main {K : PySem.W.Frag} {H : Hp} {v bl : V} {cs : List V} {o : Option (Str × V)} (hd : Hd K H v cs bl o) : (WdV K H v false ∧ o = some (("name" : Str), V.non)) ∨ ∃ (x : Str) (ys : List Str) (tail : List V), v = .str x ∧ cs = ys.map V.str ++ tail ∧ VW x ∧ (∀ y ∈ ys, VW y) ∧ (x :: ys).Nodup ∧ ys.length ≤ 2 ∧
        ((tail = [] ∧ ((BlV K H bl false ∧ o = some (("block" : Str), V.non)) ∨ (BlV K H bl true ∧ o = none))) ∨ ∃ bad more, tail = bad :: more ∧ o = some (("callback" : Str), V.int (ys.length : Nat)) ∧ (ys.length = 2 ∨ (ys.length < 2 ∧ (WdV K H bad false ∨ ∃ y, bad = .str y ∧ VW y ∧ y ∈ x :: ys)))) := by
  cases hd with
  | name h => exact .inl ⟨h, rfl⟩
  | two vx vy nd l => exact .inr ⟨_, _, _, rfl, rfl, vx, vy, nd, by omega, .inr ⟨_, _, rfl, rfl, .inl l⟩⟩
  | word vx vy nd l h => exact .inr ⟨_, _, _, rfl, rfl, vx, vy, nd, by omega, .inr ⟨_, _, rfl, rfl, .inr ⟨l, .inl h⟩⟩⟩
  | same vx vy nd l v h => exact .inr ⟨_, _, _, rfl, rfl, vx, vy, nd, by omega, .inr ⟨_, _, rfl, rfl, .inr ⟨l, .inr ⟨_, rfl, v, h⟩⟩⟩⟩
  | block vx vy nd l h => exact .inr ⟨_, _, [], rfl, by simp, vx, vy, nd, l, .inl ⟨rfl, .inl ⟨h, rfl⟩⟩⟩
  | ok vx vy nd l h => exact .inr ⟨_, _, [], rfl, by simp, vx, vy, nd, l, .inl ⟨rfl, .inr ⟨h, rfl⟩⟩⟩
theorem BlV.tell {K : PySem.W.Frag} {H : Hp} {x : V} {b : Bool} (h : BlV K H x b) : (∃ a xs, x = .ref a ∧ H a = some (.tup xs) ∧ b = !xs.isEmpty) ∨ ∃ t, TyX K H x t ∧ PySem.W.kitOne K t (.type "tuple") = some false ∧ b = false := by
  cases h with
  | tup h => exact .inl ⟨_, _, rfl, h, rfl⟩
  | no ty k => exact .inr ⟨_, ty, k, rfl⟩
section
variable {P : Program} {w : World} {K : PySem.W.Frag} {mg : Str → Option Value} {base : Heap}
theorem scDu : FnScope nDu ["_law_word", "_law_calls", "_law_body"] (defScope sDu) := ⟨rfl, rfl, rfl, by decide +kernel, rfl, by decide +kernel, by decide +kernel⟩
set_option maxHeartbeats 2000000 in
theorem ok_du {f fW : Addr} {fd fdW : FuncData} (F : Fun K "_law_due" "_law_due" sDu f fd) (T : Bi mg) (LW : Df K mg "_law_is_word" sLW fW fdW ["_law_thing"]) (GW : FnOk P w K mg base CX0 2 fW fdW ["_law_thing"] (spLW K)) :
    FnOk P w K mg base CX0 3 f fd ["_law_word", "_law_calls", "_law_body"] (spDu K) := by
  refine F.ok scDu (fun vs H Q E h => ?_) (fun cdv A outer s H vs Q E hr h => ?_)
  · obtain ⟨v, bl, l, cs, o, rfl, _⟩ := h
    rfl
  · obtain ⟨v, bl, l, cs, o, rfl, hl, h100, hd, k⟩ := h
    have hr2 : Room 2 _ := hr
    have hu := hu_of hr
    have hcu := Nat.lt_of_succ_lt hu
    refine ⟨_, (pss_cons (ps_if (pt_not (pt_val (pe_call GW hr2 (by rfl) LW.m LW.F.kp LW.b .nil pass0 (pa_cons (pv 0) pa_nil))))
      (pss_one (ps_ret (pe_tup (pa_cons pe_str (pa_cons pe_str (pa_cons pe_non pa_nil))))))
      pss_nil)
      (pss_cons (ps_for PassesOwn.never rfl (pi_range1 rfl T.range (pa_cons (pe_callB call_len_seq (by rfl) T.len PySem.boot_len (pa_cons (pv 1) pa_nil)) pa_nil)) (pg_name (i := 3) scDu.nd rfl (Or.inl rfl))
      (pss_cons (ps_set (i := 4) scDu.nd rfl (Or.inr rfl) (pe_ix ix_list (pv 1) (pv 3) (fun _ _ => rfl)))
        (pss_one (ps_if (PW.pt (pw_or (pt_cmpR op_eq (pv 3) pe_int (nomark _)) (pw_or (pt_not (pt_val (pe_call GW hr2 (by rfl) LW.m LW.F.kp LW.b .nil pass0 (pa_cons (pv 4) pa_nil)))) (pw_or (pt_cmpR op_eq (pv 4) (pv 0) (nomark _)) (pw_or1 (pt_cmpR (op_neL0 hcu) (pe_lc (own := [("_law_more", 5)]) (g := gName 5)  rfl scDu.nd (pi_list (pe_slice sl_list (pv 1) po_none (po_some (pv 3)))) (blkOk_by (N := nDu) (sc := defScope sDu) (by decide +kernel)) (fun _ _ _ _ _ => pg_name (i := 5) scDu.nd rfl (Or.inl rfl)) (fun _ _ _ _ _ => pts_one (pt_cmpR op_eq (pv 5) (pv 4) (nomark _))) (fun _ _ _ _ _ => pe_int)) (pe_lst pa_nil) (nomark _)))))))
        (pss_one (ps_ret (pe_tup (pa_cons pe_str (pa_cons pe_str (pa_cons (pv 3) pa_nil))))))
        pss_nil))))
      (pss_one (ps_ret (pe_ifExp (PW.pt (pw_and (pt_val (pe_callB call_isi (by rfl) T.isinstance (by decide +kernel) (pa_cons (pv 2) (pa_cons (pe_bltn (v := .ty "tuple") (by rfl) T.tuple (by decide +kernel) rfl) pa_nil)))) (pw_and1 (pt_cmpR (op_neT0 hcu) (pv 2) (pe_tup pa_nil) (nomark _))))) pe_non (pe_tup (pa_cons pe_str (pa_cons pe_str (pa_cons pe_non pa_nil))))))))), ?_⟩
    have kR : ∀ (r : Str) (pl : V), o = some (r, pl) → ∀ {H1 : Hp}, Same H H1 → ∀ t, H1 t = none → Q (.ref t) (upd H1 t (.tup [.str "FUNCTION", .str r, pl])) := fun r pl eo H1 s1 t ht => k _ _ (s1.put (s1.free ht)) (.inr ⟨r, pl, t, eo, rfl, upd_same⟩)
    rcases hd_main hd with ⟨hw, eo⟩ | ⟨x, ys, tail, rfl, rfl, vx, vy, nd, l2, ht⟩
    · exact ⟨_, rfl, v, false, rfl, hw, fun H1 s1 => ⟨_, rfl, iteT ⟨(by show 3 ≤ sizeLine; decide), fun t ht => kR _ _ eo s1 t ht⟩⟩⟩
    have ndx := List.nodup_cons.mp nd
    refine ⟨_, rfl, _, _, rfl, .vw vx, fun H1 s1 => ⟨_, rfl, iteF ?_⟩⟩
    refine ⟨_, rfl, l, _, rfl, .inl (SqL.of (s1 _ _ hl)), _, rfl, by omega, by omega, for_range (lo := 0) (n := (ys.map V.str ++ tail).length) (fun i σ Hc => ∃ (v3 v4 v5 : Option V), σ = [some (.str x), some (.ref l), some bl, v3, v4, v5] ∧ i ≤ ys.length ∧ Same H Hc) ?_ ?_ ?_⟩
    · exact ⟨_, _, _, rfl, Nat.zero_le _, s1⟩
    · rintro i σ Hc hi ⟨v3, v4, v5, rfl, hin, sm⟩
      have hlc := sm _ _ hl
      have n2 : i ≠ 2 → ¬ (decide (V.int (0 + (i : Int)) = V.int 2) = true) := fun n q => n (by have := V.int.inj (of_decide_eq_true q); omega)
      have nw : ∀ {w x : Str}, w ≠ x → ¬ (decide (V.str w = V.str x) = true) := fun n q => n (V.str.inj (of_decide_eq_true q))
      have ctake : ∀ j : Nat, j ≤ ys.length → cutV (ys.map V.str ++ tail) none (some (0 + (j : Int))) = (ys.take j).map V.str := fun j hj => by
        unfold cutV
        rw [Int.zero_add, HT.sIx_nat, HT.sIx_none, List.drop_zero, Nat.sub_zero, Nat.min_eq_left (by rw [List.length_append, List.length_map]; omega), List.take_append_of_le_length (by rw [List.length_map]; exact hj), List.map_take]
      obtain ⟨z, hz⟩ : ∃ z, (ys.map V.str ++ tail)[i]? = some z := ⟨_, List.getElem?_eq_getElem hi⟩
      refine ⟨_, rfl, _, rfl, l, _, _, _, rfl, rfl, SqL.of hlc, (by rw [Int.zero_add]; exact atI_nat hz), ?_⟩
      have cls : (i = 2 ∧ o = some (("callback" : Str), V.int (0 + (i : Int)))) ∨ (i < 2 ∧ WdV K H z false ∧ o = some (("callback" : Str), V.int (0 + (i : Int)))) ∨ ∃ y, z = .str y ∧ VW y ∧ i < 2 ∧
          (((y = x ∨ y ∈ ys.take i) ∧ o = some (("callback" : Str), V.int (0 + (i : Int)))) ∨ (y ≠ x ∧ y ∉ ys.take i ∧ i < ys.length)) := by
        rw [Int.zero_add]
        by_cases hi2 : i < ys.length
        · obtain ⟨y, hy⟩ : ∃ y, ys[i]? = some y := ⟨_, List.getElem?_eq_getElem hi2⟩
          rw [List.getElem?_append_left (by rw [List.length_map]; exact hi2), List.getElem?_map, hy] at hz
          cases hz
          have hm := List.mem_of_getElem? hy
          refine .inr (.inr ⟨y, rfl, vy y hm, by omega, .inr ⟨fun e => ndx.1 (e ▸ hm), fun q => ?_, hi2⟩⟩)
          obtain ⟨j, hj⟩ := List.getElem?_of_mem q
          rw [List.getElem?_take] at hj
          split at hj
          · rename_i lt
            have := (List.getElem?_inj (i := j) (by omega) ndx.2).mp (hj.trans hy.symm)
            omega
          · cases hj
        · obtain rfl : i = ys.length := by omega
          rcases ht with ⟨rfl, _⟩ | ⟨bad, more, rfl, eo, hf⟩
          · rw [List.append_nil, List.length_map] at hi
            omega
          rw [List.getElem?_append_right (by rw [List.length_map]; exact Nat.le_refl _), List.length_map, Nat.sub_self] at hz
          obtain rfl : bad = z := Option.some.inj hz
          rcases hf with h2 | ⟨h2, hw | ⟨y, rfl, vy', hm⟩⟩
          · exact .inl ⟨h2, eo⟩
          · exact .inr (.inl ⟨h2, hw, eo⟩)
          · refine .inr (.inr ⟨y, rfl, vy', h2, .inl ⟨?_, eo⟩⟩)
            rw [List.take_length]
            exact List.mem_cons.mp hm
      clear hz
      have ret : ∀ {H1 : Hp}, o = some (("callback" : Str), V.int (0 + (i : Int))) → Same H H1 → ∀ t, H1 t = none → Q (.ref t) (upd H1 t (.tup [.str "FUNCTION", .str "callback", V.int (0 + (i : Int))])) := fun eo s t ht => kR _ _ eo s t ht
      rcases cls with ⟨h2, eo⟩ | ⟨h2, hw, eo⟩ | ⟨y, rfl, vy', h2, hc⟩
      · exact ⟨_, rfl, rfl, _, rfl, ite2 (fun _ => ⟨_, rfl, (by show 3 ≤ sizeLine; decide), fun t ht => ret eo sm t ht⟩) fun q => absurd (by rw [h2]; exact decide_eq_true rfl) q⟩
      · refine ⟨_, rfl, rfl, _, rfl, ite2 (fun q => absurd q (n2 (by omega))) fun _ => ?_⟩
        exact ⟨_, rfl, z, false, rfl, hw.same sm, fun H2 s2 => ⟨_, rfl, iteT ⟨_, rfl, (by show 3 ≤ sizeLine; decide), fun t ht => ret eo (sm.trans s2) t ht⟩⟩⟩
      refine ⟨_, rfl, rfl, _, rfl, ite2 (fun q => absurd q (n2 (by omega))) fun _ => ?_⟩
      refine ⟨_, rfl, _, _, rfl, .vw vy', fun H2 s2 => ⟨_, rfl, ?_⟩⟩
      have sm2 := sm.trans s2
      by_cases ex : y = x
      · refine ⟨_, rfl, _, rfl, rfl, _, rfl, ite2 (fun _ => ⟨_, rfl, (by show 3 ≤ sizeLine; decide), fun t ht => ret ?_ sm2 t ht⟩) fun q => absurd (by rw [ex]; exact decide_eq_true rfl) q⟩
        rcases hc with ⟨_, eo⟩ | ⟨n, _⟩
        · exact eo
        · exact absurd ex n
      refine ⟨_, rfl, _, rfl, rfl, _, rfl, ite2 (fun q => absurd q (nw ex)) fun _ => ?_⟩
      refine ⟨_, rfl, _, rfl, _, rfl, l, _, rfl, SqL.of (s2 _ _ hlc), fun bp hbp => ⟨bp, rfl, ⟨_, SqL.of upd_same⟩, fun D hD => ?_⟩⟩
      rw [ctake i hin] at hD ⊢
      have s3 : Same H2 (upd H2 bp (.lst ((ys.take i).map V.str))) := (Same.refl H2).put hbp
      have e3 : (upd H2 bp (.lst ((ys.take i).map V.str))) bp = some (.lst ((ys.take i).map V.str)) := upd_same
      generalize upd H2 bp (.lst ((ys.take i).map V.str)) = H3 at s3 e3 hD ⊢
      have nD : bp ≠ D := ne_of_none e3 hD
      refine lc_list (K := K) (a := bp) (xs := (ys.take i).map V.str) (fun j Hd => ∃ zs : List V, Hd D = some (.lst zs) ∧ zs.length ≤ j ∧ zs.isEmpty = (!decide (y ∈ (ys.take i).take j)) ∧ Same H3 Hd) ?_ ?_ ?_ ?_
      · exact ⟨[], upd_same, Nat.le_refl _, by simp, (Same.refl H3).put hD⟩
      · rintro j Hd _ ⟨_, _, _, _, sd⟩
        exact SqL.of (sd _ _ e3)
      · rintro j u Hd hu2 ⟨zs, g1, g2, g3, sd⟩
        rw [List.getElem?_map] at hu2
        obtain ⟨y2, hy2, rfl⟩ : ∃ y2, (ys.take i)[j]? = some y2 ∧ u = .str y2 := by
          cases h : (ys.take i)[j]? with
          | none => rw [h] at hu2; cases hu2
          | some y2 => rw [h] at hu2; exact ⟨y2, rfl, (Option.some.inj hu2).symm⟩
        have jl : j < i := by
          have := (List.getElem?_eq_some_iff.mp hy2).1
          rw [List.length_take] at this
          omega
        have et : (ys.take i).take (j + 1) = (ys.take i).take j ++ [y2] := by rw [List.take_add_one, hy2]; rfl
        refine ⟨rfl, _, rfl, _, rfl, rfl, _, rfl, ite2 (fun q => ?_) fun q => ?_⟩
        · have e := V.str.inj (of_decide_eq_true q)
          refine ⟨zs, g1, by show _ < 16777216; omega, zs ++ [.int 1], upd_same, by rw [List.length_append]; show _ + 1 ≤ _; omega, ?_, sd.put hD⟩
          rw [et, decide_eq_true (by rw [e]; simp)]
          simp
        · have e : y2 ≠ y := fun e => q (decide_eq_true (by rw [e]))
          refine ⟨zs, g1, by omega, ?_, sd⟩
          rw [et, g3]
          congr 1
          simp [Ne.symm e]
      · rintro Hd ⟨zs, g1, g2, g3, sd⟩
        rw [List.length_map, List.take_length] at g3
        refine ⟨Nat.zero_le _, fun l3 hl3 => ?_⟩
        have s4 : Same Hd (upd Hd l3 (.lst [])) := (Same.refl Hd).put hl3
        refine ⟨D, l3, _, rfl, rfl, SqL.of (s4 _ _ g1), SqL.of upd_same, _, rfl, ?_⟩
        generalize upd Hd l3 (.lst []) = H4 at s4 ⊢
        have s04 := sm2.trans (s3.trans (sd.trans s4))
        rcases hc with ⟨hm, eo⟩ | ⟨_, nm, lt⟩
        · have hm : y ∈ ys.take i := hm.elim (fun e => absurd e ex) id
          rw [g3, decide_eq_true hm]
          exact iteT ⟨_, rfl, (by show 3 ≤ sizeLine; decide), fun t ht => ret eo s04 t ht⟩
        · rw [g3, decide_eq_false nm]
          exact iteF ⟨_, _, _, rfl, by omega, s04⟩
    · rintro σ Hc ⟨v3, v4, v5, rfl, hin, sm⟩
      rcases ht with ⟨rfl, hb⟩ | ⟨bad, more, rfl, _⟩
      case inr =>
        rw [List.length_append, List.length_map, List.length_cons] at hin
        omega
      obtain ⟨b, hb, hF, hT⟩ : ∃ b, BlV K H bl b ∧ (b = false → o = some (("block" : Str), V.non)) ∧ (b = true → o = none) := by
        rcases hb with ⟨hb, eo⟩ | ⟨hb, eo⟩
        · exact ⟨false, hb, fun _ => eo, nofun⟩
        · exact ⟨true, hb, nofun, fun _ => eo⟩
      rcases hb.tell with ⟨a, xs, rfl, h, rfl⟩ | ⟨t, ty, kk, rfl⟩
      · refine ⟨_, rfl, _, _, _, _, true, rfl, .ty _, .base (.tup (sm _ _ h)), kit_ty (by decide +kernel), _, rfl, iteT ?_⟩
        refine ⟨_, rfl, Nat.zero_le _, fun t ht => ?_⟩
        have s4 : Same Hc (upd Hc t (.tup [])) := (Same.refl Hc).put ht
        refine ⟨a, t, xs, rfl, rfl, SqT.of (s4 _ _ (sm _ _ h)), SqT.of upd_same, _, rfl, ?_⟩
        cases hx : (!xs.isEmpty) with
        | true => exact iteT (k _ _ (sm.trans s4) (.inl ⟨hT hx, rfl⟩))
        | false => exact iteF ⟨(by show 3 ≤ sizeLine; decide), fun t ht => kR _ _ (hF hx) (sm.trans s4) t ht⟩
      · exact ⟨_, rfl, _, _, _, _, false, rfl, .ty _, ty.same sm, kk, _, rfl, iteF ⟨(by show 3 ≤ sizeLine; decide), fun t ht => kR _ _ (hF rfl) sm t ht⟩⟩
end
end K2
end
section
set_option Elab.async false
set_option maxRecDepth 100000
set_option linter.all false
/-! Function.made -/
namespace K2
open PySem L2
def spFM (K : PySem.W.Frag) (C CN : Addr) : Sp := fun vs H Q E => ∃ (v bl : V) (l : Addr) (cs : List V) (o : Option (Str × V)) (ys : List V), vs = [.ref C, v, .ref l, bl] ∧ (H l = some (.lst cs) ∨ H l = some (.tup cs)) ∧ cs.length ≤ 500 ∧ FOut K H v cs bl o ys ∧
  (o = none → ∀ (p dx ct st : Addr) (H' : Hp), Same H H' → H p = none → H' p = some (.ins C dx (ffl v (.ref ct) bl (.ref st))) → H' ct = some (.tup cs) → H' st = some (.tup ys) → Q (.ref p) H') ∧
  ∀ r pl, o = some (r, pl) → ∀ (dd : Addr) (H' : Hp), Same H H' → H' dd = some (.xd (nfF r pl)) → E (.ref CN) (some dd) H'
/-- a new Function: by its things and the block -/
theorem fi_new {K : PySem.W.Frag} {C CN : Addr} {H : Hp} {v bl : V} {cs : List V} {o : Option (Str × V)} {ys : List V} {Q : VK} {E : XK} (lc : cs.length ≤ 500) (fo : FOut K H v cs bl o ys)
    (kN : o = none → ∀ (p dx ct st : Addr) (H' : Hp), Same H H' → H p = none → H' p = some (.ins C dx (ffl v (.ref ct) bl (.ref st))) → H' ct = some (.tup cs) → H' st = some (.tup ys) → Q (.ref p) H')
    (kE : ∀ r pl, o = some (r, pl) → ∀ (dd : Addr) (H' : Hp), Same H H' → H' dd = some (.xd (nfF r pl)) → E (.ref CN) (some dd) H') :
    ∀ x dx, H x = none → H dx = none → dx ≠ x → spFIR K C CN bl (V.ref x :: v :: cs) (upd (upd H dx (.own x)) x (.ins C dx [])) (fun u H2 => u = .non ∧ Q (.ref x) H2) E := by
  intro x dx nx ndx ne
  refine ⟨[V.ref x, v], cs, rfl, rfl, by show _ ≤ 16777216; omega, fun pt hpt => ?_⟩
  have s1 : Same H (upd (upd H dx (.own x)) x (.ins C dx [])) := ((Same.refl H).put ndx).put nx
  have s2 : Same H (upd (upd (upd H dx (.own x)) x (.ins C dx [])) pt (.tup cs)) := s1.put (s1.free hpt)
  have ex : (upd (upd (upd H dx (.own x)) x (.ins C dx [])) pt (.tup cs)) x = some (.ins C dx []) := by rw [upd_ne (ne_of_none upd_same hpt), upd_same]
  have ept : (upd (upd (upd H dx (.own x)) x (.ins C dx [])) pt (.tup cs)) pt = some (.tup cs) := upd_same
  refine ⟨x, dx, pt, v, bl, cs, o, ys, rfl, ex, ept, by omega, fo.same s2, fun eo st H' k e1 e2 => ⟨rfl, ?_⟩, fun r pl eo dd H' s e => kE r pl eo dd H' (s2.trans s) e⟩
  have npx : pt ≠ x := fun e => by rw [e, upd_same] at hpt; cases hpt
  refine kN eo x dx pt st H' (fun b ob q => k b ob (s2 _ _ q) fun e => by rw [e, nx] at q; cases q) nx e1 (k _ _ ept npx) e2
section
variable {P : Program} {w : World} {K : PySem.W.Frag} {mg : Str → Option Value} {base : Heap}
theorem ok_fm {f fI C CN : Addr} {fd : FuncData} (F : Fun K "made" "Function.made" sFM f fd) (M : Mk K C fI) (GI : FnRK P w K mg base (L2.CX P w) 9 fI "block" (spFIR K C CN)) : FnOk P w K mg base (L2.CX P w) 11 f fd ["cls", "name", "callbacks", "block"] (spFM K C CN) := by
  refine F.okX scFM (fun vs H Q E h => ?_) (fun cdv A outer s H vs Q E hr h => ?_)
  · obtain ⟨v, bl, l, cs, o, ys, rfl, _⟩ := h
    rfl
  · obtain ⟨v, bl, l, cs, o, ys, rfl, hl, lc, fo, kN, kE⟩ := h
    refine ⟨_, pss_one (ps_ret (pe_makeLK (i := 0) M GI hr rfl (Or.inl rfl) (passes_call (takes_of rfl rfl rfl rfl) fun _ _ _ _ h => h) (pa_cons (pv 1) (StX.pa_star (pv 2) pa_nil)) (pk_cons (pv 3) pk_nil))), ?_⟩
    refine ⟨rfl, _, rfl, _, rfl, l, cs, rfl, hl.elim (fun h => .inr (SqL.of h)) (fun h => .inl (SqT.of h)), _, rfl, bl, rfl, ?_⟩
    rw [List.append_nil]
    exact fi_new lc fo kN kE
end
end K2
end
section
set_option Elab.async false
set_option maxRecDepth 100000
set_option linter.all false
namespace K2
open PySem L2
abbrev nBt : List Str := ["_law_pen_here", "_law_rows_here", "_law_k", "_law_row_here", "_law_heads", "_law_one", "_law_names", "_law_way", "_law_some", "_law_spot"]
theorem op_neT0K {X : Cx} {K' : PySem.W.Frag} (hK : X.K = K') (hu : X.A.units < cLine) : OpR X (compareOp .NotEq) (rNeT0 K') := by
  subst hK
  exact op_neT0 hu
/-- what may stand among the rows -/
inductive RV (H : Hp) (p : Addr) (m : Nat) : V → Prop where
  | str (y : Str) : RV H p m (.str y)
  | no {v : V} {t : String} (h : Nos H v t) (n : t ≠ "tuple") (np : v ≠ .ref p) : RV H p m v
  | tup {a : Addr} {xs : List V} (h : H a = some (.tup xs)) (np : a ≠ p) (l : xs.length ≤ m) (it : ∀ x ∈ xs, It H p x) : RV H p m (.ref a)
theorem RV.keep {p : Addr} {m : Nat} {H H' : Hp} {v : V} (h : RV H p m v) (k : Keep p H H') : RV H' p m v := by
  cases h with
  | str y => exact .str y
  | no h n np => exact .no (h.keep np k) n np
  | tup h np l it => exact .tup (k _ _ h np) np l fun x hx => (it x hx).keep k
theorem RV.mono {p : Addr} {m m' : Nat} {H : Hp} {v : V} (h : RV H p m v) (l : m ≤ m') : RV H p m' v := by
  cases h with
  | str y => exact .str y
  | no h n np => exact .no h n np
  | tup h np l' it => exact .tup h np (Nat.le_trans l' l) it
theorem It.rv {p : Addr} {m : Nat} {H : Hp} {y : Str} : RV H p m (.str y) := .str y
theorem cutV_to (xs : List V) (k : Nat) : cutV xs none (some (k : Int)) = xs.take k := by
  unfold cutV
  rw [HT.sIx_nat, HT.sIx_none, List.drop_zero, Nat.sub_zero]
  by_cases h : k ≤ xs.length
  · rw [Nat.min_eq_left h]
  · rw [Nat.min_eq_right (by omega), List.take_of_length_le (Nat.le_refl _), List.take_of_length_le (by omega)]
def spBt : Sp := fun vs0 H Q _ => ∃ (p c l : Addr) (ns : List Int) (n k m : Nat) (vs : List V) (a : Addr) (xs : List V) (y0 : Str), vs0 = [.ref p, .ref l, .int (k : Int)] ∧ Pen H p c ns n ∧ n + 60 ≤ 100000 ∧ H l = some (.lst vs) ∧ l ≠ p ∧ vs.length ≤ 64 ∧ (∀ v ∈ vs, RV H p m v) ∧ m ≤ 80 ∧
  vs[k]? = some (.ref a) ∧ H a = some (.tup xs) ∧ xs[0]? = some (.str y0) ∧ ∀ (v : V) (H' : Hp), RV H' p (m + 2) v → Keep p H H' → Pen H' p c ns (n + 20) → Q v H'
section
variable {P : Program} {w : World} {K : PySem.W.Frag} {mg : Str → Option Value} {base : Heap}
end
end K2
end
section
set_option Elab.async false
set_option maxRecDepth 100000
set_option linter.all false
namespace K2
open PySem L2
abbrev sSp : Stmt := top 60
abbrev nSp : List Str := ["_law_pen_here", "_law_rows_here", "_law_found", "_law_turn", "_law_k", "_law_row_here"]
theorem Nos.updL {H : Hp} {l : Addr} {xs ys : List V} {v : V} {t : String} (h : Nos H v t) (e : H l = some (.lst xs)) : Nos (upd H l (.lst ys)) v t := by
  have ne : ∀ {a : Addr} {o : HO}, H a = some o → (∀ zs, o ≠ .lst zs) → a ≠ l := fun h n q => by
    rw [q, e] at h
    exact n _ (Option.some.inj h).symm
  cases h with
  | non => exact .non
  | bl b => exact .bl b
  | int i => exact .int i
  | tup h => exact .tup (by rw [upd_ne (ne h fun _ => nofun)]; exact h)
  | dK h => exact .dK (by rw [upd_ne (ne h fun _ => nofun)]; exact h)
  | lst h =>
    rename_i a zs
    by_cases q : a = l
    · subst q; exact .lst upd_same
    · exact .lst (by rw [upd_ne q]; exact h)
theorem It.updL {H : Hp} {p l : Addr} {xs ys : List V} {v : V} (h : It H p v) (e : H l = some (.lst xs)) : It (upd H l (.lst ys)) p v := by
  cases h with
  | str y l => exact .str y l
  | no h np => exact .no (h.updL e) np
theorem RV.updL {H : Hp} {p l : Addr} {m : Nat} {xs ys : List V} {v : V} (h : RV H p m v) (e : H l = some (.lst xs)) : RV (upd H l (.lst ys)) p m v := by
  cases h with
  | str y => exact .str y
  | no h n np => exact .no (h.updL e) n np
  | tup h np ll it => exact .tup (by rw [upd_ne (fun q => by rw [q, e] at h; cases h)]; exact h) np ll fun x hx => (it x hx).updL e
def spSp : Sp := fun vs0 H Q _ => ∃ (p c l : Addr) (ns : List Int) (n m : Nat) (vs : List V), vs0 = [.ref p, .ref l] ∧ Pen H p c ns n ∧ n + 160 ≤ 100000 ∧ H l = some (.lst vs) ∧ l ≠ p ∧ vs.length ≤ 64 ∧ (∀ v ∈ vs, RV H p m v) ∧ m ≤ 60 ∧
  ∀ (l' : Addr) (vs' : List V) (H' : Hp), H' l' = some (.lst vs') → l' ≠ p → vs'.length = vs.length → (∀ v ∈ vs', RV H' p (m + 6) v) → Keep p H H' → Pen H' p c ns (n + 100) → Q (.ref l') H'
section
variable {P : Program} {w : World} {K : PySem.W.Frag} {mg : Str → Option Value} {base : Heap}
end
end K2
end
section
set_option Elab.async false
set_option maxRecDepth 100000
set_option linter.all false
namespace K2
open PySem L2
abbrev sDue : Stmt := top 58
abbrev nDue : List Str := ["_law_rows_here", "_law_known", "_law_k", "_law_row_here", "_law_word", "_law_odd_here", "_law_base"]
/-- some rows, up to the first that has a fault, with its reason -/
structure Split (K : PySem.W.Frag) (H : Hp) (vs : List V) (rs : List Row) (o : Option Str) : Prop where
  g : Good rs
  l : rs.length ≤ 30
  nar : ∀ r ∈ rs, r.2.length ≤ 60
  ex : ∃ ts : List Addr, RowsAt H ts rs ∧ ((o = none ∧ vs = ts.map V.ref) ∨ ∃ (r : Str) (v : V) (more : List V), o = some r ∧ vs = ts.map V.ref ++ v :: more ∧ FaultV K H (keys (ups rs)) v rs.length r)
theorem wd_true {K : PySem.W.Frag} {H : Hp} {v : V} {b : Bool} (h : WdV K H v b) (e : b = true) : ∃ y, v = .str y ∧ VW y := by
  cases h with
  | str x l => exact ⟨x, rfl, isW_vw e⟩
  | no => cases e
theorem wd_all {K : PySem.W.Frag} {H : Hp} {p : Addr} : ∀ xs : List V, (∀ x ∈ xs, It H p x) → ∃ bs, WdAll K H xs bs ∧ (bs.all id = true → ∃ ys : List Str, xs = ys.map V.str ∧ ∀ y ∈ ys, VW y)
  | [], _ => ⟨[], ⟨rfl, fun i x b h => by simp at h⟩, fun _ => ⟨[], rfl, fun y h => by cases h⟩⟩
  | x :: xs, h => by
    obtain ⟨bs, W, e⟩ := wd_all (K := K) xs fun y hy => h y (List.mem_cons_of_mem _ hy)
    obtain ⟨b, hb⟩ := (h x List.mem_cons_self).wd (K := K)
    refine ⟨b :: bs, ⟨by simp [W.1], fun i y c h1 h2 => ?_⟩, fun q => ?_⟩
    · cases i with
      | zero =>
        cases h1
        cases h2
        exact hb
      | succ i => exact W.2 i y c h1 h2
    · have q2 := Bool.and_eq_true_iff.mp (show (id b && bs.all id) = true from q)
      obtain ⟨y, rfl, vy⟩ := wd_true hb q2.1
      obtain ⟨ys, rfl, vs⟩ := e q2.2
      refine ⟨y :: ys, rfl, fun z hz => ?_⟩
      rcases List.mem_cons.mp hz with rfl | hz
      · exact vy
      · exact vs z hz
theorem split_from {K : PySem.W.Frag} {H : Hp} {p : Addr} {m : Nat} (hm : m ≤ 61) : ∀ (vs : List V) (ts : List Addr) (rs : List Row), Good rs → rs.length ≤ 30 → (∀ r ∈ rs, r.2.length ≤ 60) → RowsAt H ts rs → (∀ v ∈ vs, RV H p m v) → ∃ rs' o, Split K H (ts.map V.ref ++ vs) rs' o
  | [], ts, rs, g, l, na, R, _ => ⟨rs, none, g, l, na, ts, R, .inl ⟨rfl, by simp⟩⟩
  | v :: more, ts, rs, g, l, na, R, h => by
    have bad : ∀ r, FaultV K H (keys (ups rs)) v rs.length r → ∃ rs' o, Split K H (ts.map V.ref ++ v :: more) rs' o := fun r F => ⟨rs, some r, g, l, na, ts, R, .inr ⟨r, v, more, rfl, rfl, F⟩⟩
    by_cases h30 : rs.length = 30
    · exact bad "many" (by rw [h30]; exact .many v)
    have hn : rs.length < 30 := by omega
    cases h v List.mem_cons_self with
    | str y => exact bad "row" (.row1 hn (.base (.str _)) (kit_ty (by decide +kernel)))
    | no q n np => exact bad "row" (.row1 hn q.ty (q.kitT n))
    | tup q np ll it =>
      rename_i a xs
      by_cases l2 : xs.length < 2
      · exact bad "row" (.row2 hn q l2)
      obtain ⟨bs, W, e⟩ := wd_all (K := K) xs it
      cases hb : bs.all id with
      | false => exact bad "row" (.row3 hn q (by omega) (by omega) W hb)
      | true =>
        obtain ⟨ys, rfl, vw⟩ := e hb
        cases ys with
        | nil => exact absurd (by simp) l2
        | cons x us =>
          rw [List.length_map, List.length_cons] at ll l2
          have une : us ≠ [] := fun z => by rw [z] at l2; simp at l2
          by_cases hx : x ∈ keys (ups rs)
          · exact bad "name" (.name hn q une (by omega) vw hx)
          by_cases hs : ∀ b ∈ us, b ∈ keys (ups rs)
          · by_cases nd : us.Nodup
            · have ok : RowOk (base0 ++ rs.map (·.1)) (x, us) := by
                rw [keys_ups] at hx hs
                exact ⟨vw x List.mem_cons_self, hx, une, nd, hs⟩
              have := split_from (K := K) hm more (ts ++ [a]) (rs ++ [(x, us)]) (good_snoc g ok) (by simp; omega) (fun r hr => ?_) (R.snoc q) fun v hv => h v (List.mem_cons_of_mem _ hv)
              · rwa [List.map_append, List.append_assoc] at this
              · rcases List.mem_append.mp hr with hr | hr
                · exact na r hr
                · rw [List.mem_singleton.mp hr]
                  show us.length ≤ 60
                  omega
            · exact bad "base" (.base hn q une (by omega) vw hx (.inr nd))
          · refine bad "base" (.base hn q une (by omega) vw hx (.inl ?_))
            by_cases z : ∃ b, b ∈ us ∧ b ∉ keys (ups rs)
            · exact z
            · exact absurd (fun b hb => Decidable.byContradiction fun q => z ⟨b, hb, q⟩) hs
theorem due_cases {K : PySem.W.Frag} {H : Hp} {vs : List V} {rs : List Row} {o : Option Str} {ts : List Addr} {i : Nat} {v : V} (S : Split K H vs rs o) (R : RowsAt H ts rs)
    (hex : (o = none ∧ vs = ts.map V.ref) ∨ ∃ (r : Str) (v : V) (more : List V), o = some r ∧ vs = ts.map V.ref ++ v :: more ∧ FaultV K H (keys (ups rs)) v rs.length r) (ivs : vs[i]? = some v) (hir : i ≤ rs.length) :
    (i = 30 ∧ i = rs.length ∧ o = some ("many" : Str)) ∨ (i < 30 ∧ ∃ t, TyX K H v t ∧ PySem.W.kitOne K t (.type "tuple") = some false ∧ i = rs.length ∧ o = some ("row" : Str)) ∨ (i < 30 ∧ ∃ (a : Addr) (xs : List V), v = .ref a ∧ H a = some (.tup xs) ∧ xs.length < 2 ∧ i = rs.length ∧ o = some ("row" : Str)) ∨
    (i < 30 ∧ ∃ (a : Addr) (xs : List V) (bits : List Bool), v = .ref a ∧ H a = some (.tup xs) ∧ 2 ≤ xs.length ∧ xs.length ≤ 100 ∧ WdAll K H xs bits ∧ (bits.all id = false → i = rs.length ∧ o = some ("row" : Str)) ∧
      (bits.all id = true → ∃ (x : Str) (us : List Str), xs = (x :: us).map V.str ∧ us ≠ [] ∧ us.length ≤ 60 ∧ (∀ y ∈ x :: us, VW y) ∧ (x ∈ knownAt rs i → i = rs.length ∧ o = some ("name" : Str)) ∧ (x ∉ knownAt rs i → ((∃ b ∈ us, b ∉ knownAt rs i) ∨ ¬ us.Nodup) → i = rs.length ∧ o = some ("base" : Str)) ∧
        (x ∉ knownAt rs i → (∀ b ∈ us, b ∈ knownAt rs i) → us.Nodup → i + 1 ≤ rs.length ∧ knownAt rs (i + 1) = knownAt rs i ++ [x]))) := by
  have tt : ∀ xs : List Str, (xs.map fun _ => true).all id = true := fun xs => by simp
  rcases Nat.lt_or_ge i rs.length with hin | hge
  · refine .inr (.inr (.inr ⟨Nat.lt_of_lt_of_le hin S.l, ?_⟩))
    obtain ⟨⟨x, us⟩, hri⟩ : ∃ r : Row, rs[i]? = some r := ⟨_, List.getElem?_eq_getElem hin⟩
    have hti : ts[i]? = some (ts[i]'(by rw [R.1]; exact hin)) := List.getElem?_eq_getElem _
    have hv : v = .ref (ts[i]'(by rw [R.1]; exact hin)) := by
      have h1 : (ts.map V.ref)[i]? = some v := by
        rcases hex with ⟨_, e⟩ | ⟨r, v', more, _, e, _⟩
        · rw [← e]; exact ivs
        · rw [e, List.getElem?_append_left (by rw [List.length_map, R.1]; exact hin)] at ivs
          exact ivs
      rw [List.getElem?_map, hti] at h1
      exact (Option.some.inj h1).symm
    have hat := R.2 i _ _ hti hri
    have ok := S.g i _ hri
    have nar := S.nar _ (List.mem_of_getElem? hri)
    have ks := knownAt_succ hri
    generalize ts[i]'(by rw [R.1]; exact hin) = a at hv hat
    have vw : ∀ y ∈ x :: us, VW y := fun y hy => by
      rcases List.mem_cons.mp hy with rfl | hy
      · exact ok.vw
      · exact S.g.vw_known i y (ok.sub y hy)
    have une := List.length_pos_iff.mpr ok.ne
    refine ⟨a, _, _, hv, hat, ?_, ?_, .vw vw, fun q => ?_, fun _ => ⟨x, us, rfl, ok.ne, nar, vw, fun hx => absurd hx ok.new, fun _ hb => ?_, fun _ _ _ => ⟨hin, ks⟩⟩⟩
    · rw [List.length_map, List.length_cons]
      show 2 ≤ us.length + 1
      have : 0 < us.length := une
      omega
    · rw [List.length_map, List.length_cons]
      show us.length + 1 ≤ 100
      have : us.length ≤ 60 := nar
      omega
    · rw [tt] at q
      cases q
    · rcases hb with ⟨b, h1, h2⟩ | h
      · exact absurd (ok.sub b h1) h2
      · exact absurd ok.nd h
  · obtain rfl : i = rs.length := by omega
    rcases hex with ⟨_, e2⟩ | ⟨r, v', more, eo, e2, FV⟩
    · have := (List.getElem?_eq_some_iff.mp ivs).1
      rw [e2, List.length_map, R.1] at this
      omega
    have hvv : v' = v := by
      rw [e2, List.getElem?_append_right (by rw [List.length_map, R.1]; exact Nat.le_refl _), List.length_map, R.1, Nat.sub_self] at ivs
      exact Option.some.inj ivs
    subst hvv
    rw [keys_ups] at FV
    have hkk : base0 ++ rs.map (·.1) = knownAt rs rs.length := by unfold knownAt; rw [List.take_length]
    rw [hkk] at FV
    generalize hnn : rs.length = n at *
    cases FV with
    | many v => exact .inl ⟨rfl, rfl, eo⟩
    | row1 hn ty kk => exact .inr (.inl ⟨hn, _, ty, kk, rfl, eo⟩)
    | row2 hn ht ll => exact .inr (.inr (.inl ⟨hn, _, _, rfl, ht, ll, rfl, eo⟩))
    | row3 hn ht ll l2 wd no => exact .inr (.inr (.inr ⟨hn, _, _, _, rfl, ht, ll, l2, wd, fun _ => ⟨rfl, eo⟩, fun q => by rw [no] at q; cases q⟩))
    | name hn ht une l2 vw hx =>
      have up := List.length_pos_iff.mpr une
      exact .inr (.inr (.inr ⟨hn, _, _, _, rfl, ht, by simp; omega, by simp; omega, .vw vw, fun q => (by rw [tt] at q; cases q), fun _ => ⟨_, _, rfl, une, l2, vw, fun _ => ⟨rfl, eo⟩, fun n => absurd hx n, fun n => absurd hx n⟩⟩))
    | base hn ht une l2 vw hx hb =>
      have up := List.length_pos_iff.mpr une
      refine .inr (.inr (.inr ⟨hn, _, _, _, rfl, ht, by simp; omega, by simp; omega, .vw vw, fun q => (by rw [tt] at q; cases q), fun _ => ⟨_, _, rfl, une, l2, vw, fun n => absurd n hx, fun _ _ => ⟨rfl, eo⟩, fun _ a1 a2 => ?_⟩⟩))
      rcases hb with ⟨b, h1, h2⟩ | h
      · exact absurd (a1 b h1) h2
      · exact absurd a2 h
def spDue (K : PySem.W.Frag) : Sp := fun vs0 H Q _ => ∃ (l : Addr) (vs : List V) (rs : List Row) (o : Option Str), vs0 = [.ref l] ∧ H l = some (.lst vs) ∧ vs.length ≤ 64 ∧ Split K H vs rs o ∧
  (o = none → ∀ H', Same H H' → Q .non H') ∧ ∀ r, o = some r → ∀ (t : Addr) (H' : Hp), Same H H' → H' t = some (.tup [.str "CLASS", .str r, .int (rs.length : Nat)]) → Q (.ref t) H'
section
variable {P : Program} {w : World} {K : PySem.W.Frag} {mg : Str → Option Value} {base : Heap}
end
end K2
end
section
set_option Elab.async false
set_option maxRecDepth 100000
set_option linter.all false
namespace K2
open PySem L2 LamX PySem.Spec PyProof.Rows
theorem Pen.extN {H H' : Hp} {p c : Addr} {ns : List Int} {n : Nat} (h : Pen H p c ns n) (s : ExtN H H') : Pen H' p c ns n := by
  obtain ⟨a, l, g, r⟩ := h.pen
  exact ⟨⟨a, l, s _ _ g (fun ps z => by unfold penO at z; cases z), r⟩, s _ _ h.cells (fun ps z => by cases z), h.small⟩
theorem Tabs.kp {T : List (Addr × Str)} {H H' : Hp} {p c : Addr} {ns : List Int} {n : Nat} (t : Tabs T H) (P : Pen H p c ns n) (k : Keep p H H') : Tabs T H' := fun q hq => by
  obtain ⟨ps, h1, h2, h3⟩ := t q hq
  obtain ⟨a, l, g, _⟩ := P.pen
  refine ⟨ps, k _ _ h1 (fun e => ?_), h2, fun pos cv hc => ?_⟩
  · rw [e, g] at h1
    unfold penO at h1
    cases h1
  · obtain ⟨c0, e1, e2⟩ := h3 pos cv hc
    refine ⟨c0, e1, k _ _ e2 fun e => ?_⟩
    rw [e, g] at e2
    unfold penO CodeO at e2
    cases e2
theorem Tabs.same {T : List (Addr × Str)} {H H' : Hp} (t : Tabs T H) (s : Same H H') : Tabs T H' := t.ext s

theorem Good.nar {rs : List Row} (g : Good rs) (h : rs.length ≤ 31) : ∀ r ∈ rs, r.2.length ≤ 32 := by
  intro r hr
  obtain ⟨i, hi⟩ := List.getElem?_of_mem hr
  have R := g i r hi
  have il : i < rs.length := (List.getElem?_eq_some_iff.mp hi).1
  have := R.nd.length_le_of_subset R.sub
  rw [knownAt_len (by omega)] at this
  omega
section
variable {P : Program} {w : World} {K : PySem.W.Frag} {mg : Str → Option Value} {base : Heap}
theorem _root_.L2.FnOk.lift {k : Nat} {f : Addr} {fd : FuncData} {ps : List Str} {sp : Sp} (F : FnOk P w K mg base CX0 k f fd ps sp) : FnOk P w K mg base (L2.CX P w) k f fd ps sp :=
  ⟨F.len, fun A outer s H args us vs Q E hr he hb hv hs => codeAny_mono (F.run A outer s H args us vs Q E hr he hb hv hs) fun r s' hq => by
    cases r with
    | error e => exact hq.elim
    | ok fl => cases fl <;> exact hq⟩
theorem _root_.L2.FnR.lift {k : Nat} {f : Addr} {sp : Sp} (F : FnR P w K mg base CX0 k f sp) : FnR P w K mg base (L2.CX P w) k f sp :=
  fun A outer s H us vs Q E hr he hv hs => codeAny_mono (F A outer s H us vs Q E hr he hv hs) fun r s' hq => by
    cases r with
    | error e => exact hq.elim
    | ok fl => cases fl <;> exact hq
theorem _root_.L2.FnR.or {CX : CXT} {k : Nat} {f : Addr} {sp sp' : Sp} (F : FnR P w K mg base CX k f sp) (G : FnR P w K mg base CX k f sp') : FnR P w K mg base CX k f (fun vs H Q E => sp vs H Q E ∨ sp' vs H Q E) :=
  fun A outer s H us vs Q E hr he hv hs => hs.elim (F A outer s H us vs Q E hr he hv) (G A outer s H us vs Q E hr he hv)
/-! what is answered: classes or the first fault -/
/-- the error that was heard, or None -/
abbrev sEr : Stmt := top 55
def spEr : Sp := fun vs H Q _ => (∃ a xs, vs = [.ref a] ∧ H a = some (.lst xs) ∧ Q .non H) ∨ ∃ a xs, vs = [.ref a] ∧ H a = some (.tup xs) ∧ Q (.ref a) H
theorem scEr : FnScope ["_law_heard_here"] ["_law_heard_here"] (defScope sEr) := ⟨rfl, rfl, rfl, by decide +kernel, rfl, by decide +kernel, by decide +kernel⟩
theorem ok_er {f : Addr} {fd : FuncData} (F : Fun K "_law_error" "_law_error" sEr f fd) (T : Bi mg) : FnOk P w K mg base CX0 1 f fd ["_law_heard_here"] spEr := by
  refine F.ok scEr (fun vs H Q E h => ?_) (fun cdv A outer s H vs Q E hr h => ?_)
  · rcases h with ⟨a, xs, rfl, _⟩ | ⟨a, xs, rfl, _⟩ <;> rfl
  · refine ⟨_, pss_one (ps_ret (pe_ifExp (pt_val (pe_callB call_isi (by rfl) T.isinstance (by decide +kernel) (pa_cons (pv 0) (pa_cons (pe_bltn (v := .ty "list") (by rfl) T.list (by decide +kernel) rfl) pa_nil)))) pe_non (pv 0))), ?_⟩
    rcases h with ⟨a, xs, rfl, ha, k⟩ | ⟨a, xs, rfl, ha, k⟩
    · exact ⟨_, rfl, _, _, _, _, true, rfl, .ty _, .base (.lst ha), kit_ty (by decide +kernel), _, rfl, iteT k⟩
    · exact ⟨_, rfl, _, _, _, _, false, rfl, .ty _, .base (.tup ha), kit_ty (by decide +kernel), _, rfl, iteF ⟨_, rfl, k⟩⟩
end
end K2
end
section
set_option Elab.async false
set_option maxRecDepth 100000
set_option linter.all false
namespace K2
open PySem L2 LamX PySem.Spec PyProof.Rows
/-- all but the pen and the tables stays -/
structure KN (p : Addr) (H H' : Hp) : Prop where
  k : ∀ b o, H b = some o → b ≠ p → (∀ ps, o ≠ .tbl ps) → H' b = some o
  h1 : ∃ xs, H p = some (.lst xs)
  h2 : ∃ xs, H' p = some (.lst xs)
theorem KN.of {p c : Addr} {ns : List Int} {n m : Nat} {H H' : Hp} (P : Pen H p c ns n) (P' : Pen H' p c ns m) (k : ∀ b o, H b = some o → b ≠ p → (∀ ps, o ≠ .tbl ps) → H' b = some o) : KN p H H' := by
  obtain ⟨a, l, g, _⟩ := P.pen
  obtain ⟨a', l', g', _⟩ := P'.pen
  exact ⟨k, ⟨_, g⟩, ⟨_, g'⟩⟩
theorem KN.keep {p c : Addr} {ns : List Int} {n m : Nat} {H H' : Hp} (P : Pen H p c ns n) (P' : Pen H' p c ns m) (k : Keep p H H') : KN p H H' := .of P P' fun b o h nb _ => k b o h nb
theorem KN.ext {p c : Addr} {ns : List Int} {n : Nat} {H H' : Hp} (P : Pen H p c ns n) (k : ExtN H H') : KN p H H' := .of P (P.extN k) fun b o h _ n => k b o h n
theorem KN.to {p : Addr} {H H' : Hp} (k : KN p H H') {b : Addr} {o : HO} (h : H b = some o) (nl : ∀ xs, o ≠ .lst xs) (nt : ∀ ps, o ≠ .tbl ps) : H' b = some o := by
  refine k.k b o h (fun e => ?_) nt
  obtain ⟨xs, g⟩ := k.h1
  rw [e, g] at h
  exact nl xs (Option.some.inj h).symm
theorem TyX.kn {K : PySem.W.Frag} {p : Addr} {H H' : Hp} {x : V} {t : Value} (h : TyX K H x t) (k : KN p H H') : TyX K H' x t := by
  cases h with
  | base h =>
    cases h with
    | non => exact .base .non
    | bl b => exact .base (.bl b)
    | int i => exact .base (.int i)
    | str y => exact .base (.str y)
    | flt y => exact .base (.flt y)
    | lst e =>
      rename_i a xs
      by_cases q : a = p
      · obtain ⟨ys, g⟩ := k.h2
        rw [q]
        exact .base (.lst g)
      · exact .base (.lst (k.k _ _ e q (by nofun)))
    | frz e => exact .base (.frz (k.to e (by nofun) (by nofun)))
    | tup e => exact .base (.tup (k.to e (by nofun) (by nofun)))
    | dK e => exact .base (.dK (k.to e (by nofun) (by nofun)))
    | dT e => exact .base (.dT (k.to e (by nofun) (by nofun)))
    | ins e cl ha hn htk hm => exact .base (.ins (k.to e (by nofun) (by nofun)) cl ha hn htk hm)
  | byt b => exact .byt b
  | set e => exact .set (k.to e (by nofun) (by nofun))
  | kList e c => exact .kList e c
  | kTuple e c => exact .kTuple e c
  | kDict e c => exact .kDict e c
  | fTuple e => exact .fTuple (k.to e (by nofun) (by nofun))
  | fDict e => exact .fDict (k.to e (by nofun) (by nofun))
theorem WdAll.kn {K : PySem.W.Frag} {p : Addr} {H H' : Hp} {xs : List V} {bs : List Bool} (h : WdAll K H xs bs) (k : KN p H H') : WdAll K H' xs bs := ⟨h.1, fun i x b h1 h2 => by
  cases h.2 i x b h1 h2 with
  | str x l => exact .str x l
  | no ty kk => exact .no (TyX.kn ty k) kk⟩
theorem FaultV.kn {K : PySem.W.Frag} {p : Addr} {H H' : Hp} {nm : List Str} {v : V} {n : Nat} {r : Str} (h : FaultV K H nm v n r) (k : KN p H H') : FaultV K H' nm v n r := by
  cases h with
  | many v => exact .many v
  | row1 hn ty kk => exact .row1 hn (TyX.kn ty k) kk
  | row2 hn h l => exact .row2 hn (k.to h (by nofun) (by nofun)) l
  | row3 hn h l l2 wd no => exact .row3 hn (k.to h (by nofun) (by nofun)) l l2 (wd.kn k) no
  | name hn h l l2 vw hx => exact .name hn (k.to h (by nofun) (by nofun)) l l2 vw hx
  | base hn h l l2 vw hx hb => exact .base hn (k.to h (by nofun) (by nofun)) l l2 vw hx hb
theorem Split.kn {K : PySem.W.Frag} {p : Addr} {H H' : Hp} {vs : List V} {rs : List Row} {o : Option Str} (h : Split K H vs rs o) (k : KN p H H') : Split K H' vs rs o := by
  obtain ⟨ts, R, e⟩ := h.ex
  refine ⟨h.g, h.l, h.nar, ts, R.mono fun b r e => k.to e (by unfold rowO; nofun) (by unfold rowO; nofun), ?_⟩
  rcases e with e | ⟨r, v, more, e1, e2, F⟩
  · exact .inl e
  · exact .inr ⟨r, v, more, e1, e2, F.kn k⟩
/-- what the law tells of the rows -/
def DueV (H : Hp) (rs : List Row) (o : Option Str) (v : V) : Prop := (o = none ∧ v = .non) ∨ ∃ r t, o = some r ∧ v = .ref t ∧ H t = some (.tup [.str "CLASS", .str r, .int (rs.length : Nat)])
theorem DueV.kn {p : Addr} {H H' : Hp} {rs : List Row} {o : Option Str} {v : V} (h : DueV H rs o v) (k : KN p H H') : DueV H' rs o v := by
  rcases h with h | ⟨r, t, e1, e2, h⟩
  · exact .inl h
  · exact .inr ⟨r, t, e1, e2, k.to h (by nofun) (by nofun)⟩
theorem DueV.same {H H' : Hp} {rs : List Row} {o : Option Str} {v : V} (h : DueV H rs o v) (s : Same H H') : DueV H' rs o v := by
  rcases h with h | ⟨r, t, e1, e2, h⟩
  · exact .inl h
  · exact .inr ⟨r, t, e1, e2, s _ _ h⟩
/-- what is told of it -/
def wtD (r : Str) (n : Nat) : PyData := .tuple [.str "CLASS", .str r, .int n]
def reasons : List Str := ["many", "row", "name", "base"]
theorem wtD_ok : ∀ n : Nat, n ≤ 30 → ∀ r ∈ reasons, (wtD r n).showable = true ∧ (wtD r n).hasDict = false ∧ (wtD r n).depth ≤ 8 ∧ (wtD r n).shown.length ≤ sizeLine := by
  have h : ∀ n : Fin 31, ∀ r ∈ reasons, (wtD r n.val).showable = true ∧ (wtD r n.val).hasDict = false ∧ (wtD r n.val).depth ≤ 8 ∧ (wtD r n.val).shown.length ≤ sizeLine := by decide +kernel
  exact fun n hn r hr => h ⟨n, by omega⟩ r hr
theorem FaultV.rsn {K : PySem.W.Frag} {H : Hp} {nm : List Str} {v : V} {n : Nat} {r : Str} (h : FaultV K H nm v n r) : r ∈ reasons := by
  unfold reasons
  cases h <;> simp
theorem Split.rsn {K : PySem.W.Frag} {H : Hp} {vs : List V} {rs : List Row} {r : Str} (h : Split K H vs rs (some r)) : r ∈ reasons := by
  obtain ⟨ts, R, ⟨e, _⟩ | ⟨r', v, more, e, _, F⟩⟩ := h.ex
  · cases e
  · cases e
    exact F.rsn
theorem wtD_dp {K : PySem.W.Frag} {H : Hp} {t : Addr} {r : Str} {n : Nat} (h : H t = some (.tup [.str "CLASS", .str r, .int (n : Nat)])) : Dp K H (.ref t) (wtD r n) := .tup (SqT.of h) (.cons (.str _) (.cons (.str _) (.cons (.int _) .nil)))
end K2
end
section
set_option Elab.async false
set_option maxRecDepth 100000
set_option linter.all false
/-! what a Function's making comes to stays where tuples stay -/
namespace K2
open PySem L2 LamX
theorem Nms.sameT {H H' : Hp} {v : V} (h : Nms H v) (s : SameT H H') : Nms H' v := by
  obtain ⟨a, ys, e, h, r⟩ := h
  exact ⟨a, ys, e, s _ _ h, r⟩
theorem Blk.sameT {H H' : Hp} {v : V} (h : Blk H v) (s : SameT H H') : Blk H' v := by
  obtain ⟨a, xs, e, h, r⟩ := h
  exact ⟨a, xs, e, s _ _ h, r⟩
theorem Cl1.sameT {H H' : Hp} {v : V} (h : Cl1 H v) (s : SameT H H') : Cl1 H' v := by
  obtain ⟨a, nm, n, b, e, h1, h2, h3, h4, h5⟩ := h
  exact ⟨a, nm, n, b, e, s _ _ h1, h2.sameT s, h3.sameT s, h4, h5.sameT s⟩
theorem RS.sameT {H H' : Hp} {v : V} (h : RS H v) (s : SameT H H') : RS H' v := by
  cases h with
  | emp h m => exact .emp (s _ _ h) m
  | rai1 h v => exact .rai1 (s _ _ h) v
  | rai2 h v u => exact .rai2 (s _ _ h) v u
  | aga h l v => exact .aga (s _ _ h) l v
  | cal h l l2 v => exact .cal (s _ _ h) l l2 v
  | han h hb hc => exact .han (s _ _ h) (hb.sameT s) (hc.sameT s)
  | eit h l l2 hb => exact .eit (s _ _ h) l l2 fun b q => (hb b q).sameT s
  | loo h hb => exact .loo (s _ _ h) (hb.sameT s)
  | tr h hb hc lk hk ho hl ne => exact .tr (s _ _ h) (hb.sameT s) (s _ _ hc) lk (fun k q => (hk k q).sameT s) (s _ _ ho) (s _ _ hl) ne
  | wi h ve vl hq hb => exact .wi (s _ _ h) ve vl (hq.sameT s) (hb.sameT s)
theorem BN.sameT {H H' : Hp} {v : V} {ys : List Str} (h : BN H v ys) (s : SameT H H') : BN H' v ys := by
  cases h with
  | aga h => exact .aga (s _ _ h)
  | rai1 h => exact .rai1 (s _ _ h)
  | rai2 h v => exact .rai2 (s _ _ h) v
  | rain h => exact .rain (s _ _ h)
  | oth h n1 n2 => exact .oth (s _ _ h) n1 n2
theorem PB.sameT {H H' : Hp} {v : V} {n : Option (Option Str)} (h : PB H v n) (s : SameT H H') : PB H' v n := by
  cases h with
  | no => exact .no
  | cl h => exact .cl (s _ _ h)
theorem SpF.sameT {H H' : Hp} {v : V} {d : Nat} {il : Bool} {bs : List (Option Str)} {c : Nat} {o : Option Str} (h : SpF H v d il bs c o) (s : SameT H H') (rs : RS H v → RS H' v) : SpF H' v d il bs c o := by
  cases h with
  | deep h => exact .deep h
  | brk h r e ha b => exact .brk h (rs r) e (s _ _ ha) b
  | bnd h r e ha nb bn l no => exact .bnd h (rs r) e (s _ _ ha) nb (bn.sameT s) l no
  | cla h r e ha hc bn l al ne h2 => exact .cla h (rs r) e (s _ _ ha) (s _ _ hc) (bn.sameT s) l al ne h2
  | ok h r e ha nb bn l al nc =>
    refine .ok h (rs r) e (s _ _ ha) nb (bn.sameT s) l al ?_
    rcases nc with nc | ⟨x, cs, r, ks, ex, hc, q⟩
    · exact .inl nc
    · exact .inr ⟨x, cs, r, ks, ex, s _ _ hc, q⟩
theorem Chk.sameT {H H' : Hp} {i : Nat} {ps : List Plc} {o : Option (Str × Nat)} (h : Chk H i ps o) (s : SameT H H') : Chk H' i ps o := by
  induction h with
  | done => exact .done
  | many => exact .many
  | bad hi f => exact .bad hi (f.sameT s fun r => r.sameT s)
  | step hi f e ha S B ln hn c1 b1 f1 d1 nx ih => exact .step hi (f.sameT s fun r => r.sameT s) e (s _ _ ha) (S.sameT s) (B.sameT s) ln (fun j q n a b => (hn j q n a b).sameT s) c1 b1 f1 d1 ih
theorem _root_.L2.Same.T {H H' : Hp} (s : Same H H') : SameT H H' := fun a zs h => s _ _ h
theorem KN.T {p : Addr} {H H' : Hp} (k : KN p H H') : SameT H H' := fun a zs h => k.to h (by nofun) (by nofun)
theorem WdV.kn {K : PySem.W.Frag} {p : Addr} {H H' : Hp} {v : V} {b : Bool} (h : WdV K H v b) (k : KN p H H') : WdV K H' v b := by
  cases h with
  | str x l => exact .str x l
  | no ty kk => exact .no (TyX.kn ty k) kk
theorem BlV.kn {K : PySem.W.Frag} {p : Addr} {H H' : Hp} {v : V} {b : Bool} (h : BlV K H v b) (k : KN p H H') : BlV K H' v b := by
  cases h with
  | tup h => exact .tup (k.T _ _ h)
  | no ty kk => exact .no (TyX.kn ty k) kk
theorem Hd.kn {K : PySem.W.Frag} {p : Addr} {H H' : Hp} {v bl : V} {cs : List V} {o : Option (Str × V)} (h : Hd K H v cs bl o) (s : KN p H H') : Hd K H' v cs bl o := by
  cases h with
  | name h => exact .name (h.kn s)
  | two a b c d => exact .two a b c d
  | word a b c d h => exact .word a b c d (h.kn s)
  | same a b c d e f => exact .same a b c d e f
  | block a b c d h => exact .block a b c d (h.kn s)
  | ok a b c d h => exact .ok a b c d (h.kn s)
theorem FOut.kn {K : PySem.W.Frag} {p : Addr} {H H' : Hp} {v bl : V} {cs : List V} {o : Option (Str × V)} {ys : List V} (h : FOut K H v cs bl o ys) (s : KN p H H') : FOut K H' v cs bl o ys := by
  cases h with
  | head h => exact .head (h.kn s)
  | block h e hb ne l c => exact .block (h.kn s) e (s.T _ _ hb) ne l (c.sameT s.T)
  | ok h e hb ne l c O ly => exact .ok (h.kn s) e (s.T _ _ hb) ne l (c.sameT s.T) (O.sameT s.T) ly
theorem DuF.kn {p : Addr} {H H' : Hp} {o : Option (Str × V)} {v : V} (h : DuF H o v) (k : KN p H H') : DuF H' o v := by
  rcases h with h | ⟨r, pl, t, e1, e2, h⟩
  · exact .inl h
  · exact .inr ⟨r, pl, t, e1, e2, k.T _ _ h⟩
theorem DuF.same {H H' : Hp} {o : Option (Str × V)} {v : V} (h : DuF H o v) (s : Same H H') : DuF H' o v := by
  rcases h with h | ⟨r, pl, t, e1, e2, h⟩
  · exact .inl h
  · exact .inr ⟨r, pl, t, e1, e2, s _ _ h⟩
end K2
end
section
set_option Elab.async false
set_option maxRecDepth 100000
set_option linter.all false
/-! the law's blocks, right ones and such as are too deep -/
namespace K2
open PySem L2 LamX
def Leaf (H : Hp) (v : V) : Prop := ∃ a, v = .ref a ∧ ((∃ w, H a = some (.tup [.str w]) ∧ w ∈ (["pass", "return"] : List Str)) ∨ ∃ y, VW y ∧ H a = some (.tup [.str "call", .str y]))
def RightB (H : Hp) (v : V) : Prop := ∃ b xs, v = .ref b ∧ H b = some (.tup xs) ∧ xs ≠ [] ∧ xs.length ≤ 5 ∧ ∀ x ∈ xs, Leaf H x
def BdV (K : PySem.W.Frag) (H : Hp) (v : V) : Prop := RightB H v ∨ BlV K H v false
theorem Leaf.sameT {H H' : Hp} {v : V} (h : Leaf H v) (s : SameT H H') : Leaf H' v := by
  obtain ⟨a, e, ⟨w, h, m⟩ | ⟨y, vy, h⟩⟩ := h
  · exact ⟨a, e, .inl ⟨w, s _ _ h, m⟩⟩
  · exact ⟨a, e, .inr ⟨y, vy, s _ _ h⟩⟩
theorem RightB.sameT {H H' : Hp} {v : V} (h : RightB H v) (s : SameT H H') : RightB H' v := by
  obtain ⟨b, xs, e, hb, ne, l, lf⟩ := h
  exact ⟨b, xs, e, s _ _ hb, ne, l, fun x hx => (lf x hx).sameT s⟩
theorem BdV.kn {K : PySem.W.Frag} {p : Addr} {H H' : Hp} {v : V} (h : BdV K H v) (k : KN p H H') : BdV K H' v := h.imp (fun h => h.sameT k.T) fun h => h.kn k
theorem leaf_ok {H : Hp} {v : V} (h : Leaf H v) : ∃ a w zs, v = .ref a ∧ H a = some (.tup (.str w :: zs)) ∧ RS H v ∧ BN H v [] ∧ w ≠ "break" ∧ w ≠ "try" ∧ Stm H v [] := by
  have nw : ∀ w ∈ (["pass", "return", "call"] : List Str), w ≠ "break" ∧ w ≠ "try" ∧ w ≠ "again" ∧ w ≠ "raise" ∧ w ≠ "with" ∧ w ∉ (["handling", "either", "loop"] : List Str) := by decide +kernel
  obtain ⟨a, rfl, ⟨w, h, m⟩ | ⟨y, vy, h⟩⟩ := h
  · have m3 : w ∈ (["pass", "return", "call"] : List Str) := by
      simp only [List.mem_cons, List.not_mem_nil, or_false] at m ⊢
      rcases m with m | m <;> simp [m]
    have mb : w ∈ (["pass", "return", "break"] : List Str) := by
      simp only [List.mem_cons, List.not_mem_nil, or_false] at m ⊢
      rcases m with m | m <;> simp [m]
    obtain ⟨n1, n2, n3, n4, n5, n6⟩ := nw w m3
    exact ⟨a, w, [], rfl, h, .emp h mb, .oth h n3 n4, n1, n2, .leaf h n2 n5 n6⟩
  · obtain ⟨n1, n2, n3, n4, n5, n6⟩ := nw "call" (by decide +kernel)
    exact ⟨a, "call", [.str y], rfl, h, .cal (ys := [y]) h (by simp) (by simp) (fun z hz => by rw [List.mem_singleton.mp hz]; exact vy), .oth h n3 n4, n1, n2, .leaf h n2 n5 n6⟩
abbrev plc0 (x : V) : Plc := (x, 1, false, [], 0)
theorem blocks_nil (H : Hp) : Blocks H [] [] := ⟨rfl, fun i p xs a => by simp at a⟩
theorem chk_leaves {H : Hp} : ∀ (xs : List V) (i : Nat), (∀ x ∈ xs, Leaf H x) → i + xs.length ≤ 60 → Chk H i (xs.map plc0) none
  | [], i, _, _ => .done
  | x :: r, i, h, l => by
    obtain ⟨a, w, zs, rfl, ha, rs, bn, n1, n2, S⟩ := leaf_ok (h x List.mem_cons_self)
    rw [List.length_cons] at l
    refine .step (ns := []) (by omega) (.ok (by show 1 ≤ 12; decide) rs rfl ha (.inl n1) bn (by simp) (fun y hy => by simp at hy) (.inl n2)) rfl ha S (blocks_nil H) rfl (fun j q n a => by simp at a) (by show 0 ≤ 100; decide) (by simp) (by simp) (by show 1 ≤ 100; decide) ?_
    exact chk_leaves r (i + 1) (fun y hy => h y (List.mem_cons_of_mem _ hy)) (by omega)
theorem ord_leaves {H : Hp} : ∀ (xs : List V), (∀ x ∈ xs, Leaf H x) → Ord H xs xs
  | [], _ => .nil
  | x :: r, h => by
    obtain ⟨a, w, zs, rfl, ha, rs, bn, n1, n2, S⟩ := leaf_ok (h x List.mem_cons_self)
    exact .cons S (blocks_nil H) (ord_leaves r fun y hy => h y (List.mem_cons_of_mem _ hy))
theorem wd_cases {K : PySem.W.Frag} {H : Hp} {p : Addr} {v : V} (h : It H p v) : WdV K H v false ∨ ∃ x, v = .str x ∧ VW x := by
  cases h with
  | str y l =>
    cases e : isW y with
    | true => exact .inr ⟨y, rfl, isW_vw e⟩
    | false =>
      have := WdV.str (K := K) (H := H) y l
      rw [e] at this
      exact .inl this
  | no h np => exact .inl (.no h.ty h.kitS)
theorem hd_cs {K : PySem.W.Frag} {H : Hp} {p : Addr} {x : Str} {bl : V} {b : Bool} (vx : VW x) (hb : BlV K H bl b) : ∀ (cs : List V) (ys : List Str), (∀ c ∈ cs, It H p c) → (∀ y ∈ ys, VW y) → (x :: ys).Nodup → ys.length ≤ 2 → ∃ o, Hd K H (.str x) (ys.map V.str ++ cs) bl o ∧ (o = none → b = true)
  | [], ys, _, vy, nd, l => by
    rw [List.append_nil]
    cases b with
    | true => exact ⟨none, .ok vx vy nd l hb, fun _ => rfl⟩
    | false => exact ⟨_, .block vx vy nd l hb, nofun⟩
  | c :: r, ys, hc, vy, nd, l => by
    by_cases l2 : ys.length = 2
    · exact ⟨_, .two vx vy nd l2, nofun⟩
    have l3 : ys.length < 2 := by omega
    rcases wd_cases (K := K) (hc c List.mem_cons_self) with hw | ⟨y, rfl, vy'⟩
    · exact ⟨_, .word vx vy nd l3 hw, nofun⟩
    by_cases hm : y ∈ x :: ys
    · exact ⟨_, .same vx vy nd l3 vy' hm, nofun⟩
    have hm2 : y ≠ x ∧ y ∉ ys := by simpa using hm
    have nd2 := List.nodup_cons.mp nd
    obtain ⟨o, h, ho⟩ := hd_cs (p := p) vx hb r (ys ++ [y]) (fun c h => hc c (List.mem_cons_of_mem _ h)) (fun z hz => by
      rcases List.mem_append.mp hz with hz | hz
      · exact vy z hz
      · rw [List.mem_singleton.mp hz]; exact vy') (by
      refine List.nodup_cons.mpr ⟨fun q => ?_, ?_⟩
      · rcases List.mem_append.mp q with q | q
        · exact nd2.1 q
        · exact hm2.1 (List.mem_singleton.mp q).symm
      · refine List.nodup_append.mpr ⟨nd2.2, by simp, fun a ha b hb e => ?_⟩
        rw [List.mem_singleton.mp hb] at e
        exact hm2.2 (e ▸ ha)) (by rw [List.length_append]; show _ + 1 ≤ _; omega)
    refine ⟨o, ?_, ho⟩
    rwa [List.map_append, List.append_assoc] at h
theorem fout_all {K : PySem.W.Frag} {H : Hp} {p : Addr} {v bl : V} {cs : List V} (hv : It H p v) (hc : ∀ c ∈ cs, It H p c) (hb : BdV K H bl) : ∃ o ys, FOut K H v cs bl o ys ∧ Hd K H v cs bl o := by
  rcases wd_cases (K := K) hv with hw | ⟨x, rfl, vx⟩
  · exact ⟨_, _, .head (.name hw), .name hw⟩
  rcases hb with ⟨b, xs, rfl, h, ne, l, lf⟩ | hb
  · have hbl : BlV K H (.ref b) true := by
      have := BlV.tup (K := K) h
      rwa [show (!xs.isEmpty) = true by cases xs with | nil => exact absurd rfl ne | cons => rfl] at this
    obtain ⟨o, h1, _⟩ := hd_cs (p := p) vx hbl cs [] hc (fun y h => by simp at h) (by simp) (by simp)
    rw [List.map_nil, List.nil_append] at h1
    cases o with
    | none => exact ⟨_, _, .ok h1 rfl h ne (by omega) (chk_leaves xs 0 lf (by omega)) (ord_leaves xs lf) (by omega), h1⟩
    | some q => exact ⟨_, _, .head h1, h1⟩
  · obtain ⟨o, h1, h2⟩ := hd_cs (p := p) vx hb cs [] hc (fun y h => by simp at h) (by simp) (by simp)
    rw [List.map_nil, List.nil_append] at h1
    cases o with
    | none => cases h2 rfl
    | some q => exact ⟨_, _, .head h1, h1⟩
/-- blocks within one another -/
inductive DpB (H : Hp) : Nat → V → Prop where
  | zero {b a : Addr} (hb : H b = some (.tup [.ref a])) (ha : H a = some (.tup [.str "pass"])) : DpB H 0 (.ref b)
  | loop {n : Nat} {b a : Addr} {v : V} (hb : H b = some (.tup [.ref a])) (ha : H a = some (.tup [.str "loop", v])) (d : DpB H n v) : DpB H (n + 1) (.ref b)
  | tr {n : Nat} {b a c o l s : Addr} {v : V} (hb : H b = some (.tup [.ref a])) (ha : H a = some (.tup [.str "try", v, .ref c, .ref o, .ref l])) (hc : H c = some (.tup [])) (ho : H o = some (.tup [])) (hl : H l = some (.tup [.ref s])) (hs : H s = some (.tup [.str "pass"])) (d : DpB H n v) : DpB H (n + 1) (.ref b)
theorem DpB.sameT {H H' : Hp} {n : Nat} {v : V} (h : DpB H n v) (s : SameT H H') : DpB H' n v := by
  induction h with
  | zero hb ha => exact .zero (s _ _ hb) (s _ _ ha)
  | loop hb ha d ih => exact .loop (s _ _ hb) (s _ _ ha) ih
  | tr hb ha hc ho hl hs d ih => exact .tr (s _ _ hb) (s _ _ ha) (s _ _ hc) (s _ _ ho) (s _ _ hl) (s _ _ hs) ih
theorem DpB.one {H : Hp} {n : Nat} {v : V} (h : DpB H n v) : ∃ b a, v = .ref b ∧ H b = some (.tup [.ref a]) := by
  cases h with
  | zero hb ha => exact ⟨_, _, rfl, hb⟩
  | loop hb ha d => exact ⟨_, _, rfl, hb⟩
  | tr hb ha hc ho hl hs d => exact ⟨_, _, rfl, hb⟩
theorem deep_chk {H : Hp} : ∀ (k i n : Nat) (v : V) (b a : Addr) (il : Bool) (rest : List Plc), i + k = 12 → 12 ≤ n + i → DpB H n v → v = .ref b → H b = some (.tup [.ref a]) → Chk H i ((.ref a, i + 1, il, [], 0) :: rest) (some ("deep", 12))
  | 0, i, n, v, b, a, il, rest, e, l, d, ev, hb => by
    obtain rfl : i = 12 := by omega
    exact .bad (by decide) (.deep (by show 12 < 12 + 1; decide))
  | k + 1, i, n, v, b, a, il, rest, e, l, d, ev, hb => by
    have nw : ∀ w ∈ (["loop", "try"] : List Str), w ≠ "break" ∧ w ≠ "again" ∧ w ≠ "raise" := by decide +kernel
    cases d with
    | zero _ _ => omega
    | @loop n' b' a' v' hb' ha d' =>
      cases ev
      rw [hb] at hb'
      cases hb'
      obtain ⟨b2, a2, rfl, hb2⟩ := d'.one
      obtain ⟨n1, n2, n3⟩ := nw "loop" (by decide +kernel)
      refine .step (ps := [(.ref b2, V.non)]) (bss := [[.ref a2]]) (ns := [none]) (by omega) (.ok (by show i + 1 ≤ 12; omega) (.loo ha ⟨b2, _, rfl, hb2, by simp⟩) rfl ha (.inl n1) (.oth ha n2 n3) (by simp) (fun y hy => by simp at hy) (.inl (by decide +kernel))) rfl ha (.many (bs := [.ref b2]) ha (by decide +kernel) (by simp)) ⟨rfl, ?_⟩ rfl ?_ (by show 0 ≤ 100; decide) (by simp) (by simp) (by show i + 1 ≤ 100; omega) ?_
      · intro j p xs h1 h2
        match j, h1, h2 with
        | 0, h1, h2 => cases h1; cases h2; exact ⟨b2, rfl, hb2⟩
        | j + 1, h1, _ => simp at h1
      · intro j q n h1 h2
        match j, h1, h2 with
        | 0, h1, h2 => cases h1; cases h2; exact .no
        | j + 1, h1, _ => simp at h1
      · exact deep_chk k (i + 1) n' (.ref b2) b2 a2 _ _ (by omega) (by omega) d' rfl hb2
    | @tr n' b' a' c o l' s v' hb' ha hc ho hl hs d' =>
      cases ev
      rw [hb] at hb'
      cases hb'
      obtain ⟨b2, a2, rfl, hb2⟩ := d'.one
      obtain ⟨n1, n2, n3⟩ := nw "try" (by decide +kernel)
      refine .step (ps := [(.ref b2, V.non), (.ref l', V.non)]) (bss := [[.ref a2], [.ref s]]) (ns := [none, none]) (by omega) (.ok (by show i + 1 ≤ 12; omega) (.tr ha ⟨b2, _, rfl, hb2, by simp⟩ hc (by simp) (fun k h => by simp at h) ho hl (.inr ⟨by simp, rfl⟩)) rfl ha (.inl n1) (.oth ha n2 n3) (by simp) (fun y hy => by simp at hy) (.inr ⟨_, _, _, _, rfl, hc, .inl rfl⟩)) rfl ha
        (.tr (ks := []) ha hc (fun k h => by simp at h) (by simp) ho hl) ⟨rfl, ?_⟩ rfl ?_ (by show 0 ≤ 100; decide) (by simp) (by simp) (by show i + 1 ≤ 100; omega) ?_
      · intro j p xs h1 h2
        match j, h1, h2 with
        | 0, h1, h2 => cases h1; cases h2; exact ⟨b2, rfl, hb2⟩
        | 1, h1, h2 => cases h1; cases h2; exact ⟨l', rfl, hl⟩
        | j + 2, h1, _ => simp at h1
      · intro j q n h1 h2
        match j, h1, h2 with
        | 0, h1, h2 => cases h1; cases h2; exact .no
        | 1, h1, h2 => cases h1; cases h2; exact .no
        | j + 2, h1, _ => simp at h1
      · exact deep_chk k (i + 1) n' (.ref b2) b2 a2 _ _ (by omega) (by omega) d' rfl hb2
theorem fout_deep {K : PySem.W.Frag} {H : Hp} {n : Nat} {x : Str} {v : V} (vx : VW x) (d : DpB H n v) (l : 12 ≤ n) : FOut K H (.str x) [] v (some ("deep", .int (12 : Nat))) [] := by
  obtain ⟨b, a, rfl, hb⟩ := d.one
  have hbl : BlV K H (.ref b) true := BlV.tup (K := K) hb
  exact .block (.ok (ys := []) vx (fun y h => by simp at h) (by simp) (by simp) hbl) rfl hb (by simp) (by simp) (deep_chk 12 0 n (.ref b) b a false [] rfl (by omega) d rfl hb)
end K2
end
section
set_option Elab.async false
set_option maxRecDepth 100000
set_option linter.all false
/-! _law_spoiled -/
namespace K2
open PySem L2 LamX
abbrev sSl : Stmt := top 60
abbrev nSl : List Str := ["_law_pen_here", "_law_word", "_law_calls", "_law_body", "_law_turn", "_law_way", "_law_k", "_law_new"]
/-- one of the right blocks -/
def tB1 : TE := fun σ H Q => ∃ (p c : Addr) (ns : List Int) (n : Nat) (x : Str), σ[0]? = some (some (.ref p)) ∧ σ[1]? = some (some (.str x)) ∧ Pen H p c ns n ∧ n ≤ 100000 ∧ VW x ∧ ∀ v H', RightB H' v → Keep p H H' → Pen H' p c ns (n + 1) → Q v H'
/-- one of those that are none -/
def tB2 (K : PySem.W.Frag) : TE := fun σ H Q => ∃ (p c : Addr) (ns : List Int) (n : Nat), σ[0]? = some (some (.ref p)) ∧ Pen H p c ns n ∧ n ≤ 100000 ∧ ∀ v H', BdV K H' v → Keep p H H' → Pen H' p c ns (n + 1) → Q v H'
def tNw : TE := fun σ H Q => ∃ (p c l : Addr) (ns : List Int) (n : Nat) (v : V) (cs : List V), σ[0]? = some (some (.ref p)) ∧ σ[1]? = some (some v) ∧ σ[2]? = some (some (.ref l)) ∧ Pen H p c ns n ∧ n + 40 ≤ 100000 ∧ It H p v ∧ H l = some (.lst cs) ∧ l ≠ p ∧ cs ≠ [] ∧ cs.length ≤ 10 ∧ (∀ c ∈ cs, It H p c) ∧
  ∀ v H', It H' p v → Keep p H H' → Pen H' p c ns (n + 22) → Q v H'
def spSl (K : PySem.W.Frag) : Sp := fun vs0 H Q _ => ∃ (p c l : Addr) (ns : List Int) (n : Nat) (x : Str) (cs : List V), vs0 = [.ref p, .str x, .ref l] ∧ Pen H p c ns n ∧ n + 100 ≤ 100000 ∧ VW x ∧ H l = some (.lst cs) ∧ l ≠ p ∧ cs.length ≤ 10 ∧ (∀ c ∈ cs, It H p c) ∧
  ∀ (t l' : Addr) (v bl : V) (cs' : List V) (H' : Hp), H' t = some (.tup [v, .ref l', bl]) → It H' p v → H' l' = some (.lst cs') → l' ≠ p → cs'.length = cs.length → (∀ c ∈ cs', It H' p c) → BdV K H' bl → Keep p H H' → Pen H' p c ns (n + 90) → Q (.ref t) H'
section
variable {P : Program} {w : World} {K : PySem.W.Frag} {mg : Str → Option Value} {base : Heap}
theorem scSl : FnScope nSl ["_law_pen_here", "_law_word", "_law_calls"] (defScope sSl) := ⟨rfl, rfl, rfl, by decide +kernel, rfl, by decide +kernel, by decide +kernel⟩
set_option maxHeartbeats 1000000 in
theorem ok_sl {f fD fP fO : Addr} {fd fdD fdP fdO : FuncData} (F : Fun K "_law_spoiled" "_law_spoiled" sSl f fd) (T : Bi mg) (D : Df K mg "_law_draw" sDraw fD fdD ["_law_pen_here", "_law_many"]) (GD : FnOk P w K mg base CX0 1 fD fdD ["_law_pen_here", "_law_many"] spDraw)
    (PK : Df K mg "_law_pick" sPick fP fdP ["_law_pen_here", "_law_some"]) (GP : FnOk P w K mg base CX0 2 fP fdP ["_law_pen_here", "_law_some"] spPick) (OD : Df K mg "_law_odd" sOdd fO fdO ["_law_pen_here"]) (GO : FnOk P w K mg base CX0 3 fO fdO ["_law_pen_here"] spOdd) :
    FnOk P w K mg base CX0 4 f fd ["_law_pen_here", "_law_word", "_law_calls"] (spSl K) := by
  refine F.ok scSl (fun vs H Q E h => ?_) (fun cdv A outer s H vs Q E hr h => ?_)
  · obtain ⟨p, c, l, ns, n, x, cs, rfl, _⟩ := h
    rfl
  · obtain ⟨p, c, l, ns, n, x, cs, rfl, P0, hn, vx, hl, nl, l10, hcs, kQ⟩ := h
    have hr1 : Room 1 _ := hr.mono (by decide)
    have hr2 : Room 2 _ := hr.mono (by decide)
    have hr3 : Room 3 _ := hr
    have hu := hu_of hr
    have hcu := Nat.lt_of_succ_lt hu
    refine ⟨_, (pss_cons (ps_set (i := 3) scSl.nd rfl (Or.inl rfl) (pe_imp (t' := tB1) (pe_call GP hr2 (by rfl) PK.m PK.F.kp PK.b .nil pass0 (pa_cons (pv 0) (pa_cons (pe_lst (pa_cons (pe_tup (pa_cons (pe_tup (pa_cons pe_str pa_nil)) pa_nil)) (pa_cons (pe_tup (pa_cons (pe_tup (pa_cons pe_str pa_nil)) (pa_cons (pe_tup (pa_cons pe_str pa_nil)) pa_nil))) (pa_cons (pe_tup (pa_cons (pe_tup (pa_cons pe_str (pa_cons (pv 1) pa_nil))) pa_nil)) pa_nil)))) pa_nil))) (fun σ H Q h => ?b1)))
      (pss_cons (ps_for PassesOwn.never rfl (pi_range1 rfl T.range (pa_cons (pe_call GD hr1 (by rfl) D.m D.F.kp D.b .nil pass0 (pa_cons (pv 0) (pa_cons pe_int pa_nil))) pa_nil)) (pg_name (i := 4) scSl.nd rfl (Or.inl rfl))
      (pss_cons (ps_set (i := 5) scSl.nd rfl (Or.inl rfl) (pe_call GD hr1 (by rfl) D.m D.F.kp D.b .nil pass0 (pa_cons (pv 0) (pa_cons pe_int pa_nil))))
        (pss_one (ps_if (pt_cmpR op_eq (pv 5) pe_int (nomark _))
        (pss_one (ps_set (i := 1) scSl.nd rfl (Or.inl rfl) (pe_call GO hr3 (by rfl) OD.m OD.F.kp OD.b .nil pass0 (pa_cons (pv 0) pa_nil))))
        (pss_one (ps_if (pt_cmpR op_eq (pv 5) pe_int (nomark _))
          (pss_one (ps_set (i := 3) scSl.nd rfl (Or.inl rfl) (pe_imp (t' := tB2 K) (pe_call GP hr2 (by rfl) PK.m PK.F.kp PK.b .nil pass0 (pa_cons (pv 0) (pa_cons (pe_lst (pa_cons (pe_tup pa_nil) (pa_cons (pe_lst (pa_cons (pe_tup (pa_cons pe_str pa_nil)) pa_nil)) (pa_cons pe_non (pa_cons pe_str (pa_cons pe_dnewK (pa_cons (pe_lst pa_nil) (pa_cons pe_int (pa_cons pe_bl (pa_cons (pe_lst (pa_cons (pe_tup pa_nil) pa_nil)) pa_nil)))))))))) pa_nil))) (fun σ H Q h => ?b2))))
          (pss_one (ps_if (pt_cmpR (op_neL0 hcu) (pv 2) (pe_lst pa_nil) (nomark _))
            (pss_cons (ps_set (i := 6) scSl.nd rfl (Or.inl rfl) (pe_call GD hr1 (by rfl) D.m D.F.kp D.b .nil pass0 (pa_cons (pv 0) (pa_cons (pe_callB call_len_seq (by rfl) T.len PySem.boot_len (pa_cons (pv 2) pa_nil)) pa_nil))))
              (pss_cons (ps_set (i := 7) scSl.nd rfl (Or.inl rfl) (pe_imp (t' := tNw) (pe_call GP hr2 (by rfl) PK.m PK.F.kp PK.b .nil pass0 (pa_cons (pv 0) (pa_cons (pe_lst (pa_cons (pv 1) (pa_cons (pe_call GP hr2 (by rfl) PK.m PK.F.kp PK.b .nil pass0 (pa_cons (pv 0) (pa_cons (pv 2) pa_nil))) (pa_cons (pe_call GO hr3 (by rfl) OD.m OD.F.kp OD.b .nil pass0 (pa_cons (pv 0) pa_nil)) (pa_cons (pe_call GO hr3 (by rfl) OD.m OD.F.kp OD.b .nil pass0 (pa_cons (pv 0) pa_nil)) pa_nil))))) pa_nil))) (fun σ H Q h => ?nw)))
              (pss_one (ps_set (i := 2) scSl.nd rfl (Or.inl rfl) (pe_op op_cat (pe_op op_cat (pe_slice sl_list (pv 2) po_none (po_some (pv 6))) (pe_lst (pa_cons (pv 7) pa_nil))) (pe_slice sl_list (pv 2) (po_some (pe_op op_add (pv 6) pe_int)) po_none))))))
            pss_nil))))))))
      (pss_one (ps_ret (pe_tup (pa_cons (pv 1) (pa_cons (pv 2) (pa_cons (pv 3) pa_nil)))))))), ?_⟩
    case b1 =>
      obtain ⟨p, c, ns, n, x, h0, h1, P0, hn, vx, k⟩ := h
      refine ⟨_, h0, (by show 1 ≤ sizeLine; decide), fun t1 ht1 => ?_⟩
      have s1 : Same H (upd H t1 (.tup [V.str "pass"])) := (Same.refl H).put ht1
      have e1 : (upd H t1 (.tup [V.str "pass"])) t1 = some (.tup [V.str "pass"]) := upd_same
      generalize upd H t1 (.tup [V.str "pass"]) = H1 at s1 e1 ⊢
      refine ⟨(by show 1 ≤ sizeLine; decide), fun t2 ht2 => ?_⟩
      have s2 : Same H1 (upd H1 t2 (.tup [V.ref t1])) := (Same.refl H1).put ht2
      have e2 : (upd H1 t2 (.tup [V.ref t1])) t2 = some (.tup [V.ref t1]) := upd_same
      generalize upd H1 t2 (.tup [V.ref t1]) = H2 at s2 e2 ⊢
      refine ⟨(by show 1 ≤ sizeLine; decide), fun t3 ht3 => ?_⟩
      have s3 : Same H2 (upd H2 t3 (.tup [V.str "return"])) := (Same.refl H2).put ht3
      have e3 : (upd H2 t3 (.tup [V.str "return"])) t3 = some (.tup [V.str "return"]) := upd_same
      generalize upd H2 t3 (.tup [V.str "return"]) = H3 at s3 e3 ⊢
      refine ⟨(by show 1 ≤ sizeLine; decide), fun t4 ht4 => ?_⟩
      have s4 : Same H3 (upd H3 t4 (.tup [V.str "pass"])) := (Same.refl H3).put ht4
      have e4 : (upd H3 t4 (.tup [V.str "pass"])) t4 = some (.tup [V.str "pass"]) := upd_same
      generalize upd H3 t4 (.tup [V.str "pass"]) = H4 at s4 e4 ⊢
      refine ⟨(by show 2 ≤ sizeLine; decide), fun t5 ht5 => ?_⟩
      have s5 : Same H4 (upd H4 t5 (.tup [V.ref t3, V.ref t4])) := (Same.refl H4).put ht5
      have e5 : (upd H4 t5 (.tup [V.ref t3, V.ref t4])) t5 = some (.tup [V.ref t3, V.ref t4]) := upd_same
      generalize upd H4 t5 (.tup [V.ref t3, V.ref t4]) = H5 at s5 e5 ⊢
      refine ⟨_, h1, (by show 2 ≤ sizeLine; decide), fun t6 ht6 => ?_⟩
      have s6 : Same H5 (upd H5 t6 (.tup [V.str "call", V.str x])) := (Same.refl H5).put ht6
      have e6 : (upd H5 t6 (.tup [V.str "call", V.str x])) t6 = some (.tup [V.str "call", V.str x]) := upd_same
      generalize upd H5 t6 (.tup [V.str "call", V.str x]) = H6 at s6 e6 ⊢
      refine ⟨(by show 1 ≤ sizeLine; decide), fun t7 ht7 => ?_⟩
      have s7 : Same H6 (upd H6 t7 (.tup [V.ref t6])) := (Same.refl H6).put ht7
      have e7 : (upd H6 t7 (.tup [V.ref t6])) t7 = some (.tup [V.ref t6]) := upd_same
      generalize upd H6 t7 (.tup [V.ref t6]) = H7 at s7 e7 ⊢
      refine ⟨(by show 3 ≤ sizeLine; decide), fun q hq => ?_⟩
      have s07 := (((((s1.trans s2).trans s3).trans s4).trans s5).trans s6).trans s7
      have P7 := P0.same s07
      have nq : q ≠ p := (P7.pne hq).symm
      have s8 : Same H7 (upd H7 q (.lst [V.ref t2, V.ref t5, V.ref t7])) := (Same.refl H7).put hq
      have e8 : (upd H7 q (.lst [V.ref t2, V.ref t5, V.ref t7])) q = some (.lst [V.ref t2, V.ref t5, V.ref t7]) := upd_same
      generalize upd H7 q (.lst [V.ref t2, V.ref t5, V.ref t7]) = H8 at s8 e8 ⊢
      have r8 : ∀ v ∈ [V.ref t2, V.ref t5, V.ref t7], RightB H8 v := fun v hv => by
        have z7 := s7.trans s8
        have z6 := s6.trans z7
        have z5 := s5.trans z6
        have z4 := s4.trans z5
        have z3 := s3.trans z4
        have z2 := s2.trans z3
        simp only [List.mem_cons, List.not_mem_nil, or_false] at hv
        rcases hv with rfl | rfl | rfl
        · refine ⟨t2, _, rfl, z3 _ _ e2, by simp, by simp, fun y hy => ?_⟩
          rw [List.mem_singleton.mp hy]
          exact ⟨t1, rfl, .inl ⟨_, z2 _ _ e1, by simp⟩⟩
        · refine ⟨t5, _, rfl, z6 _ _ e5, by simp, by simp, fun y hy => ?_⟩
          simp only [List.mem_cons, List.not_mem_nil, or_false] at hy
          rcases hy with rfl | rfl
          · exact ⟨t3, rfl, .inl ⟨_, z4 _ _ e3, by simp⟩⟩
          · exact ⟨t4, rfl, .inl ⟨_, z5 _ _ e4, by simp⟩⟩
        · refine ⟨t7, _, rfl, s8 _ _ e7, by simp, by simp, fun y hy => ?_⟩
          rw [List.mem_singleton.mp hy]
          exact ⟨t6, rfl, .inr ⟨x, vx, z7 _ _ e6⟩⟩
      refine ⟨p, c, ns, n, _, _, rfl, P7.same s8, hn, .inl ⟨q, rfl, nq, e8⟩, by simp, (by show 3 ≤ 1000; decide), fun j v H9 hv k9 P9 => ?_⟩
      exact k v H9 ((r8 v (List.mem_of_getElem? hv)).sameT (KN.keep (P7.same s8) P9 k9).T) ((s07.trans s8).keep.trans k9) P9
    case b2 =>
      obtain ⟨p, c, ns, n, h0, P0, hn, k⟩ := h
      refine ⟨_, h0, Nat.zero_le _, fun t1 ht1 => ?_⟩
      have s1 : Same H (upd H t1 (.tup [])) := (Same.refl H).put ht1
      have e1 : (upd H t1 (.tup [])) t1 = some (.tup []) := upd_same
      generalize upd H t1 (.tup []) = H1 at s1 e1 ⊢
      refine ⟨(by show 1 ≤ sizeLine; decide), fun t2 ht2 => ?_⟩
      have s2 : Same H1 (upd H1 t2 (.tup [V.str "pass"])) := (Same.refl H1).put ht2
      generalize upd H1 t2 (.tup [V.str "pass"]) = H2 at s2 ⊢
      refine ⟨(by show 1 ≤ sizeLine; decide), fun t3 ht3 => ?_⟩
      have s3 : Same H2 (upd H2 t3 (.lst [V.ref t2])) := (Same.refl H2).put ht3
      have e3 : (upd H2 t3 (.lst [V.ref t2])) t3 = some (.lst [V.ref t2]) := upd_same
      generalize upd H2 t3 (.lst [V.ref t2]) = H3 at s3 e3 ⊢
      refine fun t4 ht4 => ?_
      have s4 : Same H3 (upd H3 t4 (.dK [])) := (Same.refl H3).put ht4
      have e4 : (upd H3 t4 (.dK [])) t4 = some (.dK []) := upd_same
      generalize upd H3 t4 (.dK []) = H4 at s4 e4 ⊢
      refine ⟨Nat.zero_le _, fun t5 ht5 => ?_⟩
      have s5 : Same H4 (upd H4 t5 (.lst [])) := (Same.refl H4).put ht5
      have e5 : (upd H4 t5 (.lst [])) t5 = some (.lst []) := upd_same
      generalize upd H4 t5 (.lst []) = H5 at s5 e5 ⊢
      refine ⟨Nat.zero_le _, fun t6 ht6 => ?_⟩
      have s6 : Same H5 (upd H5 t6 (.tup [])) := (Same.refl H5).put ht6
      generalize upd H5 t6 (.tup []) = H6 at s6 ⊢
      refine ⟨(by show 1 ≤ sizeLine; decide), fun t7 ht7 => ?_⟩
      have s7 : Same H6 (upd H6 t7 (.lst [V.ref t6])) := (Same.refl H6).put ht7
      have e7 : (upd H6 t7 (.lst [V.ref t6])) t7 = some (.lst [V.ref t6]) := upd_same
      generalize upd H6 t7 (.lst [V.ref t6]) = H7 at s7 e7 ⊢
      refine ⟨(by show 9 ≤ sizeLine; decide), fun q hq => ?_⟩
      have s07 := (((((s1.trans s2).trans s3).trans s4).trans s5).trans s6).trans s7
      have P7 := P0.same s07
      have nq : q ≠ p := (P7.pne hq).symm
      have s8 : Same H7 (upd H7 q (.lst [V.ref t1, .ref t3, .non, .str "pass", .ref t4, .ref t5, .int 7, .bl true, .ref t7])) := (Same.refl H7).put hq
      have e8 : (upd H7 q (.lst [V.ref t1, .ref t3, .non, .str "pass", .ref t4, .ref t5, .int 7, .bl true, .ref t7])) q = some (.lst [V.ref t1, .ref t3, .non, .str "pass", .ref t4, .ref t5, .int 7, .bl true, .ref t7]) := upd_same
      have r8 : ∀ v ∈ [V.ref t1, .ref t3, .non, .str "pass", .ref t4, .ref t5, .int 7, .bl true, .ref t7], BlV K H7 v false := fun v hv => by
        have z6 := s6.trans s7
        have z5 := s5.trans z6
        have z4 := s4.trans z5
        have z2 := s2.trans (s3.trans z4)
        simp only [List.mem_cons, List.not_mem_nil, or_false] at hv
        rcases hv with rfl | rfl | rfl | rfl | rfl | rfl | rfl | rfl | rfl
        · exact BlV.tup (K := K) (z2 _ _ e1)
        · exact .no (.base (.lst (z4 _ _ e3))) (kit_ty (by decide +kernel))
        · exact .no (.base .non) (kit_ty (by decide +kernel))
        · exact .no (.base (.str _)) (kit_ty (by decide +kernel))
        · exact .no (.base (.dK (z5 _ _ e4))) (kit_ty (by decide +kernel))
        · exact .no (.base (.lst (z6 _ _ e5))) (kit_ty (by decide +kernel))
        · exact .no (.base (.int _)) (kit_ty (by decide +kernel))
        · exact .no (.base (.bl _)) (kit_ty (by decide +kernel))
        · exact .no (.base (.lst e7)) (kit_ty (by decide +kernel))
      generalize upd H7 q (.lst [V.ref t1, .ref t3, .non, .str "pass", .ref t4, .ref t5, .int 7, .bl true, .ref t7]) = H8 at s8 e8 ⊢
      refine ⟨p, c, ns, n, _, _, rfl, P7.same s8, hn, .inl ⟨q, rfl, nq, e8⟩, by simp, (by show 9 ≤ 1000; decide), fun j v H9 hv k9 P9 => ?_⟩
      exact k v H9 (.inr (((r8 v (List.mem_of_getElem? hv)).same s8).kn (KN.keep (P7.same s8) P9 k9))) ((s07.trans s8).keep.trans k9) P9
    case nw =>
      obtain ⟨p, c, l, ns, n, v, cs, h0, h1, h2, P0, hn, iv, hl, nl, ne, l10, hcs, k⟩ := h
      refine ⟨_, h0, _, h1, _, h0, _, h2, p, c, ns, n, _, cs, rfl, P0, by omega, .inl ⟨l, rfl, nl, hl⟩, ne, by omega, fun j u H1 hu k1 P1 => ?_⟩
      have iu := (hcs u (List.mem_of_getElem? hu)).keep k1
      refine ⟨_, h0, p, c, ns, n + 1, rfl, P1, by omega, fun u2 H2 iu2 k2 P2 => ⟨_, h0, p, c, ns, n + 1 + 10, rfl, P2, by omega, fun u3 H3 iu3 k3 P3 => ?_⟩⟩
      refine ⟨(by show 4 ≤ sizeLine; decide), fun q hq => ?_⟩
      have nq : q ≠ p := (P3.pne hq).symm
      have i4 : ∀ z ∈ [v, u, u2, u3], It H3 p z := fun z hz => by
        simp only [List.mem_cons, List.not_mem_nil, or_false] at hz
        rcases hz with rfl | rfl | rfl | rfl
        · exact iv.keep ((k1.trans k2).trans k3)
        · exact iu.keep (k2.trans k3)
        · exact iu2.keep k3
        · exact iu3
      have s4 : Same H3 (upd H3 q (.lst [v, u, u2, u3])) := (Same.refl H3).put hq
      refine ⟨p, c, ns, n + 1 + 10 + 10, _, _, rfl, P3.same s4, by omega, .inl ⟨q, rfl, nq, upd_same⟩, by simp, (by show 4 ≤ 1000; decide), fun j z H5 hz k5 P5 => ?_⟩
      exact k z H5 ((i4 z (List.mem_of_getElem? hz)).keep (s4.keep.trans k5)) ((((k1.trans k2).trans k3).trans s4.keep).trans k5) P5
    refine ⟨p, c, ns, n, x, rfl, rfl, P0, by omega, vx, fun bl0 H1 rb1 k1 P1 => ?_⟩
    refine ⟨_, rfl, p, c, ns, n + 1, 4, rfl, P1, by omega, by decide, by decide, fun dt H2 t0 t1 k2 P2 => ?_⟩
    obtain ⟨tn, rfl⟩ : ∃ j : Nat, dt = (j : Int) := ⟨dt.toNat, (Int.toNat_of_nonneg t0).symm⟩
    have ht : tn < 4 := by omega
    refine ⟨_, rfl, by omega, by omega, for_range (lo := 0) (n := tn) (fun i σ Hc => ∃ (v bl : V) (l' : Addr) (cs' : List V) (v4 v5 v6 v7 : Option V), σ = [some (.ref p), some v, some (.ref l'), some bl, v4, v5, v6, v7] ∧ It Hc p v ∧ Hc l' = some (.lst cs') ∧ l' ≠ p ∧ cs'.length = cs.length ∧ (∀ c ∈ cs', It Hc p c) ∧ BdV K Hc bl ∧ Keep p H Hc ∧ Pen Hc p c ns (n + 2 + 26 * i)) ?_ ?_ ?_⟩
    · have k02 := k1.trans k2
      exact ⟨_, _, _, cs, _, _, _, _, rfl, .str x (Nat.le_trans (by rw [len_codes]; exact vx.le) (by decide : 8 ≤ sizeLine)), k02 _ _ hl nl, nl, rfl, fun c hc => (hcs c hc).keep k02, .inl (rb1.sameT (KN.keep P1 P2 k2).T), k02, P2⟩
    · rintro i σ Hc hi ⟨v, bl, l', cs', v4, v5, v6, v7, rfl, iv, hl', nl', el', hcs', hbl, kc, Pc⟩
      have i3 : i ≤ 2 := by omega
      refine ⟨_, rfl, p, c, ns, _, 6, rfl, Pc, by omega, by decide, by decide, fun dw H3 d0 d1 k3 P3 => ?_⟩
      have hl3 := k3 _ _ hl' nl'
      have iv3 := iv.keep k3
      have ic3 : ∀ c ∈ cs', It H3 p c := fun c hc => (hcs' c hc).keep k3
      have hb3 := hbl.kn (KN.keep Pc P3 k3)
      have kc3 := kc.trans k3
      refine ⟨_, rfl, rfl, _, rfl, ite2 (fun z => ?_) (fun z => ?_)⟩
      · refine ⟨_, rfl, p, c, ns, _, rfl, P3, by omega, fun u H4 iu k4 P4 => ?_⟩
        exact ⟨_, _, _, cs', _, _, _, _, rfl, iu, k4 _ _ hl3 nl', nl', el', fun c hc => (ic3 c hc).keep k4, hb3.kn (KN.keep P3 P4 k4), kc3.trans k4, P4.mono (by omega)⟩
      refine ⟨_, rfl, rfl, _, rfl, ite2 (fun z2 => ?_) (fun z2 => ?_)⟩
      · refine ⟨p, c, ns, _, rfl, P3, by omega, fun u H4 bu k4 P4 => ?_⟩
        exact ⟨_, _, _, cs', _, _, _, _, rfl, iv3.keep k4, k4 _ _ hl3 nl', nl', el', fun c hc => (ic3 c hc).keep k4, bu, kc3.trans k4, P4.mono (by omega)⟩
      refine ⟨_, rfl, Nat.zero_le _, fun e0 he0 => ?_⟩
      have s4 : Same H3 (upd H3 e0 (.lst [])) := (Same.refl H3).put he0
      have P4 := P3.same s4
      refine ⟨l', e0, _, rfl, rfl, SqL.of (s4 _ _ hl3), SqL.of upd_same, _, rfl, ite2 (fun h0 => ?_) (fun h0 => ?_)⟩
      case refine_2 =>
        generalize upd H3 e0 (.lst []) = H4 at s4 P4 ⊢
        have k4 : Keep p H3 H4 := s4.keep
        exact ⟨_, _, _, cs', _, _, _, _, rfl, iv3.keep k4, s4 _ _ hl3, nl', el', fun c hc => (ic3 c hc).keep k4, hb3.kn (KN.keep P3 P4 k4), kc3.trans k4, P4.mono (by omega)⟩
      case refine_1 =>
        generalize upd H3 e0 (.lst []) = H4 at s4 P4 ⊢
        have k4 : Keep p H3 H4 := s4.keep
        have ne : cs' ≠ [] := fun e => by rw [e] at h0; cases h0
        have hpos : 0 < cs'.length := List.length_pos_iff.mpr ne
        refine ⟨_, rfl, _, rfl, l', _, rfl, .inl (SqL.of (s4 _ _ hl3)), p, c, ns, _, _, rfl, P4, by omega, by omega, by omega, fun dk H5 k0 k1' k5 P5 => ?_⟩
        obtain ⟨k, rfl⟩ : ∃ j : Nat, dk = (j : Int) := ⟨dk.toNat, (Int.toNat_of_nonneg k0).symm⟩
        have hk : k < cs'.length := by omega
        have k35 := k4.trans k5
        have hl5 := k35 _ _ hl3 nl'
        refine ⟨p, c, l', ns, _, v, cs', rfl, rfl, rfl, P5, by omega, iv3.keep k35, hl5, nl', ne, by omega, fun c hc => (ic3 c hc).keep k35, fun u H6 iu k6 P6 => ?_⟩
        have k36 := k35.trans k6
        have hl6 := k36 _ _ hl3 nl'
        refine ⟨_, rfl, _, rfl, _, rfl, l', _, rfl, SqL.of hl6, fun q1 hq1 => ?_⟩
        rw [cutV_to]
        have s7 : Same H6 (upd H6 q1 (.lst (cs'.take k))) := (Same.refl H6).put hq1
        have e7 : (upd H6 q1 (.lst (cs'.take k))) q1 = some (.lst (cs'.take k)) := upd_same
        generalize upd H6 q1 (.lst (cs'.take k)) = H7 at s7 e7 ⊢
        refine ⟨_, rfl, (by show 1 ≤ sizeLine; decide), fun q2 hq2 => ?_⟩
        have s8 : Same H7 (upd H7 q2 (.lst [u])) := (Same.refl H7).put hq2
        have e8 : (upd H7 q2 (.lst [u])) q2 = some (.lst [u]) := upd_same
        generalize upd H7 q2 (.lst [u]) = H8 at s8 e8 ⊢
        refine ⟨q1, q2, _, _, rfl, rfl, s8 _ _ e7, e8, by rw [List.length_take]; show _ + 1 ≤ 16777216; omega, fun q3 hq3 => ?_⟩
        have s9 : Same H8 (upd H8 q3 (.lst (cs'.take k ++ [u]))) := (Same.refl H8).put hq3
        have e9 : (upd H8 q3 (.lst (cs'.take k ++ [u]))) q3 = some (.lst (cs'.take k ++ [u])) := upd_same
        generalize upd H8 q3 (.lst (cs'.take k ++ [u])) = H9 at s9 e9 ⊢
        have s69 := (s7.trans s8).trans s9
        refine ⟨_, rfl, _, rfl, _, _, rfl, rfl, _, rfl, l', _, rfl, SqL.of (s69 _ _ hl6), fun q4 hq4 => ?_⟩
        rw [show ((k : Int) + 1) = ((k + 1 : Nat) : Int) from rfl, cutV_from]
        have s10 : Same H9 (upd H9 q4 (.lst (cs'.drop (k + 1)))) := (Same.refl H9).put hq4
        have e10 : (upd H9 q4 (.lst (cs'.drop (k + 1)))) q4 = some (.lst (cs'.drop (k + 1))) := upd_same
        generalize upd H9 q4 (.lst (cs'.drop (k + 1))) = H10 at s10 e10 ⊢
        have ll : ((cs'.take k ++ [u]) ++ cs'.drop (k + 1)).length = cs'.length := by
          rw [List.length_append, List.length_append, List.length_take, List.length_drop]
          show min k cs'.length + 1 + _ = _
          omega
        refine ⟨q3, q4, _, _, rfl, rfl, s10 _ _ e9, e10, by rw [← List.length_append, ll]; show _ ≤ 16777216; omega, fun q5 hq5 => ?_⟩
        have s610 := s69.trans s10
        have P10 := P6.same s610
        have nq5 : q5 ≠ p := (P10.pne hq5).symm
        have s11 : Same H10 (upd H10 q5 (.lst ((cs'.take k ++ [u]) ++ cs'.drop (k + 1)))) := (Same.refl H10).put hq5
        have e11 : (upd H10 q5 (.lst ((cs'.take k ++ [u]) ++ cs'.drop (k + 1)))) q5 = some (.lst ((cs'.take k ++ [u]) ++ cs'.drop (k + 1))) := upd_same
        generalize upd H10 q5 (.lst ((cs'.take k ++ [u]) ++ cs'.drop (k + 1))) = H11 at s11 e11 ⊢
        have s611 := s610.trans s11
        have P11 := P6.same s611
        have k311 := k36.trans s611.keep
        refine ⟨_, _, _, _, _, _, _, _, rfl, iv3.keep k311, e11, nq5, by rw [ll, el'], fun z hz => ?_, hb3.kn (KN.keep P3 P11 k311), kc3.trans k311, P11.mono (by omega)⟩
        rcases List.mem_append.mp hz with hz | hz
        · rcases List.mem_append.mp hz with hz | hz
          · exact (ic3 z (List.mem_of_mem_take hz)).keep k311
          · rw [List.mem_singleton.mp hz]; exact iu.keep s611.keep
        · exact (ic3 z (List.mem_of_mem_drop hz)).keep k311
    · rintro σ Hc ⟨v, bl, l', cs', v4, v5, v6, v7, rfl, iv, hl', nl', el', hcs', hbl, kc, Pc⟩
      refine ⟨_, rfl, _, rfl, _, rfl, (by show 3 ≤ sizeLine; decide), fun t ht => ?_⟩
      have s1 : Same Hc (upd Hc t (.tup [v, .ref l', bl])) := (Same.refl Hc).put ht
      exact kQ t l' v bl cs' _ upd_same (iv.keep s1.keep) (s1 _ _ hl') nl' el' (fun c hc => (hcs' c hc).keep s1.keep) (hbl.kn (KN.keep Pc (Pc.same s1) s1.keep)) (kc.trans s1.keep) ((Pc.same s1).mono (by omega))
end
end K2
end
section
set_option Elab.async false
set_option maxRecDepth 100000
set_option linter.all false
/-! _law_asked -/
namespace K2
open PySem L2 LamX PySem.Spec PyProof.Rows
abbrev sAs : Stmt := top 59
abbrev nAs : List Str := ["_law_word", "_law_calls", "_law_body"]
abbrev qAs : Str := Str.ofString "_law_asked" ++ ".<locals>." ++ "<lambda>"
abbrev qDp : Str := Str.ofString "_law_is_too_deep" ++ ".<locals>." ++ "<lambda>"
abbrev qLaw : Str := Str.ofString "law" ++ ".<locals>." ++ "<lambda>"
abbrev T0 (PA PD PL : Addr) : List (Addr × Str) := [(PA, qAs), (PD, qDp), (PL, qLaw)]
/-- what _law_heard tells -/
def HeF (C : Addr) (H : Hp) (v bl : V) (cs : List V) (o : Option (Str × V)) (hv : V) : Prop := (o = none ∧ ∃ a f dx ct st, hv = .ref a ∧ H a = some (.lst [.ref f]) ∧ H f = some (.ins C dx (ffl v (.ref ct) bl (.ref st))) ∧ H ct = some (.tup cs)) ∨
  ∃ r pl t, o = some (r, pl) ∧ hv = .ref t ∧ H t = some (.tup [.str "FUNCTION", .str r, pl])
def QL (Q : VK) : VK := fun v H' => [v].length ≤ sizeLine ∧ ∀ p, H' p = none → Q (.ref p) (upd H' p (.lst [v]))
theorem KN.lst {l : Addr} {xs : List V} {H H' : Hp} (hl : H l = some (.lst xs)) (x : ExtN H H') : KN l H H' := ⟨fun b o h _ n => x b o h n, ⟨_, hl⟩, ⟨_, x _ _ hl (by nofun)⟩⟩
theorem nfF_lk (r : Str) (pl : V) : (nfF r pl).lookup ("reason" : Str) = some (.str r) ∧ (nfF r pl).lookup ("place" : Str) = some pl := ⟨rfl, rfl⟩
/-- the error that is heard -/
theorem he_err {K : PySem.W.Frag} {cl : Str → Addr} {C CN : Addr} (hF : OfFun K cl CN) {H : Hp} {v bl : V} {cs : List V} {o : Option (Str × V)} {r : Str} {pl : V} {Q : VK} (eo : o = some (r, pl)) (k : ∀ hv Hk, Same H Hk → HeF C Hk v bl cs o hv → Q hv Hk) {d : Addr} {H' : Hp} (s : Same H H') (hd : H' d = some (.xd (nfF r pl))) : HMF K cl Q (.ref CN) (some d) H' :=
  ⟨CN, d, _, _, _, rfl, rfl, hd, hF, (nfF_lk r pl).1, (nfF_lk r pl).2, fun t Hk sk ht => k _ _ (s.trans sk) (.inr ⟨r, pl, t, eo, rfl, ht⟩)⟩
theorem he_fun {H : Hp} {C : Addr} {v bl : V} {cs : List V} {o : Option (Str × V)} {Q : VK} (eo : o = none) (k : ∀ hv Hk, Same H Hk → HeF C Hk v bl cs o hv → Q hv Hk) {p dx ct st : Addr} {H' : Hp} (s : Same H H') (e1 : H' p = some (.ins C dx (ffl v (.ref ct) bl (.ref st)))) (e2 : H' ct = some (.tup cs)) : QL Q (.ref p) H' := by
  refine ⟨(by show 1 ≤ 16777216; decide), fun q hq => ?_⟩
  have s2 : Same H' (upd H' q (.lst [.ref p])) := (Same.refl H').put hq
  exact k _ _ (s.trans s2) (.inl ⟨eo, q, p, dx, ct, st, rfl, upd_same, s2 _ _ e1, s2 _ _ e2⟩)
/-- a Function is asked for, and what comes of it is heard -/
theorem he_new {K : PySem.W.Frag} {cl : Str → Addr} {C CN : Addr} (hF : OfFun K cl CN) {H : Hp} {v bl : V} {cs ys : List V} {o : Option (Str × V)} {Q : VK} {R : Addr → VK} (lc : cs.length ≤ 500) (fo : FOut K H v cs bl o ys) (hR : ∀ x u H2, u = .non → QL Q (.ref x) H2 → R x u H2) (k : ∀ hv Hk, Same H Hk → HeF C Hk v bl cs o hv → Q hv Hk) :
    ∀ x dx, H x = none → H dx = none → dx ≠ x → spFIR K C CN bl (V.ref x :: v :: cs) (upd (upd H dx (.own x)) x (.ins C dx [])) (R x) (HMF K cl Q) := by
  intro x dx n1 n2 ne
  obtain ⟨ws, rest, e, l1, l2, hp⟩ := fi_new (K := K) (CN := CN) (Q := QL Q) (E := HMF K cl Q) lc fo (fun eo p dx ct st H' s _ e1 e2 _ => he_fun eo k s e1 e2) (fun r pl eo dd H' s hd => he_err hF eo k s hd) x dx n1 n2 ne
  refine ⟨ws, rest, e, l1, l2, fun q hq => ?_⟩
  obtain ⟨p', dx', ct, v', bl', cs', o', ys', a1, a2, a3, a4, a5, a6, a7⟩ := hp q hq
  exact ⟨p', dx', ct, v', bl', cs', o', ys', a1, a2, a3, a4, a5, fun eo st H' g1 g2 g3 => (hR _ _ _ (a6 eo st H' g1 g2 g3).1 (a6 eo st H' g1 g2 g3).2), a7⟩
def spAs (K : PySem.W.Frag) (C : Addr) (T : List (Addr × Str)) : Sp := fun vs H Q _ => ∃ (v bl : V) (l : Addr) (cs ys : List V) (o : Option (Str × V)), vs = [v, .ref l, bl] ∧ H l = some (.lst cs) ∧ cs.length ≤ 3 ∧ FOut K H v cs bl o ys ∧ Tabs T H ∧
  ∀ hv H', ExtN H H' → Tabs T H' → HeF C H' v bl cs o hv → Q hv H'
section
variable {P : Program} {w : World} {K : PySem.W.Frag} {mg : Str → Option Value} {base : Heap}
theorem okGc {x qual : Str} {st : Stmt} {f c : Addr} {fd : FuncData} {N ps : List Str} {k : Nat} {sp : Sp} (F : Fun K x qual st f fd) (hc : fd.code = .ref c) (S : FnScope N ps (defScope st)) (len : ∀ vs H Q E, sp vs H Q E → vs.length = ps.length)
    (body : ∀ (A : Around) (outer : List Env) (s : Shared) (H : Hp) (vs : List V) (Q : VK) (E : XK), Room k (A.deeper (PyProof.Rows.envOfC qual (defScope st) s.heap.objs.size f (.ref c))) → A.guards = some [] → sp vs H Q E →
      ∃ t, PSs (cxOf CX0 P w K mg base N qual (defScope st) f (.ref c) A outer s H E).nox (defBody st) t ∧ t { nx := fun _ H' => Q .non H', rt := Q } (start N vs) H) : FnG P w K mg base (k + 1) f fd ps sp := by
  obtain ⟨oc, od, kV, doc, pm, an, cdv, ct, osl, rfl, lk, hcd⟩ := F.ex
  obtain rfl : cdv = .ref c := hc
  refine ⟨len, fun A outer s H args us vs Q E hr hg e0 hb rv hs => ?_⟩
  refine StX.run_bnd (G := fun xs H2 => xs = vs ∧ H2 = H) lk hcd S hr e0 (fun A' Ex Q' h => hb _ _ _ _ (h s H vs us e0 Un.refl rfl (fun _ _ z => z) rv (len _ _ _ _ hs) ⟨rfl, rfl⟩)) fun s2 H2 xs ⟨e1, e2⟩ hr2 => ?_
  subst e1 e2
  obtain ⟨t, h1, h2⟩ := body A outer s2 _ _ Q E hr2 hg hs
  exact ⟨t, h1.nox, h2⟩
theorem scAs : FnScope nAs ["_law_word", "_law_calls", "_law_body"] (defScope sAs) := ⟨rfl, rfl, rfl, by decide +kernel, rfl, by decide +kernel, by decide +kernel⟩
set_option maxHeartbeats 2000000 in
theorem ok_as {f fHe fI C CN c PA PD PL : Addr} {cl : Str → Addr} {fd fdHe : FuncData} (F : Fun K "_law_asked" "_law_asked" sAs f fd) (hc : fd.code = .ref c) (TB : TabB base mg c PA) (n1 : PA ≠ PD) (n2 : PA ≠ PL) (T : Bi mg) (tVE : mg "ValueError" = none) (hcl : ∀ x ∈ errs, mg x = some (.ref (cl x))) (hF : OfFun K cl CN) (Y : FnT K mg C) (M : Mk K C fI)
    (HE : Df K mg "_law_heard" sHeard fHe fdHe ["_law_ask"]) (GI : FnRK P w K mg base (L2.CX P w) 9 fI "block" (spFIR K C CN)) : FnG P w K mg base 13 f fd ["_law_word", "_law_calls", "_law_body"] (spAs K C (T0 PA PD PL)) := by
  obtain ⟨hoc, hod, hkV, hdoc, hpm, han, hcdv, hct, hosl, rfl, hlk, hhcd⟩ := HE.F.ex
  refine okGc F hc scAs (fun vs H Q E h => ?_) (fun A outer s H vs Q E hr gu h => ?_)
  · obtain ⟨v, bl, l, cs, ys, o, rfl, _⟩ := h
    rfl
  · obtain ⟨v, bl, l, cs, ys, o, rfl, hl, l3, fo, tb, k⟩ := h
    have huA : ∀ q ∈ T0 PA PD PL, q.1 = PA → q.2 = qAs := fun q hq e => by
      simp only [List.mem_cons, List.not_mem_nil, or_false] at hq
      rcases hq with rfl | rfl | rfl
      · rfl
      · exact absurd e n1.symm
      · exact absurd e n2.symm
    refine ⟨_, (pss_cons (ps_if (pt_cmpR op_eq (pe_callB call_len_seq (by rfl) T.len PySem.boot_len (pa_cons (pv 1) pa_nil)) pe_int (nomark _))
      (pss_one (ps_ret (pe_lamcall (T := T0 PA PD PL) (k := 10) (by rfl) HE.m HE.F.kp hlk hhcd HE.b scHeard rfl (Or.inl rfl) (heard_givesF T tVE hcl) TB rfl List.mem_cons_self huA hr (lamS_by (show lamSB (defScope sAs) _ = true by decide +kernel)) rfl (fun _ _ _ _ _ => rfl)
          (fun A outer s H E f c' hr' => pe_makeRK M GI hr' (by rfl) Y.mgC (passes_call (takes_of rfl rfl rfl rfl) fun _ _ _ _ h => h) (pa_cons (pv 0) pa_nil) (pk_cons (pv 2) pk_nil)))))
      pss_nil)
      (pss_cons (ps_if (pt_cmpR op_eq (pe_callB call_len_seq (by rfl) T.len PySem.boot_len (pa_cons (pv 1) pa_nil)) pe_int (nomark _))
      (pss_one (ps_ret (pe_lamcall (T := T0 PA PD PL) (k := 10) (by rfl) HE.m HE.F.kp hlk hhcd HE.b scHeard rfl (Or.inl rfl) (heard_givesF T tVE hcl) TB rfl List.mem_cons_self huA hr (lamS_by (show lamSB (defScope sAs) _ = true by decide +kernel)) rfl (fun _ _ _ _ _ => rfl)
          (fun A outer s H E f c' hr' => pe_makeRK M GI hr' (by rfl) Y.mgC (passes_call (takes_of rfl rfl rfl rfl) fun _ _ _ _ h => h) (pa_cons (pv 0) (pa_cons (pe_ix (ix_listK (K' := K) rfl) (pv 1) pe_int (fun _ _ => rfl)) pa_nil)) (pk_cons (pv 2) pk_nil)))))
      pss_nil)
      (pss_cons (ps_if (pt_cmpR op_eq (pe_callB call_len_seq (by rfl) T.len PySem.boot_len (pa_cons (pv 1) pa_nil)) pe_int (nomark _))
      (pss_one (ps_ret (pe_lamcall (T := T0 PA PD PL) (k := 10) (by rfl) HE.m HE.F.kp hlk hhcd HE.b scHeard rfl (Or.inl rfl) (heard_givesF T tVE hcl) TB rfl List.mem_cons_self huA hr (lamS_by (show lamSB (defScope sAs) _ = true by decide +kernel)) rfl (fun _ _ _ _ _ => rfl)
          (fun A outer s H E f c' hr' => pe_makeRK M GI hr' (by rfl) Y.mgC (passes_call (takes_of rfl rfl rfl rfl) fun _ _ _ _ h => h) (pa_cons (pv 0) (pa_cons (pe_ix (ix_listK (K' := K) rfl) (pv 1) pe_int (fun _ _ => rfl)) (pa_cons (pe_ix (ix_listK (K' := K) rfl) (pv 1) pe_int (fun _ _ => rfl)) pa_nil))) (pk_cons (pv 2) pk_nil)))))
      pss_nil)
      (pss_one (ps_ret (pe_lamcall (T := T0 PA PD PL) (k := 10) (by rfl) HE.m HE.F.kp hlk hhcd HE.b scHeard rfl (Or.inl rfl) (heard_givesF T tVE hcl) TB rfl List.mem_cons_self huA hr (lamS_by (show lamSB (defScope sAs) _ = true by decide +kernel)) rfl (fun _ _ _ _ _ => rfl)
          (fun A outer s H E f c' hr' => pe_makeRK M GI hr' (by rfl) Y.mgC (passes_call (takes_of rfl rfl rfl rfl) fun _ _ _ _ h => h) (pa_cons (pv 0) (pa_cons (pe_ix (ix_listK (K' := K) rfl) (pv 1) pe_int (fun _ _ => rfl)) (pa_cons (pe_ix (ix_listK (K' := K) rfl) (pv 1) pe_int (fun _ _ => rfl)) (pa_cons (pe_ix (ix_listK (K' := K) rfl) (pv 1) pe_int (fun _ _ => rfl)) pa_nil)))) (pk_cons (pv 2) pk_nil)))))))), ?_⟩
    have no : ∀ {k : Int}, (cs.length : Int) ≠ k → ¬ (decide (V.int (cs.length : Int) = V.int k) = true) := fun h q => h (V.int.inj (of_decide_eq_true q))
    have fin : ∀ {H1 : Hp} (_ : ExtN H H1) (_ : Tabs (T0 PA PD PL) H1), ∀ hv Hk, Same H1 Hk → HeF C Hk v bl cs o hv → Q hv Hk := fun x1 tb1 hv Hk sk hh => k hv Hk (x1.trans (ExtN.of sk)) (Tabs.same tb1 sk) hh
    have fo1 : ∀ {H1 : Hp}, ExtN H H1 → FOut K H1 v cs bl o ys := fun x => fo.kn (KN.lst hl x)
    have hl1 : ∀ {H1 : Hp}, ExtN H H1 → H1 l = some (.lst cs) := fun x => x _ _ hl (by nofun)
    refine ⟨_, rfl, l, _, rfl, .inl (SqL.of hl), rfl, _, rfl, ite2 (fun z => ?_) (fun z => ?_)⟩
    · have e0 : cs = [] := List.length_eq_zero_iff.mp (by have := V.int.inj (of_decide_eq_true z); omega)
      subst e0
      exact ⟨tb, fun H1 x1 tb1 => ⟨_, rfl, _, rfl, bl, rfl, he_new (K := K) (CN := CN) hF (by simp) (fo1 x1) (fun x u H2 e h => ⟨e, h⟩) (fin x1 tb1)⟩⟩
    refine ⟨_, rfl, l, _, rfl, .inl (SqL.of hl), rfl, _, rfl, ite2 (fun z => ?_) (fun z => ?_)⟩
    · obtain ⟨a, rfl⟩ : ∃ a, cs = [a] := List.length_eq_one_iff.mp (by have := V.int.inj (of_decide_eq_true z); omega)
      exact ⟨tb, fun H1 x1 tb1 => ⟨_, rfl, _, rfl, l, _, _, _, rfl, rfl, SqL.of (hl1 x1), rfl, _, rfl, bl, rfl, he_new (K := K) (CN := CN) hF (by simp) (fo1 x1) (fun x u H2 e h => ⟨e, h⟩) (fin x1 tb1)⟩⟩
    refine ⟨_, rfl, l, _, rfl, .inl (SqL.of hl), rfl, _, rfl, ite2 (fun z => ?_) (fun z => ?_)⟩
    · obtain ⟨a, b, rfl⟩ : ∃ a b, cs = [a, b] := by
        have e2 : cs.length = 2 := by have := V.int.inj (of_decide_eq_true z); omega
        match cs, e2 with
        | [a, b], _ => exact ⟨a, b, rfl⟩
      exact ⟨tb, fun H1 x1 tb1 => ⟨_, rfl, _, rfl, l, _, _, _, rfl, rfl, SqL.of (hl1 x1), rfl, _, rfl, l, _, _, _, rfl, rfl, SqL.of (hl1 x1), rfl, _, rfl, bl, rfl, he_new (K := K) (CN := CN) hF (by simp) (fo1 x1) (fun x u H2 e h => ⟨e, h⟩) (fin x1 tb1)⟩⟩
    · obtain ⟨a, b, d, rfl⟩ : ∃ a b d, cs = [a, b, d] := by
        rename_i z0 z1
        have i0 : cs.length ≠ 0 := fun e => z0 (by rw [e]; exact decide_eq_true rfl)
        have i1 : cs.length ≠ 1 := fun e => z1 (by rw [e]; exact decide_eq_true rfl)
        have i2 : cs.length ≠ 2 := fun e => z (by rw [e]; exact decide_eq_true rfl)
        have e3 : cs.length = 3 := by omega
        match cs, e3 with
        | [a, b, d], _ => exact ⟨a, b, d, rfl⟩
      exact ⟨tb, fun H1 x1 tb1 => ⟨_, rfl, _, rfl, l, _, _, _, rfl, rfl, SqL.of (hl1 x1), rfl, _, rfl, l, _, _, _, rfl, rfl, SqL.of (hl1 x1), rfl, _, rfl, l, _, _, _, rfl, rfl, SqL.of (hl1 x1), rfl, _, rfl, bl, rfl, he_new (K := K) (CN := CN) hF (by simp) (fo1 x1) (fun x u H2 e h => ⟨e, h⟩) (fin x1 tb1)⟩⟩
end
end K2
end
section
set_option Elab.async false
set_option maxRecDepth 100000
set_option linter.all false
/-! _law_is_too_deep -/
namespace K2
open PySem L2 LamX PySem.Spec PyProof.Rows
abbrev sDp : Stmt := top 61
abbrev nDp : List Str := ["_law_pen_here", "_law_body", "_law_way", "_law_k"]
theorem he_made {K : PySem.W.Frag} {cl : Str → Addr} {C CN l : Addr} (hF : OfFun K cl CN) {H : Hp} {v bl : V} {cs ys : List V} {o : Option (Str × V)} {Q R : VK} (hl : H l = some (.lst cs) ∨ H l = some (.tup cs)) (lc : cs.length ≤ 500) (fo : FOut K H v cs bl o ys) (hR : ∀ v H', QL Q v H' → R v H') (k : ∀ hv Hk, Same H Hk → HeF C Hk v bl cs o hv → Q hv Hk) :
    spFM K C CN [.ref C, v, .ref l, bl] H R (HMF K cl Q) :=
  ⟨v, bl, l, cs, o, ys, rfl, hl, lc, fo, fun eo p dx ct st H' s _ e1 e2 _ => hR _ _ (he_fun eo k s e1 e2), fun r pl eo dd H' s hd => he_err hF eo k s hd⟩
def spDp (T : List (Addr × Str)) : Sp := fun vs H Q _ => ∃ (p c : Addr) (ns : List Int) (n : Nat), vs = [.ref p] ∧ Pen H p c ns n ∧ n + 10 ≤ 100000 ∧ Tabs T H ∧ ∀ H', Q (.bl true) H'
section
variable {P : Program} {w : World} {K : PySem.W.Frag} {mg : Str → Option Value} {base : Heap}
theorem scDp : FnScope nDp ["_law_pen_here"] (defScope sDp) := ⟨rfl, rfl, rfl, by decide +kernel, rfl, by decide +kernel, by decide +kernel⟩
theorem vw_a : VW (Str.ofString "a") := isW_vw (by decide +kernel)
set_option maxHeartbeats 2000000 in
theorem ok_dp {f fD fP fHe fM pM C CN c PA PD PL : Addr} {mc : Value} {cl : Str → Addr} {fd fdD fdP fdHe fdM : FuncData} (F : Fun K "_law_is_too_deep" "_law_is_too_deep" sDp f fd) (hc : fd.code = .ref c) (TB : TabB base mg c PD) (n1 : PA ≠ PD) (n3 : PD ≠ PL) (T : Bi mg) (tVE : mg "ValueError" = none) (hcl : ∀ x ∈ errs, mg x = some (.ref (cl x))) (hF : OfFun K cl CN) (Y : FnT K mg C)
    (D : Df K mg "_law_draw" sDraw fD fdD ["_law_pen_here", "_law_many"]) (GD : FnOk P w K mg base CX0 1 fD fdD ["_law_pen_here", "_law_many"] spDraw) (PK : Df K mg "_law_pick" sPick fP fdP ["_law_pen_here", "_law_some"]) (GP : FnOk P w K mg base CX0 2 fP fdP ["_law_pen_here", "_law_some"] spPick)
    (HE : Df K mg "_law_heard" sHeard fHe fdHe ["_law_ask"]) (cR : ClX.CRead K C mc) (cM : ClX.CMet K C mc "made" pM fM) (GM : FnOk P w K mg base (L2.CX P w) 11 fM fdM ["cls", "name", "callbacks", "block"] (spFM K C CN)) (bM : Binds K fdM ["cls", "name", "callbacks", "block"] []) : FnG P w K mg base 14 f fd ["_law_pen_here"] (spDp (T0 PA PD PL)) := by
  obtain ⟨hoc, hod, hkV, hdoc, hpm, han, hcdv, hct, hosl, rfl, hlk, hhcd⟩ := HE.F.ex
  refine okGc F hc scDp (fun vs H Q E h => ?_) (fun A outer s H vs Q E hr gu h => ?_)
  · obtain ⟨p, c, ns, n, rfl, _⟩ := h
    rfl
  · obtain ⟨p, c, ns, n, rfl, P0, hn, tb, k⟩ := h
    have hr1 : Room 1 _ := hr.mono (by decide)
    have hr2 : Room 2 _ := hr.mono (by decide)
    have huD : ∀ q ∈ T0 PA PD PL, q.1 = PD → q.2 = qDp := fun q hq e => by
      simp only [List.mem_cons, List.not_mem_nil, or_false] at hq
      rcases hq with rfl | rfl | rfl
      · exact absurd e n1
      · rfl
      · exact absurd e n3.symm
    refine ⟨_, (pss_cons (ps_set (i := 1) scDp.nd rfl (Or.inr rfl) (pe_tup (pa_cons (pe_tup (pa_cons pe_str pa_nil)) pa_nil)))
      (pss_cons (ps_set (i := 2) scDp.nd rfl (Or.inl rfl) (pe_call GD hr1 (by rfl) D.m D.F.kp D.b .nil pass0 (pa_cons (pv 0) (pa_cons pe_int pa_nil))))
      (pss_cons (ps_for PassesOwn.never rfl (pi_range1 rfl T.range (pa_cons (pe_call GP hr2 (by rfl) PK.m PK.F.kp PK.b .nil pass0 (pa_cons (pv 0) (pa_cons (pe_lst (pa_cons pe_int (pa_cons pe_int (pa_cons pe_int (pa_cons pe_int pa_nil))))) pa_nil))) pa_nil)) (pg_name (i := 3) scDp.nd rfl (Or.inl rfl))
      (pss_one (ps_set (i := 1) scDp.nd rfl (Or.inr rfl) (pe_ifExp (pt_cmpR op_eq (pv 2) pe_int (nomark _)) (pe_tup (pa_cons (pe_tup (pa_cons pe_str (pa_cons (pv 1) pa_nil))) pa_nil)) (pe_tup (pa_cons (pe_tup (pa_cons pe_str (pa_cons (pv 1) (pa_cons (pe_tup pa_nil) (pa_cons (pe_tup pa_nil) (pa_cons (pe_tup (pa_cons (pe_tup (pa_cons pe_str pa_nil)) pa_nil)) pa_nil)))))) pa_nil))))))
      (pss_one (ps_ret (pe_cmpR (op_eqD hr.units) (pe_lamcall (T := T0 PA PD PL) (k := 11) (by rfl) HE.m HE.F.kp hlk hhcd HE.b scHeard rfl (Or.inl rfl) (heard_givesF T tVE hcl) TB rfl (List.mem_cons_of_mem _ List.mem_cons_self) huD hr (lamS_by (show lamSB (defScope sDp) _ = true by decide +kernel)) rfl (fun _ _ _ _ _ => rfl)
          (fun A outer s H E f c' hr' => ClX.pe_cmeth (pe_glob (v := .ref C) (by rfl) Y.mgC rfl) cR cM (GM.raw bM .nil) hr' (passes_call (takes_of rfl rfl rfl rfl) fun _ _ _ _ h => h) (pa_cons pe_str (pa_cons (pe_lst pa_nil) (pa_cons (pv 1) pa_nil))))) (pe_tup (pa_cons pe_str (pa_cons pe_str (pa_cons pe_int pa_nil)))) (nomark _))))))), ?_⟩
    refine ⟨(by show 1 ≤ sizeLine; decide), fun t1 ht1 => ?_⟩
    have s1 : Same H (upd H t1 (.tup [V.str "pass"])) := (Same.refl H).put ht1
    have e1 : (upd H t1 (.tup [V.str "pass"])) t1 = some (.tup [V.str "pass"]) := upd_same
    generalize upd H t1 (.tup [V.str "pass"]) = H1 at s1 e1 ⊢
    refine ⟨(by show 1 ≤ sizeLine; decide), fun t2 ht2 => ?_⟩
    have s2 : Same H1 (upd H1 t2 (.tup [V.ref t1])) := (Same.refl H1).put ht2
    have e2 : (upd H1 t2 (.tup [V.ref t1])) t2 = some (.tup [V.ref t1]) := upd_same
    generalize upd H1 t2 (.tup [V.ref t1]) = H2 at s2 e2 ⊢
    have d2 : DpB H2 0 (.ref t2) := .zero e2 (s2 _ _ e1)
    have P2 := (P0.same s1).same s2
    have tb2 := Tabs.same (Tabs.same tb s1) s2
    refine ⟨_, rfl, p, c, ns, n, 2, rfl, P2, by omega, by decide, by decide, fun dw H3 w0 w1 k3 P3 => ?_⟩
    have d3 := d2.sameT (KN.keep P2 P3 k3).T
    have tb3 := Tabs.kp tb2 P2 k3
    refine ⟨_, rfl, (by show 4 ≤ sizeLine; decide), fun q hq => ?_⟩
    have nq : q ≠ p := (P3.pne hq).symm
    have s4 : Same H3 (upd H3 q (.lst [V.int 13, .int 60, .int 700, .int 2000])) := (Same.refl H3).put hq
    have e4 : (upd H3 q (.lst [V.int 13, .int 60, .int 700, .int 2000])) q = some (.lst [V.int 13, .int 60, .int 700, .int 2000]) := upd_same
    generalize upd H3 q (.lst [V.int 13, .int 60, .int 700, .int 2000]) = H4 at s4 e4 ⊢
    have P4 := P3.same s4
    refine ⟨p, c, ns, n + 1, _, _, rfl, P4, by omega, .inl ⟨q, rfl, nq, e4⟩, by simp, (by show 4 ≤ 1000; decide), fun j v H5 hv k5 P5 => ?_⟩
    have d5 := (d3.sameT s4.T).sameT (KN.keep P4 P5 k5).T
    have tb5 := Tabs.kp (Tabs.same tb3 s4) P4 k5
    obtain ⟨m, rfl, hm1, hm2⟩ : ∃ m : Nat, v = .int (m : Int) ∧ 13 ≤ m ∧ m ≤ 2000 := by
      have hm := List.mem_of_getElem? hv
      simp only [List.mem_cons, List.not_mem_nil, or_false] at hm
      rcases hm with rfl | rfl | rfl | rfl
      · exact ⟨13, rfl, by omega, by omega⟩
      · exact ⟨60, rfl, by omega, by omega⟩
      · exact ⟨700, rfl, by omega, by omega⟩
      · exact ⟨2000, rfl, by omega, by omega⟩
    clear hv
    refine ⟨_, rfl, by omega, by omega, for_range (lo := 0) (n := m) (fun i σ Hc => ∃ (bv : V) (v3 : Option V), σ = [some (.ref p), some bv, some (.int dw), v3] ∧ DpB Hc i bv ∧ Tabs (T0 PA PD PL) Hc) ?_ ?_ ?_⟩
    · exact ⟨_, _, rfl, d5, tb5⟩
    · rintro i σ Hc hi ⟨bv, v3, rfl, dc, tc⟩
      refine ⟨_, rfl, rfl, _, rfl, ite2 (fun z => ?_) (fun z => ?_)⟩
      · refine ⟨_, rfl, (by show 2 ≤ sizeLine; decide), fun t1 ht1 => ?_⟩
        have s1 : Same Hc (upd Hc t1 (.tup [V.str "loop", bv])) := (Same.refl Hc).put ht1
        have e1 : (upd Hc t1 (.tup [V.str "loop", bv])) t1 = some (.tup [V.str "loop", bv]) := upd_same
        generalize upd Hc t1 (.tup [V.str "loop", bv]) = H1 at s1 e1 ⊢
        refine ⟨(by show 1 ≤ sizeLine; decide), fun t2 ht2 => ?_⟩
        have s2 : Same H1 (upd H1 t2 (.tup [V.ref t1])) := (Same.refl H1).put ht2
        exact ⟨_, _, rfl, .loop upd_same (s2 _ _ e1) (dc.sameT (s1.trans s2).T), Tabs.same tc (s1.trans s2)⟩
      · refine ⟨_, rfl, Nat.zero_le _, fun tc1 htc1 => ?_⟩
        have s1 : Same Hc (upd Hc tc1 (.tup [])) := (Same.refl Hc).put htc1
        have e1 : (upd Hc tc1 (.tup [])) tc1 = some (.tup []) := upd_same
        generalize upd Hc tc1 (.tup []) = H1 at s1 e1 ⊢
        refine ⟨Nat.zero_le _, fun tc2 htc2 => ?_⟩
        have s2 : Same H1 (upd H1 tc2 (.tup [])) := (Same.refl H1).put htc2
        have e2 : (upd H1 tc2 (.tup [])) tc2 = some (.tup []) := upd_same
        generalize upd H1 tc2 (.tup []) = H2 at s2 e2 ⊢
        refine ⟨(by show 1 ≤ sizeLine; decide), fun t3 ht3 => ?_⟩
        have s3 : Same H2 (upd H2 t3 (.tup [V.str "pass"])) := (Same.refl H2).put ht3
        have e3 : (upd H2 t3 (.tup [V.str "pass"])) t3 = some (.tup [V.str "pass"]) := upd_same
        generalize upd H2 t3 (.tup [V.str "pass"]) = H3 at s3 e3 ⊢
        refine ⟨(by show 1 ≤ sizeLine; decide), fun t4 ht4 => ?_⟩
        have s4 : Same H3 (upd H3 t4 (.tup [V.ref t3])) := (Same.refl H3).put ht4
        have e4 : (upd H3 t4 (.tup [V.ref t3])) t4 = some (.tup [V.ref t3]) := upd_same
        generalize upd H3 t4 (.tup [V.ref t3]) = H4 at s4 e4 ⊢
        refine ⟨(by show 5 ≤ sizeLine; decide), fun t5 ht5 => ?_⟩
        have s5 : Same H4 (upd H4 t5 (.tup [V.str "try", bv, .ref tc1, .ref tc2, .ref t4])) := (Same.refl H4).put ht5
        have e5 : (upd H4 t5 (.tup [V.str "try", bv, .ref tc1, .ref tc2, .ref t4])) t5 = some (.tup [V.str "try", bv, .ref tc1, .ref tc2, .ref t4]) := upd_same
        generalize upd H4 t5 (.tup [V.str "try", bv, .ref tc1, .ref tc2, .ref t4]) = H5 at s5 e5 ⊢
        refine ⟨(by show 1 ≤ sizeLine; decide), fun t6 ht6 => ?_⟩
        have s6 : Same H5 (upd H5 t6 (.tup [V.ref t5])) := (Same.refl H5).put ht6
        have z5 := s5.trans s6
        have z4 := s4.trans z5
        have z3 := s3.trans z4
        have z2 := s2.trans z3
        exact ⟨_, _, rfl, .tr upd_same (s6 _ _ e5) (z2 _ _ e1) (z3 _ _ e2) (z5 _ _ e4) (z4 _ _ e3) (dc.sameT (s1.trans z2).T), Tabs.same tc (s1.trans z2)⟩
    · rintro σ Hc ⟨bv, v3, rfl, dc, tc⟩
      refine ⟨tc, fun H6 x6 tb6 => ?_⟩
      have d6 : DpB H6 m bv := dc.sameT fun a zs h => x6 _ _ h (by nofun)
      refine ⟨rfl, Nat.zero_le _, fun l hl => ⟨_, rfl, ?_⟩⟩
      have s7 : Same H6 (upd H6 l (.lst [])) := (Same.refl H6).put hl
      have fo := fout_deep (K := K) vw_a (d6.sameT s7.T) (by omega)
      refine ⟨.str "a", bv, l, [], _, _, rfl, .inl upd_same, by simp, fo, nofun, fun r pl eo dd H' s hd => he_err (C := C) (v := .non) (bl := .non) (cs := []) hF eo (fun hv Hk sk hh => ?_) s hd⟩
      refine ⟨(by show 3 ≤ sizeLine; decide), fun t ht => ?_⟩
      have s8 : Same Hk (upd Hk t (.tup [V.str "FUNCTION", .str "deep", .int 12])) := (Same.refl Hk).put ht
      rcases hh with ⟨e, _⟩ | ⟨r, pl, t2, e, rfl, h2⟩
      · cases e
      · cases e
        refine ⟨.tuple [.str "FUNCTION", .str "deep", .int 12], .tuple [.str "FUNCTION", .str "deep", .int 12], .tup (SqT.of (s8 _ _ h2)) (.cons (.str _) (.cons (.str _) (.cons (.int _) .nil))), .tup (SqT.of upd_same) (.cons (.str _) (.cons (.str _) (.cons (.int _) .nil))), by decide +kernel, by decide +kernel, ?_⟩
        rw [show PyData.eqv (.tuple [.str "FUNCTION", .str "deep", .int 12]) (.tuple [.str "FUNCTION", .str "deep", .int 12]) = true from by decide +kernel]
        exact k _
end
end K2
end
section
set_option Elab.async false
set_option maxRecDepth 100000
set_option linter.all false
/-! the law -/
namespace K2
open PySem L2 LamX PySem.Spec PyProof.Rows
abbrev sPen : Stmt := top 48
abbrev sLaw : Stmt := top 62
abbrev nLaw : List Str := ["_law_script", "_law_pen_here", "_law_turn", "_law_words_here", "_law_many", "_law_word", "_law_calls", "_law_body", "_law_due_here", "_law_heard_here"]
def spPen (K : PySem.W.Frag) : Sp := fun vs H Q _ => ∃ (a : Addr) (ns : List Int), vs = [.ref a] ∧ SqL K H a (ns.map V.int) ∧ ns.length ≤ 63 ∧ ∀ (p c : Addr) (H' : Hp), Pen H' p c ns 0 → Same H H' → Q (.ref p) H'
def spLaw (K : PySem.W.Frag) (PA PD PL : Addr) : Sp := fun vs H Q _ => ∃ (a : Addr) (ns : List Int), vs = [.ref a] ∧ SqL K H a (ns.map V.int) ∧ ns.length ≤ 63 ∧ H PA = some (.tbl #[]) ∧ H PD = some (.tbl #[]) ∧ H PL = some (.tbl #[]) ∧ ∀ H', Q (.bl true) H'
theorem cut63 (ns : List Int) (h : ns.length ≤ 63) : cutV (ns.map V.int) none (some 63) = ns.map V.int := by
  unfold cutV
  rw [show (63 : Int) = ((63 : Nat) : Int) from rfl, HT.sIx_nat, HT.sIx_none, List.drop_zero, Nat.sub_zero, List.length_map, Nat.min_eq_right h]
  rw [List.take_of_length_le (by rw [List.length_map]; exact Nat.le_refl _)]
theorem call_tuple_ofK {X : Cx} {K' : PySem.W.Frag} (hK : X.K = K') : CallR X (.type "tuple") (fun xs H Q => ∃ p ys, xs = [.ref p] ∧ ((SqL K' H p ys ∧ ∀ l, H l = none → Q (.ref l) (upd H l (.tup ys))) ∨ (SqT K' H p ys ∧ Q (.ref p) H))) := by
  subst hK
  exact call_tuple_of
theorem cutV_mem {xs : List V} {a b : Option Int} {x : V} (h : x ∈ cutV xs a b) : x ∈ xs := by
  unfold cutV at h
  exact List.mem_of_mem_drop (List.mem_of_mem_take h)
theorem cutV_len (xs : List V) (a b : Option Int) : (cutV xs a b).length ≤ xs.length := by
  unfold cutV
  rw [List.length_take, List.length_drop]
  omega
theorem tD_refl : ∀ ys : List Str, PyData.eqv (tD ys) (tD ys) = true
  | [] => rfl
  | y :: ys => by
    have := tD_refl ys
    show ((y == y) && PyData.eqv (tD ys) (tD ys)) = true
    rw [this]
    simp
def plV : Option Nat → V
  | none => .non
  | some n => .int (n : Nat)
def plD : Option Nat → PyData
  | none => .none
  | some n => .int (n : Nat)
def wtF (r : Str) (q : Option Nat) : PyData := .tuple [.str "FUNCTION", .str r, plD q]
def rsF : List Str := ["name", "callback", "block"]
def qsF : List (Option Nat) := [none, some 0, some 1, some 2]
theorem wtF_ok : ∀ r ∈ rsF, ∀ q ∈ qsF, (wtF r q).showable = true ∧ (wtF r q).hasDict = false ∧ (wtF r q).depth ≤ 8 ∧ (wtF r q).shown.length ≤ sizeLine := by decide +kernel
theorem plV_dp {K : PySem.W.Frag} {H : Hp} : ∀ q, Dp K H (plV q) (plD q)
  | none => .non
  | some n => .int _
theorem wtF_dp {K : PySem.W.Frag} {H : Hp} {t : Addr} {r : Str} {q : Option Nat} (h : H t = some (.tup [.str "FUNCTION", .str r, plV q])) : Dp K H (.ref t) (wtF r q) := .tup (SqT.of h) (.cons (.str _) (.cons (.str _) (.cons (plV_dp q) .nil)))
def HdO (o : Option (Str × V)) : Prop := ∀ r pl, o = some (r, pl) → r ∈ rsF ∧ ∃ q ∈ qsF, pl = plV q
theorem hd_o {K : PySem.W.Frag} {H : Hp} {v bl : V} {cs : List V} {o : Option (Str × V)} (h : Hd K H v cs bl o) : HdO o := by
  intro r pl e
  have m1 : (Str.ofString "name") ∈ rsF := by decide +kernel
  have m2 : (Str.ofString "callback") ∈ rsF := by decide +kernel
  have m3 : (Str.ofString "block") ∈ rsF := by decide +kernel
  rcases hd_main h with ⟨_, eo⟩ | ⟨x, ys, tail, _, _, _, _, _, l2, ⟨_, ⟨_, eo⟩ | ⟨_, eo⟩⟩ | ⟨_, _, _, eo, _⟩⟩
  · rw [eo] at e; cases e; exact ⟨m1, none, by simp [qsF], rfl⟩
  · rw [eo] at e; cases e; exact ⟨m3, none, by simp [qsF], rfl⟩
  · rw [eo] at e; cases e
  · rw [eo] at e; cases e
    refine ⟨m2, some ys.length, ?_, rfl⟩
    have : ys.length = 0 ∨ ys.length = 1 ∨ ys.length = 2 := by omega
    rcases this with e | e | e <;> rw [e] <;> simp [qsF]
/-- what was heard is what is due -/
def Told (C : Addr) (hv : V) (Hk : Hp) (due : V) : Prop := ∃ (v bl : V) (cs : List V) (o : Option (Str × V)), HeF C Hk v bl cs o hv ∧ DuF Hk o due ∧ HdO o
def tTold (C : Addr) (te : TE) (j : Nat) : TT := fun σ H Q => ∀ Q' : VK, (∀ hv Hk due, σ[j]? = some (some due) → Told C hv Hk due → Q false Hk → Q' hv Hk) → te σ H Q'
theorem told_imp {K : PySem.W.Frag} {C : Addr} {te : TE} {j : Nat} (σ : L2.St) (H : Hp) (Q : Bool → Hp → Prop) (h : tTold C te j σ H Q) :
    tTest (tOp rNe (tCB (rReprU K) (tCons (tCall spEr [] E0 (tCons te tNil)) tNil)) (tCB (rReprU K) (tCons (tVar j) tNil))) σ H Q := by
  refine h _ fun hv Hk due h1 ⟨v, bl, cs, o, hh, hd, hr⟩ q => ?_
  rcases hh with ⟨eo, a, f, dx, ct, st, ea, ha, _⟩ | ⟨r, pl, a, eo, ea, ha⟩
  · obtain ed : due = .non := by
      rcases hd with ⟨_, e⟩ | ⟨r, pl, t, e, _, _⟩
      · exact e
      · rw [eo] at e; cases e
    refine .inl ⟨a, _, by rw [ea]; rfl, ha, .inl ⟨rfl, _, h1, .inl ⟨by rw [ed], rfl, _, rfl, ?_⟩⟩⟩
    simpa using q
  · obtain ⟨t, ed, ht⟩ : ∃ t, due = .ref t ∧ Hk t = some (.tup [.str "FUNCTION", .str r, pl]) := by
      rcases hd with ⟨e, _⟩ | ⟨r', pl', t, e, e2, e3⟩
      · rw [eo] at e; cases e
      · rw [eo] at e; cases e
        exact ⟨t, e2, e3⟩
    obtain ⟨mr, qq, mq, rfl⟩ := hr r pl eo
    have ok := wtF_ok r mr qq mq
    refine .inr ⟨a, _, by rw [ea]; rfl, ha, .inr ⟨a, wtF r qq, rfl, wtF_dp ha, ok.1, ok.2.1, ok.2.2.1, ok.2.2.2, _, h1, .inr ⟨t, wtF r qq, by rw [ed], wtF_dp ht, ok.1, ok.2.1, ok.2.2.1, ok.2.2.2, rfl, _, rfl, ?_⟩⟩⟩
    simpa using q
theorem he_two {K : PySem.W.Frag} {cl : Str → Addr} {C CN : Addr} (hF : OfFun K cl CN) {H : Hp} {v bl : V} {cs ys : List V} {o : Option (Str × V)} {Q : VK} (k : ∀ hv Hk, Same H Hk → HeF C Hk v bl cs o hv → Q hv Hk) :
    (o = none → ∀ (p dx ct st : Addr) (H' : Hp), Same H H' → H p = none → H' p = some (.ins C dx (ffl v (.ref ct) bl (.ref st))) → H' ct = some (.tup cs) → H' st = some (.tup ys) → QL Q (.ref p) H') ∧
    (∀ r pl, o = some (r, pl) → ∀ (dd : Addr) (H' : Hp), Same H H' → H' dd = some (.xd (nfF r pl)) → HMF K cl Q (.ref CN) (some dd) H') :=
  ⟨fun eo p dx ct st H' s _ e1 e2 _ => he_fun eo k s e1 e2, fun r pl eo dd H' s hd => he_err hF eo k s hd⟩
theorem HeF.kn {p C : Addr} {H H' : Hp} {v bl hv : V} {cs : List V} {o : Option (Str × V)} (h : HeF C H v bl cs o hv) (s : Same H H') : HeF C H' v bl cs o hv := by
  rcases h with ⟨eo, a, f, dx, ct, st, ea, ha, hf, hct⟩ | ⟨r, pl, a, eo, ea, ha⟩
  · exact .inl ⟨eo, a, f, dx, ct, st, ea, s _ _ ha, s _ _ hf, s _ _ hct⟩
  · exact .inr ⟨r, pl, a, eo, ea, s _ _ ha⟩
section
variable {P : Program} {w : World} {K : PySem.W.Frag} {mg : Str → Option Value} {base : Heap}
theorem scPen : FnScope ["_law_script"] ["_law_script"] (defScope sPen) := ⟨rfl, rfl, rfl, by decide +kernel, rfl, by decide +kernel, by decide +kernel⟩
theorem scLaw : FnScope nLaw ["_law_script"] (defScope sLaw) := ⟨rfl, rfl, rfl, by decide +kernel, rfl, by decide +kernel, by decide +kernel⟩
theorem ok_pen {f : Addr} {fd : FuncData} (F : Fun K "_law_pen" "_law_pen" sPen f fd) (T : Bi mg) : FnOk P w K mg base CX0 1 f fd ["_law_script"] (spPen K) := by
  refine F.ok scPen (fun vs H Q E h => ?_) (fun cdv A outer s H vs Q E hr h => ?_)
  · obtain ⟨a, ns, rfl, _⟩ := h
    rfl
  · obtain ⟨a, ns, rfl, hS, hl, k⟩ := h
    refine ⟨_, (pss_one (ps_ret (pe_lst (pa_cons (pe_callTy call_list_of (by rfl) T.list (by decide +kernel) (pa_cons (pe_slice sl_list (pv 0) po_none (po_some pe_int)) pa_nil)) (pa_cons pe_int (pa_cons pe_int pa_nil)))))), ?_⟩
    refine ⟨_, rfl, _, rfl, a, _, rfl, hS, fun q hq => ⟨q, _, rfl, .inl (SqL.of upd_same), fun c hc => ⟨(by show 3 ≤ sizeLine; decide), fun p hp => ?_⟩⟩⟩
    rw [cut63 ns hl] at hc hp ⊢
    have hcp : c ≠ p := ne_of_none upd_same hp
    have s1 := ((Same.refl H).put (o := .lst (ns.map V.int)) hq)
    have s2 := s1.put (o := .lst (ns.map V.int)) (s1.free hc)
    exact k p c _ ⟨⟨0, 0, upd_same, by decide, by decide, by decide⟩, by rw [upd_ne hcp, upd_same], hl⟩ (s2.put (s2.free hp))
set_option maxHeartbeats 4000000 in
theorem ok_law {f fPn fP fB fSl fDu fHe fE fAs fDp fM pM C CN c PA PD PL : Addr} {mc : Value} {cl : Str → Addr} {fd fdPn fdP fdB fdSl fdDu fdHe fdE fdAs fdDp fdM : FuncData} (F : Fun K "law" "law" sLaw f fd) (hc : fd.code = .ref c) (TB : TabB base mg c PL) (n2 : PA ≠ PL) (n3 : PD ≠ PL) (T : Bi mg) (tVE : mg "ValueError" = none) (hcl : ∀ x ∈ errs, mg x = some (.ref (cl x))) (hF : OfFun K cl CN) (Y : FnT K mg C)
    (PN : Df K mg "_law_pen" sPen fPn fdPn ["_law_script"]) (GPn : FnOk P w K mg base CX0 1 fPn fdPn ["_law_script"] (spPen K)) (PK : Df K mg "_law_pick" sPick fP fdP ["_law_pen_here", "_law_some"]) (GP : FnOk P w K mg base CX0 2 fP fdP ["_law_pen_here", "_law_some"] spPick)
    (BE : Df K mg "_law_begun" sBegun fB fdB ["_law_pen_here", "_law_many"]) (GB : FnOk P w K mg base CX0 4 fB fdB ["_law_pen_here", "_law_many"] spBegun) (SL : Df K mg "_law_spoiled" sSl fSl fdSl ["_law_pen_here", "_law_word", "_law_calls"]) (GSl : FnOk P w K mg base CX0 4 fSl fdSl ["_law_pen_here", "_law_word", "_law_calls"] (spSl K))
    (DU : Df K mg "_law_due" sDu fDu fdDu ["_law_word", "_law_calls", "_law_body"]) (GDu : FnOk P w K mg base CX0 3 fDu fdDu ["_law_word", "_law_calls", "_law_body"] (spDu K)) (HE : Df K mg "_law_heard" sHeard fHe fdHe ["_law_ask"]) (ER : Df K mg "_law_error" sEr fE fdE ["_law_heard_here"]) (GEr : FnOk P w K mg base CX0 1 fE fdE ["_law_heard_here"] spEr)
    (AS : Df K mg "_law_asked" sAs fAs fdAs ["_law_word", "_law_calls", "_law_body"]) (GAs : FnG P w K mg base 13 fAs fdAs ["_law_word", "_law_calls", "_law_body"] (spAs K C (T0 PA PD PL))) (DP : Df K mg "_law_is_too_deep" sDp fDp fdDp ["_law_pen_here"]) (GDp : FnG P w K mg base 14 fDp fdDp ["_law_pen_here"] (spDp (T0 PA PD PL)))
    (cR : ClX.CRead K C mc) (cM : ClX.CMet K C mc "made" pM fM) (GM : FnOk P w K mg base (L2.CX P w) 11 fM fdM ["cls", "name", "callbacks", "block"] (spFM K C CN)) (bM : Binds K fdM ["cls", "name", "callbacks", "block"] []) : FnG P w K mg base 15 f fd ["_law_script"] (spLaw K PA PD PL) := by
  obtain ⟨hoc, hod, hkV, hdoc, hpm, han, hcdv, hct, hosl, rfl, hlk, hhcd⟩ := HE.F.ex
  refine okGc F hc scLaw (fun vs H Q E h => ?_) (fun A outer s H vs Q E hr gu h => ?_)
  · obtain ⟨a, ns, rfl, _⟩ := h
    rfl
  · obtain ⟨a, ns, rfl, hS, hl63, hPA, hPD, hPL, kQ⟩ := h
    have hr1 : Room 1 _ := hr.mono (by decide)
    have hr2 : Room 2 _ := hr.mono (by decide)
    have hr3 : Room 3 _ := hr.mono (by decide)
    have hr4 : Room 4 _ := hr.mono (by decide)
    have hr13 : Room 13 _ := hr.mono (by decide)
    have huL : ∀ q ∈ T0 PA PD PL, q.1 = PL → q.2 = qLaw := fun q hq e => by
      simp only [List.mem_cons, List.not_mem_nil, or_false] at hq
      rcases hq with rfl | rfl | rfl
      · exact absurd e n2
      · exact absurd e n3
      · rfl
    refine ⟨_, (pss_cons (ps_set (i := 1) scLaw.nd rfl (Or.inl rfl) (pe_call GPn hr1 (by rfl) PN.m PN.F.kp PN.b .nil pass0 (pa_cons (pv 0) pa_nil)))
      (pss_cons (ps_for PassesOwn.never rfl (pi_range1 rfl T.range (pa_cons pe_int pa_nil)) (pg_name (i := 2) scLaw.nd rfl (Or.inl rfl))
      (pss_cons (ps_set (i := 3) scLaw.nd rfl (Or.inl rfl) (pe_call GB hr4 (by rfl) BE.m BE.F.kp BE.b .nil pass0 (pa_cons (pv 1) (pa_cons pe_int pa_nil))))
        (pss_cons (ps_set (i := 4) scLaw.nd rfl (Or.inl rfl) (pe_call GP hr2 (by rfl) PK.m PK.F.kp PK.b .nil pass0 (pa_cons (pv 1) (pa_cons (pe_lst (pa_cons pe_int (pa_cons pe_int (pa_cons pe_int (pa_cons pe_int (pa_cons pe_int (pa_cons pe_int pa_nil))))))) pa_nil))))
        (pss_cons (ps_asg (pe_call GSl hr4 (by rfl) SL.m SL.F.kp SL.b .nil pass0 (pa_cons (pv 1) (pa_cons (pe_ix ix_list (pv 3) pe_int (fun _ _ => rfl)) (pa_cons (pe_slice sl_list (pv 3) (po_some pe_int) (po_some (pe_op op_add pe_int (pv 4)))) pa_nil)))) (pg_tup rfl (pgs_cons (pg_name (i := 5) scLaw.nd rfl (Or.inr rfl)) (pgs_cons (pg_name (i := 6) scLaw.nd rfl (Or.inr rfl)) (pgs_cons (pg_name (i := 7) scLaw.nd rfl (Or.inr rfl)) pgs_nil)))))
        (pss_cons (ps_set (i := 8) scLaw.nd rfl (Or.inl rfl) (pe_call GDu hr3 (by rfl) DU.m DU.F.kp DU.b .nil pass0 (pa_cons (pv 5) (pa_cons (pv 6) (pa_cons (pv 7) pa_nil)))))
        (pss_cons (ps_if (pt_imp (t' := tTold C (_) 8) (pt_cmpR op_ne (pe_callB (call_reprU gu hr.units) (by rfl) T.repr (by decide +kernel) (pa_cons (pe_call GEr hr1 (by rfl) ER.m ER.F.kp ER.b .nil pass0 (pa_cons (pe_lamcall (T := T0 PA PD PL) (k := 11) (by rfl) HE.m HE.F.kp hlk hhcd HE.b scHeard rfl (Or.inl rfl) (heard_givesF T tVE hcl) TB rfl (List.mem_cons_of_mem _ (List.mem_cons_of_mem _ List.mem_cons_self)) huL hr13 (lamS_by (show lamSB (defScope sLaw) _ = true by decide +kernel)) rfl (fun _ _ _ _ _ => rfl)
          (fun A outer s H E f c' hr' => ClX.pe_cmeth (pe_glob (v := .ref C) (by rfl) Y.mgC rfl) cR cM (GM.raw bM .nil) hr' (passes_call (takes_of rfl rfl rfl rfl) fun _ _ _ _ h => h) (pa_cons (pv 5) (pa_cons (pv 6) (pa_cons (pv 7) pa_nil))))) pa_nil)) pa_nil)) (pe_callB (call_reprU gu hr.units) (by rfl) T.repr (by decide +kernel) (pa_cons (pv 8) pa_nil)) (nomark _)) told_imp)
        (pss_one (ps_ret pe_bl))
        pss_nil)
        (pss_cons (ps_if (pt_imp (t' := tTold C (_) 8) (pt_cmpR op_ne (pe_callB (call_reprU gu hr.units) (by rfl) T.repr (by decide +kernel) (pa_cons (pe_call GEr hr1 (by rfl) ER.m ER.F.kp ER.b .nil pass0 (pa_cons (pe_lamcall (T := T0 PA PD PL) (k := 11) (by rfl) HE.m HE.F.kp hlk hhcd HE.b scHeard rfl (Or.inl rfl) (heard_givesF T tVE hcl) TB rfl (List.mem_cons_of_mem _ (List.mem_cons_of_mem _ List.mem_cons_self)) huL hr13 (lamS_by (show lamSB (defScope sLaw) _ = true by decide +kernel)) rfl (fun _ _ _ _ _ => rfl)
          (fun A outer s H E f c' hr' => ClX.pe_cmeth (pe_glob (v := .ref C) (by rfl) Y.mgC rfl) cR cM (GM.raw bM .nil) hr' (passes_call (takes_of rfl rfl rfl rfl) fun _ _ _ _ h => h) (pa_cons (pv 5) (pa_cons (pe_callTy (call_tuple_ofK (K' := K) rfl) (by rfl) T.tuple (by decide +kernel) (pa_cons (pv 6) pa_nil)) (pa_cons (pv 7) pa_nil))))) pa_nil)) pa_nil)) (pe_callB (call_reprU gu hr.units) (by rfl) T.repr (by decide +kernel) (pa_cons (pv 8) pa_nil)) (nomark _)) told_imp)
        (pss_one (ps_ret pe_bl))
        pss_nil)
        (pss_one (ps_if (pt_cmpR op_lt (pe_callB call_len_seq (by rfl) T.len PySem.boot_len (pa_cons (pv 6) pa_nil)) pe_int (nomark _))
        (pss_cons (ps_set (i := 9) scLaw.nd rfl (Or.inl rfl) (pe_callG GAs hr13 gu (by rfl) AS.m AS.F.kp AS.b (pa_cons (pv 5) (pa_cons (pv 6) (pa_cons (pv 7) pa_nil)))))
          (pss_cons (ps_if (pt_imp (t' := tTold C (_) 8) (pt_cmpR op_ne (pe_callB (call_reprU gu hr.units) (by rfl) T.repr (by decide +kernel) (pa_cons (pe_call GEr hr1 (by rfl) ER.m ER.F.kp ER.b .nil pass0 (pa_cons (pv 9) pa_nil)) pa_nil)) (pe_callB (call_reprU gu hr.units) (by rfl) T.repr (by decide +kernel) (pa_cons (pv 8) pa_nil)) (nomark _)) told_imp)
          (pss_one (ps_ret pe_bl))
          pss_nil)
          (pss_one (ps_if (PW.pt (pw_and (pt_cmpR op_isN (pv 8) pe_non (nomark _)) (pw_and1 (PW.pt (pw_or (pt_cmpR op_ne (pe_fld (pe_ix ix_list (pv 9) pe_int (fun _ _ => rfl)) rfl) (pv 5) (nomark _)) (pw_or1 (pt_cmpR (op_neD hr.units) (pe_fld (pe_ix ix_list (pv 9) pe_int (fun _ _ => rfl)) rfl) (pe_callTy call_tuple_of (by rfl) T.tuple (by decide +kernel) (pa_cons (pv 6) pa_nil)) (nomark _))))))))
          (pss_one (ps_ret pe_bl))
          pss_nil))))
        pss_nil)))))))))
      (pss_one (ps_ret (pe_callG GDp hr gu (by rfl) DP.m DP.F.kp DP.b (pa_cons (pv 1) pa_nil)))))), ?_⟩
    have tb0 : Tabs (T0 PA PD PL) H := by
      intro q hq
      simp only [List.mem_cons, List.not_mem_nil, or_false] at hq
      rcases hq with rfl | rfl | rfl
      · exact TabS.nil hPA
      · exact TabS.nil hPD
      · exact TabS.nil hPL
    refine ⟨_, rfl, a, ns, rfl, hS, hl63, fun p c H1 P1 s1 => ?_⟩
    have tb1 := Tabs.same tb0 s1
    refine ⟨_, rfl, by decide, by decide, for_range (lo := 0) (n := 10) (fun i σ Hc => ∃ (v2 v3 v4 v5 v6 v7 v8 v9 : Option V), σ = [some (.ref a), some (.ref p), v2, v3, v4, v5, v6, v7, v8, v9] ∧ Pen Hc p c ns (i * 120) ∧ Tabs (T0 PA PD PL) Hc) ?_ ?_ ?_⟩
    · exact ⟨_, _, _, _, _, _, _, _, rfl, P1.mono (by omega), tb1⟩
    · rintro i σ H2 hi ⟨v2, v3, v4, v5, v6, v7, v8, v9, rfl, P2, tb2⟩
      have hi9 : i ≤ 9 := by omega
      generalize hN : i * 120 = N at P2
      have hN2 : N ≤ 1080 := by omega
      refine ⟨_, rfl, p, c, ns, N, 5, rfl, P2, by omega, by decide, fun lw ws H3 hw hwl hlw k3 P3 => ?_⟩
      have tb3 := Tabs.kp tb2 P2 k3
      have nlw : lw ≠ p := fun e => by
        obtain ⟨x, y, g, _⟩ := P3.pen
        rw [e, g] at hlw
        have := congrArg (fun o : Option HO => match o with | some (.lst (v :: _)) => (match v with | .ref _ => true | _ => false) | _ => false) hlw
        cases ws with
        | nil => cases this
        | cons => cases this
      refine ⟨_, rfl, (by show 6 ≤ sizeLine; decide), fun q hq => ?_⟩
      have nq : q ≠ p := (P3.pne hq).symm
      have s4 : Same H3 (upd H3 q (.lst [V.int 0, .int 1, .int 2, .int 2, .int 3, .int 4])) := (Same.refl H3).put hq
      have e4 : (upd H3 q (.lst [V.int 0, .int 1, .int 2, .int 2, .int 3, .int 4])) q = some (.lst [V.int 0, .int 1, .int 2, .int 2, .int 3, .int 4]) := upd_same
      generalize upd H3 q (.lst [V.int 0, .int 1, .int 2, .int 2, .int 3, .int 4]) = H4 at s4 e4 ⊢
      have P4 := P3.same s4
      refine ⟨p, c, ns, _, _, _, rfl, P4, by omega, .inl ⟨q, rfl, nq, e4⟩, by simp, (by show 6 ≤ 1000; decide), fun j v H5 hv k5 P5 => ?_⟩
      obtain ⟨m, rfl⟩ : ∃ m : Int, v = .int m := by
        have hm := List.mem_of_getElem? hv
        simp only [List.mem_cons, List.not_mem_nil, or_false] at hm
        rcases hm with rfl | rfl | rfl | rfl | rfl | rfl <;> exact ⟨_, rfl⟩
      clear hv
      have tb5 := Tabs.kp (Tabs.same tb3 s4) P4 k5
      have hlw5 := k5 _ _ (s4 _ _ hlw) nlw
      obtain ⟨w0, wr, rfl⟩ : ∃ w0 wr, ws = w0 :: wr := by
        cases ws with
        | nil => simp at hwl
        | cons w0 wr => exact ⟨w0, wr, rfl⟩
      refine ⟨_, rfl, _, rfl, lw, _, _, _, rfl, rfl, SqL.of hlw5, atI_nat (j := 0) rfl, _, rfl, 1, rfl, _, rfl, _, _, rfl, rfl, _, rfl, lw, _, rfl, SqL.of hlw5, fun lq hlq => ?_⟩
      have cl5 := cutV_len ((w0 :: wr).map V.str) (some 1) (some (1 + m))
      rw [List.length_map, hwl] at cl5
      have cm5 : ∀ z ∈ cutV ((w0 :: wr).map V.str) (some 1) (some (1 + m)), ∃ y, z = V.str y ∧ VW y := fun z hz => by
        obtain ⟨y, hy, rfl⟩ := List.mem_map.mp (cutV_mem hz)
        exact ⟨y, rfl, hw.vw y hy⟩
      generalize cutV ((w0 :: wr).map V.str) (some 1) (some (1 + m)) = cs0 at hlq cl5 cm5 ⊢
      have s6 : Same H5 (upd H5 lq (.lst cs0)) := (Same.refl H5).put hlq
      have nlq : lq ≠ p := (P5.pne hlq).symm
      have e6 : (upd H5 lq (.lst cs0)) lq = some (.lst cs0) := upd_same
      generalize upd H5 lq (.lst cs0) = H6 at s6 e6 ⊢
      have P6 := P5.same s6
      have tb6 := Tabs.same tb5 s6
      have vl : ∀ {y : Str}, VW y → y.length ≤ sizeLine := fun v => Nat.le_trans (by rw [len_codes]; exact v.le) (by decide : 8 ≤ sizeLine)
      refine ⟨p, c, lq, ns, _, w0, cs0, rfl, P6, by omega, hw.vw w0 List.mem_cons_self, e6, nlq, by omega, fun z hz => (by obtain ⟨y, rfl, vy⟩ := cm5 z hz; exact .str y (vl vy)), fun t l v bl cs H7 ht iv hl nl el ics hbl k7 P7 => ?_⟩
      have tb7 := Tabs.kp tb6 P6 k7
      refine ⟨t, _, rfl, SqT.of ht, rfl, _, _, rfl, _, _, rfl, _, _, rfl, rfl, ?_⟩
      obtain ⟨o, ys, fo, hd⟩ := fout_all (K := K) iv ics hbl
      have ho := hd_o hd
      have hs : o = none → ∃ (x : Str) (yz : List Str), v = .str x ∧ cs = yz.map V.str ∧ ∀ y ∈ yz, VW y := fun e => by
        rcases hd_main hd with ⟨_, eo⟩ | ⟨x, yz, tail, ev, ec, _, vy, _, _, ⟨et, _⟩ | ⟨_, _, _, eo, _⟩⟩
        · exact absurd (eo.symm.trans e) (by simp)
        · exact ⟨x, yz, ev, by rw [ec, et, List.append_nil], vy⟩
        · exact absurd (eo.symm.trans e) (by simp)
      have cl4 : cs.length ≤ 5 := by omega
      refine ⟨_, rfl, _, rfl, _, rfl, v, bl, l, cs, o, rfl, hl, by omega, hd, fun due H8 s8 du => ?_⟩
      have P8 := P7.same s8
      have tb8 := Tabs.same tb7 s8
      have hl8 := s8 _ _ hl
      have kn8 : KN l H7 H8 := KN.lst hl (ExtN.of s8)
      have fo8 := fo.kn kn8
      clear fo hd
      -- made, of the list
      refine fun Q' kt => ⟨tb8, fun H9 x9 tb9 => ?_⟩
      have kn9 : KN l H8 H9 := KN.lst hl8 x9
      have fo9 := fo8.kn kn9
      have P9 := P8.extN x9
      have du9 := du.kn kn9
      have hl9 : H9 l = some (.lst cs) := x9 _ _ hl8 (by nofun)
      have W := he_two (K := K) (cl := cl) (C := C) (CN := CN) (H := H9) (v := v) (bl := bl) (cs := cs) (ys := ys) (o := o) (Q := Q') hF fun hv Hk sk hh => kt hv Hk due rfl ⟨v, bl, cs, o, hh, du9.same sk, ho⟩ (iteF ?m1)
      case m1 =>
        have P10 := P9.same sk
        have tb10 := Tabs.same tb9 sk
        have du10 := du9.same sk
        have hl10 := sk _ _ hl9
        have fo10 := fo9.kn (KN.lst hl9 (ExtN.of sk))
        -- made, of the tuple
        refine fun Q' kt => ⟨tb10, fun H11 x11 tb11 => ?_⟩
        have fo11 := fo10.kn (KN.lst hl10 x11)
        have P11 := P10.extN x11
        have du11 := du10.kn (KN.lst hl10 x11)
        have hl11 : H11 l = some (.lst cs) := x11 _ _ hl10 (by nofun)
        refine ⟨rfl, _, rfl, _, rfl, l, cs, rfl, .inl ⟨SqL.of hl11, fun tq htq => ?_⟩⟩
        have s12 : Same H11 (upd H11 tq (.tup cs)) := (Same.refl H11).put htq
        have e12 : (upd H11 tq (.tup cs)) tq = some (.tup cs) := upd_same
        generalize upd H11 tq (.tup cs) = H12 at s12 e12 ⊢
        have fo12 := fo11.kn (KN.lst hl11 (ExtN.of s12))
        have W2 := he_two (K := K) (cl := cl) (C := C) (CN := CN) (H := H12) (v := v) (bl := bl) (cs := cs) (ys := ys) (o := o) (Q := Q') hF fun hv Hk sk hh => kt hv Hk due rfl ⟨v, bl, cs, o, hh, (du11.same s12).same sk, ho⟩ (iteF ?m2)
        case m2 =>
          have s13 := s12.trans sk
          have P13 := P11.same s13
          have tb13 := Tabs.same tb11 s13
          have du13 := du11.same s13
          have hl13 := s13 _ _ hl11
          have fo13 := fo11.kn (KN.lst hl11 (ExtN.of s13))
          refine ⟨_, rfl, l, _, rfl, .inl (SqL.of hl13), _, _, rfl, rfl, _, rfl, ite2 (fun z => ?_) (fun z => ?_)⟩
          case refine_2 => exact ⟨_, _, _, _, _, _, _, _, rfl, P13.mono (by omega), tb13⟩
          have l3 : cs.length ≤ 3 := by have := of_decide_eq_true z; omega
          refine ⟨_, rfl, _, rfl, _, rfl, v, bl, l, cs, ys, o, rfl, hl13, l3, fo13, tb13, fun hv3 H14 x14 tb14 hh14 => ?_⟩
          have P14 := P13.extN x14
          have du14 := du13.kn (KN.lst hl13 x14)
          have hl14 : H14 l = some (.lst cs) := x14 _ _ hl13 (by nofun)
          refine fun Q' kt => ⟨_, rfl, kt _ _ due rfl ⟨v, bl, cs, o, hh14, du14, ho⟩ (iteF ?_)⟩
          refine ⟨_, rfl, rfl, _, rfl, ite2 (fun z2 => ?_) (fun z2 => ?_)⟩
          case refine_2 => exact iteF ⟨_, _, _, _, _, _, _, _, rfl, P14.mono (by omega), tb14⟩
          have eo : o = none := by
            rcases du14 with ⟨e, _⟩ | ⟨r, pl, t, _, e, _⟩
            · exact e
            · rw [e] at z2
              exact absurd (of_decide_eq_true z2) (by nofun)
          obtain ⟨x, yz, rfl, rfl, vyz⟩ := hs eo
          obtain ⟨_, a9, f9, dx9, ct9, st9, rfl, ha9, hf9, hct9⟩ | ⟨r, pl, t, e, _⟩ := hh14
          case inr => rw [eo] at e; cases e
          refine ⟨_, rfl, a9, _, _, _, rfl, rfl, SqL.of ha9, atI_nat (j := 0) rfl, f9, C, dx9, _, _, rfl, hf9, Y.cl, Y.f1, ff_nm _ _ _ _, _, rfl, rfl, _, rfl, ite2 (fun q => absurd q (by simp)) fun _ => ?_⟩
          refine ⟨_, rfl, a9, _, _, _, rfl, rfl, SqL.of ha9, atI_nat (j := 0) rfl, f9, C, dx9, _, _, rfl, hf9, Y.cl, Y.f2, ff_cb _ _ _ _, _, rfl, l, _, rfl, .inl ⟨SqL.of hl14, fun tq htq => ?_⟩⟩
          have s15 : Same H14 (upd H14 tq (.tup (yz.map V.str))) := (Same.refl H14).put htq
          have sh := tD_shaped yz fun y hy => (vw_ok (vyz y hy)).1
          refine ⟨tD yz, tD yz, .tup (SqT.of (s15 _ _ hct9)) (strs_dp _ _ _), .tup (SqT.of upd_same) (strs_dp _ _ _), sh, sh, _, rfl, ?_⟩
          rw [show PyData.eqv (tD yz) (tD yz) = true from tD_refl yz]
          exact iteF ⟨_, _, _, _, _, _, _, _, rfl, (P14.same s15).mono (by omega), Tabs.same tb14 s15⟩
        exact ⟨_, rfl, v, bl, tq, cs, o, ys, rfl, .inr e12, by omega, fo12, W2.1, W2.2⟩
      refine ⟨rfl, _, rfl, _, rfl, _, rfl, v, bl, l, cs, o, ys, rfl, .inl hl9, by omega, fo9, W.1, W.2⟩
    · rintro σ Hc ⟨v2, v3, v4, v5, v6, v7, v8, v9, rfl, Pc, tc⟩
      exact ⟨_, rfl, p, c, ns, _, rfl, Pc, by omega, tc, kQ⟩
end
end K2
end
section
set_option Elab.async false
set_option linter.all false
set_option maxRecDepth 100000
set_option maxHeartbeats 2000000
namespace K2
open PySem PySem.Spec PyProof.Rows L2 LamX
/-- law_call with tables: cs, the code objects and their tables -/
theorem law_callTG {P : Program} {w : World} {K : PySem.W.Frag} {mg mb : Str → Option Value} {k : Nat} {fa a : Addr} {cs : List (Addr × Addr)} {fd : FuncData} {x : Str} {sp : Sp} {s₁ : Shared} {vs : List Value} {ns : List Int}
    (KX : K.In s₁.heap) (hns : s₁.heap.Ns mainGlobals mg) (hb : s₁.heap.Ns builtinsNs mb) (hbb : ∀ x : Str, x ≠ "__name__" → mb x = bootBuiltins x) (hlim : s₁.heap.NoLimit) (hg : s₁.gens = #[])
    (hT : ∀ p ∈ cs, s₁.heap.get? p.2 = some { cls := .none, data := .fields #[] }) (nT : ∀ p ∈ cs, K.lookup p.2 = none) (C : ∀ p ∈ cs, PySem.W.CodeHd s₁.heap p.1 p.2)
    (hbm : ∃ (bm : Addr) (ob : Obj), mg "__builtins__" = some (.ref bm) ∧ bm ≠ builtinsNs ∧ s₁.heap.get? bm = some ob ∧ ob.cls = .type "module" ∧ ob.dict = some builtinsNs ∧ ob.data = .plain)
    (ha : s₁.heap.get? a = some { cls := .type "list", data := .seq vs.toArray }) (hi : IntsAre vs ns) (hl : ns.length ≤ sizeLine) (hr : Room k callerA)
    (F : ∀ base : Heap, K.In base → base.Ns mainGlobals mg → (∀ p ∈ cs, TabB base mg p.1 p.2) → FnG P w K mg base k fa fd [x] sp) (hbind : ∀ (s : Shared) (u : Value), BindsTo s fd ⟨[u], []⟩ [(x, u)])
    (hsp : ∀ H : Hp, (∀ p ∈ cs, H p.2 = some (.tbl #[])) → SqL K H a (ns.map V.int) → sp [.ref a] H (fun v _ => v = .bl true) fun _ _ _ => False) :
    codeAny (model P w) callerA (.call (.ref fa) ⟨[.ref a], []⟩) (fun r s' => r = .ok (.ret (.bool true)) ∧ OldK s₁.heap s'.heap ∧ s'.os = s₁.os ∧ AllBare s'.gens) s₁ := by
  have rv := vals_ints hi
  have lenV := hi.length
  have isT : ∀ b : Addr, b ∈ cs.map (·.2) → s₁.heap.get? b = some { cls := .none, data := .fields #[] } := fun b hb => by
    obtain ⟨p, hp, e⟩ := List.mem_map.mp hb
    rw [← e]
    exact hT p hp
  have aT : a ∉ cs.map (·.2) := fun z => by
    have q := isT a z
    rw [ha] at q
    have z' : Data.seq vs.toArray _ = Data.fields #[] := congrArg Obj.data (Option.some.inj q)
    cases z'
  have memT : ∀ p ∈ cs, p.2 ∈ cs.map (·.2) := fun p hp => List.mem_map.mpr ⟨p, hp, rfl⟩
  -- from an abstract heap in which nothing but the script and the tables may be tracked
  have core : ∀ H : Hp, (∀ p ∈ cs, H p.2 = some (.tbl #[])) → (∀ b, H b = none ∨ b ∈ cs.map (·.2) ∨ ∃ o xs, H b = some (.frz o (.lst xs))) → SqL K H a (ns.map V.int) → HOk P w H s₁.heap → (∀ b, H b ≠ none → b = a ∨ b ∈ cs.map (·.2)) → (H a ≠ none → K.lookup a = none) →
      codeAny (model P w) callerA (.call (.ref fa) ⟨[.ref a], []⟩) (fun r s' => r = .ok (.ret (.bool true)) ∧ OldK s₁.heap s'.heap ∧ s'.os = s₁.os ∧ AllBare s'.gens) s₁ := by
    intro H hH hO hS hok hA hK
    have base_of : ∀ {b : Addr} {o : Obj}, s₁.heap.get? b = some o → H b = none → (hidT s₁.heap H).get? b = some o := fun e n => hidT_get e n
    have noD : ∀ {b : Addr} {o : Obj}, s₁.heap.get? b = some o → (∀ vs n, o.data ≠ .seq vs n) → o.data ≠ .fields #[] → H b = none := fun {b o} e h1 h2 => by
      cases q : H b with
      | none => rfl
      | some u =>
        rcases hA b (by rw [q]; simp) with e' | e'
        · rw [e', ha] at e
          cases e
          exact (h1 _ _ rfl).elim
        · rw [isT b e'] at e
          cases e
          exact (h2 rfl).elim
    have noA : ∀ {b : Addr} {o : Obj} {es : Array DictEntry} {ep : Nat}, s₁.heap.get? b = some o → o.data = .dict es ep → H b = none := fun {b o es ep} e d => by
      refine noD e (fun vs n z => ?_) fun z => ?_
      · rw [d] at z
        cases z
      · rw [d] at z
        cases z
    have nsK : ∀ {b : Addr} {m : Str → Option Value}, s₁.heap.Ns b m → (hidT s₁.heap H).Ns b m := fun {b m} ⟨o, es, ep, e, d, r⟩ => ⟨o, es, ep, base_of e (noA e d), d, r⟩
    have hKb : K.In (hidT s₁.heap H) := fun b o e => base_of (KX b o e) (by
      cases q : H b with
      | none => rfl
      | some u =>
        rcases hA b (by rw [q]; simp) with e' | e'
        · rw [e'] at e q
          rw [hK (by rw [q]; simp)] at e
          cases e
        · obtain ⟨p, hp, ep⟩ := List.mem_map.mp e'
          rw [← ep, nT p hp] at e
          cases e)
    have hM : L2.Mod K mg (hidT s₁.heap H) := ⟨hKb, nsK hns, ⟨mb, nsK hb, hbb⟩, let ⟨mc, h1, h2⟩ := hlim; ⟨mc, nsK h1, h2⟩⟩
    have TB : ∀ p ∈ cs, TabB (hidT s₁.heap H) mg p.1 p.2 := fun p hp => by
      have hTp := hT p hp
      refine ⟨?_, ?_, fun z => ?_⟩
      · obtain ⟨o, us, file, tf, flags, tg, inF, text, tt, e1, r1, r2, r3, r4, r5, r6, r7, r8, hne⟩ := C p hp
        refine ⟨o, us, file, tf, flags, tg, inF, text, tt, base_of e1 (noD e1 (fun vs n z => ?_) fun z => ?_), r1, r2, r3, r4, r5, r6, r7, r8, hne⟩
        · rw [r2] at z
          cases z
        · rw [r2] at z
          cases z
          simp at r3
      · obtain ⟨bm, ob, b1, b2, b3, b4, b5, b6⟩ := hbm
        have nG : bm ≠ mainGlobals := fun q => by
          obtain ⟨o, es, ep, e, hd, _⟩ := hns
          rw [q, e] at b3
          cases b3
          rw [hd] at b6
          cases b6
        have nP : bm ≠ p.2 := fun q => by
          rw [q, hTp] at b3
          cases b3
          cases b6
        refine ⟨bm, ob, b1, b2, nG, nP, base_of b3 (noD b3 (fun vs n z => ?_) fun z => ?_), b4, b5, b6⟩
        · rw [b6] at z
          cases z
        · rw [b6] at z
          cases z
      · obtain ⟨o, es, ep, e, hd, _⟩ := hns
        rw [z, hTp] at e
        cases e
        cases hd
    have e0 : Env0 P w K mg (hidT s₁.heap H) callerA [] s₁ H := ⟨rfl, hM, fun b o e => of_hidT e, Nat.le_of_eq (hidT_size _ _), trivial, fun b hb => absurd (show b ∈ ([] : List Addr) from hb) (by simp), hok, .of_eq hg⟩
    refine codeAny_mono ((F _ hKb (nsK hns) TB).run callerA [] s₁ H ⟨[.ref a], []⟩ [.ref a] [.ref a] _ _ hr rfl e0 (hbind s₁ (.ref a)) (.cons rfl .nil) (hsp H hH hS)) fun r s' h => ?_
    cases r with
    | error e => exact h.elim
    | ok fl =>
      cases fl with
      | next => exact False.elim h
      | brk => exact False.elim h
      | cont => exact False.elim h
      | ret u =>
        obtain ⟨v, H', os, bare, un, hok', r', q⟩ := h
        have q' : v = .bl true := q
        subst q'
        obtain rfl : u = Value.bool true := r'
        have key : ∀ b o, b ∉ cs.map (·.2) → s₁.heap.get? b = some o → s'.heap.get? b = some o := fun b o nb e => by
          cases q : H b with
          | none => exact un.keep b o e q (by intro z; exact absurd (show b ∈ ([] : List Addr) from z) (by simp)) (by simp)
          | some u =>
            rcases hO b with z | z | ⟨ob, xs, z⟩
            · rw [q] at z; cases z
            · exact absurd z nb
            · have z2 := un.frzs b ob _ z
              obtain ⟨e1, _⟩ := hok b _ z
              obtain ⟨e2, _⟩ := hok' b _ z2
              rw [e] at e1; cases e1
              exact e2
        have grown : ∀ p ∈ cs, ∃ more : Array Value, s'.heap.get? p.2 = some { cls := .none, data := .fields more } := fun p hp => by
          obtain ⟨more, z⟩ := un.tbls p.2 #[] (hH p hp)
          exact ⟨_, hok' p.2 _ z⟩
        refine ⟨rfl, ⟨fun b o e => ?_, fun b o e => ?_⟩, os, bare⟩
        · by_cases hb : b ∈ cs.map (·.2)
          · obtain ⟨p, hp, ep⟩ := List.mem_map.mp hb
            obtain ⟨more, hm⟩ := grown p hp
            rw [← ep] at e ⊢
            rw [hT p hp] at e
            cases e
            exact .inr (.inl ⟨((C p hp).tab (hT p hp)).isCodeTable, rfl, #[], more, rfl, by rw [Array.empty_append]; exact hm⟩)
          · exact .inl (key b o hb e)
        · by_cases hb : b ∈ cs.map (·.2)
          · obtain ⟨p, hp, ep⟩ := List.mem_map.mp hb
            obtain ⟨more, hm⟩ := grown p hp
            rw [← ep]
            exact ⟨_, hm⟩
          · exact ⟨o, key b o hb e⟩
  cases hk : K.lookup a with
  | some o =>
    have e := KX a o hk
    rw [ha] at e
    cases e
    refine core (fun b => if b ∈ cs.map (·.2) then some (.tbl #[]) else none) (fun p hp => if_pos (memT p hp)) (fun b => ?_) (.inr ⟨_, vs.toArray, _, hk, rfl, rfl, rfl, by rw [List.size_toArray, lenV]; exact hl, by simpa using rv⟩) (fun b u z => ?_) (fun b z => ?_) fun z => absurd (show (if a ∈ cs.map (·.2) then some (HO.tbl #[]) else none) = none from if_neg aT) z
    · by_cases hb : b ∈ cs.map (·.2)
      · exact .inr (.inl hb)
      · exact .inl (if_neg hb)
    · by_cases hb : b ∈ cs.map (·.2)
      · have z' := (if_pos hb).symm.trans z
        cases z'
        exact isT b hb
      · have z' := (if_neg hb).symm.trans z
        cases z'
    · by_cases hb : b ∈ cs.map (·.2)
      · exact .inr hb
      · exact absurd (if_neg hb) z
  | none =>
    refine core (fun b => if b = a then some (.frz { cls := .type "list", data := .seq vs.toArray } (.lst (ns.map V.int))) else if b ∈ cs.map (·.2) then some (.tbl #[]) else none) (fun p hp => (if_neg (show ¬ p.2 = a from fun z => aT (by rw [← z]; exact memT p hp))).trans (if_pos (memT p hp))) (fun b => ?_)
      (.inl (.inr ⟨{ cls := .type "list", data := .seq vs.toArray }, if_pos rfl⟩)) (fun b u z => ?_) (fun b z => ?_) fun _ => hk
    · by_cases hb : b = a
      · exact .inr (.inr ⟨_, _, if_pos hb⟩)
      · by_cases hb2 : b ∈ cs.map (·.2)
        · exact .inr (.inl hb2)
        · exact .inl ((if_neg hb).trans (if_neg hb2))
    · by_cases hb : b = a
      · have z' := (if_pos hb).symm.trans z
        cases z'
        rw [hb]
        exact ⟨ha, by rw [List.length_map]; exact hl, vs, _, rv, ha⟩
      · have z1 := (if_neg hb).symm.trans z
        by_cases hb2 : b ∈ cs.map (·.2)
        · have z' := (if_pos hb2).symm.trans z1
          cases z'
          exact isT b hb2
        · have z' := (if_neg hb2).symm.trans z1
          cases z'
    · by_cases hb : b = a
      · exact .inl hb
      · by_cases hb2 : b ∈ cs.map (·.2)
        · exact .inr hb2
        · exact absurd ((if_neg hb).trans (if_neg hb2)) z

theorem walk_ofTG {l : PySem.W.OpenLaw} {n k : Nat} {q : Program} {loose : List Str} {XP : (Str → Option Value) → Heap → Prop} {YP : World → Heap → Prop} {d : DefRec} {K : Params → PySem.W.Frag} {x : Str}
    (hn : l.most = some n) (hn2 : n ≤ sizeLine) (hdf : d.params.defaults = []) (hr : Room k callerA) (hY : ∀ (w : World) (h : Heap), YP w h → (K w.params).In h)
    (F : ∀ (w : World) (mg : Str → Option Value) (fa : Addr) (h : Heap), YP w h → (K w.params).In h → h.Ns mainGlobals mg → mg d.name = some (.ref fa) →
      ∃ (fd : FuncData) (cs : List (Addr × Addr)) (sp : Sp), (∀ p ∈ cs, h.get? p.2 = some { cls := .none, data := .fields #[] }) ∧ (∀ p ∈ cs, (K w.params).lookup p.2 = none) ∧ (∀ p ∈ cs, PySem.W.CodeHd h p.1 p.2) ∧ (∀ (s : Shared) (u : Value), BindsTo s fd ⟨[u], []⟩ [(x, u)]) ∧
        (∀ (H : Hp) (a : Addr) (ns : List Int), ns.length ≤ n → (∀ p ∈ cs, H p.2 = some (.tbl #[])) → SqL (K w.params) H a (ns.map V.int) → sp [.ref a] H (fun v _ => v = .bl true) fun _ _ _ => False) ∧
        ∀ base : Heap, (K w.params).In base → base.Ns mainGlobals mg → (∀ p ∈ cs, TabB base mg p.1 p.2) → FnG l.prog w (K w.params) mg base k fa fd [x] sp) :
    PySem.W.WalkO q loose XP YP l.row.toRowW d [] (fun f vs => PySem.call f vs) := by
  refine Att.attach_call hn hdf fun w s₀ s₁ mg mb fa o pm cd doc a vs ns G Y ho hd hcd hmg hobj hints hlen hg => ?_
  have KX := hY w _ Y
  obtain ⟨fd, cs, sp, hT, nT, C, hb, hsp, hF⟩ := F w mg fa _ Y KX G.T.g hmg
  exact law_callTG KX G.T.g G.T.b G.T.builtins G.T.nolimit hg hT nT C G.T.bmain hobj hints (Nat.le_trans hlen hn2) hr hF hb (fun H hH hS => hsp H a ns hlen hH hS)
end K2
end
section
set_option Elab.async false
set_option maxRecDepth 100000
set_option linter.all false
namespace K2
open PySem L2 LamX
theorem kit_ref {K : PySem.W.Frag} {D C : Addr} {b : Bool} (ne : (D == C) = false) (c : PySem.W.isClsIn K C = true) (t : PySem.W.typeIn K (.ref C) = some (.type "type")) (s : PySem.W.subIn K (.ref D) (.ref C) = some b) : PySem.W.kitOne K (.ref D) (.ref C) = some b := by
  have q : PySem.W.kitCls K (.ref D) (.ref C) = some b := by
    show (if ((PySem.W.clsIn K C).isSome && PySem.W.typeIn K (.ref C) == some (.type "type")) = true then PySem.W.subIn K (.ref D) (.ref C) else none) = some b
    have c' : (PySem.W.clsIn K C).isSome = true := c
    rw [c', t, if_pos (by simp)]
    exact s
  unfold PySem.W.kitOne
  rw [if_neg ?_]
  · exact q
  · intro z
    have e : D = C := Value.ref.inj (beq_iff_eq.mp z)
    rw [e] at ne
    simp at ne
theorem kit_same {K : PySem.W.Frag} {D : Addr} : PySem.W.kitOne K (.ref D) (.ref D) = some true := by
  unfold PySem.W.kitOne
  rw [if_pos (by simp)]
theorem kit_ve {K : PySem.W.Frag} {D : Addr} (s : PySem.W.subIn K (.ref D) (.type "ValueError") = some true) : PySem.W.kitOne K (.ref D) (.type "ValueError") = some true := by
  have q : PySem.W.kitCls K (.ref D) (.type "ValueError") = some true := by
    show (if PySem.W.kitMeta "ValueError" = true then PySem.W.subIn K (.ref D) (.type "ValueError") else none) = some true
    rw [if_pos (by decide +kernel)]
    exact s
  unfold PySem.W.kitOne
  rw [if_neg (by simp)]
  exact q
theorem any_no {K : PySem.W.Frag} {t c : Value} {r : List Value} (h : PySem.W.kitOne K t c = some false) (k : PySem.W.kitAny K t r = some false) : PySem.W.kitAny K t (c :: r) = some false := by
  show (match PySem.W.kitOne K t c with | some true => some true | some false => PySem.W.kitAny K t r | none => none) = some false
  rw [h]
  exact k
def chkS : List Str → List Value → Bool
  | [], [] => true
  | x :: xs, .str y _ :: us => decide (x = y) && chkS xs us
  | _, _ => false
theorem chk_vals : ∀ {xs : List Str} {us : List Value}, chkS xs us = true → Vals (xs.map V.str) us
  | [], [], _ => .nil
  | x :: xs, .str y t :: us, h => by
    have h2 := Bool.and_eq_true_iff.mp (show (decide (x = y) && chkS xs us) = true from h)
    have e := of_decide_eq_true h2.1
    subst e
    exact .cons ⟨t, rfl⟩ (chk_vals h2.2)

set_option maxHeartbeats 4000000 in
theorem all_mk {l : PySem.W.OpenLaw} {w : World} {K : PySem.W.Frag} {h : Heap} {mg : Str → Option Value} {fa qcA pA qcD pD qcL pL C SC pM aR dF cE0 cE1 cE2 cE3 cE4 cE5 cE6 cE7 cE8 cE9 cE10 cE11 cE12 : Addr} {rest : List Value} {t1 t2 t3 t4 t5 : Tok} {ddR : Option Addr} {itsR : Array Value} {nR2 nF : Nat} {esF : Array DictEntry} {slR : Array (Option Value)} {nm_z q_z N_z bs_z bm_z sn_z sub_z ab_z col_z dd_z k0_z k1_z k2_z k3_z k5_z} (X : K.In h) (G : h.Ns mainGlobals mg) (hfa : mg "law" = some (.ref fa))
    {fIW fAW fAD fIB fIS fPO fBN fWA fEM fRA fAG fCA fLO fHA fEI fTR fCL fWI fAN fCH fCB fPN fD fPK fBA fWO fBE fHE fLQ fOD fER fDU fAS fSL fDP fLW fFI fFM fSI fSN fSF fNI : Addr} {odIW anIW odAW anAW odAD anAD odIB anIB odIS anIS odPO anPO odBN anBN odWA anWA odEM anEM odRA anRA odAG anAG odCA anCA odLO anLO odHA anHA odEI anEI odTR anTR odCL anCL odWI anWI odAN anAN odCH anCH odCB anCB odPN anPN odD anD odPK anPK odBA anBA odWO anWO odBE anBE odHE anHE odLQ anLQ odOD anOD odER anER odDU anDU odAS anAS odSL anSL odDP anDP odLW anLW odFI anFI odFM anFM odSI anSI odSN anSN odSF anSF odNI anNI : Option Addr} {slIW slAW slAD slIB slIS slPO slBN slWA slEM slRA slAG slCA slLO slHA slEI slTR slCL slWI slAN slCH slCB slPN slD slPK slBA slWO slBE slHE slLQ slOD slER slDU slAS slSL slDP slLW slFI slFM slSI slSN slSF slNI : Array (Option Value)} {ocIW kVIW dcIW pmIW cdIW ctIW ocAW kVAW dcAW pmAW cdAW ctAW ocAD kVAD dcAD pmAD cdAD ctAD ocIB kVIB dcIB pmIB cdIB ctIB ocIS kVIS dcIS pmIS cdIS ctIS ocPO kVPO dcPO pmPO cdPO ctPO ocBN kVBN dcBN pmBN cdBN ctBN ocWA kVWA dcWA pmWA cdWA ctWA ocEM kVEM dcEM pmEM cdEM ctEM ocRA kVRA dcRA pmRA cdRA ctRA ocAG kVAG dcAG pmAG cdAG ctAG ocCA kVCA dcCA pmCA cdCA ctCA ocLO kVLO dcLO pmLO cdLO ctLO ocHA kVHA dcHA pmHA cdHA ctHA ocEI kVEI dcEI pmEI cdEI ctEI ocTR kVTR dcTR pmTR cdTR ctTR ocCL kVCL dcCL pmCL cdCL ctCL ocWI kVWI dcWI pmWI cdWI ctWI ocAN kVAN dcAN pmAN cdAN ctAN ocCH kVCH dcCH pmCH cdCH ctCH ocCB kVCB dcCB pmCB cdCB ctCB ocPN kVPN dcPN pmPN cdPN ctPN ocD kVD dcD pmD cdD ctD ocPK kVPK dcPK pmPK cdPK ctPK ocBA kVBA dcBA pmBA cdBA ctBA ocWO kVWO dcWO pmWO cdWO ctWO ocBE kVBE dcBE pmBE cdBE ctBE ocHE kVHE dcHE pmHE cdHE ctHE ocLQ kVLQ dcLQ pmLQ cdLQ ctLQ ocOD kVOD dcOD pmOD cdOD ctOD ocER kVER dcER pmER cdER ctER ocDU kVDU dcDU pmDU cdDU ctDU ocAS kVAS dcAS pmAS ctAS ocSL kVSL dcSL pmSL cdSL ctSL ocDP kVDP dcDP pmDP ctDP ocLW kVLW dcLW pmLW ctLW ocFI kVFI dcFI pmFI cdFI ctFI ocFM kVFM dcFM pmFM cdFM ctFM ocSI kVSI dcSI pmSI cdSI ctSI ocSN kVSN dcSN pmSN cdSN ctSN ocSF kVSF dcSF pmSF cdSF ctSF ocNI kVNI dcNI pmNI cdNI ctNI : Value}
    (aIW : PySem.W.nsIn K mainGlobals "is_word" = some (some (.ref fIW)))
    (aAW : PySem.W.nsIn K mainGlobals "are_words" = some (some (.ref fAW)))
    (aAD : PySem.W.nsIn K mainGlobals "are_different" = some (some (.ref fAD)))
    (aIB : PySem.W.nsIn K mainGlobals "is_block" = some (some (.ref fIB)))
    (aIS : PySem.W.nsIn K mainGlobals "is_statement" = some (some (.ref fIS)))
    (aPO : PySem.W.nsIn K mainGlobals "parts_of" = some (some (.ref fPO)))
    (aBN : PySem.W.nsIn K mainGlobals "bound_names_in" = some (some (.ref fBN)))
    (aWA : PySem.W.nsIn K mainGlobals "walk" = some (some (.ref fWA)))
    (aEM : PySem.W.nsIn K mainGlobals "_is_empty" = some (some (.ref fEM)))
    (aRA : PySem.W.nsIn K mainGlobals "_is_raise" = some (some (.ref fRA)))
    (aAG : PySem.W.nsIn K mainGlobals "_is_again" = some (some (.ref fAG)))
    (aCA : PySem.W.nsIn K mainGlobals "_is_call" = some (some (.ref fCA)))
    (aLO : PySem.W.nsIn K mainGlobals "_is_loop" = some (some (.ref fLO)))
    (aHA : PySem.W.nsIn K mainGlobals "_is_handling" = some (some (.ref fHA)))
    (aEI : PySem.W.nsIn K mainGlobals "_is_either" = some (some (.ref fEI)))
    (aTR : PySem.W.nsIn K mainGlobals "_is_try" = some (some (.ref fTR)))
    (aCL : PySem.W.nsIn K mainGlobals "_is_clause" = some (some (.ref fCL)))
    (aWI : PySem.W.nsIn K mainGlobals "_is_with" = some (some (.ref fWI)))
    (aAN : PySem.W.nsIn K mainGlobals "_are_names" = some (some (.ref fAN)))
    (aCH : PySem.W.nsIn K mainGlobals "_check_head" = some (some (.ref fCH)))
    (aCB : PySem.W.nsIn K mainGlobals "_check_block" = some (some (.ref fCB)))
    (aPN : PySem.W.nsIn K mainGlobals "_law_pen" = some (some (.ref fPN)))
    (aD : PySem.W.nsIn K mainGlobals "_law_draw" = some (some (.ref fD)))
    (aPK : PySem.W.nsIn K mainGlobals "_law_pick" = some (some (.ref fPK)))
    (aBA : PySem.W.nsIn K mainGlobals "_law_barred" = some (some (.ref fBA)))
    (aWO : PySem.W.nsIn K mainGlobals "_law_words" = some (some (.ref fWO)))
    (aBE : PySem.W.nsIn K mainGlobals "_law_begun" = some (some (.ref fBE)))
    (aHE : PySem.W.nsIn K mainGlobals "_law_heard" = some (some (.ref fHE)))
    (aLQ : PySem.W.nsIn K mainGlobals "_law_is_word" = some (some (.ref fLQ)))
    (aOD : PySem.W.nsIn K mainGlobals "_law_odd" = some (some (.ref fOD)))
    (aER : PySem.W.nsIn K mainGlobals "_law_error" = some (some (.ref fER)))
    (aDU : PySem.W.nsIn K mainGlobals "_law_due" = some (some (.ref fDU)))
    (aAS : PySem.W.nsIn K mainGlobals "_law_asked" = some (some (.ref fAS)))
    (aSL : PySem.W.nsIn K mainGlobals "_law_spoiled" = some (some (.ref fSL)))
    (aDP : PySem.W.nsIn K mainGlobals "_law_is_too_deep" = some (some (.ref fDP)))
    (aLW : PySem.W.nsIn K mainGlobals "law" = some (some (.ref fLW)))
    (lIW : K.lookup fIW = some ⟨ocIW, odIW, .func (PySem.W.fnOf "is_word" "is_word" (defArgs sIsW) (defBody sIsW) (defScope sIsW) .none kVIW dcIW pmIW anIW cdIW ctIW), slIW⟩) (cIW : PySem.W.codeIn K cdIW "is_word" = true) (kIW : PySem.W.keepIn K (.ref fIW) = true)
    (lAW : K.lookup fAW = some ⟨ocAW, odAW, .func (PySem.W.fnOf "are_words" "are_words" (defArgs sAreW) (defBody sAreW) (defScope sAreW) .none kVAW dcAW pmAW anAW cdAW ctAW), slAW⟩) (cAW : PySem.W.codeIn K cdAW "are_words" = true) (kAW : PySem.W.keepIn K (.ref fAW) = true)
    (lAD : K.lookup fAD = some ⟨ocAD, odAD, .func (PySem.W.fnOf "are_different" "are_different" (defArgs sAreD) (defBody sAreD) (defScope sAreD) .none kVAD dcAD pmAD anAD cdAD ctAD), slAD⟩) (cAD : PySem.W.codeIn K cdAD "are_different" = true) (kAD : PySem.W.keepIn K (.ref fAD) = true)
    (lIB : K.lookup fIB = some ⟨ocIB, odIB, .func (PySem.W.fnOf "is_block" "is_block" (defArgs sIB) (defBody sIB) (defScope sIB) .none kVIB dcIB pmIB anIB cdIB ctIB), slIB⟩) (cIB : PySem.W.codeIn K cdIB "is_block" = true) (kIB : PySem.W.keepIn K (.ref fIB) = true)
    (lIS : K.lookup fIS = some ⟨ocIS, odIS, .func (PySem.W.fnOf "is_statement" "is_statement" (defArgs sIS) (defBody sIS) (defScope sIS) .none kVIS dcIS pmIS anIS cdIS ctIS), slIS⟩) (cIS : PySem.W.codeIn K cdIS "is_statement" = true) (kIS : PySem.W.keepIn K (.ref fIS) = true)
    (lPO : K.lookup fPO = some ⟨ocPO, odPO, .func (PySem.W.fnOf "parts_of" "parts_of" (defArgs sPO) (defBody sPO) (defScope sPO) .none kVPO dcPO pmPO anPO cdPO ctPO), slPO⟩) (cPO : PySem.W.codeIn K cdPO "parts_of" = true) (kPO : PySem.W.keepIn K (.ref fPO) = true)
    (lBN : K.lookup fBN = some ⟨ocBN, odBN, .func (PySem.W.fnOf "bound_names_in" "bound_names_in" (defArgs sBN) (defBody sBN) (defScope sBN) .none kVBN dcBN pmBN anBN cdBN ctBN), slBN⟩) (cBN : PySem.W.codeIn K cdBN "bound_names_in" = true) (kBN : PySem.W.keepIn K (.ref fBN) = true)
    (lWA : K.lookup fWA = some ⟨ocWA, odWA, .func (PySem.W.fnOf "walk" "walk" (defArgs sWa) (defBody sWa) (defScope sWa) .none kVWA dcWA pmWA anWA cdWA ctWA), slWA⟩) (cWA : PySem.W.codeIn K cdWA "walk" = true) (kWA : PySem.W.keepIn K (.ref fWA) = true)
    (lEM : K.lookup fEM = some ⟨ocEM, odEM, .func (PySem.W.fnOf "_is_empty" "_is_empty" (defArgs sEM) (defBody sEM) (defScope sEM) .none kVEM dcEM pmEM anEM cdEM ctEM), slEM⟩) (cEM : PySem.W.codeIn K cdEM "_is_empty" = true) (kEM : PySem.W.keepIn K (.ref fEM) = true)
    (lRA : K.lookup fRA = some ⟨ocRA, odRA, .func (PySem.W.fnOf "_is_raise" "_is_raise" (defArgs sRA) (defBody sRA) (defScope sRA) .none kVRA dcRA pmRA anRA cdRA ctRA), slRA⟩) (cRA : PySem.W.codeIn K cdRA "_is_raise" = true) (kRA : PySem.W.keepIn K (.ref fRA) = true)
    (lAG : K.lookup fAG = some ⟨ocAG, odAG, .func (PySem.W.fnOf "_is_again" "_is_again" (defArgs sAG) (defBody sAG) (defScope sAG) .none kVAG dcAG pmAG anAG cdAG ctAG), slAG⟩) (cAG : PySem.W.codeIn K cdAG "_is_again" = true) (kAG : PySem.W.keepIn K (.ref fAG) = true)
    (lCA : K.lookup fCA = some ⟨ocCA, odCA, .func (PySem.W.fnOf "_is_call" "_is_call" (defArgs sCA) (defBody sCA) (defScope sCA) .none kVCA dcCA pmCA anCA cdCA ctCA), slCA⟩) (cCA : PySem.W.codeIn K cdCA "_is_call" = true) (kCA : PySem.W.keepIn K (.ref fCA) = true)
    (lLO : K.lookup fLO = some ⟨ocLO, odLO, .func (PySem.W.fnOf "_is_loop" "_is_loop" (defArgs sLO) (defBody sLO) (defScope sLO) .none kVLO dcLO pmLO anLO cdLO ctLO), slLO⟩) (cLO : PySem.W.codeIn K cdLO "_is_loop" = true) (kLO : PySem.W.keepIn K (.ref fLO) = true)
    (lHA : K.lookup fHA = some ⟨ocHA, odHA, .func (PySem.W.fnOf "_is_handling" "_is_handling" (defArgs sHA) (defBody sHA) (defScope sHA) .none kVHA dcHA pmHA anHA cdHA ctHA), slHA⟩) (cHA : PySem.W.codeIn K cdHA "_is_handling" = true) (kHA : PySem.W.keepIn K (.ref fHA) = true)
    (lEI : K.lookup fEI = some ⟨ocEI, odEI, .func (PySem.W.fnOf "_is_either" "_is_either" (defArgs sEI) (defBody sEI) (defScope sEI) .none kVEI dcEI pmEI anEI cdEI ctEI), slEI⟩) (cEI : PySem.W.codeIn K cdEI "_is_either" = true) (kEI : PySem.W.keepIn K (.ref fEI) = true)
    (lTR : K.lookup fTR = some ⟨ocTR, odTR, .func (PySem.W.fnOf "_is_try" "_is_try" (defArgs sTR) (defBody sTR) (defScope sTR) .none kVTR dcTR pmTR anTR cdTR ctTR), slTR⟩) (cTR : PySem.W.codeIn K cdTR "_is_try" = true) (kTR : PySem.W.keepIn K (.ref fTR) = true)
    (lCL : K.lookup fCL = some ⟨ocCL, odCL, .func (PySem.W.fnOf "_is_clause" "_is_clause" (defArgs sCL) (defBody sCL) (defScope sCL) .none kVCL dcCL pmCL anCL cdCL ctCL), slCL⟩) (cCL : PySem.W.codeIn K cdCL "_is_clause" = true) (kCL : PySem.W.keepIn K (.ref fCL) = true)
    (lWI : K.lookup fWI = some ⟨ocWI, odWI, .func (PySem.W.fnOf "_is_with" "_is_with" (defArgs sWI) (defBody sWI) (defScope sWI) .none kVWI dcWI pmWI anWI cdWI ctWI), slWI⟩) (cWI : PySem.W.codeIn K cdWI "_is_with" = true) (kWI : PySem.W.keepIn K (.ref fWI) = true)
    (lAN : K.lookup fAN = some ⟨ocAN, odAN, .func (PySem.W.fnOf "_are_names" "_are_names" (defArgs sAN) (defBody sAN) (defScope sAN) .none kVAN dcAN pmAN anAN cdAN ctAN), slAN⟩) (cAN : PySem.W.codeIn K cdAN "_are_names" = true) (kAN : PySem.W.keepIn K (.ref fAN) = true)
    (lCH : K.lookup fCH = some ⟨ocCH, odCH, .func (PySem.W.fnOf "_check_head" "_check_head" (defArgs sCH) (defBody sCH) (defScope sCH) .none kVCH dcCH pmCH anCH cdCH ctCH), slCH⟩) (cCH : PySem.W.codeIn K cdCH "_check_head" = true) (kCH : PySem.W.keepIn K (.ref fCH) = true)
    (lCB : K.lookup fCB = some ⟨ocCB, odCB, .func (PySem.W.fnOf "_check_block" "_check_block" (defArgs sCB) (defBody sCB) (defScope sCB) .none kVCB dcCB pmCB anCB cdCB ctCB), slCB⟩) (cCB : PySem.W.codeIn K cdCB "_check_block" = true) (kCB : PySem.W.keepIn K (.ref fCB) = true)
    (lPN : K.lookup fPN = some ⟨ocPN, odPN, .func (PySem.W.fnOf "_law_pen" "_law_pen" (defArgs sPen) (defBody sPen) (defScope sPen) .none kVPN dcPN pmPN anPN cdPN ctPN), slPN⟩) (cPN : PySem.W.codeIn K cdPN "_law_pen" = true) (kPN : PySem.W.keepIn K (.ref fPN) = true)
    (lD : K.lookup fD = some ⟨ocD, odD, .func (PySem.W.fnOf "_law_draw" "_law_draw" (defArgs sDraw) (defBody sDraw) (defScope sDraw) .none kVD dcD pmD anD cdD ctD), slD⟩) (cD : PySem.W.codeIn K cdD "_law_draw" = true) (kD : PySem.W.keepIn K (.ref fD) = true)
    (lPK : K.lookup fPK = some ⟨ocPK, odPK, .func (PySem.W.fnOf "_law_pick" "_law_pick" (defArgs sPick) (defBody sPick) (defScope sPick) .none kVPK dcPK pmPK anPK cdPK ctPK), slPK⟩) (cPK : PySem.W.codeIn K cdPK "_law_pick" = true) (kPK : PySem.W.keepIn K (.ref fPK) = true)
    (lBA : K.lookup fBA = some ⟨ocBA, odBA, .func (PySem.W.fnOf "_law_barred" "_law_barred" (defArgs sBarred) (defBody sBarred) (defScope sBarred) .none kVBA dcBA pmBA anBA cdBA ctBA), slBA⟩) (cBA : PySem.W.codeIn K cdBA "_law_barred" = true) (kBA : PySem.W.keepIn K (.ref fBA) = true)
    (lWO : K.lookup fWO = some ⟨ocWO, odWO, .func (PySem.W.fnOf "_law_words" "_law_words" (defArgs sWords) (defBody sWords) (defScope sWords) .none kVWO dcWO pmWO anWO cdWO ctWO), slWO⟩) (cWO : PySem.W.codeIn K cdWO "_law_words" = true) (kWO : PySem.W.keepIn K (.ref fWO) = true)
    (lBE : K.lookup fBE = some ⟨ocBE, odBE, .func (PySem.W.fnOf "_law_begun" "_law_begun" (defArgs sBegun) (defBody sBegun) (defScope sBegun) .none kVBE dcBE pmBE anBE cdBE ctBE), slBE⟩) (cBE : PySem.W.codeIn K cdBE "_law_begun" = true) (kBE : PySem.W.keepIn K (.ref fBE) = true)
    (lHE : K.lookup fHE = some ⟨ocHE, odHE, .func (PySem.W.fnOf "_law_heard" "_law_heard" (defArgs sHeard) (defBody sHeard) (defScope sHeard) .none kVHE dcHE pmHE anHE cdHE ctHE), slHE⟩) (cHE : PySem.W.codeIn K cdHE "_law_heard" = true) (kHE : PySem.W.keepIn K (.ref fHE) = true)
    (lLQ : K.lookup fLQ = some ⟨ocLQ, odLQ, .func (PySem.W.fnOf "_law_is_word" "_law_is_word" (defArgs sLW) (defBody sLW) (defScope sLW) .none kVLQ dcLQ pmLQ anLQ cdLQ ctLQ), slLQ⟩) (cLQ : PySem.W.codeIn K cdLQ "_law_is_word" = true) (kLQ : PySem.W.keepIn K (.ref fLQ) = true)
    (lOD : K.lookup fOD = some ⟨ocOD, odOD, .func (PySem.W.fnOf "_law_odd" "_law_odd" (defArgs sOdd) (defBody sOdd) (defScope sOdd) .none kVOD dcOD pmOD anOD cdOD ctOD), slOD⟩) (cOD : PySem.W.codeIn K cdOD "_law_odd" = true) (kOD : PySem.W.keepIn K (.ref fOD) = true)
    (lER : K.lookup fER = some ⟨ocER, odER, .func (PySem.W.fnOf "_law_error" "_law_error" (defArgs sEr) (defBody sEr) (defScope sEr) .none kVER dcER pmER anER cdER ctER), slER⟩) (cER : PySem.W.codeIn K cdER "_law_error" = true) (kER : PySem.W.keepIn K (.ref fER) = true)
    (lDU : K.lookup fDU = some ⟨ocDU, odDU, .func (PySem.W.fnOf "_law_due" "_law_due" (defArgs sDu) (defBody sDu) (defScope sDu) .none kVDU dcDU pmDU anDU cdDU ctDU), slDU⟩) (cDU : PySem.W.codeIn K cdDU "_law_due" = true) (kDU : PySem.W.keepIn K (.ref fDU) = true)
    (lAS : K.lookup fAS = some ⟨ocAS, odAS, .func (PySem.W.fnOf "_law_asked" "_law_asked" (defArgs sAs) (defBody sAs) (defScope sAs) .none kVAS dcAS pmAS anAS (.ref qcA) ctAS), slAS⟩) (cAS : PySem.W.codeIn K (.ref qcA) "_law_asked" = true) (kAS : PySem.W.keepIn K (.ref fAS) = true)
    (lSL : K.lookup fSL = some ⟨ocSL, odSL, .func (PySem.W.fnOf "_law_spoiled" "_law_spoiled" (defArgs sSl) (defBody sSl) (defScope sSl) .none kVSL dcSL pmSL anSL cdSL ctSL), slSL⟩) (cSL : PySem.W.codeIn K cdSL "_law_spoiled" = true) (kSL : PySem.W.keepIn K (.ref fSL) = true)
    (lDP : K.lookup fDP = some ⟨ocDP, odDP, .func (PySem.W.fnOf "_law_is_too_deep" "_law_is_too_deep" (defArgs sDp) (defBody sDp) (defScope sDp) .none kVDP dcDP pmDP anDP (.ref qcD) ctDP), slDP⟩) (cDP : PySem.W.codeIn K (.ref qcD) "_law_is_too_deep" = true) (kDP : PySem.W.keepIn K (.ref fDP) = true)
    (lLW : K.lookup fLW = some ⟨ocLW, odLW, .func (PySem.W.fnOf "law" "law" (defArgs sLaw) (defBody sLaw) (defScope sLaw) .none kVLW dcLW pmLW anLW (.ref qcL) ctLW), slLW⟩) (cLW : PySem.W.codeIn K (.ref qcL) "law" = true) (kLW : PySem.W.keepIn K (.ref fLW) = true)
    (lFI : K.lookup fFI = some ⟨ocFI, odFI, .func (PySem.W.fnOf "__init__" "Function.__init__" (defArgs sFI) (defBody sFI) (defScope sFI) .none kVFI dcFI pmFI anFI cdFI ctFI), slFI⟩) (cFI : PySem.W.codeIn K cdFI "Function.__init__" = true) (kFI : PySem.W.keepIn K (.ref fFI) = true)
    (lFM : K.lookup fFM = some ⟨ocFM, odFM, .func (PySem.W.fnOf "made" "Function.made" (defArgs sFM) (defBody sFM) (defScope sFM) .none kVFM dcFM pmFM anFM cdFM ctFM), slFM⟩) (cFM : PySem.W.codeIn K cdFM "Function.made" = true) (kFM : PySem.W.keepIn K (.ref fFM) = true)
    (lSI : K.lookup fSI = some ⟨ocSI, odSI, .func (PySem.W.fnOf "__init__" "Spot.__init__" (defArgs sSI) (defBody sSI) (defScope sSI) .none kVSI dcSI pmSI anSI cdSI ctSI), slSI⟩) (cSI : PySem.W.codeIn K cdSI "Spot.__init__" = true) (kSI : PySem.W.keepIn K (.ref fSI) = true)
    (lSN : K.lookup fSN = some ⟨ocSN, odSN, .func (PySem.W.fnOf "inner" "Spot.inner" (defArgs sSN) (defBody sSN) (defScope sSN) .none kVSN dcSN pmSN anSN cdSN ctSN), slSN⟩) (cSN : PySem.W.codeIn K cdSN "Spot.inner" = true) (kSN : PySem.W.keepIn K (.ref fSN) = true)
    (lSF : K.lookup fSF = some ⟨ocSF, odSF, .func (PySem.W.fnOf "fault" "Spot.fault" (defArgs sSF) (defBody sSF) (defScope sSF) .none kVSF dcSF pmSF anSF cdSF ctSF), slSF⟩) (cSF : PySem.W.codeIn K cdSF "Spot.fault" = true) (kSF : PySem.W.keepIn K (.ref fSF) = true)
    (lNI : K.lookup fNI = some ⟨ocNI, odNI, .func (PySem.W.fnOf "__init__" "NoFunction.__init__" (defArgs sNFI) (defBody sNFI) (defScope sNFI) .none kVNI dcNI pmNI anNI cdNI ctNI), slNI⟩) (cNI : PySem.W.codeIn K cdNI "NoFunction.__init__" = true) (kNI : PySem.W.keepIn K (.ref fNI) = true)
    (aC : PySem.W.nsIn K mainGlobals "Function" = some (some (.ref C)))
    (aS : PySem.W.nsIn K mainGlobals "Spot" = some (some (.ref SC)))
    (aFI : PySem.W.findIn K (.ref C) "__init__" = some (some (.ref fFI)))
    (iFI : PySem.W.isFn K (.ref fFI) = true)
    (aSI : PySem.W.findIn K (.ref SC) "__init__" = some (some (.ref fSI)))
    (iSI : PySem.W.isFn K (.ref fSI) = true)
    (aSN : PySem.W.findIn K (.ref SC) "inner" = some (some (.ref fSN)))
    (iSN : PySem.W.isFn K (.ref fSN) = true)
    (aSF : PySem.W.findIn K (.ref SC) "fault" = some (some (.ref fSF)))
    (iSF : PySem.W.isFn K (.ref fSF) = true)
    (e_LeaveError : PySem.W.nsIn K mainGlobals "LeaveError" = some (some (.ref cE0)))
    (e_NoClass : PySem.W.nsIn K mainGlobals "NoClass" = some (some (.ref cE1)))
    (e_NoFunction : PySem.W.nsIn K mainGlobals "NoFunction" = some (some (.ref cE2)))
    (e_NoProgram : PySem.W.nsIn K mainGlobals "NoProgram" = some (some (.ref cE3)))
    (e_NoName : PySem.W.nsIn K mainGlobals "NoName" = some (some (.ref cE4)))
    (e_NoCase : PySem.W.nsIn K mainGlobals "NoCase" = some (some (.ref cE5)))
    (e_TooMany : PySem.W.nsIn K mainGlobals "TooMany" = some (some (.ref cE6)))
    (e_NoText : PySem.W.nsIn K mainGlobals "NoText" = some (some (.ref cE7)))
    (e_NoAct : PySem.W.nsIn K mainGlobals "NoAct" = some (some (.ref cE8)))
    (e_NoRecord : PySem.W.nsIn K mainGlobals "NoRecord" = some (some (.ref cE9)))
    (e_Barred : PySem.W.nsIn K mainGlobals "Barred" = some (some (.ref cE10)))
    (e_Unlike : PySem.W.nsIn K mainGlobals "Unlike" = some (some (.ref cE11)))
    (e_NoRow : PySem.W.nsIn K mainGlobals "NoRow" = some (some (.ref cE12)))
    (aNI : PySem.W.findIn K (.ref cE2) "__init__" = some (some (.ref fNI)))
    (tNI : PySem.W.typeIn K (.ref fNI) = some (.type "function"))
    (oK_z : K.lookup cE2 = some (excClassObj nm_z q_z cE2 N_z bs_z bm_z true sn_z sub_z ab_z col_z dd_z k0_z k1_z k2_z k3_z k5_z "ValueError.__new__"))
    (oR_z : PySem.HandSPX.refsVE bm_z = true)
    (z_sa : PySem.W.findIn K (.ref cE2) "__setattr__" = some (some (.builtin "object.__setattr__")))
    (z_be : PySem.W.subIn K (.ref cE2) (.type "BaseException") = some true)
    (z_ty : PySem.W.typeIn K (.ref cE2) = some (.type "type"))
    (z_kp : PySem.W.keepIn K (.ref cE2) = true)
    (z_f_reason : PySem.W.findIn K (.ref cE2) "reason" = some none)
    (z_f_place : PySem.W.findIn K (.ref cE2) "place" = some none)
    (z_ga : PySem.W.findIn K (.ref cE2) "__getattribute__" = some (some (.builtin "BaseException.__getattribute__")))
    (z_gg : PySem.W.findIn K (.ref cE2) "__getattr__" = some none)
    (z_hd : PySem.W.hasDictIn K cE2 = true)
    (z_cl : PySem.W.findIn K (.ref cE2) "__class__" = some (some (.builtin "object.__class__")))
    (x_gs : PySem.W.specialIn K (.builtin "object.__class__") "__get__" = some (some (.builtin "getset_descriptor.__get__")))
    (x_tk : PySem.W.takesIn K (.builtin "object.__class__") = some true)
    (z_ob : PySem.W.mroIn K cE2 (.type "object") = some true)
    (y_be : PySem.W.subIn K (.ref cE0) (.type "BaseException") = some true)
    (y_hd : PySem.W.hasDictIn K cE0 = true)
    (y_ty : PySem.W.typeIn K (.ref cE0) = some (.type "type"))
    (y_su : PySem.W.subIn K (.ref cE2) (.ref cE0) = some true)
    (z_ve : PySem.W.subIn K (.ref cE2) (.type "ValueError") = some true)
    (n1 : (cE2 == cE1) = false) (ic1 : PySem.W.isClsIn K cE1 = true) (ty1 : PySem.W.typeIn K (.ref cE1) = some (.type "type")) (su1 : PySem.W.subIn K (.ref cE2) (.ref cE1) = some false)
    (n3 : (cE2 == cE3) = false) (ic3 : PySem.W.isClsIn K cE3 = true) (ty3 : PySem.W.typeIn K (.ref cE3) = some (.type "type")) (su3 : PySem.W.subIn K (.ref cE2) (.ref cE3) = some false)
    (n4 : (cE2 == cE4) = false) (ic4 : PySem.W.isClsIn K cE4 = true) (ty4 : PySem.W.typeIn K (.ref cE4) = some (.type "type")) (su4 : PySem.W.subIn K (.ref cE2) (.ref cE4) = some false)
    (n5 : (cE2 == cE5) = false) (ic5 : PySem.W.isClsIn K cE5 = true) (ty5 : PySem.W.typeIn K (.ref cE5) = some (.type "type")) (su5 : PySem.W.subIn K (.ref cE2) (.ref cE5) = some false)
    (n6 : (cE2 == cE6) = false) (ic6 : PySem.W.isClsIn K cE6 = true) (ty6 : PySem.W.typeIn K (.ref cE6) = some (.type "type")) (su6 : PySem.W.subIn K (.ref cE2) (.ref cE6) = some false)
    (n7 : (cE2 == cE7) = false) (ic7 : PySem.W.isClsIn K cE7 = true) (ty7 : PySem.W.typeIn K (.ref cE7) = some (.type "type")) (su7 : PySem.W.subIn K (.ref cE2) (.ref cE7) = some false)
    (n8 : (cE2 == cE8) = false) (ic8 : PySem.W.isClsIn K cE8 = true) (ty8 : PySem.W.typeIn K (.ref cE8) = some (.type "type")) (su8 : PySem.W.subIn K (.ref cE2) (.ref cE8) = some false)
    (n9 : (cE2 == cE9) = false) (ic9 : PySem.W.isClsIn K cE9 = true) (ty9 : PySem.W.typeIn K (.ref cE9) = some (.type "type")) (su9 : PySem.W.subIn K (.ref cE2) (.ref cE9) = some false)
    (n10 : (cE2 == cE10) = false) (ic10 : PySem.W.isClsIn K cE10 = true) (ty10 : PySem.W.typeIn K (.ref cE10) = some (.type "type")) (su10 : PySem.W.subIn K (.ref cE2) (.ref cE10) = some false)
    (n11 : (cE2 == cE11) = false) (ic11 : PySem.W.isClsIn K cE11 = true) (ty11 : PySem.W.typeIn K (.ref cE11) = some (.type "type")) (su11 : PySem.W.subIn K (.ref cE2) (.ref cE11) = some false)
    (n12 : (cE2 == cE12) = false) (ic12 : PySem.W.isClsIn K cE12 = true) (ty12 : PySem.W.typeIn K (.ref cE12) = some (.type "type")) (su12 : PySem.W.subIn K (.ref cE2) (.ref cE12) = some false)
    (pg : PySem.W.plainGet K C Str.empty = true)
    (hd : PySem.W.hasDictIn K C = true)
    (po : PySem.W.plainOver K C = true)
    (sa : PySem.W.findIn K (.ref C) "__setattr__" = some (some (.builtin "object.__setattr__")))
    (mk : PySem.W.makesIn K C = true)
    (kc : PySem.W.keepIn K (.ref C) = true)
    (n_name : PySem.W.findIn K (.ref C) "name" = some none)
    (n_callbacks : PySem.W.findIn K (.ref C) "callbacks" = some none)
    (n_block : PySem.W.findIn K (.ref C) "block" = some none)
    (n_statements : PySem.W.findIn K (.ref C) "statements" = some none)
    (spg : PySem.W.plainGet K SC Str.empty = true)
    (shd : PySem.W.hasDictIn K SC = true)
    (spo : PySem.W.plainOver K SC = true)
    (ssa : PySem.W.findIn K (.ref SC) "__setattr__" = some (some (.builtin "object.__setattr__")))
    (smk : PySem.W.makesIn K SC = true)
    (skc : PySem.W.keepIn K (.ref SC) = true)
    (sn_statement : PySem.W.findIn K (.ref SC) "statement" = some none)
    (sn_depth : PySem.W.findIn K (.ref SC) "depth" = some none)
    (sn_in_loop : PySem.W.findIn K (.ref SC) "in_loop" = some none)
    (sn_bound : PySem.W.findIn K (.ref SC) "bound" = some none)
    (sn_clauses : PySem.W.findIn K (.ref SC) "clauses" = some none)
    (rd : PySem.W.readsIn K C (.type "type") = true)
    (ga : PySem.W.specialIn K (.ref C) "__getattribute__" = some (some (.builtin "type.__getattribute__")))
    (cm : PySem.W.findCls K (.ref C) (.type "type") "made" = some (.get (.builtin "classmethod.__get__") (.ref pM) .none (.ref C)))
    (rc : PySem.W.recIn K pM "classmethod" = some (.ref fFM :: rest))
    (fi : PySem.W.fnIn K fFM = true)
    (zL : PySem.W.nsIn K mainGlobals "LONGEST" = some (some (.int 8 t1)))
    (zC : PySem.W.nsIn K mainGlobals "MOST_CALLBACKS" = some (some (.int 2 t2)))
    (zS : PySem.W.nsIn K mainGlobals "MOST_STATEMENTS" = some (some (.int 60 t3)))
    (zD : PySem.W.nsIn K mainGlobals "DEEPEST" = some (some (.int 12 t4)))
    (zA : PySem.W.nsIn K mainGlobals "MOST_CLAUSES_AROUND" = some (some (.int 2 t5)))
    (zR : PySem.W.nsIn K mainGlobals "RESERVED" = some (some (.ref aR)))
    (lR : K.lookup aR = some ⟨.type "tuple", ddR, .seq itsR nR2, slR⟩)
    (vR : chkS resd itsR.toList = true)
    (szR : itsR.size ≤ sizeLine)
    (zF : PySem.W.nsIn K mainGlobals "FORMS" = some (some (.ref dF)))
    (lF : K.lookup dF = some ⟨.type "dict", none, .dict esF nF, #[]⟩)
    (ky_F : PySem.W.KeysLit w.params esF.toList)
    (lo_F : (dF == sysModules) = false)
    (m_pass : PySem.W.nsIn K dF "pass" = some (some (.ref fEM)))
    (m_return : PySem.W.nsIn K dF "return" = some (some (.ref fEM)))
    (m_break : PySem.W.nsIn K dF "break" = some (some (.ref fEM)))
    (m_raise : PySem.W.nsIn K dF "raise" = some (some (.ref fRA)))
    (m_again : PySem.W.nsIn K dF "again" = some (some (.ref fAG)))
    (m_call : PySem.W.nsIn K dF "call" = some (some (.ref fCA)))
    (m_handling : PySem.W.nsIn K dF "handling" = some (some (.ref fHA)))
    (m_either : PySem.W.nsIn K dF "either" = some (some (.ref fEI)))
    (m_loop : PySem.W.nsIn K dF "loop" = some (some (.ref fLO)))
    (m_try : PySem.W.nsIn K dF "try" = some (some (.ref fTR)))
    (m_with : PySem.W.nsIn K dF "with" = some (some (.ref fWI)))
    (b_len : PySem.W.nsIn K mainGlobals "len" = some none)
    (b_int : PySem.W.nsIn K mainGlobals "int" = some none)
    (b_abs : PySem.W.nsIn K mainGlobals "abs" = some none)
    (b_range : PySem.W.nsIn K mainGlobals "range" = some none)
    (b_list : PySem.W.nsIn K mainGlobals "list" = some none)
    (b_tuple : PySem.W.nsIn K mainGlobals "tuple" = some none)
    (b_enumerate : PySem.W.nsIn K mainGlobals "enumerate" = some none)
    (b_isinstance : PySem.W.nsIn K mainGlobals "isinstance" = some none)
    (b_str : PySem.W.nsIn K mainGlobals "str" = some none)
    (b_set : PySem.W.nsIn K mainGlobals "set" = some none)
    (b_all : PySem.W.nsIn K mainGlobals "all" = some none)
    (b_repr : PySem.W.nsIn K mainGlobals "repr" = some none)
    (b_ValueError : PySem.W.nsIn K mainGlobals "ValueError" = some none)
    (tab_AS : PySem.W.tabIn K "_law_asked" = some (qcA, pA)) (hCd_AS : PySem.W.codeHdIn K qcA pA = true) (nP_AS : K.lookup pA = none) (hP_AS : h.get? pA = some { cls := .none, data := .fields #[] })
    (tab_DP : PySem.W.tabIn K "_law_is_too_deep" = some (qcD, pD)) (hCd_DP : PySem.W.codeHdIn K qcD pD = true) (nP_DP : K.lookup pD = none) (hP_DP : h.get? pD = some { cls := .none, data := .fields #[] })
    (tab_LW : PySem.W.tabIn K "law" = some (qcL, pL)) (hCd_LW : PySem.W.codeHdIn K qcL pL = true) (nP_LW : K.lookup pL = none) (hP_LW : h.get? pL = some { cls := .none, data := .fields #[] })
    (np_AS_DP : (pA == pD) = false)
    (np_AS_LW : (pA == pL) = false)
    (np_DP_LW : (pD == pL) = false)
    : ∃ (fd : FuncData) (cs : List (Addr × Addr)) (sp : Sp), (∀ p ∈ cs, h.get? p.2 = some { cls := .none, data := .fields #[] }) ∧ (∀ p ∈ cs, K.lookup p.2 = none) ∧ (∀ p ∈ cs, PySem.W.CodeHd h p.1 p.2) ∧ (∀ (s : Shared) (u : Value), BindsTo s fd ⟨[u], []⟩ [("_law_script", u)]) ∧
        (∀ (H : Hp) (a : Addr) (ns : List Int), ns.length ≤ 63 → (∀ p ∈ cs, H p.2 = some (.tbl #[])) → SqL K H a (ns.map V.int) → sp [.ref a] H (fun v _ => v = .bl true) fun _ _ _ => False) ∧
        ∀ base : Heap, K.In base → base.Ns mainGlobals mg → (∀ p ∈ cs, TabB base mg p.1 p.2) → FnG l.prog w K mg base 15 fa fd ["_law_script"] sp := by
  have e := hfa.symm.trans (PySem.W.mg_of X G aLW)
  cases e
  have T : Bi mg := ⟨PySem.W.mg_none_of X G b_len, PySem.W.mg_none_of X G b_int, PySem.W.mg_none_of X G b_abs, PySem.W.mg_none_of X G b_range, PySem.W.mg_none_of X G b_list, PySem.W.mg_none_of X G b_tuple, PySem.W.mg_none_of X G b_enumerate, PySem.W.mg_none_of X G b_isinstance, PySem.W.mg_none_of X G b_str, PySem.W.mg_none_of X G b_set, PySem.W.mg_none_of X G b_all, PySem.W.mg_none_of X G b_repr⟩
  have GB : Gb K mg aR t1 t1 := ⟨PySem.W.mg_of X G zL, PySem.W.mg_of X G zR, fun H => .inr ⟨_, itsR, nR2, lR, rfl, rfl, szR, chk_vals vR⟩⟩
  have Y : FnT K mg C := ⟨⟨pg, hd, po, sa⟩, n_name, n_callbacks, n_block, n_statements, PySem.W.mg_of X G aC⟩
  have YS : SpT K mg SC := ⟨⟨spg, shd, spo, ssa⟩, sn_statement, sn_depth, sn_in_loop, sn_bound, sn_clauses, PySem.W.mg_of X G aS⟩
  have FIW := fun_mk (st := sIsW) lIW cIW kIW
  have FAW := fun_mk (st := sAreW) lAW cAW kAW
  have FAD := fun_mk (st := sAreD) lAD cAD kAD
  have FIB := fun_mk (st := sIB) lIB cIB kIB
  have FIS := fun_mk (st := sIS) lIS cIS kIS
  have FPO := fun_mk (st := sPO) lPO cPO kPO
  have FBN := fun_mk (st := sBN) lBN cBN kBN
  have FWA := fun_mk (st := sWa) lWA cWA kWA
  have FEM := fun_mk (st := sEM) lEM cEM kEM
  have FRA := fun_mk (st := sRA) lRA cRA kRA
  have FAG := fun_mk (st := sAG) lAG cAG kAG
  have FCA := fun_mk (st := sCA) lCA cCA kCA
  have FLO := fun_mk (st := sLO) lLO cLO kLO
  have FHA := fun_mk (st := sHA) lHA cHA kHA
  have FEI := fun_mk (st := sEI) lEI cEI kEI
  have FTR := fun_mk (st := sTR) lTR cTR kTR
  have FCL := fun_mk (st := sCL) lCL cCL kCL
  have FWI := fun_mk (st := sWI) lWI cWI kWI
  have FAN := fun_mk (st := sAN) lAN cAN kAN
  have FCH := fun_mk (st := sCH) lCH cCH kCH
  have FCB := fun_mk (st := sCB) lCB cCB kCB
  have FPN := fun_mk (st := sPen) lPN cPN kPN
  have FD := fun_mk (st := sDraw) lD cD kD
  have FPK := fun_mk (st := sPick) lPK cPK kPK
  have FBA := fun_mk (st := sBarred) lBA cBA kBA
  have FWO := fun_mk (st := sWords) lWO cWO kWO
  have FBE := fun_mk (st := sBegun) lBE cBE kBE
  have FHE := fun_mk (st := sHeard) lHE cHE kHE
  have FLQ := fun_mk (st := sLW) lLQ cLQ kLQ
  have FOD := fun_mk (st := sOdd) lOD cOD kOD
  have FER := fun_mk (st := sEr) lER cER kER
  have FDU := fun_mk (st := sDu) lDU cDU kDU
  have FAS := fun_mk (st := sAs) lAS cAS kAS
  have FSL := fun_mk (st := sSl) lSL cSL kSL
  have FDP := fun_mk (st := sDp) lDP cDP kDP
  have FLW := fun_mk (st := sLaw) lLW cLW kLW
  have FFI := fun_mk (st := sFI) lFI cFI kFI
  have FFM := fun_mk (st := sFM) lFM cFM kFM
  have FSI := fun_mk (st := sSI) lSI cSI kSI
  have FSN := fun_mk (st := sSN) lSN cSN kSN
  have FSF := fun_mk (st := sSF) lSF cSF kSF
  have FNI := fun_mk (st := sNFI) lNI cNI kNI
  have DIW : Df K mg "is_word" sIsW fIW _ (["x"] : List Str) := ⟨FIW, PySem.W.mg_of X G aIW, FIW.binds (ps := ["x"]) fun _ _ _ _ _ _ us hl => match us, hl with | [_], _ => rfl⟩
  have DAW : Df K mg "are_words" sAreW fAW _ (["xs"] : List Str) := ⟨FAW, PySem.W.mg_of X G aAW, FAW.binds (ps := ["xs"]) fun _ _ _ _ _ _ us hl => match us, hl with | [_], _ => rfl⟩
  have DAD : Df K mg "are_different" sAreD fAD _ (["words"] : List Str) := ⟨FAD, PySem.W.mg_of X G aAD, FAD.binds (ps := ["words"]) fun _ _ _ _ _ _ us hl => match us, hl with | [_], _ => rfl⟩
  have DIB : Df K mg "is_block" sIB fIB _ (["x"] : List Str) := ⟨FIB, PySem.W.mg_of X G aIB, FIB.binds (ps := ["x"]) fun _ _ _ _ _ _ us hl => match us, hl with | [_], _ => rfl⟩
  have DIS : Df K mg "is_statement" sIS fIS _ (["x"] : List Str) := ⟨FIS, PySem.W.mg_of X G aIS, FIS.binds (ps := ["x"]) fun _ _ _ _ _ _ us hl => match us, hl with | [_], _ => rfl⟩
  have DPO : Df K mg "parts_of" sPO fPO _ (["statement"] : List Str) := ⟨FPO, PySem.W.mg_of X G aPO, FPO.binds (ps := ["statement"]) fun _ _ _ _ _ _ us hl => match us, hl with | [_], _ => rfl⟩
  have DBN : Df K mg "bound_names_in" sBN fBN _ (["statement"] : List Str) := ⟨FBN, PySem.W.mg_of X G aBN, FBN.binds (ps := ["statement"]) fun _ _ _ _ _ _ us hl => match us, hl with | [_], _ => rfl⟩
  have DWA : Df K mg "walk" sWa fWA _ (["block"] : List Str) := ⟨FWA, PySem.W.mg_of X G aWA, FWA.binds (ps := ["block"]) fun _ _ _ _ _ _ us hl => match us, hl with | [_], _ => rfl⟩
  have DEM : Df K mg "_is_empty" sEM fEM _ (["rest"] : List Str) := ⟨FEM, PySem.W.mg_of X G aEM, FEM.binds (ps := ["rest"]) fun _ _ _ _ _ _ us hl => match us, hl with | [_], _ => rfl⟩
  have DRA : Df K mg "_is_raise" sRA fRA _ (["rest"] : List Str) := ⟨FRA, PySem.W.mg_of X G aRA, FRA.binds (ps := ["rest"]) fun _ _ _ _ _ _ us hl => match us, hl with | [_], _ => rfl⟩
  have DAG : Df K mg "_is_again" sAG fAG _ (["rest"] : List Str) := ⟨FAG, PySem.W.mg_of X G aAG, FAG.binds (ps := ["rest"]) fun _ _ _ _ _ _ us hl => match us, hl with | [_], _ => rfl⟩
  have DCA : Df K mg "_is_call" sCA fCA _ (["rest"] : List Str) := ⟨FCA, PySem.W.mg_of X G aCA, FCA.binds (ps := ["rest"]) fun _ _ _ _ _ _ us hl => match us, hl with | [_], _ => rfl⟩
  have DLO : Df K mg "_is_loop" sLO fLO _ (["rest"] : List Str) := ⟨FLO, PySem.W.mg_of X G aLO, FLO.binds (ps := ["rest"]) fun _ _ _ _ _ _ us hl => match us, hl with | [_], _ => rfl⟩
  have DHA : Df K mg "_is_handling" sHA fHA _ (["rest"] : List Str) := ⟨FHA, PySem.W.mg_of X G aHA, FHA.binds (ps := ["rest"]) fun _ _ _ _ _ _ us hl => match us, hl with | [_], _ => rfl⟩
  have DEI : Df K mg "_is_either" sEI fEI _ (["rest"] : List Str) := ⟨FEI, PySem.W.mg_of X G aEI, FEI.binds (ps := ["rest"]) fun _ _ _ _ _ _ us hl => match us, hl with | [_], _ => rfl⟩
  have DTR : Df K mg "_is_try" sTR fTR _ (["rest"] : List Str) := ⟨FTR, PySem.W.mg_of X G aTR, FTR.binds (ps := ["rest"]) fun _ _ _ _ _ _ us hl => match us, hl with | [_], _ => rfl⟩
  have DCL : Df K mg "_is_clause" sCL fCL _ (["x"] : List Str) := ⟨FCL, PySem.W.mg_of X G aCL, FCL.binds (ps := ["x"]) fun _ _ _ _ _ _ us hl => match us, hl with | [_], _ => rfl⟩
  have DWI : Df K mg "_is_with" sWI fWI _ (["rest"] : List Str) := ⟨FWI, PySem.W.mg_of X G aWI, FWI.binds (ps := ["rest"]) fun _ _ _ _ _ _ us hl => match us, hl with | [_], _ => rfl⟩
  have DAN : Df K mg "_are_names" sAN fAN _ (["x"] : List Str) := ⟨FAN, PySem.W.mg_of X G aAN, FAN.binds (ps := ["x"]) fun _ _ _ _ _ _ us hl => match us, hl with | [_], _ => rfl⟩
  have DCH : Df K mg "_check_head" sCH fCH _ (["name", "callbacks", "block"] : List Str) := ⟨FCH, PySem.W.mg_of X G aCH, FCH.binds (ps := ["name", "callbacks", "block"]) fun _ _ _ _ _ _ us hl => match us, hl with | [_, _, _], _ => rfl⟩
  have DCB : Df K mg "_check_block" sCB fCB _ (["block"] : List Str) := ⟨FCB, PySem.W.mg_of X G aCB, FCB.binds (ps := ["block"]) fun _ _ _ _ _ _ us hl => match us, hl with | [_], _ => rfl⟩
  have DPN : Df K mg "_law_pen" sPen fPN _ (["_law_script"] : List Str) := ⟨FPN, PySem.W.mg_of X G aPN, FPN.binds (ps := ["_law_script"]) fun _ _ _ _ _ _ us hl => match us, hl with | [_], _ => rfl⟩
  have DD : Df K mg "_law_draw" sDraw fD _ (["_law_pen_here", "_law_many"] : List Str) := ⟨FD, PySem.W.mg_of X G aD, FD.binds (ps := ["_law_pen_here", "_law_many"]) fun _ _ _ _ _ _ us hl => match us, hl with | [_, _], _ => rfl⟩
  have DPK : Df K mg "_law_pick" sPick fPK _ (["_law_pen_here", "_law_some"] : List Str) := ⟨FPK, PySem.W.mg_of X G aPK, FPK.binds (ps := ["_law_pen_here", "_law_some"]) fun _ _ _ _ _ _ us hl => match us, hl with | [_, _], _ => rfl⟩
  have DBA : Df K mg "_law_barred" sBarred fBA _ ([] : List Str) := ⟨FBA, PySem.W.mg_of X G aBA, FBA.binds (ps := []) fun _ _ _ _ _ _ us hl => match us, hl with | [], _ => rfl⟩
  have DWO : Df K mg "_law_words" sWords fWO _ (["_law_pen_here", "_law_many"] : List Str) := ⟨FWO, PySem.W.mg_of X G aWO, FWO.binds (ps := ["_law_pen_here", "_law_many"]) fun _ _ _ _ _ _ us hl => match us, hl with | [_, _], _ => rfl⟩
  have DBE : Df K mg "_law_begun" sBegun fBE _ (["_law_pen_here", "_law_many"] : List Str) := ⟨FBE, PySem.W.mg_of X G aBE, FBE.binds (ps := ["_law_pen_here", "_law_many"]) fun _ _ _ _ _ _ us hl => match us, hl with | [_, _], _ => rfl⟩
  have DHE : Df K mg "_law_heard" sHeard fHE _ (["_law_ask"] : List Str) := ⟨FHE, PySem.W.mg_of X G aHE, FHE.binds (ps := ["_law_ask"]) fun _ _ _ _ _ _ us hl => match us, hl with | [_], _ => rfl⟩
  have DLQ : Df K mg "_law_is_word" sLW fLQ _ (["_law_thing"] : List Str) := ⟨FLQ, PySem.W.mg_of X G aLQ, FLQ.binds (ps := ["_law_thing"]) fun _ _ _ _ _ _ us hl => match us, hl with | [_], _ => rfl⟩
  have DOD : Df K mg "_law_odd" sOdd fOD _ (["_law_pen_here"] : List Str) := ⟨FOD, PySem.W.mg_of X G aOD, FOD.binds (ps := ["_law_pen_here"]) fun _ _ _ _ _ _ us hl => match us, hl with | [_], _ => rfl⟩
  have DER : Df K mg "_law_error" sEr fER _ (["_law_heard_here"] : List Str) := ⟨FER, PySem.W.mg_of X G aER, FER.binds (ps := ["_law_heard_here"]) fun _ _ _ _ _ _ us hl => match us, hl with | [_], _ => rfl⟩
  have DDU : Df K mg "_law_due" sDu fDU _ (["_law_word", "_law_calls", "_law_body"] : List Str) := ⟨FDU, PySem.W.mg_of X G aDU, FDU.binds (ps := ["_law_word", "_law_calls", "_law_body"]) fun _ _ _ _ _ _ us hl => match us, hl with | [_, _, _], _ => rfl⟩
  have DAS : Df K mg "_law_asked" sAs fAS _ (["_law_word", "_law_calls", "_law_body"] : List Str) := ⟨FAS, PySem.W.mg_of X G aAS, FAS.binds (ps := ["_law_word", "_law_calls", "_law_body"]) fun _ _ _ _ _ _ us hl => match us, hl with | [_, _, _], _ => rfl⟩
  have DSL : Df K mg "_law_spoiled" sSl fSL _ (["_law_pen_here", "_law_word", "_law_calls"] : List Str) := ⟨FSL, PySem.W.mg_of X G aSL, FSL.binds (ps := ["_law_pen_here", "_law_word", "_law_calls"]) fun _ _ _ _ _ _ us hl => match us, hl with | [_, _, _], _ => rfl⟩
  have DDP : Df K mg "_law_is_too_deep" sDp fDP _ (["_law_pen_here"] : List Str) := ⟨FDP, PySem.W.mg_of X G aDP, FDP.binds (ps := ["_law_pen_here"]) fun _ _ _ _ _ _ us hl => match us, hl with | [_], _ => rfl⟩
  have BFM := FFM.binds (ps := ["cls", "name", "callbacks", "block"]) fun _ _ _ _ _ _ us hl => match us, hl with | [_, _, _, _], _ => rfl
  have BSI := FSI.binds (ps := ["self", "statement", "depth", "in_loop", "bound", "clauses"]) fun _ _ _ _ _ _ us hl => match us, hl with | [_, _, _, _, _, _], _ => rfl
  have BSN := FSN.binds (ps := ["self"]) fun _ _ _ _ _ _ us hl => match us, hl with | [_], _ => rfl
  have BSF := FSF.binds (ps := ["self"]) fun _ _ _ _ _ _ us hl => match us, hl with | [_], _ => rfl
  have BNI := FNI.binds (ps := ["self", "reason", "place"]) fun _ _ _ _ _ _ us hl => match us, hl with | [_, _, _], _ => rfl
  let cl : Str → Addr := fun x => (([("LeaveError", cE0), ("NoClass", cE1), ("NoFunction", cE2), ("NoProgram", cE3), ("NoName", cE4), ("NoCase", cE5), ("TooMany", cE6), ("NoText", cE7), ("NoAct", cE8), ("NoRecord", cE9), ("Barred", cE10), ("Unlike", cE11), ("NoRow", cE12)] : List (Str × Addr)).lookup x).getD 0
  have hcl : ∀ x ∈ errs, mg x = some (.ref (cl x)) := fun x hx => by
    simp only [errs, List.mem_cons, List.not_mem_nil, or_false] at hx
    rcases hx with rfl | rfl | rfl | rfl | rfl | rfl | rfl | rfl | rfl | rfl | rfl | rfl | rfl
    · exact PySem.W.mg_of X G e_LeaveError
    · exact PySem.W.mg_of X G e_NoClass
    · exact PySem.W.mg_of X G e_NoFunction
    · exact PySem.W.mg_of X G e_NoProgram
    · exact PySem.W.mg_of X G e_NoName
    · exact PySem.W.mg_of X G e_NoCase
    · exact PySem.W.mg_of X G e_TooMany
    · exact PySem.W.mg_of X G e_NoText
    · exact PySem.W.mg_of X G e_NoAct
    · exact PySem.W.mg_of X G e_NoRecord
    · exact PySem.W.mg_of X G e_Barred
    · exact PySem.W.mg_of X G e_Unlike
    · exact PySem.W.mg_of X G e_NoRow
  have hF : OfFun K cl cE2 := ⟨PySem.W.exm_ref y_be y_hd y_ty y_su, ⟨z_ga, z_gg, z_be, z_hd, z_cl, x_gs, x_tk, z_ob⟩, ⟨z_ga, z_gg, z_be, z_hd⟩, z_f_reason, z_f_place, kit_ref n1 ic1 ty1 su1, kit_same, kit_ref n3 ic3 ty3 su3, kit_ref n4 ic4 ty4 su4, kit_ref n5 ic5 ty5 su5, kit_ref n6 ic6 ty6 su6, any_no (kit_ref n7 ic7 ty7 su7) (any_no (kit_ref n8 ic8 ty8 su8) (any_no (kit_ref n9 ic9 ty9 su9) (any_no (kit_ref n10 ic10 ty10 su10) (any_no (kit_ref n11 ic11 ty11 su11) (any_no (kit_ref n12 ic12 ty12 su12) rfl))))), kit_ve z_ve⟩
  have NFx : NF K mg cE2 fNI := ⟨⟨⟨_, _, _, _, _, _, _, _, _, _, _, _, _, _, _, oK_z, oR_z⟩, z_sa, z_be, z_ty, z_kp⟩, z_f_reason, z_f_place, aNI, tNI, PySem.W.mg_of X G e_NoFunction⟩
  have tVE := PySem.W.mg_none_of X G b_ValueError
  have M : Mk K C fFI := ⟨mk, aFI, iFI, kc⟩
  have MS : Mk K SC fSI := ⟨smk, aSI, iSI, skc⟩
  have mSN : Meth K SC "inner" fSN := ⟨aSN, iSN, kSN⟩
  have mSF : Meth K SC "fault" fSF := ⟨aSF, iSF, kSF⟩
  let fm : Str → Addr := fun x => (([("pass", fEM), ("return", fEM), ("break", fEM), ("raise", fRA), ("again", fAG), ("call", fCA), ("handling", fHA), ("either", fEI), ("loop", fLO), ("try", fTR), ("with", fWI)] : List (Str × Addr)).lookup x).getD 0
  have Fm : Fms K w mg dF esF nF fm := ⟨⟨lF, ky_F, lo_F⟩, PySem.W.mg_of X G zF, fun x hx => by
    simp only [fwords, List.mem_cons, List.not_mem_nil, or_false] at hx
    rcases hx with rfl | rfl | rfl | rfl | rfl | rfl | rfl | rfl | rfl | rfl | rfl
    · exact m_pass
    · exact m_return
    · exact m_break
    · exact m_raise
    · exact m_again
    · exact m_call
    · exact m_handling
    · exact m_either
    · exact m_loop
    · exact m_try
    · exact m_with⟩
  have ne_AS_DP : pA ≠ pD := fun e => by rw [e] at np_AS_DP; simp at np_AS_DP
  have ne_AS_LW : pA ≠ pL := fun e => by rw [e] at np_AS_LW; simp at np_AS_LW
  have ne_DP_LW : pD ≠ pL := fun e => by rw [e] at np_DP_LW; simp at np_DP_LW
  have mm : ∀ p ∈ [(qcA, pA), (qcD, pD), (qcL, pL)], p = (qcA, pA) ∨ p = (qcD, pD) ∨ p = (qcL, pL) := fun p hp => by simpa using hp
  refine ⟨_, [(qcA, pA), (qcD, pD), (qcL, pL)], spLaw K pA pD pL, fun p hp => ?_, fun p hp => ?_, fun p hp => ?_, fun z u => .of_eq (fd := (PySem.W.fnOf "law" "law" (defArgs sLaw) (defBody sLaw) (defScope sLaw) .none kVLW dcLW pmLW anLW (.ref qcL) ctLW)) rfl, fun H a ns hl hT hS => ⟨a, ns, rfl, hS, hl, hT (qcA, pA) (by simp), hT (qcD, pD) (by simp), hT (qcL, pL) (by simp), fun _ => rfl⟩, fun base _ _ hTB => ?_⟩
  · rcases mm p hp with rfl | rfl | rfl
    · exact hP_AS
    · exact hP_DP
    · exact hP_LW
  · rcases mm p hp with rfl | rfl | rfl
    · exact nP_AS
    · exact nP_DP
    · exact nP_LW
  · rcases mm p hp with rfl | rfl | rfl
    · exact PySem.W.codeHd_of_K X hCd_AS
    · exact PySem.W.codeHd_of_K X hCd_DP
    · exact PySem.W.codeHd_of_K X hCd_LW
  have tB_AS := hTB (qcA, pA) (by simp)
  have tB_DP := hTB (qcD, pD) (by simp)
  have tB_LW := hTB (qcL, pL) (by simp)
  have GD := ok_draw (P := l.prog) (w := w) (base := base) FD T
  have GP := ok_pick (P := l.prog) (w := w) (base := base) FPK T DD
  have GBa := ok_barred (P := l.prog) (w := w) (mg := mg) (base := base) FBA
  have GWo := ok_words (P := l.prog) (w := w) (base := base) FWO T DD DPK DBA
  have GBe := ok_begun FBE T DD DWO GWo
  have GIwG := ok_iswG (P := l.prog) (w := w) (base := base) FIW T GB
  have GAwG := ok_arewG FAW T DIW GIwG
  have GAdG := ok_aredG (P := l.prog) (w := w) (base := base) FAD T
  have GIb := ok_ib (P := l.prog) (w := w) (base := base) FIB T
  have GEm := ok_em (P := l.prog) (w := w) (base := base) FEM T
  have GRa := ok_ra FRA T DIW GIwG
  have GAg := ok_ag FAG T DAW GAwG
  have GCa := ok_ca FCA T DAW GAwG
  have GLo := ok_lo FLO T DIB GIb
  have GEi := ok_ei FEI T DIB GIb
  have GHa := ok_ha FHA T DEI GEi
  have GAn := ok_an FAN T DAW GAwG DAD GAdG
  have GCl := ok_cl FCL T DIB GIb DAN GAn DIW GIwG
  have GWi := ok_wi FWI T DIB GIb DAN GAn DIW GIwG
  have GTr := ok_tr FTR T DIB GIb DCL GCl
  have O : FmsOk l.prog w K mg base fm := ⟨fun x hx => by
    have e : fm x = fEM := by
      simp only [List.mem_cons, List.not_mem_nil, or_false] at hx
      rcases hx with rfl | rfl | rfl <;> rfl
    rw [e]
    exact ⟨_, _, GEm.mono (by decide), DEM.F.kp, DEM.b⟩, ⟨_, _, GRa.mono (by decide), DRA.F.kp, DRA.b⟩, ⟨_, _, GAg.mono (by decide), DAG.F.kp, DAG.b⟩, ⟨_, _, GCa.mono (by decide), DCA.F.kp, DCA.b⟩, ⟨_, _, GHa.mono (by decide), DHA.F.kp, DHA.b⟩, ⟨_, _, GEi.mono (by decide), DEI.F.kp, DEI.b⟩, ⟨_, _, GLo.mono (by decide), DLO.F.kp, DLO.b⟩, ⟨_, _, GTr.mono (by decide), DTR.F.kp, DTR.b⟩, ⟨_, _, GWi.mono (by decide), DWI.F.kp, DWI.b⟩⟩
  have GIs := ok_is (P := l.prog) (w := w) (base := base) FIS T Fm O
  have GPo := ok_po (P := l.prog) (w := w) (base := base) FPO T
  have GBn := ok_bn (P := l.prog) (w := w) (base := base) FBN T
  have GWa := ok_walk FWA T DPO GPo
  have GNi := ok_nfi (P := l.prog) (w := w) (base := base) FNI NFx
  have GSi := ok_si (P := l.prog) (w := w) (base := base) FSI YS
  have GSf := ok_sf FSF T YS (PySem.W.mg_of X G zD) (PySem.W.mg_of X G zA) DIS GIs DBN GBn
  have GSn := ok_sn FSN T YS MS GSi BSI DPO GPo
  have GCh := ok_ch FCH T (PySem.W.mg_of X G zC) DIW GIwG DIB GIb NFx GNi BNI
  have GCb := ok_cb FCB T YS (PySem.W.mg_of X G zS) MS GSi BSI mSF GSf BSF mSN GSn BSN NFx GNi BNI
  have GFi := ok_fi FFI T Y DCH GCh DCB GCb DWA GWa
  have GFm := ok_fm FFM M GFi
  have cR : ClX.CRead K C (.type "type") := ⟨rd, ga⟩
  have cM : ClX.CMet K C (.type "type") "made" pM fFM := ⟨cm, ⟨rest, rc⟩, fi⟩
  have GPn := ok_pen (P := l.prog) (w := w) (base := base) FPN T
  have GLw := ok_lw FLQ T DBA GBa
  have GOd := ok_odd FOD T DBA GBa DPK GP
  have GEr := ok_er (P := l.prog) (w := w) (base := base) FER T
  have GDu := ok_du FDU T DLQ GLw
  have GSl := ok_sl FSL T DD GD DPK GP DOD GOd
  have GAs := ok_as (PA := pA) (PD := pD) (PL := pL) FAS rfl tB_AS ne_AS_DP ne_AS_LW T tVE hcl hF Y M DHE GFi
  have GDp := ok_dp (PA := pA) (PD := pD) (PL := pL) FDP rfl tB_DP ne_AS_DP ne_DP_LW T tVE hcl hF Y DD GD DPK GP DHE cR cM GFm BFM
  exact ok_law FLW rfl tB_LW ne_AS_LW ne_DP_LW T tVE hcl hF Y DPN GPn DPK GP DBE GBe DSL GSl DDU GDu DHE DER GEr DAS GAs DDP GDp cR cM GFm BFM
end K2
end
section
set_option Elab.async false
set_option maxRecDepth 100000
open PySem PySem.W PyProof.Rows
set_option maxRecDepth 100000 in
set_option maxHeartbeats 0 in
theorem PySem.Challenge.cw_whatleaves_k10_names_and_callbacks_refus_holds : PySem.Challenge.rw_whatleaves_k10_names_and_callbacks_refus.Holds := by
  w_on; o_law; k_head; (case hw => w_witness2)
  k_fill
  refine K2.walk_ofTG (l := PySem.Challenge.rw_whatleaves_k10_names_and_callbacks_refus) (n := 63) (k := 15) (x := "_law_script") rfl (by decide) rfl ⟨rfl, by decide, by decide⟩ (fun w h Y => PySem.W.km_in_of Y) ?F
  case F =>
    intro w mg fa h YY KX G hmg
    refine' K2.all_mk KX G hmg ?aIW ?aAW ?aAD ?aIB ?aIS ?aPO ?aBN ?aWA ?aEM ?aRA ?aAG ?aCA ?aLO ?aHA ?aEI ?aTR ?aCL ?aWI ?aAN ?aCH ?aCB ?aPN ?aD ?aPK ?aBA ?aWO ?aBE ?aHE ?aLQ ?aOD ?aER ?aDU ?aAS ?aSL ?aDP ?aLW ?lIW ?cIW ?kIW ?lAW ?cAW ?kAW ?lAD ?cAD ?kAD ?lIB ?cIB ?kIB ?lIS ?cIS ?kIS ?lPO ?cPO ?kPO ?lBN ?cBN ?kBN ?lWA ?cWA ?kWA ?lEM ?cEM ?kEM ?lRA ?cRA ?kRA ?lAG ?cAG ?kAG ?lCA ?cCA ?kCA ?lLO ?cLO ?kLO ?lHA ?cHA ?kHA ?lEI ?cEI ?kEI ?lTR ?cTR ?kTR ?lCL ?cCL ?kCL ?lWI ?cWI ?kWI ?lAN ?cAN ?kAN ?lCH ?cCH ?kCH ?lCB ?cCB ?kCB ?lPN ?cPN ?kPN ?lD ?cD ?kD ?lPK ?cPK ?kPK ?lBA ?cBA ?kBA ?lWO ?cWO ?kWO ?lBE ?cBE ?kBE ?lHE ?cHE ?kHE ?lLQ ?cLQ ?kLQ ?lOD ?cOD ?kOD ?lER ?cER ?kER ?lDU ?cDU ?kDU ?lAS ?cAS ?kAS ?lSL ?cSL ?kSL ?lDP ?cDP ?kDP ?lLW ?cLW ?kLW ?lFI ?cFI ?kFI ?lFM ?cFM ?kFM ?lSI ?cSI ?kSI ?lSN ?cSN ?kSN ?lSF ?cSF ?kSF ?lNI ?cNI ?kNI ?aC ?aS ?aFI ?iFI ?aSI ?iSI ?aSN ?iSN ?aSF ?iSF ?e_LeaveError ?e_NoClass ?e_NoFunction ?e_NoProgram ?e_NoName ?e_NoCase ?e_TooMany ?e_NoText ?e_NoAct ?e_NoRecord ?e_Barred ?e_Unlike ?e_NoRow ?aNI ?tNI ?oK_z ?oR_z ?z_sa ?z_be ?z_ty ?z_kp ?z_f_reason ?z_f_place ?z_ga ?z_gg ?z_hd ?z_cl ?x_gs ?x_tk ?z_ob ?y_be ?y_hd ?y_ty ?y_su ?z_ve ?n1 ?ic1 ?ty1 ?su1 ?n3 ?ic3 ?ty3 ?su3 ?n4 ?ic4 ?ty4 ?su4 ?n5 ?ic5 ?ty5 ?su5 ?n6 ?ic6 ?ty6 ?su6 ?n7 ?ic7 ?ty7 ?su7 ?n8 ?ic8 ?ty8 ?su8 ?n9 ?ic9 ?ty9 ?su9 ?n10 ?ic10 ?ty10 ?su10 ?n11 ?ic11 ?ty11 ?su11 ?n12 ?ic12 ?ty12 ?su12 ?pg ?hd ?po ?sa ?mk ?kc ?n_name ?n_callbacks ?n_block ?n_statements ?spg ?shd ?spo ?ssa ?smk ?skc ?sn_statement ?sn_depth ?sn_in_loop ?sn_bound ?sn_clauses ?rd ?ga ?cm ?rc ?fi ?zL ?zC ?zS ?zD ?zA ?zR ?lR ?vR ?szR ?zF ?lF ?ky_F ?lo_F ?m_pass ?m_return ?m_break ?m_raise ?m_again ?m_call ?m_handling ?m_either ?m_loop ?m_try ?m_with ?b_len ?b_int ?b_abs ?b_range ?b_list ?b_tuple ?b_enumerate ?b_isinstance ?b_str ?b_set ?b_all ?b_repr ?b_ValueError ?tab_AS ?hCd_AS ?nP_AS ?hP_AS ?tab_DP ?hCd_DP ?nP_DP ?hP_DP ?tab_LW ?hCd_LW ?nP_LW ?hP_LW ?np_AS_DP ?np_AS_LW ?np_DP_LW
    (case aIW => k_is)
    (case aAW => k_is)
    (case aAD => k_is)
    (case aIB => k_is)
    (case aIS => k_is)
    (case aPO => k_is)
    (case aBN => k_is)
    (case aWA => k_is)
    (case aEM => k_is)
    (case aRA => k_is)
    (case aAG => k_is)
    (case aCA => k_is)
    (case aLO => k_is)
    (case aHA => k_is)
    (case aEI => k_is)
    (case aTR => k_is)
    (case aCL => k_is)
    (case aWI => k_is)
    (case aAN => k_is)
    (case aCH => k_is)
    (case aCB => k_is)
    (case aPN => k_is)
    (case aD => k_is)
    (case aPK => k_is)
    (case aBA => k_is)
    (case aWO => k_is)
    (case aBE => k_is)
    (case aHE => k_is)
    (case aLQ => k_is)
    (case aOD => k_is)
    (case aER => k_is)
    (case aDU => k_is)
    (case aAS => k_is)
    (case aSL => k_is)
    (case aDP => k_is)
    (case aLW => k_is)
    (case aC => k_is)
    (case aS => k_is)
    (case e_NoFunction => k_is)
    (case aNI => k_is)
    (case aFI => k_is)
    (case aSI => k_is)
    (case aSN => k_is)
    (case aSF => k_is)
    (case cm => k_is)
    (case rc => k_is)
    (case zF => k_is)
    (case e_LeaveError => k_is)
    (case e_NoClass => k_is)
    (case e_NoProgram => k_is)
    (case e_NoName => k_is)
    (case e_NoCase => k_is)
    (case e_TooMany => k_is)
    (case e_NoText => k_is)
    (case e_NoAct => k_is)
    (case e_NoRecord => k_is)
    (case e_Barred => k_is)
    (case e_Unlike => k_is)
    (case e_NoRow => k_is)
    (case lIW => k_is)
    (case cIW => k_is)
    (case kIW => k_is)
    (case lAW => k_is)
    (case cAW => k_is)
    (case kAW => k_is)
    (case lAD => k_is)
    (case cAD => k_is)
    (case kAD => k_is)
    (case lIB => k_is)
    (case cIB => k_is)
    (case kIB => k_is)
    (case lIS => k_is)
    (case cIS => k_is)
    (case kIS => k_is)
    (case lPO => k_is)
    (case cPO => k_is)
    (case kPO => k_is)
    (case lBN => k_is)
    (case cBN => k_is)
    (case kBN => k_is)
    (case lWA => k_is)
    (case cWA => k_is)
    (case kWA => k_is)
    (case lEM => k_is)
    (case cEM => k_is)
    (case kEM => k_is)
    (case lRA => k_is)
    (case cRA => k_is)
    (case kRA => k_is)
    (case lAG => k_is)
    (case cAG => k_is)
    (case kAG => k_is)
    (case lCA => k_is)
    (case cCA => k_is)
    (case kCA => k_is)
    (case lLO => k_is)
    (case cLO => k_is)
    (case kLO => k_is)
    (case lHA => k_is)
    (case cHA => k_is)
    (case kHA => k_is)
    (case lEI => k_is)
    (case cEI => k_is)
    (case kEI => k_is)
    (case lTR => k_is)
    (case cTR => k_is)
    (case kTR => k_is)
    (case lCL => k_is)
    (case cCL => k_is)
    (case kCL => k_is)
    (case lWI => k_is)
    (case cWI => k_is)
    (case kWI => k_is)
    (case lAN => k_is)
    (case cAN => k_is)
    (case kAN => k_is)
    (case lCH => k_is)
    (case cCH => k_is)
    (case kCH => k_is)
    (case lCB => k_is)
    (case cCB => k_is)
    (case kCB => k_is)
    (case lPN => k_is)
    (case cPN => k_is)
    (case kPN => k_is)
    (case lD => k_is)
    (case cD => k_is)
    (case kD => k_is)
    (case lPK => k_is)
    (case cPK => k_is)
    (case kPK => k_is)
    (case lBA => k_is)
    (case cBA => k_is)
    (case kBA => k_is)
    (case lWO => k_is)
    (case cWO => k_is)
    (case kWO => k_is)
    (case lBE => k_is)
    (case cBE => k_is)
    (case kBE => k_is)
    (case lHE => k_is)
    (case cHE => k_is)
    (case kHE => k_is)
    (case lLQ => k_is)
    (case cLQ => k_is)
    (case kLQ => k_is)
    (case lOD => k_is)
    (case cOD => k_is)
    (case kOD => k_is)
    (case lER => k_is)
    (case cER => k_is)
    (case kER => k_is)
    (case lDU => k_is)
    (case cDU => k_is)
    (case kDU => k_is)
    (case lAS => k_is)
    (case cAS => k_is)
    (case kAS => k_is)
    (case lSL => k_is)
    (case cSL => k_is)
    (case kSL => k_is)
    (case lDP => k_is)
    (case cDP => k_is)
    (case kDP => k_is)
    (case lLW => k_is)
    (case cLW => k_is)
    (case kLW => k_is)
    (case lFI => k_is)
    (case cFI => k_is)
    (case kFI => k_is)
    (case lFM => k_is)
    (case cFM => k_is)
    (case kFM => k_is)
    (case lSI => k_is)
    (case cSI => k_is)
    (case kSI => k_is)
    (case lSN => k_is)
    (case cSN => k_is)
    (case kSN => k_is)
    (case lSF => k_is)
    (case cSF => k_is)
    (case kSF => k_is)
    (case lNI => k_is)
    (case cNI => k_is)
    (case kNI => k_is)
    (case iFI => k_is)
    (case iSI => k_is)
    (case iSN => k_is)
    (case iSF => k_is)
    (case tNI => k_is)
    (case oK_z => k_is)
    (case oR_z => decide +kernel)
    (case z_sa => k_is)
    (case z_be => k_is)
    (case z_ty => k_is)
    (case z_kp => k_is)
    (case z_f_reason => k_is)
    (case z_f_place => k_is)
    (case z_ga => k_is)
    (case z_gg => k_is)
    (case z_hd => k_is)
    (case z_cl => k_is)
    (case x_gs => k_is)
    (case x_tk => k_is)
    (case z_ob => k_is)
    (case y_be => k_is)
    (case y_hd => k_is)
    (case y_ty => k_is)
    (case y_su => k_is)
    (case z_ve => k_is)
    (case n1 => decide)
    (case ic1 => k_is)
    (case ty1 => k_is)
    (case su1 => k_is)
    (case n3 => decide)
    (case ic3 => k_is)
    (case ty3 => k_is)
    (case su3 => k_is)
    (case n4 => decide)
    (case ic4 => k_is)
    (case ty4 => k_is)
    (case su4 => k_is)
    (case n5 => decide)
    (case ic5 => k_is)
    (case ty5 => k_is)
    (case su5 => k_is)
    (case n6 => decide)
    (case ic6 => k_is)
    (case ty6 => k_is)
    (case su6 => k_is)
    (case n7 => decide)
    (case ic7 => k_is)
    (case ty7 => k_is)
    (case su7 => k_is)
    (case n8 => decide)
    (case ic8 => k_is)
    (case ty8 => k_is)
    (case su8 => k_is)
    (case n9 => decide)
    (case ic9 => k_is)
    (case ty9 => k_is)
    (case su9 => k_is)
    (case n10 => decide)
    (case ic10 => k_is)
    (case ty10 => k_is)
    (case su10 => k_is)
    (case n11 => decide)
    (case ic11 => k_is)
    (case ty11 => k_is)
    (case su11 => k_is)
    (case n12 => decide)
    (case ic12 => k_is)
    (case ty12 => k_is)
    (case su12 => k_is)
    (case pg => k_is)
    (case hd => k_is)
    (case po => k_is)
    (case sa => k_is)
    (case mk => k_is)
    (case kc => k_is)
    (case n_name => k_is)
    (case n_callbacks => k_is)
    (case n_block => k_is)
    (case n_statements => k_is)
    (case spg => k_is)
    (case shd => k_is)
    (case spo => k_is)
    (case ssa => k_is)
    (case smk => k_is)
    (case skc => k_is)
    (case sn_statement => k_is)
    (case sn_depth => k_is)
    (case sn_in_loop => k_is)
    (case sn_bound => k_is)
    (case sn_clauses => k_is)
    (case rd => k_is)
    (case ga => k_is)
    (case fi => k_is)
    (case zL => k_is)
    (case zC => k_is)
    (case zS => k_is)
    (case zD => k_is)
    (case zA => k_is)
    (case zR => k_is)
    (case lR => k_is)
    (case vR => decide +kernel)
    (case szR => decide +kernel)
    (case lF => k_is)
    (case ky_F => k_keys)
    (case lo_F => decide)
    (case m_pass => k_is)
    (case m_return => k_is)
    (case m_break => k_is)
    (case m_raise => k_is)
    (case m_again => k_is)
    (case m_call => k_is)
    (case m_handling => k_is)
    (case m_either => k_is)
    (case m_loop => k_is)
    (case m_try => k_is)
    (case m_with => k_is)
    (case b_len => k_is)
    (case b_int => k_is)
    (case b_abs => k_is)
    (case b_range => k_is)
    (case b_list => k_is)
    (case b_tuple => k_is)
    (case b_enumerate => k_is)
    (case b_isinstance => k_is)
    (case b_str => k_is)
    (case b_set => k_is)
    (case b_all => k_is)
    (case b_repr => k_is)
    (case b_ValueError => k_is)
    (case tab_AS => with_unfolding_all rfl)
    (case hCd_AS => kernel_rfl)
    (case nP_AS => kernel_rfl)
    (case hP_AS => exact PySem.W.km_tabs_of YY _ (by k_mem))
    (case tab_DP => with_unfolding_all rfl)
    (case hCd_DP => kernel_rfl)
    (case nP_DP => kernel_rfl)
    (case hP_DP => exact PySem.W.km_tabs_of YY _ (by k_mem))
    (case tab_LW => with_unfolding_all rfl)
    (case hCd_LW => kernel_rfl)
    (case nP_LW => kernel_rfl)
    (case hP_LW => exact PySem.W.km_tabs_of YY _ (by k_mem))
    (case np_AS_DP => decide)
    (case np_AS_LW => decide)
    (case np_DP_LW => decide)
end
