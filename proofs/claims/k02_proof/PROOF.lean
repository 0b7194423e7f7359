import PyProof.Rows.All
import Wide.All
import OpenK.AllK
import Wide.FinOn
import HandS.Base
import HandS.Call
import HandS.List
import HandS.Strs
import HandS.SetKeys
import HandS.ForMost
import HandS.Walk
import HandS.ForExc
import HandS.ExcInit
import HandS.ExcField
import HandS.ExcIs
import HandS.IsInst
import KE.KExcIs
import HandS.ExcValue
import KE.KExcInit
import HandS.Words
import HandS.Ends
import HandS.Property
import PyProof.InstNe
import PyProof.FactsAll.range_iterator_1
import HandS.NamedTupSort
import PyProof.ReprRoads
import HandS.IterNext
import HandS.TryMany
import HandS.OwnEq
import HandS.OwnIter
import HandS.IterVal
import KE.KOwnIter
import HandS.EndTab
import KE.KNest
import HandS.Conv
import HandS.MakeKwOnly
import HandS.Lambda
import PySem.Challenge.RW_ownmarks_k02_crowds_told
import HandS.TupLe
import HandS.Style
set_option Elab.async false
set_option linter.all false
set_option maxRecDepth 100000
/-! Sets made of a list or a tuple of keys of any kind, however many: what is in them and how many there are. -/
namespace Km
open PySem PySem.Spec PyProof.Rows
section
variable {K : Type} [DecidableEq K]
def addU (l : List K) (k : K) : List K := if k ∈ l then l else l ++ [k]
def uniq (ks : List K) : List K := ks.foldl addU []
theorem uniq_snoc (ks : List K) (k : K) : uniq (ks ++ [k]) = addU (uniq ks) k := by
  unfold uniq
  rw [List.foldl_append]
  rfl
theorem mem_addU {l : List K} {k j : K} : j ∈ addU l k ↔ j ∈ l ∨ j = k := by
  unfold addU
  split
  · constructor
    · exact .inl
    · rintro (h | rfl) <;> assumption
  · simp
theorem rev_ind {P : List K → Prop} (h0 : P []) (h1 : ∀ l k, P l → P (l ++ [k])) (l : List K) : P l := by
  have h : ∀ r : List K, P r.reverse := by
    intro r
    induction r with
    | nil => exact h0
    | cons a r ih =>
      rw [List.reverse_cons]
      exact h1 _ _ ih
  have := h l.reverse
  rwa [List.reverse_reverse] at this
theorem mem_uniq (ks : List K) (j : K) : j ∈ uniq ks ↔ j ∈ ks := by
  induction ks using rev_ind with
  | h0 => simp [uniq]
  | h1 l k ih => rw [uniq_snoc, mem_addU, ih, List.mem_append, List.mem_singleton]
theorem uniq_le (ks : List K) : (uniq ks).length ≤ ks.length := by
  induction ks using rev_ind with
  | h0 => exact Nat.le_refl _
  | h1 l k ih =>
    rw [uniq_snoc, List.length_append, List.length_singleton]
    unfold addU
    split
    · omega
    · rw [List.length_append, List.length_singleton]
      omega
theorem uniq_full (ks : List K) : (uniq ks).length = ks.length ↔ ks.Nodup := by
  induction ks using rev_ind with
  | h0 => simp [uniq]
  | h1 l k ih =>
    have h2 := uniq_le l
    rw [uniq_snoc, List.length_append, List.length_singleton, List.nodup_append, ← ih]
    unfold addU
    by_cases h : k ∈ uniq l
    · rw [if_pos h]
      have h' := (mem_uniq l k).mp h
      constructor
      · intro e
        omega
      · rintro ⟨_, _, z⟩
        exact absurd rfl (z k h' k (List.mem_singleton.mpr rfl))
    · rw [if_neg h, List.length_append, List.length_singleton]
      have h' : k ∉ l := fun z => h ((mem_uniq l k).mpr z)
      constructor
      · intro e
        refine ⟨by omega, by simp, fun a ha b hb z => ?_⟩
        rw [List.mem_singleton.mp hb] at z
        exact h' (z ▸ ha)
      · rintro ⟨z, _⟩
        omega
theorem addU_len (l : List K) (k : K) : (addU l k).length = if decide (k ∈ l) = true then l.length else l.length + 1 := by
  unfold addU
  by_cases h : k ∈ l
  · rw [if_pos h, if_pos (decide_eq_true h)]
  · rw [if_neg h, if_neg (by simpa using h), List.length_append, List.length_singleton]
end
section
variable {prog : Program} {w : World} {K : Type} [DecidableEq K] {knd : KeyKind prog w K}
theorem setOf_eq {h : Heap} {a : Addr} {S T : K → Bool} {n m : Nat} (z : h.SetOf knd a S n) (e1 : ∀ k, S k = T k) (e2 : n = m) : h.SetOf knd a T m := by
  rw [← funext e1, ← e2]
  exact z
variable {A : Around} {R : Result → Shared → Prop} {I S : Addr} {fp wr : List Addr} {G : Array GenState → Array GenState → Prop} {n : Nat} {P : Nat → Value → Prop} {St : Nat → Shared → Prop}
def inU (ks : List K) (i : Nat) : K → Bool := fun k => decide (k ∈ uniq (ks.take i))
theorem inU_next {ks : List K} {i : Nat} {k : K} (hk : ks[i]? = some k) (j : K) : (inU ks i j || decide (j = k)) = inU ks (i + 1) j := by
  unfold inU
  rw [List.take_add_one, hk]
  show _ = decide (j ∈ uniq (ks.take i ++ [k]))
  rw [uniq_snoc, ← Bool.decide_or]
  exact decide_eq_decide.mpr mem_addU.symm
theorem cnt_next {ks : List K} {i : Nat} {k : K} (hk : ks[i]? = some k) : (if inU ks i k = true then (uniq (ks.take i)).length else (uniq (ks.take i)).length + 1) = (uniq (ks.take (i + 1))).length := by
  rw [List.take_add_one, hk]
  show _ = (uniq (ks.take i ++ [k])).length
  rw [uniq_snoc, addU_len]
  rfl
/-- the filling of a fresh set, from turn i on -/
theorem fill (W : WalksS prog w A.in1 I fp wr G n P St) (hS : S ∉ fp) (ks : List K) (hn : ks.length = n) (hroom : n + 1 < scanBound)
    (hval : ∀ i v, P i v → ∃ k, ks[i]? = some k ∧ knd.is k v = true ∧ v.scannable = true) :
    ∀ (left i : Nat) (s : Shared), left = n - i → i ≤ n → St i s → s.heap.SetOf knd S (inU ks i) (uniq (ks.take i)).length →
      (∀ s2, Moved (S :: wr) G s s2 → s2.heap.SetOf knd S (inU ks n) (uniq (ks.take n)).length → R (.ok (.ret .none)) s2) →
      codeAny (model prog w) A (.builtin "set.update.loop" ⟨[.ref S, .ref I], []⟩) R s
  | 0, i, s, hl, hi, st, z, hR => by
    have e : i = n := by omega
    rw [e] at st z
    refine codeAny_builtin PyProof.Rows.F.entry_set_update_loop ?_
    rw [Around.under_plainId PyProof.Rows.F.plain_set_update_loop _]
    refine wpAny_bind (W.done s _ _ st fun s2 mv => ?_)
    have hw : S ∉ wr := fun q => hS (W.sub _ q)
    refine wpAny_pure (hR s2 (mv.mono fun b hb => List.mem_cons_of_mem _ hb) ?_)
    obtain ⟨o, es, ep, t, ho, r⟩ := z
    exact ⟨o, es, ep, t, mv.heap S _ hw ho, r⟩
  | left + 1, i, s, hl, hi, st, z, hR => by
    have lt : i < n := by omega
    have hw : S ∉ wr := fun q => hS (W.sub _ q)
    refine codeAny_builtin PyProof.Rows.F.entry_set_update_loop ?_
    rw [Around.under_plainId PyProof.Rows.F.plain_set_update_loop _]
    refine wpAny_bind (W.item i s _ _ lt st fun v s1 hv st1 mv => ?_)
    obtain ⟨k, hk, his, hsc⟩ := hval i v hv
    have z1 : s1.heap.SetOf knd S (inU ks i) (uniq (ks.take i)).length := by
      obtain ⟨o, es, ep, t, ho, r⟩ := z
      exact ⟨o, es, ep, t, mv.heap S _ hw ho, r⟩
    refine wpAny_bind (wpAny_holding ?_)
    unfold setAdd
    refine wpAny_holding (wpAny_bind (knd.pyHash his ?_))
    have room : (uniq (ks.take i)).length + 1 < scanBound := by
      have h1 := uniq_le (ks.take i)
      have h2 : (ks.take i).length ≤ i := by
        rw [List.length_take]
        omega
      omega
    refine wpAny_setAddHashed_of (s := { s1 with toks := s1.toks + 1 }) his hsc z1 room fun h2 sb z2 => ?_
    have z3 : h2.SetOf knd S (inU ks (i + 1)) (uniq (ks.take (i + 1))).length := setOf_eq z2 (inU_next hk) (cnt_next hk)
    refine wpAny_pure ⟨plainId_quiet PyProof.Rows.F.plain_set_update_loop _, fill W hS ks hn hroom hval left (i + 1) _ (by omega) lt (W.frame _ s1 _ _ st1 (Nat.le_succ _) fun b hb o e => ?_) z3 fun s3 mv3 z4 => ?_⟩
    · have nb : b ≠ S := fun q => hS (q ▸ hb)
      rw [sb.2 b nb]
      exact e
    · refine hR s3 (Moved.trans W.gtrans ((mv.mono fun b hb => List.mem_cons_of_mem _ hb).then_heap (Nat.le_succ _) fun b o hb e => ?_) mv3) z4
      have nb : b ≠ S := fun q => hb (q ▸ List.mem_cons_self)
      rw [sb.2 b nb]
      exact e
end
end Km
namespace Km
open PySem PySem.Spec PyProof.Rows
section
variable {prog : Program} {w : World} {A : Around} {E : Value → Shared → Prop} {s : Shared} {K : Type} [DecidableEq K] {knd : KeyKind prog w K}
def fresh (led : Bool) : Obj := { cls := .type "set", dict := none, data := .set #[] 0 (.fresh 0 0 led) }
/-- what __init__ is to leave: all of keys in the set at D, what stood before stands -/
def Left (knd : KeyKind prog w K) (s : Shared) (ks : List K) (s2 : Shared) : Prop :=
  ∃ h2 tk, s2 = { s with heap := h2, toks := tk } ∧ h2.SetOf knd s.heap.objs.size (inU ks ks.length) (uniq ks).length ∧ ∀ b o, s.heap.get? b = some o → h2.get? b = some o
/-- set(x), given what its __init__ does with the fresh set -/
theorem set_of_init {x : Value} {ks : List K} {Q : Value → Shared → Prop}
    (hinit : ∀ (led : Bool) (B : Around), (A.handled = none → B.handled = none) → wpAny (model prog w) B (Builtin.«set.__init__» ⟨[.ref s.heap.objs.size, x], []⟩)
      (fun r s2 => r = .done (.ret .none) ∧ Left knd s ks s2) E { s with heap := s.heap.push (fresh led) })
    (h : ∀ s2, Left knd s ks s2 → Q (.ref s.heap.objs.size) s2) : wpAny (model prog w) A (call (.type "set") [x]) Q E s := by
  obtain ⟨c, tl, hmro⟩ := PySem.F.called_set.mro
  have a1 := PySem.F.called_set.made
  have a2 := PySem.F.called_set.sub
  refine wpAny_call (codeAny_of_tree ?_)
  refine wpAny_pure ⟨Code.quiet_builtin _ (by decide +kernel), codeAny_builtin PySem.F.entry_type_call ?_⟩
  rw [Around.under_plain (weight_type_call_type "set" [x] []) rfl]
  have a3 := PySem.F.called_set.notType
  have a4 := PySem.F.called_set.canCreate
  have a5 := PySem.F.typeCall_set_1 x
  repeat (any_goals (first | assumption | wp_step))
  refine codeAny_mono (code_set_new_1 x (E := E) (Q₁ := fun o s1 => ∃ led : Bool, o = .ref s.heap.objs.size ∧ s1 = { s with heap := s.heap.push (fresh led) }) fun led => ⟨led, rfl, rfl⟩) fun r s1 hr => ?_
  cases r with
  | error e => exact hr
  | ok fl =>
    cases fl with
    | ret o =>
      obtain ⟨led, rfl, rfl⟩ := hr
      have at1 : (s.heap.push (fresh led)).get? s.heap.objs.size = some (fresh led) := Heap.get?_push_size _ rfl
      have ty1 : Shared.TypeIs { s with heap := s.heap.push (fresh led) } (.ref s.heap.objs.size) "set" := ⟨_, at1, rfl⟩
      have a6 := PySem.F.called_set.init.lookup
      have a7 := PySem.F.called_set.init.bind (.ref s.heap.objs.size)
      repeat (any_goals (first | assumption | wp_step))
      refine codeAny_mono (codeAny_call_builtin (R := wants (fun r s2 => r = .none ∧ Left knd s ks s2) E) PySem.F.called_set.init.plain PySem.F.entry_set_init (check_set_init_1 ty1 ?_)) fun r2 s2 hr2 => ?_
      · refine wpAny_mono (hinit led _ fun q => ?_) (fun r s2 z => ?_) (fun _ _ z => z)
        · simp [q]
        · obtain ⟨rfl, z⟩ := z
          exact ⟨rfl, z⟩
      · cases r2 with
        | error e => exact hr2
        | ok f2 =>
          cases f2 with
          | ret r =>
            obtain ⟨rfl, z⟩ := hr2
            repeat (any_goals (first | assumption | wp_step))
            exact h _ z
          | _ => exact hr2.elim
    | _ => exact hr.elim
/-- set.__init__ over a list -/
theorem init_list {l : Addr} {items : Array Value} {ks : List K} (led : Bool) (hh : A.handled = none) (hl : s.heap.IsList l items) (hn : ks.length = items.size) (hroom : items.size + 1 < scanBound)
    (hval : ∀ (i : Nat) (v : Value), items[i]? = some v → ∃ k, ks[i]? = some k ∧ knd.is k v = true ∧ v.scannable = true) :
    wpAny (model prog w) A (Builtin.«set.__init__» ⟨[.ref s.heap.objs.size, .ref l], []⟩) (fun r s2 => r = .done (.ret .none) ∧ Left knd s ks s2) E { s with heap := s.heap.push (fresh led) } := by
  have at1 : (s.heap.push (fresh led)).get? s.heap.objs.size = some (fresh led) := Heap.get?_push_size _ rfl
  have ty1 : Shared.TypeIs { s with heap := s.heap.push (fresh led) } (.ref s.heap.objs.size) "set" := ⟨_, at1, rfl⟩
  obtain ⟨⟨oc, odict, od, osl⟩, ho, hc, nl, hd⟩ := hl
  simp only at hc hd
  subst hc hd
  have ho1 : (s.heap.push (fresh led)).get? l = some { cls := .type "list", dict := odict, data := .seq items nl, slots := osl } := Heap.get?_push_of_some _ ho
  have b1 := PySem.F.sub_list_set
  have b2 := PySem.F.sub_list_frozenset
  have b3 : (Value.type "list" == Value.type "dict") = false := by decide
  have hl1 : (s.heap.push (fresh led)).IsList l items := ⟨_, ho1, rfl, nl, rfl⟩
  unfold Builtin.«set.__init__» noKeywords Builtin.Frozenset.updateFrom
  generalize hPI : pyIter = PI
  wp_walk
  subst hPI
  refine wpAny_pyIter_list hl1 ?_
  refine wpAny_bind (wpAny_runValue ?_)
  have lS : l < s.heap.objs.size := Heap.lt_size ho
  have h1 : A.in1.handled = none := by simp [hh]
  have sz : (s.heap.push (fresh led)).objs.size = s.heap.objs.size + 1 := Heap.size_push ..
  have nI : l ≠ (s.heap.push (fresh led)).objs.size := by
    rw [sz]
    exact Nat.ne_of_lt (Nat.lt_succ_of_lt lS)
  have nf : s.heap.objs.size ∉ [(s.heap.push (fresh led)).objs.size, l] := by
    rw [sz]
    intro q
    rcases List.mem_cons.mp q with q | q
    · exact absurd q (Nat.ne_of_lt (Nat.lt_succ_self _))
    · exact absurd (List.mem_singleton.mp q) (Nat.ne_of_gt lS)
  refine fill (knd := knd) ((Walks.list h1 _ l nI items).toS) nf ks hn hroom hval (items.size - 0) 0 _ rfl (Nat.zero_le _) ⟨⟨_, Heap.get?_push_size _ rfl, rfl, rfl⟩, hl1.push _⟩ ?_ ?_
  · have at2 : ((s.heap.push (fresh led)).push { cls := .type "list_iterator", data := .fields #[.ref l, .int 0 0] }).get? s.heap.objs.size = some (fresh led) := Heap.get?_push_of_some _ at1
    exact setOf_eq ((PyProof.Rows.setObjOf_fresh (knd := knd) led).setOf at2 (by unfold scanBound; omega)) (fun _ => by simp [inU, uniq]) (by simp [uniq])
  · intro s2 mv z
    obtain ⟨h2, g2, d2, t2, o2⟩ := s2
    obtain rfl : g2 = s.gens := mv.gens
    obtain rfl : d2 = s.drawn := mv.drawn
    obtain rfl : o2 = s.os := mv.os
    refine wpAny_pure (wpAny_pure ⟨rfl, h2, t2, rfl, ?_, fun b o e => ?_⟩)
    · rw [← hn, List.take_length] at z
      exact z
    · have bS : b < s.heap.objs.size := Heap.lt_size e
      refine mv.heap b o (fun q => ?_) (Heap.get?_push_of_some _ (Heap.get?_push_of_some _ e))
      rcases List.mem_cons.mp q with q | q
      · exact absurd q (Nat.ne_of_lt bS)
      · have q' := List.mem_singleton.mp q
        rw [sz] at q'
        exact absurd q' (Nat.ne_of_lt (Nat.lt_succ_of_lt bS))
/-- set.__init__ over a tuple -/
theorem init_tuple {l : Addr} {items : Array Value} {ks : List K} (led : Bool) (hh : A.handled = none) (hl : s.heap.IsTuple l items) (hn : ks.length = items.size) (hroom : items.size + 1 < scanBound)
    (hval : ∀ (i : Nat) (v : Value), items[i]? = some v → ∃ k, ks[i]? = some k ∧ knd.is k v = true ∧ v.scannable = true) :
    wpAny (model prog w) A (Builtin.«set.__init__» ⟨[.ref s.heap.objs.size, .ref l], []⟩) (fun r s2 => r = .done (.ret .none) ∧ Left knd s ks s2) E { s with heap := s.heap.push (fresh led) } := by
  have at1 : (s.heap.push (fresh led)).get? s.heap.objs.size = some (fresh led) := Heap.get?_push_size _ rfl
  have ty1 : Shared.TypeIs { s with heap := s.heap.push (fresh led) } (.ref s.heap.objs.size) "set" := ⟨_, at1, rfl⟩
  obtain ⟨⟨oc, odict, od, osl⟩, ho, hc, nl, hd⟩ := hl
  simp only at hc hd
  subst hc hd
  have ho1 : (s.heap.push (fresh led)).get? l = some { cls := .type "tuple", dict := odict, data := .seq items nl, slots := osl } := Heap.get?_push_of_some _ ho
  have b1 := PySem.F.sub_tuple_set
  have b2 := PySem.F.sub_tuple_frozenset
  have b3 : (Value.type "tuple" == Value.type "dict") = false := by decide
  have hl1 : (s.heap.push (fresh led)).IsTuple l items := ⟨_, ho1, rfl, nl, rfl⟩
  unfold Builtin.«set.__init__» noKeywords Builtin.Frozenset.updateFrom
  generalize hPI : pyIter = PI
  wp_walk
  subst hPI
  refine wpAny_pyIter_tuple hl1 ?_
  refine wpAny_bind (wpAny_runValue ?_)
  have lS : l < s.heap.objs.size := Heap.lt_size ho
  have h1 : A.in1.handled = none := by simp [hh]
  have sz : (s.heap.push (fresh led)).objs.size = s.heap.objs.size + 1 := Heap.size_push ..
  have nI : l ≠ (s.heap.push (fresh led)).objs.size := by
    rw [sz]
    exact Nat.ne_of_lt (Nat.lt_succ_of_lt lS)
  have nf : s.heap.objs.size ∉ [(s.heap.push (fresh led)).objs.size, l] := by
    rw [sz]
    intro q
    rcases List.mem_cons.mp q with q | q
    · exact absurd q (Nat.ne_of_lt (Nat.lt_succ_self _))
    · exact absurd (List.mem_singleton.mp q) (Nat.ne_of_gt lS)
  refine fill (knd := knd) ((Walks.tuple h1 _ l nI items).toS) nf ks hn hroom hval (items.size - 0) 0 _ rfl (Nat.zero_le _) ⟨⟨_, Heap.get?_push_size _ rfl, rfl, rfl⟩, hl1.push _⟩ ?_ ?_
  · have at2 : ((s.heap.push (fresh led)).push { cls := .type "tuple_iterator", data := .fields #[.ref l, .int 0 0] }).get? s.heap.objs.size = some (fresh led) := Heap.get?_push_of_some _ at1
    exact setOf_eq ((PyProof.Rows.setObjOf_fresh (knd := knd) led).setOf at2 (by unfold scanBound; omega)) (fun _ => by simp [inU, uniq]) (by simp [uniq])
  · intro s2 mv z
    obtain ⟨h2, g2, d2, t2, o2⟩ := s2
    obtain rfl : g2 = s.gens := mv.gens
    obtain rfl : d2 = s.drawn := mv.drawn
    obtain rfl : o2 = s.os := mv.os
    refine wpAny_pure (wpAny_pure ⟨rfl, h2, t2, rfl, ?_, fun b o e => ?_⟩)
    · rw [← hn, List.take_length] at z
      exact z
    · have bS : b < s.heap.objs.size := Heap.lt_size e
      refine mv.heap b o (fun q => ?_) (Heap.get?_push_of_some _ (Heap.get?_push_of_some _ e))
      rcases List.mem_cons.mp q with q | q
      · exact absurd q (Nat.ne_of_lt bS)
      · have q' := List.mem_singleton.mp q
        rw [sz] at q'
        exact absurd q' (Nat.ne_of_lt (Nat.lt_succ_of_lt bS))
end
end Km

set_option Elab.async false
set_option linter.all false
set_option maxRecDepth 100000
set_option maxHeartbeats 2000000
namespace L2
open PySem PySem.Spec PyProof.Rows
/-- set(x), x a list or a tuple of ints and texts -/
def rSetK (P : Program) (w : World) (K : PySem.W.Frag) : List V → Hp → VK → Prop := fun xs H Q => ∃ (l : Addr) (ks : List Key), xs = [.ref l] ∧ (SqL K H l (ks.map kV) ∨ SqT K H l (ks.map kV)) ∧ ks.length ≤ 1000 ∧
  ∀ p, H p = none → Q (.ref p) (upd H p (SetK P w p (Km.inU ks ks.length) (Km.uniq ks).length))
section
variable {X : Cx}
theorem km_keys_at {P : Program} {w : World} {ks : List Key} {its : List Value} (r : Vals (ks.map kV) its) (i : Nat) (v : Value) (h : its.toArray[i]? = some v) : ∃ k, ks[i]? = some k ∧ (mixKind P w).is k v = true ∧ v.scannable = true := by
  have h2 : its[i]? = some v := by simpa using h
  have hl : i < ks.length := by
    have e := r.length
    rw [List.length_map] at e
    rw [e]
    exact (List.getElem?_eq_some_iff.mp h2).1
  obtain ⟨u, hu, ru⟩ := r.get (i := i) (x := kV ks[i]) (by simp [hl])
  rw [h2] at hu
  cases hu
  exact ⟨ks[i], List.getElem?_eq_getElem hl, kV_is ru, key_scan ru⟩
theorem cr_setK (hc : X.calm = true) : CallR X (.type "set") (rSetK X.prog X.w X.K) := by
  intro pins s σ H xs us Q I r h
  obtain ⟨l, ks, rfl, hq, hroom, q⟩ := h
  rw [Vals.ref1 r]
  have hd := I.ok.hd hc
  have fin : ∀ s2, Km.Left (mixKind X.prog X.w) s ks s2 → EP X pins σ Q (.ref s.heap.objs.size) s2 := fun s2 ⟨h2, tk, e, z, k⟩ => by
    subst e
    exact ⟨.ref _, _, I.laid (t' := tk) k (Nat.le_refl _) (setK_new z), rfl, q _ (I.hok.fresh (Nat.le_refl _))⟩
  rcases hq with hq | hq
  · obtain ⟨its, rr, pl, hz⟩ := I.list hq
    have hn : ks.length = its.toArray.size := by rw [List.size_toArray, ← rr.length, List.length_map]
    exact Km.set_of_init (knd := mixKind X.prog X.w) (ks := ks) (fun led B hB => Km.init_list led (hB hd) pl.isList hn (by unfold scanBound; omega) (km_keys_at rr)) fin
  · obtain ⟨its, rr, pl, hz⟩ := I.tuple hq
    have hn : ks.length = its.toArray.size := by rw [List.size_toArray, ← rr.length, List.length_map]
    exact Km.set_of_init (knd := mixKind X.prog X.w) (ks := ks) (fun led B hB => Km.init_tuple led (hB hd) pl hn (by unfold scanBound; omega) (km_keys_at rr)) fin
/-- len(S) -/
def rLenK (P : Program) (w : World) : List V → Hp → VK → Prop := fun xs H Q => ∃ (a : Addr) (S : Key → Bool) (n : Nat), xs = [.ref a] ∧ H a = some (SetK P w a S n) ∧ n ≤ 1000 ∧ Q (.int n) H
theorem cr_lenK : CallR X (.builtin "len") (rLenK X.prog X.w) := by
  intro pins s σ H xs us Q I r h
  obtain ⟨a, S, n, rfl, ha, hn, q⟩ := h
  rw [Vals.ref1 r]
  obtain ⟨o, es, ep, t, ho, hex, hd, _, _, _, hf, hz⟩ := setK_get I ha
  refine call_len_set ho hex hd hf (by rw [hz]; omega) ⟨.int n, H, I.tok _, ⟨_, by rw [hz]⟩, q⟩
end
end L2
namespace L2
open PySem PySem.Spec PyProof.Rows
theorem same_new {H : Hp} {p : Addr} {o : HO} (h : H p = none) : Same H (upd H p o) := fun b x e => by
  rw [upd_ne (ne_of_none e h)]
  exact e
/-- a new object: from then on the heap is a letter -/
theorem newH {H : Hp} {p : Addr} {o : HO} (n : H p = none) {P : Hp → Prop} (h : ∀ H2, Same H H2 → H2 p = some o → P H2) : P (upd H p o) := h _ (same_new n) upd_same
section
variable {J : It} {n : Nat} {G : Hp → Prop}
/-- a comprehension without a test whose element keeps what was tracked -/
theorem lc_map {xs ys : List V} (w : Walk J n G (YAt xs)) (hy : ys.length = n) (hsz : n < sizeLine) {slot : Nat} {te : TE} {vs : List Nat} {σ : St} {H1 : Hp} {D : Addr} {Qd : Hp → Prop} (hD : H1 D = none)
    (hG : ∀ H, Same H1 H → G H) (hw : ∀ x, wipe ((wipe σ vs).set slot (some x)) vs = wipe σ vs)
    (hs : ∀ (i : Nat) (x y : V) (H : Hp) (Q : VK), xs[i]? = some x → ys[i]? = some y → Same H1 H → (∀ H4, Same H H4 → Q y H4) → te ((wipe σ vs).set slot (some x)) H Q)
    (hd : ∀ H, Same H1 H → H D = some (.lst ys) → Qd H) :
    ∃ W : Nat → Nat → Hp → Prop, (∃ m, W 0 m (upd H1 D (.lst []))) ∧ ∀ i m H, W i m H →
      (J.stop i H ∧ Qd H) ∨ (J.go i H ∧ ∃ Nx : Hp → Prop, (∀ H', Nx H' → ∃ m', m' < m ∧ W (i + 1) m' H') ∧ ∀ x H', J.yld i H x H' → gName slot x (wipe σ vs) H' fun σ2 H2 => wipe σ2 vs = wipe σ vs ∧ tYes σ2 H2 fun b H3 =>
        if b = true then te σ2 H3 fun y H4 => ∃ acc, H4 D = some (.lst acc) ∧ acc.length < sizeLine ∧ Nx (upd H4 D (.lst (acc ++ [y]))) else Nx H3) := by
  refine lc_it w (fun i H => Same H1 H ∧ H D = some (.lst (ys.take i))) ⟨same_new hD, upd_same⟩ (fun i H _ h => hG H h.1) (fun i x H H' hi h y => ?_) (fun H h => hd H h.1 (by rw [h.2, ← hy, List.take_length]))
  obtain ⟨s1, hl⟩ := h
  obtain ⟨rfl, hx⟩ := y
  have hyi : ys[i]? = some (ys[i]'(by omega)) := List.getElem?_eq_getElem (by omega)
  refine ⟨hw x, ?_⟩
  unfold tYes
  dsimp only
  rw [if_pos rfl]
  refine hs i x _ H' _ hx hyi s1 fun H4 s4 => ⟨ys.take i, s4 _ _ hl, ?_, ?_, ?_⟩
  · rw [List.length_take]
    omega
  · intro b o e
    rw [upd_ne (ne_of_none e hD)]
    exact s4 _ _ (s1 _ _ e)
  · rw [upd_same, List.take_add_one, hyi]
    rfl
end
section
variable {X : Cx} {CX : CXT} {k : Nat} {f C : Addr} {fd : FuncData} {ps : List Str} {sp : Sp} {E : St → XK} {x : Str} {p pos : Pos} {e : Expr} {es : List Expr} {t : TA}
/-- C(e, ..) where what its __init__ raises is wished for at the caller's slots -/
def tMakeS (C : Addr) (sp : Sp) (E : St → XK) (t : TA) : TE := fun σ H Q => t σ H fun vs H1 => ∀ x dx, H1 x = none → H1 dx = none → dx ≠ x → sp (.ref x :: vs) (upd (upd H1 dx (.own x)) x (.ins C dx [])) (fun v H2 => v = .non ∧ Q (.ref x) H2) (E σ)
theorem pe_makeS (M : Mk X.K C f) (F : FnOk X.prog X.w X.K X.mg X.base CX k f fd ps sp) (hr : Room (k + 1) X.A) (hg : Gl X x) (hm : X.mg x = some (.ref C)) (hb : Binds X.K fd ps []) (hx : ∀ σ, PassesAt CX X σ (E σ))
    (ha : PA X (e :: es) t) (hdb : (x == ("__debug__" : Str)) = false := by decide) (he : starEach (e :: es) X.env = (false, eval e X.env) :: starEach es X.env := by rfl) (hpl : (backTo pos (starEach es X.env)).any (·.1) = false := by rfl) :
    PE X (.Call (.Name x p) (e :: es) [] pos) (tMakeS C sp E t) := by
  constructor
  intro pins s σ H Q I h
  refine wpAny_Call_Name_kw (ld_glob I hg hm ?_ hdb)
  refine PySem.W.callWith_K (h₀ := X.base) I.ok.mod.kin M.kp (thn (ha.run pos pins s σ H _ I h) fun us s1 q0 => ?_) he hpl
  obtain ⟨vs, H1, I1, r, q⟩ := q0
  refine ⟨I1.kIn, ?_⟩
  have q1 := q (s1.heap.objs.size + 1) s1.heap.objs.size (I1.hok.fresh (Nat.le_succ _)) (I1.hok.fresh (Nat.le_refl _)) (Nat.ne_of_lt (Nat.lt_succ_self _))
  have I2 := Inv.made (C := C) I1
  have r2 : Vals (V.ref (s1.heap.objs.size + 1) :: vs) (Value.ref (s1.heap.objs.size + 1) :: us) := .cons rfl r
  have hl : (Value.ref (s1.heap.objs.size + 1) :: us).length = ps.length := by
    rw [← r2.length]
    exact F.len _ _ _ _ q1
  have b := hb _ (Value.ref (s1.heap.objs.size + 1) :: us) I2.kIn (by rw [List.append_nil]; exact hl)
  rw [List.append_nil] at b
  refine wpAny_call (make_map (f := f) I1.kIn M.makes M.init (beq_iff_eq.mp M.fn) (codeAny_mono (F.run _ X.stack _ _ ⟨_ :: us, []⟩ _ _ _ (E σ) (hr.make C us []) (I2.env0.make C us []) b r2 q1) fun z s2 hz => ?_))
  cases z with
  | error err => exact hx σ pins _ _ err s2 I2 hz
  | ok fl =>
    cases fl with
    | ret u =>
      obtain ⟨v, H3, I3, rv, ev, q3⟩ := I2.after hz
      subst ev
      exact ⟨rv, V.ref _, H3, I3, rfl, q3⟩
    | next => exact False.elim hz
    | brk => exact False.elim hz
    | cont => exact False.elim hz
end
/-- isinstance(e, c), e the exception that the suite holds, with its own dict or without -/
def rIsX (K : PySem.W.Frag) (D a : Addr) (cls : Value) (d : Option Addr) : List V → Hp → VK → Prop := fun xs H Q => ∃ (c : V) (cv : Value) (b : Bool), xs = [.ref a, c] ∧ (∀ u, RelV c u → u = cv) ∧ cls = .ref D ∧ (∀ dx, d = some dx → ∃ fs, H dx = some (.xd fs)) ∧ PySem.W.kitOne K (.ref D) cv = some b ∧ Q (.bl b) H
theorem call_isX {X : Cx} {a D : Addr} {oe : Obj} {cls : Value} {d : Option Addr} {pn : List (Addr × Obj)} (C : ExcC X.K D) (hz : Zc cls d oe) (hf : ∃ vs, oe.data = .fields vs) :
    CallR (X.suite a ((a, oe) :: pn)) (.builtin "isinstance") (rIsX X.K D a cls d) := by
  intro pins s σ H xs us Q I r h
  obtain ⟨c, cv, b, rfl, hcv, ecl, hd, e, q⟩ := h
  obtain ⟨u1, u2, rfl, r1, r2⟩ := vals2 r
  cases r1
  obtain rfl := hcv _ r2
  obtain ⟨hget, _⟩ := I.pin (a, oe) (List.mem_append.mpr (.inl List.mem_cons_self))
  obtain ⟨vs, hv⟩ := hf
  obtain ⟨h1, h2⟩ := hz
  have hcl : (PySem.W.clsIn X.K D).isSome = true := by
    obtain ⟨cd, hc, _⟩ := PySem.W.any_some C.hd
    rw [hc] <;> rfl
  have nc : PySem.W.notCls oe = true := by
    unfold PySem.W.notCls
    rw [hv] <;> rfl
  rw [ecl] at h1
  have J : ∃ od, PySem.W.InstAt s.heap a oe D od := by
    cases d with
    | none => exact ⟨none, hget, h1, nc, by rw [h2]; trivial⟩
    | some dx =>
      obtain ⟨fs, hx⟩ := hd dx rfl
      have z : ObjOk X.prog X.w H s.heap dx (.xd fs) := I.hok dx _ hx
      obtain ⟨mA, hns, _⟩ := z
      obtain ⟨od, ho, _⟩ := lookIn_ns hns
      exact ⟨some od, hget, h1, nc, by rw [h2]; exact ho⟩
  obtain ⟨od, J⟩ := J
  exact PySem.W.kia_one (PySem.W.kitx_exc hcl C.hg C.hk C.hs C.ha C.hn C.ht C.hm) I.kIn J e (fun z => nomatch z) fun tk => ⟨.bl b, H, I.kept (t' := tk) fun _ _ z => z, rfl, q⟩
end L2
namespace L2
open PySem PySem.Spec PyProof.Rows
section
variable {X : Cx} {e : Expr} {t : TE} {st : Stmt} {u : TS}
/-- an expression by a contract: ways meet -/
def tCut (P : St → Hp → V → Hp → Prop) (t : TE) : TE := fun σ H Q => t σ H (P σ H) ∧ ∀ v H', P σ H v H' → Q v H'
theorem pe_cut (P : St → Hp → V → Hp → Prop) (h : PE X e t) : PE X e (tCut P t) := ⟨fun pins s σ H Q I z => thn (h.run pins s σ H _ I z.1) fun _ _ q => by
  obtain ⟨x, H1, I1, r, p⟩ := q
  exact ⟨x, H1, I1, r, z.2 x H1 p⟩⟩
end
/-! the pool of the laws: two numbers -/
def Pool (H : Hp) (a : Addr) : Prop := ∃ g q : Int, H a = some (.lst [.int g, .int q]) ∧ 0 ≤ g ∧ 0 ≤ q ∧ q < 2147483647
/-- all but what stands at a is as it was -/
def But (a : Addr) (H H' : Hp) : Prop := ∀ b o, b ≠ a → H b = some o → H' b = some o
theorem But.of_same {a : Addr} {H H' : Hp} (s : Same H H') : But a H H' := fun b o _ e => s b o e
theorem But.upd {a : Addr} {H : Hp} {o : HO} : But a H (upd H a o) := fun b _ n e => by
  rw [upd_ne n]
  exact e
theorem But.trans {a : Addr} {H H1 H2 : Hp} (x : But a H H1) (y : But a H1 H2) : But a H H2 := fun b o n e => y b o n (x b o n e)
theorem But.same {a : Addr} {H H1 : Hp} (x : But a H H1) (n : H a = none) : Same H H1 := fun b o e => x b o (ne_of_none e n) e
theorem perm_pop {α : Type} : ∀ {l : List α} {k : Nat} {y : α}, l[k]? = some y → (y :: l.eraseIdx k).Perm l
  | [], _, _, h => by simp at h
  | a :: l, 0, y, h => by
    have e : a = y := Option.some.inj h
    rw [e]
    exact .refl _
  | a :: l, k + 1, y, h => (List.Perm.swap a y _).trans ((perm_pop (l := l) h).cons a)
theorem eraseIdx_map {α β : Type} (f : α → β) : ∀ (l : List α) (k : Nat), (l.map f).eraseIdx k = (l.eraseIdx k).map f
  | [], _ => rfl
  | _ :: _, 0 => rfl
  | a :: l, k + 1 => congrArg (f a :: ·) (eraseIdx_map f l k)
def names8 : List Str := ["ann", "bo", "cy", "dee", "eve", "fay", "gus", "z"]
theorem names8_nd : names8.Nodup := by decide +kernel
def spOpened (K : PySem.W.Frag) : Sp := fun vs H Q _ => ∃ (a : Addr) (ns : List Int) (k : Nat), vs = [.ref a, .int k] ∧ SqL K H a (ns.map V.int) ∧ k ≤ 62 ∧
  ∀ H' p, Same H H' → H p = none → Pool H' p → Q (.ref p) H'
def spDraw : Sp := fun vs H Q _ => ∃ (a : Addr) (m : Int), vs = [.ref a, .int m] ∧ Pool H a ∧ 1 ≤ m ∧ m ≤ 1000 ∧ ∀ (r : Int) H', 0 ≤ r → r < m → Pool H' a → But a H H' → Q (.int r) H'
def spPeople : Sp := fun vs H Q _ => ∃ (a : Addr) (m : Nat), vs = [.ref a, .int m] ∧ Pool H a ∧ m ≤ 8 ∧
  ∀ H' p (xs : List Str), Pool H' a → But a H H' → H p = none → H' p = some (.lst (xs.map V.str)) → xs.length = m → xs.Nodup → (∀ x ∈ xs, x ∈ names8) → Q (.ref p) H'
end L2
namespace L2
open PySem PySem.Spec PyProof.Rows
/-! types of any values -/
def knownT : List String := ["NoneType", "bool", "int", "str", "list", "tuple", "dict"]
def TyN (K : PySem.W.Frag) (H : Hp) (v : V) (T : String) : Prop := TyX K H v (.type T) ∧ T ∈ knownT
section
variable {K : PySem.W.Frag} {H H' : Hp} {v : V} {T : String}
theorem TyX.same {t : Value} (s : Same H H') (h : TyX K H v t) : TyX K H' v t := by
  cases h with
  | base b =>
    refine .base ?_
    cases b with
    | non => exact .non
    | bl x => exact .bl x
    | int i => exact .int i
    | str x => exact .str x
    | flt x => exact .flt x
    | lst e => exact .lst (s _ _ e)
    | frz e => exact .frz (s _ _ e)
    | tup e => exact .tup (s _ _ e)
    | dK e => exact .dK (s _ _ e)
    | dT e => exact .dT (s _ _ e)
    | ins e cl ha hn htk hm => exact .ins (s _ _ e) cl ha hn htk hm
  | byt b => exact .byt b
  | set e => exact .set (s _ _ e)
  | kList e c => exact .kList e c
  | kTuple e c => exact .kTuple e c
  | kDict e c => exact .kDict e c
  | fTuple e => exact .fTuple (s _ _ e)
  | fDict e => exact .fDict (s _ _ e)
theorem TyN.same (s : Same H H') (h : TyN K H v T) : TyN K H' v T := ⟨TyX.same s h.1, h.2⟩
theorem kit_str (h : T ∈ knownT) : kitB T "str" = some (decide (T = "str")) := by
  simp only [knownT, List.mem_cons, List.not_mem_nil, or_false] at h
  rcases h with rfl | rfl | rfl | rfl | rfl | rfl | rfl <;> decide +kernel
theorem kit_bool (h : T ∈ knownT) : kitB T "bool" = some (decide (T = "bool")) := by
  simp only [knownT, List.mem_cons, List.not_mem_nil, or_false] at h
  rcases h with rfl | rfl | rfl | rfl | rfl | rfl | rfl <;> decide +kernel
theorem kit_int (h : T ∈ knownT) : kitB T "int" = some (decide (T = "int") || decide (T = "bool")) := by
  simp only [knownT, List.mem_cons, List.not_mem_nil, or_false] at h
  rcases h with rfl | rfl | rfl | rfl | rfl | rfl | rfl <;> decide +kernel
theorem kit_list (h : T ∈ knownT) : kitB T "list" = some (decide (T = "list")) := by
  simp only [knownT, List.mem_cons, List.not_mem_nil, or_false] at h
  rcases h with rfl | rfl | rfl | rfl | rfl | rfl | rfl <;> decide +kernel
theorem kit_tuple (h : T ∈ knownT) : kitB T "tuple" = some (decide (T = "tuple")) := by
  simp only [knownT, List.mem_cons, List.not_mem_nil, or_false] at h
  rcases h with rfl | rfl | rfl | rfl | rfl | rfl | rfl <;> decide +kernel
theorem kit_listTuple (h : T ∈ knownT) : PySem.W.kitAny K (.type T) [.type "list", .type "tuple"] = some (decide (T = "list") || decide (T = "tuple")) := by
  refine kitAny_cons (kit_ty (kit_list h)) (fun e => ?_) fun e => ?_
  · rw [e, Bool.false_or]
    exact kitAny_cons (kit_ty (kit_tuple h)) (fun e => by rw [e]; exact kitAny_nil) fun e => e
  · rw [e]
    rfl
theorem ty_str' {t : Value} (h : TyX K H v t) (e : t = .type "str") : ∃ z, v = .str z := by
  cases h with
  | base b =>
    cases b with
    | str x => exact ⟨x, rfl⟩
    | ins e2 cl ha hn htk hm => cases e
    | _ =>
      injection e with e
      exact absurd e (by decide)
  | _ =>
    injection e with e
    exact absurd e (by decide)
theorem ty_str (h : TyX K H v (.type "str")) : ∃ z, v = .str z := ty_str' h rfl
theorem ty_int' {t : Value} (h : TyX K H v t) (e : t = .type "int") : ∃ z, v = .int z := by
  cases h with
  | base b =>
    cases b with
    | int x => exact ⟨x, rfl⟩
    | ins e2 cl ha hn htk hm => cases e
    | _ =>
      injection e with e
      exact absurd e (by decide)
  | _ =>
    injection e with e
    exact absurd e (by decide)
theorem ty_int (h : TyX K H v (.type "int")) : ∃ z, v = .int z := ty_int' h rfl
theorem str_ty {z : Str} (h : TyX K H (.str z) (.type T)) : T = "str" := by
  cases h with
  | base b => cases b with
    | str x => rfl
theorem int_ty {i : Int} (h : TyX K H (.int i) (.type T)) : T = "int" := by
  cases h with
  | base b => cases b with
    | int x => rfl
end
/-! words -/
def letters : Str := "abcdefghijklmnopqrstuvwxyz"
def wordB (z : Str) : Bool := (decide (1 ≤ z.length) && decide (z.length ≤ 8)) && z.cps.toList.all fun c => decide (c ∈ letters.cps.toList)
def isW : V → Bool
  | .str z => wordB z
  | _ => false
def peopleB (xs : List V) : Bool := (decide (1 ≤ xs.length) && decide (xs.length ≤ 8)) && (xs.all isW && decide xs.Nodup)
def markB (lo hi : Int) : V → Bool
  | .int i => decide (lo ≤ i) && decide (i ≤ hi)
  | _ => false
/-- an item that may stand in what is given for people -/
def ItemOk (K : PySem.W.Frag) (H : Hp) (x : V) : Prop := (∃ T, TyN K H x T) ∧ ∀ z, x = .str z → z.length ≤ 1000
theorem ItemOk.same {K : PySem.W.Frag} {H H' : Hp} {x : V} (s : Same H H') (h : ItemOk K H x) : ItemOk K H' x := by
  obtain ⟨⟨T, t⟩, z⟩ := h
  exact ⟨⟨T, t.same s⟩, z⟩
/-- any value given for people: whether it is people, and its items -/
inductive ArgP (K : PySem.W.Frag) (H : Hp) : V → Bool → List V → Prop where
  | no {v : V} {T : String} (t : TyN K H v T) (h1 : T ≠ "list") (h2 : T ≠ "tuple") : ArgP K H v false []
  | lst {a : Addr} {xs : List V} (e : H a = some (.lst xs)) (h : ∀ x ∈ xs, ItemOk K H x) (hl : xs.length ≤ 1000) : ArgP K H (.ref a) (peopleB xs) xs
  | tup {a : Addr} {xs : List V} (e : H a = some (.tup xs)) (h : ∀ x ∈ xs, ItemOk K H x) (hl : xs.length ≤ 1000) : ArgP K H (.ref a) (peopleB xs) xs
theorem ArgP.same {K : PySem.W.Frag} {H H' : Hp} {v : V} {b : Bool} {xs : List V} (s : Same H H') (h : ArgP K H v b xs) : ArgP K H' v b xs := by
  cases h with
  | no t h1 h2 => exact .no (t.same s) h1 h2
  | lst e h hl => exact .lst (s _ _ e) (fun x hx => (h x hx).same s) hl
  | tup e h hl => exact .tup (s _ _ e) (fun x hx => (h x hx).same s) hl
def spIsInteger (K : PySem.W.Frag) : Sp := fun vs H Q _ => ∃ (v : V) (T : String), vs = [v] ∧ TyN K H v T ∧ Q (.bl (decide (T = "int"))) H
def spWithin (K : PySem.W.Frag) : Sp := fun vs H Q _ => ∃ (v : V) (lo hi : Int), vs = [v, .int lo, .int hi] ∧ (∃ T, TyN K H v T) ∧ Q (.bl (markB lo hi v)) H
def spIsWord (K : PySem.W.Frag) : Sp := fun vs H Q _ => ∃ v : V, vs = [v] ∧ ItemOk K H v ∧ ∀ H', Same H H' → Q (.bl (isW v)) H'
def spArePeople (K : PySem.W.Frag) : Sp := fun vs H Q _ => ∃ (v : V) (b : Bool) (xs : List V), vs = [v] ∧ ArgP K H v b xs ∧ ∀ H', Same H H' → Q (.bl b) H'
end L2
namespace L2
open PySem PySem.Spec PyProof.Rows
def kmSigns (z : Str) : List V := z.cps.toList.map fun c => V.str ⟨#[c]⟩
theorem walk_kmSigns {z : Str} : Walk (Its z) (kmSigns z).length (fun _ => True) (YAt (kmSigns z)) := by
  have e : (kmSigns z).length = z.cps.size := by
    unfold kmSigns
    rw [List.length_map, Array.length_toList]
  rw [e]
  refine walk_str.mono (fun _ h => h) fun i H x H' _ _ y => ?_
  obtain ⟨h, c, hc, hx⟩ := y
  refine ⟨h, ?_⟩
  unfold kmSigns
  rw [List.getElem?_map, Array.getElem?_toList, hc, hx]
  rfl
theorem all_bl (bs : List Bool) : (bs.map V.bl).length = bs.length := List.length_map ..
end L2
namespace L2
open PySem PySem.Spec PyProof.Rows
/-! an own error with one field -/
structure Er (K : PySem.W.Frag) (mg : Str → Option Value) (x : Str) (C : Addr) : Prop where
  g : mg x = some (.ref C)
  ox : OexC K C
  xf : XfC K C
  ec : ExcC K C
  exm : PySem.W.exmOne K (.ref C) (.ref C) = some true
def spErrInit (K : PySem.W.Frag) (C : Addr) (f : Str) : Sp := fun vs H Q _ => ∃ (a : Addr) (v : V), vs = [.ref a, v] ∧ OexC K C ∧ PySem.W.findIn K (.ref C) f = some none ∧ H a = some (exo a C none) ∧
  ∀ d, H d = none → d ≠ a → Q .non (upd (upd H d (exd d [(f, v)])) a (exo a C (some d)))
/-- what a raise of such an error leaves -/
def Raised (H H' : Hp) (d : Addr) (f : Str) (v : V) : Prop := Same H H' ∧ H d = none ∧ H' d = some (.xd [(f, v)])
theorem raised_mk {H : Hp} {a d C : Addr} {f : Str} {v : V} (na : H a = none) (nd : H d = none) (nda : d ≠ a) :
    Raised H (upd (del (upd (upd (upd H a (exo a C none)) d (exd d [(f, v)])) a (exo a C (some d))) a) d (.xd [(f, v)])) d f v := by
  refine ⟨fun b o e => ?_, nd, upd_same⟩
  rw [upd_ne (ne_of_none e nd), del_ne (ne_of_none e na), upd_ne (ne_of_none e na), upd_ne (ne_of_none e nd), upd_ne (ne_of_none e na)]
  exact e
theorem strs_of_isW : ∀ {xs : List V}, xs.all isW = true → ∃ zs : List Str, xs = zs.map V.str
  | [], _ => ⟨[], rfl⟩
  | x :: xs, h => by
    rw [List.all_cons, Bool.and_eq_true] at h
    obtain ⟨zs, rfl⟩ := strs_of_isW h.2
    cases x with
    | str z => exact ⟨z :: zs, rfl⟩
    | _ => cases h.1
theorem keys_of_strs (zs : List Str) : zs.map V.str = (zs.map (Sum.inr : Str → Key)).map kV := by
  rw [List.map_map]
  rfl
theorem nodup_map_inj {α β : Type} {f : α → β} (hf : ∀ a b, f a = f b → a = b) {l : List α} : (l.map f).Nodup ↔ l.Nodup := by
  induction l with
  | nil => simp
  | cons a l ih =>
    rw [List.map_cons, List.nodup_cons, List.nodup_cons, ih, List.mem_map]
    constructor
    · rintro ⟨h1, h2⟩
      exact ⟨fun h => h1 ⟨a, h, rfl⟩, h2⟩
    · rintro ⟨h1, h2⟩
      exact ⟨fun ⟨b, hb, e⟩ => h1 (hf _ _ e ▸ hb), h2⟩
theorem uniq_strs (zs : List Str) : decide (V.int ((Km.uniq (zs.map (Sum.inr : Str → Key))).length : Nat) = V.int ((zs.map V.str).length : Nat)) = decide (zs.map V.str).Nodup := by
  refine decide_eq_decide.mpr ?_
  have h1 := Km.uniq_full (zs.map (Sum.inr : Str → Key))
  rw [nodup_map_inj (f := (Sum.inr : Str → Key)) (fun _ _ e => Sum.inr.inj e), List.length_map] at h1
  rw [nodup_map_inj (f := V.str) (fun _ _ e => V.str.inj e), ← h1, List.length_map]
  constructor
  · intro e
    have := V.int.inj e
    omega
  · intro e
    rw [e]
end L2
namespace L2
open PySem PySem.Spec PyProof.Rows
/-- what a crowd's instance holds -/
def crowdFs (p : Addr) (m : Int) : List (Str × V) := [("_people", V.ref p), ("most", V.int m)]
def CrowdAt (H : Hp) (C x : Addr) (xs : List V) (m : Int) : Prop := ∃ dx p, H x = some (.ins C dx (crowdFs p m)) ∧ H p = some (.lst xs)
theorem CrowdAt.same {H H' : Hp} {C x : Addr} {xs : List V} {m : Int} (s : Same H H') (h : CrowdAt H C x xs m) : CrowdAt H' C x xs m := by
  obtain ⟨dx, p, h1, h2⟩ := h
  exact ⟨dx, p, s _ _ h1, s _ _ h2⟩
def spCrowdInit (K : PySem.W.Frag) (C CB : Addr) : Sp := fun vs H Q E => ∃ (x dx : Addr) (v m : V) (b : Bool) (xs : List V), vs = [.ref x, v, m] ∧ H x = some (.ins C dx []) ∧ ArgP K H v b xs ∧ (∃ T, TyN K H m T) ∧
  (b = false → ∀ H' d, Raised H H' d "part" (.str "people") → E (.ref CB) (some d) H') ∧
  (b = true → markB 1 10 m = false → ∀ H' d, Raised H H' d "part" (.str "most") → E (.ref CB) (some d) H') ∧
  (b = true → ∀ i, m = .int i → markB 1 10 m = true → ∀ H', But x H H' → CrowdAt H' C x xs i → Q .non H')
theorem putF_new {f : Str} {v : V} : putF f v [] = [(f, v)] := rfl
theorem crowd_put {p : Addr} {m : Int} : putF "most" (.int m) [(("_people" : Str), V.ref p)] = crowdFs p m := by
  show (if (("_people" : Str)) = "most" then _ else _) = _
  rw [if_neg (by decide +kernel)]
  rfl
end L2
namespace L2
open PySem PySem.Spec PyProof.Rows
theorem ArgP.seq {K : PySem.W.Frag} {H : Hp} {v : V} {b : Bool} {xs : List V} (h : ArgP K H v b xs) (e : b = true) : ∃ l, v = .ref l ∧ (SqL K H l xs ∨ SqT K H l xs) := by
  cases h with
  | no t h1 h2 => cases e
  | lst e1 h hl => exact ⟨_, rfl, .inl (SqL.of e1)⟩
  | tup e1 h hl => exact ⟨_, rfl, .inr (SqT.of e1)⟩
/-- what the law's own look at a making tells: taken, or the part -/
def toldP (b m : Bool) : Option Str := if b = false then some "people" else if m = false then some "most" else none
def spTold (K : PySem.W.Frag) : Sp := fun vs H Q _ => ∃ (v m : V) (b : Bool) (xs : List V), vs = [v, m] ∧ ArgP K H v b xs ∧ (∃ T, TyN K H m T) ∧
  (∀ H' p z, toldP b (markB 1 10 m) = some z → Same H H' → H' p = some (.lst [.str z, .bl true]) → Q (.ref p) H') ∧
  (toldP b (markB 1 10 m) = none → ∀ H', Same H H' → Q (.str "taken") H')
end L2
namespace L2
open PySem PySem.Spec PyProof.Rows
theorem rng_le (l c : Int) (hc : 1 ≤ c) : 1 ≤ (if (if c < l then c else l) > 1 then (if c < l then c else l) else (1 : Int)) ∧ (if (if c < l then c else l) > 1 then (if c < l then c else l) else (1 : Int)) ≤ c := by
  by_cases h : c < l
  · rw [if_pos h]
    split <;> omega
  · rw [if_neg h]
    split <;> omega
theorem names8_ok : ∀ z ∈ names8, wordB z = true ∧ z.length ≤ 8 := by decide +kernel
abbrev BadP (K : PySem.W.Frag) (H : Hp) (v : V) : Prop := ∃ xs, ArgP K H v false xs
theorem BadP.same {K : PySem.W.Frag} {H H' : Hp} {v : V} (s : Same H H') (h : BadP K H v) : BadP K H' v := by
  obtain ⟨xs, h⟩ := h
  exact ⟨xs, h.same s⟩
theorem ArgP.lst' {K : PySem.W.Frag} {H : Hp} {a : Addr} {xs : List V} {b : Bool} (e : H a = some (.lst xs)) (h : ∀ x ∈ xs, ItemOk K H x) (hl : xs.length ≤ 1000) (hb : peopleB xs = b) : ArgP K H (.ref a) b xs := by
  subst hb
  exact .lst e h hl
theorem ArgP.tup' {K : PySem.W.Frag} {H : Hp} {a : Addr} {xs : List V} {b : Bool} (e : H a = some (.tup xs)) (h : ∀ x ∈ xs, ItemOk K H x) (hl : xs.length ≤ 1000) (hb : peopleB xs = b) : ArgP K H (.ref a) b xs := by
  subst hb
  exact .tup e h hl
section
variable {K : PySem.W.Frag} {H : Hp}
theorem item_str {z : Str} (h : z.length ≤ 1000) : ItemOk K H (.str z) := ⟨⟨"str", .base (.str z), by decide⟩, fun y e => by
  rw [← V.str.inj e]
  exact h⟩
theorem item_non : ItemOk K H .non := ⟨⟨"NoneType", .base .non, by decide⟩, fun y e => by cases e⟩
theorem item_int {i : Int} : ItemOk K H (.int i) := ⟨⟨"int", .base (.int i), by decide⟩, fun y e => by cases e⟩
theorem item_bl {i : Bool} : ItemOk K H (.bl i) := ⟨⟨"bool", .base (.bl i), by decide⟩, fun y e => by cases e⟩
theorem item_lst {a : Addr} {xs : List V} (h : H a = some (.lst xs)) : ItemOk K H (.ref a) := ⟨⟨"list", .base (.lst h), by decide⟩, fun y e => by cases e⟩
/-- people as the laws draw them -/
structure Drawn8 (zs : List Str) : Prop where
  nd : zs.Nodup
  mem : ∀ z ∈ zs, z ∈ names8
theorem Drawn8.items {zs : List Str} (d : Drawn8 zs) : ∀ x ∈ zs.map V.str, ItemOk K H x := by
  intro x hx
  obtain ⟨z, hz, rfl⟩ := List.mem_map.mp hx
  exact item_str (Nat.le_trans (names8_ok z (d.mem z hz)).2 (by decide))
theorem Drawn8.allW {zs : List Str} (d : Drawn8 zs) : (zs.map V.str).all isW = true := by
  rw [List.all_eq_true]
  intro x hx
  obtain ⟨z, hz, rfl⟩ := List.mem_map.mp hx
  exact (names8_ok z (d.mem z hz)).1
theorem Drawn8.people {zs : List Str} (d : Drawn8 zs) (h1 : 1 ≤ zs.length) (h2 : zs.length ≤ 8) : peopleB (zs.map V.str) = true := by
  show ((decide (1 ≤ (zs.map V.str).length) && decide ((zs.map V.str).length ≤ 8)) && ((zs.map V.str).all isW && decide (zs.map V.str).Nodup)) = true
  rw [d.allW, List.length_map, decide_eq_true h1, decide_eq_true h2, decide_eq_true ((nodup_map_inj (f := V.str) (fun _ _ e => V.str.inj e)).mpr d.nd)]
  rfl
theorem not_people_of_isW {xs : List V} {y : V} (h : isW y = false) : peopleB (xs ++ [y]) = false := by
  show (_ && ((xs ++ [y]).all isW && _)) = false
  rw [List.all_append, List.all_cons, h, Bool.false_and, Bool.and_false, Bool.false_and, Bool.and_false]
theorem not_people_of_twice {x : V} {xs : List V} : peopleB ((x :: xs) ++ [x]) = false := by
  show (_ && (_ && decide ((x :: xs) ++ [x]).Nodup)) = false
  have : ¬ ((x :: xs) ++ [x]).Nodup := fun h => by
    rw [List.cons_append, List.nodup_cons] at h
    exact h.1 (List.mem_append_right _ (List.mem_singleton.mpr rfl))
  rw [decide_eq_false this, Bool.and_false, Bool.and_false]
theorem bad_append {a : Addr} {xs : List V} {y : V} (e : H a = some (.lst (xs ++ [y]))) (hx : ∀ x ∈ xs, ItemOk K H x) (hl : xs.length ≤ 8) (hy : ItemOk K H y) (h : isW y = false) : BadP K H (.ref a) :=
  ⟨_, .lst' e (fun x hm => by
    rcases List.mem_append.mp hm with hm | hm
    · exact hx x hm
    · rw [List.mem_singleton.mp hm]
      exact hy) (by rw [List.length_append, List.length_singleton]; omega) (not_people_of_isW h)⟩
end
section
variable {σ : St} {H : Hp} {Q : VK}
/-- l + [e] -/
theorem rd_cat1 {i : Nat} {l : Addr} {xs : List V} {te : TE} (y : V) (h : σ[i]? = some (some (.ref l))) (hl : H l = some (.lst xs)) (hx : xs.length ≤ 8)
    (hte : ∀ Q' : VK, (∀ H1, Same H H1 → Q' y H1) → te σ H Q') (k : ∀ H' p, Same H H' → H' p = some (.lst (xs ++ [y])) → Q (.ref p) H') : tOp rCat (tVar i) (tLst (tCons te tNil)) σ H Q := by
  refine ⟨_, h, hte _ fun H1 s1 => ⟨(by show 1 ≤ sizeLine; decide), fun b nb => ⟨l, b, xs, [y], rfl, rfl, same_new nb _ _ (s1 _ _ hl), upd_same, ?_, fun p np => ?_⟩⟩⟩
  · rw [List.length_singleton]
    exact Nat.le_of_lt (small1000 (by omega))
  · exact k _ p ((s1.trans (same_new nb)).trans (same_new np)) upd_same
theorem dp_told {K : PySem.W.Frag} {p : Addr} {z : Str} (h : H p = some (.lst [.str z, .bl true])) : Dp K H (.ref p) (.list [.str z, .bool true]) := .lst (SqL.of h) (.cons (.str z) (.cons (.bl true) .nil))
end
end L2
namespace L2
open PySem PySem.Spec PyProof.Rows
theorem shaped_taken : SeqAt.shaped (.str "taken") = true := by decide +kernel
theorem eqv_taken : PyData.eqv (.str "taken") (.str "taken") = true := by decide +kernel
theorem shaped_people : SeqAt.shaped (.list [.str "people", .bool true]) = true := by decide +kernel
theorem shaped_most : SeqAt.shaped (.list [.str "most", .bool true]) = true := by decide +kernel
theorem eqv_people : PyData.eqv (.list [.str "people", .bool true]) (.list [.str "people", .bool true]) = true := by decide +kernel
theorem eqv_most : PyData.eqv (.list [.str "most", .bool true]) (.list [.str "most", .bool true]) = true := by decide +kernel
end L2
namespace L2
open PySem PySem.Spec PyProof.Rows
theorem toldP_most {m : Bool} (h : m = false) : toldP true m = some "most" := by
  rw [h]
  rfl
theorem toldP_taken {m : Bool} (h : m = true) : toldP true m = none := by
  rw [h]
  rfl
end L2

set_option Elab.async false
set_option linter.all false
set_option maxRecDepth 100000
set_option maxHeartbeats 4000000
/-! Own errors over any built-in base, with an own __init__ that stores: made as values or raised, their fields. -/
namespace L2
open PySem PySem.Spec PyProof.Rows
structure EcC (K : PySem.W.Frag) (C : Addr) : Prop where
  base : ∃ (B newId initId : String) (bmB : List Value), PySem.ExcBaseFacts B newId initId bmB ∧ PySem.StoreFacts B bmB "object.__setattr__" "object" ∧ PySem.W.excInitIn K C bmB newId = true ∧ PySem.W.excOver K C bmB = true
  sa : PySem.W.findIn K (.ref C) "__setattr__" = some (some (.builtin "object.__setattr__"))
  hd : PySem.W.hasDictIn K C = true
  exC : PySem.W.subIn K (.ref C) (.type "BaseException") = some true
  tyC : PySem.W.typeIn K (.ref C) = some (.type "type")
  kC : PySem.W.keepIn K (.ref C) = true
section
variable {X : Cx} {pins : List (Addr × Obj)} {σ : St} {H : Hp} {s : Shared} {a C : Addr} {f : Str} {y : V} {u : Value} {Q : Unit → Shared → Prop} {E : Value → Shared → Prop} {A : Around}
/-- self.f = y, the first field -/
theorem ec_store (T : EcC X.K C) (I : Inv X pins σ H s) (e : H a = some (exo a C none)) (hno : PySem.W.findIn X.K (.ref C) f = some none) (ry : RelV y u)
    (h : ∀ dx s', H dx = none → dx ≠ a → Inv X pins σ (upd (upd H dx (exd dx [(f, y)])) a (exo a C (some dx))) s' → Q () s') : wpAny (model X.prog X.w) A (setAttr (.ref a) f u) Q E s := by
  obtain ⟨B, newId, initId, bmB, FB, SF, hin, hov⟩ := T.base
  obtain ⟨t1, ho⟩ := exo_at I.hok e
  obtain ⟨hp, g, d, t, os⟩ := s
  have J0 : PySem.W.InstAt hp a { cls := .ref C, dict := none, data := .fields #[.ref t1, .none, .none, .none, .bool false, .none] } C none := ⟨ho, rfl, rfl, trivial⟩
  have tk : PySem.W.takerIn X.K C f = some none := by
    unfold PySem.W.takerIn
    rw [hno]
    rfl
  have lt : a < hp.objs.size := Heap.lt_size ho
  refine PySem.W.set_plain I.kIn J0 T.sa ?_
  refine PySem.W.osa_openX SF I.kIn J0 hov tk fun b => ?_
  obtain ⟨cd, hcd, hhd⟩ := PySem.W.any_some T.hd
  have L := PySem.W.looks_clsIn (M := model X.prog X.w) I.kIn hcd
  show wpAny _ _ (Builtin.ObjectAttr.storeInOwnDict (.ref a) (.ref C) (.str f _) f u b) _ _ _
  unfold Builtin.ObjectAttr.storeInOwnDict Builtin.ObjectAttr.ownDictForStores
  obtain ⟨cnm, cbs, cmro, cns, cqn, chd, csn, csb, cab, ccol, cdel⟩ := cd
  dsimp only at hhd
  subst hhd
  have xs : a ≠ hp.objs.size := Nat.ne_of_lt lt
  repeat (first
    | with_reducible refine PySem.HandSPX.store_in_new ?_ ?_
    | with_reducible refine wpAny_loadPart_at ho ?_
    | with_reducible refine L.at ?_
    | wp_step)
  · exact ⟨_, #[], _, (Heap.get?_update_ne _ _ _ _ xs.symm).trans (Heap.get?_push_at rfl rfl), rfl, fun e he => absurd he (by simp), fun _ => rfl⟩
  intro h' tk' hn hsb
  have old : ∀ b o, b ≠ a → hp.get? b = some o → h'.get? b = some o := fun b o nb q => by
    rw [hsb.2 b (Nat.ne_of_lt (Heap.lt_size q)), Heap.get?_update_ne _ _ _ _ nb]
    exact Heap.get?_push_of_some _ q
  have own : h'.get? a = some { cls := .ref C, dict := some hp.objs.size, data := .fields #[.ref t1, .none, .none, .none, .bool false, .none] } := by
    rw [hsb.2 a xs]
    exact Heap.get?_update_self _ (Heap.get?_push_of_some _ ho) rfl
  have nd : H hp.objs.size = none := I.hok.fresh (Nat.le_refl _)
  have lts : ∀ {b o}, hp.get? b = some o → b ≠ hp.objs.size := fun q => Nat.ne_of_lt (Heap.lt_size q)
  have free1 : ∀ {b}, H b = none → b ≠ a := fun n z => by
    rw [z, e] at n
    cases n
  have un : Un X.fs [] H (upd (upd H hp.objs.size (exd hp.objs.size [(f, y)])) a (exo a C (some hp.objs.size))) hp h' := by
    refine ⟨fun b o q n _ _ => old b o (free1 n) q, fun b o q n _ _ => ⟨o.slots, old b o (free1 n) q⟩, fun b o q n _ => ?_, fun b o q _ => ?_, fun b xs q => ?_, fun b o v q => ?_, fun b ps q => ?_⟩
    · rw [upd_ne (free1 n), upd_ne (lts q)]
      exact n
    · by_cases z : b = a
      · rw [z]
        exact ⟨_, own⟩
      · exact ⟨o, old b o z q⟩
    · rw [upd_ne (at_ne e q exo_tup), upd_ne (ne_of_none q nd)]
      exact q
    · rw [upd_ne (at_ne e q exo_frz), upd_ne (ne_of_none q nd)]
      exact q
    · refine ⟨#[], ?_⟩
      rw [upd_ne (at_ne e q exo_tbl), upd_ne (ne_of_none q nd), q]
      simp
  refine h hp.objs.size _ nd xs.symm (I.un (t' := tk') un fun b o q => ?_)
  by_cases z : b = a
  · rw [z, upd_same] at q
    rw [z, ← Option.some.inj q]
    exact exo_ok own
  · rw [upd_ne z] at q
    by_cases z2 : b = hp.objs.size
    · rw [z2, upd_same] at q
      rw [z2, ← Option.some.inj q]
      exact exd_ok hn (relO_put (fs := []) ry fun _ => trivial)
    · rw [upd_ne z2] at q
      refine (I.hok b o q).stay (fun c v hc k => old c v ?_ k) (fun c hc => ?_) fun c xs hc => ?_
      · rcases hc with hc | hc
        · rw [hc]
          exact z
        · exact at_ne e hc exo_own
      · rw [upd_ne (at_ne e hc exo_own), upd_ne (ne_of_none hc nd)]
        exact hc
      · rw [upd_ne (at_ne e hc exo_tup), upd_ne (ne_of_none hc nd)]
        exact hc
end
end L2
namespace L2
open PySem PySem.Spec PyProof.Rows
/-- self.f = e in an error's own __init__ -/
def tEcS (K : PySem.W.Frag) (f : Str) (to te : TE) : TS := fun D σ H => te σ H fun y H1 => to σ H1 fun x H2 => ∃ a C : Addr, x = .ref a ∧ EcC K C ∧ PySem.W.findIn K (.ref C) f = some none ∧ H2 a = some (exo a C none) ∧
  ∀ dx, H2 dx = none → dx ≠ a → D.nx σ (upd (upd H2 dx (exd dx [(f, y)])) a (exo a C (some dx)))
section
variable {X : Cx} {o e : Expr} {es : List Expr} {to te : TE} {ta : TA} {f : Str} {p p' pos : Pos}
theorem ps_ec (ho : PE X o to) (he : PE X e te) (hs : swapsWith e (some (.Attribute o f p')) pos.line X.env = pure false := by rfl) : PS X (.Assign [.Attribute o f p'] e pos) (tEcS X.K f to te) := by
  constructor
  intro pins s σ H D I h
  refine plainObj_wpAny_Assign_Attribute (thn (he.run pins s σ H _ I h) fun v s1 q0 => ?_) hs
  obtain ⟨y, H1, I1, r1, q1⟩ := q0
  refine thn (ho.run pins s1 σ H1 _ I1 q1) fun u s2 q2 => ?_
  obtain ⟨x, H2, I2, r2, a, C, ex, T, hno, ea, q⟩ := q2
  subst ex
  obtain rfl : u = Value.ref a := r2
  exact ec_store T I2 ea hno r1 fun dx s3 n ne J => ⟨σ, _, J, q dx n ne⟩
def spEcInit (K : PySem.W.Frag) (C : Addr) (f : Str) : Sp := fun vs H Q _ => ∃ (a : Addr) (v : V), vs = [.ref a, v] ∧ EcC K C ∧ PySem.W.findIn K (.ref C) f = some none ∧ H a = some (exo a C none) ∧
  ∀ d, H d = none → d ≠ a → Q .non (upd (upd H d (exd d [(f, v)])) a (exo a C (some d)))
/-- the call C(u, ..) of such a class: its __init__ at the fresh error -/
theorem ec_call {CX : CXT} {C fI : Addr} {k : Nat} {fd : FuncData} {ps : List Str} {sp : Sp} {pins : List (Addr × Obj)} {s : Shared} {σ : St} {H : Hp} {us : List Value} {vs : List V} {E : XK} {Q : Addr → VK} {R : Value → Shared → Prop} (T : EcC X.K C)
    (iC : PySem.W.findIn X.K (.ref C) "__init__" = some (some (.ref fI))) (tI : PySem.W.typeIn X.K (.ref fI) = some (.type "function")) (F : FnOk X.prog X.w X.K X.mg X.base CX k fI fd ps sp) (hr : Room (k + 1) X.A) (hb : Binds X.K fd ps []) (hx : Passes CX X E)
    (I : Inv X pins σ H s) (r : Vals vs us) (hl : vs.length ≤ 1000) (q : ∀ a, H a = none → sp (.ref a :: vs) (upd H a (exo a C none)) (Q a) E)
    (fin : ∀ (a : Addr) (hp2 : Heap) (v : V) (H2 : Hp) (s2 : Shared), s.heap.objs.size ≤ a → (∀ b o, s.heap.get? b = some o → hp2.get? b = some o) → Inv X pins σ H2 s2 → Un (frs X.stack) [] (upd H a (exo a C none)) H2 hp2 s2.heap →
      HOk X.prog X.w H2 s2.heap → s2.os = s.os → AllBare s2.gens → Q a v H2 → v = .non ∧ R (.ref a) s2) : wpAny (model X.prog X.w) X.A (call (.ref C) us) R X.xe s := by
  obtain ⟨B, newId, initId, bmB, FB, SF, hin, hov⟩ := T.base
  obtain ⟨nm, N, qn, bs, bm, hdct, sn, sub, ab, col, dd, k0, k1, k2, k3, k5, hC, hT⟩ := PySem.W.excInit_of I.kIn hin
  obtain ⟨hp, g, dr, tk, os⟩ := s
  have fresh1 : H (hp.objs.size + 1) = none := I.hok.fresh (Nat.le_succ _)
  have q1 := q _ fresh1
  have kept : ∀ b o, hp.get? b = some o → ((hp.push (PySem.W.kdv_tup us)).push (PySem.HandSPX.excO C hp.objs.size)).get? b = some o := fun b o z => Heap.get?_push_of_some _ (Heap.get?_push_of_some _ z)
  have there : ((hp.push (PySem.W.kdv_tup us)).push (PySem.HandSPX.excO C hp.objs.size)).get? (hp.objs.size + 1) = some (PySem.HandSPX.excO C hp.objs.size) := by heap_get
  have J : Inv X pins σ (upd H (hp.objs.size + 1) (exo (hp.objs.size + 1) C none)) ⟨(hp.push (PySem.W.kdv_tup us)).push (PySem.HandSPX.excO C hp.objs.size), g, dr, tk, os⟩ :=
    I.laid (t' := tk) (a := hp.objs.size + 1) (h' := (hp.push (PySem.W.kdv_tup us)).push (PySem.HandSPX.excO C hp.objs.size)) kept (Nat.le_succ _) (exo_ok there)
  have r2 : Vals (V.ref (hp.objs.size + 1) :: vs) (Value.ref (hp.objs.size + 1) :: us) := .cons rfl r
  have len2 : (Value.ref (hp.objs.size + 1) :: us).length = ps.length := by
    rw [← r2.length]
    exact F.len _ _ _ _ q1
  have b := hb ⟨_, g, dr, tk, os⟩ (Value.ref (hp.objs.size + 1) :: us) J.kIn (by rw [List.append_nil]; exact len2)
  rw [List.append_nil] at b
  have room : us.length ≤ sizeLine := by
    rw [← r.length, sizeLine_eq]
    omega
  refine wpAny_call (PySem.HandSPX.call_own FB hT hC (PySem.W.looks_findIn I.kIn iC) (fun self => PySem.W.bind_fn I.kIn self tI) room (codeAny_mono (F.run _ X.stack _ _ ⟨_ :: us, []⟩ _ _ _ E (hr.make C us []) (J.env0.make C us []) b r2 q1) fun z s2 hz => ?_))
  cases z with
  | error er => exact hx pins σ _ _ er s2 J hz
  | ok fl =>
    cases fl with
    | ret u =>
      obtain ⟨v, H2, os2, bare2, un2, hok2, rv, q2⟩ := hz
      obtain ⟨hh, g2, d2, t2, o2⟩ := s2
      obtain rfl : o2 = os := os2
      have I2 : Inv X pins σ H2 ⟨hh, g2, d2, t2, o2⟩ := J.call (h' := hh) (g' := g2) (d' := d2) (t' := t2) (ch := []) un2 hok2 bare2 (fun b z => absurd z (by simp))
      obtain ⟨ev, z⟩ := fin (hp.objs.size + 1) _ v H2 ⟨hh, g2, d2, t2, o2⟩ (Nat.le_succ _) kept I2 un2 hok2 rfl bare2 q2
      subst ev
      exact ⟨rv, z⟩
    | next => exact False.elim hz
    | brk => exact False.elim hz
    | cont => exact False.elim hz
/-- C(e, ..) as a value -/
def tEcV (C : Addr) (sp : Sp) (E : XK) (ta : TA) : TE := fun σ H Q => ta σ H fun vs H1 => vs.length ≤ 1000 ∧ ∀ a, H1 a = none → sp (.ref a :: vs) (upd H1 a (exo a C none)) (fun v H2 => v = .non ∧ Q (.ref a) H2) E
variable {CX : CXT} {x : Str} {C fI : Addr} {k : Nat} {fd : FuncData} {ps : List Str} {sp : Sp} {E : XK}
theorem pe_ecv (T : EcC X.K C) (iC : PySem.W.findIn X.K (.ref C) "__init__" = some (some (.ref fI))) (tI : PySem.W.typeIn X.K (.ref fI) = some (.type "function")) (F : FnOk X.prog X.w X.K X.mg X.base CX k fI fd ps sp) (hr : Room (k + 1) X.A)
    (hb : Binds X.K fd ps []) (hx : Passes CX X E) (hg : Gl X x) (hm : X.mg x = some (.ref C)) (ha : PA X (e :: es) ta) (hdb : (x == ("__debug__" : Str)) = false := by decide)
    (he : starEach (e :: es) X.env = (false, eval e X.env) :: starEach es X.env := by rfl) (hpl : (backTo pos (starEach es X.env)).any (·.1) = false := by rfl) : PE X (.Call (.Name x p) (e :: es) [] pos) (tEcV C sp E ta) := by
  constructor
  intro pins s σ H Q I h
  refine wpAny_Call_Name_kw (ld_glob I hg hm ?_ hdb)
  refine PySem.W.callWith_K (h₀ := X.base) I.ok.mod.kin T.kC (thn (ha.run pos pins s σ H _ I h) fun us s1 q0 => ?_) he hpl
  obtain ⟨vs, H1, I1, r1, hl, q1⟩ := q0
  refine ⟨I1.kIn, ec_call (Q := fun a v H2 => v = .non ∧ Q (.ref a) H2) T iC tI F hr hb hx I1 r1 hl q1 fun a hp2 v H2 s2 _ _ I2 _ _ _ _ q2 => ⟨q2.1, ?_⟩⟩
  exact ⟨.ref a, H2, I2, rfl, q2.2⟩
/-- C(e, ..) to be raised -/
def tEcR (C : Addr) (sp : Sp) (ta : TA) : St → Hp → XK → Prop := fun σ H Q => ta σ H fun vs H1 => vs.length ≤ 1000 ∧ ∀ a, H1 a = none → sp (.ref a :: vs) (upd H1 a (exo a C none))
  (fun v H2 => v = .non ∧ ∃ (d : Addr) (fs : List (Str × V)), H2 a = some (exo a C (some d)) ∧ H2 d = some (exd d fs) ∧ H1 d = none ∧ Q (.ref C) (some d) (upd (del H2 a) d (.xd fs))) (fun _ _ _ => False)
theorem pmk_ec (T : EcC X.K C) (iC : PySem.W.findIn X.K (.ref C) "__init__" = some (some (.ref fI))) (tI : PySem.W.typeIn X.K (.ref fI) = some (.type "function")) (F : FnOk X.prog X.w X.K X.mg X.base CX k fI fd ps sp) (hr : Room (k + 1) X.A)
    (hb : Binds X.K fd ps []) (hx : Passes CX X (fun _ _ _ => False)) (hg : Gl X x) (hm : X.mg x = some (.ref C)) (ha : PA X (e :: es) ta) (hdb : (x == ("__debug__" : Str)) = false := by decide)
    (he : starEach (e :: es) X.env = (false, eval e X.env) :: starEach es X.env := by rfl) (hpl : (backTo pos (starEach es X.env)).any (·.1) = false := by rfl) : PMk X (.Call (.Name x p) (e :: es) [] pos) (tEcR C sp ta) := by
  intro pins s σ H Q I h
  refine wpAny_Call_Name_kw (ld_glob I hg hm ?_ hdb)
  refine PySem.W.callWith_K (h₀ := X.base) I.ok.mod.kin T.kC (thn (ha.run pos pins s σ H _ I h) fun us s1 q0 => ?_) he hpl
  obtain ⟨vs, H1, I1, r1, hl, q1⟩ := q0
  obtain ⟨hp, g, dr, tk, os⟩ := s1
  refine ⟨I1.kIn, ec_call (Q := fun a v H2 => v = .non ∧ ∃ (d : Addr) (fs : List (Str × V)), H2 a = some (exo a C (some d)) ∧ H2 d = some (exd d fs) ∧ H1 d = none ∧ Q (.ref C) (some d) (upd (del H2 a) d (.xd fs))) T iC tI F hr hb hx I1 r1 hl q1
    fun a hp2 v H2 s2 ha2 kept I2 un hok ho bare q2 => ⟨q2.1, ?_⟩⟩
  obtain ⟨_, d, fs, ea, ed, hd1, q3⟩ := q2
  obtain ⟨h2, g2, d2, t2, o2⟩ := s2
  exact mk_end (raises_own T.exC T.tyC) I1 ha2 kept un hok ho bare ea ed hd1 q3
/-- e.f, e an error that is held as a value -/
def tEcF (K : PySem.W.Frag) (te : TE) (f : Str) : TE := fun σ H Q => te σ H fun x H1 => ∃ (a C d : Addr) (fs : List (Str × V)) (v : V), x = .ref a ∧ XfC K C ∧ PySem.W.findIn K (.ref C) f = some none ∧ H1 a = some (exo a C (some d)) ∧ H1 d = some (exd d fs) ∧ fs.lookup f = some v ∧ Q v H1
theorem pe_ecf (he : PE X e te) (hb : attributeBase e f X.env (eval e X.env) = eval e X.env := by rfl) : PE X (.Attribute e f pos) (tEcF X.K te f) := by
  constructor
  intro pins s σ H Q I h
  refine attr_of hb (thn (he.run pins s σ H _ I h) fun u s1 q0 => ?_)
  obtain ⟨y, H1, I1, r1, a, C, d, fs, v, rfl, T, no, ea, ed, l, q⟩ := q0
  obtain rfl : u = Value.ref a := r1
  obtain ⟨t1, ho⟩ := exo_at I1.hok ea
  obtain ⟨mA, hns, rel⟩ := exd_at I1.hok ed
  obtain ⟨od, hod, hl⟩ := lookIn_ns hns
  have rr := rel f
  rw [l] at rr
  obtain ⟨w, hw, rw'⟩ := RelO.some_of (v := v) (o := mA f) rr
  have J : PySem.W.InstAt s1.heap a { cls := .ref C, dict := some d, data := .fields #[.ref t1, .none, .none, .none, .bool false, .none] } C (some od) := ⟨ho, rfl, rfl, hod⟩
  exact HandSPX.exc_get I1.kIn J T.ga T.gg T.exC (PySem.W.findObj_own T.hdC no rfl (by rw [hl, hw])) (handed_of rw') ⟨v, H1, I1.tok _, rw', q⟩
/-- isinstance(x, c), x an error that is held as a value -/
def rIsV (K : PySem.W.Frag) : List V → Hp → VK → Prop := fun xs H Q => ∃ (a C : Addr) (d : Option Addr) (c : V) (cv : Value) (b : Bool), xs = [.ref a, c] ∧ ClsV c cv ∧ ExcC K C ∧ H a = some (exo a C d) ∧ (∀ dx, d = some dx → ∃ fs, H dx = some (exd dx fs)) ∧ PySem.W.kitOne K (.ref C) cv = some b ∧ Q (.bl b) H
theorem call_isV : CallR X (.builtin "isinstance") (rIsV X.K) := by
  intro pins s σ H xs us Q I r h
  obtain ⟨a, C, d, c, cv, b, rfl, hc, T, ea, hd, ek, q⟩ := h
  obtain ⟨u1, u2, rfl, r1, r2⟩ := vals2 r
  cases r1
  obtain rfl := hc.eq r2
  obtain ⟨t1, ho⟩ := exo_at I.hok ea
  have hcl : (PySem.W.clsIn X.K C).isSome = true := by
    obtain ⟨cd, hc, _⟩ := PySem.W.any_some T.hd
    rw [hc] <;> rfl
  have J : ∃ od, PySem.W.InstAt s.heap a { cls := .ref C, dict := d, data := .fields #[.ref t1, .none, .none, .none, .bool false, .none] } C od := by
    cases d with
    | none => exact ⟨none, ho, rfl, rfl, trivial⟩
    | some dx =>
      obtain ⟨fs, hx⟩ := hd dx rfl
      obtain ⟨mA, hns, _⟩ := exd_at I.hok hx
      obtain ⟨od, hod, _⟩ := lookIn_ns hns
      exact ⟨some od, ho, rfl, rfl, hod⟩
  obtain ⟨od, J⟩ := J
  exact PySem.W.kia_one (PySem.W.kitx_exc hcl T.hg T.hk T.hs T.ha T.hn T.ht T.hm) I.kIn J ek (fun z => nomatch z) fun tk => ⟨.bl b, H, I.kept (t' := tk) fun _ _ z => z, rfl, q⟩
end
end L2

set_option Elab.async false
set_option linter.all false
set_option maxRecDepth 100000
set_option maxHeartbeats 4000000
/-! Promises of defs for callers beneath which no guarded built-in runs: what repr of containers asks. -/
namespace L2
open PySem PySem.Spec PyProof.Rows
structure FnG (P : Program) (w : World) (K : PySem.W.Frag) (mg : Str → Option Value) (base : Heap) (CX : CXT) (k : Nat) (f : Addr) (fd : FuncData) (ps : List Str) (sp : Sp) : Prop where
  len : ∀ vs H Q E, sp vs H Q E → vs.length = ps.length
  go : ∀ (A : Around) (outer : List Env) (s : Shared) (H : Hp) (args : Args) (us : List Value) (vs : List V) (Q : VK) (E : XK), A.guards = some [] → Room k A → Env0 P w K mg base A outer s H →
    BindsTo s fd args (ps.zip us) → Vals vs us → sp vs H Q E → codeAny (model P w) A (.call (.ref f) args) (CR CX outer P w H s Q E) s
section
variable {P : Program} {w : World} {K : PySem.W.Frag} {mg : Str → Option Value} {base : Heap} {CX : CXT} {k : Nat} {f : Addr} {fd : FuncData} {ps : List Str} {sp : Sp}
theorem FnOk.g (F : FnOk P w K mg base CX k f fd ps sp) : FnG P w K mg base CX k f fd ps sp :=
  { len := F.len, go := fun A outer s H args us vs Q E _ => F.run A outer s H args us vs Q E }
theorem FnG.up {j : Nat} (F : FnG P w K mg base CX j f fd ps sp) (h : j ≤ k) : FnG P w K mg base CX k f fd ps sp :=
  { len := F.len, go := fun A outer s H args us vs Q E hg hr => F.go A outer s H args us vs Q E hg (hr.mono h) }
theorem Fun.okG {x qual : Str} {st : Stmt} {N : List Str} (F : Fun K x qual st f fd) (S : FnScope N ps (defScope st)) (len : ∀ vs H Q E, sp vs H Q E → vs.length = ps.length)
    (body : ∀ (cdv : Value) (A : Around) (outer : List Env) (s : Shared) (H : Hp) (vs : List V) (Q : VK) (E : XK), (A.deeper (envOfC qual (defScope st) s.heap.objs.size f cdv)).guards = some [] →
      Room k (A.deeper (envOfC qual (defScope st) s.heap.objs.size f cdv)) → sp vs H Q E →
      ∃ t, PSs (cxOf CX0 P w K mg base N qual (defScope st) f cdv A outer s H E).nox (defBody st) t ∧ t { nx := fun _ H' => Q .non H', rt := Q } (start N vs) H) : FnG P w K mg base CX0 (k + 1) f fd ps sp := by
  obtain ⟨oc, od, kV, doc, pm, an, cdv, ct, osl, rfl, lk, hcd⟩ := F.ex
  refine { len := len, go := fun A outer s H args us vs Q E hg hr e0 hb r hsp => ?_ }
  have up := fun b o e => (e0.bs b o e).1
  refine Att.call_fn (e0.mod.kin.keeps up) (e0.mod.nolimit.keeps up) lk hcd hr.depth hb ?_ (fun s1 ic => ?_) S.co S.gen S.kind
  · refine List.all_eq_true.mpr fun y hy => ?_
    obtain ⟨n, v⟩ := y
    rcases S.par n (List.of_mem_zip hy).1 with q | q <;> (dsimp only; rw [q]; rfl)
  · obtain ⟨t, ht, hq⟩ := body cdv A outer s H vs Q E hg (hr.deeper _) hsp
    have I := inv_start (CX := CX0) (E := E) S hr.hd e0 (len _ _ _ _ hsp) r ic
    refine wpAny_mono (ht.nox.run [] s1 _ H _ I hq) (fun fl s2 h => ?_) fun _ _ h => h
    cases fl with
    | ret u =>
      obtain ⟨v, _, H2, J, rv, h⟩ := h
      exact ⟨v, H2, J.os, J.bare, J.base, J.hok, rv, h⟩
    | next =>
      obtain ⟨_, H2, J, h⟩ := h
      exact ⟨.non, H2, J.os, J.bare, J.base, J.hok, rfl, h⟩
    | brk => obtain ⟨_, _, _, h⟩ := h; exact h.elim
    | cont => obtain ⟨_, _, _, h⟩ := h; exact h.elim
end
/-- the abstract heap of the script alone -/
theorem script_heap {P : Program} {w : World} {K : PySem.W.Frag} {h : Heap} {a : Addr} {vs : List Value} {ns : List Int} (X : K.In h) (ha : h.get? a = some { cls := .type "list", data := .seq vs.toArray }) (hi : IntsAre vs ns) (hl : ns.length ≤ sizeLine) :
    ∃ H : Hp, SqL K H a (ns.map V.int) ∧ HOk P w H h ∧ ∀ b u, H b = some u → b = a ∧ K.lookup a = none ∧ ∃ o xs, u = .frz o (.lst xs) := by
  have rv := vals_ints hi
  by_cases n : K.lookup a = none
  · refine ⟨fun b => if b = a then some (.frz { cls := .type "list", data := .seq vs.toArray } (.lst (ns.map V.int))) else none, .inl (.inr ⟨_, if_pos rfl⟩), fun b u z => ?_, fun b u z => ?_⟩
    all_goals
      dsimp only at z
      split at z
      case isFalse => cases z
      rename_i eb
      cases z
    · subst eb
      exact ⟨ha, by rw [List.length_map]; exact hl, vs, 0, rv, ha⟩
    · exact ⟨eb, n, _, _, rfl⟩
  · obtain ⟨o, ho⟩ := Option.ne_none_iff_exists'.mp n
    have e := (X a o ho).symm.trans ha
    cases e
    exact ⟨fun _ => none, .inr ⟨_, vs.toArray, _, ho, rfl, rfl, rfl, by rw [List.size_toArray, hi.length]; exact hl, rv⟩, fun _ _ z => (nomatch z), fun _ _ z => (nomatch z)⟩
/-- the law's def, called on the script -/
theorem law_callG {P : Program} {w : World} {K : PySem.W.Frag} {mg mb : Str → Option Value} {k : Nat} {fa a : Addr} {fd : FuncData} {x : Str} {sp : Sp} {s1 : Shared} {vs : List Value} {ns : List Int} (KX : K.In s1.heap) (hns : s1.heap.Ns mainGlobals mg)
    (hb : s1.heap.Ns builtinsNs mb ∧ ∀ y : Str, y ≠ "__name__" → mb y = bootBuiltins y) (hlim : s1.heap.NoLimit) (hg : s1.gens = #[]) (ha : s1.heap.get? a = some { cls := .type "list", data := .seq vs.toArray }) (hi : IntsAre vs ns) (hl : ns.length ≤ sizeLine)
    (hr : Room k callerA) (F : ∀ b0 : Heap, K.In b0 → b0.Ns mainGlobals mg → FnG P w K mg b0 CX0 k fa fd [x] sp) (bind : ∀ (s : Shared) (u : Value), BindsTo s fd ⟨[u], []⟩ [(x, u)])
    (hsp : ∀ H : Hp, Only H → SqL K H a (ns.map V.int) → sp [.ref a] H (fun v _ => v = .bl true) fun _ _ _ => False) (noX : ∀ H e s', CX0 [] H s1 (fun _ _ _ => False) e s' → False) :
    codeAny (model P w) callerA (.call (.ref fa) ⟨[.ref a], []⟩) (fun r s' => r = .ok (.ret (.bool true)) ∧ OldK s1.heap s'.heap ∧ s'.os = s1.os ∧ AllBare s'.gens) s1 := by
  obtain ⟨H, hS, hok, hA⟩ := script_heap (P := P) (w := w) KX ha hi hl
  have tell : ∀ b, H b = none ∨ b = a ∧ K.lookup a = none ∧ ∃ o xs, H b = some (.frz o (.lst xs)) := fun b => by
    cases q : H b with
    | none => exact .inl rfl
    | some u =>
      obtain ⟨e1, e2, o, xs, e3⟩ := hA b u q
      exact .inr ⟨e1, e2, o, xs, by rw [e3]⟩
  have only : Only H := fun b => (tell b).imp id fun z => z.2.2
  have low : ∀ {b : Addr} {m : Str → Option Value}, s1.heap.Ns b m → (hidT s1.heap H).Ns b m := fun {b m} n => by
    obtain ⟨o, es, ep, e, d, r⟩ := n
    refine ⟨o, es, ep, hidT_get e ?_, d, r⟩
    rcases tell b with z | ⟨z, _⟩
    · exact z
    · rw [z, ha] at e
      cases e
      cases d
  have kin : K.In (hidT s1.heap H) := fun b o e => hidT_get (KX b o e) ((tell b).elim id fun z => by
    rw [z.1, z.2.1] at e
    cases e)
  obtain ⟨mc, l1, l2⟩ := hlim
  have e0 : Env0 P w K mg (hidT s1.heap H) callerA [] s1 H :=
    { frames := rfl, mod := { kin := kin, glob := low hns, blt := ⟨mb, low hb.1, hb.2⟩, nolimit := ⟨mc, low l1, l2⟩ }, bs := fun _ _ e => of_hidT e, bsz := Nat.le_of_eq (hidT_size _ _), funs := trivial, frf := fun _ z => (nomatch z), hok := hok, bare := .of_eq hg }
  refine codeAny_mono ((F _ kin (low hns)).go callerA [] s1 H _ [.ref a] [.ref a] _ _ rfl hr e0 (bind s1 (.ref a)) (.cons rfl .nil) (hsp H only hS)) fun r s2 h => ?_
  rcases r with e | fl
  · exact (noX H e s2 h).elim
  rcases fl with _ | _ | _ | u <;> try exact False.elim h
  obtain ⟨v, H2, os, bare, un, ok2, rv, q⟩ := h
  cases (q : v = .bl true)
  cases (rv : u = Value.bool true)
  refine ⟨rfl, OldK.of_keep fun b o e => ?_, os, bare⟩
  rcases tell b with z | ⟨_, _, ob, xs, z⟩
  · exact un.keep b o e z (fun y => by cases y) fun y => by cases y
  · have k1 := (hok b _ z).1
    rw [← e, k1] at *
    exact (ok2 b _ (un.frzs b ob _ z)).1
theorem walk_ofG {l : PySem.W.OpenLaw} {n k : Nat} {q : Program} {loose : List Str} {XP : (Str → Option Value) → Heap → Prop} {YP : World → Heap → Prop} {d : DefRec} {K : Params → PySem.W.Frag} {sp : PySem.W.Frag → Sp} {x : Str} (hn : l.most = some n) (hn2 : n ≤ sizeLine)
    (hdf : d.params.defaults = []) (hr : Room k callerA) (hY : ∀ (w : World) (h : Heap), YP w h → (K w.params).In h)
    (F : ∀ (w : World) (mg : Str → Option Value) (fa : Addr) (h : Heap), (K w.params).In h → h.Ns mainGlobals mg → mg d.name = some (.ref fa) → ∃ fd : FuncData, (∀ (s : Shared) (u : Value), BindsTo s fd ⟨[u], []⟩ [(x, u)]) ∧
      ∀ b0 : Heap, (K w.params).In b0 → b0.Ns mainGlobals mg → FnG l.prog w (K w.params) mg b0 CX0 k fa fd [x] (sp (K w.params)))
    (hsp : ∀ (K : PySem.W.Frag) (H : Hp) (a : Addr) (ns : List Int), ns.length ≤ n → Only H → SqL K H a (ns.map V.int) → sp K [.ref a] H (fun v _ => v = .bl true) fun _ _ _ => False)
    (noX : ∀ (H : Hp) (s : Shared) (e : Value) (s' : Shared), CX0 [] H s (fun _ _ _ => False) e s' → False) : PySem.W.WalkO q loose XP YP l.row.toRowW d [] (fun f vs => PySem.call f vs) := by
  refine Att.attach_call hn hdf fun w s0 s1 mg mb fa o pm cd doc a vs ns G Y _ _ _ hmg hobj hints hlen hg => ?_
  obtain ⟨fd, hb, hF⟩ := F w mg fa _ (hY w _ Y) G.T.g hmg
  exact law_callG (hY w _ Y) G.T.g ⟨G.T.b, G.T.builtins⟩ G.T.nolimit hg hobj hints (Nat.le_trans hlen hn2) hr hF hb (fun H => hsp _ H a ns hlen) fun H => noX H s1
end L2

set_option Elab.async false
set_option linter.all false
set_option maxRecDepth 100000
set_option maxHeartbeats 4000000
/-! Own `in`, `len`, `==` of an own class whose instances have a dict; calls of defs that ask for no guarded built-in beneath. -/
namespace L2
open PySem PySem.Spec PyProof.Rows
section
variable {X : Cx} {CX : CXT} {k : Nat} {f C : Addr} {fd : FuncData} {ps : List Str} {sp : Sp} {E : XK}
theorem run_in1 {pins : List (Addr × Obj)} {σ : St} {H : Hp} {s : Shared} {Q : VK} {us : List Value} {vs : List V} (F : FnOk X.prog X.w X.K X.mg X.base CX k f fd ps sp) (hr : Room (k + 1) X.A) (hb : Binds X.K fd ps []) (hx : Passes CX X E)
    (I : Inv X pins σ H s) (r : Vals vs us) (h : sp vs H Q E) : wpAny (model X.prog X.w) X.A.in1 (call (.ref f) us) (EP X pins σ Q) X.xe s := by
  have len : us.length = ps.length := r.length.symm.trans (F.len _ _ _ _ h)
  have b := hb s us I.kIn (by rw [List.append_nil]; exact len)
  rw [List.append_nil] at b
  refine wpAny_call (codeAny_mono (F.run X.A.in1 X.stack s H ⟨us, []⟩ us vs Q E hr.in1 I.env0.in1 b r h) fun z s2 q => ?_)
  rcases z with e | fl
  · exact hx pins σ H s e s2 I q
  · rcases fl with _ | _ | _ | u <;> first | exact False.elim q | exact I.after q
theorem truthy_bl {M : Model} {A : Around} {E' : Value → Shared → Prop} {s : Shared} {b : Bool} {Q : Bool → Shared → Prop} (q : Q b s) : wpAny M A (truthy (.bool b)) Q E' s := by
  wp_walk
  exact q
/-- x in o, o an instance with an own __contains__ -/
def rInOwn (C : Addr) (sp : Sp) (E : XK) (neg : Bool) : R2 := fun x y H Q => ∃ (a dx : Addr) (fs : List (Str × V)), y = .ref a ∧ H a = some (.ins C dx fs) ∧ sp [.ref a, x] H (fun v H2 => ∃ b, v = .bl b ∧ Q (.bl (b != neg)) H2) E
theorem op_inOwn (hs : PySem.W.findIn X.K (.ref C) "__contains__" = some (some (.ref f))) (hf : PySem.W.isFn X.K (.ref f) = true) (F : FnOk X.prog X.w X.K X.mg X.base CX k f fd ps sp) (hr : Room k X.A) (hb : Binds X.K fd ps []) (hx : Passes CX X E) :
    OpR X (compareOp .In) (rInOwn C sp E false) := by
  intro pins s σ H x y v u Q I rx ry h
  obtain ⟨a, dx, fs, rfl, ea, q⟩ := h
  cases ry
  obtain ⟨mA, O, _, _, _, _⟩ := ins_get I.hok ea
  obtain ⟨od, J, _⟩ := O.look
  obtain ⟨m, hF⟩ := I.fr
  refine PySem.W.in_K hF I.ok.mod.kin J hs hf (wpAny_mono (run_fn (ds := []) (dvs := []) (vs := [.ref a, x]) (us := [.ref a, v]) F hr hb .nil hx I (.cons rfl (.cons rx .nil)) q) (fun r s2 z => ?_) fun _ _ z => z)
  obtain ⟨w', H2, I2, rw', b, rfl, q2⟩ := z
  cases rw'
  rw [Bool.bne_false] at q2
  exact truthy_bl ⟨.bl b, H2, I2, rfl, q2⟩
theorem op_notInOwn (hs : PySem.W.findIn X.K (.ref C) "__contains__" = some (some (.ref f))) (hf : PySem.W.isFn X.K (.ref f) = true) (F : FnOk X.prog X.w X.K X.mg X.base CX k f fd ps sp) (hr : Room k X.A) (hb : Binds X.K fd ps []) (hx : Passes CX X E) :
    OpR X (compareOp .NotIn) (rInOwn C sp E true) := by
  intro pins s σ H x y v u Q I rx ry h
  obtain ⟨a, dx, fs, rfl, ea, q⟩ := h
  cases ry
  obtain ⟨mA, O, _, _, _, _⟩ := ins_get I.hok ea
  obtain ⟨od, J, _⟩ := O.look
  obtain ⟨m, hF⟩ := I.fr
  refine PySem.W.notIn_K hF I.ok.mod.kin J hs hf (wpAny_mono (run_fn (ds := []) (dvs := []) (vs := [.ref a, x]) (us := [.ref a, v]) F hr hb .nil hx I (.cons rfl (.cons rx .nil)) q) (fun r s2 z => ?_) fun _ _ z => z)
  obtain ⟨w', H2, I2, rw', b, rfl, q2⟩ := z
  cases rw'
  rw [Bool.bne_true] at q2
  exact truthy_bl ⟨.bl (!b), H2, I2, rfl, q2⟩
/-- len(o), o an instance with an own __len__ -/
def rLenOwn (C : Addr) (sp : Sp) (E : XK) : List V → Hp → VK → Prop := fun xs H Q => ∃ (a dx : Addr) (fs : List (Str × V)), xs = [.ref a] ∧ H a = some (.ins C dx fs) ∧ sp [.ref a] H (fun v H2 => ∃ n : Nat, v = .int n ∧ n ≤ 1000000 ∧ Q (.int n) H2) E
theorem call_lenOwn (hs : PySem.W.findIn X.K (.ref C) "__len__" = some (some (.ref f))) (hf : PySem.W.isFn X.K (.ref f) = true) (F : FnOk X.prog X.w X.K X.mg X.base CX k f fd ps sp) (hr : Room (k + 1) X.A) (hb : Binds X.K fd ps []) (hx : Passes CX X E) :
    CallR X (.builtin "len") (rLenOwn C sp E) := by
  intro pins s σ H xs us Q I r h
  obtain ⟨a, dx, fs, rfl, ea, q⟩ := h
  obtain ⟨u, rfl, ru⟩ := vals1 r
  cases ru
  obtain ⟨mA, O, _, _, _, _⟩ := ins_get I.hok ea
  obtain ⟨od, J, _⟩ := O.look
  obtain ⟨m, hF⟩ := I.fr
  refine PySem.W.len_K hF I.ok.mod.kin J hs hf (wpAny_mono (run_in1 (vs := [.ref a]) (us := [.ref a]) F hr hb hx I (.cons rfl .nil) q) (fun r s2 z => ?_) fun _ _ z => z)
  obtain ⟨w', H2, I2, rw', n, rfl, hn, q2⟩ := z
  obtain ⟨t, rfl⟩ := rw'
  exact ⟨⟨by omega, by omega⟩, .int n, H2, I2.tok _, ⟨_, rfl⟩, q2⟩
/-- how an object's class is known: an instance with a dict, or a list -/
inductive ClsOf (H : Hp) (b : Addr) : Value → Prop where
  | ins {C dx : Addr} {fs : List (Str × V)} (e : H b = some (.ins C dx fs)) : ClsOf H b (.ref C)
  | lst {xs : List V} (e : H b = some (.lst xs)) : ClsOf H b (.type "list")
theorem ClsOf.looks {pins : List (Addr × Obj)} {σ : St} {H : Hp} {s : Shared} {b : Addr} {tb : Value} (I : Inv X pins σ H s) (c : ClsOf H b tb) : PySem.W.Looks (model X.prog X.w) s.heap (typeOf (.ref b)) tb := by
  cases c with
  | ins e =>
    obtain ⟨mA, O, _, _, _, _⟩ := ins_get I.hok e
    obtain ⟨od, J, _⟩ := O.look
    exact J.type
  | lst e =>
    obtain ⟨_, its, n, _, ho⟩ := I.hok b _ e
    exact fun A Q E s k q => wpAny_typeOf_ref (k _ _ ho) q
/-- x == y, x an instance with an own __eq__ -/
def rEqOwn (K : PySem.W.Frag) (C : Addr) (sp : Sp) (E : XK) : R2 := fun x y H Q => ∃ (a dx b : Addr) (fs : List (Str × V)) (tb : Value), x = .ref a ∧ y = .ref b ∧ H a = some (.ins C dx fs) ∧ ClsOf H b tb ∧ PySem.W.notFirst K C tb = true ∧ sp [.ref a, .ref b] H (fun v H2 => ∃ c, v = .bl c ∧ Q (.bl c) H2) E
theorem op_eqOwn (hs : PySem.W.findIn X.K (.ref C) "__eq__" = some (some (.ref f))) (hf : PySem.W.isFn X.K (.ref f) = true) (F : FnOk X.prog X.w X.K X.mg X.base CX k f fd ps sp) (hr : Room k X.A) (hb : Binds X.K fd ps []) (hx : Passes CX X E) :
    OpR X (compareOp .Eq) (rEqOwn X.K C sp E) := by
  intro pins s σ H x y v u Q I rx ry h
  obtain ⟨a, dx, b, fs, tb, rfl, rfl, ea, cb, nf, q⟩ := h
  cases rx
  cases ry
  obtain ⟨mA, O, _, _, _, _⟩ := ins_get I.hok ea
  obtain ⟨od, J, _⟩ := O.look
  obtain ⟨m, hF⟩ := I.fr
  refine PySem.W.cmp_K (op := .Eq) (tb := tb) hr.units0 hF I.ok.mod.kin J (cb.looks I) nf hs hf ?_
  refine wpAny_mono (run_fn (ds := []) (dvs := []) (vs := [.ref a, .ref b]) (us := [.ref a, .ref b]) F hr hb .nil hx I (.cons rfl (.cons rfl .nil)) q) (fun w' s2 z => ?_) fun _ _ z => z
  obtain ⟨w2, H2, I2, rw', c, rfl, q2⟩ := z
  cases rw'
  exact ⟨.bl c, H2, I2, rfl, q2⟩
end
section
variable {X : Cx} {CX : CXT} {k : Nat} {f : Addr} {fd : FuncData} {ps : List Str} {sp : Sp} {E : St → XK} {x : Str} {p pos : Pos} {e : Expr} {es : List Expr} {t : TA}
/-- f(e, ..), f a def that asks that no guarded built-in runs beneath -/
def tCallG (sp : Sp) (E : St → XK) (t : TA) : TE := fun σ H Q => t σ H fun vs H1 => sp vs H1 Q (E σ)
theorem pe_callG (F : FnG X.prog X.w X.K X.mg X.base CX k f fd ps sp) (hgd : X.A.guards = some []) (hr : Room k X.A) (hg : Gl X x) (hm : X.mg x = some (.ref f)) (hk : PySem.W.keepIn X.K (.ref f) = true) (hb : Binds X.K fd ps []) (hx : ∀ σ, Passes CX X (E σ))
    (ha : PA X (e :: es) t) (hdb : (x == ("__debug__" : Str)) = false := by decide) (he : starEach (e :: es) X.env = (false, eval e X.env) :: starEach es X.env := by rfl) (hpl : (backTo pos (starEach es X.env)).any (·.1) = false := by rfl) :
    PE X (.Call (.Name x p) (e :: es) [] pos) (tCallG sp E t) := by
  constructor
  intro pins s σ H Q I h
  refine wpAny_Call_Name_kw (ld_glob I hg hm ?_ hdb)
  refine PySem.W.callWith_K (h₀ := X.base) I.ok.mod.kin hk (thn (ha.run pos pins s σ H _ I h) fun us s1 q0 => ?_) he hpl
  obtain ⟨vs, H1, I1, r, q⟩ := q0
  have len : us.length = ps.length := r.length.symm.trans (F.len _ _ _ _ q)
  have b := hb s1 us I1.kIn (by rw [List.append_nil]; exact len)
  rw [List.append_nil] at b
  refine ⟨I1.kIn, wpAny_call (codeAny_mono (F.go X.A X.stack s1 H1 ⟨us, []⟩ us vs Q (E σ) hgd hr I1.env0 b r q) fun z s2 q2 => ?_)⟩
  rcases z with er | fl
  · exact hx σ pins σ H1 s1 er s2 I1 q2
  · rcases fl with _ | _ | _ | u <;> first | exact False.elim q2 | exact I1.after q2
end
end L2
namespace L2
open PySem PySem.Spec PyProof.Rows
section
variable {X : Cx} {CX : CXT} {k : Nat} {f C : Addr} {fd : FuncData} {ps : List Str} {sp : Sp} {E : XK}
/-- object.__ne__ of an instance with an own __eq__ -/
theorem ne_entry {A : Around} {E' : Value → Shared → Prop} {s : Shared} {x : Addr} {b : Value} {ox : Obj} {od : Option Obj} {Q : Fin → Shared → Prop} (XK : X.K.In s.heap) (J : PySem.W.InstAt s.heap x ox C od) (hu : A.units < cLine)
    (hs : PySem.W.findIn X.K (.ref C) "__eq__" = some (some (.ref f))) (hf : PySem.W.isFn X.K (.ref f) = true)
    (h : wpAny (model X.prog X.w) A (call (.ref f) [.ref x, b]) (fun v s2 => ∃ c, v = .bool c ∧ Q (.done (.ret (.bool (!c)))) s2) E' s) : wpAny (model X.prog X.w) A (Builtin.«object.__ne__» ⟨[.ref x, b], []⟩) Q E' s := by
  have one : wpAny (model X.prog X.w) A (callSpecialIfBound? (.ref x) "__eq__" [b]) (fun r s2 => ∃ c, r = some (.bool c) ∧ Q (.done (.ret (.bool (!c)))) s2) E' s :=
    PySem.W.ifBound_K XK J hs hf (wpAny_mono h (fun v s2 hv => by obtain ⟨c, e, q⟩ := hv; exact ⟨c, by rw [e], q⟩) fun _ _ z => z)
  unfold Builtin.«object.__ne__»
  repeat (first
    | with_reducible refine wpAny_cRoomFor hu ?_
    | refine wpAny_bind (m := callSpecialIfBound? (.ref x) (Str.ofString "__eq__") [b]) (wpAny_mono one (fun r s2 hr => ?_) fun _ _ z => z)
    | wp_step)
  obtain ⟨c, rfl, q⟩ := hr
  repeat (first | exact q | exact wpAny_pure q | refine wpAny_bind (m := truthy (.bool _)) (truthy_bl ?_) | wp_step)
/-- x != y, two instances of a class with an own __eq__ and no own __ne__ -/
def rNeOwn (C : Addr) (sp : Sp) (E : XK) : R2 := fun x y H Q => ∃ (a dx b dy : Addr) (fs gs : List (Str × V)), x = .ref a ∧ y = .ref b ∧ H a = some (.ins C dx fs) ∧ H b = some (.ins C dy gs) ∧ sp [.ref a, .ref b] H (fun v H2 => ∃ c, v = .bl c ∧ Q (.bl (!c)) H2) E
theorem op_neOwn (hs : PySem.W.findIn X.K (.ref C) "__eq__" = some (some (.ref f))) (hn : PySem.W.findIn X.K (.ref C) "__ne__" = some (some (.builtin "object.__ne__"))) (hm : PySem.W.mroIn X.K C (.type "object") = some true)
    (hf : PySem.W.isFn X.K (.ref f) = true) (F : FnOk X.prog X.w X.K X.mg X.base CX k f fd ps sp) (hr : Room (k + 1) X.A) (hb : Binds X.K fd ps []) (hx : Passes CX X E) : OpR X (compareOp .NotEq) (rNeOwn C sp E) := by
  intro pins s σ H x y v u Q I rx ry h
  obtain ⟨a, dx, b, dy, fs, gs, rfl, rfl, ea, eb, q⟩ := h
  cases rx
  cases ry
  obtain ⟨mA, O, _, _, _, _⟩ := ins_get I.hok ea
  obtain ⟨od, J, _⟩ := O.look
  obtain ⟨mB, O2, _, _, _, _⟩ := ins_get I.hok eb
  obtain ⟨od2, J2, _⟩ := O2.look
  have un := hr.un
  have inst : PySem.W.Looks (model X.prog X.w) s.heap (isInstance (.ref a) (.type "object")) true := J.type.andThen (PySem.W.looks_mroIn I.kIn hm)
  have look : PySem.W.Looks (model X.prog X.w) s.heap (specialOf (.ref a) "__ne__") (some (.builtin "object.__ne__")) := J.type.andThen (PySem.W.looks_findIn I.kIn hn)
  have body : wpAny (model X.prog X.w) X.A (call (.builtin "object.__ne__") [.ref a, .ref b]) (fun v s2 => ∃ c, v = .bool c ∧ EP X pins σ Q (.bool c) s2) X.xe s := by
    refine wpAny_call (codeAny_call_builtin (by decide +kernel) PySem.F.cmpEntry_ne (PySem.W.check_slot PySem.F.cmpKind_ne PySem.F.cmpSplit_ne inst (PySem.F.cmpArgs_ne _ _) ?_))
    refine ne_entry (A := X.A.in1) I.kIn J (by show X.A.units + 1 < cLine; omega) hs hf (wpAny_mono (run_in1 (vs := [.ref a, .ref b]) (us := [.ref a, .ref b]) F hr hb hx I (.cons rfl (.cons rfl .nil)) q) (fun w2 s2 z => ?_) fun _ _ z => z)
    obtain ⟨w3, H2, I2, rw3, c, rfl, q2⟩ := z
    cases rw3
    exact ⟨c, rfl, !c, rfl, .bl (!c), H2, I2, rfl, q2⟩
  have asked : wpAny (model X.prog X.w) X.A (tryCompare (.ref a) "__ne__" (.ref b)) (fun r s2 => ∃ c, r = some (.bool c) ∧ EP X pins σ Q (.bool c) s2) X.xe s := by
    unfold tryCompare
    refine wpAny_bind (NtL.csib look (PySem.F.slot_range_iterator_ne.bind _) (wpAny_mono body (fun v s2 hv => ?_) fun _ _ z => z))
    obtain ⟨c, rfl, q2⟩ := hv
    exact wpAny_pure ⟨c, rfl, q2⟩
  unfold compareOp
  clear body q
  unfold richCompare
  simp only [oneThing_ref]
  refine wpAny_holding (wpAny_bind (wpAny_cRoomFor (by omega) ?_))
  rw [cmpInfo_NotEq]
  refine wpAny_bind (J.type.here (wpAny_bind (J2.type.here ?_)))
  rw [if_neg (by simp : ¬ (Value.ref C != Value.ref C) = true)]
  refine wpAny_bind (wpAny_pure ?_)
  rw [if_neg Bool.false_ne_true]
  refine wpAny_bind (wpAny_mono asked (fun r s2 hr2 => ?_) fun _ _ z => z)
  obtain ⟨c, rfl, q2⟩ := hr2
  exact wpAny_pure q2
end
end L2

set_option Elab.async false
set_option linter.all false
set_option maxRecDepth 100000
set_option maxHeartbeats 4000000
/-! repr of a list of data. -/
namespace L2
open PySem PySem.Spec PyProof.Rows
def keyD : Key → PyData
  | .inl i => .int i
  | .inr x => .str x
theorem pairs_data {P : Program} {w : World} {h : Heap} : ∀ {es : List DictEntry} {vs : List (Key × Value)} {kvs : List (Key × Int)}, Pairs (mixKind P w) es vs → KV (kvs.map fun p => (p.1, V.int p.2)) vs →
    ReadsAll h (es.map (·.key)) (kvs.map fun p => keyD p.1) [] ∧ ReadsAll h (es.map (·.val)) (kvs.map fun p => PyData.int p.2) []
  | _, _, [], p, r => by
    cases r
    cases p
    exact ⟨.nil, .nil⟩
  | _, _, (k, i) :: l, p, r => by
    cases r with
    | cons r1 r2 =>
      cases p with
      | cons p1 p2 p3 =>
        obtain ⟨e1, t, e2⟩ := r1
        obtain ⟨q1, q2⟩ := pairs_data p3 r2
        dsimp only at e1 e2
        refine ⟨.cons (as := []) (bs := []) ?_ q1, .cons (as := []) (bs := []) ?_ q2⟩
        · rw [← e1] at p1
          rcases keyIs_shape p1 with ⟨j, u, ek, ev⟩ | ⟨y, u, ek, ev⟩
          · dsimp only
            rw [ev, show k = _ from ek]
            exact .int j u
          · dsimp only
            rw [ev, show k = _ from ek]
            exact .str y u
        · dsimp only
          rw [p2, e2]
          exact .int i t
/-- data: without dicts, or one dict of whole numbers -/
def Dd (K : PySem.W.Frag) (H : Hp) (v : V) (d : PyData) : Prop := (Dp K H v d ∧ d.hasDict = false) ∨
  ∃ (b : Addr) (kvs : List (Key × Int)), v = .ref b ∧ H b = some (.dK (kvs.map fun p => (p.1, V.int p.2))) ∧ d = .dict ((kvs.map fun p => keyD p.1).zip (kvs.map fun p => PyData.int p.2))
section
variable {X : Cx} {pins : List (Addr × Obj)} {σ : St} {H : Hp} {s : Shared}
theorem Dd.reads {v : V} {d : PyData} {u : Value} (I : Inv X pins σ H s) (D : Dd X.K H v d) (r : RelV v u) : ∃ as, Reads s.heap u d as ∧ (d.hasDict = true → sysModules ∉ as) := by
  rcases D with ⟨D, n⟩ | ⟨b, kvs, rfl, e, rfl⟩
  · obtain ⟨as, q⟩ := Dp.reads I d v u D r
    exact ⟨as, q, fun z => by rw [n] at z; cases z⟩
  · cases r
    obtain ⟨_, ns, vs, kv, o, es, ep, ho, hx, hd, _, pr, _⟩ := I.hok b _ e
    obtain ⟨q1, q2⟩ := pairs_data (h := s.heap) pr kv
    refine ⟨b :: [] ++ [], Reads.dict ho hx.1 hd ?_ ?_, fun _ z => ?_⟩
    · rw [List.map_fst_zip (by simp)]
      exact q1
    · rw [List.map_snd_zip (by simp)]
      exact q2
    · simp only [List.append_nil, List.mem_singleton] at z
      rw [← z] at ns
      simp at ns
theorem dd_all {d : PyData} (I : Inv X pins σ H s) : ∀ {vs : List V} {us : List Value}, (∀ v ∈ vs, Dd X.K H v d) → Vals vs us → ∃ as, ReadsAll s.heap us (List.replicate vs.length d) as ∧ (d.hasDict = true → sysModules ∉ as)
  | _, _, _, .nil => ⟨[], .nil, fun _ z => nomatch z⟩
  | _, _, D, .cons r1 r2 => by
    obtain ⟨as, q1, n1⟩ := (D _ (List.mem_cons_self ..)).reads I r1
    obtain ⟨bs, q2, n2⟩ := dd_all I (fun v hv => D v (List.mem_cons_of_mem _ hv)) r2
    exact ⟨as ++ bs, .cons q1 q2, fun z => by rw [List.mem_append]; exact fun y => y.elim (n1 z) (n2 z)⟩
/-- repr(xs), a list whose items all are the same data -/
def rReprL (K : PySem.W.Frag) : List V → Hp → VK → Prop := fun xs H Q => ∃ (a : Addr) (ys : List V) (d : PyData), xs = [.ref a] ∧ H a = some (.lst ys) ∧ ys ≠ [] ∧ (∀ y ∈ ys, Dd K H y d) ∧ d.showable = true ∧ PyData.depthAll (List.replicate ys.length d) ≤ 100 ∧
  (listText (PyData.shownAll (List.replicate ys.length d))).length ≤ sizeLine ∧ Q (.str (listText (PyData.shownAll (List.replicate ys.length d)))) H
theorem show_rep (d : PyData) : ∀ n, PyData.showableAll (List.replicate n d) = true ∨ d.showable = false
  | 0 => .inl rfl
  | n + 1 => by
    cases e : d.showable with
    | false => exact .inr rfl
    | true =>
      rcases show_rep d n with z | z
      · exact .inl (by rw [List.replicate_succ, PyData.showableAll, e, z]; rfl)
      · rw [e] at z
        cases z
theorem dict_rep (d : PyData) : ∀ n, PyData.hasDictAll (List.replicate n d) = true → d.hasDict = true
  | 0, h => by cases h
  | n + 1, h => by
    rw [List.replicate_succ, PyData.hasDictAll, Bool.or_eq_true] at h
    exact h.elim id (dict_rep d n)
theorem call_reprL (hg : X.A.guards = some []) (hu : X.A.units + 200 < cLine) : CallR X (.builtin "repr") (rReprL X.K) := by
  intro pins s σ H xs us Q I r h
  obtain ⟨a, ys, d, rfl, e, hne, hd, hs, hdep, hz, q⟩ := h
  obtain ⟨u, rfl, ru⟩ := vals1 r
  cases ru
  obtain ⟨_, its, n, rv, ho⟩ := I.hok a _ e
  obtain ⟨as, ra, ns⟩ := dd_all I hd rv
  have sh : PyData.showableAll (List.replicate ys.length d) = true := (show_rep d _).resolve_right (by rw [hs]; simp)
  obtain ⟨bs, hb, hk⟩ := ReprAllK.of_readsAll (prog := X.prog) (w := X.w) ra sh (fun z => ns (dict_rep d _ z)) fun t ht => Nat.le_trans (listText_mem_le ht) hz
  have hna : a ∉ bs := not_mem_of_deeper (Reads.list ho rfl rfl (by exact ra)) (by simp only [PyData.depth]; omega) hb
  have ty : s.TypeIs (.ref a) "list" := ⟨_, ho, rfl⟩
  refine call_repr_slot (by omega) ty F.slot_list_repr.toG ?_
  cases its with
  | nil =>
    cases rv
    exact (hne rfl).elim
  | cons x l =>
    exact call_list_reprK ho rfl rfl hna hk.length_eq (fun i y z => hk.item i y (by simpa using z)) hg (fun b _ => Clear.nil b) (by show X.A.units + 1 + _ < cLine; omega) (fun _ _ z => z)
      (fun h' u tk k => ⟨_, _, rfl, .str _, H, I.kept (t' := tk) k, ⟨_, rfl⟩, q⟩) hz
end
end L2
namespace L2
open PySem PySem.Spec PyProof.Rows
section
variable {X : Cx}
/-- repr(x), x data without dicts -/
def rReprD (K : PySem.W.Frag) : List V → Hp → VK → Prop := fun xs H Q => ∃ (x : V) (d : PyData), xs = [x] ∧ Dp K H x d ∧ d.hasDict = false ∧ d.showable = true ∧ d.depth ≤ 100 ∧ d.shown.length ≤ sizeLine ∧ Q (.str d.shown) H
theorem call_reprD (hg : X.A.guards = some []) (hu : X.A.units + 200 < cLine) : CallR X (.builtin "repr") (rReprD X.K) := by
  intro pins s σ H xs us Q I r h
  obtain ⟨x, d, rfl, D, nd, sh, dep, hz, q⟩ := h
  obtain ⟨u, rfl, ru⟩ := vals1 r
  have whole : ∀ a, u = .ref a → wpAny (model X.prog X.w) X.A (call (.builtin "repr") [u]) (EP X pins σ Q) X.xe s := fun a e => by
    subst e
    obtain ⟨as, ra⟩ := Dp.reads I d x _ D ru
    exact repr_of_reads' ra sh (fun z => by rw [nd] at z; cases z) hg (by omega) (fun _ _ z => z) (fun h2 t tk k => ⟨.str d.shown, H, I.kept (t' := tk) k, ⟨_, rfl⟩, q⟩) hz
  cases D with
  | non =>
    cases ru
    simp only [PyData.shown] at q
    exact PySem.P.repr_of_none ⟨.str _, H, I.tok _, ⟨_, rfl⟩, q⟩
  | bl b =>
    cases ru
    simp only [PyData.shown] at q
    exact PySem.P.repr_of_bool ⟨.str _, H, I.tok _, ⟨_, rfl⟩, q⟩
  | int i =>
    obtain ⟨t, rfl⟩ := ru
    simp only [PyData.shown] at q
    exact PySem.P.repr_of_int (of_decide_eq_true (by simpa [PyData.showable] using sh)) ⟨.str _, H, I.tok _, ⟨_, rfl⟩, q⟩
  | str z =>
    obtain ⟨t, rfl⟩ := ru
    simp only [PyData.shown] at q hz
    exact PySem.P.repr_of_str ⟨.str _, H, I.tok _, ⟨_, rfl⟩, q⟩ hz
  | lst _ _ => exact whole _ ru
  | tup _ _ => exact whole _ ru
end
end L2

set_option Elab.async false
set_option linter.all false
set_option maxRecDepth 100000
set_option maxHeartbeats 4000000
/-! What the methods of a crowd promise. -/
namespace L2
open PySem PySem.Spec PyProof.Rows
def hasB (v : V) (zs : List Str) : Bool := match v with
  | .str z => decide (z ∈ zs)
  | _ => false
theorem inV_strs (z : Str) : ∀ zs : List Str, inV (.str z) (zs.map V.str) = decide (z ∈ zs)
  | [] => rfl
  | y :: zs => by
    have e := inV_strs z zs
    unfold inV at e ⊢
    rw [List.map_cons, List.any_cons, e]
    show ((y == z) || _) = _
    rw [Bool.eq_iff_iff]
    simp only [Bool.or_eq_true, beq_iff_eq, decide_eq_true_eq, List.mem_cons]
    exact or_congr_left eq_comm
theorem all_flat_strs (zs : List Str) : (zs.map V.str).all flatV = true := by
  rw [List.all_map]
  exact List.all_eq_true.mpr fun _ _ => rfl
theorem eqvAll_strs : ∀ zs ys : List Str, PyData.eqvAll (zs.map .str) (ys.map .str) = decide (zs = ys)
  | [], [] => rfl
  | [], _ :: _ => rfl
  | _ :: _, [] => rfl
  | z :: zs, y :: ys => by
    show PyData.eqvAll (PyData.str z :: _) (PyData.str y :: _) = _
    rw [PyData.eqvAll, eqvAll_strs zs ys, PyData.eqv, Bool.eq_iff_iff]
    simp
theorem eqv_strs (zs ys : List Str) : PyData.eqv (.list (zs.map .str)) (.list (ys.map .str)) = decide (zs = ys) := by
  rw [PyData.eqv, eqvAll_strs]
theorem lay_strs : ∀ {zs : List Str}, (∀ z ∈ zs, PyData.strOk z = true) → PyData.canLayAll0 (zs.map .str) = true
  | [], _ => rfl
  | z :: zs, h => by
    show PyData.canLayAll0 (PyData.str z :: _) = true
    rw [PyData.canLayAll0, PyData.canLay0, h z (List.mem_cons_self ..), lay_strs fun y hy => h y (List.mem_cons_of_mem _ hy)]
    rfl
theorem depth_strs : ∀ zs : List Str, PyData.depthAll (zs.map .str) ≤ 1
  | [] => by simp [PyData.depthAll]
  | z :: zs => by
    have := depth_strs zs
    simp only [List.map_cons, PyData.depthAll, PyData.depth]
    omega
theorem shaped_strs {zs : List Str} (h : ∀ z ∈ zs, PyData.strOk z = true) : SeqAt.shaped (.list (zs.map .str)) = true := by
  have := depth_strs zs
  unfold SeqAt.shaped
  rw [PyData.canLay0, lay_strs h, Bool.true_and]
  refine decide_eq_true ?_
  rw [PyData.depth]
  omega
theorem dp_strs {K : PySem.W.Frag} {H : Hp} : ∀ zs : List Str, DpAll K H (zs.map V.str) (zs.map PyData.str)
  | [] => .nil
  | z :: zs => .cons (.str z) (dp_strs zs)
structure Folk (zs : List Str) : Prop where
  ok : ∀ z ∈ zs, PyData.strOk z = true
  nd : zs.Nodup
  one : 1 ≤ zs.length
  most : zs.length ≤ 8
def CrowdOf (H : Hp) (C x : Addr) (zs : List Str) (m : Int) : Prop := CrowdAt H C x (zs.map V.str) m
theorem CrowdOf.same {H H2 : Hp} {C x : Addr} {zs : List Str} {m : Int} (s : Same H H2) (h : CrowdOf H C x zs m) : CrowdOf H2 C x zs m := CrowdAt.same s h
def spCrowdPeople (C : Addr) : Sp := fun vs H Q _ => ∃ (x : Addr) (zs : List Str) (m : Int), vs = [.ref x] ∧ CrowdOf H C x zs m ∧ zs.length ≤ 1000 ∧ ∀ H2 p, Same H H2 → H p = none → H2 p = some (.lst (zs.map V.str)) → Q (.ref p) H2
def spCrowdLen (C : Addr) : Sp := fun vs H Q _ => ∃ (x : Addr) (zs : List Str) (m : Int), vs = [.ref x] ∧ CrowdOf H C x zs m ∧ Q (.int zs.length) H
def spCrowdHas (K : PySem.W.Frag) (C : Addr) : Sp := fun vs H Q _ => ∃ (x : Addr) (v : V) (zs : List Str) (m : Int) (T : String), vs = [.ref x, v] ∧ CrowdOf H C x zs m ∧ TyN K H v T ∧ Q (.bl (hasB v zs)) H
def spCrowdEq (K : PySem.W.Frag) (C : Addr) : Sp := fun vs H Q _ => ∃ (x y : Addr) (zs : List Str) (m : Int), vs = [.ref x, .ref y] ∧ CrowdOf H C x zs m ∧ (∀ z ∈ zs, PyData.strOk z = true) ∧
  ((∃ ys n, CrowdOf H C y ys n ∧ (∀ z ∈ ys, PyData.strOk z = true) ∧ Q (.bl (decide (m = n) && decide (zs = ys))) H) ∨ ((∃ ys, H y = some (.lst ys)) ∧ Q (.bl false) H))
/-- a word that is asked for: it is there, or NotThere -/
def spNeed (K : PySem.W.Frag) (C CN : Addr) : Sp := fun vs H Q E => ∃ (x : Addr) (v : V) (zs : List Str) (m : Int) (T : String), vs = [.ref x, v] ∧ CrowdOf H C x zs m ∧ TyN K H v T ∧
  (hasB v zs = true → Q .non H) ∧ (hasB v zs = false → ∀ H2 d, Raised H H2 d "word" v → E (.ref CN) (some d) H2)
def spPlace (K : PySem.W.Frag) (C CN : Addr) : Sp := fun vs H Q E => ∃ (x : Addr) (v : V) (zs : List Str) (m : Int) (T : String), vs = [.ref x, v] ∧ CrowdOf H C x zs m ∧ TyN K H v T ∧
  (∀ i z, v = .str z → zs.idxOf z = i → z ∈ zs → Q (.int (i : Nat)) H) ∧ (hasB v zs = false → ∀ H2 d, Raised H H2 d "word" v → E (.ref CN) (some d) H2)
end L2
namespace L2
open PySem PySem.Spec PyProof.Rows
/-- an own class whose instances isinstance asks for -/
structure IsOwn (K : PySem.W.Frag) (C : Addr) : Prop where
  cl : Cls K C
  ha : PySem.W.findIn K (.ref C) "__class__" = some (some (.builtin "object.__class__"))
  hn : PySem.W.specialIn K (.builtin "object.__class__") "__get__" = some (some (.builtin "getset_descriptor.__get__"))
  ht : PySem.W.takesIn K (.builtin "object.__class__") = some true
  hm : PySem.W.mroIn K C (.type "object") = some true
theorem IsOwn.ty {K : PySem.W.Frag} {H : Hp} {a C dx : Addr} {fs : List (Str × V)} (i : IsOwn K C) (e : H a = some (.ins C dx fs)) : TyX K H (.ref a) (.ref C) := .base (.ins e i.cl i.ha i.hn i.ht i.hm)
theorem hasB_ty {K : PySem.W.Frag} {H : Hp} {v : V} {T : String} {zs : List Str} (t : TyN K H v T) (h : ¬ T = "str") : hasB v zs = false := by
  obtain ⟨ty, _⟩ := t
  cases v with
  | str z =>
    cases ty with
    | base b => cases b; exact absurd rfl h
  | _ => rfl
end L2
namespace L2
open PySem PySem.Spec PyProof.Rows
def isPairB (a b : V) (zs : List Str) : Bool := hasB a zs && (hasB b zs && !decide (a = b))
/-- a value that is asked whether it is a pair, and the answer -/
inductive PairArg (K : PySem.W.Frag) (H : Hp) (zs : List Str) : V → Bool → Prop where
  | no {v : V} {T : String} (t : TyN K H v T) (h : ¬ T = "tuple") : PairArg K H zs v false
  | len {p : Addr} {xs : List V} (e : H p = some (.tup xs)) (h : ¬ xs.length = 2) : PairArg K H zs (.ref p) false
  | two {p : Addr} {a b : V} {S T : String} (e : H p = some (.tup [a, b])) (s : TyN K H a S) (t : TyN K H b T) : PairArg K H zs (.ref p) (isPairB a b zs)
def spIsPair (K : PySem.W.Frag) (C : Addr) : Sp := fun vs H Q _ => ∃ (x : Addr) (v : V) (zs : List Str) (m : Int) (b : Bool), vs = [.ref x, v] ∧ CrowdOf H C x zs m ∧ PairArg K H zs v b ∧ Q (.bl b) H
end L2
namespace L2
open PySem PySem.Spec PyProof.Rows
def spCrowdIter (C : Addr) : Sp := fun vs H Q _ => ∃ (x dx l : Addr) (xs : List V) (m : Int), vs = [.ref x] ∧ H x = some (.ins C dx (crowdFs l m)) ∧ H l = some (.lst xs) ∧ ∀ it, H it = none → Q (.ref it) (upd H it (ItO l it 0))
end L2

set_option Elab.async false
set_option linter.all false
set_option maxRecDepth 100000
set_option maxHeartbeats 4000000
/-! A walk whose turns are anything, for comprehensions within comprehensions; the pairs of a crowd. -/
namespace L2
open PySem PySem.Spec PyProof.Rows
theorem nest_it {J : It} {n : Nat} {G : Hp → Prop} {Y : Nat → Hp → V → Hp → Prop} (w : Walk J n G Y) {B : V → Hp → (Hp → Prop) → Prop} {H0 : Hp} {Qd : Hp → Prop} (Pv : Nat → Hp → Prop) (h0 : Pv 0 H0) (hG : ∀ i H, i ≤ n → Pv i H → G H)
    (hs : ∀ i x H H', i < n → Pv i H → Y i H x H' → B x H' (Pv (i + 1))) (hd : ∀ H, Pv n H → Qd H) :
    ∃ W : Nat → Nat → Hp → Prop, (∃ m, W 0 m H0) ∧ ∀ i m H, W i m H → (J.stop i H ∧ Qd H) ∨ (J.go i H ∧ ∃ Nx : Hp → Prop, (∀ H', Nx H' → ∃ m', m' < m ∧ W (i + 1) m' H') ∧ ∀ x H', J.yld i H x H' → B x H' Nx) := by
  refine ⟨fun i m H => m = n - i ∧ i ≤ n ∧ Pv i H, ⟨n, rfl, Nat.zero_le _, h0⟩, fun i m H h => ?_⟩
  obtain ⟨rfl, hi, p⟩ := h
  rcases Nat.lt_or_ge i n with lt | ge
  · refine .inr ⟨w.goes i H lt (hG i H hi p), Pv (i + 1), fun H2 q => ⟨n - (i + 1), by omega, rfl, lt, q⟩, fun x H2 y => hs i x H H2 lt p (w.yields i H x H2 lt (hG i H hi p) y)⟩
  · obtain rfl : i = n := Nat.le_antisymm hi ge
    exact .inl ⟨w.stops H (hG i H hi p), hd H p⟩
def rowOf (zs : List Str) (a : Str) : List (Str × Str) := (zs.filter fun b => a ≠ b).map fun b => (a, b)
def pairsOf (zs : List Str) : List (Str × Str) := zs.flatMap (rowOf zs)
/-- a list of new tuples of two words, apart from D -/
def Tups (D : Addr) (H : Hp) (acc : List V) (ps : List (Str × Str)) : Prop := acc.length = ps.length ∧ ∀ (j : Nat) (y : V) (q : Str × Str), acc[j]? = some y → ps[j]? = some q → ∃ t, y = .ref t ∧ t ≠ D ∧ H t = some (.tup [.str q.1, .str q.2])
theorem Tups.but {D : Addr} {H H2 : Hp} {acc : List V} {ps : List (Str × Str)} (t : Tups D H acc ps) (b : But D H H2) : Tups D H2 acc ps := ⟨t.1, fun j y q h1 h2 => by
  obtain ⟨p, e, n, h⟩ := t.2 j y q h1 h2
  exact ⟨p, e, n, b _ _ n h⟩⟩
theorem Tups.add {D p : Addr} {H : Hp} {acc : List V} {ps : List (Str × Str)} {a b : Str} (t : Tups D H acc ps) (n : p ≠ D) (h : H p = some (.tup [.str a, .str b])) : Tups D H (acc ++ [.ref p]) (ps ++ [(a, b)]) := by
  refine ⟨by rw [List.length_append, List.length_append, t.1]; rfl, fun j y q h1 h2 => ?_⟩
  rcases Nat.lt_trichotomy j acc.length with c | c | c
  · rw [List.getElem?_append_left c] at h1
    rw [List.getElem?_append_left (by rw [← t.1]; exact c)] at h2
    exact t.2 j y q h1 h2
  · subst c
    rw [List.getElem?_append_right (Nat.le_refl _), Nat.sub_self] at h1
    rw [t.1, List.getElem?_append_right (Nat.le_refl _), Nat.sub_self] at h2
    cases h1
    cases h2
    exact ⟨p, rfl, n, h⟩
  · rw [List.getElem?_eq_none (by rw [List.length_append, List.length_singleton]; omega)] at h1
    cases h1
theorem pairs_take (zs : List Str) (i : Nat) (a : Str) (h : zs[i]? = some a) : (zs.take (i + 1)).flatMap (rowOf zs) = (zs.take i).flatMap (rowOf zs) ++ rowOf zs a := by
  rw [List.take_add_one, h, List.flatMap_append]
  simp
theorem row_take (zs : List Str) (a b : Str) (j : Nat) (h : zs[j]? = some b) : ((zs.take (j + 1)).filter fun c => a ≠ c) = ((zs.take j).filter fun c => a ≠ c) ++ (if a ≠ b then [b] else []) := by
  rw [List.take_add_one, h, List.filter_append]
  congr 1
  by_cases e : a = b
  · subst e
    simp
  · simp [e]
def spCrowdPairs (C : Addr) : Sp := fun vs H Q _ => ∃ (x : Addr) (zs : List Str) (m : Int), vs = [.ref x] ∧ CrowdOf H C x zs m ∧ zs.length ≤ 8 ∧ ∀ H2 p ys, Same H H2 → H p = none → H2 p = some (.lst ys) → Tups p H2 ys (pairsOf zs) → Q (.ref p) H2
theorem pairs_len {zs : List Str} (h : zs.length ≤ 8) : ∀ {ys : List Str}, ys.length ≤ 8 → (ys.flatMap (rowOf zs)).length ≤ 64 := fun {ys} hy => by
  have key : ∀ l : List Str, (l.flatMap (rowOf zs)).length ≤ 8 * l.length := fun l => by
    induction l with
    | nil => simp
    | cons a l ih =>
      rw [List.flatMap_cons, List.length_append, List.length_cons]
      have : (rowOf zs a).length ≤ 8 := by
        unfold rowOf
        rw [List.length_map]
        exact Nat.le_trans (List.length_filter_le _ _) h
      omega
  have := key ys
  omega
end L2
namespace L2
open PySem PySem.Spec PyProof.Rows
/-- a list of tuples of two words -/
def Tps (H : Hp) (acc : List V) (ps : List (Str × Str)) : Prop := acc.length = ps.length ∧ ∀ (j : Nat) (y : V) (q : Str × Str), acc[j]? = some y → ps[j]? = some q → ∃ t, y = .ref t ∧ H t = some (.tup [.str q.1, .str q.2])
theorem Tups.tps {D : Addr} {H : Hp} {acc : List V} {ps : List (Str × Str)} (t : Tups D H acc ps) : Tps H acc ps := ⟨t.1, fun j y q h1 h2 => by
  obtain ⟨p, e, _, h⟩ := t.2 j y q h1 h2
  exact ⟨p, e, h⟩⟩
theorem Tps.same {H H2 : Hp} {acc : List V} {ps : List (Str × Str)} (t : Tps H acc ps) (s : Same H H2) : Tps H2 acc ps := ⟨t.1, fun j y q h1 h2 => by
  obtain ⟨p, e, h⟩ := t.2 j y q h1 h2
  exact ⟨p, e, s _ _ h⟩⟩
theorem Tps.append {H : Hp} {a1 a2 : List V} {p1 p2 : List (Str × Str)} (t1 : Tps H a1 p1) (t2 : Tps H a2 p2) : Tps H (a1 ++ a2) (p1 ++ p2) := by
  refine ⟨by rw [List.length_append, List.length_append, t1.1, t2.1], fun j y q h1 h2 => ?_⟩
  rcases Nat.lt_or_ge j a1.length with c | c
  · rw [List.getElem?_append_left c] at h1
    rw [List.getElem?_append_left (by rw [← t1.1]; exact c)] at h2
    exact t1.2 j y q h1 h2
  · rw [List.getElem?_append_right c] at h1
    rw [List.getElem?_append_right (by rw [← t1.1]; exact c), ← t1.1] at h2
    exact t2.2 _ y q h1 h2
def spLawPairs (K : PySem.W.Frag) : Sp := fun vs H Q _ => ∃ (l : Addr) (zs : List Str), vs = [.ref l] ∧ H l = some (.lst (zs.map V.str)) ∧ zs.length ≤ 8 ∧ ∀ H2 p ys, Same H H2 → H p = none → H2 p = some (.lst ys) → Tps H2 ys (pairsOf zs) → Q (.ref p) H2
end L2

set_option Elab.async false
set_option linter.all false
set_option maxRecDepth 100000
set_option maxHeartbeats 4000000
/-! Several clauses «except X as e», all by one name. -/
namespace L2
open PySem PySem.Spec PyProof.Rows
def offEnds (i : Nat) (D : Ends) : Ends := { nx := fun σ H => D.nx (σ.set i none) H, rt := D.rt, bk := fun σ H => D.bk (σ.set i none) H, ct := fun σ H => D.ct (σ.set i none) H }
def wAll (K : PySem.W.Frag) (i : Nat) (Wout : WX) (D : Ends) : List (Value × (Addr → Value → Option Addr → TS)) → WX
  | [] => Wout
  | p :: r => fun cls d σ H => ∃ b, PySem.W.exmOne K cls p.1 = some b ∧ (b = true → ∀ a, H a = none → p.2 a cls d (offEnds i D) (σ.set i (some (.ref a))) H) ∧ (b = false → wAll K i Wout D r cls d σ H)
inductive AllAs (X : Cx) (n : Str) : List ExceptHandler → List (Value × (Addr → Value → Option Addr → TS)) → Prop
  | nil : AllAs X n [] []
  | cons {x : Str} {c : Value} {ts : Addr → Value → Option Addr → TS} {b0 : Stmt} {rest : List Stmt} {p1 p2 : Pos} {hs : List ExceptHandler} {l : List (Value × (Addr → Value → Option Addr → TS))} (names : Names X x c)
      (suite : ∀ (a : Addr) (o : Obj) (cls : Value) (d : Option Addr) (pn : List (Addr × Obj)), Zc cls d o → (∃ vs, o.data = .fields vs) → PSs (X.suite a ((a, o) :: pn)) (b0 :: rest) (ts a cls d)) (more : AllAs X n hs l) :
      AllAs X n (.ExceptHandler (some (.Name x p1)) (some n) (b0 :: rest) p2 :: hs) ((c, ts) :: l)
section
variable {X : Cx} {n : Str} {i : Nat} {Wout : WX} {D : Ends} {pins : List (Addr × Obj)} {σ : St} {H : Hp} {sI : Shared} {a : Addr} {B : Heap} {cls : Value} {d : Option Addr}
theorem no_frame {L : List Env} {h : Heap} {o : Obj} {vs : Array Value} (ff : h.FunFrames B L) (e : h.get? a = some o) (q : o.data = .fields vs) : a ∉ frs L := fun m => by
  obtain ⟨_, o2, e2, no⟩ := ff.mem m
  cases e.symm.trans e2
  exact no _ q
/-- the clauses are looked at, one after another, while the exception is held -/
theorem look_all (hs : X.stack = X.env :: X.outer) (hf : X.env.frame = some X.env.locals) (hN : X.N.Nodup) (hi : X.N[i]? = some n) (hln : X.env.kindOf n = some .local) (tk : Takes X Wout) {s2 : Shared} {h3 : Heap} (J : Inv X pins σ H sI)
    (nb : ∀ b o, sI.heap.get? b = some o → b ∉ frs X.stack → B.get? b = some o) (os : s2.os = sI.os) (ag : AllBare s2.gens) (na : H a = none) (fl : HandSPX.FlyingZ B (X.env :: X.outer) a (Zc cls d) h3) (up : sI.heap.UpToSlots h3)
    {hds : List ExceptHandler} {l : List (Value × (Addr → Value → Option Addr → TS))} (cl : AllAs X n hds l) (w : wAll X.K i Wout D l cls d σ H) :
    wpAny (model X.prog X.w) X.A (handleBy (.ref a) X.env hds) (SP X pins D) X.xe { s2 with heap := h3 } := by
  have onground : ∀ {h : Heap}, HandSPX.FlyingZ B (X.env :: X.outer) a (Zc cls d) h → sI.heap.UpToSlots h → Inv X pins σ H { s2 with heap := h } := fun {h} f u => J.landed nb f.1 u os ag
  obtain ⟨o3, v3, e3, z3, q3⟩ := fl.there
  have nfr := no_frame fl.2.2.1 e3 q3
  have nL : a ≠ X.env.locals := fun z => nfr (List.mem_filterMap.mpr ⟨X.env, List.mem_cons_self, by rw [hf, z]⟩)
  have nF : a ∉ X.fs := fun m => by
    obtain ⟨v, hv, q⟩ := List.mem_filterMap.mp m
    exact nfr (List.mem_filterMap.mpr ⟨v, List.mem_cons_of_mem _ hv, q⟩)
  have J3 := onground fl up
  have T3 := J3.suite e3 q3 na nL nF
  induction cl with
  | nil =>
    obtain ⟨_, _, _, o, vs, T, oT, ts, eo, _, qo, one, _⟩ := id fl
    have out : wpAny (model X.prog X.w) X.A (setFlight (.ref a) X.env.frame) (fun _ s4 => wpAny (model X.prog X.w) X.A (throw (.ref a) : Sem Flow) (SP X pins D) X.xe s4) X.xe { s2 with heap := h3 } := by
      rw [hf]
      refine HandSPX.setFlight_upZ fl fun h4 f4 u4 => wpAny_throw (tk _ _ ⟨a, B, sI, pins, σ, H, cls, d, rfl, J, nb, up.trans u4, ?_, na, os, ag, w⟩)
      rw [hs]
      exact .inr (.inr f4)
    refine wpAny_handleBy_nil ?_
    unfold PySem.passOn
    refine wpAny_bind (wpAny_field eo qo one ?_)
    rw [if_neg (by simp : ¬ ((Value.ref T == Value.none) = true))]
    first | exact wpAny_bind out | exact wpAny_bind (wpAny_pure (wpAny_bind out))
  | @cons x c ts b0 rest p1 p2 hds l names suite more ih =>
    obtain ⟨b, hb, yes, no⟩ := w
    have meets := PySem.W.exm_one (M := model X.prog X.w) J3.kIn (fun A Q E s k q => wpAny_typeOf_ref (k _ _ e3) (by rw [z3.1]; exact q)) hb
    have named : ∀ {Q : Value → Shared → Prop} {E : Value → Shared → Prop}, Q c { s2 with heap := h3 } → wpAny (model X.prog X.w) (X.A.mark (some (.ref a))) (eval (.Name x p1) X.env) Q E { s2 with heap := h3 } := fun {Q E} q => by
      rcases names with ⟨gl, db, hm | ⟨hm, hv, hn⟩⟩
      · exact ld_glob (X := X.suite a ((a, o3) :: (X.pn ++ pins))) T3 gl hm q db
      · exact ld_blt (X := X.suite a ((a, o3) :: (X.pn ++ pins))) T3 gl hm hv q hn db
    refine wpAny_handleBy_cons (codeAny_handlers_test (named (meets.here ?_))) (fun z => by cases z)
    cases b with
    | false => exact ih (no rfl)
    | true =>
      refine codeAny_handlers_suite_as (HandSPX.lands_againZ fl fun h4 f4 u4 => ?_)
      obtain ⟨o4, v4, e4, z4, q4⟩ := f4.there
      have T4 := (onground f4 (up.trans u4)).suite e4 q4 na nL nF
      refine store_ok (X := X.suite a ((a, o4) :: (X.pn ++ pins))) (v := .ref a) T4 hN hi (.inl hln) rfl (fun s5 T5 => ?_) (.inr hln)
      refine wpAny_mono ((suite a o4 cls d (X.pn ++ pins) z4 ⟨_, q4⟩).run [] s5 _ H _ T5 (yes rfl a na)) (fun f s6 h6 => ?_) fun _ _ z => z.elim
      have last : ∀ {τ : St} {G : Hp} {Q : Shared → Prop}, Inv (X.suite a ((a, o4) :: (X.pn ++ pins))) [] τ G s6 → (∀ s7, Inv X pins (τ.set i none) G s7 → Q s7) →
          wpAny (model X.prog X.w) X.A (do bindName X.env n .none; unbindBehindTheSuite X.env n p2) (fun _ s7 => Q s7) X.xe s6 := fun {τ G Q} T6 q => gone_ok (T6.unsuite J.ok) hN hi hln q
      cases f with
      | ret u =>
        obtain ⟨_, _, _, T6, r6, q6⟩ := h6
        exact last T6 fun _ J7 => ⟨_, _, _, J7, r6, q6⟩
      | next => obtain ⟨_, _, T6, q6⟩ := h6; exact last T6 fun _ J7 => ⟨_, _, J7, q6⟩
      | brk => obtain ⟨_, _, T6, q6⟩ := h6; exact last T6 fun _ J7 => ⟨_, _, J7, q6⟩
      | cont => obtain ⟨_, _, T6, q6⟩ := h6; exact last T6 fun _ J7 => ⟨_, _, J7, q6⟩
/-- try: .. / except X as e: .. / except Y as e: .. -/
theorem ps_try_all {body : List Stmt} {h0 : ExceptHandler} {hds : List ExceptHandler} {l : List (Value × (Addr → Value → Option Addr → TS))} {pos : Pos} {tb : WX → TS} (hs : X.stack = X.env :: X.outer) (hf : X.env.frame = some X.env.locals) (hN : X.N.Nodup)
    (hi : X.N[i]? = some n) (hln : X.env.kindOf n = some .local) (tk : Takes X Wout) (hb : ∀ (W : WX) (pn : List (Addr × Obj)) (xe : Value → Shared → Prop), Takes (X.tr pn xe) W → PassesOwn (model X.prog X.w) X.A X.env xe → PSs (X.tr pn xe) body (tb W))
    (cl : AllAs X n (h0 :: hds) l) : PS X (.Try body (h0 :: hds) [] [] pos) (fun D σ H => tb (wAll X.K i Wout D l) D σ H) := by
  constructor
  intro pins s σ H D I h
  have fr : X.A.frames = some (X.env :: X.outer) := I.ok.frames.trans (by rw [hs])
  refine wpAny_Try_except (wpAny_mono ((hb (wAll X.K i Wout D l) (X.pn ++ pins) (fun e s1 => wpAny (model X.prog X.w) X.A (noteFrame e X.env) (fun _ s2 => wpAny (model X.prog X.w) X.A (setFlight e none)
    (fun _ s3 => wpAny (model X.prog X.w) X.A (handleBy e X.env (h0 :: hds)) (SP X pins D) X.xe s3) X.xe s2) X.xe s1) (fun u s2 z => ?_) PassesOwn.looking).run [] s σ H D (I.toTry _) h) (fun f s1 q => ?_) fun _ _ z => z)
  · obtain ⟨a, B, sI, ps, τ, G, cls, d, rfl, J, nb, up, sky, na, os, ag, w⟩ := z
    rw [show (X.tr (X.pn ++ pins) _).stack = X.env :: X.outer from hs] at sky
    exact Sky.land Zc.steady fr hf sky fun h3 f3 u3 => look_all hs hf hN hi hln tk (J.ofTry I.ok) nb os ag na f3 (up.trans u3) cl w
  · cases f with
    | next => obtain ⟨τ, G, J, q⟩ := q; exact wpAny_execs_nil ⟨τ, G, J.ofTry I.ok, q⟩
    | ret u => obtain ⟨v, τ, G, J, r, q⟩ := q; exact ⟨v, τ, G, J.ofTry I.ok, r, q⟩
    | brk => obtain ⟨τ, G, J, q⟩ := q; exact ⟨τ, G, J.ofTry I.ok, q⟩
    | cont => obtain ⟨τ, G, J, q⟩ := q; exact ⟨τ, G, J.ofTry I.ok, q⟩
end
end L2
namespace L2
open PySem PySem.Spec PyProof.Rows
theorem takes_len {X : Cx} {W : WX} (t : Takes X W) : Takes X (fun c d σ H => σ.length = X.N.length → W c d σ H) := fun u s2 x => by
  obtain ⟨a, B, sI, ps, σ, H, cls, d, e, I, nb, up, sky, na, os, ag, w⟩ := x
  exact t u s2 ⟨a, B, sI, ps, σ, H, cls, d, e, I, nb, up, sky, na, os, ag, w I.len⟩
/-- what a clause «except C as e: return [w, repr(e.f)]» asks -/
def askOne (K : PySem.W.Frag) (C : Addr) (f w : Str) (cls : Value) (d : Option Addr) (H : Hp) (Q : VK) : Prop := cls = .ref C ∧ ∃ (dx : Addr) (v : V) (D : PyData), d = some dx ∧ H dx = some (.xd [(f, v)]) ∧ Dp K H v D ∧ D.hasDict = false ∧ D.showable = true ∧ D.depth ≤ 100 ∧
  D.shown.length ≤ sizeLine ∧ ∀ G p, Same H G → H p = none → G p = some (.lst [.str w, .str D.shown]) → Q (.ref p) G
def asks (K : PySem.W.Frag) : List (Addr × Str × Str) → Value → Option Addr → Hp → VK → Prop
  | [], _, _, _, _ => False
  | p :: r, cls, d, H, Q => ∃ b, PySem.W.exmOne K cls (.ref p.1) = some b ∧ (b = true → askOne K p.1 p.2.1 p.2.2 cls d H Q) ∧ (b = false → asks K r cls d H Q)
/-- try: call() / except C as e: return [w, repr(e.f)] .. / return ["none"] -/
def TTref (K : PySem.W.Frag) (l : List (Addr × Str × Str)) : (XK → Hp → VK → Prop) → Hp → VK → Prop := fun tl H Q => tl (fun cls d G => asks K l cls d G Q) H (fun _ G => ([V.str "none"] : List V).length ≤ sizeLine ∧ ∀ p, G p = none → Q (.ref p) (upd G p (.lst [.str "none"])))
structure Ef (K : PySem.W.Frag) (mg : Str → Option Value) (name f : Str) (C : Addr) : Prop where
  g : mg name = some (.ref C)
  xf : XfC K C
  no : PySem.W.findIn K (.ref C) f = some none
end L2
namespace L2
open PySem PySem.Spec PyProof.Rows
def tAsk (K : PySem.W.Frag) (C : Addr) (f w : Str) : Addr → Value → Option Addr → TS := fun a cls d => tRet (tLst (tCons (tC (.str w)) (tCons (tCB (rReprD K) (tCons (tXf a cls d C f (tVar 1)) tNil)) tNil)))
theorem ask_ret {K : PySem.W.Frag} {C a : Addr} {f w : Str} {cls : Value} {d : Option Addr} {H : Hp} {Q : VK} {D : Ends} {σ : St} (len : σ.length = 2) (hQ : D.rt = Q) (h : askOne K C f w cls d H Q) : tAsk K C f w a cls d (offEnds 1 D) (σ.set 1 (some (.ref a))) H := by
  obtain ⟨rfl, dx, v, dd, rfl, hx, dp, nd, sh, de, sz, q⟩ := h
  refine ⟨.ref a, by rw [List.getElem?_set_self (by omega)], rfl, rfl, dx, _, v, rfl, hx, by simp, v, dd, rfl, dp, nd, sh, de, sz, (by show 2 ≤ sizeLine; decide), fun p np => ?_⟩
  show D.rt _ _
  rw [hQ]
  exact q _ p (same_new np) np upd_same
theorem asks_all {K : PySem.W.Frag} {cls : Value} {d : Option Addr} {H : Hp} {Q : VK} {D : Ends} {σ : St} (len : σ.length = 2) (hQ : D.rt = Q) : ∀ {l : List (Addr × Str × Str)}, asks K l cls d H Q →
    wAll K 1 (fun _ _ _ _ => False) D (l.map fun p => (Value.ref p.1, tAsk K p.1 p.2.1 p.2.2)) cls d σ H
  | [], h => h
  | p :: l, h => by
    obtain ⟨b, e, yes, no⟩ := h
    exact ⟨b, e, fun hb a na => ask_ret len hQ (yes hb), fun hb => asks_all len hQ (no hb)⟩
end L2

set_option Elab.async false
set_option linter.all false
set_option maxRecDepth 100000
set_option maxHeartbeats 4000000
/-! list(o), o an instance whose own __iter__ gives a list's iterator and that has an own __len__. -/
namespace L2
open PySem PySem.Spec PyProof.Rows
section
variable {prog : Program} {w : World} {A : Around} {E' : Value → Shared → Prop} {s : Shared} {it l : Addr} {i : Nat} {items : Array Value}
theorem next_one {x : Value} {Q : Option Value → Shared → Prop} (ho : s.heap.get? it = some (GNX.itObj l i)) (hl : s.heap.IsList l items) (hx : items[i]? = some x)
    (hQ : ∀ h2, h2.get? it = some (GNX.itObj l (i + 1)) → Heap.SameBut it s.heap h2 → Q (some x) { s with heap := h2 }) : wpAny (model prog w) A (pyNext (.ref it)) Q E' s := by
  have ty : s.TypeIs (.ref it) "list_iterator" := ⟨_, ho, rfl⟩
  unfold pyNext
  refine wpAny_bind (wpAny_attempt (wpAny_callSpecial?_slot (name := Str.ofString "__next__") ty slot_listiter_next (wpAny_call_entry slot_listiter_next ty entry_listiter_next ?_ (args_listiter_next _))))
  refine wpAny_mono (GNX.next_item (Q := fun v s2 => v = x ∧ Q (some x) s2) ho hl hx fun h2 e sb => ⟨rfl, hQ h2 e sb⟩) (fun f s2 q => ?_) fun _ _ z => z
  obtain ⟨v, rfl, rfl, q⟩ := q
  exact ⟨v, rfl, wpAny_pure q⟩
theorem next_over {Q : Option Value → Shared → Prop} (hh : A.handled = none) (ho : s.heap.get? it = some (GNX.itObj l i)) (hl : s.heap.IsList l items) (hx : items[i]? = none)
    (hQ : ∀ h1 h2, h1.get? it = some (GNX.itEnd i) → Heap.SameBut it s.heap h1 → (∀ b o, h1.get? b = some o → h2.get? b = some o) → Q none { s with heap := h2 }) : wpAny (model prog w) A (pyNext (.ref it)) Q E' s := by
  have ty : s.TypeIs (.ref it) "list_iterator" := ⟨_, ho, rfl⟩
  unfold pyNext
  refine wpAny_bind (wpAny_attempt (wpAny_callSpecial?_slot (name := Str.ofString "__next__") ty slot_listiter_next (wpAny_call_entry slot_listiter_next ty entry_listiter_next ?_ (args_listiter_next _))))
  refine wpAny_mono (GNX.next_end (Q := fun _ _ => False) hh ho hl hx fun h1 h2 e vs e1 sb k _ he _ => ?_) (fun f s2 q => ?_) fun _ _ z => z
  · refine wpAny_bind (wpAny_isInstance (T := "StopIteration") (b := true) ⟨_, he, rfl⟩ isSubtype_stop ?_)
    exact wpAny_pure (hQ h1 h2 e1 sb k)
  · obtain ⟨_, _, z⟩ := q
    exact z.elim
end
section
variable {X : Cx} {pins : List (Addr × Obj)} {σ : St} {H : Hp} {s : Shared} {A A1 : Around} {CX : CXT} {k : Nat} {f : Addr} {fd : FuncData} {ps : List Str} {sp : Sp} {E : XK}
theorem run_sub (sb : Sub X k A) (F : FnOk X.prog X.w X.K X.mg X.base CX k f fd ps sp) (hb : Binds X.K fd ps []) (hx : Passes CX X E) {Q : VK} {us : List Value} {vs : List V} (I : Inv X pins σ H s) (r : Vals vs us) (h : sp vs H Q E) :
    wpAny (model X.prog X.w) A (call (.ref f) us) (EP X pins σ Q) X.xe s := by
  have len : us.length = ps.length := r.length.symm.trans (F.len _ _ _ _ h)
  have b := hb s us I.kIn (by rw [List.append_nil]; exact len)
  rw [List.append_nil] at b
  have e0 : Env0 X.prog X.w X.K X.mg X.base A X.stack s H := { I.env0 with frames := by rw [sb.fr]; exact I.env0.frames }
  refine wpAny_call (codeAny_mono (F.run A X.stack s H ⟨us, []⟩ us vs Q E sb.room e0 b r h) fun z s2 q => ?_)
  rcases z with e | fl
  · exact hx pins σ H s e s2 I q
  · rcases fl with _ | _ | _ | u <;> first | exact False.elim q | exact I.after q
/-- the list at q takes the rest of the list at l -/
theorem it_fill {q it l : Addr} {xs : List V} {H0 : Hp} {Rs : Result → Shared → Prop} (hh : A1.in1.handled = none) (hl : H0 l = some (.lst xs)) (lq : l ≠ q) (li : l ≠ it) (iq : it ≠ q) (hsz : xs.length < sizeLine)
    (fin : ∀ H2 s2, Inv X pins σ H2 s2 → H2 q = some (.lst xs) → (∀ b o, b ≠ q → b ≠ it → H0 b = some o → H2 b = some o) → Rs (.ok (.ret .none)) s2) :
    ∀ (k i : Nat) (H : Hp) (s : Shared), i + k = xs.length → Inv X pins σ H s → H q = some (.lst (xs.take i)) → H it = some (ItO l it i) → (∀ b o, b ≠ q → b ≠ it → H0 b = some o → H b = some o) →
      codeAny (model X.prog X.w) A1 (.builtin "list.extend.loop" ⟨[.ref q, .ref it, .none], []⟩) Rs s := by
  intro k
  induction k with
  | zero =>
    intro i H s hi I hq hit hk
    have ei : i = xs.length := hi
    subst ei
    rw [List.take_length] at hq
    refine codeAny_builtin PySem.F.entry_extend_loop ?_
    rw [Around.under_plainId PySem.F.plain_extend_loop _]
    obtain ⟨its, rv, pl, _⟩ := I.list (SqL.of (hk _ _ lq li hl))
    have mu : Mut (H it) := by rw [hit]; exact True.intro
    have z : its.toArray[xs.length]? = none := by rw [List.getElem?_toArray]; exact List.getElem?_eq_none (Nat.le_of_eq rv.length.symm)
    show wpAny _ A1.in1 (pyNext (.ref it) >>= _) _ _ s
    refine wpAny_bind (next_over hh (itO_get I hit) pl.isList z fun h1 h2 e1 sb kp => ?_)
    have I1 : Inv X pins σ (upd H it (ItE it xs.length)) { s with heap := h1 } := I.write (x := it) (e := it) (t' := s.toks) mu (.inl rfl) (fun b o nb e => (sb.2 b nb).trans e) ⟨_, e1⟩ (itE_ok e1)
    refine wpAny_pure (fin (upd H it (ItE it xs.length)) { s with heap := h2 } (I1.kept (t' := s.toks) kp) ?_ fun b o b1 b2 e => ?_)
    · rw [upd_ne (Ne.symm iq)]
      exact hq
    · rw [upd_ne b2]
      exact hk b o b1 b2 e
  | succ k ih =>
    intro i H s hi I hq hit hk
    have lt : i < xs.length := by omega
    refine codeAny_builtin PySem.F.entry_extend_loop ?_
    rw [Around.under_plainId PySem.F.plain_extend_loop _]
    obtain ⟨its, rv, pl, _⟩ := I.list (SqL.of (hk _ _ lq li hl))
    have mu : Mut (H it) := by rw [hit]; exact True.intro
    obtain ⟨u, hu, ru⟩ := rv.get (List.getElem?_eq_getElem lt)
    show wpAny _ A1.in1 (pyNext (.ref it) >>= _) _ _ s
    refine wpAny_bind (next_one (x := u) (itO_get I hit) pl.isList (by rw [List.getElem?_toArray]; exact hu) fun h2 e2 sb => ?_)
    have I1 : Inv X pins σ (upd H it (ItO l it (i + 1))) { s with heap := h2 } := I.write (x := it) (e := it) (t' := s.toks) mu (.inl rfl) (fun b o nb e => (sb.2 b nb).trans e) ⟨_, e2⟩ (itO_ok e2)
    have hq1 : upd H it (ItO l it (i + 1)) q = some (.lst (xs.take i)) := by rw [upd_ne (Ne.symm iq)]; exact hq
    obtain ⟨_, its2, c2, r2, len2, e3⟩ := I1.lstM hq1
    have l2 : its2.length = i := by rw [← r2.length, List.length_take]; omega
    refine wpAny_bind (m := updateSeq q (·.push u)) (wpAny_updateSeq e3 rfl ?_ (by rw [List.size_toArray]; omega) (by show (its2.toArray.push u).size ≤ sizeLine + 1; rw [Array.size_push, List.size_toArray]; omega))
    refine wpAny_pure ⟨plainId_quiet PySem.F.plain_extend_loop _, ih (i + 1) _ _ (by omega) (I1.lset (its' := its2 ++ [u]) (ys := xs.take i ++ [xs[i]]) (t' := s.toks) hq1 e3 (by simp) (r2.append (.cons ru .nil)) ?_) ?_ ?_ fun b o b1 b2 e => ?_⟩
    · rw [List.length_append, List.length_singleton, List.length_take]
      omega
    · rw [upd_same, List.take_add_one, List.getElem?_eq_getElem lt]
      rfl
    · rw [upd_ne iq, upd_same]
    · rw [upd_ne b1, upd_ne b2]
      exact hk b o b1 b2 e
end
end L2

set_option Elab.async false
set_option linter.all false
set_option maxRecDepth 100000
set_option maxHeartbeats 4000000
namespace L2
open PySem PySem.Spec PyProof.Rows
section
variable {X : Cx} {pins : List (Addr × Obj)} {σ : St} {H : Hp} {s : Shared} {A A1 : Around}
variable {kL : Nat} {fl C a dx : Addr} {fs : List (Str × V)} {fdL : FuncData} {psL : List Str} {spL : Sp} {EL : XK}
theorem run_sub0 {k : Nat} {f : Addr} {fd : FuncData} {ps : List Str} {sp : Sp} {E : XK} (sb : Sub X k A) (F : FnOk X.prog X.w X.K X.mg X.base CX0 k f fd ps sp) (hb : Binds X.K fd ps []) {Q : VK} {us : List Value} {vs : List V} (I : Inv X pins σ H s) (r : Vals vs us)
    (h : sp vs H Q E) : wpAny (model X.prog X.w) A (call (.ref f) us) (EP X pins σ Q) (fun _ _ => False) s := by
  have len : us.length = ps.length := r.length.symm.trans (F.len _ _ _ _ h)
  have b := hb s us I.kIn (by rw [List.append_nil]; exact len)
  rw [List.append_nil] at b
  have e0 : Env0 X.prog X.w X.K X.mg X.base A X.stack s H := { I.env0 with frames := by rw [sb.fr]; exact I.env0.frames }
  refine wpAny_call (codeAny_mono (F.run A X.stack s H ⟨us, []⟩ us vs Q E sb.room e0 b r h) fun z s2 q => ?_)
  rcases z with e | fl
  · exact q
  · rcases fl with _ | _ | _ | u <;> first | exact False.elim q | exact I.after q
theorem hint_own (sb : Sub X (kL + 1) A) (hs : PySem.W.findIn X.K (.ref C) "__len__" = some (some (.ref fl))) (hf : PySem.W.isFn X.K (.ref fl) = true) (FL : FnOk X.prog X.w X.K X.mg X.base CX0 kL fl fdL psL spL) (bL : Binds X.K fdL psL [])
    (I : Inv X pins σ H s) (ha : H a = some (.ins C dx fs)) (hsp : spL [.ref a] H (fun v H2 => ∃ n : Nat, v = .int n ∧ n ≤ 100000 ∧ H2 = H) EL) {Q : Bool → Shared → Prop} {E' : Value → Shared → Prop} (q : ∀ b s2, Inv X pins σ H s2 → Q b s2) :
    wpAny (model X.prog X.w) A (Builtin.List.listLengthHint (.ref a)) Q E' s := by
  obtain ⟨mA, O, _, _, _, _⟩ := ins_get I.hok ha
  obtain ⟨od, J, _⟩ := O.look
  obtain ⟨m, hF⟩ := I.fr
  have said : wpAny (model X.prog X.w) A (call (.builtin "len") [.ref a]) (fun r s2 => ∃ (n : Nat) (t : Tok), r = .int n t ∧ n ≤ 100000 ∧ Inv X pins σ H s2) (fun _ _ => False) s := by
    refine PySem.W.len_K hF I.ok.mod.kin J hs hf (wpAny_mono (run_sub0 (vs := [.ref a]) (us := [.ref a]) (Sub.in1 sb) FL bL I (.cons rfl .nil) hsp) (fun r s2 z => ?_) fun _ _ z => z)
    obtain ⟨w2, H2, I2, rw2, n, rfl, hn, rfl⟩ := z
    obtain ⟨t, rfl⟩ := rw2
    exact ⟨⟨by omega, by omega⟩, n, _, rfl, hn, I2.tok _⟩
  unfold Builtin.List.listLengthHint
  refine wpAny_bind (wpAny_bind (J.type.here ((PySem.W.looks_findIn I.kIn hs).here ?_)))
  refine PySem.W.KFB.if_not rfl ?_
  refine wpAny_ite_split (fun _ => ?_) (fun z => absurd rfl z)
  refine wpAny_bind (wpAny_rule ?_)
  refine wpAny_bind (wpAny_attempt (wpAny_mono said (fun r s2 z => ?_) fun _ _ z => z.elim))
  obtain ⟨n, t, rfl, hn, I2⟩ := z
  refine wpAny_bind (wpAny_of_eq (a := some (n : Int)) rfl ?_)
  refine PySem.W.KFB.if_not ?_ (wpAny_pure (q _ _ I2))
  exact notLongL (by show n ≤ sizeLine; rw [sizeLine_eq]; omega)
theorem upd_self {q : Addr} {o : HO} (h : H q = some o) : upd H q o = H := by
  funext b
  by_cases e : b = q
  · rw [e, upd_same, h]
  · rw [upd_ne e]
/-- room is made in an empty list -/
theorem touch_own {q : Addr} {E' : Value → Shared → Prop} {Q : Unit → Shared → Prop} (I : Inv X pins σ H s) (hq : H q = some (.lst [])) (h : ∀ s2, Inv X pins σ H s2 → Q () s2) :
    wpAny (model X.prog X.w) A (updateSeq q (·.push .none) >>= fun _ => updateSeq q (·.pop)) Q E' s := by
  obtain ⟨_, its, c, r, _, e⟩ := I.lstM hq
  cases r
  have one : 1 ≤ sizeLine := by rw [sizeLine_eq]; decide
  have I1 := I.lset (f := (·.push Value.none)) (its' := [Value.none]) (ys := [.non]) (t' := s.toks) hq e (by simp) (.cons rfl .nil) one
  refine wpAny_bind (wpAny_updateSeq e rfl ?_)
  obtain ⟨_, its2, c2, r2, _, e2⟩ := I1.lstM upd_same
  obtain ⟨v, rfl, _⟩ := vals1 r2
  have I2 := I1.lset (f := (·.pop)) (its := [v]) (its' := []) (ys := []) (t' := s.toks) upd_same e2 (by rfl) .nil (Nat.zero_le _)
  rw [upd_upd, upd_self hq] at I2
  exact wpAny_updateSeq e2 rfl (h _ I2) one (Nat.zero_le _)
variable {kI : Nat} {fi l q : Addr} {fdI : FuncData} {psI : List Str} {spI : Sp} {EI : XK} {xs : List V} {Rs : Result → Shared → Prop}
theorem extend_own (sbL : Sub X (kL + 1) A1.in1) (sbI : Sub X kI A1.in1) (hs : PySem.W.findIn X.K (.ref C) "__len__" = some (some (.ref fl))) (hf : PySem.W.isFn X.K (.ref fl) = true) (FL : FnOk X.prog X.w X.K X.mg X.base CX0 kL fl fdL psL spL) (bL : Binds X.K fdL psL [])
    (hi : PySem.W.findIn X.K (.ref C) "__iter__" = some (some (.ref fi))) (hfi : PySem.W.isFn X.K (.ref fi) = true) (FI : FnOk X.prog X.w X.K X.mg X.base CX0 kI fi fdI psI spI) (bI : Binds X.K fdI psI [])
    (hh : A1.in1.handled = none) (I : Inv X pins σ H s) (ha : H a = some (.ins C dx fs)) (hq : H q = some (.lst [])) (hl : H l = some (.lst xs)) (lq : l ≠ q) (hsz : xs.length < sizeLine)
    (qI : spI [.ref a] H (fun v H2 => ∃ it, v = .ref it ∧ H it = none ∧ H2 = upd H it (ItO l it 0)) EI)
    (qL : ∀ H2, H2 a = some (.ins C dx fs) → H2 l = some (.lst xs) → (∀ b o, H b = some o → H2 b = some o) → spL [.ref a] H2 (fun v H3 => ∃ n : Nat, v = .int n ∧ n ≤ 100000 ∧ H3 = H2) EL)
    (fin : ∀ H2 s2, Inv X pins σ H2 s2 → H2 q = some (.lst xs) → (∀ b o, b ≠ q → H b = some o → H2 b = some o) → Rs (.ok (.ret .none)) s2) :
    wpAny (model X.prog X.w) A1.in1 (Builtin.List.listExtendWith (.ref q) (.ref a) .none) (fun f s2 => match f with | .done r => Rs (.ok r) s2 | .again c => c.quiet = true ∧ codeAny (model X.prog X.w) A1 c Rs s2) (fun e s2 => Rs (.error e) s2) s := by
  have qa : q ≠ a := ne_of hq ha fun z => by cases z
  obtain ⟨mA, O, _, _, _, _⟩ := ins_get I.hok ha
  obtain ⟨od, J, _⟩ := O.look
  obtain ⟨m, hF⟩ := I.fr
  unfold Builtin.List.listExtendWith
  refine wpAny_bind (J.type.here ?_)
  have g1 : Builtin.List.listSameRef (.ref q) (.ref a) = false := by simp [Builtin.List.listSameRef, qa]
  have g2 : (Value.ref C == Value.type "list" || Value.ref C == Value.type "tuple") = false := rfl
  refine PySem.W.KFB.if_not (by rw [g1]; exact g2) ?_
  refine wpAny_bind (PySem.W.owit_iter hF I.ok.mod.kin J hi hfi (wpAny_mono (run_sub0 (vs := [.ref a]) (us := [.ref a]) sbI FI bI I (.cons rfl .nil) qI) (fun r s2 z => ?_) fun _ _ z => z.elim))
  obtain ⟨w2, H2, I2, rw2, it, rfl, nit, rfl⟩ := z
  cases rw2
  have hit : upd H it (ItO l it 0) it = some (ItO l it 0) := upd_same
  have old : ∀ b o, H b = some o → upd H it (ItO l it 0) b = some o := fun b o e => by
    rw [upd_ne (ne_of_none e nit)]
    exact e
  have ty : s2.TypeIs (.ref it) "list_iterator" := ⟨_, itO_get I2 hit, rfl⟩
  unfold PySem.W.OwitIt
  refine wpAny_specialOf (name := Str.ofString "__next__") ty slot_listiter_next.lookup ?_
  refine wpAny_bind (wpAny_holding (hint_own sbL hs hf FL bL I2 (old _ _ ha) (qL _ (old _ _ ha) (old _ _ hl) old) fun b s3 I3 => ?_))
  · have loop : ∀ s4, Inv X pins σ (upd H it (ItO l it 0)) s4 → codeAny (model X.prog X.w) A1 (.builtin "list.extend.loop" ⟨[.ref q, .ref it, .none], []⟩) Rs s4 := fun s4 I4 =>
      it_fill (H0 := H) hh hl lq (ne_of_none hl nit) (Ne.symm (ne_of_none hq nit)) hsz (fun H5 s5 I5 h5 k5 => fin H5 s5 I5 h5 fun b o nb e => k5 b o nb (ne_of_none e nit) e) xs.length 0 _ s4 (Nat.zero_add _) I4 (old _ _ hq) hit fun b o _ _ e => old b o e
    refine wpAny_ite_split (fun _ => ?_) (fun _ => wpAny_pure ⟨plainId_quiet PySem.F.plain_extend_loop _, loop _ I3⟩)
    refine wpAny_bind (wpAny_rule ?_)
    refine wpAny_bind (touch_own I3 (old _ _ hq) fun s4 I4 => ?_)
    exact wpAny_pure ⟨plainId_quiet PySem.F.plain_extend_loop _, loop _ I4⟩
/-- list(o) -/
def rListOwn (C : Addr) (spI spL : Sp) (EI EL : XK) : List V → Hp → VK → Prop := fun vs H Q => ∃ (a dx l : Addr) (fs : List (Str × V)) (xs : List V), vs = [.ref a] ∧ H a = some (.ins C dx fs) ∧ H l = some (.lst xs) ∧ xs.length < sizeLine ∧
  (∀ G, (∀ b o, H b = some o → G b = some o) → spI [.ref a] G (fun v H2 => ∃ it, v = .ref it ∧ G it = none ∧ H2 = upd G it (ItO l it 0)) EI) ∧
  (∀ G, (∀ b o, H b = some o → G b = some o) → spL [.ref a] G (fun v H3 => ∃ n : Nat, v = .int n ∧ n ≤ 100000 ∧ H3 = G) EL) ∧
  ∀ G q, Same H G → H q = none → G q = some (.lst xs) → Q (.ref q) G
theorem call_listIt (hs : PySem.W.findIn X.K (.ref C) "__len__" = some (some (.ref fl))) (hf : PySem.W.isFn X.K (.ref fl) = true) (FL : FnOk X.prog X.w X.K X.mg X.base CX0 kL fl fdL psL spL) (bL : Binds X.K fdL psL [])
    (hi : PySem.W.findIn X.K (.ref C) "__iter__" = some (some (.ref fi))) (hfi : PySem.W.isFn X.K (.ref fi) = true) (FI : FnOk X.prog X.w X.K X.mg X.base CX0 kI fi fdI psI spI) (bI : Binds X.K fdI psI [])
    (hrL : Room (kL + 3) X.A) (hrI : Room (kI + 2) X.A) : CallR X (.type "list") (rListOwn C spI spL EI EL) := by
  intro pins s σ H vs us Q I rv h
  obtain ⟨a, dx, l, fs, xs, rfl, ha, hl, hz, qI, qL, q⟩ := h
  obtain ⟨u, rfl, ru⟩ := vals1 rv
  cases ru
  have sbL : Sub X (kL + 1) X.A.in1.in1 := Sub.in1 (Sub.in1 ⟨hrL, rfl⟩)
  have sbI : Sub X kI X.A.in1.in1 := Sub.in1 (Sub.in1 ⟨hrI, rfl⟩)
  refine callType_codes (Q₁ := fun o s1 => o = .ref s.heap.objs.size ∧ s1 = { s with heap := s.heap.push { cls := .type "list", data := .seq #[] } }) PySem.F.called_list (PySem.F.typeCall_list_1 _) PySem.F.entry_list_init (code_list_new _ ⟨rfl, rfl⟩) fun o s1 h1 => ?_
  obtain ⟨rfl, rfl⟩ := h1
  have there : (s.heap.push { cls := .type "list", data := .seq #[] }).get? s.heap.objs.size = some { cls := .type "list", data := .seq #[] } := Heap.get?_push_size _ rfl
  refine ⟨⟨_, there, rfl⟩, PySem.F.args_list_init_2 _ _, ?_⟩
  have nq : H s.heap.objs.size = none := I.hok.fresh (Nat.le_refl _)
  have old : ∀ b o, H b = some o → upd H s.heap.objs.size (.lst []) b = some o := same_new nq
  have I1 : Inv X pins σ (upd H s.heap.objs.size (.lst [])) { s with heap := s.heap.push { cls := .type "list", data := .seq #[] } } := I.lnew (its := []) (t' := s.toks) .nil (Nat.zero_le _)
  show wpAny _ _ (Builtin.List.listItems (.ref s.heap.objs.size) >>= fun z => updateSeq s.heap.objs.size (fun _ => #[]) >>= fun _ => letGo z.toList.reverse >>= fun _ => Builtin.List.listExtendWith (.ref s.heap.objs.size) (.ref a) .none) _ _ _
  refine wpAny_bind (m := Builtin.List.listItems _) ?_
  unfold Builtin.List.listItems
  refine wpAny_bind (wpAny_seqItems there rfl (wpAny_pure (wpAny_bind (wpAny_updateSeq there rfl (wpAny_bind (wpAny_letGo ?_))))))
  have I2 := I1.lset (f := fun _ => #[]) (its := []) (its' := []) (ys := []) (t' := s.toks) upd_same there rfl .nil (Nat.zero_le _)
  rw [upd_upd] at I2
  exact extend_own (A1 := X.A.in1) (l := l) (xs := xs) (spI := spI) (spL := spL) (EI := EI) (EL := EL) (Rs := wants (fun r s2 => r = .none ∧ EP X pins σ Q (.ref s.heap.objs.size) s2) X.xe) sbL sbI hs hf FL bL hi hfi FI bI hrL.hd I2 (old _ _ ha) upd_same (old _ _ hl) (ne_of_none hl nq) hz
    (qI _ old) (fun G h1 h2 h3 => qL G fun b o e => h3 b o (old b o e)) fun G s2 J hq k => ⟨rfl, .ref s.heap.objs.size, G, J, rfl, q G _ (fun b o e => k b o (ne_of_none e nq) (old b o e)) nq hq⟩
end
end L2

set_option Elab.async false
set_option linter.all false
set_option maxRecDepth 100000
set_option maxHeartbeats 4000000
/-! The end of a law whose defs make lambdas and ask that no guarded built-in runs beneath. -/
namespace L2
open PySem PySem.Spec PyProof.Rows
/-- the abstract heap of the script and of tables of code objects -/
theorem script_heapT {P : Program} {w : World} {K : PySem.W.Frag} {h : Heap} {a : Addr} {vs : List Value} {ns : List Int} {T : List Addr} (X : K.In h) (ha : h.get? a = some { cls := .type "list", data := .seq vs.toArray }) (hi : IntsAre vs ns) (hl : ns.length ≤ sizeLine)
    (hT : ∀ p ∈ T, h.get? p = some { cls := .none, data := .fields #[] }) :
    ∃ H : Hp, SqL K H a (ns.map V.int) ∧ HOk P w H h ∧ (∀ p ∈ T, H p = some (.tbl #[])) ∧ ∀ b, H b = none ∨ (b ∈ T ∧ H b = some (.tbl #[])) ∨ (b = a ∧ K.lookup a = none ∧ ∃ o xs, H b = some (.frz o (.lst xs))) := by
  obtain ⟨H0, hS, hok, hA⟩ := script_heap (P := P) (w := w) X ha hi hl
  have aT : a ∉ T := fun z => by
    have e := (hT a z).symm.trans ha
    cases e
  have out : ∀ b, b ∉ T → (if b ∈ T then some (HO.tbl #[]) else H0 b) = H0 b := fun b n => if_neg n
  refine ⟨fun b => if b ∈ T then some (.tbl #[]) else H0 b, ?_, fun b u z => ?_, fun p hp => if_pos hp, fun b => ?_⟩
  · unfold SqL Rd at hS ⊢
    simp only [if_neg aT]
    exact hS
  · by_cases hb : b ∈ T
    · cases (if_pos hb).symm.trans z
      exact hT b hb
    · have z2 := (if_neg hb).symm.trans z
      obtain ⟨_, _, o, xs, rfl⟩ := hA b u z2
      exact hok b _ z2
  · by_cases hb : b ∈ T
    · exact .inr (.inl ⟨hb, if_pos hb⟩)
    · dsimp only
      rw [if_neg hb]
      cases q : H0 b with
      | none => exact .inl rfl
      | some u =>
        obtain ⟨e1, e2, o, xs, rfl⟩ := hA b u q
        exact .inr (.inr ⟨e1, e2, o, xs, rfl⟩)
theorem law_callGT {P : Program} {w : World} {K : PySem.W.Frag} {mg mb : Str → Option Value} {k : Nat} {fa a : Addr} {cs : List (Addr × Addr)} {fd : FuncData} {x : Str} {sp : Sp} {s1 : Shared} {vs : List Value} {ns : List Int} (KX : K.In s1.heap) (hns : s1.heap.Ns mainGlobals mg)
    (hb : s1.heap.Ns builtinsNs mb ∧ ∀ y : Str, y ≠ "__name__" → mb y = bootBuiltins y) (hlim : s1.heap.NoLimit) (hg : s1.gens = #[]) (hT : ∀ p ∈ cs, s1.heap.get? p.2 = some { cls := .none, data := .fields #[] }) (nT : ∀ p ∈ cs, K.lookup p.2 = none) (hC : ∀ p ∈ cs, PySem.W.CodeHd s1.heap p.1 p.2)
    (hm : ∃ (bm : Addr) (ob : Obj), mg "__builtins__" = some (.ref bm) ∧ bm ≠ builtinsNs ∧ s1.heap.get? bm = some ob ∧ ob.cls = .type "module" ∧ ob.dict = some builtinsNs ∧ ob.data = .plain) (ha : s1.heap.get? a = some { cls := .type "list", data := .seq vs.toArray }) (hi : IntsAre vs ns) (hl : ns.length ≤ sizeLine)
    (hr : Room k callerA) (F : ∀ b0 : Heap, K.In b0 → b0.Ns mainGlobals mg → (∀ p ∈ cs, LamX.TabB b0 mg p.1 p.2) → FnG P w K mg b0 CX0 k fa fd [x] sp) (bind : ∀ (s : Shared) (u : Value), BindsTo s fd ⟨[u], []⟩ [(x, u)])
    (hsp : ∀ H : Hp, (∀ p ∈ cs, H p.2 = some (.tbl #[])) → SqL K H a (ns.map V.int) → sp [.ref a] H (fun v _ => v = .bl true) fun _ _ _ => False) (noX : ∀ H e s', CX0 [] H s1 (fun _ _ _ => False) e s' → False) :
    codeAny (model P w) callerA (.call (.ref fa) ⟨[.ref a], []⟩) (fun r s' => r = .ok (.ret (.bool true)) ∧ OldK s1.heap s'.heap ∧ s'.os = s1.os ∧ AllBare s'.gens) s1 := by
  have inT : ∀ {b}, b ∈ cs.map (·.2) → s1.heap.get? b = some { cls := .none, data := .fields #[] } := fun {b} m => by
    obtain ⟨p, hp, e⟩ := List.mem_map.mp m
    exact e ▸ hT p hp
  obtain ⟨H, hS, hok, hH, tell⟩ := script_heapT (P := P) (w := w) (T := cs.map (·.2)) KX ha hi hl fun _ m => inT m
  have tabs : ∀ p ∈ cs, H p.2 = some (.tbl #[]) := fun p hp => hH _ (List.mem_map.mpr ⟨p, hp, rfl⟩)
  -- what is neither the script nor a table is in the ground
  have base1 : ∀ {b : Addr} {o : Obj}, s1.heap.get? b = some o → (∀ v n, o.data ≠ .seq v n) → o.data ≠ .fields #[] → (hidT s1.heap H).get? b = some o := fun {b o} e n1 n2 => hidT_get e (by
    rcases tell b with z | ⟨m, _⟩ | ⟨z, _⟩
    · exact z
    · cases e.symm.trans (inT m)
      exact (n2 rfl).elim
    · rw [z, ha] at e
      cases e
      exact (n1 _ _ rfl).elim)
  have low : ∀ {b : Addr} {m : Str → Option Value}, s1.heap.Ns b m → (hidT s1.heap H).Ns b m := fun {b m} n => by
    obtain ⟨o, es, ep, e, d, r⟩ := n
    exact ⟨o, es, ep, base1 e (fun v n z => by rw [d] at z; cases z) (fun z => by rw [d] at z; cases z), d, r⟩
  have kin : K.In (hidT s1.heap H) := fun b o e => hidT_get (KX b o e) (by
    rcases tell b with z | ⟨m, _⟩ | ⟨z, y, _⟩
    · exact z
    · obtain ⟨p, hp, ep⟩ := List.mem_map.mp m
      rw [← ep, nT p hp] at e
      cases e
    · rw [z, y] at e
      cases e)
  have tb : ∀ p ∈ cs, LamX.TabB (hidT s1.heap H) mg p.1 p.2 := fun p hp => by
    have hp2 := hT p hp
    obtain ⟨og, eg, pg, gg, dg, _⟩ := hns
    refine ⟨?_, ?_, fun z => by rw [z, hp2] at gg; cases gg; cases dg⟩
    · obtain ⟨o, v, c3, c4, c5, c6, c7, c8, c9, e1, e2, e3, e4, rest⟩ := hC p hp
      exact ⟨o, v, c3, c4, c5, c6, c7, c8, c9, base1 e1 (fun v n z => by rw [e3] at z; cases z) (fun z => by rw [e3] at z; cases z; simp at e4), e2, e3, e4, rest⟩
    · obtain ⟨bm, ob, b1, b2, b3, b4, b5, b6⟩ := hm
      refine ⟨bm, ob, b1, b2, fun z => ?_, fun z => ?_, base1 b3 (fun v n z => by rw [b6] at z; cases z) (fun z => by rw [b6] at z; cases z), b4, b5, b6⟩
      · rw [z, gg] at b3
        cases b3
        rw [dg] at b6
        cases b6
      · rw [z, hp2] at b3
        cases b3
        cases b6
  obtain ⟨mc, l1, l2⟩ := hlim
  have e0 : Env0 P w K mg (hidT s1.heap H) callerA [] s1 H :=
    { frames := rfl, mod := { kin := kin, glob := low hns, blt := ⟨mb, low hb.1, hb.2⟩, nolimit := ⟨mc, low l1, l2⟩ }, bs := fun _ _ e => of_hidT e, bsz := Nat.le_of_eq (hidT_size _ _), funs := trivial, frf := fun _ z => (nomatch z), hok := hok, bare := .of_eq hg }
  refine codeAny_mono ((F _ kin (low hns) tb).go callerA [] s1 H _ [.ref a] [.ref a] _ _ rfl hr e0 (bind s1 (.ref a)) (.cons rfl .nil) (hsp H tabs hS)) fun r s2 h => ?_
  rcases r with e | fl
  · exact (noX H e s2 h).elim
  rcases fl with _ | _ | _ | u <;> try exact False.elim h
  obtain ⟨v, H2, os, bare, un, ok2, rv, q⟩ := h
  cases (q : v = .bl true)
  cases (rv : u = Value.bool true)
  have grown : ∀ p ∈ cs, ∃ more : Array Value, s2.heap.get? p.2 = some { cls := .none, data := .fields more } := fun p hp => by
    obtain ⟨more, z⟩ := un.tbls p.2 #[] (tabs p hp)
    exact ⟨_, ok2 p.2 _ z⟩
  have rest : ∀ b o, b ∉ cs.map (·.2) → s1.heap.get? b = some o → s2.heap.get? b = some o := fun b o n e => by
    rcases tell b with z | ⟨m, _⟩ | ⟨_, _, ob, xs, z⟩
    · exact un.keep b o e z (fun y => by cases y) fun y => by cases y
    · exact (n m).elim
    · have k1 := (hok b _ z).1
      rw [← e, k1] at *
      exact (ok2 b _ (un.frzs b ob _ z)).1
  refine ⟨rfl, ⟨fun b o e => ?_, fun b o e => ?_⟩, os, bare⟩
  · by_cases m : b ∈ cs.map (·.2)
    · obtain ⟨p, hp, rfl⟩ := List.mem_map.mp m
      obtain ⟨more, hm2⟩ := grown p hp
      cases e.symm.trans (hT p hp)
      exact .inr (.inl ⟨((hC p hp).tab (hT p hp)).isCodeTable, rfl, #[], more, rfl, by rw [Array.empty_append]; exact hm2⟩)
    · exact .inl (rest b o m e)
  · by_cases m : b ∈ cs.map (·.2)
    · obtain ⟨p, hp, rfl⟩ := List.mem_map.mp m
      obtain ⟨more, hm2⟩ := grown p hp
      exact ⟨_, hm2⟩
    · exact ⟨o, rest b o m e⟩
/-- what is known of the law's promise at the head's heap h, tables among it -/
def LawAtG (l : PySem.W.OpenLaw) (w : World) (K : PySem.W.Frag) (k n : Nat) (x : Str) (mg : Str → Option Value) (fa : Addr) (h : Heap) : Prop :=
  ∃ (fd : FuncData) (cs : List (Addr × Addr)) (sp : Sp), (∀ p ∈ cs, h.get? p.2 = some { cls := .none, data := .fields #[] } ∧ K.lookup p.2 = none ∧ PySem.W.CodeHd h p.1 p.2) ∧ (∀ (s : Shared) (u : Value), BindsTo s fd ⟨[u], []⟩ [(x, u)]) ∧
    (∀ (H : Hp) (a : Addr) (ns : List Int), ns.length ≤ n → (∀ p ∈ cs, H p.2 = some (.tbl #[])) → SqL K H a (ns.map V.int) → sp [.ref a] H (fun v _ => v = .bl true) fun _ _ _ => False) ∧
    ∀ b0 : Heap, K.In b0 → b0.Ns mainGlobals mg → (∀ p ∈ cs, LamX.TabB b0 mg p.1 p.2) → FnG l.prog w K mg b0 CX0 k fa fd [x] sp
theorem walk_ofGT {l : PySem.W.OpenLaw} {n k : Nat} {q : Program} {loose : List Str} {XP : (Str → Option Value) → Heap → Prop} {YP : World → Heap → Prop} {d : DefRec} {K : Params → PySem.W.Frag} {x : Str} (hn : l.most = some n) (hn2 : n ≤ sizeLine)
    (hdf : d.params.defaults = []) (hr : Room k callerA) (hY : ∀ (w : World) (h : Heap), YP w h → (K w.params).In h)
    (F : ∀ (w : World) (mg : Str → Option Value) (fa : Addr) (h : Heap), YP w h → (K w.params).In h → h.Ns mainGlobals mg → mg d.name = some (.ref fa) →
      (∀ (e : DefRec) (y : Str) (c p : Addr), (recsOf q).find? (fun r => r.name == y) = some e → PySem.W.tabIn (K w.params) y = some (c, p) → PySem.W.CodeHd h c p ∧ h.get? p = some { cls := .none, data := .fields #[] }) → LawAtG l w (K w.params) k n x mg fa h)
    (noX : ∀ (H : Hp) (s : Shared) (e : Value) (s' : Shared), CX0 [] H s (fun _ _ _ => False) e s' → False) : PySem.W.WalkO q loose XP YP l.row.toRowW d [] (fun f vs => PySem.call f vs) := by
  refine Att.attach_call hn hdf fun w s0 s1 mg mb fa o pm cd doc a vs ns G Y _ _ _ hmg hobj hints hlen hg => ?_
  obtain ⟨fd, cs, sp, hT, hb, hsp, hF⟩ := F w mg fa _ Y (hY w _ Y) G.T.g hmg fun _ _ _ _ e1 e2 => PySem.W.tab_of G.T (hY w _ Y) e1 e2
  exact law_callGT (hY w _ Y) G.T.g ⟨G.T.b, G.T.builtins⟩ G.T.nolimit hg (fun p hp => (hT p hp).1) (fun p hp => (hT p hp).2.1) (fun p hp => (hT p hp).2.2) G.T.bmain hobj hints (Nat.le_trans hlen hn2) hr hF hb (fun H => hsp H a ns hlen) fun H => noX H s1
/-- as Fun.okG, the code object being known (a def that makes lambdas) -/
theorem okGC {P : Program} {w : World} {K : PySem.W.Frag} {mg : Str → Option Value} {base : Heap} {k : Nat} {f c : Addr} {ps : List Str} {sp : Sp} {x qual : Str} {st : Stmt} {N : List Str} {oc kV doc pm ct : Value} {od an : Option Addr} {osl : Array (Option Value)}
    (lk : K.lookup f = some ⟨oc, od, .func (PySem.W.fnOf x qual (defArgs st) (defBody st) (defScope st) .none kV doc pm an (.ref c) ct), osl⟩) (hcd : PySem.W.codeIn K (.ref c) qual = true) (S : FnScope N ps (defScope st)) (len : ∀ vs H Q E, sp vs H Q E → vs.length = ps.length)
    (body : ∀ (A : Around) (outer : List Env) (s : Shared) (H : Hp) (vs : List V) (Q : VK) (E : XK), (A.deeper (envOfC qual (defScope st) s.heap.objs.size f (.ref c))).guards = some [] →
      Room k (A.deeper (envOfC qual (defScope st) s.heap.objs.size f (.ref c))) → sp vs H Q E →
      ∃ t, PSs (cxOf CX0 P w K mg base N qual (defScope st) f (.ref c) A outer s H E).nox (defBody st) t ∧ t { nx := fun _ H' => Q .non H', rt := Q } (start N vs) H) :
    FnG P w K mg base CX0 (k + 1) f (PySem.W.fnOf x qual (defArgs st) (defBody st) (defScope st) .none kV doc pm an (.ref c) ct) ps sp := by
  refine { len := len, go := fun A outer s H args us vs Q E hg hr e0 hb r hsp => ?_ }
  have up := fun b o e => (e0.bs b o e).1
  refine Att.call_fn (e0.mod.kin.keeps up) (e0.mod.nolimit.keeps up) lk hcd hr.depth hb ?_ (fun s1 ic => ?_) S.co S.gen S.kind
  · refine List.all_eq_true.mpr fun y hy => ?_
    obtain ⟨n, v⟩ := y
    rcases S.par n (List.of_mem_zip hy).1 with q | q <;> (dsimp only; rw [q]; rfl)
  · obtain ⟨t, ht, hq⟩ := body A outer s H vs Q E hg (hr.deeper _) hsp
    have I := inv_start (CX := CX0) (E := E) S hr.hd e0 (len _ _ _ _ hsp) r ic
    refine wpAny_mono (ht.nox.run [] s1 _ H _ I hq) (fun fl s2 h => ?_) fun _ _ h => h
    cases fl with
    | ret u =>
      obtain ⟨v, _, H2, J, rv, h⟩ := h
      exact ⟨v, H2, J.os, J.bare, J.base, J.hok, rv, h⟩
    | next =>
      obtain ⟨_, H2, J, h⟩ := h
      exact ⟨.non, H2, J.os, J.bare, J.base, J.hok, rfl, h⟩
    | brk => obtain ⟨_, _, _, h⟩ := h; exact h.elim
    | cont => obtain ⟨_, _, _, h⟩ := h; exact h.elim
end L2

set_option Elab.async false
set_option linter.all false
set_option maxRecDepth 100000
set_option maxHeartbeats 4000000
/-! How long the text of a list of pairs of short words is. -/
namespace L2
open PySem PySem.Spec PyProof.Rows
theorem from_len : ∀ (ts : List Str) (k m : Nat) (acc : Str), (∀ t ∈ ts, t.length ≤ m) → (textFrom k acc ts).length ≤ acc.length + ts.length * (m + 2)
  | [], k, m, acc, _ => by
    show acc.length ≤ _
    omega
  | t :: ts, k, m, acc, h => by
    have ih := from_len ts (k + 1) m (acc ++ (if k > 0 then ", " else "" : String) ++ t) fun u hu => h u (List.mem_cons_of_mem _ hu)
    have h1 := h t (List.mem_cons_self ..)
    have h2 : (Str.ofString (if k > 0 then ", " else "")).length ≤ 2 := by
      split <;> decide
    show (textFrom (k + 1) (acc ++ (if k > 0 then ", " else "" : String) ++ t) ts).length ≤ _
    rw [Str.length_append, Str.length_append] at ih
    rw [List.length_cons, Nat.succ_mul]
    omega
def pairD (p : Str × Str) : PyData := .tuple [.str p.1, .str p.2]
theorem pair_text {p : Str × Str} (h1 : (reprText p.1).length ≤ 12) (h2 : (reprText p.2).length ≤ 12) : (pairD p).shown.length ≤ 30 := by
  unfold pairD
  simp only [PyData.shown, PyData.shownAll]
  have e := join_length_add [reprText p.1, reprText p.2] (by simp)
  rw [piled_cons, piled_cons, piled_nil] at e
  unfold tupleText
  rw [Str.length_append, Str.length_append]
  have c1 : (Str.ofString "(").length = 1 := by decide
  have c2 : (Str.ofString (if ([reprText p.1, reprText p.2].length == 1) = true then ",)" else ")")).length ≤ 2 := by
    split <;> decide
  omega
theorem pairs_data_ok : ∀ ps : List (Str × Str), PyData.showableAll (ps.map pairD) = true ∧ PyData.hasDictAll (ps.map pairD) = false ∧ PyData.depthAll (ps.map pairD) ≤ 2
  | [] => ⟨rfl, rfl, by simp [PyData.depthAll]⟩
  | p :: ps => by
    obtain ⟨h1, h2, h3⟩ := pairs_data_ok ps
    refine ⟨?_, ?_, ?_⟩
    · rw [List.map_cons, PyData.showableAll, h1]
      rfl
    · rw [List.map_cons, PyData.hasDictAll, h2]
      rfl
    · simp only [List.map_cons, PyData.depthAll]
      have : (pairD p).depth ≤ 2 := by
        unfold pairD
        simp [PyData.depth, PyData.depthAll]
      omega
theorem pairs_shown : ∀ {ps : List (Str × Str)}, (∀ p ∈ ps, (reprText p.1).length ≤ 12 ∧ (reprText p.2).length ≤ 12) → ∀ t ∈ PyData.shownAll (ps.map pairD), t.length ≤ 30
  | [], _, t, h => by cases h
  | p :: ps, hp, t, h => by
    rw [List.map_cons, PyData.shownAll] at h
    rcases List.mem_cons.mp h with e | e
    · rw [e]
      obtain ⟨h1, h2⟩ := hp p (List.mem_cons_self ..)
      exact pair_text h1 h2
    · exact pairs_shown (fun q hq => hp q (List.mem_cons_of_mem _ hq)) t e
theorem shownAll_len : ∀ ds : List PyData, (PyData.shownAll ds).length = ds.length
  | [] => rfl
  | d :: ds => by
    rw [PyData.shownAll, List.length_cons, List.length_cons, shownAll_len ds]
/-- repr of a list of pairs: all that rReprD asks -/
theorem pairs_repr {ps : List (Str × Str)} (hp : ∀ p ∈ ps, (reprText p.1).length ≤ 12 ∧ (reprText p.2).length ≤ 12) (hl : ps.length ≤ 64) :
    (PyData.list (ps.map pairD)).hasDict = false ∧ (PyData.list (ps.map pairD)).showable = true ∧ (PyData.list (ps.map pairD)).depth ≤ 100 ∧ (PyData.list (ps.map pairD)).shown.length ≤ sizeLine := by
  obtain ⟨h1, h2, h3⟩ := pairs_data_ok ps
  refine ⟨by rw [PyData.hasDict]; exact h2, by rw [PyData.showable]; exact h1, by rw [PyData.depth]; omega, ?_⟩
  rw [PyData.shown]
  unfold listText
  rw [Str.length_append]
  have h4 := from_len (PyData.shownAll (ps.map pairD)) 0 30 "[" (pairs_shown hp)
  rw [shownAll_len, List.length_map] at h4
  have c1 : (Str.ofString "[").length = 1 := by decide
  have c2 : (Str.ofString "]").length = 1 := by decide
  have h5 : ps.length * (30 + 2) ≤ 64 * 32 := Nat.mul_le_mul_right _ hl
  rw [sizeLine_eq]
  omega
theorem Tps.dp {K : PySem.W.Frag} {H : Hp} : ∀ {ys : List V} {ps : List (Str × Str)}, Tps H ys ps → DpAll K H ys (ps.map pairD)
  | [], [], _ => .nil
  | y :: ys, p :: ps, t => by
    obtain ⟨q, rfl, h⟩ := t.2 0 y p rfl rfl
    exact .cons (.tup (SqT.of h) (.cons (.str _) (.cons (.str _) .nil))) (Tps.dp ⟨Nat.succ.inj t.1, fun j z r h1 h2 => t.2 (j + 1) z r (by simpa using h1) (by simpa using h2)⟩)
  | [], _ :: _, t => by cases t.1
  | _ :: _, [], t => by cases t.1
theorem names_short : ∀ z ∈ names8, (reprText z).length ≤ 12 ∧ PyData.strOk z = true := by decide +kernel
theorem strOk_app {a b : Str} (h1 : PyData.strOk a = true) (h2 : PyData.strOk b = true) : PyData.strOk (a ++ b) = true := by
  unfold PyData.strOk at *
  show (a.cps ++ b.cps).all _ = true
  rw [Array.all_append, h1, h2]
  rfl
theorem strOk_from : ∀ {ts : List Str} {k : Nat} {acc : Str}, PyData.strOk acc = true → (∀ t ∈ ts, PyData.strOk t = true) → PyData.strOk (textFrom k acc ts) = true
  | [], _, _, h, _ => h
  | t :: ts, k, acc, h, ht => by
    refine strOk_from (ts := ts) (strOk_app (strOk_app h ?_) (ht t (List.mem_cons_self ..))) fun u hu => ht u (List.mem_cons_of_mem _ hu)
    split <;> decide +kernel
theorem strOk_list {ts : List Str} (h : ∀ t ∈ ts, PyData.strOk t = true) : PyData.strOk (listText ts) = true := strOk_app (strOk_from (by decide +kernel) h) (by decide +kernel)
theorem strOk_one {t : Str} (h : PyData.strOk t = true) : PyData.strOk (tupleText [t]) = true := by
  show PyData.strOk ((("(" : Str) ++ t) ++ ((if ([t] : List Str).length == 1 then ",)" else ")" : String) : Str)) = true
  exact strOk_app (strOk_app (by decide +kernel) h) (by show PyData.strOk (Str.ofString ",)") = true; decide +kernel)
theorem names_text : ∀ z ∈ names8, PyData.strOk (reprText z) = true := by decide +kernel
theorem eqvAll_bls : ∀ bs : List Bool, PyData.eqvAll (bs.map .bool) (bs.map .bool) = true
  | [] => rfl
  | b :: bs => by
    rw [List.map_cons, PyData.eqvAll, eqvAll_bls bs, PyData.eqv]
    simp
theorem lay_bls : ∀ bs : List Bool, PyData.canLayAll0 (bs.map .bool) = true ∧ PyData.depthAll (bs.map .bool) ≤ 1
  | [] => ⟨rfl, by simp [PyData.depthAll]⟩
  | b :: bs => by
    obtain ⟨h1, h2⟩ := lay_bls bs
    refine ⟨by rw [List.map_cons, PyData.canLayAll0, h1]; rfl, ?_⟩
    simp only [List.map_cons, PyData.depthAll, PyData.depth]
    omega
theorem bls_ok (bs : List Bool) : SeqAt.shaped (.list (bs.map .bool)) = true ∧ PyData.eqv (.list (bs.map .bool)) (.list (bs.map .bool)) = true := by
  obtain ⟨h1, h2⟩ := lay_bls bs
  refine ⟨?_, by rw [PyData.eqv, eqvAll_bls]⟩
  unfold SeqAt.shaped
  rw [PyData.canLay0, h1, Bool.true_and, PyData.depth]
  exact decide_eq_true (by omega)
theorem eqvAll_ints : ∀ ns : List Int, PyData.eqvAll (ns.map .int) (ns.map .int) = true
  | [] => rfl
  | n :: ns => by
    rw [List.map_cons, PyData.eqvAll, eqvAll_ints ns, PyData.eqv]
    simp
theorem lay_ints : ∀ ns : List Int, PyData.canLayAll0 (ns.map .int) = true ∧ PyData.depthAll (ns.map .int) ≤ 1
  | [] => ⟨rfl, by simp [PyData.depthAll]⟩
  | n :: ns => by
    obtain ⟨h1, h2⟩ := lay_ints ns
    refine ⟨by rw [List.map_cons, PyData.canLayAll0, h1]; rfl, ?_⟩
    simp only [List.map_cons, PyData.depthAll, PyData.depth]
    omega
theorem ints_ok (ns : List Int) : SeqAt.shaped (.list (ns.map .int)) = true ∧ PyData.eqv (.list (ns.map .int)) (.list (ns.map .int)) = true := by
  obtain ⟨h1, h2⟩ := lay_ints ns
  refine ⟨?_, by rw [PyData.eqv, eqvAll_ints]⟩
  unfold SeqAt.shaped
  rw [PyData.canLay0, h1, Bool.true_and, PyData.depth]
  exact decide_eq_true (by omega)
theorem dp_ints {K : PySem.W.Frag} {H : Hp} : ∀ ns : List Int, DpAll K H (ns.map V.int) (ns.map PyData.int)
  | [] => .nil
  | n :: ns => .cons (.int n) (dp_ints ns)
theorem small_int : ∀ k : Nat, k ≤ 10 → (PyData.int k).showable = true ∧ (PyData.int k).shown.length ≤ sizeLine := by decide +kernel
theorem mem_pairs {zs : List Str} {p : Str × Str} (h : p ∈ pairsOf zs) : p.1 ∈ zs ∧ p.2 ∈ zs ∧ p.1 ≠ p.2 := by
  obtain ⟨a, ha, hp⟩ := List.mem_flatMap.mp h
  obtain ⟨b, hb, rfl⟩ := List.mem_map.mp hp
  obtain ⟨h1, h2⟩ := List.mem_filter.mp hb
  exact ⟨ha, h1, of_decide_eq_true h2⟩
theorem rgV0 (n : Nat) : rgV 0 (n : Int) = ((List.range n).map fun i : Nat => (i : Int)).map V.int := by
  unfold rgV
  rw [List.map_map]
  have e : ((n : Int) - 0).toNat = n := by omega
  rw [e]
  refine List.map_congr_left fun i _ => ?_
  show V.int (0 + (i : Int)) = V.int (i : Int)
  rw [Int.zero_add]
theorem isPair_true {zs : List Str} {p : Str × Str} (h : p ∈ pairsOf zs) : isPairB (.str p.1) (.str p.2) zs = true := by
  obtain ⟨h1, h2, h3⟩ := mem_pairs h
  unfold isPairB
  show (decide (p.1 ∈ zs) && (decide (p.2 ∈ zs) && !decide (V.str p.1 = V.str p.2))) = true
  rw [decide_eq_true h1, decide_eq_true h2, decide_eq_false fun z => h3 (V.str.inj z)]
  rfl
theorem shown_words : ∀ zs : List Str, PyData.shownAll (zs.map .str) = zs.map reprText
  | [] => rfl
  | z :: zs => by
    rw [List.map_cons, PyData.shownAll, shown_words zs, PyData.shown]
    rfl
theorem words_flat : ∀ zs : List Str, PyData.showableAll (zs.map .str) = true ∧ PyData.hasDictAll (zs.map .str) = false
  | [] => ⟨rfl, rfl⟩
  | z :: zs => by
    obtain ⟨h1, h2⟩ := words_flat zs
    exact ⟨by rw [List.map_cons, PyData.showableAll, h1]; rfl, by rw [List.map_cons, PyData.hasDictAll, h2]; rfl⟩
/-- all that repr asks of data, and that its text can be laid -/
def ReprOk (D : PyData) : Prop := D.hasDict = false ∧ D.showable = true ∧ D.depth ≤ 100 ∧ D.shown.length ≤ sizeLine ∧ PyData.strOk D.shown = true
theorem words_repr {zs : List Str} (h : ∀ z ∈ zs, (reprText z).length ≤ 12 ∧ PyData.strOk (reprText z) = true) (hl : zs.length ≤ 8) : ReprOk (.list (zs.map .str)) := by
  obtain ⟨h1, h2⟩ := words_flat zs
  have h3 := depth_strs zs
  refine ⟨by rw [PyData.hasDict]; exact h2, by rw [PyData.showable]; exact h1, by rw [PyData.depth]; omega, ?_, ?_⟩
  · rw [PyData.shown, shown_words]
    unfold listText
    rw [Str.length_append]
    have h4 := from_len (zs.map reprText) 0 12 "[" (fun t ht => by
      obtain ⟨z, hz, rfl⟩ := List.mem_map.mp ht
      exact (h z hz).1)
    rw [List.length_map] at h4
    have c1 : (Str.ofString "[").length = 1 := by decide
    have c2 : (Str.ofString "]").length = 1 := by decide
    have h5 : zs.length * (12 + 2) ≤ 8 * 14 := Nat.mul_le_mul_right _ hl
    rw [sizeLine_eq]
    omega
  · rw [PyData.shown, shown_words]
    exact strOk_list fun t ht => by
      obtain ⟨z, hz, rfl⟩ := List.mem_map.mp ht
      exact (h z hz).2
theorem one_repr : ∀ z ∈ names8, ReprOk (.tuple [.str z]) := by
  unfold ReprOk
  decide +kernel
theorem odd_repr : ReprOk .none ∧ ReprOk (.int 5) ∧ ReprOk (.str "") ∧ ReprOk (.str "nobody") ∧ ReprOk (.str "A") ∧ ReprOk (.bool true) := by
  unfold ReprOk
  decide +kernel
theorem names_not : ∀ z ∈ names8, z ≠ "" ∧ z ≠ "nobody" ∧ z ≠ "A" ∧ z ≠ "ab" := by decide +kernel
theorem tyN_ext {K : PySem.W.Frag} {H : Hp} : True := trivial
end L2

set_option Elab.async false
set_option linter.all false
set_option maxRecDepth 100000
set_option maxHeartbeats 4000000
/-! An own error made by its field's name. -/
namespace Km
open PySem PySem.W PySem.Calls PySem.HandSPX
section
variable {prog : Program} {w : World} {A : Around} {E : Value → Shared → Prop} {R : Result → Shared → Prop} {h : Heap} {g : Array GenState} {d : Drawn} {t : Nat} {os : OsState}
variable {nm q : Str} {C N : Addr} {bs bm bmB : List Value} {hdct : Bool} {sn : List Str} {sub : List Value} {ab : Bool} {col : Option Bool} {dd : Option Addr} {k0 k1 k2 k3 k5 : Option Value} {B newId initId : String} {kw : List (Str × Value)}
theorem kw_check {M : Model} (F : ExcBaseFacts B newId initId bmB) (hT : ∀ X : String, bm.contains (.type X) = bmB.contains (.type X)) {Q : Unit → Shared → Prop}
    (hC : h.get? C = some (excClassObj nm q C N bs bm hdct sn sub ab col dd k0 k1 k2 k3 k5 newId)) (hq : Q () ⟨h, g, d, t, os⟩) :
    wpAny M A (checkBuiltinCall newId ⟨[.ref C], kw⟩) Q E ⟨h, g, d, t, os⟩ := by
  have inB : (Value.ref C :: bm).contains (.type B) = true := by rw [List.contains_cons, hT, F.hasB, Bool.or_true]
  have star := F.noStar
  simp only [checkBuiltinCall, F.newKind, F.newSplit, F.newRow]
  repeat (first
    | refine wpAny_loadPart_at hC ?_
    | (refine wpAny_isSubtype_exc hC ?_; rw [inB])
    | refine wpAny_staticBase_exc hC ?_
    | refine wpAny_madeBy_exc hC ?_
    | simp only [bne_self_eq_false, Bool.false_eq_true, if_false]
    | wp_step)
  exact hq
theorem kw_new (F : ExcBaseFacts B newId initId bmB) (hT : ∀ X : String, bm.contains (.type X) = bmB.contains (.type X))
    (hC : h.get? C = some (excClassObj nm q C N bs bm hdct sn sub ab col dd k0 k1 k2 k3 k5 newId))
    (hq : R (.ok (.ret (.ref (h.objs.size + 1)))) ⟨(h.push (kdv_tup [])).push (excO C h.objs.size), g, d, t, os⟩) :
    codeAny (model prog w) A (.builtin newId ⟨[.ref C], kw⟩) R ⟨h, g, d, t, os⟩ := by
  have ends := F.ends
  have inB : (Value.ref C :: bm).contains (.type B) = true := by rw [List.contains_cons, hT, F.hasB, Bool.or_true]
  have inA : (Value.ref C :: bm).contains (.type "AttributeError") = false := by rw [List.contains_cons, hT, F.noAttr]; rfl
  have inN : (Value.ref C :: bm).contains (.type "NameError") = false := by rw [List.contains_cons, hT, F.noName]; rfl
  refine codeAny_builtinAt F.entry ?_
  unfold Builtin.«BaseException.__new__»
  refine PySem.wpAt_bind ?_
  refine PySem.wpAt_bind (PySem.wpAt_stack fun p below => PySem.wpAt_of_wpAny ?_)
  wp_walk
  refine PySem.wpAt_of_wpAny ?_
  rw [F.owner]
  repeat (first
    | with_reducible refine wpAny_madeHere_exc F.canon hC ?_
    | with_reducible refine wpAny_loadPart_at hC ?_
    | (with_reducible refine wpAny_isSubtype_exc hC ?_; first | rw [inB] | rw [inA] | rw [inN])
    | wp_step)
  show R _ _
  rw [Heap.size_push]
  exact hq
theorem kw_type (F : ExcBaseFacts B newId initId bmB) (hT : ∀ X : String, bm.contains (.type X) = bmB.contains (.type X)) {fI : Addr} {Q : PySem.Fin → Shared → Prop}
    (hC : h.get? C = some (excClassObj nm q C N bs bm hdct sn sub ab col dd k0 k1 k2 k3 k5 newId))
    (hi : W.Looks (model prog w) h (typeLookup (.ref C) "__init__") (some (.ref fI))) (hb : ∀ self, W.Looks (model prog w) h (bindSpecial (.ref fI) self) (.ref fI, [self]))
    (hq : codeAny (model prog w) A (.call (.ref fI) ⟨[.ref (h.objs.size + 1)], kw⟩)
      (fun r s2 => match r with
        | .ok (.ret v) => v = .none ∧ Q (.done (.ret (.ref (h.objs.size + 1)))) s2
        | .ok _ => False
        | .error e => E e s2) ⟨(h.push (kdv_tup [])).push (excO C h.objs.size), g, d, t, os⟩) :
    wpAny (model prog w) A (Builtin.«type.__call__» ⟨[.ref C], kw⟩) Q E ⟨h, g, d, t, os⟩ := by
  repeat (first
    | with_reducible refine wpAny_loadPart_at hC ?_
    | with_reducible refine wpAny_madeBy_exc hC ?_
    | wp_step)
  refine codeAny_call_builtin_code (Code.quiet_builtin _ F.quiet) (kw_check F hT hC ?_)
  refine kw_new F hT hC ?_
  show wpAny _ _ _ _ _ _
  have kept : ∀ b o, h.get? b = some o → ((h.push (kdv_tup [])).push (excO C h.objs.size)).get? b = some o := fun b o z => Heap.get?_push_of_some _ (Heap.get?_push_of_some _ z)
  have hC1 := kept _ _ hC
  have there : ((h.push (kdv_tup [])).push (excO C h.objs.size)).get? (h.objs.size + 1) = some (excO C h.objs.size) := by heap_get
  have inC : (Value.ref C :: bm).contains (.ref C) = true := by simp
  have i1 := hi.keeps kept
  have b1 := (hb (.ref (h.objs.size + 1))).keeps kept
  unfold isInstance
  repeat (first
    | with_reducible refine wpAny_loadPart_at there ?_
    | (with_reducible refine wpAny_isSubtype_exc hC1 ?_; rw [inC])
    | wp_step)
  refine i1.at ?_
  refine wpAny_holding (wpAny_bind (b1.at ?_))
  refine wpAny_bind (wpAny_call (codeAny_mono hq fun r s2 z => ?_))
  cases r with
  | error e => exact z
  | ok fl =>
    cases fl with
    | ret v =>
      obtain ⟨rfl, z⟩ := z
      first
        | exact wpAny_pure (wpAny_pure z)
        | (wp_walk; exact z)
    | _ => exact z.elim
theorem kw_call (F : ExcBaseFacts B newId initId bmB) (hT : ∀ X : String, bm.contains (.type X) = bmB.contains (.type X)) {fI : Addr}
    (hC : h.get? C = some (excClassObj nm q C N bs bm hdct sn sub ab col dd k0 k1 k2 k3 k5 newId))
    (hi : W.Looks (model prog w) h (typeLookup (.ref C) "__init__") (some (.ref fI))) (hb : ∀ self, W.Looks (model prog w) h (bindSpecial (.ref fI) self) (.ref fI, [self]))
    (hq : codeAny (model prog w) (A.under (.builtin "type.__call__" ⟨[.ref C], kw⟩)) (.call (.ref fI) ⟨[.ref (h.objs.size + 1)], kw⟩) (W.InitBack (h.objs.size + 1) R)
      ⟨(h.push (kdv_tup [])).push (excO C h.objs.size), g, d, t, os⟩) : codeAny (model prog w) A (.call (.ref C) ⟨[], kw⟩) R ⟨h, g, d, t, os⟩ := by
  have f1 := tc_lookup
  have f2 := tc_bind (.ref C)
  have ty : (⟨h, g, d, t, os⟩ : Shared).TypeIs (.ref C) "type" := ⟨_, hC, rfl⟩
  refine codeAny_of_tree ?_
  show wpAny _ _ (callAny (.ref C) _) _ _ _
  repeat (any_goals (first
    | assumption
    | with_reducible refine wpAny_loadPart_at hC ?_
    | wp_step))
  refine ⟨rfl, ?_⟩
  refine codeAny_call_builtin_at (Code.quiet_builtin _ (by decide +kernel)) entry_typeCall (wpAny_check_type_call_sub hC (kw_type F hT hC hi hb (codeAny_mono hq fun r s2 z => ?_)))
  cases r with
  | error e => exact z
  | ok fl =>
    cases fl with
    | ret v => exact z
    | _ => exact z
end
end Km


set_option Elab.async false
set_option linter.all false
set_option maxRecDepth 100000
set_option maxHeartbeats 4000000
/-! Errors made by their field's name; errors without an own __init__; isinstance of either. -/
namespace L2
open PySem PySem.Spec PyProof.Rows
section
variable {X : Cx} {CX : CXT} {x f : Str} {C fI : Addr} {k : Nat} {fd : FuncData} {ps : List Str} {sp : Sp} {E : XK} {e : Expr} {te : TE} {p pos kpos : Pos}
/-- C(f=e), of one parameter beside self -/
def tEcK (C : Addr) (sp : Sp) (E : XK) (tk : TA) : TE := fun σ H Q => tk σ H fun zs H1 => ∃ v, zs = [v] ∧ ∀ a, H1 a = none → sp [.ref a, v] (upd H1 a (exo a C none)) (fun w H2 => w = .non ∧ Q (.ref a) H2) E
theorem pe_eck (T : EcC X.K C) (iC : PySem.W.findIn X.K (.ref C) "__init__" = some (some (.ref fI))) (tI : PySem.W.typeIn X.K (.ref fI) = some (.type "function")) (F : FnOk X.prog X.w X.K X.mg X.base CX k fI fd ps sp) (hr : Room (k + 1) X.A)
    (hb : ∀ (s : Shared) (a u : Value), BindsTo s fd ⟨[a], [(f, u)]⟩ (ps.zip [a, u])) (hx : Passes CX X E) (hg : Gl X x) (hm : X.mg x = some (.ref C)) (he : PE X e te) (hdb : (x == ("__debug__" : Str)) = false := by decide)
    (hall : (backToKw pos (keywordEach [⟨some f, e, kpos⟩] X.env)).all (·.1.isSome) = true := by rfl) (hks : (backToKw pos (keywordEach [⟨some f, e, kpos⟩] X.env)).filterMap (·.1) = [f] := by rfl)
    (hpl : ((backTo pos (starEach [] X.env)).any (·.1) || (backToKw pos (keywordEach [⟨some f, e, kpos⟩] X.env)).any (·.1.isNone)) = false := by rfl) : PE X (.Call (.Name x p) [] [⟨some f, e, kpos⟩] pos) (tEcK C sp E (tCons te tNil)) := by
  constructor
  intro pins s σ H Q I h
  refine wpAny_Call_Name_kw (ld_glob I hg hm ?_ hdb)
  refine PySem.W.callWith_KW0 (h₀ := X.base) I.ok.mod.kin T.kC hall ?_ hpl
  refine thn ((pk_cons (nm := some f) (kpos := kpos) he pk_nil).run pos pins s σ H _ I h) fun ws s1 q0 => ?_
  obtain ⟨zs, H1, I1, r1, v, rfl, q1⟩ := q0
  obtain ⟨u, rfl, ru⟩ := vals1 r1
  rw [hks]
  refine ⟨I1.kIn, ?_⟩
  show wpAny _ _ (call (.ref C) [] [(f, u)]) _ _ _
  obtain ⟨B, newId, initId, bmB, FB, SF, hin, hov⟩ := T.base
  obtain ⟨nm, N, qn, bs, bm, hdct, sn, sub, ab, col, dd, k0, k1, k2, k3, k5, hC, hT⟩ := PySem.W.excInit_of I1.kIn hin
  obtain ⟨hp, g, dr, tk, os⟩ := s1
  have n1 : H1 (hp.objs.size + 1) = none := I1.hok.fresh (Nat.le_succ _)
  have q2 := q1 _ n1
  have kept : ∀ b o, hp.get? b = some o → ((hp.push (PySem.W.kdv_tup [])).push (PySem.HandSPX.excO C hp.objs.size)).get? b = some o := fun b o z => Heap.get?_push_of_some _ (Heap.get?_push_of_some _ z)
  have there : ((hp.push (PySem.W.kdv_tup [])).push (PySem.HandSPX.excO C hp.objs.size)).get? (hp.objs.size + 1) = some (PySem.HandSPX.excO C hp.objs.size) := by heap_get
  have J : Inv X pins σ (upd H1 (hp.objs.size + 1) (exo (hp.objs.size + 1) C none)) ⟨(hp.push (PySem.W.kdv_tup [])).push (PySem.HandSPX.excO C hp.objs.size), g, dr, tk, os⟩ :=
    I1.laid (t' := tk) (a := hp.objs.size + 1) (h' := (hp.push (PySem.W.kdv_tup [])).push (PySem.HandSPX.excO C hp.objs.size)) kept (Nat.le_succ _) (exo_ok there)
  have r2 : Vals [V.ref (hp.objs.size + 1), v] [Value.ref (hp.objs.size + 1), u] := .cons rfl (.cons ru .nil)
  refine wpAny_call (Km.kw_call FB hT hC (PySem.W.looks_findIn I1.kIn iC) (fun self => PySem.W.bind_fn I1.kIn self tI) (codeAny_mono (F.run _ X.stack _ _ ⟨[.ref (hp.objs.size + 1)], [(f, u)]⟩ [.ref (hp.objs.size + 1), u] _ _ E (hr.make C [] [(f, u)]) (J.env0.make C [] [(f, u)]) (hb _ _ _) r2 q2) fun z s2 hz => ?_))
  cases z with
  | error er => exact hx pins σ _ _ er s2 J hz
  | ok fl =>
    cases fl with
    | ret w =>
      obtain ⟨v2, H2, os2, bare2, un2, hok2, rv, e2, q3⟩ := hz
      obtain ⟨hh, g2, d2, t2, o2⟩ := s2
      obtain rfl : o2 = os := os2
      subst e2
      exact ⟨rv, .ref (hp.objs.size + 1), H2, J.call (h' := hh) (g' := g2) (d' := d2) (t' := t2) (ch := []) un2 hok2 bare2 (fun b z => absurd z (by simp)), rfl, q3⟩
    | next => exact False.elim hz
    | brk => exact False.elim hz
    | cont => exact False.elim hz
/-- an error, made by an own __init__ or without one, not raised -/
def Held (H : Hp) (a C : Addr) : Prop := (∃ d : Option Addr, H a = some (exo a C d) ∧ ∀ dx, d = some dx → ∃ fs, H dx = some (exd dx fs)) ∨ H a = some (ExO (.ref C) a)
/-- isinstance(x, c), x an error that is held -/
def rIsH (K : PySem.W.Frag) : List V → Hp → VK → Prop := fun xs H Q => ∃ (a C : Addr) (c : V) (cv : Value) (b : Bool), xs = [.ref a, c] ∧ ClsV c cv ∧ ExcC K C ∧ Held H a C ∧ PySem.W.kitOne K (.ref C) cv = some b ∧ Q (.bl b) H
theorem call_isH : CallR X (.builtin "isinstance") (rIsH X.K) := by
  intro pins s σ H xs us Q I r h
  obtain ⟨a, C, c, cv, b, rfl, hc, T, hh, ek, q⟩ := h
  rcases hh with ⟨d, ea, hd⟩ | ea
  · exact call_isV pins s σ H _ us Q I r ⟨a, C, d, c, cv, b, rfl, hc, T, ea, hd, ek, q⟩
  obtain ⟨u1, u2, rfl, r1, r2⟩ := vals2 r
  cases r1
  obtain rfl := hc.eq r2
  obtain ⟨⟨oe, fs, ho, hz, hdat, _, _, _⟩, _, _⟩ := I.hok a _ ea
  have hcl : (PySem.W.clsIn X.K C).isSome = true := by
    obtain ⟨cd, hc, _⟩ := PySem.W.any_some T.hd
    rw [hc] <;> rfl
  have J : PySem.W.InstAt s.heap a oe C none := ⟨ho, hz.1, by rw [PySem.W.notCls, hdat], by rw [hz.2]; trivial⟩
  exact PySem.W.kia_one (PySem.W.kitx_exc hcl T.hg T.hk T.hs T.ha T.hn T.ht T.hm) I.kIn J ek (fun z => nomatch z) fun tk => ⟨.bl b, H, I.kept (t' := tk) fun _ _ z => z, rfl, q⟩
/-- X(), an own error class without own __init__ -/
theorem pe_exc0 {bmB : List Value} {B newId initId : String} (F : ExcBaseFacts B newId initId bmB) (q : PySem.W.excIn X.K C bmB newId = true) (gC : X.mg x = some (.ref C)) (kC : PySem.W.keepIn X.K (.ref C) = true) (hg : Gl X x) (hdb : (x == ("__debug__" : Str)) = false := by decide) :
    PE X (.Call (.Name x p) [] [] pos) (fun σ H Q => ∀ a, H a = none → Q (.ref a) (upd H a (ExO (.ref C) a))) := by
  constructor
  intro pins s σ H Q I h
  refine wpAny_Call_Name_kw (ld_glob I hg gC ?_ hdb)
  refine PySem.W.callWith_K0 I.kIn kC ?_
  obtain ⟨bm, N, nm, qn, bs, hdct, sn, sub, ab, col, dd, k0, k1, k2, k3, k5, mN, hC, hN, hni, T⟩ := exc_obj I.kIn q
  refine wpAny_call_exc_subT (rest := []) F T hC hN hni (fun h2 a hm => ?_) (Nat.zero_le _)
  obtain ⟨t, ht, _⟩ := hm.there
  exact ⟨.ref a, upd H a (ExO (.ref C) a), I.laidN hm.keeps hm.new (I.hok.gone hm.new) (exO_ok ht ⟨rfl, rfl⟩ rfl rfl rfl (show 4 < 6 by decide)), rfl, h a (I.hok.gone hm.new)⟩
end
end L2

set_option Elab.async false
set_option linter.all false
set_option maxRecDepth 100000
set_option maxHeartbeats 4000000
/-! An error class with one field, all that is asked of it; comprehensions with new objects as items. -/
namespace L2
open PySem PySem.Spec PyProof.Rows
structure Ek (P : Program) (w : World) (K : PySem.W.Frag) (mg : Str → Option Value) (base : Heap) (name f : Str) (C : Addr) : Prop where
  g : mg name = some (.ref C)
  ec : EcC K C
  xf : XfC K C
  xc : ExcC K C
  no : PySem.W.findIn K (.ref C) f = some none
  init : ∃ (fI : Addr) (fd : FuncData), PySem.W.findIn K (.ref C) "__init__" = some (some (.ref fI)) ∧ PySem.W.typeIn K (.ref fI) = some (.type "function") ∧ FnOk P w K mg base CX0 1 fI fd ["self", f] (spEcInit K C f) ∧
    Binds K fd ["self", f] [] ∧ ∀ (s : Shared) (a u : Value), BindsTo s fd ⟨[a], [(f, u)]⟩ ((["self", f] : List Str).zip [a, u])
/-- e is a held error of the class at C whose field f is v -/
def Er1 (H : Hp) (C : Addr) (f : Str) (v e : V) : Prop := ∃ a d, e = .ref a ∧ H a = some (exo a C (some d)) ∧ H d = some (exd d [(f, v)])
theorem Er1.same {H H2 : Hp} {C : Addr} {f : Str} {v e : V} (r : Er1 H C f v e) (s : Same H H2) : Er1 H2 C f v e := by
  obtain ⟨a, d, e1, h1, h2⟩ := r
  exact ⟨a, d, e1, s _ _ h1, s _ _ h2⟩
def tMade (C : Addr) (f : Str) (i : Nat) : TE := fun σ H Q => ∃ v, σ[i]? = some (some v) ∧ ∀ e H2, Same H H2 → Er1 H2 C f v e → Q e H2
section
variable {X : Cx} {name f : Str} {C : Addr} {e : Expr} {i : Nat} {p pos kpos : Pos}
theorem made_of {K : PySem.W.Frag} {H : Hp} {v : V} {Q : VK} {E : XK} (T : EcC K C) (no : PySem.W.findIn K (.ref C) f = some none) (q : ∀ e H2, Same H H2 → Er1 H2 C f v e → Q e H2) {a : Addr} (na : H a = none) :
    spEcInit K C f [.ref a, v] (upd H a (exo a C none)) (fun w H2 => w = .non ∧ Q (.ref a) H2) E := by
  refine ⟨a, v, rfl, T, no, upd_same, fun d nd ne => ⟨rfl, q _ _ (fun b o z => ?_) ⟨a, d, rfl, upd_same, by rw [upd_ne ne, upd_same]⟩⟩⟩
  have ba := ne_of_none z na
  have nd1 : H d = none := by
    rw [upd_ne ne] at nd
    exact nd
  rw [upd_ne ba, upd_ne (ne_of_none z nd1), upd_ne ba]
  exact z
theorem pe_mkP (E : Ek X.prog X.w X.K X.mg X.base name f C) (hr : Room 2 X.A) (hg : Gl X name) (he : PE X e (tVar i)) (hdb : (name == ("__debug__" : Str)) = false := by decide)
    (hs : starEach [e] X.env = (false, eval e X.env) :: starEach [] X.env := by rfl) : PE X (.Call (.Name name p) [e] [] pos) (tMade C f i) := by
  obtain ⟨fI, fd, ii, tt, F, b, _⟩ := E.init
  constructor
  intro pins s σ H Q I h
  obtain ⟨v, hv, q⟩ := h
  exact (pe_ecv (E := fun _ _ _ => False) E.ec ii tt F hr b pass0 hg E.g (pa_cons he pa_nil (hs := hs)) hdb hs rfl).run pins s σ H Q I ⟨v, hv, (by show 1 ≤ 1000; decide), fun a na => made_of E.ec E.no q na⟩
theorem pe_mkN (E : Ek X.prog X.w X.K X.mg X.base name f C) (hr : Room 2 X.A) (hg : Gl X name) (he : PE X e (tVar i)) (hdb : (name == ("__debug__" : Str)) = false := by decide)
    (hall : (backToKw pos (keywordEach [⟨some f, e, kpos⟩] X.env)).all (·.1.isSome) = true := by rfl) (hks : (backToKw pos (keywordEach [⟨some f, e, kpos⟩] X.env)).filterMap (·.1) = [f] := by rfl)
    (hpl : ((backTo pos (starEach [] X.env)).any (·.1) || (backToKw pos (keywordEach [⟨some f, e, kpos⟩] X.env)).any (·.1.isNone)) = false := by rfl) : PE X (.Call (.Name name p) [] [⟨some f, e, kpos⟩] pos) (tMade C f i) := by
  obtain ⟨fI, fd, ii, tt, F, _, b⟩ := E.init
  constructor
  intro pins s σ H Q I h
  obtain ⟨v, hv, q⟩ := h
  exact (pe_eck (E := fun _ _ _ => False) E.ec ii tt F hr b pass0 hg E.g he hdb hall hks hpl).run pins s σ H Q I ⟨v, hv, v, rfl, fun a na => made_of E.ec E.no q na⟩
end
section
variable {J : It} {n : Nat} {G : Hp → Prop}
/-- a comprehension without a test whose items are known by what is true of them, apart from the list that grows -/
theorem lc_rel {xs : List V} (w : Walk J n G (YAt xs)) (hsz : n < sizeLine) {slot : Nat} {te : TE} {vs : List Nat} {σ : St} {H1 : Hp} {D : Addr} {Qd : Hp → Prop} (R : Nat → V → Hp → Prop) (hR : ∀ i y H H', R i y H → But D H H' → R i y H') (hD : H1 D = none)
    (hG : ∀ H, Same H1 H → G H) (hw : ∀ x, wipe ((wipe σ vs).set slot (some x)) vs = wipe σ vs)
    (hs : ∀ (i : Nat) (x : V) (H : Hp) (Q : VK), xs[i]? = some x → Same H1 H → (∃ o, H D = some o) → (∀ y H4, Same H H4 → R i y H4 → Q y H4) → te ((wipe σ vs).set slot (some x)) H Q)
    (hd : ∀ (H : Hp) (ys : List V), Same H1 H → H D = some (.lst ys) → ys.length = n → (∀ (i : Nat) (y : V), ys[i]? = some y → R i y H) → Qd H) :
    ∃ W : Nat → Nat → Hp → Prop, (∃ m, W 0 m (upd H1 D (.lst []))) ∧ ∀ i m H, W i m H →
      (J.stop i H ∧ Qd H) ∨ (J.go i H ∧ ∃ Nx : Hp → Prop, (∀ H', Nx H' → ∃ m', m' < m ∧ W (i + 1) m' H') ∧ ∀ x H', J.yld i H x H' → gName slot x (wipe σ vs) H' fun σ2 H2 => wipe σ2 vs = wipe σ vs ∧ tYes σ2 H2 fun b H3 =>
        if b = true then te σ2 H3 fun y H4 => ∃ acc, H4 D = some (.lst acc) ∧ acc.length < sizeLine ∧ Nx (upd H4 D (.lst (acc ++ [y]))) else Nx H3) := by
  refine lc_it w (fun i H => Same H1 H ∧ ∃ acc : List V, H D = some (.lst acc) ∧ acc.length = i ∧ ∀ (j : Nat) (y : V), acc[j]? = some y → R j y H) ⟨same_new hD, [], upd_same, rfl, fun j y z => by simp at z⟩ (fun i H _ h => hG H h.1) (fun i x H H' hi h y => ?_) (fun H h => by
    obtain ⟨s, acc, h1, h2, h3⟩ := h
    exact hd H acc s h1 h2 h3)
  obtain ⟨s1, acc, hl, len, ha⟩ := h
  obtain ⟨rfl, hx⟩ := y
  refine ⟨hw x, ?_⟩
  unfold tYes
  dsimp only
  rw [if_pos rfl]
  refine hs i x _ _ hx s1 ⟨_, hl⟩ fun y H4 s4 hy => ⟨acc, s4 _ _ hl, by omega, fun b o e => ?_, acc ++ [y], upd_same, by rw [List.length_append, len]; rfl, fun j z hz => ?_⟩
  · rw [upd_ne (ne_of_none e hD)]
    exact s4 _ _ (s1 _ _ e)
  · rcases Nat.lt_or_ge j acc.length with q | q
    · rw [List.getElem?_append_left q] at hz
      exact hR _ _ _ _ (hR _ _ _ _ (ha j z hz) (But.of_same s4)) But.upd
    · rw [List.getElem?_append_right q] at hz
      have ej : j - acc.length = 0 := by
        rcases Nat.eq_zero_or_pos (j - acc.length) with z | z
        · exact z
        · rw [List.getElem?_eq_none (by rw [List.length_singleton]; exact z)] at hz
          cases hz
      rw [ej] at hz
      obtain rfl : y = z := by simpa using hz
      obtain rfl : j = i := by omega
      exact hR _ _ _ _ hy But.upd
theorem dp_list {K : PySem.W.Frag} {H : Hp} : ∀ {ys : List V} {ds : List PyData}, ys.length = ds.length → (∀ (i : Nat) (y : V) (d : PyData), ys[i]? = some y → ds[i]? = some d → Dp K H y d) → DpAll K H ys ds
  | [], [], _, _ => .nil
  | y :: ys, d :: ds, l, h => .cons (h 0 y d rfl rfl) (dp_list (Nat.succ.inj l) fun i z e a b => h (i + 1) z e (by simpa using a) (by simpa using b))
  | [], _ :: _, l, _ => by cases l
  | _ :: _, [], l, _ => by cases l
theorem dp_bls {K : PySem.W.Frag} {H : Hp} : ∀ bs : List Bool, DpAll K H (bs.map V.bl) (bs.map PyData.bool)
  | [] => .nil
  | b :: bs => .cons (.bl b) (dp_bls bs)
end
end L2

set_option Elab.async false
set_option linter.all false
set_option maxRecDepth 100000
set_option maxHeartbeats 4000000
/-! A crowd that is made, its own list new; comparisons of crowds; tests whose ways meet; slices. -/
namespace L2
open PySem PySem.Spec PyProof.Rows
section
variable {X : Cx} {e : Expr} {t : TT}
/-- a test by a contract: ways meet -/
def tCutT (P : St → Hp → Bool → Hp → Prop) (t : TT) : TT := fun σ H Q => t σ H (P σ H) ∧ ∀ c H', P σ H c H' → Q c H'
theorem pt_cut (P : St → Hp → Bool → Hp → Prop) (h : PT X e t) : PT X e (tCutT P t) := ⟨fun pins s σ H Q I z => thn (h.run pins s σ H _ I z.1) fun _ _ q => by
  obtain ⟨H1, I1, p⟩ := q
  exact ⟨H1, I1, z.2 _ H1 p⟩⟩
end
/-- Crowd.__init__, the list that it keeps being new -/
def spCrowdNew (K : PySem.W.Frag) (C CB : Addr) : Sp := fun vs H Q E => ∃ (x dx : Addr) (v m : V) (b : Bool) (xs : List V), vs = [.ref x, v, m] ∧ H x = some (.ins C dx []) ∧ ArgP K H v b xs ∧ (∃ T, TyN K H m T) ∧
  (b = false → ∀ H' d, Raised H H' d "part" (.str "people") → E (.ref CB) (some d) H') ∧
  (b = true → markB 1 10 m = false → ∀ H' d, Raised H H' d "part" (.str "most") → E (.ref CB) (some d) H') ∧
  (b = true → ∀ i, m = .int i → markB 1 10 m = true → ∀ H' dx p, But x H H' → H p = none → H' x = some (.ins C dx (crowdFs p i)) → H' p = some (.lst xs) → Q .non H')
section
variable {K : PySem.W.Frag} {σ : St} {H : Hp} {Q : VK}
theorem rd_made {C CB : Addr} {m : Int} {xs : List V} {t : TA} (hm : markB 1 10 (.int m) = true) (ht : ∀ Q' : List V → Hp → Prop, (∀ H1 v, Same H H1 → ArgP K H1 v true xs → Q' [v, .int m] H1) → t σ H Q')
    (k : ∀ H' x dx p, Same H H' → H x = none → H p = none → H' x = some (.ins C dx (crowdFs p m)) → H' p = some (.lst xs) → Q (.ref x) H') : tMake C (spCrowdNew K C CB) [] (fun _ _ _ => False) t σ H Q := by
  refine ht _ fun H1 v s1 ha => ?_
  intro x dx nx ndx nex
  have s2 : Same H1 (upd (upd H1 dx (.own x)) x (.ins C dx [])) := fun c o e => by
    rw [upd_ne (ne_of_none e nx), upd_ne (ne_of_none e ndx)]
    exact e
  refine ⟨x, dx, v, .int m, true, xs, rfl, upd_same, ha.same s2, ⟨"int", .base (.int m), by decide⟩, fun z => (nomatch z), fun _ z => ?_, fun _ i hi _ H' dx2 p hB np h1 h2 => ?_⟩
  · rw [hm] at z
    cases z
  · cases V.int.inj hi
    exact ⟨rfl, k H' x dx2 p (s1.trans fun c o e => hB c o (ne_of_none e nx) (s2 _ _ e)) (s1.free nx) (s1.free (s2.free np)) h1 h2⟩
variable {C a b : Addr} {zs ys : List Str} {m n : Int} {E : XK}
theorem rd_eqC (nf : PySem.W.notFirst K C (.ref C) = true) (ha : CrowdOf H C a zs m) (hb : CrowdOf H C b ys n) (oz : ∀ z ∈ zs, PyData.strOk z = true) (oy : ∀ z ∈ ys, PyData.strOk z = true) (q : Q (.bl (decide (m = n) && decide (zs = ys))) H) :
    rEqOwn K C (spCrowdEq K C) E (.ref a) (.ref b) H Q := by
  obtain ⟨dx, p, h1, h2⟩ := id ha
  obtain ⟨dy, p2, h3, h4⟩ := id hb
  exact ⟨a, dx, b, _, _, rfl, rfl, h1, .ins h3, nf, a, b, zs, m, rfl, ha, oz, .inl ⟨ys, n, hb, oy, _, rfl, q⟩⟩
theorem rd_eqL {xs : List V} (nf : PySem.W.notFirst K C (.type "list") = true) (ha : CrowdOf H C a zs m) (hb : H b = some (.lst xs)) (oz : ∀ z ∈ zs, PyData.strOk z = true) (q : Q (.bl false) H) :
    rEqOwn K C (spCrowdEq K C) E (.ref a) (.ref b) H Q := by
  obtain ⟨dx, p, h1, h2⟩ := id ha
  exact ⟨a, dx, b, _, _, rfl, rfl, h1, .lst hb, nf, a, b, zs, m, rfl, ha, oz, .inr ⟨⟨_, hb⟩, _, rfl, q⟩⟩
theorem rd_neC (ha : CrowdOf H C a zs m) (hb : CrowdOf H C b ys n) (oz : ∀ z ∈ zs, PyData.strOk z = true) (oy : ∀ z ∈ ys, PyData.strOk z = true) (q : Q (.bl (!(decide (m = n) && decide (zs = ys)))) H) :
    rNeOwn C (spCrowdEq K C) E (.ref a) (.ref b) H Q := by
  obtain ⟨dx, p, h1, h2⟩ := id ha
  obtain ⟨dy, p2, h3, h4⟩ := id hb
  exact ⟨a, dx, b, dy, _, _, rfl, rfl, h1, h3, a, b, zs, m, rfl, ha, oz, .inl ⟨ys, n, hb, oy, _, rfl, q⟩⟩
end
section
variable {i j : Nat} {ta : TE} {tr t : TA} {T U : TS} {D : Ends} {v : V} {σ : St} {H : Hp} {Q : List V → Hp → Prop} {R : St → Hp → Prop}
theorem st_name (h : R (List.set σ i (some v)) H) : gName i v σ H R := h
theorem st_seq (h : T { nx := U D, rt := D.rt, bk := D.bk, ct := D.ct } σ H) : tSeq T U D σ H := h
theorem st_par (h : t σ H fun vs H1 => ∃ v w, vs = [v, w] ∧ D.nx ((List.set σ i (some v)).set j (some w)) H1) : tPar i j t D σ H := h
theorem st_cons (h : ta σ H fun x H1 => tr σ H1 fun xs H2 => Q (x :: xs) H2) : tCons ta tr σ H Q := h
end
theorem km_take {xs : List V} (k : Nat) : cutV xs none (some (k : Int)) = xs.take k := by
  unfold cutV
  rw [HT.sIx_none, HT.sIx_nat, List.drop_zero, Nat.sub_zero]
  rcases Nat.le_total k xs.length with h | h
  · rw [Nat.min_eq_left h]
  · rw [Nat.min_eq_right h, List.take_of_length_le h, List.take_of_length_le (Nat.le_refl _)]
theorem km_drop {xs : List V} (k : Nat) : cutV xs (some (k : Int)) none = xs.drop k := by
  unfold cutV
  rw [HT.sIx_none, HT.sIx_nat]
  rcases Nat.le_total k xs.length with h | h
  · rw [Nat.min_eq_left h, List.take_of_length_le (by rw [List.length_drop]; exact Nat.le_refl _)]
  · rw [Nat.min_eq_right h, List.drop_of_length_le h, List.drop_of_length_le (Nat.le_refl _), List.take_nil]
theorem extN_sq {K : PySem.W.Frag} {H G : Hp} {a : Addr} {xs : List V} (e : LamX.ExtN H G) (h : SqL K H a xs) : SqL K G a xs := by
  unfold SqL Rd at h ⊢
  rcases h with (h | ⟨o, h⟩) | h
  · exact .inl (.inl (e _ _ h fun ps z => (nomatch z)))
  · exact .inl (.inr ⟨o, e _ _ h fun ps z => (nomatch z)⟩)
  · exact .inr h
theorem CrowdAt.extN {H G : Hp} {C x : Addr} {xs : List V} {m : Int} (e : LamX.ExtN H G) (h : CrowdAt H C x xs m) : CrowdAt G C x xs m := by
  obtain ⟨dx, p, h1, h2⟩ := h
  exact ⟨dx, p, e _ _ h1 fun ps z => (nomatch z), e _ _ h2 fun ps z => (nomatch z)⟩
theorem more_word : wordB "more" = true ∧ ("more" : Str) ∉ names8 ∧ PyData.strOk "more" = true ∧ ("more" : Str).length ≤ 1000 := by decide +kernel
theorem Drawn8.more {zs : List Str} (d : Drawn8 zs) (h : zs.length < 8) : peopleB ((zs ++ [("more" : Str)]).map V.str) = true := by
  show ((decide (1 ≤ ((zs ++ [("more" : Str)]).map V.str).length) && decide (((zs ++ [("more" : Str)]).map V.str).length ≤ 8)) && (((zs ++ [("more" : Str)]).map V.str).all isW && decide ((zs ++ [("more" : Str)]).map V.str).Nodup)) = true
  have nd : (zs ++ [("more" : Str)]).Nodup := by
    rw [List.nodup_append]
    refine ⟨d.nd, by simp, fun a ha b hb e => ?_⟩
    rw [List.mem_singleton] at hb
    subst hb
    subst e
    exact more_word.2.1 (d.mem _ ha)
  have al : ((zs ++ [("more" : Str)]).map V.str).all isW = true := by
    rw [List.map_append, List.all_append, d.allW]
    show (true && (wordB "more" && true)) = true
    rw [more_word.1]
    rfl
  rw [al, List.length_map, List.length_append, List.length_singleton, decide_eq_true (show 1 ≤ zs.length + 1 by omega), decide_eq_true (show zs.length + 1 ≤ 8 by omega), decide_eq_true ((nodup_map_inj (f := V.str) (fun _ _ e => V.str.inj e)).mpr nd)]
  rfl
theorem Drawn8.sub {zs ys : List Str} (d : Drawn8 zs) (h : ys.Sublist zs) : Drawn8 ys := ⟨d.nd.sublist h, fun z hz => d.mem z (h.subset hz)⟩
theorem Drawn8.perm {zs ys : List Str} (d : Drawn8 zs) (h : ys.Perm zs) : Drawn8 ys := ⟨h.nodup_iff.mpr d.nd, fun z hz => d.mem z (h.mem_iff.mp hz)⟩
theorem rev_ne {zs : List Str} (nd : zs.Nodup) (h : 1 < zs.length) : zs.reverse ≠ zs := fun e => by
  match zs, nd, h with
  | a :: b :: zr, nd, h =>
    have e1 : (a :: b :: zr).reverse.getLast? = (a :: b :: zr).getLast? := by rw [e]
    rw [List.getLast?_reverse] at e1
    have e2 : (a :: b :: zr).getLast? = some a := e1.symm
    have e3 : a ∈ b :: zr := by
      rw [List.getLast?_cons_cons] at e2
      exact List.mem_of_getLast? e2
    exact (List.nodup_cons.mp nd).1 e3
  | [a], nd, h => exact absurd h (Nat.lt_irrefl 1)
  | [], nd, h => exact absurd h (by decide)
end L2

set_option Elab.async false
set_option linter.all false
set_option maxRecDepth 100000
set_option maxHeartbeats 4000000
namespace K02
open PySem PySem.Spec PyProof.Rows L2
def topS (i : Nat) : Stmt := PySem.Challenge.pw_ownmarks_k02_crowds_told.main.body.getD i (.Pass ⟨0, 0, 0, 0⟩)
abbrev sIsInteger : Stmt := topS 11
theorem scIsInteger : FnScope ["value"] ["value"] (defScope sIsInteger) := ⟨rfl, rfl, rfl, by decide +kernel, rfl, by decide +kernel, by decide +kernel⟩
abbrev sIsIntegerWithin : Stmt := topS 12
theorem scIsIntegerWithin : FnScope ["value", "least", "most"] ["value", "least", "most"] (defScope sIsIntegerWithin) := ⟨rfl, rfl, rfl, by decide +kernel, rfl, by decide +kernel, by decide +kernel⟩
abbrev sIsWord : Stmt := topS 13
theorem scIsWord : FnScope ["value", "sign"] ["value"] (defScope sIsWord) := ⟨rfl, rfl, rfl, by decide +kernel, rfl, by decide +kernel, by decide +kernel⟩
abbrev sBadCrowdInit : Stmt := inClass (topS 2) 0
theorem scBadCrowdInit : FnScope ["self", "part"] ["self", "part"] (defScope sBadCrowdInit) := ⟨rfl, rfl, rfl, by decide +kernel, rfl, by decide +kernel, by decide +kernel⟩
abbrev sNotThereInit : Stmt := inClass (topS 7) 0
theorem scNotThereInit : FnScope ["self", "word"] ["self", "word"] (defScope sNotThereInit) := ⟨rfl, rfl, rfl, by decide +kernel, rfl, by decide +kernel, by decide +kernel⟩
abbrev sArePeople : Stmt := topS 17
theorem scArePeople : FnScope ["value", "person"] ["value"] (defScope sArePeople) := ⟨rfl, rfl, rfl, by decide +kernel, rfl, by decide +kernel, by decide +kernel⟩
abbrev sCrowdInit : Stmt := inClass (topS 18) 0
theorem scCrowdInit : FnScope ["self", "people", "most"] ["self", "people", "most"] (defScope sCrowdInit) := ⟨rfl, rfl, rfl, by decide +kernel, rfl, by decide +kernel, by decide +kernel⟩
abbrev sCrowdPeople : Stmt := inClass (topS 18) 1
theorem scCrowdPeople : FnScope ["self"] ["self"] (defScope sCrowdPeople) := ⟨rfl, rfl, rfl, by decide +kernel, rfl, by decide +kernel, by decide +kernel⟩
abbrev sCrowdLen : Stmt := inClass (topS 18) 2
theorem scCrowdLen : FnScope ["self"] ["self"] (defScope sCrowdLen) := ⟨rfl, rfl, rfl, by decide +kernel, rfl, by decide +kernel, by decide +kernel⟩
abbrev sCrowdContains : Stmt := inClass (topS 18) 3
theorem scCrowdContains : FnScope ["self", "x"] ["self", "x"] (defScope sCrowdContains) := ⟨rfl, rfl, rfl, by decide +kernel, rfl, by decide +kernel, by decide +kernel⟩
abbrev sCrowdIter : Stmt := inClass (topS 18) 4
theorem scCrowdIter : FnScope ["self"] ["self"] (defScope sCrowdIter) := ⟨rfl, rfl, rfl, by decide +kernel, rfl, by decide +kernel, by decide +kernel⟩
abbrev sCrowdEq : Stmt := inClass (topS 18) 5
theorem scCrowdEq : FnScope ["self", "other"] ["self", "other"] (defScope sCrowdEq) := ⟨rfl, rfl, rfl, by decide +kernel, rfl, by decide +kernel, by decide +kernel⟩
abbrev sCrowdPlace : Stmt := inClass (topS 18) 6
theorem scCrowdPlace : FnScope ["self", "person"] ["self", "person"] (defScope sCrowdPlace) := ⟨rfl, rfl, rfl, by decide +kernel, rfl, by decide +kernel, by decide +kernel⟩
abbrev sCrowdPairs : Stmt := inClass (topS 18) 7
theorem scCrowdPairs : FnScope ["self", "marker", "marked"] ["self"] (defScope sCrowdPairs) := ⟨rfl, rfl, rfl, by decide +kernel, rfl, by decide +kernel, by decide +kernel⟩
abbrev sCrowdIsPair : Stmt := inClass (topS 18) 8
theorem scCrowdIsPair : FnScope ["self", "value"] ["self", "value"] (defScope sCrowdIsPair) := ⟨rfl, rfl, rfl, by decide +kernel, rfl, by decide +kernel, by decide +kernel⟩
abbrev sNeedPerson : Stmt := topS 19
theorem scNeedPerson : FnScope ["crowd", "person"] ["crowd", "person"] (defScope sNeedPerson) := ⟨rfl, rfl, rfl, by decide +kernel, rfl, by decide +kernel, by decide +kernel⟩
abbrev sOpened : Stmt := topS 21
theorem scOpened : FnScope ["_law_script", "_law_k", "_law_cell", "_law_great"] ["_law_script", "_law_k"] (defScope sOpened) := ⟨rfl, rfl, rfl, by decide +kernel, rfl, by decide +kernel, by decide +kernel⟩
abbrev sDraw : Stmt := topS 22
theorem scDraw : FnScope ["_law_pool", "_law_many", "_law_found"] ["_law_pool", "_law_many"] (defScope sDraw) := ⟨rfl, rfl, rfl, by decide +kernel, rfl, by decide +kernel, by decide +kernel⟩
abbrev sPeople : Stmt := topS 23
theorem scPeople : FnScope ["_law_pool", "_law_many", "_law_menu", "_law_found", "_law_step"] ["_law_pool", "_law_many"] (defScope sPeople) := ⟨rfl, rfl, rfl, by decide +kernel, rfl, by decide +kernel, by decide +kernel⟩
abbrev sPairs : Stmt := topS 24
theorem scPairs : FnScope ["_law_people_here", "_law_found", "_law_one", "_law_other"] ["_law_people_here"] (defScope sPairs) := ⟨rfl, rfl, rfl, by decide +kernel, rfl, by decide +kernel, by decide +kernel⟩
abbrev sRefused : Stmt := topS 25
theorem scRefused : FnScope ["_law_call", "e"] ["_law_call"] (defScope sRefused) := ⟨rfl, rfl, rfl, by decide +kernel, rfl, by decide +kernel, by decide +kernel⟩
abbrev sCrowdRight : Stmt := topS 26
theorem scCrowdRight : FnScope ["_law_crowd", "_law_people_here", "_law_most", "_law_person", "_law_pairs_here", "_law_pair", "_law_odd", "_law_first", "_law_last", "_law_odds"] ["_law_crowd", "_law_people_here", "_law_most"] (defScope sCrowdRight) := ⟨rfl, rfl, rfl, by decide +kernel, rfl, by decide +kernel, by decide +kernel⟩
abbrev sLaw : Stmt := topS 27
theorem scLaw : FnScope ["_law_script", "_law_k", "_law_pool", "_law_people_here", "_law_most", "_law_rows", "_law_crowd", "_law_other"] ["_law_script"] (defScope sLaw) := ⟨rfl, rfl, rfl, by decide +kernel, rfl, by decide +kernel, by decide +kernel⟩
/-! ### the law's own draws -/
section
variable {P : Program} {w : World} {K : PySem.W.Frag} {mg : Str → Option Value} {base : Heap}
structure Bt (mg : Str → Option Value) : Prop where
  len : mg "len" = none
  max : mg "max" = none
  min : mg "min" = none
  int : mg "int" = none
  range : mg "range" = none
theorem ok_opened {f : Addr} {fd : FuncData} (F : Fun K "_law_opened" "_law_opened" sOpened f fd) (B : Bt mg) : FnOk P w K mg base CX0 1 f fd ["_law_script", "_law_k"] (spOpened K) := by
  refine F.ok scOpened (fun vs H Q E h => ?_) (fun cdv A outer s H vs Q E hr h => ?_)
  · obtain ⟨a, ns, k, rfl, _⟩ := h
    rfl
  · obtain ⟨a, ns, k, rfl, hS, hk, q⟩ := h
    refine ⟨_, pss_cons (ps_set (i := 2) scOpened.nd rfl (.inl rfl) (pe_cut (fun _ H v H' => H' = H ∧ ∃ z : Int, v = .int z) (pe_ifExp (pt_cmpR op_lt (pv 1) (pe_callB call_len_seq (by rfl) B.len PySem.boot_len (pa_cons (pv 0) pa_nil)) (nomark _)) (pe_ix ix_list (pv 0) (pv 1) (fun _ _ => rfl)) pe_int)))
      (pss_cons (ps_set (i := 3) scOpened.nd rfl (.inl rfl) (pe_callB (call_max2 rfl) (by rfl) B.max (by decide +kernel) (pa_cons (pe_callTy call_int1 (by rfl) B.int (by decide +kernel) (pa_cons (pv 2) pa_nil))
        (pa_cons (pe_callTy call_int1 (by rfl) B.int (by decide +kernel) (pa_cons (pe_op op_sub (pe_un un_neg pe_int) (pv 2)) pa_nil)) pa_nil))))
      (pss_one (ps_ret (pe_lst (pa_cons (pe_op op_mul (pv 3) (pe_callTy call_int1 (by rfl) B.int (by decide +kernel) (pa_cons (pe_cmpR op_ge (pv 3) (pe_op op_pow pe_int pe_int) (nomark _)) pa_nil)))
        (pa_cons (pe_op op_mod (pe_callTy call_int1 (by rfl) B.int (by decide +kernel) (pa_cons (pe_op op_mul (pe_op op_add (pe_op op_add (pe_op op_mod (pv 3) pe_int) (pe_op op_mul pe_int (pv 1))) pe_int) pe_int) pa_nil)) pe_int) pa_nil)))))), ?_⟩
    refine ⟨?_, ?_⟩
    · -- the cell
      refine ⟨_, rfl, _, rfl, _, _, rfl, .inl hS, _, _, rfl, rfl, _, rfl, ite2 (fun c => ?_) (fun _ => ⟨rfl, 5, rfl⟩)⟩
      have c1 : (k : Int) < ((ns.map V.int).length : Int) := of_decide_eq_true c
      have c2 : k < ns.length := by
        rw [List.length_map] at c1
        omega
      exact ⟨_, rfl, _, rfl, a, _, k, .int ns[k], rfl, rfl, hS, atI_nat (by rw [List.getElem?_map, List.getElem?_eq_getElem c2]; rfl), rfl, _, rfl⟩
    · rintro v H1 ⟨rfl, z, rfl⟩
      refine ⟨_, rfl, .inl ⟨_, rfl, 1, rfl, _, rfl, _, _, rfl, rfl, .inl ⟨_, rfl, _, _, rfl, ?_⟩⟩⟩
      generalize hg : (if (-1 : Int) - z > z then -1 - z else z) = g
      have g0 : 0 ≤ g := by
        rw [← hg]
        split <;> omega
      refine ⟨_, rfl, _, rfl, _, _, rfl, rfl, ⟨by decide, by decide, by decide⟩, _, _, rfl, rfl, .inr ⟨_, rfl, _, _, rfl, rfl, .inr ?_, ?_⟩⟩
      · split <;> omega
      · have km : 0 ≤ g % 2147483629 ∧ g % 2147483629 < 2147483629 := ⟨Int.emod_nonneg _ (by decide), Int.emod_lt_of_pos _ (by decide)⟩
        refine ⟨_, rfl, _, _, rfl, rfl, (by show (0 : Int) < 2147483629; decide), _, rfl, _, _, rfl, rfl, .inl ⟨by omega, by omega⟩, _, _, rfl, rfl, _, _, rfl, rfl, _, _, rfl, rfl, .inr ⟨by decide, by decide⟩, .inl ⟨_, rfl, _, _, rfl, rfl, (by show (0 : Int) < 2147483647; decide), ?_, fun p hp => ?_⟩⟩
        · show 2 ≤ sizeLine
          decide
        · refine newH hp fun H2 s2 h2 => q H2 p s2 hp ⟨_, _, h2, ?_, Int.emod_nonneg _ (by decide), Int.emod_lt_of_pos _ (by decide)⟩
          split
          · omega
          · omega
theorem pool_set0 {g q x : Int} : ([V.int g, V.int q]).set 0 (.int x) = [V.int x, V.int q] := rfl
theorem ok_draw {f : Addr} {fd : FuncData} (F : Fun K "_law_draw" "_law_draw" sDraw f fd) (B : Bt mg) : FnOk P w K mg base CX0 1 f fd ["_law_pool", "_law_many"] spDraw := by
  refine F.ok scDraw (fun vs H Q E h => ?_) (fun cdv A outer s H vs Q E hr h => ?_)
  · obtain ⟨a, m, rfl, _⟩ := h
    rfl
  · obtain ⟨a, m, rfl, ⟨g, q, ha, hg, hq0, hq1⟩, m1, m2, kk⟩ := h
    refine ⟨_, pss_cons (ps_if (pt_cmpR op_gt (pe_ix ix_list (pv 0) pe_int (fun _ _ => rfl)) pe_int (nomark _))
        (pss_cons (ps_set (i := 2) scDraw.nd rfl (.inl rfl) (pe_op op_modN (pe_callTy call_int1 (by rfl) B.int (by decide +kernel) (pa_cons (pe_ix ix_list (pv 0) pe_int (fun _ _ => rfl)) pa_nil)) (pv 1)))
        (pss_cons (ps_asg (pe_op op_fdivN (pe_ix ix_list (pv 0) pe_int (fun _ _ => rfl)) (pv 1)) (pg_sub (pv 0) pe_int set_list)) (pss_one (ps_ret (pv 2))))) pss_nil)
      (pss_cons (ps_asg (pe_op op_mod (pe_callTy call_int1 (by rfl) B.int (by decide +kernel) (pa_cons (pe_op op_add (pe_op op_mul (pe_ix ix_list (pv 0) pe_int (fun _ _ => rfl)) pe_int) pe_int) pa_nil)) pe_int) (pg_sub (pv 0) pe_int set_list))
      (pss_one (ps_ret (pe_op op_modN (pe_op op_fdiv (pe_op op_mod (pe_callTy call_int1 (by rfl) B.int (by decide +kernel) (pa_cons (pe_op op_mul (pe_ix ix_list (pv 0) pe_int (fun _ _ => rfl)) (pe_ix ix_list (pv 0) pe_int (fun _ _ => rfl))) pa_nil)) pe_int) pe_int) (pv 1))))), ?_⟩
    have S0 := SqL.of (K := K) ha
    have x0 : atI [V.int g, V.int q] 0 = some (.int g) := rfl
    have x1 : atI [V.int g, V.int q] 1 = some (.int q) := rfl
    have mnz : m ≠ 0 := by omega
    refine ⟨_, rfl, a, _, 0, _, rfl, rfl, S0, x0, _, _, rfl, rfl, _, rfl, ite2 (fun c => ?_) (fun _ => ?_)⟩
    · refine ⟨_, rfl, a, _, 0, _, rfl, rfl, S0, x0, .inl ⟨_, rfl, _, rfl, _, _, rfl, rfl, mnz, ?_⟩⟩
      refine ⟨_, rfl, a, _, 0, _, rfl, rfl, S0, x0, _, rfl, _, _, rfl, rfl, ⟨mnz, by omega⟩, _, rfl, a, _, 0, 0, rfl, rfl, ha, rfl, ?_⟩
      refine ⟨_, rfl, kk _ _ (Int.fmod_nonneg_of_pos _ (by omega)) (Int.fmod_lt_of_pos _ (by omega)) ⟨g.fdiv m, q, upd_same, Int.fdiv_nonneg hg (by omega), hq0, hq1⟩ But.upd⟩
    · refine ⟨_, rfl, a, _, 1, _, rfl, rfl, S0, x1, _, _, rfl, rfl, .inr ⟨by decide, by decide⟩, _, _, rfl, rfl, .inl ⟨_, rfl, _, _, rfl, rfl, (by show (0 : Int) < 2147483647; decide), ?_⟩⟩
      have z0 : 0 ≤ (q * 39373 + 7) % 2147483647 := Int.emod_nonneg _ (by decide)
      have z1 : (q * 39373 + 7) % 2147483647 < 2147483647 := Int.emod_lt_of_pos _ (by decide)
      refine ⟨_, rfl, a, _, 1, 1, rfl, rfl, ha, rfl, ?_⟩
      have h2 : upd H a (.lst [V.int g, V.int ((q * 39373 + 7) % 2147483647)]) a = some (.lst [V.int g, V.int ((q * 39373 + 7) % 2147483647)]) := upd_same
      have S2 := SqL.of (K := K) h2
      have y1 : atI [V.int g, V.int ((q * 39373 + 7) % 2147483647)] 1 = some (.int ((q * 39373 + 7) % 2147483647)) := rfl
      refine ⟨_, rfl, a, _, 1, _, rfl, rfl, S2, y1, _, rfl, a, _, 1, _, rfl, rfl, S2, y1, _, _, rfl, rfl, .inl ⟨by omega, by omega⟩, .inl ⟨_, rfl, _, _, rfl, rfl, (by show (0 : Int) < 2147483629; decide), _, _, rfl, rfl, ⟨by decide, by decide⟩, _, rfl, _, _, rfl, rfl, mnz, ?_⟩⟩
      exact kk _ _ (Int.fmod_nonneg_of_pos _ (by omega)) (Int.fmod_lt_of_pos _ (by omega)) ⟨g, _, h2, hg, z0, z1⟩ But.upd
end

section
variable {P : Program} {w : World} {K : PySem.W.Frag} {mg : Str → Option Value} {base : Heap}
theorem ok_people {f fD : Addr} {fd fdD : FuncData} (F : Fun K "_law_people" "_law_people" sPeople f fd) (FD : Fun K "_law_draw" "_law_draw" sDraw fD fdD) (bD : Binds K fdD ["_law_pool", "_law_many"] []) (gD : mg "_law_draw" = some (.ref fD)) (B : Bt mg) :
    FnOk P w K mg base CX0 2 f fd ["_law_pool", "_law_many"] spPeople := by
  have GD : FnOk P w K mg base CX0 1 fD fdD ["_law_pool", "_law_many"] spDraw := ok_draw FD B
  refine F.ok scPeople (fun vs H Q E h => ?_) (fun cdv A outer s H vs Q E hr h => ?_)
  · obtain ⟨a, m, rfl, _⟩ := h
    rfl
  · obtain ⟨a, m, rfl, hP, hm, q⟩ := h
    refine ⟨_, pss_cons (ps_par (i := 2) (j := 3) (by rfl) scPeople.nd rfl rfl (by decide) rfl rfl (pa_cons (pe_lst (pa_cons pe_str (pa_cons pe_str (pa_cons pe_str (pa_cons pe_str (pa_cons pe_str (pa_cons pe_str (pa_cons pe_str (pa_cons pe_str pa_nil)))))))))
        (pa_cons (pe_lst pa_nil) pa_nil)) (by rfl))
      (pss_cons (ps_for PassesOwn.never rfl (pi_range1 (by rfl) B.range (pa_cons (pv 1) pa_nil)) (pg_name (i := 4) scPeople.nd rfl (.inl rfl))
        (pss_one (ps_expr (pe_bm PySem.F.plainAttrs_list PySem.F.slot_list_append PySem.F.type_list_append mt_append (pv 3) (pa_cons
          (pe_bm PySem.F.plainAttrs_list PySem.F.slot_list_pop PySem.F.type_list_pop mt_popAt (pv 2) (pa_cons
            (pe_call GD hr (by rfl) gD FD.kp bD .nil pass0 (pa_cons (pv 0) (pa_cons (pe_callB call_len_seq (by rfl) B.len PySem.boot_len (pa_cons (pv 2) pa_nil)) pa_nil))) pa_nil)) pa_nil)))))
      (pss_one (ps_ret (pv 3)))), ?_⟩
    refine ⟨(by show 8 ≤ sizeLine; decide), fun x nx => ?_⟩
    generalize e1 : upd H x _ = H1
    have s1 : Same H H1 := e1 ▸ same_new nx
    have hx : H1 x = some (.lst (names8.map V.str)) := e1 ▸ upd_same
    refine ⟨Nat.zero_le _, fun y ny => ?_⟩
    generalize e2 : upd H1 y _ = H2
    have s2 : Same H1 H2 := e2 ▸ same_new ny
    have hy : H2 y = some (.lst []) := e2 ▸ upd_same
    refine ⟨_, _, rfl, ?_⟩
    have hx2 := s2 _ _ hx
    have nxy : x ≠ y := fun e => by
      rw [e, ny] at hx
      cases hx
    have hP2 : Pool H2 a := by
      obtain ⟨g, r, ha, hb⟩ := hP
      exact ⟨g, r, s2 _ _ (s1 _ _ ha), hb⟩
    have nax : a ≠ x := fun e => by
      obtain ⟨g, r, ha, hb⟩ := hP
      rw [e, nx] at ha
      cases ha
    have nay : a ≠ y := fun e => by
      obtain ⟨g, r, ha, hb⟩ := hP
      have := s1 _ _ ha
      rw [e, ny] at this
      cases this
    refine ⟨_, rfl, m, rfl, by omega, by omega, for_range (lo := 0) (n := (m : Int).toNat) (fun i σ H' => ∃ (v : Option V) (menu found : List Str), σ = [some (.ref a), some (.int m), some (.ref x), some (.ref y), v] ∧ Pool H' a ∧ But a H H' ∧
      H' x = some (.lst (menu.map V.str)) ∧ H' y = some (.lst (found.map V.str)) ∧ found.length = i ∧ (found ++ menu).Perm names8)
      ⟨none, names8, [], rfl, hP2, But.of_same (s1.trans s2), hx2, hy, rfl, .refl _⟩ ?_ ?_⟩
    · rintro i σ H3 hi ⟨v, menu, found, rfl, hP3, hB, hx3, hy3, hl, hp⟩
      have len8 : found.length + menu.length = 8 := by
        have := hp.length_eq
        rw [List.length_append] at this
        exact this
      refine ⟨_, rfl, .inl ⟨rfl, _, SqL.of hy3⟩, _, rfl, .inl ⟨rfl, _, SqL.of hx3⟩, _, rfl, _, rfl, x, _, rfl, .inl (SqL.of hx3), ?_⟩
      refine ⟨a, _, rfl, hP3, by rw [List.length_map]; omega, by rw [List.length_map]; omega, fun r H4 r0 r1 hP4 hB4 => ?_⟩
      have hx4 := hB4 _ _ (Ne.symm nax) hx3
      have hy4 := hB4 _ _ (Ne.symm nay) hy3
      rw [List.length_map] at r1
      have hk : r.toNat < menu.length := by omega
      have hk' : menu[r.toNat]? = some menu[r.toNat] := List.getElem?_eq_getElem hk
      refine ⟨x, _, r, r.toNat, .str menu[r.toNat], rfl, rfl, hx4, by omega, by omega, seqIndex_of r0 (by rw [List.length_map]; omega), by rw [List.getElem?_map, hk']; rfl, ?_⟩
      have hy5 : upd H4 x (.lst ((menu.map V.str).eraseIdx r.toNat)) y = some (.lst (found.map V.str)) := by
        rw [upd_ne (Ne.symm nxy)]
        exact hy4
      refine ⟨y, _, _, rfl, rfl, hy5, by rw [List.length_map]; exact small1000 (by omega), ?_⟩
      refine ⟨_, menu.eraseIdx r.toNat, found ++ [menu[r.toNat]], rfl, ?_, ?_, ?_, ?_, ?_, ?_⟩
      · obtain ⟨g, z, ha, hb⟩ := hP4
        exact ⟨g, z, by rw [upd_ne nay, upd_ne nax]; exact ha, hb⟩
      · intro b o hb e
        have nbx : b ≠ x := fun z => by
          rw [z, nx] at e
          cases e
        have nby : b ≠ y := fun z => by
          have := s1 _ _ e
          rw [z, ny] at this
          cases this
        rw [upd_ne nby, upd_ne nbx]
        exact hB4 b o hb (hB b o hb e)
      · rw [upd_ne nxy, upd_same, eraseIdx_map]
      · rw [upd_same, List.map_append]
        rfl
      · rw [List.length_append, hl]
        rfl
      · rw [List.append_assoc]
        exact ((perm_pop hk').append_left found).trans hp
    · rintro σ H3 ⟨v, menu, found, rfl, hP3, hB, hx3, hy3, hl, hp⟩
      have nd : (found ++ menu).Nodup := hp.nodup_iff.mpr names8_nd
      exact ⟨_, rfl, q H3 y found hP3 hB (s1.free ny) hy3 (by omega) (List.nodup_append.mp nd).1 fun z hz => hp.mem_iff.mp (List.mem_append_left _ hz)⟩
end

/-! ### the program: integers, words, people -/
structure Tx (mg : Str → Option Value) : Prop where
  isi : mg "isinstance" = none
  str : mg "str" = none
  bool : mg "bool" = none
  list : mg "list" = none
  tuple : mg "tuple" = none
  set : mg "set" = none
  all : mg "all" = none
  letters : ∃ t, mg "LETTERS" = some (.str letters t)
  longest : ∃ t, mg "LONGEST" = some (.int 8 t)
  mostP : ∃ t, mg "MOST_PEOPLE" = some (.int 8 t)
  greatest : ∃ t, mg "GREATEST_MARK" = some (.int 10 t)
section
variable {P : Program} {w : World} {K : PySem.W.Frag} {mg : Str → Option Value} {base : Heap}
theorem ok_isInteger {f : Addr} {fd : FuncData} (F : Fun K "is_integer" "is_integer" sIsInteger f fd) (B : Bt mg) (T : Tx mg) : FnOk P w K mg base CX0 1 f fd ["value"] (spIsInteger K) := by
  refine F.ok scIsInteger (fun vs H Q E h => ?_) (fun cdv A outer s H vs Q E hr h => ?_)
  · obtain ⟨v, T, rfl, _⟩ := h
    rfl
  · obtain ⟨v, N, rfl, ⟨ty, hk⟩, q⟩ := h
    refine ⟨_, pss_one (ps_ret (pe_and (pe_callB call_isi (by rfl) T.isi (by decide +kernel) (pa_cons (pv 0) (pa_cons (pe_bltn (v := .ty "int") (by rfl) B.int (by decide +kernel) rfl) pa_nil)))
      (pe_one (pe_not (pe_callB call_isi (by rfl) T.isi (by decide +kernel) (pa_cons (pv 0) (pa_cons (pe_bltn (v := .ty "bool") (by rfl) T.bool (by decide +kernel) rfl) pa_nil))))))), ?_⟩
    refine ⟨_, rfl, v, .ty "int", _, _, _, rfl, .ty "int", ty, kit_ty (kit_int hk), _, rfl, ite2 (fun c => ?_) (fun c => ?_)⟩
    · refine ⟨_, rfl, v, .ty "bool", _, _, _, rfl, .ty "bool", ty, kit_ty (kit_bool hk), _, rfl, ?_⟩
      have e : (!decide (N = "bool")) = decide (N = "int") := by
        by_cases h1 : N = "bool"
        · subst h1
          rfl
        · rw [decide_eq_false h1, Bool.or_false] at c
          rw [decide_eq_false h1, c]
          rfl
      rw [e]
      exact q
    · have e : decide (N = "int") = false := by
        cases h1 : decide (N = "int") with
        | false => rfl
        | true =>
          rw [h1] at c
          exact absurd rfl c
      rw [e] at q
      exact q
theorem ok_within {f fI : Addr} {fd fdI : FuncData} (F : Fun K "is_integer_within" "is_integer_within" sIsIntegerWithin f fd) (FI : Fun K "is_integer" "is_integer" sIsInteger fI fdI) (bI : Binds K fdI ["value"] []) (gI : mg "is_integer" = some (.ref fI)) (B : Bt mg) (T : Tx mg) :
    FnOk P w K mg base CX0 2 f fd ["value", "least", "most"] (spWithin K) := by
  have GI : FnOk P w K mg base CX0 1 fI fdI ["value"] (spIsInteger K) := ok_isInteger FI B T
  refine F.ok scIsIntegerWithin (fun vs H Q E h => ?_) (fun cdv A outer s H vs Q E hr h => ?_)
  · obtain ⟨v, lo, hi, rfl, _⟩ := h
    rfl
  · obtain ⟨v, lo, hi, rfl, ⟨N, ty⟩, q⟩ := h
    refine ⟨_, pss_one (ps_ret (pe_and (pe_call GI hr (by rfl) gI FI.kp bI .nil pass0 (pa_cons (pv 0) pa_nil)) (pe_one (pe_chain op_le op_le (pv 1) (pv 0) (pv 2))))), ?_⟩
    refine ⟨_, rfl, v, N, rfl, ty, _, rfl, ite2 (fun c => ?_) (fun c => ?_)⟩
    · have e : N = "int" := of_decide_eq_true c
      subst e
      obtain ⟨i, rfl⟩ := ty_int ty.1
      refine ⟨_, rfl, _, rfl, _, _, rfl, rfl, _, rfl, ite2 (fun c1 => ?_) (fun c1 => ?_)⟩
      · refine ⟨_, rfl, _, _, rfl, rfl, ?_⟩
        have e : markB lo hi (.int i) = decide (i ≤ hi) := by
          show (decide (lo ≤ i) && decide (i ≤ hi)) = _
          rw [show decide (lo ≤ i) = true from c1, Bool.true_and]
        rw [e] at q
        exact q
      · have e : markB lo hi (.int i) = false := by
          show (decide (lo ≤ i) && decide (i ≤ hi)) = _
          rw [show decide (lo ≤ i) = false from Bool.eq_false_iff.mpr c1, Bool.false_and]
        rw [e] at q
        exact q
    · have e : markB lo hi v = false := by
        cases v with
        | int i => exact absurd (decide_eq_true (int_ty ty.1)) c
        | _ => rfl
      rw [e] at q
      exact q
theorem ok_isWord {f : Addr} {fd : FuncData} (F : Fun K "is_word" "is_word" sIsWord f fd) (B : Bt mg) (T : Tx mg) : FnOk P w K mg base CX0 1 f fd ["value"] (spIsWord K) := by
  obtain ⟨t1, g1⟩ := T.letters
  obtain ⟨t2, g2⟩ := T.longest
  refine F.ok scIsWord (fun vs H Q E h => ?_) (fun cdv A outer s H vs Q E hr h => ?_)
  · obtain ⟨v, rfl, _⟩ := h
    rfl
  · obtain ⟨v, rfl, ⟨⟨N, ty, hk⟩, hz⟩, q⟩ := h
    refine ⟨_, pss_cons (ps_if (PW.pt (pw_or (pt_not (pt_val (pe_callB call_isi (by rfl) T.isi (by decide +kernel) (pa_cons (pv 0) (pa_cons (pe_bltn (v := .ty "str") (by rfl) T.str (by decide +kernel) rfl) pa_nil)))))
        (pw_or1 (pt_not (pt_chain op_le op_le pe_int (pe_callB call_len (by rfl) B.len PySem.boot_len (pa_cons (pv 0) pa_nil)) (pe_glob (v := .int 8) (by rfl) g2 ⟨_, rfl⟩)))))) (pss_one (ps_ret pe_bl)) pss_nil)
      (pss_one (ps_ret (pe_callB (cr_all rfl) (by rfl) T.all (by decide +kernel) (pa_cons (pe_lc (own := [("sign", 1)]) (g := gName 1) (by rfl) scIsWord.nd (pi_str (pv 0)) (blkOk_by (own := [("sign", 1)]) (N := ["value", "sign"]) (sc := defScope sIsWord) (by decide +kernel))
        (fun _ _ _ _ _ => pg_name (i := 1) scIsWord.nd rfl (Or.inl rfl)) (fun _ _ _ _ _ => pts_nil) (fun _ _ _ _ _ => pe_cmpR op_in_sign (pv 1) (pe_glob (v := .str letters) (by rfl) g1 ⟨_, rfl⟩) (by rfl))) pa_nil)))), ?_⟩
    refine ⟨_, rfl, v, .ty "str", _, _, _, rfl, .ty "str", ty, kit_ty (kit_str hk), _, rfl, ?_⟩
    by_cases hs : N = "str"
    · subst hs
      obtain ⟨z, rfl⟩ := ty_str ty
      have hl := hz z rfl
      refine iteF ?_
      refine ⟨_, rfl, _, z.length, rfl, ⟨Nat.le_trans hl (by decide), rfl⟩, _, _, rfl, rfl, _, rfl, ite2 (fun c1 => ?_) (fun c1 => ?_)⟩
      · have h1 : 1 ≤ z.length := by
          have := of_decide_eq_true c1
          omega
        refine ⟨_, _, rfl, rfl, _, rfl, ?_⟩
        by_cases h2 : z.length ≤ 8
        · have h2' : decide (((z.length : Nat) : Int) ≤ 8) = true := decide_eq_true (by omega)
          rw [h2']
          refine iteF ?_
          refine ⟨_, rfl, z, rfl, fun D nD => ?_⟩
          refine lc_map (ys := (z.cps.toList.map fun c => decide (c ∈ letters.cps.toList)).map V.bl) walk_kmSigns (by unfold kmSigns; simp) ?_ nD (fun _ _ => trivial) (fun _ => rfl) (fun i x y H1 Q1 hx hy s1 k => ?_) (fun H1 s1 hD => ?_)
          · have : (kmSigns z).length = z.length := by
              unfold kmSigns
              rw [List.length_map, Array.length_toList]
              rfl
            rw [this]
            exact small1000 hl
          · unfold kmSigns at hx
            rw [List.getElem?_map] at hx hy
            rw [List.getElem?_map] at hy
            cases hc : z.cps.toList[i]? with
            | none =>
              rw [hc] at hx
              cases hx
            | some c =>
              rw [hc] at hx hy
              obtain rfl := Option.some.inj hx
              obtain rfl := Option.some.inj hy
              exact ⟨_, rfl, c, letters, rfl, rfl, k H1 (Same.refl H1)⟩
          · refine ⟨D, _, rfl, SqL.of hD, ?_⟩
            have e : isW (.str z) = (z.cps.toList.map fun c => decide (c ∈ letters.cps.toList)).all id := by
              show ((decide (1 ≤ z.length) && decide (z.length ≤ 8)) && _) = _
              rw [decide_eq_true h1, decide_eq_true h2, Bool.true_and, Bool.true_and, List.all_map]
              rfl
            rw [← e]
            exact q H1 s1
        · have h2' : decide (((z.length : Nat) : Int) ≤ 8) = false := decide_eq_false (by omega)
          rw [h2']
          refine iteT ?_
          have e : isW (.str z) = false := by
            show ((decide (1 ≤ z.length) && decide (z.length ≤ 8)) && _) = false
            rw [decide_eq_false h2, Bool.and_false, Bool.false_and]
          rw [e] at q
          exact q H (Same.refl H)
      · have h1 : ¬ 1 ≤ z.length := fun h => c1 (decide_eq_true (by omega))
        refine ⟨_, rfl, iteT ?_⟩
        have e : isW (.str z) = false := by
          show ((decide (1 ≤ z.length) && decide (z.length ≤ 8)) && _) = false
          rw [decide_eq_false h1, Bool.false_and, Bool.false_and]
        rw [e] at q
        exact q H (Same.refl H)
    · have e : decide (N = "str") = false := decide_eq_false hs
      rw [e]
      refine iteT (iteT ?_)
      have e2 : isW v = false := by
        cases v with
        | str z => exact absurd (str_ty ty) hs
        | _ => rfl
      rw [e2] at q
      exact q H (Same.refl H)
end

section
variable {P : Program} {w : World} {K : PySem.W.Frag} {mg : Str → Option Value} {base : Heap}
/-- the law of a list's or a tuple's items, given how it is walked and measured -/
theorem ok_arePeople {f fW : Addr} {fd fdW : FuncData} (F : Fun K "are_people" "are_people" sArePeople f fd) (FW : Fun K "is_word" "is_word" sIsWord fW fdW) (bW : Binds K fdW ["value"] []) (gW : mg "is_word" = some (.ref fW)) (B : Bt mg) (T : Tx mg) :
    FnOk P w K mg base CX0 2 f fd ["value"] (spArePeople K) := by
  have GW : FnOk P w K mg base CX0 1 fW fdW ["value"] (spIsWord K) := ok_isWord FW B T
  obtain ⟨t1, g1⟩ := T.mostP
  refine F.ok scArePeople (fun vs H Q E h => ?_) (fun cdv A outer s H vs Q E hr h => ?_)
  · obtain ⟨v, b, xs, rfl, _⟩ := h
    rfl
  · obtain ⟨v, b, xs, rfl, ha, q⟩ := h
    cases ha with
    | @no _ N t h1 h2 =>
      refine ⟨_, pss_cons (ps_if (PW.pt (pw_or (pt_not (pt_val (pe_callB call_isiT (by rfl) T.isi (by decide +kernel) (pa_cons (pv 0) (pa_cons (pe_tup (pa_cons (pe_bltn (v := .ty "list") (by rfl) T.list (by decide +kernel) rfl) (pa_cons (pe_bltn (v := .ty "tuple") (by rfl) T.tuple (by decide +kernel) rfl) pa_nil))) pa_nil)))))
          (pw_or1 (pt_not (pt_chain op_le op_le pe_int (pe_callB call_len_seq (by rfl) B.len PySem.boot_len (pa_cons (pv 0) pa_nil)) (pe_glob (v := .int 8) (by rfl) g1 ⟨_, rfl⟩)))))) (pss_one (ps_ret pe_bl)) pss_nil)
        (pss_one ps_never), ?_⟩
      refine ⟨_, rfl, (by show 2 ≤ sizeLine; decide), fun p np => ?_⟩
      refine ⟨v, p, _, _, _, _, rfl, upd_same, .cons (.ty "list") (.cons (.ty "tuple") .nil), TyX.same (same_new np) t.1, kit_listTuple t.2, _, rfl, ?_⟩
      rw [decide_eq_false h1, decide_eq_false h2]
      exact iteT (iteT (q _ (same_new np)))
    | @lst a _ e hx hl =>
      refine ⟨_, pss_cons (ps_if (PW.pt (pw_or (pt_not (pt_val (pe_callB call_isiT (by rfl) T.isi (by decide +kernel) (pa_cons (pv 0) (pa_cons (pe_tup (pa_cons (pe_bltn (v := .ty "list") (by rfl) T.list (by decide +kernel) rfl) (pa_cons (pe_bltn (v := .ty "tuple") (by rfl) T.tuple (by decide +kernel) rfl) pa_nil))) pa_nil)))))
          (pw_or1 (pt_not (pt_chain op_le op_le pe_int (pe_callB call_len_seq (by rfl) B.len PySem.boot_len (pa_cons (pv 0) pa_nil)) (pe_glob (v := .int 8) (by rfl) g1 ⟨_, rfl⟩)))))) (pss_one (ps_ret pe_bl)) pss_nil)
        (pss_one (ps_ret (pe_and (pe_callB (cr_all rfl) (by rfl) T.all (by decide +kernel) (pa_cons (pe_lc (own := [("person", 1)]) (g := gName 1) (by rfl) scArePeople.nd (pi_list (pv 0)) (blkOk_by (own := [("person", 1)]) (N := ["value", "person"]) (sc := defScope sArePeople) (by decide +kernel))
            (fun _ _ _ _ _ => pg_name (i := 1) scArePeople.nd rfl (Or.inl rfl)) (fun _ _ _ _ _ => pts_nil) (fun _ _ _ _ _ => pe_call GW (by exact hr) (by rfl) gW FW.kp bW .nil pass0 (pa_cons (pv 1) pa_nil))) pa_nil))
          (pe_one (pe_cmpR op_eq (pe_callB cr_lenK (by rfl) B.len PySem.boot_len (pa_cons (pe_callTy (cr_setK rfl) (by rfl) T.set (by decide +kernel) (pa_cons (pv 0) pa_nil)) pa_nil)) (pe_callB call_len_seq (by rfl) B.len PySem.boot_len (pa_cons (pv 0) pa_nil)) (nomark _)))))), ?_⟩
      refine ⟨_, rfl, (by show 2 ≤ sizeLine; decide), fun p np => ?_⟩
      refine ⟨_, p, _, _, _, _, rfl, upd_same, .cons (.ty "list") (.cons (.ty "tuple") .nil), .base (.lst (same_new np _ _ e)), kit_listTuple (by decide), _, rfl, ?_⟩
      refine iteF ?_
      generalize e1 : upd H p _ = H1
      have s1 : Same H H1 := e1 ▸ same_new np
      have ha1 := s1 _ _ e
      refine ⟨_, rfl, a, xs, rfl, .inl (SqL.of ha1), _, _, rfl, rfl, _, rfl, ite2 (fun c1 => ?_) (fun c1 => ?_)⟩
      · have h1 : 1 ≤ xs.length := by
          have := of_decide_eq_true c1
          omega
        refine ⟨_, _, rfl, rfl, _, rfl, ?_⟩
        by_cases h2 : xs.length ≤ 8
        · rw [show decide (((xs.length : Nat) : Int) ≤ 8) = true from decide_eq_true (by omega)]
          refine iteF ?_
          refine ⟨_, rfl, a, rfl, ⟨xs, SqL.of ha1⟩, fun D nD => ?_⟩
          refine lc_map (ys := (xs.map isW).map V.bl) (w := walk_list (K := K) (a := a) (xs := xs)) (by simp) (small1000 hl) nD (fun H2 s2 => SqL.of (s2 _ _ ha1)) (fun _ => rfl) (fun i x y H2 Q2 hxi hyi s2 k => ?_) (fun H2 s2 hD => ?_)
          · rw [List.getElem?_map, List.getElem?_map, hxi] at hyi
            obtain rfl := Option.some.inj hyi
            exact ⟨_, rfl, x, rfl, (hx x (List.mem_of_getElem? hxi)).same (s1.trans s2), fun H3 s3 => k H3 s3⟩
          · refine ⟨D, xs.map isW, rfl, SqL.of hD, _, rfl, ite2 (fun c2 => ?_) (fun c2 => ?_)⟩
            · have c3 : xs.all isW = true := by
                rw [List.all_map] at c2
                exact c2
              obtain ⟨zs, rfl⟩ := strs_of_isW c3
              refine ⟨_, rfl, a, zs.map Sum.inr, rfl, .inl (by rw [← keys_of_strs]; exact SqL.of (s2 _ _ ha1)), (by rw [List.length_map] at hl ⊢; exact hl), fun r nr => ?_⟩
              refine ⟨r, _, _, rfl, upd_same, ?_, _, rfl, a, _, rfl, .inl (SqL.of (same_new nr _ _ (s2 _ _ ha1))), rfl, ?_⟩
              · have := Km.uniq_le (zs.map (Sum.inr : Str → Key))
                rw [List.length_map] at this hl
                omega
              · rw [uniq_strs]
                have e2 : peopleB (zs.map V.str) = decide (zs.map V.str).Nodup := by
                  show ((decide (1 ≤ (zs.map V.str).length) && decide ((zs.map V.str).length ≤ 8)) && ((zs.map V.str).all isW && _)) = _
                  rw [decide_eq_true h1, decide_eq_true h2, c3, Bool.true_and, Bool.true_and, Bool.true_and]
                rw [← e2]
                exact q _ ((s1.trans s2).trans (same_new nr))
            · have e2 : peopleB xs = false := by
                show ((decide (1 ≤ xs.length) && decide (xs.length ≤ 8)) && (xs.all isW && _)) = _
                have : xs.all isW = false := by
                  cases z : xs.all isW with
                  | false => rfl
                  | true =>
                    refine absurd ?_ c2
                    rw [List.all_map]
                    exact z
                rw [this, Bool.false_and, Bool.and_false]
              rw [e2] at q
              exact q H2 (s1.trans s2)
        · rw [show decide (((xs.length : Nat) : Int) ≤ 8) = false from decide_eq_false (by omega)]
          refine iteT ?_
          have e2 : peopleB xs = false := by
            show ((decide (1 ≤ xs.length) && decide (xs.length ≤ 8)) && _) = false
            rw [decide_eq_false h2, Bool.and_false, Bool.false_and]
          rw [e2] at q
          exact q H1 s1
      · have h1 : ¬ 1 ≤ xs.length := fun h => c1 (decide_eq_true (by omega))
        refine ⟨_, rfl, iteT ?_⟩
        have e2 : peopleB xs = false := by
          show ((decide (1 ≤ xs.length) && decide (xs.length ≤ 8)) && _) = false
          rw [decide_eq_false h1, Bool.false_and, Bool.false_and]
        rw [e2] at q
        exact q H1 s1
    | @tup a _ e hx hl =>
      refine ⟨_, pss_cons (ps_if (PW.pt (pw_or (pt_not (pt_val (pe_callB call_isiT (by rfl) T.isi (by decide +kernel) (pa_cons (pv 0) (pa_cons (pe_tup (pa_cons (pe_bltn (v := .ty "list") (by rfl) T.list (by decide +kernel) rfl) (pa_cons (pe_bltn (v := .ty "tuple") (by rfl) T.tuple (by decide +kernel) rfl) pa_nil))) pa_nil)))))
          (pw_or1 (pt_not (pt_chain op_le op_le pe_int (pe_callB call_len_seq (by rfl) B.len PySem.boot_len (pa_cons (pv 0) pa_nil)) (pe_glob (v := .int 8) (by rfl) g1 ⟨_, rfl⟩)))))) (pss_one (ps_ret pe_bl)) pss_nil)
        (pss_one (ps_ret (pe_and (pe_callB (cr_all rfl) (by rfl) T.all (by decide +kernel) (pa_cons (pe_lc (own := [("person", 1)]) (g := gName 1) (by rfl) scArePeople.nd (pi_tup (pv 0)) (blkOk_by (own := [("person", 1)]) (N := ["value", "person"]) (sc := defScope sArePeople) (by decide +kernel))
            (fun _ _ _ _ _ => pg_name (i := 1) scArePeople.nd rfl (Or.inl rfl)) (fun _ _ _ _ _ => pts_nil) (fun _ _ _ _ _ => pe_call GW (by exact hr) (by rfl) gW FW.kp bW .nil pass0 (pa_cons (pv 1) pa_nil))) pa_nil))
          (pe_one (pe_cmpR op_eq (pe_callB cr_lenK (by rfl) B.len PySem.boot_len (pa_cons (pe_callTy (cr_setK rfl) (by rfl) T.set (by decide +kernel) (pa_cons (pv 0) pa_nil)) pa_nil)) (pe_callB call_len_seq (by rfl) B.len PySem.boot_len (pa_cons (pv 0) pa_nil)) (nomark _)))))), ?_⟩
      refine ⟨_, rfl, (by show 2 ≤ sizeLine; decide), fun p np => ?_⟩
      refine ⟨_, p, _, _, _, _, rfl, upd_same, .cons (.ty "list") (.cons (.ty "tuple") .nil), .base (.tup (same_new np _ _ e)), kit_listTuple (by decide), _, rfl, ?_⟩
      refine iteF ?_
      generalize e1 : upd H p _ = H1
      have s1 : Same H H1 := e1 ▸ same_new np
      have ha1 := s1 _ _ e
      refine ⟨_, rfl, a, xs, rfl, .inr (SqT.of ha1), _, _, rfl, rfl, _, rfl, ite2 (fun c1 => ?_) (fun c1 => ?_)⟩
      · have h1 : 1 ≤ xs.length := by
          have := of_decide_eq_true c1
          omega
        refine ⟨_, _, rfl, rfl, _, rfl, ?_⟩
        by_cases h2 : xs.length ≤ 8
        · rw [show decide (((xs.length : Nat) : Int) ≤ 8) = true from decide_eq_true (by omega)]
          refine iteF ?_
          refine ⟨_, rfl, a, rfl, ⟨xs, SqT.of ha1⟩, fun D nD => ?_⟩
          refine lc_map (ys := (xs.map isW).map V.bl) (w := walk_tup (K := K) (a := a) (xs := xs)) (by simp) (small1000 hl) nD (fun H2 s2 => SqT.of (s2 _ _ ha1)) (fun _ => rfl) (fun i x y H2 Q2 hxi hyi s2 k => ?_) (fun H2 s2 hD => ?_)
          · rw [List.getElem?_map, List.getElem?_map, hxi] at hyi
            obtain rfl := Option.some.inj hyi
            exact ⟨_, rfl, x, rfl, (hx x (List.mem_of_getElem? hxi)).same (s1.trans s2), fun H3 s3 => k H3 s3⟩
          · refine ⟨D, xs.map isW, rfl, SqL.of hD, _, rfl, ite2 (fun c2 => ?_) (fun c2 => ?_)⟩
            · have c3 : xs.all isW = true := by
                rw [List.all_map] at c2
                exact c2
              obtain ⟨zs, rfl⟩ := strs_of_isW c3
              refine ⟨_, rfl, a, zs.map Sum.inr, rfl, .inr (by rw [← keys_of_strs]; exact SqT.of (s2 _ _ ha1)), (by rw [List.length_map] at hl ⊢; exact hl), fun r nr => ?_⟩
              refine ⟨r, _, _, rfl, upd_same, ?_, _, rfl, a, _, rfl, .inr (SqT.of (same_new nr _ _ (s2 _ _ ha1))), rfl, ?_⟩
              · have := Km.uniq_le (zs.map (Sum.inr : Str → Key))
                rw [List.length_map] at this hl
                omega
              · rw [uniq_strs]
                have e2 : peopleB (zs.map V.str) = decide (zs.map V.str).Nodup := by
                  show ((decide (1 ≤ (zs.map V.str).length) && decide ((zs.map V.str).length ≤ 8)) && ((zs.map V.str).all isW && _)) = _
                  rw [decide_eq_true h1, decide_eq_true h2, c3, Bool.true_and, Bool.true_and, Bool.true_and]
                rw [← e2]
                exact q _ ((s1.trans s2).trans (same_new nr))
            · have e2 : peopleB xs = false := by
                show ((decide (1 ≤ xs.length) && decide (xs.length ≤ 8)) && (xs.all isW && _)) = _
                have : xs.all isW = false := by
                  cases z : xs.all isW with
                  | false => rfl
                  | true =>
                    refine absurd ?_ c2
                    rw [List.all_map]
                    exact z
                rw [this, Bool.false_and, Bool.and_false]
              rw [e2] at q
              exact q H2 (s1.trans s2)
        · rw [show decide (((xs.length : Nat) : Int) ≤ 8) = false from decide_eq_false (by omega)]
          refine iteT ?_
          have e2 : peopleB xs = false := by
            show ((decide (1 ≤ xs.length) && decide (xs.length ≤ 8)) && _) = false
            rw [decide_eq_false h2, Bool.and_false, Bool.false_and]
          rw [e2] at q
          exact q H1 s1
      · have h1 : ¬ 1 ≤ xs.length := fun h => c1 (decide_eq_true (by omega))
        refine ⟨_, rfl, iteT ?_⟩
        have e2 : peopleB xs = false := by
          show ((decide (1 ≤ xs.length) && decide (xs.length ≤ 8)) && _) = false
          rw [decide_eq_false h1, Bool.false_and, Bool.false_and]
        rw [e2] at q
        exact q H1 s1
end

section
variable {P : Program} {w : World} {K : PySem.W.Frag} {mg : Str → Option Value} {base : Heap}
theorem ok_badCrowdInit {f C : Addr} {fd : FuncData} (F : Fun K "__init__" "BadCrowd.__init__" sBadCrowdInit f fd) : FnOk P w K mg base CX0 1 f fd ["self", "part"] (spErrInit K C "part") := by
  refine F.ok scBadCrowdInit (fun vs H Q E h => ?_) (fun cdv A outer s H vs Q E hr h => ?_)
  · obtain ⟨a, v, rfl, _⟩ := h
    rfl
  · obtain ⟨a, v, rfl, ox, nf, ha, q⟩ := h
    refine ⟨_, pss_one (ps_ost (f := "part") (pv 0) (pv 1)), ?_⟩
    exact ⟨_, rfl, _, rfl, a, C, rfl, ox, nf, .inl ⟨ha, fun d nd ne => q d nd ne⟩⟩
theorem ok_crowdInit {f fA fN fB C CB : Addr} {fd fdA fdN fdB : FuncData} (F : Fun K "__init__" "Crowd.__init__" sCrowdInit f fd)
    (GA : FnOk P w K mg base CX0 2 fA fdA ["value"] (spArePeople K)) (kA : PySem.W.keepIn K (.ref fA) = true) (bA : Binds K fdA ["value"] []) (gA : mg "are_people" = some (.ref fA))
    (GN : FnOk P w K mg base CX0 2 fN fdN ["value", "least", "most"] (spWithin K)) (kN : PySem.W.keepIn K (.ref fN) = true) (bN : Binds K fdN ["value", "least", "most"] []) (gN : mg "is_integer_within" = some (.ref fN))
    (GB : FnOk P w K mg base CX0 1 fB fdB ["self", "part"] (spErrInit K CB "part")) (bB : Binds K fdB ["self", "part"] []) (iB : PySem.W.findIn K (.ref CB) "__init__" = some (some (.ref fB))) (tB : PySem.W.typeIn K (.ref fB) = some (.type "function"))
    (EB : Er K mg "BadCrowd" CB) (nf : PySem.W.findIn K (.ref CB) "part" = some none) (cl : Cls K C) (n1 : NoAttr K C "_people") (n2 : NoAttr K C "most") (T : Tx mg) :
    FnOk P w K mg base (L2.CX P w) 3 f fd ["self", "people", "most"] (spCrowdInit K C CB) := by
  obtain ⟨t1, g1⟩ := T.greatest
  refine F.okX scCrowdInit (fun vs H Q E h => ?_) (fun cdv A outer s H vs Q E hr h => ?_)
  · obtain ⟨x, dx, v, m, b, xs, rfl, _⟩ := h
    rfl
  · obtain ⟨x, dx, v, m, b, xs, rfl, hx, ha, ⟨N, tm⟩, qp, qm, q⟩ := h
    refine ⟨_, pss_cons (ps_if (pt_not (pt_val (pe_call GA hr (by rfl) gA kA bA .nil pass0 (pa_cons (pv 1) pa_nil)))) (pss_one (ps_raise rfl (takes_of rfl rfl rfl rfl) (pmk_oex EB.ox iB tB GB hr bB .nil pass0 (by rfl) EB.g (pa_cons pe_str pa_nil)))) pss_nil)
      (pss_cons (ps_if (pt_not (pt_val (pe_call GN hr (by rfl) gN kN bN .nil pass0 (pa_cons (pv 2) (pa_cons pe_int (pa_cons (pe_glob (v := .int 10) (by rfl) g1 ⟨_, rfl⟩) pa_nil)))))) (pss_one (ps_raise rfl (takes_of rfl rfl rfl rfl) (pmk_oex EB.ox iB tB GB hr bB .nil pass0 (by rfl) EB.g (pa_cons pe_str pa_nil)))) pss_nil)
      (pss_cons (ps_fld (pv 0) (pe_callTy call_list_of (by rfl) T.list (by decide +kernel) (pa_cons (pv 1) pa_nil)) rfl)
      (pss_one (ps_fld (pv 0) (pv 2) rfl)))), ?_⟩
    refine ⟨_, rfl, v, b, xs, rfl, ha, fun H1 s1 => ⟨b, rfl, ?_⟩⟩
    cases b with
    | false =>
      refine iteT ⟨(by show 1 ≤ 1000; decide), fun a na => ⟨a, _, rfl, EB.ox, nf, upd_same, fun d nd nda => ?_⟩⟩
      have nd1 : H1 d = none := by
        rw [upd_ne nda] at nd
        exact nd
      refine ⟨rfl, d, _, upd_same, by rw [upd_ne nda, upd_same], nd1, ?_⟩
      obtain ⟨r1, r2, r3⟩ := raised_mk (C := CB) (f := "part") (v := V.str "people") na nd1 nda
      exact qp rfl _ d ⟨s1.trans r1, s1.free r2, r3⟩
    | true =>
      refine iteF ?_
      refine ⟨_, rfl, m, 1, 10, rfl, ⟨N, tm.same s1⟩, _, rfl, ?_⟩
      cases hm : markB 1 10 m with
      | false =>
        refine iteT ⟨(by show 1 ≤ 1000; decide), fun a na => ⟨a, _, rfl, EB.ox, nf, upd_same, fun d nd nda => ?_⟩⟩
        have nd1 : H1 d = none := by
          rw [upd_ne nda] at nd
          exact nd
        refine ⟨rfl, d, _, upd_same, by rw [upd_ne nda, upd_same], nd1, ?_⟩
        obtain ⟨r1, r2, r3⟩ := raised_mk (C := CB) (f := "part") (v := V.str "most") na nd1 nda
        exact qm rfl hm _ d ⟨s1.trans r1, s1.free r2, r3⟩
      | true =>
        refine iteF ?_
        obtain ⟨i, rfl⟩ : ∃ i, m = .int i := by
          cases m with
          | int i => exact ⟨i, rfl⟩
          | _ => cases hm
        obtain ⟨l, rfl, hl⟩ := (ha.same s1).seq rfl
        refine ⟨_, rfl, l, xs, rfl, hl, fun p np => ?_⟩
        generalize e2 : upd H1 p _ = H2
        have s2 : Same H1 H2 := e2 ▸ same_new np
        have hp : H2 p = some (.lst xs) := e2 ▸ upd_same
        have hx2 := s2 _ _ (s1 _ _ hx)
        have npx : p ≠ x := ne_of hp hx2 (by intro z; cases z)
        refine ⟨_, rfl, x, C, dx, [], rfl, hx2, cl, n1, (by show 0 < 1000; decide), ?_⟩
        refine ⟨_, rfl, _, rfl, x, C, dx, _, rfl, upd_same, cl, n2, (by show 1 < 1000; decide), ?_⟩
        refine q rfl i rfl hm _ ?_ ⟨dx, p, by rw [upd_same, putF_new, crowd_put], by rw [upd_ne npx, upd_ne npx]; exact hp⟩
        exact ((But.of_same (s1.trans s2)).trans But.upd).trans But.upd
end

/-! ### a crowd's methods -/
section
variable {P : Program} {w : World} {K : PySem.W.Frag} {mg : Str → Option Value} {base : Heap} {C CN : Addr}
theorem ok_crowdPeople {f : Addr} {fd : FuncData} (F : Fun K "people" "Crowd.people" sCrowdPeople f fd) (cl : Cls K C) (n1 : NoAttr K C "_people") (T : Tx mg) : FnOk P w K mg base CX0 1 f fd ["self"] (spCrowdPeople C) := by
  refine F.ok scCrowdPeople (fun vs H Q E h => ?_) (fun cdv A outer s H vs Q E hr h => ?_)
  · obtain ⟨x, zs, m, rfl, _⟩ := h
    rfl
  · obtain ⟨x, zs, m, rfl, ⟨dx, l, hx, hl⟩, len, q⟩ := h
    refine ⟨_, pss_one (ps_ret (pe_callTy call_list_of (by rfl) T.list (by decide +kernel) (pa_cons (pe_fld (pv 0) rfl) pa_nil))), ?_⟩
    exact ⟨_, rfl, x, C, dx, _, _, rfl, hx, cl, n1, rfl, l, _, rfl, .inl (SqL.of hl), fun p np => q _ p (same_new np) np upd_same⟩
theorem ok_crowdLen {f : Addr} {fd : FuncData} (F : Fun K "__len__" "Crowd.__len__" sCrowdLen f fd) (cl : Cls K C) (n1 : NoAttr K C "_people") (B : Bt mg) : FnOk P w K mg base CX0 1 f fd ["self"] (spCrowdLen C) := by
  refine F.ok scCrowdLen (fun vs H Q E h => ?_) (fun cdv A outer s H vs Q E hr h => ?_)
  · obtain ⟨x, zs, m, rfl, _⟩ := h
    rfl
  · obtain ⟨x, zs, m, rfl, ⟨dx, l, hx, hl⟩, q⟩ := h
    refine ⟨_, pss_one (ps_ret (pe_callB call_len_seq (by rfl) B.len PySem.boot_len (pa_cons (pe_fld (pv 0) rfl) pa_nil))), ?_⟩
    refine ⟨_, rfl, x, C, dx, _, _, rfl, hx, cl, n1, rfl, l, _, rfl, .inl (SqL.of hl), ?_⟩
    rw [List.length_map]
    exact q
theorem ok_crowdHas {f : Addr} {fd : FuncData} (F : Fun K "__contains__" "Crowd.__contains__" sCrowdContains f fd) (cl : Cls K C) (n1 : NoAttr K C "_people") (T : Tx mg) : FnOk P w K mg base CX0 1 f fd ["self", "x"] (spCrowdHas K C) := by
  refine F.ok scCrowdContains (fun vs H Q E h => ?_) (fun cdv A outer s H vs Q E hr h => ?_)
  · obtain ⟨x, v, zs, m, N, rfl, _⟩ := h
    rfl
  · obtain ⟨x, v, zs, m, N, rfl, ⟨dx, l, hx, hl⟩, ⟨ty, hk⟩, q⟩ := h
    refine ⟨_, pss_one (ps_ret (pe_and (pe_callB call_isi (by rfl) T.isi (by decide +kernel) (pa_cons (pv 1) (pa_cons (pe_bltn (v := .ty "str") (by rfl) T.str (by decide +kernel) rfl) pa_nil)))
      (pe_one (pe_cmpR op_in_seq (pv 1) (pe_fld (pv 0) rfl) (by rfl))))), ?_⟩
    refine ⟨_, rfl, v, .ty "str", _, _, _, rfl, .ty "str", ty, kit_ty (kit_str hk), _, rfl, ite2 (fun c => ?_) (fun c => ?_)⟩
    · obtain ⟨z, rfl⟩ := ty_str' ty (by rw [of_decide_eq_true c])
      refine ⟨_, rfl, _, rfl, x, C, dx, _, _, rfl, hx, cl, n1, rfl, l, _, rfl, .inl (SqL.of hl), rfl, all_flat_strs zs, ?_⟩
      show Q (.bl (inV _ _)) H
      rw [inV_strs]
      exact q
    · have e : hasB v zs = false := by
        cases v with
        | str z =>
          cases ty with
          | base b => cases b; exact absurd (decide_eq_true rfl) c
        | _ => rfl
      rw [e] at q
      exact q
theorem ok_crowdEq {f : Addr} {fd : FuncData} (F : Fun K "__eq__" "Crowd.__eq__" sCrowdEq f fd) (cl : Cls K C) (n1 : NoAttr K C "_people") (n2 : NoAttr K C "most") (gC : mg "Crowd" = some (.ref C)) (k1 : PySem.W.kitOne K (.ref C) (.ref C) = some true)
    (k2 : PySem.W.kitOne K (.type "list") (.ref C) = some false) (io : IsOwn K C) (T : Tx mg) : FnOk P w K mg base CX0 1 f fd ["self", "other"] (spCrowdEq K C) := by
  refine F.ok scCrowdEq (fun vs H Q E h => ?_) (fun cdv A outer s H vs Q E hr h => ?_)
  · obtain ⟨x, y, zs, m, rfl, _⟩ := h
    rfl
  · obtain ⟨x, y, zs, m, rfl, ⟨dx, l, hx, hl⟩, oz, h⟩ := h
    refine ⟨_, pss_one (ps_ret (pe_and (pe_callB call_isi (by rfl) T.isi (by decide +kernel) (pa_cons (pv 1) (pa_cons (pe_glob (v := .ref C) (by rfl) gC rfl) pa_nil)))
      (pe_and (pe_cmpR op_eq (pe_fld (pv 0) rfl) (pe_fld (pv 1) rfl) (nomark _)) (pe_one (pe_cmpR (op_eqD hr.units) (pe_fld (pv 0) rfl) (pe_fld (pv 1) rfl) (nomark _)))))), ?_⟩
    rcases h with ⟨ys, n, ⟨dy, k, hy, hk⟩, oy, q⟩ | ⟨⟨ys, hy⟩, q⟩
    · refine ⟨_, rfl, .ref y, .ref C, _, _, _, rfl, .own C, io.ty hy, k1, _, rfl, iteT ?_⟩
      refine ⟨_, rfl, x, C, dx, _, _, rfl, hx, cl, n2, rfl, _, rfl, y, C, dy, _, _, rfl, hy, cl, n2, rfl, rfl, _, rfl, ite2 (fun c => ?_) (fun c => ?_)⟩
      · have e : m = n := by
          have := of_decide_eq_true c
          cases this
          rfl
        subst e
        refine ⟨_, rfl, x, C, dx, _, _, rfl, hx, cl, n1, rfl, _, rfl, y, C, dy, _, _, rfl, hy, cl, n1, rfl, _, _, .lst (SqL.of hl) (dp_strs zs), .lst (SqL.of hk) (dp_strs ys), shaped_strs oz, shaped_strs oy, ?_⟩
        rw [eqv_strs]
        rw [decide_eq_true rfl, Bool.true_and] at q
        exact q
      · have e : ¬ m = n := fun e => c (by rw [e]; exact decide_eq_true rfl)
        rw [decide_eq_false e, Bool.false_and] at q
        exact q
    · refine ⟨_, rfl, .ref y, .ref C, _, _, _, rfl, .own C, .base (.lst hy), k2, _, rfl, iteF q⟩
theorem ok_NotThereInit {f D : Addr} {fd : FuncData} (F : Fun K "__init__" "NotThere.__init__" sNotThereInit f fd) : FnOk P w K mg base CX0 1 f fd ["self", "word"] (spEcInit K D "word") := by
  refine F.ok scNotThereInit (fun vs H Q E h => ?_) (fun cdv A outer s H vs Q E hr h => ?_)
  · obtain ⟨a, v, rfl, _⟩ := h
    rfl
  · obtain ⟨a, v, rfl, T, nf, ha, q⟩ := h
    refine ⟨_, pss_one (ps_ec (f := "word") (pv 0) (pv 1)), ?_⟩
    exact ⟨_, rfl, _, rfl, a, D, rfl, T, nf, ha, fun d nd ne => q d nd ne⟩
theorem ok_needPerson {f fH fI : Addr} {fd fdH fdI : FuncData} (F : Fun K "need_person" "need_person" sNeedPerson f fd) (GH : FnOk P w K mg base CX0 1 fH fdH ["self", "x"] (spCrowdHas K C)) (hs : PySem.W.findIn K (.ref C) "__contains__" = some (some (.ref fH)))
    (hf : PySem.W.isFn K (.ref fH) = true) (bH : Binds K fdH ["self", "x"] []) (TN : EcC K CN) (gN : mg "NotThere" = some (.ref CN)) (no : PySem.W.findIn K (.ref CN) "word" = some none) (iN : PySem.W.findIn K (.ref CN) "__init__" = some (some (.ref fI)))
    (tN : PySem.W.typeIn K (.ref fI) = some (.type "function")) (GI : FnOk P w K mg base CX0 1 fI fdI ["self", "word"] (spEcInit K CN "word")) (bI : Binds K fdI ["self", "word"] []) : FnOk P w K mg base (L2.CX P w) 3 f fd ["crowd", "person"] (spNeed K C CN) := by
  refine F.okX scNeedPerson (fun vs H Q E h => ?_) (fun cdv A outer s H vs Q E hr h => ?_)
  · obtain ⟨x, v, zs, m, N, rfl, _⟩ := h
    rfl
  · obtain ⟨x, v, zs, m, N, rfl, hc, ty, q1, q2⟩ := h
    refine ⟨_, pss_one (ps_if (pt_cmpR (op_notInOwn (E := fun _ _ _ => False) hs hf GH (hr.mono (by decide)) bH pass0) (pv 1) (pv 0) (by rfl)) (pss_one (ps_raise rfl (takes_of rfl rfl rfl rfl) (pmk_ec TN iN tN GI hr bI pass0 (by rfl) gN (pa_cons (pv 1) pa_nil)))) pss_nil), ?_⟩
    obtain ⟨dx, l, hx, hl⟩ := id hc
    refine ⟨_, rfl, _, rfl, x, dx, _, rfl, hx, x, v, zs, m, N, rfl, hc, ty, hasB v zs, rfl, _, rfl, ?_⟩
    cases e : hasB v zs with
    | true => exact iteF (q1 e)
    | false =>
      refine iteT ⟨_, rfl, (by show 1 ≤ 1000; decide), fun a na => ⟨a, _, rfl, TN, no, upd_same, fun d nd nda => ?_⟩⟩
      have nd1 : H d = none := by
        rw [upd_ne nda] at nd
        exact nd
      refine ⟨rfl, d, _, upd_same, by rw [upd_ne nda, upd_same], nd1, ?_⟩
      exact q2 e _ d (raised_mk (C := CN) (f := "word") (v := v) na nd1 nda)
theorem ok_crowdPlace {f fN : Addr} {fd fdN : FuncData} (F : Fun K "place" "Crowd.place" sCrowdPlace f fd) (GN : FnOk P w K mg base (L2.CX P w) 3 fN fdN ["crowd", "person"] (spNeed K C CN)) (kN : PySem.W.keepIn K (.ref fN) = true) (bN : Binds K fdN ["crowd", "person"] [])
    (gN : mg "need_person" = some (.ref fN)) (cl : Cls K C) (n1 : NoAttr K C "_people") : FnOk P w K mg base (L2.CX P w) 4 f fd ["self", "person"] (spPlace K C CN) := by
  refine F.okX scCrowdPlace (fun vs H Q E h => ?_) (fun cdv A outer s H vs Q E hr h => ?_)
  · obtain ⟨x, v, zs, m, N, rfl, _⟩ := h
    rfl
  · obtain ⟨x, v, zs, m, N, rfl, hc, ty, q1, q2⟩ := h
    refine ⟨_, pss_cons (ps_expr (pe_call GN hr (by rfl) gN kN bN .nil (passes_call (takes_of rfl rfl rfl rfl) fun _ _ _ _ h => h) (pa_cons (pv 0) (pa_cons (pv 1) pa_nil))))
      (pss_one (ps_ret (pe_bm PySem.F.plainAttrs_list PySem.F.slot_list_index PySem.F.type_list_index mt_index (pe_fld (pv 0) rfl) (pa_cons (pv 1) pa_nil)))), ?_⟩
    refine ⟨_, rfl, _, rfl, x, v, zs, m, N, rfl, hc, ty, fun e => ?_, fun e H2 d hR => q2 e H2 d hR⟩
    obtain ⟨dx, l, hx, hl⟩ := hc
    obtain ⟨z, rfl, hz⟩ : ∃ z, v = .str z ∧ z ∈ zs := by
      cases v with
      | str z => exact ⟨z, rfl, of_decide_eq_true e⟩
      | _ => cases e
    have hi := List.idxOf_lt_length_of_mem hz
    refine ⟨_, rfl, x, C, dx, _, _, rfl, hx, cl, n1, rfl, .inl ⟨rfl, _, SqL.of hl⟩, _, rfl, l, zs.map V.str, .str z, zs.idxOf z, .str z, rfl, rfl, SqL.of hl, rfl, all_flat_strs zs, ?_, ?_, fun j z2 hj hz2 => ?_, q1 _ z rfl rfl hz⟩
    · rw [List.getElem?_map, List.getElem?_eq_getElem hi, List.getElem_idxOf]
      rfl
    · show (z == z) = true
      exact beq_self_eq_true z
    · rw [List.getElem?_map] at hz2
      have hj2 : j < zs.length := by omega
      rw [List.getElem?_eq_getElem hj2] at hz2
      obtain rfl := Option.some.inj hz2
      show (zs[j] == z) = false
      have := List.not_of_lt_findIdx (p := (· == z)) (xs := zs) hj
      simpa using this
theorem ok_crowdIsPair {f fH : Addr} {fd fdH : FuncData} (F : Fun K "is_pair" "Crowd.is_pair" sCrowdIsPair f fd) (GH : FnOk P w K mg base CX0 1 fH fdH ["self", "x"] (spCrowdHas K C)) (hs : PySem.W.findIn K (.ref C) "__contains__" = some (some (.ref fH)))
    (hf : PySem.W.isFn K (.ref fH) = true) (bH : Binds K fdH ["self", "x"] []) (B : Bt mg) (T : Tx mg) : FnOk P w K mg base CX0 2 f fd ["self", "value"] (spIsPair K C) := by
  refine F.ok scCrowdIsPair (fun vs H Q E h => ?_) (fun cdv A outer s H vs Q E hr h => ?_)
  · obtain ⟨x, v, zs, m, b, rfl, _⟩ := h
    rfl
  · obtain ⟨x, v, zs, m, b, rfl, hc, pa, q⟩ := h
    obtain ⟨dx, l, hx, hl⟩ := id hc
    refine ⟨_, pss_cons (ps_if (PW.pt (pw_or (pt_not (pt_val (pe_callB call_isi (by rfl) T.isi (by decide +kernel) (pa_cons (pv 1) (pa_cons (pe_bltn (v := .ty "tuple") (by rfl) T.tuple (by decide +kernel) rfl) pa_nil)))))
        (pw_or1 (pt_cmpR op_ne (pe_callB call_len_seq (by rfl) B.len PySem.boot_len (pa_cons (pv 1) pa_nil)) pe_int (nomark _))))) (pss_one (ps_ret pe_bl)) pss_nil)
      (pss_one (ps_ret (pe_and (pe_cmpR (op_inOwn (E := fun _ _ _ => False) hs hf GH hr bH pass0) (pe_ix ix_tup (pv 1) pe_int (fun _ _ => rfl)) (pv 0) (by rfl))
        (pe_and (pe_cmpR (op_inOwn (E := fun _ _ _ => False) hs hf GH hr bH pass0) (pe_ix ix_tup (pv 1) pe_int (fun _ _ => rfl)) (pv 0) (by rfl)) (pe_one (pe_cmpR op_ne (pe_ix ix_tup (pv 1) pe_int (fun _ _ => rfl)) (pe_ix ix_tup (pv 1) pe_int (fun _ _ => rfl)) (nomark _))))))), ?_⟩
    cases pa with
    | @no _ N ty h =>
      refine ⟨_, rfl, v, .ty "tuple", _, _, _, rfl, .ty "tuple", ty.1, kit_ty (kit_tuple ty.2), _, rfl, ?_⟩
      rw [decide_eq_false h]
      exact iteT (iteT q)
    | @len p xs e h =>
      refine ⟨_, rfl, .ref p, .ty "tuple", _, _, _, rfl, .ty "tuple", .base (.tup e), kit_ty (kit_tuple (by decide)), _, rfl, ?_⟩
      refine iteF ⟨_, rfl, p, xs, rfl, .inr (SqT.of e), rfl, _, rfl, ?_⟩
      rw [decide_eq_false (fun z => h (by have := V.int.inj z; omega))]
      exact iteT q
    | @two p a b S T2 e ts tt =>
      refine ⟨_, rfl, .ref p, .ty "tuple", _, _, _, rfl, .ty "tuple", .base (.tup e), kit_ty (kit_tuple (by decide)), _, rfl, ?_⟩
      refine iteF ⟨_, rfl, p, [a, b], rfl, .inr (SqT.of e), rfl, _, rfl, ?_⟩
      rw [show decide (V.int (([a, b] : List V).length : Nat) = V.int 2) = true from decide_eq_true rfl]
      refine iteF ?_
      refine ⟨_, rfl, p, [a, b], 0, a, rfl, rfl, SqT.of e, rfl, _, rfl, x, dx, _, rfl, hx, x, a, zs, m, S, rfl, hc, ts, _, rfl, _, rfl, ?_⟩
      unfold isPairB at q
      cases h1 : hasB a zs with
      | false =>
        rw [h1] at q
        exact iteF q
      | true =>
        rw [h1] at q
        refine iteT ⟨_, rfl, p, [a, b], 1, b, rfl, rfl, SqT.of e, rfl, _, rfl, x, dx, _, rfl, hx, x, b, zs, m, T2, rfl, hc, tt, _, rfl, _, rfl, ?_⟩
        cases h2 : hasB b zs with
        | false =>
          rw [h2] at q
          exact iteF q
        | true =>
          rw [h2] at q
          refine iteT ⟨_, rfl, p, [a, b], 0, a, rfl, rfl, SqT.of e, rfl, _, rfl, p, [a, b], 1, b, rfl, rfl, SqT.of e, rfl, ?_, q⟩
          cases a with
          | str z =>
            cases b with
            | str y => rfl
            | _ => cases h2
          | _ => cases h1
end

section
variable {P : Program} {w : World} {K : PySem.W.Frag} {mg : Str → Option Value} {base : Heap} {C : Addr}
theorem ok_crowdPairs {f : Addr} {fd : FuncData} (F : Fun K "pairs" "Crowd.pairs" sCrowdPairs f fd) (cl : Cls K C) (n1 : NoAttr K C "_people") : FnOk P w K mg base CX0 1 f fd ["self"] (spCrowdPairs C) := by
  refine F.ok scCrowdPairs (fun vs H Q E h => ?_) (fun cdv A outer s H vs Q E hr h => ?_)
  · obtain ⟨x, zs, m, rfl, _⟩ := h
    rfl
  · obtain ⟨x, zs, m, rfl, ⟨dx, l, hx, hl⟩, len, q⟩ := h
    refine ⟨_, pss_one (ps_ret (by
      refine' pe_lc2 (own := [("marker", 1), ("marked", 2)]) (vs1 := [2]) (wi1 := iList K (tFld K (tVar 0) "_people")) (g := gName 1) (g1 := gName 2) (by rfl) scCrowdPairs.nd ?h1 (blkOk_by (own := [("marker", 1), ("marked", 2)]) (N := ["self", "marker", "marked"]) (sc := defScope sCrowdPairs) (by decide +kernel)) (by decide) (fun _ _ _ _ _ => pg_name (i := 1) scCrowdPairs.nd rfl (Or.inl rfl)) (fun _ _ _ _ _ => pts_nil) ?h2 (fun _ _ _ _ _ => pg_name (i := 2) scCrowdPairs.nd rfl (Or.inl rfl)) ?h3 ?h4
      (case h1 => exact pi_list (pe_fld (pv 0) rfl))
      (case h2 => intro _ _ _ _ _; exact pi_list (pe_fld (pv 0) rfl))
      (case h3 => intro _ _ _ _ _; exact pts_one (pt_cmpR op_ne (pv 1) (pv 2) (nomark _)))
      (case h4 => intro _ _ _ _ _; exact pe_tup (pa_cons (pv 1) (pa_cons (pv 2) pa_nil))))), ?_⟩
    refine ⟨_, rfl, x, C, dx, _, _, rfl, hx, cl, n1, rfl, l, rfl, ⟨_, SqL.of hl⟩, fun D nD => ?_⟩
    refine nest_it (walk_list (K := K) (a := l) (xs := zs.map V.str)) (fun i G => Same H G ∧ ∃ acc, G D = some (.lst acc) ∧ Tups D G acc ((zs.take i).flatMap (rowOf zs))) ⟨same_new nD, [], upd_same, rfl, fun j y q h => by simp at h⟩ (fun i G _ h => SqL.of (h.1 _ _ hl)) ?_ ?_
    · rintro i z G G2 hi ⟨sG, acc, hD, tp⟩ ⟨rfl, hz⟩
      rw [List.getElem?_map] at hz
      rw [List.length_map] at hi
      rw [List.getElem?_eq_getElem hi] at hz
      obtain rfl := Option.some.inj hz
      have ha := List.getElem?_eq_getElem hi
      generalize zs[i] = a at ha
      refine ⟨rfl, ?_⟩
      unfold tYes
      dsimp only
      rw [if_pos rfl]
      refine ⟨_, rfl, x, C, dx, _, _, rfl, sG _ _ hx, cl, n1, rfl, l, rfl, ⟨_, SqL.of (sG _ _ hl)⟩, ?_⟩
      refine nest_it (walk_list (K := K) (a := l) (xs := zs.map V.str)) (fun j G => Same H G ∧ ∃ acc, G D = some (.lst acc) ∧ Tups D G acc ((zs.take i).flatMap (rowOf zs) ++ ((zs.take j).filter fun c => a ≠ c).map fun b => (a, b))) ⟨sG, acc, hD, by simpa using tp⟩ (fun j G _ h => SqL.of (h.1 _ _ hl)) ?_ ?_
      · rintro j z G3 G4 hj ⟨s3, acc3, hD3, tp3⟩ ⟨rfl, hz⟩
        rw [List.getElem?_map] at hz
        rw [List.length_map] at hj
        rw [List.getElem?_eq_getElem hj] at hz
        obtain rfl := Option.some.inj hz
        have hb := List.getElem?_eq_getElem hj
        generalize zs[j] = b at hb
        refine ⟨rfl, _, rfl, _, rfl, rfl, _, rfl, ?_⟩
        by_cases e : a = b
        · subst e
          rw [decide_eq_true (rfl : V.str a = V.str a)]
          refine iteF ?_
          rw [row_take zs a a j hb, if_neg (by simp), List.append_nil]
          exact ⟨s3, acc3, hD3, tp3⟩
        · rw [decide_eq_false (fun z => e (V.str.inj z) : ¬ V.str a = V.str b)]
          refine iteT ?_
          rw [row_take zs a b j hb, if_pos e, List.map_append, ← List.append_assoc]
          refine ⟨_, rfl, _, rfl, (by show 2 ≤ sizeLine; decide), fun p np => ?_⟩
          have pD : p ≠ D := fun z => by
            rw [z, hD3] at np
            cases np
          refine ⟨acc3, same_new np _ _ hD3, ?_, fun b o z => ?_, acc3 ++ [.ref p], upd_same, ?_⟩
          · rw [tp3.1, List.length_append, List.length_map]
            have k1 := pairs_len len (ys := zs.take i) (by rw [List.length_take]; omega)
            have k2 := List.length_filter_le (fun c => decide (a ≠ c)) (zs.take j)
            rw [List.length_take] at k2
            exact small1000 (by omega)
          · rw [upd_ne (ne_of_none z nD)]
            exact same_new np _ _ (s3 _ _ z)
          · refine ((tp3.but (But.of_same (same_new np))).but But.upd).add pD ?_
            rw [upd_ne pD, upd_same]
      · rintro G3 ⟨s3, acc3, hD3, tp3⟩
        refine ⟨s3, acc3, hD3, ?_⟩
        rw [pairs_take zs i a ha]
        rw [List.length_map, List.take_length] at tp3
        exact tp3
    · rintro G ⟨s3, acc3, hD3, tp3⟩
      rw [List.length_map, List.take_length] at tp3
      exact q G D acc3 s3 nD hD3 tp3
end

section
variable {P : Program} {w : World} {K : PySem.W.Frag} {mg : Str → Option Value} {base : Heap} {C : Addr}
theorem ok_crowdIter {f : Addr} {fd : FuncData} (F : Fun K "__iter__" "Crowd.__iter__" sCrowdIter f fd) (cl : Cls K C) (n1 : NoAttr K C "_people") (zi : mg "iter" = none) : FnOk P w K mg base CX0 1 f fd ["self"] (spCrowdIter C) := by
  refine F.ok scCrowdIter (fun vs H Q E h => ?_) (fun cdv A outer s H vs Q E hr h => ?_)
  · obtain ⟨x, dx, l, xs, m, rfl, _⟩ := h
    rfl
  · obtain ⟨x, dx, l, xs, m, rfl, hx, hl, q⟩ := h
    refine ⟨_, pss_one (ps_ret (pe_callB call_iterL (by rfl) zi (by decide +kernel) (pa_cons (pe_fld (pv 0) rfl) pa_nil))), ?_⟩
    exact ⟨_, rfl, x, C, dx, _, _, rfl, hx, cl, n1, rfl, l, xs, rfl, SqL.of hl, fun it nit => q it nit⟩
theorem ok_lawPairs {f : Addr} {fd : FuncData} (F : Fun K "_law_pairs" "_law_pairs" sPairs f fd) : FnOk P w K mg base CX0 1 f fd ["_law_people_here"] (spLawPairs K) := by
  refine F.ok scPairs (fun vs H Q E h => ?_) (fun cdv A outer s H vs Q E hr h => ?_)
  · obtain ⟨l, zs, rfl, _⟩ := h
    rfl
  · obtain ⟨l, zs, rfl, hl, len, q⟩ := h
    refine ⟨_, pss_cons (ps_set (i := 1) scPairs.nd rfl (.inl rfl) (pe_lst pa_nil))
      (pss_cons (ps_for PassesOwn.never rfl (pi_list (pv 0)) (pg_name (i := 2) scPairs.nd rfl (.inr rfl))
        (pss_one (ps_set (i := 1) scPairs.nd rfl (.inl rfl) (pe_op op_cat (pv 1) (pe_lc (own := [("_law_other", 3)]) (g := gName 3) (by rfl) scPairs.nd (pi_list (pv 0)) (blkOk_by (own := [("_law_other", 3)]) (N := ["_law_people_here", "_law_found", "_law_one", "_law_other"]) (sc := defScope sPairs) (by decide +kernel))
          (fun _ _ _ _ _ => pg_name (i := 3) scPairs.nd rfl (Or.inl rfl)) (fun _ _ _ _ _ => pts_one (pt_cmpR op_ne (pv 3) (pv 2) (nomark _))) (fun _ _ _ _ _ => by exact pe_tup (pa_cons (pv 2) (pa_cons (pv 3) pa_nil))))))))
      (pss_one (ps_ret (pv 1)))), ?_⟩
    refine ⟨Nat.zero_le _, fun p0 np0 => ?_⟩
    generalize e0 : upd H p0 _ = H0
    have s0 : Same H H0 := e0 ▸ same_new np0
    have h0 : H0 p0 = some (.lst []) := e0 ▸ upd_same
    refine ⟨_, rfl, l, rfl, ⟨_, SqL.of (s0 _ _ hl)⟩, ?_⟩
    refine for_list (K := K) (a := l) (xs := zs.map V.str) (fun i σ G => ∃ p acc v2 v3, σ = [some (.ref l), some (.ref p), v2, v3] ∧ Same H G ∧ H p = none ∧ G p = some (.lst acc) ∧ Tps G acc ((zs.take i).flatMap (rowOf zs))) ⟨p0, [], _, _, rfl, s0, np0, h0, rfl, fun j y q h => by simp at h⟩ (fun i σ G _ h => by
      obtain ⟨_, _, _, _, _, s, _⟩ := h
      exact SqL.of (s _ _ hl)) ?_ ?_
    · rintro i x σ G hx ⟨p, acc, v2, v3, rfl, sG, np, hp, tp⟩
      have hi : i < zs.length := by
        have := (List.getElem?_eq_some_iff.mp hx).1
        rw [List.length_map] at this
        exact this
      rw [List.getElem?_map, List.getElem?_eq_getElem hi] at hx
      obtain rfl := Option.some.inj hx
      have ha := List.getElem?_eq_getElem hi
      generalize zs[i] = a at ha
      refine ⟨_, rfl, _, rfl, l, rfl, ⟨_, SqL.of (sG _ _ hl)⟩, fun D nD => ?_⟩
      refine nest_it (walk_list (K := K) (a := l) (xs := zs.map V.str)) (fun j G2 => Same G G2 ∧ ∃ ac, G2 D = some (.lst ac) ∧ Tups D G2 ac (((zs.take j).filter fun c => a ≠ c).map fun b => (a, b))) ⟨same_new nD, [], upd_same, rfl, fun j y q h => by simp at h⟩ (fun j G2 _ h => SqL.of (h.1 _ _ (sG _ _ hl))) ?_ ?_
      · rintro j z G3 G4 hj ⟨s3, ac, hD, t3⟩ ⟨rfl, hz⟩
        rw [List.getElem?_map] at hz
        rw [List.length_map] at hj
        rw [List.getElem?_eq_getElem hj] at hz
        obtain rfl := Option.some.inj hz
        have hb := List.getElem?_eq_getElem hj
        generalize zs[j] = b at hb
        refine ⟨rfl, _, rfl, _, rfl, rfl, _, rfl, ?_⟩
        by_cases e : a = b
        · subst e
          rw [decide_eq_true (rfl : V.str a = V.str a)]
          refine iteF ?_
          rw [row_take zs a a j hb, if_neg (by simp), List.append_nil]
          exact ⟨s3, ac, hD, t3⟩
        · rw [decide_eq_false (fun z => e (V.str.inj z).symm : ¬ V.str b = V.str a)]
          refine iteT ?_
          rw [row_take zs a b j hb, if_pos e, List.map_append]
          refine ⟨_, rfl, _, rfl, (by show 2 ≤ sizeLine; decide), fun t nt => ?_⟩
          have tD : t ≠ D := fun z => by
            rw [z, hD] at nt
            cases nt
          refine ⟨ac, same_new nt _ _ hD, ?_, fun c o z => ?_, ac ++ [.ref t], upd_same, ?_⟩
          · rw [t3.1, List.length_map]
            have k2 := List.length_filter_le (fun c => decide (a ≠ c)) (zs.take j)
            rw [List.length_take] at k2
            exact small1000 (by omega)
          · rw [upd_ne (ne_of_none z nD)]
            exact same_new nt _ _ (s3 _ _ z)
          · refine ((t3.but (But.of_same (same_new nt))).but But.upd).add tD ?_
            rw [upd_ne tD, upd_same]
      · rintro G3 ⟨s3, ac, hD, t3⟩
        rw [List.length_map, List.take_length] at t3
        refine ⟨p, D, acc, ac, rfl, rfl, s3 _ _ hp, hD, ?_, fun p2 np2 => ?_⟩
        · rw [tp.1, t3.1, List.length_map]
          have k1 := pairs_len len (ys := zs.take i) (by rw [List.length_take]; omega)
          have k2 := List.length_filter_le (fun c => decide (a ≠ c)) zs
          exact Nat.le_of_lt (small1000 (by omega))
        · have s4 := sG.trans s3
          refine ⟨p2, acc ++ ac, _, _, rfl, s4.trans (same_new np2), s4.free np2, upd_same, ?_⟩
          rw [pairs_take zs i a ha]
          exact ((tp.same s3).append t3.tps).same (same_new np2)
    · rintro σ G ⟨p, acc, v2, v3, rfl, sG, np, hp, tp⟩
      rw [List.length_map, List.take_length] at tp
      exact ⟨_, rfl, q G p acc sG np hp tp⟩
end

section
variable {P : Program} {w : World} {K : PySem.W.Frag} {mg : Str → Option Value} {base : Heap}
theorem refused_gives {X : Cx} {g C0 C1 C2 C3 C4 : Addr} {cdg : Value} {q : Str} (hgd : X.A.guards = some []) (hu : X.A.units + 300 < cLine) (zr : X.mg "repr" = none) (E0 : Ef X.K X.mg "BadPair" "value" C0) (E1 : Ef X.K X.mg "BadMark" "value" C1) (E2 : Ef X.K X.mg "BadNumber" "number" C2) (E3 : Ef X.K X.mg "BadArgument" "value" C3) (E4 : Ef X.K X.mg "NotThere" "word" C4) :
    LamX.GivesTo X ["_law_call", "e"] "_law_refused" (defScope sRefused) g cdg (defBody sRefused) "_law_call" q (TTref X.K [(C0, "value", "pair"), (C1, "value", "mark"), (C2, "number", "number"), (C3, "value", "argument"), (C4, "word", "person")]) := by
  intro f c' s H Q tl act hc h
  have hu2 : (X.A.deeper (envOfC "_law_refused" (defScope sRefused) s.heap.objs.size g cdg)).units + 200 < cLine := by
    show X.A.units + 3 + 200 < cLine
    omega
  refine ⟨_, pss_cons (ps_try_all (X := (cxOf C8.CX0 X.prog X.w X.K X.mg X.base ["_law_call", "e"] "_law_refused" (defScope sRefused) g cdg X.A X.stack s H C8.E0).nox) (n := "e") (i := 1) (Wout := fun _ _ _ _ => False)
      (tb := fun W D σ H => ∃ Ech : XK, (∀ cls d σ2 H2, σ2.length = 2 → Ech cls d H2 → W cls d σ2 H2) ∧ σ[0]? = some (some (.ref f)) ∧ H c' = some (LamX.CodeO c' q) ∧ tl Ech H (fun _ H2 => D.nx σ H2))
      rfl rfl scRefused.nd rfl rfl takes0 (fun W pn xe tk _ => ?_)
      (AllAs.cons (c := .ref C0) (ts := fun a cls d => tRet (tLst (tCons (tC (.str "pair")) (tCons (tCB (rReprD X.K) (tCons (tXf a cls d C0 "value" (tVar 1)) tNil)) tNil)))) ⟨by rfl, by decide, .inl E0.g⟩ (fun a oe cls d pn hz hf => pss_one (ps_ret (by exact pe_lst (pa_cons pe_str (pa_cons (pe_callB (call_reprD hgd (by exact hu2)) (by rfl) zr (by decide +kernel) (pa_cons (pe_xf E0.xf E0.no hz hf (pv 1)) pa_nil)) pa_nil)))))
        (AllAs.cons (c := .ref C1) (ts := fun a cls d => tRet (tLst (tCons (tC (.str "mark")) (tCons (tCB (rReprD X.K) (tCons (tXf a cls d C1 "value" (tVar 1)) tNil)) tNil)))) ⟨by rfl, by decide, .inl E1.g⟩ (fun a oe cls d pn hz hf => pss_one (ps_ret (by exact pe_lst (pa_cons pe_str (pa_cons (pe_callB (call_reprD hgd (by exact hu2)) (by rfl) zr (by decide +kernel) (pa_cons (pe_xf E1.xf E1.no hz hf (pv 1)) pa_nil)) pa_nil)))))
        (AllAs.cons (c := .ref C2) (ts := fun a cls d => tRet (tLst (tCons (tC (.str "number")) (tCons (tCB (rReprD X.K) (tCons (tXf a cls d C2 "number" (tVar 1)) tNil)) tNil)))) ⟨by rfl, by decide, .inl E2.g⟩ (fun a oe cls d pn hz hf => pss_one (ps_ret (by exact pe_lst (pa_cons pe_str (pa_cons (pe_callB (call_reprD hgd (by exact hu2)) (by rfl) zr (by decide +kernel) (pa_cons (pe_xf E2.xf E2.no hz hf (pv 1)) pa_nil)) pa_nil)))))
        (AllAs.cons (c := .ref C3) (ts := fun a cls d => tRet (tLst (tCons (tC (.str "argument")) (tCons (tCB (rReprD X.K) (tCons (tXf a cls d C3 "value" (tVar 1)) tNil)) tNil)))) ⟨by rfl, by decide, .inl E3.g⟩ (fun a oe cls d pn hz hf => pss_one (ps_ret (by exact pe_lst (pa_cons pe_str (pa_cons (pe_callB (call_reprD hgd (by exact hu2)) (by rfl) zr (by decide +kernel) (pa_cons (pe_xf E3.xf E3.no hz hf (pv 1)) pa_nil)) pa_nil)))))
        (AllAs.cons (c := .ref C4) (ts := fun a cls d => tRet (tLst (tCons (tC (.str "person")) (tCons (tCB (rReprD X.K) (tCons (tXf a cls d C4 "word" (tVar 1)) tNil)) tNil)))) ⟨by rfl, by decide, .inl E4.g⟩ (fun a oe cls d pn hz hf => pss_one (ps_ret (by exact pe_lst (pa_cons pe_str (pa_cons (pe_callB (call_reprD hgd (by exact hu2)) (by rfl) zr (by decide +kernel) (pa_cons (pe_xf E4.xf E4.no hz hf (pv 1)) pa_nil)) pa_nil)))))
        (.nil)))))))
    (pss_one (ps_ret (pe_lst (pa_cons pe_str pa_nil)))), ?_⟩
  · refine ⟨fun pins s2 σ H2 D I h2 => ?_⟩
    obtain ⟨Ech, hW, h3, h4, h5⟩ := h2
    have hp := fun p1 p2 => act _ pn xe Ech p1 p2 (takes_len tk) (fun cls d σ2 H2 z l => hW cls d σ2 H2 l z)
    exact (pss_one (ps_expr (hp _ _))).run pins s2 σ H2 D I ⟨h3, h4, h5⟩
  · exact ⟨fun cls d G => asks X.K [(C0, "value", "pair"), (C1, "value", "mark"), (C2, "number", "number"), (C3, "value", "argument"), (C4, "word", "person")] cls d G Q, fun cls d σ2 G len z => asks_all (l := [(C0, "value", "pair"), (C1, "value", "mark"), (C2, "number", "number"), (C3, "value", "argument"), (C4, "word", "person")]) len rfl z, rfl, hc, h⟩
end

end K02

set_option Elab.async false
set_option linter.all false
set_option maxRecDepth 100000
set_option maxHeartbeats 4000000
namespace K02
open PySem PySem.Spec PyProof.Rows L2
section
variable {P : Program} {w : World} {K : PySem.W.Frag} {mg : Str → Option Value} {base : Heap} {C C4 : Addr}
structure Zk (mg : Str → Option Value) : Prop where
  repr : mg "repr" = none
  iter : mg "iter" = none
def spRight (C : Addr) (TT : List (Addr × Str)) : Sp := fun vs H Q _ => ∃ (x l : Addr) (zs : List Str) (m : Int), vs = [.ref x, .ref l, .int m] ∧ CrowdOf H C x zs m ∧ H l = some (.lst (zs.map V.str)) ∧ (∀ z ∈ zs, z ∈ names8) ∧ zs.Nodup ∧ 1 ≤ zs.length ∧ zs.length ≤ 8 ∧ 1 ≤ m ∧ m ≤ 10 ∧
  LamX.Tabs TT H ∧ ∀ G, LamX.ExtN H G → LamX.Tabs TT G → Q (.bl true) G
theorem ok_right {f c Pt pP fPe fLen fIt fHas fPl fPa fIs fLp fR C C0 C1 C2 C3 C4 : Addr} {TT : List (Addr × Str)} {oc kV doc pm ct ocR kVR dcR pmR cdR ctR : Value} {od an odR anR : Option Addr} {osl slR : Array (Option Value)} {dPe dLen dIt dHas dPl dPa dIs dLp : FuncData}
    (F : K.lookup f = some ⟨oc, od, .func (PySem.W.fnOf "_law_crowd_right" "_law_crowd_right" (defArgs sCrowdRight) (defBody sCrowdRight) (defScope sCrowdRight) .none kV doc pm an (.ref c) ct), osl⟩) (hcd : PySem.W.codeIn K (.ref c) "_law_crowd_right" = true)
    (B : Bt mg) (T : Tx mg) (Z : Zk mg) (cl : Cls K C) (nP : NoAttr K C "_people") (nM : NoAttr K C "most") (TB : LamX.TabB base mg c Pt) (hmT : (Pt, (("_law_crowd_right" : Str) ++ ".<locals>.") ++ "<lambda>") ∈ TT) (hTu : ∀ p ∈ TT, p.1 = Pt → p.2 = (("_law_crowd_right" : Str) ++ ".<locals>.") ++ "<lambda>")
    (pp : PropOf K C "people" pP fPe) (GPe : FnOk P w K mg base CX0 1 fPe dPe ["self"] (spCrowdPeople C)) (bPe : Binds K dPe ["self"] [])
    (hsLen : PySem.W.findIn K (.ref C) "__len__" = some (some (.ref fLen))) (hfLen : PySem.W.isFn K (.ref fLen) = true) (GLen : FnOk P w K mg base CX0 1 fLen dLen ["self"] (spCrowdLen C)) (bLen : Binds K dLen ["self"] [])
    (hsIt : PySem.W.findIn K (.ref C) "__iter__" = some (some (.ref fIt))) (hfIt : PySem.W.isFn K (.ref fIt) = true) (GIt : FnOk P w K mg base CX0 1 fIt dIt ["self"] (spCrowdIter C)) (bIt : Binds K dIt ["self"] [])
    (hsHas : PySem.W.findIn K (.ref C) "__contains__" = some (some (.ref fHas))) (hfHas : PySem.W.isFn K (.ref fHas) = true) (GHas : FnOk P w K mg base CX0 1 fHas dHas ["self", "x"] (spCrowdHas K C)) (bHas : Binds K dHas ["self", "x"] [])
    (mPl : Meth K C "place" fPl) (GPl : FnOk P w K mg base (L2.CX P w) 4 fPl dPl ["self", "person"] (spPlace K C C4)) (bPl : Binds K dPl ["self", "person"] [])
    (mPa : Meth K C "pairs" fPa) (GPa : FnOk P w K mg base CX0 1 fPa dPa ["self"] (spCrowdPairs C)) (bPa : Binds K dPa ["self"] [])
    (mIs : Meth K C "is_pair" fIs) (GIs : FnOk P w K mg base CX0 2 fIs dIs ["self", "value"] (spIsPair K C)) (bIs : Binds K dIs ["self", "value"] [])
    (GLp : FnOk P w K mg base CX0 1 fLp dLp ["_law_people_here"] (spLawPairs K)) (gLp : mg "_law_pairs" = some (.ref fLp)) (kLp : PySem.W.keepIn K (.ref fLp) = true) (bLp : Binds K dLp ["_law_people_here"] [])
    (gRef : mg "_law_refused" = some (.ref fR)) (kRef : PySem.W.keepIn K (.ref fR) = true) (lRef : K.lookup fR = some ⟨ocR, odR, .func (PySem.W.fnOf "_law_refused" "_law_refused" (defArgs sRefused) (defBody sRefused) (defScope sRefused) .none kVR dcR pmR anR cdR ctR), slR⟩)
    (cRef : PySem.W.codeIn K cdR "_law_refused" = true) (bRef : Binds K (PySem.W.fnOf "_law_refused" "_law_refused" (defArgs sRefused) (defBody sRefused) (defScope sRefused) .none kVR dcR pmR anR cdR ctR) ["_law_call"] [])
    (E0 : Ef K mg "BadPair" "value" C0) (E1 : Ef K mg "BadMark" "value" C1) (E2 : Ef K mg "BadNumber" "number" C2) (E3 : Ef K mg "BadArgument" "value" C3) (E4 : Ef K mg "NotThere" "word" C4)
    (x0 : PySem.W.exmOne K (.ref C4) (.ref C0) = some false) (x1 : PySem.W.exmOne K (.ref C4) (.ref C1) = some false) (x2 : PySem.W.exmOne K (.ref C4) (.ref C2) = some false) (x3 : PySem.W.exmOne K (.ref C4) (.ref C3) = some false) (x4 : PySem.W.exmOne K (.ref C4) (.ref C4) = some true) :
    FnG P w K mg base CX0 10 f (PySem.W.fnOf "_law_crowd_right" "_law_crowd_right" (defArgs sCrowdRight) (defBody sCrowdRight) (defScope sCrowdRight) .none kV doc pm an (.ref c) ct) ["_law_crowd", "_law_people_here", "_law_most"] (spRight C TT) := by
  refine okGC F hcd scCrowdRight (fun vs H Q E h => ?_) (fun A outer s H vs Q _ hg hr h => ?_)
  · obtain ⟨x, l, zs, m, rfl, _⟩ := h
    rfl
  · obtain ⟨x, l, zs, m, rfl, hc, hl, mem, nd, z1, z8, m1, m10, hT, q⟩ := h
    have hu : (A.deeper (envOfC "_law_crowd_right" (defScope sCrowdRight) s.heap.objs.size f (.ref c))).units + 200 < cLine := by
      have := hr.un
      omega
    have hu3 : (A.deeper (envOfC "_law_crowd_right" (defScope sCrowdRight) s.heap.objs.size f (.ref c))).units + 300 < cLine := by
      have := hr.un
      omega
    refine ⟨_, pss_cons (ps_if (PW.pt (pw_or (pt_cmpR (op_neD hr.units) (pe_prop (pv 0) cl pp GPe (hr.mono (by decide)) bPe .nil pass0 rfl) (pv 1) (nomark _)) (pw_or (pt_cmpR op_ne (pe_callB (call_reprD hg (by exact hu)) (by rfl) Z.repr (by decide +kernel) (pa_cons (pe_fld (pv 0) rfl) pa_nil)) (pe_callB (call_reprD hg (by exact hu)) (by rfl) Z.repr (by decide +kernel) (pa_cons (pv 2) pa_nil)) (nomark _)) (pw_or1 (pt_cmpR op_ne (pe_callB (call_lenOwn (E := fun _ _ _ => False) hsLen hfLen GLen (hr.mono (by decide)) bLen pass0) (by rfl) B.len PySem.boot_len (pa_cons (pv 0) pa_nil)) (pe_callB call_len_seq (by rfl) B.len PySem.boot_len (pa_cons (pv 1) pa_nil)) (nomark _)))))) (pss_one (ps_ret pe_bl)) pss_nil)
      (pss_cons (ps_if (PW.pt (pw_or (pt_cmpR (op_neD hr.units) (pe_callTy (call_listIt (EI := fun _ _ _ => False) (EL := fun _ _ _ => False) hsLen hfLen GLen bLen hsIt hfIt GIt bIt (hr.mono (by decide)) (hr.mono (by decide))) (by rfl) T.list (by decide +kernel) (pa_cons (pv 0) pa_nil)) (pv 1) (nomark _)) (pw_or1 (pt_cmpR (op_neD hr.units) (pe_lc (own := [("_law_person", 3)]) (g := gName 3) (by rfl) scCrowdRight.nd (pi_list (pv 1)) (blkOk_by (own := [("_law_person", 3)]) (N := ["_law_crowd", "_law_people_here", "_law_most", "_law_person", "_law_pairs_here", "_law_pair", "_law_odd", "_law_first", "_law_last", "_law_odds"]) (sc := defScope sCrowdRight) (by decide +kernel))
            (fun _ _ _ _ _ => pg_name (i := 3) scCrowdRight.nd rfl (Or.inl rfl)) (fun _ _ _ _ _ => pts_nil) (fun _ _ _ _ _ => pe_meth (pv 0) cl mPl GPl (Room.mono (by exact hr) (by decide)) bPl .nil (E := fun _ _ _ => False) (passes_call LamX.takes0 fun _ _ _ _ z => z) (pa_cons (pv 3) pa_nil))) (pe_listRg (by rfl) (by rfl) T.list (prg_1 (by rfl) B.range (pe_callB call_len_seq (by rfl) B.len PySem.boot_len (pa_cons (pv 1) pa_nil)))) (nomark _))))) (pss_one (ps_ret pe_bl)) pss_nil)
      (pss_cons (ps_set (i := 4) scCrowdRight.nd rfl (.inl rfl) (pe_call GLp (hr.mono (by decide)) (by rfl) gLp kLp bLp .nil pass0 (pa_cons (pv 1) pa_nil)))
      (pss_cons (ps_if (PW.pt (pw_or (pt_cmpR op_ne (pe_callB (call_reprD hg (by exact hu)) (by rfl) Z.repr (by decide +kernel) (pa_cons (pe_meth0 (pv 0) cl mPa GPa (hr.mono (by decide)) bPa .nil pass0) pa_nil)) (pe_callB (call_reprD hg (by exact hu)) (by rfl) Z.repr (by decide +kernel) (pa_cons (pv 4) pa_nil)) (nomark _)) (pw_or1 (pt_cmpR (op_neD hr.units) (pe_lc (own := [("_law_person", 3)]) (g := gName 3) (by rfl) scCrowdRight.nd (pi_list (pv 1)) (blkOk_by (own := [("_law_person", 3)]) (N := ["_law_crowd", "_law_people_here", "_law_most", "_law_person", "_law_pairs_here", "_law_pair", "_law_odd", "_law_first", "_law_last", "_law_odds"]) (sc := defScope sCrowdRight) (by decide +kernel))
            (fun _ _ _ _ _ => pg_name (i := 3) scCrowdRight.nd rfl (Or.inl rfl)) (fun _ _ _ _ _ => pts_nil) (fun _ _ _ _ _ => pe_cmpR (op_inOwn (E := fun _ _ _ => False) hsHas hfHas GHas (Room.mono (by exact hr) (by decide)) bHas pass0) (pv 3) (pv 0) (by rfl))) (pe_op op_rep (pe_lst (pa_cons pe_bl pa_nil)) (pe_callB call_len_seq (by rfl) B.len PySem.boot_len (pa_cons (pv 1) pa_nil))) (nomark _))))) (pss_one (ps_ret pe_bl)) pss_nil)
      (pss_cons (ps_if (pt_cmpR (op_neD hr.units) (pe_lc (own := [("_law_pair", 5)]) (g := gName 5) (by rfl) scCrowdRight.nd (pi_list (pv 4)) (blkOk_by (own := [("_law_pair", 5)]) (N := ["_law_crowd", "_law_people_here", "_law_most", "_law_person", "_law_pairs_here", "_law_pair", "_law_odd", "_law_first", "_law_last", "_law_odds"]) (sc := defScope sCrowdRight) (by decide +kernel))
            (fun _ _ _ _ _ => pg_name (i := 5) scCrowdRight.nd rfl (Or.inl rfl)) (fun _ _ _ _ _ => pts_one (pt_cmpR op_isnot_bl (pe_meth (pv 0) cl mIs GIs (Room.mono (by exact hr) (by decide)) bIs .nil pass0 (pa_cons (pv 5) pa_nil)) pe_bl (nomark _))) (fun _ _ _ _ _ => pv 5)) (pe_lst pa_nil) (nomark _)) (pss_one (ps_ret pe_bl)) pss_nil)
      (pss_cons (ps_for PassesOwn.never rfl (pi_list (pe_lst (pa_cons (pe_non) (pa_cons (pe_int) (pa_cons (pe_str) (pa_cons (pe_str) (pa_cons (pe_str) (pa_cons (pv 1) (pa_cons (pe_tup (pa_cons (pe_ix ix_list (pv 1) pe_int (fun _ _ => rfl)) pa_nil)) (pa_cons (pe_bl) pa_nil)))))))))) (pg_name (i := 6) scCrowdRight.nd rfl (.inr rfl)) (pss_one (ps_if (PW.pt (pw_or (pt_cmpR (op_inOwn (E := fun _ _ _ => False) hsHas hfHas GHas (hr.mono (by decide)) bHas pass0) (pv 6) (pv 0) (by rfl)) (pw_or1 (pt_cmpR (op_neD hr.units) (LamX.pe_lamcall (k := 4) (T := TT) (t := fun E => tMeth C "place" (spPlace K C C4) [] E (tVar 0) (tCons (tVar 6) tNil)) (by rfl) gRef kRef lRef cRef bRef scRefused rfl (by first | exact Or.inl rfl | exact Or.inr (Or.inl rfl)) (refused_gives hg (by exact hu3) Z.repr E0 E1 E2 E3 E4)
            TB rfl hmT hTu (hr.mono (by decide)) (LamX.lamS_by (sc := defScope sCrowdRight) (by decide +kernel)) rfl (fun _ _ _ _ _ => rfl) (fun A2 outer2 s2 H2 E2 f2 c2 hr2 => pe_meth (pv 0) cl mPl GPl (hr2.mono (by decide)) bPl .nil (passes_call (takes_of rfl rfl rfl rfl) fun _ _ _ _ z => z) (pa_cons (pv 6) pa_nil))) (pe_lst (pa_cons (pe_str) (pa_cons (pe_callB (call_reprD hg (by exact hu)) (by rfl) Z.repr (by decide +kernel) (pa_cons (pv 6) pa_nil)) pa_nil))) (nomark _))))) (pss_one (ps_ret pe_bl)) pss_nil)))
      (pss_cons (ps_par (i := 7) (j := 8) (by rfl) scCrowdRight.nd rfl rfl (by decide) rfl rfl (pa_cons (pe_ix ix_list (pv 1) pe_int (fun _ _ => rfl)) (pa_cons (pe_ix ix_list (pv 1) (pe_op op_sub (pe_callB call_len_seq (by rfl) B.len PySem.boot_len (pa_cons (pv 1) pa_nil)) pe_int) (fun _ _ => rfl)) pa_nil)) (by rfl))
      (pss_cons (ps_set (i := 9) scCrowdRight.nd rfl (.inl rfl) (pe_lst (pa_cons (pe_non) (pa_cons (pe_int) (pa_cons (pe_str) (pa_cons (pe_tup (pa_cons (pv 7) (pa_cons (pv 7) pa_nil))) (pa_cons (pe_tup (pa_cons (pv 7) (pa_cons pe_str pa_nil))) (pa_cons (pe_tup (pa_cons pe_str (pa_cons (pv 8) pa_nil))) (pa_cons (pe_tup (pa_cons (pv 7) pa_nil)) (pa_cons (pe_lst (pa_cons (pv 7) (pa_cons (pv 8) pa_nil))) pa_nil))))))))))
      (pss_cons (ps_set (i := 9) scCrowdRight.nd rfl (.inl rfl) (pe_op op_cat (pv 9) (pe_lst (pa_cons (pe_tup (pa_cons (pe_tup (pa_cons (pv 7) pa_nil)) (pa_cons (pv 8) pa_nil))) (pa_cons (pe_tup (pa_cons (pv 7) (pa_cons (pv 8) (pa_cons (pv 7) pa_nil)))) pa_nil)))))
      (pss_one (ps_ret (pe_cmpR (op_eqD hr.units) (pe_lc (own := [("_law_odd", 6)]) (g := gName 6) (by rfl) scCrowdRight.nd (pi_list (pv 9)) (blkOk_by (own := [("_law_odd", 6)]) (N := ["_law_crowd", "_law_people_here", "_law_most", "_law_person", "_law_pairs_here", "_law_pair", "_law_odd", "_law_first", "_law_last", "_law_odds"]) (sc := defScope sCrowdRight) (by decide +kernel))
            (fun _ _ _ _ _ => pg_name (i := 6) scCrowdRight.nd rfl (Or.inl rfl)) (fun _ _ _ _ _ => pts_one (pt_cmpR op_isnot_bl (pe_meth (pv 0) cl mIs GIs (Room.mono (by exact hr) (by decide)) bIs .nil pass0 (pa_cons (pv 6) pa_nil)) pe_bl (nomark _))) (fun _ _ _ _ _ => pv 6)) (pe_lst pa_nil) (nomark _)))))))))))), ?_⟩
    obtain ⟨dx, lp, hx, hlp⟩ := id hc
    have okz : ∀ z ∈ zs, PyData.strOk z = true := fun z h => (names_short z (mem z h)).2
    obtain ⟨mk, hmk⟩ : ∃ k : Nat, m = (k : Int) := ⟨m.toNat, by omega⟩
    obtain ⟨si1, si2⟩ := small_int mk (by omega)
    rw [← hmk] at si1 si2
    have me : PyData.eqv (.list (zs.map .str)) (.list (zs.map .str)) = true := by rw [eqv_strs, decide_eq_true rfl]
    refine ⟨_, rfl, x, dx, _, rfl, hx, x, zs, m, rfl, hc, by omega, fun H1 p1 s1 n1 h1 => ?_⟩
    refine ⟨_, rfl, _, _, .lst (SqL.of h1) (dp_strs zs), .lst (SqL.of (s1 _ _ hl)) (dp_strs zs), shaped_strs okz, shaped_strs okz, _, rfl, ?_⟩
    rw [me]
    refine iteF ?_
    refine ⟨_, rfl, x, C, dx, _, _, rfl, s1 _ _ hx, cl, nM, rfl, .int m, .int m, rfl, .int m, rfl, si1, by show 0 ≤ 100; omega, si2, _, rfl, .int m, .int m, rfl, .int m, rfl, si1, by show 0 ≤ 100; omega, si2, rfl, _, rfl, ?_⟩
    rw [decide_eq_true rfl]
    refine iteF ?_
    refine ⟨_, rfl, x, dx, _, rfl, s1 _ _ hx, x, zs, m, rfl, hc.same s1, zs.length, rfl, by omega, _, rfl, l, _, rfl, .inl (SqL.of (s1 _ _ hl)), rfl, _, rfl, ?_⟩
    rw [List.length_map, decide_eq_true rfl]
    refine iteF ?_
    -- the walk and the places
    refine ⟨_, rfl, x, dx, lp, _, zs.map V.str, rfl, s1 _ _ hx, s1 _ _ hlp, by rw [List.length_map]; exact small1000 (by omega), fun G k => ⟨x, dx, lp, _, m, rfl, k _ _ (s1 _ _ hx), k _ _ (s1 _ _ hlp), fun it n => ⟨it, rfl, n, rfl⟩⟩,
      fun G k => ⟨x, zs, m, rfl, ⟨dx, lp, k _ _ (s1 _ _ hx), k _ _ (s1 _ _ hlp)⟩, zs.length, rfl, by omega, rfl⟩, fun H2 p2 s2 n2 h2 => ?_⟩
    have S2 : Same H H2 := s1.trans s2
    refine ⟨_, rfl, _, _, .lst (SqL.of h2) (dp_strs zs), .lst (SqL.of (S2 _ _ hl)) (dp_strs zs), shaped_strs okz, shaped_strs okz, _, rfl, ?_⟩
    rw [me]
    refine iteF ?_
    refine ⟨_, rfl, l, rfl, ⟨_, SqL.of (S2 _ _ hl)⟩, fun D nD => ?_⟩
    refine lc_map (ys := ((List.range zs.length).map fun i : Nat => (i : Int)).map V.int) (w := walk_list (K := K) (a := l) (xs := zs.map V.str)) (by simp) (by rw [List.length_map]; exact small1000 (by omega)) nD (fun G s => SqL.of (s _ _ (S2 _ _ hl))) (fun _ => rfl) (fun i y w G Q2 hy hw s k => ?_) (fun H3 s3 hD => ?_)
    · rw [List.getElem?_map] at hy
      have hi : i < zs.length := by
        rcases Nat.lt_or_ge i zs.length with z | z
        · exact z
        · rw [List.getElem?_eq_none z] at hy
          cases hy
      rw [List.getElem?_eq_getElem hi] at hy
      obtain rfl := Option.some.inj hy
      rw [List.getElem?_map, List.getElem?_map, List.getElem?_range hi] at hw
      obtain rfl := Option.some.inj hw
      have sG := S2.trans s
      refine ⟨_, rfl, x, dx, _, rfl, sG _ _ hx, rfl, _, rfl, x, _, zs, m, "str", rfl, hc.same sG, ⟨.base (.str _), by decide⟩, fun j z e1 e2 _ => ?_, fun e => ?_⟩
      · cases V.str.inj e1
        rw [nd.idxOf_getElem i hi] at e2
        subst e2
        exact k _ (Same.refl _)
      · have : decide (zs[i] ∈ zs) = true := decide_eq_true (List.getElem_mem hi)
        exact absurd ((show decide (zs[i] ∈ zs) = false from e).symm.trans this) (by simp)
    have S3 := S2.trans s3
    refine ⟨_, rfl, l, _, rfl, .inl (SqL.of (S3 _ _ hl)), _, rfl, RgOk.of_le (by omega) (by rw [List.length_map]; omega) (by omega) (by omega), fun q3 nq3 => ?_⟩
    rw [List.length_map, rgV0]
    generalize eq3 : upd H3 q3 _ = H3b
    have s3b : Same H3 H3b := eq3 ▸ same_new nq3
    have h3b : H3b q3 = some (.lst (((List.range zs.length).map fun i : Nat => (i : Int)).map V.int)) := eq3 ▸ upd_same
    obtain ⟨io1, io2⟩ := ints_ok ((List.range zs.length).map fun i : Nat => (i : Int))
    refine ⟨_, _, .lst (SqL.of (s3b _ _ hD)) (dp_ints _), .lst (SqL.of h3b) (dp_ints _), io1, io1, _, rfl, ?_⟩
    rw [io2]
    refine iteF ?_
    have S3b := S3.trans s3b
    clear eq3
    -- the pairs
    refine ⟨_, rfl, l, zs, rfl, S3b _ _ hl, z8, fun H4 p4 ys4 s4 n4 h4 t4 => ?_⟩
    have S4 := S3b.trans s4
    have plen : (pairsOf zs).length ≤ 64 := pairs_len z8 z8
    obtain ⟨pr1, pr2, pr3, pr4⟩ := pairs_repr (ps := pairsOf zs) (fun p hp => by
      obtain ⟨h1, h2, _⟩ := mem_pairs hp
      exact ⟨(names_short _ (mem _ h1)).1, (names_short _ (mem _ h2)).1⟩) plen
    refine ⟨_, rfl, x, dx, _, rfl, S4 _ _ hx, rfl, x, zs, m, rfl, hc.same S4, z8, fun H5 p5 ys5 s5 n5 h5 t5 => ?_⟩
    have S5 := S4.trans s5
    refine ⟨.ref p5, _, rfl, .lst (SqL.of h5) t5.tps.dp, pr1, pr2, pr3, pr4, _, rfl, .ref p4, _, rfl, .lst (SqL.of (s5 _ _ h4)) (t4.same s5).dp, pr1, pr2, pr3, pr4, rfl, _, rfl, ?_⟩
    rw [decide_eq_true rfl]
    refine iteF ?_
    refine ⟨_, rfl, l, rfl, ⟨_, SqL.of (S5 _ _ hl)⟩, fun D nD => ?_⟩
    refine lc_map (ys := (List.replicate zs.length true).map V.bl) (w := walk_list (K := K) (a := l) (xs := zs.map V.str)) (by simp) (by rw [List.length_map]; exact small1000 (by omega)) nD (fun G s => SqL.of (s _ _ (S5 _ _ hl))) (fun _ => rfl) (fun i y w G Q2 hy hw s k => ?_) (fun H6 s6 hD => ?_)
    · rw [List.getElem?_map] at hy
      have hi : i < zs.length := by
        rcases Nat.lt_or_ge i zs.length with z | z
        · exact z
        · rw [List.getElem?_eq_none z] at hy
          cases hy
      rw [List.getElem?_eq_getElem hi] at hy
      obtain rfl := Option.some.inj hy
      rw [List.getElem?_map, List.getElem?_replicate, if_pos hi] at hw
      obtain rfl := Option.some.inj hw
      have sG := S5.trans s
      refine ⟨_, rfl, _, rfl, x, dx, _, rfl, sG _ _ hx, x, _, zs, m, "str", rfl, hc.same sG, ⟨.base (.str _), by decide⟩, _, rfl, ?_⟩
      have e : hasB (.str zs[i]) zs = true := decide_eq_true (List.getElem_mem hi)
      rw [e]
      exact k _ (Same.refl _)
    have S6 := S5.trans s6
    refine ⟨(by show 1 ≤ sizeLine; decide), fun q6 nq6 => ⟨_, rfl, l, _, rfl, .inl (SqL.of (same_new nq6 _ _ (S6 _ _ hl))), q6, _, [.bl true], rfl, rfl, upd_same, by omega, by rw [List.length_map]; omega, ?_, fun q7 nq7 => ?_⟩⟩
    · rw [List.length_map, List.length_singleton]
      exact Nat.le_of_lt (small1000 (by omega))
    generalize eq6 : upd H6 q6 _ = H6b at *
    have s6b : Same H6 H6b := eq6 ▸ same_new nq6
    generalize eq7 : upd H6b q7 _ = H7
    have s7 : Same H6b H7 := eq7 ▸ same_new nq7
    have h7 : H7 q7 = some (.lst ((List.replicate zs.length true).map V.bl)) := by
      rw [← eq7, upd_same, List.length_map, Int.toNat_natCast, List.flatten_replicate_singleton, List.map_replicate]
    obtain ⟨bo1, bo2⟩ := bls_ok (List.replicate zs.length true)
    refine ⟨_, _, .lst (SqL.of (s7 _ _ (s6b _ _ hD))) (dp_bls _), .lst (SqL.of h7) (dp_bls _), bo1, bo1, _, rfl, ?_⟩
    rw [bo2]
    refine iteF ?_
    have S7 := S6.trans (s6b.trans s7)
    have s57 : Same H4 H7 := s5.trans (s6.trans (s6b.trans s7))
    clear eq6 eq7
    -- all pairs are pairs
    have h47 := s57 _ _ h4
    have t47 := t4.same s57
    refine ⟨_, rfl, p4, rfl, ⟨_, SqL.of h47⟩, fun D nD => ?_⟩
    refine nest_it (walk_list (K := K) (a := p4) (xs := ys4)) (fun i G => Same H7 G ∧ G D = some (.lst [])) ⟨same_new nD, upd_same⟩ (fun i G _ h => SqL.of (h.1 _ _ h47)) ?_ ?_
    · rintro i y G G2 hi ⟨sG, hD⟩ ⟨rfl, hy⟩
      have hi2 : i < (pairsOf zs).length := by rw [← t47.1]; exact hi
      have hp := List.getElem?_eq_getElem hi2
      have hmem := List.getElem_mem hi2
      generalize (pairsOf zs)[i] = pq at hp hmem
      obtain ⟨tq, rfl, htq⟩ := t47.2 i y pq hy hp
      have SG := S7.trans sG
      refine ⟨rfl, _, rfl, x, dx, _, rfl, SG _ _ hx, rfl, _, rfl, x, _, zs, m, _, rfl, hc.same SG, .two (sG _ _ htq) (S := "str") (T := "str") ⟨.base (.str _), by decide⟩ ⟨.base (.str _), by decide⟩, ?_⟩
      rw [isPair_true hmem]
      exact ⟨_, _, rfl, rfl, _, rfl, iteF ⟨sG, hD⟩⟩
    rintro H8 ⟨s8, hD8⟩
    refine ⟨Nat.zero_le _, fun q8 nq8 => ?_⟩
    generalize eq8 : upd H8 q8 _ = H9
    have s9 : Same H8 H9 := eq8 ▸ same_new nq8
    have h9 : H9 q8 = some (.lst []) := eq8 ▸ upd_same
    refine ⟨_, _, .lst (SqL.of (s9 _ _ hD8)) .nil, .lst (SqL.of h9) .nil, by decide, by decide, _, rfl, ?_⟩
    rw [show PyData.eqv (.list []) (.list []) = true by decide]
    refine iteF ?_
    have S9 := S7.trans (s8.trans s9)
    clear eq8
    -- who is not there
    have l9 := S9 _ _ hl
    obtain ⟨z0, hz0⟩ : ∃ z, zs[0]? = some z := ⟨zs[0], List.getElem?_eq_getElem (by omega)⟩
    have mz0 := mem z0 (List.mem_of_getElem? hz0)
    refine ⟨_, rfl, _, rfl, l, _, 0, .str z0, rfl, rfl, SqL.of l9, atI_nat (j := 0) (by rw [List.getElem?_map, hz0]; rfl), (by show 1 ≤ sizeLine; decide), fun q10 nq10 => ⟨(by show 8 ≤ sizeLine; decide), fun q11 nq11 => ?_⟩⟩
    generalize eq10 : upd H9 q10 _ = H10 at *
    have s10 : Same H9 H10 := eq10 ▸ same_new nq10
    have h10 : H10 q10 = some (.tup [.str z0]) := eq10 ▸ upd_same
    generalize eq11 : upd H10 q11 _ = H11
    have s11 : Same H10 H11 := eq11 ▸ same_new nq11
    have h11 : H11 q11 = some (.lst [.non, .int 5, .str "", .str "nobody", .str "A", .ref l, .ref q10, .bl true]) := eq11 ▸ upd_same
    have S11 := S9.trans (s10.trans s11)
    clear eq10 eq11
    have x11 := S11 _ _ hx
    have lp11 := S11 _ _ hlp
    have l11 := S11 _ _ hl
    have t11 := s11 _ _ h10
    obtain ⟨o1, o2, o3, o4, o5, o6⟩ := odd_repr
    have off : ∀ w : Str, (∀ z ∈ names8, z ≠ w) → hasB (.str w) zs = false := fun w hw => decide_eq_false fun h => hw w (mem w h) rfl
    have odds : ∀ y ∈ ([.non, .int 5, .str "", .str "nobody", .str "A", .ref l, .ref q10, .bl true] : List V), hasB y zs = false ∧ ∃ N D, ReprOk D ∧ ∀ G, LamX.ExtN H11 G → TyN K G y N ∧ Dp K G y D := by
      intro y hy
      simp only [List.mem_cons, List.not_mem_nil, or_false] at hy
      rcases hy with rfl | rfl | rfl | rfl | rfl | rfl | rfl | rfl
      · exact ⟨rfl, "NoneType", _, o1, fun G e => ⟨⟨.base .non, by decide⟩, .non⟩⟩
      · exact ⟨rfl, "int", _, o2, fun G e => ⟨⟨.base (.int _), by decide⟩, .int _⟩⟩
      · exact ⟨off _ fun z h => (names_not z h).1, "str", _, o3, fun G e => ⟨⟨.base (.str _), by decide⟩, .str _⟩⟩
      · exact ⟨off _ fun z h => (names_not z h).2.1, "str", _, o4, fun G e => ⟨⟨.base (.str _), by decide⟩, .str _⟩⟩
      · exact ⟨off _ fun z h => (names_not z h).2.2.1, "str", _, o5, fun G e => ⟨⟨.base (.str _), by decide⟩, .str _⟩⟩
      · exact ⟨rfl, "list", _, words_repr (fun z h => ⟨(names_short z (mem z h)).1, names_text z (mem z h)⟩) z8, fun G e => ⟨⟨.base (.lst (e _ _ l11 fun ps z => (nomatch z))), by decide⟩, .lst (SqL.of (e _ _ l11 fun ps z => (nomatch z))) (dp_strs zs)⟩⟩
      · exact ⟨rfl, "tuple", _, one_repr z0 mz0, fun G e => ⟨⟨.base (.tup (e _ _ t11 fun ps z => (nomatch z))), by decide⟩, .tup (SqT.of (e _ _ t11 fun ps z => (nomatch z))) (.cons (.str _) .nil)⟩⟩
      · exact ⟨rfl, "bool", _, o6, fun G e => ⟨⟨.base (.bl _), by decide⟩, .bl _⟩⟩
    have crowdE : ∀ G, LamX.ExtN H11 G → CrowdOf G C x zs m := fun G e => ⟨dx, lp, e _ _ x11 fun ps z => (nomatch z), e _ _ lp11 fun ps z => (nomatch z)⟩
    refine ⟨q11, rfl, ⟨_, SqL.of h11⟩, ?_⟩
    refine for_list (K := K) (a := q11) (xs := [.non, .int 5, .str "", .str "nobody", .str "A", .ref l, .ref q10, .bl true]) (fun _ σ G => ∃ v3 v5 v6 v7 v8 v9, σ = [some (.ref x), some (.ref l), some (.int m), v3, some (.ref p4), v5, v6, v7, v8, v9] ∧ LamX.ExtN H11 G ∧ LamX.Tabs TT G) ⟨_, _, _, _, _, _, rfl, LamX.ExtN.refl _, hT.ext S11⟩ (fun _ σ G _ h => by
      obtain ⟨_, _, _, _, _, _, _, e, _⟩ := h
      exact SqL.of (e _ _ h11 fun ps z => (nomatch z))) ?_ ?_
    · rintro j y σ G hy ⟨v3, v5, v6, v7, v8, v9, rfl, eG, tG⟩
      obtain ⟨no, N, D, ⟨d1, d2, d3, d4, d5⟩, at_⟩ := odds y (List.mem_of_getElem? hy)
      have xG := eG _ _ x11 fun ps z => (nomatch z)
      refine ⟨_, rfl, _, rfl, x, dx, _, rfl, xG, x, y, zs, m, N, rfl, crowdE G eG, (at_ G eG).1, _, rfl, _, rfl, ?_⟩
      rw [no]
      refine iteF ?_
      refine ⟨tG, fun G1 e1 t1 => ?_⟩
      have eG1 := eG.trans e1
      refine ⟨.ref x, rfl, x, dx, _, rfl, eG1 _ _ x11 (fun ps z => (nomatch z)), rfl, y, rfl, x, y, zs, m, N, rfl, crowdE G1 eG1, (at_ G1 eG1).1, fun i z ez _ hz => ?_, fun _ G2 d hR => ?_⟩
      · rw [ez] at no
        exact absurd ((show decide (z ∈ zs) = false from no).symm.trans (decide_eq_true hz)) (by simp)
      have e2 : LamX.ExtN H11 G2 := eG1.trans (LamX.ExtN.of hR.1)
      refine ⟨false, x0, fun z => (nomatch z), fun _ => ⟨false, x1, fun z => (nomatch z), fun _ => ⟨false, x2, fun z => (nomatch z), fun _ => ⟨false, x3, fun z => (nomatch z), fun _ => ⟨true, x4, fun _ => ⟨rfl, d, y, D, rfl, hR.2.2, (at_ G2 e2).2, d1, d2, d3, d4, fun G3 p3 s3 n3 h3 => ?_⟩, fun z => (nomatch z)⟩⟩⟩⟩⟩
      have e3 := e2.trans (LamX.ExtN.of s3)
      refine ⟨_, rfl, y, D, rfl, (at_ G3 e3).2, d1, d2, d3, d4, (by show 2 ≤ sizeLine; decide), fun q12 nq12 => ?_⟩
      generalize eq12 : upd G3 q12 _ = G4
      have s4' : Same G3 G4 := eq12 ▸ same_new nq12
      have h4' : G4 q12 = some (.lst [.str "person", .str D.shown]) := eq12 ▸ upd_same
      have two : ∀ z ∈ (["person", D.shown] : List Str), PyData.strOk z = true := fun z hz => by
        rcases List.mem_cons.mp hz with e | e
        · rw [e]
          decide +kernel
        · rw [List.mem_singleton.mp e]
          exact d5
      refine ⟨_, _, .lst (SqL.of (s4' _ _ h3)) (dp_strs (["person", D.shown] : List Str)), .lst (SqL.of h4') (dp_strs (["person", D.shown] : List Str)), shaped_strs two, shaped_strs two, _, rfl, ?_⟩
      rw [eqv_strs, decide_eq_true rfl]
      refine iteF ?_
      exact ⟨_, _, _, _, _, _, rfl, e3.trans (LamX.ExtN.of s4'), t1.ext fun b o e => s4' _ _ (s3 _ _ (hR.1 _ _ e))⟩
    rintro σ G ⟨v3, v5, v6, v7, v8, v9, rfl, eG, tG⟩
    -- what is no pair
    have lG := eG _ _ l11 fun ps z => (nomatch z)
    obtain ⟨zl, hzl⟩ : ∃ z, zs[zs.length - 1]? = some z := ⟨zs[zs.length - 1], List.getElem?_eq_getElem (by omega)⟩
    have el : ((zs.map V.str).length : Int) - 1 = ((zs.length - 1 : Nat) : Int) := by
      rw [List.length_map]
      omega
    have at0 : atI (zs.map V.str) 0 = some (.str z0) := atI_nat (j := 0) (by rw [List.getElem?_map, hz0]; rfl)
    have atl : atI (zs.map V.str) (((zs.map V.str).length : Int) - 1) = some (.str zl) := by
      rw [el]
      exact atI_nat (by rw [List.getElem?_map, hzl]; rfl)
    refine ⟨_, rfl, l, _, 0, .str z0, rfl, rfl, SqL.of lG, at0, _, rfl, _, rfl, l, _, rfl, .inl (SqL.of lG), _, _, rfl, rfl, l, _, _, .str zl, rfl, rfl, SqL.of lG, atl, _, _, rfl, ?_⟩
    refine ⟨_, rfl, _, rfl, (by show 2 ≤ sizeLine; decide), fun a20 n20 => ?_⟩
    generalize e20 : upd G a20 _ = G20
    have s20 : Same G G20 := e20 ▸ same_new n20
    have h20 : G20 a20 = some (.tup [.str z0, .str z0]) := e20 ▸ upd_same
    refine ⟨_, rfl, (by show 2 ≤ sizeLine; decide), fun a21 n21 => ?_⟩
    generalize e21 : upd G20 a21 _ = G21
    have s21 : Same G20 G21 := e21 ▸ same_new n21
    have h21 : G21 a21 = some (.tup [.str z0, .str "nobody"]) := e21 ▸ upd_same
    refine ⟨_, rfl, (by show 2 ≤ sizeLine; decide), fun a22 n22 => ?_⟩
    generalize e22 : upd G21 a22 _ = G22
    have s22 : Same G21 G22 := e22 ▸ same_new n22
    have h22 : G22 a22 = some (.tup [.str "nobody", .str zl]) := e22 ▸ upd_same
    refine ⟨_, rfl, (by show 1 ≤ sizeLine; decide), fun a23 n23 => ?_⟩
    generalize e23 : upd G22 a23 _ = G23
    have s23 : Same G22 G23 := e23 ▸ same_new n23
    have h23 : G23 a23 = some (.tup [.str z0]) := e23 ▸ upd_same
    refine ⟨_, rfl, _, rfl, (by show 2 ≤ sizeLine; decide), fun a24 n24 => ?_⟩
    generalize e24 : upd G23 a24 _ = G24
    have s24 : Same G23 G24 := e24 ▸ same_new n24
    have h24 : G24 a24 = some (.lst [.str z0, .str zl]) := e24 ▸ upd_same
    refine ⟨(by show 8 ≤ sizeLine; decide), fun a25 n25 => ?_⟩
    generalize e25 : upd G24 a25 _ = G25
    have s25 : Same G24 G25 := e25 ▸ same_new n25
    have h25 : G25 a25 = some (.lst [.non, .int 5, .str "ab", .ref a20, .ref a21, .ref a22, .ref a23, .ref a24]) := e25 ▸ upd_same
    refine ⟨_, rfl, _, rfl, (by show 1 ≤ sizeLine; decide), fun a26 n26 => ?_⟩
    generalize e26 : upd G25 a26 _ = G26
    have s26 : Same G25 G26 := e26 ▸ same_new n26
    have h26 : G26 a26 = some (.tup [.str z0]) := e26 ▸ upd_same
    refine ⟨_, rfl, (by show 2 ≤ sizeLine; decide), fun a27 n27 => ?_⟩
    generalize e27 : upd G26 a27 _ = G27
    have s27 : Same G26 G27 := e27 ▸ same_new n27
    have h27 : G27 a27 = some (.tup [.ref a26, .str zl]) := e27 ▸ upd_same
    refine ⟨_, rfl, _, rfl, _, rfl, (by show 3 ≤ sizeLine; decide), fun a28 n28 => ?_⟩
    generalize e28 : upd G27 a28 _ = G28
    have s28 : Same G27 G28 := e28 ▸ same_new n28
    have h28 : G28 a28 = some (.tup [.str z0, .str zl, .str z0]) := e28 ▸ upd_same
    refine ⟨(by show 2 ≤ sizeLine; decide), fun a29 n29 => ?_⟩
    generalize e29 : upd G28 a29 _ = G29
    have s29 : Same G28 G29 := e29 ▸ same_new n29
    have h29 : G29 a29 = some (.lst [.ref a27, .ref a28]) := e29 ▸ upd_same
    refine ⟨_, _, _, _, rfl, rfl, s29 _ _ (s28 _ _ (s27 _ _ (s26 _ _ h25))), h29, (by show 10 ≤ sizeLine; decide), fun a30 n30 => ?_⟩
    generalize e30 : upd G29 a30 _ = G30
    have s30 : Same G29 G30 := e30 ▸ same_new n30
    have h30 : G30 a30 = some (.lst [.non, .int 5, .str "ab", .ref a20, .ref a21, .ref a22, .ref a23, .ref a24, .ref a27, .ref a28]) := e30 ▸ upd_same
    have u30 : Same G30 G30 := Same.refl _
    have u29 : Same G29 G30 := s30.trans u30
    have u28 : Same G28 G30 := s29.trans u29
    have u27 : Same G27 G30 := s28.trans u28
    have u26 : Same G26 G30 := s27.trans u27
    have u25 : Same G25 G30 := s26.trans u26
    have u24 : Same G24 G30 := s25.trans u25
    have u23 : Same G23 G30 := s24.trans u24
    have u22 : Same G22 G30 := s23.trans u23
    have u21 : Same G21 G30 := s22.trans u22
    have u20 : Same G20 G30 := s21.trans u21
    have uG : Same G G30 := s20.trans u20
    have eT : ∀ J, Same G30 J → LamX.ExtN H11 J := fun J s => eG.trans (LamX.ExtN.of (uG.trans s))
    have strN : ∀ J (w : Str), TyN K J (.str w) "str" := fun J w => ⟨.base (.str _), by decide⟩
    have n0 : hasB (.str "nobody") zs = false := off _ fun z h => (names_not z h).2.1
    have none_ : ∀ y ∈ ([.non, .int 5, .str "ab", .ref a20, .ref a21, .ref a22, .ref a23, .ref a24, .ref a27, .ref a28] : List V), ∀ J, Same G30 J → PairArg K J zs y false := by
      intro y hy J sJ
      simp only [List.mem_cons, List.not_mem_nil, or_false] at hy
      rcases hy with rfl | rfl | rfl | rfl | rfl | rfl | rfl | rfl | rfl | rfl
      · exact .no (T := "NoneType") ⟨.base .non, by decide⟩ (by decide)
      · exact .no (T := "int") ⟨.base (.int _), by decide⟩ (by decide)
      · exact .no (strN J _) (by decide)
      · have p := PairArg.two (zs := zs) (sJ _ _ (u20 _ _ h20)) (strN J z0) (strN J z0)
        rw [show isPairB (.str z0) (.str z0) zs = false by unfold isPairB; rw [decide_eq_true rfl]; simp] at p
        exact p
      · have p := PairArg.two (zs := zs) (sJ _ _ (u21 _ _ h21)) (strN J z0) (strN J "nobody")
        rw [show isPairB (.str z0) (.str "nobody") zs = false by unfold isPairB; rw [n0]; simp] at p
        exact p
      · have p := PairArg.two (zs := zs) (sJ _ _ (u22 _ _ h22)) (strN J "nobody") (strN J zl)
        rw [show isPairB (.str "nobody") (.str zl) zs = false by unfold isPairB; rw [n0]; rfl] at p
        exact p
      · exact .len (sJ _ _ (u23 _ _ h23)) (by simp)
      · exact .no (T := "list") ⟨.base (.lst (sJ _ _ (u24 _ _ h24))), by decide⟩ (by decide)
      · have p := PairArg.two (zs := zs) (sJ _ _ (u27 _ _ h27)) (S := "tuple") ⟨.base (.tup (sJ _ _ (u26 _ _ h26))), by decide⟩ (strN J zl)
        exact p
      · exact .len (sJ _ _ (u28 _ _ h28)) (by simp)
    clear e20 e21 e22 e23 e24 e25 e26 e27 e28 e29 e30
    refine ⟨_, rfl, a30, rfl, ⟨_, SqL.of h30⟩, fun D nD => ?_⟩
    refine nest_it (walk_list (K := K) (a := a30) (xs := [.non, .int 5, .str "ab", .ref a20, .ref a21, .ref a22, .ref a23, .ref a24, .ref a27, .ref a28])) (fun i J => Same G30 J ∧ J D = some (.lst [])) ⟨same_new nD, upd_same⟩ (fun i J _ h => SqL.of (h.1 _ _ h30)) ?_ ?_
    · rintro i y J J2 hi ⟨sJ, hD⟩ ⟨rfl, hy⟩
      have eJ := eT J2 sJ
      refine ⟨rfl, _, rfl, x, dx, _, rfl, eJ _ _ x11 (fun ps z => (nomatch z)), rfl, _, rfl, x, _, zs, m, _, rfl, crowdE J2 eJ, none_ y (List.mem_of_getElem? hy) J2 sJ, ?_⟩
      exact ⟨_, _, rfl, rfl, _, rfl, iteF ⟨sJ, hD⟩⟩
    rintro J ⟨sJ, hD⟩
    refine ⟨Nat.zero_le _, fun q30 nq30 => ?_⟩
    generalize eJ : upd J q30 _ = J2
    have sJ2 : Same J J2 := eJ ▸ same_new nq30
    have hJ2 : J2 q30 = some (.lst []) := eJ ▸ upd_same
    refine ⟨_, _, .lst (SqL.of (sJ2 _ _ hD)) .nil, .lst (SqL.of hJ2) .nil, by decide, by decide, ?_⟩
    rw [show PyData.eqv (.list []) (.list []) = true by decide]
    exact q J2 ((LamX.ExtN.of S11).trans (eT J2 (sJ.trans sJ2))) (tG.ext fun b o e => sJ2 _ _ (sJ _ _ (uG _ _ e)))

end
end K02

set_option Elab.async false
set_option linter.all false
set_option maxRecDepth 100000
set_option maxHeartbeats 4000000
namespace K02
open PySem PySem.Spec PyProof.Rows L2
section
variable {P : Program} {w : World} {K : PySem.W.Frag} {mg : Str → Option Value} {base : Heap}
theorem ok_crowdNew {f fA fN fB C CB : Addr} {fd fdA fdN fdB : FuncData} (F : Fun K "__init__" "Crowd.__init__" sCrowdInit f fd)
    (GA : FnOk P w K mg base CX0 2 fA fdA ["value"] (spArePeople K)) (kA : PySem.W.keepIn K (.ref fA) = true) (bA : Binds K fdA ["value"] []) (gA : mg "are_people" = some (.ref fA))
    (GN : FnOk P w K mg base CX0 2 fN fdN ["value", "least", "most"] (spWithin K)) (kN : PySem.W.keepIn K (.ref fN) = true) (bN : Binds K fdN ["value", "least", "most"] []) (gN : mg "is_integer_within" = some (.ref fN))
    (GB : FnOk P w K mg base CX0 1 fB fdB ["self", "part"] (spErrInit K CB "part")) (bB : Binds K fdB ["self", "part"] []) (iB : PySem.W.findIn K (.ref CB) "__init__" = some (some (.ref fB))) (tB : PySem.W.typeIn K (.ref fB) = some (.type "function"))
    (EB : Er K mg "BadCrowd" CB) (nf : PySem.W.findIn K (.ref CB) "part" = some none) (cl : Cls K C) (n1 : NoAttr K C "_people") (n2 : NoAttr K C "most") (T : Tx mg) :
    FnOk P w K mg base (L2.CX P w) 3 f fd ["self", "people", "most"] (spCrowdNew K C CB) := by
  obtain ⟨t1, g1⟩ := T.greatest
  refine F.okX scCrowdInit (fun vs H Q E h => ?_) (fun cdv A outer s H vs Q E hr h => ?_)
  · obtain ⟨x, dx, v, m, b, xs, rfl, _⟩ := h
    rfl
  · obtain ⟨x, dx, v, m, b, xs, rfl, hx, ha, ⟨N, tm⟩, qp, qm, q⟩ := h
    refine ⟨_, pss_cons (ps_if (pt_not (pt_val (pe_call GA hr (by rfl) gA kA bA .nil pass0 (pa_cons (pv 1) pa_nil)))) (pss_one (ps_raise rfl (takes_of rfl rfl rfl rfl) (pmk_oex EB.ox iB tB GB hr bB .nil pass0 (by rfl) EB.g (pa_cons pe_str pa_nil)))) pss_nil)
      (pss_cons (ps_if (pt_not (pt_val (pe_call GN hr (by rfl) gN kN bN .nil pass0 (pa_cons (pv 2) (pa_cons pe_int (pa_cons (pe_glob (v := .int 10) (by rfl) g1 ⟨_, rfl⟩) pa_nil)))))) (pss_one (ps_raise rfl (takes_of rfl rfl rfl rfl) (pmk_oex EB.ox iB tB GB hr bB .nil pass0 (by rfl) EB.g (pa_cons pe_str pa_nil)))) pss_nil)
      (pss_cons (ps_fld (pv 0) (pe_callTy call_list_of (by rfl) T.list (by decide +kernel) (pa_cons (pv 1) pa_nil)) rfl)
      (pss_one (ps_fld (pv 0) (pv 2) rfl)))), ?_⟩
    refine ⟨_, rfl, v, b, xs, rfl, ha, fun H1 s1 => ⟨b, rfl, ?_⟩⟩
    cases b with
    | false =>
      refine iteT ⟨(by show 1 ≤ 1000; decide), fun a na => ⟨a, _, rfl, EB.ox, nf, upd_same, fun d nd nda => ?_⟩⟩
      have nd1 : H1 d = none := by
        rw [upd_ne nda] at nd
        exact nd
      refine ⟨rfl, d, _, upd_same, by rw [upd_ne nda, upd_same], nd1, ?_⟩
      obtain ⟨r1, r2, r3⟩ := raised_mk (C := CB) (f := "part") (v := V.str "people") na nd1 nda
      exact qp rfl _ d ⟨s1.trans r1, s1.free r2, r3⟩
    | true =>
      refine iteF ?_
      refine ⟨_, rfl, m, 1, 10, rfl, ⟨N, tm.same s1⟩, _, rfl, ?_⟩
      cases hm : markB 1 10 m with
      | false =>
        refine iteT ⟨(by show 1 ≤ 1000; decide), fun a na => ⟨a, _, rfl, EB.ox, nf, upd_same, fun d nd nda => ?_⟩⟩
        have nd1 : H1 d = none := by
          rw [upd_ne nda] at nd
          exact nd
        refine ⟨rfl, d, _, upd_same, by rw [upd_ne nda, upd_same], nd1, ?_⟩
        obtain ⟨r1, r2, r3⟩ := raised_mk (C := CB) (f := "part") (v := V.str "most") na nd1 nda
        exact qm rfl hm _ d ⟨s1.trans r1, s1.free r2, r3⟩
      | true =>
        refine iteF ?_
        obtain ⟨i, rfl⟩ : ∃ i, m = .int i := by
          cases m with
          | int i => exact ⟨i, rfl⟩
          | _ => cases hm
        obtain ⟨l, rfl, hl⟩ := (ha.same s1).seq rfl
        refine ⟨_, rfl, l, xs, rfl, hl, fun p np => ?_⟩
        generalize e2 : upd H1 p _ = H2
        have s2 : Same H1 H2 := e2 ▸ same_new np
        have hp : H2 p = some (.lst xs) := e2 ▸ upd_same
        have hx2 := s2 _ _ (s1 _ _ hx)
        have npx : p ≠ x := ne_of hp hx2 (by intro z; cases z)
        refine ⟨_, rfl, x, C, dx, [], rfl, hx2, cl, n1, (by show 0 < 1000; decide), ?_⟩
        refine ⟨_, rfl, _, rfl, x, C, dx, _, rfl, upd_same, cl, n2, (by show 1 < 1000; decide), ?_⟩
        refine q rfl i rfl hm _ dx p ?_ (s1.free np) (by rw [upd_same, putF_new, crowd_put]) (by rw [upd_ne npx, upd_ne npx]; exact hp)
        exact ((But.of_same (s1.trans s2)).trans But.upd).trans But.upd
def spLaw (K : PySem.W.Frag) (TT : List (Addr × Str)) : Sp := fun vs H Q _ => ∃ (a : Addr) (ns : List Int), vs = [.ref a] ∧ SqL K H a (ns.map V.int) ∧ ns.length ≤ 63 ∧ LamX.Tabs TT H ∧ ∀ H', Q (.bl true) H'
theorem ok_law {f fR fC fPe fPa fEq fO fD fP pP C CB : Addr} {TT : List (Addr × Str)} {fd dR dC dPe dPa dEq fdO fdD fdP : FuncData}
    (F : Fun K "law" "law" sLaw f fd) (GR : FnG P w K mg base CX0 10 fR dR ["_law_crowd", "_law_people_here", "_law_most"] (spRight C TT)) (gR : mg "_law_crowd_right" = some (.ref fR)) (kR : PySem.W.keepIn K (.ref fR) = true) (bR : Binds K dR ["_law_crowd", "_law_people_here", "_law_most"] [])
    (GC : FnOk P w K mg base (L2.CX P w) 3 fC dC ["self", "people", "most"] (spCrowdNew K C CB)) (M : Mk K C fC) (gC : mg "Crowd" = some (.ref C)) (bC : Binds K dC ["self", "people", "most"] [])
    (cl : Cls K C) (pp : PropOf K C "people" pP fPe) (GPe : FnOk P w K mg base CX0 1 fPe dPe ["self"] (spCrowdPeople C)) (bPe : Binds K dPe ["self"] [])
    (mPa : Meth K C "pairs" fPa) (GPa : FnOk P w K mg base CX0 1 fPa dPa ["self"] (spCrowdPairs C)) (bPa : Binds K dPa ["self"] [])
    (hsEq : PySem.W.findIn K (.ref C) "__eq__" = some (some (.ref fEq))) (hnEq : PySem.W.findIn K (.ref C) "__ne__" = some (some (.builtin "object.__ne__"))) (hmO : PySem.W.mroIn K C (.type "object") = some true) (hfEq : PySem.W.isFn K (.ref fEq) = true)
    (GEq : FnOk P w K mg base CX0 1 fEq dEq ["self", "other"] (spCrowdEq K C)) (bEq : Binds K dEq ["self", "other"] []) (nfC : PySem.W.notFirst K C (.ref C) = true) (nfL : PySem.W.notFirst K C (.type "list") = true)
    (FO : Fun K "_law_opened" "_law_opened" sOpened fO fdO) (bO : Binds K fdO ["_law_script", "_law_k"] []) (gO : mg "_law_opened" = some (.ref fO))
    (FD : Fun K "_law_draw" "_law_draw" sDraw fD fdD) (bD : Binds K fdD ["_law_pool", "_law_many"] []) (gD : mg "_law_draw" = some (.ref fD))
    (FP : Fun K "_law_people" "_law_people" sPeople fP fdP) (bP : Binds K fdP ["_law_pool", "_law_many"] []) (gP : mg "_law_people" = some (.ref fP)) (B : Bt mg) (T : Tx mg) :
    FnG P w K mg base CX0 11 f fd ["_law_script"] (spLaw K TT) := by
  have GO : FnOk P w K mg base CX0 1 fO fdO ["_law_script", "_law_k"] (spOpened K) := ok_opened FO B
  have GD : FnOk P w K mg base CX0 1 fD fdD ["_law_pool", "_law_many"] spDraw := ok_draw FD B
  have GP : FnOk P w K mg base CX0 2 fP fdP ["_law_pool", "_law_many"] spPeople := ok_people FP FD bD gD B
  refine F.okG scLaw (fun vs H Q E h => ?_) (fun cdv A outer s H vs Q _ hg hr h => ?_)
  · obtain ⟨a, ns, rfl, _⟩ := h
    rfl
  · obtain ⟨a, ns, rfl, hS, hlen, tH0, q⟩ := h
    refine ⟨_, pss_cons (ps_for PassesOwn.never rfl (pi_range1 (by rfl) B.range (pa_cons (pe_callB (call_max2 rfl) (by rfl) B.max (by decide +kernel) (pa_cons pe_int (pa_cons (pe_callB (call_min2 rfl) (by rfl) B.min (by decide +kernel) (pa_cons (pe_callB call_len_seq (by rfl) B.len PySem.boot_len (pa_cons (pv 0) pa_nil)) (pa_cons pe_int pa_nil))) pa_nil))) pa_nil)) (pg_name (i := 1) scLaw.nd rfl (.inl rfl))
        (pss_cons (ps_set (i := 2) scLaw.nd rfl (.inl rfl) (pe_call GO (hr.mono (by decide)) (by rfl) gO FO.kp bO .nil pass0 (pa_cons (pv 0) (pa_cons (pv 1) pa_nil))))
        (pss_cons (ps_par (i := 3) (j := 4) (by rfl) scLaw.nd rfl rfl (by decide) rfl rfl (pa_cons (pe_call GP (hr.mono (by decide)) (by rfl) gP FP.kp bP .nil pass0 (pa_cons (pv 2) (pa_cons (pe_op op_add pe_int (pe_call GD (hr.mono (by decide)) (by rfl) gD FD.kp bD .nil pass0 (pa_cons (pv 2) (pa_cons pe_int pa_nil)))) pa_nil))) (pa_cons (pe_op op_add pe_int (pe_call GD (hr.mono (by decide)) (by rfl) gD FD.kp bD .nil pass0 (pa_cons (pv 2) (pa_cons pe_int pa_nil)))) pa_nil)) (by rfl))
        (pss_cons (ps_set (i := 5) scLaw.nd rfl (.inl rfl) (pe_callTy call_list_of (by rfl) T.list (by decide +kernel) (pa_cons (pv 3) pa_nil)))
        (pss_cons (ps_par (i := 6) (j := 7) (by rfl) scLaw.nd rfl rfl (by decide) rfl rfl (pa_cons (pe_make M GC (hr.mono (by decide)) (by rfl) gC bC .nil (E := fun _ _ _ => False) (passes_call LamX.takes0 fun _ _ _ _ z => z) (pa_cons (pv 5) (pa_cons (pv 4) pa_nil))) (pa_cons (pe_make M GC (hr.mono (by decide)) (by rfl) gC bC .nil (E := fun _ _ _ => False) (passes_call LamX.takes0 fun _ _ _ _ z => z) (pa_cons (pe_callTy call_tuple_of (by rfl) T.tuple (by decide +kernel) (pa_cons (pv 3) pa_nil)) (pa_cons (pv 4) pa_nil))) pa_nil)) (by rfl))
        (pss_cons (ps_expr (pe_bm PySem.F.plainAttrs_list PySem.F.slot_list_append PySem.F.type_list_append mt_append (pv 5) (pa_cons (pe_str) pa_nil)))
        (pss_cons (ps_expr (pe_bm PySem.F.plainAttrs_list PySem.F.slot_list_append PySem.F.type_list_append mt_append (pe_prop (pv 6) cl pp GPe (hr.mono (by decide)) bPe .nil pass0 rfl) (pa_cons (pe_str) pa_nil)))
        (pss_cons (ps_expr (pe_bm PySem.F.plainAttrs_list PySem.F.slot_list_append PySem.F.type_list_append mt_append (pe_meth0 (pv 6) cl mPa GPa (hr.mono (by decide)) bPa .nil pass0) (pa_cons (pe_non) pa_nil)))
        (pss_cons (ps_if (PW.pt (pw_or (pt_not (pt_val (pe_callG GR hg (hr.mono (by decide)) (by rfl) gR kR bR (E := fun _ _ _ _ => False) (fun _ => pass0) (pa_cons (pv 6) (pa_cons (pv 3) (pa_cons (pv 4) pa_nil)))))) (pw_or1 (pt_not (pt_val (pe_callG GR hg (hr.mono (by decide)) (by rfl) gR kR bR (E := fun _ _ _ _ => False) (fun _ => pass0) (pa_cons (pv 7) (pa_cons (pv 3) (pa_cons (pv 4) pa_nil))))))))) (pss_one (ps_ret pe_bl)) pss_nil)
        (pss_cons (ps_if (PW.pt (pw_or (pt_cmpR (op_neOwn (E := fun _ _ _ => False) hsEq hnEq hmO hfEq GEq (hr.mono (by decide)) bEq pass0) (pv 6) (pv 7) (nomark _)) (pw_or (pt_cmpR (op_eqOwn (E := fun _ _ _ => False) hsEq hfEq GEq (hr.mono (by decide)) bEq pass0) (pv 6) (pe_make M GC (hr.mono (by decide)) (by rfl) gC bC .nil (E := fun _ _ _ => False) (passes_call LamX.takes0 fun _ _ _ _ z => z) (pa_cons (pv 3) (pa_cons (pe_op op_add (pe_op op_mod (pv 4) pe_int) pe_int) pa_nil))) (nomark _)) (pw_or1 (pt_cmpR (op_eqOwn (E := fun _ _ _ => False) hsEq hfEq GEq (hr.mono (by decide)) bEq pass0) (pv 6) (pv 3) (nomark _)))))) (pss_one (ps_ret pe_bl)) pss_nil)
        (pss_cons (ps_if (pt_cut (fun _ H c H2 => c = false ∧ Same H H2) (PW.pt (pw_and (pt_cmpR op_gt (pe_callB call_len_seq (by rfl) B.len PySem.boot_len (pa_cons (pv 3) pa_nil)) pe_int (nomark _)) (pw_and1 (PW.pt (pw_or (pt_cmpR (op_eqOwn (E := fun _ _ _ => False) hsEq hfEq GEq (hr.mono (by decide)) bEq pass0) (pv 6) (pe_make M GC (hr.mono (by decide)) (by rfl) gC bC .nil (E := fun _ _ _ => False) (passes_call LamX.takes0 fun _ _ _ _ z => z) (pa_cons (pe_revL (pv 3)) (pa_cons (pv 4) pa_nil))) (nomark _)) (pw_or1 (pt_cmpR (op_eqOwn (E := fun _ _ _ => False) hsEq hfEq GEq (hr.mono (by decide)) bEq pass0) (pv 6) (pe_make M GC (hr.mono (by decide)) (by rfl) gC bC .nil (E := fun _ _ _ => False) (passes_call LamX.takes0 fun _ _ _ _ z => z) (pa_cons (pe_slice sl_list (pv 3) (po_some pe_int) (po_none)) (pa_cons (pv 4) pa_nil))) (nomark _))))))))) (pss_one (ps_ret pe_bl)) pss_nil)
        (pss_cons (ps_if (pt_cut (fun _ H c H2 => c = false ∧ Same H H2) (PW.pt (pw_and (pt_cmpR op_gt (pe_callB call_len_seq (by rfl) B.len PySem.boot_len (pa_cons (pv 3) pa_nil)) pe_int (nomark _)) (pw_and1 (pt_cmpR (op_eqOwn (E := fun _ _ _ => False) hsEq hfEq GEq (hr.mono (by decide)) bEq pass0) (pv 6) (pe_make M GC (hr.mono (by decide)) (by rfl) gC bC .nil (E := fun _ _ _ => False) (passes_call LamX.takes0 fun _ _ _ _ z => z) (pa_cons (pe_op op_cat (pe_op op_cat (pe_slice sl_list (pv 3) (po_none) (po_some pe_int)) (pe_lst (pa_cons (pe_ix ix_list (pv 3) pe_int (fun _ _ => rfl)) (pa_cons (pe_ix ix_list (pv 3) pe_int (fun _ _ => rfl)) pa_nil)))) (pe_slice sl_list (pv 3) (po_some pe_int) (po_none))) (pa_cons (pv 4) pa_nil))) (nomark _)))))) (pss_one (ps_ret pe_bl)) pss_nil)
        (pss_one (ps_if (pt_cut (fun _ H c H2 => c = false ∧ Same H H2) (PW.pt (pw_and (pt_cmpR op_lt (pe_callB call_len_seq (by rfl) B.len PySem.boot_len (pa_cons (pv 3) pa_nil)) pe_int (nomark _)) (pw_and1 (pt_cmpR (op_eqOwn (E := fun _ _ _ => False) hsEq hfEq GEq (hr.mono (by decide)) bEq pass0) (pv 6) (pe_make M GC (hr.mono (by decide)) (by rfl) gC bC .nil (E := fun _ _ _ => False) (passes_call LamX.takes0 fun _ _ _ _ z => z) (pa_cons (pe_op op_cat (pv 3) (pe_lst (pa_cons pe_str pa_nil))) (pa_cons (pv 4) pa_nil))) (nomark _)))))) (pss_one (ps_ret pe_bl)) pss_nil))))))))))))))
      (pss_one (ps_ret pe_bl)), ?_⟩
    have hR := rng_le ((ns.map V.int).length : Int) 5 (by decide)
    refine ⟨_, rfl, a, _, rfl, .inl hS, _, _, rfl, _, _, rfl, _, rfl, by omega, by omega, ?_⟩
    refine for_range (lo := 0) (fun i σ H' => ∃ v1 v2 v3 v4 v5 v6 v7, σ = [some (.ref a), v1, v2, v3, v4, v5, v6, v7] ∧ LamX.ExtN H H' ∧ LamX.Tabs TT H') ⟨_, _, _, _, _, _, _, rfl, LamX.ExtN.of (Same.refl _), tH0⟩ ?_ ?_
    · rintro i σ H2 hi ⟨v1, v2, v3, v4, v5, v6, v7, rfl, eH2, tH2⟩
      have hi4 : i ≤ 62 := by omega
      refine ⟨_, rfl, _, rfl, a, ns, i, by simp, extN_sq eH2 hS, hi4, fun H3 pl s3 npl hP3 => ?_⟩
      refine ⟨_, rfl, _, rfl, pl, 8, rfl, hP3, by decide, by decide, fun r H4 r0 r1 hP4 b4 => ?_⟩
      refine ⟨_, _, rfl, rfl, pl, (1 + r).toNat, by rw [Int.toNat_of_nonneg (by omega)]; rfl, hP4, by omega, fun H5 l zs hP5 b5 n5 h5 lz nd mem => ?_⟩
      have dr : Drawn8 zs := ⟨nd, mem⟩
      have nlp : l ≠ pl := fun e => by
        obtain ⟨g, q, hg, _⟩ := hP4
        rw [e, hg] at n5
        cases n5
      refine ⟨_, rfl, pl, 10, rfl, hP5, by decide, by decide, fun r2 H6 r20 r21 hP6 b6 => ?_⟩
      refine ⟨_, _, rfl, rfl, _, _, rfl, ?_⟩
      have h6 := b6 _ _ nlp h5
      have s26 : Same H2 H6 := ((((But.of_same s3).trans b4).trans b5).trans b6).same npl
      have hz8 : zs.length ≤ 8 := by omega
      have hz1 : 1 ≤ zs.length := by omega
      have t6 := tH2.ext fun b o e => s26 _ _ e
      have e6 := eH2.trans (LamX.ExtN.of s26)
      clear hP3 hP4 hP5 hP6 b4 b5 b6 n5 h5 s3
      have zi : ∀ J : Hp, ∀ x ∈ zs.map V.str, ItemOk K J x := fun J => dr.items
      have zl : (zs.map V.str).length ≤ 1000 := by
        rw [List.length_map]
        omega
      have zp := dr.people hz1 hz8
      have m1 : markB 1 10 (.int (1 + r2)) = true := by
        show (decide (1 ≤ 1 + r2) && decide (1 + r2 ≤ 10)) = true
        rw [decide_eq_true (by omega), decide_eq_true (by omega)]
        rfl
      have m2 : markB 1 10 (.int ((1 + r2) % 10 + 1)) = true := by
        show (decide (1 ≤ (1 + r2) % 10 + 1) && decide ((1 + r2) % 10 + 1 ≤ 10)) = true
        rw [decide_eq_true (by omega), decide_eq_true (by omega)]
        rfl
      -- the crowds
      refine ⟨_, rfl, l, _, rfl, .inl (SqL.of h6), fun p7 n7 => ?_⟩
      generalize e7 : upd H6 p7 _ = H7
      have s7 : Same H6 H7 := e7 ▸ same_new n7
      have h7 : H7 p7 = some (.lst (zs.map V.str)) := e7 ▸ upd_same
      have l7 := s7 _ _ h6
      refine st_name ?_
      dsimp only [List.set]
      refine st_seq ?_
      refine st_par ?_
      refine st_cons ?_
      refine rd_made m1 (fun Q1 k => ⟨_, rfl, _, rfl, k _ _ (Same.refl _) (.lst' h7 (zi _) zl zp)⟩) fun H8 x6 d6 q6 s8 nx6 nq6 hx6 hq6 => ?_
      have l8 := s8 _ _ l7
      have h8 := s8 _ _ h7
      refine st_cons ?_
      refine rd_made m1 (fun Q1 k => ⟨_, rfl, l, _, rfl, .inl ⟨SqL.of l8, fun t nt => ⟨_, rfl, k _ _ (same_new nt) (.tup' upd_same (zi _) zl zp)⟩⟩⟩) fun H9 x7 d7 q7 s9 nx7 nq7 hx7 hq7 => ?_
      refine ⟨_, _, rfl, ?_⟩
      have h9 := s9 _ _ h8
      refine ⟨_, rfl, .inl ⟨rfl, _, SqL.of h9⟩, p7, _, _, rfl, rfl, h9, small1000 zl, ?_⟩
      generalize e10 : upd H9 p7 _ = H10
      have b10 : But p7 H9 H10 := e10 ▸ But.upd
      have c6 : CrowdOf H10 C x6 zs (1 + r2) := ⟨d6, q6, b10 _ _ (ne_of_none h7 nx6).symm (s9 _ _ hx6), b10 _ _ (ne_of_none h7 nq6).symm (s9 _ _ hq6)⟩
      have c7 : CrowdOf H10 C x7 zs (1 + r2) := ⟨d7, q7, b10 _ _ (ne_of_none h8 nx7).symm hx7, b10 _ _ (ne_of_none h8 nq7).symm hq7⟩
      have l10 := b10 _ _ (ne_of_none h6 n7) (s9 _ _ l8)
      have s610 : Same H6 H10 := fun c o e => b10 _ _ (ne_of_none e n7) (s9 _ _ (s8 _ _ (s7 _ _ e)))
      have hx6b := b10 _ _ (ne_of_none h7 nx6).symm (s9 _ _ hx6)
      clear e7 e10 b10 h9 h8 h7
      -- what is told may be changed
      refine ⟨_, rfl, x6, _, _, rfl, hx6b, x6, zs, _, rfl, c6, by omega, fun H11 p11 s11 n11 h11 => ?_⟩
      refine ⟨.inl ⟨rfl, _, SqL.of h11⟩, p11, _, _, rfl, rfl, h11, small1000 zl, ?_⟩
      generalize e12 : upd H11 p11 _ = H12
      have s12 : Same H10 H12 := fun c o e => by
        rw [← e12, upd_ne (ne_of_none e n11)]
        exact s11 _ _ e
      refine ⟨_, rfl, x6, _, _, rfl, s12 _ _ hx6b, rfl, x6, zs, _, rfl, c6.same s12, hz8, fun H13 p13 ys s13 n13 h13 t13 => ?_⟩
      refine ⟨.inl ⟨rfl, _, SqL.of h13⟩, p13, _, _, rfl, rfl, h13, small1000 (by rw [t13.1]; exact Nat.le_trans (pairs_len hz8 hz8) (by decide)), ?_⟩
      generalize e14 : upd H13 p13 _ = H14
      have s14 : Same H12 H14 := fun c o e => by
        rw [← e14, upd_ne (ne_of_none e n13)]
        exact s13 _ _ e
      have S14 : Same H10 H14 := s12.trans s14
      clear e12 e14
      have t14 := t6.ext fun b o e => S14 _ _ (s610 _ _ e)
      have l14 := S14 _ _ l10
      have c614 := c6.same S14
      have c714 := c7.same S14
      -- both are right
      refine ⟨_, rfl, _, rfl, _, rfl, x6, l, zs, _, rfl, c614, l14, mem, nd, hz1, hz8, by omega, by omega, t14, fun G1 eG1 tG1 => ⟨true, rfl, ?_⟩⟩
      refine iteF ?_
      have l1 := eG1 _ _ l14 fun ps z => (nomatch z)
      have c71 : CrowdOf G1 C x7 zs (1 + r2) := CrowdAt.extN eG1 c714
      refine ⟨_, rfl, _, rfl, _, rfl, x7, l, zs, _, rfl, c71, l1, mem, nd, hz1, hz8, by omega, by omega, tG1, fun G2 eG2 tG2 => ⟨true, rfl, ?_⟩⟩
      refine iteF ?_
      have eG := eG1.trans eG2
      have c6G : CrowdOf G2 C x6 zs (1 + r2) := CrowdAt.extN eG c614
      have c7G : CrowdOf G2 C x7 zs (1 + r2) := CrowdAt.extN eG2 c71
      have lG := eG2 _ _ l1 fun ps z => (nomatch z)
      have ok : ∀ z ∈ zs, PyData.strOk z = true := fun z h => (names_short z (mem z h)).2
      -- equal and other
      refine ⟨_, rfl, _, rfl, rd_neC c6G c7G ok ok ⟨_, rfl, ?_⟩⟩
      rw [decide_eq_true rfl, decide_eq_true rfl]
      refine iteF ?_
      refine ⟨_, rfl, rd_made m2 (fun Q1 k => ⟨_, rfl, _, rfl, _, _, rfl, rfl, (by show (0 : Int) < 10; decide), _, _, rfl, rfl, k _ _ (Same.refl _) (.lst' lG (zi _) zl zp)⟩) fun G3 x8 d8 q8 s23 nx8 nq8 hx8 hq8 => ?_⟩
      refine rd_eqC nfC (c6G.same s23) ⟨d8, q8, hx8, hq8⟩ ok ok ⟨_, rfl, ?_⟩
      rw [decide_eq_false (show ¬ (1 + r2 = (1 + r2) % 10 + 1) by omega)]
      refine iteF ?_
      have c63 := c6G.same s23
      have l3 := s23 _ _ lG
      refine ⟨_, rfl, _, rfl, rd_eqL nfL c63 l3 ok ⟨_, rfl, ?_⟩⟩
      refine iteF ?_
      -- turned about, and without the first
      refine ⟨?_, ?_⟩
      · refine ⟨_, rfl, l, _, rfl, .inl (SqL.of l3), _, _, rfl, rfl, _, rfl, ite2 (fun c => ?_) (fun _ => ⟨rfl, Same.refl _⟩)⟩
        have c1 : (1 : Int) < ((zs.map V.str).length : Int) := of_decide_eq_true c
        rw [List.length_map] at c1
        have c2 : 1 < zs.length := by omega
        have dr2 : Drawn8 zs.reverse := dr.perm (List.reverse_perm zs)
        have dr3 : Drawn8 (zs.drop 1) := dr.sub (List.drop_sublist 1 zs)
        have le2 : zs.reverse.length = zs.length := List.length_reverse
        have le3 : (zs.drop 1).length = zs.length - 1 := List.length_drop
        refine ⟨_, rfl, rd_made (xs := zs.reverse.map V.str) m1 (fun Q1 k => ⟨_, rfl, l, _, rfl, SqL.of l3, fun t nt => ⟨_, rfl, k _ _ (same_new nt) (.lst' (by rw [upd_same, List.map_reverse]) dr2.items (by rw [List.length_map]; omega) (dr2.people (by omega) (by omega)))⟩⟩) fun J1 y1 f1 g1 u1 _ _ hy1 hg1 => ?_⟩
        refine rd_eqC nfC (c63.same u1) ⟨f1, g1, hy1, hg1⟩ ok (fun z h => ok z (List.mem_reverse.mp h)) ⟨_, rfl, ?_⟩
        rw [decide_eq_false (fun e : zs = zs.reverse => rev_ne nd c2 e.symm), Bool.and_false]
        refine iteF ?_
        refine ⟨_, rfl, rd_made (xs := (zs.drop 1).map V.str) m1 (fun Q1 k => ⟨_, rfl, 1, rfl, l, _, rfl, SqL.of (u1 _ _ l3), fun t nt => ⟨_, rfl, k _ _ (same_new nt) (.lst' (by rw [upd_same, show cutV (zs.map V.str) (some 1) none = (zs.map V.str).drop 1 from km_drop 1, List.map_drop]) dr3.items (by rw [List.length_map]; omega) (dr3.people (by omega) (by omega)))⟩⟩) fun J2 y2 f2 g2 u2 _ _ hy2 hg2 => ?_⟩
        refine rd_eqC nfC ((c63.same u1).same u2) ⟨f2, g2, hy2, hg2⟩ ok (fun z h => ok z (List.mem_of_mem_drop h)) ⟨_, rfl, ?_⟩
        rw [decide_eq_false (fun e : zs = zs.drop 1 => by have := congrArg List.length e; omega), Bool.and_false]
        exact ⟨rfl, u1.trans u2⟩
      rintro c J ⟨rfl, sJ⟩
      refine iteF ?_
      have c6J := c63.same sJ
      have lJ := sJ _ _ l3
      -- two of them exchanged
      refine ⟨?_, ?_⟩
      · refine ⟨_, rfl, l, _, rfl, .inl (SqL.of lJ), _, _, rfl, rfl, _, rfl, ite2 (fun c => ?_) (fun _ => ⟨rfl, Same.refl _⟩)⟩
        have c1 : (2 : Int) < ((zs.map V.str).length : Int) := of_decide_eq_true c
        rw [List.length_map] at c1
        obtain ⟨z0, z1, z2, zr, rfl⟩ : ∃ z0 z1 z2 zr, zs = z0 :: z1 :: z2 :: zr := by
          match zs, c1 with
          | z0 :: z1 :: z2 :: zr, _ => exact ⟨z0, z1, z2, zr, rfl⟩
          | [_, _], c1 => simp at c1
          | [_], c1 => simp at c1
          | [], c1 => simp at c1
        have dr2 : Drawn8 (z0 :: z2 :: z1 :: zr) := dr.perm (.cons _ (.swap _ _ _))
        have le2 : (z0 :: z2 :: z1 :: zr).length = (z0 :: z1 :: z2 :: zr).length := rfl
        refine ⟨_, rfl, rd_made (xs := (z0 :: z2 :: z1 :: zr).map V.str) m1 (fun Q1 k => ?_) fun J1 y1 f1 g1 u1 _ _ hy1 hg1 => ?_⟩
        · refine ⟨_, rfl, 1, rfl, l, _, rfl, SqL.of lJ, fun a1 n1 => ?_⟩
          generalize ea : upd J a1 _ = J1
          have w1 : Same J J1 := ea ▸ same_new n1
          have k1 : J1 a1 = some (.lst [.str z0]) := by
            rw [← ea, upd_same, show cutV ((z0 :: z1 :: z2 :: zr).map V.str) none (some 1) = ((z0 :: z1 :: z2 :: zr).map V.str).take 1 from km_take 1]
            rfl
          refine ⟨_, rfl, l, _, 2, .str z2, rfl, rfl, SqL.of (w1 _ _ lJ), atI_nat (j := 2) rfl, _, rfl, l, _, 1, .str z1, rfl, rfl, SqL.of (w1 _ _ lJ), atI_nat (j := 1) rfl, (by show 2 ≤ sizeLine; decide), fun a2 n2 => ?_⟩
          generalize eb : upd J1 a2 _ = J2
          have w2 : Same J1 J2 := eb ▸ same_new n2
          have k2 : J2 a2 = some (.lst [.str z2, .str z1]) := eb ▸ upd_same
          refine ⟨a1, a2, _, _, rfl, rfl, w2 _ _ k1, k2, (by show 3 ≤ sizeLine; decide), fun a3 n3 => ?_⟩
          generalize ec : upd J2 a3 _ = J3
          have w3 : Same J2 J3 := ec ▸ same_new n3
          have k3 : J3 a3 = some (.lst [.str z0, .str z2, .str z1]) := ec ▸ upd_same
          refine ⟨_, rfl, 3, rfl, l, _, rfl, SqL.of (w3 _ _ (w2 _ _ (w1 _ _ lJ))), fun a4 n4 => ?_⟩
          generalize ed : upd J3 a4 _ = J4
          have w4 : Same J3 J4 := ed ▸ same_new n4
          have k4 : J4 a4 = some (.lst (zr.map V.str)) := by
            rw [← ed, upd_same, show cutV ((z0 :: z1 :: z2 :: zr).map V.str) (some 3) none = ((z0 :: z1 :: z2 :: zr).map V.str).drop 3 from km_drop 3]
            rfl
          have hzr : (zr.map V.str).length ≤ 8 := by
            rw [List.length_map]
            have : zr.length + 3 ≤ 8 := hz8
            omega
          refine ⟨a3, a4, _, _, rfl, rfl, w4 _ _ k3, k4, Nat.le_of_lt (small1000 (by show 3 + (zr.map V.str).length ≤ 1000; omega)), fun a5 n5 => ?_⟩
          exact ⟨_, rfl, k _ _ (w1.trans (w2.trans (w3.trans (w4.trans (same_new n5))))) (.lst' upd_same dr2.items (by rw [List.length_map]; omega) (dr2.people (by omega) (by omega)))⟩
        · refine rd_eqC nfC (c6J.same u1) ⟨f1, g1, hy1, hg1⟩ ok (fun z h => (names_short z (dr2.mem z h)).2) ⟨_, rfl, ?_⟩
          rw [decide_eq_false (fun e : z0 :: z1 :: z2 :: zr = z0 :: z2 :: z1 :: zr => by
            have e2 := (List.cons.inj (List.cons.inj e).2).1
            have n2 := (List.nodup_cons.mp (List.nodup_cons.mp nd).2).1
            exact n2 (e2 ▸ List.mem_cons_self ..)), Bool.and_false]
          exact ⟨rfl, u1⟩
      rintro c J' ⟨rfl, sJ'⟩
      refine iteF ?_
      have c6' := c6J.same sJ'
      have l' := sJ' _ _ lJ
      -- one more
      refine ⟨?_, ?_⟩
      · refine ⟨_, rfl, l, _, rfl, .inl (SqL.of l'), _, _, rfl, rfl, _, rfl, ite2 (fun c => ?_) (fun _ => ⟨rfl, Same.refl _⟩)⟩
        have c1 : ((zs.map V.str).length : Int) < 8 := of_decide_eq_true c
        rw [List.length_map] at c1
        have c2 : zs.length < 8 := by omega
        refine ⟨_, rfl, rd_made (xs := (zs ++ [("more" : Str)]).map V.str) m1 (fun Q1 k => ?_) fun J1 y1 f1 g1 u1 _ _ hy1 hg1 => ?_⟩
        · refine rd_cat1 (.str "more") rfl l' (by rw [List.length_map]; omega) (fun Q1 k => k _ (Same.refl _)) fun H' p s h => ⟨_, rfl, k _ _ s (.lst' (by rw [h, List.map_append]; rfl) (fun x hx => ?_) (by rw [List.length_map, List.length_append, List.length_singleton]; omega) (dr.more c2))⟩
          rw [List.map_append] at hx
          rcases List.mem_append.mp hx with hx | hx
          · exact dr.items x hx
          · obtain rfl := List.mem_singleton.mp hx
            exact item_str more_word.2.2.2
        · refine rd_eqC nfC (c6'.same u1) ⟨f1, g1, hy1, hg1⟩ ok (fun z h => ?_) ⟨_, rfl, ?_⟩
          · rcases List.mem_append.mp h with h | h
            · exact ok z h
            · rw [List.mem_singleton.mp h]
              exact more_word.2.2.1
          rw [decide_eq_false (fun e : zs = zs ++ [("more" : Str)] => by have := congrArg List.length e; rw [List.length_append, List.length_singleton] at this; omega), Bool.and_false]
          exact ⟨rfl, u1⟩
      rintro c J3 ⟨rfl, sJ3⟩
      refine iteF ?_
      have all : Same G2 J3 := s23.trans (sJ.trans (sJ'.trans sJ3))
      refine ⟨_, _, _, _, _, _, _, rfl, e6.trans ((LamX.ExtN.of (s610.trans S14)).trans (eG.trans (LamX.ExtN.of all))), tG2.ext fun b o e => all _ _ e⟩
    · rintro σ H2 ⟨v1, v2, v3, v4, v5, v6, v7, rfl, _, _⟩
      exact q _

end
end K02

set_option Elab.async false
set_option linter.all false
set_option maxRecDepth 100000
set_option maxHeartbeats 4000000
namespace K02
open PySem PySem.Spec PyProof.Rows L2
theorem all_mk {l : PySem.W.OpenLaw} {w : World} {K : PySem.W.Frag} {h : Heap} {mg : Str → Option Value} {fa cCR PCR fIsInteger fIsIntegerWithin fIsWord fArePeople fNeedPerson fOpened fDraw fPeople fPairs fRefused fCrowdRight fLaw CMarksError CBadCrowd fBadCrowdInit CBadPair CBadMark CBadNumber CBadArgument CNotThere fNotThereInit CCrowd fCrowdInit fCrowdLen fCrowdContains fCrowdIter fCrowdEq fCrowdPlace fCrowdPairs fCrowdIsPair fCrowdPeople pCrowdPeople : Addr} (X : K.In h) (G : h.Ns mainGlobals mg) (hfa : mg "law" = some (.ref fa))
    {ocIsInteger kVIsInteger dcIsInteger pmIsInteger cdIsInteger ctIsInteger : Value} {odIsInteger anIsInteger : Option Addr} {slIsInteger : Array (Option Value)}
    {ocIsIntegerWithin kVIsIntegerWithin dcIsIntegerWithin pmIsIntegerWithin cdIsIntegerWithin ctIsIntegerWithin : Value} {odIsIntegerWithin anIsIntegerWithin : Option Addr} {slIsIntegerWithin : Array (Option Value)}
    {ocIsWord kVIsWord dcIsWord pmIsWord cdIsWord ctIsWord : Value} {odIsWord anIsWord : Option Addr} {slIsWord : Array (Option Value)}
    {ocArePeople kVArePeople dcArePeople pmArePeople cdArePeople ctArePeople : Value} {odArePeople anArePeople : Option Addr} {slArePeople : Array (Option Value)}
    {ocNeedPerson kVNeedPerson dcNeedPerson pmNeedPerson cdNeedPerson ctNeedPerson : Value} {odNeedPerson anNeedPerson : Option Addr} {slNeedPerson : Array (Option Value)}
    {ocOpened kVOpened dcOpened pmOpened cdOpened ctOpened : Value} {odOpened anOpened : Option Addr} {slOpened : Array (Option Value)}
    {ocDraw kVDraw dcDraw pmDraw cdDraw ctDraw : Value} {odDraw anDraw : Option Addr} {slDraw : Array (Option Value)}
    {ocPeople kVPeople dcPeople pmPeople cdPeople ctPeople : Value} {odPeople anPeople : Option Addr} {slPeople : Array (Option Value)}
    {ocPairs kVPairs dcPairs pmPairs cdPairs ctPairs : Value} {odPairs anPairs : Option Addr} {slPairs : Array (Option Value)}
    {ocRefused kVRefused dcRefused pmRefused cdRefused ctRefused : Value} {odRefused anRefused : Option Addr} {slRefused : Array (Option Value)}
    {ocCrowdRight kVCrowdRight dcCrowdRight pmCrowdRight ctCrowdRight : Value} {odCrowdRight anCrowdRight : Option Addr} {slCrowdRight : Array (Option Value)}
    {ocLaw kVLaw dcLaw pmLaw cdLaw ctLaw : Value} {odLaw anLaw : Option Addr} {slLaw : Array (Option Value)}
    {nmBadCrowd qBadCrowd : Str} {NBadCrowd : Addr} {bsBadCrowd : List Value} {snBadCrowd : List Str} {subBadCrowd : List Value} {abBadCrowd : Bool} {colBadCrowd : Option Bool} {ddBadCrowd : Option Addr} {m0BadCrowd m1BadCrowd m2BadCrowd m3BadCrowd m5BadCrowd : Option Value}
    {ocBadCrowdInit kVBadCrowdInit dcBadCrowdInit pmBadCrowdInit cdBadCrowdInit ctBadCrowdInit : Value} {odBadCrowdInit anBadCrowdInit : Option Addr} {slBadCrowdInit : Array (Option Value)}
    {ocNotThereInit kVNotThereInit dcNotThereInit pmNotThereInit cdNotThereInit ctNotThereInit : Value} {odNotThereInit anNotThereInit : Option Addr} {slNotThereInit : Array (Option Value)}
    {ocCrowdInit kVCrowdInit dcCrowdInit pmCrowdInit cdCrowdInit ctCrowdInit : Value} {odCrowdInit anCrowdInit : Option Addr} {slCrowdInit : Array (Option Value)}
    {ocCrowdLen kVCrowdLen dcCrowdLen pmCrowdLen cdCrowdLen ctCrowdLen : Value} {odCrowdLen anCrowdLen : Option Addr} {slCrowdLen : Array (Option Value)}
    {ocCrowdContains kVCrowdContains dcCrowdContains pmCrowdContains cdCrowdContains ctCrowdContains : Value} {odCrowdContains anCrowdContains : Option Addr} {slCrowdContains : Array (Option Value)}
    {ocCrowdIter kVCrowdIter dcCrowdIter pmCrowdIter cdCrowdIter ctCrowdIter : Value} {odCrowdIter anCrowdIter : Option Addr} {slCrowdIter : Array (Option Value)}
    {ocCrowdEq kVCrowdEq dcCrowdEq pmCrowdEq cdCrowdEq ctCrowdEq : Value} {odCrowdEq anCrowdEq : Option Addr} {slCrowdEq : Array (Option Value)}
    {ocCrowdPlace kVCrowdPlace dcCrowdPlace pmCrowdPlace cdCrowdPlace ctCrowdPlace : Value} {odCrowdPlace anCrowdPlace : Option Addr} {slCrowdPlace : Array (Option Value)}
    {ocCrowdPairs kVCrowdPairs dcCrowdPairs pmCrowdPairs cdCrowdPairs ctCrowdPairs : Value} {odCrowdPairs anCrowdPairs : Option Addr} {slCrowdPairs : Array (Option Value)}
    {ocCrowdIsPair kVCrowdIsPair dcCrowdIsPair pmCrowdIsPair cdCrowdIsPair ctCrowdIsPair : Value} {odCrowdIsPair anCrowdIsPair : Option Addr} {slCrowdIsPair : Array (Option Value)}
    {restCrowdPeople : List Value}
    {ocCrowdPeople kVCrowdPeople dcCrowdPeople pmCrowdPeople cdCrowdPeople ctCrowdPeople : Value} {odCrowdPeople anCrowdPeople : Option Addr} {slCrowdPeople : Array (Option Value)}
    {t_LETTERS : Tok}
    {t_LONGEST : Tok}
    {t_MOST_PEOPLE : Tok}
    {t_GREATEST_MARK : Tok}
    (tb : PySem.W.CodeHd h cCR PCR ∧ h.get? PCR = some (PySem.W.tabObj #[]))
    (aIsInteger : PySem.W.nsIn K mainGlobals "is_integer" = some (some (.ref fIsInteger)))
    (lIsInteger : K.lookup fIsInteger = some ⟨ocIsInteger, odIsInteger, .func (PySem.W.fnOf "is_integer" "is_integer" (defArgs sIsInteger) (defBody sIsInteger) (defScope sIsInteger) .none kVIsInteger dcIsInteger pmIsInteger anIsInteger cdIsInteger ctIsInteger), slIsInteger⟩)
    (cIsInteger : PySem.W.codeIn K cdIsInteger "is_integer" = true)
    (kIsInteger : PySem.W.keepIn K (.ref fIsInteger) = true)
    (aIsIntegerWithin : PySem.W.nsIn K mainGlobals "is_integer_within" = some (some (.ref fIsIntegerWithin)))
    (lIsIntegerWithin : K.lookup fIsIntegerWithin = some ⟨ocIsIntegerWithin, odIsIntegerWithin, .func (PySem.W.fnOf "is_integer_within" "is_integer_within" (defArgs sIsIntegerWithin) (defBody sIsIntegerWithin) (defScope sIsIntegerWithin) .none kVIsIntegerWithin dcIsIntegerWithin pmIsIntegerWithin anIsIntegerWithin cdIsIntegerWithin ctIsIntegerWithin), slIsIntegerWithin⟩)
    (cIsIntegerWithin : PySem.W.codeIn K cdIsIntegerWithin "is_integer_within" = true)
    (kIsIntegerWithin : PySem.W.keepIn K (.ref fIsIntegerWithin) = true)
    (aIsWord : PySem.W.nsIn K mainGlobals "is_word" = some (some (.ref fIsWord)))
    (lIsWord : K.lookup fIsWord = some ⟨ocIsWord, odIsWord, .func (PySem.W.fnOf "is_word" "is_word" (defArgs sIsWord) (defBody sIsWord) (defScope sIsWord) .none kVIsWord dcIsWord pmIsWord anIsWord cdIsWord ctIsWord), slIsWord⟩)
    (cIsWord : PySem.W.codeIn K cdIsWord "is_word" = true)
    (kIsWord : PySem.W.keepIn K (.ref fIsWord) = true)
    (aArePeople : PySem.W.nsIn K mainGlobals "are_people" = some (some (.ref fArePeople)))
    (lArePeople : K.lookup fArePeople = some ⟨ocArePeople, odArePeople, .func (PySem.W.fnOf "are_people" "are_people" (defArgs sArePeople) (defBody sArePeople) (defScope sArePeople) .none kVArePeople dcArePeople pmArePeople anArePeople cdArePeople ctArePeople), slArePeople⟩)
    (cArePeople : PySem.W.codeIn K cdArePeople "are_people" = true)
    (kArePeople : PySem.W.keepIn K (.ref fArePeople) = true)
    (aNeedPerson : PySem.W.nsIn K mainGlobals "need_person" = some (some (.ref fNeedPerson)))
    (lNeedPerson : K.lookup fNeedPerson = some ⟨ocNeedPerson, odNeedPerson, .func (PySem.W.fnOf "need_person" "need_person" (defArgs sNeedPerson) (defBody sNeedPerson) (defScope sNeedPerson) .none kVNeedPerson dcNeedPerson pmNeedPerson anNeedPerson cdNeedPerson ctNeedPerson), slNeedPerson⟩)
    (cNeedPerson : PySem.W.codeIn K cdNeedPerson "need_person" = true)
    (kNeedPerson : PySem.W.keepIn K (.ref fNeedPerson) = true)
    (aOpened : PySem.W.nsIn K mainGlobals "_law_opened" = some (some (.ref fOpened)))
    (lOpened : K.lookup fOpened = some ⟨ocOpened, odOpened, .func (PySem.W.fnOf "_law_opened" "_law_opened" (defArgs sOpened) (defBody sOpened) (defScope sOpened) .none kVOpened dcOpened pmOpened anOpened cdOpened ctOpened), slOpened⟩)
    (cOpened : PySem.W.codeIn K cdOpened "_law_opened" = true)
    (kOpened : PySem.W.keepIn K (.ref fOpened) = true)
    (aDraw : PySem.W.nsIn K mainGlobals "_law_draw" = some (some (.ref fDraw)))
    (lDraw : K.lookup fDraw = some ⟨ocDraw, odDraw, .func (PySem.W.fnOf "_law_draw" "_law_draw" (defArgs sDraw) (defBody sDraw) (defScope sDraw) .none kVDraw dcDraw pmDraw anDraw cdDraw ctDraw), slDraw⟩)
    (cDraw : PySem.W.codeIn K cdDraw "_law_draw" = true)
    (kDraw : PySem.W.keepIn K (.ref fDraw) = true)
    (aPeople : PySem.W.nsIn K mainGlobals "_law_people" = some (some (.ref fPeople)))
    (lPeople : K.lookup fPeople = some ⟨ocPeople, odPeople, .func (PySem.W.fnOf "_law_people" "_law_people" (defArgs sPeople) (defBody sPeople) (defScope sPeople) .none kVPeople dcPeople pmPeople anPeople cdPeople ctPeople), slPeople⟩)
    (cPeople : PySem.W.codeIn K cdPeople "_law_people" = true)
    (kPeople : PySem.W.keepIn K (.ref fPeople) = true)
    (aPairs : PySem.W.nsIn K mainGlobals "_law_pairs" = some (some (.ref fPairs)))
    (lPairs : K.lookup fPairs = some ⟨ocPairs, odPairs, .func (PySem.W.fnOf "_law_pairs" "_law_pairs" (defArgs sPairs) (defBody sPairs) (defScope sPairs) .none kVPairs dcPairs pmPairs anPairs cdPairs ctPairs), slPairs⟩)
    (cPairs : PySem.W.codeIn K cdPairs "_law_pairs" = true)
    (kPairs : PySem.W.keepIn K (.ref fPairs) = true)
    (aRefused : PySem.W.nsIn K mainGlobals "_law_refused" = some (some (.ref fRefused)))
    (lRefused : K.lookup fRefused = some ⟨ocRefused, odRefused, .func (PySem.W.fnOf "_law_refused" "_law_refused" (defArgs sRefused) (defBody sRefused) (defScope sRefused) .none kVRefused dcRefused pmRefused anRefused cdRefused ctRefused), slRefused⟩)
    (cRefused : PySem.W.codeIn K cdRefused "_law_refused" = true)
    (kRefused : PySem.W.keepIn K (.ref fRefused) = true)
    (aCrowdRight : PySem.W.nsIn K mainGlobals "_law_crowd_right" = some (some (.ref fCrowdRight)))
    (lCrowdRight : K.lookup fCrowdRight = some ⟨ocCrowdRight, odCrowdRight, .func (PySem.W.fnOf "_law_crowd_right" "_law_crowd_right" (defArgs sCrowdRight) (defBody sCrowdRight) (defScope sCrowdRight) .none kVCrowdRight dcCrowdRight pmCrowdRight anCrowdRight (.ref cCR) ctCrowdRight), slCrowdRight⟩)
    (cCrowdRight : PySem.W.codeIn K (.ref cCR) "_law_crowd_right" = true)
    (kCrowdRight : PySem.W.keepIn K (.ref fCrowdRight) = true)
    (aLaw : PySem.W.nsIn K mainGlobals "law" = some (some (.ref fLaw)))
    (lLaw : K.lookup fLaw = some ⟨ocLaw, odLaw, .func (PySem.W.fnOf "law" "law" (defArgs sLaw) (defBody sLaw) (defScope sLaw) .none kVLaw dcLaw pmLaw anLaw cdLaw ctLaw), slLaw⟩)
    (cLaw : PySem.W.codeIn K cdLaw "law" = true)
    (kLaw : PySem.W.keepIn K (.ref fLaw) = true)
    (nT : K.lookup PCR = none)
    (aMarksError : PySem.W.nsIn K mainGlobals "MarksError" = some (some (.ref CMarksError)))
    (aBadCrowd : PySem.W.nsIn K mainGlobals "BadCrowd" = some (some (.ref CBadCrowd)))
    (gaBadCrowd : PySem.W.findIn K (.ref CBadCrowd) "__getattribute__" = some (some (.builtin "BaseException.__getattribute__")))
    (ggBadCrowd : PySem.W.findIn K (.ref CBadCrowd) "__getattr__" = some none)
    (exBadCrowd : PySem.W.subIn K (.ref CBadCrowd) (.type "BaseException") = some true)
    (hdBadCrowd : PySem.W.hasDictIn K CBadCrowd = true)
    (noBadCrowd : PySem.W.findIn K (.ref CBadCrowd) "part" = some none)
    (ccBadCrowd : PySem.W.findIn K (.ref CBadCrowd) "__class__" = some (some (.builtin "object.__class__")))
    (mrBadCrowd : PySem.W.mroIn K CBadCrowd (.type "object") = some true)
    (spg : PySem.W.specialIn K (.builtin "object.__class__") "__get__" = some (some (.builtin "getset_descriptor.__get__")))
    (tkc : PySem.W.takesIn K (.builtin "object.__class__") = some true)
    (xBadCrowd : K.lookup CBadCrowd = some (excClassObj nmBadCrowd qBadCrowd CBadCrowd NBadCrowd bsBadCrowd (.ref CMarksError :: [.type "ValueError", .type "Exception", .type "BaseException", .type "object"]) true snBadCrowd subBadCrowd abBadCrowd colBadCrowd ddBadCrowd m0BadCrowd m1BadCrowd m2BadCrowd m3BadCrowd m5BadCrowd "ValueError.__new__"))
    (ssBadCrowd : PySem.W.subIn K (.ref CBadCrowd) (.ref CBadCrowd) = some true)
    (saBadCrowd : PySem.W.findIn K (.ref CBadCrowd) "__setattr__" = some (some (.builtin "object.__setattr__")))
    (tyBadCrowd : PySem.W.typeIn K (.ref CBadCrowd) = some (.type "type"))
    (kkBadCrowd : PySem.W.keepIn K (.ref CBadCrowd) = true)
    (iBadCrowd : PySem.W.findIn K (.ref CBadCrowd) "__init__" = some (some (.ref fBadCrowdInit)))
    (tBadCrowd : PySem.W.typeIn K (.ref fBadCrowdInit) = some (.type "function"))
    (lBadCrowdInit : K.lookup fBadCrowdInit = some ⟨ocBadCrowdInit, odBadCrowdInit, .func (PySem.W.fnOf "__init__" "BadCrowd.__init__" (defArgs sBadCrowdInit) (defBody sBadCrowdInit) (defScope sBadCrowdInit) .none kVBadCrowdInit dcBadCrowdInit pmBadCrowdInit anBadCrowdInit cdBadCrowdInit ctBadCrowdInit), slBadCrowdInit⟩)
    (cBadCrowdInit : PySem.W.codeIn K cdBadCrowdInit "BadCrowd.__init__" = true)
    (kBadCrowdInit : PySem.W.keepIn K (.ref fBadCrowdInit) = true)
    (aBadPair : PySem.W.nsIn K mainGlobals "BadPair" = some (some (.ref CBadPair)))
    (gaBadPair : PySem.W.findIn K (.ref CBadPair) "__getattribute__" = some (some (.builtin "BaseException.__getattribute__")))
    (ggBadPair : PySem.W.findIn K (.ref CBadPair) "__getattr__" = some none)
    (exBadPair : PySem.W.subIn K (.ref CBadPair) (.type "BaseException") = some true)
    (hdBadPair : PySem.W.hasDictIn K CBadPair = true)
    (noBadPair : PySem.W.findIn K (.ref CBadPair) "value" = some none)
    (aBadMark : PySem.W.nsIn K mainGlobals "BadMark" = some (some (.ref CBadMark)))
    (gaBadMark : PySem.W.findIn K (.ref CBadMark) "__getattribute__" = some (some (.builtin "BaseException.__getattribute__")))
    (ggBadMark : PySem.W.findIn K (.ref CBadMark) "__getattr__" = some none)
    (exBadMark : PySem.W.subIn K (.ref CBadMark) (.type "BaseException") = some true)
    (hdBadMark : PySem.W.hasDictIn K CBadMark = true)
    (noBadMark : PySem.W.findIn K (.ref CBadMark) "value" = some none)
    (aBadNumber : PySem.W.nsIn K mainGlobals "BadNumber" = some (some (.ref CBadNumber)))
    (gaBadNumber : PySem.W.findIn K (.ref CBadNumber) "__getattribute__" = some (some (.builtin "BaseException.__getattribute__")))
    (ggBadNumber : PySem.W.findIn K (.ref CBadNumber) "__getattr__" = some none)
    (exBadNumber : PySem.W.subIn K (.ref CBadNumber) (.type "BaseException") = some true)
    (hdBadNumber : PySem.W.hasDictIn K CBadNumber = true)
    (noBadNumber : PySem.W.findIn K (.ref CBadNumber) "number" = some none)
    (aBadArgument : PySem.W.nsIn K mainGlobals "BadArgument" = some (some (.ref CBadArgument)))
    (gaBadArgument : PySem.W.findIn K (.ref CBadArgument) "__getattribute__" = some (some (.builtin "BaseException.__getattribute__")))
    (ggBadArgument : PySem.W.findIn K (.ref CBadArgument) "__getattr__" = some none)
    (exBadArgument : PySem.W.subIn K (.ref CBadArgument) (.type "BaseException") = some true)
    (hdBadArgument : PySem.W.hasDictIn K CBadArgument = true)
    (noBadArgument : PySem.W.findIn K (.ref CBadArgument) "value" = some none)
    (aNotThere : PySem.W.nsIn K mainGlobals "NotThere" = some (some (.ref CNotThere)))
    (gaNotThere : PySem.W.findIn K (.ref CNotThere) "__getattribute__" = some (some (.builtin "BaseException.__getattribute__")))
    (ggNotThere : PySem.W.findIn K (.ref CNotThere) "__getattr__" = some none)
    (exNotThere : PySem.W.subIn K (.ref CNotThere) (.type "BaseException") = some true)
    (hdNotThere : PySem.W.hasDictIn K CNotThere = true)
    (noNotThere : PySem.W.findIn K (.ref CNotThere) "word" = some none)
    (ccNotThere : PySem.W.findIn K (.ref CNotThere) "__class__" = some (some (.builtin "object.__class__")))
    (mrNotThere : PySem.W.mroIn K CNotThere (.type "object") = some true)
    (inNotThere : PySem.W.excInitIn K CNotThere [.type "LookupError", .type "Exception", .type "BaseException", .type "object"] "LookupError.__new__" = true)
    (ovNotThere : PySem.W.excOver K CNotThere [.type "LookupError", .type "Exception", .type "BaseException", .type "object"] = true)
    (saNotThere : PySem.W.findIn K (.ref CNotThere) "__setattr__" = some (some (.builtin "object.__setattr__")))
    (tyNotThere : PySem.W.typeIn K (.ref CNotThere) = some (.type "type"))
    (kkNotThere : PySem.W.keepIn K (.ref CNotThere) = true)
    (iNotThere : PySem.W.findIn K (.ref CNotThere) "__init__" = some (some (.ref fNotThereInit)))
    (tNotThere : PySem.W.typeIn K (.ref fNotThereInit) = some (.type "function"))
    (lNotThereInit : K.lookup fNotThereInit = some ⟨ocNotThereInit, odNotThereInit, .func (PySem.W.fnOf "__init__" "NotThere.__init__" (defArgs sNotThereInit) (defBody sNotThereInit) (defScope sNotThereInit) .none kVNotThereInit dcNotThereInit pmNotThereInit anNotThereInit cdNotThereInit ctNotThereInit), slNotThereInit⟩)
    (cNotThereInit : PySem.W.codeIn K cdNotThereInit "NotThere.__init__" = true)
    (kNotThereInit : PySem.W.keepIn K (.ref fNotThereInit) = true)
    (xmBadPair : PySem.W.exmOne K (.ref CNotThere) (.ref CBadPair) = some false)
    (xmBadMark : PySem.W.exmOne K (.ref CNotThere) (.ref CBadMark) = some false)
    (xmBadNumber : PySem.W.exmOne K (.ref CNotThere) (.ref CBadNumber) = some false)
    (xmBadArgument : PySem.W.exmOne K (.ref CNotThere) (.ref CBadArgument) = some false)
    (xmNotThere : PySem.W.exmOne K (.ref CNotThere) (.ref CNotThere) = some true)
    (aCrowd : PySem.W.nsIn K mainGlobals "Crowd" = some (some (.ref CCrowd)))
    (pgCrowd : PySem.W.plainGet K CCrowd Str.empty = true)
    (hdCrowd : PySem.W.hasDictIn K CCrowd = true)
    (poCrowd : PySem.W.plainOver K CCrowd = true)
    (saCrowd : PySem.W.findIn K (.ref CCrowd) "__setattr__" = some (some (.builtin "object.__setattr__")))
    (mkCrowd : PySem.W.makesIn K CCrowd = true)
    (kcCrowd : PySem.W.keepIn K (.ref CCrowd) = true)
    (ccCrowd : PySem.W.findIn K (.ref CCrowd) "__class__" = some (some (.builtin "object.__class__")))
    (mrCrowd : PySem.W.mroIn K CCrowd (.type "object") = some true)
    (kitCrowd : PySem.W.kitOne K (.ref CCrowd) (.ref CCrowd) = some true)
    (noCrowd_people : PySem.W.findIn K (.ref CCrowd) "_people" = some none)
    (noCrowdmost : PySem.W.findIn K (.ref CCrowd) "most" = some none)
    (mCrowdInit : PySem.W.findIn K (.ref CCrowd) "__init__" = some (some (.ref fCrowdInit)))
    (isfCrowdInit : PySem.W.isFn K (.ref fCrowdInit) = true)
    (lCrowdInit : K.lookup fCrowdInit = some ⟨ocCrowdInit, odCrowdInit, .func (PySem.W.fnOf "__init__" "Crowd.__init__" (defArgs sCrowdInit) (defBody sCrowdInit) (defScope sCrowdInit) .none kVCrowdInit dcCrowdInit pmCrowdInit anCrowdInit cdCrowdInit ctCrowdInit), slCrowdInit⟩)
    (cCrowdInit : PySem.W.codeIn K cdCrowdInit "Crowd.__init__" = true)
    (kCrowdInit : PySem.W.keepIn K (.ref fCrowdInit) = true)
    (mCrowdLen : PySem.W.findIn K (.ref CCrowd) "__len__" = some (some (.ref fCrowdLen)))
    (isfCrowdLen : PySem.W.isFn K (.ref fCrowdLen) = true)
    (lCrowdLen : K.lookup fCrowdLen = some ⟨ocCrowdLen, odCrowdLen, .func (PySem.W.fnOf "__len__" "Crowd.__len__" (defArgs sCrowdLen) (defBody sCrowdLen) (defScope sCrowdLen) .none kVCrowdLen dcCrowdLen pmCrowdLen anCrowdLen cdCrowdLen ctCrowdLen), slCrowdLen⟩)
    (cCrowdLen : PySem.W.codeIn K cdCrowdLen "Crowd.__len__" = true)
    (kCrowdLen : PySem.W.keepIn K (.ref fCrowdLen) = true)
    (mCrowdContains : PySem.W.findIn K (.ref CCrowd) "__contains__" = some (some (.ref fCrowdContains)))
    (isfCrowdContains : PySem.W.isFn K (.ref fCrowdContains) = true)
    (lCrowdContains : K.lookup fCrowdContains = some ⟨ocCrowdContains, odCrowdContains, .func (PySem.W.fnOf "__contains__" "Crowd.__contains__" (defArgs sCrowdContains) (defBody sCrowdContains) (defScope sCrowdContains) .none kVCrowdContains dcCrowdContains pmCrowdContains anCrowdContains cdCrowdContains ctCrowdContains), slCrowdContains⟩)
    (cCrowdContains : PySem.W.codeIn K cdCrowdContains "Crowd.__contains__" = true)
    (kCrowdContains : PySem.W.keepIn K (.ref fCrowdContains) = true)
    (mCrowdIter : PySem.W.findIn K (.ref CCrowd) "__iter__" = some (some (.ref fCrowdIter)))
    (isfCrowdIter : PySem.W.isFn K (.ref fCrowdIter) = true)
    (lCrowdIter : K.lookup fCrowdIter = some ⟨ocCrowdIter, odCrowdIter, .func (PySem.W.fnOf "__iter__" "Crowd.__iter__" (defArgs sCrowdIter) (defBody sCrowdIter) (defScope sCrowdIter) .none kVCrowdIter dcCrowdIter pmCrowdIter anCrowdIter cdCrowdIter ctCrowdIter), slCrowdIter⟩)
    (cCrowdIter : PySem.W.codeIn K cdCrowdIter "Crowd.__iter__" = true)
    (kCrowdIter : PySem.W.keepIn K (.ref fCrowdIter) = true)
    (mCrowdEq : PySem.W.findIn K (.ref CCrowd) "__eq__" = some (some (.ref fCrowdEq)))
    (isfCrowdEq : PySem.W.isFn K (.ref fCrowdEq) = true)
    (lCrowdEq : K.lookup fCrowdEq = some ⟨ocCrowdEq, odCrowdEq, .func (PySem.W.fnOf "__eq__" "Crowd.__eq__" (defArgs sCrowdEq) (defBody sCrowdEq) (defScope sCrowdEq) .none kVCrowdEq dcCrowdEq pmCrowdEq anCrowdEq cdCrowdEq ctCrowdEq), slCrowdEq⟩)
    (cCrowdEq : PySem.W.codeIn K cdCrowdEq "Crowd.__eq__" = true)
    (kCrowdEq : PySem.W.keepIn K (.ref fCrowdEq) = true)
    (mCrowdPlace : PySem.W.findIn K (.ref CCrowd) "place" = some (some (.ref fCrowdPlace)))
    (isfCrowdPlace : PySem.W.isFn K (.ref fCrowdPlace) = true)
    (lCrowdPlace : K.lookup fCrowdPlace = some ⟨ocCrowdPlace, odCrowdPlace, .func (PySem.W.fnOf "place" "Crowd.place" (defArgs sCrowdPlace) (defBody sCrowdPlace) (defScope sCrowdPlace) .none kVCrowdPlace dcCrowdPlace pmCrowdPlace anCrowdPlace cdCrowdPlace ctCrowdPlace), slCrowdPlace⟩)
    (cCrowdPlace : PySem.W.codeIn K cdCrowdPlace "Crowd.place" = true)
    (kCrowdPlace : PySem.W.keepIn K (.ref fCrowdPlace) = true)
    (mCrowdPairs : PySem.W.findIn K (.ref CCrowd) "pairs" = some (some (.ref fCrowdPairs)))
    (isfCrowdPairs : PySem.W.isFn K (.ref fCrowdPairs) = true)
    (lCrowdPairs : K.lookup fCrowdPairs = some ⟨ocCrowdPairs, odCrowdPairs, .func (PySem.W.fnOf "pairs" "Crowd.pairs" (defArgs sCrowdPairs) (defBody sCrowdPairs) (defScope sCrowdPairs) .none kVCrowdPairs dcCrowdPairs pmCrowdPairs anCrowdPairs cdCrowdPairs ctCrowdPairs), slCrowdPairs⟩)
    (cCrowdPairs : PySem.W.codeIn K cdCrowdPairs "Crowd.pairs" = true)
    (kCrowdPairs : PySem.W.keepIn K (.ref fCrowdPairs) = true)
    (mCrowdIsPair : PySem.W.findIn K (.ref CCrowd) "is_pair" = some (some (.ref fCrowdIsPair)))
    (isfCrowdIsPair : PySem.W.isFn K (.ref fCrowdIsPair) = true)
    (lCrowdIsPair : K.lookup fCrowdIsPair = some ⟨ocCrowdIsPair, odCrowdIsPair, .func (PySem.W.fnOf "is_pair" "Crowd.is_pair" (defArgs sCrowdIsPair) (defBody sCrowdIsPair) (defScope sCrowdIsPair) .none kVCrowdIsPair dcCrowdIsPair pmCrowdIsPair anCrowdIsPair cdCrowdIsPair ctCrowdIsPair), slCrowdIsPair⟩)
    (cCrowdIsPair : PySem.W.codeIn K cdCrowdIsPair "Crowd.is_pair" = true)
    (kCrowdIsPair : PySem.W.keepIn K (.ref fCrowdIsPair) = true)
    (mCrowdPeople : PySem.W.findIn K (.ref CCrowd) "people" = some (some (.ref pCrowdPeople)))
    (pgCrowdPeople : PySem.W.specialIn K (.ref pCrowdPeople) "__get__" = some (some (.builtin "property.__get__")))
    (ptCrowdPeople : PySem.W.takesIn K (.ref pCrowdPeople) = some true)
    (prCrowdPeople : PySem.W.recIn K pCrowdPeople "property" = some (.ref fCrowdPeople :: restCrowdPeople))
    (lCrowdPeople : K.lookup fCrowdPeople = some ⟨ocCrowdPeople, odCrowdPeople, .func (PySem.W.fnOf "people" "Crowd.people" (defArgs sCrowdPeople) (defBody sCrowdPeople) (defScope sCrowdPeople) .none kVCrowdPeople dcCrowdPeople pmCrowdPeople anCrowdPeople cdCrowdPeople ctCrowdPeople), slCrowdPeople⟩)
    (cCrowdPeople : PySem.W.codeIn K cdCrowdPeople "Crowd.people" = true)
    (kCrowdPeople : PySem.W.keepIn K (.ref fCrowdPeople) = true)
    (kitL : PySem.W.kitOne K (.type "list") (.ref CCrowd) = some false)
    (neO : PySem.W.findIn K (.ref CCrowd) "__ne__" = some (some (.builtin "object.__ne__")))
    (nfC : PySem.W.notFirst K CCrowd (.ref CCrowd) = true)
    (nfL : PySem.W.notFirst K CCrowd (.type "list") = true)
    (z_len : PySem.W.nsIn K mainGlobals "len" = some none)
    (z_max : PySem.W.nsIn K mainGlobals "max" = some none)
    (z_min : PySem.W.nsIn K mainGlobals "min" = some none)
    (z_int : PySem.W.nsIn K mainGlobals "int" = some none)
    (z_range : PySem.W.nsIn K mainGlobals "range" = some none)
    (z_isinstance : PySem.W.nsIn K mainGlobals "isinstance" = some none)
    (z_str : PySem.W.nsIn K mainGlobals "str" = some none)
    (z_bool : PySem.W.nsIn K mainGlobals "bool" = some none)
    (z_list : PySem.W.nsIn K mainGlobals "list" = some none)
    (z_tuple : PySem.W.nsIn K mainGlobals "tuple" = some none)
    (z_set : PySem.W.nsIn K mainGlobals "set" = some none)
    (z_all : PySem.W.nsIn K mainGlobals "all" = some none)
    (z_repr : PySem.W.nsIn K mainGlobals "repr" = some none)
    (z_iter : PySem.W.nsIn K mainGlobals "iter" = some none)
    (z_LETTERS : PySem.W.nsIn K mainGlobals "LETTERS" = some (some (.str letters t_LETTERS)))
    (z_LONGEST : PySem.W.nsIn K mainGlobals "LONGEST" = some (some (.int 8 t_LONGEST)))
    (z_MOST_PEOPLE : PySem.W.nsIn K mainGlobals "MOST_PEOPLE" = some (some (.int 8 t_MOST_PEOPLE)))
    (z_GREATEST_MARK : PySem.W.nsIn K mainGlobals "GREATEST_MARK" = some (some (.int 10 t_GREATEST_MARK))) :
    LawAtG l w K 11 63 "_law_script" mg fa h := by
  have e := hfa.symm.trans (PySem.W.mg_of X G aLaw)
  cases e
  have B : Bt mg := ⟨PySem.W.mg_none_of X G z_len, PySem.W.mg_none_of X G z_max, PySem.W.mg_none_of X G z_min, PySem.W.mg_none_of X G z_int, PySem.W.mg_none_of X G z_range⟩
  have T : Tx mg := ⟨PySem.W.mg_none_of X G z_isinstance, PySem.W.mg_none_of X G z_str, PySem.W.mg_none_of X G z_bool, PySem.W.mg_none_of X G z_list, PySem.W.mg_none_of X G z_tuple, PySem.W.mg_none_of X G z_set, PySem.W.mg_none_of X G z_all, ⟨_, PySem.W.mg_of X G z_LETTERS⟩, ⟨_, PySem.W.mg_of X G z_LONGEST⟩, ⟨_, PySem.W.mg_of X G z_MOST_PEOPLE⟩, ⟨_, PySem.W.mg_of X G z_GREATEST_MARK⟩⟩
  have Z : Zk mg := ⟨PySem.W.mg_none_of X G z_repr, PySem.W.mg_none_of X G z_iter⟩
  have FIsInteger := fun_mk (st := sIsInteger) lIsInteger cIsInteger kIsInteger
  have FIsIntegerWithin := fun_mk (st := sIsIntegerWithin) lIsIntegerWithin cIsIntegerWithin kIsIntegerWithin
  have FIsWord := fun_mk (st := sIsWord) lIsWord cIsWord kIsWord
  have FArePeople := fun_mk (st := sArePeople) lArePeople cArePeople kArePeople
  have FNeedPerson := fun_mk (st := sNeedPerson) lNeedPerson cNeedPerson kNeedPerson
  have FOpened := fun_mk (st := sOpened) lOpened cOpened kOpened
  have FDraw := fun_mk (st := sDraw) lDraw cDraw kDraw
  have FPeople := fun_mk (st := sPeople) lPeople cPeople kPeople
  have FPairs := fun_mk (st := sPairs) lPairs cPairs kPairs
  have FRefused := fun_mk (st := sRefused) lRefused cRefused kRefused
  have FCrowdRight := fun_mk (st := sCrowdRight) lCrowdRight cCrowdRight kCrowdRight
  have FLaw := fun_mk (st := sLaw) lLaw cLaw kLaw
  have FBadCrowdInit := fun_mk (st := sBadCrowdInit) lBadCrowdInit cBadCrowdInit kBadCrowdInit
  have FNotThereInit := fun_mk (st := sNotThereInit) lNotThereInit cNotThereInit kNotThereInit
  have FCrowdInit := fun_mk (st := sCrowdInit) lCrowdInit cCrowdInit kCrowdInit
  have FCrowdLen := fun_mk (st := sCrowdLen) lCrowdLen cCrowdLen kCrowdLen
  have FCrowdContains := fun_mk (st := sCrowdContains) lCrowdContains cCrowdContains kCrowdContains
  have FCrowdIter := fun_mk (st := sCrowdIter) lCrowdIter cCrowdIter kCrowdIter
  have FCrowdEq := fun_mk (st := sCrowdEq) lCrowdEq cCrowdEq kCrowdEq
  have FCrowdPlace := fun_mk (st := sCrowdPlace) lCrowdPlace cCrowdPlace kCrowdPlace
  have FCrowdPairs := fun_mk (st := sCrowdPairs) lCrowdPairs cCrowdPairs kCrowdPairs
  have FCrowdIsPair := fun_mk (st := sCrowdIsPair) lCrowdIsPair cCrowdIsPair kCrowdIsPair
  have FCrowdPeople := fun_mk (st := sCrowdPeople) lCrowdPeople cCrowdPeople kCrowdPeople
  have bIsInteger := FIsInteger.binds (ps := ["value"]) fun _ _ _ _ _ _ us hl => match us, hl with | [_], _ => rfl
  have bIsIntegerWithin := FIsIntegerWithin.binds (ps := ["value", "least", "most"]) fun _ _ _ _ _ _ us hl => match us, hl with | [_, _, _], _ => rfl
  have bIsWord := FIsWord.binds (ps := ["value"]) fun _ _ _ _ _ _ us hl => match us, hl with | [_], _ => rfl
  have bArePeople := FArePeople.binds (ps := ["value"]) fun _ _ _ _ _ _ us hl => match us, hl with | [_], _ => rfl
  have bNeedPerson := FNeedPerson.binds (ps := ["crowd", "person"]) fun _ _ _ _ _ _ us hl => match us, hl with | [_, _], _ => rfl
  have bOpened := FOpened.binds (ps := ["_law_script", "_law_k"]) fun _ _ _ _ _ _ us hl => match us, hl with | [_, _], _ => rfl
  have bDraw := FDraw.binds (ps := ["_law_pool", "_law_many"]) fun _ _ _ _ _ _ us hl => match us, hl with | [_, _], _ => rfl
  have bPeople := FPeople.binds (ps := ["_law_pool", "_law_many"]) fun _ _ _ _ _ _ us hl => match us, hl with | [_, _], _ => rfl
  have bPairs := FPairs.binds (ps := ["_law_people_here"]) fun _ _ _ _ _ _ us hl => match us, hl with | [_], _ => rfl
  have bRefused := FRefused.binds (ps := ["_law_call"]) fun _ _ _ _ _ _ us hl => match us, hl with | [_], _ => rfl
  have bCrowdRight := FCrowdRight.binds (ps := ["_law_crowd", "_law_people_here", "_law_most"]) fun _ _ _ _ _ _ us hl => match us, hl with | [_, _, _], _ => rfl
  have bBadCrowdInit := FBadCrowdInit.binds (ps := ["self", "part"]) fun _ _ _ _ _ _ us hl => match us, hl with | [_, _], _ => rfl
  have bNotThereInit := FNotThereInit.binds (ps := ["self", "word"]) fun _ _ _ _ _ _ us hl => match us, hl with | [_, _], _ => rfl
  have bCrowdInit := FCrowdInit.binds (ps := ["self", "people", "most"]) fun _ _ _ _ _ _ us hl => match us, hl with | [_, _, _], _ => rfl
  have bCrowdLen := FCrowdLen.binds (ps := ["self"]) fun _ _ _ _ _ _ us hl => match us, hl with | [_], _ => rfl
  have bCrowdContains := FCrowdContains.binds (ps := ["self", "x"]) fun _ _ _ _ _ _ us hl => match us, hl with | [_, _], _ => rfl
  have bCrowdIter := FCrowdIter.binds (ps := ["self"]) fun _ _ _ _ _ _ us hl => match us, hl with | [_], _ => rfl
  have bCrowdEq := FCrowdEq.binds (ps := ["self", "other"]) fun _ _ _ _ _ _ us hl => match us, hl with | [_, _], _ => rfl
  have bCrowdPlace := FCrowdPlace.binds (ps := ["self", "person"]) fun _ _ _ _ _ _ us hl => match us, hl with | [_, _], _ => rfl
  have bCrowdPairs := FCrowdPairs.binds (ps := ["self"]) fun _ _ _ _ _ _ us hl => match us, hl with | [_], _ => rfl
  have bCrowdIsPair := FCrowdIsPair.binds (ps := ["self", "value"]) fun _ _ _ _ _ _ us hl => match us, hl with | [_, _], _ => rfl
  have bCrowdPeople := FCrowdPeople.binds (ps := ["self"]) fun _ _ _ _ _ _ us hl => match us, hl with | [_], _ => rfl
  have E_BadPair : Ef K mg "BadPair" "value" CBadPair := ⟨PySem.W.mg_of X G aBadPair, ⟨gaBadPair, ggBadPair, exBadPair, hdBadPair⟩, noBadPair⟩
  have E_BadMark : Ef K mg "BadMark" "value" CBadMark := ⟨PySem.W.mg_of X G aBadMark, ⟨gaBadMark, ggBadMark, exBadMark, hdBadMark⟩, noBadMark⟩
  have E_BadNumber : Ef K mg "BadNumber" "number" CBadNumber := ⟨PySem.W.mg_of X G aBadNumber, ⟨gaBadNumber, ggBadNumber, exBadNumber, hdBadNumber⟩, noBadNumber⟩
  have E_BadArgument : Ef K mg "BadArgument" "value" CBadArgument := ⟨PySem.W.mg_of X G aBadArgument, ⟨gaBadArgument, ggBadArgument, exBadArgument, hdBadArgument⟩, noBadArgument⟩
  have E_NotThere : Ef K mg "NotThere" "word" CNotThere := ⟨PySem.W.mg_of X G aNotThere, ⟨gaNotThere, ggNotThere, exNotThere, hdNotThere⟩, noNotThere⟩
  have EC_NotThere : EcC K CNotThere := ⟨⟨_, _, _, _, PySem.F.excBase_LookupError, PySem.F.store_LookupError, inNotThere, ovNotThere⟩, saNotThere, hdNotThere, exNotThere, tyNotThere, kkNotThere⟩
  have ER_BadCrowd : Er K mg "BadCrowd" CBadCrowd := ⟨PySem.W.mg_of X G aBadCrowd, ⟨⟨_, _, _, _, _, _, _, _, _, _, _, _, _, _, _, xBadCrowd, by show PySem.HandSPX.refsVE [.type "ValueError", .type "Exception", .type "BaseException", .type "object"] = true; decide +kernel⟩, saBadCrowd, exBadCrowd, tyBadCrowd, kkBadCrowd⟩, ⟨gaBadCrowd, ggBadCrowd, exBadCrowd, hdBadCrowd⟩, ⟨gaBadCrowd, ggBadCrowd, exBadCrowd, hdBadCrowd, ccBadCrowd, spg, tkc, mrBadCrowd⟩, PySem.W.exm_ref exBadCrowd hdBadCrowd tyBadCrowd ssBadCrowd⟩
  have cl : Cls K CCrowd := ⟨pgCrowd, hdCrowd, poCrowd, saCrowd⟩
  have io : IsOwn K CCrowd := ⟨cl, ccCrowd, spg, tkc, mrCrowd⟩
  have pp : PropOf K CCrowd "people" pCrowdPeople fCrowdPeople := ⟨mCrowdPeople, pgCrowdPeople, ptCrowdPeople, _, prCrowdPeople⟩
  have MCrowdPlace : Meth K CCrowd "place" fCrowdPlace := ⟨mCrowdPlace, isfCrowdPlace, kCrowdPlace⟩
  have MCrowdPairs : Meth K CCrowd "pairs" fCrowdPairs := ⟨mCrowdPairs, isfCrowdPairs, kCrowdPairs⟩
  have MCrowdIsPair : Meth K CCrowd "is_pair" fCrowdIsPair := ⟨mCrowdIsPair, isfCrowdIsPair, kCrowdIsPair⟩
  refine ⟨PySem.W.fnOf "law" "law" (defArgs sLaw) (defBody sLaw) (defScope sLaw) .none kVLaw dcLaw pmLaw anLaw cdLaw ctLaw, [(cCR, PCR)], spLaw K [(PCR, ("_law_crowd_right" ++ ".<locals>.") ++ "<lambda>")], fun p hp => ?_, fun s v => .of_eq rfl, fun H a ns hl hT hS => ⟨a, ns, rfl, hS, hl, fun p hp => ?_, fun _ => rfl⟩, fun b0 _ _ hTB => ?_⟩
  · rw [List.mem_singleton.mp hp]
    exact ⟨tb.2, nT, tb.1⟩
  · rw [List.mem_singleton.mp hp]
    exact ⟨#[], hT _ (List.mem_singleton.mpr rfl), by first | exact trivial | exact .nil | constructor, fun _ _ z => by cases z⟩
  have TB := hTB _ (List.mem_singleton.mpr rfl)
  have GA := ok_arePeople (P := l.prog) (w := w) (mg := mg) (base := b0) FArePeople FIsWord bIsWord (PySem.W.mg_of X G aIsWord) B T
  have GN := ok_within (P := l.prog) (w := w) (mg := mg) (base := b0) FIsIntegerWithin FIsInteger bIsInteger (PySem.W.mg_of X G aIsInteger) B T
  have GB := ok_badCrowdInit (P := l.prog) (w := w) (mg := mg) (base := b0) (C := CBadCrowd) FBadCrowdInit
  have GC := ok_crowdNew (P := l.prog) (w := w) (mg := mg) (base := b0) (C := CCrowd) FCrowdInit GA kArePeople bArePeople (PySem.W.mg_of X G aArePeople) GN kIsIntegerWithin bIsIntegerWithin (PySem.W.mg_of X G aIsIntegerWithin) GB bBadCrowdInit iBadCrowd tBadCrowd ER_BadCrowd noBadCrowd cl noCrowd_people noCrowdmost T
  have GPe := ok_crowdPeople (P := l.prog) (w := w) (mg := mg) (base := b0) FCrowdPeople cl noCrowd_people T
  have GLen := ok_crowdLen (P := l.prog) (w := w) (mg := mg) (base := b0) FCrowdLen cl noCrowd_people B
  have GHas := ok_crowdHas (P := l.prog) (w := w) (mg := mg) (base := b0) FCrowdContains cl noCrowd_people T
  have GIt := ok_crowdIter (P := l.prog) (w := w) (mg := mg) (base := b0) FCrowdIter cl noCrowd_people Z.iter
  have GEq := ok_crowdEq (P := l.prog) (w := w) (mg := mg) (base := b0) FCrowdEq cl noCrowd_people noCrowdmost (PySem.W.mg_of X G aCrowd) kitCrowd kitL io T
  have GNI := ok_NotThereInit (P := l.prog) (w := w) (mg := mg) (base := b0) (D := CNotThere) FNotThereInit
  have GNp := ok_needPerson (P := l.prog) (w := w) (mg := mg) (base := b0) FNeedPerson GHas mCrowdContains isfCrowdContains bCrowdContains EC_NotThere (PySem.W.mg_of X G aNotThere) noNotThere iNotThere tNotThere GNI bNotThereInit
  have GPl := ok_crowdPlace (P := l.prog) (w := w) (mg := mg) (base := b0) FCrowdPlace GNp kNeedPerson bNeedPerson (PySem.W.mg_of X G aNeedPerson) cl noCrowd_people
  have GIs := ok_crowdIsPair (P := l.prog) (w := w) (mg := mg) (base := b0) FCrowdIsPair GHas mCrowdContains isfCrowdContains bCrowdContains B T
  have GPa := ok_crowdPairs (P := l.prog) (w := w) (mg := mg) (base := b0) FCrowdPairs cl noCrowd_people
  have GLp := ok_lawPairs (P := l.prog) (w := w) (mg := mg) (base := b0) FPairs
  have GR := ok_right (P := l.prog) (w := w) (mg := mg) (base := b0) (TT := [(PCR, ("_law_crowd_right" ++ ".<locals>.") ++ "<lambda>")]) lCrowdRight cCrowdRight B T Z cl noCrowd_people noCrowdmost TB (List.mem_singleton.mpr rfl) (fun p hp _ => by rw [List.mem_singleton.mp hp])
    pp GPe bCrowdPeople mCrowdLen isfCrowdLen GLen bCrowdLen mCrowdIter isfCrowdIter GIt bCrowdIter mCrowdContains isfCrowdContains GHas bCrowdContains MCrowdPlace GPl bCrowdPlace MCrowdPairs GPa bCrowdPairs MCrowdIsPair GIs bCrowdIsPair GLp (PySem.W.mg_of X G aPairs) kPairs bPairs
    (PySem.W.mg_of X G aRefused) kRefused lRefused cRefused bRefused E_BadPair E_BadMark E_BadNumber E_BadArgument E_NotThere xmBadPair xmBadMark xmBadNumber xmBadArgument xmNotThere
  exact ok_law FLaw GR (PySem.W.mg_of X G aCrowdRight) kCrowdRight bCrowdRight GC ⟨mkCrowd, mCrowdInit, isfCrowdInit, kcCrowd⟩ (PySem.W.mg_of X G aCrowd) bCrowdInit cl pp GPe bCrowdPeople MCrowdPairs GPa bCrowdPairs mCrowdEq neO mrCrowd isfCrowdEq GEq bCrowdEq nfC nfL
    FOpened bOpened (PySem.W.mg_of X G aOpened) FDraw bDraw (PySem.W.mg_of X G aDraw) FPeople bPeople (PySem.W.mg_of X G aPeople) B T
end K02
open PySem PySem.W PyProof.Rows in
set_option maxRecDepth 100000 in
set_option maxHeartbeats 0 in
theorem PySem.Challenge.cw_ownmarks_k02_crowds_told_holds : PySem.Challenge.rw_ownmarks_k02_crowds_told.Holds := by
  w_on; o_law; k_head; (case hw => w_witness2)
  k_fill
  refine L2.walk_ofGT (l := PySem.Challenge.rw_ownmarks_k02_crowds_told) (n := 63) (k := 11) (x := "_law_script") rfl (by decide) rfl ⟨rfl, by decide, by decide⟩ (fun w h Y => by first | exact PySem.W.kIn_of Y | exact Y.1) ?F (fun _ _ _ _ z => z)
  case F =>
    intro w mg fa h Y KX G hmg tabs
    refine' K02.all_mk KX G hmg (tabs _ "_law_crowd_right" _ _ ?frec ?ftab) ?aIsInteger ?lIsInteger ?cIsInteger ?kIsInteger ?aIsIntegerWithin ?lIsIntegerWithin ?cIsIntegerWithin ?kIsIntegerWithin ?aIsWord ?lIsWord ?cIsWord ?kIsWord ?aArePeople ?lArePeople ?cArePeople ?kArePeople ?aNeedPerson ?lNeedPerson ?cNeedPerson ?kNeedPerson ?aOpened ?lOpened ?cOpened ?kOpened ?aDraw ?lDraw ?cDraw ?kDraw ?aPeople ?lPeople ?cPeople ?kPeople ?aPairs ?lPairs ?cPairs ?kPairs ?aRefused ?lRefused ?cRefused ?kRefused ?aCrowdRight ?lCrowdRight ?cCrowdRight ?kCrowdRight ?aLaw ?lLaw ?cLaw ?kLaw ?nT ?aMarksError ?aBadCrowd ?gaBadCrowd ?ggBadCrowd ?exBadCrowd ?hdBadCrowd ?noBadCrowd ?ccBadCrowd ?mrBadCrowd ?spg ?tkc ?xBadCrowd ?ssBadCrowd ?saBadCrowd ?tyBadCrowd ?kkBadCrowd ?iBadCrowd ?tBadCrowd ?lBadCrowdInit ?cBadCrowdInit ?kBadCrowdInit ?aBadPair ?gaBadPair ?ggBadPair ?exBadPair ?hdBadPair ?noBadPair ?aBadMark ?gaBadMark ?ggBadMark ?exBadMark ?hdBadMark ?noBadMark ?aBadNumber ?gaBadNumber ?ggBadNumber ?exBadNumber ?hdBadNumber ?noBadNumber ?aBadArgument ?gaBadArgument ?ggBadArgument ?exBadArgument ?hdBadArgument ?noBadArgument ?aNotThere ?gaNotThere ?ggNotThere ?exNotThere ?hdNotThere ?noNotThere ?ccNotThere ?mrNotThere ?inNotThere ?ovNotThere ?saNotThere ?tyNotThere ?kkNotThere ?iNotThere ?tNotThere ?lNotThereInit ?cNotThereInit ?kNotThereInit ?xmBadPair ?xmBadMark ?xmBadNumber ?xmBadArgument ?xmNotThere ?aCrowd ?pgCrowd ?hdCrowd ?poCrowd ?saCrowd ?mkCrowd ?kcCrowd ?ccCrowd ?mrCrowd ?kitCrowd ?noCrowd_people ?noCrowdmost ?mCrowdInit ?isfCrowdInit ?lCrowdInit ?cCrowdInit ?kCrowdInit ?mCrowdLen ?isfCrowdLen ?lCrowdLen ?cCrowdLen ?kCrowdLen ?mCrowdContains ?isfCrowdContains ?lCrowdContains ?cCrowdContains ?kCrowdContains ?mCrowdIter ?isfCrowdIter ?lCrowdIter ?cCrowdIter ?kCrowdIter ?mCrowdEq ?isfCrowdEq ?lCrowdEq ?cCrowdEq ?kCrowdEq ?mCrowdPlace ?isfCrowdPlace ?lCrowdPlace ?cCrowdPlace ?kCrowdPlace ?mCrowdPairs ?isfCrowdPairs ?lCrowdPairs ?cCrowdPairs ?kCrowdPairs ?mCrowdIsPair ?isfCrowdIsPair ?lCrowdIsPair ?cCrowdIsPair ?kCrowdIsPair ?mCrowdPeople ?pgCrowdPeople ?ptCrowdPeople ?prCrowdPeople ?lCrowdPeople ?cCrowdPeople ?kCrowdPeople ?kitL ?neO ?nfC ?nfL ?z_len ?z_max ?z_min ?z_int ?z_range ?z_isinstance ?z_str ?z_bool ?z_list ?z_tuple ?z_set ?z_all ?z_repr ?z_iter ?z_LETTERS ?z_LONGEST ?z_MOST_PEOPLE ?z_GREATEST_MARK
    (case frec => first | k_is | k_exc | rfl)
    (case ftab => first | k_is | k_exc | rfl)
    (case aIsInteger => first | k_is | k_exc | rfl)
    (case lIsInteger => first | k_is | k_exc | rfl)
    (case cIsInteger => first | k_is | k_exc | rfl)
    (case kIsInteger => first | k_is | k_exc | rfl)
    (case aIsIntegerWithin => first | k_is | k_exc | rfl)
    (case lIsIntegerWithin => first | k_is | k_exc | rfl)
    (case cIsIntegerWithin => first | k_is | k_exc | rfl)
    (case kIsIntegerWithin => first | k_is | k_exc | rfl)
    (case aIsWord => first | k_is | k_exc | rfl)
    (case lIsWord => first | k_is | k_exc | rfl)
    (case cIsWord => first | k_is | k_exc | rfl)
    (case kIsWord => first | k_is | k_exc | rfl)
    (case aArePeople => first | k_is | k_exc | rfl)
    (case lArePeople => first | k_is | k_exc | rfl)
    (case cArePeople => first | k_is | k_exc | rfl)
    (case kArePeople => first | k_is | k_exc | rfl)
    (case aNeedPerson => first | k_is | k_exc | rfl)
    (case lNeedPerson => first | k_is | k_exc | rfl)
    (case cNeedPerson => first | k_is | k_exc | rfl)
    (case kNeedPerson => first | k_is | k_exc | rfl)
    (case aOpened => first | k_is | k_exc | rfl)
    (case lOpened => first | k_is | k_exc | rfl)
    (case cOpened => first | k_is | k_exc | rfl)
    (case kOpened => first | k_is | k_exc | rfl)
    (case aDraw => first | k_is | k_exc | rfl)
    (case lDraw => first | k_is | k_exc | rfl)
    (case cDraw => first | k_is | k_exc | rfl)
    (case kDraw => first | k_is | k_exc | rfl)
    (case aPeople => first | k_is | k_exc | rfl)
    (case lPeople => first | k_is | k_exc | rfl)
    (case cPeople => first | k_is | k_exc | rfl)
    (case kPeople => first | k_is | k_exc | rfl)
    (case aPairs => first | k_is | k_exc | rfl)
    (case lPairs => first | k_is | k_exc | rfl)
    (case cPairs => first | k_is | k_exc | rfl)
    (case kPairs => first | k_is | k_exc | rfl)
    (case aRefused => first | k_is | k_exc | rfl)
    (case lRefused => first | k_is | k_exc | rfl)
    (case cRefused => first | k_is | k_exc | rfl)
    (case kRefused => first | k_is | k_exc | rfl)
    (case aCrowdRight => first | k_is | k_exc | rfl)
    (case lCrowdRight => first | k_is | k_exc | rfl)
    (case cCrowdRight => first | k_is | k_exc | rfl)
    (case kCrowdRight => first | k_is | k_exc | rfl)
    (case aLaw => first | k_is | k_exc | rfl)
    (case lLaw => first | k_is | k_exc | rfl)
    (case cLaw => first | k_is | k_exc | rfl)
    (case kLaw => first | k_is | k_exc | rfl)
    (case nT => first | k_is | k_exc | rfl)
    (case aMarksError => first | k_is | k_exc | rfl)
    (case aBadCrowd => first | k_is | k_exc | rfl)
    (case gaBadCrowd => first | k_is | k_exc | rfl)
    (case ggBadCrowd => first | k_is | k_exc | rfl)
    (case exBadCrowd => first | k_is | k_exc | rfl)
    (case hdBadCrowd => first | k_is | k_exc | rfl)
    (case noBadCrowd => first | k_is | k_exc | rfl)
    (case ccBadCrowd => first | k_is | k_exc | rfl)
    (case mrBadCrowd => first | k_is | k_exc | rfl)
    (case spg => first | k_is | k_exc | rfl)
    (case tkc => first | k_is | k_exc | rfl)
    (case xBadCrowd => first | k_is | k_exc | rfl)
    (case ssBadCrowd => first | k_is | k_exc | rfl)
    (case saBadCrowd => first | k_is | k_exc | rfl)
    (case tyBadCrowd => first | k_is | k_exc | rfl)
    (case kkBadCrowd => first | k_is | k_exc | rfl)
    (case iBadCrowd => first | k_is | k_exc | rfl)
    (case tBadCrowd => first | k_is | k_exc | rfl)
    (case lBadCrowdInit => first | k_is | k_exc | rfl)
    (case cBadCrowdInit => first | k_is | k_exc | rfl)
    (case kBadCrowdInit => first | k_is | k_exc | rfl)
    (case aBadPair => first | k_is | k_exc | rfl)
    (case gaBadPair => first | k_is | k_exc | rfl)
    (case ggBadPair => first | k_is | k_exc | rfl)
    (case exBadPair => first | k_is | k_exc | rfl)
    (case hdBadPair => first | k_is | k_exc | rfl)
    (case noBadPair => first | k_is | k_exc | rfl)
    (case aBadMark => first | k_is | k_exc | rfl)
    (case gaBadMark => first | k_is | k_exc | rfl)
    (case ggBadMark => first | k_is | k_exc | rfl)
    (case exBadMark => first | k_is | k_exc | rfl)
    (case hdBadMark => first | k_is | k_exc | rfl)
    (case noBadMark => first | k_is | k_exc | rfl)
    (case aBadNumber => first | k_is | k_exc | rfl)
    (case gaBadNumber => first | k_is | k_exc | rfl)
    (case ggBadNumber => first | k_is | k_exc | rfl)
    (case exBadNumber => first | k_is | k_exc | rfl)
    (case hdBadNumber => first | k_is | k_exc | rfl)
    (case noBadNumber => first | k_is | k_exc | rfl)
    (case aBadArgument => first | k_is | k_exc | rfl)
    (case gaBadArgument => first | k_is | k_exc | rfl)
    (case ggBadArgument => first | k_is | k_exc | rfl)
    (case exBadArgument => first | k_is | k_exc | rfl)
    (case hdBadArgument => first | k_is | k_exc | rfl)
    (case noBadArgument => first | k_is | k_exc | rfl)
    (case aNotThere => first | k_is | k_exc | rfl)
    (case gaNotThere => first | k_is | k_exc | rfl)
    (case ggNotThere => first | k_is | k_exc | rfl)
    (case exNotThere => first | k_is | k_exc | rfl)
    (case hdNotThere => first | k_is | k_exc | rfl)
    (case noNotThere => first | k_is | k_exc | rfl)
    (case ccNotThere => first | k_is | k_exc | rfl)
    (case mrNotThere => first | k_is | k_exc | rfl)
    (case inNotThere => first | k_is | k_exc | rfl)
    (case ovNotThere => first | k_is | k_exc | rfl)
    (case saNotThere => first | k_is | k_exc | rfl)
    (case tyNotThere => first | k_is | k_exc | rfl)
    (case kkNotThere => first | k_is | k_exc | rfl)
    (case iNotThere => first | k_is | k_exc | rfl)
    (case tNotThere => first | k_is | k_exc | rfl)
    (case lNotThereInit => first | k_is | k_exc | rfl)
    (case cNotThereInit => first | k_is | k_exc | rfl)
    (case kNotThereInit => first | k_is | k_exc | rfl)
    (case xmBadPair => first | k_is | k_exc | rfl)
    (case xmBadMark => first | k_is | k_exc | rfl)
    (case xmBadNumber => first | k_is | k_exc | rfl)
    (case xmBadArgument => first | k_is | k_exc | rfl)
    (case xmNotThere => first | k_is | k_exc | rfl)
    (case aCrowd => first | k_is | k_exc | rfl)
    (case pgCrowd => first | k_is | k_exc | rfl)
    (case hdCrowd => first | k_is | k_exc | rfl)
    (case poCrowd => first | k_is | k_exc | rfl)
    (case saCrowd => first | k_is | k_exc | rfl)
    (case mkCrowd => first | k_is | k_exc | rfl)
    (case kcCrowd => first | k_is | k_exc | rfl)
    (case ccCrowd => first | k_is | k_exc | rfl)
    (case mrCrowd => first | k_is | k_exc | rfl)
    (case kitCrowd => first | k_is | k_exc | rfl)
    (case noCrowd_people => first | k_is | k_exc | rfl)
    (case noCrowdmost => first | k_is | k_exc | rfl)
    (case mCrowdInit => first | k_is | k_exc | rfl)
    (case isfCrowdInit => first | k_is | k_exc | rfl)
    (case lCrowdInit => first | k_is | k_exc | rfl)
    (case cCrowdInit => first | k_is | k_exc | rfl)
    (case kCrowdInit => first | k_is | k_exc | rfl)
    (case mCrowdLen => first | k_is | k_exc | rfl)
    (case isfCrowdLen => first | k_is | k_exc | rfl)
    (case lCrowdLen => first | k_is | k_exc | rfl)
    (case cCrowdLen => first | k_is | k_exc | rfl)
    (case kCrowdLen => first | k_is | k_exc | rfl)
    (case mCrowdContains => first | k_is | k_exc | rfl)
    (case isfCrowdContains => first | k_is | k_exc | rfl)
    (case lCrowdContains => first | k_is | k_exc | rfl)
    (case cCrowdContains => first | k_is | k_exc | rfl)
    (case kCrowdContains => first | k_is | k_exc | rfl)
    (case mCrowdIter => first | k_is | k_exc | rfl)
    (case isfCrowdIter => first | k_is | k_exc | rfl)
    (case lCrowdIter => first | k_is | k_exc | rfl)
    (case cCrowdIter => first | k_is | k_exc | rfl)
    (case kCrowdIter => first | k_is | k_exc | rfl)
    (case mCrowdEq => first | k_is | k_exc | rfl)
    (case isfCrowdEq => first | k_is | k_exc | rfl)
    (case lCrowdEq => first | k_is | k_exc | rfl)
    (case cCrowdEq => first | k_is | k_exc | rfl)
    (case kCrowdEq => first | k_is | k_exc | rfl)
    (case mCrowdPlace => first | k_is | k_exc | rfl)
    (case isfCrowdPlace => first | k_is | k_exc | rfl)
    (case lCrowdPlace => first | k_is | k_exc | rfl)
    (case cCrowdPlace => first | k_is | k_exc | rfl)
    (case kCrowdPlace => first | k_is | k_exc | rfl)
    (case mCrowdPairs => first | k_is | k_exc | rfl)
    (case isfCrowdPairs => first | k_is | k_exc | rfl)
    (case lCrowdPairs => first | k_is | k_exc | rfl)
    (case cCrowdPairs => first | k_is | k_exc | rfl)
    (case kCrowdPairs => first | k_is | k_exc | rfl)
    (case mCrowdIsPair => first | k_is | k_exc | rfl)
    (case isfCrowdIsPair => first | k_is | k_exc | rfl)
    (case lCrowdIsPair => first | k_is | k_exc | rfl)
    (case cCrowdIsPair => first | k_is | k_exc | rfl)
    (case kCrowdIsPair => first | k_is | k_exc | rfl)
    (case mCrowdPeople => first | k_is | k_exc | rfl)
    (case pgCrowdPeople => first | k_is | k_exc | rfl)
    (case ptCrowdPeople => first | k_is | k_exc | rfl)
    (case prCrowdPeople => first | k_is | k_exc | rfl)
    (case lCrowdPeople => first | k_is | k_exc | rfl)
    (case cCrowdPeople => first | k_is | k_exc | rfl)
    (case kCrowdPeople => first | k_is | k_exc | rfl)
    (case kitL => first | k_is | k_exc | rfl)
    (case neO => first | k_is | k_exc | rfl)
    (case nfC => first | k_is | k_exc | rfl)
    (case nfL => first | k_is | k_exc | rfl)
    (case z_len => first | k_is | k_exc | rfl)
    (case z_max => first | k_is | k_exc | rfl)
    (case z_min => first | k_is | k_exc | rfl)
    (case z_int => first | k_is | k_exc | rfl)
    (case z_range => first | k_is | k_exc | rfl)
    (case z_isinstance => first | k_is | k_exc | rfl)
    (case z_str => first | k_is | k_exc | rfl)
    (case z_bool => first | k_is | k_exc | rfl)
    (case z_list => first | k_is | k_exc | rfl)
    (case z_tuple => first | k_is | k_exc | rfl)
    (case z_set => first | k_is | k_exc | rfl)
    (case z_all => first | k_is | k_exc | rfl)
    (case z_repr => first | k_is | k_exc | rfl)
    (case z_iter => first | k_is | k_exc | rfl)
    (case z_LETTERS => first | k_is | k_exc | rfl)
    (case z_LONGEST => first | k_is | k_exc | rfl)
    (case z_MOST_PEOPLE => first | k_is | k_exc | rfl)
    (case z_GREATEST_MARK => first | k_is | k_exc | rfl)

