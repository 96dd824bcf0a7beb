import PyProof.Rows.All
import Wide.All
import OpenK.AllK
import Wide.FinOn
import HandS.ForMost
import HandS.IsInst
import HandS.Style
import HandS.Wide
import HandS.WideMore
import HandS.Zip
import HandS.Flow
import HandS.SetFor
import HandS.Strs
import PySem.Challenge.RW_turnsums_k26_what_stands_in_a_plan
set_option Elab.async false
set_option linter.all false
set_option maxRecDepth 100000
set_option maxHeartbeats 4000000
namespace My
open PySem L2
def top (i : Nat) : Stmt := PySem.Challenge.pw_turnsums_k26_what_stands_in_a_plan.main.body.getD i (.Pass ⟨0, 0, 0, 0⟩)
/-- a def of the text: where it stands, how it is called -/
structure Df (K : PySem.W.Frag) (mg : Str → Option Value) (x : Str) (st : Stmt) (ps : List Str) (f : Addr) (fd : FuncData) : Prop where
  F : Fun K x x st f fd
  b : Binds K fd ps []
  g : mg x = some (.ref f)
/-! heaps: all but the box stays -/
theorem same_upd {H H' : Hp} {p : Addr} {o : HO} (h : Same H H') (n : H' p = none) : Same H (upd H' p o) := fun b x e => by
  rw [upd_ne (ne_of_none (h b x e) n)]
  exact h b x e
theorem same_new {H : Hp} {p : Addr} {o : HO} (n : H p = none) : Same H (upd H p o) := same_upd (Same.refl H) n
theorem same_mut {H H' : Hp} {p : Addr} {o : HO} (h : Same H H') (n : H p = none) : Same H (upd H' p o) := fun b x e => by
  rw [upd_ne (ne_of_none e n)]
  exact h b x e
theorem same_t {K : PySem.W.Frag} {H H' : Hp} {a : Addr} {xs : List V} (e : Same H H') (h : SqT K H a xs) : SqT K H' a xs := by
  rcases h with (h | ⟨o, h⟩) | h
  · exact .inl (.inl (e _ _ h))
  · exact .inl (.inr ⟨o, e _ _ h⟩)
  · exact .inr h
def Keep (b : Addr) (H H' : Hp) : Prop := ∀ a o, a ≠ b → H a = some o → H' a = some o
theorem Keep.refl (b : Addr) (H : Hp) : Keep b H H := fun _ _ _ h => h
theorem Keep.trans {b : Addr} {H H1 H2 : Hp} (a : Keep b H H1) (c : Keep b H1 H2) : Keep b H H2 := fun x o n h => c x o n (a x o n h)
theorem keepS {b : Addr} {H H' : Hp} (h : Same H H') : Keep b H H' := fun x o _ e => h x o e
theorem keep_same {b : Addr} {H0 H H' : Hp} (a : Same H0 H) (n : H0 b = none) (k : Keep b H H') : Same H0 H' := fun x o e => k x o (ne_of_none e n) (a x o e)
theorem keep_upd {b : Addr} {H H' : Hp} {o : HO} (h : Keep b H H') : Keep b H (upd H' b o) := fun a u n e => by
  rw [upd_ne n]
  exact h a u n e
theorem keep_new {b p : Addr} {H H' : Hp} {o : HO} (h : Keep b H H') (n : H' p = none) : Keep b H (upd H' p o) := fun a u na e => by
  rw [upd_ne (ne_of_none (h a u na e) n)]
  exact h a u na e
theorem Keep.seq {K : PySem.W.Frag} {b a : Addr} {H H' : Hp} {xs : List V} (e : Keep b H H') (n : a ≠ b) (h : SqL K H a xs) : SqL K H' a xs := by
  rcases h with (h | ⟨o, h⟩) | h
  · exact .inl (.inl (e _ _ n h))
  · exact .inl (.inr ⟨o, e _ _ n h⟩)
  · exact .inr h
def BoxAt (H : Hp) (b : Addr) (n : Int) : Prop := ∃ x y z : Int, H b = some (.lst [.int x, .int y, .int z]) ∧ 0 ≤ x ∧ 0 ≤ y ∧ y ≤ 4294967296 ∧ 0 ≤ z ∧ z ≤ n
theorem BoxAt.mono {H : Hp} {b : Addr} {n m : Int} (h : BoxAt H b n) (e : n ≤ m) : BoxAt H b m := by
  obtain ⟨x, y, z, a1, a2, a3, a4, a5, a6⟩ := h
  exact ⟨x, y, z, a1, a2, a3, a4, a5, by omega⟩
theorem BoxAt.same {H H' : Hp} {b : Addr} {n : Int} (h : BoxAt H b n) (e : Same H H') : BoxAt H' b n := by
  obtain ⟨x, y, z, a1, a2⟩ := h
  exact ⟨x, y, z, e _ _ a1, a2⟩
theorem BoxAt.some {H : Hp} {b : Addr} {n : Int} (h : BoxAt H b n) : ∃ o, H b = some o := by
  obtain ⟨x, y, z, a1, a2⟩ := h
  exact ⟨_, a1⟩
theorem BoxAt.ne {H : Hp} {b p : Addr} {n : Int} (h : BoxAt H b n) (e : H p = none) : p ≠ b := by
  obtain ⟨o, h⟩ := h.some
  exact (ne_of_none h e).symm
theorem szl {n : Nat} (h : n ≤ 60000) : n ≤ sizeLine := Nat.le_trans h (by decide)
theorem szm {n : Nat} (h : n ≤ 60000) : n < sizeLine := Nat.lt_of_le_of_lt h (by decide)
theorem pw6 : (10 : Int) ^ Int.toNat 6 = 1000000 := by decide
theorem pw9 : (10 : Int) ^ Int.toNat 9 = 1000000000 := by decide
theorem newO {H H' : Hp} {p : Addr} {o : HO} (e : upd H p o = H') (hp : H p = none) : Same H H' ∧ H' p = some o := by
  subst e
  exact ⟨same_new hp, upd_same⟩
theorem mutO {H H' : Hp} {p : Addr} {o : HO} (e : upd H p o = H') : Keep p H H' ∧ H' p = some o := by
  subst e
  exact ⟨keep_upd (Keep.refl _ _), upd_same⟩
/-- a word of ours that the walk must not open -/
inductive Hold (p : Prop) : Prop
  | mk : p → Hold p
theorem Hold.un {p : Prop} (h : Hold p) : p := by
  cases h with
  | mk h => exact h
theorem holdN {W : Nat → L2.St → Hp → Prop} {m : Nat} : ∀ (σ' : L2.St) (H' : Hp), Hold (∃ m', m' < m ∧ W m' σ' H') → ∃ m', m' < m ∧ W m' σ' H' := fun _ _ h => h.un
theorem ite_dec {c A B : Prop} [Decidable c] (hc : c) (h : A) : if decide c = true then A else B := by
  rw [decide_eq_true hc]
  exact iteT h
def rLenQ (K : PySem.W.Frag) : List V → Hp → VK → Prop := fun xs H Q => ∃ p ys, xs = [.ref p] ∧ (SqL K H p ys ∨ SqT K H p ys) ∧ Q (.int ys.length) H
theorem iteTe {b : Bool} {A B : Prop} (e : b = true) (h : A) : if b = true then A else B := by
  rw [if_pos e]
  exact h
theorem iteFe {b : Bool} {A B : Prop} (e : b = false) (h : B) : if b = true then A else B := by
  rw [e]
  exact iteF h
theorem cmul_b {i : Int} {b : Bool} : CMul i (if b then 1 else 0) := by
  refine .inr ?_
  cases b <;> exact ⟨by decide, by decide⟩
theorem at_ints {ns : List Int} {k : Int} (h0 : 0 ≤ k) (h : k < (ns.length : Int)) : ∃ c, c ∈ ns ∧ atI (ns.map V.int) k = some (.int c) := by
  have hk : k.toNat < ns.length := by omega
  refine ⟨ns[k.toNat], List.getElem_mem hk, at_of (j := k.toNat) (by omega) ?_⟩
  rw [List.getElem?_map, List.getElem?_eq_getElem hk]
  rfl
theorem at_some {xs : List V} {k : Int} (h0 : 0 ≤ k) (h : k < (xs.length : Int)) : ∃ v, v ∈ xs ∧ atI xs k = some v := by
  have hk : k.toNat < xs.length := by omega
  exact ⟨xs[k.toNat], List.getElem_mem hk, at_of (j := k.toNat) (by omega) (List.getElem?_eq_getElem hk)⟩
theorem int_mem {ns : List Int} {v : V} (h : v ∈ ns.map V.int) : ∃ c, c ∈ ns ∧ v = .int c := by
  obtain ⟨c, hc, e⟩ := List.mem_map.mp h
  exact ⟨c, hc, e.symm⟩
structure Blt (mg : Str → Option Value) : Prop where
  b_abs : mg "abs" = none
  b_all : mg "all" = none
  b_bool : mg "bool" = none
  b_int : mg "int" = none
  b_isinstance : mg "isinstance" = none
  b_len : mg "len" = none
  b_list : mg "list" = none
  b_min : mg "min" = none
  b_range : mg "range" = none
  b_set : mg "set" = none
  b_sorted : mg "sorted" = none
  b_str : mg "str" = none
  b_tuple : mg "tuple" = none
  b_zip : mg "zip" = none
/-! ### sorted(set(xs)), xs a list of few ints -/
section
open PySem.Spec PyProof.Rows PySem.Calls
abbrev bareSet (w : World) : Obj := { cls := .type "set", dict := none, data := .set #[] 0 (.fresh 0 0 (!w.params.followText "set-order")) }
/-- what set(xs) leaves behind -/
def SetLeft (w : World) (s : Shared) (ns : List Int) (h' : Heap) (c : Nat) : Prop := SetR w h' s.heap.objs.size (fun j => decide (j ∈ ns)) c ∧ c ≤ ns.length ∧ ∀ b o, s.heap.get? b = some o → h'.get? b = some o
variable {P : Program} {w : World} {A : Around} {E : Value → Shared → Prop} {s : Shared}
theorem items_ints {items : Array Value} {ns : List Int} (hi : IntsAre items.toList ns) (i : Nat) (v : Value) (hv : items[i]? = some v) : ∃ k t, ns[i]? = some k ∧ v = .int k t := by
  have hl : items.size = ns.length := by
    rw [← Array.length_toList]
    exact hi.length
  have hlt : i < ns.length := by
    rw [← hl]
    exact (Array.getElem?_eq_some_iff.mp hv).1
  obtain ⟨t, e⟩ := hi.int_at i v (by rw [Array.getElem?_toList]; exact hv)
  refine ⟨ns[i], t, List.getElem?_eq_getElem hlt, e.trans ?_⟩
  rw [List.getD_eq_getElem?_getD, List.getElem?_eq_getElem hlt]
  rfl
set_option maxHeartbeats 3200000 in
theorem set_of_list {l : Addr} {items : Array Value} {ns : List Int} {Q : Value → Shared → Prop} (hh : A.handled = none) (hl : s.heap.IsList l items) (hi : IntsAre items.toList ns) (hb : ns.length + 1 < scanBound)
    (h : ∀ (h' : Heap) (tk c : Nat), SetLeft w s ns h' c → Q (.ref s.heap.objs.size) { s with heap := h', toks := tk }) : wpAny (model P w) A (call (.type "set") [.ref l]) Q E s := by
  have hsz : items.size = ns.length := by
    rw [← Array.length_toList]
    exact hi.length
  obtain ⟨mc, mt, hmro⟩ := F.called_set.mro
  have a1 := F.called_set.made; have a2 := F.called_set.sub; have a3 := F.called_set.notType; have a4 := F.called_set.canCreate; have a5 := F.typeCall_set_1 (.ref l)
  refine wpAny_call (codeAny_of_tree (show wpAny _ _ (callAny (.type "set") _) _ _ _ from wpAny_pure ⟨Code.quiet_builtin _ (by decide +kernel), codeAny_builtin F.entry_type_call ?_⟩))
  rw [Around.under_plain (weight_type_call_type "set" [.ref l] []) rfl]; repeat (any_goals (first | assumption | wp_step))
  refine codeAny_mono (code_set_led1 (.ref l) (E := E) (Q₁ := fun v s' => v = .ref s.heap.objs.size ∧ s' = { s with heap := s.heap.push (bareSet w) }) ⟨rfl, rfl⟩) fun res s1 hres => ?_
  match res, hres with
  | .error e, hres => exact hres
  | .ok .next, hres => exact hres.elim
  | .ok .cont, hres => exact hres.elim
  | .ok .brk, hres => exact hres.elim
  | .ok (.ret v), hres =>
    obtain ⟨rfl, rfl⟩ := hres
    have g0 : (s.heap.push (bareSet w)).get? s.heap.objs.size = some (bareSet w) := Heap.get?_push_size _ rfl
    have ty0 : Shared.TypeIs { s with heap := s.heap.push (bareSet w) } (.ref s.heap.objs.size) "set" := ⟨_, g0, rfl⟩
    have i1 := F.called_set.init.lookup; have i2 := F.called_set.init.bind (.ref s.heap.objs.size)
    repeat (any_goals (first | assumption | wp_step))
    refine codeAny_mono (codeAny_call_builtin (R := wants (fun v s' => v = .none ∧ ∃ h' tk c, s' = { s with heap := h', toks := tk } ∧ SetLeft w s ns h' c) E) F.called_set.init.plain F.entry_set_init (check_set_init_1 ty0 ?_)) fun res2 s2 hres2 => ?_
    · obtain ⟨⟨lc, ld, la, ls⟩, hol, hcl, nl, hdl⟩ := hl
      simp only at hcl hdl; subst hcl; subst hdl
      have hol1 := Heap.get?_push_of_some (bareSet w) hol
      have hL1 : (s.heap.push (bareSet w)).IsList l items := ⟨_, hol1, rfl, nl, rfl⟩
      have n1 := F.sub_list_set; have n2 := F.sub_list_frozenset; have n3 : (Value.type "list" == Value.type "dict") = false := by decide
      unfold Builtin.«set.__init__» noKeywords Builtin.Frozenset.updateFrom; generalize hgo : pyIter = go; wp_walk; subst hgo
      refine wpAny_pyIter_list hL1 (wpAny_bind (wpAny_runValue ?_))
      have ll := Heap.lt_size hol
      have hhd : A.in1.in1.in1.handled = none := by simp [hh]
      have sz1 : (s.heap.push (bareSet w)).objs.size = s.heap.objs.size + 1 := Heap.size_push ..
      have off : l ≠ (s.heap.push (bareSet w)).objs.size := by rw [sz1]; exact Nat.ne_of_lt (Nat.lt_succ_of_lt ll)
      have out : s.heap.objs.size ∉ [(s.heap.push (bareSet w)).objs.size, l] := by
        intro z
        rcases List.mem_cons.mp z with z | z
        · rw [sz1] at z
          exact absurd z (Nat.ne_of_lt (Nat.lt_succ_self _))
        · exact absurd (List.mem_singleton.mp z) (Nat.ne_of_gt ll)
      refine set_update_ints ((Walks.list hhd _ l off items).toS) s.heap.objs.size out ns hsz hb (items_ints hi) (items.size - 0) 0 _ (by omega) (Nat.zero_le _) ⟨⟨_, Heap.get?_push_size _ rfl, rfl, rfl⟩, hL1.push _⟩ ⟨0, Nat.le_refl 0, setR_new_at (Heap.get?_push_of_some _ g0)⟩ ?_
      rintro ⟨h', g', d', tk', os'⟩ c' hm hc' hS'
      obtain ⟨e1, e2, e3⟩ := (show g' = s.gens ∧ d' = s.drawn ∧ os' = s.os from ⟨hm.gens, hm.drawn, hm.os⟩)
      subst e1; subst e2; subst e3
      refine wpAny_pure (show wpAny _ _ (ret Value.none) _ _ _ from wpAny_pure ⟨rfl, h', tk', c', rfl, hS', by omega, fun b o e => ?_⟩)
      have lb := Heap.lt_size e
      refine hm.heap b o ?_ (Heap.get?_push_of_some _ (Heap.get?_push_of_some _ e))
      intro z
      rcases List.mem_cons.mp z with z | z
      · exact absurd z (Nat.ne_of_lt lb)
      · have z2 := List.mem_singleton.mp z
        rw [sz1] at z2
        exact absurd z2 (Nat.ne_of_lt (Nat.lt_succ_of_lt lb))
    · match res2, hres2 with
      | .error e, hres2 => exact hres2
      | .ok .next, hres2 => exact hres2.elim
      | .ok .cont, hres2 => exact hres2.elim
      | .ok .brk, hres2 => exact hres2.elim
      | .ok (.ret v2), hres2 =>
        obtain ⟨rfl, h', tk, c', rfl, hS'⟩ := hres2
        repeat (any_goals (first | assumption | wp_step))
        exact h _ _ _ hS'
end
def tSortSet (K : PySem.W.Frag) (ta : TE) : TE := fun σ H Q => ta σ H fun x H1 => ∃ (l : Addr) (ns : List Int), x = .ref l ∧ SqL K H1 l (ns.map V.int) ∧ ns.length < 64 ∧
  ∀ (out : List Int) (p : Addr), H1 p = none → out.Pairwise (· < ·) → (∀ k, k ∈ out ↔ k ∈ ns) → out.length ≤ ns.length → Q (.ref p) (upd H1 p (.lst (out.map V.int)))
open PySem.Spec PyProof.Rows in
theorem pe_sortSet {X : Cx} {a : Expr} {ta : TE} {p p2 q pos : Pos} (hg : Gl X "sorted") (hm : X.mg "sorted" = none) (hg2 : Gl X "set") (hm2 : X.mg "set" = none) (ha : PE X a ta) (hc : X.calm = true := by rfl)
    (na : starEach [a] X.env = (false, eval a X.env) :: starEach [] X.env := by rfl) : PE X (.Call (.Name "sorted" p) [.Call (.Name "set" p2) [a] [] q] [] pos) (tSortSet X.K ta) := by
  refine ⟨fun pins s σ H Q I h => ?_⟩
  refine Call_ (ld_blt I hg hm boot_sorted (callWith_builtin1 (args_cons (Call_ (ld_blt I hg2 hm2 boot_set (callWith_type1 (args_cons (thn (ha.run pins s σ H _ I h) fun v s1 ⟨x, H1, I1, r1, q1⟩ => args_nil ?_) na) na rfl))) rfl) rfl rfl))
  obtain ⟨l, ns, rfl, hq, hn, q1⟩ := q1
  cases r1
  obtain ⟨its, r, pl, hz⟩ := I1.list hq
  have hd := I1.ok.hd hc
  refine set_of_list hd pl.isList (by simpa using ints_of_vals r) (by unfold scanBound; omega) fun h' tk c hL => args_nil ?_
  obtain ⟨R1, hcn, kept⟩ := hL
  refine sorted_set (s := { s1 with heap := h', toks := tk }) R1 hd (by omega) fun s' pp out cc ms k g o hp hgt hi hs hmem hlen => ?_
  have kk : ∀ b u, s1.heap.get? b = some u → s'.heap.get? b = some u := fun b u e => k b u (kept b u e)
  have hpp : s1.heap.objs.size ≤ pp := Nat.le_trans (Nat.le_of_lt R1.lt) hp
  have fr : H1 pp = none := I1.hok.fresh hpp
  have sl : (ms.map V.int).length ≤ sizeLine := by
    rw [List.length_map, hlen]
    exact szl (by omega)
  have hos : s'.os = s1.os := o
  have J : Inv X pins σ (upd H1 pp (.lst (ms.map V.int))) { s1 with heap := s'.heap, gens := s'.gens, drawn := s'.drawn, toks := s'.toks } :=
    I1.call (ch := []) (Un.laid kk hpp fr) (I1.hok.laid kk hpp ⟨sl, out.toList, cc, vals_of_ints hi, hgt⟩) (by rw [g]; exact I1.bare) (fun _ z => nomatch z)
  have es : s' = { s1 with heap := s'.heap, gens := s'.gens, drawn := s'.drawn, toks := s'.toks } := by
    obtain ⟨b1, b2, b3, b4, b5⟩ := s'
    simp only at hos
    subst hos
    rfl
  rw [es]
  exact ⟨.ref pp, _, J, rfl, q1 ms pp fr hs (fun j => (hmem j).trans decide_eq_true_iff) (by omega)⟩
local macro_rules | `(tactic| walk_at "ev1") => `(tactic| first
  | with_reducible assumption
  | ((with_reducible show _ = _); exact rfl)
  | ((first | with_reducible show (_ : Int) = _ | with_reducible show (_ : Int) < _ | with_reducible show (_ : Int) ≤ _ | with_reducible show (_ : Nat) < _ | with_reducible show (_ : Nat) ≤ _); first | omega | decide | (simp only [pw6, pw9]; omega) | (simp only [List.length_cons, List.length_nil, List.length_append, List.length_map, List.length_replicate]; omega))
  | assumption
  | exact upd_same
  | exact SqL.of upd_same
  | exact Or.inl (SqL.of upd_same)
  | exact Or.inl (by assumption)
  | exact Or.inr (by assumption)
  | omega
  | exact (show CDiv _ _ from ⟨by omega, by omega⟩)
  | exact (show CPow _ _ from ⟨by omega, by omega, by omega⟩)
  | exact (show CMul _ _ from .inl ⟨by omega, by omega⟩)
  | exact (show CMul _ _ from .inr ⟨by omega, by omega⟩)
  | exact (show CMul _ _ from cmul_b)
  | exact (show CDivW _ _ from wide_div (b := 31) (by omega) (by omega) (by decide) (by decide))
  | exact (Or.inl ⟨rfl, _, SqL.of (by assumption)⟩)
  | exact ClsV.ty _
  | exact .cons (.ty _) (.cons (.ty _) .nil)
  | (refine szl ?_; simp only [List.length_cons, List.length_nil, List.length_append, List.length_map, List.length_replicate]; omega)
  | (refine szm ?_; simp only [List.length_cons, List.length_nil, List.length_append, List.length_map, List.length_replicate]; omega))
local macro_rules | `(tactic| walk_at "s") => `(tactic| (first
  | (refine And.intro ?l ?_; (case l => walk_at "ev1"))
  | with_reducible refine iteT ?_
  | with_reducible refine iteF ?_
  | with_reducible refine ite_dec rfl ?_
  | with_reducible refine iteNS rfl ?_
  | with_reducible refine iteNS (by assumption) ?_
  | (apply Or.inl; apply Exists.intro; apply And.intro rfl)
  | (apply Or.inr; apply Exists.intro; apply And.intro rfl)
  | ((fail_if_success (refine @Exists.intro (Nat → Nat → L2.St → Hp → Prop) _ ?_ ?_)); (fail_if_success (refine @Exists.intro (Nat → L2.St → Hp → Prop) _ ?_ ?_)); (fail_if_success (refine @Exists.intro (L2.St → Hp → Prop) _ ?_ ?_)); (fail_if_success (refine @Exists.intro (Hp → Prop) _ ?_ ?_)); (fail_if_success (refine @Exists.intro (Nat → Nat → Hp → Prop) _ ?_ ?_)); apply Exists.intro)))
local macro_rules | `(tactic| walk_at "ev") => `(tactic| repeat (walk_at "s"))
/-! ### the drawing -/
abbrev s__law_take : Stmt := top 7
abbrev N__law_take : List Str := ["_law_box_here", "_law_top", "_law_found", "_law_once"]
abbrev P__law_take : List Str := ["_law_box_here", "_law_top"]
theorem sc__law_take : FnScope N__law_take P__law_take (defScope s__law_take) := ⟨rfl, rfl, rfl, by decide +kernel, rfl, by decide +kernel, by decide +kernel⟩
def spTake : Sp := fun vs H Q _ => ∃ (b : Addr) (top n : Int), vs = [.ref b, .int top] ∧ BoxAt H b n ∧ 0 < top ∧ top < 1073741824 ∧ n < 1048576 ∧ ∀ r H', 0 ≤ r → r < top → Keep b H H' → BoxAt H' b (n + 1) → Q (.int r) H'
section
variable {P : Program} {w : World} {K : PySem.W.Frag} {mg : Str → Option Value} {base : Heap}
theorem ok_take {f : Addr} {fd : FuncData} {k : Nat} (F : Fun K "_law_take" "_law_take" s__law_take f fd) : FnOk P w K mg base CX0 (k + 1) f fd P__law_take spTake := by
  have nd := sc__law_take.nd
  refine F.ok sc__law_take (fun vs H Q E h => ?_) (fun cdv A outer s H vs Q E hr h => ?_)
  · obtain ⟨b, top, n, rfl, _⟩ := h
    rfl
  · obtain ⟨b, top, n, rfl, ⟨x, y, z, hb, hx, hy, hy2, hz, hzn⟩, ht, ht2, hn, q⟩ := h
    refine ⟨_, (pss_cons (ps_if (pt_cmpR op_gt (pe_ix (r := rIxL K) ix_list (pv 0) (pe_int) (fun _ _ => rfl)) (pe_int) (nomark _)) (pss_cons (ps_set (i := 2) nd rfl (Or.inl rfl) (pe_op op_mod (pe_ix (r := rIxL K) ix_list (pv 0) (pe_int) (fun _ _ => rfl)) (pv 1)))
      (pss_cons (ps_asg (pe_op op_fdiv (pe_ix (r := rIxL K) ix_list (pv 0) (pe_int) (fun _ _ => rfl)) (pv 1)) (pg_sub (pv 0) (pe_int) set_list))
      (pss_one (ps_ret (pv 2))))) pss_nil)
      (pss_cons (ps_asg (pe_op op_add (pe_ix (r := rIxL K) ix_list (pv 0) (pe_int) (fun _ _ => rfl)) (pe_int)) (pg_sub (pv 0) (pe_int) set_list))
      (pss_cons (ps_set (i := 3) nd rfl (Or.inl rfl) (pe_op op_mod (pe_op op_pow (pe_op op_add (pe_ix (r := rIxL K) ix_list (pv 0) (pe_int) (fun _ _ => rfl)) (pe_op op_mul (pe_int) (pe_ix (r := rIxL K) ix_list (pv 0) (pe_int) (fun _ _ => rfl)))) (pe_int)) (pe_int)))
      (pss_one (ps_ret (pe_op op_mod (pe_op op_fdiv (pe_op op_mod (pe_op op_add (pe_op op_mul (pv 3) (pe_op op_add (pe_op op_mod (pv 3) (pe_int)) (pe_int))) (pe_op op_mul (pe_ix (r := rIxL K) ix_list (pv 0) (pe_int) (fun _ _ => rfl)) (pe_int))) (pe_int)) (pe_int)) (pv 1))))))), ?_⟩
    have hL : SqL K H b [.int x, .int y, .int z] := SqL.of hb
    walk_at "ev"
    refine ite2 (fun e => ?_) (fun e => ?_)
    · have e1 : 0 < x := of_decide_eq_true e
      walk_at "ev"
      exact q _ _ (Int.emod_nonneg _ (by omega)) (Int.emod_lt_of_pos _ ht) (keep_upd (Keep.refl _ _)) ⟨_, _, _, upd_same, Int.ediv_nonneg hx (by omega), hy, hy2, hz, by omega⟩
    · walk_at "ev"
      exact q _ _ (Int.emod_nonneg _ (by omega)) (Int.emod_lt_of_pos _ ht) (keep_upd (Keep.refl _ _)) ⟨_, _, _, upd_same, hx, hy, hy2, by omega, by omega⟩
end
abbrev s__law_pick : Stmt := top 8
abbrev N__law_pick : List Str := ["_law_box_here", "_law_things"]
abbrev P__law_pick : List Str := ["_law_box_here", "_law_things"]
theorem sc__law_pick : FnScope N__law_pick P__law_pick (defScope s__law_pick) := ⟨rfl, rfl, rfl, by decide +kernel, rfl, by decide +kernel, by decide +kernel⟩
def spPick (K : PySem.W.Frag) : Sp := fun vs H Q _ => ∃ (b a : Addr) (xs : List V) (n : Int), vs = [.ref b, .ref a] ∧ BoxAt H b n ∧ SqL K H a xs ∧ a ≠ b ∧ 0 < (xs.length : Int) ∧ (xs.length : Int) < 1048576 ∧ n < 1048576 ∧ ∀ v H', v ∈ xs → Keep b H H' → BoxAt H' b (n + 1) → Q v H'
section
variable {P : Program} {w : World} {K : PySem.W.Frag} {mg : Str → Option Value} {base : Heap}
theorem ok_pick {f fT : Addr} {fd fdT : FuncData} {k : Nat} (F : Fun K "_law_pick" "_law_pick" s__law_pick f fd) (T : Blt mg) (D__law_take : Df K mg "_law_take" s__law_take P__law_take fT fdT) : FnOk P w K mg base CX0 (k + 2) f fd P__law_pick (spPick K) := by
  have G__law_take : FnOk P w K mg base CX0 (k + 1) fT fdT P__law_take spTake := ok_take D__law_take.F
  have nd := sc__law_pick.nd
  refine F.ok sc__law_pick (fun vs H Q E h => ?_) (fun cdv A outer s H vs Q E hr h => ?_)
  · obtain ⟨b, a, xs, n, rfl, _⟩ := h
    rfl
  · obtain ⟨b, a, xs, n, rfl, hb, hL, hne, h0, h1, hn, q⟩ := h
    refine ⟨_, (pss_one (ps_ret (pe_ix (r := rIxL K) ix_list (pv 1) (pe_call G__law_take (hr.mono (by omega)) (by rfl) D__law_take.g D__law_take.F.kp D__law_take.b .nil pass0 (pa_cons (pv 0) (pa_cons (pe_callB (r := rLenQ K) call_len_seq (by rfl) T.b_len (by decide +kernel) (pa_cons (pv 1) pa_nil)) pa_nil))) (fun _ _ => rfl)))), ?_⟩
    walk_at "ev"
    intro r H' hr0 hr1 hk hb'
    obtain ⟨v, hv, hat⟩ := at_some hr0 hr1
    have hL' := hk.seq hne hL
    walk_at "ev"
    exact q _ _ hv hk hb'
end
abbrev s__law_box : Stmt := top 6
abbrev N__law_box : List Str := ["_law_script", "_law_k", "_law_cell"]
abbrev P__law_box : List Str := ["_law_script", "_law_k"]
theorem sc__law_box : FnScope N__law_box P__law_box (defScope s__law_box) := ⟨rfl, rfl, rfl, by decide +kernel, rfl, by decide +kernel, by decide +kernel⟩
def spBox (K : PySem.W.Frag) : Sp := fun vs H Q _ => ∃ (a : Addr) (ns : List Int) (k : Int), vs = [.ref a, .int k] ∧ SqL K H a (ns.map V.int) ∧ 0 ≤ k ∧ k ≤ 100000 ∧ ∀ p H', H p = none → Same H H' → BoxAt H' p 0 → Q (.ref p) H'
section
variable {P : Program} {w : World} {K : PySem.W.Frag} {mg : Str → Option Value} {base : Heap}
theorem ok_box {f : Addr} {fd : FuncData} {k : Nat} (F : Fun K "_law_box" "_law_box" s__law_box f fd) (T : Blt mg) : FnOk P w K mg base CX0 (k + 1) f fd P__law_box (spBox K) := by
  have nd := sc__law_box.nd
  refine F.ok sc__law_box (fun vs H Q E h => ?_) (fun cdv A outer s H vs Q E hr h => ?_)
  · obtain ⟨b, top, n, rfl, _⟩ := h
    rfl
  · obtain ⟨a, ns, k, rfl, hL, h0, h1, q⟩ := h
    refine ⟨_, (pss_cons (ps_set (i := 2) nd rfl (Or.inl rfl) (pe_int))
      (pss_cons (ps_if (pt_cmpR op_lt (pv 1) (pe_callB (r := rLenQ K) call_len_seq (by rfl) T.b_len (by decide +kernel) (pa_cons (pv 0) pa_nil)) (nomark _)) (pss_one (ps_set (i := 2) nd rfl (Or.inl rfl) (pe_ix (r := rIxL K) ix_list (pv 0) (pv 1) (fun _ _ => rfl)))) pss_nil)
      (pss_one (ps_ret (pe_lst (pa_cons (pe_op op_mul (pe_callB call_abs (by rfl) T.b_abs (by decide +kernel) (pa_cons (pv 2) pa_nil)) (pe_callTy call_int1 (by rfl) T.b_int (by decide +kernel) (pa_cons (pe_cmpR op_ge (pe_callB call_abs (by rfl) T.b_abs (by decide +kernel) (pa_cons (pv 2) pa_nil)) (pe_op op_pow (pe_int) (pe_int)) (nomark _)) pa_nil))) (pa_cons (pe_op op_add (pe_op op_add (pe_op op_mod (pv 2) (pe_int)) (pe_op op_mul (pe_int) (pv 1))) (pe_int)) (pa_cons (pe_int) pa_nil)))))))), ?_⟩
    have fin : ∀ c : Int, ∀ p, H p = none → Q (.ref p) (upd H p (.lst [.int ((if c < 0 then -c else c) * (if decide ((10 : Int) ^ 18 ≤ if c < 0 then -c else c) then 1 else 0)), .int (c % 2147483629 + 7919 * k + 11), .int 0])) := by
      intro c p hp
      refine q p _ hp (same_new hp) ⟨_, _, _, upd_same, ?_, ?_, ?_, by omega, by omega⟩
      · refine Int.mul_nonneg ?_ ?_
        · split <;> omega
        · split <;> omega
      · have := Int.emod_nonneg c (show (2147483629 : Int) ≠ 0 by decide)
        omega
      · have := Int.emod_lt_of_pos c (show (0 : Int) < 2147483629 by decide)
        omega
    walk_at "ev"
    refine ite2 (fun e => ?_) (fun e => ?_)
    · have e1 : k < ((ns.map V.int).length : Int) := of_decide_eq_true e
      rw [List.length_map] at e1
      obtain ⟨c, hc, hat⟩ := at_ints h0 e1
      walk_at "ev"
      exact fin c
    · walk_at "ev"
      exact fin 0
end
/-! ### kinds of things -/
inductive Kd (K : PySem.W.Frag) (H : Hp) : V → String → Prop
  | non : Kd K H .non "NoneType"
  | bl (b : Bool) : Kd K H (.bl b) "bool"
  | int (i : Int) : Kd K H (.int i) "int"
  | str (x : Str) : Kd K H (.str x) "str"
  | lst {a : Addr} {xs : List V} : SqL K H a xs → Kd K H (.ref a) "list"
  | tup {a : Addr} {xs : List V} : SqT K H a xs → Kd K H (.ref a) "tuple"
theorem Kd.ty {K : PySem.W.Frag} {H : Hp} {x : V} {t : String} (h : Kd K H x t) : TyX K H x (.type t) := by
  cases h with
  | non => exact .base .non
  | bl b => exact .base (.bl b)
  | int i => exact .base (.int i)
  | str x => exact .base (.str x)
  | lst h =>
    rcases h with (h | ⟨o, h⟩) | ⟨o, its, n, h1, h2, _⟩
    · exact .base (.lst h)
    · exact .base (.frz h)
    · exact .kList h1 h2
  | tup h =>
    rcases h with (h | ⟨o, h⟩) | ⟨o, its, n, h1, h2, _⟩
    · exact .base (.tup h)
    · exact .fTuple h
    · exact .kTuple h1 h2
theorem Kd.same {K : PySem.W.Frag} {H H' : Hp} {x : V} {t : String} (h : Kd K H x t) (e : Same H H') : Kd K H' x t := by
  cases h with
  | non => exact .non
  | bl b => exact .bl b
  | int i => exact .int i
  | str x => exact .str x
  | lst h => exact .lst (e.seq h)
  | tup h => exact .tup (same_t e h)
def tis (t c : String) : Bool := t == c || (t == "bool" && c == "int")
theorem Kd.kit {K : PySem.W.Frag} {H : Hp} {x : V} {t : String} (h : Kd K H x t) : PySem.W.kitOne K (.type t) (.type "int") = some (tis t "int") ∧ PySem.W.kitOne K (.type t) (.type "bool") = some (tis t "bool") ∧ PySem.W.kitOne K (.type t) (.type "str") = some (tis t "str") ∧ PySem.W.kitOne K (.type t) (.type "list") = some (tis t "list") ∧ PySem.W.kitOne K (.type t) (.type "tuple") = some (tis t "tuple") := by
  cases h <;> exact ⟨kit_ty (by decide +kernel), kit_ty (by decide +kernel), kit_ty (by decide +kernel), kit_ty (by decide +kernel), kit_ty (by decide +kernel)⟩
theorem kit_lt {K : PySem.W.Frag} {t : String} {a b : Bool} (h1 : PySem.W.kitOne K (.type t) (.type "list") = some a) (h2 : PySem.W.kitOne K (.type t) (.type "tuple") = some b) : PySem.W.kitAny K (.type t) [.type "list", .type "tuple"] = some (a || b) := by
  refine kitAny_cons h1 (fun e => kitAny_cons h2 (fun e2 => ?_) (fun e2 => ?_)) (fun e => by rw [e]; rfl)
  · rw [e, e2]
    exact kitAny_nil
  · rw [e, e2]
    rfl
/-! ### the law's own comparing, of like things -/
abbrev s__law_same : Stmt := top 9
abbrev N__law_same : List Str := ["_law_found", "_law_due", "_law_one", "_law_two"]
abbrev P__law_same : List Str := ["_law_found", "_law_due"]
theorem sc__law_same : FnScope N__law_same P__law_same (defScope s__law_same) := ⟨rfl, rfl, rfl, by decide +kernel, rfl, by decide +kernel, by decide +kernel⟩
def Fit : Nat → PyData → Prop
  | 0, .list _ => False
  | 0, .tuple _ => False
  | n + 1, .list ds => ds.length ≤ 4000 ∧ ∀ e ∈ ds, Fit n e
  | n + 1, .tuple ds => ds.length ≤ 4000 ∧ ∀ e ∈ ds, Fit n e
  | _, .dict _ => False
  | _, _ => True
theorem dpall_len {K : PySem.W.Frag} {H : Hp} : ∀ {xs : List V} {ds : List PyData}, DpAll K H xs ds → xs.length = ds.length
  | _, _, .nil => rfl
  | _, _, .cons _ h => by rw [List.length_cons, List.length_cons, dpall_len h]
theorem dpall_get {K : PySem.W.Frag} {H : Hp} : ∀ {xs : List V} {ds : List PyData} {i : Nat} {x : V}, DpAll K H xs ds → xs[i]? = some x → ∃ d, ds[i]? = some d ∧ Dp K H x d
  | _, _, _, _, .nil, h => by simp at h
  | _, _, 0, _, .cons (d := d) h1 h2, h => ⟨d, rfl, by
      have e := Option.some.inj h
      rw [← e]
      exact h1⟩
  | _, _, i + 1, _, .cons h1 h2, h => dpall_get (i := i) h2 h
mutual
theorem dp_same {K : PySem.W.Frag} {H H' : Hp} (e : Same H H') : ∀ {x : V} {d : PyData}, Dp K H x d → Dp K H' x d
  | _, _, .non => .non
  | _, _, .bl b => .bl b
  | _, _, .int i => .int i
  | _, _, .str x => .str x
  | _, _, .lst h a => .lst (e.seq h) (dpall_same e a)
  | _, _, .tup h a => .tup (same_t e h) (dpall_same e a)
theorem dpall_same {K : PySem.W.Frag} {H H' : Hp} (e : Same H H') : ∀ {xs : List V} {ds : List PyData}, DpAll K H xs ds → DpAll K H' xs ds
  | _, _, .nil => .nil
  | _, _, .cons h a => .cons (dp_same e h) (dpall_same e a)
end
def spSame (K : PySem.W.Frag) (n : Nat) : Sp := fun vs H Q _ => ∃ (x y : V) (d : PyData), vs = [x, y] ∧ Dp K H x d ∧ Dp K H y d ∧ Fit n d ∧ ∀ H', Same H H' → Q (.bl true) H'
/-- a comprehension over pairs -/
theorem lc_pairs {J : It} {xs ys : List V} {g : TG} {tt : TT} {te : TE} {vs : List Nat} {σ : L2.St} {H1 : Hp} {D : Addr} {Qd : Hp → Prop} (Pv : Nat → Hp → Prop) (h0 : Pv 0 (upd H1 D (.lst [])))
    (hgo : ∀ i H, Pv i H → i < xs.length → J.go i H) (hy : ∀ i H v H', Pv i H → i < xs.length → J.yld i H v H' → ∃ T x y, v = .ref T ∧ H T = none ∧ H' = upd H T (.tup [x, y]) ∧ xs[i]? = some x ∧ ys[i]? = some y)
    (hst : ∀ H, Pv xs.length H → J.stop xs.length H)
    (hs : ∀ i x y T H H', xs[i]? = some x → ys[i]? = some y → Pv i H → H T = none → H' = upd H T (.tup [x, y]) → g (.ref T) (wipe σ vs) H' fun σ2 H2 => wipe σ2 vs = wipe σ vs ∧ tt σ2 H2 fun b H3 =>
      if b = true then te σ2 H3 fun y H4 => ∃ acc, H4 D = some (.lst acc) ∧ acc.length < sizeLine ∧ Pv (i + 1) (upd H4 D (.lst (acc ++ [y]))) else Pv (i + 1) H3) (hd : ∀ H, Pv xs.length H → Qd H) :
    ∃ W : Nat → Nat → Hp → Prop, (∃ m, W 0 m (upd H1 D (.lst []))) ∧ ∀ i m H, W i m H →
      (J.stop i H ∧ Qd H) ∨ (J.go i H ∧ ∃ Nx : Hp → Prop, (∀ H', Nx H' → ∃ m', m' < m ∧ W (i + 1) m' H') ∧ ∀ x H', J.yld i H x H' → g x (wipe σ vs) H' fun σ2 H2 => wipe σ2 vs = wipe σ vs ∧ tt σ2 H2 fun b H3 =>
        if b = true then te σ2 H3 fun y H4 => ∃ acc, H4 D = some (.lst acc) ∧ acc.length < sizeLine ∧ Nx (upd H4 D (.lst (acc ++ [y]))) else Nx H3) := by
  refine ⟨fun i m H => m = xs.length - i ∧ i ≤ xs.length ∧ Pv i H, ⟨xs.length, by simp, Nat.zero_le _, h0⟩, ?_⟩
  rintro i m H ⟨rfl, hi, p⟩
  by_cases hlt : i < xs.length
  · refine .inr ⟨hgo i H p hlt, Pv (i + 1), fun H' p' => ⟨xs.length - (i + 1), by omega, rfl, hlt, p'⟩, fun v H' yl => ?_⟩
    obtain ⟨T, x, y, rfl, hT, e, f1, f2⟩ := hy i H v H' p hlt yl
    exact hs i x y T H H' f1 f2 p hT e
  · have e : i = xs.length := by omega
    subst e
    exact .inl ⟨hst H p, hd H p⟩
theorem q_dec {Q : VK} {x : V} {H : Hp} (h : Q (.bl true) H) : Q (.bl (decide (x = x))) H := by
  rw [decide_eq_true rfl]
  exact h
theorem all_true : ∀ n : Nat, (List.replicate n true).all id = true
  | 0 => rfl
  | n + 1 => by
    rw [List.replicate_succ, List.all_cons, all_true n]
    rfl
section
variable {P : Program} {w : World} {K : PySem.W.Frag} {mg : Str → Option Value} {base : Heap}
theorem same_step {f : Addr} {fd : FuncData} {n : Nat} {spI : Sp} (D__law_same : Df K mg "_law_same" s__law_same P__law_same f fd) (T : Blt mg) (G__law_same : FnOk P w K mg base CX0 n f fd P__law_same spI) (hG : ∀ m, n = m + 1 → spI = spSame K m) : FnOk P w K mg base CX0 (n + 1) f fd P__law_same (spSame K n) := by
  have nd := sc__law_same.nd
  refine D__law_same.F.ok sc__law_same (fun vs H Q E h => ?_) (fun cdv A outer s H vs Q E hr h => ?_)
  · obtain ⟨x, y, d, rfl, _⟩ := h
    rfl
  · obtain ⟨x, y, d, rfl, hx, hy, hf, q⟩ := h
    refine ⟨_, (pss_cons (ps_if (pt_val (pe_callB (r := rIsiT K) call_isiT (by rfl) T.b_isinstance (by decide +kernel) (pa_cons (pv 1) (pa_cons (pe_tup (pa_cons (pe_bltn (v := .ty "list") (by rfl) T.b_list (by decide +kernel) rfl) (pa_cons (pe_bltn (v := .ty "tuple") (by rfl) T.b_tuple (by decide +kernel) rfl) pa_nil))) pa_nil)))) (pss_cons (ps_if (PW.pt (pw_or (pt_cmpR op_ne (pe_callB (r := rIsi K) call_isi (by rfl) T.b_isinstance (by decide +kernel) (pa_cons (pv 0) (pa_cons (pe_bltn (v := .ty "list") (by rfl) T.b_list (by decide +kernel) rfl) pa_nil))) (pe_callB (r := rIsi K) call_isi (by rfl) T.b_isinstance (by decide +kernel) (pa_cons (pv 1) (pa_cons (pe_bltn (v := .ty "list") (by rfl) T.b_list (by decide +kernel) rfl) pa_nil))) (nomark _)) (pw_or1 (pt_cmpR op_ne (pe_callB (r := rIsi K) call_isi (by rfl) T.b_isinstance (by decide +kernel) (pa_cons (pv 0) (pa_cons (pe_bltn (v := .ty "tuple") (by rfl) T.b_tuple (by decide +kernel) rfl) pa_nil))) (pe_callB (r := rIsi K) call_isi (by rfl) T.b_isinstance (by decide +kernel) (pa_cons (pv 1) (pa_cons (pe_bltn (v := .ty "tuple") (by rfl) T.b_tuple (by decide +kernel) rfl) pa_nil))) (nomark _))))) (pss_one (ps_ret (pe_bl))) pss_nil)
      (pss_cons (ps_if (pt_cmpR op_ne (pe_callB (r := rLenQ K) call_len_seq (by rfl) T.b_len (by decide +kernel) (pa_cons (pv 0) pa_nil)) (pe_callB (r := rLenQ K) call_len_seq (by rfl) T.b_len (by decide +kernel) (pa_cons (pv 1) pa_nil)) (nomark _)) (pss_one (ps_ret (pe_bl))) pss_nil)
      (pss_one (ps_ret (pe_callB (r := rAll K) (cr_all rfl) (by rfl) T.b_all (by decide +kernel) (pa_cons (pe_lc (own := [("_law_one", 2), ("_law_two", 3)]) (g := gTup K 2 (gCons (gName 2) (gCons (gName 3) gNil))) (by rfl) nd (RZ.pi_zipA (by rfl) T.b_zip (pa_cons (pv 0) (pa_cons (pv 1) pa_nil))) (blkOk_by (own := [("_law_one", 2), ("_law_two", 3)]) (N := N__law_same) (sc := defScope s__law_same) (by decide +kernel)) (fun _ _ _ _ _ => (pg_tup (by rfl) (pgs_cons (pg_name (i := 2) nd rfl (Or.inl rfl)) (pgs_cons (pg_name (i := 3) nd rfl (Or.inl rfl)) pgs_nil)))) (fun _ _ _ _ _ => pts_nil) (fun _ _ _ _ _ => (pe_call G__law_same (hr.mono (by omega)) (by rfl) D__law_same.g D__law_same.F.kp D__law_same.b .nil pass0 (pa_cons (pv 2) (pa_cons (pv 3) pa_nil))))) pa_nil)))))) pss_nil)
      (pss_cons (ps_if (PW.pt (pw_or (pt_cmpR op_isN (pv 1) (pe_non) (nomark _)) (pw_or1 (pt_val (pe_callB (r := rIsi K) call_isi (by rfl) T.b_isinstance (by decide +kernel) (pa_cons (pv 1) (pa_cons (pe_bltn (v := .ty "str") (by rfl) T.b_str (by decide +kernel) rfl) pa_nil))))))) (pss_one (ps_ret (pe_and (pe_cmpR op_eq (pv 0) (pv 1) (nomark _)) (pe_one (pe_cmpR op_eq (pe_callB (r := rIsi K) call_isi (by rfl) T.b_isinstance (by decide +kernel) (pa_cons (pv 0) (pa_cons (pe_bltn (v := .ty "str") (by rfl) T.b_str (by decide +kernel) rfl) pa_nil))) (pe_callB (r := rIsi K) call_isi (by rfl) T.b_isinstance (by decide +kernel) (pa_cons (pv 1) (pa_cons (pe_bltn (v := .ty "str") (by rfl) T.b_str (by decide +kernel) rfl) pa_nil))) (nomark _)))))) pss_nil)
      (pss_one (ps_ret (pe_and (pe_callB (r := rIsi K) call_isi (by rfl) T.b_isinstance (by decide +kernel) (pa_cons (pv 0) (pa_cons (pe_bltn (v := .ty "int") (by rfl) T.b_int (by decide +kernel) rfl) pa_nil))) (pe_and (pe_cmpR op_eq (pe_callB (r := rIsi K) call_isi (by rfl) T.b_isinstance (by decide +kernel) (pa_cons (pv 0) (pa_cons (pe_bltn (v := .ty "bool") (by rfl) T.b_bool (by decide +kernel) rfl) pa_nil))) (pe_callB (r := rIsi K) call_isi (by rfl) T.b_isinstance (by decide +kernel) (pa_cons (pv 1) (pa_cons (pe_bltn (v := .ty "bool") (by rfl) T.b_bool (by decide +kernel) rfl) pa_nil))) (nomark _)) (pe_one (pe_cmpR op_eq (pv 0) (pv 1) (nomark _))))))))), ?_⟩
    cases hx with
    | non =>
      cases hy
      walk_at "ev"
      intro p hp
      generalize hH : upd _ p _ = H1
      obtain ⟨sm, hp1⟩ := newO hH hp
      have kd : Kd K H1 .non "NoneType" := .non
      have ty := kd.ty
      obtain ⟨k1, k2, k3, k4, k5⟩ := kd.kit
      have ka := kit_lt k4 k5
      walk_at "ev"
      exact q_dec (q _ sm)
    | bl b =>
      cases hy
      walk_at "ev"
      intro p hp
      generalize hH : upd _ p _ = H1
      obtain ⟨sm, hp1⟩ := newO hH hp
      have kd : Kd K H1 (.bl b) "bool" := .bl b
      have ty := kd.ty
      obtain ⟨k1, k2, k3, k4, k5⟩ := kd.kit
      have ka := kit_lt k4 k5
      walk_at "ev"
      exact q_dec (q _ sm)
    | int i =>
      cases hy
      walk_at "ev"
      intro p hp
      generalize hH : upd _ p _ = H1
      obtain ⟨sm, hp1⟩ := newO hH hp
      have kd : Kd K H1 (.int i) "int" := .int i
      have ty := kd.ty
      obtain ⟨k1, k2, k3, k4, k5⟩ := kd.kit
      have ka := kit_lt k4 k5
      walk_at "ev"
      exact q_dec (q _ sm)
    | str z =>
      cases hy
      walk_at "ev"
      intro p hp
      generalize hH : upd _ p _ = H1
      obtain ⟨sm, hp1⟩ := newO hH hp
      have kd : Kd K H1 (.str z) "str" := .str z
      have ty := kd.ty
      obtain ⟨k1, k2, k3, k4, k5⟩ := kd.kit
      have ka := kit_lt k4 k5
      walk_at "ev"
      exact q_dec (q _ sm)
    | lst hs ha =>
      rename_i a xs ds
      cases hy with
      | lst ht hb =>
      rename_i b ys
      have el : ys.length = xs.length := (dpall_len hb).trans (dpall_len ha).symm
      have el' : V.int (xs.length : Int) = V.int (ys.length : Int) := by rw [el]
      cases n with
      | zero => exact hf.elim
      | succ n =>
      have hf' : ds.length ≤ 4000 ∧ ∀ e ∈ ds, Fit n e := hf
      have hS := hG n rfl
      subst hS
      walk_at "ev"
      intro p hp
      generalize hH : upd _ p _ = H1
      obtain ⟨sm, hp1⟩ := newO hH hp
      have hs1 := sm.seq hs
      have ht1 := sm.seq ht
      have kd : Kd K H1 (.ref a) "list" := .lst hs1
      have ty := kd.ty
      have kd' : Kd K H1 (.ref b) "list" := .lst ht1
      have ty' := kd'.ty
      obtain ⟨k1, k2, k3, k4, k5⟩ := kd.kit
      have ka := kit_lt k4 k5
      walk_at "ev"
      refine .inl ⟨hs1, ht1, fun D hD => ?_⟩
      refine lc_pairs (xs := xs) (ys := ys) (fun i H' => Hold (Same H1 H' ∧ H' D = some (.lst ((List.replicate i true).map V.bl)))) (.mk ⟨same_new hD, upd_same⟩) ?_ ?_ ?_ ?_ ?_
      · intro i H' hP hi
        obtain ⟨sm2, hD2⟩ := hP.un
        have hi2 : i < ys.length := by omega
        exact ⟨xs, ys, _, _, sm2.seq hs1, sm2.seq ht1, List.getElem?_eq_getElem hi, List.getElem?_eq_getElem hi2⟩
      · intro i H' v H'' hP hi yl
        obtain ⟨sm2, hD2⟩ := hP.un
        obtain ⟨T, x, y, e1, e2, e3, f1, f2⟩ := yl
        exact ⟨T, x, y, e1, e2, e3, f1 _ (sm2.seq hs1), f2 _ (sm2.seq ht1)⟩
      · intro H' hP
        obtain ⟨sm2, hD2⟩ := hP.un
        exact ⟨xs, ys, sm2.seq hs1, sm2.seq ht1, .inl (Nat.le_refl _)⟩
      · intro i x y T' H' H'' hx hy hP hT e
        obtain ⟨sm2, hD2⟩ := hP.un
        obtain ⟨sm3, hT3⟩ := newO e.symm hT
        have hT4 : SqT K H'' T' [x, y] := SqT.of hT3
        obtain ⟨d, hd, hdx⟩ := dpall_get ha hx
        obtain ⟨d', hd', hdy⟩ := dpall_get hb hy
        have ed : d' = d := Option.some.inj (hd'.symm.trans hd)
        subst ed
        have sm4 : Same H H'' := (sm.trans sm2).trans sm3
        have dx := dp_same sm4 hdx
        have dy := dp_same sm4 hdy
        have ft := hf'.2 _ (List.mem_of_getElem? hd)
        have hil : i < xs.length := (List.getElem?_eq_some_iff.mp hx).1
        have hdl := dpall_len ha
        have hlen : i ≤ 4000 := by omega
        walk_at "ev"
        intro H5 sm5
        have hD5 := sm5 _ _ (sm3 _ _ hD2)
        refine ⟨_, hD5, szm (by simp; omega), .mk ⟨same_mut ((sm2.trans sm3).trans sm5) hD, ?_⟩⟩
        rw [upd_same, List.replicate_succ', List.map_append]
        rfl
      · intro H' hP
        obtain ⟨sm2, hD2⟩ := hP.un
        refine ⟨D, List.replicate xs.length true, rfl, SqL.of hD2, ?_⟩
        rw [all_true]
        exact q _ (sm.trans sm2)
    | tup hs ha =>
      rename_i a xs ds
      cases hy with
      | tup ht hb =>
      rename_i b ys
      have el : ys.length = xs.length := (dpall_len hb).trans (dpall_len ha).symm
      have el' : V.int (xs.length : Int) = V.int (ys.length : Int) := by rw [el]
      cases n with
      | zero => exact hf.elim
      | succ n =>
      have hf' : ds.length ≤ 4000 ∧ ∀ e ∈ ds, Fit n e := hf
      have hS := hG n rfl
      subst hS
      walk_at "ev"
      intro p hp
      generalize hH : upd _ p _ = H1
      obtain ⟨sm, hp1⟩ := newO hH hp
      have hs1 := same_t sm hs
      have ht1 := same_t sm ht
      have kd : Kd K H1 (.ref a) "tuple" := .tup hs1
      have ty := kd.ty
      have kd' : Kd K H1 (.ref b) "tuple" := .tup ht1
      have ty' := kd'.ty
      obtain ⟨k1, k2, k3, k4, k5⟩ := kd.kit
      have ka := kit_lt k4 k5
      walk_at "ev"
      refine .inr ⟨hs1, ht1, fun D hD => ?_⟩
      refine lc_pairs (xs := xs) (ys := ys) (fun i H' => Hold (Same H1 H' ∧ H' D = some (.lst ((List.replicate i true).map V.bl)))) (.mk ⟨same_new hD, upd_same⟩) ?_ ?_ ?_ ?_ ?_
      · intro i H' hP hi
        obtain ⟨sm2, hD2⟩ := hP.un
        have hi2 : i < ys.length := by omega
        exact ⟨xs, ys, _, _, same_t sm2 hs1, same_t sm2 ht1, List.getElem?_eq_getElem hi, List.getElem?_eq_getElem hi2⟩
      · intro i H' v H'' hP hi yl
        obtain ⟨sm2, hD2⟩ := hP.un
        obtain ⟨T, x, y, e1, e2, e3, f1, f2⟩ := yl
        exact ⟨T, x, y, e1, e2, e3, f1 _ (same_t sm2 hs1), f2 _ (same_t sm2 ht1)⟩
      · intro H' hP
        obtain ⟨sm2, hD2⟩ := hP.un
        exact ⟨xs, ys, same_t sm2 hs1, same_t sm2 ht1, .inl (Nat.le_refl _)⟩
      · intro i x y T' H' H'' hx hy hP hT e
        obtain ⟨sm2, hD2⟩ := hP.un
        obtain ⟨sm3, hT3⟩ := newO e.symm hT
        have hT4 : SqT K H'' T' [x, y] := SqT.of hT3
        obtain ⟨d, hd, hdx⟩ := dpall_get ha hx
        obtain ⟨d', hd', hdy⟩ := dpall_get hb hy
        have ed : d' = d := Option.some.inj (hd'.symm.trans hd)
        subst ed
        have sm4 : Same H H'' := (sm.trans sm2).trans sm3
        have dx := dp_same sm4 hdx
        have dy := dp_same sm4 hdy
        have ft := hf'.2 _ (List.mem_of_getElem? hd)
        have hil : i < xs.length := (List.getElem?_eq_some_iff.mp hx).1
        have hdl := dpall_len ha
        have hlen : i ≤ 4000 := by omega
        walk_at "ev"
        intro H5 sm5
        have hD5 := sm5 _ _ (sm3 _ _ hD2)
        refine ⟨_, hD5, szm (by simp; omega), .mk ⟨same_mut ((sm2.trans sm3).trans sm5) hD, ?_⟩⟩
        rw [upd_same, List.replicate_succ', List.map_append]
        rfl
      · intro H' hP
        obtain ⟨sm2, hD2⟩ := hP.un
        refine ⟨D, List.replicate xs.length true, rfl, SqL.of hD2, ?_⟩
        rw [all_true]
        exact q _ (sm.trans sm2)
theorem ok_same {f : Addr} {fd : FuncData} (D__law_same : Df K mg "_law_same" s__law_same P__law_same f fd) (T : Blt mg) : ∀ n : Nat, FnOk P w K mg base CX0 (n + 1) f fd P__law_same (spSame K n)
  | 0 => same_step (spI := fun _ _ _ _ => False) D__law_same T ⟨fun _ _ _ _ h => h.elim, fun _ _ _ _ _ _ _ _ _ _ _ _ _ h => h.elim⟩ (fun m h => by omega)
  | n + 1 => same_step D__law_same T (ok_same D__law_same T n) (fun m h => by cases h; rfl)
end
/-! ### == of lists of ints -/
theorem dp_ints {K : PySem.W.Frag} {H : Hp} : ∀ ns : List Int, DpAll K H (ns.map V.int) (ns.map PyData.int)
  | [] => .nil
  | n :: r => .cons (.int n) (dp_ints r)
theorem eqv_ints : ∀ ns ms : List Int, PyData.eqvAll (ns.map PyData.int) (ms.map PyData.int) = decide (ns = ms)
  | [], [] => by simp [PyData.eqvAll]
  | [], _ :: _ => by simp [PyData.eqvAll]
  | _ :: _, [] => by simp [PyData.eqvAll]
  | a :: r, b :: t => by
    simp only [List.map_cons, PyData.eqvAll, PyData.eqv, eqv_ints r t]
    by_cases h : a = b <;> by_cases h' : r = t <;> simp [h, h']
theorem eqd_ints {K : PySem.W.Frag} {H : Hp} {a b : Addr} {ns ms : List Int} {Q : VK} (ha : SqL K H a (ns.map V.int)) (hb : SqL K H b (ms.map V.int)) (q : Q (.bl (decide (ns = ms))) H) : rEqD K (.ref a) (.ref b) H Q := by
  refine ⟨_, _, .lst ha (dp_ints ns), .lst hb (dp_ints ms), PySem.W.ke_shaped_ints ns, PySem.W.ke_shaped_ints ms, ?_⟩
  have e : PyData.eqv (.list (ns.map PyData.int)) (.list (ms.map PyData.int)) = decide (ns = ms) := by
    rw [PyData.eqv]
    exact eqv_ints ns ms
  rw [e]
  exact q
/-! ### plans as data -/
inductive Pl
  | leaf (w : Str) (n : Int)
  | two (w : Str) (a b : Pl)
  | led (w : Str) (n : Int) (a : Pl)
def plen : Pl → Int
  | .leaf _ n => n
  | .two _ a b => plen a * plen b
  | .led _ n _ => n
def pdep : Pl → Nat
  | .leaf _ _ => 0
  | .two _ a b => 1 + max (pdep a) (pdep b)
  | .led _ _ a => 1 + pdep a
def Ok : Pl → Prop
  | .leaf _ n => 1 ≤ n ∧ n ≤ 1000
  | .two _ a b => Ok a ∧ Ok b ∧ 1 ≤ plen a * plen b ∧ plen a * plen b ≤ 1000
  | .led _ n a => 1 ≤ n ∧ n ≤ 1000 ∧ Ok a
theorem Ok.len : ∀ {p : Pl}, Ok p → 1 ≤ plen p ∧ plen p ≤ 1000
  | .leaf _ _, h => h
  | .two _ _ _, h => ⟨h.2.2.1, h.2.2.2⟩
  | .led _ _ _, h => ⟨h.1, h.2.1⟩
inductive PlAt (K : PySem.W.Frag) (H : Hp) : V → Pl → Prop
  | leaf {a : Addr} {w : Str} {n : Int} : (w = "plain" ∨ w = "short") → SqT K H a [.str w, .int n] → PlAt K H (.ref a) (.leaf w n)
  | two {a : Addr} {w : Str} {x y : V} {p q : Pl} : (w = "split" ∨ w = "parts") → SqT K H a [.str w, x, y] → PlAt K H x p → PlAt K H y q → PlAt K H (.ref a) (.two w p q)
  | led {a : Addr} {w : Str} {n : Int} {x : V} {p : Pl} : (w = "powers" ∨ w = "stretch") → SqT K H a [.str w, .int n, x] → PlAt K H x p → PlAt K H (.ref a) (.led w n p)
theorem PlAt.same {K : PySem.W.Frag} {H H' : Hp} {v : V} {p : Pl} (h : PlAt K H v p) (e : Same H H') : PlAt K H' v p := by
  induction h with
  | leaf a b => exact .leaf a (same_t e b)
  | two a b c d i1 i2 => exact .two a (same_t e b) i1 i2
  | led a b c i1 => exact .led a (same_t e b) i1
theorem PlAt.kd {K : PySem.W.Frag} {H : Hp} {v : V} {p : Pl} (h : PlAt K H v p) : Kd K H v "tuple" := by
  cases h with
  | leaf a b => exact .tup b
  | two a b c d => exact .tup b
  | led a b c => exact .tup b
theorem in_sp {w : Str} (h : w = "split" ∨ w = "parts") : inV (.str w) [.str "split", .str "parts"] = true := by
  rcases h with h | h <;> rw [h] <;> decide
theorem in_sp_leaf {w : Str} (h : w = "plain" ∨ w = "short") : inV (.str w) [.str "split", .str "parts"] = false := by
  rcases h with h | h <;> rw [h] <;> decide
theorem in_sp_led {w : Str} (h : w = "powers" ∨ w = "stretch") : inV (.str w) [.str "split", .str "parts"] = false := by
  rcases h with h | h <;> rw [h] <;> decide
abbrev s_plan_length : Stmt := top 1
abbrev N_plan_length : List Str := ["plan"]
abbrev P_plan_length : List Str := ["plan"]
theorem sc_plan_length : FnScope N_plan_length P_plan_length (defScope s_plan_length) := ⟨rfl, rfl, rfl, by decide +kernel, rfl, by decide +kernel, by decide +kernel⟩
def spPlen (K : PySem.W.Frag) (d : Nat) : Sp := fun vs H Q _ => ∃ (v : V) (p : Pl), vs = [v] ∧ PlAt K H v p ∧ pdep p ≤ d ∧ Ok p ∧ ∀ H', Same H H' → Q (.int (plen p)) H'
section
variable {P : Program} {w : World} {K : PySem.W.Frag} {mg : Str → Option Value} {base : Heap}
theorem plen_step {f : Addr} {fd : FuncData} {n : Nat} {spI : Sp} (D_plan_length : Df K mg "plan_length" s_plan_length P_plan_length f fd) (T : Blt mg) (G_plan_length : FnOk P w K mg base CX0 n f fd P_plan_length spI) (hG : ∀ m, n = m + 1 → spI = spPlen K m) : FnOk P w K mg base CX0 (n + 1) f fd P_plan_length (spPlen K n) := by
  have nd := sc_plan_length.nd
  refine D_plan_length.F.ok sc_plan_length (fun vs H Q E h => ?_) (fun cdv A outer s H vs Q E hr h => ?_)
  · obtain ⟨v, p, rfl, _⟩ := h
    rfl
  · obtain ⟨v, p, rfl, hp, hd, ok, q⟩ := h
    refine ⟨_, (pss_cons (ps_if (pt_cmpR (r := rIn K false) op_in_seq (pe_ix (r := rIxT K) ix_tup (pv 0) (pe_int) (fun _ _ => rfl)) (pe_tup (pa_cons (pe_str) (pa_cons (pe_str) pa_nil))) (by rfl)) (pss_one (ps_ret (pe_op op_mul (pe_call G_plan_length (hr.mono (by omega)) (by rfl) D_plan_length.g D_plan_length.F.kp D_plan_length.b .nil pass0 (pa_cons (pe_ix (r := rIxT K) ix_tup (pv 0) (pe_int) (fun _ _ => rfl)) pa_nil)) (pe_call G_plan_length (hr.mono (by omega)) (by rfl) D_plan_length.g D_plan_length.F.kp D_plan_length.b .nil pass0 (pa_cons (pe_ix (r := rIxT K) ix_tup (pv 0) (pe_int) (fun _ _ => rfl)) pa_nil))))) pss_nil)
      (pss_one (ps_ret (pe_ix (r := rIxT K) ix_tup (pv 0) (pe_int) (fun _ _ => rfl))))), ?_⟩
    cases hp with
    | leaf hw hs =>
      rename_i a wd n
      have hat0 : atI [V.str wd, V.int n] 0 = some (.str wd) := rfl
      walk_at "ev"
      intro p1 hp1
      generalize hG1 : upd _ p1 _ = H1
      obtain ⟨sm1, hq1⟩ := newO hG1 hp1
      have ht : SqL K H1 p1 [.str "split", .str "parts"] ∨ SqT K H1 p1 [.str "split", .str "parts"] := .inr (SqT.of hq1)
      have hs1 := same_t sm1 hs
      walk_at "ev"
      refine iteFe (in_sp_leaf hw) ?_
      walk_at "ev"
      exact q _ sm1
    | two hw hs hx hy =>
      rename_i a wd x y p1 p2
      cases n with
      | zero =>
        have : 1 + max (pdep p1) (pdep p2) ≤ 0 := hd
        omega
      | succ n =>
      have hS := hG n rfl
      subst hS
      have hd' : 1 + max (pdep p1) (pdep p2) ≤ n + 1 := hd
      obtain ⟨ok1, ok2, ok3, ok4⟩ := (show Ok p1 ∧ Ok p2 ∧ 1 ≤ plen p1 * plen p2 ∧ plen p1 * plen p2 ≤ 1000 from ok)
      walk_at "ev"
      intro t1 ht1
      generalize hG1 : upd _ t1 _ = H1
      obtain ⟨sm1, hq1⟩ := newO hG1 ht1
      have ht : SqL K H1 t1 [.str "split", .str "parts"] ∨ SqT K H1 t1 [.str "split", .str "parts"] := .inr (SqT.of hq1)
      have hs1 := same_t sm1 hs
      walk_at "ev"
      refine iteTe (in_sp hw) ?_
      have hx1 := hx.same sm1
      have hdx : pdep p1 ≤ n := by omega
      have hdy : pdep p2 ≤ n := by omega
      walk_at "ev"
      intro H2 sm2
      have hs2 := same_t sm2 hs1
      have hy2 := (hy.same sm1).same sm2
      walk_at "ev"
      intro H3 sm3
      have l1 := ok1.len
      have hcm : CMul (plen p1) (plen p2) := .inl ⟨by omega, by omega⟩
      walk_at "ev"
      exact q _ (sm1.trans (sm2.trans sm3))
    | led hw hs hx =>
      rename_i a wd m x p1
      walk_at "ev"
      intro t1 ht1
      generalize hG1 : upd _ t1 _ = H1
      obtain ⟨sm1, hq1⟩ := newO hG1 ht1
      have ht : SqL K H1 t1 [.str "split", .str "parts"] ∨ SqT K H1 t1 [.str "split", .str "parts"] := .inr (SqT.of hq1)
      have hs1 := same_t sm1 hs
      walk_at "ev"
      refine iteFe (in_sp_led hw) ?_
      walk_at "ev"
      exact q _ sm1
theorem ok_plen {f : Addr} {fd : FuncData} (D_plan_length : Df K mg "plan_length" s_plan_length P_plan_length f fd) (T : Blt mg) : ∀ n : Nat, FnOk P w K mg base CX0 (n + 1) f fd P_plan_length (spPlen K n)
  | 0 => plen_step (spI := fun _ _ _ _ => False) D_plan_length T ⟨fun _ _ _ _ h => h.elim, fun _ _ _ _ _ _ _ _ _ _ _ _ _ h => h.elim⟩ (fun m h => by omega)
  | n + 1 => plen_step D_plan_length T (ok_plen D_plan_length T n) (fun m h => by cases h; rfl)
end
/-! ### depths -/
inductive PlAll (K : PySem.W.Frag) (H : Hp) : List V → List Pl → Prop
  | nil : PlAll K H [] []
  | cons {v : V} {p : Pl} {vs : List V} {ps : List Pl} : PlAt K H v p → PlAll K H vs ps → PlAll K H (v :: vs) (p :: ps)
theorem PlAll.same {K : PySem.W.Frag} {H H' : Hp} {vs : List V} {ps : List Pl} (h : PlAll K H vs ps) (e : Same H H') : PlAll K H' vs ps := by
  induction h with
  | nil => exact .nil
  | cons a b i => exact .cons (a.same e) i
theorem PlAll.len {K : PySem.W.Frag} {H : Hp} {vs : List V} {ps : List Pl} (h : PlAll K H vs ps) : vs.length = ps.length := by
  induction h with
  | nil => rfl
  | cons a b i => rw [List.length_cons, List.length_cons, i]
theorem PlAll.get {K : PySem.W.Frag} {H : Hp} : ∀ {vs : List V} {ps : List Pl} {i : Nat} {v : V}, PlAll K H vs ps → vs[i]? = some v → ∃ p, ps[i]? = some p ∧ PlAt K H v p
  | _, _, _, _, .nil, h => by simp at h
  | _, _, 0, _, .cons (p := p) a b, h => ⟨p, rfl, by
      have e := Option.some.inj h
      rw [← e]
      exact a⟩
  | _, _, i + 1, _, .cons a b, h => PlAll.get (i := i) b h
theorem PlAt.mut {K : PySem.W.Frag} {H : Hp} {v : V} {p : Pl} {a : Addr} {xs : List V} {o : HO} (h : PlAt K H v p) (ha : H a = some (.lst xs)) : PlAt K (upd H a o) v p := by
  have go : ∀ {b : Addr} {ys : List V}, SqT K H b ys → SqT K (upd H a o) b ys := fun {b ys} e => by
    rcases e with (e | ⟨u, e⟩) | e
    · refine .inl (.inl ?_)
      rw [upd_ne (ne_of e ha (by intro q; cases q))]
      exact e
    · refine .inl (.inr ⟨u, ?_⟩)
      rw [upd_ne (ne_of e ha (by intro q; cases q))]
      exact e
    · exact .inr e
  induction h with
  | leaf a b => exact .leaf a (go b)
  | two a b c d i1 i2 => exact .two a (go b) i1 i2
  | led a b c i1 => exact .led a (go b) i1
theorem PlAll.mut {K : PySem.W.Frag} {H : Hp} {vs : List V} {ps : List Pl} {a : Addr} {xs : List V} {o : HO} (h : PlAll K H vs ps) (ha : H a = some (.lst xs)) : PlAll K (upd H a o) vs ps := by
  induction h with
  | nil => exact .nil
  | cons x y i => exact .cons (x.mut ha) i
def inn : Pl → List Pl
  | .leaf _ _ => []
  | .two _ a b => [a, b]
  | .led _ _ a => [a]
theorem inn_dep {p q : Pl} (h : q ∈ inn p) : pdep q + 1 ≤ pdep p := by
  cases p with
  | leaf w n => simp [inn] at h
  | two w a b =>
    have h' : q = a ∨ q = b := by simpa [inn] using h
    show pdep q + 1 ≤ 1 + max (pdep a) (pdep b)
    rcases h' with h | h <;> rw [h] <;> omega
  | led w n a =>
    have h' : q = a := by simpa [inn] using h
    show pdep q + 1 ≤ 1 + pdep a
    rw [h']
    omega
theorem inn_max {p : Pl} {m : Int} (h : m ∈ (inn p).map fun q => (pdep q : Int)) (hm : ∀ y ∈ (inn p).map (fun q => (pdep q : Int)), y ≤ m) : 1 + m = (pdep p : Int) := by
  cases p with
  | leaf w n => simp [inn] at h
  | two w a b =>
    have h' : m = (pdep a : Int) ∨ m = (pdep b : Int) := by simpa [inn] using h
    have h1 := hm (pdep a) (by simp [inn])
    have h2 := hm (pdep b) (by simp [inn])
    show 1 + m = ((1 + max (pdep a) (pdep b) : Nat) : Int)
    omega
  | led w n a =>
    have h' : m = (pdep a : Int) := by simpa [inn] using h
    show 1 + m = ((1 + pdep a : Nat) : Int)
    omega
def isT : V → Bool
  | .ref _ => true
  | _ => false
abbrev s_inner_plans : Stmt := top 2
abbrev N_inner_plans : List Str := ["plan", "part"]
abbrev P_inner_plans : List Str := ["plan"]
theorem sc_inner_plans : FnScope N_inner_plans P_inner_plans (defScope s_inner_plans) := ⟨rfl, rfl, rfl, by decide +kernel, rfl, by decide +kernel, by decide +kernel⟩
def spInner (K : PySem.W.Frag) : Sp := fun vs H Q _ => ∃ (v : V) (p : Pl), vs = [v] ∧ PlAt K H v p ∧ ∀ xs l H', H l = none → Same H H' → H' l = some (.lst xs) → PlAll K H' xs (inn p) → Q (.ref l) H'
section
variable {P : Program} {w : World} {K : PySem.W.Frag} {mg : Str → Option Value} {base : Heap}
theorem ok_inner {f : Addr} {fd : FuncData} {k : Nat} (F : Fun K "inner_plans" "inner_plans" s_inner_plans f fd) (T : Blt mg) : FnOk P w K mg base CX0 (k + 1) f fd P_inner_plans (spInner K) := by
  have nd := sc_inner_plans.nd
  refine F.ok sc_inner_plans (fun vs H Q E h => ?_) (fun cdv A outer s H vs Q E hr h => ?_)
  · obtain ⟨v, p, rfl, _⟩ := h
    rfl
  · obtain ⟨v, p, rfl, hp, q⟩ := h
    refine ⟨_, (pss_one (ps_ret (pe_lc (own := [("part", 1)]) (g := gName 1) (by rfl) nd (pi_tup (pe_slice (r := rSlT K) sl_tup (pv 0) (po_some (pe_int)) po_none)) (blkOk_by (own := [("part", 1)]) (N := N_inner_plans) (sc := defScope s_inner_plans) (by decide +kernel)) (fun _ _ _ _ _ => (pg_name (i := 1) nd rfl (Or.inl rfl))) (fun _ _ _ _ _ => pts_one (pt_val (pe_callB (r := rIsi K) call_isi (by rfl) T.b_isinstance (by decide +kernel) (pa_cons (pv 1) (pa_cons (pe_bltn (v := .ty "tuple") (by rfl) T.b_tuple (by decide +kernel) rfl) pa_nil))))) (fun _ _ _ _ _ => (pv 1))))), ?_⟩
    have key : ∃ a ys zs, v = .ref a ∧ SqT K H a ys ∧ cutV ys (some 1) none = zs ∧ (¬ (HT.sIx ys.length 0 (some 1) = 0 ∧ HT.sIx ys.length ys.length none = ys.length)) ∧ zs.length ≤ 2 ∧ (∀ x ∈ zs, ∃ t, Kd K H x t ∧ tis t "tuple" = isT x) ∧ PlAll K H (zs.filter isT) (inn p) := by
      cases hp with
      | leaf hw hs =>
        refine ⟨_, _, _, rfl, hs, rfl, (fun z => absurd z.1 (show ¬ HT.sIx 2 0 (some 1) = 0 by decide)), (show 1 ≤ 2 by decide), ?_, ?_⟩
        · intro x hx
          have e : x = .int _ := List.mem_singleton.mp hx
          rw [e]
          exact ⟨_, .int _, (show tis "int" "tuple" = false by decide)⟩
        · exact .nil
      | two hw hs hx hy =>
        rename_i a wd x y p1 p2
        refine ⟨_, _, [x, y], rfl, hs, rfl, (fun z => absurd z.1 (show ¬ HT.sIx 3 0 (some 1) = 0 by decide)), (show 2 ≤ 2 by decide), ?_, ?_⟩
        · intro z hz
          have e : z = x ∨ z = y := by simpa using hz
          have tt : tis "tuple" "tuple" = true := by decide
          rcases e with e | e
          · rw [e]
            refine ⟨_, hx.kd, ?_⟩
            cases hx <;> exact tt
          · rw [e]
            refine ⟨_, hy.kd, ?_⟩
            cases hy <;> exact tt
        · have e1 : isT x = true := by cases hx <;> rfl
          have e2 : isT y = true := by cases hy <;> rfl
          have e : [x, y].filter isT = [x, y] := by simp [e1, e2]
          rw [e]
          exact .cons hx (.cons hy .nil)
      | led hw hs hx =>
        rename_i a wd m x p1
        refine ⟨_, _, [.int m, x], rfl, hs, rfl, (fun z => absurd z.1 (show ¬ HT.sIx 3 0 (some 1) = 0 by decide)), (show 2 ≤ 2 by decide), ?_, ?_⟩
        · intro z hz
          have e : z = .int m ∨ z = x := by simpa using hz
          rcases e with e | e
          · rw [e]
            exact ⟨_, .int _, (show tis "int" "tuple" = false by decide)⟩
          · rw [e]
            refine ⟨_, hx.kd, ?_⟩
            have tt : tis "tuple" "tuple" = true := by decide
            cases hx <;> exact tt
        · have e1 : isT x = true := by cases hx <;> rfl
          have e2 : isT (.int m) = false := rfl
          have e : [.int m, x].filter isT = [x] := by simp [e1, e2]
          rw [e]
          exact .cons hx .nil
    obtain ⟨a, ys, zs, rfl, hs, hcut, hnw, hzl, hkd, hall⟩ := key
    walk_at "ev"
    intro t1 ht1
    rw [hcut]
    generalize hG1 : upd _ t1 _ = H1
    obtain ⟨sm1, hq1⟩ := newO hG1 ht1
    have ht : SqT K H1 t1 zs := SqT.of hq1
    have ht' : ∃ xs, SqT K H1 t1 xs := ⟨_, ht⟩
    walk_at "ev"
    intro D hD
    refine lc_tup (K := K) (a := t1) (xs := zs) (fun i H' => Hold (Same H1 H' ∧ H' D = some (.lst ((zs.take i).filter isT)))) (.mk ⟨same_new hD, upd_same⟩) ?_ ?_ ?_
    · intro i H2 hi hP
      obtain ⟨sm2, hD2⟩ := hP.un
      exact same_t sm2 ht
    · intro i x H2 hx hP
      obtain ⟨sm2, hD2⟩ := hP.un
      obtain ⟨t, kd0, et⟩ := hkd x (List.mem_of_getElem? hx)
      have kd := (kd0.same sm1).same sm2
      have ty := kd.ty
      obtain ⟨k1, k2, k3, k4, k5⟩ := kd.kit
      rw [et] at k5
      have hfl : ((zs.take i).filter isT).length < sizeLine := by
        refine szm (Nat.le_trans (List.length_filter_le _ _) ?_)
        rw [List.length_take]
        omega
      walk_at "ev"
      refine ite2 (fun e => ?_) (fun e => ?_)
      · walk_at "ev"
        refine .mk ⟨same_mut sm2 hD, ?_⟩
        rw [upd_same, List.take_add_one, hx, List.filter_append]
        simp [e]
      · refine .mk ⟨sm2, ?_⟩
        rw [hD2, List.take_add_one, hx, List.filter_append]
        simp [e]
    · intro H2 hP
      obtain ⟨sm2, hD2⟩ := hP.un
      rw [List.take_length] at hD2
      exact q _ D H2 (sm1.free hD) (sm1.trans sm2) hD2 ((hall.same sm1).same sm2)
end
abbrev s__law_shares : Stmt := top 10
abbrev N__law_shares : List Str := ["_law_one", "_law_two", "_law_turn"]
abbrev P__law_shares : List Str := ["_law_one", "_law_two"]
theorem sc__law_shares : FnScope N__law_shares P__law_shares (defScope s__law_shares) := ⟨rfl, rfl, rfl, by decide +kernel, rfl, by decide +kernel, by decide +kernel⟩
def spShares : Sp := fun vs H Q _ => ∃ (x y : Int), vs = [.int x, .int y] ∧ 0 ≤ x ∧ 0 ≤ y ∧ ∀ b : Bool, Q (.bl b) H
section
variable {P : Program} {w : World} {K : PySem.W.Frag} {mg : Str → Option Value} {base : Heap}
theorem ok_shares0 {f : Addr} {fd : FuncData} {k : Nat} (F : Fun K "_law_shares" "_law_shares" s__law_shares f fd) (T : Blt mg) : FnOk P w K mg base CX0 (k + 1) f fd P__law_shares spShares := by
  have nd := sc__law_shares.nd
  refine F.ok sc__law_shares (fun vs H Q E h => ?_) (fun cdv A outer s H vs Q E hr h => ?_)
  · obtain ⟨x, y, rfl, _⟩ := h
    rfl
  · obtain ⟨x, y, rfl, hx, hy, q⟩ := h
    refine ⟨_, (pss_cons (ps_for PassesOwn.never rfl (pi_range1 (by rfl) T.b_range (pa_cons (pe_int) pa_nil)) (pg_name (i := 2) nd rfl (Or.inl rfl))
      (pss_cons (ps_if (pt_cmpR op_eq (pv 1) (pe_int) (nomark _)) (pss_one (ps_ret (pe_cmpR op_gt (pv 0) (pe_int) (nomark _)))) pss_nil)
      (pss_one (ps_par (i := 0) (j := 1) (by rfl) nd rfl rfl (by decide) rfl rfl (pa_cons (pv 1) (pa_cons (pe_op op_mod (pv 0) (pv 1)) pa_nil)) (by rfl)))))
      (pss_one (ps_ret (pe_bl)))), ?_⟩
    walk_at "ev"
    refine for_range (lo := 0) (n := (64 : Int).toNat) (fun i σ H' => Hold (∃ (x y : Int) (s2 : Option V), σ = [some (.int x), some (.int y), s2] ∧ 0 ≤ x ∧ 0 ≤ y ∧ H' = H)) (.mk ⟨x, y, none, rfl, hx, hy, rfl⟩) ?_ ?_
    · intro i σ H' hi hP
      obtain ⟨x, y, s2, rfl, hx, hy, rfl⟩ := hP.un
      walk_at "ev"
      refine ite2 (fun e => ?_) (fun e => ?_)
      · walk_at "ev"
        exact q _
      · have e1 : y ≠ 0 := fun z => e (decide_eq_true (congrArg V.int z))
        walk_at "ev"
        exact .mk ⟨_, _, _, rfl, hy, Int.emod_nonneg _ e1, rfl⟩
    · intro σ H' hP
      obtain ⟨x, y, s2, rfl, hx, hy, rfl⟩ := hP.un
      walk_at "ev"
      exact q _
end
abbrev s__law_is_plain_prime : Stmt := top 11
abbrev N__law_is_plain_prime : List Str := ["_law_number", "_law_small", "_law_part"]
abbrev P__law_is_plain_prime : List Str := ["_law_number"]
theorem sc__law_is_plain_prime : FnScope N__law_is_plain_prime P__law_is_plain_prime (defScope s__law_is_plain_prime) := ⟨rfl, rfl, rfl, by decide +kernel, rfl, by decide +kernel, by decide +kernel⟩
def spPlainPrime : Sp := fun vs H Q _ => ∃ (n : Int), vs = [.int n] ∧ 0 ≤ n ∧ n ≤ 1000 ∧ ∀ (b : Bool) H', Same H H' → Q (.bl b) H'
section
variable {P : Program} {w : World} {K : PySem.W.Frag} {mg : Str → Option Value} {base : Heap}
theorem ok_plainprime {f : Addr} {fd : FuncData} {k : Nat} (F : Fun K "_law_is_plain_prime" "_law_is_plain_prime" s__law_is_plain_prime f fd) (T : Blt mg) : FnOk P w K mg base CX0 (k + 1) f fd P__law_is_plain_prime spPlainPrime := by
  have nd := sc__law_is_plain_prime.nd
  refine F.ok sc__law_is_plain_prime (fun vs H Q E h => ?_) (fun cdv A outer s H vs Q E hr h => ?_)
  · obtain ⟨n, rfl, _⟩ := h
    rfl
  · obtain ⟨n, rfl, h0, h1, q⟩ := h
    refine ⟨_, (pss_cons (ps_setLc (i := 1) (own := [("_law_part", 2)]) (g := gName 2) (by rfl) nd rfl rfl (sw_true rfl rfl rfl (by decide +kernel)) (pi_range2 (by rfl) T.b_range (pa_cons (pe_int) (pa_cons (pv 0) pa_nil))) (blkOk_by (own := [("_law_part", 2)]) (N := N__law_is_plain_prime) (sc := defScope s__law_is_plain_prime) (by decide +kernel)) (fun _ _ _ _ _ => (pg_name (i := 2) nd rfl (Or.inl rfl))) (fun _ _ _ _ _ => pts_one (pt_cmpR op_le (pe_op op_mul (pv 2) (pv 2)) (pv 0) (nomark _))) (fun _ _ _ _ _ => (pv 2)))
      (pss_one (ps_ret (pe_and (pe_cmpR op_gt (pv 0) (pe_int) (nomark _)) (pe_one (pe_callB (r := rAll K) (cr_all rfl) (by rfl) T.b_all (by decide +kernel) (pa_cons (pe_lc (own := [("_law_part", 2)]) (g := gName 2) (by rfl) nd (pi_list (pv 1)) (blkOk_by (own := [("_law_part", 2)]) (N := N__law_is_plain_prime) (sc := defScope s__law_is_plain_prime) (by decide +kernel)) (fun _ _ _ _ _ => (pg_name (i := 2) nd rfl (Or.inl rfl))) (fun _ _ _ _ _ => pts_nil) (fun _ _ _ _ _ => (pe_cmpR op_gt (pe_op op_mod (pv 0) (pv 2)) (pe_int) (nomark _)))) pa_nil))))))), ?_⟩
    walk_at "ev"
    intro D hD
    refine lc_range (lo := 2) (n := _) (fun i H' => Hold (∃ ms : List Int, Same H H' ∧ H' D = some (.lst (ms.map V.int)) ∧ ms.length ≤ i ∧ ∀ m ∈ ms, 2 ≤ m)) (.mk ⟨[], same_new hD, upd_same, Nat.zero_le _, by simp⟩) ?_ ?_
    · intro i H2 hi hP
      obtain ⟨ms, sm2, hD2, hl, hm⟩ := hP.un
      have hcm : CMul (2 + (i : Int)) (2 + i) := .inl ⟨by omega, by omega⟩
      have hfl : (ms.map V.int).length < sizeLine := by
        rw [List.length_map]
        exact szm (by omega)
      walk_at "ev"
      refine ite2 (fun e => ?_) (fun e => ?_)
      · walk_at "ev"
        refine .mk ⟨ms ++ [2 + (i : Int)], same_mut sm2 hD, ?_, ?_, ?_⟩
        · rw [upd_same, List.map_append]
          rfl
        · simp
          omega
        · intro m hmm
          rcases List.mem_append.mp hmm with h | h
          · exact hm m h
          · have e : m = 2 + (i : Int) := by simpa using h
            omega
      · exact .mk ⟨ms, sm2, hD2, by omega, hm⟩
    · intro H2 hP
      obtain ⟨ms, sm2, hD2, hl, hm⟩ := hP.un
      have hL : SqL K H2 D (ms.map V.int) := SqL.of hD2
      have hL' : ∃ xs, SqL K H2 D xs := ⟨_, hL⟩
      walk_at "ev"
      refine ite2 (fun e => ?_) (fun e => ?_)
      · walk_at "ev"
        intro D3 hD3
        refine lc_list (K := K) (a := D) (xs := ms.map V.int) (fun i H' => Hold (∃ bs : List Bool, Same H2 H' ∧ H' D3 = some (.lst (bs.map V.bl)) ∧ bs.length = i)) (.mk ⟨[], same_new hD3, upd_same, rfl⟩) ?_ ?_ ?_
        · intro i H3 hi hP3
          obtain ⟨bs, sm3, hD4, hl4⟩ := hP3.un
          exact sm3.seq hL
        · intro i x H3 hx hP3
          obtain ⟨bs, sm3, hD4, hl4⟩ := hP3.un
          obtain ⟨m, hmm, rfl⟩ := int_mem (List.mem_of_getElem? hx)
          have := hm m hmm
          have hil : i < (ms.map V.int).length := (List.getElem?_eq_some_iff.mp hx).1
          rw [List.length_map] at hil
          walk_at "ev"
          refine .mk ⟨bs ++ [decide (0 < n % m)], same_mut sm3 hD3, ?_, ?_⟩
          · rw [upd_same, List.map_append]
            rfl
          · simp [hl4]
        · intro H3 hP3
          obtain ⟨bs, sm3, hD4, hl4⟩ := hP3.un
          exact ⟨D3, bs, rfl, SqL.of hD4, q _ _ (sm2.trans sm3)⟩
      · exact q _ _ sm2
end
abbrev s__law_length_of : Stmt := top 12
abbrev N__law_length_of : List Str := ["_law_thing"]
abbrev P__law_length_of : List Str := ["_law_thing"]
theorem sc__law_length_of : FnScope N__law_length_of P__law_length_of (defScope s__law_length_of) := ⟨rfl, rfl, rfl, by decide +kernel, rfl, by decide +kernel, by decide +kernel⟩
section
variable {P : Program} {w : World} {K : PySem.W.Frag} {mg : Str → Option Value} {base : Heap}
theorem lof_step {f : Addr} {fd : FuncData} {n : Nat} {spI : Sp} (D__law_length_of : Df K mg "_law_length_of" s__law_length_of P__law_length_of f fd) (T : Blt mg) (G__law_length_of : FnOk P w K mg base CX0 n f fd P__law_length_of spI) (hG : ∀ m, n = m + 1 → spI = spPlen K m) : FnOk P w K mg base CX0 (n + 1) f fd P__law_length_of (spPlen K n) := by
  have nd := sc__law_length_of.nd
  refine D__law_length_of.F.ok sc__law_length_of (fun vs H Q E h => ?_) (fun cdv A outer s H vs Q E hr h => ?_)
  · obtain ⟨v, p, rfl, _⟩ := h
    rfl
  · obtain ⟨v, p, rfl, hp, hd, ok, q⟩ := h
    refine ⟨_, (pss_cons (ps_if (pt_cmpR (r := rIn K false) op_in_seq (pe_ix (r := rIxT K) ix_tup (pv 0) (pe_int) (fun _ _ => rfl)) (pe_tup (pa_cons (pe_str) (pa_cons (pe_str) pa_nil))) (by rfl)) (pss_one (ps_ret (pe_op op_mul (pe_call G__law_length_of (hr.mono (by omega)) (by rfl) D__law_length_of.g D__law_length_of.F.kp D__law_length_of.b .nil pass0 (pa_cons (pe_ix (r := rIxT K) ix_tup (pv 0) (pe_int) (fun _ _ => rfl)) pa_nil)) (pe_call G__law_length_of (hr.mono (by omega)) (by rfl) D__law_length_of.g D__law_length_of.F.kp D__law_length_of.b .nil pass0 (pa_cons (pe_ix (r := rIxT K) ix_tup (pv 0) (pe_int) (fun _ _ => rfl)) pa_nil))))) pss_nil)
      (pss_one (ps_ret (pe_ix (r := rIxT K) ix_tup (pv 0) (pe_int) (fun _ _ => rfl))))), ?_⟩
    cases hp with
    | leaf hw hs =>
      rename_i a wd n
      have hat0 : atI [V.str wd, V.int n] 0 = some (.str wd) := rfl
      walk_at "ev"
      intro p1 hp1
      generalize hG1 : upd _ p1 _ = H1
      obtain ⟨sm1, hq1⟩ := newO hG1 hp1
      have ht : SqL K H1 p1 [.str "split", .str "parts"] ∨ SqT K H1 p1 [.str "split", .str "parts"] := .inr (SqT.of hq1)
      have hs1 := same_t sm1 hs
      walk_at "ev"
      refine iteFe (in_sp_leaf hw) ?_
      walk_at "ev"
      exact q _ sm1
    | two hw hs hx hy =>
      rename_i a wd x y p1 p2
      cases n with
      | zero =>
        have : 1 + max (pdep p1) (pdep p2) ≤ 0 := hd
        omega
      | succ n =>
      have hS := hG n rfl
      subst hS
      have hd' : 1 + max (pdep p1) (pdep p2) ≤ n + 1 := hd
      obtain ⟨ok1, ok2, ok3, ok4⟩ := (show Ok p1 ∧ Ok p2 ∧ 1 ≤ plen p1 * plen p2 ∧ plen p1 * plen p2 ≤ 1000 from ok)
      walk_at "ev"
      intro t1 ht1
      generalize hG1 : upd _ t1 _ = H1
      obtain ⟨sm1, hq1⟩ := newO hG1 ht1
      have ht : SqL K H1 t1 [.str "split", .str "parts"] ∨ SqT K H1 t1 [.str "split", .str "parts"] := .inr (SqT.of hq1)
      have hs1 := same_t sm1 hs
      walk_at "ev"
      refine iteTe (in_sp hw) ?_
      have hx1 := hx.same sm1
      have hdx : pdep p1 ≤ n := by omega
      have hdy : pdep p2 ≤ n := by omega
      walk_at "ev"
      intro H2 sm2
      have hs2 := same_t sm2 hs1
      have hy2 := (hy.same sm1).same sm2
      walk_at "ev"
      intro H3 sm3
      have l1 := ok1.len
      have hcm : CMul (plen p1) (plen p2) := .inl ⟨by omega, by omega⟩
      walk_at "ev"
      exact q _ (sm1.trans (sm2.trans sm3))
    | led hw hs hx =>
      rename_i a wd m x p1
      walk_at "ev"
      intro t1 ht1
      generalize hG1 : upd _ t1 _ = H1
      obtain ⟨sm1, hq1⟩ := newO hG1 ht1
      have ht : SqL K H1 t1 [.str "split", .str "parts"] ∨ SqT K H1 t1 [.str "split", .str "parts"] := .inr (SqT.of hq1)
      have hs1 := same_t sm1 hs
      walk_at "ev"
      refine iteFe (in_sp_led hw) ?_
      walk_at "ev"
      exact q _ sm1
theorem ok_lof {f : Addr} {fd : FuncData} (D__law_length_of : Df K mg "_law_length_of" s__law_length_of P__law_length_of f fd) (T : Blt mg) : ∀ n : Nat, FnOk P w K mg base CX0 (n + 1) f fd P__law_length_of (spPlen K n)
  | 0 => lof_step (spI := fun _ _ _ _ => False) D__law_length_of T ⟨fun _ _ _ _ h => h.elim, fun _ _ _ _ _ _ _ _ _ _ _ _ _ h => h.elim⟩ (fun m h => by omega)
  | n + 1 => lof_step D__law_length_of T (ok_lof D__law_length_of T n) (fun m h => by cases h; rfl)
end
/-! ### the lengths in a plan -/
def lens : Pl → List Int
  | .leaf _ n => [n]
  | .two _ a b => plen a * plen b :: (lens a ++ lens b)
  | .led _ n a => n :: lens a
theorem lens_len : ∀ p : Pl, (lens p).length + 1 ≤ 2 ^ (pdep p + 1)
  | .leaf _ _ => (show 1 + 1 ≤ 2 ^ (0 + 1) by decide)
  | .two w a b => by
    have h1 := lens_len a
    have h2 := lens_len b
    have e : pdep (.two w a b) = 1 + max (pdep a) (pdep b) := rfl
    have m1 : 2 ^ (pdep a + 1) ≤ 2 ^ (max (pdep a) (pdep b) + 1) := Nat.pow_le_pow_right (by decide) (by omega)
    have m2 : 2 ^ (pdep b + 1) ≤ 2 ^ (max (pdep a) (pdep b) + 1) := Nat.pow_le_pow_right (by decide) (by omega)
    have e2 : 2 ^ (1 + max (pdep a) (pdep b) + 1) = 2 * 2 ^ (max (pdep a) (pdep b) + 1) := by
      rw [show 1 + max (pdep a) (pdep b) + 1 = (max (pdep a) (pdep b) + 1) + 1 by omega, Nat.pow_succ, Nat.mul_comm]
    rw [e, e2]
    show (lens a ++ lens b).length + 1 + 1 ≤ _
    rw [List.length_append]
    omega
  | .led w n a => by
    have h1 := lens_len a
    have e : pdep (.led w n a) = 1 + pdep a := rfl
    have e2 : 2 ^ (1 + pdep a + 1) = 2 * 2 ^ (pdep a + 1) := by
      rw [show 1 + pdep a + 1 = (pdep a + 1) + 1 by omega, Nat.pow_succ, Nat.mul_comm]
    rw [e, e2]
    show (lens a).length + 1 + 1 ≤ _
    omega
theorem lens_63 {p : Pl} (h : pdep p ≤ 5) : (lens p).length ≤ 63 := by
  have h1 := lens_len p
  have h2 : 2 ^ (pdep p + 1) ≤ 2 ^ 6 := Nat.pow_le_pow_right (by decide) (by omega)
  have h3 : (2 : Nat) ^ 6 = 64 := by decide
  omega
theorem lens_inn : ∀ p : Pl, lens p = plen p :: ((inn p).map lens).flatten
  | .leaf _ _ => rfl
  | .two _ a b => by simp [lens, inn, plen]
  | .led _ _ a => by simp [lens, inn, plen]
theorem inn_ok {p q : Pl} (h : Ok p) (hq : q ∈ inn p) : Ok q := by
  cases p with
  | leaf w n => simp [inn] at hq
  | two w a b =>
    obtain ⟨h1, h2, _⟩ := h
    have h' : q = a ∨ q = b := by simpa [inn] using hq
    rcases h' with e | e <;> rw [e] <;> assumption
  | led w n a =>
    obtain ⟨_, _, h1⟩ := h
    have h' : q = a := by simpa [inn] using hq
    rw [h']
    exact h1
theorem srt_ext : ∀ {l m : List Int}, l.Pairwise (· < ·) → m.Pairwise (· < ·) → (∀ k, k ∈ l ↔ k ∈ m) → l = m
  | [], [], _, _, _ => rfl
  | [], y :: m, _, _, h => by
    have := (h y).mpr List.mem_cons_self
    simp at this
  | x :: l, [], _, _, h => by
    have := (h x).mp List.mem_cons_self
    simp at this
  | x :: l, y :: m, hl, hm, h => by
    obtain ⟨hx, hl'⟩ := List.pairwise_cons.mp hl
    obtain ⟨hy, hm'⟩ := List.pairwise_cons.mp hm
    have e : x = y := by
      have a1 := (h x).mp List.mem_cons_self
      have a2 := (h y).mpr List.mem_cons_self
      rcases List.mem_cons.mp a1 with e | e
      · exact e
      · rcases List.mem_cons.mp a2 with e2 | e2
        · exact e2.symm
        · have := hy x e
          have := hx y e2
          omega
    subst e
    rw [srt_ext hl' hm' fun k => ?_]
    constructor
    · intro hk
      rcases List.mem_cons.mp ((h k).mp (List.mem_cons_of_mem _ hk)) with e | e
      · have := hx k hk
        omega
      · exact e
    · intro hk
      rcases List.mem_cons.mp ((h k).mpr (List.mem_cons_of_mem _ hk)) with e | e
      · have := hy k hk
        omega
      · exact e
abbrev s_lengths_in : Stmt := top 3
abbrev N_lengths_in : List Str := ["plan", "found", "inner"]
abbrev P_lengths_in : List Str := ["plan"]
theorem sc_lengths_in : FnScope N_lengths_in P_lengths_in (defScope s_lengths_in) := ⟨rfl, rfl, rfl, by decide +kernel, rfl, by decide +kernel, by decide +kernel⟩
def spLens (K : PySem.W.Frag) (d : Nat) : Sp := fun vs H Q _ => ∃ (v : V) (p : Pl), vs = [v] ∧ PlAt K H v p ∧ pdep p ≤ d ∧ d ≤ 5 ∧ Ok p ∧ ∀ l H', H l = none → Same H H' → H' l = some (.lst ((lens p).map V.int)) → Q (.ref l) H'
section
variable {P : Program} {w : World} {K : PySem.W.Frag} {mg : Str → Option Value} {base : Heap}
theorem lens_step {f f1 f2 : Addr} {fd d1 d2 : FuncData} {n : Nat} {spI : Sp} (D_lengths_in : Df K mg "lengths_in" s_lengths_in P_lengths_in f fd) (D_plan_length : Df K mg "plan_length" s_plan_length P_plan_length f1 d1) (D_inner_plans : Df K mg "inner_plans" s_inner_plans P_inner_plans f2 d2) (T : Blt mg) (G_lengths_in : FnOk P w K mg base CX0 (n + 1) f fd P_lengths_in spI) (hG : ∀ m, n = m + 1 → spI = spLens K m) : FnOk P w K mg base CX0 (n + 2) f fd P_lengths_in (spLens K n) := by
  have G_plan_length : FnOk P w K mg base CX0 (n + 1) f1 d1 P_plan_length (spPlen K n) := ok_plen D_plan_length T n
  have G_inner_plans : FnOk P w K mg base CX0 1 f2 d2 P_inner_plans (spInner K) := ok_inner D_inner_plans.F T
  have nd := sc_lengths_in.nd
  refine D_lengths_in.F.ok sc_lengths_in (fun vs H Q E h => ?_) (fun cdv A outer s H vs Q E hr h => ?_)
  · obtain ⟨v, p, rfl, _⟩ := h
    rfl
  · obtain ⟨v, p, rfl, hp, hd, hd5, ok, q⟩ := h
    refine ⟨_, (pss_cons (ps_set (i := 1) nd rfl (Or.inl rfl) (pe_lst (pa_cons (pe_call G_plan_length (hr.mono (by omega)) (by rfl) D_plan_length.g D_plan_length.F.kp D_plan_length.b .nil pass0 (pa_cons (pv 0) pa_nil)) pa_nil)))
      (pss_cons (ps_for PassesOwn.never rfl (pi_list (pe_call G_inner_plans (hr.mono (by omega)) (by rfl) D_inner_plans.g D_inner_plans.F.kp D_inner_plans.b .nil pass0 (pa_cons (pv 0) pa_nil))) (pg_name (i := 2) nd rfl (Or.inl rfl))
      (pss_one (ps_expr (pe_bm PySem.F.plainAttrs_list PySem.F.slot_list_extend PySem.F.type_list_extend mt_extend (pv 1) (pa_cons (pe_call G_lengths_in (hr.mono (by omega)) (by rfl) D_lengths_in.g D_lengths_in.F.kp D_lengths_in.b .nil pass0 (pa_cons (pv 2) pa_nil)) pa_nil)))))
      (pss_one (ps_ret (pv 1))))), ?_⟩
    walk_at "ev"
    intro H1 sm1
    walk_at "ev"
    intro l hl
    generalize hG1 : upd _ l _ = H2
    obtain ⟨sm2, hq2⟩ := newO hG1 hl
    have hlf : H l = none := sm1.free hl
    have hp2 := (hp.same sm1).same sm2
    walk_at "ev"
    intro xs li H3 hli sm3 hq3 hall
    have hL3 : SqL K H3 li xs := SqL.of hq3
    have hL3' : ∃ xs, SqL K H3 li xs := ⟨_, hL3⟩
    have hlen := hall.len
    have nll : li ≠ l := (ne_of_none hq2 hli).symm
    have hlif : H li = none := (sm1.trans sm2).free hli
    walk_at "ev"
    refine for_list (K := K) (a := li) (xs := xs) (fun i σ H' => Hold (∃ s2, σ = [some v, some (.ref l), s2] ∧ Same H H' ∧ H' li = some (.lst xs) ∧ PlAll K H' xs (inn p) ∧ H' l = some (.lst ((plen p :: (((inn p).take i).map lens).flatten).map V.int)))) (.mk ⟨none, rfl, sm1.trans (sm2.trans sm3), hq3, hall, sm3 _ _ hq2⟩) ?_ ?_ ?_
    · intro i σ H4 hi hP
      obtain ⟨s2, rfl, sm4, hq4, hall4, hl4⟩ := hP.un
      exact SqL.of hq4
    · intro i x σ H4 hx hP
      obtain ⟨s2, rfl, sm4, hq4, hall4, hl4⟩ := hP.un
      obtain ⟨pp, hpp, hat⟩ := hall4.get hx
      have hdp := inn_dep (List.mem_of_getElem? hpp)
      have hn : ∃ m, n = m + 1 := ⟨n - 1, by omega⟩
      obtain ⟨m, rfl⟩ := hn
      have hS := hG m rfl
      subst hS
      have hdp2 : pdep pp ≤ m := by omega
      have hm5 : m ≤ 5 := by omega
      have okp := inn_ok ok (List.mem_of_getElem? hpp)
      have hty : tyV K "list" (.ref l) H4 := .inl ⟨rfl, _, SqL.of hl4⟩
      walk_at "ev"
      intro l5 H5 hl5 sm5 hq5
      have hl5' := sm5 _ _ hl4
      have n5 : l5 ≠ l := (ne_of_none hl4 hl5).symm
      have hsz : ((plen p :: (((inn p).take i).map lens).flatten).map V.int).length + ((lens pp).map V.int).length ≤ sizeLine := by
        rw [List.length_map, List.length_map]
        refine szl ?_
        have h1 := lens_63 (p := p) (by omega)
        have h2 := lens_63 (p := pp) (by omega)
        rw [lens_inn p] at h1
        have h3 : (((inn p).take i).map lens).flatten.length ≤ ((inn p).map lens).flatten.length := by
          rw [List.map_take]
          conv => rhs; rw [← List.take_append_drop i ((inn p).map lens), List.flatten_append, List.length_append]
          omega
        simp only [List.length_cons] at h1 ⊢
        omega
      walk_at "ev"
      refine .mk ⟨_, rfl, same_mut (sm4.trans sm5) hlf, ?_, ?_, ?_⟩
      · rw [upd_ne nll]
        exact sm5 _ _ hq4
      · have h5 := hall4.same sm5
        exact h5.mut hl5'
      · rw [upd_same, List.take_add_one, hpp, List.map_append, List.flatten_append]
        simp
    · intro σ H4 hP
      obtain ⟨s2, rfl, sm4, hq4, hall4, hl4⟩ := hP.un
      rw [hlen, List.take_length, ← lens_inn] at hl4
      walk_at "ev"
      exact q l H4 hlf sm4 hl4
theorem ok_lens {f f1 f2 : Addr} {fd d1 d2 : FuncData} (D_lengths_in : Df K mg "lengths_in" s_lengths_in P_lengths_in f fd) (D_plan_length : Df K mg "plan_length" s_plan_length P_plan_length f1 d1) (D_inner_plans : Df K mg "inner_plans" s_inner_plans P_inner_plans f2 d2) (T : Blt mg) : ∀ n : Nat, FnOk P w K mg base CX0 (n + 2) f fd P_lengths_in (spLens K n)
  | 0 => lens_step (spI := fun _ _ _ _ => False) D_lengths_in D_plan_length D_inner_plans T ⟨fun _ _ _ _ h => h.elim, fun _ _ _ _ _ _ _ _ _ _ _ _ _ h => h.elim⟩ (fun m h => by omega)
  | n + 1 => lens_step D_lengths_in D_plan_length D_inner_plans T (ok_lens D_lengths_in D_plan_length D_inner_plans T n) (fun m h => by cases h; rfl)
end
abbrev s_plan_lengths : Stmt := top 4
abbrev N_plan_lengths : List Str := ["plan"]
abbrev P_plan_lengths : List Str := ["plan"]
theorem sc_plan_lengths : FnScope N_plan_lengths P_plan_lengths (defScope s_plan_lengths) := ⟨rfl, rfl, rfl, by decide +kernel, rfl, by decide +kernel, by decide +kernel⟩
def spPlens (K : PySem.W.Frag) : Sp := fun vs H Q _ => ∃ (v : V) (p : Pl), vs = [v] ∧ PlAt K H v p ∧ pdep p ≤ 5 ∧ Ok p ∧ ∀ (out : List Int) l H', H l = none → Same H H' → H' l = some (.lst (out.map V.int)) → out.Pairwise (· < ·) → (∀ k, k ∈ out ↔ k ∈ lens p) → out.length ≤ 63 → Q (.ref l) H'
section
variable {P : Program} {w : World} {K : PySem.W.Frag} {mg : Str → Option Value} {base : Heap}
theorem ok_plens {f f0 f1 f2 : Addr} {fd d0 d1 d2 : FuncData} (F : Fun K "plan_lengths" "plan_lengths" s_plan_lengths f fd) (D_lengths_in : Df K mg "lengths_in" s_lengths_in P_lengths_in f0 d0) (D_plan_length : Df K mg "plan_length" s_plan_length P_plan_length f1 d1) (D_inner_plans : Df K mg "inner_plans" s_inner_plans P_inner_plans f2 d2) (T : Blt mg) : FnOk P w K mg base CX0 8 f fd P_plan_lengths (spPlens K) := by
  have G_lengths_in : FnOk P w K mg base CX0 7 f0 d0 P_lengths_in (spLens K 5) := ok_lens D_lengths_in D_plan_length D_inner_plans T 5
  have nd := sc_plan_lengths.nd
  refine F.ok sc_plan_lengths (fun vs H Q E h => ?_) (fun cdv A outer s H vs Q E hr h => ?_)
  · obtain ⟨v, p, rfl, _⟩ := h
    rfl
  · obtain ⟨v, p, rfl, hp, hd, ok, q⟩ := h
    refine ⟨_, (pss_one (ps_ret (pe_sortSet (by rfl) T.b_sorted (by rfl) T.b_set (pe_call G_lengths_in (hr.mono (by omega)) (by rfl) D_lengths_in.g D_lengths_in.F.kp D_lengths_in.b .nil pass0 (pa_cons (pv 0) pa_nil))))), ?_⟩
    have d5 : (5 : Nat) ≤ 5 := Nat.le_refl _
    walk_at "ev"
    intro l H1 hl sm1 hq1
    have hL : SqL K H1 l ((lens p).map V.int) := SqL.of hq1
    have h63 := lens_63 hd
    have h64 : (lens p).length < 64 := by omega
    refine ⟨l, lens p, rfl, hL, h64, ?_⟩
    intro out p2 hp2 hs hm hol
    generalize hG2 : upd _ p2 _ = H2
    obtain ⟨sm2, hq2⟩ := newO hG2 hp2
    exact q out p2 H2 (sm1.free hp2) (sm1.trans sm2) hq2 hs hm (by omega)
end
abbrev s__law_lengths_in : Stmt := top 14
abbrev N__law_lengths_in : List Str := ["_law_thing", "_law_found", "_law_inner", "_law_one"]
abbrev P__law_lengths_in : List Str := ["_law_thing"]
theorem sc__law_lengths_in : FnScope N__law_lengths_in P__law_lengths_in (defScope s__law_lengths_in) := ⟨rfl, rfl, rfl, by decide +kernel, rfl, by decide +kernel, by decide +kernel⟩
section
variable {P : Program} {w : World} {K : PySem.W.Frag} {mg : Str → Option Value} {base : Heap}
theorem own_step {f f1 : Addr} {fd d1 : FuncData} {n : Nat} {spI : Sp} (D__law_lengths_in : Df K mg "_law_lengths_in" s__law_lengths_in P__law_lengths_in f fd) (D__law_length_of : Df K mg "_law_length_of" s__law_length_of P__law_length_of f1 d1) (T : Blt mg) (G__law_lengths_in : FnOk P w K mg base CX0 (n + 1) f fd P__law_lengths_in spI) (hG : ∀ m, n = m + 1 → spI = spLens K m) : FnOk P w K mg base CX0 (n + 2) f fd P__law_lengths_in (spLens K n) := by
  have G__law_length_of : FnOk P w K mg base CX0 (n + 1) f1 d1 P__law_length_of (spPlen K n) := ok_lof D__law_length_of T n
  have nd := sc__law_lengths_in.nd
  refine D__law_lengths_in.F.ok sc__law_lengths_in (fun vs H Q E h => ?_) (fun cdv A outer s H vs Q E hr h => ?_)
  · obtain ⟨v, p, rfl, _⟩ := h
    rfl
  · obtain ⟨v, p, rfl, hp, hd, hd5, ok, q⟩ := h
    have tail : ∃ tl, PSs (cxOf CX0 P w K mg base N__law_lengths_in "_law_lengths_in" (defScope s__law_lengths_in) f cdv A outer s H E).nox ((defBody s__law_lengths_in).drop 2) tl ∧ ∀ (l t : Addr) (xs : List V) (H3 : Hp), H l = none → Same H H3 → H3 l = some (.lst [.int (plen p)]) → H3 t = some (.tup xs) → PlAll K H3 xs (inn p) → tl { nx := fun _ H' => Q .non H', rt := Q } [some v, some (.ref l), some (.ref t), none] H3 := by
      refine ⟨_, (pss_cons (ps_for PassesOwn.never rfl (pi_tup (pv 2)) (pg_name (i := 3) nd rfl (Or.inl rfl))
      (pss_one (ps_set (i := 1) nd rfl (Or.inl rfl) (pe_op op_cat (pv 1) (pe_call G__law_lengths_in (hr.mono (by omega)) (by rfl) D__law_lengths_in.g D__law_lengths_in.F.kp D__law_lengths_in.b .nil pass0 (pa_cons (pv 3) pa_nil))))))
      (pss_one (ps_ret (pv 1)))), ?_⟩
      intro l t xs H3 hlf sm3 hq3 ht3 hall
      have hlen := hall.len
      have hT3 : SqT K H3 t xs := SqT.of ht3
      have hT3' : ∃ xs, SqT K H3 t xs := ⟨_, hT3⟩
      walk_at "ev"
      refine for_tup (K := K) (a := t) (xs := xs) (fun i σ H' => Hold (∃ l' s3, σ = [some v, some (.ref l'), some (.ref t), s3] ∧ H l' = none ∧ Same H3 H' ∧ H' l' = some (.lst ((plen p :: (((inn p).take i).map lens).flatten).map V.int)))) (.mk ⟨l, none, rfl, hlf, Same.refl _, hq3⟩) ?_ ?_ ?_
      · intro i σ H4 hi hP
        obtain ⟨l', s3, rfl, hl', sm4, hq4⟩ := hP.un
        exact same_t sm4 hT3
      · intro i x σ H4 hx hP
        obtain ⟨l', s3, rfl, hl', sm4, hq4⟩ := hP.un
        obtain ⟨pp, hpp, hat0⟩ := hall.get hx
        have hat := hat0.same sm4
        have hdp := inn_dep (List.mem_of_getElem? hpp)
        obtain ⟨m, rfl⟩ : ∃ m, n = m + 1 := ⟨n - 1, by omega⟩
        have hS := hG m rfl
        subst hS
        have hdp2 : pdep pp ≤ m := by omega
        have hm5 : m ≤ 5 := by omega
        have okp := inn_ok ok (List.mem_of_getElem? hpp)
        walk_at "ev"
        intro l5 H5 hl5 sm5 hq5
        have hl5' := sm5 _ _ hq4
        have hsz : ((plen p :: (((inn p).take i).map lens).flatten).map V.int).length + ((lens pp).map V.int).length ≤ sizeLine := by
          rw [List.length_map, List.length_map]
          refine szl ?_
          have h1 := lens_63 (p := p) (by omega)
          have h2 := lens_63 (p := pp) (by omega)
          rw [lens_inn p] at h1
          have h3 : (((inn p).take i).map lens).flatten.length ≤ ((inn p).map lens).flatten.length := by
            rw [List.map_take]
            conv => rhs; rw [← List.take_append_drop i ((inn p).map lens), List.flatten_append, List.length_append]
            omega
          simp only [List.length_cons] at h1 ⊢
          omega
        walk_at "ev"
        intro l6 hl6
        generalize hG6 : upd _ l6 _ = H6
        obtain ⟨sm6, hq6⟩ := newO hG6 hl6
        refine .mk ⟨l6, _, rfl, (sm3.trans (sm4.trans sm5)).free hl6, sm4.trans (sm5.trans sm6), ?_⟩
        rw [hq6, List.take_add_one, hpp, List.map_append, List.flatten_append]
        simp
      · intro σ H4 hP
        obtain ⟨l', s3, rfl, hl', sm4, hq4⟩ := hP.un
        rw [hlen, List.take_length, ← lens_inn] at hq4
        walk_at "ev"
        exact q l' H4 hl' (sm3.trans sm4) hq4
    obtain ⟨tl, htl, fin⟩ := tail
    refine ⟨_, (pss_cons (ps_set (i := 1) nd rfl (Or.inl rfl) (pe_lst (pa_cons (pe_call G__law_length_of (hr.mono (by omega)) (by rfl) D__law_length_of.g D__law_length_of.F.kp D__law_length_of.b .nil pass0 (pa_cons (pv 0) pa_nil)) pa_nil)))
      (pss_cons (ps_set (i := 2) nd rfl (Or.inl rfl) (pe_ifExp (pt_cmpR (r := rIn K false) op_in_seq (pe_ix (r := rIxT K) ix_tup (pv 0) (pe_int) (fun _ _ => rfl)) (pe_tup (pa_cons (pe_str) (pa_cons (pe_str) pa_nil))) (by rfl)) (pe_slice (r := rSlT K) sl_tup (pv 0) (po_some (pe_int)) po_none) (pe_slice (r := rSlT K) sl_tup (pv 0) (po_some (pe_int)) po_none)))
      htl)), ?_⟩
    walk_at "ev"
    intro H1 sm1
    walk_at "ev"
    intro l hl
    generalize hG1 : upd _ l _ = H2
    obtain ⟨sm2, hq2⟩ := newO hG1 hl
    have hlf : H l = none := sm1.free hl
    have sm02 := sm1.trans sm2
    cases hp with
    | leaf hw hs =>
      rename_i a wd m
      have hs2 := same_t sm02 hs
      have hnw : ¬ (HT.sIx [V.str wd, V.int m].length 0 (some 2) = 0 ∧ HT.sIx [V.str wd, V.int m].length [V.str wd, V.int m].length none = [V.str wd, V.int m].length) := fun z => absurd z.1 (show ¬ HT.sIx 2 0 (some 2) = 0 by decide)
      walk_at "ev"
      intro t1 ht1
      generalize hG3 : upd _ t1 _ = H3
      obtain ⟨sm3, hq3⟩ := newO hG3 ht1
      have hin : SqL K H3 t1 [.str "split", .str "parts"] ∨ SqT K H3 t1 [.str "split", .str "parts"] := .inr (SqT.of hq3)
      have hs3 := same_t sm3 hs2
      walk_at "ev"
      refine iteFe (in_sp_leaf hw) ?_
      walk_at "ev"
      intro t2 ht2
      generalize hG4 : upd _ t2 _ = H4
      obtain ⟨sm4, hq4⟩ := newO hG4 ht2
      exact fin l t2 [] H4 hlf (sm02.trans (sm3.trans sm4)) ((sm3.trans sm4) _ _ hq2) hq4 .nil
    | two hw hs hx hy =>
      rename_i a wd x y p1 p2
      have hs2 := same_t sm02 hs
      have hnw : ¬ (HT.sIx [V.str wd, x, y].length 0 (some 1) = 0 ∧ HT.sIx [V.str wd, x, y].length [V.str wd, x, y].length none = [V.str wd, x, y].length) := fun z => absurd z.1 (show ¬ HT.sIx 3 0 (some 1) = 0 by decide)
      walk_at "ev"
      intro t1 ht1
      generalize hG3 : upd _ t1 _ = H3
      obtain ⟨sm3, hq3⟩ := newO hG3 ht1
      have hin : SqL K H3 t1 [.str "split", .str "parts"] ∨ SqT K H3 t1 [.str "split", .str "parts"] := .inr (SqT.of hq3)
      have hs3 := same_t sm3 hs2
      walk_at "ev"
      refine iteTe (in_sp hw) ?_
      walk_at "ev"
      intro t2 ht2
      generalize hG4 : upd _ t2 _ = H4
      obtain ⟨sm4, hq4⟩ := newO hG4 ht2
      have smz := sm02.trans (sm3.trans sm4)
      exact fin l t2 [x, y] H4 hlf smz ((sm3.trans sm4) _ _ hq2) hq4 (.cons (hx.same smz) (.cons (hy.same smz) .nil))
    | led hw hs hx =>
      rename_i a wd m x p1
      have hs2 := same_t sm02 hs
      have hnw : ¬ (HT.sIx [V.str wd, V.int m, x].length 0 (some 2) = 0 ∧ HT.sIx [V.str wd, V.int m, x].length [V.str wd, V.int m, x].length none = [V.str wd, V.int m, x].length) := fun z => absurd z.1 (show ¬ HT.sIx 3 0 (some 2) = 0 by decide)
      walk_at "ev"
      intro t1 ht1
      generalize hG3 : upd _ t1 _ = H3
      obtain ⟨sm3, hq3⟩ := newO hG3 ht1
      have hin : SqL K H3 t1 [.str "split", .str "parts"] ∨ SqT K H3 t1 [.str "split", .str "parts"] := .inr (SqT.of hq3)
      have hs3 := same_t sm3 hs2
      walk_at "ev"
      refine iteFe (in_sp_led hw) ?_
      walk_at "ev"
      intro t2 ht2
      generalize hG4 : upd _ t2 _ = H4
      obtain ⟨sm4, hq4⟩ := newO hG4 ht2
      have smz := sm02.trans (sm3.trans sm4)
      exact fin l t2 [x] H4 hlf smz ((sm3.trans sm4) _ _ hq2) hq4 (.cons (hx.same smz) .nil)
theorem ok_own {f f1 : Addr} {fd d1 : FuncData} (D__law_lengths_in : Df K mg "_law_lengths_in" s__law_lengths_in P__law_lengths_in f fd) (D__law_length_of : Df K mg "_law_length_of" s__law_length_of P__law_length_of f1 d1) (T : Blt mg) : ∀ n : Nat, FnOk P w K mg base CX0 (n + 2) f fd P__law_lengths_in (spLens K n)
  | 0 => own_step (spI := fun _ _ _ _ => False) D__law_lengths_in D__law_length_of T ⟨fun _ _ _ _ h => h.elim, fun _ _ _ _ _ _ _ _ _ _ _ _ _ h => h.elim⟩ (fun m h => by omega)
  | n + 1 => own_step D__law_lengths_in D__law_length_of T (ok_own D__law_lengths_in D__law_length_of T n) (fun m h => by cases h; rfl)
end
abbrev s__law_right : Stmt := top 15
abbrev N__law_right : List Str := ["_law_one", "_law_due", "_law_again", "_law_told"]
abbrev P__law_right : List Str := ["_law_one"]
theorem sc__law_right : FnScope N__law_right P__law_right (defScope s__law_right) := ⟨rfl, rfl, rfl, by decide +kernel, rfl, by decide +kernel, by decide +kernel⟩
def spRight (K : PySem.W.Frag) : Sp := fun vs H Q _ => ∃ (v : V) (p : Pl), vs = [v] ∧ PlAt K H v p ∧ pdep p ≤ 5 ∧ Ok p ∧ ∀ H', Same H H' → Q (.bl true) H'
theorem fit_ints {ns : List Int} (h : ns.length ≤ 4000) : Fit 1 (.list (ns.map PyData.int)) := by
  refine ⟨by rw [List.length_map]; exact h, fun e he => ?_⟩
  obtain ⟨k, _, ek⟩ := List.mem_map.mp he
  rw [← ek]
  exact True.intro
section
variable {P : Program} {w : World} {K : PySem.W.Frag} {mg : Str → Option Value} {base : Heap}
theorem ok_right {f f0 f1 f2 f3 f4 f5 f6 : Addr} {fd d0 d1 d2 d3 d4 d5 d6 : FuncData} (F : Fun K "_law_right" "_law_right" s__law_right f fd) (D_plan_lengths : Df K mg "plan_lengths" s_plan_lengths P_plan_lengths f0 d0) (D_lengths_in : Df K mg "lengths_in" s_lengths_in P_lengths_in f1 d1) (D_plan_length : Df K mg "plan_length" s_plan_length P_plan_length f2 d2) (D_inner_plans : Df K mg "inner_plans" s_inner_plans P_inner_plans f3 d3) (D__law_lengths_in : Df K mg "_law_lengths_in" s__law_lengths_in P__law_lengths_in f4 d4) (D__law_length_of : Df K mg "_law_length_of" s__law_length_of P__law_length_of f5 d5) (D__law_same : Df K mg "_law_same" s__law_same P__law_same f6 d6) (T : Blt mg) : FnOk P w K mg base CX0 9 f fd P__law_right (spRight K) := by
  have G__law_lengths_in : FnOk P w K mg base CX0 7 f4 d4 P__law_lengths_in (spLens K 5) := ok_own D__law_lengths_in D__law_length_of T 5
  have G_plan_lengths : FnOk P w K mg base CX0 8 f0 d0 P_plan_lengths (spPlens K) := ok_plens D_plan_lengths.F D_lengths_in D_plan_length D_inner_plans T
  have G__law_same : FnOk P w K mg base CX0 2 f6 d6 P__law_same (spSame K 1) := ok_same D__law_same T 1
  have nd := sc__law_right.nd
  refine F.ok sc__law_right (fun vs H Q E h => ?_) (fun cdv A outer s H vs Q E hr h => ?_)
  · obtain ⟨v, p, rfl, _⟩ := h
    rfl
  · obtain ⟨v, p, rfl, hp, hd, ok, q⟩ := h
    refine ⟨_, (pss_cons (ps_set (i := 1) nd rfl (Or.inl rfl) (pe_sortSet (by rfl) T.b_sorted (by rfl) T.b_set (pe_call G__law_lengths_in (hr.mono (by omega)) (by rfl) D__law_lengths_in.g D__law_lengths_in.F.kp D__law_lengths_in.b .nil pass0 (pa_cons (pv 0) pa_nil))))
      (pss_cons (ps_for PassesOwn.never rfl (pi_range1 (by rfl) T.b_range (pa_cons (pe_int) pa_nil)) (pg_name (i := 2) nd rfl (Or.inl rfl))
      (pss_cons (ps_set (i := 3) nd rfl (Or.inl rfl) (pe_call G_plan_lengths (hr.mono (by omega)) (by rfl) D_plan_lengths.g D_plan_lengths.F.kp D_plan_lengths.b .nil pass0 (pa_cons (pv 0) pa_nil)))
      (pss_cons (ps_if (pt_not (pt_val (pe_call G__law_same (hr.mono (by omega)) (by rfl) D__law_same.g D__law_same.F.kp D__law_same.b .nil pass0 (pa_cons (pv 3) (pa_cons (pv 1) pa_nil))))) (pss_one (ps_ret (pe_bl))) pss_nil)
      (pss_cons (ps_expr (pe_bm0 PySem.F.plainAttrs_list PySem.F.slot_list_reverse PySem.F.type_list_reverse mt_reverse (pv 3)))
      (pss_one (ps_expr (pe_bm PySem.F.plainAttrs_list PySem.F.slot_list_append PySem.F.type_list_append mt_append (pv 3) (pa_cons (pe_non) pa_nil))))))))
      (pss_one (ps_ret (pe_bl))))), ?_⟩
    have d5 : (5 : Nat) ≤ 5 := Nat.le_refl _
    have h63 := lens_63 hd
    walk_at "ev"
    intro l H1 hl sm1 hq1
    have hL : SqL K H1 l ((lens p).map V.int) := SqL.of hq1
    refine ⟨l, lens p, rfl, hL, by omega, ?_⟩
    intro out p2 hp2 hs hm hol
    generalize hG2 : upd _ p2 _ = H2
    obtain ⟨sm2, hq2⟩ := newO hG2 hp2
    have sm02 := sm1.trans sm2
    walk_at "ev"
    refine for_range (lo := 0) (n := (2 : Int).toNat) (fun i σ H' => Hold (∃ s2 s3, σ = [some v, some (.ref p2), s2, s3] ∧ Same H2 H')) (.mk ⟨_, _, rfl, Same.refl _⟩) ?_ ?_
    · intro i σ H3 hi hP
      obtain ⟨s2, s3, rfl, sm3⟩ := hP.un
      have hp3 := (hp.same sm02).same sm3
      walk_at "ev"
      intro out2 l4 H4 hl4 sm4 hq4 hs4 hm4 hol4
      have eo : out2 = out := srt_ext hs4 hs fun k => (hm4 k).trans (hm k).symm
      subst eo
      have hdx : Dp K H4 (.ref l4) (.list (out2.map PyData.int)) := .lst (SqL.of hq4) (dp_ints out2)
      have hdy : Dp K H4 (.ref p2) (.list (out2.map PyData.int)) := .lst (SqL.of ((sm3.trans sm4) _ _ hq2)) (dp_ints out2)
      have hfit := fit_ints (ns := out2) (by omega)
      walk_at "ev"
      intro H5 sm5
      have hq5 := sm5 _ _ hq4
      have hty : tyV K "list" (.ref l4) H5 := .inl ⟨rfl, _, SqL.of hq5⟩
      walk_at "ev"
      generalize hG6 : upd H5 l4 _ = H6
      have hq6 : H6 l4 = some (.lst (out2.map V.int).reverse) := (mutO hG6).2
      have sm6 : Same H2 H6 := by
        rw [← hG6]
        exact same_mut (sm3.trans (sm4.trans sm5)) (sm3.free hl4)
      have hty6 : tyV K "list" (.ref l4) H6 := .inl ⟨rfl, _, SqL.of hq6⟩
      have hsz6 : (out2.map V.int).reverse.length < sizeLine := by
        rw [List.length_reverse, List.length_map]
        exact szm (by omega)
      walk_at "ev"
      exact .mk ⟨_, _, rfl, same_mut sm6 (sm3.free hl4)⟩
    · intro σ H3 hP
      obtain ⟨s2, s3, rfl, sm3⟩ := hP.un
      walk_at "ev"
      exact q _ (sm02.trans sm3)
end
/-! ### the law's own plans -/
abbrev s__law_any_plan : Stmt := top 13
abbrev N__law_any_plan : List Str := ["_law_box_here", "_law_length", "_law_deep", "_law_some", "_law_parts", "_law_way", "_law_one", "_law_part"]
abbrev P__law_any_plan : List Str := ["_law_box_here", "_law_length", "_law_deep"]
theorem sc__law_any_plan : FnScope N__law_any_plan P__law_any_plan (defScope s__law_any_plan) := ⟨rfl, rfl, rfl, by decide +kernel, rfl, by decide +kernel, by decide +kernel⟩
inductive Way (H : Hp) (n : Int) (d : Nat) : V → Prop
  | leaf {a : Addr} {w : Str} : (w = "plain" ∨ w = "short") → H a = some (.tup [.str w]) → Way H n d (.ref a)
  | pow {a : Addr} : 0 < d → 2 < n → H a = some (.tup [.str "powers"]) → Way H n d (.ref a)
  | two {a : Addr} {w : Str} {k : Int} : (w = "split" ∨ w = "parts") → 0 < d → 2 ≤ k → k < n → n % k = 0 → H a = some (.tup [.str w, .int k]) → Way H n d (.ref a)
  | str {a : Addr} {m : Int} : 0 < d → 1 < n → 2 * n - 1 ≤ m → m ≤ 242 → H a = some (.tup [.str "stretch", .int m]) → Way H n d (.ref a)
theorem Way.same {H H' : Hp} {n : Int} {d : Nat} {v : V} (h : Way H n d v) (e : Same H H') : Way H' n d v := by
  cases h with
  | leaf a b => exact .leaf a (e _ _ b)
  | pow a b c => exact .pow a b (e _ _ c)
  | two a b c d f g => exact .two a b c d f (e _ _ g)
  | str a b c d f => exact .str a b c d (e _ _ f)
theorem keep_at {H H' : Hp} {b a : Addr} {c : Int} {xs : List V} (e : Keep b H H') (hb : BoxAt H b c) (h : H a = some (.tup xs)) : H' a = some (.tup xs) := by
  obtain ⟨x, y, z, e1, e2⟩ := hb
  exact e _ _ (ne_of h e1 (by intro q; cases q)) h
theorem Way.keep {H H' : Hp} {n : Int} {d : Nat} {v : V} {b : Addr} {c : Int} (h : Way H n d v) (e : Keep b H H') (hb : BoxAt H b c) : Way H' n d v := by
  cases h with
  | leaf a b => exact .leaf a (keep_at e hb b)
  | pow a b c => exact .pow a b (keep_at e hb c)
  | two a b c d f g => exact .two a b c d f (keep_at e hb g)
  | str a b c d f => exact .str a b c d (keep_at e hb f)
theorem Way.mut {H : Hp} {n : Int} {d : Nat} {v : V} {p : Addr} {xs : List V} {o : HO} (h : Way H n d v) (hp : H p = some (.lst xs)) : Way (upd H p o) n d v := by
  have go : ∀ {a : Addr} {ys : List V}, H a = some (.tup ys) → upd H p o a = some (.tup ys) := fun {a ys} e => by
    rw [upd_ne (ne_of e hp (by intro q; cases q))]
    exact e
  cases h with
  | leaf a b => exact .leaf a (go b)
  | pow a b c => exact .pow a b (go c)
  | two a b c d f g => exact .two a b c d f (go g)
  | str a b c d f => exact .str a b c d (go f)
theorem iteDn {c A B : Prop} [Decidable c] (hc : ¬ c) (h : B) : if decide c = true then A else B := by
  rw [decide_eq_false hc]
  exact iteF h
theorem iteNp {c A B : Prop} [Decidable c] (hc : ¬ c) (h : A) : if (!decide c) = true then A else B := by
  rw [decide_eq_false hc]
  exact iteT h
theorem ne_pow {w : Str} (h : w = "plain" ∨ w = "short") : ¬ V.str w = V.str "powers" := by
  rcases h with h | h <;> rw [h] <;> decide
theorem mem_rep {k : Nat} {ys : List V} {x : V} (h : x ∈ (List.replicate k ys).flatten) : x ∈ ys ∧ 0 < k := by
  obtain ⟨l, hl, hx⟩ := List.mem_flatten.mp h
  have h1 := List.mem_replicate.mp hl
  rw [h1.2] at hx
  exact ⟨hx, by omega⟩
theorem len_rep {ys : List V} : ∀ k : Nat, (List.replicate k ys).flatten.length = k * ys.length
  | 0 => by simp
  | k + 1 => by
    rw [List.replicate_succ, List.flatten_cons, List.length_append, len_rep k, Nat.add_mul]
    omega
theorem in_pq_two {w : Str} (h : w = "split" ∨ w = "parts") : inV (.str w) [.str "powers", .str "stretch"] = false := by
  rcases h with h | h <;> rw [h] <;> decide
def tks : Nat → Int
  | 0 => 2
  | d + 1 => 2 + 2 * tks d
theorem tks_pos : ∀ d : Nat, 0 ≤ tks d
  | 0 => by decide
  | d + 1 => by
    show 0 ≤ 2 + 2 * tks d
    have := tks_pos d
    omega
/-- a plan all of whose objects are tracked tuples -/
inductive PlT (H : Hp) : V → Pl → Prop
  | leaf {a : Addr} {w : Str} {n : Int} : (w = "plain" ∨ w = "short") → H a = some (.tup [.str w, .int n]) → PlT H (.ref a) (.leaf w n)
  | two {a : Addr} {w : Str} {x y : V} {p q : Pl} : (w = "split" ∨ w = "parts") → H a = some (.tup [.str w, x, y]) → PlT H x p → PlT H y q → PlT H (.ref a) (.two w p q)
  | led {a : Addr} {w : Str} {n : Int} {x : V} {p : Pl} : (w = "powers" ∨ w = "stretch") → H a = some (.tup [.str w, .int n, x]) → PlT H x p → PlT H (.ref a) (.led w n p)
theorem PlT.same {H H' : Hp} {v : V} {p : Pl} (h : PlT H v p) (e : Same H H') : PlT H' v p := by
  induction h with
  | leaf a b => exact .leaf a (e _ _ b)
  | two a b c d i1 i2 => exact .two a (e _ _ b) i1 i2
  | led a b c i1 => exact .led a (e _ _ b) i1
theorem PlT.keep {H H' : Hp} {v : V} {p : Pl} {b : Addr} {c : Int} (h : PlT H v p) (e : Keep b H H') (hb : BoxAt H b c) : PlT H' v p := by
  induction h with
  | leaf a b => exact .leaf a (keep_at e hb b)
  | two a b c d i1 i2 => exact .two a (keep_at e hb b) i1 i2
  | led a b c i1 => exact .led a (keep_at e hb b) i1
theorem PlT.mut {H : Hp} {v : V} {p : Pl} {a : Addr} {xs : List V} {o : HO} (h : PlT H v p) (ha : H a = some (.lst xs)) : PlT (upd H a o) v p := by
  have go : ∀ {b : Addr} {ys : List V}, H b = some (.tup ys) → upd H a o b = some (.tup ys) := fun {b ys} e => by
    rw [upd_ne (ne_of e ha (by intro q; cases q))]
    exact e
  induction h with
  | leaf a b => exact .leaf a (go b)
  | two a b c d i1 i2 => exact .two a (go b) i1 i2
  | led a b c i1 => exact .led a (go b) i1
theorem PlT.at {K : PySem.W.Frag} {H : Hp} {v : V} {p : Pl} (h : PlT H v p) : PlAt K H v p := by
  induction h with
  | leaf a b => exact .leaf a (SqT.of b)
  | two a b c d i1 i2 => exact .two a (SqT.of b) i1 i2
  | led a b c i1 => exact .led a (SqT.of b) i1
def spAny (K : PySem.W.Frag) (d : Nat) : Sp := fun vs H Q _ => ∃ (b : Addr) (n c dd : Int), vs = [.ref b, .int n, .int dd] ∧ dd = (d : Int) ∧ BoxAt H b c ∧ c + tks d < 1000000 ∧ 1 ≤ n ∧ n ≤ 242 ∧ ∀ v p H', PlT H' v p → plen p = n → pdep p ≤ d → Ok p → Keep b H H' → BoxAt H' b (c + tks d) → Q v H'
section
variable {P : Program} {w : World} {K : PySem.W.Frag} {mg : Str → Option Value} {base : Heap}
theorem any_step {f f1 f2 f3 f4 : Addr} {fd d1 d2 d3 d4 : FuncData} {d : Nat} {spI : Sp} (D__law_any_plan : Df K mg "_law_any_plan" s__law_any_plan P__law_any_plan f fd) (T : Blt mg) (D__law_take : Df K mg "_law_take" s__law_take P__law_take f1 d1) (D__law_pick : Df K mg "_law_pick" s__law_pick P__law_pick f2 d2) (D__law_shares : Df K mg "_law_shares" s__law_shares P__law_shares f3 d3) (D__law_is_plain_prime : Df K mg "_law_is_plain_prime" s__law_is_plain_prime P__law_is_plain_prime f4 d4)
    (G__law_any_plan : FnOk P w K mg base CX0 (d + 2) f fd P__law_any_plan spI) (hG : ∀ m, d = m + 1 → spI = spAny K m) : FnOk P w K mg base CX0 (d + 3) f fd P__law_any_plan (spAny K d) := by
  have G__law_take : FnOk P w K mg base CX0 1 f1 d1 P__law_take spTake := ok_take D__law_take.F
  have G__law_pick : FnOk P w K mg base CX0 2 f2 d2 P__law_pick (spPick K) := ok_pick D__law_pick.F T D__law_take
  have G__law_shares : FnOk P w K mg base CX0 1 f3 d3 P__law_shares spShares := ok_shares0 D__law_shares.F T
  have G__law_is_plain_prime : FnOk P w K mg base CX0 1 f4 d4 P__law_is_plain_prime spPlainPrime := ok_plainprime D__law_is_plain_prime.F T
  have nd := sc__law_any_plan.nd
  refine D__law_any_plan.F.ok sc__law_any_plan (fun vs H Q E h => ?_) (fun cdv A outer s H vs Q E hr h => ?_)
  · obtain ⟨b, n, c, dd, rfl, _⟩ := h
    rfl
  · obtain ⟨b, n, c, dd, rfl, rfl, hb, hc, hn1, hn2, q⟩ := h
    have htp := tks_pos d
    have tail : ∃ tl, PSs (cxOf CX0 P w K mg base N__law_any_plan "_law_any_plan" (defScope s__law_any_plan) f cdv A outer s H E).nox ((defBody s__law_any_plan).drop 3) tl ∧ ∀ (l : Addr) (xs : List V) (H1 : Hp) (s4 s5 s6 s7 : Option V) (e : Int), Keep b H H1 → BoxAt H1 b (c + e) → (e = 0 ∨ (e = 1 ∧ 0 < d)) → H1 l = some (.lst xs) → l ≠ b → (∀ x ∈ xs, Way H1 n d x) → 0 < xs.length → xs.length ≤ 3000 → tl { nx := fun _ H' => Q .non H', rt := Q } [some (.ref b), some (.int n), some (.int (d : Int)), some (.ref l), s4, s5, s6, s7] H1 := by
      refine ⟨_, (pss_cons (ps_set (i := 5) nd rfl (Or.inl rfl) (pe_call G__law_pick (hr.mono (by omega)) (by rfl) D__law_pick.g D__law_pick.F.kp D__law_pick.b .nil pass0 (pa_cons (pv 0) (pa_cons (pv 3) pa_nil))))
      (pss_cons (ps_if (PW.pt (pw_and (pt_cmpR op_eq (pe_callB (r := rLenQ K) call_len_seq (by rfl) T.b_len (by decide +kernel) (pa_cons (pv 5) pa_nil)) (pe_int) (nomark _)) (pw_and1 (pt_cmpR op_ne (pe_ix (r := rIxT K) ix_tup (pv 5) (pe_int) (fun _ _ => rfl)) (pe_str) (nomark _))))) (pss_one (ps_ret (pe_tup (pa_cons (pe_ix (r := rIxT K) ix_tup (pv 5) (pe_int) (fun _ _ => rfl)) (pa_cons (pv 1) pa_nil))))) pss_nil)
      (pss_cons (ps_if (pt_cmpR (r := rIn K false) op_in_seq (pe_ix (r := rIxT K) ix_tup (pv 5) (pe_int) (fun _ _ => rfl)) (pe_tup (pa_cons (pe_str) (pa_cons (pe_str) pa_nil))) (by rfl)) (pss_one (ps_ret (pe_tup (pa_cons (pe_ix (r := rIxT K) ix_tup (pv 5) (pe_int) (fun _ _ => rfl)) (pa_cons (pv 1) (pa_cons (pe_call G__law_any_plan (hr.mono (by omega)) (by rfl) D__law_any_plan.g D__law_any_plan.F.kp D__law_any_plan.b .nil pass0 (pa_cons (pv 0) (pa_cons (pe_ifExp (pt_cmpR op_eq (pe_ix (r := rIxT K) ix_tup (pv 5) (pe_int) (fun _ _ => rfl)) (pe_str) (nomark _)) (pe_op op_sub (pv 1) (pe_int)) (pe_ix (r := rIxT K) ix_tup (pv 5) (pe_int) (fun _ _ => rfl))) (pa_cons (pe_op op_sub (pv 2) (pe_int)) pa_nil)))) pa_nil)))))) pss_nil)
      (pss_cons (ps_set (i := 6) nd rfl (Or.inl rfl) (pe_call G__law_any_plan (hr.mono (by omega)) (by rfl) D__law_any_plan.g D__law_any_plan.F.kp D__law_any_plan.b .nil pass0 (pa_cons (pv 0) (pa_cons (pe_ix (r := rIxT K) ix_tup (pv 5) (pe_int) (fun _ _ => rfl)) (pa_cons (pe_op op_sub (pv 2) (pe_int)) pa_nil)))))
      (pss_one (ps_ret (pe_tup (pa_cons (pe_ix (r := rIxT K) ix_tup (pv 5) (pe_int) (fun _ _ => rfl)) (pa_cons (pv 6) (pa_cons (pe_call G__law_any_plan (hr.mono (by omega)) (by rfl) D__law_any_plan.g D__law_any_plan.F.kp D__law_any_plan.b .nil pass0 (pa_cons (pv 0) (pa_cons (pe_op op_fdiv (pv 1) (pe_ix (r := rIxT K) ix_tup (pv 5) (pe_int) (fun _ _ => rfl))) (pa_cons (pe_op op_sub (pv 2) (pe_int)) pa_nil)))) pa_nil)))))))))), ?_⟩
      intro l xs H1 s4 s5 s6 s7 e kp hb1 he hl hlb hw h0 hln
      have hL : SqL K H1 l xs := SqL.of hl
      have h0' : 0 < (xs.length : Int) := by omega
      have hx1 : (xs.length : Int) < 1048576 := by omega
      walk_at "ev"
      intro v H2 hv k2 hb2
      have hway := (hw v hv).keep k2 hb1
      have hb2' := hb2
      cases hway with
      | leaf hww hs =>
        rename_i a wd
        have hT : SqT K H2 a [.str wd] := SqT.of hs
        walk_at "ev"
        refine iteNp (ne_pow hww) ?_
        walk_at "ev"
        intro t3 ht3
        generalize hG3 : upd _ t3 _ = H3
        obtain ⟨sm3, hq3⟩ := newO hG3 ht3
        have h2 : 2 ≤ tks d := by
          cases d with
          | zero => exact (by decide : (2 : Int) ≤ 2)
          | succ m =>
            show 2 ≤ 2 + 2 * tks m
            have := tks_pos m
            omega
        exact q _ (.leaf wd n) _ (.leaf hww hq3) rfl (Nat.zero_le _) ⟨by omega, by omega⟩ (kp.trans (k2.trans (keepS sm3))) ((hb2.same sm3).mono (by omega))
      | pow hd0 hn3 hs =>
        rename_i a
        obtain ⟨m, rfl⟩ : ∃ m, d = m + 1 := ⟨d - 1, by omega⟩
        have hS := hG m rfl
        subst hS
        have htm := tks_pos m
        have etk : tks (m + 1) = 2 + 2 * tks m := rfl
        have edm : (((m + 1 : Nat) : Int) - 1) = (m : Int) := by omega
        have hT : SqT K H2 a [.str "powers"] := SqT.of hs
        walk_at "ev"
        intro t3 ht3
        generalize hG3 : upd _ t3 _ = H3
        obtain ⟨sm3, hq3⟩ := newO hG3 ht3
        have hT3 := same_t sm3 hT
        have hin : SqL K H3 t3 [.str "powers", .str "stretch"] ∨ SqT K H3 t3 [.str "powers", .str "stretch"] := .inr (SqT.of hq3)
        have hb3 := hb2.same sm3
        walk_at "ev"
        intro v4 p4 H4 hpl hl4 hd4 ok4 k4 hb4
        walk_at "ev"
        intro t5 ht5
        generalize hG5 : upd _ t5 _ = H5
        obtain ⟨sm5, hq5⟩ := newO hG5 ht5
        refine q _ (.led "powers" n p4) _ (.led (.inl rfl) hq5 (hpl.same sm5)) rfl ?_ ⟨by omega, by omega, ok4⟩ (kp.trans (k2.trans ((keepS sm3).trans (k4.trans (keepS sm5))))) ((hb4.same sm5).mono (by omega))
        show 1 + pdep p4 ≤ m + 1
        omega
      | two hww hd0 hk2 hkn hkm hs =>
        rename_i a wd kk
        obtain ⟨m, rfl⟩ : ∃ m, d = m + 1 := ⟨d - 1, by omega⟩
        have hS := hG m rfl
        subst hS
        have htm := tks_pos m
        have etk : tks (m + 1) = 2 + 2 * tks m := rfl
        have edm : (((m + 1 : Nat) : Int) - 1) = (m : Int) := by omega
        have hT : SqT K H2 a [.str wd, .int kk] := SqT.of hs
        walk_at "ev"
        intro t3 ht3
        generalize hG3 : upd _ t3 _ = H3
        obtain ⟨sm3, hq3⟩ := newO hG3 ht3
        have hT3 := same_t sm3 hT
        have hs3 := sm3 _ _ hs
        have hin : SqL K H3 t3 [.str "powers", .str "stretch"] ∨ SqT K H3 t3 [.str "powers", .str "stretch"] := .inr (SqT.of hq3)
        walk_at "ev"
        refine iteFe (in_pq_two hww) ?_
        have hb3 := hb2.same sm3
        walk_at "ev"
        intro v4 p4 H4 hpl hl4 hd4 ok4 k4 hb4
        have hs4 := keep_at k4 hb3 hs3
        have hT4 : SqT K H4 a [.str wd, .int kk] := SqT.of hs4
        have hq0 : 1 ≤ n / kk := by
          have := Int.le_ediv_of_mul_le (show (0 : Int) < kk by omega) (show 1 * kk ≤ n by omega)
          exact this
        have hq1 : n / kk ≤ n := Int.ediv_le_self _ (by omega)
        have hmul : kk * (n / kk) = n := Int.mul_ediv_cancel' (Int.dvd_of_emod_eq_zero hkm)
        walk_at "ev"
        intro v5 p5 H5 hpl5 hl5 hd5 ok5 k5 hb5
        have hpl' := hpl.keep k5 hb4
        walk_at "ev"
        intro t6 ht6
        generalize hG6 : upd _ t6 _ = H6
        obtain ⟨sm6, hq6⟩ := newO hG6 ht6
        have epl : plen p4 * plen p5 = n := by rw [hl4, hl5, hmul]
        refine q _ (.two wd p4 p5) _ (.two hww hq6 (hpl'.same sm6) (hpl5.same sm6)) epl ?_ ⟨ok4, ok5, by rw [epl]; omega, by rw [epl]; omega⟩ (kp.trans (k2.trans ((keepS sm3).trans (k4.trans (k5.trans (keepS sm6)))))) ((hb5.same sm6).mono (by omega))
        show 1 + max (pdep p4) (pdep p5) ≤ m + 1
        omega
      | str hd0 hn1' hm1 hm2 hs =>
        rename_i a mm
        obtain ⟨m, rfl⟩ : ∃ m, d = m + 1 := ⟨d - 1, by omega⟩
        have hS := hG m rfl
        subst hS
        have htm := tks_pos m
        have etk : tks (m + 1) = 2 + 2 * tks m := rfl
        have edm : (((m + 1 : Nat) : Int) - 1) = (m : Int) := by omega
        have hT : SqT K H2 a [.str "stretch", .int mm] := SqT.of hs
        walk_at "ev"
        intro t3 ht3
        generalize hG3 : upd _ t3 _ = H3
        obtain ⟨sm3, hq3⟩ := newO hG3 ht3
        have hT3 := same_t sm3 hT
        have hin : SqL K H3 t3 [.str "powers", .str "stretch"] ∨ SqT K H3 t3 [.str "powers", .str "stretch"] := .inr (SqT.of hq3)
        have hb3 := hb2.same sm3
        walk_at "ev"
        intro v4 p4 H4 hpl hl4 hd4 ok4 k4 hb4
        walk_at "ev"
        intro t5 ht5
        generalize hG5 : upd _ t5 _ = H5
        obtain ⟨sm5, hq5⟩ := newO hG5 ht5
        refine q _ (.led "stretch" n p4) _ (.led (.inr rfl) hq5 (hpl.same sm5)) rfl ?_ ⟨by omega, by omega, ok4⟩ (kp.trans (k2.trans ((keepS sm3).trans (k4.trans (keepS sm5))))) ((hb4.same sm5).mono (by omega))
        show 1 + pdep p4 ≤ m + 1
        omega
    obtain ⟨tl, htl, fin⟩ := tail
    refine ⟨_, (pss_cons (ps_par (i := 3) (j := 4) (by rfl) nd rfl rfl (by decide) rfl rfl (pa_cons (pe_lst (pa_cons (pe_tup (pa_cons (pe_str) pa_nil)) pa_nil)) (pa_cons (pe_lc (own := [("_law_part", 7)]) (g := gName 7) (by rfl) nd (pi_range2 (by rfl) T.b_range (pa_cons (pe_int) (pa_cons (pv 1) pa_nil))) (blkOk_by (own := [("_law_part", 7)]) (N := N__law_any_plan) (sc := defScope s__law_any_plan) (by decide +kernel)) (fun _ _ _ _ _ => (pg_name (i := 7) nd rfl (Or.inl rfl))) (fun _ _ _ _ _ => pts_one (pt_cmpR op_eq (pe_op op_mod (pv 1) (pv 7)) (pe_int) (nomark _))) (fun _ _ _ _ _ => (pv 7))) pa_nil)) (by rfl))
      (pss_cons (ps_set (i := 3) nd rfl (Or.inl rfl) (pe_op op_cat (pv 3) (pe_op op_rep (pe_lst (pa_cons (pe_tup (pa_cons (pe_str) pa_nil)) pa_nil)) (pe_op op_mul (pe_int) (pe_callTy call_int1 (by rfl) T.b_int (by decide +kernel) (pa_cons (pe_cmpR op_lt (pv 1) (pe_int) (nomark _)) pa_nil))))))
      (pss_cons (ps_if (pt_cmpR op_gt (pv 2) (pe_int) (nomark _)) (pss_cons (ps_set (i := 3) nd rfl (Or.inl rfl) (pe_op op_cat (pv 3) (pe_op op_rep (pe_lc (own := [("_law_part", 7)]) (g := gName 7) (by rfl) nd (pi_list (pv 4)) (blkOk_by (own := [("_law_part", 7)]) (N := N__law_any_plan) (sc := defScope s__law_any_plan) (by decide +kernel)) (fun _ _ _ _ _ => (pg_name (i := 7) nd rfl (Or.inl rfl))) (fun _ _ _ _ _ => pts_nil) (fun _ _ _ _ _ => (pe_tup (pa_cons (pe_str) (pa_cons (pv 7) pa_nil))))) (pe_int))))
      (pss_cons (ps_set (i := 3) nd rfl (Or.inl rfl) (pe_op op_cat (pv 3) (pe_op op_rep (pe_lc (own := [("_law_part", 7)]) (g := gName 7) (by rfl) nd (pi_list (pv 4)) (blkOk_by (own := [("_law_part", 7)]) (N := N__law_any_plan) (sc := defScope s__law_any_plan) (by decide +kernel)) (fun _ _ _ _ _ => (pg_name (i := 7) nd rfl (Or.inl rfl))) (fun _ _ _ _ _ => pts_one (pt_not (pt_val (pe_call G__law_shares (hr.mono (by omega)) (by rfl) D__law_shares.g D__law_shares.F.kp D__law_shares.b .nil pass0 (pa_cons (pv 7) (pa_cons (pe_op op_fdiv (pv 1) (pv 7)) pa_nil)))))) (fun _ _ _ _ _ => (pe_tup (pa_cons (pe_str) (pa_cons (pv 7) pa_nil))))) (pe_int))))
      (pss_cons (ps_set (i := 3) nd rfl (Or.inl rfl) (pe_op op_cat (pv 3) (pe_op op_rep (pe_lst (pa_cons (pe_tup (pa_cons (pe_str) pa_nil)) pa_nil)) (pe_op op_mul (pe_int) (pe_callTy call_int1 (by rfl) T.b_int (by decide +kernel) (pa_cons (pe_and (pe_cmpR op_gt (pv 1) (pe_int) (nomark _)) (pe_one (pe_call G__law_is_plain_prime (hr.mono (by omega)) (by rfl) D__law_is_plain_prime.g D__law_is_plain_prime.F.kp D__law_is_plain_prime.b .nil pass0 (pa_cons (pv 1) pa_nil)))) pa_nil))))))
      (pss_one (ps_if (pt_chain op_lt op_lt (pe_int) (pv 1) (pe_int)) (pss_one (ps_expr (pe_bm PySem.F.plainAttrs_list PySem.F.slot_list_append PySem.F.type_list_append mt_append (pv 3) (pa_cons (pe_tup (pa_cons (pe_str) (pa_cons (pe_op op_add (pe_op op_sub (pe_op op_mul (pe_int) (pv 1)) (pe_int)) (pe_call G__law_take (hr.mono (by omega)) (by rfl) D__law_take.g D__law_take.F.kp D__law_take.b .nil pass0 (pa_cons (pv 0) (pa_cons (pe_callB (call_min2 rfl) (by rfl) T.b_min (by decide +kernel) (pa_cons (pe_op op_add (pe_op op_mul (pe_int) (pv 1)) (pe_int)) (pa_cons (pe_op op_sub (pe_int) (pe_op op_mul (pe_int) (pv 1))) pa_nil))) pa_nil)))) pa_nil))) pa_nil)))) pss_nil))))) pss_nil)
      htl))), ?_⟩
    walk_at "ev"
    intro t0 ht0
    generalize hG0 : upd _ t0 _ = H1
    obtain ⟨sm1, hq0⟩ := newO hG0 ht0
    walk_at "ev"
    intro l0 hl0
    generalize hG1 : upd _ l0 _ = H2
    obtain ⟨sm2, hq1⟩ := newO hG1 hl0
    have sm02 := sm1.trans sm2
    walk_at "ev"
    intro D hD
    have hDf : H D = none := sm02.free hD
    refine lc_range (lo := 2) (n := _) (fun i H' => Hold (∃ ks : List Int, Same H2 H' ∧ H' D = some (.lst (ks.map V.int)) ∧ ks.length ≤ i ∧ ∀ k ∈ ks, 2 ≤ k ∧ k < n ∧ n % k = 0)) (.mk ⟨[], same_new hD, upd_same, Nat.zero_le _, by simp⟩) ?_ ?_
    · intro i H3 hi hP
      obtain ⟨ks, sm3, hD3, hl3, hk3⟩ := hP.un
      have hfl : (ks.map V.int).length < sizeLine := by
        rw [List.length_map]
        exact szm (by omega)
      walk_at "ev"
      refine ite2 (fun e => ?_) (fun e => ?_)
      · have e1 : n % (2 + (i : Int)) = 0 := V.int.inj (of_decide_eq_true e)
        walk_at "ev"
        refine .mk ⟨ks ++ [2 + (i : Int)], same_mut sm3 hD, ?_, ?_, ?_⟩
        · rw [upd_same, List.map_append]
          rfl
        · simp
          omega
        · intro k hk
          rcases List.mem_append.mp hk with h | h
          · exact hk3 k h
          · have e2 : k = 2 + (i : Int) := by simpa using h
            subst e2
            exact ⟨by omega, by omega, e1⟩
      · exact .mk ⟨ks, sm3, hD3, by omega, hk3⟩
    · intro H3 hP
      obtain ⟨ks, sm3, hD3, hl3, hk3⟩ := hP.un
      have hkl : ks.length ≤ 242 := by omega
      have sm03 := sm02.trans sm3
      walk_at "ev"
      intro t1 ht1
      generalize hG3 : upd _ t1 _ = H4
      obtain ⟨sm4, hq4⟩ := newO hG3 ht1
      walk_at "ev"
      intro l1 hl1
      generalize hG4 : upd _ l1 _ = H5
      obtain ⟨sm5, hq5⟩ := newO hG4 hl1
      have hcm : CMul 2 (if decide (n < 5) = true then 1 else 0) := .inl ⟨by decide, by decide⟩
      have hk0 : 0 ≤ (2 * (if decide (n < 5) = true then 1 else 0) : Int) ∧ (2 * (if decide (n < 5) = true then 1 else 0) : Int) ≤ 2 := by split <;> decide
      walk_at "ev"
      generalize hkk : (2 * (if decide (n < 5) = true then 1 else 0) : Int) = kk at *
      have hr1 : -(2 ^ 63 : Int) ≤ kk := by omega
      have hr2 : kk < (2 ^ 63 : Int) := by omega
      have hr3 : [V.ref t1].length * kk.toNat ≤ sizeLine := by
        show 1 * kk.toNat ≤ sizeLine
        exact szl (by omega)
      walk_at "ev"
      intro l2 hl2
      generalize hG5 : upd _ l2 _ = H6
      obtain ⟨sm6, hq6⟩ := newO hG5 hl2
      have hq7 := (sm3.trans (sm4.trans (sm5.trans sm6))) _ _ hq1
      have hr4 : [V.ref t0].length + (List.replicate kk.toNat [V.ref t1]).flatten.length ≤ sizeLine := by
        rw [len_rep]
        show 1 + kk.toNat * 1 ≤ sizeLine
        exact szl (by omega)
      walk_at "ev"
      intro l3 hl3
      generalize hG6 : upd _ l3 _ = H7
      obtain ⟨sm7, hq8⟩ := newO hG6 hl3
      have sm47 : Same H3 H7 := sm4.trans (sm5.trans (sm6.trans sm7))
      have sm07 : Same H H7 := sm03.trans sm47
      have hb7 := hb.same sm07
      have hw7 : ∀ x ∈ [V.ref t0] ++ (List.replicate kk.toNat [V.ref t1]).flatten, Way H7 n d x := by
        intro x hx
        rcases List.mem_append.mp hx with h | h
        · have e : x = .ref t0 := by simpa using h
          rw [e]
          exact .leaf (.inl rfl) ((sm2.trans (sm3.trans sm47)) _ _ hq0)
        · have e : x = .ref t1 := by simpa using (mem_rep h).1
          rw [e]
          exact .leaf (.inr rfl) ((sm5.trans (sm6.trans sm7)) _ _ hq4)
      have hl7 : ([V.ref t0] ++ (List.replicate kk.toNat [V.ref t1]).flatten).length ≤ 3 ∧ 0 < ([V.ref t0] ++ (List.replicate kk.toNat [V.ref t1]).flatten).length := by
        rw [List.length_append, len_rep]
        show 1 + kk.toNat * 1 ≤ 3 ∧ 0 < 1 + kk.toNat * 1
        omega
      generalize [V.ref t0] ++ (List.replicate kk.toNat [V.ref t1]).flatten = xs7 at *
      have nl3b : l3 ≠ b := (hb.same (sm03.trans (sm4.trans (sm5.trans sm6)))).ne hl3
      have hD7 := sm47 _ _ hD3
      walk_at "ev"
      refine ite2 (fun e => ?_) (fun e => ?_)
      · have hd0 : 0 < d := by
          have := of_decide_eq_true e
          omega
        have hLD : SqL K H7 D (ks.map V.int) := SqL.of hD7
        have hLD' : ∃ xs, SqL K H7 D xs := ⟨_, hLD⟩
        clear hG0 hG1 hG3 hG4 hG5 hG6 hP
        walk_at "ev"
        intro E1 hE1
        refine lc_list (K := K) (a := D) (xs := ks.map V.int) (fun i H' => Hold (∃ ys : List V, Same H7 H' ∧ H' E1 = some (.lst ys) ∧ ys.length = i ∧ ∀ y ∈ ys, Way H' n d y)) (.mk ⟨[], same_new hE1, upd_same, rfl, by simp⟩) ?_ ?_ ?_
        · intro i H8 hi hP8
          obtain ⟨ys, sm8, hE8, hl8, hw8⟩ := hP8.un
          exact sm8.seq hLD
        · intro i x H8 hx hP8
          obtain ⟨ys, sm8, hE8, hl8, hw8⟩ := hP8.un
          obtain ⟨k, hk, rfl⟩ := int_mem (List.mem_of_getElem? hx)
          obtain ⟨k1, k2, k3⟩ := hk3 k hk
          have hil : i < (ks.map V.int).length := (List.getElem?_eq_some_iff.mp hx).1
          rw [List.length_map] at hil
          walk_at "ev"
          intro t9 ht9
          generalize hG9 : upd _ t9 _ = H9
          obtain ⟨sm9, hq9⟩ := newO hG9 ht9
          have hE9 := sm9 _ _ hE8
          refine ⟨_, hE9, szm (by omega), .mk ⟨ys ++ [.ref t9], same_mut (sm8.trans sm9) hE1, upd_same, by simp [hl8], ?_⟩⟩
          have nt : t9 ≠ E1 := (ne_of_none hE8 ht9).symm
          intro y hy
          have h9 : Way H9 n d y := by
            rcases List.mem_append.mp hy with h | h
            · exact (hw8 y h).same sm9
            · have ey : y = .ref t9 := by simpa using h
              rw [ey]
              exact .two (.inl rfl) hd0 k1 k2 k3 hq9
          exact h9.mut hE9
        · intro H8 hP8
          obtain ⟨ys, sm8, hE8, hl8, hw8⟩ := hP8.un
          rw [List.length_map] at hl8
          have hr5 : ys.length * (2 : Int).toNat ≤ sizeLine := by
            show ys.length * 2 ≤ sizeLine
            exact szl (by omega)
          walk_at "ev"
          intro l9 hl9
          generalize hG9 : upd _ l9 _ = H9
          obtain ⟨sm9, hq9⟩ := newO hG9 hl9
          have hq10 := (sm8.trans sm9) _ _ hq8
          have hlr : (List.replicate (2 : Int).toNat ys).flatten.length = 2 * ys.length := len_rep 2
          have hr6 : xs7.length + (List.replicate (2 : Int).toNat ys).flatten.length ≤ sizeLine := by
            rw [hlr]
            exact szl (by omega)
          walk_at "ev"
          intro l10 hl10
          generalize hG10 : upd _ l10 _ = H10
          obtain ⟨sm10, hq11⟩ := newO hG10 hl10
          have sm710 : Same H7 H10 := sm8.trans (sm9.trans sm10)
          have hw10 : ∀ x ∈ xs7 ++ (List.replicate (2 : Int).toNat ys).flatten, Way H10 n d x := by
            intro x hx
            rcases List.mem_append.mp hx with h | h
            · exact (hw7 x h).same sm710
            · exact (hw8 x (mem_rep h).1).same (sm9.trans sm10)
          have hl10' : (xs7 ++ (List.replicate (2 : Int).toNat ys).flatten).length ≤ 500 ∧ 0 < (xs7 ++ (List.replicate (2 : Int).toNat ys).flatten).length := by
            rw [List.length_append, hlr]
            omega
          generalize xs7 ++ (List.replicate (2 : Int).toNat ys).flatten = xs10 at *
          have hD10 := sm710 _ _ hD7
          have hLD10 : SqL K H10 D (ks.map V.int) := SqL.of hD10
          have hLD10' : ∃ xs, SqL K H10 D xs := ⟨_, hLD10⟩
          clear hG9 hG10 hP8
          walk_at "ev"
          intro E2 hE2
          refine lc_list (K := K) (a := D) (xs := ks.map V.int) (fun i H' => Hold (∃ ys : List V, Same H10 H' ∧ H' E2 = some (.lst ys) ∧ ys.length ≤ i ∧ ∀ y ∈ ys, Way H' n d y)) (.mk ⟨[], same_new hE2, upd_same, Nat.zero_le _, by simp⟩) ?_ ?_ ?_
          · intro i H11 hi hP11
            obtain ⟨zs, sm11, hE11, hl11, hw11⟩ := hP11.un
            exact sm11.seq hLD10
          · intro i x H11 hx hP11
            obtain ⟨zs, sm11, hE11, hl11, hw11⟩ := hP11.un
            obtain ⟨k, hk, rfl⟩ := int_mem (List.mem_of_getElem? hx)
            obtain ⟨k1, k2, k3⟩ := hk3 k hk
            have hil : i < (ks.map V.int).length := (List.getElem?_eq_some_iff.mp hx).1
            rw [List.length_map] at hil
            have hq0' : 0 ≤ n / k := Int.ediv_nonneg (by omega) (by omega)
            walk_at "ev"
            intro bb
            walk_at "ev"
            refine ite2 (fun e2 => ?_) (fun e2 => ?_)
            · walk_at "ev"
              intro t9 ht9
              generalize hG9 : upd _ t9 _ = H12
              obtain ⟨sm12, hq12⟩ := newO hG9 ht9
              have hE12 := sm12 _ _ hE11
              refine ⟨_, hE12, szm (by omega), .mk ⟨zs ++ [.ref t9], same_mut (sm11.trans sm12) hE2, upd_same, by simp; omega, ?_⟩⟩
              intro y hy
              have h9 : Way H12 n d y := by
                rcases List.mem_append.mp hy with h | h
                · exact (hw11 y h).same sm12
                · have ey : y = .ref t9 := by simpa using h
                  rw [ey]
                  exact .two (.inr rfl) hd0 k1 k2 k3 hq12
              exact h9.mut hE12
            · exact .mk ⟨zs, sm11, hE11, by omega, hw11⟩
          · intro H11 hP11
            obtain ⟨zs, sm11, hE11, hl11, hw11⟩ := hP11.un
            rw [List.length_map] at hl11
            have hr7 : zs.length * (2 : Int).toNat ≤ sizeLine := by
              show zs.length * 2 ≤ sizeLine
              exact szl (by omega)
            walk_at "ev"
            intro l12 hl12
            generalize hG12 : upd _ l12 _ = H12
            obtain ⟨sm12, hq12⟩ := newO hG12 hl12
            have hq13 := (sm11.trans sm12) _ _ hq11
            have hlr2 : (List.replicate (2 : Int).toNat zs).flatten.length = 2 * zs.length := len_rep 2
            have hr8 : xs10.length + (List.replicate (2 : Int).toNat zs).flatten.length ≤ sizeLine := by
              rw [hlr2]
              exact szl (by omega)
            walk_at "ev"
            intro l13 hl13
            generalize hG13 : upd _ l13 _ = H13
            obtain ⟨sm13, hq14⟩ := newO hG13 hl13
            have sm1013 : Same H10 H13 := sm11.trans (sm12.trans sm13)
            have hw13 : ∀ x ∈ xs10 ++ (List.replicate (2 : Int).toNat zs).flatten, Way H13 n d x := by
              intro x hx
              rcases List.mem_append.mp hx with h | h
              · exact (hw10 x h).same sm1013
              · exact (hw11 x (mem_rep h).1).same (sm12.trans sm13)
            have hl13' : (xs10 ++ (List.replicate (2 : Int).toNat zs).flatten).length ≤ 1000 ∧ 0 < (xs10 ++ (List.replicate (2 : Int).toNat zs).flatten).length := by
              rw [List.length_append, hlr2]
              omega
            generalize xs10 ++ (List.replicate (2 : Int).toNat zs).flatten = xs13 at *
            clear hG12 hG13 hP11
            walk_at "ev"
            intro t14 ht14
            generalize hG14 : upd _ t14 _ = H14
            obtain ⟨sm14, hq15⟩ := newO hG14 ht14
            walk_at "ev"
            intro l15 hl15
            generalize hG15 : upd _ l15 _ = H15
            obtain ⟨sm15, hq16⟩ := newO hG15 hl15
            have key : ∀ (σ : L2.St) (R : VK), σ[1]? = some (some (.int n)) → (∀ kk H16, Same H15 H16 → 0 ≤ kk → kk ≤ 3 → (0 < kk → 2 < n) → R (.int kk) H16) → tOp (rI CMul fun i j => V.int (i * j)) (tC (V.int 3)) (tCB (fun xs H Q => (∃ i, xs = [V.int i] ∧ Q (V.int i) H) ∨ ∃ k, xs = [V.bl k] ∧ Q (V.int (if k = true then 1 else 0)) H) (tCons (tAndV (tOp (rI0 fun i j => V.bl (decide (j < i))) (tVar 1) (tC (V.int 2))) (tCall spPlainPrime [] E0 (tCons (tVar 1) tNil))) tNil)) σ H15 R := by
              intro σ R h1 hR
              have cm3 : ∀ z : Int, CMul 3 z := fun z => .inl ⟨by decide, by decide⟩
              refine ⟨_, h1, _, _, rfl, rfl, _, rfl, ?_⟩
              refine ite2 (fun e3 => ?_) (fun e3 => ?_)
              · have e4 : 2 < n := of_decide_eq_true e3
                refine ⟨_, h1, n, rfl, by omega, by omega, ?_⟩
                intro bb H16 sm16
                refine .inr ⟨bb, rfl, _, _, rfl, rfl, cm3 _, ?_⟩
                refine hR _ _ sm16 ?_ ?_ (fun _ => e4)
                · cases bb <;> decide
                · cases bb <;> decide
              · refine .inr ⟨false, rfl, _, _, rfl, rfl, cm3 _, ?_⟩
                exact hR _ _ (Same.refl _) (by decide) (by decide) (fun z => absurd z (by decide))
            refine key _ _ rfl (fun kk H16 sm16 k0 k3 kn => ?_)
            have hq17 := sm16 _ _ hq16
            have hr9 : -(2 ^ 63 : Int) ≤ kk := by omega
            have hr10 : kk < (2 ^ 63 : Int) := by omega
            have hr11 : [V.ref t14].length * kk.toNat ≤ sizeLine := by
              show 1 * kk.toNat ≤ sizeLine
              exact szl (by omega)
            clear key
            walk_at "ev"
            intro l17 hl17
            generalize hG17 : upd _ l17 _ = H17
            obtain ⟨sm17, hq18⟩ := newO hG17 hl17
            have hq19 := (sm14.trans (sm15.trans (sm16.trans sm17))) _ _ hq14
            have hr12 : xs13.length + (List.replicate kk.toNat [V.ref t14]).flatten.length ≤ sizeLine := by
              rw [len_rep]
              exact szl (by simp; omega)
            walk_at "ev"
            intro l18 hl18
            generalize hG18 : upd _ l18 _ = H18
            obtain ⟨sm18, hq20⟩ := newO hG18 hl18
            have sm1318 : Same H13 H18 := sm14.trans (sm15.trans (sm16.trans (sm17.trans sm18)))
            have hw18 : ∀ x ∈ xs13 ++ (List.replicate kk.toNat [V.ref t14]).flatten, Way H18 n d x := by
              intro x hx
              rcases List.mem_append.mp hx with h | h
              · exact (hw13 x h).same sm1318
              · have hm := mem_rep h
                have ex : x = .ref t14 := by simpa using hm.1
                rw [ex]
                exact .pow hd0 (kn (by omega)) ((sm15.trans (sm16.trans (sm17.trans sm18))) _ _ hq15)
            have hl18' : (xs13 ++ (List.replicate kk.toNat [V.ref t14]).flatten).length ≤ 1100 ∧ 0 < (xs13 ++ (List.replicate kk.toNat [V.ref t14]).flatten).length := by
              rw [List.length_append, len_rep]
              simp
              omega
            generalize xs13 ++ (List.replicate kk.toNat [V.ref t14]).flatten = xs18 at *
            have sm018 : Same H H18 := sm07.trans (sm710.trans (sm1013.trans sm1318))
            have hb18 : BoxAt H18 b (c + 0) := by
              rw [Int.add_zero]
              exact hb.same sm018
            have hb17 : BoxAt H17 b c := hb.same (sm07.trans (sm710.trans (sm1013.trans (sm14.trans (sm15.trans (sm16.trans sm17))))))
            have nl18 : l18 ≠ b := hb17.ne hl18
            clear hG14 hG15 hG17 hG18
            walk_at "ev"
            refine ite2 (fun e5 => ?_) (fun e5 => ?_)
            · have e6 : 1 < n := of_decide_eq_true e5
              walk_at "ev"
              refine ite2 (fun e7 => ?_) (fun e7 => ?_)
              · have e8 : n < 121 := of_decide_eq_true e7
                have hL18 : SqL K H18 l18 xs18 := SqL.of hq20
                have hty : tyV K "list" (.ref l18) H18 := .inl ⟨rfl, _, hL18⟩
                have cm2 : CMul 2 n := .inl ⟨by decide, by decide⟩
                have hmin : 0 < (if 242 - 2 * n < 2 * n + 2 then 242 - 2 * n else 2 * n + 2) ∧ (if 242 - 2 * n < 2 * n + 2 then 242 - 2 * n else 2 * n + 2) ≤ 242 - 2 * n := by split <;> omega
                walk_at "ev"
                intro r H19 r0 r1 k19 hb19
                walk_at "ev"
                intro t20 ht20
                generalize hG20 : upd _ t20 _ = H20
                obtain ⟨sm20, hq21⟩ := newO hG20 ht20
                have hq22 := sm20 _ _ (k19 _ _ nl18 hq20)
                have hsz18 : xs18.length < sizeLine := szm (by omega)
                refine ⟨l18, xs18, _, rfl, rfl, hq22, hsz18, ?_⟩
                generalize hG21 : upd _ l18 _ = H21
                obtain ⟨k21, hq23⟩ := mutO hG21
                have hb20 := hb19.same sm20
                have hb21 : BoxAt H21 b (c + 1) := by
                  obtain ⟨x, y, z, e1, e2⟩ := hb20
                  refine BoxAt.mono ⟨x, y, z, k21 _ _ nl18.symm e1, e2⟩ (by omega)
                have hl18f : H l18 = none := (sm07.trans (sm710.trans (sm1013.trans (sm14.trans (sm15.trans (sm16.trans sm17)))))).free hl18
                have kf : Keep b H H21 := fun x o nx hx => k21 _ _ (ne_of_none hx hl18f) ((keepS sm20) _ _ nx (k19 _ _ nx (sm018 _ _ hx)))
                refine fin l18 _ H21 _ _ _ _ 1 kf hb21 (.inr ⟨rfl, hd0⟩) hq23 nl18 ?_ (by simp) (by simp; omega)
                intro x hx
                have h20 : Way H20 n d x := by
                  rcases List.mem_append.mp hx with h | h
                  · exact ((hw18 x h).keep k19 hb18).same sm20
                  · have ex : x = .ref t20 := by simpa using h
                    rw [ex]
                    exact .str hd0 e6 (by omega) (by omega) hq21
                rw [← hG21]
                exact h20.mut hq22
              · exact fin l18 xs18 H18 _ _ _ _ 0 (keepS sm018) hb18 (.inl rfl) hq20 nl18 hw18 hl18'.2 (by omega)
            · walk_at "ev"
              exact fin l18 xs18 H18 _ _ _ _ 0 (keepS sm018) hb18 (.inl rfl) hq20 nl18 hw18 hl18'.2 (by omega)
      · have hbz : BoxAt H7 b (c + 0) := by rw [Int.add_zero]; exact hb7
        exact fin l3 xs7 H7 _ _ _ _ 0 (keepS sm07) hbz (.inl rfl) hq8 nl3b hw7 hl7.2 (by omega)
theorem ok_any {f f1 f2 f3 f4 : Addr} {fd d1 d2 d3 d4 : FuncData} (D__law_any_plan : Df K mg "_law_any_plan" s__law_any_plan P__law_any_plan f fd) (T : Blt mg) (D__law_take : Df K mg "_law_take" s__law_take P__law_take f1 d1) (D__law_pick : Df K mg "_law_pick" s__law_pick P__law_pick f2 d2) (D__law_shares : Df K mg "_law_shares" s__law_shares P__law_shares f3 d3) (D__law_is_plain_prime : Df K mg "_law_is_plain_prime" s__law_is_plain_prime P__law_is_plain_prime f4 d4) : ∀ d : Nat, FnOk P w K mg base CX0 (d + 3) f fd P__law_any_plan (spAny K d)
  | 0 => any_step (spI := fun _ _ _ _ => False) D__law_any_plan T D__law_take D__law_pick D__law_shares D__law_is_plain_prime ⟨fun _ _ _ _ h => h.elim, fun _ _ _ _ _ _ _ _ _ _ _ _ _ h => h.elim⟩ (fun m h => by omega)
  | d + 1 => any_step D__law_any_plan T D__law_take D__law_pick D__law_shares D__law_is_plain_prime (ok_any D__law_any_plan T D__law_take D__law_pick D__law_shares D__law_is_plain_prime d) (fun m h => by cases h; rfl)
end
abbrev s_law : Stmt := top 16
abbrev N_law : List Str := ["_law_script", "_law_k", "_law_box_here", "_law_turn", "_law_one", "_law_length", "_law_outer", "_law_fits", "_law_other", "_law_fine", "_law_whole", "_law_known", "_law_part"]
abbrev P_law : List Str := ["_law_script"]
theorem sc_law : FnScope N_law P_law (defScope s_law) := ⟨rfl, rfl, rfl, by decide +kernel, rfl, by decide +kernel, by decide +kernel⟩
def spLaw (K : PySem.W.Frag) : Sp := fun vs H Q _ => ∃ (a : Addr) (ns : List Int), vs = [.ref a] ∧ SqL K H a (ns.map V.int) ∧ ns.length ≤ 63 ∧ ∀ H', Q (.bl true) H'
theorem tks_le : ∀ d : Nat, d ≤ 4 → tks d ≤ 62
  | 0, _ => by decide
  | 1, _ => by decide
  | 2, _ => by decide
  | 3, _ => by decide
  | 4, _ => by decide
  | d + 5, h => by omega
theorem in_ints {k : Int} {ns : List Int} (h : k ∈ ns) : inV (.int k) (ns.map V.int) = true := by
  unfold inV
  rw [List.any_eq_true]
  refine ⟨.int k, List.mem_map.mpr ⟨k, h, rfl⟩, ?_⟩
  show (k == k) = true
  simp
theorem flat_ints (ns : List Int) : (ns.map V.int).all flatV = true := by
  rw [List.all_eq_true]
  intro x hx
  obtain ⟨k, _, e⟩ := List.mem_map.mp hx
  rw [← e]
  rfl
theorem chain_ite {k : Bool} {σ : L2.St} {H : Hp} {R : VK} {m y : Int} {f : Int → Int → Bool} (hR : ∀ b, R (.bl b) H) : if k = true then tC (.int y) σ H (fun w' H4 => rI0 (fun i j => V.bl (f i j)) (.int m) w' H4 R) else R (.bl false) H := by
  cases k with
  | true => exact iteT ⟨m, y, rfl, rfl, hR _⟩
  | false => exact iteF (hR false)
theorem and_ite {k : Bool} {te : TE} {σ : L2.St} {H : Hp} {Q : VK} (h1 : (∀ b, Q (.bl b) H) → te σ H Q) (hQ : ∀ b, Q (.bl b) H) : if k = true then te σ H Q else Q (.bl false) H := by
  cases k with
  | true => exact iteT (h1 hQ)
  | false => exact iteF (hQ false)
def spAnyU (K : PySem.W.Frag) : Sp := fun vs H Q E => ∃ d : Nat, d ≤ 4 ∧ spAny K d vs H Q E
structure Fns (P : Program) (w : World) (K : PySem.W.Frag) (mg : Str → Option Value) (base : Heap) : Prop where
  box : ∃ f fd, Df K mg "_law_box" s__law_box P__law_box f fd
  take : ∃ f fd, Df K mg "_law_take" s__law_take P__law_take f fd
  pick : ∃ f fd, Df K mg "_law_pick" s__law_pick P__law_pick f fd
  same : ∃ f fd, Df K mg "_law_same" s__law_same P__law_same f fd
  shares : ∃ f fd, Df K mg "_law_shares" s__law_shares P__law_shares f fd
  plainp : ∃ f fd, Df K mg "_law_is_plain_prime" s__law_is_plain_prime P__law_is_plain_prime f fd
  anyp : ∃ f fd, Df K mg "_law_any_plan" s__law_any_plan P__law_any_plan f fd
  lof : ∃ f fd, Df K mg "_law_length_of" s__law_length_of P__law_length_of f fd
  own : ∃ f fd, Df K mg "_law_lengths_in" s__law_lengths_in P__law_lengths_in f fd
  right : ∃ f fd, Df K mg "_law_right" s__law_right P__law_right f fd
  plen : ∃ f fd, Df K mg "plan_length" s_plan_length P_plan_length f fd
  inner : ∃ f fd, Df K mg "inner_plans" s_inner_plans P_inner_plans f fd
  lens : ∃ f fd, Df K mg "lengths_in" s_lengths_in P_lengths_in f fd
  plens : ∃ f fd, Df K mg "plan_lengths" s_plan_lengths P_plan_lengths f fd
section
variable {P : Program} {w : World} {K : PySem.W.Frag} {mg : Str → Option Value} {base : Heap}
theorem ok_law {f : Addr} {fd : FuncData} (F : Fun K "law" "law" s_law f fd) (T : Blt mg) (U : Fns P w K mg base) : FnOk P w K mg base CX0 10 f fd P_law (spLaw K) := by
  obtain ⟨⟨f1, d1, D__law_box⟩, ⟨f2, d2, D__law_take⟩, ⟨f3, d3, D__law_pick⟩, ⟨f4, d4, D__law_same⟩, ⟨f5, d5, D__law_shares⟩, ⟨f6, d6, D__law_is_plain_prime⟩, ⟨f7, d7, D__law_any_plan⟩, ⟨f8, d8, D__law_length_of⟩, ⟨f9, d9, D__law_lengths_in⟩, ⟨f10, d10, D__law_right⟩, ⟨f11, d11, D_plan_length⟩, ⟨f12, d12, D_inner_plans⟩, ⟨f13, d13, D_lengths_in⟩, ⟨f14, d14, D_plan_lengths⟩⟩ := U
  have G__law_box : FnOk P w K mg base CX0 1 f1 d1 P__law_box (spBox K) := ok_box D__law_box.F T
  have G__law_take : FnOk P w K mg base CX0 1 f2 d2 P__law_take spTake := ok_take D__law_take.F
  have G__law_same : FnOk P w K mg base CX0 3 f4 d4 P__law_same (spSame K 2) := ok_same D__law_same T 2
  have G0 : ∀ d : Nat, FnOk P w K mg base CX0 (d + 3) f7 d7 P__law_any_plan (spAny K d) := ok_any D__law_any_plan T D__law_take D__law_pick D__law_shares D__law_is_plain_prime
  have G__law_any_plan : FnOk P w K mg base CX0 7 f7 d7 P__law_any_plan (spAnyU K) := ⟨fun vs H Q E ⟨d, hd, h⟩ => (G0 d).len vs H Q E h, fun A outer s H args us vs Q E hr he hb hv ⟨d, hd, h⟩ => (G0 d).run A outer s H args us vs Q E (hr.mono (by omega)) he hb hv h⟩
  have G__law_length_of : FnOk P w K mg base CX0 6 f8 d8 P__law_length_of (spPlen K 5) := ok_lof D__law_length_of T 5
  have G__law_right : FnOk P w K mg base CX0 9 f10 d10 P__law_right (spRight K) := ok_right D__law_right.F D_plan_lengths D_lengths_in D_plan_length D_inner_plans D__law_lengths_in D__law_length_of D__law_same T
  have G_plan_lengths : FnOk P w K mg base CX0 8 f14 d14 P_plan_lengths (spPlens K) := ok_plens D_plan_lengths.F D_lengths_in D_plan_length D_inner_plans T
  have nd := sc_law.nd
  refine F.ok sc_law (fun vs H Q E h => ?_) (fun cdv A outer s H vs Q E hr h => ?_)
  · obtain ⟨a, ns, rfl, _⟩ := h
    rfl
  · obtain ⟨a, ns, rfl, hS, hlen, q⟩ := h
    refine ⟨_, (pss_cons (ps_for PassesOwn.never rfl (pi_range1 (by rfl) T.b_range (pa_cons (pe_op op_add (pe_int) (pe_callB (call_min2 rfl) (by rfl) T.b_min (by decide +kernel) (pa_cons (pe_int) (pa_cons (pe_callB (r := rLenQ K) call_len_seq (by rfl) T.b_len (by decide +kernel) (pa_cons (pv 0) pa_nil)) pa_nil)))) pa_nil)) (pg_name (i := 1) nd rfl (Or.inl rfl))
      (pss_cons (ps_set (i := 2) nd rfl (Or.inl rfl) (pe_call G__law_box (hr.mono (by omega)) (by rfl) D__law_box.g D__law_box.F.kp D__law_box.b .nil pass0 (pa_cons (pv 0) (pa_cons (pv 1) pa_nil))))
      (pss_one (ps_for PassesOwn.never rfl (pi_range1 (by rfl) T.b_range (pa_cons (pe_int) pa_nil)) (pg_name (i := 3) nd rfl (Or.inl rfl))
      (pss_cons (ps_set (i := 4) nd rfl (Or.inl rfl) (pe_call G__law_any_plan (hr.mono (by omega)) (by rfl) D__law_any_plan.g D__law_any_plan.F.kp D__law_any_plan.b .nil pass0 (pa_cons (pv 2) (pa_cons (pe_op op_add (pe_int) (pe_call G__law_take (hr.mono (by omega)) (by rfl) D__law_take.g D__law_take.F.kp D__law_take.b .nil pass0 (pa_cons (pv 2) (pa_cons (pe_int) pa_nil)))) (pa_cons (pe_ix (r := rIxL K) ix_list (pe_lst (pa_cons (pe_int) (pa_cons (pe_int) (pa_cons (pe_int) pa_nil)))) (pe_call G__law_take (hr.mono (by omega)) (by rfl) D__law_take.g D__law_take.F.kp D__law_take.b .nil pass0 (pa_cons (pv 2) (pa_cons (pe_int) pa_nil))) (fun _ _ => rfl)) pa_nil)))))
      (pss_cons (ps_if (pt_not (pt_val (pe_call G__law_right (hr.mono (by omega)) (by rfl) D__law_right.g D__law_right.F.kp D__law_right.b .nil pass0 (pa_cons (pv 4) pa_nil)))) (pss_one (ps_ret (pe_bl))) pss_nil)
      (pss_cons (ps_set (i := 5) nd rfl (Or.inl rfl) (pe_call G__law_length_of (hr.mono (by omega)) (by rfl) D__law_length_of.g D__law_length_of.F.kp D__law_length_of.b .nil pass0 (pa_cons (pv 4) pa_nil)))
      (pss_cons (ps_set (i := 6) nd rfl (Or.inl rfl) (pe_lst (pa_cons (pe_tup (pa_cons (pe_str) (pa_cons (pe_tup (pa_cons (pe_str) (pa_cons (pe_int) pa_nil))) (pa_cons (pv 4) pa_nil)))) (pa_cons (pe_tup (pa_cons (pe_str) (pa_cons (pe_op op_add (pe_int) (pe_call G__law_take (hr.mono (by omega)) (by rfl) D__law_take.g D__law_take.F.kp D__law_take.b .nil pass0 (pa_cons (pv 2) (pa_cons (pe_int) pa_nil)))) (pa_cons (pv 4) pa_nil)))) pa_nil))))
      (pss_cons (ps_expr (pe_bm PySem.F.plainAttrs_list PySem.F.slot_list_append PySem.F.type_list_append mt_append (pv 6) (pa_cons (pe_tup (pa_cons (pe_str) (pa_cons (pv 4) (pa_cons (pe_tup (pa_cons (pe_str) (pa_cons (pe_int) pa_nil))) pa_nil)))) pa_nil)))
      (pss_cons (ps_set (i := 7) nd rfl (Or.inl rfl) (pe_lst (pa_cons (pe_chain op_lt op_lt (pe_int) (pv 5) (pe_int)) (pa_cons (pe_cmpR op_gt (pv 5) (pe_int) (nomark _)) (pa_cons (pe_and (pe_chain op_lt op_lt (pe_int) (pv 5) (pe_int)) (pe_one (pe_cmpR op_gt (pe_op op_mod (pv 5) (pe_int)) (pe_int) (nomark _)))) pa_nil)))))
      (pss_one (ps_for PassesOwn.never rfl (pi_zip (by rfl) T.b_zip (pa_cons (pv 6) (pa_cons (pv 7) pa_nil))) (pg_tup (by rfl) (pgs_cons (pg_name (i := 8) nd rfl (Or.inl rfl)) (pgs_cons (pg_name (i := 9) nd rfl (Or.inl rfl)) pgs_nil)))
      (pss_cons (ps_if (PW.pt (pw_and (pt_val (pv 9)) (pw_and1 (pt_not (pt_val (pe_call G__law_right (hr.mono (by omega)) (by rfl) D__law_right.g D__law_right.F.kp D__law_right.b .nil pass0 (pa_cons (pv 8) pa_nil))))))) (pss_one (ps_ret (pe_bl))) pss_nil)
      (pss_cons (ps_set (i := 10) nd rfl (Or.inr rfl) (pe_ifExp (pt_val (pv 9)) (pe_call G_plan_lengths (hr.mono (by omega)) (by rfl) D_plan_lengths.g D_plan_lengths.F.kp D_plan_lengths.b .nil pass0 (pa_cons (pv 8) pa_nil)) (pe_call G_plan_lengths (hr.mono (by omega)) (by rfl) D_plan_lengths.g D_plan_lengths.F.kp D_plan_lengths.b .nil pass0 (pa_cons (pv 4) pa_nil))))
      (pss_one (ps_if (pt_not (pt_val (pe_callB (r := rAll K) (cr_all rfl) (by rfl) T.b_all (by decide +kernel) (pa_cons (pe_lc (own := [("_law_part", 12)]) (g := gName 12) (by rfl) nd (pi_list (pe_call G_plan_lengths (hr.mono (by omega)) (by rfl) D_plan_lengths.g D_plan_lengths.F.kp D_plan_lengths.b .nil pass0 (pa_cons (pv 4) pa_nil))) (blkOk_by (own := [("_law_part", 12)]) (N := N_law) (sc := defScope s_law) (by decide +kernel)) (fun _ _ _ _ _ => (pg_name (i := 12) nd rfl (Or.inl rfl))) (fun _ _ _ _ _ => pts_nil) (fun _ _ _ _ _ => (pe_cmpR (r := rIn K false) op_in_seq (pv 12) (pv 10) (by rfl)))) pa_nil)))) (pss_one (ps_ret (pe_bl))) pss_nil))))))))))))))))
      (pss_cons (ps_set (i := 11) nd rfl (Or.inl rfl) (pe_tup (pa_cons (pe_str) (pa_cons (pe_tup (pa_cons (pe_str) (pa_cons (pe_int) (pa_cons (pe_tup (pa_cons (pe_str) (pa_cons (pe_int) pa_nil))) pa_nil)))) (pa_cons (pe_tup (pa_cons (pe_str) (pa_cons (pe_int) (pa_cons (pe_tup (pa_cons (pe_str) (pa_cons (pe_tup (pa_cons (pe_str) (pa_cons (pe_int) pa_nil))) (pa_cons (pe_tup (pa_cons (pe_str) (pa_cons (pe_int) pa_nil))) pa_nil)))) pa_nil)))) pa_nil)))))
      (pss_one (ps_ret (pe_call G__law_same (hr.mono (by omega)) (by rfl) D__law_same.g D__law_same.F.kp D__law_same.b .nil pass0 (pa_cons (pe_lst (pa_cons (pe_call G_plan_lengths (hr.mono (by omega)) (by rfl) D_plan_lengths.g D_plan_lengths.F.kp D_plan_lengths.b .nil pass0 (pa_cons (pv 11) pa_nil)) (pa_cons (pe_call G_plan_lengths (hr.mono (by omega)) (by rfl) D_plan_lengths.g D_plan_lengths.F.kp D_plan_lengths.b .nil pass0 (pa_cons (pe_tup (pa_cons (pe_str) (pa_cons (pe_int) pa_nil))) pa_nil)) pa_nil))) (pa_cons (pe_lst (pa_cons (pe_lst (pa_cons (pe_int) (pa_cons (pe_int) (pa_cons (pe_int) (pa_cons (pe_int) (pa_cons (pe_int) pa_nil)))))) (pa_cons (pe_lst (pa_cons (pe_int) pa_nil)) pa_nil))) pa_nil))))))), ?_⟩
    walk_at "ev"
    refine for_range (lo := 0) (n := _) (fun i σ H' => Hold (∃ s1 s2 s3 s4 s5 s6 s7 s8 s9 s10, σ = [some (.ref a), s1, s2, s3, s4, s5, s6, s7, s8, s9, s10, none, none] ∧ Same H H')) (.mk ⟨none, none, none, none, none, none, none, none, none, none, rfl, Same.refl _⟩) ?_ ?_
    · intro i σ H1 hi hP
      obtain ⟨s1, s2, s3, s4, s5, s6, s7, s8, s9, s10, rfl, sm1⟩ := hP.un
      have hi6 : i < 6 := by
        refine Nat.lt_of_lt_of_le hi ?_
        split <;> omega
      have hS1 := sm1.seq hS
      walk_at "ev"
      intro b H2 hb0 sm2 hbx
      have hbf : H b = none := sm1.free hb0
      walk_at "ev"
      refine for_range (lo := 0) (n := (6 : Int).toNat) (fun j σ H' => Hold (∃ s3 s4 s5 s6 s7 s8 s9 s10, σ = [some (.ref a), some (.int (0 + (i : Int))), some (.ref b), s3, s4, s5, s6, s7, s8, s9, s10, none, none] ∧ Same H H' ∧ BoxAt H' b (100 * (j : Int)))) (.mk ⟨_, _, _, _, _, _, _, _, rfl, sm1.trans sm2, hbx.mono (by omega)⟩) ?_ ?_
      · intro j σ H3 hj hP3
        obtain ⟨s3, s4, s5, s6, s7, s8, s9, s10, rfl, sm3, hb3⟩ := hP3.un
        have hj6 : j < 6 := hj
        walk_at "ev"
        intro r H4 r0 r1 k4 hb4
        walk_at "ev"
        intro l5 hl5
        generalize hG5 : upd _ l5 _ = H5
        obtain ⟨sm5, hq5⟩ := newO hG5 hl5
        have hb5 := hb4.same sm5
        have nl5 := hb4.ne hl5
        walk_at "ev"
        intro r' H6 r0' r1' k6 hb6
        have hq6 := k6 _ _ nl5 hq5
        have hL6 : SqL K H6 l5 [.int 4, .int 2, .int 1] := SqL.of hq6
        have hdd : ∃ d : Nat, d ≤ 4 ∧ atI [V.int 4, V.int 2, V.int 1] r' = some (.int (d : Int)) := by
          have : r' = 0 ∨ r' = 1 ∨ r' = 2 := by omega
          rcases this with h | h | h <;> rw [h]
          · exact ⟨4, by decide, rfl⟩
          · exact ⟨2, by decide, rfl⟩
          · exact ⟨1, by decide, rfl⟩
        obtain ⟨d, hd4, hat⟩ := hdd
        have htk := tks_le d hd4
        walk_at "ev"
        intro v p H7 hpt hpl hpd hok k7 hb7
        have smA : Same H H7 := keep_same (keep_same ((keep_same sm3 hbf k4).trans sm5) hbf k6) hbf k7
        have hpd4 : pdep p ≤ 4 := by omega
        have hpd5 : pdep p ≤ 5 := by omega
        have hat7 : PlAt K H7 v p := hpt.at
        clear hG5 hP hP3
        walk_at "ev"
        intro H8 sm8
        have hat8 : PlAt K H8 v p := (hpt.same sm8).at
        walk_at "ev"
        intro H9 sm9
        walk_at "ev"
        intro t1 ht1
        generalize hG1 : upd _ t1 _ = H10
        obtain ⟨sm10, hq1⟩ := newO hG1 ht1
        walk_at "ev"
        intro t2 ht2
        generalize hG2 : upd _ t2 _ = H11
        obtain ⟨sm11, hq2⟩ := newO hG2 ht2
        have sm711 := sm8.trans (sm9.trans (sm10.trans sm11))
        have hb11 := hb7.same sm711
        walk_at "ev"
        intro r9 H12 r90 r91 k12 hb12
        walk_at "ev"
        intro t3 ht3
        generalize hG3 : upd _ t3 _ = H13
        obtain ⟨sm13, hq3⟩ := newO hG3 ht3
        walk_at "ev"
        intro l14 hl14
        generalize hG14 : upd _ l14 _ = H14
        obtain ⟨sm14, hq14⟩ := newO hG14 hl14
        have hty14 : tyV K "list" (.ref l14) H14 := .inl ⟨rfl, _, SqL.of hq14⟩
        clear hG1 hG2 hG3 hG14
        walk_at "ev"
        intro t4 ht4
        generalize hG4 : upd _ t4 _ = H15
        obtain ⟨sm15, hq4⟩ := newO hG4 ht4
        walk_at "ev"
        intro t5 ht5
        generalize hG5 : upd _ t5 _ = H16
        obtain ⟨sm16, hq5'⟩ := newO hG5 ht5
        have hq14' := (sm15.trans sm16) _ _ hq14
        have hszo : [V.ref t2, V.ref t3].length < sizeLine := szm (by simp)
        refine ⟨l14, _, _, rfl, rfl, hq14', hszo, ?_⟩
        generalize hG17 : upd H16 l14 _ = H17
        obtain ⟨k17, hq17⟩ := mutO hG17
        have hb13 := hb12.same sm13
        have nl14 : l14 ≠ b := hb13.ne hl14
        have hb16 := ((hb13.same sm14).same sm15).same sm16
        have hb17 : BoxAt H17 b (100 * ((j + 1 : Nat) : Int)) := by
          obtain ⟨x, y, z, e1, e2⟩ := hb16
          exact BoxAt.mono ⟨x, y, z, k17 _ _ nl14.symm e1, e2⟩ (by omega)
        have smB : Same H H13 := (keep_same (smA.trans sm711) hbf k12).trans sm13
        have sm17 : Same H H17 := keep_same (smB.trans (sm14.trans (sm15.trans sm16))) (smB.free hl14) k17
        have hpt16 : PlT H16 v p := ((hpt.same sm711).keep k12 hb11).same (sm13.trans (sm14.trans (sm15.trans sm16)))
        have g2 : H16 t2 = some (.tup [.str "split", .ref t1, v]) := (sm13.trans (sm14.trans (sm15.trans sm16))) _ _ (keep_at k12 hb11 hq2)
        have g1 : H16 t1 = some (.tup [.str "plain", .int 2]) := (sm13.trans (sm14.trans (sm15.trans sm16))) _ _ (keep_at k12 hb11 (sm11 _ _ hq1))
        have g3 : H16 t3 = some (.tup [.str "stretch", .int (2 + r9), v]) := (sm14.trans (sm15.trans sm16)) _ _ hq3
        have g4 : H16 t4 = some (.tup [.str "short", .int 3]) := sm16 _ _ hq4
        have o2 : PlT H16 (.ref t2) (.two "split" (.leaf "plain" 2) p) := .two (.inl rfl) g2 (.leaf (.inl rfl) g1) hpt16
        have o3 : PlT H16 (.ref t3) (.led "stretch" (2 + r9) p) := .led (.inr rfl) g3 hpt16
        have o5 : PlT H16 (.ref t5) (.two "parts" p (.leaf "short" 3)) := .two (.inr rfl) hq5' hpt16 (.leaf (.inr rfl) g4)
        have hmutT : ∀ {x : V} {pp : Pl}, PlT H16 x pp → PlT H17 x pp := fun {x pp} hx => by
          rw [← hG17]
          exact hx.mut hq14'
        have hpt17 := hmutT hpt16
        have lb := hok.len
        have all3 : ∀ x ∈ [V.ref t2, V.ref t3, V.ref t5], ∃ pp, PlT H17 x pp ∧ pdep pp ≤ 5 ∧ Ok pp ∧ ∀ k, k ∈ lens p → k ∈ lens pp := by
          intro x hx
          simp only [List.mem_cons, List.not_mem_nil, or_false] at hx
          rcases hx with e | e | e <;> rw [e]
          · refine ⟨_, hmutT o2, ?_, ⟨⟨by decide, by decide⟩, hok, ?_, ?_⟩, fun k hk => ?_⟩
            · show 1 + max 0 (pdep p) ≤ 5
              omega
            · show 1 ≤ 2 * plen p
              omega
            · show 2 * plen p ≤ 1000
              omega
            · show k ∈ 2 * plen p :: ([2] ++ lens p)
              simp [hk]
          · refine ⟨_, hmutT o3, ?_, ⟨by omega, by omega, hok⟩, fun k hk => ?_⟩
            · show 1 + pdep p ≤ 5
              omega
            · show k ∈ (2 + r9) :: lens p
              simp [hk]
          · refine ⟨_, hmutT o5, ?_, ⟨hok, ⟨by decide, by decide⟩, ?_, ?_⟩, fun k hk => ?_⟩
            · show 1 + max (pdep p) 0 ≤ 5
              omega
            · show 1 ≤ plen p * 3
              omega
            · show plen p * 3 ≤ 1000
              omega
            · show k ∈ plen p * 3 :: (lens p ++ [3])
              simp [hk]
        clear hG4 hG5 hmutT o2 o3 o5 g1 g2 g3 g4 hq1 hq2 hq3 hq4 hq5' hq14 hq14'
        walk_at "ev"
        refine chain_ite fun b1 => ?_
        walk_at "ev"
        refine chain_ite fun b3 => ?_
        walk_at "ev"
        refine and_ite (fun hQ => ?_) fun b4 => ?_
        · exact ⟨_, rfl, _, _, rfl, rfl, (show (0 : Int) < 3 by decide), _, _, rfl, rfl, hQ _⟩
        · walk_at "ev"
          intro l18 hl18
          generalize hG18 : upd _ l18 _ = H18
          obtain ⟨sm18, hq18⟩ := newO hG18 hl18
          have hq17' := sm18 _ _ hq17
          have hLo : SqL K H18 l14 [V.ref t2, V.ref t3, V.ref t5] := SqL.of hq17'
          have hLf := SqL.of (K := K) hq18
          have hLf2 : ∃ c1 c2 c3 : Bool, H18 l18 = some (.lst [V.bl c1, V.bl c2, V.bl c3]) := ⟨_, _, _, hq18⟩
          obtain ⟨c1, c2, c3, hq19⟩ := hLf2
          have hLf3 : SqL K H18 l18 [V.bl c1, V.bl c2, V.bl c3] := SqL.of hq19
          clear hLf hG17 hG18
          walk_at "ev"
          refine RZ.for_zipL (K := K) (a := l14) (b := l18) (xs := [V.ref t2, V.ref t3, V.ref t5]) (ys := [V.bl c1, V.bl c2, V.bl c3]) rfl (fun m σ H' => Hold (∃ s8 s9 s10, σ = [some (.ref a), some (.int (0 + (i : Int))), some (.ref b), some (.int (0 + (j : Int))), some v, some (.int (plen p)), some (.ref l14), some (.ref l18), s8, s9, s10, none, none] ∧ Same H18 H')) (.mk ⟨_, _, _, rfl, Same.refl _⟩) ?_ ?_ ?_
          · intro m σ H' hP
            obtain ⟨z8, z9, z10, rfl, smx⟩ := hP.un
            exact ⟨smx.seq hLo, smx.seq hLf3⟩
          · intro m x y TT σ H' hx hy hP hTT
            obtain ⟨z8, z9, z10, rfl, smx⟩ := hP.un
            obtain ⟨pp, hpp, dpp, okpp, sub⟩ := all3 x (List.mem_of_getElem? hx)
            obtain ⟨bb, rfl⟩ : ∃ bb, y = V.bl bb := by
              have := List.mem_of_getElem? hy
              simp only [List.mem_cons, List.not_mem_nil, or_false] at this
              rcases this with h | h | h <;> exact ⟨_, h⟩
            generalize hGT : upd H' TT _ = H19
            obtain ⟨sm19, hqT⟩ := newO hGT hTT
            have hTs : SqT K H19 TT [x, .bl bb] := SqT.of hqT
            have smC : Same H17 H19 := sm18.trans (smx.trans sm19)
            have hlist : ∀ (wl : Addr) (wo : List Int) (H20 : Hp) (R : Bool → Hp → Prop) (σ : L2.St), σ[4]? = some (some v) → (wipe σ [12])[10]? = some (some (.ref wl)) → (wipe σ [12]).length = 13 → Same H19 H20 → H20 wl = some (.lst (wo.map V.int)) → (∀ k, k ∈ lens p → k ∈ wo) → (∀ H', Same H19 H' → R false H') → tNot (tB (tCB (rAll K) (tCons (tLc (iList K (tCall (spPlens K) [] E0 (tCons (tVar 4) tNil))) (gName 12) tYes (tOp (rIn K false) (tVar 12) (tVar 10)) [12]) tNil))) σ H20 R := by
              intro wl wo H20 R σ hσ4 hσ10 hσl sm20 hwl hwo hR
              have hat20 : PlAt K H20 v p := (hpt17.same (smC.trans sm20)).at
              refine ⟨v, hσ4, v, p, rfl, hat20, hpd5, hok, ?_⟩
              intro out l21 H21 hl21 sm21 hq21 hs21 hm21 ho21
              have hL21 : SqL K H21 l21 (out.map V.int) := SqL.of hq21
              refine ⟨l21, rfl, ⟨_, hL21⟩, fun D hD => ?_⟩
              refine lc_list (K := K) (a := l21) (xs := out.map V.int) (fun i H' => Hold (Same H21 H' ∧ H' D = some (.lst ((List.replicate i true).map V.bl)))) (.mk ⟨same_new hD, upd_same⟩) ?_ ?_ ?_
              · intro i H' hi hP
                obtain ⟨sm2, hD2⟩ := hP.un
                exact sm2.seq hL21
              · intro i x H' hx hP
                obtain ⟨sm2, hD2⟩ := hP.un
                obtain ⟨k, hk, rfl⟩ := int_mem (List.mem_of_getElem? hx)
                have hil : i < (out.map V.int).length := (List.getElem?_eq_some_iff.mp hx).1
                rw [List.length_map] at hil
                have hkw : k ∈ wo := hwo k ((hm21 k).mp hk)
                have hin : inV (.int k) (wo.map V.int) = true := in_ints hkw
                have e12 : ((wipe σ [12]).set 12 (some (V.int k)))[12]? = some (some (.int k)) := by
                  rw [List.getElem?_set_self (by omega)]
                have e10 : ((wipe σ [12]).set 12 (some (V.int k)))[10]? = some (some (.ref wl)) := by
                  rw [List.getElem?_set_ne (by decide)]
                  exact hσ10
                have ew : wipe ((wipe σ [12]).set 12 (some (V.int k))) [12] = wipe σ [12] := by
                  show (((σ.set 12 none).set 12 (some (V.int k))).set 12 none) = σ.set 12 none
                  rw [List.set_set, List.set_set]
                refine ⟨ew, ?_⟩
                have hin2 : SqL K H' wl (wo.map V.int) ∨ SqT K H' wl (wo.map V.int) := .inl (SqL.of ((sm21.trans sm2) _ _ hwl))
                have hfl2 := flat_ints wo
                have hszr : ((List.replicate i true).map V.bl).length < sizeLine := by
                  rw [List.length_map, List.length_replicate]
                  exact szm (by omega)
                walk_at "ev"
                refine .mk ⟨same_mut sm2 hD, ?_⟩
                have e9 : (if false = true then !inV (V.int k) (wo.map V.int) else inV (V.int k) (wo.map V.int)) = true := hin
                rw [upd_same, List.replicate_succ', List.map_append, e9]
                rfl
              · intro H' hP
                obtain ⟨sm2, hD2⟩ := hP.un
                refine ⟨D, _, rfl, SqL.of hD2, ?_⟩
                rw [all_true]
                exact ⟨true, rfl, hR _ (sm20.trans (sm21.trans sm2))⟩
            have hatx : PlAt K H19 x pp := (hpp.same smC).at
            have hatv : PlAt K H19 v p := (hpt17.same smC).at
            cases bb with
            | true =>
              walk_at "ev"
              intro H20 sm20
              have hatx20 : PlAt K H20 x pp := ((hpp.same smC).same sm20).at
              walk_at "ev"
              intro wo wl H21 hwl sm21 hq21 hs21 hm21 ho21
              dsimp only [gName, tIfS]
              refine hlist wl wo H21 _ _ (by rfl) (by rfl) (by rfl) (sm20.trans sm21) hq21 (fun k hk => (hm21 k).mpr (sub k hk)) fun H22 sm22 => ?_
              exact .mk ⟨_, _, _, rfl, smx.trans (sm19.trans sm22)⟩
            | false =>
              walk_at "ev"
              intro wo wl H21 hwl sm21 hq21 hs21 hm21 ho21
              dsimp only [gName, tIfS]
              refine hlist wl wo H21 _ _ (by rfl) (by rfl) (by rfl) sm21 hq21 (fun k hk => (hm21 k).mpr hk) fun H22 sm22 => ?_
              exact .mk ⟨_, _, _, rfl, smx.trans (sm19.trans sm22)⟩
          · intro σ H' hP
            obtain ⟨z8, z9, z10, rfl, smx⟩ := hP.un
            exact .mk ⟨_, _, _, _, _, _, _, _, rfl, sm17.trans (sm18.trans smx), (hb17.same sm18).same smx⟩
      · intro σ H3 hP3
        obtain ⟨s3, s4, s5, s6, s7, s8, s9, s10, rfl, sm3, hb3⟩ := hP3.un
        exact .mk ⟨_, _, _, _, _, _, _, _, _, _, rfl, sm3⟩
    · intro σ H1 hP
      obtain ⟨s1, s2, s3, s4, s5, s6, s7, s8, s9, s10, rfl, sm1⟩ := hP.un
      clear hP
      walk_at "ev"
      intro t1 ht1
      generalize hG1 : upd _ t1 _ = H2
      obtain ⟨sm2, hq1⟩ := newO hG1 ht1
      walk_at "ev"
      intro t2 ht2
      generalize hG2 : upd _ t2 _ = H3
      obtain ⟨sm3, hq2⟩ := newO hG2 ht2
      walk_at "ev"
      intro t3 ht3
      generalize hG3 : upd _ t3 _ = H4
      obtain ⟨sm4, hq3⟩ := newO hG3 ht3
      walk_at "ev"
      intro t4 ht4
      generalize hG4 : upd _ t4 _ = H5
      obtain ⟨sm5, hq4⟩ := newO hG4 ht4
      walk_at "ev"
      intro t5 ht5
      generalize hG5 : upd _ t5 _ = H6
      obtain ⟨sm6, hq5⟩ := newO hG5 ht5
      walk_at "ev"
      intro t6 ht6
      generalize hG6 : upd _ t6 _ = H7
      obtain ⟨sm7, hq6⟩ := newO hG6 ht6
      walk_at "ev"
      intro t7 ht7
      generalize hG7 : upd _ t7 _ = H8
      obtain ⟨sm8, hq7⟩ := newO hG7 ht7
      have h2 : PlT H8 (.ref t2) (.led "stretch" 2 (.leaf "short" 3)) := .led (.inr rfl) ((sm4.trans (sm5.trans (sm6.trans (sm7.trans sm8)))) _ _ hq2) (.leaf (.inr rfl) ((sm3.trans (sm4.trans (sm5.trans (sm6.trans (sm7.trans sm8))))) _ _ hq1))
      have h5 : PlT H8 (.ref t5) (.two "split" (.leaf "short" 2) (.leaf "plain" 2)) := .two (.inl rfl) ((sm7.trans sm8) _ _ hq5) (.leaf (.inr rfl) ((sm5.trans (sm6.trans (sm7.trans sm8))) _ _ hq3)) (.leaf (.inl rfl) ((sm6.trans (sm7.trans sm8)) _ _ hq4))
      have h6 : PlT H8 (.ref t6) (.led "powers" 5 (.two "split" (.leaf "short" 2) (.leaf "plain" 2))) := .led (.inl rfl) (sm8 _ _ hq6) h5
      have h7 : PlT H8 (.ref t7) (.two "split" (.led "stretch" 2 (.leaf "short" 3)) (.led "powers" 5 (.two "split" (.leaf "short" 2) (.leaf "plain" 2)))) := .two (.inl rfl) hq7 h2 h6
      have ok7 : Ok (.two "split" (.led "stretch" 2 (.leaf "short" 3)) (.led "powers" 5 (.two "split" (.leaf "short" 2) (.leaf "plain" 2)))) := ⟨⟨by decide, by decide, ⟨by decide, by decide⟩⟩, ⟨by decide, by decide, ⟨by decide, by decide⟩, ⟨by decide, by decide⟩, by decide, by decide⟩, by decide, by decide⟩
      have pd7 : pdep (.two "split" (.led "stretch" 2 (.leaf "short" 3)) (.led "powers" 5 (.two "split" (.leaf "short" 2) (.leaf "plain" 2)))) ≤ 5 := by decide
      have el7 : lens (.two "split" (.led "stretch" 2 (.leaf "short" 3)) (.led "powers" 5 (.two "split" (.leaf "short" 2) (.leaf "plain" 2)))) = [10, 2, 3, 5, 4, 2, 2] := rfl
      generalize Pl.two "split" (.led "stretch" 2 (.leaf "short" 3)) (.led "powers" 5 (.two "split" (.leaf "short" 2) (.leaf "plain" 2))) = p7 at *
      clear hG1 hG2 hG3 hG4 hG5 hG6 hG7
      have a7 : PlAt K H8 (.ref t7) p7 := h7.at
      walk_at "ev"
      intro out l9 H9 hl9 sm9 hq9 hs9 hm9 ho9
      have eo : out = [2, 3, 4, 5, 10] := srt_ext hs9 (by decide) fun k => by
        rw [hm9, el7]
        simp only [List.mem_cons, List.not_mem_nil, or_false]
        omega
      subst eo
      walk_at "ev"
      intro t10 ht10
      generalize hG10 : upd _ t10 _ = H10
      obtain ⟨sm10, hq10⟩ := newO hG10 ht10
      have a10 : PlAt K H10 (.ref t10) (.leaf "short" 1) := .leaf (.inr rfl) (SqT.of hq10)
      have pd10 : pdep (.leaf "short" 1) ≤ 5 := by decide
      have ok10 : Ok (.leaf "short" 1) := ⟨by decide, by decide⟩
      walk_at "ev"
      intro out2 l11 H11 hl11 sm11 hq11 hs11 hm11 ho11
      have eo2 : out2 = [1] := srt_ext hs11 (by decide) fun k => by
        rw [hm11]
        rfl
      subst eo2
      walk_at "ev"
      intro l12 hl12
      generalize hG12 : upd _ l12 _ = H12
      obtain ⟨sm12, hq12⟩ := newO hG12 hl12
      walk_at "ev"
      intro l13 hl13
      generalize hG13 : upd _ l13 _ = H13
      obtain ⟨sm13, hq13⟩ := newO hG13 hl13
      walk_at "ev"
      intro l14 hl14
      generalize hG14 : upd _ l14 _ = H14
      obtain ⟨sm14, hq14⟩ := newO hG14 hl14
      walk_at "ev"
      intro l15 hl15
      generalize hG15 : upd _ l15 _ = H15
      obtain ⟨sm15, hq15⟩ := newO hG15 hl15
      have hdx : Dp K H15 (.ref l12) (.list [.list ([2, 3, 4, 5, 10].map PyData.int), .list ([1].map PyData.int)]) := .lst (SqL.of ((sm13.trans (sm14.trans sm15)) _ _ hq12)) (.cons (.lst (SqL.of ((sm10.trans (sm11.trans (sm12.trans (sm13.trans (sm14.trans sm15))))) _ _ hq9)) (dp_ints [2, 3, 4, 5, 10])) (.cons (.lst (SqL.of ((sm12.trans (sm13.trans (sm14.trans sm15))) _ _ hq11)) (dp_ints [1])) .nil))
      have hdy : Dp K H15 (.ref l15) (.list [.list ([2, 3, 4, 5, 10].map PyData.int), .list ([1].map PyData.int)]) := .lst (SqL.of hq15) (.cons (.lst (SqL.of ((sm14.trans sm15) _ _ hq13)) (dp_ints [2, 3, 4, 5, 10])) (.cons (.lst (SqL.of (sm15 _ _ hq14)) (dp_ints [1])) .nil))
      have hfit : Fit 2 (.list [.list ([2, 3, 4, 5, 10].map PyData.int), .list ([1].map PyData.int)]) := by
        refine ⟨by decide, fun e he => ?_⟩
        simp only [List.mem_cons, List.not_mem_nil, or_false] at he
        rcases he with h | h <;> rw [h] <;> exact fit_ints (by decide)
      walk_at "ev"
      intro H16 sm16
      exact q _
end
theorem all_mk {l : PySem.W.OpenLaw} {w : World} {K : PySem.W.Frag} {h : Heap} {mg : Str → Option Value} {fa : Addr} (X : K.In h) (G : h.Ns mainGlobals mg) (hfa : mg "law" = some (.ref fa))
    {od0 an0 : Option Addr} {sl0 : Array (Option Value)} {oc0 kV0 dc0 pm0 cd0 ct0 : Value} {f0 : Addr}
    {od1 an1 : Option Addr} {sl1 : Array (Option Value)} {oc1 kV1 dc1 pm1 cd1 ct1 : Value} {f1 : Addr}
    {od2 an2 : Option Addr} {sl2 : Array (Option Value)} {oc2 kV2 dc2 pm2 cd2 ct2 : Value} {f2 : Addr}
    {od3 an3 : Option Addr} {sl3 : Array (Option Value)} {oc3 kV3 dc3 pm3 cd3 ct3 : Value} {f3 : Addr}
    {od4 an4 : Option Addr} {sl4 : Array (Option Value)} {oc4 kV4 dc4 pm4 cd4 ct4 : Value} {f4 : Addr}
    {od5 an5 : Option Addr} {sl5 : Array (Option Value)} {oc5 kV5 dc5 pm5 cd5 ct5 : Value} {f5 : Addr}
    {od6 an6 : Option Addr} {sl6 : Array (Option Value)} {oc6 kV6 dc6 pm6 cd6 ct6 : Value} {f6 : Addr}
    {od7 an7 : Option Addr} {sl7 : Array (Option Value)} {oc7 kV7 dc7 pm7 cd7 ct7 : Value} {f7 : Addr}
    {od8 an8 : Option Addr} {sl8 : Array (Option Value)} {oc8 kV8 dc8 pm8 cd8 ct8 : Value} {f8 : Addr}
    {od9 an9 : Option Addr} {sl9 : Array (Option Value)} {oc9 kV9 dc9 pm9 cd9 ct9 : Value} {f9 : Addr}
    {od10 an10 : Option Addr} {sl10 : Array (Option Value)} {oc10 kV10 dc10 pm10 cd10 ct10 : Value} {f10 : Addr}
    {od11 an11 : Option Addr} {sl11 : Array (Option Value)} {oc11 kV11 dc11 pm11 cd11 ct11 : Value} {f11 : Addr}
    {od12 an12 : Option Addr} {sl12 : Array (Option Value)} {oc12 kV12 dc12 pm12 cd12 ct12 : Value} {f12 : Addr}
    {od13 an13 : Option Addr} {sl13 : Array (Option Value)} {oc13 kV13 dc13 pm13 cd13 ct13 : Value} {f13 : Addr}
    {od14 an14 : Option Addr} {sl14 : Array (Option Value)} {oc14 kV14 dc14 pm14 cd14 ct14 : Value} {f14 : Addr}
    (a0 : PySem.W.nsIn K mainGlobals "_law_box" = some (some (.ref f0))) (l0 : K.lookup f0 = some ⟨oc0, od0, .func (PySem.W.fnOf "_law_box" "_law_box" (defArgs s__law_box) (defBody s__law_box) (defScope s__law_box) .none kV0 dc0 pm0 an0 cd0 ct0), sl0⟩) (c0 : PySem.W.codeIn K cd0 "_law_box" = true) (k0 : PySem.W.keepIn K (.ref f0) = true)
    (a1 : PySem.W.nsIn K mainGlobals "_law_take" = some (some (.ref f1))) (l1 : K.lookup f1 = some ⟨oc1, od1, .func (PySem.W.fnOf "_law_take" "_law_take" (defArgs s__law_take) (defBody s__law_take) (defScope s__law_take) .none kV1 dc1 pm1 an1 cd1 ct1), sl1⟩) (c1 : PySem.W.codeIn K cd1 "_law_take" = true) (k1 : PySem.W.keepIn K (.ref f1) = true)
    (a2 : PySem.W.nsIn K mainGlobals "_law_pick" = some (some (.ref f2))) (l2 : K.lookup f2 = some ⟨oc2, od2, .func (PySem.W.fnOf "_law_pick" "_law_pick" (defArgs s__law_pick) (defBody s__law_pick) (defScope s__law_pick) .none kV2 dc2 pm2 an2 cd2 ct2), sl2⟩) (c2 : PySem.W.codeIn K cd2 "_law_pick" = true) (k2 : PySem.W.keepIn K (.ref f2) = true)
    (a3 : PySem.W.nsIn K mainGlobals "_law_same" = some (some (.ref f3))) (l3 : K.lookup f3 = some ⟨oc3, od3, .func (PySem.W.fnOf "_law_same" "_law_same" (defArgs s__law_same) (defBody s__law_same) (defScope s__law_same) .none kV3 dc3 pm3 an3 cd3 ct3), sl3⟩) (c3 : PySem.W.codeIn K cd3 "_law_same" = true) (k3 : PySem.W.keepIn K (.ref f3) = true)
    (a4 : PySem.W.nsIn K mainGlobals "_law_shares" = some (some (.ref f4))) (l4 : K.lookup f4 = some ⟨oc4, od4, .func (PySem.W.fnOf "_law_shares" "_law_shares" (defArgs s__law_shares) (defBody s__law_shares) (defScope s__law_shares) .none kV4 dc4 pm4 an4 cd4 ct4), sl4⟩) (c4 : PySem.W.codeIn K cd4 "_law_shares" = true) (k4 : PySem.W.keepIn K (.ref f4) = true)
    (a5 : PySem.W.nsIn K mainGlobals "_law_is_plain_prime" = some (some (.ref f5))) (l5 : K.lookup f5 = some ⟨oc5, od5, .func (PySem.W.fnOf "_law_is_plain_prime" "_law_is_plain_prime" (defArgs s__law_is_plain_prime) (defBody s__law_is_plain_prime) (defScope s__law_is_plain_prime) .none kV5 dc5 pm5 an5 cd5 ct5), sl5⟩) (c5 : PySem.W.codeIn K cd5 "_law_is_plain_prime" = true) (k5 : PySem.W.keepIn K (.ref f5) = true)
    (a6 : PySem.W.nsIn K mainGlobals "_law_any_plan" = some (some (.ref f6))) (l6 : K.lookup f6 = some ⟨oc6, od6, .func (PySem.W.fnOf "_law_any_plan" "_law_any_plan" (defArgs s__law_any_plan) (defBody s__law_any_plan) (defScope s__law_any_plan) .none kV6 dc6 pm6 an6 cd6 ct6), sl6⟩) (c6 : PySem.W.codeIn K cd6 "_law_any_plan" = true) (k6 : PySem.W.keepIn K (.ref f6) = true)
    (a7 : PySem.W.nsIn K mainGlobals "_law_length_of" = some (some (.ref f7))) (l7 : K.lookup f7 = some ⟨oc7, od7, .func (PySem.W.fnOf "_law_length_of" "_law_length_of" (defArgs s__law_length_of) (defBody s__law_length_of) (defScope s__law_length_of) .none kV7 dc7 pm7 an7 cd7 ct7), sl7⟩) (c7 : PySem.W.codeIn K cd7 "_law_length_of" = true) (k7 : PySem.W.keepIn K (.ref f7) = true)
    (a8 : PySem.W.nsIn K mainGlobals "_law_lengths_in" = some (some (.ref f8))) (l8 : K.lookup f8 = some ⟨oc8, od8, .func (PySem.W.fnOf "_law_lengths_in" "_law_lengths_in" (defArgs s__law_lengths_in) (defBody s__law_lengths_in) (defScope s__law_lengths_in) .none kV8 dc8 pm8 an8 cd8 ct8), sl8⟩) (c8 : PySem.W.codeIn K cd8 "_law_lengths_in" = true) (k8 : PySem.W.keepIn K (.ref f8) = true)
    (a9 : PySem.W.nsIn K mainGlobals "_law_right" = some (some (.ref f9))) (l9 : K.lookup f9 = some ⟨oc9, od9, .func (PySem.W.fnOf "_law_right" "_law_right" (defArgs s__law_right) (defBody s__law_right) (defScope s__law_right) .none kV9 dc9 pm9 an9 cd9 ct9), sl9⟩) (c9 : PySem.W.codeIn K cd9 "_law_right" = true) (k9 : PySem.W.keepIn K (.ref f9) = true)
    (a10 : PySem.W.nsIn K mainGlobals "plan_length" = some (some (.ref f10))) (l10 : K.lookup f10 = some ⟨oc10, od10, .func (PySem.W.fnOf "plan_length" "plan_length" (defArgs s_plan_length) (defBody s_plan_length) (defScope s_plan_length) .none kV10 dc10 pm10 an10 cd10 ct10), sl10⟩) (c10 : PySem.W.codeIn K cd10 "plan_length" = true) (k10 : PySem.W.keepIn K (.ref f10) = true)
    (a11 : PySem.W.nsIn K mainGlobals "inner_plans" = some (some (.ref f11))) (l11 : K.lookup f11 = some ⟨oc11, od11, .func (PySem.W.fnOf "inner_plans" "inner_plans" (defArgs s_inner_plans) (defBody s_inner_plans) (defScope s_inner_plans) .none kV11 dc11 pm11 an11 cd11 ct11), sl11⟩) (c11 : PySem.W.codeIn K cd11 "inner_plans" = true) (k11 : PySem.W.keepIn K (.ref f11) = true)
    (a12 : PySem.W.nsIn K mainGlobals "lengths_in" = some (some (.ref f12))) (l12 : K.lookup f12 = some ⟨oc12, od12, .func (PySem.W.fnOf "lengths_in" "lengths_in" (defArgs s_lengths_in) (defBody s_lengths_in) (defScope s_lengths_in) .none kV12 dc12 pm12 an12 cd12 ct12), sl12⟩) (c12 : PySem.W.codeIn K cd12 "lengths_in" = true) (k12 : PySem.W.keepIn K (.ref f12) = true)
    (a13 : PySem.W.nsIn K mainGlobals "plan_lengths" = some (some (.ref f13))) (l13 : K.lookup f13 = some ⟨oc13, od13, .func (PySem.W.fnOf "plan_lengths" "plan_lengths" (defArgs s_plan_lengths) (defBody s_plan_lengths) (defScope s_plan_lengths) .none kV13 dc13 pm13 an13 cd13 ct13), sl13⟩) (c13 : PySem.W.codeIn K cd13 "plan_lengths" = true) (k13 : PySem.W.keepIn K (.ref f13) = true)
    (a14 : PySem.W.nsIn K mainGlobals "law" = some (some (.ref f14))) (l14 : K.lookup f14 = some ⟨oc14, od14, .func (PySem.W.fnOf "law" "law" (defArgs s_law) (defBody s_law) (defScope s_law) .none kV14 dc14 pm14 an14 cd14 ct14), sl14⟩) (c14 : PySem.W.codeIn K cd14 "law" = true) (k14 : PySem.W.keepIn K (.ref f14) = true)
    (z0 : PySem.W.nsIn K mainGlobals "abs" = some none) (z1 : PySem.W.nsIn K mainGlobals "all" = some none) (z2 : PySem.W.nsIn K mainGlobals "bool" = some none) (z3 : PySem.W.nsIn K mainGlobals "int" = some none) (z4 : PySem.W.nsIn K mainGlobals "isinstance" = some none) (z5 : PySem.W.nsIn K mainGlobals "len" = some none) (z6 : PySem.W.nsIn K mainGlobals "list" = some none) (z7 : PySem.W.nsIn K mainGlobals "min" = some none) (z8 : PySem.W.nsIn K mainGlobals "range" = some none) (z9 : PySem.W.nsIn K mainGlobals "set" = some none) (z10 : PySem.W.nsIn K mainGlobals "sorted" = some none) (z11 : PySem.W.nsIn K mainGlobals "str" = some none) (z12 : PySem.W.nsIn K mainGlobals "tuple" = some none) (z13 : PySem.W.nsIn K mainGlobals "zip" = some none) :
    ∃ fd : FuncData, (∀ (s : Shared) (v : Value), BindsTo s fd ⟨[v], []⟩ [("_law_script", v)]) ∧ ∀ base : Heap, K.In base → base.Ns mainGlobals mg → FnOk l.prog w K mg base CX0 10 fa fd ["_law_script"] (spLaw K) := by
  have e := hfa.symm.trans (PySem.W.mg_of X G a14)
  cases e
  have T : Blt mg := ⟨PySem.W.mg_none_of X G z0, PySem.W.mg_none_of X G z1, PySem.W.mg_none_of X G z2, PySem.W.mg_none_of X G z3, PySem.W.mg_none_of X G z4, PySem.W.mg_none_of X G z5, PySem.W.mg_none_of X G z6, PySem.W.mg_none_of X G z7, PySem.W.mg_none_of X G z8, PySem.W.mg_none_of X G z9, PySem.W.mg_none_of X G z10, PySem.W.mg_none_of X G z11, PySem.W.mg_none_of X G z12, PySem.W.mg_none_of X G z13⟩
  have F0 := fun_mk (st := s__law_box) l0 c0 k0
  have b0 := F0.binds (ps := P__law_box) fun _ _ _ _ _ _ us hl => match us, hl with | [_, _], _ => rfl
  have F1 := fun_mk (st := s__law_take) l1 c1 k1
  have b1 := F1.binds (ps := P__law_take) fun _ _ _ _ _ _ us hl => match us, hl with | [_, _], _ => rfl
  have F2 := fun_mk (st := s__law_pick) l2 c2 k2
  have b2 := F2.binds (ps := P__law_pick) fun _ _ _ _ _ _ us hl => match us, hl with | [_, _], _ => rfl
  have F3 := fun_mk (st := s__law_same) l3 c3 k3
  have b3 := F3.binds (ps := P__law_same) fun _ _ _ _ _ _ us hl => match us, hl with | [_, _], _ => rfl
  have F4 := fun_mk (st := s__law_shares) l4 c4 k4
  have b4 := F4.binds (ps := P__law_shares) fun _ _ _ _ _ _ us hl => match us, hl with | [_, _], _ => rfl
  have F5 := fun_mk (st := s__law_is_plain_prime) l5 c5 k5
  have b5 := F5.binds (ps := P__law_is_plain_prime) fun _ _ _ _ _ _ us hl => match us, hl with | [_], _ => rfl
  have F6 := fun_mk (st := s__law_any_plan) l6 c6 k6
  have b6 := F6.binds (ps := P__law_any_plan) fun _ _ _ _ _ _ us hl => match us, hl with | [_, _, _], _ => rfl
  have F7 := fun_mk (st := s__law_length_of) l7 c7 k7
  have b7 := F7.binds (ps := P__law_length_of) fun _ _ _ _ _ _ us hl => match us, hl with | [_], _ => rfl
  have F8 := fun_mk (st := s__law_lengths_in) l8 c8 k8
  have b8 := F8.binds (ps := P__law_lengths_in) fun _ _ _ _ _ _ us hl => match us, hl with | [_], _ => rfl
  have F9 := fun_mk (st := s__law_right) l9 c9 k9
  have b9 := F9.binds (ps := P__law_right) fun _ _ _ _ _ _ us hl => match us, hl with | [_], _ => rfl
  have F10 := fun_mk (st := s_plan_length) l10 c10 k10
  have b10 := F10.binds (ps := P_plan_length) fun _ _ _ _ _ _ us hl => match us, hl with | [_], _ => rfl
  have F11 := fun_mk (st := s_inner_plans) l11 c11 k11
  have b11 := F11.binds (ps := P_inner_plans) fun _ _ _ _ _ _ us hl => match us, hl with | [_], _ => rfl
  have F12 := fun_mk (st := s_lengths_in) l12 c12 k12
  have b12 := F12.binds (ps := P_lengths_in) fun _ _ _ _ _ _ us hl => match us, hl with | [_], _ => rfl
  have F13 := fun_mk (st := s_plan_lengths) l13 c13 k13
  have b13 := F13.binds (ps := P_plan_lengths) fun _ _ _ _ _ _ us hl => match us, hl with | [_], _ => rfl
  have F14 := fun_mk (st := s_law) l14 c14 k14
  refine ⟨_, fun s v => .of_eq rfl, fun base _ _ => ok_law (P := l.prog) (w := w) (base := base) F14 T ⟨⟨_, _, F0, b0, PySem.W.mg_of X G a0⟩, ⟨_, _, F1, b1, PySem.W.mg_of X G a1⟩, ⟨_, _, F2, b2, PySem.W.mg_of X G a2⟩, ⟨_, _, F3, b3, PySem.W.mg_of X G a3⟩, ⟨_, _, F4, b4, PySem.W.mg_of X G a4⟩, ⟨_, _, F5, b5, PySem.W.mg_of X G a5⟩, ⟨_, _, F6, b6, PySem.W.mg_of X G a6⟩, ⟨_, _, F7, b7, PySem.W.mg_of X G a7⟩, ⟨_, _, F8, b8, PySem.W.mg_of X G a8⟩, ⟨_, _, F9, b9, PySem.W.mg_of X G a9⟩, ⟨_, _, F10, b10, PySem.W.mg_of X G a10⟩, ⟨_, _, F11, b11, PySem.W.mg_of X G a11⟩, ⟨_, _, F12, b12, PySem.W.mg_of X G a12⟩, ⟨_, _, F13, b13, PySem.W.mg_of X G a13⟩⟩⟩
end My
open PySem PySem.W PyProof.Rows
set_option maxRecDepth 100000 in
set_option maxHeartbeats 0 in
theorem PySem.Challenge.cw_turnsums_k26_what_stands_in_a_plan_holds : PySem.Challenge.rw_turnsums_k26_what_stands_in_a_plan.Holds := by
  w_on; o_law; k_head; (case hw => w_witness2)
  k_fill
  refine L2.walk_of (l := PySem.Challenge.rw_turnsums_k26_what_stands_in_a_plan) (n := 63) (k := 10) (x := "_law_script") (CX := fun _ => L2.CX0) (sp := fun w => My.spLaw _) rfl (by decide) rfl ⟨rfl, by decide, by decide⟩ (fun w h Y => PySem.W.kIn_of Y) ?F (fun _ _ a ns hl _ hS => ⟨a, ns, rfl, hS, hl, fun _ => rfl⟩) (fun _ _ _ _ _ h => h)
  case F =>
    intro w mg fa h KX G hmg
    refine' My.all_mk KX G hmg ?a0 ?l0 ?c0 ?k0 ?a1 ?l1 ?c1 ?k1 ?a2 ?l2 ?c2 ?k2 ?a3 ?l3 ?c3 ?k3 ?a4 ?l4 ?c4 ?k4 ?a5 ?l5 ?c5 ?k5 ?a6 ?l6 ?c6 ?k6 ?a7 ?l7 ?c7 ?k7 ?a8 ?l8 ?c8 ?k8 ?a9 ?l9 ?c9 ?k9 ?a10 ?l10 ?c10 ?k10 ?a11 ?l11 ?c11 ?k11 ?a12 ?l12 ?c12 ?k12 ?a13 ?l13 ?c13 ?k13 ?a14 ?l14 ?c14 ?k14 ?z0 ?z1 ?z2 ?z3 ?z4 ?z5 ?z6 ?z7 ?z8 ?z9 ?z10 ?z11 ?z12 ?z13
    (case a0 => k_is)
    (case l0 => k_is)
    (case c0 => k_is)
    (case k0 => k_is)
    (case a1 => k_is)
    (case l1 => k_is)
    (case c1 => k_is)
    (case k1 => k_is)
    (case a2 => k_is)
    (case l2 => k_is)
    (case c2 => k_is)
    (case k2 => k_is)
    (case a3 => k_is)
    (case l3 => k_is)
    (case c3 => k_is)
    (case k3 => k_is)
    (case a4 => k_is)
    (case l4 => k_is)
    (case c4 => k_is)
    (case k4 => k_is)
    (case a5 => k_is)
    (case l5 => k_is)
    (case c5 => k_is)
    (case k5 => k_is)
    (case a6 => k_is)
    (case l6 => k_is)
    (case c6 => k_is)
    (case k6 => k_is)
    (case a7 => k_is)
    (case l7 => k_is)
    (case c7 => k_is)
    (case k7 => k_is)
    (case a8 => k_is)
    (case l8 => k_is)
    (case c8 => k_is)
    (case k8 => k_is)
    (case a9 => k_is)
    (case l9 => k_is)
    (case c9 => k_is)
    (case k9 => k_is)
    (case a10 => k_is)
    (case l10 => k_is)
    (case c10 => k_is)
    (case k10 => k_is)
    (case a11 => k_is)
    (case l11 => k_is)
    (case c11 => k_is)
    (case k11 => k_is)
    (case a12 => k_is)
    (case l12 => k_is)
    (case c12 => k_is)
    (case k12 => k_is)
    (case a13 => k_is)
    (case l13 => k_is)
    (case c13 => k_is)
    (case k13 => k_is)
    (case a14 => k_is)
    (case l14 => k_is)
    (case c14 => k_is)
    (case k14 => k_is)
    (case z0 => k_is)
    (case z1 => k_is)
    (case z2 => k_is)
    (case z3 => k_is)
    (case z4 => k_is)
    (case z5 => k_is)
    (case z6 => k_is)
    (case z7 => k_is)
    (case z8 => k_is)
    (case z9 => k_is)
    (case z10 => k_is)
    (case z11 => k_is)
    (case z12 => k_is)
    (case z13 => k_is)

