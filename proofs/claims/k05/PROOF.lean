import PyProof.Rows.All
import Wide.All
import OpenK.AllK
import Wide.FinOn
import HandS.ForMost
import HandS.IsInst
import HandS.Style
import HandS.Wide
import HandS.WideMore
import HandS.Zip
import HandS.Flow
import HandS.SetFor
import HandS.Strs
import HandS.SortInts
import PySem.Challenge.RW_turnsums_k05_totients_and_generators
set_option Elab.async false
set_option linter.all false
set_option maxRecDepth 100000
set_option maxHeartbeats 4000000
namespace My
open PySem L2
def top (i : Nat) : Stmt := PySem.Challenge.pw_turnsums_k05_totients_and_generators.main.body.getD i (.Pass ⟨0, 0, 0, 0⟩)
/-- a def of the text: where it stands, how it is called -/
structure Df (K : PySem.W.Frag) (mg : Str → Option Value) (x : Str) (st : Stmt) (ps : List Str) (f : Addr) (fd : FuncData) : Prop where
  F : Fun K x x st f fd
  b : Binds K fd ps []
  g : mg x = some (.ref f)
/-! heaps: all but the box stays -/
theorem same_upd {H H' : Hp} {p : Addr} {o : HO} (h : Same H H') (n : H' p = none) : Same H (upd H' p o) := fun b x e => by
  rw [upd_ne (ne_of_none (h b x e) n)]
  exact h b x e
theorem same_new {H : Hp} {p : Addr} {o : HO} (n : H p = none) : Same H (upd H p o) := same_upd (Same.refl H) n
theorem same_mut {H H' : Hp} {p : Addr} {o : HO} (h : Same H H') (n : H p = none) : Same H (upd H' p o) := fun b x e => by
  rw [upd_ne (ne_of_none e n)]
  exact h b x e
theorem same_t {K : PySem.W.Frag} {H H' : Hp} {a : Addr} {xs : List V} (e : Same H H') (h : SqT K H a xs) : SqT K H' a xs := by
  rcases h with (h | ⟨o, h⟩) | h
  · exact .inl (.inl (e _ _ h))
  · exact .inl (.inr ⟨o, e _ _ h⟩)
  · exact .inr h
def Keep (b : Addr) (H H' : Hp) : Prop := ∀ a o, a ≠ b → H a = some o → H' a = some o
theorem Keep.refl (b : Addr) (H : Hp) : Keep b H H := fun _ _ _ h => h
theorem Keep.trans {b : Addr} {H H1 H2 : Hp} (a : Keep b H H1) (c : Keep b H1 H2) : Keep b H H2 := fun x o n h => c x o n (a x o n h)
theorem keepS {b : Addr} {H H' : Hp} (h : Same H H') : Keep b H H' := fun x o _ e => h x o e
theorem keep_same {b : Addr} {H0 H H' : Hp} (a : Same H0 H) (n : H0 b = none) (k : Keep b H H') : Same H0 H' := fun x o e => k x o (ne_of_none e n) (a x o e)
theorem keep_upd {b : Addr} {H H' : Hp} {o : HO} (h : Keep b H H') : Keep b H (upd H' b o) := fun a u n e => by
  rw [upd_ne n]
  exact h a u n e
theorem keep_new {b p : Addr} {H H' : Hp} {o : HO} (h : Keep b H H') (n : H' p = none) : Keep b H (upd H' p o) := fun a u na e => by
  rw [upd_ne (ne_of_none (h a u na e) n)]
  exact h a u na e
theorem Keep.seq {K : PySem.W.Frag} {b a : Addr} {H H' : Hp} {xs : List V} (e : Keep b H H') (n : a ≠ b) (h : SqL K H a xs) : SqL K H' a xs := by
  rcases h with (h | ⟨o, h⟩) | h
  · exact .inl (.inl (e _ _ n h))
  · exact .inl (.inr ⟨o, e _ _ n h⟩)
  · exact .inr h
def BoxAt (H : Hp) (b : Addr) (n : Int) : Prop := ∃ x y z : Int, H b = some (.lst [.int x, .int y, .int z]) ∧ 0 ≤ x ∧ 0 ≤ y ∧ y ≤ 4294967296 ∧ 0 ≤ z ∧ z ≤ n
theorem BoxAt.mono {H : Hp} {b : Addr} {n m : Int} (h : BoxAt H b n) (e : n ≤ m) : BoxAt H b m := by
  obtain ⟨x, y, z, a1, a2, a3, a4, a5, a6⟩ := h
  exact ⟨x, y, z, a1, a2, a3, a4, a5, by omega⟩
theorem BoxAt.same {H H' : Hp} {b : Addr} {n : Int} (h : BoxAt H b n) (e : Same H H') : BoxAt H' b n := by
  obtain ⟨x, y, z, a1, a2⟩ := h
  exact ⟨x, y, z, e _ _ a1, a2⟩
theorem BoxAt.some {H : Hp} {b : Addr} {n : Int} (h : BoxAt H b n) : ∃ o, H b = some o := by
  obtain ⟨x, y, z, a1, a2⟩ := h
  exact ⟨_, a1⟩
theorem BoxAt.ne {H : Hp} {b p : Addr} {n : Int} (h : BoxAt H b n) (e : H p = none) : p ≠ b := by
  obtain ⟨o, h⟩ := h.some
  exact (ne_of_none h e).symm
theorem szl {n : Nat} (h : n ≤ 60000) : n ≤ sizeLine := Nat.le_trans h (by decide)
theorem szm {n : Nat} (h : n ≤ 60000) : n < sizeLine := Nat.lt_of_le_of_lt h (by decide)
theorem pw6 : (10 : Int) ^ Int.toNat 6 = 1000000 := by decide
theorem pw9 : (10 : Int) ^ Int.toNat 9 = 1000000000 := by decide
theorem newO {H H' : Hp} {p : Addr} {o : HO} (e : upd H p o = H') (hp : H p = none) : Same H H' ∧ H' p = some o := by
  subst e
  exact ⟨same_new hp, upd_same⟩
theorem mutO {H H' : Hp} {p : Addr} {o : HO} (e : upd H p o = H') : Keep p H H' ∧ H' p = some o := by
  subst e
  exact ⟨keep_upd (Keep.refl _ _), upd_same⟩
/-- a word of ours that the walk must not open -/
inductive Hold (p : Prop) : Prop
  | mk : p → Hold p
theorem Hold.un {p : Prop} (h : Hold p) : p := by
  cases h with
  | mk h => exact h
theorem holdN {W : Nat → L2.St → Hp → Prop} {m : Nat} : ∀ (σ' : L2.St) (H' : Hp), Hold (∃ m', m' < m ∧ W m' σ' H') → ∃ m', m' < m ∧ W m' σ' H' := fun _ _ h => h.un
theorem ite_dec {c A B : Prop} [Decidable c] (hc : c) (h : A) : if decide c = true then A else B := by
  rw [decide_eq_true hc]
  exact iteT h
def rLenQ (K : PySem.W.Frag) : List V → Hp → VK → Prop := fun xs H Q => ∃ p ys, xs = [.ref p] ∧ (SqL K H p ys ∨ SqT K H p ys) ∧ Q (.int ys.length) H
theorem iteTe {b : Bool} {A B : Prop} (e : b = true) (h : A) : if b = true then A else B := by
  rw [if_pos e]
  exact h
theorem iteFe {b : Bool} {A B : Prop} (e : b = false) (h : B) : if b = true then A else B := by
  rw [e]
  exact iteF h
theorem cmul_b {i : Int} {b : Bool} : CMul i (if b then 1 else 0) := by
  refine .inr ?_
  cases b <;> exact ⟨by decide, by decide⟩
theorem at_ints {ns : List Int} {k : Int} (h0 : 0 ≤ k) (h : k < (ns.length : Int)) : ∃ c, c ∈ ns ∧ atI (ns.map V.int) k = some (.int c) := by
  have hk : k.toNat < ns.length := by omega
  refine ⟨ns[k.toNat], List.getElem_mem hk, at_of (j := k.toNat) (by omega) ?_⟩
  rw [List.getElem?_map, List.getElem?_eq_getElem hk]
  rfl
theorem at_some {xs : List V} {k : Int} (h0 : 0 ≤ k) (h : k < (xs.length : Int)) : ∃ v, v ∈ xs ∧ atI xs k = some v := by
  have hk : k.toNat < xs.length := by omega
  exact ⟨xs[k.toNat], List.getElem_mem hk, at_of (j := k.toNat) (by omega) (List.getElem?_eq_getElem hk)⟩
theorem int_mem {ns : List Int} {v : V} (h : v ∈ ns.map V.int) : ∃ c, c ∈ ns ∧ v = .int c := by
  obtain ⟨c, hc, e⟩ := List.mem_map.mp h
  exact ⟨c, hc, e.symm⟩
structure Blt (mg : Str → Option Value) : Prop where
  b_abs : mg "abs" = none
  b_all : mg "all" = none
  b_any : mg "any" = none
  b_bool : mg "bool" = none
  b_int : mg "int" = none
  b_isinstance : mg "isinstance" = none
  b_len : mg "len" = none
  b_list : mg "list" = none
  b_max : mg "max" = none
  b_min : mg "min" = none
  b_range : mg "range" = none
  b_set : mg "set" = none
  b_sorted : mg "sorted" = none
  b_str : mg "str" = none
  b_tuple : mg "tuple" = none
  b_zip : mg "zip" = none
/-! ### sorted(set(xs)), xs a list of few ints -/
section
open PySem.Spec PyProof.Rows PySem.Calls
abbrev bareSet (w : World) : Obj := { cls := .type "set", dict := none, data := .set #[] 0 (.fresh 0 0 (!w.params.followText "set-order")) }
/-- what set(xs) leaves behind -/
def SetLeft (w : World) (s : Shared) (ns : List Int) (h' : Heap) (c : Nat) : Prop := SetR w h' s.heap.objs.size (fun j => decide (j ∈ ns)) c ∧ c ≤ ns.length ∧ ∀ b o, s.heap.get? b = some o → h'.get? b = some o
variable {P : Program} {w : World} {A : Around} {E : Value → Shared → Prop} {s : Shared}
theorem items_ints {items : Array Value} {ns : List Int} (hi : IntsAre items.toList ns) (i : Nat) (v : Value) (hv : items[i]? = some v) : ∃ k t, ns[i]? = some k ∧ v = .int k t := by
  have hl : items.size = ns.length := by
    rw [← Array.length_toList]
    exact hi.length
  have hlt : i < ns.length := by
    rw [← hl]
    exact (Array.getElem?_eq_some_iff.mp hv).1
  obtain ⟨t, e⟩ := hi.int_at i v (by rw [Array.getElem?_toList]; exact hv)
  refine ⟨ns[i], t, List.getElem?_eq_getElem hlt, e.trans ?_⟩
  rw [List.getD_eq_getElem?_getD, List.getElem?_eq_getElem hlt]
  rfl
set_option maxHeartbeats 3200000 in
theorem set_of_list {l : Addr} {items : Array Value} {ns : List Int} {Q : Value → Shared → Prop} (hh : A.handled = none) (hl : s.heap.IsList l items) (hi : IntsAre items.toList ns) (hb : ns.length + 1 < scanBound)
    (h : ∀ (h' : Heap) (tk c : Nat), SetLeft w s ns h' c → Q (.ref s.heap.objs.size) { s with heap := h', toks := tk }) : wpAny (model P w) A (call (.type "set") [.ref l]) Q E s := by
  have hsz : items.size = ns.length := by
    rw [← Array.length_toList]
    exact hi.length
  obtain ⟨mc, mt, hmro⟩ := F.called_set.mro
  have a1 := F.called_set.made; have a2 := F.called_set.sub; have a3 := F.called_set.notType; have a4 := F.called_set.canCreate; have a5 := F.typeCall_set_1 (.ref l)
  refine wpAny_call (codeAny_of_tree (show wpAny _ _ (callAny (.type "set") _) _ _ _ from wpAny_pure ⟨Code.quiet_builtin _ (by decide +kernel), codeAny_builtin F.entry_type_call ?_⟩))
  rw [Around.under_plain (weight_type_call_type "set" [.ref l] []) rfl]; repeat (any_goals (first | assumption | wp_step))
  refine codeAny_mono (code_set_led1 (.ref l) (E := E) (Q₁ := fun v s' => v = .ref s.heap.objs.size ∧ s' = { s with heap := s.heap.push (bareSet w) }) ⟨rfl, rfl⟩) fun res s1 hres => ?_
  match res, hres with
  | .error e, hres => exact hres
  | .ok .next, hres => exact hres.elim
  | .ok .cont, hres => exact hres.elim
  | .ok .brk, hres => exact hres.elim
  | .ok (.ret v), hres =>
    obtain ⟨rfl, rfl⟩ := hres
    have g0 : (s.heap.push (bareSet w)).get? s.heap.objs.size = some (bareSet w) := Heap.get?_push_size _ rfl
    have ty0 : Shared.TypeIs { s with heap := s.heap.push (bareSet w) } (.ref s.heap.objs.size) "set" := ⟨_, g0, rfl⟩
    have i1 := F.called_set.init.lookup; have i2 := F.called_set.init.bind (.ref s.heap.objs.size)
    repeat (any_goals (first | assumption | wp_step))
    refine codeAny_mono (codeAny_call_builtin (R := wants (fun v s' => v = .none ∧ ∃ h' tk c, s' = { s with heap := h', toks := tk } ∧ SetLeft w s ns h' c) E) F.called_set.init.plain F.entry_set_init (check_set_init_1 ty0 ?_)) fun res2 s2 hres2 => ?_
    · obtain ⟨⟨lc, ld, la, ls⟩, hol, hcl, nl, hdl⟩ := hl
      simp only at hcl hdl; subst hcl; subst hdl
      have hol1 := Heap.get?_push_of_some (bareSet w) hol
      have hL1 : (s.heap.push (bareSet w)).IsList l items := ⟨_, hol1, rfl, nl, rfl⟩
      have n1 := F.sub_list_set; have n2 := F.sub_list_frozenset; have n3 : (Value.type "list" == Value.type "dict") = false := by decide
      unfold Builtin.«set.__init__» noKeywords Builtin.Frozenset.updateFrom; generalize hgo : pyIter = go; wp_walk; subst hgo
      refine wpAny_pyIter_list hL1 (wpAny_bind (wpAny_runValue ?_))
      have ll := Heap.lt_size hol
      have hhd : A.in1.in1.in1.handled = none := by simp [hh]
      have sz1 : (s.heap.push (bareSet w)).objs.size = s.heap.objs.size + 1 := Heap.size_push ..
      have off : l ≠ (s.heap.push (bareSet w)).objs.size := by rw [sz1]; exact Nat.ne_of_lt (Nat.lt_succ_of_lt ll)
      have out : s.heap.objs.size ∉ [(s.heap.push (bareSet w)).objs.size, l] := by
        intro z
        rcases List.mem_cons.mp z with z | z
        · rw [sz1] at z
          exact absurd z (Nat.ne_of_lt (Nat.lt_succ_self _))
        · exact absurd (List.mem_singleton.mp z) (Nat.ne_of_gt ll)
      refine set_update_ints ((Walks.list hhd _ l off items).toS) s.heap.objs.size out ns hsz hb (items_ints hi) (items.size - 0) 0 _ (by omega) (Nat.zero_le _) ⟨⟨_, Heap.get?_push_size _ rfl, rfl, rfl⟩, hL1.push _⟩ ⟨0, Nat.le_refl 0, setR_new_at (Heap.get?_push_of_some _ g0)⟩ ?_
      rintro ⟨h', g', d', tk', os'⟩ c' hm hc' hS'
      obtain ⟨e1, e2, e3⟩ := (show g' = s.gens ∧ d' = s.drawn ∧ os' = s.os from ⟨hm.gens, hm.drawn, hm.os⟩)
      subst e1; subst e2; subst e3
      refine wpAny_pure (show wpAny _ _ (ret Value.none) _ _ _ from wpAny_pure ⟨rfl, h', tk', c', rfl, hS', by omega, fun b o e => ?_⟩)
      have lb := Heap.lt_size e
      refine hm.heap b o ?_ (Heap.get?_push_of_some _ (Heap.get?_push_of_some _ e))
      intro z
      rcases List.mem_cons.mp z with z | z
      · exact absurd z (Nat.ne_of_lt lb)
      · have z2 := List.mem_singleton.mp z
        rw [sz1] at z2
        exact absurd z2 (Nat.ne_of_lt (Nat.lt_succ_of_lt lb))
    · match res2, hres2 with
      | .error e, hres2 => exact hres2
      | .ok .next, hres2 => exact hres2.elim
      | .ok .cont, hres2 => exact hres2.elim
      | .ok .brk, hres2 => exact hres2.elim
      | .ok (.ret v2), hres2 =>
        obtain ⟨rfl, h', tk, c', rfl, hS'⟩ := hres2
        repeat (any_goals (first | assumption | wp_step))
        exact h _ _ _ hS'
end
open PySem.Spec PyProof.Rows in
/-- sorted of a set of ints, however many -/
theorem set_sorted {P : Program} {w : World} {A : Around} {E : Value → Shared → Prop} {s : Shared} {a : Addr} {S : Int → Bool} {n : Nat} {Q : Value → Shared → Prop} (R : SetR w s.heap a S n) (hh : A.handled = none)
    (q : ∀ s' p (out : List Value) (c : Nat) (ms : List Int), (∀ b o, s.heap.get? b = some o → s'.heap.get? b = some o) → s'.gens = s.gens → s'.os = s.os → s.heap.objs.size ≤ p →
      s'.heap.get? p = some (seqObj "list" out.toArray c) → IntsAre out ms → ms.Pairwise (· < ·) → (∀ k, k ∈ ms ↔ S k = true) → ms.length = n → Q (.ref p) s') : wpAny (model P w) A (call (.builtin "sorted") [.ref a]) Q E s := by
  obtain ⟨o, es, ep, t, g1, g2, g3, good, nod, mem, g4, g5, g6, g7, g8⟩ := R
  refine Calls.call_function_entry kind_sorted plain_sorted entry_sorted (args_sorted1 _) ?_; unfold Builtin.«sorted»
  refine wpAny_bind (m := checkCount "sorted" 1 1 _) (wpAny_pure (wpAny_bind (collect_set (A := A.in1) hh ⟨o, g1, g2.1, g3⟩ g5 g4 g7 g8 fun s1 vs k1 z1 e1 e2 pm => ?_)))
  have len : vs.length = n := by
    rw [pm.length_eq, List.length_map, Array.length_toList]
    exact g6
  have ivs : ∀ e ∈ es.toList, SrtO.iv e.2 = keyOf e := fun e he => by
    obtain ⟨k, tk, h1, _⟩ := good e he
    unfold keyOf
    rw [h1]
    rfl
  have hI : IntsAre vs (vs.map SrtO.iv) := SrtO.ints_iv fun v hv => by
    obtain ⟨e, he, ev⟩ := List.mem_map.mp (pm.mem_iff.mp hv)
    obtain ⟨k, tk, h1, _⟩ := good e he
    exact ⟨k, tk, ev.symm.trans h1⟩
  have prm : (vs.map SrtO.iv).Perm (es.toList.map keyOf) := by
    refine (pm.map SrtO.iv).trans ?_
    rw [List.map_map]
    exact List.Perm.of_eq (List.map_congr_left ivs)
  have zn : n ≤ sizeLine := by
    unfold scanBound at g4
    exact szl (by omega)
  refine wpAny_bind (wpAny_newList ?_ (by rw [len]; exact zn))
  have at1 : (s1.heap.push (seqObj "list" vs.toArray 0)).get? s1.heap.objs.size = some (seqObj "list" vs.toArray 0) := Heap.get?_push_size _ rfl
  refine wpAny_bind (wpAny_holding (wpAny_call_entry slot_list_sort ⟨_, at1, rfl⟩ entry_list_sort (SrtO.list_sort_ord SrtO.swo_int at1 (by rw [len]; exact zn) (fun two => SrtO.ints_sortable hI two) fun out o1 o2 => ⟨_, rfl, ?_⟩) (args_list_sort _)))
  obtain ⟨j1, j2, j3⟩ := SrtO.ints_out hI o1 o2
  obtain ⟨c, at2⟩ := sortedHeap_at (vs := vs) (out := out.toArray) at1
  have prm2 := j2.trans prm
  refine wpAny_pure ⟨_, rfl, q _ s1.heap.objs.size out c _ (fun b u e => ?_) e1 e2 z1 at2 j1 (lt_of_le_nodup _ j3 (prm2.nodup_iff.mpr nod)) (fun k => by rw [prm2.mem_iff, ← mem k]) (by rw [prm2.length_eq, List.length_map, Array.length_toList]; exact g6)⟩
  have e3 := k1 b u e
  have l3 := Heap.lt_size e3
  exact (sortedHeap_old (vs := vs) (out := out.toArray) (Nat.ne_of_lt l3) (by rw [size_push']; exact Nat.lt_succ_of_lt l3)).trans (Heap.get?_push_of_some _ e3)
def tSortSet (K : PySem.W.Frag) (ta : TE) : TE := fun σ H Q => ta σ H fun x H1 => ∃ (l : Addr) (ns : List Int), x = .ref l ∧ SqL K H1 l (ns.map V.int) ∧ ns.length ≤ 4000 ∧
  ∀ (out : List Int) (p : Addr), H1 p = none → out.Pairwise (· < ·) → (∀ k, k ∈ out ↔ k ∈ ns) → out.length ≤ ns.length → Q (.ref p) (upd H1 p (.lst (out.map V.int)))
open PySem.Spec PyProof.Rows in
theorem pe_sortSet {X : Cx} {a : Expr} {ta : TE} {p p2 q pos : Pos} (hg : Gl X "sorted") (hm : X.mg "sorted" = none) (hg2 : Gl X "set") (hm2 : X.mg "set" = none) (ha : PE X a ta) (hc : X.calm = true := by rfl)
    (na : starEach [a] X.env = (false, eval a X.env) :: starEach [] X.env := by rfl) : PE X (.Call (.Name "sorted" p) [.Call (.Name "set" p2) [a] [] q] [] pos) (tSortSet X.K ta) := by
  refine ⟨fun pins s σ H Q I h => ?_⟩
  refine Call_ (ld_blt I hg hm boot_sorted (callWith_builtin1 (args_cons (Call_ (ld_blt I hg2 hm2 boot_set (callWith_type1 (args_cons (thn (ha.run pins s σ H _ I h) fun v s1 ⟨x, H1, I1, r1, q1⟩ => args_nil ?_) na) na rfl))) rfl) rfl rfl))
  obtain ⟨l, ns, rfl, hq, hn, q1⟩ := q1
  cases r1
  obtain ⟨its, r, pl, hz⟩ := I1.list hq
  have hd := I1.ok.hd hc
  refine set_of_list hd pl.isList (by simpa using ints_of_vals r) (by unfold scanBound; omega) fun h' tk c hL => args_nil ?_
  obtain ⟨R1, hcn, kept⟩ := hL
  refine set_sorted (s := { s1 with heap := h', toks := tk }) R1 hd fun s' pp out cc ms k g o hp hgt hi hs hmem hlen => ?_
  have kk : ∀ b u, s1.heap.get? b = some u → s'.heap.get? b = some u := fun b u e => k b u (kept b u e)
  have hpp : s1.heap.objs.size ≤ pp := Nat.le_trans (Nat.le_of_lt R1.lt) hp
  have fr : H1 pp = none := I1.hok.fresh hpp
  have sl : (ms.map V.int).length ≤ sizeLine := by
    rw [List.length_map, hlen]
    exact szl (by omega)
  have hos : s'.os = s1.os := o
  have J : Inv X pins σ (upd H1 pp (.lst (ms.map V.int))) { s1 with heap := s'.heap, gens := s'.gens, drawn := s'.drawn, toks := s'.toks } :=
    I1.call (ch := []) (Un.laid kk hpp fr) (I1.hok.laid kk hpp ⟨sl, out, cc, vals_of_ints hi, hgt⟩) (by rw [g]; exact I1.bare) (fun _ z => nomatch z)
  have es : s' = { s1 with heap := s'.heap, gens := s'.gens, drawn := s'.drawn, toks := s'.toks } := by
    obtain ⟨b1, b2, b3, b4, b5⟩ := s'
    simp only at hos
    subst hos
    rfl
  rw [es]
  exact ⟨.ref pp, _, J, rfl, q1 ms pp fr hs (fun j => (hmem j).trans decide_eq_true_iff) (by omega)⟩
local macro_rules | `(tactic| walk_at "ev1") => `(tactic| first
  | with_reducible assumption
  | ((with_reducible show _ = _); exact rfl)
  | ((first | with_reducible show (_ : Int) = _ | with_reducible show (_ : Int) < _ | with_reducible show (_ : Int) ≤ _ | with_reducible show (_ : Nat) < _ | with_reducible show (_ : Nat) ≤ _); first | omega | decide | (simp only [pw6, pw9]; omega) | (simp only [List.length_cons, List.length_nil, List.length_append, List.length_map, List.length_replicate]; omega))
  | assumption
  | exact upd_same
  | exact SqL.of upd_same
  | exact Or.inl (SqL.of upd_same)
  | exact Or.inl (by assumption)
  | exact Or.inr (by assumption)
  | omega
  | exact (show CDiv _ _ from ⟨by omega, by omega⟩)
  | exact (show CPow _ _ from ⟨by omega, by omega, by omega⟩)
  | exact (show CMul _ _ from .inl ⟨by omega, by omega⟩)
  | exact (show CMul _ _ from .inr ⟨by omega, by omega⟩)
  | exact (show CMul _ _ from cmul_b)
  | exact (show CDivW _ _ from wide_div (b := 31) (by omega) (by omega) (by decide) (by decide))
  | exact (Or.inl ⟨rfl, _, SqL.of (by assumption)⟩)
  | exact ClsV.ty _
  | exact .cons (.ty _) (.cons (.ty _) .nil)
  | (refine szl ?_; simp only [List.length_cons, List.length_nil, List.length_append, List.length_map, List.length_replicate]; omega)
  | (refine szm ?_; simp only [List.length_cons, List.length_nil, List.length_append, List.length_map, List.length_replicate]; omega))
local macro_rules | `(tactic| walk_at "s") => `(tactic| (first
  | (refine And.intro ?l ?_; (case l => walk_at "ev1"))
  | with_reducible refine iteT ?_
  | with_reducible refine iteF ?_
  | with_reducible refine ite_dec rfl ?_
  | with_reducible refine iteNS rfl ?_
  | with_reducible refine iteNS (by assumption) ?_
  | (apply Or.inl; apply Exists.intro; apply And.intro rfl)
  | (apply Or.inr; apply Exists.intro; apply And.intro rfl)
  | ((fail_if_success (refine @Exists.intro (Nat → Nat → L2.St → Hp → Prop) _ ?_ ?_)); (fail_if_success (refine @Exists.intro (Nat → L2.St → Hp → Prop) _ ?_ ?_)); (fail_if_success (refine @Exists.intro (L2.St → Hp → Prop) _ ?_ ?_)); (fail_if_success (refine @Exists.intro (Hp → Prop) _ ?_ ?_)); (fail_if_success (refine @Exists.intro (Nat → Nat → Hp → Prop) _ ?_ ?_)); apply Exists.intro)))
local macro_rules | `(tactic| walk_at "ev") => `(tactic| repeat (walk_at "s"))
/-! ### the drawing -/
abbrev s__law_take : Stmt := top 7
abbrev N__law_take : List Str := ["_law_box_here", "_law_top", "_law_found", "_law_once"]
abbrev P__law_take : List Str := ["_law_box_here", "_law_top"]
theorem sc__law_take : FnScope N__law_take P__law_take (defScope s__law_take) := ⟨rfl, rfl, rfl, by decide +kernel, rfl, by decide +kernel, by decide +kernel⟩
def spTake : Sp := fun vs H Q _ => ∃ (b : Addr) (top n : Int), vs = [.ref b, .int top] ∧ BoxAt H b n ∧ 0 < top ∧ top < 1073741824 ∧ n < 1048576 ∧ ∀ r H', 0 ≤ r → r < top → Keep b H H' → BoxAt H' b (n + 1) → Q (.int r) H'
section
variable {P : Program} {w : World} {K : PySem.W.Frag} {mg : Str → Option Value} {base : Heap}
theorem ok_take {f : Addr} {fd : FuncData} {k : Nat} (F : Fun K "_law_take" "_law_take" s__law_take f fd) : FnOk P w K mg base CX0 (k + 1) f fd P__law_take spTake := by
  have nd := sc__law_take.nd
  refine F.ok sc__law_take (fun vs H Q E h => ?_) (fun cdv A outer s H vs Q E hr h => ?_)
  · obtain ⟨b, top, n, rfl, _⟩ := h
    rfl
  · obtain ⟨b, top, n, rfl, ⟨x, y, z, hb, hx, hy, hy2, hz, hzn⟩, ht, ht2, hn, q⟩ := h
    refine ⟨_, (pss_cons (ps_if (pt_cmpR op_gt (pe_ix (r := rIxL K) ix_list (pv 0) (pe_int) (fun _ _ => rfl)) (pe_int) (nomark _)) (pss_cons (ps_set (i := 2) nd rfl (Or.inl rfl) (pe_op op_mod (pe_ix (r := rIxL K) ix_list (pv 0) (pe_int) (fun _ _ => rfl)) (pv 1)))
      (pss_cons (ps_asg (pe_op op_fdiv (pe_ix (r := rIxL K) ix_list (pv 0) (pe_int) (fun _ _ => rfl)) (pv 1)) (pg_sub (pv 0) (pe_int) set_list))
      (pss_one (ps_ret (pv 2))))) pss_nil)
      (pss_cons (ps_asg (pe_op op_add (pe_ix (r := rIxL K) ix_list (pv 0) (pe_int) (fun _ _ => rfl)) (pe_int)) (pg_sub (pv 0) (pe_int) set_list))
      (pss_cons (ps_set (i := 3) nd rfl (Or.inl rfl) (pe_op op_mod (pe_op op_pow (pe_op op_add (pe_ix (r := rIxL K) ix_list (pv 0) (pe_int) (fun _ _ => rfl)) (pe_op op_mul (pe_int) (pe_ix (r := rIxL K) ix_list (pv 0) (pe_int) (fun _ _ => rfl)))) (pe_int)) (pe_int)))
      (pss_one (ps_ret (pe_op op_mod (pe_op op_fdiv (pe_op op_mod (pe_op op_add (pe_op op_mul (pv 3) (pe_op op_add (pe_op op_mod (pv 3) (pe_int)) (pe_int))) (pe_op op_mul (pe_ix (r := rIxL K) ix_list (pv 0) (pe_int) (fun _ _ => rfl)) (pe_int))) (pe_int)) (pe_int)) (pv 1))))))), ?_⟩
    have hL : SqL K H b [.int x, .int y, .int z] := SqL.of hb
    walk_at "ev"
    refine ite2 (fun e => ?_) (fun e => ?_)
    · have e1 : 0 < x := of_decide_eq_true e
      walk_at "ev"
      exact q _ _ (Int.emod_nonneg _ (by omega)) (Int.emod_lt_of_pos _ ht) (keep_upd (Keep.refl _ _)) ⟨_, _, _, upd_same, Int.ediv_nonneg hx (by omega), hy, hy2, hz, by omega⟩
    · walk_at "ev"
      exact q _ _ (Int.emod_nonneg _ (by omega)) (Int.emod_lt_of_pos _ ht) (keep_upd (Keep.refl _ _)) ⟨_, _, _, upd_same, hx, hy, hy2, by omega, by omega⟩
end
abbrev s__law_pick : Stmt := top 8
abbrev N__law_pick : List Str := ["_law_box_here", "_law_things"]
abbrev P__law_pick : List Str := ["_law_box_here", "_law_things"]
theorem sc__law_pick : FnScope N__law_pick P__law_pick (defScope s__law_pick) := ⟨rfl, rfl, rfl, by decide +kernel, rfl, by decide +kernel, by decide +kernel⟩
def spPick (K : PySem.W.Frag) : Sp := fun vs H Q _ => ∃ (b a : Addr) (xs : List V) (n : Int), vs = [.ref b, .ref a] ∧ BoxAt H b n ∧ SqL K H a xs ∧ a ≠ b ∧ 0 < (xs.length : Int) ∧ (xs.length : Int) < 1048576 ∧ n < 1048576 ∧ ∀ v H', v ∈ xs → Keep b H H' → BoxAt H' b (n + 1) → Q v H'
section
variable {P : Program} {w : World} {K : PySem.W.Frag} {mg : Str → Option Value} {base : Heap}
theorem ok_pick {f fT : Addr} {fd fdT : FuncData} {k : Nat} (F : Fun K "_law_pick" "_law_pick" s__law_pick f fd) (T : Blt mg) (D__law_take : Df K mg "_law_take" s__law_take P__law_take fT fdT) : FnOk P w K mg base CX0 (k + 2) f fd P__law_pick (spPick K) := by
  have G__law_take : FnOk P w K mg base CX0 (k + 1) fT fdT P__law_take spTake := ok_take D__law_take.F
  have nd := sc__law_pick.nd
  refine F.ok sc__law_pick (fun vs H Q E h => ?_) (fun cdv A outer s H vs Q E hr h => ?_)
  · obtain ⟨b, a, xs, n, rfl, _⟩ := h
    rfl
  · obtain ⟨b, a, xs, n, rfl, hb, hL, hne, h0, h1, hn, q⟩ := h
    refine ⟨_, (pss_one (ps_ret (pe_ix (r := rIxL K) ix_list (pv 1) (pe_call G__law_take (hr.mono (by omega)) (by rfl) D__law_take.g D__law_take.F.kp D__law_take.b .nil pass0 (pa_cons (pv 0) (pa_cons (pe_callB (r := rLenQ K) call_len_seq (by rfl) T.b_len (by decide +kernel) (pa_cons (pv 1) pa_nil)) pa_nil))) (fun _ _ => rfl)))), ?_⟩
    walk_at "ev"
    intro r H' hr0 hr1 hk hb'
    obtain ⟨v, hv, hat⟩ := at_some hr0 hr1
    have hL' := hk.seq hne hL
    walk_at "ev"
    exact q _ _ hv hk hb'
end
abbrev s__law_box : Stmt := top 6
abbrev N__law_box : List Str := ["_law_script", "_law_k", "_law_cell"]
abbrev P__law_box : List Str := ["_law_script", "_law_k"]
theorem sc__law_box : FnScope N__law_box P__law_box (defScope s__law_box) := ⟨rfl, rfl, rfl, by decide +kernel, rfl, by decide +kernel, by decide +kernel⟩
def spBox (K : PySem.W.Frag) : Sp := fun vs H Q _ => ∃ (a : Addr) (ns : List Int) (k : Int), vs = [.ref a, .int k] ∧ SqL K H a (ns.map V.int) ∧ 0 ≤ k ∧ k ≤ 100000 ∧ ∀ p H', H p = none → Same H H' → BoxAt H' p 0 → Q (.ref p) H'
section
variable {P : Program} {w : World} {K : PySem.W.Frag} {mg : Str → Option Value} {base : Heap}
theorem ok_box {f : Addr} {fd : FuncData} {k : Nat} (F : Fun K "_law_box" "_law_box" s__law_box f fd) (T : Blt mg) : FnOk P w K mg base CX0 (k + 1) f fd P__law_box (spBox K) := by
  have nd := sc__law_box.nd
  refine F.ok sc__law_box (fun vs H Q E h => ?_) (fun cdv A outer s H vs Q E hr h => ?_)
  · obtain ⟨b, top, n, rfl, _⟩ := h
    rfl
  · obtain ⟨a, ns, k, rfl, hL, h0, h1, q⟩ := h
    refine ⟨_, (pss_cons (ps_set (i := 2) nd rfl (Or.inl rfl) (pe_int))
      (pss_cons (ps_if (pt_cmpR op_lt (pv 1) (pe_callB (r := rLenQ K) call_len_seq (by rfl) T.b_len (by decide +kernel) (pa_cons (pv 0) pa_nil)) (nomark _)) (pss_one (ps_set (i := 2) nd rfl (Or.inl rfl) (pe_ix (r := rIxL K) ix_list (pv 0) (pv 1) (fun _ _ => rfl)))) pss_nil)
      (pss_one (ps_ret (pe_lst (pa_cons (pe_op op_mul (pe_callB call_abs (by rfl) T.b_abs (by decide +kernel) (pa_cons (pv 2) pa_nil)) (pe_callTy call_int1 (by rfl) T.b_int (by decide +kernel) (pa_cons (pe_cmpR op_ge (pe_callB call_abs (by rfl) T.b_abs (by decide +kernel) (pa_cons (pv 2) pa_nil)) (pe_op op_pow (pe_int) (pe_int)) (nomark _)) pa_nil))) (pa_cons (pe_op op_add (pe_op op_add (pe_op op_mod (pv 2) (pe_int)) (pe_op op_mul (pe_int) (pv 1))) (pe_int)) (pa_cons (pe_int) pa_nil)))))))), ?_⟩
    have fin : ∀ c : Int, ∀ p, H p = none → Q (.ref p) (upd H p (.lst [.int ((if c < 0 then -c else c) * (if decide ((10 : Int) ^ 18 ≤ if c < 0 then -c else c) then 1 else 0)), .int (c % 2147483629 + 7919 * k + 11), .int 0])) := by
      intro c p hp
      refine q p _ hp (same_new hp) ⟨_, _, _, upd_same, ?_, ?_, ?_, by omega, by omega⟩
      · refine Int.mul_nonneg ?_ ?_
        · split <;> omega
        · split <;> omega
      · have := Int.emod_nonneg c (show (2147483629 : Int) ≠ 0 by decide)
        omega
      · have := Int.emod_lt_of_pos c (show (0 : Int) < 2147483629 by decide)
        omega
    walk_at "ev"
    refine ite2 (fun e => ?_) (fun e => ?_)
    · have e1 : k < ((ns.map V.int).length : Int) := of_decide_eq_true e
      rw [List.length_map] at e1
      obtain ⟨c, hc, hat⟩ := at_ints h0 e1
      walk_at "ev"
      exact fin c
    · walk_at "ev"
      exact fin 0
end
abbrev s__law_number : Stmt := top 13
abbrev N__law_number : List Str := ["_law_box_here", "_law_some"]
abbrev P__law_number : List Str := ["_law_box_here"]
theorem sc__law_number : FnScope N__law_number P__law_number (defScope s__law_number) := ⟨rfl, rfl, rfl, by decide +kernel, rfl, by decide +kernel, by decide +kernel⟩
def spNumber : Sp := fun vs H Q _ => ∃ (b : Addr) (n : Int), vs = [.ref b] ∧ BoxAt H b n ∧ n < 1000000 ∧ ∀ r H', 0 ≤ r → r ≤ 1000000 → Keep b H H' → BoxAt H' b (n + 8) → Q (.int r) H'
theorem two_pow17 {r : Int} (h0 : 0 ≤ r) (h : r < 18) : 0 ≤ (2 : Int) * 2 ^ r.toNat ∧ (2 : Int) * 2 ^ r.toNat ≤ 1000000 := by
  have h1 : (2 : Nat) ^ r.toNat ≤ 2 ^ 17 := Nat.pow_le_pow_right (by decide) (by omega)
  have h2 : ((2 : Int) ^ r.toNat) = (((2 : Nat) ^ r.toNat : Nat) : Int) := by
    rw [Int.natCast_pow]
    rfl
  rw [h2]
  have h4 : 0 < (2 : Nat) ^ r.toNat := Nat.pow_pos (by decide)
  have h3 : (2 : Nat) ^ 17 = 131072 := by decide
  omega
theorem mul30 {a b c : Int} (a0 : 0 ≤ a) (a1 : a < 30) (b0 : 0 ≤ b) (b1 : b < 30) (c0 : 0 ≤ c) (c1 : c < 30) : 0 ≤ (a + 1) * (b + 1) * (c + 1) ∧ (a + 1) * (b + 1) * (c + 1) ≤ 1000000 := by
  have h1 : 0 ≤ (a + 1) * (b + 1) := Int.mul_nonneg (by omega) (by omega)
  have h2 : (a + 1) * (b + 1) ≤ 30 * 30 := Int.mul_le_mul (by omega) (by omega) (by omega) (by omega)
  refine ⟨Int.mul_nonneg h1 (by omega), ?_⟩
  have h3 : (a + 1) * (b + 1) * (c + 1) ≤ (30 * 30) * 30 := Int.mul_le_mul h2 (by omega) (by omega) (by omega)
  omega
section
variable {P : Program} {w : World} {K : PySem.W.Frag} {mg : Str → Option Value} {base : Heap}
theorem ok_number {f fT fP : Addr} {fd fdT fdP : FuncData} {k : Nat} (F : Fun K "_law_number" "_law_number" s__law_number f fd) (T : Blt mg) (D__law_take : Df K mg "_law_take" s__law_take P__law_take fT fdT) (D__law_pick : Df K mg "_law_pick" s__law_pick P__law_pick fP fdP) : FnOk P w K mg base CX0 (k + 3) f fd P__law_number spNumber := by
  have G__law_take : FnOk P w K mg base CX0 (k + 1) fT fdT P__law_take spTake := ok_take D__law_take.F
  have G__law_pick : FnOk P w K mg base CX0 (k + 2) fP fdP P__law_pick (spPick K) := ok_pick D__law_pick.F T D__law_take
  have nd := sc__law_number.nd
  refine F.ok sc__law_number (fun vs H Q E h => ?_) (fun cdv A outer s H vs Q E hr h => ?_)
  · obtain ⟨b, n, rfl, _⟩ := h
    rfl
  · obtain ⟨b, n, rfl, hb, hn, q⟩ := h
    refine ⟨_, (pss_cons (ps_set (i := 1) nd rfl (Or.inl rfl) (pe_lst (pa_cons (pe_call G__law_take (hr.mono (by omega)) (by rfl) D__law_take.g D__law_take.F.kp D__law_take.b .nil pass0 (pa_cons (pv 0) (pa_cons (pe_int) pa_nil))) (pa_cons (pe_call G__law_take (hr.mono (by omega)) (by rfl) D__law_take.g D__law_take.F.kp D__law_take.b .nil pass0 (pa_cons (pv 0) (pa_cons (pe_int) pa_nil))) (pa_cons (pe_call G__law_take (hr.mono (by omega)) (by rfl) D__law_take.g D__law_take.F.kp D__law_take.b .nil pass0 (pa_cons (pv 0) (pa_cons (pe_op op_add (pe_op op_pow (pe_int) (pe_int)) (pe_int)) pa_nil))) (pa_cons (pe_op op_shl (pe_int) (pe_call G__law_take (hr.mono (by omega)) (by rfl) D__law_take.g D__law_take.F.kp D__law_take.b .nil pass0 (pa_cons (pv 0) (pa_cons (pe_int) pa_nil)))) (pa_cons (pe_op op_pow (pe_int) (pe_int)) pa_nil)))))))
      (pss_cons (ps_set (i := 1) nd rfl (Or.inl rfl) (pe_op op_cat (pv 1) (pe_lst (pa_cons (pe_op op_mul (pe_op op_mul (pe_op op_add (pe_call G__law_take (hr.mono (by omega)) (by rfl) D__law_take.g D__law_take.F.kp D__law_take.b .nil pass0 (pa_cons (pv 0) (pa_cons (pe_int) pa_nil))) (pe_int)) (pe_op op_add (pe_call G__law_take (hr.mono (by omega)) (by rfl) D__law_take.g D__law_take.F.kp D__law_take.b .nil pass0 (pa_cons (pv 0) (pa_cons (pe_int) pa_nil))) (pe_int))) (pe_op op_add (pe_call G__law_take (hr.mono (by omega)) (by rfl) D__law_take.g D__law_take.F.kp D__law_take.b .nil pass0 (pa_cons (pv 0) (pa_cons (pe_int) pa_nil))) (pe_int))) (pa_cons (pe_int) (pa_cons (pe_op op_mul (pe_int) (pe_int)) pa_nil))))))
      (pss_one (ps_ret (pe_call G__law_pick (hr.mono (by omega)) (by rfl) D__law_pick.g D__law_pick.F.kp D__law_pick.b .nil pass0 (pa_cons (pv 0) (pa_cons (pv 1) pa_nil))))))), ?_⟩
    walk_at "ev"
    intro r1 H1 l1 u1 k1 b1
    walk_at "ev"
    intro r2 H2 l2 u2 k2 b2
    walk_at "ev"
    intro r3 H3 l3 u3 k3 b3
    walk_at "ev"
    intro r4 H4 l4 u4 k4 b4
    walk_at "ev"
    intro p hp
    generalize hG : upd _ p _ = H4'
    obtain ⟨sm, hp4⟩ := newO hG hp
    have np := b4.ne hp
    have b4' := b4.same sm
    walk_at "ev"
    intro r5 H5 l5 u5 k5 b5
    walk_at "ev"
    intro r6 H6 l6 u6 k6 b6
    walk_at "ev"
    intro r7 H7 l7 u7 k7 b7
    have hp7 := k7 _ _ np (k6 _ _ np (k5 _ _ np hp4))
    have m1 : CMul (r5 + 1) (r6 + 1) := .inl ⟨by omega, by omega⟩
    have m2 : CMul ((r5 + 1) * (r6 + 1)) (r7 + 1) := .inr ⟨by omega, by omega⟩
    walk_at "ev"
    intro p2 hp2
    generalize hG : upd _ p2 _ = H8
    obtain ⟨sm8, hp8⟩ := newO hG hp2
    have hp9 := sm8 _ _ hp7
    walk_at "ev"
    intro p3 hp3
    generalize hG : upd _ p3 _ = H9
    obtain ⟨sm9, hp10⟩ := newO hG hp3
    have b9 := (b7.same sm8).same sm9
    have n3 := (b7.same sm8).ne hp3
    have hL := SqL.of (K := K) hp10
    walk_at "ev"
    intro v H10 hv k10 b10
    have kk : Keep b H H10 := (k1.trans (k2.trans (k3.trans (k4.trans ((keepS sm).trans (k5.trans (k6.trans (k7.trans ((keepS sm8).trans ((keepS sm9).trans k10))))))))))
    have t1 := two_pow17 l4 u4
    have t2 := mul30 l5 u5 l6 u6 l7 u7
    rw [pw6] at u3
    simp only [List.cons_append, List.nil_append, List.mem_cons, List.not_mem_nil, or_false, pw6] at hv
    rcases hv with h | h | h | h | h | h | h | h <;> (rw [h]; refine q _ _ ?_ ?_ kk (b10.mono (by omega)))
    all_goals first | omega | exact t1.1 | exact t1.2 | exact t2.1 | exact t2.2 | decide
end
/-! ### the mathematics of primes -/
def Rough (n d : Int) : Prop := ∀ e : Int, 2 ≤ e → e < d → ¬ e ∣ n
inductive Fac : Int → List Int → Prop
  | one : Fac 1 []
  | cons {n p q : Int} {ps : List Int} : 2 ≤ p → n = p * q → 1 ≤ q → Rough n p → Fac q ps → Fac n (p :: ps)
theorem Fac.uniq : ∀ {n : Int} {xs ys : List Int}, Fac n xs → Fac n ys → xs = ys := by
  intro n xs ys h
  induction h generalizing ys with
  | one =>
    intro k
    cases k with
    | one => rfl
    | cons h1 h2 h3 h4 h5 =>
      rename_i p q ps
      have : 2 * 1 ≤ p * q := Int.mul_le_mul h1 h3 (by omega) (by omega)
      omega
  | cons h1 h2 h3 h4 h5 ih =>
    rename_i n p q ps
    intro k
    cases k with
    | one =>
      have : 2 * 1 ≤ p * q := Int.mul_le_mul h1 h3 (by omega) (by omega)
      omega
    | cons g1 g2 g3 g4 g5 =>
      rename_i p' q' ps'
      have e : p = p' := by
        rcases Int.lt_trichotomy p p' with l | l | l
        · exact absurd ⟨q, h2⟩ (g4 p h1 l)
        · exact l
        · exact absurd ⟨q', g2⟩ (h4 p' g1 l)
      subst e
      have e2 : q = q' := by
        have : p * q = p * q' := by omega
        exact Int.eq_of_mul_eq_mul_left (by omega) this
      subst e2
      rw [ih g5]
theorem Fac.len1 {n : Int} {xs : List Int} (h : Fac n xs) (e : xs.length = 1) : xs = [n] := by
  cases h with
  | one => simp at e
  | cons h1 h2 h3 h4 h5 =>
    rename_i p q ps
    have : ps = [] := by
      cases ps with
      | nil => rfl
      | cons a r => simp at e
    subst this
    cases h5 with
    | one =>
      rw [h2, Int.mul_one]
theorem Fac.self {n : Int} (h : 2 ≤ n) (r : Rough n n) : Fac n [n] := .cons h (by omega) (by omega) r .one
theorem Rough.of_fac {n : Int} (h : Fac n [n]) : 2 ≤ n ∧ Rough n n := by
  cases h with
  | cons h1 h2 h3 h4 h5 => exact ⟨h1, h4⟩
theorem Rough.step {n d : Int} (h : Rough n d) (e : ¬ d ∣ n) : Rough n (d + 1) := fun c h1 h2 => by
  by_cases q : c = d
  · rw [q]; exact e
  · exact h c h1 (by omega)
theorem Rough.quot {n p q d : Int} (h : Rough n d) (e : n = p * q) : Rough q d := fun c h1 h2 k => h c h1 h2 (by rw [e]; exact Int.dvd_trans k (Int.dvd_mul_left p q))
/-- nothing below d divides n, d squared is above n: n has no divisor at all -/
theorem Rough.top {n d : Int} (h : Rough n d) (hd : 2 ≤ d) (hn : 2 ≤ n) (e : n < d * d) : Rough n n := fun c h1 h2 k => by
  obtain ⟨q, hq⟩ := k
  by_cases hc : c < d
  · exact h c h1 hc ⟨q, hq⟩
  · have hq0 : 0 < q := by
      apply Int.lt_of_not_ge
      intro z
      have : c * q ≤ 0 := Int.mul_nonpos_of_nonneg_of_nonpos (by omega) z
      omega
    have hq1 : q ≠ 1 := by
      intro z
      rw [z] at hq
      omega
    have hqd : q < d := by
      apply Int.lt_of_not_ge
      intro z
      have : d * d ≤ c * q := Int.mul_le_mul (by omega) z (by omega) (by omega)
      omega
    exact h q (by omega) hqd ⟨c, by rw [hq, Int.mul_comm]⟩
theorem dvd_iff {n d : Int} : n % d = 0 ↔ d ∣ n := ⟨Int.dvd_of_emod_eq_zero, Int.emod_eq_zero_of_dvd⟩
/-- a divisor taken out -/
theorem Fac.out {n num d : Int} {found : List Int} (h : ∀ ps, Fac num ps → Fac n (found ++ ps)) (hd : 2 ≤ d) (h1 : 1 ≤ num) (r : Rough num d) (e : num % d = 0) :
    (∀ ps, Fac (num / d) ps → Fac n ((found ++ [d]) ++ ps)) ∧ 1 ≤ num / d ∧ Rough (num / d) d ∧ 2 * (num / d) ≤ num := by
  have e1 : num = d * (num / d) := (Int.mul_ediv_cancel' (Int.dvd_of_emod_eq_zero e)).symm
  generalize num / d = q at *
  have q0 : 0 < q := by
    apply Int.lt_of_not_ge
    intro z
    have : d * q ≤ 0 := Int.mul_nonpos_of_nonneg_of_nonpos (by omega) z
    omega
  refine ⟨fun ps f => ?_, q0, r.quot e1, ?_⟩
  · rw [List.append_assoc]
    exact h _ (.cons hd e1 q0 r f)
  · have : 2 * q ≤ d * q := Int.mul_le_mul_of_nonneg_right hd (by omega)
    omega
theorem pow_len {L : Nat} {num n : Int} (h : 2 ^ L * num.toNat ≤ n.toNat) (h1 : 1 ≤ num) (hn : n ≤ 1000000000) : L ≤ 30 := by
  apply Nat.le_of_not_gt
  intro z
  have a : 2 ^ 31 ≤ 2 ^ L := Nat.pow_le_pow_right (by decide) z
  have b : 2 ^ L * 1 ≤ 2 ^ L * num.toNat := Nat.mul_le_mul_left _ (by omega)
  have h31 : (2 : Nat) ^ 31 = 2147483648 := by decide
  omega
theorem pow_step {L : Nat} {num q n : Int} (h : 2 ^ L * num.toNat ≤ n.toNat) (e : 2 * q ≤ num) : 2 ^ (L + 1) * q.toNat ≤ n.toNat := by
  have : 2 ^ (L + 1) * q.toNat = 2 ^ L * (2 * q.toNat) := by rw [Nat.pow_succ, Nat.mul_assoc]
  rw [this]
  exact Nat.le_trans (Nat.mul_le_mul_left _ (by omega)) h
/-! ### kinds of things -/
inductive Kd (K : PySem.W.Frag) (H : Hp) : V → String → Prop
  | non : Kd K H .non "NoneType"
  | bl (b : Bool) : Kd K H (.bl b) "bool"
  | int (i : Int) : Kd K H (.int i) "int"
  | str (x : Str) : Kd K H (.str x) "str"
  | lst {a : Addr} {xs : List V} : SqL K H a xs → Kd K H (.ref a) "list"
  | tup {a : Addr} {xs : List V} : SqT K H a xs → Kd K H (.ref a) "tuple"
theorem Kd.ty {K : PySem.W.Frag} {H : Hp} {x : V} {t : String} (h : Kd K H x t) : TyX K H x (.type t) := by
  cases h with
  | non => exact .base .non
  | bl b => exact .base (.bl b)
  | int i => exact .base (.int i)
  | str x => exact .base (.str x)
  | lst h =>
    rcases h with (h | ⟨o, h⟩) | ⟨o, its, n, h1, h2, _⟩
    · exact .base (.lst h)
    · exact .base (.frz h)
    · exact .kList h1 h2
  | tup h =>
    rcases h with (h | ⟨o, h⟩) | ⟨o, its, n, h1, h2, _⟩
    · exact .base (.tup h)
    · exact .fTuple h
    · exact .kTuple h1 h2
theorem Kd.same {K : PySem.W.Frag} {H H' : Hp} {x : V} {t : String} (h : Kd K H x t) (e : Same H H') : Kd K H' x t := by
  cases h with
  | non => exact .non
  | bl b => exact .bl b
  | int i => exact .int i
  | str x => exact .str x
  | lst h => exact .lst (e.seq h)
  | tup h => exact .tup (same_t e h)
def tis (t c : String) : Bool := t == c || (t == "bool" && c == "int")
theorem Kd.kit {K : PySem.W.Frag} {H : Hp} {x : V} {t : String} (h : Kd K H x t) : PySem.W.kitOne K (.type t) (.type "int") = some (tis t "int") ∧ PySem.W.kitOne K (.type t) (.type "bool") = some (tis t "bool") ∧ PySem.W.kitOne K (.type t) (.type "str") = some (tis t "str") ∧ PySem.W.kitOne K (.type t) (.type "list") = some (tis t "list") ∧ PySem.W.kitOne K (.type t) (.type "tuple") = some (tis t "tuple") := by
  cases h <;> exact ⟨kit_ty (by decide +kernel), kit_ty (by decide +kernel), kit_ty (by decide +kernel), kit_ty (by decide +kernel), kit_ty (by decide +kernel)⟩
theorem kit_lt {K : PySem.W.Frag} {t : String} {a b : Bool} (h1 : PySem.W.kitOne K (.type t) (.type "list") = some a) (h2 : PySem.W.kitOne K (.type t) (.type "tuple") = some b) : PySem.W.kitAny K (.type t) [.type "list", .type "tuple"] = some (a || b) := by
  refine kitAny_cons h1 (fun e => kitAny_cons h2 (fun e2 => ?_) (fun e2 => ?_)) (fun e => by rw [e]; rfl)
  · rw [e, e2]
    exact kitAny_nil
  · rw [e, e2]
    rfl
/-! ### == of lists of ints -/
theorem dp_ints {K : PySem.W.Frag} {H : Hp} : ∀ ns : List Int, DpAll K H (ns.map V.int) (ns.map PyData.int)
  | [] => .nil
  | n :: r => .cons (.int n) (dp_ints r)
theorem eqv_ints : ∀ ns ms : List Int, PyData.eqvAll (ns.map PyData.int) (ms.map PyData.int) = decide (ns = ms)
  | [], [] => by simp [PyData.eqvAll]
  | [], _ :: _ => by simp [PyData.eqvAll]
  | _ :: _, [] => by simp [PyData.eqvAll]
  | a :: r, b :: t => by
    simp only [List.map_cons, PyData.eqvAll, PyData.eqv, eqv_ints r t]
    by_cases h : a = b <;> by_cases h' : r = t <;> simp [h, h']
theorem eqd_ints {K : PySem.W.Frag} {H : Hp} {a b : Addr} {ns ms : List Int} {Q : VK} (ha : SqL K H a (ns.map V.int)) (hb : SqL K H b (ms.map V.int)) (q : Q (.bl (decide (ns = ms))) H) : rEqD K (.ref a) (.ref b) H Q := by
  refine ⟨_, _, .lst ha (dp_ints ns), .lst hb (dp_ints ms), PySem.W.ke_shaped_ints ns, PySem.W.ke_shaped_ints ms, ?_⟩
  have e : PyData.eqv (.list (ns.map PyData.int)) (.list (ms.map PyData.int)) = decide (ns = ms) := by
    rw [PyData.eqv]
    exact eqv_ints ns ms
  rw [e]
  exact q
abbrev s_factors : Stmt := top 1
abbrev N_factors : List Str := ["number", "found", "divisor"]
abbrev P_factors : List Str := ["number"]
theorem sc_factors : FnScope N_factors P_factors (defScope s_factors) := ⟨rfl, rfl, rfl, by decide +kernel, rfl, by decide +kernel, by decide +kernel⟩
def spFactors : Sp := fun vs H Q _ => ∃ (n : Int), vs = [.int n] ∧ 1 ≤ n ∧ n ≤ 1000000000 ∧ ∀ xs p H', Fac n xs → H p = none → Same H H' → H' p = some (.lst (xs.map V.int)) → Q (.ref p) H'
section
variable {P : Program} {w : World} {K : PySem.W.Frag} {mg : Str → Option Value} {base : Heap}
theorem ok_factors {f : Addr} {fd : FuncData} {k : Nat} (F : Fun K "factors" "factors" s_factors f fd) : FnOk P w K mg base CX0 (k + 1) f fd P_factors spFactors := by
  have nd := sc_factors.nd
  refine F.ok sc_factors (fun vs H Q E h => ?_) (fun cdv A outer s H vs Q E hr h => ?_)
  · obtain ⟨n, rfl, _⟩ := h
    rfl
  · obtain ⟨n, rfl, hn1, hn2, q⟩ := h
    refine ⟨_, (pss_cons (ps_set (i := 1) nd rfl (Or.inl rfl) (pe_lst pa_nil))
      (pss_cons (ps_set (i := 2) nd rfl (Or.inl rfl) (pe_int))
      (pss_cons (ps_while PassesOwn.never (pt_cmpR op_le (pe_op op_mul (pv 2) (pv 2)) (pv 0) (nomark _))
      (pss_one (ps_if (pt_cmpR op_eq (pe_op op_mod (pv 0) (pv 2)) (pe_int) (nomark _)) (pss_cons (ps_expr (pe_bm PySem.F.plainAttrs_list PySem.F.slot_list_append PySem.F.type_list_append mt_append (pv 1) (pa_cons (pv 2) pa_nil)))
      (pss_one (ps_aug (i := 0) nd rfl (Or.inl rfl) (pv 2) iop_fdivW))) (pss_one (ps_aug (i := 2) nd rfl (Or.inl rfl) (pe_int) ip_add)))))
      (pss_cons (ps_if (pt_cmpR op_gt (pv 0) (pe_int) (nomark _)) (pss_one (ps_expr (pe_bm PySem.F.plainAttrs_list PySem.F.slot_list_append PySem.F.type_list_append mt_append (pv 1) (pa_cons (pv 0) pa_nil)))) pss_nil)
      (pss_one (ps_ret (pv 1))))))), ?_⟩
    walk_at "ev"
    intro p hp
    generalize hG : upd _ p _ = H1
    obtain ⟨sm, hp1⟩ := newO hG hp
    refine ⟨fun m σ H' => ∃ (num d : Int) (found : List Int), σ = [some (.int num), some (.ref p), some (.int d)] ∧ m = (num - d).toNat + num.toNat ∧ 1 ≤ num ∧ num ≤ n ∧ 2 ≤ d ∧ d ≤ n + 2 ∧ 2 ^ found.length * num.toNat ≤ n.toNat ∧ Rough num d ∧ (∀ ps, Fac num ps → Fac n (found ++ ps)) ∧ Same H H' ∧ H' p = some (.lst (found.map V.int)), ⟨_, n, 2, [], rfl, rfl, hn1, by omega, by omega, by omega, by simp, fun e h1 h2 => by omega, fun ps f => f, sm, hp1⟩, ?_⟩
    rintro m σ H' ⟨num, d, found, rfl, rfl, h1, h2, h3, h4, h5, hr', hf, sm', hp'⟩
    have hL := pow_len h5 h1 hn2
    have cm : CMul d d := .inl ⟨by omega, by omega⟩
    walk_at "ev"
    refine ite2 (fun e => ?_) (fun e => ?_)
    · have e1 : d * d ≤ num := of_decide_eq_true e
      refine ⟨_, holdN, ?_⟩
      walk_at "ev"
      refine ite2 (fun e2 => ?_) (fun e2 => ?_)
      · have e3 : num % d = 0 := V.int.inj (of_decide_eq_true e2)
        obtain ⟨o1, o2, o3, o4⟩ := Fac.out hf h3 h1 hr' e3
        walk_at "ev"
        refine .mk ⟨(num / d - d).toNat + (num / d).toNat, by omega, num / d, d, found ++ [d], rfl, rfl, o2, by omega, h3, h4, ?_, o3, o1, same_mut sm' hp, by rw [upd_same, List.map_append]; rfl⟩
        rw [List.length_append]
        exact pow_step h5 o4
      · have e3 : ¬ num % d = 0 := fun z => e2 (decide_eq_true (congrArg V.int z))
        have e4 : 2 * d ≤ d * d := Int.mul_le_mul_of_nonneg_right h3 (by omega)
        walk_at "ev"
        exact .mk ⟨(num - (d + 1)).toNat + num.toNat, by omega, num, d + 1, found, rfl, rfl, h1, h2, by omega, by omega, h5, hr'.step (fun z => e3 (dvd_iff.mpr z)), hf, sm', hp'⟩
    · have e1 : ¬ d * d ≤ num := fun z => e (decide_eq_true z)
      walk_at "ev"
      refine ite2 (fun e2 => ?_) (fun e2 => ?_)
      · have e3 : 1 < num := of_decide_eq_true e2
        walk_at "ev"
        refine q (found ++ [num]) _ _ (hf _ (Fac.self (by omega) (hr'.top h3 (by omega) (by omega)))) hp (same_mut sm' hp) (by rw [upd_same, List.map_append]; rfl)
      · have e3 : ¬ 1 < num := fun z => e2 (decide_eq_true z)
        have e4 : num = 1 := by omega
        walk_at "ev"
        subst e4
        have fin := hf [] .one
        rw [List.append_nil] at fin
        exact q found _ _ fin hp sm' hp'
end
/-! ### the law's own comparing, of like things -/
abbrev s__law_same : Stmt := top 9
abbrev N__law_same : List Str := ["_law_found", "_law_due", "_law_one", "_law_two"]
abbrev P__law_same : List Str := ["_law_found", "_law_due"]
theorem sc__law_same : FnScope N__law_same P__law_same (defScope s__law_same) := ⟨rfl, rfl, rfl, by decide +kernel, rfl, by decide +kernel, by decide +kernel⟩
def Fit : Nat → PyData → Prop
  | 0, .list _ => False
  | 0, .tuple _ => False
  | n + 1, .list ds => ds.length ≤ 4000 ∧ ∀ e ∈ ds, Fit n e
  | n + 1, .tuple ds => ds.length ≤ 4000 ∧ ∀ e ∈ ds, Fit n e
  | _, .dict _ => False
  | _, _ => True
theorem dpall_len {K : PySem.W.Frag} {H : Hp} : ∀ {xs : List V} {ds : List PyData}, DpAll K H xs ds → xs.length = ds.length
  | _, _, .nil => rfl
  | _, _, .cons _ h => by rw [List.length_cons, List.length_cons, dpall_len h]
theorem dpall_get {K : PySem.W.Frag} {H : Hp} : ∀ {xs : List V} {ds : List PyData} {i : Nat} {x : V}, DpAll K H xs ds → xs[i]? = some x → ∃ d, ds[i]? = some d ∧ Dp K H x d
  | _, _, _, _, .nil, h => by simp at h
  | _, _, 0, _, .cons (d := d) h1 h2, h => ⟨d, rfl, by
      have e := Option.some.inj h
      rw [← e]
      exact h1⟩
  | _, _, i + 1, _, .cons h1 h2, h => dpall_get (i := i) h2 h
mutual
theorem dp_same {K : PySem.W.Frag} {H H' : Hp} (e : Same H H') : ∀ {x : V} {d : PyData}, Dp K H x d → Dp K H' x d
  | _, _, .non => .non
  | _, _, .bl b => .bl b
  | _, _, .int i => .int i
  | _, _, .str x => .str x
  | _, _, .lst h a => .lst (e.seq h) (dpall_same e a)
  | _, _, .tup h a => .tup (same_t e h) (dpall_same e a)
theorem dpall_same {K : PySem.W.Frag} {H H' : Hp} (e : Same H H') : ∀ {xs : List V} {ds : List PyData}, DpAll K H xs ds → DpAll K H' xs ds
  | _, _, .nil => .nil
  | _, _, .cons h a => .cons (dp_same e h) (dpall_same e a)
end
def spSame (K : PySem.W.Frag) (n : Nat) : Sp := fun vs H Q _ => ∃ (x y : V) (d : PyData), vs = [x, y] ∧ Dp K H x d ∧ Dp K H y d ∧ Fit n d ∧ ∀ H', Same H H' → Q (.bl true) H'
/-- a comprehension over pairs -/
theorem lc_pairs {J : It} {xs ys : List V} {g : TG} {tt : TT} {te : TE} {vs : List Nat} {σ : L2.St} {H1 : Hp} {D : Addr} {Qd : Hp → Prop} (Pv : Nat → Hp → Prop) (h0 : Pv 0 (upd H1 D (.lst [])))
    (hgo : ∀ i H, Pv i H → i < xs.length → J.go i H) (hy : ∀ i H v H', Pv i H → i < xs.length → J.yld i H v H' → ∃ T x y, v = .ref T ∧ H T = none ∧ H' = upd H T (.tup [x, y]) ∧ xs[i]? = some x ∧ ys[i]? = some y)
    (hst : ∀ H, Pv xs.length H → J.stop xs.length H)
    (hs : ∀ i x y T H H', xs[i]? = some x → ys[i]? = some y → Pv i H → H T = none → H' = upd H T (.tup [x, y]) → g (.ref T) (wipe σ vs) H' fun σ2 H2 => wipe σ2 vs = wipe σ vs ∧ tt σ2 H2 fun b H3 =>
      if b = true then te σ2 H3 fun y H4 => ∃ acc, H4 D = some (.lst acc) ∧ acc.length < sizeLine ∧ Pv (i + 1) (upd H4 D (.lst (acc ++ [y]))) else Pv (i + 1) H3) (hd : ∀ H, Pv xs.length H → Qd H) :
    ∃ W : Nat → Nat → Hp → Prop, (∃ m, W 0 m (upd H1 D (.lst []))) ∧ ∀ i m H, W i m H →
      (J.stop i H ∧ Qd H) ∨ (J.go i H ∧ ∃ Nx : Hp → Prop, (∀ H', Nx H' → ∃ m', m' < m ∧ W (i + 1) m' H') ∧ ∀ x H', J.yld i H x H' → g x (wipe σ vs) H' fun σ2 H2 => wipe σ2 vs = wipe σ vs ∧ tt σ2 H2 fun b H3 =>
        if b = true then te σ2 H3 fun y H4 => ∃ acc, H4 D = some (.lst acc) ∧ acc.length < sizeLine ∧ Nx (upd H4 D (.lst (acc ++ [y]))) else Nx H3) := by
  refine ⟨fun i m H => m = xs.length - i ∧ i ≤ xs.length ∧ Pv i H, ⟨xs.length, by simp, Nat.zero_le _, h0⟩, ?_⟩
  rintro i m H ⟨rfl, hi, p⟩
  by_cases hlt : i < xs.length
  · refine .inr ⟨hgo i H p hlt, Pv (i + 1), fun H' p' => ⟨xs.length - (i + 1), by omega, rfl, hlt, p'⟩, fun v H' yl => ?_⟩
    obtain ⟨T, x, y, rfl, hT, e, f1, f2⟩ := hy i H v H' p hlt yl
    exact hs i x y T H H' f1 f2 p hT e
  · have e : i = xs.length := by omega
    subst e
    exact .inl ⟨hst H p, hd H p⟩
theorem q_dec {Q : VK} {x : V} {H : Hp} (h : Q (.bl true) H) : Q (.bl (decide (x = x))) H := by
  rw [decide_eq_true rfl]
  exact h
theorem all_true : ∀ n : Nat, (List.replicate n true).all id = true
  | 0 => rfl
  | n + 1 => by
    rw [List.replicate_succ, List.all_cons, all_true n]
    rfl
section
variable {P : Program} {w : World} {K : PySem.W.Frag} {mg : Str → Option Value} {base : Heap}
theorem same_step {f : Addr} {fd : FuncData} {n : Nat} {spI : Sp} (D__law_same : Df K mg "_law_same" s__law_same P__law_same f fd) (T : Blt mg) (G__law_same : FnOk P w K mg base CX0 n f fd P__law_same spI) (hG : ∀ m, n = m + 1 → spI = spSame K m) : FnOk P w K mg base CX0 (n + 1) f fd P__law_same (spSame K n) := by
  have nd := sc__law_same.nd
  refine D__law_same.F.ok sc__law_same (fun vs H Q E h => ?_) (fun cdv A outer s H vs Q E hr h => ?_)
  · obtain ⟨x, y, d, rfl, _⟩ := h
    rfl
  · obtain ⟨x, y, d, rfl, hx, hy, hf, q⟩ := h
    refine ⟨_, (pss_cons (ps_if (pt_val (pe_callB (r := rIsiT K) call_isiT (by rfl) T.b_isinstance (by decide +kernel) (pa_cons (pv 1) (pa_cons (pe_tup (pa_cons (pe_bltn (v := .ty "list") (by rfl) T.b_list (by decide +kernel) rfl) (pa_cons (pe_bltn (v := .ty "tuple") (by rfl) T.b_tuple (by decide +kernel) rfl) pa_nil))) pa_nil)))) (pss_cons (ps_if (PW.pt (pw_or (pt_cmpR op_ne (pe_callB (r := rIsi K) call_isi (by rfl) T.b_isinstance (by decide +kernel) (pa_cons (pv 0) (pa_cons (pe_bltn (v := .ty "list") (by rfl) T.b_list (by decide +kernel) rfl) pa_nil))) (pe_callB (r := rIsi K) call_isi (by rfl) T.b_isinstance (by decide +kernel) (pa_cons (pv 1) (pa_cons (pe_bltn (v := .ty "list") (by rfl) T.b_list (by decide +kernel) rfl) pa_nil))) (nomark _)) (pw_or1 (pt_cmpR op_ne (pe_callB (r := rIsi K) call_isi (by rfl) T.b_isinstance (by decide +kernel) (pa_cons (pv 0) (pa_cons (pe_bltn (v := .ty "tuple") (by rfl) T.b_tuple (by decide +kernel) rfl) pa_nil))) (pe_callB (r := rIsi K) call_isi (by rfl) T.b_isinstance (by decide +kernel) (pa_cons (pv 1) (pa_cons (pe_bltn (v := .ty "tuple") (by rfl) T.b_tuple (by decide +kernel) rfl) pa_nil))) (nomark _))))) (pss_one (ps_ret (pe_bl))) pss_nil)
      (pss_cons (ps_if (pt_cmpR op_ne (pe_callB (r := rLenQ K) call_len_seq (by rfl) T.b_len (by decide +kernel) (pa_cons (pv 0) pa_nil)) (pe_callB (r := rLenQ K) call_len_seq (by rfl) T.b_len (by decide +kernel) (pa_cons (pv 1) pa_nil)) (nomark _)) (pss_one (ps_ret (pe_bl))) pss_nil)
      (pss_one (ps_ret (pe_callB (r := rAll K) (cr_all rfl) (by rfl) T.b_all (by decide +kernel) (pa_cons (pe_lc (own := [("_law_one", 2), ("_law_two", 3)]) (g := gTup K 2 (gCons (gName 2) (gCons (gName 3) gNil))) (by rfl) nd (RZ.pi_zipA (by rfl) T.b_zip (pa_cons (pv 0) (pa_cons (pv 1) pa_nil))) (blkOk_by (own := [("_law_one", 2), ("_law_two", 3)]) (N := N__law_same) (sc := defScope s__law_same) (by decide +kernel)) (fun _ _ _ _ _ => (pg_tup (by rfl) (pgs_cons (pg_name (i := 2) nd rfl (Or.inl rfl)) (pgs_cons (pg_name (i := 3) nd rfl (Or.inl rfl)) pgs_nil)))) (fun _ _ _ _ _ => pts_nil) (fun _ _ _ _ _ => (pe_call G__law_same (hr.mono (by omega)) (by rfl) D__law_same.g D__law_same.F.kp D__law_same.b .nil pass0 (pa_cons (pv 2) (pa_cons (pv 3) pa_nil))))) pa_nil)))))) pss_nil)
      (pss_cons (ps_if (PW.pt (pw_or (pt_cmpR op_isN (pv 1) (pe_non) (nomark _)) (pw_or1 (pt_val (pe_callB (r := rIsi K) call_isi (by rfl) T.b_isinstance (by decide +kernel) (pa_cons (pv 1) (pa_cons (pe_bltn (v := .ty "str") (by rfl) T.b_str (by decide +kernel) rfl) pa_nil))))))) (pss_one (ps_ret (pe_and (pe_cmpR op_eq (pv 0) (pv 1) (nomark _)) (pe_one (pe_cmpR op_eq (pe_callB (r := rIsi K) call_isi (by rfl) T.b_isinstance (by decide +kernel) (pa_cons (pv 0) (pa_cons (pe_bltn (v := .ty "str") (by rfl) T.b_str (by decide +kernel) rfl) pa_nil))) (pe_callB (r := rIsi K) call_isi (by rfl) T.b_isinstance (by decide +kernel) (pa_cons (pv 1) (pa_cons (pe_bltn (v := .ty "str") (by rfl) T.b_str (by decide +kernel) rfl) pa_nil))) (nomark _)))))) pss_nil)
      (pss_one (ps_ret (pe_and (pe_callB (r := rIsi K) call_isi (by rfl) T.b_isinstance (by decide +kernel) (pa_cons (pv 0) (pa_cons (pe_bltn (v := .ty "int") (by rfl) T.b_int (by decide +kernel) rfl) pa_nil))) (pe_and (pe_cmpR op_eq (pe_callB (r := rIsi K) call_isi (by rfl) T.b_isinstance (by decide +kernel) (pa_cons (pv 0) (pa_cons (pe_bltn (v := .ty "bool") (by rfl) T.b_bool (by decide +kernel) rfl) pa_nil))) (pe_callB (r := rIsi K) call_isi (by rfl) T.b_isinstance (by decide +kernel) (pa_cons (pv 1) (pa_cons (pe_bltn (v := .ty "bool") (by rfl) T.b_bool (by decide +kernel) rfl) pa_nil))) (nomark _)) (pe_one (pe_cmpR op_eq (pv 0) (pv 1) (nomark _))))))))), ?_⟩
    cases hx with
    | non =>
      cases hy
      walk_at "ev"
      intro p hp
      generalize hH : upd _ p _ = H1
      obtain ⟨sm, hp1⟩ := newO hH hp
      have kd : Kd K H1 .non "NoneType" := .non
      have ty := kd.ty
      obtain ⟨k1, k2, k3, k4, k5⟩ := kd.kit
      have ka := kit_lt k4 k5
      walk_at "ev"
      exact q_dec (q _ sm)
    | bl b =>
      cases hy
      walk_at "ev"
      intro p hp
      generalize hH : upd _ p _ = H1
      obtain ⟨sm, hp1⟩ := newO hH hp
      have kd : Kd K H1 (.bl b) "bool" := .bl b
      have ty := kd.ty
      obtain ⟨k1, k2, k3, k4, k5⟩ := kd.kit
      have ka := kit_lt k4 k5
      walk_at "ev"
      exact q_dec (q _ sm)
    | int i =>
      cases hy
      walk_at "ev"
      intro p hp
      generalize hH : upd _ p _ = H1
      obtain ⟨sm, hp1⟩ := newO hH hp
      have kd : Kd K H1 (.int i) "int" := .int i
      have ty := kd.ty
      obtain ⟨k1, k2, k3, k4, k5⟩ := kd.kit
      have ka := kit_lt k4 k5
      walk_at "ev"
      exact q_dec (q _ sm)
    | str z =>
      cases hy
      walk_at "ev"
      intro p hp
      generalize hH : upd _ p _ = H1
      obtain ⟨sm, hp1⟩ := newO hH hp
      have kd : Kd K H1 (.str z) "str" := .str z
      have ty := kd.ty
      obtain ⟨k1, k2, k3, k4, k5⟩ := kd.kit
      have ka := kit_lt k4 k5
      walk_at "ev"
      exact q_dec (q _ sm)
    | lst hs ha =>
      rename_i a xs ds
      cases hy with
      | lst ht hb =>
      rename_i b ys
      have el : ys.length = xs.length := (dpall_len hb).trans (dpall_len ha).symm
      have el' : V.int (xs.length : Int) = V.int (ys.length : Int) := by rw [el]
      cases n with
      | zero => exact hf.elim
      | succ n =>
      have hf' : ds.length ≤ 4000 ∧ ∀ e ∈ ds, Fit n e := hf
      have hS := hG n rfl
      subst hS
      walk_at "ev"
      intro p hp
      generalize hH : upd _ p _ = H1
      obtain ⟨sm, hp1⟩ := newO hH hp
      have hs1 := sm.seq hs
      have ht1 := sm.seq ht
      have kd : Kd K H1 (.ref a) "list" := .lst hs1
      have ty := kd.ty
      have kd' : Kd K H1 (.ref b) "list" := .lst ht1
      have ty' := kd'.ty
      obtain ⟨k1, k2, k3, k4, k5⟩ := kd.kit
      have ka := kit_lt k4 k5
      walk_at "ev"
      refine .inl ⟨hs1, ht1, fun D hD => ?_⟩
      refine lc_pairs (xs := xs) (ys := ys) (fun i H' => Hold (Same H1 H' ∧ H' D = some (.lst ((List.replicate i true).map V.bl)))) (.mk ⟨same_new hD, upd_same⟩) ?_ ?_ ?_ ?_ ?_
      · intro i H' hP hi
        obtain ⟨sm2, hD2⟩ := hP.un
        have hi2 : i < ys.length := by omega
        exact ⟨xs, ys, _, _, sm2.seq hs1, sm2.seq ht1, List.getElem?_eq_getElem hi, List.getElem?_eq_getElem hi2⟩
      · intro i H' v H'' hP hi yl
        obtain ⟨sm2, hD2⟩ := hP.un
        obtain ⟨T, x, y, e1, e2, e3, f1, f2⟩ := yl
        exact ⟨T, x, y, e1, e2, e3, f1 _ (sm2.seq hs1), f2 _ (sm2.seq ht1)⟩
      · intro H' hP
        obtain ⟨sm2, hD2⟩ := hP.un
        exact ⟨xs, ys, sm2.seq hs1, sm2.seq ht1, .inl (Nat.le_refl _)⟩
      · intro i x y T' H' H'' hx hy hP hT e
        obtain ⟨sm2, hD2⟩ := hP.un
        obtain ⟨sm3, hT3⟩ := newO e.symm hT
        have hT4 : SqT K H'' T' [x, y] := SqT.of hT3
        obtain ⟨d, hd, hdx⟩ := dpall_get ha hx
        obtain ⟨d', hd', hdy⟩ := dpall_get hb hy
        have ed : d' = d := Option.some.inj (hd'.symm.trans hd)
        subst ed
        have sm4 : Same H H'' := (sm.trans sm2).trans sm3
        have dx := dp_same sm4 hdx
        have dy := dp_same sm4 hdy
        have ft := hf'.2 _ (List.mem_of_getElem? hd)
        have hil : i < xs.length := (List.getElem?_eq_some_iff.mp hx).1
        have hdl := dpall_len ha
        have hlen : i ≤ 4000 := by omega
        walk_at "ev"
        intro H5 sm5
        have hD5 := sm5 _ _ (sm3 _ _ hD2)
        refine ⟨_, hD5, szm (by simp; omega), .mk ⟨same_mut ((sm2.trans sm3).trans sm5) hD, ?_⟩⟩
        rw [upd_same, List.replicate_succ', List.map_append]
        rfl
      · intro H' hP
        obtain ⟨sm2, hD2⟩ := hP.un
        refine ⟨D, List.replicate xs.length true, rfl, SqL.of hD2, ?_⟩
        rw [all_true]
        exact q _ (sm.trans sm2)
    | tup hs ha =>
      rename_i a xs ds
      cases hy with
      | tup ht hb =>
      rename_i b ys
      have el : ys.length = xs.length := (dpall_len hb).trans (dpall_len ha).symm
      have el' : V.int (xs.length : Int) = V.int (ys.length : Int) := by rw [el]
      cases n with
      | zero => exact hf.elim
      | succ n =>
      have hf' : ds.length ≤ 4000 ∧ ∀ e ∈ ds, Fit n e := hf
      have hS := hG n rfl
      subst hS
      walk_at "ev"
      intro p hp
      generalize hH : upd _ p _ = H1
      obtain ⟨sm, hp1⟩ := newO hH hp
      have hs1 := same_t sm hs
      have ht1 := same_t sm ht
      have kd : Kd K H1 (.ref a) "tuple" := .tup hs1
      have ty := kd.ty
      have kd' : Kd K H1 (.ref b) "tuple" := .tup ht1
      have ty' := kd'.ty
      obtain ⟨k1, k2, k3, k4, k5⟩ := kd.kit
      have ka := kit_lt k4 k5
      walk_at "ev"
      refine .inr ⟨hs1, ht1, fun D hD => ?_⟩
      refine lc_pairs (xs := xs) (ys := ys) (fun i H' => Hold (Same H1 H' ∧ H' D = some (.lst ((List.replicate i true).map V.bl)))) (.mk ⟨same_new hD, upd_same⟩) ?_ ?_ ?_ ?_ ?_
      · intro i H' hP hi
        obtain ⟨sm2, hD2⟩ := hP.un
        have hi2 : i < ys.length := by omega
        exact ⟨xs, ys, _, _, same_t sm2 hs1, same_t sm2 ht1, List.getElem?_eq_getElem hi, List.getElem?_eq_getElem hi2⟩
      · intro i H' v H'' hP hi yl
        obtain ⟨sm2, hD2⟩ := hP.un
        obtain ⟨T, x, y, e1, e2, e3, f1, f2⟩ := yl
        exact ⟨T, x, y, e1, e2, e3, f1 _ (same_t sm2 hs1), f2 _ (same_t sm2 ht1)⟩
      · intro H' hP
        obtain ⟨sm2, hD2⟩ := hP.un
        exact ⟨xs, ys, same_t sm2 hs1, same_t sm2 ht1, .inl (Nat.le_refl _)⟩
      · intro i x y T' H' H'' hx hy hP hT e
        obtain ⟨sm2, hD2⟩ := hP.un
        obtain ⟨sm3, hT3⟩ := newO e.symm hT
        have hT4 : SqT K H'' T' [x, y] := SqT.of hT3
        obtain ⟨d, hd, hdx⟩ := dpall_get ha hx
        obtain ⟨d', hd', hdy⟩ := dpall_get hb hy
        have ed : d' = d := Option.some.inj (hd'.symm.trans hd)
        subst ed
        have sm4 : Same H H'' := (sm.trans sm2).trans sm3
        have dx := dp_same sm4 hdx
        have dy := dp_same sm4 hdy
        have ft := hf'.2 _ (List.mem_of_getElem? hd)
        have hil : i < xs.length := (List.getElem?_eq_some_iff.mp hx).1
        have hdl := dpall_len ha
        have hlen : i ≤ 4000 := by omega
        walk_at "ev"
        intro H5 sm5
        have hD5 := sm5 _ _ (sm3 _ _ hD2)
        refine ⟨_, hD5, szm (by simp; omega), .mk ⟨same_mut ((sm2.trans sm3).trans sm5) hD, ?_⟩⟩
        rw [upd_same, List.replicate_succ', List.map_append]
        rfl
      · intro H' hP
        obtain ⟨sm2, hD2⟩ := hP.un
        refine ⟨D, List.replicate xs.length true, rfl, SqL.of hD2, ?_⟩
        rw [all_true]
        exact q _ (sm.trans sm2)
theorem ok_same {f : Addr} {fd : FuncData} (D__law_same : Df K mg "_law_same" s__law_same P__law_same f fd) (T : Blt mg) : ∀ n : Nat, FnOk P w K mg base CX0 (n + 1) f fd P__law_same (spSame K n)
  | 0 => same_step (spI := fun _ _ _ _ => False) D__law_same T ⟨fun _ _ _ _ h => h.elim, fun _ _ _ _ _ _ _ _ _ _ _ _ _ h => h.elim⟩ (fun m h => by omega)
  | n + 1 => same_step D__law_same T (ok_same D__law_same T n) (fun m h => by cases h; rfl)
end
theorem srt_ext : ∀ {l m : List Int}, l.Pairwise (· < ·) → m.Pairwise (· < ·) → (∀ k, k ∈ l ↔ k ∈ m) → l = m
  | [], [], _, _, _ => rfl
  | [], y :: m, _, _, h => by
    have := (h y).mpr List.mem_cons_self
    simp at this
  | x :: l, [], _, _, h => by
    have := (h x).mp List.mem_cons_self
    simp at this
  | x :: l, y :: m, hl, hm, h => by
    obtain ⟨hx, hl'⟩ := List.pairwise_cons.mp hl
    obtain ⟨hy, hm'⟩ := List.pairwise_cons.mp hm
    have e : x = y := by
      have a1 := (h x).mp List.mem_cons_self
      have a2 := (h y).mpr List.mem_cons_self
      rcases List.mem_cons.mp a1 with e | e
      · exact e
      · rcases List.mem_cons.mp a2 with e2 | e2
        · exact e2.symm
        · have := hy x e
          have := hx y e2
          omega
    subst e
    rw [srt_ext hl' hm' fun k => ?_]
    constructor
    · intro hk
      rcases List.mem_cons.mp ((h k).mp (List.mem_cons_of_mem _ hk)) with e | e
      · have := hx k hk
        omega
      · exact e
    · intro hk
      rcases List.mem_cons.mp ((h k).mpr (List.mem_cons_of_mem _ hk)) with e | e
      · have := hy k hk
        omega
      · exact e
theorem Fac.len {n : Int} {xs : List Int} (h : Fac n xs) (hn : n ≤ 1000000000) : xs.length ≤ 30 := by
  have key : ∀ {n : Int} {xs : List Int}, Fac n xs → 2 ^ xs.length * 1 ≤ n.toNat ∧ 1 ≤ n := by
    intro n xs h
    induction h with
    | one => exact ⟨by decide, by decide⟩
    | cons h1 h2 h3 h4 h5 ih =>
      rename_i n p q ps
      obtain ⟨i1, i2⟩ := ih
      have : 2 * q ≤ p * q := Int.mul_le_mul_of_nonneg_right h1 (by omega)
      refine ⟨?_, by omega⟩
      rw [List.length_cons, Nat.pow_succ]
      omega
  obtain ⟨k1, k2⟩ := key h
  exact pow_len (num := 1) (n := n) (by simpa using k1) (by decide) hn
theorem Fac.pos {n : Int} {xs : List Int} (h : Fac n xs) : 1 ≤ n := by
  induction h with
  | one => decide
  | cons h1 h2 h3 h4 h5 ih =>
    rename_i n p q ps
    have : 1 * 1 ≤ p * q := Int.mul_le_mul (by omega) ih (by omega) (by omega)
    omega
theorem Fac.le {n : Int} {xs : List Int} (h : Fac n xs) : ∀ q ∈ xs, q ≤ n := by
  induction h with
  | one => intro q hq; simp at hq
  | cons h1 h2 h3 h4 h5 ih =>
    rename_i n p q ps
    intro x hx
    rcases List.mem_cons.mp hx with e | e
    · rw [e]
      have : p * 1 ≤ p * q := Int.mul_le_mul_of_nonneg_left h3 (by omega)
      omega
    · have := ih x e
      have : 1 * q ≤ p * q := Int.mul_le_mul_of_nonneg_right (by omega) (by omega)
      omega
theorem Fac.primes {n : Int} {xs : List Int} (h : Fac n xs) : ∀ q ∈ xs, 2 ≤ q ∧ Rough q q := by
  induction h with
  | one => intro q hq; simp at hq
  | cons h1 h2 h3 h4 h5 ih =>
    rename_i n p q ps
    intro x hx
    rcases List.mem_cons.mp hx with e | e
    · rw [e]
      exact ⟨h1, fun c c1 c2 c3 => h4 c c1 c2 (Int.dvd_trans c3 ⟨q, h2⟩)⟩
    · exact ih x e
/-! ### the sieve: mathematics -/
def pk (m j : Nat) : Bool := (List.range' 2 (m - 2)).all fun d => decide (j < d * d) || decide (j % d ≠ 0)
theorem pk_iff {m j : Nat} : pk m j = true ↔ ∀ d, 2 ≤ d → d < m → d * d ≤ j → ¬ d ∣ j := by
  unfold pk
  rw [List.all_eq_true]
  constructor
  · intro h d h1 h2 h3 h4
    have := h d (List.mem_range'_1.mpr ⟨h1, by omega⟩)
    rw [Bool.or_eq_true, decide_eq_true_iff, decide_eq_true_iff] at this
    rcases this with z | z
    · omega
    · exact z (Nat.mod_eq_zero_of_dvd h4)
  · intro h d hd
    have h1 := List.mem_range'_1.mp hd
    rw [Bool.or_eq_true, decide_eq_true_iff, decide_eq_true_iff]
    by_cases z : j < d * d
    · exact .inl z
    · exact .inr fun e => h d h1.1 (by omega) (by omega) (Nat.dvd_of_mod_eq_zero e)
theorem pk_ext {a b : Bool} (h : a = true ↔ b = true) : a = b := by
  cases a <;> cases b <;> simp at h ⊢
theorem pk_two (j : Nat) : pk 2 j = true := pk_iff.mpr fun d h1 h2 => by omega
/-- no marking at m: it was marked itself -/
theorem pk_skip {m j : Nat} (hm : 2 ≤ m) (h : pk m m = false) : pk (m + 1) j = pk m j := by
  refine pk_ext ?_
  rw [pk_iff, pk_iff]
  constructor
  · intro k d h1 h2
    exact k d h1 (by omega)
  · intro k d h1 h2 h3 h4
    by_cases e : d < m
    · exact k d h1 e h3 h4
    · have e2 : d = m := by omega
      subst e2
      have hn : ¬ pk d d = true := by rw [h]; exact Bool.false_ne_true
      apply hn
      rw [pk_iff]
      intro c c1 c2 c3 c4
      have hle : d * 1 ≤ d * d := Nat.mul_le_mul_left d (by omega)
      exact k c c1 c2 (by omega) (Nat.dvd_trans c4 h4)
/-- .. or its square is beyond -/
theorem pk_far {m j : Nat} (h : j < m * m) : pk (m + 1) j = pk m j := by
  refine pk_ext ?_
  rw [pk_iff, pk_iff]
  constructor
  · intro k d h1 h2
    exact k d h1 (by omega)
  · intro k d h1 h2 h3 h4
    by_cases e : d < m
    · exact k d h1 e h3 h4
    · have e2 : d = m := by omega
      subst e2
      omega
/-- what is marked behind t turns at m -/
def mk (m t j : Nat) : Bool := pk m j && !(decide (m * m ≤ j) && decide (j % m = 0) && decide (j < m * m + t * m))
theorem mk_zero (m j : Nat) : mk m 0 j = pk m j := by
  unfold mk
  by_cases h : m * m ≤ j
  · have : decide (j < m * m + 0 * m) = false := decide_eq_false (by omega)
    rw [this, Bool.and_false, Bool.not_false, Bool.and_true]
  · simp [h]
theorem mk_step {m t j : Nat} (hm : 0 < m) : mk m (t + 1) j = if j = m * m + t * m then false else mk m t j := by
  unfold mk
  have es : (t + 1) * m = t * m + m := by rw [Nat.add_mul, Nat.one_mul]
  split
  · rename_i e
    have h1 : j % m = 0 := by
      rw [e, ← Nat.add_mul]
      exact Nat.mul_mod_left _ _
    have h2 : m * m ≤ j := by omega
    have h3 : j < m * m + (t + 1) * m := by omega
    simp [h1, h2, h3]
  · rename_i e
    by_cases h1 : j % m = 0
    · by_cases h2 : m * m ≤ j
      · have h3 : (j < m * m + (t + 1) * m) ↔ (j < m * m + t * m) := by
          constructor
          · intro z
            apply Nat.lt_of_not_ge
            intro y
            apply e
            obtain ⟨q, hq⟩ := Nat.dvd_of_mod_eq_zero h1
            have a1 : m * (m + t) ≤ m * q := by rw [Nat.mul_add, Nat.mul_comm m t, ← hq]; omega
            have a2 : m * q < m * (m + t + 1) := by rw [Nat.mul_add, Nat.mul_add, Nat.mul_comm m t, ← hq]; omega
            have b1 := Nat.le_of_mul_le_mul_left a1 hm
            have b2 := Nat.lt_of_mul_lt_mul_left a2
            have b3 : q = m + t := by omega
            rw [hq, b3, Nat.mul_add, Nat.mul_comm m t]
          · intro z
            omega
        simp only [h3]
      · simp [h2]
    · simp [h1]
theorem mk_last {m t j : Nat} (hm : 2 ≤ m) (h : j < m * m + t * m) : mk m t j = pk (m + 1) j := by
  refine pk_ext ?_
  unfold mk
  rw [Bool.and_eq_true, pk_iff, pk_iff]
  constructor
  · rintro ⟨k, z⟩ d h1 h2 h3 h4
    by_cases e : d < m
    · exact k d h1 e h3 h4
    · have e2 : d = m := by omega
      subst e2
      have := Nat.mod_eq_zero_of_dvd h4
      simp [h, h3, this] at z
  · intro k
    refine ⟨fun d h1 h2 => k d h1 (by omega), ?_⟩
    by_cases h2 : m * m ≤ j
    · have h3 : ¬ j % m = 0 := fun e => k m hm (by omega) h2 (Nat.dvd_of_mod_eq_zero e)
      simp [h3]
    · simp [h2]
/-- the list of truths -/
def bls (n : Nat) (f : Nat → Bool) : List V := (List.range n).map fun j => V.bl (f j)
theorem bls_len (n : Nat) (f : Nat → Bool) : (bls n f).length = n := by
  unfold bls
  rw [List.length_map, List.length_range]
theorem bls_get {n j : Nat} {f : Nat → Bool} (h : j < n) : (bls n f)[j]? = some (.bl (f j)) := by
  unfold bls
  rw [List.getElem?_map, List.getElem?_range h]
  rfl
theorem bls_at {n : Nat} {f : Nat → Bool} {k : Int} (h0 : 0 ≤ k) (h : k < (n : Int)) : atI (bls n f) k = some (.bl (f k.toNat)) := at_of (j := k.toNat) (by omega) (bls_get (by omega))
theorem bls_ext {n : Nat} {f g : Nat → Bool} (h : ∀ j, j < n → f j = g j) : bls n f = bls n g := by
  unfold bls
  refine List.map_congr_left fun j hj => ?_
  rw [h j (List.mem_range.mp hj)]
theorem bls_set {n j : Nat} {f : Nat → Bool} {b : Bool} : (bls n f).set j (.bl b) = bls n fun i => if i = j then b else f i := by
  refine List.ext_getElem? fun i => ?_
  rw [List.getElem?_set]
  by_cases hi : i < n
  · rw [bls_get hi, bls_get hi, bls_len]
    by_cases e : j = i
    · subst e
      simp [hi]
    · have e2 : ¬ i = j := fun z => e z.symm
      simp [e, e2]
  · have h1 : (bls n f)[i]? = none := List.getElem?_eq_none (by rw [bls_len]; omega)
    have h2 : (bls n fun i => if i = j then b else f i)[i]? = none := List.getElem?_eq_none (by rw [bls_len]; omega)
    rw [h1, h2, bls_len]
    by_cases e : j = i
    · subst e
      simp [hi]
    · simp [e]
theorem bls_rep : ∀ n : Nat, (List.replicate n [V.bl true]).flatten = bls n fun _ => true
  | 0 => rfl
  | n + 1 => by
    have ih := bls_rep n
    rw [List.replicate_succ', List.flatten_append, ih]
    unfold bls
    rw [List.range_succ, List.map_append]
    rfl
theorem rg_pos {i j c : Int} (hc : 0 < c) (hc2 : c < 1073741824) (hi : 0 ≤ i) (hij : i < j) (hj : j < 1099511627776) : RgC i j c ((j - i - 1) / c + 1).toNat := by
  have h0 : 0 ≤ (j - i - 1) / c := Int.ediv_nonneg (by omega) (by omega)
  have h1 : (j - i - 1) / c ≤ j - i - 1 := Int.ediv_le_self _ (by omega)
  have e : Builtin.Range.rangeSize i j c = (j - i - 1) / c + 1 := by
    unfold Builtin.Range.rangeSize
    rw [if_pos hc, if_pos hij]
  refine ⟨by omega, by omega, ?_, by rw [e]; omega⟩
  unfold Builtin.Range.small
  rw [e]
  generalize (j - i - 1) / c = z at *
  simp only [Builtin.Range.rangeFitsLong, Bool.and_eq_true, Bool.or_eq_true, decide_eq_true_eq, beq_iff_eq]
  rw [if_pos hc, Bool.and_eq_true, decide_eq_true_iff, decide_eq_true_iff]
  omega
abbrev s__law_sieve : Stmt := top 14
abbrev N__law_sieve : List Str := ["_law_top", "_law_plain", "_law_one", "_law_other"]
abbrev P__law_sieve : List Str := ["_law_top"]
theorem sc__law_sieve : FnScope N__law_sieve P__law_sieve (defScope s__law_sieve) := ⟨rfl, rfl, rfl, by decide +kernel, rfl, by decide +kernel, by decide +kernel⟩
def prs (top : Nat) : List Int := ((List.range' 2 (top - 1)).filter (pk (top + 1))).map Int.ofNat
def spSieve : Sp := fun vs H Q _ => ∃ (top : Nat), vs = [.int (top : Int)] ∧ 4 ≤ top ∧ top ≤ 20000 ∧ ∀ p H', H p = none → Same H H' → H' p = some (.lst ((prs top).map V.int)) → Q (.ref p) H'
section
variable {P : Program} {w : World} {K : PySem.W.Frag} {mg : Str → Option Value} {base : Heap}
theorem ok_sieve {f : Addr} {fd : FuncData} {k : Nat} (F : Fun K "_law_sieve" "_law_sieve" s__law_sieve f fd) (T : Blt mg) : FnOk P w K mg base CX0 (k + 1) f fd P__law_sieve spSieve := by
  have nd := sc__law_sieve.nd
  refine F.ok sc__law_sieve (fun vs H Q E h => ?_) (fun cdv A outer s H vs Q E hr h => ?_)
  · obtain ⟨n, rfl, _⟩ := h
    rfl
  · obtain ⟨top, rfl, ht1, ht2, q⟩ := h
    refine ⟨_, (pss_cons (ps_set (i := 1) nd rfl (Or.inr rfl) (pe_op op_rep (pe_lst (pa_cons (pe_bl) pa_nil)) (pe_op op_add (pv 0) (pe_int))))
      (pss_cons (ps_for PassesOwn.never rfl (pi_range2 (by rfl) T.b_range (pa_cons (pe_int) (pa_cons (pe_op op_add (pv 0) (pe_int)) pa_nil))) (pg_name (i := 2) nd rfl (Or.inl rfl))
      (pss_one (ps_if (PW.pt (pw_and (pt_val (pe_ix (r := rIxL K) ix_list (pv 1) (pv 2) (fun _ _ => rfl))) (pw_and1 (pt_cmpR op_le (pe_op op_mul (pv 2) (pv 2)) (pv 0) (nomark _))))) (pss_one (ps_for PassesOwn.never rfl (pi_range3 (by rfl) T.b_range (pa_cons (pe_op op_mul (pv 2) (pv 2)) (pa_cons (pe_op op_add (pv 0) (pe_int)) (pa_cons (pv 2) pa_nil)))) (pg_name (i := 3) nd rfl (Or.inl rfl))
      (pss_one (ps_asg (pe_bl) (pg_sub (pv 1) (pv 3) set_list))))) pss_nil)))
      (pss_one (ps_ret (pe_lc (own := [("_law_one", 2)]) (g := gName 2) (by rfl) nd (pi_range2 (by rfl) T.b_range (pa_cons (pe_int) (pa_cons (pe_op op_add (pv 0) (pe_int)) pa_nil))) (blkOk_by (own := [("_law_one", 2)]) (N := N__law_sieve) (sc := defScope s__law_sieve) (by decide +kernel)) (fun _ _ _ _ _ => (pg_name (i := 2) nd rfl (Or.inl rfl))) (fun _ _ _ _ _ => pts_one (pt_val (pe_ix (r := rIxL K) ix_list (pv 1) (pv 2) (fun _ _ => rfl)))) (fun _ _ _ _ _ => (pv 2))))))), ?_⟩
    walk_at "ev"
    intro p0 hp0
    generalize hG0 : upd _ p0 _ = H0
    obtain ⟨sm0, hp0'⟩ := newO hG0 hp0
    walk_at "ev"
    intro p hp
    generalize hG : upd _ p _ = H1
    obtain ⟨sm1, hp1⟩ := newO hG hp
    have hpf : H p = none := sm0.free hp
    have etop : ((top : Int) + 1).toNat = top + 1 := by omega
    rw [etop, bls_rep] at hp1
    walk_at "ev"
    refine for_range (lo := 2) (n := ((top : Int) + 1 - 2).toNat) (fun i σ H' => Hold (∃ s2 s3, σ = [some (.int (top : Int)), some (.ref p), s2, s3] ∧ Same H H' ∧ H' p = some (.lst (bls (top + 1) (pk (2 + i)))))) (.mk ⟨none, none, rfl, sm0.trans sm1, ?_⟩) ?_ ?_
    · rw [hp1]
      rw [bls_ext (f := fun _ => true) (g := pk (2 + 0)) (fun j _ => (pk_two j).symm)]
    · intro i σ H' hi hP
      obtain ⟨s2, s3, rfl, sm, hp'⟩ := hP.un
      have hi' : i < top - 1 := by omega
      have hL : SqL K H' p (bls (top + 1) (pk (2 + i))) := SqL.of hp'
      have hat : atI (bls (top + 1) (pk (2 + i))) (2 + (i : Int)) = some (.bl (pk (2 + i) (2 + i))) := at_of (j := 2 + i) (by omega) (bls_get (by omega))
      have hcm : CMul (2 + (i : Int)) (2 + i) := .inl ⟨by omega, by omega⟩
      walk_at "ev"
      refine ite2 (fun e => ?_) (fun e => ?_)
      · walk_at "ev"
        refine ite2 (fun e2 => ?_) (fun e2 => ?_)
        · have e3 : (2 + (i : Int)) * (2 + i) ≤ top := of_decide_eq_true e2
          have hrg := rg_pos (i := (2 + (i : Int)) * (2 + i)) (j := (top : Int) + 1) (c := 2 + (i : Int)) (by omega) (by omega) (Int.mul_nonneg (by omega) (by omega)) (by omega) (by omega)
          have ec : (((2 + i : Nat) : Int)) = 2 + (i : Int) := by omega
          have em : (((2 + i) * (2 + i) : Nat) : Int) = (2 + (i : Int)) * (2 + i) := by rw [Int.natCast_mul, ec]
          have hn : ∀ t : Nat, t < (((top : Int) + 1 - (2 + (i : Int)) * (2 + i) - 1) / (2 + i) + 1).toNat → (2 + i) * (2 + i) + t * (2 + i) < top + 1 := by
            intro t ht
            have h1 : (t : Int) ≤ ((top : Int) + 1 - (2 + (i : Int)) * (2 + i) - 1) / (2 + i) := by omega
            have h2 := Int.mul_le_mul_of_nonneg_right h1 (show (0 : Int) ≤ 2 + (i : Int) by omega)
            have h3 := Int.ediv_mul_le ((top : Int) + 1 - (2 + (i : Int)) * (2 + i) - 1) (show (2 + (i : Int)) ≠ 0 by omega)
            have et : ((t * (2 + i) : Nat) : Int) = (t : Int) * (2 + i) := by rw [Int.natCast_mul, ec]
            omega
          have hN : top < (2 + i) * (2 + i) + (((top : Int) + 1 - (2 + (i : Int)) * (2 + i) - 1) / (2 + i) + 1).toNat * (2 + i) := by
            have h3 := Int.lt_ediv_add_one_mul_self ((top : Int) + 1 - (2 + (i : Int)) * (2 + i) - 1) (show (0 : Int) < 2 + (i : Int) by omega)
            have h0 : 0 ≤ ((top : Int) + 1 - (2 + (i : Int)) * (2 + i) - 1) / (2 + i) := Int.ediv_nonneg (by omega) (by omega)
            have et : (((((top : Int) + 1 - (2 + (i : Int)) * (2 + i) - 1) / (2 + i) + 1).toNat * (2 + i) : Nat) : Int) = (((top : Int) + 1 - (2 + (i : Int)) * (2 + i) - 1) / (2 + i) + 1) * (2 + i) := by
              rw [Int.natCast_mul, ec, Int.toNat_of_nonneg (by omega)]
            omega
          generalize hnn : (((top : Int) + 1 - (2 + (i : Int)) * (2 + i) - 1) / (2 + i) + 1).toNat = nn at *
          walk_at "ev"
          refine for_rangeC (lo := (2 + (i : Int)) * (2 + i)) (c := 2 + (i : Int)) (n := nn) (fun t σ H' => Hold (∃ s3, σ = [some (.int (top : Int)), some (.ref p), some (.int (2 + (i : Int))), s3] ∧ Same H H' ∧ H' p = some (.lst (bls (top + 1) (mk (2 + i) t))))) (.mk ⟨s3, rfl, sm, ?_⟩) ?_ ?_
          · rw [hp', bls_ext (fun j _ => (mk_zero (2 + i) j).symm)]
          · intro t σ H2 ht hP2
            obtain ⟨z3, rfl, sm2, hp2⟩ := hP2.un
            have hlt := hn t ht
            have eo : ((2 + (i : Int)) * (2 + i) + (t : Int) * (2 + i)) = (((2 + i) * (2 + i) + t * (2 + i) : Nat) : Int) := by
              rw [Int.natCast_add, em, Int.natCast_mul, ec]
            have hix : ixN (bls (top + 1) (mk (2 + i) t)).length ((2 + (i : Int)) * (2 + i) + (t : Int) * (2 + i)) = some ((2 + i) * (2 + i) + t * (2 + i)) := by
              rw [bls_len, eo]
              unfold ixN
              rw [if_pos (by omega), if_pos (by omega)]
              rfl
            walk_at "ev"
            refine .mk ⟨_, rfl, same_mut sm2 hpf, ?_⟩
            rw [upd_same, bls_set]
            rw [bls_ext (fun j _ => (mk_step (m := 2 + i) (t := t) (j := j) (by omega)).symm)]
          · intro σ H2 hP2
            obtain ⟨z3, rfl, sm2, hp2⟩ := hP2.un
            refine .mk ⟨_, _, rfl, sm2, ?_⟩
            rw [hp2, bls_ext (fun j hj => mk_last (m := 2 + i) (t := nn) (j := j) (by omega) (by omega))]
            rfl
        · have e3 : ¬ (2 + (i : Int)) * (2 + i) ≤ top := fun z => e2 (decide_eq_true z)
          have ec : (((2 + i : Nat) : Int)) = 2 + (i : Int) := by omega
          have em : (((2 + i) * (2 + i) : Nat) : Int) = (2 + (i : Int)) * (2 + i) := by rw [Int.natCast_mul, ec]
          refine .mk ⟨_, _, rfl, sm, ?_⟩
          rw [hp', bls_ext (fun j hj => (pk_far (m := 2 + i) (j := j) (by omega)).symm)]
          rfl
      · have e1 : pk (2 + i) (2 + i) = false := by
          cases z : pk (2 + i) (2 + i) with
          | true => exact absurd z e
          | false => rfl
        walk_at "ev"
        refine .mk ⟨_, _, rfl, sm, ?_⟩
        rw [hp', bls_ext (fun j hj => (pk_skip (m := 2 + i) (j := j) (by omega) e1).symm)]
        rfl
    · intro σ H' hP
      obtain ⟨s2, s3, rfl, sm, hp'⟩ := hP.un
      have etn : ((top : Int) + 1 - 2).toNat = top - 1 := by omega
      have et2 : 2 + ((top : Int) + 1 - 2).toNat = top + 1 := by omega
      rw [et2] at hp'
      walk_at "ev"
      intro D hD
      have hDp : p ≠ D := ne_of_none hp' hD
      refine lc_range (lo := 2) (n := ((top : Int) + 1 - 2).toNat) (fun i H' => Hold (Same H H' ∧ H' p = some (.lst (bls (top + 1) (pk (top + 1)))) ∧ H' D = some (.lst ((((List.range' 2 i).filter (pk (top + 1))).map Int.ofNat).map V.int)))) (.mk ⟨same_upd sm hD, by rw [upd_ne hDp]; exact hp', upd_same⟩) ?_ ?_
      · intro i H2 hi hP2
        obtain ⟨sm2, hp2, hD2⟩ := hP2.un
        have hL : SqL K H2 p (bls (top + 1) (pk (top + 1))) := SqL.of hp2
        have hat : atI (bls (top + 1) (pk (top + 1))) (2 + (i : Int)) = some (.bl (pk (top + 1) (2 + i))) := at_of (j := 2 + i) (by omega) (bls_get (by omega))
        have hfl : ((((List.range' 2 i).filter (pk (top + 1))).map Int.ofNat).map V.int).length < sizeLine := by
          rw [List.length_map, List.length_map]
          refine szm (Nat.le_trans (List.length_filter_le _ _) ?_)
          rw [List.length_range']
          omega
        walk_at "ev"
        refine ite2 (fun e => ?_) (fun e => ?_)
        · walk_at "ev"
          refine .mk ⟨same_mut sm2 (sm.free hD), by rw [upd_ne hDp]; exact hp2, ?_⟩
          rw [upd_same, List.range'_concat, List.filter_append, List.map_append, List.map_append]
          simp [e]
        · have e1 : pk (top + 1) (2 + i) = false := by
            cases z : pk (top + 1) (2 + i) with
            | true => exact absurd z e
            | false => rfl
          refine .mk ⟨sm2, hp2, ?_⟩
          rw [hD2, List.range'_concat, List.filter_append, List.map_append, List.map_append]
          simp [e1]
      · intro H2 hP2
        obtain ⟨sm2, hp2, hD2⟩ := hP2.un
        rw [etn] at hD2
        exact q D H2 (sm.free hD) sm2 hD2
end
/-! ### the law's own dividing -/
theorem mem_prs {top : Nat} {x : Int} : x ∈ prs top ↔ ∃ j : Nat, x = (j : Int) ∧ 2 ≤ j ∧ j ≤ top ∧ pk (top + 1) j = true := by
  unfold prs
  rw [List.mem_map]
  constructor
  · rintro ⟨j, hj, e⟩
    have h1 := List.mem_filter.mp hj
    have h2 := List.mem_range'_1.mp h1.1
    exact ⟨j, e.symm, h2.1, by omega, h1.2⟩
  · rintro ⟨j, e, h1, h2, h3⟩
    exact ⟨j, List.mem_filter.mpr ⟨List.mem_range'_1.mpr ⟨h1, by omega⟩, h3⟩, e.symm⟩
theorem prs_sorted (top : Nat) : (prs top).Pairwise (· < ·) := by
  unfold prs
  rw [List.pairwise_map]
  refine List.Pairwise.imp (R := fun a b : Nat => a < b) (fun {a b} h => ?_) ((List.pairwise_lt_range' (s := 2) (n := top - 1) (step := 1)).sublist List.filter_sublist)
  show (a : Int) < (b : Int)
  omega
theorem prs_len (top : Nat) : (prs top).length ≤ top := by
  unfold prs
  rw [List.length_map]
  refine Nat.le_trans (List.length_filter_le _ _) ?_
  rw [List.length_range']
  omega
theorem prs_div {top : Nat} : ∀ d : Nat, 2 ≤ d → d ≤ top → ∃ x : Nat, (x : Int) ∈ prs top ∧ x ≤ d ∧ x ∣ d := by
  intro d
  induction d using Nat.strongRecOn with
  | ind d ih =>
    intro h1 h2
    by_cases h : pk (top + 1) d = true
    · exact ⟨d, mem_prs.mpr ⟨d, rfl, h1, h2, h⟩, Nat.le_refl _, Nat.dvd_refl _⟩
    · have : ∃ c, 2 ≤ c ∧ c * c ≤ d ∧ c ∣ d := by
        apply Classical.byContradiction
        intro z
        apply h
        rw [pk_iff]
        intro c c1 c2 c3 c4
        exact z ⟨c, c1, c3, c4⟩
      obtain ⟨c, c1, c2, c3⟩ := this
      have c4 : 2 * c ≤ c * c := Nat.mul_le_mul_right c c1
      obtain ⟨x, x1, x2, x3⟩ := ih c (by omega) c1 (by omega)
      exact ⟨x, x1, by omega, Nat.dvd_trans x3 c3⟩
theorem rough_of {top : Nat} {m p : Int} {i : Nat} (h : ∀ x ∈ (prs top).take i, ¬ x ∣ m) (hp : (prs top)[i]? = some p) : Rough m p := by
  intro d h1 h2 h3
  have hm : p ∈ prs top := List.mem_of_getElem? hp
  obtain ⟨j, ej, j1, j2, j3⟩ := mem_prs.mp hm
  obtain ⟨x, x1, x2, x3⟩ := prs_div d.toNat (by omega) (by omega : d.toNat ≤ top)
  have x4 : (x : Int) ∣ d := by
    have := Int.natCast_dvd_natCast.mpr x3
    rwa [Int.toNat_of_nonneg (by omega)] at this
  refine h x ?_ (Int.dvd_trans x4 h3)
  obtain ⟨l, hl⟩ := List.getElem?_of_mem x1
  obtain ⟨l1, l2⟩ := List.getElem?_eq_some_iff.mp hl
  obtain ⟨i1, i2⟩ := List.getElem?_eq_some_iff.mp hp
  have hli : l < i := by
    apply Nat.lt_of_not_ge
    intro z
    rcases Nat.lt_or_eq_of_le z with y | y
    · have := (List.pairwise_iff_getElem.mp (prs_sorted top)) i l i1 l1 y
      omega
    · subst y
      omega
  refine List.mem_iff_getElem?.mpr ⟨l, ?_⟩
  rw [List.getElem?_take_of_lt hli]
  exact hl
theorem rough_end {top : Nat} {m : Int} (h : ∀ x ∈ prs top, ¬ x ∣ m) : Rough m (top + 1) := by
  intro d h1 h2 h3
  obtain ⟨x, x1, x2, x3⟩ := prs_div d.toNat (by omega) (by omega : d.toNat ≤ top)
  have x4 : (x : Int) ∣ d := by
    have := Int.natCast_dvd_natCast.mpr x3
    rwa [Int.toNat_of_nonneg (by omega)] at this
  exact h x x1 (Int.dvd_trans x4 h3)
abbrev s__law_parts_of : Stmt := top 15
abbrev N__law_parts_of : List Str := ["_law_number_here", "_law_primes", "_law_found", "_law_left", "_law_prime", "_law_turn"]
abbrev P__law_parts_of : List Str := ["_law_number_here", "_law_primes"]
theorem sc__law_parts_of : FnScope N__law_parts_of P__law_parts_of (defScope s__law_parts_of) := ⟨rfl, rfl, rfl, by decide +kernel, rfl, by decide +kernel, by decide +kernel⟩
def spParts (K : PySem.W.Frag) : Sp := fun vs H Q _ => ∃ (n : Int) (a : Addr) (top : Nat), vs = [.int n, .ref a] ∧ SqL K H a ((prs top).map V.int) ∧ 4 ≤ top ∧ top ≤ 20000 ∧ 1 ≤ n ∧ n ≤ 1048575 ∧ n < ((top : Int) + 1) * (top + 1) ∧ ∀ xs p H', Fac n xs → H p = none → Same H H' → H' p = some (.lst (xs.map V.int)) → Q (.ref p) H'
section
variable {P : Program} {w : World} {K : PySem.W.Frag} {mg : Str → Option Value} {base : Heap}
theorem ok_parts {f : Addr} {fd : FuncData} {k : Nat} (F : Fun K "_law_parts_of" "_law_parts_of" s__law_parts_of f fd) (T : Blt mg) : FnOk P w K mg base CX0 (k + 1) f fd P__law_parts_of (spParts K) := by
  have nd := sc__law_parts_of.nd
  refine F.ok sc__law_parts_of (fun vs H Q E h => ?_) (fun cdv A outer s H vs Q E hr h => ?_)
  · obtain ⟨n, a, top, rfl, _⟩ := h
    rfl
  · obtain ⟨n, a, top, rfl, hS, ht1, ht2, hn1, hn2, hn3, q⟩ := h
    refine ⟨_, (pss_cons (ps_par (i := 2) (j := 3) (by rfl) nd rfl rfl (by decide) rfl rfl (pa_cons (pe_lst pa_nil) (pa_cons (pv 0) pa_nil)) (by rfl))
      (pss_cons (ps_for PassesOwn.never rfl (pi_list (pv 1)) (pg_name (i := 4) nd rfl (Or.inl rfl))
      (pss_one (ps_for PassesOwn.never rfl (pi_range1 (by rfl) T.b_range (pa_cons (pe_int) pa_nil)) (pg_name (i := 5) nd rfl (Or.inl rfl))
      (pss_one (ps_if (pt_cmpR op_eq (pe_op op_mod (pv 3) (pv 4)) (pe_int) (nomark _)) (pss_cons (ps_expr (pe_bm PySem.F.plainAttrs_list PySem.F.slot_list_append PySem.F.type_list_append mt_append (pv 2) (pa_cons (pv 4) pa_nil)))
      (pss_one (ps_set (i := 3) nd rfl (Or.inl rfl) (pe_op op_fdiv (pv 3) (pv 4))))) pss_nil)))))
      (pss_one (ps_ret (pe_op op_cat (pv 2) (pe_op op_rep (pe_lst (pa_cons (pv 3) pa_nil)) (pe_callTy call_int1 (by rfl) T.b_int (by decide +kernel) (pa_cons (pe_cmpR op_gt (pv 3) (pe_int) (nomark _)) pa_nil)))))))), ?_⟩
    walk_at "ev"
    intro p hp
    generalize hG : upd _ p _ = H1
    obtain ⟨sm1, hp1⟩ := newO hG hp
    have hS1 := sm1.seq hS
    have hS1' : ∃ xs, SqL K H1 a xs := ⟨_, hS1⟩
    walk_at "ev"
    refine for_list (K := K) (a := a) (xs := (prs top).map V.int) (fun i σ H' => Hold (∃ (left : Int) (found : List Int) (s4 s5 : Option V), σ = [some (.int n), some (.ref a), some (.ref p), some (.int left), s4, s5] ∧ 1 ≤ left ∧ left ≤ n ∧ 2 ^ found.length * left.toNat ≤ n.toNat ∧ (∀ qs, Fac left qs → Fac n (found ++ qs)) ∧ (∀ x ∈ (prs top).take i, ¬ x ∣ left) ∧ Same H H' ∧ H' p = some (.lst (found.map V.int))))
      (.mk ⟨n, [], none, none, rfl, hn1, by omega, by simp, fun qs h => h, by simp, sm1, hp1⟩) ?_ ?_ ?_
    · intro i σ H' hi hP
      obtain ⟨left, found, s4, s5, rfl, h1, h2, h3, h4, h5, sm, hp'⟩ := hP.un
      exact sm.seq hS
    · intro i v σ H' hv hP
      obtain ⟨left, found, s4, s5, rfl, h1, h2, h3, h4, h5, sm, hp'⟩ := hP.un
      rw [List.getElem?_map] at hv
      obtain ⟨pr, hpr, ev⟩ := Option.map_eq_some_iff.mp hv
      subst ev
      obtain ⟨j, ej, j1, j2, j3⟩ := mem_prs.mp (List.mem_of_getElem? hpr)
      have hrough := rough_of h5 hpr
      walk_at "ev"
      refine for_range (lo := 0) (n := (20 : Int).toNat) (fun t σ H' => Hold (∃ (left' : Int) (found' : List Int) (s5 : Option V), σ = [some (.int n), some (.ref a), some (.ref p), some (.int left'), some (.int pr), s5] ∧ 1 ≤ left' ∧ left' ≤ n ∧ 2 ^ found'.length * left'.toNat ≤ n.toNat ∧ (∀ qs, Fac left' qs → Fac n (found' ++ qs)) ∧ left' ∣ left ∧ (pr ∣ left' → 2 ^ t * left'.toNat ≤ n.toNat) ∧ Same H H' ∧ H' p = some (.lst (found'.map V.int))))
        (.mk ⟨left, found, s5, rfl, h1, h2, h3, h4, Int.dvd_refl _, fun _ => by simp; omega, sm, hp'⟩) ?_ ?_
      · intro t σ H2 ht hP2
        obtain ⟨left', found', s5', rfl, g1, g2, g3, g4, g5, g6, sm2, hp2⟩ := hP2.un
        have hlen := pow_len g3 g1 (by omega)
        walk_at "ev"
        refine ite2 (fun e => ?_) (fun e => ?_)
        · have e1 : left' % pr = 0 := V.int.inj (of_decide_eq_true e)
          have hr' : Rough left' pr := fun d d1 d2 d3 => hrough d d1 d2 (Int.dvd_trans d3 g5)
          obtain ⟨o1, o2, o3, o4⟩ := Fac.out g4 (by omega) g1 hr' e1
          walk_at "ev"
          refine .mk ⟨left' / pr, found' ++ [pr], _, rfl, o2, by omega, ?_, o1, ?_, ?_, same_mut sm2 hp, by rw [upd_same, List.map_append]; rfl⟩
          · rw [List.length_append]
            exact pow_step g3 o4
          · exact Int.dvd_trans ⟨pr, (Int.ediv_mul_cancel (dvd_iff.mp e1)).symm⟩ g5
          · intro _
            exact pow_step (g6 (dvd_iff.mp e1)) o4
        · have e1 : ¬ left' % pr = 0 := fun z => e (decide_eq_true (congrArg V.int z))
          walk_at "ev"
          exact .mk ⟨left', found', _, rfl, g1, g2, g3, g4, g5, fun z => absurd (dvd_iff.mpr z) e1, sm2, hp2⟩
      · intro σ H2 hP2
        obtain ⟨left', found', s5', rfl, g1, g2, g3, g4, g5, g6, sm2, hp2⟩ := hP2.un
        refine .mk ⟨left', found', _, _, rfl, g1, g2, g3, g4, ?_, sm2, hp2⟩
        intro x hx hd
        rw [List.take_add_one, hpr] at hx
        rcases List.mem_append.mp hx with hx | hx
        · exact h5 x hx (Int.dvd_trans hd g5)
        · have ex : x = pr := by simpa using hx
          subst ex
          have := g6 hd
          have h20 : (2 : Nat) ^ (20 : Int).toNat = 1048576 := by decide
          rw [h20] at this
          omega
    · intro σ H' hP
      obtain ⟨left, found, s4, s5, rfl, h1, h2, h3, h4, h5, sm, hp'⟩ := hP.un
      rw [List.length_map, List.take_length] at h5
      have hlen := pow_len h3 h1 (by omega)
      walk_at "ev"
      intro p2 hp2
      generalize hG2 : upd _ p2 _ = H2
      obtain ⟨sm2, hp3⟩ := newO hG2 hp2
      have hp4 := sm2 _ _ hp'
      have hk1 : -(2 ^ 63 : Int) ≤ (if decide (1 < left) = true then 1 else 0) := by split <;> decide
      have hk2 : (if decide (1 < left) = true then 1 else 0 : Int) < 2 ^ 63 := by split <;> decide
      have hk3 : [V.int left].length * (if decide (1 < left) = true then 1 else 0 : Int).toNat ≤ sizeLine := by
        show 1 * _ ≤ sizeLine
        split <;> decide
      walk_at "ev"
      intro p5 hp5
      generalize hG5 : upd _ p5 _ = H5
      obtain ⟨sm5, hp6⟩ := newO hG5 hp5
      have hp7 := sm5 _ _ hp4
      have hk4 : (found.map V.int).length + (List.replicate (if decide (1 < left) = true then 1 else 0 : Int).toNat [V.int left]).flatten.length ≤ sizeLine := by
        rw [List.length_map]
        refine szl ?_
        split
        · show found.length + 1 ≤ _
          omega
        · show found.length + 0 ≤ _
          omega
      walk_at "ev"
      intro p8 hp8
      generalize hG8 : upd _ p8 _ = H8
      obtain ⟨sm8, hp9⟩ := newO hG8 hp8
      have sm9 := (sm.trans sm2).trans (sm5.trans sm8)
      have hpf : H p8 = none := ((sm.trans sm2).trans sm5).free hp8
      by_cases e : 1 < left
      · have e1 : decide (1 < left) = true := decide_eq_true e
        rw [if_pos e1] at hp9
        refine q (found ++ [left]) _ _ (h4 _ (Fac.self (by omega) ((rough_end h5).top (by omega) (by omega) (by omega)))) hpf sm9 ?_
        rw [hp9, List.map_append]
        rfl
      · have e1 : ¬ decide (1 < left) = true := fun z => e (of_decide_eq_true z)
        rw [if_neg e1] at hp9
        have e4 : left = 1 := by omega
        subst e4
        have fin := h4 [] .one
        rw [List.append_nil] at fin
        refine q found _ _ fin hpf sm9 ?_
        rw [hp9]
        show some (HO.lst (found.map V.int ++ [])) = _
        rw [List.append_nil]
end
/-! ### powers by rests -/
theorem emod_pow (a m : Int) : ∀ k : Nat, (a % m) ^ k % m = a ^ k % m
  | 0 => by rw [Int.pow_zero, Int.pow_zero]
  | k + 1 => by rw [Int.pow_succ, Int.pow_succ, Int.mul_emod, emod_pow a m k, Int.emod_emod_of_dvd _ (Int.dvd_refl m), ← Int.mul_emod]
theorem mul_pow_mod (t b m : Int) (k : Nat) : t * (b % m) ^ k % m = t * b ^ k % m := by
  rw [Int.mul_emod, emod_pow, ← Int.mul_emod]
theorem mod_mul_mod (t x m : Int) : t % m * x % m = t * x % m := by
  rw [Int.mul_emod, Int.emod_emod_of_dvd _ (Int.dvd_refl m), ← Int.mul_emod]
theorem pow_sq (b : Int) : ∀ k : Nat, (b * b) ^ k = b ^ (2 * k)
  | 0 => by rw [Nat.mul_zero, Int.pow_zero, Int.pow_zero]
  | k + 1 => by
    rw [Int.pow_succ, pow_sq b k, show 2 * (k + 1) = 2 * k + 1 + 1 by omega, Int.pow_succ, Int.pow_succ, Int.mul_assoc]
theorem step_odd {t b m e : Int} (h : e % 2 = 1) (he : 0 ≤ e) : t * b % m * (b * b % m) ^ (e / 2).toNat % m = t * b ^ e.toNat % m := by
  rw [mul_pow_mod, mod_mul_mod, pow_sq]
  have : e.toNat = 2 * (e / 2).toNat + 1 := by omega
  rw [this, Int.pow_succ, Int.mul_comm (b ^ _) b, ← Int.mul_assoc]
theorem step_even {t b m e : Int} (h : ¬ e % 2 = 1) (he : 0 ≤ e) : t * (b * b % m) ^ (e / 2).toNat % m = t * b ^ e.toNat % m := by
  rw [mul_pow_mod, pow_sq]
  have : e.toNat = 2 * (e / 2).toNat := by omega
  rw [← this]
abbrev s_power_rest : Stmt := top 3
abbrev N_power_rest : List Str := ["number", "power", "by", "told"]
abbrev P_power_rest : List Str := ["number", "power", "by"]
theorem sc_power_rest : FnScope N_power_rest P_power_rest (defScope s_power_rest) := ⟨rfl, rfl, rfl, by decide +kernel, rfl, by decide +kernel, by decide +kernel⟩
def spPow : Sp := fun vs H Q _ => ∃ (b e m : Int), vs = [.int b, .int e, .int m] ∧ 0 ≤ e ∧ 1 ≤ m ∧ m ≤ 1000000 ∧ Q (.int (b ^ e.toNat % m)) H
section
variable {P : Program} {w : World} {K : PySem.W.Frag} {mg : Str → Option Value} {base : Heap}
theorem ok_power {f : Addr} {fd : FuncData} {k : Nat} (F : Fun K "power_rest" "power_rest" s_power_rest f fd) : FnOk P w K mg base CX0 (k + 1) f fd P_power_rest spPow := by
  have nd := sc_power_rest.nd
  refine F.ok sc_power_rest (fun vs H Q E h => ?_) (fun cdv A outer s H vs Q E hr h => ?_)
  · obtain ⟨b, e, m, rfl, _⟩ := h
    rfl
  · obtain ⟨b, e, m, rfl, he, hm1, hm2, q⟩ := h
    refine ⟨_, (pss_cons (ps_set (i := 3) nd rfl (Or.inl rfl) (pe_op op_mod (pe_int) (pv 2)))
      (pss_cons (ps_set (i := 0) nd rfl (Or.inl rfl) (pe_op op_mod (pv 0) (pv 2)))
      (pss_cons (ps_while PassesOwn.never (pt_cmpR op_gt (pv 1) (pe_int) (nomark _))
      (pss_cons (ps_if (pt_cmpR op_eq (pe_op op_mod (pv 1) (pe_int)) (pe_int) (nomark _)) (pss_one (ps_set (i := 3) nd rfl (Or.inl rfl) (pe_op op_mod (pe_op op_mul (pv 3) (pv 0)) (pv 2)))) pss_nil)
      (pss_cons (ps_set (i := 0) nd rfl (Or.inl rfl) (pe_op op_mod (pe_op op_mul (pv 0) (pv 0)) (pv 2)))
      (pss_one (ps_aug (i := 1) nd rfl (Or.inl rfl) (pe_int) iop_fdivW)))))
      (pss_one (ps_ret (pv 3)))))), ?_⟩
    walk_at "ev"
    have r0 : ∀ x : Int, 0 ≤ x % m ∧ x % m < m := fun x => ⟨Int.emod_nonneg _ (by omega), Int.emod_lt_of_pos _ (by omega)⟩
    refine ⟨fun z σ H' => H' = H ∧ ∃ (x p t : Int), σ = [some (.int x), some (.int p), some (.int m), some (.int t)] ∧ z = p.toNat ∧ 0 ≤ p ∧ 0 ≤ t ∧ t < m ∧ 0 ≤ x ∧ x < m ∧ t * x ^ p.toNat % m = b ^ e.toNat % m, ⟨_, rfl, b % m, e, 1 % m, rfl, rfl, he, (r0 _).1, (r0 _).2, (r0 _).1, (r0 _).2, ?_⟩, ?_⟩
    · rw [mod_mul_mod, mul_pow_mod, Int.one_mul]
    · rintro z σ H' ⟨rfl, x, p, t, rfl, rfl, p0, t0, t1, x0, x1, inv⟩
      have cm1 : CMul t x := .inl ⟨by omega, by omega⟩
      have cm2 : CMul x x := .inl ⟨by omega, by omega⟩
      walk_at "ev"
      refine ite2 (fun c => ?_) (fun c => ?_)
      · have c1 : 0 < p := of_decide_eq_true c
        refine ⟨_, holdN, ?_⟩
        walk_at "ev"
        refine ite2 (fun d => ?_) (fun d => ?_)
        · have d1 : p % 2 = 1 := V.int.inj (of_decide_eq_true d)
          walk_at "ev"
          exact .mk ⟨(p / 2).toNat, by omega, rfl, x * x % m, p / 2, t * x % m, rfl, rfl, by omega, (r0 _).1, (r0 _).2, (r0 _).1, (r0 _).2, by rw [step_odd d1 p0]; exact inv⟩
        · have d1 : ¬ p % 2 = 1 := fun z => d (decide_eq_true (congrArg V.int z))
          walk_at "ev"
          exact .mk ⟨(p / 2).toNat, by omega, rfl, x * x % m, p / 2, t, rfl, rfl, by omega, t0, t1, (r0 _).1, (r0 _).2, by rw [step_even d1 p0]; exact inv⟩
      · have c1 : p = 0 := by
          have : ¬ 0 < p := fun z => c (decide_eq_true z)
          omega
        subst c1
        walk_at "ev"
        have et : t = b ^ e.toNat % m := by
          rw [← inv]
          show t = t * x ^ (0 : Nat) % m
          rw [Int.pow_zero, Int.mul_one, Int.emod_eq_of_lt t0 t1]
        rw [et]
        exact q
end
abbrev s_generator : Stmt := top 4
abbrev N_generator : List Str := ["prime", "early", "number", "factor", "power"]
abbrev P_generator : List Str := ["prime"]
theorem sc_generator : FnScope N_generator P_generator (defScope s_generator) := ⟨rfl, rfl, rfl, by decide +kernel, rfl, by decide +kernel, by decide +kernel⟩
/-- the exponents at which powers may come round too early -/
def erl (p : Int) (fs : List Int) : List Int := fs.map fun f => (p - 1) / f
def GenOk (p g : Int) (es : List Int) : Prop := ∀ e ∈ es, ¬ g ^ e.toNat % p = 1
def LeastGen (p g : Int) (es : List Int) : Prop := 1 ≤ g ∧ g < p ∧ GenOk p g es ∧ ∀ x, 1 ≤ x → x < g → ¬ GenOk p x es
def spGen : Sp := fun vs H Q _ => ∃ (p g0 : Int) (fs out : List Int), vs = [.int p] ∧ 2 ≤ p ∧ p ≤ 1000000 ∧ Fac (p - 1) fs ∧ out.Pairwise (· < ·) ∧ (∀ k, k ∈ out ↔ k ∈ fs) ∧ 1 ≤ g0 ∧ g0 < p ∧ GenOk p g0 (erl p out) ∧ ∀ g H', Same H H' → LeastGen p g (erl p out) → Q (.int g) H'
section
variable {P : Program} {w : World} {K : PySem.W.Frag} {mg : Str → Option Value} {base : Heap}
theorem ok_generator {f f1 f2 : Addr} {fd d1 d2 : FuncData} {k : Nat} (F : Fun K "generator" "generator" s_generator f fd) (T : Blt mg) (D_factors : Df K mg "factors" s_factors P_factors f1 d1) (D_power_rest : Df K mg "power_rest" s_power_rest P_power_rest f2 d2) : FnOk P w K mg base CX0 (k + 2) f fd P_generator spGen := by
  have G_factors : FnOk P w K mg base CX0 (k + 1) f1 d1 P_factors spFactors := ok_factors D_factors.F
  have G_power_rest : FnOk P w K mg base CX0 (k + 1) f2 d2 P_power_rest spPow := ok_power D_power_rest.F
  have nd := sc_generator.nd
  refine F.ok sc_generator (fun vs H Q E h => ?_) (fun cdv A outer s H vs Q E hr h => ?_)
  · obtain ⟨p, g0, fs, out, rfl, _⟩ := h
    rfl
  · obtain ⟨p, g0, fs, out, rfl, p2, p6, hfac, hso, hmo, g1, gp, hg0, q⟩ := h
    refine ⟨_, (pss_cons (ps_setLc (i := 1) (own := [("factor", 3)]) (g := gName 3) (by rfl) nd rfl rfl (sw_true rfl rfl rfl (by decide +kernel)) (pi_list (pe_sortSet (by rfl) T.b_sorted (by rfl) T.b_set (pe_call G_factors (hr.mono (by omega)) (by rfl) D_factors.g D_factors.F.kp D_factors.b .nil pass0 (pa_cons (pe_op op_sub (pv 0) (pe_int)) pa_nil)))) (blkOk_by (own := [("factor", 3)]) (N := N_generator) (sc := defScope s_generator) (by decide +kernel)) (fun _ _ _ _ _ => (pg_name (i := 3) nd rfl (Or.inl rfl))) (fun _ _ _ _ _ => pts_nil) (fun _ _ _ _ _ => (pe_op op_fdiv (pe_op op_sub (pv 0) (pe_int)) (pv 3))))
      (pss_cons (ps_set (i := 2) nd rfl (Or.inr rfl) (pe_int))
      (pss_cons (ps_while PassesOwn.never (pt_val (pe_callB (r := rAny K) (cr_any rfl) (by rfl) T.b_any (by decide +kernel) (pa_cons (pe_lc (own := [("power", 4)]) (g := gName 4) (by rfl) nd (pi_list (pv 1)) (blkOk_by (own := [("power", 4)]) (N := N_generator) (sc := defScope s_generator) (by decide +kernel)) (fun _ _ _ _ _ => (pg_name (i := 4) nd rfl (Or.inl rfl))) (fun _ _ _ _ _ => pts_nil) (fun _ _ _ _ _ => (pe_cmpR op_eq (pe_call G_power_rest (hr.mono (by omega)) (by rfl) D_power_rest.g D_power_rest.F.kp D_power_rest.b .nil pass0 (pa_cons (pv 2) (pa_cons (pv 4) (pa_cons (pv 0) pa_nil)))) (pe_int) (nomark _)))) pa_nil)))
      (pss_one (ps_aug (i := 2) nd rfl (Or.inr rfl) (pe_int) ip_add)))
      (pss_one (ps_ret (pv 2)))))), ?_⟩
    walk_at "ev"
    intro xs l H1 hf1 hl sm1 hq1
    have ex : xs = fs := hf1.uniq hfac
    subst ex
    have hxl := hfac.len (by omega)
    have hL1 : SqL K H1 l (xs.map V.int) := SqL.of hq1
    refine ⟨l, xs, rfl, hL1, by omega, ?_⟩
    intro out2 l2 hl2 hs2 hm2 ho2
    have eo : out2 = out := srt_ext hs2 hso fun k => (hm2 k).trans (hmo k).symm
    subst eo
    generalize hG2 : upd _ l2 _ = H2
    obtain ⟨sm2, hq2⟩ := newO hG2 hl2
    have hL2 : SqL K H2 l2 (out2.map V.int) := SqL.of hq2
    refine ⟨l2, rfl, ⟨_, hL2⟩, fun D hD => ?_⟩
    refine lc_list (K := K) (a := l2) (xs := out2.map V.int) (fun i H' => Hold (Same H2 H' ∧ H' D = some (.lst ((erl p (out2.take i)).map V.int)))) (.mk ⟨same_new hD, upd_same⟩) ?_ ?_ ?_
    · intro i H3 hi hP
      obtain ⟨sm3, hD3⟩ := hP.un
      exact sm3.seq hL2
    · intro i v H3 hv hP
      obtain ⟨sm3, hD3⟩ := hP.un
      rw [List.getElem?_map] at hv
      obtain ⟨x, hx, ev⟩ := Option.map_eq_some_iff.mp hv
      subst ev
      have hxm := (hmo x).mp (List.mem_of_getElem? hx)
      obtain ⟨x2, _⟩ := hfac.primes x hxm
      have hx6 : x ≤ p - 1 := hfac.le x hxm
      have hil : i < out2.length := (List.getElem?_eq_some_iff.mp hx).1
      have hsz : ((erl p (out2.take i)).map V.int).length < sizeLine := by
        unfold erl
        rw [List.length_map, List.length_map, List.length_take]
        exact szm (by omega)
      walk_at "ev"
      refine .mk ⟨same_mut sm3 hD, ?_⟩
      unfold erl
      rw [upd_same, List.take_add_one, hx, List.map_append, List.map_append]
      rfl
    · intro H3 hP
      obtain ⟨sm3, hD3⟩ := hP.un
      rw [List.length_map, List.take_length] at hD3
      have sm03 := sm1.trans (sm2.trans sm3)
      have hlE : (erl p out2).length ≤ 30 := by
        unfold erl
        rw [List.length_map]
        omega
      have he0 : ∀ e ∈ erl p out2, 0 ≤ e := by
        intro e he
        obtain ⟨x, hx, ee⟩ := List.mem_map.mp he
        obtain ⟨x2, _⟩ := hfac.primes x ((hmo x).mp hx)
        rw [← ee]
        exact Int.ediv_nonneg (by omega) (by omega)
      generalize erl p out2 = es at *
      clear hG2 hP
      have hD1 : H D = none := (sm1.trans sm2).free hD
      walk_at "ev"
      refine ⟨fun z σ H' => ∃ (x : Int) (s3 s4 : Option V), σ = [some (.int p), some (.ref D), some (.int x), s3, s4] ∧ z = (g0 - x).toNat ∧ 1 ≤ x ∧ x ≤ g0 ∧ (∀ y, 1 ≤ y → y < x → ¬ GenOk p y es) ∧ Same H3 H', ⟨_, 1, _, _, rfl, rfl, by omega, by omega, fun y a b => by omega, Same.refl _⟩, ?_⟩
      rintro z σ H4 ⟨x, s3, s4, rfl, rfl, x1, x2, hless, sm4⟩
      have hL4 : SqL K H4 D (es.map V.int) := SqL.of (sm4 _ _ hD3)
      have hL4' : ∃ xs, SqL K H4 D xs := ⟨_, hL4⟩
      walk_at "ev"
      intro D5 hD5
      refine lc_list (K := K) (a := D) (xs := es.map V.int) (fun i H' => Hold (Same H4 H' ∧ H' D5 = some (.lst (((es.take i).map fun e => decide (x ^ e.toNat % p = 1)).map V.bl)))) (.mk ⟨same_new hD5, upd_same⟩) ?_ ?_ ?_
      · intro i H5 hi hP
        obtain ⟨sm5, hq5⟩ := hP.un
        exact sm5.seq hL4
      · intro i v H5 hv hP
        obtain ⟨sm5, hq5⟩ := hP.un
        rw [List.getElem?_map] at hv
        obtain ⟨e, he, ev⟩ := Option.map_eq_some_iff.mp hv
        subst ev
        have e0 := he0 e (List.mem_of_getElem? he)
        have hil : i < es.length := (List.getElem?_eq_some_iff.mp he).1
        have hsz : (((es.take i).map fun e => decide (x ^ e.toNat % p = 1)).map V.bl).length < sizeLine := by
          rw [List.length_map, List.length_map, List.length_take]
          exact szm (by omega)
        walk_at "ev"
        refine .mk ⟨same_mut sm5 hD5, ?_⟩
        have ed : decide (V.int (x ^ e.toNat % p) = V.int 1) = decide (x ^ e.toNat % p = 1) := by
          by_cases c : x ^ e.toNat % p = 1
          · rw [decide_eq_true c, decide_eq_true (congrArg V.int c)]
          · rw [decide_eq_false c, decide_eq_false fun z => c (V.int.inj z)]
        rw [upd_same, List.take_add_one, he, List.map_append, List.map_append, ed]
        rfl
      · intro H5 hP
        obtain ⟨sm5, hq5⟩ := hP.un
        rw [List.length_map, List.take_length] at hq5
        refine ⟨D5, _, rfl, SqL.of hq5, _, rfl, ?_⟩
        refine ite2 (fun c => ?_) (fun c => ?_)
        · have bad : ¬ GenOk p x es := by
            obtain ⟨b, hb, eb⟩ := List.any_eq_true.mp c
            obtain ⟨e, he, ee⟩ := List.mem_map.mp hb
            intro ok
            refine ok e he ?_
            rw [← ee] at eb
            exact of_decide_eq_true eb
          have xne : x ≠ g0 := fun z => bad (z ▸ hg0)
          refine ⟨_, holdN, ?_⟩
          walk_at "ev"
          refine .mk ⟨(g0 - (x + 1)).toNat, by omega, x + 1, _, _, rfl, rfl, by omega, by omega, fun y a b => ?_, sm4.trans sm5⟩
          by_cases yx : y = x
          · rw [yx]; exact bad
          · exact hless y a (by omega)
        · have good : GenOk p x es := by
            intro e he z
            apply c
            rw [List.any_eq_true]
            exact ⟨true, List.mem_map.mpr ⟨e, he, decide_eq_true z⟩, rfl⟩
          walk_at "ev"
          exact q _ _ (sm03.trans (sm4.trans sm5)) ⟨x1, by omega, good, hless⟩
end
abbrev s_totient : Stmt := top 2
abbrev N_totient : List Str := ["number", "told", "prime"]
abbrev P_totient : List Str := ["number"]
theorem sc_totient : FnScope N_totient P_totient (defScope s_totient) := ⟨rfl, rfl, rfl, by decide +kernel, rfl, by decide +kernel, by decide +kernel⟩
def totF (n : Int) (out : List Int) : Int := out.foldl (fun t p => t / p * (p - 1)) n
def spTot : Sp := fun vs H Q _ => ∃ (n : Int) (fs out : List Int), vs = [.int n] ∧ 1 ≤ n ∧ n ≤ 1000000 ∧ Fac n fs ∧ out.Pairwise (· < ·) ∧ (∀ k, k ∈ out ↔ k ∈ fs) ∧ ∀ H', Same H H' → Q (.int (totF n out)) H'
section
variable {P : Program} {w : World} {K : PySem.W.Frag} {mg : Str → Option Value} {base : Heap}
theorem tot_bound {n t p : Int} (h0 : 0 ≤ t) (h1 : t ≤ n) (hp : 2 ≤ p) : 0 ≤ t / p * (p - 1) ∧ t / p * (p - 1) ≤ n := by
  have a : 0 ≤ t / p := Int.ediv_nonneg h0 (by omega)
  have b : t / p * p ≤ t := Int.ediv_mul_le t (by omega)
  have c : t / p * (p - 1) ≤ t / p * p := Int.mul_le_mul_of_nonneg_left (by omega) a
  exact ⟨Int.mul_nonneg a (by omega), by omega⟩
theorem ok_totient {f f1 : Addr} {fd d1 : FuncData} {k : Nat} (F : Fun K "totient" "totient" s_totient f fd) (T : Blt mg) (D_factors : Df K mg "factors" s_factors P_factors f1 d1) : FnOk P w K mg base CX0 (k + 2) f fd P_totient spTot := by
  have G_factors : FnOk P w K mg base CX0 (k + 1) f1 d1 P_factors spFactors := ok_factors D_factors.F
  have nd := sc_totient.nd
  refine F.ok sc_totient (fun vs H Q E h => ?_) (fun cdv A outer s H vs Q E hr h => ?_)
  · obtain ⟨n, fs, out, rfl, _⟩ := h
    rfl
  · obtain ⟨n, fs, out, rfl, n1, n2, hfac, hso, hmo, q⟩ := h
    refine ⟨_, (pss_cons (ps_set (i := 1) nd rfl (Or.inl rfl) (pv 0))
      (pss_cons (ps_for PassesOwn.never rfl (pi_list (pe_sortSet (by rfl) T.b_sorted (by rfl) T.b_set (pe_call G_factors (hr.mono (by omega)) (by rfl) D_factors.g D_factors.F.kp D_factors.b .nil pass0 (pa_cons (pv 0) pa_nil)))) (pg_name (i := 2) nd rfl (Or.inl rfl))
      (pss_one (ps_set (i := 1) nd rfl (Or.inl rfl) (pe_op op_mul (pe_op op_fdiv (pv 1) (pv 2)) (pe_op op_sub (pv 2) (pe_int))))))
      (pss_one (ps_ret (pv 1))))), ?_⟩
    have n9 : n ≤ 1000000000 := by omega
    walk_at "ev"
    intro xs l H1 hf1 hl sm1 hq1
    have ex : xs = fs := hf1.uniq hfac
    subst ex
    have hxl := hfac.len (by omega)
    have hL1 : SqL K H1 l (xs.map V.int) := SqL.of hq1
    refine ⟨l, xs, rfl, hL1, by omega, ?_⟩
    intro out2 l2 hl2 hs2 hm2 ho2
    have eo : out2 = out := srt_ext hs2 hso fun k => (hm2 k).trans (hmo k).symm
    subst eo
    generalize hG2 : upd _ l2 _ = H2
    obtain ⟨sm2, hq2⟩ := newO hG2 hl2
    have hL2 : SqL K H2 l2 (out2.map V.int) := SqL.of hq2
    refine ⟨l2, rfl, ⟨_, hL2⟩, ?_⟩
    refine for_list (K := K) (a := l2) (xs := out2.map V.int) (fun i σ H' => Hold (∃ (t : Int) (s2 : Option V), σ = [some (.int n), some (.int t), s2] ∧ t = totF n (out2.take i) ∧ 0 ≤ t ∧ t ≤ n ∧ H' = H2)) (.mk ⟨n, none, rfl, rfl, by omega, by omega, rfl⟩) ?_ ?_ ?_
    · intro i σ H3 hi hP
      obtain ⟨t, s2, rfl, et, t0, t1, rfl⟩ := hP.un
      exact hL2
    · intro i v σ H3 hv hP
      obtain ⟨t, s2, rfl, et, t0, t1, rfl⟩ := hP.un
      rw [List.getElem?_map] at hv
      obtain ⟨x, hx, ev⟩ := Option.map_eq_some_iff.mp hv
      subst ev
      have hxm := (hmo x).mp (List.mem_of_getElem? hx)
      obtain ⟨x2, _⟩ := hfac.primes x hxm
      have hx6 := hfac.le x hxm
      obtain ⟨b0, b1⟩ := tot_bound t0 t1 x2
      have cm : CMul (t / x) (x - 1) := .inr ⟨by omega, by omega⟩
      walk_at "ev"
      refine .mk ⟨_, _, rfl, ?_, b0, b1, rfl⟩
      unfold totF
      rw [List.take_add_one, hx, List.foldl_append]
      show _ = (List.foldl _ n (List.take i out2)) / x * (x - 1)
      have et' : t = List.foldl (fun t p => t / p * (p - 1)) n (List.take i out2) := et
      rw [← et']
    · intro σ H3 hP
      obtain ⟨t, s2, rfl, et, t0, t1, rfl⟩ := hP.un
      rw [List.length_map, List.take_length] at et
      walk_at "ev"
      rw [et]
      exact q _ (sm1.trans sm2)
end
abbrev s__law_pow : Stmt := top 16
abbrev N__law_pow : List Str := ["_law_base", "_law_exponent", "_law_by", "_law_found", "_law_here", "_law_turn"]
abbrev P__law_pow : List Str := ["_law_base", "_law_exponent", "_law_by"]
theorem sc__law_pow : FnScope N__law_pow P__law_pow (defScope s__law_pow) := ⟨rfl, rfl, rfl, by decide +kernel, rfl, by decide +kernel, by decide +kernel⟩
def spPowL (lim : Int) : Sp := fun vs H Q _ => ∃ (b e m : Int), vs = [.int b, .int e, .int m] ∧ 0 ≤ e ∧ e < lim ∧ 1 ≤ m ∧ m ≤ 1000000 ∧ 0 ≤ b ∧ b ≤ 1000000 ∧ Q (.int (b ^ e.toNat % m)) H
section
variable {P : Program} {w : World} {K : PySem.W.Frag} {mg : Str → Option Value} {base : Heap}
theorem ok_lawpow {f : Addr} {fd : FuncData} {k : Nat} (F : Fun K "_law_pow" "_law_pow" s__law_pow f fd) (T : Blt mg) : FnOk P w K mg base CX0 (k + 1) f fd P__law_pow (spPowL 1048576) := by
  have nd := sc__law_pow.nd
  refine F.ok sc__law_pow (fun vs H Q E h => ?_) (fun cdv A outer s H vs Q E hr h => ?_)
  · obtain ⟨b, e, m, rfl, _⟩ := h
    rfl
  · obtain ⟨b, e, m, rfl, he, he2, hm1, hm2, hb0, hb1, q⟩ := h
    refine ⟨_, (pss_cons (ps_par (i := 3) (j := 4) (by rfl) nd rfl rfl (by decide) rfl rfl (pa_cons (pe_op op_mod (pe_int) (pv 2)) (pa_cons (pe_op op_mod (pv 0) (pv 2)) pa_nil)) (by rfl))
      (pss_cons (ps_for PassesOwn.never rfl (pi_range1 (by rfl) T.b_range (pa_cons (pe_int) pa_nil)) (pg_name (i := 5) nd rfl (Or.inl rfl))
      (pss_cons (ps_if (pt_cmpR op_eq (pe_op op_mod (pv 1) (pe_int)) (pe_int) (nomark _)) (pss_one (ps_set (i := 3) nd rfl (Or.inl rfl) (pe_op op_mod (pe_op op_mul (pv 3) (pv 4)) (pv 2)))) pss_nil)
      (pss_one (ps_par (i := 4) (j := 1) (by rfl) nd rfl rfl (by decide) rfl rfl (pa_cons (pe_op op_mod (pe_op op_mul (pv 4) (pv 4)) (pv 2)) (pa_cons (pe_op op_fdiv (pv 1) (pe_int)) pa_nil)) (by rfl)))))
      (pss_one (ps_ret (pv 3))))), ?_⟩
    have r0 : ∀ x : Int, 0 ≤ x % m ∧ x % m < m := fun x => ⟨Int.emod_nonneg _ (by omega), Int.emod_lt_of_pos _ (by omega)⟩
    walk_at "ev"
    refine for_range (lo := 0) (n := (20 : Int).toNat) (fun i σ H' => Hold (∃ (x p t : Int) (s5 : Option V), σ = [some (.int b), some (.int p), some (.int m), some (.int t), some (.int x), s5] ∧ 0 ≤ p ∧ p * 2 ^ i ≤ e ∧ 0 ≤ t ∧ t < m ∧ 0 ≤ x ∧ x < m ∧ t * x ^ p.toNat % m = b ^ e.toNat % m ∧ H' = H)) (.mk ⟨b % m, e, 1 % m, none, rfl, he, by simp, (r0 _).1, (r0 _).2, (r0 _).1, (r0 _).2, by rw [mod_mul_mod, mul_pow_mod, Int.one_mul], rfl⟩) ?_ ?_
    · intro i σ H' hi hP
      obtain ⟨x, p, t, s5, rfl, p0, pe, t0, t1, x0, x1, inv, rfl⟩ := hP.un
      have cm1 : CMul t x := .inl ⟨by omega, by omega⟩
      have cm2 : CMul x x := .inl ⟨by omega, by omega⟩
      have pe2 : p / 2 * 2 ^ (i + 1) ≤ e := by
        have h1 : p / 2 * 2 ≤ p := Int.ediv_mul_le p (by decide)
        have h2 : p / 2 * 2 * 2 ^ i ≤ p * 2 ^ i := Int.mul_le_mul_of_nonneg_right h1 (Int.pow_nonneg (by decide))
        rw [Int.pow_succ, Int.mul_comm (2 ^ i) 2, ← Int.mul_assoc]
        omega
      walk_at "ev"
      refine ite2 (fun d => ?_) (fun d => ?_)
      · have d1 : p % 2 = 1 := V.int.inj (of_decide_eq_true d)
        walk_at "ev"
        exact .mk ⟨x * x % m, p / 2, t * x % m, _, rfl, by omega, pe2, (r0 _).1, (r0 _).2, (r0 _).1, (r0 _).2, by rw [step_odd d1 p0]; exact inv, rfl⟩
      · have d1 : ¬ p % 2 = 1 := fun z => d (decide_eq_true (congrArg V.int z))
        walk_at "ev"
        exact .mk ⟨x * x % m, p / 2, t, _, rfl, by omega, pe2, t0, t1, (r0 _).1, (r0 _).2, by rw [step_even d1 p0]; exact inv, rfl⟩
    · intro σ H' hP
      obtain ⟨x, p, t, s5, rfl, p0, pe, t0, t1, x0, x1, inv, rfl⟩ := hP.un
      have p00 : p = 0 := by
        have e20 : (2 : Int) ^ (20 : Int).toNat = 1048576 := by decide
        rw [e20] at pe
        omega
      subst p00
      walk_at "ev"
      have et : t = b ^ e.toNat % m := by
        rw [← inv]
        show t = t * x ^ (0 : Nat) % m
        rw [Int.pow_zero, Int.mul_one, Int.emod_eq_of_lt t0 t1]
      rw [et]
      exact q
end
abbrev s__law_raised : Stmt := top 18
abbrev N__law_raised : List Str := ["_law_base", "_law_exponent", "_law_by", "_law_found", "_law_turn"]
abbrev P__law_raised : List Str := ["_law_base", "_law_exponent", "_law_by"]
theorem sc__law_raised : FnScope N__law_raised P__law_raised (defScope s__law_raised) := ⟨rfl, rfl, rfl, by decide +kernel, rfl, by decide +kernel, by decide +kernel⟩
section
variable {P : Program} {w : World} {K : PySem.W.Frag} {mg : Str → Option Value} {base : Heap}
theorem ok_raised {f : Addr} {fd : FuncData} {k : Nat} (F : Fun K "_law_raised" "_law_raised" s__law_raised f fd) (T : Blt mg) : FnOk P w K mg base CX0 (k + 1) f fd P__law_raised (spPowL 16384) := by
  have nd := sc__law_raised.nd
  refine F.ok sc__law_raised (fun vs H Q E h => ?_) (fun cdv A outer s H vs Q E hr h => ?_)
  · obtain ⟨b, e, m, rfl, _⟩ := h
    rfl
  · obtain ⟨b, e, m, rfl, he, he2, hm1, hm2, hb0, hb1, q⟩ := h
    refine ⟨_, (pss_cons (ps_set (i := 3) nd rfl (Or.inl rfl) (pe_op op_mod (pe_int) (pv 2)))
      (pss_cons (ps_for PassesOwn.never rfl (pi_range1 (by rfl) T.b_range (pa_cons (pe_int) pa_nil)) (pg_name (i := 4) nd rfl (Or.inl rfl))
      (pss_cons (ps_if (pt_cmpR op_eq (pe_op op_mod (pv 1) (pe_int)) (pe_int) (nomark _)) (pss_one (ps_set (i := 3) nd rfl (Or.inl rfl) (pe_op op_mod (pe_op op_mul (pv 3) (pv 0)) (pv 2)))) pss_nil)
      (pss_one (ps_par (i := 0) (j := 1) (by rfl) nd rfl rfl (by decide) rfl rfl (pa_cons (pe_op op_mod (pe_op op_mul (pv 0) (pv 0)) (pv 2)) (pa_cons (pe_op op_fdiv (pv 1) (pe_int)) pa_nil)) (by rfl)))))
      (pss_one (ps_ret (pv 3))))), ?_⟩
    have r0 : ∀ x : Int, 0 ≤ x % m ∧ x % m < m := fun x => ⟨Int.emod_nonneg _ (by omega), Int.emod_lt_of_pos _ (by omega)⟩
    walk_at "ev"
    refine for_range (lo := 0) (n := (14 : Int).toNat) (fun i σ H' => Hold (∃ (x p t : Int) (s5 : Option V), σ = [some (.int x), some (.int p), some (.int m), some (.int t), s5] ∧ 0 ≤ p ∧ p * 2 ^ i ≤ e ∧ 0 ≤ t ∧ t < m ∧ 0 ≤ x ∧ x ≤ 1000000 ∧ t * x ^ p.toNat % m = b ^ e.toNat % m ∧ H' = H)) (.mk ⟨b, e, 1 % m, none, rfl, he, by simp, (r0 _).1, (r0 _).2, hb0, hb1, by rw [mod_mul_mod, Int.one_mul], rfl⟩) ?_ ?_
    · intro i σ H' hi hP
      obtain ⟨x, p, t, s5, rfl, p0, pe, t0, t1, x0, x1, inv, rfl⟩ := hP.un
      have cm1 : CMul t x := .inl ⟨by omega, by omega⟩
      have cm2 : CMul x x := .inl ⟨by omega, by omega⟩
      have rx := r0 (x * x)
      have pe2 : p / 2 * 2 ^ (i + 1) ≤ e := by
        have h1 : p / 2 * 2 ≤ p := Int.ediv_mul_le p (by decide)
        have h2 : p / 2 * 2 * 2 ^ i ≤ p * 2 ^ i := Int.mul_le_mul_of_nonneg_right h1 (Int.pow_nonneg (by decide))
        rw [Int.pow_succ, Int.mul_comm (2 ^ i) 2, ← Int.mul_assoc]
        omega
      walk_at "ev"
      refine ite2 (fun d => ?_) (fun d => ?_)
      · have d1 : p % 2 = 1 := V.int.inj (of_decide_eq_true d)
        walk_at "ev"
        exact .mk ⟨x * x % m, p / 2, t * x % m, _, rfl, by omega, pe2, (r0 _).1, (r0 _).2, rx.1, by omega, by rw [step_odd d1 p0]; exact inv, rfl⟩
      · have d1 : ¬ p % 2 = 1 := fun z => d (decide_eq_true (congrArg V.int z))
        walk_at "ev"
        exact .mk ⟨x * x % m, p / 2, t, _, rfl, by omega, pe2, t0, t1, rx.1, by omega, by rw [step_even d1 p0]; exact inv, rfl⟩
    · intro σ H' hP
      obtain ⟨x, p, t, s5, rfl, p0, pe, t0, t1, x0, x1, inv, rfl⟩ := hP.un
      have p00 : p = 0 := by
        have e14 : (2 : Int) ^ (14 : Int).toNat = 16384 := by decide
        rw [e14] at pe
        omega
      subst p00
      walk_at "ev"
      have et : t = b ^ e.toNat % m := by
        rw [← inv]
        show t = t * x ^ (0 : Nat) % m
        rw [Int.pow_zero, Int.mul_one, Int.emod_eq_of_lt t0 t1]
      rw [et]
      exact q
end
abbrev s__law_totient : Stmt := top 20
abbrev N__law_totient : List Str := ["_law_number_here", "_law_primes", "_law_found", "_law_prime"]
abbrev P__law_totient : List Str := ["_law_number_here", "_law_primes"]
theorem sc__law_totient : FnScope N__law_totient P__law_totient (defScope s__law_totient) := ⟨rfl, rfl, rfl, by decide +kernel, rfl, by decide +kernel, by decide +kernel⟩
section
variable {P : Program} {w : World} {K : PySem.W.Frag} {mg : Str → Option Value} {base : Heap}
def spTotL (K : PySem.W.Frag) : Sp := fun vs H Q _ => ∃ (n : Int) (a : Addr) (fs out : List Int), vs = [.int n, .ref a] ∧ SqL K H a ((prs 1000).map V.int) ∧ 1 ≤ n ∧ n ≤ 1000000 ∧ Fac n fs ∧ out.Pairwise (· < ·) ∧ (∀ k, k ∈ out ↔ k ∈ fs) ∧ ∀ H', Same H H' → Q (.int (totF n out)) H'
theorem ok_lawtot {f f1 : Addr} {fd d1 : FuncData} {k : Nat} (F : Fun K "_law_totient" "_law_totient" s__law_totient f fd) (T : Blt mg) (D__law_parts_of : Df K mg "_law_parts_of" s__law_parts_of P__law_parts_of f1 d1) : FnOk P w K mg base CX0 (k + 2) f fd P__law_totient (spTotL K) := by
  have G__law_parts_of : FnOk P w K mg base CX0 (k + 1) f1 d1 P__law_parts_of (spParts K) := ok_parts D__law_parts_of.F T
  have nd := sc__law_totient.nd
  refine F.ok sc__law_totient (fun vs H Q E h => ?_) (fun cdv A outer s H vs Q E hr h => ?_)
  · obtain ⟨n, a, fs, out, rfl, _⟩ := h
    rfl
  · obtain ⟨n, a, fs, out, rfl, hS, n1, n2, hfac, hso, hmo, q⟩ := h
    refine ⟨_, (pss_cons (ps_set (i := 2) nd rfl (Or.inl rfl) (pv 0))
      (pss_cons (ps_for PassesOwn.never rfl (pi_list (pe_sortSet (by rfl) T.b_sorted (by rfl) T.b_set (pe_call G__law_parts_of (hr.mono (by omega)) (by rfl) D__law_parts_of.g D__law_parts_of.F.kp D__law_parts_of.b .nil pass0 (pa_cons (pv 0) (pa_cons (pv 1) pa_nil))))) (pg_name (i := 3) nd rfl (Or.inl rfl))
      (pss_one (ps_set (i := 2) nd rfl (Or.inl rfl) (pe_op op_mul (pe_op op_fdiv (pv 2) (pv 3)) (pe_op op_sub (pv 3) (pe_int))))))
      (pss_one (ps_ret (pv 2))))), ?_⟩
    have hnt : n < (((1000 : Nat) : Int) + 1) * (((1000 : Nat) : Int) + 1) := by
      have e : (((1000 : Nat) : Int) + 1) * (((1000 : Nat) : Int) + 1) = 1002001 := by decide
      omega
    walk_at "ev"
    intro xs l H1 hf1 hl sm1 hq1
    have ex : xs = fs := hf1.uniq hfac
    subst ex
    have hxl := hfac.len (by omega)
    have hL1 : SqL K H1 l (xs.map V.int) := SqL.of hq1
    refine ⟨l, xs, rfl, hL1, by omega, ?_⟩
    intro out2 l2 hl2 hs2 hm2 ho2
    have eo : out2 = out := srt_ext hs2 hso fun k => (hm2 k).trans (hmo k).symm
    subst eo
    generalize hG2 : upd _ l2 _ = H2
    obtain ⟨sm2, hq2⟩ := newO hG2 hl2
    have hL2 : SqL K H2 l2 (out2.map V.int) := SqL.of hq2
    refine ⟨l2, rfl, ⟨_, hL2⟩, ?_⟩
    refine for_list (K := K) (a := l2) (xs := out2.map V.int) (fun i σ H' => Hold (∃ (t : Int) (s3 : Option V), σ = [some (.int n), some (.ref a), some (.int t), s3] ∧ t = totF n (out2.take i) ∧ 0 ≤ t ∧ t ≤ n ∧ H' = H2)) (.mk ⟨n, none, rfl, rfl, by omega, by omega, rfl⟩) ?_ ?_ ?_
    · intro i σ H3 hi hP
      obtain ⟨t, s2, rfl, et, t0, t1, rfl⟩ := hP.un
      exact hL2
    · intro i v σ H3 hv hP
      obtain ⟨t, s2, rfl, et, t0, t1, rfl⟩ := hP.un
      rw [List.getElem?_map] at hv
      obtain ⟨x, hx, ev⟩ := Option.map_eq_some_iff.mp hv
      subst ev
      have hxm := (hmo x).mp (List.mem_of_getElem? hx)
      obtain ⟨x2, _⟩ := hfac.primes x hxm
      have hx6 := hfac.le x hxm
      obtain ⟨b0, b1⟩ := tot_bound t0 t1 x2
      have cm : CMul (t / x) (x - 1) := .inr ⟨by omega, by omega⟩
      walk_at "ev"
      refine .mk ⟨_, _, rfl, ?_, b0, b1, rfl⟩
      unfold totF
      rw [List.take_add_one, hx, List.foldl_append]
      show _ = (List.foldl _ n (List.take i out2)) / x * (x - 1)
      have et' : t = List.foldl (fun t p => t / p * (p - 1)) n (List.take i out2) := et
      rw [← et']
    · intro σ H3 hP
      obtain ⟨t, s2, rfl, et, t0, t1, rfl⟩ := hP.un
      rw [List.length_map, List.take_length] at et
      walk_at "ev"
      rw [et]
      exact q _ (sm1.trans sm2)
end
abbrev s__law_is_generator : Stmt := top 19
abbrev N__law_is_generator : List Str := ["_law_number_here", "_law_prime", "_law_parts", "_law_part"]
abbrev P__law_is_generator : List Str := ["_law_number_here", "_law_prime", "_law_parts"]
theorem sc__law_is_generator : FnScope N__law_is_generator P__law_is_generator (defScope s__law_is_generator) := ⟨rfl, rfl, rfl, by decide +kernel, rfl, by decide +kernel, by decide +kernel⟩
def spIsGen (K : PySem.W.Frag) : Sp := fun vs H Q _ => ∃ (x p : Int) (a : Addr) (out : List Int), vs = [.int x, .int p, .ref a] ∧ SqL K H a (out.map V.int) ∧ out.length ≤ 30 ∧ (∀ k ∈ out, 2 ≤ k ∧ k ≤ p - 1) ∧ 2 ≤ p ∧ p ≤ 1000000 ∧ 1 ≤ x ∧ x < p ∧ ∀ b H', Same H H' → (b = true ↔ GenOk p x (erl p out)) → Q (.bl b) H'
theorem erl_len (p : Int) (out : List Int) : (erl p out).length = out.length := by
  unfold erl
  rw [List.length_map]
theorem all_gen {p x : Int} {out : List Int} : ((out.map fun f => !decide (x ^ ((p - 1) / f).toNat % p = 1)).all id = true) ↔ GenOk p x (erl p out) := by
  rw [List.all_eq_true]
  constructor
  · intro h e he
    obtain ⟨f, hf, ef⟩ := List.mem_map.mp he
    have := h _ (List.mem_map.mpr ⟨f, hf, rfl⟩)
    rw [← ef]
    simpa using this
  · intro h b hb
    obtain ⟨f, hf, ef⟩ := List.mem_map.mp hb
    have := h _ (List.mem_map.mpr ⟨f, hf, rfl⟩)
    rw [← ef]
    simpa using this
theorem ne_dec (x y : Int) : (!decide (V.int x = V.int y)) = !decide (x = y) := by
  by_cases c : x = y
  · rw [decide_eq_true c, decide_eq_true (congrArg V.int c)]
  · rw [decide_eq_false c, decide_eq_false fun z => c (V.int.inj z)]
section
variable {P : Program} {w : World} {K : PySem.W.Frag} {mg : Str → Option Value} {base : Heap}
theorem ok_isgen {f f1 : Addr} {fd d1 : FuncData} {k : Nat} (F : Fun K "_law_is_generator" "_law_is_generator" s__law_is_generator f fd) (T : Blt mg) (D__law_pow : Df K mg "_law_pow" s__law_pow P__law_pow f1 d1) : FnOk P w K mg base CX0 (k + 2) f fd P__law_is_generator (spIsGen K) := by
  have G__law_pow : FnOk P w K mg base CX0 (k + 1) f1 d1 P__law_pow (spPowL 1048576) := ok_lawpow D__law_pow.F T
  have nd := sc__law_is_generator.nd
  refine F.ok sc__law_is_generator (fun vs H Q E h => ?_) (fun cdv A outer s H vs Q E hr h => ?_)
  · obtain ⟨x, p, a, out, rfl, _⟩ := h
    rfl
  · obtain ⟨x, p, a, out, rfl, hS, hol, hk, p2, p6, x1, xp, q⟩ := h
    refine ⟨_, (pss_cons (ps_if (pt_cmpR op_eq (pe_op op_mod (pv 0) (pv 1)) (pe_int) (nomark _)) (pss_one (ps_ret (pe_bl))) pss_nil)
      (pss_one (ps_ret (pe_callB (r := rAll K) (cr_all rfl) (by rfl) T.b_all (by decide +kernel) (pa_cons (pe_lc (own := [("_law_part", 3)]) (g := gName 3) (by rfl) nd (pi_list (pv 2)) (blkOk_by (own := [("_law_part", 3)]) (N := N__law_is_generator) (sc := defScope s__law_is_generator) (by decide +kernel)) (fun _ _ _ _ _ => (pg_name (i := 3) nd rfl (Or.inl rfl))) (fun _ _ _ _ _ => pts_nil) (fun _ _ _ _ _ => (pe_cmpR op_ne (pe_call G__law_pow (hr.mono (by omega)) (by rfl) D__law_pow.g D__law_pow.F.kp D__law_pow.b .nil pass0 (pa_cons (pv 0) (pa_cons (pe_op op_fdiv (pe_op op_sub (pv 1) (pe_int)) (pv 3)) (pa_cons (pv 1) pa_nil)))) (pe_int) (nomark _)))) pa_nil))))), ?_⟩
    have hmod : ¬ V.int (x % p) = V.int 0 := fun z => by
      have := V.int.inj z
      rw [Int.emod_eq_of_lt (by omega) xp] at this
      omega
    have hS' : ∃ xs, SqL K H a xs := ⟨_, hS⟩
    walk_at "ev"
    refine ite2 (fun e => absurd (of_decide_eq_true e) hmod) (fun _ => ?_)
    walk_at "ev"
    intro D hD
    refine lc_list (K := K) (a := a) (xs := out.map V.int) (fun i H' => Hold (Same H H' ∧ H' D = some (.lst (((out.take i).map fun f => !decide (x ^ ((p - 1) / f).toNat % p = 1)).map V.bl)))) (.mk ⟨same_new hD, upd_same⟩) ?_ ?_ ?_
    · intro i H2 hi hP
      obtain ⟨sm2, hq2⟩ := hP.un
      exact sm2.seq hS
    · intro i v H2 hv hP
      obtain ⟨sm2, hq2⟩ := hP.un
      rw [List.getElem?_map] at hv
      obtain ⟨f, hf, ev⟩ := Option.map_eq_some_iff.mp hv
      subst ev
      obtain ⟨f2, fp⟩ := hk f (List.mem_of_getElem? hf)
      have hil : i < out.length := (List.getElem?_eq_some_iff.mp hf).1
      have e0 : 0 ≤ (p - 1) / f := Int.ediv_nonneg (by omega) (by omega)
      have e1 : (p - 1) / f ≤ p - 1 := Int.ediv_le_self _ (by omega)
      have e2 : (p - 1) / f < 1048576 := by omega
      have hsz : (((out.take i).map fun f => !decide (x ^ ((p - 1) / f).toNat % p = 1)).map V.bl).length < sizeLine := by
        rw [List.length_map, List.length_map, List.length_take]
        exact szm (by omega)
      walk_at "ev"
      refine .mk ⟨same_mut sm2 hD, ?_⟩
      rw [upd_same, List.take_add_one, hf, List.map_append, List.map_append, ne_dec]
      rfl
    · intro H2 hP
      obtain ⟨sm2, hq2⟩ := hP.un
      rw [List.length_map, List.take_length] at hq2
      exact ⟨D, _, rfl, SqL.of hq2, q _ _ sm2 all_gen⟩
end
abbrev s__law_is_plain_prime : Stmt := top 11
abbrev N__law_is_plain_prime : List Str := ["_law_number_here", "_law_small", "_law_part"]
abbrev P__law_is_plain_prime : List Str := ["_law_number_here"]
theorem sc__law_is_plain_prime : FnScope N__law_is_plain_prime P__law_is_plain_prime (defScope s__law_is_plain_prime) := ⟨rfl, rfl, rfl, by decide +kernel, rfl, by decide +kernel, by decide +kernel⟩
def spPrm : Sp := fun vs H Q _ => ∃ (n : Int), vs = [.int n] ∧ 0 ≤ n ∧ n ≤ 1000 ∧ ∀ (b : Bool) H', Same H H' → (b = true ↔ 2 ≤ n ∧ Rough n n) → Q (.bl b) H'
theorem rough_sq {n : Int} (h2 : 2 ≤ n) : Rough n n ↔ ∀ d, 2 ≤ d → d * d ≤ n → ¬ d ∣ n := by
  constructor
  · intro r d d2 dd
    have : 2 * d ≤ d * d := Int.mul_le_mul_of_nonneg_right d2 (by omega)
    exact r d d2 (by omega)
  · intro h e e2 en ed
    obtain ⟨q, hq⟩ := ed
    have q0 : 0 < q := by
      apply Int.lt_of_not_ge
      intro z
      have : e * q ≤ 0 := Int.mul_nonpos_of_nonneg_of_nonpos (by omega) z
      omega
    have q1 : q ≠ 1 := fun z => by
      rw [z, Int.mul_one] at hq
      omega
    by_cases le : e ≤ q
    · have : e * e ≤ e * q := Int.mul_le_mul_of_nonneg_left le (by omega)
      exact h e e2 (by omega) ⟨q, hq⟩
    · have : q * q ≤ e * q := Int.mul_le_mul_of_nonneg_right (by omega) (by omega)
      exact h q (by omega) (by omega) ⟨e, by rw [hq, Int.mul_comm]⟩
section
variable {P : Program} {w : World} {K : PySem.W.Frag} {mg : Str → Option Value} {base : Heap}
theorem ok_prm {f : Addr} {fd : FuncData} {k : Nat} (F : Fun K "_law_is_plain_prime" "_law_is_plain_prime" s__law_is_plain_prime f fd) (T : Blt mg) : FnOk P w K mg base CX0 (k + 1) f fd P__law_is_plain_prime spPrm := by
  have nd := sc__law_is_plain_prime.nd
  refine F.ok sc__law_is_plain_prime (fun vs H Q E h => ?_) (fun cdv A outer s H vs Q E hr h => ?_)
  · obtain ⟨n, rfl, _⟩ := h
    rfl
  · obtain ⟨n, rfl, h0, h1, q⟩ := h
    refine ⟨_, (pss_cons (ps_setLc (i := 1) (own := [("_law_part", 2)]) (g := gName 2) (by rfl) nd rfl rfl (sw_true rfl rfl rfl (by decide +kernel)) (pi_range2 (by rfl) T.b_range (pa_cons (pe_int) (pa_cons (pv 0) pa_nil))) (blkOk_by (own := [("_law_part", 2)]) (N := N__law_is_plain_prime) (sc := defScope s__law_is_plain_prime) (by decide +kernel)) (fun _ _ _ _ _ => (pg_name (i := 2) nd rfl (Or.inl rfl))) (fun _ _ _ _ _ => pts_one (pt_cmpR op_le (pe_op op_mul (pv 2) (pv 2)) (pv 0) (nomark _))) (fun _ _ _ _ _ => (pv 2)))
      (pss_one (ps_ret (pe_and (pe_cmpR op_gt (pv 0) (pe_int) (nomark _)) (pe_one (pe_callB (r := rAll K) (cr_all rfl) (by rfl) T.b_all (by decide +kernel) (pa_cons (pe_lc (own := [("_law_part", 2)]) (g := gName 2) (by rfl) nd (pi_list (pv 1)) (blkOk_by (own := [("_law_part", 2)]) (N := N__law_is_plain_prime) (sc := defScope s__law_is_plain_prime) (by decide +kernel)) (fun _ _ _ _ _ => (pg_name (i := 2) nd rfl (Or.inl rfl))) (fun _ _ _ _ _ => pts_nil) (fun _ _ _ _ _ => (pe_cmpR op_gt (pe_op op_mod (pv 0) (pv 2)) (pe_int) (nomark _)))) pa_nil))))))), ?_⟩
    walk_at "ev"
    intro D hD
    refine lc_range (lo := 2) (n := _) (fun i H' => Hold (∃ ms : List Int, Same H H' ∧ H' D = some (.lst (ms.map V.int)) ∧ ms.length ≤ i ∧ (∀ m, m ∈ ms ↔ 2 ≤ m ∧ m < 2 + (i : Int) ∧ m * m ≤ n))) (.mk ⟨[], same_new hD, upd_same, Nat.zero_le _, fun m => ⟨fun z => by simp at z, fun z => by omega⟩⟩) ?_ ?_
    · intro i H2 hi hP
      obtain ⟨ms, sm2, hD2, hl, hm⟩ := hP.un
      have hcm : CMul (2 + (i : Int)) (2 + i) := .inl ⟨by omega, by omega⟩
      have hfl : (ms.map V.int).length < sizeLine := by
        rw [List.length_map]
        exact szm (by omega)
      walk_at "ev"
      refine ite2 (fun e => ?_) (fun e => ?_)
      · have e1 : (2 + (i : Int)) * (2 + i) ≤ n := of_decide_eq_true e
        walk_at "ev"
        refine .mk ⟨ms ++ [2 + (i : Int)], same_mut sm2 hD, ?_, ?_, fun m => ?_⟩
        · rw [upd_same, List.map_append]
          rfl
        · simp
          omega
        · rw [List.mem_append, List.mem_singleton, hm]
          constructor
          · rintro (⟨a, b, c⟩ | z)
            · exact ⟨a, by omega, c⟩
            · rw [z]
              exact ⟨by omega, by omega, e1⟩
          · rintro ⟨a, b, c⟩
            by_cases z : m = 2 + (i : Int)
            · exact .inr z
            · exact .inl ⟨a, by omega, c⟩
      · have e1 : ¬ (2 + (i : Int)) * (2 + i) ≤ n := fun z => e (decide_eq_true z)
        refine .mk ⟨ms, sm2, hD2, by omega, fun m => ?_⟩
        rw [hm]
        constructor
        · rintro ⟨a, b, c⟩
          exact ⟨a, by omega, c⟩
        · rintro ⟨a, b, c⟩
          refine ⟨a, ?_, c⟩
          have : m ≠ 2 + (i : Int) := fun z => e1 (z ▸ c)
          omega
    · intro H2 hP
      obtain ⟨ms, sm2, hD2, hl, hm⟩ := hP.un
      have hL : SqL K H2 D (ms.map V.int) := SqL.of hD2
      have hL' : ∃ xs, SqL K H2 D xs := ⟨_, hL⟩
      walk_at "ev"
      refine ite2 (fun e => ?_) (fun e => ?_)
      · have e1 : 1 < n := of_decide_eq_true e
        walk_at "ev"
        intro D3 hD3
        refine lc_list (K := K) (a := D) (xs := ms.map V.int) (fun i H' => Hold (Same H2 H' ∧ H' D3 = some (.lst (((ms.take i).map fun m => decide (0 < n % m)).map V.bl)))) (.mk ⟨same_new hD3, upd_same⟩) ?_ ?_ ?_
        · intro i H3 hi hP3
          obtain ⟨sm3, hD4⟩ := hP3.un
          exact sm3.seq hL
        · intro i v H3 hv hP3
          obtain ⟨sm3, hD4⟩ := hP3.un
          rw [List.getElem?_map] at hv
          obtain ⟨m, hmm, ev⟩ := Option.map_eq_some_iff.mp hv
          subst ev
          obtain ⟨m2, _, _⟩ := (hm m).mp (List.mem_of_getElem? hmm)
          have hil : i < ms.length := (List.getElem?_eq_some_iff.mp hmm).1
          have hsz : (((ms.take i).map fun m => decide (0 < n % m)).map V.bl).length < sizeLine := by
            rw [List.length_map, List.length_map, List.length_take]
            exact szm (by omega)
          walk_at "ev"
          refine .mk ⟨same_mut sm3 hD3, ?_⟩
          rw [upd_same, List.take_add_one, hmm, List.map_append, List.map_append]
          rfl
        · intro H3 hP3
          obtain ⟨sm3, hD4⟩ := hP3.un
          rw [List.length_map, List.take_length] at hD4
          refine ⟨D3, _, rfl, SqL.of hD4, q _ _ (sm2.trans sm3) ?_⟩
          rw [List.all_eq_true, rough_sq (by omega)]
          constructor
          · intro h
            refine ⟨by omega, fun d d2 dd hdv => ?_⟩
            have dn : d < 2 + ((n - 2).toNat : Int) := by
              have : 2 * d ≤ d * d := Int.mul_le_mul_of_nonneg_right d2 (by omega)
              omega
            have := h _ (List.mem_map.mpr ⟨d, (hm d).mpr ⟨d2, dn, dd⟩, rfl⟩)
            have z := of_decide_eq_true this
            rw [Int.emod_eq_zero_of_dvd hdv] at z
            omega
          · rintro ⟨_, h⟩ b hb
            obtain ⟨d, hd, ed⟩ := List.mem_map.mp hb
            obtain ⟨d2, _, dd⟩ := (hm d).mp hd
            rw [← ed]
            refine decide_eq_true ?_
            have : n % d ≠ 0 := fun z => h d d2 dd (Int.dvd_of_emod_eq_zero z)
            have := Int.emod_nonneg n (show d ≠ 0 by omega)
            omega
      · have e1 : ¬ 1 < n := fun z => e (decide_eq_true z)
        exact q _ _ sm2 ⟨fun z => Bool.noConfusion z, fun z => by omega⟩
end
abbrev s__law_least_generator : Stmt := top 12
abbrev N__law_least_generator : List Str := ["_law_prime", "_law_parts", "_law_one", "_law_part"]
abbrev P__law_least_generator : List Str := ["_law_prime"]
theorem sc__law_least_generator : FnScope N__law_least_generator P__law_least_generator (defScope s__law_least_generator) := ⟨rfl, rfl, rfl, by decide +kernel, rfl, by decide +kernel, by decide +kernel⟩
def IsPf (n : Int) (out : List Int) : Prop := out.Pairwise (· < ·) ∧ ∀ k, k ∈ out ↔ 2 ≤ k ∧ k ∣ n ∧ Rough k k
def spLG : Sp := fun vs H Q _ => ∃ (p g : Int) (out : List Int), vs = [.int p] ∧ 2 ≤ p ∧ p < 300 ∧ IsPf (p - 1) out ∧ LeastGen p g (erl p out) ∧ ∀ H', Same H H' → Q (.int g) H'
section
variable {P : Program} {w : World} {K : PySem.W.Frag} {mg : Str → Option Value} {base : Heap}
theorem ok_least {f f1 f2 : Addr} {fd d1 d2 : FuncData} {k : Nat} (F : Fun K "_law_least_generator" "_law_least_generator" s__law_least_generator f fd) (T : Blt mg) (D__law_is_plain_prime : Df K mg "_law_is_plain_prime" s__law_is_plain_prime P__law_is_plain_prime f1 d1) (D__law_raised : Df K mg "_law_raised" s__law_raised P__law_raised f2 d2) : FnOk P w K mg base CX0 (k + 2) f fd P__law_least_generator spLG := by
  have G__law_is_plain_prime : FnOk P w K mg base CX0 (k + 1) f1 d1 P__law_is_plain_prime spPrm := ok_prm D__law_is_plain_prime.F T
  have G__law_raised : FnOk P w K mg base CX0 (k + 1) f2 d2 P__law_raised (spPowL 16384) := ok_raised D__law_raised.F T
  have nd := sc__law_least_generator.nd
  refine F.ok sc__law_least_generator (fun vs H Q E h => ?_) (fun cdv A outer s H vs Q E hr h => ?_)
  · obtain ⟨p, g, out, rfl, _⟩ := h
    rfl
  · obtain ⟨p, g, out, rfl, p2, p3, hpf, hg, q⟩ := h
    refine ⟨_, (pss_cons (ps_setLc (i := 1) (own := [("_law_part", 3)]) (g := gName 3) (by rfl) nd rfl rfl (sw_true rfl rfl rfl (by decide +kernel)) (pi_range2 (by rfl) T.b_range (pa_cons (pe_int) (pa_cons (pv 0) pa_nil))) (blkOk_by (own := [("_law_part", 3)]) (N := N__law_least_generator) (sc := defScope s__law_least_generator) (by decide +kernel)) (fun _ _ _ _ _ => (pg_name (i := 3) nd rfl (Or.inl rfl))) (fun _ _ _ _ _ => pts_one (PW.pt (pw_and (pt_cmpR op_eq (pe_op op_mod (pe_op op_sub (pv 0) (pe_int)) (pv 3)) (pe_int) (nomark _)) (pw_and1 (pt_val (pe_call G__law_is_plain_prime (hr.mono (by omega)) (by rfl) D__law_is_plain_prime.g D__law_is_plain_prime.F.kp D__law_is_plain_prime.b .nil pass0 (pa_cons (pv 3) pa_nil))))))) (fun _ _ _ _ _ => (pv 3)))
      (pss_cons (ps_for PassesOwn.never rfl (pi_range2 (by rfl) T.b_range (pa_cons (pe_int) (pa_cons (pv 0) pa_nil))) (pg_name (i := 2) nd rfl (Or.inr rfl))
      (pss_one (ps_if (pt_val (pe_callB (r := rAll K) (cr_all rfl) (by rfl) T.b_all (by decide +kernel) (pa_cons (pe_lc (own := [("_law_part", 3)]) (g := gName 3) (by rfl) nd (pi_list (pv 1)) (blkOk_by (own := [("_law_part", 3)]) (N := N__law_least_generator) (sc := defScope s__law_least_generator) (by decide +kernel)) (fun _ _ _ _ _ => (pg_name (i := 3) nd rfl (Or.inl rfl))) (fun _ _ _ _ _ => pts_nil) (fun _ _ _ _ _ => (pe_cmpR op_ne (pe_call G__law_raised (hr.mono (by omega)) (by rfl) D__law_raised.g D__law_raised.F.kp D__law_raised.b .nil pass0 (pa_cons (pv 2) (pa_cons (pe_op op_fdiv (pe_op op_sub (pv 0) (pe_int)) (pv 3)) (pa_cons (pv 0) pa_nil)))) (pe_int) (nomark _)))) pa_nil))) (pss_one (ps_ret (pv 2))) pss_nil)))
      (pss_one (ps_ret (pe_int))))), ?_⟩
    walk_at "ev"
    intro D hD
    refine lc_range (lo := 2) (n := _) (fun i H' => Hold (∃ ms : List Int, Same H H' ∧ H' D = some (.lst (ms.map V.int)) ∧ ms.length ≤ i ∧ ms.Pairwise (· < ·) ∧ ∀ m, m ∈ ms ↔ 2 ≤ m ∧ m < 2 + (i : Int) ∧ m ∣ p - 1 ∧ Rough m m)) (.mk ⟨[], same_new hD, upd_same, Nat.zero_le _, .nil, fun m => ⟨fun z => by simp at z, fun z => by omega⟩⟩) ?_ ?_
    · intro i H2 hi hP
      obtain ⟨ms, sm2, hD2, hl, hs, hm⟩ := hP.un
      have hfl : (ms.map V.int).length < sizeLine := by
        rw [List.length_map]
        exact szm (by omega)
      have no : ∀ (H' : Hp), Same H2 H' → ¬ ((2 + (i : Int)) ∣ p - 1 ∧ Rough (2 + (i : Int)) (2 + (i : Int))) → Hold (∃ ms : List Int, Same H H' ∧ H' D = some (.lst (ms.map V.int)) ∧ ms.length ≤ i + 1 ∧ ms.Pairwise (· < ·) ∧ ∀ m, m ∈ ms ↔ 2 ≤ m ∧ m < 2 + ((i + 1 : Nat) : Int) ∧ m ∣ p - 1 ∧ Rough m m) := by
        intro H' sm' bad
        refine .mk ⟨ms, sm2.trans sm', sm' _ _ hD2, by omega, hs, fun m => ?_⟩
        rw [hm]
        constructor
        · rintro ⟨a, b, c⟩
          exact ⟨a, by omega, c⟩
        · rintro ⟨a, b, c⟩
          refine ⟨a, ?_, c⟩
          have : m ≠ 2 + (i : Int) := fun z => bad (z ▸ c)
          omega
      walk_at "ev"
      refine ite2 (fun e => ?_) (fun e => ?_)
      · have e1 : (p - 1) % (2 + (i : Int)) = 0 := V.int.inj (of_decide_eq_true e)
        walk_at "ev"
        intro b H3 sm3 hb
        have hD3 := sm3 _ _ hD2
        walk_at "ev"
        refine ite2 (fun e2 => ?_) (fun e2 => ?_)
        · have r := (hb.mp e2).2
          walk_at "ev"
          refine .mk ⟨ms ++ [2 + (i : Int)], same_mut (sm2.trans sm3) hD, ?_, ?_, ?_, fun m => ?_⟩
          · rw [upd_same, List.map_append]
            rfl
          · simp
            omega
          · rw [List.pairwise_append]
            refine ⟨hs, List.pairwise_singleton _ _, fun a ha c hc => ?_⟩
            have e3 : c = 2 + (i : Int) := by simpa using hc
            have := ((hm a).mp ha).2.1
            omega
          · rw [List.mem_append, List.mem_singleton, hm]
            constructor
            · rintro (⟨a, b, c⟩ | z)
              · exact ⟨a, by omega, c⟩
              · rw [z]
                exact ⟨by omega, by omega, dvd_iff.mp e1, r⟩
            · rintro ⟨a, b, c⟩
              by_cases z : m = 2 + (i : Int)
              · exact .inr z
              · exact .inl ⟨a, by omega, c⟩
        · exact no H3 sm3 fun z => e2 (hb.mpr ⟨by omega, z.2⟩)
      · have e1 : ¬ (p - 1) % (2 + (i : Int)) = 0 := fun z => e (decide_eq_true (congrArg V.int z))
        walk_at "ev"
        exact no H2 (Same.refl _) fun z => e1 (dvd_iff.mpr z.1)
    · intro H2 hP
      obtain ⟨ms, sm2, hD2, hl, hs, hm⟩ := hP.un
      have eo : ms = out := srt_ext hs hpf.1 fun k => by
        rw [hm, hpf.2]
        constructor
        · rintro ⟨a, b, c⟩
          exact ⟨a, c⟩
        · rintro ⟨a, c⟩
          refine ⟨a, ?_, c⟩
          have := Int.le_of_dvd (by omega) c.1
          omega
      subst eo
      have hL : SqL K H2 D (ms.map V.int) := SqL.of hD2
      have hml : ms.length ≤ 300 := by omega
      have hmk : ∀ k ∈ ms, 2 ≤ k ∧ k ≤ p - 1 := fun k hk => by
        obtain ⟨a, b, _⟩ := (hpf.2 k).mp hk
        exact ⟨a, Int.le_of_dvd (by omega) b⟩
      walk_at "ev"
      refine for_range (lo := 1) (n := _) (fun i σ H' => Hold (∃ s2 s3, σ = [some (.int p), some (.ref D), s2, s3] ∧ Same H2 H' ∧ (1 : Int) + i ≤ g)) (.mk ⟨_, _, rfl, Same.refl _, by have := hg.1; omega⟩) ?_ ?_
      · intro i σ H3 hi hP
        obtain ⟨s2, s3, rfl, sm3, hig⟩ := hP.un
        have hL3 := sm3.seq hL
        have hL3' : ∃ xs, SqL K H3 D xs := ⟨_, hL3⟩
        obtain ⟨g1, gp, gok, gless⟩ := id hg
        walk_at "ev"
        intro D4 hD4
        refine lc_list (K := K) (a := D) (xs := ms.map V.int) (fun j H' => Hold (Same H3 H' ∧ H' D4 = some (.lst (((ms.take j).map fun f => !decide ((1 + (i : Int)) ^ ((p - 1) / f).toNat % p = 1)).map V.bl)))) (.mk ⟨same_new hD4, upd_same⟩) ?_ ?_ ?_
        · intro j H4 hj hP4
          obtain ⟨sm4, hq4⟩ := hP4.un
          exact sm4.seq hL3
        · intro j v H4 hv hP4
          obtain ⟨sm4, hq4⟩ := hP4.un
          rw [List.getElem?_map] at hv
          obtain ⟨f, hf, ev⟩ := Option.map_eq_some_iff.mp hv
          subst ev
          obtain ⟨f2, fp⟩ := hmk f (List.mem_of_getElem? hf)
          have hil : j < ms.length := (List.getElem?_eq_some_iff.mp hf).1
          have e0 : 0 ≤ (p - 1) / f := Int.ediv_nonneg (by omega) (by omega)
          have e1 : (p - 1) / f ≤ p - 1 := Int.ediv_le_self _ (by omega)
          have e2 : (p - 1) / f < 16384 := by omega
          have hsz : (((ms.take j).map fun f => !decide ((1 + (i : Int)) ^ ((p - 1) / f).toNat % p = 1)).map V.bl).length < sizeLine := by
            rw [List.length_map, List.length_map, List.length_take]
            exact szm (by omega)
          walk_at "ev"
          refine .mk ⟨same_mut sm4 hD4, ?_⟩
          rw [upd_same, List.take_add_one, hf, List.map_append, List.map_append, ne_dec]
          rfl
        · intro H4 hP4
          obtain ⟨sm4, hq4⟩ := hP4.un
          rw [List.length_map, List.take_length] at hq4
          refine ⟨D4, _, rfl, SqL.of hq4, _, rfl, ?_⟩
          refine ite2 (fun e => ?_) (fun e => ?_)
          · have ok := all_gen.mp e
            have eg : 1 + (i : Int) = g := by
              apply Int.le_antisymm hig
              apply Int.le_of_not_gt
              intro z
              exact gless _ (by omega) z ok
            walk_at "ev"
            rw [eg]
            exact q _ (sm2.trans (sm3.trans sm4))
          · have nok : ¬ GenOk p (1 + (i : Int)) (erl p ms) := fun z => e (all_gen.mpr z)
            have neg : 1 + (i : Int) ≠ g := fun z => nok (z ▸ gok)
            refine .mk ⟨_, _, rfl, sm3.trans sm4, by omega⟩
      · intro σ H3 hP
        obtain ⟨s2, s3, rfl, sm3, hig⟩ := hP.un
        exfalso
        have := hg.2.1
        omega
end
/-! ### all divisors, rising -/
/-- ds is the rising list of all that divides n -/
def IsDv (n : Int) (ds : List Int) : Prop := ds.Pairwise (· < ·) ∧ ∀ k, k ∈ ds ↔ 1 ≤ k ∧ k ∣ n
theorem IsDv.uniq {n : Int} {l m : List Int} (a : IsDv n l) (b : IsDv n m) : l = m := srt_ext a.1 b.1 fun k => (a.2 k).trans (b.2 k).symm
theorem sq_lt {a b : Int} (ha : 0 ≤ a) (h : a * a < b * b) (hb : 0 ≤ b) : a < b := by
  apply Int.lt_of_not_ge
  intro z
  have : b * b ≤ a * a := Int.mul_le_mul z z hb ha
  omega
/-- low: those below c; high: the partners of those whose square is less, falling -/
structure Half (n c : Int) (low high : List Int) : Prop where
  up : low.Pairwise (· < ·)
  mem : ∀ k, k ∈ low ↔ 1 ≤ k ∧ k < c ∧ k ∣ n
  down : high.Pairwise (· > ·)
  part : ∀ y, y ∈ high ↔ ∃ d, 1 ≤ d ∧ d < c ∧ d * d < n ∧ y * d = n
  sq : ∀ d, 1 ≤ d → d < c → d * d ≤ n
theorem Half.start (n : Int) : Half n 1 [] [] := ⟨.nil, fun k => ⟨fun h => by simp at h, fun ⟨a, b, _⟩ => by omega⟩, .nil, fun y => ⟨fun h => by simp at h, fun ⟨d, a, b, _⟩ => by omega⟩, fun d a b => by omega⟩
theorem Half.skip {n c : Int} {low high : List Int} (h : Half n c low high) (hc : 1 ≤ c) (e : ¬ c ∣ n) (s : c * c ≤ n) : Half n (c + 1) low high := by
  refine ⟨h.up, fun k => ?_, h.down, fun y => ?_, fun d a b => ?_⟩
  · rw [h.mem]
    constructor
    · rintro ⟨a, b, d⟩
      exact ⟨a, by omega, d⟩
    · rintro ⟨a, b, d⟩
      refine ⟨a, ?_, d⟩
      have : k ≠ c := fun z => e (z ▸ d)
      omega
  · rw [h.part]
    constructor
    · rintro ⟨d, a, b, x, z⟩
      exact ⟨d, a, by omega, x, z⟩
    · rintro ⟨d, a, b, x, z⟩
      refine ⟨d, a, ?_, x, z⟩
      have : d ≠ c := fun w => e ⟨y, by rw [← w, Int.mul_comm]; exact z.symm⟩
      omega
  · by_cases z : d = c
    · rw [z]; exact s
    · exact h.sq d a (by omega)
theorem pw_append {R : Int → Int → Prop} {l : List Int} {x : Int} (h : l.Pairwise R) (k : ∀ y ∈ l, R y x) : (l ++ [x]).Pairwise R := by
  rw [List.pairwise_append]
  exact ⟨h, List.pairwise_singleton _ _, fun a ha b hb => by
    have e : b = x := by simpa using hb
    rw [e]
    exact k a ha⟩
theorem Half.low {n c : Int} {low high : List Int} (h : Half n c low high) (hc : 1 ≤ c) (e : c ∣ n) (s : c * c ≤ n) :
    (c * c < n → Half n (c + 1) (low ++ [c]) (high ++ [n / c])) ∧ (¬ c * c < n → Half n (c + 1) (low ++ [c]) high) := by
  have up : (low ++ [c]).Pairwise (· < ·) := pw_append h.up fun y hy => ((h.mem y).mp hy).2.1
  have mem : ∀ k, k ∈ low ++ [c] ↔ 1 ≤ k ∧ k < c + 1 ∧ k ∣ n := fun k => by
    rw [List.mem_append, h.mem, List.mem_singleton]
    constructor
    · rintro (⟨a, b, d⟩ | z)
      · exact ⟨a, by omega, d⟩
      · rw [z]
        exact ⟨hc, by omega, e⟩
    · rintro ⟨a, b, d⟩
      by_cases z : k = c
      · exact .inr z
      · exact .inl ⟨a, by omega, d⟩
  have sq : ∀ d, 1 ≤ d → d < c + 1 → d * d ≤ n := fun d a b => by
    by_cases z : d = c
    · rw [z]; exact s
    · exact h.sq d a (by omega)
  have ec : n / c * c = n := Int.ediv_mul_cancel e
  constructor
  · intro lt
    refine ⟨up, mem, pw_append h.down fun y hy => ?_, fun y => ?_, sq⟩
    · obtain ⟨d, a, b, x, z⟩ := (h.part y).mp hy
      show n / c < y
      apply Int.lt_of_not_ge
      intro w
      have p1 : y * d ≤ n / c * d := Int.mul_le_mul_of_nonneg_right w (by omega)
      have q0 : 0 < n / c := by
        apply Int.lt_of_not_ge
        intro v
        have : n / c * c ≤ 0 := Int.mul_nonpos_of_nonpos_of_nonneg v (by omega)
        have : 1 * 1 ≤ c * c := Int.mul_le_mul hc hc (by omega) (by omega)
        omega
      have p2 : n / c * d < n / c * c := Int.mul_lt_mul_of_pos_left b q0
      omega
    · rw [List.mem_append, h.part, List.mem_singleton]
      constructor
      · rintro (⟨d, a, b, x, z⟩ | w)
        · exact ⟨d, a, by omega, x, z⟩
        · rw [w]
          exact ⟨c, hc, by omega, lt, ec⟩
      · rintro ⟨d, a, b, x, z⟩
        by_cases w : d = c
        · right
          subst w
          have : y * d = n / d * d := by omega
          exact Int.eq_of_mul_eq_mul_right (by omega) this
        · exact .inl ⟨d, a, by omega, x, z⟩
  · intro nlt
    refine ⟨up, mem, h.down, fun y => ?_, sq⟩
    rw [h.part]
    constructor
    · rintro ⟨d, a, b, x, z⟩
      exact ⟨d, a, by omega, x, z⟩
    · rintro ⟨d, a, b, x, z⟩
      refine ⟨d, a, ?_, x, z⟩
      have : d ≠ c := fun w => nlt (w ▸ x)
      omega
theorem Half.done {n c : Int} {low high : List Int} (h : Half n c low high) (hn : 1 ≤ n) (hc : 1 ≤ c) (e : n < c * c) : IsDv n (low ++ high.reverse) := by
  constructor
  · rw [List.pairwise_append]
    refine ⟨h.up, ?_, fun x hx y hy => ?_⟩
    · rw [List.pairwise_reverse]
      exact h.down
    · obtain ⟨a, b, d⟩ := (h.mem x).mp hx
      obtain ⟨d', a', b', s', z'⟩ := (h.part y).mp (List.mem_reverse.mp hy)
      have sx := h.sq x a b
      -- y * y > n ≥ x * x
      have y0 : 0 < y := by
        apply Int.lt_of_not_ge
        intro v
        have : y * d' ≤ 0 := Int.mul_nonpos_of_nonpos_of_nonneg v (by omega)
        omega
      have yd : d' < y := by
        apply Int.lt_of_not_ge
        intro v
        have : y * d' ≤ d' * d' := Int.mul_le_mul_of_nonneg_right v (by omega)
        omega
      have : y * d' < y * y := Int.mul_lt_mul_of_pos_left yd y0
      exact sq_lt (by omega) (by omega) (by omega)
  · intro k
    rw [List.mem_append, List.mem_reverse, h.mem, h.part]
    constructor
    · rintro (⟨a, b, d⟩ | ⟨d, a, b, x, z⟩)
      · exact ⟨a, d⟩
      · refine ⟨?_, ⟨d, z.symm⟩⟩
        show 0 < k
        apply Int.lt_of_not_ge
        intro v
        have : k * d ≤ 0 := Int.mul_nonpos_of_nonpos_of_nonneg (by omega) (by omega)
        omega
    · rintro ⟨a, b⟩
      by_cases kc : k < c
      · exact .inl ⟨a, kc, b⟩
      · right
        obtain ⟨d, hd⟩ := b
        have d0 : 0 < d := by
          apply Int.lt_of_not_ge
          intro v
          have : k * d ≤ 0 := Int.mul_nonpos_of_nonneg_of_nonpos (by omega) v
          omega
        have dc : d < c := by
          apply Int.lt_of_not_ge
          intro v
          have : c * c ≤ k * d := Int.mul_le_mul (by omega) v (by omega) (by omega)
          omega
        have dk : d < k := by omega
        have : d * d < k * d := Int.mul_lt_mul_of_pos_right dk d0
        exact ⟨d, by omega, dc, by omega, hd.symm⟩
theorem half_len {m : Int} (hm : 1 ≤ m) (hm2 : m ≤ 1000000) : ∀ c : Nat, 1 ≤ c → (∃ (c' : Nat) (low high : List Int), 1 ≤ c' ∧ c' ≤ c ∧ m < (c' : Int) * c' ∧ Half m c' low high ∧ low.length + high.length + 2 ≤ 2 * c') ∨ (∃ low high : List Int, Half m c low high ∧ low.length + high.length + 2 ≤ 2 * c) := by
  intro c
  induction c with
  | zero => intro h; omega
  | succ c ih =>
    intro _
    by_cases c0 : c = 0
    · subst c0
      exact .inr ⟨[], [], Half.start m, by simp⟩
    · rcases ih (by omega) with ⟨c', low, high, a1, a2, a3, a4, a5⟩ | ⟨low, high, a4, a5⟩
      · exact .inl ⟨c', low, high, a1, by omega, a3, a4, a5⟩
      · by_cases z : m < (c : Int) * c
        · exact .inl ⟨c, low, high, by omega, by omega, z, a4, a5⟩
        · have e1 : (((c + 1 : Nat) : Int)) = (c : Int) + 1 := by omega
          by_cases dv : (c : Int) ∣ m
          · obtain ⟨b1, b2⟩ := a4.low (by omega) dv (by omega)
            by_cases lt : (c : Int) * c < m
            · refine .inr ⟨_, _, by rw [e1]; exact b1 lt, ?_⟩
              simp
              omega
            · refine .inr ⟨_, _, by rw [e1]; exact b2 lt, ?_⟩
              simp
              omega
          · refine .inr ⟨low, high, by rw [e1]; exact a4.skip (by omega) dv (by omega), by omega⟩
theorem IsDv.len {m : Int} {ds : List Int} (h : IsDv m ds) (hm : 1 ≤ m) (hm2 : m ≤ 1000000) : ds.length ≤ 2000 := by
  rcases half_len hm hm2 1001 (by decide) with ⟨c', low, high, a1, a2, a3, a4, a5⟩ | ⟨low, high, a4, a5⟩
  · have e := h.uniq (a4.done hm (by omega) a3)
    rw [e, List.length_append, List.length_reverse]
    omega
  · have big : m < ((1001 : Nat) : Int) * ((1001 : Nat) : Int) := by
      have e : ((1001 : Nat) : Int) * ((1001 : Nat) : Int) = 1002001 := by decide
      omega
    have e := h.uniq (a4.done hm (by omega) big)
    rw [e, List.length_append, List.length_reverse]
    omega
theorem dv_one : IsDv 1 [1] := by
  refine ⟨List.pairwise_singleton _ _, fun k => ?_⟩
  rw [List.mem_singleton]
  constructor
  · intro e
    rw [e]
    exact ⟨by decide, Int.dvd_refl _⟩
  · rintro ⟨a, b⟩
    exact Int.le_antisymm (Int.le_of_dvd (by decide) b) a
/-- d divides m * p, p a prime -/
theorem dv_prime {k m p : Int} (hk : 1 ≤ k) (hp : 2 ≤ p) (r : Rough p p) (h : k ∣ m * p) : k ∣ m ∨ ∃ e, k = e * p := by
  by_cases hpk : p ∣ k
  · obtain ⟨e, he⟩ := hpk
    exact .inr ⟨e, by rw [he, Int.mul_comm]⟩
  · left
    have hg : Nat.gcd k.natAbs p.natAbs = 1 := by
      have d1 := Nat.gcd_dvd_left k.natAbs p.natAbs
      have d2 := Nat.gcd_dvd_right k.natAbs p.natAbs
      generalize Nat.gcd k.natAbs p.natAbs = g at *
      have gp : (g : Int) ∣ p := by
        rw [← Int.natAbs_dvd_natAbs, Int.natAbs_natCast]
        exact d2
      have gk : (g : Int) ∣ k := by
        rw [← Int.natAbs_dvd_natAbs, Int.natAbs_natCast]
        exact d1
      have gle : (g : Int) ≤ p := Int.le_of_dvd (by omega) gp
      have g0 : g ≠ 0 := fun z => by
        rw [z] at gp
        have := Int.zero_dvd.mp gp
        omega
      by_cases g1 : g = 1
      · exact g1
      · exfalso
        by_cases gpe : (g : Int) = p
        · rw [gpe] at gk
          exact hpk gk
        · exact r g (by omega) (by omega) gp
    have h1 : k.natAbs ∣ m.natAbs * p.natAbs := by
      rw [← Int.natAbs_mul]
      exact Int.natAbs_dvd_natAbs.mpr h
    have h2 := Nat.Coprime.dvd_of_dvd_mul_right (show Nat.Coprime k.natAbs p.natAbs from hg) h1
    exact Int.natAbs_dvd_natAbs.mp h2
theorem dv_step {m p : Int} {found out : List Int} (h : IsDv m found) (hp : 2 ≤ p) (r : Rough p p) (hs : out.Pairwise (· < ·)) (hm : ∀ k, k ∈ out ↔ k ∈ found ++ found.map (· * p)) : IsDv (m * p) out := by
  refine ⟨hs, fun k => ?_⟩
  rw [hm, List.mem_append, List.mem_map, h.2]
  constructor
  · rintro (⟨a, b⟩ | ⟨x, hx, e⟩)
    · exact ⟨a, Int.dvd_trans b (Int.dvd_mul_right m p)⟩
    · obtain ⟨a, b⟩ := (h.2 x).mp hx
      rw [← e]
      refine ⟨?_, Int.mul_dvd_mul_right p b⟩
      have : 1 * 1 ≤ x * p := Int.mul_le_mul a (by omega) (by omega) (by omega)
      omega
  · rintro ⟨a, b⟩
    rcases dv_prime a hp r b with z | ⟨e, he⟩
    · exact .inl ⟨a, z⟩
    · right
      refine ⟨e, (h.2 e).mpr ⟨?_, ?_⟩, he.symm⟩
      · show 0 < e
        apply Int.lt_of_not_ge
        intro v
        have : e * p ≤ 0 := Int.mul_nonpos_of_nonpos_of_nonneg (by omega) (by omega)
        omega
      · rw [he] at b
        exact Int.dvd_of_mul_dvd_mul_right (by omega) b
/-! ### what stands in a list of primes; counts to 300 -/
theorem Fac.dvds {n : Int} {xs : List Int} (h : Fac n xs) : ∀ q ∈ xs, q ∣ n := by
  induction h with
  | one => intro q hq; simp at hq
  | cons h1 h2 h3 h4 h5 ih =>
    rename_i n p q ps
    intro x hx
    rcases List.mem_cons.mp hx with e | e
    · rw [e]
      exact ⟨q, h2⟩
    · exact Int.dvd_trans (ih x e) ⟨p, by rw [h2, Int.mul_comm]⟩
theorem Fac.mem_iff {n : Int} {xs : List Int} (h : Fac n xs) : ∀ k, k ∈ xs ↔ 2 ≤ k ∧ k ∣ n ∧ Rough k k := by
  intro k
  constructor
  · intro hk
    obtain ⟨a, b⟩ := h.primes k hk
    exact ⟨a, h.dvds k hk, b⟩
  · rintro ⟨k2, kn, kr⟩
    induction h with
    | one =>
      have := Int.le_of_dvd (by decide) kn
      omega
    | cons h1 h2 h3 h4 h5 ih =>
      rename_i n p q ps
      have pr : Rough p p := fun c c1 c2 c3 => h4 c c1 c2 (Int.dvd_trans c3 ⟨q, h2⟩)
      have kn' : k ∣ q * p := by
        rw [Int.mul_comm, ← h2]
        exact kn
      rcases dv_prime (by omega) h1 pr kn' with z | ⟨e, he⟩
      · exact List.mem_cons_of_mem _ (ih z)
      · have pk : p ∣ k := ⟨e, by rw [he, Int.mul_comm]⟩
        have ple := Int.le_of_dvd (by omega) pk
        have : ¬ p < k := fun z => kr p h1 z pk
        have : k = p := by omega
        rw [this]
        exact List.mem_cons_self
theorem fac_ex : ∀ n : Nat, 1 ≤ n → ∃ xs, Fac (n : Int) xs := by
  intro n
  induction n using Nat.strongRecOn with
  | ind n ih =>
    intro h1
    by_cases n1 : n = 1
    · subst n1
      exact ⟨[], .one⟩
    · -- the least divisor
      have ex : ∃ d : Nat, 2 ≤ d ∧ d ∣ n := ⟨n, by omega, Nat.dvd_refl n⟩
      obtain ⟨d, ⟨d2, dn⟩, least⟩ : ∃ d : Nat, (2 ≤ d ∧ d ∣ n) ∧ ∀ c, c < d → ¬ (2 ≤ c ∧ c ∣ n) := by
        obtain ⟨m, hm⟩ := ex
        revert hm
        induction m using Nat.strongRecOn with
        | ind m im =>
          intro hm
          by_cases hc : ∃ c, c < m ∧ 2 ≤ c ∧ c ∣ n
          · obtain ⟨c, c1, c2⟩ := hc
            exact im c c1 c2
          · exact ⟨m, hm, fun c c1 c2 => hc ⟨_, c1, c2⟩⟩
      obtain ⟨q, hq⟩ := dn
      have q1 : 1 ≤ q := by
        apply Nat.pos_of_ne_zero
        intro z
        rw [z] at hq
        omega
      have qn : q < n := by
        have : 2 * q ≤ d * q := Nat.mul_le_mul_right q d2
        omega
      obtain ⟨xs, hx⟩ := ih q qn q1
      refine ⟨(d : Int) :: xs, .cons (by omega) (by rw [hq, Int.natCast_mul]) (by omega) ?_ hx⟩
      intro e e2 ed en
      refine least e.toNat (by omega) ⟨by omega, ?_⟩
      rw [← Int.natCast_dvd_natCast, Int.toNat_of_nonneg (by omega)]
      exact en
theorem pf_ex {n : Int} (h1 : 1 ≤ n) : ∃ fs out, Fac n fs ∧ out.Pairwise (· < ·) ∧ (∀ k, k ∈ out ↔ k ∈ fs) ∧ IsPf n out := by
  obtain ⟨fs, hf⟩ := fac_ex n.toNat (by omega)
  rw [Int.toNat_of_nonneg (by omega)] at hf
  have hs : (((List.range' 2 n.toNat : List Nat).filter (fun (k : Nat) => decide ((k : Int) ∈ fs))).map Int.ofNat).Pairwise (· < ·) := by
    rw [List.pairwise_map]
    refine List.Pairwise.imp (R := fun a b : Nat => a < b) (fun {a b} h => ?_) ((List.pairwise_lt_range' (s := 2) (n := n.toNat) (step := 1)).sublist List.filter_sublist)
    show (a : Int) < (b : Int)
    omega
  have hm : ∀ k, k ∈ ((List.range' 2 n.toNat : List Nat).filter (fun (k : Nat) => decide ((k : Int) ∈ fs))).map Int.ofNat ↔ k ∈ fs := by
    intro k
    rw [List.mem_map]
    constructor
    · rintro ⟨j, hj, e⟩
      have := of_decide_eq_true (List.mem_filter.mp hj).2
      rw [← e]
      exact this
    · intro hk
      obtain ⟨k2, kd, _⟩ := (hf.mem_iff k).mp hk
      have kn := Int.le_of_dvd (by omega) kd
      have ek : ((k.toNat : Nat) : Int) = k := Int.toNat_of_nonneg (by omega)
      refine ⟨k.toNat, List.mem_filter.mpr ⟨List.mem_range'_1.mpr ⟨by omega, by omega⟩, decide_eq_true (by rw [ek]; exact hk)⟩, ek⟩
  exact ⟨fs, _, hf, hs, hm, hs, fun k => (hm k).trans (hf.mem_iff k)⟩
def shM : Nat → Int → Int → Bool
  | 0, _, _ => true
  | k + 1, x, y => if y = 0 then decide (1 < x) else shM k y (x % y)
abbrev s__law_shares : Stmt := top 10
abbrev N__law_shares : List Str := ["_law_one", "_law_two", "_law_turn"]
abbrev P__law_shares : List Str := ["_law_one", "_law_two"]
theorem sc__law_shares : FnScope N__law_shares P__law_shares (defScope s__law_shares) := ⟨rfl, rfl, rfl, by decide +kernel, rfl, by decide +kernel, by decide +kernel⟩
def spShM : Sp := fun vs H Q _ => ∃ (x y : Int), vs = [.int x, .int y] ∧ 0 ≤ x ∧ 0 ≤ y ∧ Q (.bl (shM 64 x y)) H
section
variable {P : Program} {w : World} {K : PySem.W.Frag} {mg : Str → Option Value} {base : Heap}
theorem ok_shm {f : Addr} {fd : FuncData} {k : Nat} (F : Fun K "_law_shares" "_law_shares" s__law_shares f fd) (T : Blt mg) : FnOk P w K mg base CX0 (k + 1) f fd P__law_shares spShM := by
  have nd := sc__law_shares.nd
  refine F.ok sc__law_shares (fun vs H Q E h => ?_) (fun cdv A outer s H vs Q E hr h => ?_)
  · obtain ⟨x, y, rfl, _⟩ := h
    rfl
  · obtain ⟨x, y, rfl, hx, hy, q⟩ := h
    refine ⟨_, (pss_cons (ps_for PassesOwn.never rfl (pi_range1 (by rfl) T.b_range (pa_cons (pe_int) pa_nil)) (pg_name (i := 2) nd rfl (Or.inl rfl))
      (pss_cons (ps_if (pt_cmpR op_eq (pv 1) (pe_int) (nomark _)) (pss_one (ps_ret (pe_cmpR op_gt (pv 0) (pe_int) (nomark _)))) pss_nil)
      (pss_one (ps_par (i := 0) (j := 1) (by rfl) nd rfl rfl (by decide) rfl rfl (pa_cons (pv 1) (pa_cons (pe_op op_mod (pv 0) (pv 1)) pa_nil)) (by rfl)))))
      (pss_one (ps_ret (pe_bl)))), ?_⟩
    walk_at "ev"
    refine for_range (lo := 0) (n := (64 : Int).toNat) (fun i σ H' => Hold (∃ (x' y' : Int) (s2 : Option V), σ = [some (.int x'), some (.int y'), s2] ∧ 0 ≤ x' ∧ 0 ≤ y' ∧ i ≤ 64 ∧ shM (64 - i) x' y' = shM 64 x y ∧ H' = H)) (.mk ⟨x, y, none, rfl, hx, hy, by omega, rfl, rfl⟩) ?_ ?_
    · intro i σ H' hi hP
      obtain ⟨x', y', s2, rfl, hx', hy', h64, inv, rfl⟩ := hP.un
      have hi64 : i < 64 := hi
      have e64 : 64 - i = (64 - (i + 1)) + 1 := by omega
      have est : shM (64 - i) x' y' = if y' = 0 then decide (1 < x') else shM (64 - (i + 1)) y' (x' % y') := by
        rw [e64]
        rfl
      rw [est] at inv
      walk_at "ev"
      refine ite2 (fun e => ?_) (fun e => ?_)
      · have e1 : y' = 0 := V.int.inj (of_decide_eq_true e)
        rw [if_pos e1] at inv
        walk_at "ev"
        rw [← inv] at q
        exact q
      · have e1 : y' ≠ 0 := fun z => e (decide_eq_true (congrArg V.int z))
        rw [if_neg e1] at inv
        walk_at "ev"
        exact .mk ⟨_, _, _, rfl, hy', Int.emod_nonneg _ e1, by omega, inv, rfl⟩
    · intro σ H' hP
      obtain ⟨x', y', s2, rfl, hx', hy', h64, inv, rfl⟩ := hP.un
      walk_at "ev"
      have e0 : shM (64 - (64 : Int).toNat) x' y' = true := rfl
      rw [e0] at inv
      rw [← inv] at q
      exact q
end
def prN (k : Nat) : Bool := (List.range' 2 (k - 2)).all fun d => decide (k % d ≠ 0)
def outC (s : Nat) : List Int := ((List.range' 2 (s - 1)).filter fun k => decide (s % k = 0) && prN k).map Int.ofNat
def cnt (s : Nat) : Nat := ((List.range' 1 s : List Nat).filter (fun (j : Nat) => !shM 64 (j : Int) (s : Int))).length
theorem cnt_ok : (List.range' 1 300).all (fun s => decide (totF (s : Int) (outC s) = (cnt s : Int))) = true := by decide +kernel
theorem outC_pf {s : Nat} (h1 : 1 ≤ s) : IsPf (s : Int) (outC s) := by
  unfold outC
  constructor
  · rw [List.pairwise_map]
    refine List.Pairwise.imp (R := fun a b : Nat => a < b) (fun {a b} h => ?_) ((List.pairwise_lt_range' (s := 2) (n := s - 1) (step := 1)).sublist List.filter_sublist)
    show (a : Int) < (b : Int)
    omega
  · intro k
    rw [List.mem_map]
    constructor
    · rintro ⟨j, hj, e⟩
      obtain ⟨a, b⟩ := List.mem_filter.mp hj
      have a' := List.mem_range'_1.mp a
      rw [Bool.and_eq_true, decide_eq_true_iff] at b
      have ek : k = (j : Int) := e.symm
      rw [ek]
      refine ⟨by omega, Int.natCast_dvd_natCast.mpr (Nat.dvd_of_mod_eq_zero b.1), fun c c2 cj cd => ?_⟩
      have hp := b.2
      unfold prN at hp
      rw [List.all_eq_true] at hp
      have := of_decide_eq_true (hp c.toNat (List.mem_range'_1.mpr ⟨by omega, by omega⟩))
      apply this
      refine Nat.mod_eq_zero_of_dvd ?_
      rw [← Int.natCast_dvd_natCast, Int.toNat_of_nonneg (by omega)]
      exact cd
    · rintro ⟨k2, kd, kr⟩
      have kn := Int.le_of_dvd (by omega) kd
      have ek : ((k.toNat : Nat) : Int) = k := Int.toNat_of_nonneg (by omega)
      refine ⟨k.toNat, List.mem_filter.mpr ⟨List.mem_range'_1.mpr ⟨by omega, by omega⟩, ?_⟩, ek⟩
      rw [Bool.and_eq_true, decide_eq_true_iff]
      constructor
      · refine Nat.mod_eq_zero_of_dvd ?_
        rw [← Int.natCast_dvd_natCast, ek]
        exact kd
      · unfold prN
        rw [List.all_eq_true]
        intro d hd
        have hd' := List.mem_range'_1.mp hd
        refine decide_eq_true fun z => ?_
        refine kr (d : Int) (by omega) (by omega) ?_
        rw [← ek]
        exact Int.natCast_dvd_natCast.mpr (Nat.dvd_of_mod_eq_zero z)
/-! ### each prime has a generator: looked up by the kernel -/
def pm (m : Nat) : Nat → Nat → Nat → Nat
  | 0, _, _ => 1 % m
  | k + 1, b, e => if e % 2 = 1 then b * pm m k (b * b % m) (e / 2) % m else pm m k (b * b % m) (e / 2)
theorem npow_mod (a m : Nat) (k : Nat) : (a % m) ^ k % m = a ^ k % m := (Nat.pow_mod a k m).symm
theorem npow_sq (b k : Nat) : (b * b) ^ k = b ^ (2 * k) := by
  rw [Nat.pow_mul, Nat.pow_two]
theorem pm_eq (m : Nat) : ∀ k b e : Nat, e < 2 ^ k → pm m k b e = b ^ e % m
  | 0, b, e, h => by
    have : e = 0 := by
      have : (2 : Nat) ^ 0 = 1 := rfl
      omega
    subst this
    show 1 % m = b ^ 0 % m
    rw [Nat.pow_zero]
  | k + 1, b, e, h => by
    have he : e / 2 < 2 ^ k := by
      rw [Nat.pow_succ] at h
      omega
    have ih := pm_eq m k (b * b % m) (e / 2) he
    show (if e % 2 = 1 then b * pm m k (b * b % m) (e / 2) % m else pm m k (b * b % m) (e / 2)) = _
    rw [ih, npow_mod, npow_sq]
    split
    · rename_i o
      have e2 : e = 2 * (e / 2) + 1 := by omega
      conv => rhs; rw [e2, Nat.pow_succ, Nat.mul_comm (b ^ _) b, Nat.mul_mod]
      rw [Nat.mul_mod, Nat.mod_mod]
    · have e2 : e = 2 * (e / 2) := by omega
      conv => rhs; rw [e2]
def okG (p g d : Nat) : Bool := if (p - 1) % d = 0 then (pm p 20 g ((p - 1) / d) != 1) && (decide (d = p - 1) || (pm p 20 g d != 1)) else true
def okAll (p g s : Nat) : Bool := decide (2 ≤ g) && (decide (g < p) && (List.range' 2 (s - 1)).all (okG p g))
def fnd (p s : Nat) : Nat → Nat → Nat
  | 0, g => g
  | k + 1, g => if okAll p g s = true then g else fnd p s k (g + 1)
def isPr (p : Nat) : Bool := (List.range' 2 99).all fun d => decide (p < d * d) || decide (p % d ≠ 0)
def chk (p : Nat) : Bool := !isPr p || okAll p (fnd p 100 60 2) 100
theorem chk1 : (List.range' 3 2498).all chk = true := by decide +kernel
theorem chk2 : (List.range' 2501 2500).all chk = true := by decide +kernel
theorem chk3 : (List.range' 5001 2500).all chk = true := by decide +kernel
theorem chk4 : (List.range' 7501 2500).all chk = true := by decide +kernel
theorem far1 : okAll 10007 (fnd 10007 101 60 2) 101 = true := by decide +kernel
theorem far2 : okAll 40961 (fnd 40961 203 60 2) 203 = true := by decide +kernel
theorem far3 : okAll 65537 (fnd 65537 257 60 2) 257 = true := by decide +kernel
theorem far4 : okAll 786433 (fnd 786433 888 60 2) 888 = true := by decide +kernel
theorem far5 : okAll 999983 (fnd 999983 1000 60 2) 1000 = true := by decide +kernel
theorem okG_at {p g s : Nat} (h : okAll p g s = true) {d : Nat} (d2 : 2 ≤ d) (ds : d ≤ s) (hd : d ∣ p - 1) (hp : p ≤ 1048576) (hp3 : 3 ≤ p) : ¬ g ^ ((p - 1) / d) % p = 1 ∧ (d ≠ p - 1 → ¬ g ^ d % p = 1) := by
  unfold okAll at h
  simp only [Bool.and_eq_true, decide_eq_true_eq, List.all_eq_true] at h
  have h1 := h.2.2 d (List.mem_range'_1.mpr ⟨d2, by omega⟩)
  unfold okG at h1
  rw [if_pos (Nat.mod_eq_zero_of_dvd hd)] at h1
  have e20 : (2 : Nat) ^ 20 = 1048576 := by decide
  have dle : d ≤ p - 1 := Nat.le_of_dvd (by omega) hd
  have qle : (p - 1) / d ≤ p - 1 := Nat.div_le_self _ _
  rw [pm_eq p 20 g _ (by omega), pm_eq p 20 g _ (by omega)] at h1
  simp only [Bool.and_eq_true, Bool.or_eq_true, decide_eq_true_eq, bne_iff_ne, ne_eq] at h1
  exact ⟨h1.1, fun z => h1.2.resolve_left z⟩
/-- what was looked up is enough -/
theorem gen_of {p g s : Nat} (h : okAll p g s = true) (hp : p ≤ 1048576) (hp3 : 3 ≤ p) (hs : p ≤ (s + 1) * (s + 1)) {out : List Int} (ho : ∀ k ∈ out, 2 ≤ k ∧ k ∣ (p : Int) - 1) : 1 ≤ (g : Int) ∧ (g : Int) < p ∧ GenOk p g (erl p out) := by
  have h0 := h
  unfold okAll at h0
  simp only [Bool.and_eq_true, decide_eq_true_eq] at h0
  refine ⟨by omega, by omega, ?_⟩
  intro e he z
  obtain ⟨f, hf, ef⟩ := List.mem_map.mp he
  obtain ⟨f2, fd⟩ := ho f hf
  -- all in naturals
  have ep : ((p - 1 : Nat) : Int) = (p : Int) - 1 := by omega
  have fN : ((f.toNat : Nat) : Int) = f := Int.toNat_of_nonneg (by omega)
  have fdN : f.toNat ∣ p - 1 := by
    rw [← Int.natCast_dvd_natCast, fN, ep]
    exact fd
  have eN : e.toNat = (p - 1) / f.toNat := by
    rw [← ef]
    have : ((p : Int) - 1) / f = (((p - 1) / f.toNat : Nat) : Int) := by
      rw [Int.natCast_ediv, ep, fN]
    rw [this]
    rfl
  have zN : g ^ e.toNat % p = 1 := by
    have : ((g ^ e.toNat % p : Nat) : Int) = 1 := by
      rw [Int.natCast_emod, Int.natCast_pow]
      exact z
    omega
  rw [eN] at zN
  by_cases fs : f.toNat ≤ s
  · exact (okG_at h (by omega) fs fdN hp hp3).1 zN
  · -- the partner is small
    have hq : (p - 1) / f.toNat * f.toNat = p - 1 := Nat.div_mul_cancel fdN
    have hqs : (p - 1) / f.toNat ≤ s := by
      apply Nat.le_of_not_gt
      intro v
      have : (s + 1) * (s + 1) ≤ (p - 1) / f.toNat * f.toNat := Nat.mul_le_mul v (by omega)
      omega
    have hq0 : (p - 1) / f.toNat ≠ 0 := fun v => by
      rw [v] at hq
      omega
    by_cases q1 : (p - 1) / f.toNat = 1
    · rw [q1, Nat.pow_one, Nat.mod_eq_of_lt h0.2.1] at zN
      omega
    · refine (okG_at h (d := (p - 1) / f.toNat) (by omega) hqs ⟨f.toNat, hq.symm⟩ hp hp3).2 ?_ zN
      intro v
      have : (p - 1) / f.toNat * 2 ≤ (p - 1) / f.toNat * f.toNat := Nat.mul_le_mul_left _ (by omega)
      omega
theorem isPr_of {p : Nat} (hp : p ≤ 10000) (h : ∀ d, 2 ≤ d → d * d ≤ p → ¬ d ∣ p) : isPr p = true := by
  unfold isPr
  rw [List.all_eq_true]
  intro d hd
  have h1 := List.mem_range'_1.mp hd
  rw [Bool.or_eq_true, decide_eq_true_iff, decide_eq_true_iff]
  by_cases z : p < d * d
  · exact .inl z
  · exact .inr fun e => h d h1.1 (by omega) (Nat.dvd_of_mod_eq_zero e)
theorem gen_small {p : Nat} (h3 : 3 ≤ p) (hp : p ≤ 10000) (h : ∀ d, 2 ≤ d → d * d ≤ p → ¬ d ∣ p) {out : List Int} (ho : ∀ k ∈ out, 2 ≤ k ∧ k ∣ (p : Int) - 1) : ∃ g0 : Int, 1 ≤ g0 ∧ g0 < p ∧ GenOk p g0 (erl p out) := by
  have hc : chk p = true := by
    by_cases a : p ≤ 2500
    · exact (List.all_eq_true.mp chk1) p (List.mem_range'_1.mpr ⟨h3, by omega⟩)
    · by_cases b : p ≤ 5000
      · exact (List.all_eq_true.mp chk2) p (List.mem_range'_1.mpr ⟨by omega, by omega⟩)
      · by_cases c : p ≤ 7500
        · exact (List.all_eq_true.mp chk3) p (List.mem_range'_1.mpr ⟨by omega, by omega⟩)
        · exact (List.all_eq_true.mp chk4) p (List.mem_range'_1.mpr ⟨by omega, by omega⟩)
  unfold chk at hc
  rw [isPr_of hp h] at hc
  have hk : okAll p (fnd p 100 60 2) 100 = true := by simpa using hc
  obtain ⟨a, b, c⟩ := gen_of hk (by omega) h3 (by omega) ho
  exact ⟨_, a, b, c⟩
/-! ### the primes that are drawn -/
def GenAt (p : Int) : Prop := 2 ≤ p ∧ p ≤ 1000000 ∧ ∃ (fs out : List Int) (g0 : Int), Fac (p - 1) fs ∧ out.Pairwise (· < ·) ∧ (∀ k, k ∈ out ↔ k ∈ fs) ∧ IsPf (p - 1) out ∧ 1 ≤ g0 ∧ g0 < p ∧ GenOk p g0 (erl p out)
theorem gen_two : GenAt 2 := by
  refine ⟨by decide, by decide, [], [], 1, .one, .nil, fun k => Iff.rfl, ⟨.nil, fun k => ⟨fun h => by simp at h, fun ⟨a, b, _⟩ => ?_⟩⟩, by decide, by decide, fun e he => by simp [erl] at he⟩
  have := Int.le_of_dvd (by decide) b
  omega
theorem gen_odd {p : Nat} (h3 : 3 ≤ p) (hp : p ≤ 1000000) (h : ∀ out : List Int, (∀ k ∈ out, 2 ≤ k ∧ k ∣ (p : Int) - 1) → ∃ g0 : Int, 1 ≤ g0 ∧ g0 < p ∧ GenOk p g0 (erl p out)) : GenAt (p : Int) := by
  obtain ⟨fs, out, a, b, c, d⟩ := pf_ex (n := (p : Int) - 1) (by omega)
  obtain ⟨g0, e, f, g⟩ := h out fun k hk => by
    obtain ⟨u, v, _⟩ := (d.2 k).mp hk
    exact ⟨u, v⟩
  exact ⟨by omega, by omega, fs, out, g0, a, b, c, d, e, f, g⟩
theorem gen_prs {x : Int} (h : x ∈ prs 10000) : GenAt x := by
  obtain ⟨j, ej, j1, j2, j3⟩ := mem_prs.mp h
  rw [ej]
  by_cases j2' : j = 2
  · rw [j2']
    exact gen_two
  · refine gen_odd (by omega) (by omega) fun out ho => gen_small (by omega) (by omega) ?_ ho
    intro d d2 dd
    have : d * 2 ≤ d * d := Nat.mul_le_mul_left d d2
    exact pk_iff.mp j3 d d2 (by omega) dd
theorem gen_far {x : Int} (h : x ∈ ([10007, 40961, 65537, 786433, 999983] : List Int)) : GenAt x := by
  simp only [List.mem_cons, List.not_mem_nil, or_false] at h
  rcases h with h | h | h | h | h <;> rw [h]
  · exact gen_odd (p := 10007) (by decide) (by decide) fun out ho => ⟨_, gen_of far1 (by decide) (by decide) (by decide) ho⟩
  · exact gen_odd (p := 40961) (by decide) (by decide) fun out ho => ⟨_, gen_of far2 (by decide) (by decide) (by decide) ho⟩
  · exact gen_odd (p := 65537) (by decide) (by decide) fun out ho => ⟨_, gen_of far3 (by decide) (by decide) (by decide) ho⟩
  · exact gen_odd (p := 786433) (by decide) (by decide) fun out ho => ⟨_, gen_of far4 (by decide) (by decide) (by decide) ho⟩
  · exact gen_odd (p := 999983) (by decide) (by decide) fun out ho => ⟨_, gen_of far5 (by decide) (by decide) (by decide) ho⟩
theorem gen_9973 : GenAt 9973 := gen_prs (mem_prs.mpr ⟨9973, rfl, by decide, by decide, by decide +kernel⟩)
theorem gen_7681 : GenAt 7681 := gen_prs (mem_prs.mpr ⟨7681, rfl, by decide, by decide, by decide +kernel⟩)
theorem prs_pos {top : Nat} (h : 4 ≤ top) : 0 < (prs top).length := by
  have : (2 : Int) ∈ prs top := mem_prs.mpr ⟨2, rfl, by omega, by omega, pk_iff.mpr fun d h1 h2 h3 => by
    have : 2 * 2 ≤ d * d := Nat.mul_le_mul h1 h1
    omega⟩
  exact List.length_pos_of_mem this
theorem cut12 {xs : List V} (h : 0 < xs.length) : 0 < (cutV xs none (some 12)).length ∧ ∀ v ∈ cutV xs none (some 12), v ∈ xs := by
  have e : cutV xs none (some 12) = xs.take (min 12 xs.length) := rfl
  rw [e]
  refine ⟨?_, fun v hv => List.mem_of_mem_take hv⟩
  rw [List.length_take]
  omega
abbrev s__law_small_prime : Stmt := top 17
abbrev N__law_small_prime : List Str := ["_law_box_here", "_law_primes", "_law_some"]
abbrev P__law_small_prime : List Str := ["_law_box_here", "_law_primes"]
theorem sc__law_small_prime : FnScope N__law_small_prime P__law_small_prime (defScope s__law_small_prime) := ⟨rfl, rfl, rfl, by decide +kernel, rfl, by decide +kernel, by decide +kernel⟩
def spSP (K : PySem.W.Frag) : Sp := fun vs H Q _ => ∃ (b a : Addr) (n : Int), vs = [.ref b, .ref a] ∧ BoxAt H b n ∧ n < 1000000 ∧ SqL K H a ((prs 10000).map V.int) ∧ a ≠ b ∧ ∀ r H', GenAt r → Keep b H H' → BoxAt H' b (n + 4) → Q (.int r) H'
section
variable {P : Program} {w : World} {K : PySem.W.Frag} {mg : Str → Option Value} {base : Heap}
theorem ok_small {f fT fP : Addr} {fd fdT fdP : FuncData} {k : Nat} (F : Fun K "_law_small_prime" "_law_small_prime" s__law_small_prime f fd) (T : Blt mg) (D__law_take : Df K mg "_law_take" s__law_take P__law_take fT fdT) (D__law_pick : Df K mg "_law_pick" s__law_pick P__law_pick fP fdP) : FnOk P w K mg base CX0 (k + 3) f fd P__law_small_prime (spSP K) := by
  have G__law_pick : FnOk P w K mg base CX0 (k + 2) fP fdP P__law_pick (spPick K) := ok_pick D__law_pick.F T D__law_take
  have nd := sc__law_small_prime.nd
  refine F.ok sc__law_small_prime (fun vs H Q E h => ?_) (fun cdv A outer s H vs Q E hr h => ?_)
  · obtain ⟨b, a, n, rfl, _⟩ := h
    rfl
  · obtain ⟨b, a, n, rfl, hb, hn, hL, hne, q⟩ := h
    refine ⟨_, (pss_cons (ps_set (i := 2) nd rfl (Or.inl rfl) (pe_lst (pa_cons (pe_call G__law_pick (hr.mono (by omega)) (by rfl) D__law_pick.g D__law_pick.F.kp D__law_pick.b .nil pass0 (pa_cons (pv 0) (pa_cons (pe_slice (r := rSlL K) sl_list (pv 1) po_none (po_some (pe_int))) pa_nil))) (pa_cons (pe_call G__law_pick (hr.mono (by omega)) (by rfl) D__law_pick.g D__law_pick.F.kp D__law_pick.b .nil pass0 (pa_cons (pv 0) (pa_cons (pv 1) pa_nil))) (pa_cons (pe_call G__law_pick (hr.mono (by omega)) (by rfl) D__law_pick.g D__law_pick.F.kp D__law_pick.b .nil pass0 (pa_cons (pv 0) (pa_cons (pv 1) pa_nil))) (pa_cons (pe_int) (pa_cons (pe_int) (pa_cons (pe_int) pa_nil))))))))
      (pss_one (ps_ret (pe_call G__law_pick (hr.mono (by omega)) (by rfl) D__law_pick.g D__law_pick.F.kp D__law_pick.b .nil pass0 (pa_cons (pv 0) (pa_cons (pv 2) pa_nil)))))), ?_⟩
    have hlp : 0 < ((prs 10000).map V.int).length := by
      rw [List.length_map]
      exact prs_pos (by decide)
    have hlt : (((prs 10000).map V.int).length : Int) < 1048576 := by
      rw [List.length_map]
      have := prs_len 10000
      omega
    have hlp' : 0 < (((prs 10000).map V.int).length : Int) := by omega
    obtain ⟨cp, cm⟩ := cut12 hlp
    have hcl := cutV_length ((prs 10000).map V.int) none (some 12)
    have hal : ∀ v ∈ (prs 10000).map V.int, ∃ c, v = .int c ∧ GenAt c := fun v hv => by
      obtain ⟨c, hc, e⟩ := int_mem hv
      exact ⟨c, e, gen_prs hc⟩
    generalize ((prs 10000).map V.int) = ps at *
    walk_at "ev"
    intro p hp
    generalize hG : upd _ p _ = H1
    obtain ⟨sm1, hp1⟩ := newO hG hp
    have np := hb.ne hp
    have b1 := hb.same sm1
    have hL1 : SqL K H1 p _ := SqL.of hp1
    have hLa := sm1.seq hL
    have c0 : 0 < ((cutV ps none (some 12)).length : Int) := by omega
    have c1 : ((cutV ps none (some 12)).length : Int) < 1048576 := by omega
    generalize cutV ps none (some 12) = cs at *
    clear hG
    walk_at "ev"
    intro v2 H2 hv2 k2 b2
    have hL2 := k2.seq hne hLa
    walk_at "ev"
    intro v3 H3 hv3 k3 b3
    have hL3 := k3.seq hne hL2
    walk_at "ev"
    intro v4 H4 hv4 k4 b4
    walk_at "ev"
    intro p5 hp5
    generalize hG : upd _ p5 _ = H5
    obtain ⟨sm5, hq5⟩ := newO hG hp5
    have n5 := b4.ne hp5
    have b5 := b4.same sm5
    have hL5 := SqL.of (K := K) hq5
    walk_at "ev"
    intro v H6 hv k6 b6
    have kk : Keep b H H6 := (keepS sm1).trans (k2.trans (k3.trans (k4.trans ((keepS sm5).trans k6))))
    have fin : ∃ c, v = .int c ∧ GenAt c := by
      simp only [List.mem_cons, List.not_mem_nil, or_false] at hv
      rcases hv with h | h | h | h | h | h <;> rw [h]
      · exact hal _ (cm _ hv2)
      · exact hal _ hv3
      · exact hal _ hv4
      · exact ⟨_, rfl, gen_9973⟩
      · exact ⟨_, rfl, gen_two⟩
      · exact ⟨_, rfl, gen_7681⟩
    obtain ⟨c, rfl, hc⟩ := fin
    exact q _ _ hc kk (b6.mono (by omega))
end
theorem fit_ii {a b : Int} : Fit 1 (.list [.int a, .int b]) := by
  refine ⟨by simp, fun e he => ?_⟩
  simp only [List.mem_cons, List.not_mem_nil, or_false] at he
  rcases he with h | h <;> rw [h] <;> exact True.intro
def cntL (s : Int) (i : Nat) : List Int := ((List.range' 1 i : List Nat).filter (fun (j : Nat) => !shM 64 (j : Int) s)).map Int.ofNat
theorem cntL_succ (s : Int) (i : Nat) : cntL s (i + 1) = cntL s i ++ (if shM 64 (1 + (i : Int)) s = true then [] else [1 + (i : Int)]) := by
  unfold cntL
  rw [List.range'_concat, List.filter_append, List.map_append]
  congr 1
  have e1 : ((1 + 1 * i : Nat) : Int) = 1 + (i : Int) := by omega
  simp only [List.filter_cons, List.filter_nil, e1]
  cases shM 64 (1 + (i : Int)) s with
  | true => rfl
  | false =>
    show [((1 + 1 * i : Nat) : Int)] = [1 + (i : Int)]
    rw [e1]
theorem cntL_len {s : Int} (h1 : 1 ≤ s) (h2 : s ≤ 300) {out : List Int} (ho : IsPf s out) : totF s out = ((cntL s s.toNat).length : Int) := by
  have es : ((s.toNat : Nat) : Int) = s := Int.toNat_of_nonneg (by omega)
  have hk := (List.all_eq_true.mp cnt_ok) s.toNat (List.mem_range'_1.mpr ⟨by omega, by omega⟩)
  have hk := of_decide_eq_true hk
  have eo : out = outC s.toNat := by
    have hc := outC_pf (s := s.toNat) (by omega)
    rw [es] at hc
    exact srt_ext ho.1 hc.1 fun k => (ho.2 k).trans (hc.2 k).symm
  rw [es] at hk
  rw [eo, hk]
  unfold cnt cntL
  rw [List.length_map, es]
def lgc (p g : Nat) : Bool := (erl p (outC (p - 1))).all (fun e => decide (¬ (g : Int) ^ e.toNat % (p : Int) = 1)) && (List.range' 1 (g - 1)).all (fun x => (erl p (outC (p - 1))).any (fun e => decide ((x : Int) ^ e.toNat % (p : Int) = 1)))
theorem lg_uniq {p g : Nat} (p2 : 2 ≤ p) (g1 : 1 ≤ g) (h : lgc p g = true) {out : List Int} {x : Int} (ho : IsPf ((p : Int) - 1) out) (hx : LeastGen p x (erl p out)) : x = g := by
  have eo : out = outC (p - 1) := by
    have hc := outC_pf (s := p - 1) (by omega)
    have e1 : ((p - 1 : Nat) : Int) = (p : Int) - 1 := by omega
    rw [e1] at hc
    exact srt_ext ho.1 hc.1 fun k => (ho.2 k).trans (hc.2 k).symm
  subst eo
  unfold lgc at h
  rw [Bool.and_eq_true, List.all_eq_true, List.all_eq_true] at h
  obtain ⟨x1, xp, xok, xl⟩ := hx
  have gok : GenOk p g (erl p (outC (p - 1))) := fun e he => of_decide_eq_true (h.1 e he)
  rcases Int.lt_trichotomy x g with z | z | z
  · exfalso
    have := h.2 x.toNat (List.mem_range'_1.mpr ⟨by omega, by omega⟩)
    obtain ⟨e, he, hz⟩ := List.any_eq_true.mp this
    have hz := of_decide_eq_true hz
    rw [Int.toNat_of_nonneg (by omega)] at hz
    exact xok e he hz
  · exact z
  · exact absurd gok (xl g (by omega) z)
def gIn : List Int := [2, 3, 5, 7, 23, 41, 97]
def gOut : List Int := [1, 2, 2, 3, 5, 6, 5]
theorem gen_known : ∀ (i : Nat) (p : Int), gIn[i]? = some p → ∃ g, gOut[i]? = some g ∧ GenAt p ∧ ∀ out x, IsPf (p - 1) out → LeastGen p x (erl p out) → x = g
  | 0, p, h => by cases h; exact ⟨_, rfl, gen_two, fun out x a b => lg_uniq (p := 2) (g := 1) (by decide) (by decide) (by decide +kernel) a b⟩
  | 1, p, h => by cases h; exact ⟨_, rfl, gen_prs (mem_prs.mpr ⟨3, rfl, by decide, by decide, by decide +kernel⟩), fun out x a b => lg_uniq (p := 3) (g := 2) (by decide) (by decide) (by decide +kernel) a b⟩
  | 2, p, h => by cases h; exact ⟨_, rfl, gen_prs (mem_prs.mpr ⟨5, rfl, by decide, by decide, by decide +kernel⟩), fun out x a b => lg_uniq (p := 5) (g := 2) (by decide) (by decide) (by decide +kernel) a b⟩
  | 3, p, h => by cases h; exact ⟨_, rfl, gen_prs (mem_prs.mpr ⟨7, rfl, by decide, by decide, by decide +kernel⟩), fun out x a b => lg_uniq (p := 7) (g := 3) (by decide) (by decide) (by decide +kernel) a b⟩
  | 4, p, h => by cases h; exact ⟨_, rfl, gen_prs (mem_prs.mpr ⟨23, rfl, by decide, by decide, by decide +kernel⟩), fun out x a b => lg_uniq (p := 23) (g := 5) (by decide) (by decide) (by decide +kernel) a b⟩
  | 5, p, h => by cases h; exact ⟨_, rfl, gen_prs (mem_prs.mpr ⟨41, rfl, by decide, by decide, by decide +kernel⟩), fun out x a b => lg_uniq (p := 41) (g := 6) (by decide) (by decide) (by decide +kernel) a b⟩
  | 6, p, h => by cases h; exact ⟨_, rfl, gen_prs (mem_prs.mpr ⟨97, rfl, by decide, by decide, by decide +kernel⟩), fun out x a b => lg_uniq (p := 97) (g := 5) (by decide) (by decide) (by decide +kernel) a b⟩
  | n + 7, p, h => by simp [gIn] at h
theorem LeastGen.uniq {p x y : Int} {es : List Int} (a : LeastGen p x es) (b : LeastGen p y es) : x = y := by
  obtain ⟨a1, a2, a3, a4⟩ := a
  obtain ⟨b1, b2, b3, b4⟩ := b
  rcases Int.lt_trichotomy x y with z | z | z
  · exact absurd a3 (b4 x a1 z)
  · exact z
  · exact absurd b3 (a4 y b1 z)
theorem ned_nil {K : PySem.W.Frag} {H : Hp} {a b : Addr} {Q : VK} (ha : SqL K H a []) (hb : SqL K H b []) (q : Q (.bl false) H) : rNeD K (.ref a) (.ref b) H Q := ⟨_, _, .lst ha .nil, .lst hb .nil, PySem.W.ke_shaped_ints [], PySem.W.ke_shaped_ints [], by
  have e : PyData.eqv (.list []) (.list []) = true := by
    rw [PyData.eqv]
    exact eqv_ints [] []
  rw [e]
  exact q⟩
theorem ite_pred {c : Bool} {f g : VK → Prop} {k : VK} (R : V → Hp → Prop) (h : ∀ k : VK, (∀ v H, R v H → k v H) → if c = true then f k else g k) (hk : ∀ v H, R v H → k v H) : if c = true then f k else g k := h k hk
abbrev s_law : Stmt := top 21
abbrev N_law : List Str := ["_law_script", "_law_primes", "_law_wide", "_law_k", "_law_box_here", "_law_turn", "_law_number_here", "_law_due", "_law_small", "_law_count", "_law_far", "_law_prime", "_law_found", "_law_parts", "_law_lesser", "_law_one"]
abbrev P_law : List Str := ["_law_script"]
theorem sc_law : FnScope N_law P_law (defScope s_law) := ⟨rfl, rfl, rfl, by decide +kernel, rfl, by decide +kernel, by decide +kernel⟩
def spLaw (K : PySem.W.Frag) : Sp := fun vs H Q _ => ∃ (a : Addr) (ns : List Int), vs = [.ref a] ∧ SqL K H a (ns.map V.int) ∧ ns.length ≤ 63 ∧ ∀ H', Q (.bl true) H'
structure Fns (P : Program) (w : World) (K : PySem.W.Frag) (mg : Str → Option Value) (base : Heap) : Prop where
  box : ∃ f fd, Df K mg "_law_box" s__law_box P__law_box f fd
  take : ∃ f fd, Df K mg "_law_take" s__law_take P__law_take f fd
  pick : ∃ f fd, Df K mg "_law_pick" s__law_pick P__law_pick f fd
  same : ∃ f fd, Df K mg "_law_same" s__law_same P__law_same f fd
  shares : ∃ f fd, Df K mg "_law_shares" s__law_shares P__law_shares f fd
  prm : ∃ f fd, Df K mg "_law_is_plain_prime" s__law_is_plain_prime P__law_is_plain_prime f fd
  least : ∃ f fd, Df K mg "_law_least_generator" s__law_least_generator P__law_least_generator f fd
  number : ∃ f fd, Df K mg "_law_number" s__law_number P__law_number f fd
  sieve : ∃ f fd, Df K mg "_law_sieve" s__law_sieve P__law_sieve f fd
  parts : ∃ f fd, Df K mg "_law_parts_of" s__law_parts_of P__law_parts_of f fd
  pow : ∃ f fd, Df K mg "_law_pow" s__law_pow P__law_pow f fd
  small : ∃ f fd, Df K mg "_law_small_prime" s__law_small_prime P__law_small_prime f fd
  raised : ∃ f fd, Df K mg "_law_raised" s__law_raised P__law_raised f fd
  isgen : ∃ f fd, Df K mg "_law_is_generator" s__law_is_generator P__law_is_generator f fd
  tot : ∃ f fd, Df K mg "_law_totient" s__law_totient P__law_totient f fd
  factors : ∃ f fd, Df K mg "factors" s_factors P_factors f fd
  totient : ∃ f fd, Df K mg "totient" s_totient P_totient f fd
  power : ∃ f fd, Df K mg "power_rest" s_power_rest P_power_rest f fd
  generator : ∃ f fd, Df K mg "generator" s_generator P_generator f fd
section
variable {P : Program} {w : World} {K : PySem.W.Frag} {mg : Str → Option Value} {base : Heap}
theorem ok_law {f : Addr} {fd : FuncData} (F : Fun K "law" "law" s_law f fd) (T : Blt mg) (U : Fns P w K mg base) : FnOk P w K mg base CX0 4 f fd P_law (spLaw K) := by
  obtain ⟨⟨f1, d1, D__law_box⟩, ⟨f2, d2, D__law_take⟩, ⟨f3, d3, D__law_pick⟩, ⟨f4, d4, D__law_same⟩, ⟨f5, d5, D__law_shares⟩, ⟨f6, d6, D__law_is_plain_prime⟩, ⟨f7, d7, D__law_least_generator⟩, ⟨f8, d8, D__law_number⟩, ⟨f9, d9, D__law_sieve⟩, ⟨f10, d10, D__law_parts_of⟩, ⟨f11, d11, D__law_pow⟩, ⟨f12, d12, D__law_small_prime⟩, ⟨f13, d13, D__law_raised⟩, ⟨f14, d14, D__law_is_generator⟩, ⟨f15, d15, D__law_totient⟩, ⟨f16, d16, D_factors⟩, ⟨f17, d17, D_totient⟩, ⟨f18, d18, D_power_rest⟩, ⟨f19, d19, D_generator⟩⟩ := U
  have G__law_box : FnOk P w K mg base CX0 1 f1 d1 P__law_box (spBox K) := ok_box D__law_box.F T
  have G__law_pick : FnOk P w K mg base CX0 2 f3 d3 P__law_pick (spPick K) := ok_pick D__law_pick.F T D__law_take
  have G__law_same : FnOk P w K mg base CX0 2 f4 d4 P__law_same (spSame K 1) := ok_same D__law_same T 1
  have G__law_shares : FnOk P w K mg base CX0 1 f5 d5 P__law_shares spShM := ok_shm D__law_shares.F T
  have G__law_least_generator : FnOk P w K mg base CX0 2 f7 d7 P__law_least_generator spLG := ok_least D__law_least_generator.F T D__law_is_plain_prime D__law_raised
  have G__law_number : FnOk P w K mg base CX0 3 f8 d8 P__law_number spNumber := ok_number D__law_number.F T D__law_take D__law_pick
  have G__law_sieve : FnOk P w K mg base CX0 1 f9 d9 P__law_sieve spSieve := ok_sieve D__law_sieve.F T
  have G__law_parts_of : FnOk P w K mg base CX0 1 f10 d10 P__law_parts_of (spParts K) := ok_parts D__law_parts_of.F T
  have G__law_small_prime : FnOk P w K mg base CX0 3 f12 d12 P__law_small_prime (spSP K) := ok_small D__law_small_prime.F T D__law_take D__law_pick
  have G__law_is_generator : FnOk P w K mg base CX0 2 f14 d14 P__law_is_generator (spIsGen K) := ok_isgen D__law_is_generator.F T D__law_pow
  have G__law_totient : FnOk P w K mg base CX0 2 f15 d15 P__law_totient (spTotL K) := ok_lawtot D__law_totient.F T D__law_parts_of
  have G_totient : FnOk P w K mg base CX0 2 f17 d17 P_totient spTot := ok_totient D_totient.F T D_factors
  have G_generator : FnOk P w K mg base CX0 2 f19 d19 P_generator spGen := ok_generator D_generator.F T D_factors D_power_rest
  have nd := sc_law.nd
  refine F.ok sc_law (fun vs H Q E h => ?_) (fun cdv A outer s H vs Q E hr h => ?_)
  · obtain ⟨a, ns, rfl, _⟩ := h
    rfl
  · obtain ⟨a, ns, rfl, hS, hlen, q⟩ := h
    refine ⟨_, (pss_cons (ps_par (i := 1) (j := 2) (by rfl) nd rfl rfl (by decide) rfl rfl (pa_cons (pe_call G__law_sieve (hr.mono (by omega)) (by rfl) D__law_sieve.g D__law_sieve.F.kp D__law_sieve.b .nil pass0 (pa_cons (pe_int) pa_nil)) (pa_cons (pe_call G__law_sieve (hr.mono (by omega)) (by rfl) D__law_sieve.g D__law_sieve.F.kp D__law_sieve.b .nil pass0 (pa_cons (pe_op op_pow (pe_int) (pe_int)) pa_nil)) pa_nil)) (by rfl))
      (pss_cons (ps_for PassesOwn.never rfl (pi_range1 (by rfl) T.b_range (pa_cons (pe_callB (call_max2 rfl) (by rfl) T.b_max (by decide +kernel) (pa_cons (pe_int) (pa_cons (pe_callB (call_min2 rfl) (by rfl) T.b_min (by decide +kernel) (pa_cons (pe_int) (pa_cons (pe_callB (r := rLenQ K) call_len_seq (by rfl) T.b_len (by decide +kernel) (pa_cons (pv 0) pa_nil)) pa_nil))) pa_nil))) pa_nil)) (pg_name (i := 3) nd rfl (Or.inl rfl))
      (pss_cons (ps_set (i := 4) nd rfl (Or.inl rfl) (pe_call G__law_box (hr.mono (by omega)) (by rfl) D__law_box.g D__law_box.F.kp D__law_box.b .nil pass0 (pa_cons (pv 0) (pa_cons (pv 3) pa_nil))))
      (pss_cons (ps_for PassesOwn.never rfl (pi_range1 (by rfl) T.b_range (pa_cons (pe_int) pa_nil)) (pg_name (i := 5) nd rfl (Or.inl rfl))
      (pss_cons (ps_set (i := 6) nd rfl (Or.inl rfl) (pe_callB (call_max2 rfl) (by rfl) T.b_max (by decide +kernel) (pa_cons (pe_int) (pa_cons (pe_call G__law_number (hr.mono (by omega)) (by rfl) D__law_number.g D__law_number.F.kp D__law_number.b .nil pass0 (pa_cons (pv 4) pa_nil)) pa_nil))))
      (pss_cons (ps_set (i := 7) nd rfl (Or.inl rfl) (pe_call G__law_totient (hr.mono (by omega)) (by rfl) D__law_totient.g D__law_totient.F.kp D__law_totient.b .nil pass0 (pa_cons (pv 6) (pa_cons (pv 1) pa_nil))))
      (pss_cons (ps_if (pt_not (pt_val (pe_call G__law_same (hr.mono (by omega)) (by rfl) D__law_same.g D__law_same.F.kp D__law_same.b .nil pass0 (pa_cons (pe_lst (pa_cons (pe_call G_totient (hr.mono (by omega)) (by rfl) D_totient.g D_totient.F.kp D_totient.b .nil pass0 (pa_cons (pv 6) pa_nil)) (pa_cons (pe_call G_totient (hr.mono (by omega)) (by rfl) D_totient.g D_totient.F.kp D_totient.b .nil pass0 (pa_cons (pv 6) pa_nil)) pa_nil))) (pa_cons (pe_lst (pa_cons (pv 7) (pa_cons (pv 7) pa_nil))) pa_nil))))) (pss_one (ps_ret (pe_bl))) pss_nil)
      (pss_cons (ps_set (i := 8) nd rfl (Or.inr rfl) (pe_op op_add (pe_int) (pe_op op_mod (pv 6) (pe_int))))
      (pss_cons (ps_set (i := 9) nd rfl (Or.inl rfl) (pe_callB (r := rLenQ K) call_len_seq (by rfl) T.b_len (by decide +kernel) (pa_cons (pe_lc (own := [("_law_one", 15)]) (g := gName 15) (by rfl) nd (pi_range2 (by rfl) T.b_range (pa_cons (pe_int) (pa_cons (pe_op op_add (pv 8) (pe_int)) pa_nil))) (blkOk_by (own := [("_law_one", 15)]) (N := N_law) (sc := defScope s_law) (by decide +kernel)) (fun _ _ _ _ _ => (pg_name (i := 15) nd rfl (Or.inl rfl))) (fun _ _ _ _ _ => pts_one (pt_not (pt_val (pe_call G__law_shares (hr.mono (by omega)) (by rfl) D__law_shares.g D__law_shares.F.kp D__law_shares.b .nil pass0 (pa_cons (pv 15) (pa_cons (pv 8) pa_nil)))))) (fun _ _ _ _ _ => (pv 15))) pa_nil)))
      (pss_one (ps_if (pt_cmpR op_ne (pe_call G_totient (hr.mono (by omega)) (by rfl) D_totient.g D_totient.F.kp D_totient.b .nil pass0 (pa_cons (pv 8) pa_nil)) (pv 9) (nomark _)) (pss_one (ps_ret (pe_bl))) pss_nil))))))))
      (pss_one (ps_for PassesOwn.never rfl (pi_range1 (by rfl) T.b_range (pa_cons (pe_int) pa_nil)) (pg_name (i := 5) nd rfl (Or.inl rfl))
      (pss_cons (ps_set (i := 10) nd rfl (Or.inl rfl) (pe_lst (pa_cons (pe_int) (pa_cons (pe_int) (pa_cons (pe_int) (pa_cons (pe_int) (pa_cons (pe_int) pa_nil)))))))
      (pss_cons (ps_set (i := 11) nd rfl (Or.inr rfl) (pe_ifExp (pt_cmpR op_lt (pv 5) (pe_int) (nomark _)) (pe_call G__law_small_prime (hr.mono (by omega)) (by rfl) D__law_small_prime.g D__law_small_prime.F.kp D__law_small_prime.b .nil pass0 (pa_cons (pv 4) (pa_cons (pv 2) pa_nil))) (pe_call G__law_pick (hr.mono (by omega)) (by rfl) D__law_pick.g D__law_pick.F.kp D__law_pick.b .nil pass0 (pa_cons (pv 4) (pa_cons (pv 10) pa_nil)))))
      (pss_cons (ps_asg (pe_tup (pa_cons (pe_call G_generator (hr.mono (by omega)) (by rfl) D_generator.g D_generator.F.kp D_generator.b .nil pass0 (pa_cons (pv 11) pa_nil)) (pa_cons (pe_sortSet (by rfl) T.b_sorted (by rfl) T.b_set (pe_call G__law_parts_of (hr.mono (by omega)) (by rfl) D__law_parts_of.g D__law_parts_of.F.kp D__law_parts_of.b .nil pass0 (pa_cons (pe_op op_sub (pv 11) (pe_int)) (pa_cons (pv 1) pa_nil)))) pa_nil))) (pg_tup (by rfl) (pgs_cons (pg_name (i := 12) nd rfl (Or.inl rfl)) (pgs_cons (pg_name (i := 13) nd rfl (Or.inr rfl)) pgs_nil))))
      (pss_cons (ps_if (PW.pt (pw_or (pt_not (pt_val (pe_callB (r := rIsi K) call_isi (by rfl) T.b_isinstance (by decide +kernel) (pa_cons (pv 12) (pa_cons (pe_bltn (v := .ty "int") (by rfl) T.b_int (by decide +kernel) rfl) pa_nil))))) (pw_or (pt_val (pe_callB (r := rIsi K) call_isi (by rfl) T.b_isinstance (by decide +kernel) (pa_cons (pv 12) (pa_cons (pe_bltn (v := .ty "bool") (by rfl) T.b_bool (by decide +kernel) rfl) pa_nil)))) (pw_or1 (pt_not (pt_val (pe_call G__law_is_generator (hr.mono (by omega)) (by rfl) D__law_is_generator.g D__law_is_generator.F.kp D__law_is_generator.b .nil pass0 (pa_cons (pv 12) (pa_cons (pv 11) (pa_cons (pv 13) pa_nil)))))))))) (pss_one (ps_ret (pe_bl))) pss_nil)
      (pss_cons (ps_setLc (i := 14) (own := [("_law_one", 15)]) (g := gName 15) (by rfl) nd rfl rfl (sw_true rfl rfl rfl (by decide +kernel)) (pi_range2 (by rfl) T.b_range (pa_cons (pe_int) (pa_cons (pv 12) pa_nil))) (blkOk_by (own := [("_law_one", 15)]) (N := N_law) (sc := defScope s_law) (by decide +kernel)) (fun _ _ _ _ _ => (pg_name (i := 15) nd rfl (Or.inl rfl))) (fun _ _ _ _ _ => pts_one (pt_val (pe_call G__law_is_generator (hr.mono (by omega)) (by rfl) D__law_is_generator.g D__law_is_generator.F.kp D__law_is_generator.b .nil pass0 (pa_cons (pv 15) (pa_cons (pv 11) (pa_cons (pv 13) pa_nil)))))) (fun _ _ _ _ _ => (pv 15)))
      (pss_cons (ps_if (PW.pt (pw_or (pt_cmpR (r := rNeD K) (op_neD hr.units) (pv 14) (pe_lst pa_nil) (nomark _)) (pw_or1 (pt_cmpR op_ne (pe_call G_generator (hr.mono (by omega)) (by rfl) D_generator.g D_generator.F.kp D_generator.b .nil pass0 (pa_cons (pv 11) pa_nil)) (pv 12) (nomark _))))) (pss_one (ps_ret (pe_bl))) pss_nil)
      (pss_one (ps_if (PW.pt (pw_and (pt_cmpR op_lt (pv 11) (pe_int) (nomark _)) (pw_and1 (pt_cmpR op_ne (pv 12) (pe_call G__law_least_generator (hr.mono (by omega)) (by rfl) D__law_least_generator.g D__law_least_generator.F.kp D__law_least_generator.b .nil pass0 (pa_cons (pv 11) pa_nil)) (nomark _))))) (pss_one (ps_ret (pe_bl))) pss_nil)))))))))))))
      (pss_one (ps_ret (pe_cmpR (r := rEqD K) (op_eqD hr.units) (pe_lc (own := [("_law_prime", 11)]) (g := gName 11) (by rfl) nd (pi_tup (pe_tup (pa_cons (pe_int) (pa_cons (pe_int) (pa_cons (pe_int) (pa_cons (pe_int) (pa_cons (pe_int) (pa_cons (pe_int) (pa_cons (pe_int) pa_nil))))))))) (blkOk_by (own := [("_law_prime", 11)]) (N := N_law) (sc := defScope s_law) (by decide +kernel)) (fun _ _ _ _ _ => (pg_name (i := 11) nd rfl (Or.inl rfl))) (fun _ _ _ _ _ => pts_nil) (fun _ _ _ _ _ => (pe_call G_generator (hr.mono (by omega)) (by rfl) D_generator.g D_generator.F.kp D_generator.b .nil pass0 (pa_cons (pv 11) pa_nil)))) (pe_lst (pa_cons (pe_int) (pa_cons (pe_int) (pa_cons (pe_int) (pa_cons (pe_int) (pa_cons (pe_int) (pa_cons (pe_int) (pa_cons (pe_int) pa_nil)))))))) (nomark _)))))), ?_⟩
    walk_at "ev"
    intro pr H0 hpr0 sm0 hpr1
    walk_at "ev"
    intro wi H1 hw0 smw hw1
    have e4 : (10 : Nat) ^ Int.toNat 4 = 10000 := by decide
    rw [e4] at hw1
    have hpr1 := smw _ _ hpr1
    have sm1 := sm0.trans smw
    have hS1 := sm1.seq hS
    clear smw sm0 hw0 hpr0
    walk_at "ev"
    refine for_range (lo := 0) (n := _) (fun i σ H' => Hold (∃ s3 s4 s5 s6 s7 s8 s9 s10 s11 s12 s13 s14, σ = [some (.ref a), some (.ref pr), some (.ref wi), s3, s4, s5, s6, s7, s8, s9, s10, s11, s12, s13, s14, none] ∧ Same H1 H')) (.mk ⟨none, none, none, none, none, none, none, none, none, none, none, none, rfl, Same.refl _⟩) ?_ ?_
    · intro i σ H2 hi hP
      obtain ⟨s3, s4, s5, s6, s7, s8, s9, s10, s11, s12, s13, s14, rfl, sm2⟩ := hP.un
      have hi5 : i < 5 := by
        refine Nat.lt_of_lt_of_le hi ?_
        split <;> (try split) <;> omega
      have hS2 := sm2.seq hS1
      walk_at "ev"
      intro b H3 hb0 sm3 hbx
      have hbf : H1 b = none := sm2.free hb0
      have nwb : wi ≠ b := ne_of_none hw1 hbf
      have npb : pr ≠ b := ne_of_none hpr1 hbf
      walk_at "ev"
      refine for_range (lo := 0) (n := (12 : Int).toNat) (fun j σ H' => Hold (∃ s5 s6 s7 s8 s9, σ = [some (.ref a), some (.ref pr), some (.ref wi), some (.int (0 + (i : Int))), some (.ref b), s5, s6, s7, s8, s9, s10, s11, s12, s13, s14, none] ∧ Same H1 H' ∧ BoxAt H' b (8 * (j : Int)))) (.mk ⟨_, _, _, _, _, rfl, sm2.trans sm3, hbx.mono (by omega)⟩) ?_ ?_
      · intro j σ H4 hj hP4
        obtain ⟨s5, s6, s7, s8, s9, rfl, sm4, hb4⟩ := hP4.un
        have hj12 : j < 12 := hj
        walk_at "ev"
        intro r H5 r0 r1 k5 hb5
        have sm5 := keep_same sm4 hbf k5
        have hprL : SqL K H5 pr ((prs 1000).map V.int) := SqL.of (sm5 _ _ hpr1)
        have hmx : 1 ≤ (if r > 1 then r else 1) ∧ (if r > 1 then r else 1) ≤ 1000000 := by split <;> omega
        obtain ⟨fs, out, hf, hso, hmo, hpf⟩ := pf_ex hmx.1
        obtain ⟨m1, m2⟩ := hmx
        have sml : 1 ≤ 1 + (if r > 1 then r else 1) % 300 ∧ 1 + (if r > 1 then r else 1) % 300 ≤ 300 := by omega
        walk_at "ev"
        intro H6 sm6
        walk_at "ev"
        intro H7 sm7
        walk_at "ev"
        intro H8 sm8
        walk_at "ev"
        intro l8 hl8
        generalize hG8 : upd _ l8 _ = H9
        obtain ⟨sm9, hq8⟩ := newO hG8 hl8
        clear hG8
        walk_at "ev"
        intro l9 hl9
        generalize hG9 : upd _ l9 _ = H10
        obtain ⟨sm10, hq9⟩ := newO hG9 hl9
        have hq8' := sm10 _ _ hq8
        clear hG9
        have hdx : Dp K H10 (.ref l8) (.list [.int (totF (if r > 1 then r else 1) out), .int (totF (if r > 1 then r else 1) out)]) := .lst (SqL.of hq8') (.cons (.int _) (.cons (.int _) .nil))
        have hdy : Dp K H10 (.ref l9) (.list [.int (totF (if r > 1 then r else 1) out), .int (totF (if r > 1 then r else 1) out)]) := .lst (SqL.of hq9) (.cons (.int _) (.cons (.int _) .nil))
        have hfit := fit_ii (a := totF (if r > 1 then r else 1) out) (b := totF (if r > 1 then r else 1) out)
        walk_at "ev"
        intro H11 sm11
        have sm511 : Same H5 H11 := sm6.trans (sm7.trans (sm8.trans (sm9.trans (sm10.trans sm11))))
        walk_at "ev"
        intro D hD
        refine lc_range (lo := 1) (n := _) (fun i H' => Hold (Same H11 H' ∧ H' D = some (.lst ((cntL (1 + (if r > 1 then r else 1) % 300) i).map V.int)))) (.mk ⟨same_new hD, upd_same⟩) ?_ ?_
        · intro i2 H12 hi2 hP12
          obtain ⟨sm12, hD12⟩ := hP12.un
          have hpl : ((cntL (1 + (if r > 1 then r else 1) % 300) i2).map V.int).length < sizeLine := by
            unfold cntL
            rw [List.length_map, List.length_map]
            refine szm (Nat.le_trans (List.length_filter_le _ _) ?_)
            rw [List.length_range']
            omega
          have es := cntL_succ (1 + (if r > 1 then r else 1) % 300) i2
          walk_at "ev"
          cases hsh : shM 64 (1 + (i2 : Int)) (1 + (if r > 1 then r else 1) % 300) with
          | true =>
            rw [hsh] at es
            walk_at "ev"
            refine .mk ⟨sm12, ?_⟩
            rw [hD12, es]
            simp
          | false =>
            rw [hsh] at es
            walk_at "ev"
            refine .mk ⟨same_mut sm12 hD, ?_⟩
            rw [upd_same, es, List.map_append]
            rfl
        · intro H12 hP12
          obtain ⟨sm12, hD12⟩ := hP12.un
          have en : (1 + (if r > 1 then r else 1) % 300 + 1 - 1).toNat = (1 + (if r > 1 then r else 1) % 300).toNat := by omega
          rw [en] at hD12
          have hLD : SqL K H12 D ((cntL (1 + (if r > 1 then r else 1) % 300) (1 + (if r > 1 then r else 1) % 300).toNat).map V.int) := SqL.of hD12
          obtain ⟨fs2, out2, hf2, hso2, hmo2, hpf2⟩ := pf_ex sml.1
          have s6 : 1 + (if r > 1 then r else 1) % 300 ≤ 1000000 := by omega
          have hcl := cntL_len sml.1 sml.2 hpf2
          walk_at "ev"
          intro H13 sm13
          walk_at "ev"
          rw [List.length_map, ← hcl]
          refine iteFe (by simp) ?_
          exact .mk ⟨_, _, _, _, _, rfl, sm5.trans (sm511.trans (sm12.trans sm13)), (hb5.same (sm511.trans (sm12.trans sm13))).mono (by omega)⟩
      · intro σ H4 hP4
        obtain ⟨s5, s6, s7, s8, s9, rfl, sm4, hb4⟩ := hP4.un
        walk_at "ev"
        refine for_range (lo := 0) (n := (10 : Int).toNat) (fun j σ H' => Hold (∃ s5 s10 s11 s12 s13 s14, σ = [some (.ref a), some (.ref pr), some (.ref wi), some (.int (0 + (i : Int))), some (.ref b), s5, s6, s7, s8, s9, s10, s11, s12, s13, s14, none] ∧ Same H1 H' ∧ BoxAt H' b (96 + 4 * (j : Int)))) (.mk ⟨_, _, _, _, _, _, rfl, sm4, hb4.mono (by decide)⟩) ?_ ?_
        · intro j σ H5 hj hP5
          obtain ⟨s5, s10, s11, s12, s13, s14, rfl, sm5, hb5⟩ := hP5.un
          have hj10 : j < 10 := hj
          walk_at "ev"
          intro l6 hl6
          generalize hG6 : upd _ l6 _ = H6
          obtain ⟨sm6, hq6⟩ := newO hG6 hl6
          have hb6 := hb5.same sm6
          have sm16 := sm5.trans sm6
          have n6 := hb5.ne hl6
          clear hG6
          have hL6 : SqL K H6 l6 ([10007, 40961, 65537, 786433, 999983].map V.int) := SqL.of hq6
          have hLw : SqL K H6 wi ((prs 10000).map V.int) := SqL.of (sm16 _ _ hw1)
          have hfp : 0 < ((([10007, 40961, 65537, 786433, 999983] : List Int).map V.int).length : Int) := by decide
          have hfl : ((([10007, 40961, 65537, 786433, 999983] : List Int).map V.int).length : Int) < 1048576 := by decide
          walk_at "ev"
          refine ite_pred (f := tCall (spSP K) [] E0 _ _ _) (g := tCall (spPick K) [] E0 _ _ _) (R := fun v H7 => ∃ p, v = .int p ∧ GenAt p ∧ Keep b H6 H7 ∧ BoxAt H7 b (96 + 4 * (j : Int) + 4)) (fun k hk => ?_) ?_
          · refine ite2 (fun _ => ?_) (fun _ => ?_)
            · walk_at "ev"
              intro r H7 hr k7 b7
              exact hk _ _ ⟨r, rfl, hr, k7, b7⟩
            · walk_at "ev"
              intro v H7 hv k7 b7
              obtain ⟨c, hc, rfl⟩ := int_mem hv
              exact hk _ _ ⟨c, rfl, gen_far hc, k7, b7.mono (by omega)⟩
          · rintro v H7 ⟨p, rfl, hga, k7, hb7⟩
            obtain ⟨p2, p6, fs, out, g0, hf, hso, hmo, hpf, g1, gp, gok⟩ := hga
            have sm7 := keep_same sm16 hbf k7
            have hprL : SqL K H7 pr ((prs 1000).map V.int) := SqL.of (sm7 _ _ hpr1)
            have hnt : p - 1 < (((1000 : Nat) : Int) + 1) * (((1000 : Nat) : Int) + 1) := by
              have e : (((1000 : Nat) : Int) + 1) * (((1000 : Nat) : Int) + 1) = 1002001 := by decide
              omega
            walk_at "ev"
            intro g H8 sm8 hg
            have hprL8 := sm8.seq hprL
            walk_at "ev"
            intro xs lp H9 hfac hlp sm9 hq9
            have ex : xs = fs := hfac.uniq hf
            subst ex
            have hxl := hf.len (by omega)
            refine ⟨lp, xs, rfl, SqL.of hq9, by omega, ?_⟩
            intro out2 l2 hl2 hs2 hm2 ho2
            have eo : out2 = out := srt_ext hs2 hso fun k => (hm2 k).trans (hmo k).symm
            subst eo
            generalize hG10 : upd _ l2 _ = H10
            obtain ⟨sm10, hq10⟩ := newO hG10 hl2
            clear hG10
            walk_at "ev"
            intro lt hlt
            generalize hG11 : upd _ lt _ = H11
            obtain ⟨sm11, hq11⟩ := newO hG11 hlt
            clear hG11
            have hLo : SqL K H11 l2 (out2.map V.int) := SqL.of (sm11 _ _ hq10)
            have hLo' : ∃ xs, SqL K H11 l2 xs := ⟨_, hLo⟩
            have hTt : SqT K H11 lt [.int g, .ref l2] := SqT.of hq11
            have kd : Kd K H11 (.int g) "int" := .int g
            have ty := kd.ty
            obtain ⟨kk1, kk2, kk3, kk4, kk5⟩ := kd.kit
            obtain ⟨hg1, hgp, hgok, hgl⟩ := id hg
            have hol : out2.length ≤ 30 := by omega
            have hok : ∀ k ∈ out2, 2 ≤ k ∧ k ≤ p - 1 := fun k hk => by
              obtain ⟨a1, a2, _⟩ := (hpf.2 k).mp hk
              exact ⟨a1, Int.le_of_dvd (by omega) a2⟩
            walk_at "ev"
            intro b1 H12 sm12 hb1
            have eb : b1 = true := hb1.mpr hgok
            subst eb
            have hLo12 := sm12.seq hLo
            walk_at "ev"
            intro D hD
            refine lc_range (lo := 1) (n := _) (fun i H' => Hold (Same H12 H' ∧ H' D = some (.lst []))) (.mk ⟨same_new hD, upd_same⟩) ?_ ?_
            · intro i2 H13 hi2 hP13
              obtain ⟨sm13, hD13⟩ := hP13.un
              have hLo13 := sm13.seq hLo12
              have hx1 : 1 ≤ 1 + (i2 : Int) := by omega
              have hx2 : 1 + (i2 : Int) < g := by omega
              have hx3 : 1 + (i2 : Int) < p := by omega
              walk_at "ev"
              intro b2 H14 sm14 hb2
              have eb2 : b2 = false := by
                cases b2 with
                | false => rfl
                | true => exact absurd (hb2.mp rfl) (hgl _ hx1 hx2)
              subst eb2
              walk_at "ev"
              exact .mk ⟨sm13.trans sm14, sm14 _ _ hD13⟩
            · intro H13 hP13
              obtain ⟨sm13, hD13⟩ := hP13.un
              walk_at "ev"
              intro pe hpe
              generalize hG14 : upd _ pe _ = H14
              obtain ⟨sm14, hq14⟩ := newO hG14 hpe
              clear hG14
              have hD14 := sm14 _ _ hD13
              refine ned_nil (SqL.of hD14) (SqL.of hq14) ?_
              walk_at "ev"
              intro g2 H15 sm15 hg2
              have eg : g2 = g := hg2.uniq hg
              subst eg
              have sm715 : Same H7 H15 := sm8.trans (sm9.trans (sm10.trans (sm11.trans (sm12.trans (sm13.trans (sm14.trans sm15))))))
              walk_at "ev"
              refine ite2 (fun e => ?_) (fun e => ?_)
              · have e1 : p < 300 := of_decide_eq_true e
                walk_at "ev"
                intro H16 sm16
                walk_at "ev"
                exact .mk ⟨_, _, _, _, _, _, rfl, sm7.trans (sm715.trans sm16), (hb7.same (sm715.trans sm16)).mono (by omega)⟩
              · exact .mk ⟨_, _, _, _, _, _, rfl, sm7.trans sm715, (hb7.same sm715).mono (by omega)⟩
        · intro σ H5 hP5
          obtain ⟨s5, s10, s11, s12, s13, s14, rfl, sm5, hb5⟩ := hP5.un
          exact .mk ⟨_, _, _, _, _, _, _, _, _, _, _, _, rfl, sm5⟩
    · intro σ H2 hP
      obtain ⟨s3, s4, s5, s6, s7, s8, s9, s10, s11, s12, s13, s14, rfl, sm2⟩ := hP.un
      walk_at "ev"
      intro t1 ht1
      generalize hG1 : upd _ t1 _ = H3
      obtain ⟨sm3, hq1⟩ := newO hG1 ht1
      have hT : SqT K H3 t1 (gIn.map V.int) := SqT.of hq1
      have hT' : ∃ xs, SqT K H3 t1 xs := ⟨_, hT⟩
      clear hG1 hq1
      refine ⟨t1, rfl, hT', fun D hD => ?_⟩
      refine lc_tup (K := K) (a := t1) (xs := gIn.map V.int) (fun i H' => Hold (Same H3 H' ∧ H' D = some (.lst ((gOut.take i).map V.int)))) (.mk ⟨same_new hD, upd_same⟩) ?_ ?_ ?_
      · intro i H4 hi hP4
        obtain ⟨sm4, hD4⟩ := hP4.un
        exact same_t sm4 hT
      · intro i x H4 hx hP4
        obtain ⟨sm4, hD4⟩ := hP4.un
        rw [List.getElem?_map] at hx
        obtain ⟨p, hp, ev⟩ := Option.map_eq_some_iff.mp hx
        subst ev
        obtain ⟨g, hg, ⟨p2, p6, fs, out, g0, hf, hso, hmo, hpf, g1, gp, gok⟩, hun⟩ := gen_known i p hp
        have hil : i < 7 := (List.getElem?_eq_some_iff.mp hp).1
        walk_at "ev"
        intro x H5 sm5 hx
        have ex := hun _ _ hpf hx
        subst ex
        refine ⟨_, sm5 _ _ hD4, szm (by simp; omega), .mk ⟨same_mut (sm4.trans sm5) hD, ?_⟩⟩
        rw [upd_same, List.take_add_one, hg, List.map_append]
        rfl
      · intro H4 hP4
        obtain ⟨sm4, hD4⟩ := hP4.un
        have hD4' : H4 D = some (.lst (gOut.map V.int)) := hD4
        walk_at "ev"
        intro p hp
        generalize hG : upd _ p _ = H5
        obtain ⟨sm5, hq5⟩ := newO hG hp
        refine eqd_ints (ns := gOut) (ms := gOut) (SqL.of (sm5 _ _ hD4')) (SqL.of hq5) ?_
        rw [decide_eq_true rfl]
        exact q _
end
theorem all_mk {l : PySem.W.OpenLaw} {w : World} {K : PySem.W.Frag} {h : Heap} {mg : Str → Option Value} {fa : Addr} (X : K.In h) (G : h.Ns mainGlobals mg) (hfa : mg "law" = some (.ref fa))
    {od0 an0 : Option Addr} {sl0 : Array (Option Value)} {oc0 kV0 dc0 pm0 cd0 ct0 : Value} {f0 : Addr}
    {od1 an1 : Option Addr} {sl1 : Array (Option Value)} {oc1 kV1 dc1 pm1 cd1 ct1 : Value} {f1 : Addr}
    {od2 an2 : Option Addr} {sl2 : Array (Option Value)} {oc2 kV2 dc2 pm2 cd2 ct2 : Value} {f2 : Addr}
    {od3 an3 : Option Addr} {sl3 : Array (Option Value)} {oc3 kV3 dc3 pm3 cd3 ct3 : Value} {f3 : Addr}
    {od4 an4 : Option Addr} {sl4 : Array (Option Value)} {oc4 kV4 dc4 pm4 cd4 ct4 : Value} {f4 : Addr}
    {od5 an5 : Option Addr} {sl5 : Array (Option Value)} {oc5 kV5 dc5 pm5 cd5 ct5 : Value} {f5 : Addr}
    {od6 an6 : Option Addr} {sl6 : Array (Option Value)} {oc6 kV6 dc6 pm6 cd6 ct6 : Value} {f6 : Addr}
    {od7 an7 : Option Addr} {sl7 : Array (Option Value)} {oc7 kV7 dc7 pm7 cd7 ct7 : Value} {f7 : Addr}
    {od8 an8 : Option Addr} {sl8 : Array (Option Value)} {oc8 kV8 dc8 pm8 cd8 ct8 : Value} {f8 : Addr}
    {od9 an9 : Option Addr} {sl9 : Array (Option Value)} {oc9 kV9 dc9 pm9 cd9 ct9 : Value} {f9 : Addr}
    {od10 an10 : Option Addr} {sl10 : Array (Option Value)} {oc10 kV10 dc10 pm10 cd10 ct10 : Value} {f10 : Addr}
    {od11 an11 : Option Addr} {sl11 : Array (Option Value)} {oc11 kV11 dc11 pm11 cd11 ct11 : Value} {f11 : Addr}
    {od12 an12 : Option Addr} {sl12 : Array (Option Value)} {oc12 kV12 dc12 pm12 cd12 ct12 : Value} {f12 : Addr}
    {od13 an13 : Option Addr} {sl13 : Array (Option Value)} {oc13 kV13 dc13 pm13 cd13 ct13 : Value} {f13 : Addr}
    {od14 an14 : Option Addr} {sl14 : Array (Option Value)} {oc14 kV14 dc14 pm14 cd14 ct14 : Value} {f14 : Addr}
    {od15 an15 : Option Addr} {sl15 : Array (Option Value)} {oc15 kV15 dc15 pm15 cd15 ct15 : Value} {f15 : Addr}
    {od16 an16 : Option Addr} {sl16 : Array (Option Value)} {oc16 kV16 dc16 pm16 cd16 ct16 : Value} {f16 : Addr}
    {od17 an17 : Option Addr} {sl17 : Array (Option Value)} {oc17 kV17 dc17 pm17 cd17 ct17 : Value} {f17 : Addr}
    {od18 an18 : Option Addr} {sl18 : Array (Option Value)} {oc18 kV18 dc18 pm18 cd18 ct18 : Value} {f18 : Addr}
    {od19 an19 : Option Addr} {sl19 : Array (Option Value)} {oc19 kV19 dc19 pm19 cd19 ct19 : Value} {f19 : Addr}
    (a0 : PySem.W.nsIn K mainGlobals "_law_box" = some (some (.ref f0))) (l0 : K.lookup f0 = some ⟨oc0, od0, .func (PySem.W.fnOf "_law_box" "_law_box" (defArgs s__law_box) (defBody s__law_box) (defScope s__law_box) .none kV0 dc0 pm0 an0 cd0 ct0), sl0⟩) (c0 : PySem.W.codeIn K cd0 "_law_box" = true) (k0 : PySem.W.keepIn K (.ref f0) = true)
    (a1 : PySem.W.nsIn K mainGlobals "_law_take" = some (some (.ref f1))) (l1 : K.lookup f1 = some ⟨oc1, od1, .func (PySem.W.fnOf "_law_take" "_law_take" (defArgs s__law_take) (defBody s__law_take) (defScope s__law_take) .none kV1 dc1 pm1 an1 cd1 ct1), sl1⟩) (c1 : PySem.W.codeIn K cd1 "_law_take" = true) (k1 : PySem.W.keepIn K (.ref f1) = true)
    (a2 : PySem.W.nsIn K mainGlobals "_law_pick" = some (some (.ref f2))) (l2 : K.lookup f2 = some ⟨oc2, od2, .func (PySem.W.fnOf "_law_pick" "_law_pick" (defArgs s__law_pick) (defBody s__law_pick) (defScope s__law_pick) .none kV2 dc2 pm2 an2 cd2 ct2), sl2⟩) (c2 : PySem.W.codeIn K cd2 "_law_pick" = true) (k2 : PySem.W.keepIn K (.ref f2) = true)
    (a3 : PySem.W.nsIn K mainGlobals "_law_same" = some (some (.ref f3))) (l3 : K.lookup f3 = some ⟨oc3, od3, .func (PySem.W.fnOf "_law_same" "_law_same" (defArgs s__law_same) (defBody s__law_same) (defScope s__law_same) .none kV3 dc3 pm3 an3 cd3 ct3), sl3⟩) (c3 : PySem.W.codeIn K cd3 "_law_same" = true) (k3 : PySem.W.keepIn K (.ref f3) = true)
    (a4 : PySem.W.nsIn K mainGlobals "_law_shares" = some (some (.ref f4))) (l4 : K.lookup f4 = some ⟨oc4, od4, .func (PySem.W.fnOf "_law_shares" "_law_shares" (defArgs s__law_shares) (defBody s__law_shares) (defScope s__law_shares) .none kV4 dc4 pm4 an4 cd4 ct4), sl4⟩) (c4 : PySem.W.codeIn K cd4 "_law_shares" = true) (k4 : PySem.W.keepIn K (.ref f4) = true)
    (a5 : PySem.W.nsIn K mainGlobals "_law_is_plain_prime" = some (some (.ref f5))) (l5 : K.lookup f5 = some ⟨oc5, od5, .func (PySem.W.fnOf "_law_is_plain_prime" "_law_is_plain_prime" (defArgs s__law_is_plain_prime) (defBody s__law_is_plain_prime) (defScope s__law_is_plain_prime) .none kV5 dc5 pm5 an5 cd5 ct5), sl5⟩) (c5 : PySem.W.codeIn K cd5 "_law_is_plain_prime" = true) (k5 : PySem.W.keepIn K (.ref f5) = true)
    (a6 : PySem.W.nsIn K mainGlobals "_law_least_generator" = some (some (.ref f6))) (l6 : K.lookup f6 = some ⟨oc6, od6, .func (PySem.W.fnOf "_law_least_generator" "_law_least_generator" (defArgs s__law_least_generator) (defBody s__law_least_generator) (defScope s__law_least_generator) .none kV6 dc6 pm6 an6 cd6 ct6), sl6⟩) (c6 : PySem.W.codeIn K cd6 "_law_least_generator" = true) (k6 : PySem.W.keepIn K (.ref f6) = true)
    (a7 : PySem.W.nsIn K mainGlobals "_law_number" = some (some (.ref f7))) (l7 : K.lookup f7 = some ⟨oc7, od7, .func (PySem.W.fnOf "_law_number" "_law_number" (defArgs s__law_number) (defBody s__law_number) (defScope s__law_number) .none kV7 dc7 pm7 an7 cd7 ct7), sl7⟩) (c7 : PySem.W.codeIn K cd7 "_law_number" = true) (k7 : PySem.W.keepIn K (.ref f7) = true)
    (a8 : PySem.W.nsIn K mainGlobals "_law_sieve" = some (some (.ref f8))) (l8 : K.lookup f8 = some ⟨oc8, od8, .func (PySem.W.fnOf "_law_sieve" "_law_sieve" (defArgs s__law_sieve) (defBody s__law_sieve) (defScope s__law_sieve) .none kV8 dc8 pm8 an8 cd8 ct8), sl8⟩) (c8 : PySem.W.codeIn K cd8 "_law_sieve" = true) (k8 : PySem.W.keepIn K (.ref f8) = true)
    (a9 : PySem.W.nsIn K mainGlobals "_law_parts_of" = some (some (.ref f9))) (l9 : K.lookup f9 = some ⟨oc9, od9, .func (PySem.W.fnOf "_law_parts_of" "_law_parts_of" (defArgs s__law_parts_of) (defBody s__law_parts_of) (defScope s__law_parts_of) .none kV9 dc9 pm9 an9 cd9 ct9), sl9⟩) (c9 : PySem.W.codeIn K cd9 "_law_parts_of" = true) (k9 : PySem.W.keepIn K (.ref f9) = true)
    (a10 : PySem.W.nsIn K mainGlobals "_law_pow" = some (some (.ref f10))) (l10 : K.lookup f10 = some ⟨oc10, od10, .func (PySem.W.fnOf "_law_pow" "_law_pow" (defArgs s__law_pow) (defBody s__law_pow) (defScope s__law_pow) .none kV10 dc10 pm10 an10 cd10 ct10), sl10⟩) (c10 : PySem.W.codeIn K cd10 "_law_pow" = true) (k10 : PySem.W.keepIn K (.ref f10) = true)
    (a11 : PySem.W.nsIn K mainGlobals "_law_small_prime" = some (some (.ref f11))) (l11 : K.lookup f11 = some ⟨oc11, od11, .func (PySem.W.fnOf "_law_small_prime" "_law_small_prime" (defArgs s__law_small_prime) (defBody s__law_small_prime) (defScope s__law_small_prime) .none kV11 dc11 pm11 an11 cd11 ct11), sl11⟩) (c11 : PySem.W.codeIn K cd11 "_law_small_prime" = true) (k11 : PySem.W.keepIn K (.ref f11) = true)
    (a12 : PySem.W.nsIn K mainGlobals "_law_raised" = some (some (.ref f12))) (l12 : K.lookup f12 = some ⟨oc12, od12, .func (PySem.W.fnOf "_law_raised" "_law_raised" (defArgs s__law_raised) (defBody s__law_raised) (defScope s__law_raised) .none kV12 dc12 pm12 an12 cd12 ct12), sl12⟩) (c12 : PySem.W.codeIn K cd12 "_law_raised" = true) (k12 : PySem.W.keepIn K (.ref f12) = true)
    (a13 : PySem.W.nsIn K mainGlobals "_law_is_generator" = some (some (.ref f13))) (l13 : K.lookup f13 = some ⟨oc13, od13, .func (PySem.W.fnOf "_law_is_generator" "_law_is_generator" (defArgs s__law_is_generator) (defBody s__law_is_generator) (defScope s__law_is_generator) .none kV13 dc13 pm13 an13 cd13 ct13), sl13⟩) (c13 : PySem.W.codeIn K cd13 "_law_is_generator" = true) (k13 : PySem.W.keepIn K (.ref f13) = true)
    (a14 : PySem.W.nsIn K mainGlobals "_law_totient" = some (some (.ref f14))) (l14 : K.lookup f14 = some ⟨oc14, od14, .func (PySem.W.fnOf "_law_totient" "_law_totient" (defArgs s__law_totient) (defBody s__law_totient) (defScope s__law_totient) .none kV14 dc14 pm14 an14 cd14 ct14), sl14⟩) (c14 : PySem.W.codeIn K cd14 "_law_totient" = true) (k14 : PySem.W.keepIn K (.ref f14) = true)
    (a15 : PySem.W.nsIn K mainGlobals "factors" = some (some (.ref f15))) (l15 : K.lookup f15 = some ⟨oc15, od15, .func (PySem.W.fnOf "factors" "factors" (defArgs s_factors) (defBody s_factors) (defScope s_factors) .none kV15 dc15 pm15 an15 cd15 ct15), sl15⟩) (c15 : PySem.W.codeIn K cd15 "factors" = true) (k15 : PySem.W.keepIn K (.ref f15) = true)
    (a16 : PySem.W.nsIn K mainGlobals "totient" = some (some (.ref f16))) (l16 : K.lookup f16 = some ⟨oc16, od16, .func (PySem.W.fnOf "totient" "totient" (defArgs s_totient) (defBody s_totient) (defScope s_totient) .none kV16 dc16 pm16 an16 cd16 ct16), sl16⟩) (c16 : PySem.W.codeIn K cd16 "totient" = true) (k16 : PySem.W.keepIn K (.ref f16) = true)
    (a17 : PySem.W.nsIn K mainGlobals "power_rest" = some (some (.ref f17))) (l17 : K.lookup f17 = some ⟨oc17, od17, .func (PySem.W.fnOf "power_rest" "power_rest" (defArgs s_power_rest) (defBody s_power_rest) (defScope s_power_rest) .none kV17 dc17 pm17 an17 cd17 ct17), sl17⟩) (c17 : PySem.W.codeIn K cd17 "power_rest" = true) (k17 : PySem.W.keepIn K (.ref f17) = true)
    (a18 : PySem.W.nsIn K mainGlobals "generator" = some (some (.ref f18))) (l18 : K.lookup f18 = some ⟨oc18, od18, .func (PySem.W.fnOf "generator" "generator" (defArgs s_generator) (defBody s_generator) (defScope s_generator) .none kV18 dc18 pm18 an18 cd18 ct18), sl18⟩) (c18 : PySem.W.codeIn K cd18 "generator" = true) (k18 : PySem.W.keepIn K (.ref f18) = true)
    (a19 : PySem.W.nsIn K mainGlobals "law" = some (some (.ref f19))) (l19 : K.lookup f19 = some ⟨oc19, od19, .func (PySem.W.fnOf "law" "law" (defArgs s_law) (defBody s_law) (defScope s_law) .none kV19 dc19 pm19 an19 cd19 ct19), sl19⟩) (c19 : PySem.W.codeIn K cd19 "law" = true) (k19 : PySem.W.keepIn K (.ref f19) = true)
    (z0 : PySem.W.nsIn K mainGlobals "abs" = some none) (z1 : PySem.W.nsIn K mainGlobals "all" = some none) (z2 : PySem.W.nsIn K mainGlobals "any" = some none) (z3 : PySem.W.nsIn K mainGlobals "bool" = some none) (z4 : PySem.W.nsIn K mainGlobals "int" = some none) (z5 : PySem.W.nsIn K mainGlobals "isinstance" = some none) (z6 : PySem.W.nsIn K mainGlobals "len" = some none) (z7 : PySem.W.nsIn K mainGlobals "list" = some none) (z8 : PySem.W.nsIn K mainGlobals "max" = some none) (z9 : PySem.W.nsIn K mainGlobals "min" = some none) (z10 : PySem.W.nsIn K mainGlobals "range" = some none) (z11 : PySem.W.nsIn K mainGlobals "set" = some none) (z12 : PySem.W.nsIn K mainGlobals "sorted" = some none) (z13 : PySem.W.nsIn K mainGlobals "str" = some none) (z14 : PySem.W.nsIn K mainGlobals "tuple" = some none) (z15 : PySem.W.nsIn K mainGlobals "zip" = some none) :
    ∃ fd : FuncData, (∀ (s : Shared) (v : Value), BindsTo s fd ⟨[v], []⟩ [("_law_script", v)]) ∧ ∀ base : Heap, K.In base → base.Ns mainGlobals mg → FnOk l.prog w K mg base CX0 4 fa fd ["_law_script"] (spLaw K) := by
  have e := hfa.symm.trans (PySem.W.mg_of X G a19)
  cases e
  have T : Blt mg := ⟨PySem.W.mg_none_of X G z0, PySem.W.mg_none_of X G z1, PySem.W.mg_none_of X G z2, PySem.W.mg_none_of X G z3, PySem.W.mg_none_of X G z4, PySem.W.mg_none_of X G z5, PySem.W.mg_none_of X G z6, PySem.W.mg_none_of X G z7, PySem.W.mg_none_of X G z8, PySem.W.mg_none_of X G z9, PySem.W.mg_none_of X G z10, PySem.W.mg_none_of X G z11, PySem.W.mg_none_of X G z12, PySem.W.mg_none_of X G z13, PySem.W.mg_none_of X G z14, PySem.W.mg_none_of X G z15⟩
  have F0 := fun_mk (st := s__law_box) l0 c0 k0
  have b0 := F0.binds (ps := P__law_box) fun _ _ _ _ _ _ us hl => match us, hl with | [_, _], _ => rfl
  have F1 := fun_mk (st := s__law_take) l1 c1 k1
  have b1 := F1.binds (ps := P__law_take) fun _ _ _ _ _ _ us hl => match us, hl with | [_, _], _ => rfl
  have F2 := fun_mk (st := s__law_pick) l2 c2 k2
  have b2 := F2.binds (ps := P__law_pick) fun _ _ _ _ _ _ us hl => match us, hl with | [_, _], _ => rfl
  have F3 := fun_mk (st := s__law_same) l3 c3 k3
  have b3 := F3.binds (ps := P__law_same) fun _ _ _ _ _ _ us hl => match us, hl with | [_, _], _ => rfl
  have F4 := fun_mk (st := s__law_shares) l4 c4 k4
  have b4 := F4.binds (ps := P__law_shares) fun _ _ _ _ _ _ us hl => match us, hl with | [_, _], _ => rfl
  have F5 := fun_mk (st := s__law_is_plain_prime) l5 c5 k5
  have b5 := F5.binds (ps := P__law_is_plain_prime) fun _ _ _ _ _ _ us hl => match us, hl with | [_], _ => rfl
  have F6 := fun_mk (st := s__law_least_generator) l6 c6 k6
  have b6 := F6.binds (ps := P__law_least_generator) fun _ _ _ _ _ _ us hl => match us, hl with | [_], _ => rfl
  have F7 := fun_mk (st := s__law_number) l7 c7 k7
  have b7 := F7.binds (ps := P__law_number) fun _ _ _ _ _ _ us hl => match us, hl with | [_], _ => rfl
  have F8 := fun_mk (st := s__law_sieve) l8 c8 k8
  have b8 := F8.binds (ps := P__law_sieve) fun _ _ _ _ _ _ us hl => match us, hl with | [_], _ => rfl
  have F9 := fun_mk (st := s__law_parts_of) l9 c9 k9
  have b9 := F9.binds (ps := P__law_parts_of) fun _ _ _ _ _ _ us hl => match us, hl with | [_, _], _ => rfl
  have F10 := fun_mk (st := s__law_pow) l10 c10 k10
  have b10 := F10.binds (ps := P__law_pow) fun _ _ _ _ _ _ us hl => match us, hl with | [_, _, _], _ => rfl
  have F11 := fun_mk (st := s__law_small_prime) l11 c11 k11
  have b11 := F11.binds (ps := P__law_small_prime) fun _ _ _ _ _ _ us hl => match us, hl with | [_, _], _ => rfl
  have F12 := fun_mk (st := s__law_raised) l12 c12 k12
  have b12 := F12.binds (ps := P__law_raised) fun _ _ _ _ _ _ us hl => match us, hl with | [_, _, _], _ => rfl
  have F13 := fun_mk (st := s__law_is_generator) l13 c13 k13
  have b13 := F13.binds (ps := P__law_is_generator) fun _ _ _ _ _ _ us hl => match us, hl with | [_, _, _], _ => rfl
  have F14 := fun_mk (st := s__law_totient) l14 c14 k14
  have b14 := F14.binds (ps := P__law_totient) fun _ _ _ _ _ _ us hl => match us, hl with | [_, _], _ => rfl
  have F15 := fun_mk (st := s_factors) l15 c15 k15
  have b15 := F15.binds (ps := P_factors) fun _ _ _ _ _ _ us hl => match us, hl with | [_], _ => rfl
  have F16 := fun_mk (st := s_totient) l16 c16 k16
  have b16 := F16.binds (ps := P_totient) fun _ _ _ _ _ _ us hl => match us, hl with | [_], _ => rfl
  have F17 := fun_mk (st := s_power_rest) l17 c17 k17
  have b17 := F17.binds (ps := P_power_rest) fun _ _ _ _ _ _ us hl => match us, hl with | [_, _, _], _ => rfl
  have F18 := fun_mk (st := s_generator) l18 c18 k18
  have b18 := F18.binds (ps := P_generator) fun _ _ _ _ _ _ us hl => match us, hl with | [_], _ => rfl
  have F19 := fun_mk (st := s_law) l19 c19 k19
  refine ⟨_, fun s v => .of_eq rfl, fun base _ _ => ok_law (P := l.prog) (w := w) (base := base) F19 T ⟨⟨_, _, F0, b0, PySem.W.mg_of X G a0⟩, ⟨_, _, F1, b1, PySem.W.mg_of X G a1⟩, ⟨_, _, F2, b2, PySem.W.mg_of X G a2⟩, ⟨_, _, F3, b3, PySem.W.mg_of X G a3⟩, ⟨_, _, F4, b4, PySem.W.mg_of X G a4⟩, ⟨_, _, F5, b5, PySem.W.mg_of X G a5⟩, ⟨_, _, F6, b6, PySem.W.mg_of X G a6⟩, ⟨_, _, F7, b7, PySem.W.mg_of X G a7⟩, ⟨_, _, F8, b8, PySem.W.mg_of X G a8⟩, ⟨_, _, F9, b9, PySem.W.mg_of X G a9⟩, ⟨_, _, F10, b10, PySem.W.mg_of X G a10⟩, ⟨_, _, F11, b11, PySem.W.mg_of X G a11⟩, ⟨_, _, F12, b12, PySem.W.mg_of X G a12⟩, ⟨_, _, F13, b13, PySem.W.mg_of X G a13⟩, ⟨_, _, F14, b14, PySem.W.mg_of X G a14⟩, ⟨_, _, F15, b15, PySem.W.mg_of X G a15⟩, ⟨_, _, F16, b16, PySem.W.mg_of X G a16⟩, ⟨_, _, F17, b17, PySem.W.mg_of X G a17⟩, ⟨_, _, F18, b18, PySem.W.mg_of X G a18⟩⟩⟩
end My
open PySem PySem.W PyProof.Rows
set_option maxRecDepth 100000 in
set_option maxHeartbeats 0 in
theorem PySem.Challenge.cw_turnsums_k05_totients_and_generators_holds : PySem.Challenge.rw_turnsums_k05_totients_and_generators.Holds := by
  w_on; o_law; k_head; (case hw => w_witness2)
  k_fill
  refine L2.walk_of (l := PySem.Challenge.rw_turnsums_k05_totients_and_generators) (n := 63) (k := 4) (x := "_law_script") (CX := fun _ => L2.CX0) (sp := fun w => My.spLaw _) rfl (by decide) rfl ⟨rfl, by decide, by decide⟩ (fun w h Y => PySem.W.kIn_of Y) ?F (fun _ _ a ns hl _ hS => ⟨a, ns, rfl, hS, hl, fun _ => rfl⟩) (fun _ _ _ _ _ h => h)
  case F =>
    intro w mg fa h KX G hmg
    refine' My.all_mk KX G hmg ?a0 ?l0 ?c0 ?k0 ?a1 ?l1 ?c1 ?k1 ?a2 ?l2 ?c2 ?k2 ?a3 ?l3 ?c3 ?k3 ?a4 ?l4 ?c4 ?k4 ?a5 ?l5 ?c5 ?k5 ?a6 ?l6 ?c6 ?k6 ?a7 ?l7 ?c7 ?k7 ?a8 ?l8 ?c8 ?k8 ?a9 ?l9 ?c9 ?k9 ?a10 ?l10 ?c10 ?k10 ?a11 ?l11 ?c11 ?k11 ?a12 ?l12 ?c12 ?k12 ?a13 ?l13 ?c13 ?k13 ?a14 ?l14 ?c14 ?k14 ?a15 ?l15 ?c15 ?k15 ?a16 ?l16 ?c16 ?k16 ?a17 ?l17 ?c17 ?k17 ?a18 ?l18 ?c18 ?k18 ?a19 ?l19 ?c19 ?k19 ?z0 ?z1 ?z2 ?z3 ?z4 ?z5 ?z6 ?z7 ?z8 ?z9 ?z10 ?z11 ?z12 ?z13 ?z14 ?z15
    (case a0 => k_is)
    (case l0 => k_is)
    (case c0 => k_is)
    (case k0 => k_is)
    (case a1 => k_is)
    (case l1 => k_is)
    (case c1 => k_is)
    (case k1 => k_is)
    (case a2 => k_is)
    (case l2 => k_is)
    (case c2 => k_is)
    (case k2 => k_is)
    (case a3 => k_is)
    (case l3 => k_is)
    (case c3 => k_is)
    (case k3 => k_is)
    (case a4 => k_is)
    (case l4 => k_is)
    (case c4 => k_is)
    (case k4 => k_is)
    (case a5 => k_is)
    (case l5 => k_is)
    (case c5 => k_is)
    (case k5 => k_is)
    (case a6 => k_is)
    (case l6 => k_is)
    (case c6 => k_is)
    (case k6 => k_is)
    (case a7 => k_is)
    (case l7 => k_is)
    (case c7 => k_is)
    (case k7 => k_is)
    (case a8 => k_is)
    (case l8 => k_is)
    (case c8 => k_is)
    (case k8 => k_is)
    (case a9 => k_is)
    (case l9 => k_is)
    (case c9 => k_is)
    (case k9 => k_is)
    (case a10 => k_is)
    (case l10 => k_is)
    (case c10 => k_is)
    (case k10 => k_is)
    (case a11 => k_is)
    (case l11 => k_is)
    (case c11 => k_is)
    (case k11 => k_is)
    (case a12 => k_is)
    (case l12 => k_is)
    (case c12 => k_is)
    (case k12 => k_is)
    (case a13 => k_is)
    (case l13 => k_is)
    (case c13 => k_is)
    (case k13 => k_is)
    (case a14 => k_is)
    (case l14 => k_is)
    (case c14 => k_is)
    (case k14 => k_is)
    (case a15 => k_is)
    (case l15 => k_is)
    (case c15 => k_is)
    (case k15 => k_is)
    (case a16 => k_is)
    (case l16 => k_is)
    (case c16 => k_is)
    (case k16 => k_is)
    (case a17 => k_is)
    (case l17 => k_is)
    (case c17 => k_is)
    (case k17 => k_is)
    (case a18 => k_is)
    (case l18 => k_is)
    (case c18 => k_is)
    (case k18 => k_is)
    (case a19 => k_is)
    (case l19 => k_is)
    (case c19 => k_is)
    (case k19 => k_is)
    (case z0 => k_is)
    (case z1 => k_is)
    (case z2 => k_is)
    (case z3 => k_is)
    (case z4 => k_is)
    (case z5 => k_is)
    (case z6 => k_is)
    (case z7 => k_is)
    (case z8 => k_is)
    (case z9 => k_is)
    (case z10 => k_is)
    (case z11 => k_is)
    (case z12 => k_is)
    (case z13 => k_is)
    (case z14 => k_is)
    (case z15 => k_is)

