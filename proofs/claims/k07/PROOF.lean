import PyProof.Rows.All
import Wide.All
import OpenK.AllK
import Wide.FinOn
import HandS.ForMost
import HandS.IsInst
import HandS.Style
import HandS.Wide
import HandS.WideMore
import HandS.Zip
import HandS.Flow
import HandS.SetFor
import HandS.Strs
import HandS.SortInts
import HandS.ExcInit
import HandS.ExcField
import HandS.ExcIs
import HandS.ExcValue
import HandS.WordsExc
import HandS.NoneIn
import HandS.Conv
import KE.KExcIs
import KE.GoesMore
import PyProof.Draws
import PySem.Challenge.RW_turnsums_k07_numbers_by_names
set_option Elab.async false
set_option linter.all false
set_option maxRecDepth 100000
set_option maxHeartbeats 4000000
namespace My
open PySem L2
def top (i : Nat) : Stmt := PySem.Challenge.pw_turnsums_k07_numbers_by_names.main.body.getD i (.Pass ⟨0, 0, 0, 0⟩)
/-- a def of the text: where it stands, how it is called -/
structure Df (K : PySem.W.Frag) (mg : Str → Option Value) (x : Str) (st : Stmt) (ps : List Str) (f : Addr) (fd : FuncData) : Prop where
  F : Fun K x x st f fd
  b : Binds K fd ps []
  g : mg x = some (.ref f)
/-! heaps: all but the box stays -/
theorem same_upd {H H' : Hp} {p : Addr} {o : HO} (h : Same H H') (n : H' p = none) : Same H (upd H' p o) := fun b x e => by
  rw [upd_ne (ne_of_none (h b x e) n)]
  exact h b x e
theorem same_new {H : Hp} {p : Addr} {o : HO} (n : H p = none) : Same H (upd H p o) := same_upd (Same.refl H) n
theorem same_mut {H H' : Hp} {p : Addr} {o : HO} (h : Same H H') (n : H p = none) : Same H (upd H' p o) := fun b x e => by
  rw [upd_ne (ne_of_none e n)]
  exact h b x e
theorem same_t {K : PySem.W.Frag} {H H' : Hp} {a : Addr} {xs : List V} (e : Same H H') (h : SqT K H a xs) : SqT K H' a xs := by
  rcases h with (h | ⟨o, h⟩) | h
  · exact .inl (.inl (e _ _ h))
  · exact .inl (.inr ⟨o, e _ _ h⟩)
  · exact .inr h
def Keep (b : Addr) (H H' : Hp) : Prop := ∀ a o, a ≠ b → H a = some o → H' a = some o
theorem Keep.refl (b : Addr) (H : Hp) : Keep b H H := fun _ _ _ h => h
theorem Keep.trans {b : Addr} {H H1 H2 : Hp} (a : Keep b H H1) (c : Keep b H1 H2) : Keep b H H2 := fun x o n h => c x o n (a x o n h)
theorem keepS {b : Addr} {H H' : Hp} (h : Same H H') : Keep b H H' := fun x o _ e => h x o e
theorem keep_same {b : Addr} {H0 H H' : Hp} (a : Same H0 H) (n : H0 b = none) (k : Keep b H H') : Same H0 H' := fun x o e => k x o (ne_of_none e n) (a x o e)
theorem keep_upd {b : Addr} {H H' : Hp} {o : HO} (h : Keep b H H') : Keep b H (upd H' b o) := fun a u n e => by
  rw [upd_ne n]
  exact h a u n e
theorem keep_new {b p : Addr} {H H' : Hp} {o : HO} (h : Keep b H H') (n : H' p = none) : Keep b H (upd H' p o) := fun a u na e => by
  rw [upd_ne (ne_of_none (h a u na e) n)]
  exact h a u na e
theorem Keep.seq {K : PySem.W.Frag} {b a : Addr} {H H' : Hp} {xs : List V} (e : Keep b H H') (n : a ≠ b) (h : SqL K H a xs) : SqL K H' a xs := by
  rcases h with (h | ⟨o, h⟩) | h
  · exact .inl (.inl (e _ _ n h))
  · exact .inl (.inr ⟨o, e _ _ n h⟩)
  · exact .inr h
def BoxAt (H : Hp) (b : Addr) (n : Int) : Prop := ∃ x y z : Int, H b = some (.lst [.int x, .int y, .int z]) ∧ 0 ≤ x ∧ 0 ≤ y ∧ y ≤ 4294967296 ∧ 0 ≤ z ∧ z ≤ n
theorem BoxAt.mono {H : Hp} {b : Addr} {n m : Int} (h : BoxAt H b n) (e : n ≤ m) : BoxAt H b m := by
  obtain ⟨x, y, z, a1, a2, a3, a4, a5, a6⟩ := h
  exact ⟨x, y, z, a1, a2, a3, a4, a5, by omega⟩
theorem BoxAt.same {H H' : Hp} {b : Addr} {n : Int} (h : BoxAt H b n) (e : Same H H') : BoxAt H' b n := by
  obtain ⟨x, y, z, a1, a2⟩ := h
  exact ⟨x, y, z, e _ _ a1, a2⟩
theorem BoxAt.some {H : Hp} {b : Addr} {n : Int} (h : BoxAt H b n) : ∃ o, H b = some o := by
  obtain ⟨x, y, z, a1, a2⟩ := h
  exact ⟨_, a1⟩
theorem BoxAt.ne {H : Hp} {b p : Addr} {n : Int} (h : BoxAt H b n) (e : H p = none) : p ≠ b := by
  obtain ⟨o, h⟩ := h.some
  exact (ne_of_none h e).symm
theorem szl {n : Nat} (h : n ≤ 60000) : n ≤ sizeLine := Nat.le_trans h (by decide)
theorem szm {n : Nat} (h : n ≤ 60000) : n < sizeLine := Nat.lt_of_le_of_lt h (by decide)
theorem pw6 : (10 : Int) ^ Int.toNat 6 = 1000000 := by decide
theorem pw9 : (10 : Int) ^ Int.toNat 9 = 1000000000 := by decide
theorem newO {H H' : Hp} {p : Addr} {o : HO} (e : upd H p o = H') (hp : H p = none) : Same H H' ∧ H' p = some o := by
  subst e
  exact ⟨same_new hp, upd_same⟩
theorem mutO {H H' : Hp} {p : Addr} {o : HO} (e : upd H p o = H') : Keep p H H' ∧ H' p = some o := by
  subst e
  exact ⟨keep_upd (Keep.refl _ _), upd_same⟩
/-- a word of ours that the walk must not open -/
inductive Hold (p : Prop) : Prop
  | mk : p → Hold p
theorem Hold.un {p : Prop} (h : Hold p) : p := by
  cases h with
  | mk h => exact h
theorem holdN {W : Nat → L2.St → Hp → Prop} {m : Nat} : ∀ (σ' : L2.St) (H' : Hp), Hold (∃ m', m' < m ∧ W m' σ' H') → ∃ m', m' < m ∧ W m' σ' H' := fun _ _ h => h.un
theorem ite_dec {c A B : Prop} [Decidable c] (hc : c) (h : A) : if decide c = true then A else B := by
  rw [decide_eq_true hc]
  exact iteT h
def rLenQ (K : PySem.W.Frag) : List V → Hp → VK → Prop := fun xs H Q => ∃ p ys, xs = [.ref p] ∧ (SqL K H p ys ∨ SqT K H p ys) ∧ Q (.int ys.length) H
theorem iteTe {b : Bool} {A B : Prop} (e : b = true) (h : A) : if b = true then A else B := by
  rw [if_pos e]
  exact h
theorem iteFe {b : Bool} {A B : Prop} (e : b = false) (h : B) : if b = true then A else B := by
  rw [e]
  exact iteF h
theorem cmul_b {i : Int} {b : Bool} : CMul i (if b then 1 else 0) := by
  refine .inr ?_
  cases b <;> exact ⟨by decide, by decide⟩
theorem at_ints {ns : List Int} {k : Int} (h0 : 0 ≤ k) (h : k < (ns.length : Int)) : ∃ c, c ∈ ns ∧ atI (ns.map V.int) k = some (.int c) := by
  have hk : k.toNat < ns.length := by omega
  refine ⟨ns[k.toNat], List.getElem_mem hk, at_of (j := k.toNat) (by omega) ?_⟩
  rw [List.getElem?_map, List.getElem?_eq_getElem hk]
  rfl
theorem at_some {xs : List V} {k : Int} (h0 : 0 ≤ k) (h : k < (xs.length : Int)) : ∃ v, v ∈ xs ∧ atI xs k = some v := by
  have hk : k.toNat < xs.length := by omega
  exact ⟨xs[k.toNat], List.getElem_mem hk, at_of (j := k.toNat) (by omega) (List.getElem?_eq_getElem hk)⟩
theorem int_mem {ns : List Int} {v : V} (h : v ∈ ns.map V.int) : ∃ c, c ∈ ns ∧ v = .int c := by
  obtain ⟨c, hc, e⟩ := List.mem_map.mp h
  exact ⟨c, hc, e.symm⟩
structure Blt (mg : Str → Option Value) : Prop where
  b_ValueError : mg "ValueError" = none
  b_abs : mg "abs" = none
  b_all : mg "all" = none
  b_any : mg "any" = none
  b_bool : mg "bool" = none
  b_enumerate : mg "enumerate" = none
  b_int : mg "int" = none
  b_isinstance : mg "isinstance" = none
  b_len : mg "len" = none
  b_max : mg "max" = none
  b_min : mg "min" = none
  b_range : mg "range" = none
  b_repr : mg "repr" = none
  b_set : mg "set" = none
  b_sorted : mg "sorted" = none
  b_zip : mg "zip" = none
/-! ### sorted(set(xs)), xs a list of few ints -/
section
open PySem.Spec PyProof.Rows PySem.Calls
abbrev bareSet (w : World) : Obj := { cls := .type "set", dict := none, data := .set #[] 0 (.fresh 0 0 (!w.params.followText "set-order")) }
/-- what set(xs) leaves behind -/
def SetLeft (w : World) (s : Shared) (ns : List Int) (h' : Heap) (c : Nat) : Prop := SetR w h' s.heap.objs.size (fun j => decide (j ∈ ns)) c ∧ c ≤ ns.length ∧ ∀ b o, s.heap.get? b = some o → h'.get? b = some o
variable {P : Program} {w : World} {A : Around} {E : Value → Shared → Prop} {s : Shared}
theorem items_ints {items : Array Value} {ns : List Int} (hi : IntsAre items.toList ns) (i : Nat) (v : Value) (hv : items[i]? = some v) : ∃ k t, ns[i]? = some k ∧ v = .int k t := by
  have hl : items.size = ns.length := by
    rw [← Array.length_toList]
    exact hi.length
  have hlt : i < ns.length := by
    rw [← hl]
    exact (Array.getElem?_eq_some_iff.mp hv).1
  obtain ⟨t, e⟩ := hi.int_at i v (by rw [Array.getElem?_toList]; exact hv)
  refine ⟨ns[i], t, List.getElem?_eq_getElem hlt, e.trans ?_⟩
  rw [List.getD_eq_getElem?_getD, List.getElem?_eq_getElem hlt]
  rfl
set_option maxHeartbeats 3200000 in
theorem set_of_list {l : Addr} {items : Array Value} {ns : List Int} {Q : Value → Shared → Prop} (hh : A.handled = none) (hl : s.heap.IsList l items) (hi : IntsAre items.toList ns) (hb : ns.length + 1 < scanBound)
    (h : ∀ (h' : Heap) (tk c : Nat), SetLeft w s ns h' c → Q (.ref s.heap.objs.size) { s with heap := h', toks := tk }) : wpAny (model P w) A (call (.type "set") [.ref l]) Q E s := by
  have hsz : items.size = ns.length := by
    rw [← Array.length_toList]
    exact hi.length
  obtain ⟨mc, mt, hmro⟩ := F.called_set.mro
  have a1 := F.called_set.made; have a2 := F.called_set.sub; have a3 := F.called_set.notType; have a4 := F.called_set.canCreate; have a5 := F.typeCall_set_1 (.ref l)
  refine wpAny_call (codeAny_of_tree (show wpAny _ _ (callAny (.type "set") _) _ _ _ from wpAny_pure ⟨Code.quiet_builtin _ (by decide +kernel), codeAny_builtin F.entry_type_call ?_⟩))
  rw [Around.under_plain (weight_type_call_type "set" [.ref l] []) rfl]; repeat (any_goals (first | assumption | wp_step))
  refine codeAny_mono (code_set_led1 (.ref l) (E := E) (Q₁ := fun v s' => v = .ref s.heap.objs.size ∧ s' = { s with heap := s.heap.push (bareSet w) }) ⟨rfl, rfl⟩) fun res s1 hres => ?_
  match res, hres with
  | .error e, hres => exact hres
  | .ok .next, hres => exact hres.elim
  | .ok .cont, hres => exact hres.elim
  | .ok .brk, hres => exact hres.elim
  | .ok (.ret v), hres =>
    obtain ⟨rfl, rfl⟩ := hres
    have g0 : (s.heap.push (bareSet w)).get? s.heap.objs.size = some (bareSet w) := Heap.get?_push_size _ rfl
    have ty0 : Shared.TypeIs { s with heap := s.heap.push (bareSet w) } (.ref s.heap.objs.size) "set" := ⟨_, g0, rfl⟩
    have i1 := F.called_set.init.lookup; have i2 := F.called_set.init.bind (.ref s.heap.objs.size)
    repeat (any_goals (first | assumption | wp_step))
    refine codeAny_mono (codeAny_call_builtin (R := wants (fun v s' => v = .none ∧ ∃ h' tk c, s' = { s with heap := h', toks := tk } ∧ SetLeft w s ns h' c) E) F.called_set.init.plain F.entry_set_init (check_set_init_1 ty0 ?_)) fun res2 s2 hres2 => ?_
    · obtain ⟨⟨lc, ld, la, ls⟩, hol, hcl, nl, hdl⟩ := hl
      simp only at hcl hdl; subst hcl; subst hdl
      have hol1 := Heap.get?_push_of_some (bareSet w) hol
      have hL1 : (s.heap.push (bareSet w)).IsList l items := ⟨_, hol1, rfl, nl, rfl⟩
      have n1 := F.sub_list_set; have n2 := F.sub_list_frozenset; have n3 : (Value.type "list" == Value.type "dict") = false := by decide
      unfold Builtin.«set.__init__» noKeywords Builtin.Frozenset.updateFrom; generalize hgo : pyIter = go; wp_walk; subst hgo
      refine wpAny_pyIter_list hL1 (wpAny_bind (wpAny_runValue ?_))
      have ll := Heap.lt_size hol
      have hhd : A.in1.in1.in1.handled = none := by simp [hh]
      have sz1 : (s.heap.push (bareSet w)).objs.size = s.heap.objs.size + 1 := Heap.size_push ..
      have off : l ≠ (s.heap.push (bareSet w)).objs.size := by rw [sz1]; exact Nat.ne_of_lt (Nat.lt_succ_of_lt ll)
      have out : s.heap.objs.size ∉ [(s.heap.push (bareSet w)).objs.size, l] := by
        intro z
        rcases List.mem_cons.mp z with z | z
        · rw [sz1] at z
          exact absurd z (Nat.ne_of_lt (Nat.lt_succ_self _))
        · exact absurd (List.mem_singleton.mp z) (Nat.ne_of_gt ll)
      refine set_update_ints ((Walks.list hhd _ l off items).toS) s.heap.objs.size out ns hsz hb (items_ints hi) (items.size - 0) 0 _ (by omega) (Nat.zero_le _) ⟨⟨_, Heap.get?_push_size _ rfl, rfl, rfl⟩, hL1.push _⟩ ⟨0, Nat.le_refl 0, setR_new_at (Heap.get?_push_of_some _ g0)⟩ ?_
      rintro ⟨h', g', d', tk', os'⟩ c' hm hc' hS'
      obtain ⟨e1, e2, e3⟩ := (show g' = s.gens ∧ d' = s.drawn ∧ os' = s.os from ⟨hm.gens, hm.drawn, hm.os⟩)
      subst e1; subst e2; subst e3
      refine wpAny_pure (show wpAny _ _ (ret Value.none) _ _ _ from wpAny_pure ⟨rfl, h', tk', c', rfl, hS', by omega, fun b o e => ?_⟩)
      have lb := Heap.lt_size e
      refine hm.heap b o ?_ (Heap.get?_push_of_some _ (Heap.get?_push_of_some _ e))
      intro z
      rcases List.mem_cons.mp z with z | z
      · exact absurd z (Nat.ne_of_lt lb)
      · have z2 := List.mem_singleton.mp z
        rw [sz1] at z2
        exact absurd z2 (Nat.ne_of_lt (Nat.lt_succ_of_lt lb))
    · match res2, hres2 with
      | .error e, hres2 => exact hres2
      | .ok .next, hres2 => exact hres2.elim
      | .ok .cont, hres2 => exact hres2.elim
      | .ok .brk, hres2 => exact hres2.elim
      | .ok (.ret v2), hres2 =>
        obtain ⟨rfl, h', tk, c', rfl, hS'⟩ := hres2
        repeat (any_goals (first | assumption | wp_step))
        exact h _ _ _ hS'
end
open PySem.Spec PyProof.Rows in
/-- sorted of a set of ints, however many -/
theorem set_sorted {P : Program} {w : World} {A : Around} {E : Value → Shared → Prop} {s : Shared} {a : Addr} {S : Int → Bool} {n : Nat} {Q : Value → Shared → Prop} (R : SetR w s.heap a S n) (hh : A.handled = none)
    (q : ∀ s' p (out : List Value) (c : Nat) (ms : List Int), (∀ b o, s.heap.get? b = some o → s'.heap.get? b = some o) → s'.gens = s.gens → s'.os = s.os → s.heap.objs.size ≤ p →
      s'.heap.get? p = some (seqObj "list" out.toArray c) → IntsAre out ms → ms.Pairwise (· < ·) → (∀ k, k ∈ ms ↔ S k = true) → ms.length = n → Q (.ref p) s') : wpAny (model P w) A (call (.builtin "sorted") [.ref a]) Q E s := by
  obtain ⟨o, es, ep, t, g1, g2, g3, good, nod, mem, g4, g5, g6, g7, g8⟩ := R
  refine Calls.call_function_entry kind_sorted plain_sorted entry_sorted (args_sorted1 _) ?_; unfold Builtin.«sorted»
  refine wpAny_bind (m := checkCount "sorted" 1 1 _) (wpAny_pure (wpAny_bind (collect_set (A := A.in1) hh ⟨o, g1, g2.1, g3⟩ g5 g4 g7 g8 fun s1 vs k1 z1 e1 e2 pm => ?_)))
  have len : vs.length = n := by
    rw [pm.length_eq, List.length_map, Array.length_toList]
    exact g6
  have ivs : ∀ e ∈ es.toList, SrtO.iv e.2 = keyOf e := fun e he => by
    obtain ⟨k, tk, h1, _⟩ := good e he
    unfold keyOf
    rw [h1]
    rfl
  have hI : IntsAre vs (vs.map SrtO.iv) := SrtO.ints_iv fun v hv => by
    obtain ⟨e, he, ev⟩ := List.mem_map.mp (pm.mem_iff.mp hv)
    obtain ⟨k, tk, h1, _⟩ := good e he
    exact ⟨k, tk, ev.symm.trans h1⟩
  have prm : (vs.map SrtO.iv).Perm (es.toList.map keyOf) := by
    refine (pm.map SrtO.iv).trans ?_
    rw [List.map_map]
    exact List.Perm.of_eq (List.map_congr_left ivs)
  have zn : n ≤ sizeLine := by
    unfold scanBound at g4
    exact szl (by omega)
  refine wpAny_bind (wpAny_newList ?_ (by rw [len]; exact zn))
  have at1 : (s1.heap.push (seqObj "list" vs.toArray 0)).get? s1.heap.objs.size = some (seqObj "list" vs.toArray 0) := Heap.get?_push_size _ rfl
  refine wpAny_bind (wpAny_holding (wpAny_call_entry slot_list_sort ⟨_, at1, rfl⟩ entry_list_sort (SrtO.list_sort_ord SrtO.swo_int at1 (by rw [len]; exact zn) (fun two => SrtO.ints_sortable hI two) fun out o1 o2 => ⟨_, rfl, ?_⟩) (args_list_sort _)))
  obtain ⟨j1, j2, j3⟩ := SrtO.ints_out hI o1 o2
  obtain ⟨c, at2⟩ := sortedHeap_at (vs := vs) (out := out.toArray) at1
  have prm2 := j2.trans prm
  refine wpAny_pure ⟨_, rfl, q _ s1.heap.objs.size out c _ (fun b u e => ?_) e1 e2 z1 at2 j1 (lt_of_le_nodup _ j3 (prm2.nodup_iff.mpr nod)) (fun k => by rw [prm2.mem_iff, ← mem k]) (by rw [prm2.length_eq, List.length_map, Array.length_toList]; exact g6)⟩
  have e3 := k1 b u e
  have l3 := Heap.lt_size e3
  exact (sortedHeap_old (vs := vs) (out := out.toArray) (Nat.ne_of_lt l3) (by rw [size_push']; exact Nat.lt_succ_of_lt l3)).trans (Heap.get?_push_of_some _ e3)
def tSortSet (K : PySem.W.Frag) (ta : TE) : TE := fun σ H Q => ta σ H fun x H1 => ∃ (l : Addr) (ns : List Int), x = .ref l ∧ SqL K H1 l (ns.map V.int) ∧ ns.length ≤ 4000 ∧
  ∀ (out : List Int) (p : Addr), H1 p = none → out.Pairwise (· < ·) → (∀ k, k ∈ out ↔ k ∈ ns) → out.length ≤ ns.length → Q (.ref p) (upd H1 p (.lst (out.map V.int)))
open PySem.Spec PyProof.Rows in
theorem pe_sortSet {X : Cx} {a : Expr} {ta : TE} {p p2 q pos : Pos} (hg : Gl X "sorted") (hm : X.mg "sorted" = none) (hg2 : Gl X "set") (hm2 : X.mg "set" = none) (ha : PE X a ta) (hc : X.calm = true := by rfl)
    (na : starEach [a] X.env = (false, eval a X.env) :: starEach [] X.env := by rfl) : PE X (.Call (.Name "sorted" p) [.Call (.Name "set" p2) [a] [] q] [] pos) (tSortSet X.K ta) := by
  refine ⟨fun pins s σ H Q I h => ?_⟩
  refine Call_ (ld_blt I hg hm boot_sorted (callWith_builtin1 (args_cons (Call_ (ld_blt I hg2 hm2 boot_set (callWith_type1 (args_cons (thn (ha.run pins s σ H _ I h) fun v s1 ⟨x, H1, I1, r1, q1⟩ => args_nil ?_) na) na rfl))) rfl) rfl rfl))
  obtain ⟨l, ns, rfl, hq, hn, q1⟩ := q1
  cases r1
  obtain ⟨its, r, pl, hz⟩ := I1.list hq
  have hd := I1.ok.hd hc
  refine set_of_list hd pl.isList (by simpa using ints_of_vals r) (by unfold scanBound; omega) fun h' tk c hL => args_nil ?_
  obtain ⟨R1, hcn, kept⟩ := hL
  refine set_sorted (s := { s1 with heap := h', toks := tk }) R1 hd fun s' pp out cc ms k g o hp hgt hi hs hmem hlen => ?_
  have kk : ∀ b u, s1.heap.get? b = some u → s'.heap.get? b = some u := fun b u e => k b u (kept b u e)
  have hpp : s1.heap.objs.size ≤ pp := Nat.le_trans (Nat.le_of_lt R1.lt) hp
  have fr : H1 pp = none := I1.hok.fresh hpp
  have sl : (ms.map V.int).length ≤ sizeLine := by
    rw [List.length_map, hlen]
    exact szl (by omega)
  have hos : s'.os = s1.os := o
  have J : Inv X pins σ (upd H1 pp (.lst (ms.map V.int))) { s1 with heap := s'.heap, gens := s'.gens, drawn := s'.drawn, toks := s'.toks } :=
    I1.call (ch := []) (Un.laid kk hpp fr) (I1.hok.laid kk hpp ⟨sl, out, cc, vals_of_ints hi, hgt⟩) (by rw [g]; exact I1.bare) (fun _ z => nomatch z)
  have es : s' = { s1 with heap := s'.heap, gens := s'.gens, drawn := s'.drawn, toks := s'.toks } := by
    obtain ⟨b1, b2, b3, b4, b5⟩ := s'
    simp only at hos
    subst hos
    rfl
  rw [es]
  exact ⟨.ref pp, _, J, rfl, q1 ms pp fr hs (fun j => (hmem j).trans decide_eq_true_iff) (by omega)⟩
local macro_rules | `(tactic| walk_at "ev1") => `(tactic| first
  | with_reducible assumption
  | ((with_reducible show _ = _); exact rfl)
  | ((first | with_reducible show (_ : Int) = _ | with_reducible show (_ : Int) < _ | with_reducible show (_ : Int) ≤ _ | with_reducible show (_ : Nat) < _ | with_reducible show (_ : Nat) ≤ _); first | omega | decide | (simp only [pw6, pw9]; omega) | (simp only [List.length_cons, List.length_nil, List.length_append, List.length_map, List.length_replicate]; omega))
  | assumption
  | exact upd_same
  | exact SqL.of upd_same
  | exact Or.inl (SqL.of upd_same)
  | exact Or.inl (by assumption)
  | exact Or.inr (by assumption)
  | omega
  | exact (show CDiv _ _ from ⟨by omega, by omega⟩)
  | exact (show CPow _ _ from ⟨by omega, by omega, by omega⟩)
  | exact (show CMul _ _ from .inl ⟨by omega, by omega⟩)
  | exact (show CMul _ _ from .inr ⟨by omega, by omega⟩)
  | exact (show CMul _ _ from cmul_b)
  | exact (show CDivW _ _ from wide_div (b := 31) (by omega) (by omega) (by decide) (by decide))
  | exact (Or.inl ⟨rfl, _, SqL.of (by assumption)⟩)
  | exact ClsV.ty _
  | exact .cons (.ty _) (.cons (.ty _) .nil)
  | (refine szl ?_; simp only [List.length_cons, List.length_nil, List.length_append, List.length_map, List.length_replicate]; omega)
  | (refine szm ?_; simp only [List.length_cons, List.length_nil, List.length_append, List.length_map, List.length_replicate]; omega))
local macro_rules | `(tactic| walk_at "s") => `(tactic| (first
  | (refine And.intro ?l ?_; (case l => walk_at "ev1"))
  | with_reducible refine iteT ?_
  | with_reducible refine iteF ?_
  | with_reducible refine ite_dec rfl ?_
  | with_reducible refine iteNS rfl ?_
  | with_reducible refine iteNS (by assumption) ?_
  | (apply Or.inl; apply Exists.intro; apply And.intro rfl)
  | (apply Or.inr; apply Exists.intro; apply And.intro rfl)
  | ((fail_if_success (refine @Exists.intro (Nat → Nat → L2.St → Hp → Prop) _ ?_ ?_)); (fail_if_success (refine @Exists.intro (Nat → L2.St → Hp → Prop) _ ?_ ?_)); (fail_if_success (refine @Exists.intro (L2.St → Hp → Prop) _ ?_ ?_)); (fail_if_success (refine @Exists.intro (Hp → Prop) _ ?_ ?_)); (fail_if_success (refine @Exists.intro (Nat → Nat → Hp → Prop) _ ?_ ?_)); apply Exists.intro)))
local macro_rules | `(tactic| walk_at "ev") => `(tactic| repeat (walk_at "s"))
local macro_rules | `(tactic| w_cond $i:ident) => do
  let b := (i.getId.toString.drop 1).toString
  let l := Lean.mkIdent (.mkSimple ("l" ++ b))
  let hl := Lean.mkIdent (.mkSimple ("hl" ++ b))
  let h := Lean.mkIdent (.mkSimple ("H" ++ b))
  let sm := Lean.mkIdent (.mkSimple ("sm" ++ b))
  let hq := Lean.mkIdent (.mkSimple ("hq" ++ b))
  `(tactic| (intro $l:ident $hl:ident; generalize hG : upd _ $l:ident _ = $h:ident; obtain ⟨$sm:ident, $hq:ident⟩ := newO hG $hl:ident; clear hG))
/-! ### a caught exception that a name keeps behind its clause -/
/-- at a: an exception of the class at C, its dict at d -/
def XOb (C d a : Addr) : HO := .ext fun h => ∃ (ob : Obj) (fl : Array Value), h.get? a = some ob ∧ Zc (.ref C) (some d) ob ∧ ob.data = .fields fl
theorem xob_ok {P : Program} {w : World} {H : Hp} {h : Heap} {C d a : Addr} {ob : Obj} {fl : Array Value} (q1 : h.get? a = some ob) (q2 : Zc (.ref C) (some d) ob) (q3 : ob.data = .fields fl) : ObjOk P w H h a (XOb C d a) :=
  ⟨⟨ob, fl, q1, q2, q3⟩, ⟨ob, q1⟩, fun _ _ ⟨u, v, r1, r2⟩ k => ⟨u, v, k u r1, r2⟩⟩
/-- an object of the heap that nobody tracks is tracked from now on -/
theorem track {X : Cx} {pins : List (Addr × Obj)} {σ : L2.St} {H : Hp} {s : Shared} {a : Addr} {o : HO} (I : Inv X pins σ H s) (n0 : X.s_0.heap.get? a = none) (hn : H a = none) (nL : a ≠ X.env.locals) (nC : ∀ x c, X.env.cells.lookup x = some c → c ≠ a)
    (nP : ∀ p ∈ X.pn ++ pins, p.1 ≠ a) (new : ObjOk X.prog X.w (upd H a o) s.heap a o) : Inv X pins σ (upd H a o) s := by
  have ne : ∀ {b : Addr} {u : HO}, H b = some u → b ≠ a := fun e => ne_of_none e hn
  refine ⟨I.ok, I.os, I.bare, ⟨I.base.keep, I.base.slot, fun b u e n hx => ?_, I.base.there, fun b xs e => ?_, fun b u v e => ?_, fun b ps e => ?_⟩, I.loc, I.cell, ?_, fun x c e => ?_, fun p hp => ?_, I.hok.laidN (fun _ _ z => z) hn new, I.len⟩
  · have : b ≠ a := fun z => by
      rw [z, n0] at e
      cases e
    rw [upd_ne this]
    exact I.base.free b u e n hx
  · have q := I.base.tups b xs e
    rw [upd_ne (ne q)]
    exact q
  · have q := I.base.frzs b u v e
    rw [upd_ne (ne q)]
    exact q
  · obtain ⟨m, q⟩ := I.base.tbls b ps e
    exact ⟨m, by rw [upd_ne (ne q)]; exact q⟩
  · rw [upd_ne nL.symm]
    exact I.free
  · rw [upd_ne (nC x c e)]
    exact I.freeC x c e
  · obtain ⟨e, n, r⟩ := I.pin p hp
    exact ⟨e, by rw [upd_ne (nP p hp)]; exact n, r⟩
/-- what 'except x as n: ..' wishes, the exception tracked behind it -/
def wKeep (K : PySem.W.Frag) (c : Value) (i : Nat) (ts : Addr → TS) (Wout : WX) (D : Ends) : WX := fun cls d σ H =>
  ∃ b, PySem.W.exmOne K cls c = some b ∧ (b = true → ∃ C dd, cls = .ref C ∧ d = some dd ∧ ∀ a, H a = none →
    ts a { nx := fun σ2 H2 => D.nx (σ2.set i none) (upd H2 a (XOb C dd a)), rt := fun _ _ => False, bk := fun _ _ => False, ct := fun _ _ => False } (σ.set i (some (.ref a))) H) ∧ (b = false → Wout cls d σ H)
section
variable {X : Cx} {x n : Str} {c : Value} {i : Nat} {body suite : List Stmt} {b₀ : Stmt} {np pos pos' : Pos} {tb : WX → TS} {ts : Addr → TS} {Wout : WX}
theorem ps_try_keep (hs : X.stack = X.env :: X.outer) (hf : X.env.frame = some X.env.locals) (hex : X.ex = []) (hN : X.N.Nodup) (hi : X.N[i]? = some n) (hln : X.env.kindOf n = some .local) (hc : Names X x c) (tk : Takes X Wout)
    (hb : ∀ (W : WX) (pn : List (Addr × Obj)) (xe : Value → Shared → Prop), Takes (X.tr pn xe) W → PassesOwn (model X.prog X.w) X.A X.env xe → PSs (X.tr pn xe) body (tb W))
    (hsu : ∀ (a : Addr) (pn : List (Addr × Obj)), PSs (X.suite a pn) (b₀ :: suite) (ts a)) :
    PS X (.Try body [.ExceptHandler (some (.Name x np)) (some n) (b₀ :: suite) pos'] [] [] pos) (fun D σ H => tb (wKeep X.K c i ts Wout D) D σ H) := by
  refine ⟨fun pins s σ H D I h => ?_⟩
  have ok := I.ok
  have fr : X.A.frames = some (X.env :: X.outer) := ok.frames.trans (congrArg some hs)
  refine wpAny_Try_except (wpAny_mono ((hb (wKeep X.K c i ts Wout D) (X.pn ++ pins) (fun e s1 => wpAny (model X.prog X.w) X.A (noteFrame e X.env)
    (fun _ s2 => wpAny (model X.prog X.w) X.A (setFlight e none) (fun _ s3 => wpAny (model X.prog X.w) X.A (handleBy e X.env [.ExceptHandler (some (.Name x np)) (some n) (b₀ :: suite) pos']) (SP X pins D) X.xe s3) X.xe s2) X.xe s1)
    (fun u s1 fly => ?_) PassesOwn.looking).run [] s σ H D (I.toTry _) h) (fun f s1 q => ?_) (fun _ _ z => z))
  · obtain ⟨a, B, s0, pins1, σ1, H1, cls, d, rfl, J0, nb, up, sky, na, os, ag, b, hm, yes, no⟩ := fly
    have J : Inv X pins σ1 H1 s0 := J0.ofTry ok
    have sky1 : Sky B (X.env :: X.outer) a (Zc cls d) X.env.locals s1.heap := hs ▸ sky
    show wpAny (model X.prog X.w) X.A (noteFrame (.ref a) X.env) _ _ _
    refine Sky.land Zc.steady fr hf sky1 fun g3 fly3 up3 => ?_
    have J3 : Inv X pins σ1 H1 { s1 with heap := g3 } := J.landed nb fly3.1 (up.trans up3) os ag
    obtain ⟨o3, f3, e3, z3, d3⟩ := fly3.there
    have away : a ∉ frs (X.env :: X.outer) := fun hmem => by
      obtain ⟨_, o', e', hnf⟩ := fly3.2.2.1.mem hmem
      cases e3.symm.trans e'
      exact hnf _ d3
    have nL : a ≠ X.env.locals := fun z => away (List.mem_filterMap.mpr ⟨X.env, List.mem_cons_self, hf.trans (congrArg some z.symm)⟩)
    have nF : a ∉ X.fs := fun hmem => by
      obtain ⟨e, he, q⟩ := List.mem_filterMap.mp hmem
      exact away (List.mem_filterMap.mpr ⟨e, List.mem_cons_of_mem _ he, q⟩)
    have nB : B.get? a = none := fly3.2.1
    have n0 : X.s_0.heap.get? a = none := by
      cases e : X.s_0.heap.get? a with
      | none => rfl
      | some o =>
        obtain ⟨o', q⟩ := J.base.there a o e (by rw [hex]; exact fun z => nomatch z)
        have q2 := nb a o' q (by rw [hs]; exact away)
        rw [nB] at q2
        cases q2
    have nP : ∀ p ∈ X.pn ++ pins, p.1 ≠ a := fun p hp z => by
      obtain ⟨q, _⟩ := J.pin p hp
      have q2 := nb p.1 p.2 q (by rw [hs, z]; exact away)
      rw [z, nB] at q2
      cases q2
    have S3 := J3.suite e3 d3 na nL nF
    have lt : PySem.W.Looks (model X.prog X.w) g3 (typeOf (.ref a)) cls := fun A Q E s k q => wpAny_typeOf_ref (k _ _ e3) (by rw [z3.1]; exact q)
    have lm := PySem.W.exm_one (M := model X.prog X.w) J3.kIn lt hm
    refine wpAny_handleBy_cons (codeAny_handlers_test ?_) (fun q => nomatch q)
    have named : ∀ {Q E : Value → Shared → Prop}, Q c { s1 with heap := g3 } → wpAny (model X.prog X.w) (X.A.mark (some (.ref a))) (eval (.Name x np) X.env) Q E { s1 with heap := g3 } := fun {Q E} q => by
      rcases hc with ⟨hg, hdb, hm1 | ⟨hm1, hv, hnn⟩⟩
      · exact ld_glob (X := X.suite a ((a, o3) :: (X.pn ++ pins))) S3 hg hm1 q hdb
      · exact ld_blt (X := X.suite a ((a, o3) :: (X.pn ++ pins))) S3 hg hm1 hv q hnn hdb
    refine named (lm.here ?_)
    cases b with
    | true =>
      obtain ⟨C, dd, ec, ed, yes⟩ := yes rfl
      refine codeAny_handlers_suite_as (HandSPX.lands_againZ fly3 fun g4 fly4 up4 => ?_)
      have J4 : Inv X pins σ1 H1 { s1 with heap := g4 } := J.landed nb fly4.1 ((up.trans up3).trans up4) os ag
      obtain ⟨o4, f4, e4, z4, d4⟩ := fly4.there
      refine store_ok (X := X.suite a ((a, o4) :: (X.pn ++ pins))) (v := .ref a) (J4.suite e4 d4 na nL nF) hN hi (.inl hln) rfl (fun s5 S5 => ?_) (.inr hln)
      refine wpAny_mono ((hsu a ((a, o4) :: (X.pn ++ pins))).run [] s5 _ H1 _ S5 (yes a na)) (fun f s6 q6 => ?_) (fun _ _ z => z.elim)
      cases f with
      | next =>
        obtain ⟨σ6, H6, S6, q6⟩ := q6
        refine gone_ok (X := X.suite a ((a, o4) :: (X.pn ++ pins))) (pins := []) S6 hN hi hln fun s7 S7 => ?_
        obtain ⟨e7, n7, _⟩ := S7.pin (a, o4) (List.mem_append_left _ List.mem_cons_self)
        refine ⟨_, _, track (S7.unsuite ok) n0 n7 nL (fun y c' ey z => ?_) nP (xob_ok (C := C) (d := dd) e7 (by rw [← ec, ← ed]; exact z4) d4), q6⟩
        obtain ⟨v, ob, q1, q2⟩ := S7.cell y c' ey
        subst z
        cases e7.symm.trans q1
        cases d4.symm.trans q2
      | brk =>
        obtain ⟨_, _, _, q6⟩ := q6
        exact q6.elim
      | cont =>
        obtain ⟨_, _, _, q6⟩ := q6
        exact q6.elim
      | ret u =>
        obtain ⟨_, _, _, _, _, q6⟩ := q6
        exact q6.elim
    | false =>
      show wpAny _ X.A (handleBy (.ref a) X.env []) _ _ _
      refine wpAny_handleBy_nil ?_
      obtain ⟨k1, k2, k3, ob, fl, T, oT, tl, he, hz, hd, h1, hr⟩ := id fly3
      unfold PySem.passOn
      refine wpAny_bind (wpAny_field he hd h1 ?_)
      rw [if_neg (show ¬ ((Value.ref T == Value.none) = true) from by simp)]
      have fin : wpAny (model X.prog X.w) X.A (setFlight (.ref a) X.env.frame) (fun _ s4 => wpAny (model X.prog X.w) X.A (throw (.ref a) : Sem Flow) (SP X pins D) X.xe s4) X.xe { s1 with heap := g3 } := by
        rw [hf]
        exact HandSPX.setFlight_upZ fly3 fun g4 held4 up4 => wpAny_throw (tk _ _ ⟨a, B, s0, pins, σ1, H1, cls, d, rfl, J, nb, (up.trans up3).trans up4, .inr (.inr (hs ▸ held4)), na, os, ag, no rfl⟩)
      first
        | exact wpAny_bind (wpAny_pure (wpAny_bind fin))
        | exact wpAny_bind fin
  · cases f with
    | next =>
      obtain ⟨σ1, H1, J, q⟩ := q
      exact wpAny_execs_nil ⟨σ1, H1, J.ofTry ok, q⟩
    | brk =>
      obtain ⟨σ1, H1, J, q⟩ := q
      exact ⟨σ1, H1, J.ofTry ok, q⟩
    | cont =>
      obtain ⟨σ1, H1, J, q⟩ := q
      exact ⟨σ1, H1, J.ofTry ok, q⟩
    | ret u =>
      obtain ⟨v, σ1, H1, J, r, q⟩ := q
      exact ⟨v, σ1, H1, J.ofTry ok, r, q⟩
end
/-- what is told of an own exception class -/
structure ExK (K : PySem.W.Frag) (C : Addr) : Prop where
  oex : OexC K C
  xf : XfC K C
  ec : ExcC K C
  nw : PySem.W.findIn K (.ref C) "what" = some none
/-- an exception object, tracked, with its fields -/
def XAt (H : Hp) (a C : Addr) (fs : List (Str × V)) : Prop := ∃ d, H a = some (XOb C d a) ∧ H d = some (.xd fs)
theorem XAt.same {H H' : Hp} {a C : Addr} {fs : List (Str × V)} (h : XAt H a C fs) (e : Same H H') : XAt H' a C fs := by
  obtain ⟨d, h1, h2⟩ := h
  exact ⟨d, e _ _ h1, e _ _ h2⟩
theorem xat_inst {X : Cx} {pins : List (Addr × Obj)} {σ : L2.St} {H : Hp} {s : Shared} {a C : Addr} {fs : List (Str × V)} (I : Inv X pins σ H s) (h : XAt H a C fs) : ∃ (ob od : Obj) (mA : Str → Option Value), PySem.W.InstAt s.heap a ob C (some od) ∧ (∀ name, PySem.W.lookIn name od = some (mA name)) ∧ ∀ f, RelO (fs.lookup f) (mA f) := by
  obtain ⟨d, h1, h2⟩ := h
  obtain ⟨⟨ob, fl, q1, q2, q3⟩, _, _⟩ := (show ObjOk X.prog X.w H s.heap a (XOb C d a) from I.hok a _ h1)
  obtain ⟨mA, hns, hr⟩ := (show ObjOk X.prog X.w H s.heap d (.xd fs) from I.hok d _ h2)
  obtain ⟨od, ho, hl⟩ := lookIn_ns hns
  exact ⟨ob, od, mA, ⟨q1, q2.1, by unfold PySem.W.notCls; rw [q3] <;> rfl, by rw [q2.2]; exact ho⟩, hl, hr⟩
/-- isinstance(e, c), e tracked -/
def rIsX (K : PySem.W.Frag) : List V → Hp → VK → Prop := fun xs H Q => ∃ (a C : Addr) (fs : List (Str × V)) (c : V) (cv : Value) (b : Bool), xs = [.ref a, c] ∧ XAt H a C fs ∧ ExK K C ∧ ClsV c cv ∧ PySem.W.kitOne K (.ref C) cv = some b ∧ Q (.bl b) H
def rIsXT (K : PySem.W.Frag) : List V → Hp → VK → Prop := fun xs H Q => ∃ (a C tp : Addr) (fs : List (Str × V)) (cs : List V) (us : List Value) (b : Bool), xs = [.ref a, .ref tp] ∧ H tp = some (.tup cs) ∧ XAt H a C fs ∧ ExK K C ∧ Paired ClsV cs us ∧ PySem.W.kitAny K (.ref C) us = some b ∧ Q (.bl b) H
theorem kit_x {K : PySem.W.Frag} {a C : Addr} {ob od : Obj} (E : ExK K C) : PySem.W.KitX K (.ref a) (.ref C) (fun h => PySem.W.InstAt h a ob C (some od)) := by
  obtain ⟨cd, hc, _⟩ := PySem.W.any_some E.ec.hd
  exact PySem.W.kitx_exc (by rw [hc]; rfl) E.ec.hg E.ec.hk E.ec.hs E.ec.ha E.ec.hn E.ec.ht E.ec.hm
theorem call_isX {X : Cx} : CallR X (.builtin "isinstance") (rIsX X.K) := by
  intro pins s σ H xs us Q I r h
  obtain ⟨a, C, fs, c, cv, b, rfl, hx, E, k, e, q⟩ := h
  obtain ⟨u1, u2, rfl, r1, r2⟩ := vals2 r
  cases (show u1 = Value.ref a from r1)
  have e2 := k.eq r2
  subst e2
  obtain ⟨ob, od, mA, J, _, _⟩ := xat_inst I hx
  exact PySem.W.kia_one (kit_x E) I.kIn J e (fun z => nomatch z) fun tk => ⟨.bl b, H, I.tok tk, rfl, q⟩
theorem call_isXT {X : Cx} : CallR X (.builtin "isinstance") (rIsXT X.K) := by
  intro pins s σ H xs us Q I r h
  obtain ⟨a, C, tp, fs, cs, ws, b, rfl, hT, hx, E, k, e, q⟩ := h
  obtain ⟨u1, u2, rfl, r1, r2⟩ := vals2 r
  cases (show u1 = Value.ref a from r1)
  cases (show u2 = Value.ref tp from r2)
  obtain ⟨ob, od, mA, J, _, _⟩ := xat_inst I hx
  obtain ⟨_, its, rv, o, h1, h2, n, h3⟩ := (show ObjOk X.prog X.w H s.heap tp (.tup cs) from I.hok tp _ hT)
  have e3 := ClsV.all k rv
  subst e3
  rcases o with ⟨oc, od', dt, sl⟩
  dsimp only at h2 h3
  cases h2
  cases h3
  exact PySem.W.kia_tup (kit_x E) I.kIn J h1 e (fun z => nomatch z) fun tk => ⟨.bl b, H, I.tok tk, rfl, q⟩
/-- e.f, e tracked -/
def tXw (K : PySem.W.Frag) (f : Str) (te : TE) : TE := fun σ H Q => te σ H fun x H1 => ∃ (a C : Addr) (fs : List (Str × V)) (v : V), x = .ref a ∧ XAt H1 a C fs ∧ ExK K C ∧ PySem.W.findIn K (.ref C) f = some none ∧ fs.lookup f = some v ∧ Q v H1
theorem pe_xw {X : Cx} {e : Expr} {te : TE} {pos : Pos} {n : Str} (he : PE X e te) (hb : attributeBase e n X.env (eval e X.env) = eval e X.env := by rfl) : PE X (.Attribute e n pos) (tXw X.K n te) := by
  refine ⟨fun pins s σ H Q I h => attr_of hb (thn (he.run pins s σ H _ I h) fun u s1 hh => ?_)⟩
  obtain ⟨x, H1, I1, rx, a, C, fs, v, ex, hx, E, hno, l, q⟩ := hh
  subst ex
  cases (show u = Value.ref a from rx)
  obtain ⟨ob, od, mA, J, hl, hr⟩ := xat_inst I1 hx
  obtain ⟨u, hu, ru⟩ := RelO.some_of (v := v) (o := mA n) (by rw [← l]; exact hr n)
  exact HandSPX.exc_get I1.kIn J E.xf.ga E.xf.gg E.xf.exC (PySem.W.findObj_own E.xf.hdC hno rfl (by rw [hl, hu])) (handed_of ru) ⟨v, H1, I1.tok _, ru, q⟩
/-! ### methods and classes, what they raise wished for at the caller's slots -/
def tMethS (C : Addr) (m : Str) (sp : Sp) (E : L2.St → XK) (ta : TE) (t : TA) : TE := fun σ H Q => ta σ H fun x H1 => ∃ a dx fs, x = .ref a ∧ H1 a = some (.ins C dx fs) ∧ fs.lookup m = none ∧ t σ H1 fun vs H2 => sp (x :: vs) H2 Q (E σ)
def tMakeS (C : Addr) (sp : Sp) (E : L2.St → XK) (t : TA) : TE := fun σ H Q => t σ H fun vs H1 => ∀ x dx, H1 x = none → H1 dx = none → dx ≠ x → sp (.ref x :: vs) (upd (upd H1 dx (.own x)) x (.ins C dx [])) (fun v H2 => v = .non ∧ Q (.ref x) H2) (E σ)
section
variable {X : Cx} {CX : CXT} {k : Nat} {f C : Addr} {fd : FuncData} {ps : List Str} {sp : Sp} {E : L2.St → XK} {x m : Str} {p pos apos : Pos} {e o : Expr} {es : List Expr} {ta : TE} {t : TA}
theorem pe_methS {pl : Sem Bool} (he : PE X o ta) (c : L2.Cls X.K C) (hm : Meth X.K C m f) (F : FnOk X.prog X.w X.K X.mg X.base CX k f fd ps sp) (hr : Room k X.A) (hb : Binds X.K fd ps []) (hx : ∀ σ, PassesAt CX X σ (E σ)) (ha : PA X (e :: es) t)
    (hst : starEach (e :: es) X.env = (false, eval e X.env) :: starEach es X.env := by rfl) (hpl : (backTo pos (starEach es X.env)).any (·.1) = false := by rfl)
    (ht : eval (.Call (.Attribute o m apos) (e :: es) [] pos) X.env = (do
      let ov ← eval o X.env
      standAt apos.atName
      let (f, first) ← holding [ov] (getMethod ov m pl)
      callWith pos f first (backTo pos (starEach (e :: es) X.env)) (backToKw pos (keywordEach [] X.env))) := by rfl) : PE X (.Call (.Attribute o m apos) (e :: es) [] pos) (tMethS C m sp E ta t) := by
  refine ⟨fun pins s σ H Q I h => PySem.W.methodCall_KW (pl := pl) (thn (he.run pins s σ H _ I h) fun u s1 q1 => ?_) ht⟩
  obtain ⟨y, H1, I1, ry, a, dx, fs, ey, ea, l, q⟩ := q1
  subst ey
  cases (show u = Value.ref a from ry)
  refine getmeth_ok I1 ea c hm l (PySem.W.callWith_K (first := [.ref a]) (h₀ := X.base) I.ok.mod.kin hm.kp (thn (ha.run pos pins s1 σ H1 _ I1 q) fun us s2 q2 => ?_) hst hpl)
  obtain ⟨vs, H2, I2, r, q2⟩ := q2
  exact ⟨I2.kIn, run_fnS (us := .ref a :: us) (vs := .ref a :: vs) F hr hb (hx σ) I2 (.cons rfl r) q2⟩
theorem run_makeS {pins : List (Addr × Obj)} {σ : L2.St} {H : Hp} {s : Shared} {Q : VK} {us : List Value} {vs : List V} (M : Mk X.K C f) (F : FnOk X.prog X.w X.K X.mg X.base CX k f fd ps sp) (hr : Room (k + 1) X.A) (hb : Binds X.K fd ps []) (hx : PassesAt CX X σ (E σ)) (I : Inv X pins σ H s) (r : Vals vs us)
    (h : ∀ y dx, H y = none → H dx = none → dx ≠ y → sp (.ref y :: vs) (upd (upd H dx (.own y)) y (.ins C dx [])) (fun v H2 => v = .non ∧ Q (.ref y) H2) (E σ)) : wpAny (model X.prog X.w) X.A (call (.ref C) us) (EP X pins σ Q) X.xe s := by
  have hq := h (s.heap.objs.size + 1) s.heap.objs.size (I.hok.fresh (Nat.le_succ _)) (I.hok.fresh (Nat.le_refl _)) (Nat.ne_of_lt (Nat.lt_succ_self _))
  have J := Inv.made (C := C) I
  have r2 : Vals (V.ref (s.heap.objs.size + 1) :: vs) (Value.ref (s.heap.objs.size + 1) :: us) := .cons rfl r
  have hl : (Value.ref (s.heap.objs.size + 1) :: us).length = ps.length := r2.length.symm.trans (F.len _ _ _ _ hq)
  have bi := hb _ (Value.ref (s.heap.objs.size + 1) :: us) J.kIn (by rw [List.append_nil]; exact hl)
  rw [List.append_nil] at bi
  refine wpAny_call (make_map (f := f) I.kIn M.makes M.init (beq_iff_eq.mp M.fn) (codeAny_mono (F.run _ X.stack _ _ ⟨_, []⟩ _ _ _ (E σ) (hr.make C us []) (J.env0.make C us []) bi r2 hq) fun rs s1 q1 => ?_))
  cases rs with
  | error er => exact hx pins _ _ er s1 J q1
  | ok fl =>
    cases fl with
    | ret u =>
      obtain ⟨v, H3, I3, rv, ev, q3⟩ := J.after q1
      subst ev
      exact ⟨rv, ⟨V.ref (s.heap.objs.size + 1), H3, I3, rfl, q3⟩⟩
    | next => exact q1.elim
    | brk => exact q1.elim
    | cont => exact q1.elim
theorem pe_makeS (M : Mk X.K C f) (F : FnOk X.prog X.w X.K X.mg X.base CX k f fd ps sp) (hr : Room (k + 1) X.A) (hg : Gl X x) (hm : X.mg x = some (.ref C)) (hb : Binds X.K fd ps []) (hx : ∀ σ, PassesAt CX X σ (E σ)) (ha : PA X (e :: es) t)
    (hdb : (x == ("__debug__" : Str)) = false := by decide) (he : starEach (e :: es) X.env = (false, eval e X.env) :: starEach es X.env := by rfl) (hpl : (backTo pos (starEach es X.env)).any (·.1) = false := by rfl) : PE X (.Call (.Name x p) (e :: es) [] pos) (tMakeS C sp E t) := by
  refine ⟨fun pins s σ H Q I h => wpAny_Call_Name_kw (ld_glob I hg hm (PySem.W.callWith_K (h₀ := X.base) I.ok.mod.kin M.kp (thn (ha.run pos pins s σ H _ I h) fun us s1 q1 => ?_) he hpl) hdb)⟩
  obtain ⟨vs, H1, I1, r, q⟩ := q1
  exact ⟨I1.kIn, run_makeS M F hr hb (hx σ) I1 r q⟩
end
/-! ### the drawing -/
theorem log2_lt60 {t : Int} (h0 : 0 < t) (h : t < 1152921504606846976) : t.natAbs.log2 < 9000 := by
  have h1 : t.natAbs < 2 ^ 60 := by
    have : (2 : Nat) ^ 60 = 1152921504606846976 := by decide
    omega
  exact Nat.lt_trans ((Nat.log2_lt (by omega)).mpr h1) (by decide)
abbrev s__law_take : Stmt := top 18
abbrev N__law_take : List Str := ["_law_box_here", "_law_top", "_law_found", "_law_once"]
abbrev P__law_take : List Str := ["_law_box_here", "_law_top"]
theorem sc__law_take : FnScope N__law_take P__law_take (defScope s__law_take) := ⟨rfl, rfl, rfl, by decide +kernel, rfl, by decide +kernel, by decide +kernel⟩
def spTake : Sp := fun vs H Q _ => ∃ (b : Addr) (top n : Int), vs = [.ref b, .int top] ∧ BoxAt H b n ∧ 0 < top ∧ top < 1152921504606846976 ∧ n < 1048576 ∧ ∀ r H', 0 ≤ r → r < top → Keep b H H' → BoxAt H' b (n + 1) → Q (.int r) H'
section
variable {P : Program} {w : World} {K : PySem.W.Frag} {mg : Str → Option Value} {base : Heap}
theorem ok_take {f : Addr} {fd : FuncData} {k : Nat} (F : Fun K "_law_take" "_law_take" s__law_take f fd) : FnOk P w K mg base CX0 (k + 1) f fd P__law_take spTake := by
  have nd := sc__law_take.nd
  refine F.ok sc__law_take (fun vs H Q E h => ?_) (fun cdv A outer s H vs Q E hr h => ?_)
  · obtain ⟨b, top, n, rfl, _⟩ := h
    rfl
  · obtain ⟨b, top, n, rfl, ⟨x, y, z, hb, hx, hy, hy2, hz, hzn⟩, ht, ht2, hn, q⟩ := h
    refine ⟨_, (pss_cons (ps_if (pt_cmpR op_gt (pe_ix (r := rIxL K) ix_list (pv 0) (pe_int) (fun _ _ => rfl)) (pe_int) (nomark _)) (pss_cons (ps_set (i := 2) nd rfl (Or.inl rfl) (pe_op op_mod (pe_ix (r := rIxL K) ix_list (pv 0) (pe_int) (fun _ _ => rfl)) (pv 1)))
      (pss_cons (ps_asg (pe_op op_fdivW (pe_ix (r := rIxL K) ix_list (pv 0) (pe_int) (fun _ _ => rfl)) (pv 1)) (pg_sub (pv 0) (pe_int) set_list))
      (pss_one (ps_ret (pv 2))))) pss_nil)
      (pss_cons (ps_asg (pe_op op_add (pe_ix (r := rIxL K) ix_list (pv 0) (pe_int) (fun _ _ => rfl)) (pe_int)) (pg_sub (pv 0) (pe_int) set_list))
      (pss_cons (ps_set (i := 3) nd rfl (Or.inl rfl) (pe_op op_mod (pe_op op_pow (pe_op op_add (pe_ix (r := rIxL K) ix_list (pv 0) (pe_int) (fun _ _ => rfl)) (pe_op op_mul (pe_int) (pe_ix (r := rIxL K) ix_list (pv 0) (pe_int) (fun _ _ => rfl)))) (pe_int)) (pe_int)))
      (pss_one (ps_ret (pe_op op_mod (pe_op op_fdivW (pe_op op_mod (pe_op op_add (pe_op op_mul (pv 3) (pe_op op_add (pe_op op_mod (pv 3) (pe_int)) (pe_int))) (pe_op op_mul (pe_ix (r := rIxL K) ix_list (pv 0) (pe_int) (fun _ _ => rfl)) (pe_int))) (pe_int)) (pe_int)) (pv 1))))))), ?_⟩
    have hL : SqL K H b [.int x, .int y, .int z] := SqL.of hb
    have cw : ∀ i : Int, CDivW i top := fun i => ⟨ht, log2_lt60 ht ht2⟩
    have cw6 : ∀ i : Int, CDivW i 64 := fun i => ⟨by decide, by decide⟩
    have cw1 := cw x
    walk_at "ev"
    refine ite2 (fun e => ?_) (fun e => ?_)
    · have e1 : 0 < x := of_decide_eq_true e
      walk_at "ev"
      exact q _ _ (Int.emod_nonneg _ (by omega)) (Int.emod_lt_of_pos _ ht) (keep_upd (Keep.refl _ _)) ⟨_, _, _, upd_same, Int.ediv_nonneg hx (by omega), hy, hy2, hz, by omega⟩
    · walk_at "ev"
      exact q _ _ (Int.emod_nonneg _ (by omega)) (Int.emod_lt_of_pos _ ht) (keep_upd (Keep.refl _ _)) ⟨_, _, _, upd_same, hx, hy, hy2, by omega, by omega⟩
end
abbrev s__law_box : Stmt := top 17
abbrev N__law_box : List Str := ["_law_script", "_law_k", "_law_cell"]
abbrev P__law_box : List Str := ["_law_script", "_law_k"]
theorem sc__law_box : FnScope N__law_box P__law_box (defScope s__law_box) := ⟨rfl, rfl, rfl, by decide +kernel, rfl, by decide +kernel, by decide +kernel⟩
def spBox (K : PySem.W.Frag) : Sp := fun vs H Q _ => ∃ (a : Addr) (ns : List Int) (k : Int), vs = [.ref a, .int k] ∧ SqL K H a (ns.map V.int) ∧ 0 ≤ k ∧ k ≤ 100000 ∧ ∀ p H', H p = none → Same H H' → BoxAt H' p 0 → Q (.ref p) H'
section
variable {P : Program} {w : World} {K : PySem.W.Frag} {mg : Str → Option Value} {base : Heap}
theorem ok_box {f : Addr} {fd : FuncData} {k : Nat} (F : Fun K "_law_box" "_law_box" s__law_box f fd) (T : Blt mg) : FnOk P w K mg base CX0 (k + 1) f fd P__law_box (spBox K) := by
  have nd := sc__law_box.nd
  refine F.ok sc__law_box (fun vs H Q E h => ?_) (fun cdv A outer s H vs Q E hr h => ?_)
  · obtain ⟨b, top, n, rfl, _⟩ := h
    rfl
  · obtain ⟨a, ns, k, rfl, hL, h0, h1, q⟩ := h
    refine ⟨_, (pss_cons (ps_set (i := 2) nd rfl (Or.inl rfl) (pe_int))
      (pss_cons (ps_if (pt_cmpR op_lt (pv 1) (pe_callB (r := rLenQ K) call_len_seq (by rfl) T.b_len (by decide +kernel) (pa_cons (pv 0) pa_nil)) (nomark _)) (pss_one (ps_set (i := 2) nd rfl (Or.inl rfl) (pe_ix (r := rIxL K) ix_list (pv 0) (pv 1) (fun _ _ => rfl)))) pss_nil)
      (pss_one (ps_ret (pe_lst (pa_cons (pe_op op_mul (pe_callB call_abs (by rfl) T.b_abs (by decide +kernel) (pa_cons (pv 2) pa_nil)) (pe_callTy call_int1 (by rfl) T.b_int (by decide +kernel) (pa_cons (pe_cmpR op_ge (pe_callB call_abs (by rfl) T.b_abs (by decide +kernel) (pa_cons (pv 2) pa_nil)) (pe_op op_pow (pe_int) (pe_int)) (nomark _)) pa_nil))) (pa_cons (pe_op op_add (pe_op op_add (pe_op op_mod (pv 2) (pe_int)) (pe_op op_mul (pe_int) (pv 1))) (pe_int)) (pa_cons (pe_int) pa_nil)))))))), ?_⟩
    have fin : ∀ c : Int, ∀ p, H p = none → Q (.ref p) (upd H p (.lst [.int ((if c < 0 then -c else c) * (if decide ((10 : Int) ^ 18 ≤ if c < 0 then -c else c) then 1 else 0)), .int (c % 2147483629 + 7919 * k + 11), .int 0])) := by
      intro c p hp
      refine q p _ hp (same_new hp) ⟨_, _, _, upd_same, ?_, ?_, ?_, by omega, by omega⟩
      · refine Int.mul_nonneg ?_ ?_
        · split <;> omega
        · split <;> omega
      · have := Int.emod_nonneg c (show (2147483629 : Int) ≠ 0 by decide)
        omega
      · have := Int.emod_lt_of_pos c (show (0 : Int) < 2147483629 by decide)
        omega
    walk_at "ev"
    refine ite2 (fun e => ?_) (fun e => ?_)
    · have e1 : k < ((ns.map V.int).length : Int) := of_decide_eq_true e
      rw [List.length_map] at e1
      obtain ⟨c, hc, hat⟩ := at_ints h0 e1
      walk_at "ev"
      exact fin c
    · walk_at "ev"
      exact fin 0
end
/-! ### the mathematics of primes -/
def Rough (n d : Int) : Prop := ∀ e : Int, 2 ≤ e → e < d → ¬ e ∣ n
inductive Fac : Int → List Int → Prop
  | one : Fac 1 []
  | cons {n p q : Int} {ps : List Int} : 2 ≤ p → n = p * q → 1 ≤ q → Rough n p → Fac q ps → Fac n (p :: ps)
theorem Fac.uniq : ∀ {n : Int} {xs ys : List Int}, Fac n xs → Fac n ys → xs = ys := by
  intro n xs ys h
  induction h generalizing ys with
  | one =>
    intro k
    cases k with
    | one => rfl
    | cons h1 h2 h3 h4 h5 =>
      rename_i p q ps
      have : 2 * 1 ≤ p * q := Int.mul_le_mul h1 h3 (by omega) (by omega)
      omega
  | cons h1 h2 h3 h4 h5 ih =>
    rename_i n p q ps
    intro k
    cases k with
    | one =>
      have : 2 * 1 ≤ p * q := Int.mul_le_mul h1 h3 (by omega) (by omega)
      omega
    | cons g1 g2 g3 g4 g5 =>
      rename_i p' q' ps'
      have e : p = p' := by
        rcases Int.lt_trichotomy p p' with l | l | l
        · exact absurd ⟨q, h2⟩ (g4 p h1 l)
        · exact l
        · exact absurd ⟨q', g2⟩ (h4 p' g1 l)
      subst e
      have e2 : q = q' := by
        have : p * q = p * q' := by omega
        exact Int.eq_of_mul_eq_mul_left (by omega) this
      subst e2
      rw [ih g5]
theorem Fac.len1 {n : Int} {xs : List Int} (h : Fac n xs) (e : xs.length = 1) : xs = [n] := by
  cases h with
  | one => simp at e
  | cons h1 h2 h3 h4 h5 =>
    rename_i p q ps
    have : ps = [] := by
      cases ps with
      | nil => rfl
      | cons a r => simp at e
    subst this
    cases h5 with
    | one =>
      rw [h2, Int.mul_one]
theorem Fac.self {n : Int} (h : 2 ≤ n) (r : Rough n n) : Fac n [n] := .cons h (by omega) (by omega) r .one
theorem Rough.of_fac {n : Int} (h : Fac n [n]) : 2 ≤ n ∧ Rough n n := by
  cases h with
  | cons h1 h2 h3 h4 h5 => exact ⟨h1, h4⟩
theorem Rough.step {n d : Int} (h : Rough n d) (e : ¬ d ∣ n) : Rough n (d + 1) := fun c h1 h2 => by
  by_cases q : c = d
  · rw [q]; exact e
  · exact h c h1 (by omega)
theorem Rough.quot {n p q d : Int} (h : Rough n d) (e : n = p * q) : Rough q d := fun c h1 h2 k => h c h1 h2 (by rw [e]; exact Int.dvd_trans k (Int.dvd_mul_left p q))
/-- nothing below d divides n, d squared is above n: n has no divisor at all -/
theorem Rough.top {n d : Int} (h : Rough n d) (hd : 2 ≤ d) (hn : 2 ≤ n) (e : n < d * d) : Rough n n := fun c h1 h2 k => by
  obtain ⟨q, hq⟩ := k
  by_cases hc : c < d
  · exact h c h1 hc ⟨q, hq⟩
  · have hq0 : 0 < q := by
      apply Int.lt_of_not_ge
      intro z
      have : c * q ≤ 0 := Int.mul_nonpos_of_nonneg_of_nonpos (by omega) z
      omega
    have hq1 : q ≠ 1 := by
      intro z
      rw [z] at hq
      omega
    have hqd : q < d := by
      apply Int.lt_of_not_ge
      intro z
      have : d * d ≤ c * q := Int.mul_le_mul (by omega) z (by omega) (by omega)
      omega
    exact h q (by omega) hqd ⟨c, by rw [hq, Int.mul_comm]⟩
theorem dvd_iff {n d : Int} : n % d = 0 ↔ d ∣ n := ⟨Int.dvd_of_emod_eq_zero, Int.emod_eq_zero_of_dvd⟩
/-- a divisor taken out -/
theorem Fac.out {n num d : Int} {found : List Int} (h : ∀ ps, Fac num ps → Fac n (found ++ ps)) (hd : 2 ≤ d) (h1 : 1 ≤ num) (r : Rough num d) (e : num % d = 0) :
    (∀ ps, Fac (num / d) ps → Fac n ((found ++ [d]) ++ ps)) ∧ 1 ≤ num / d ∧ Rough (num / d) d ∧ 2 * (num / d) ≤ num := by
  have e1 : num = d * (num / d) := (Int.mul_ediv_cancel' (Int.dvd_of_emod_eq_zero e)).symm
  generalize num / d = q at *
  have q0 : 0 < q := by
    apply Int.lt_of_not_ge
    intro z
    have : d * q ≤ 0 := Int.mul_nonpos_of_nonneg_of_nonpos (by omega) z
    omega
  refine ⟨fun ps f => ?_, q0, r.quot e1, ?_⟩
  · rw [List.append_assoc]
    exact h _ (.cons hd e1 q0 r f)
  · have : 2 * q ≤ d * q := Int.mul_le_mul_of_nonneg_right hd (by omega)
    omega
theorem pow_len {L : Nat} {num n : Int} (h : 2 ^ L * num.toNat ≤ n.toNat) (h1 : 1 ≤ num) (hn : n ≤ 1000000000) : L ≤ 30 := by
  apply Nat.le_of_not_gt
  intro z
  have a : 2 ^ 31 ≤ 2 ^ L := Nat.pow_le_pow_right (by decide) z
  have b : 2 ^ L * 1 ≤ 2 ^ L * num.toNat := Nat.mul_le_mul_left _ (by omega)
  have h31 : (2 : Nat) ^ 31 = 2147483648 := by decide
  omega
theorem pow_step {L : Nat} {num q n : Int} (h : 2 ^ L * num.toNat ≤ n.toNat) (e : 2 * q ≤ num) : 2 ^ (L + 1) * q.toNat ≤ n.toNat := by
  have : 2 ^ (L + 1) * q.toNat = 2 ^ L * (2 * q.toNat) := by rw [Nat.pow_succ, Nat.mul_assoc]
  rw [this]
  exact Nat.le_trans (Nat.mul_le_mul_left _ (by omega)) h
/-! ### kinds of things -/
inductive Kd (K : PySem.W.Frag) (H : Hp) : V → String → Prop
  | non : Kd K H .non "NoneType"
  | bl (b : Bool) : Kd K H (.bl b) "bool"
  | int (i : Int) : Kd K H (.int i) "int"
  | str (x : Str) : Kd K H (.str x) "str"
  | lst {a : Addr} {xs : List V} : SqL K H a xs → Kd K H (.ref a) "list"
  | tup {a : Addr} {xs : List V} : SqT K H a xs → Kd K H (.ref a) "tuple"
theorem Kd.ty {K : PySem.W.Frag} {H : Hp} {x : V} {t : String} (h : Kd K H x t) : TyX K H x (.type t) := by
  cases h with
  | non => exact .base .non
  | bl b => exact .base (.bl b)
  | int i => exact .base (.int i)
  | str x => exact .base (.str x)
  | lst h =>
    rcases h with (h | ⟨o, h⟩) | ⟨o, its, n, h1, h2, _⟩
    · exact .base (.lst h)
    · exact .base (.frz h)
    · exact .kList h1 h2
  | tup h =>
    rcases h with (h | ⟨o, h⟩) | ⟨o, its, n, h1, h2, _⟩
    · exact .base (.tup h)
    · exact .fTuple h
    · exact .kTuple h1 h2
theorem Kd.same {K : PySem.W.Frag} {H H' : Hp} {x : V} {t : String} (h : Kd K H x t) (e : Same H H') : Kd K H' x t := by
  cases h with
  | non => exact .non
  | bl b => exact .bl b
  | int i => exact .int i
  | str x => exact .str x
  | lst h => exact .lst (e.seq h)
  | tup h => exact .tup (same_t e h)
def tis (t c : String) : Bool := t == c || (t == "bool" && c == "int")
theorem Kd.kit {K : PySem.W.Frag} {H : Hp} {x : V} {t : String} (h : Kd K H x t) : PySem.W.kitOne K (.type t) (.type "int") = some (tis t "int") ∧ PySem.W.kitOne K (.type t) (.type "bool") = some (tis t "bool") ∧ PySem.W.kitOne K (.type t) (.type "str") = some (tis t "str") ∧ PySem.W.kitOne K (.type t) (.type "list") = some (tis t "list") ∧ PySem.W.kitOne K (.type t) (.type "tuple") = some (tis t "tuple") := by
  cases h <;> exact ⟨kit_ty (by decide +kernel), kit_ty (by decide +kernel), kit_ty (by decide +kernel), kit_ty (by decide +kernel), kit_ty (by decide +kernel)⟩
theorem kit_lt {K : PySem.W.Frag} {t : String} {a b : Bool} (h1 : PySem.W.kitOne K (.type t) (.type "list") = some a) (h2 : PySem.W.kitOne K (.type t) (.type "tuple") = some b) : PySem.W.kitAny K (.type t) [.type "list", .type "tuple"] = some (a || b) := by
  refine kitAny_cons h1 (fun e => kitAny_cons h2 (fun e2 => ?_) (fun e2 => ?_)) (fun e => by rw [e]; rfl)
  · rw [e, e2]
    exact kitAny_nil
  · rw [e, e2]
    rfl
/-! ### == of lists of ints -/
theorem dp_ints {K : PySem.W.Frag} {H : Hp} : ∀ ns : List Int, DpAll K H (ns.map V.int) (ns.map PyData.int)
  | [] => .nil
  | n :: r => .cons (.int n) (dp_ints r)
theorem eqv_ints : ∀ ns ms : List Int, PyData.eqvAll (ns.map PyData.int) (ms.map PyData.int) = decide (ns = ms)
  | [], [] => by simp [PyData.eqvAll]
  | [], _ :: _ => by simp [PyData.eqvAll]
  | _ :: _, [] => by simp [PyData.eqvAll]
  | a :: r, b :: t => by
    simp only [List.map_cons, PyData.eqvAll, PyData.eqv, eqv_ints r t]
    by_cases h : a = b <;> by_cases h' : r = t <;> simp [h, h']
theorem eqd_ints {K : PySem.W.Frag} {H : Hp} {a b : Addr} {ns ms : List Int} {Q : VK} (ha : SqL K H a (ns.map V.int)) (hb : SqL K H b (ms.map V.int)) (q : Q (.bl (decide (ns = ms))) H) : rEqD K (.ref a) (.ref b) H Q := by
  refine ⟨_, _, .lst ha (dp_ints ns), .lst hb (dp_ints ms), PySem.W.ke_shaped_ints ns, PySem.W.ke_shaped_ints ms, ?_⟩
  have e : PyData.eqv (.list (ns.map PyData.int)) (.list (ms.map PyData.int)) = decide (ns = ms) := by
    rw [PyData.eqv]
    exact eqv_ints ns ms
  rw [e]
  exact q
abbrev s_factors : Stmt := top 7
abbrev N_factors : List Str := ["number", "found", "divisor"]
abbrev P_factors : List Str := ["number"]
theorem sc_factors : FnScope N_factors P_factors (defScope s_factors) := ⟨rfl, rfl, rfl, by decide +kernel, rfl, by decide +kernel, by decide +kernel⟩
def spFactors : Sp := fun vs H Q _ => ∃ (n : Int), vs = [.int n] ∧ 1 ≤ n ∧ n ≤ 1000000000 ∧ ∀ xs p H', Fac n xs → H p = none → Same H H' → H' p = some (.lst (xs.map V.int)) → Q (.ref p) H'
section
variable {P : Program} {w : World} {K : PySem.W.Frag} {mg : Str → Option Value} {base : Heap}
theorem ok_factors {f : Addr} {fd : FuncData} {k : Nat} (F : Fun K "factors" "factors" s_factors f fd) : FnOk P w K mg base CX0 (k + 1) f fd P_factors spFactors := by
  have nd := sc_factors.nd
  refine F.ok sc_factors (fun vs H Q E h => ?_) (fun cdv A outer s H vs Q E hr h => ?_)
  · obtain ⟨n, rfl, _⟩ := h
    rfl
  · obtain ⟨n, rfl, hn1, hn2, q⟩ := h
    refine ⟨_, (pss_cons (ps_set (i := 1) nd rfl (Or.inl rfl) (pe_lst pa_nil))
      (pss_cons (ps_set (i := 2) nd rfl (Or.inl rfl) (pe_int))
      (pss_cons (ps_while PassesOwn.never (pt_cmpR op_le (pe_op op_mul (pv 2) (pv 2)) (pv 0) (nomark _))
      (pss_one (ps_if (pt_cmpR op_eq (pe_op op_mod (pv 0) (pv 2)) (pe_int) (nomark _)) (pss_cons (ps_expr (pe_bm PySem.F.plainAttrs_list PySem.F.slot_list_append PySem.F.type_list_append mt_append (pv 1) (pa_cons (pv 2) pa_nil)))
      (pss_one (ps_aug (i := 0) nd rfl (Or.inl rfl) (pv 2) iop_fdivW))) (pss_one (ps_aug (i := 2) nd rfl (Or.inl rfl) (pe_int) ip_add)))))
      (pss_cons (ps_if (pt_cmpR op_gt (pv 0) (pe_int) (nomark _)) (pss_one (ps_expr (pe_bm PySem.F.plainAttrs_list PySem.F.slot_list_append PySem.F.type_list_append mt_append (pv 1) (pa_cons (pv 0) pa_nil)))) pss_nil)
      (pss_one (ps_ret (pv 1))))))), ?_⟩
    walk_at "ev"
    intro p hp
    generalize hG : upd _ p _ = H1
    obtain ⟨sm, hp1⟩ := newO hG hp
    refine ⟨fun m σ H' => ∃ (num d : Int) (found : List Int), σ = [some (.int num), some (.ref p), some (.int d)] ∧ m = (num - d).toNat + num.toNat ∧ 1 ≤ num ∧ num ≤ n ∧ 2 ≤ d ∧ d ≤ n + 2 ∧ 2 ^ found.length * num.toNat ≤ n.toNat ∧ Rough num d ∧ (∀ ps, Fac num ps → Fac n (found ++ ps)) ∧ Same H H' ∧ H' p = some (.lst (found.map V.int)), ⟨_, n, 2, [], rfl, rfl, hn1, by omega, by omega, by omega, by simp, fun e h1 h2 => by omega, fun ps f => f, sm, hp1⟩, ?_⟩
    rintro m σ H' ⟨num, d, found, rfl, rfl, h1, h2, h3, h4, h5, hr', hf, sm', hp'⟩
    have hL := pow_len h5 h1 hn2
    have cm : CMul d d := .inl ⟨by omega, by omega⟩
    walk_at "ev"
    refine ite2 (fun e => ?_) (fun e => ?_)
    · have e1 : d * d ≤ num := of_decide_eq_true e
      refine ⟨_, holdN, ?_⟩
      walk_at "ev"
      refine ite2 (fun e2 => ?_) (fun e2 => ?_)
      · have e3 : num % d = 0 := V.int.inj (of_decide_eq_true e2)
        obtain ⟨o1, o2, o3, o4⟩ := Fac.out hf h3 h1 hr' e3
        walk_at "ev"
        refine .mk ⟨(num / d - d).toNat + (num / d).toNat, by omega, num / d, d, found ++ [d], rfl, rfl, o2, by omega, h3, h4, ?_, o3, o1, same_mut sm' hp, by rw [upd_same, List.map_append]; rfl⟩
        rw [List.length_append]
        exact pow_step h5 o4
      · have e3 : ¬ num % d = 0 := fun z => e2 (decide_eq_true (congrArg V.int z))
        have e4 : 2 * d ≤ d * d := Int.mul_le_mul_of_nonneg_right h3 (by omega)
        walk_at "ev"
        exact .mk ⟨(num - (d + 1)).toNat + num.toNat, by omega, num, d + 1, found, rfl, rfl, h1, h2, by omega, by omega, h5, hr'.step (fun z => e3 (dvd_iff.mpr z)), hf, sm', hp'⟩
    · have e1 : ¬ d * d ≤ num := fun z => e (decide_eq_true z)
      walk_at "ev"
      refine ite2 (fun e2 => ?_) (fun e2 => ?_)
      · have e3 : 1 < num := of_decide_eq_true e2
        walk_at "ev"
        refine q (found ++ [num]) _ _ (hf _ (Fac.self (by omega) (hr'.top h3 (by omega) (by omega)))) hp (same_mut sm' hp) (by rw [upd_same, List.map_append]; rfl)
      · have e3 : ¬ 1 < num := fun z => e2 (decide_eq_true z)
        have e4 : num = 1 := by omega
        walk_at "ev"
        subst e4
        have fin := hf [] .one
        rw [List.append_nil] at fin
        exact q found _ _ fin hp sm' hp'
end
/-! ### the law's own comparing, of like things -/
def Fit : Nat → PyData → Prop
  | 0, .list _ => False
  | 0, .tuple _ => False
  | n + 1, .list ds => ds.length ≤ 4000 ∧ ∀ e ∈ ds, Fit n e
  | n + 1, .tuple ds => ds.length ≤ 4000 ∧ ∀ e ∈ ds, Fit n e
  | _, .dict _ => False
  | _, _ => True
theorem dpall_len {K : PySem.W.Frag} {H : Hp} : ∀ {xs : List V} {ds : List PyData}, DpAll K H xs ds → xs.length = ds.length
  | _, _, .nil => rfl
  | _, _, .cons _ h => by rw [List.length_cons, List.length_cons, dpall_len h]
theorem dpall_get {K : PySem.W.Frag} {H : Hp} : ∀ {xs : List V} {ds : List PyData} {i : Nat} {x : V}, DpAll K H xs ds → xs[i]? = some x → ∃ d, ds[i]? = some d ∧ Dp K H x d
  | _, _, _, _, .nil, h => by simp at h
  | _, _, 0, _, .cons (d := d) h1 h2, h => ⟨d, rfl, by
      have e := Option.some.inj h
      rw [← e]
      exact h1⟩
  | _, _, i + 1, _, .cons h1 h2, h => dpall_get (i := i) h2 h
mutual
theorem dp_same {K : PySem.W.Frag} {H H' : Hp} (e : Same H H') : ∀ {x : V} {d : PyData}, Dp K H x d → Dp K H' x d
  | _, _, .non => .non
  | _, _, .bl b => .bl b
  | _, _, .int i => .int i
  | _, _, .str x => .str x
  | _, _, .lst h a => .lst (e.seq h) (dpall_same e a)
  | _, _, .tup h a => .tup (same_t e h) (dpall_same e a)
theorem dpall_same {K : PySem.W.Frag} {H H' : Hp} (e : Same H H') : ∀ {xs : List V} {ds : List PyData}, DpAll K H xs ds → DpAll K H' xs ds
  | _, _, .nil => .nil
  | _, _, .cons h a => .cons (dp_same e h) (dpall_same e a)
end
def spSame (K : PySem.W.Frag) (n : Nat) : Sp := fun vs H Q _ => ∃ (x y : V) (d : PyData), vs = [x, y] ∧ Dp K H x d ∧ Dp K H y d ∧ Fit n d ∧ ∀ H', Same H H' → Q (.bl true) H'
/-- a comprehension over pairs -/
theorem lc_pairs {J : It} {xs ys : List V} {g : TG} {tt : TT} {te : TE} {vs : List Nat} {σ : L2.St} {H1 : Hp} {D : Addr} {Qd : Hp → Prop} (Pv : Nat → Hp → Prop) (h0 : Pv 0 (upd H1 D (.lst [])))
    (hgo : ∀ i H, Pv i H → i < xs.length → J.go i H) (hy : ∀ i H v H', Pv i H → i < xs.length → J.yld i H v H' → ∃ T x y, v = .ref T ∧ H T = none ∧ H' = upd H T (.tup [x, y]) ∧ xs[i]? = some x ∧ ys[i]? = some y)
    (hst : ∀ H, Pv xs.length H → J.stop xs.length H)
    (hs : ∀ i x y T H H', xs[i]? = some x → ys[i]? = some y → Pv i H → H T = none → H' = upd H T (.tup [x, y]) → g (.ref T) (wipe σ vs) H' fun σ2 H2 => wipe σ2 vs = wipe σ vs ∧ tt σ2 H2 fun b H3 =>
      if b = true then te σ2 H3 fun y H4 => ∃ acc, H4 D = some (.lst acc) ∧ acc.length < sizeLine ∧ Pv (i + 1) (upd H4 D (.lst (acc ++ [y]))) else Pv (i + 1) H3) (hd : ∀ H, Pv xs.length H → Qd H) :
    ∃ W : Nat → Nat → Hp → Prop, (∃ m, W 0 m (upd H1 D (.lst []))) ∧ ∀ i m H, W i m H →
      (J.stop i H ∧ Qd H) ∨ (J.go i H ∧ ∃ Nx : Hp → Prop, (∀ H', Nx H' → ∃ m', m' < m ∧ W (i + 1) m' H') ∧ ∀ x H', J.yld i H x H' → g x (wipe σ vs) H' fun σ2 H2 => wipe σ2 vs = wipe σ vs ∧ tt σ2 H2 fun b H3 =>
        if b = true then te σ2 H3 fun y H4 => ∃ acc, H4 D = some (.lst acc) ∧ acc.length < sizeLine ∧ Nx (upd H4 D (.lst (acc ++ [y]))) else Nx H3) := by
  refine ⟨fun i m H => m = xs.length - i ∧ i ≤ xs.length ∧ Pv i H, ⟨xs.length, by simp, Nat.zero_le _, h0⟩, ?_⟩
  rintro i m H ⟨rfl, hi, p⟩
  by_cases hlt : i < xs.length
  · refine .inr ⟨hgo i H p hlt, Pv (i + 1), fun H' p' => ⟨xs.length - (i + 1), by omega, rfl, hlt, p'⟩, fun v H' yl => ?_⟩
    obtain ⟨T, x, y, rfl, hT, e, f1, f2⟩ := hy i H v H' p hlt yl
    exact hs i x y T H H' f1 f2 p hT e
  · have e : i = xs.length := by omega
    subst e
    exact .inl ⟨hst H p, hd H p⟩
theorem q_dec {Q : VK} {x : V} {H : Hp} (h : Q (.bl true) H) : Q (.bl (decide (x = x))) H := by
  rw [decide_eq_true rfl]
  exact h
theorem all_true : ∀ n : Nat, (List.replicate n true).all id = true
  | 0 => rfl
  | n + 1 => by
    rw [List.replicate_succ, List.all_cons, all_true n]
    rfl
theorem srt_ext : ∀ {l m : List Int}, l.Pairwise (· < ·) → m.Pairwise (· < ·) → (∀ k, k ∈ l ↔ k ∈ m) → l = m
  | [], [], _, _, _ => rfl
  | [], y :: m, _, _, h => by
    have := (h y).mpr List.mem_cons_self
    simp at this
  | x :: l, [], _, _, h => by
    have := (h x).mp List.mem_cons_self
    simp at this
  | x :: l, y :: m, hl, hm, h => by
    obtain ⟨hx, hl'⟩ := List.pairwise_cons.mp hl
    obtain ⟨hy, hm'⟩ := List.pairwise_cons.mp hm
    have e : x = y := by
      have a1 := (h x).mp List.mem_cons_self
      have a2 := (h y).mpr List.mem_cons_self
      rcases List.mem_cons.mp a1 with e | e
      · exact e
      · rcases List.mem_cons.mp a2 with e2 | e2
        · exact e2.symm
        · have := hy x e
          have := hx y e2
          omega
    subst e
    rw [srt_ext hl' hm' fun k => ?_]
    constructor
    · intro hk
      rcases List.mem_cons.mp ((h k).mp (List.mem_cons_of_mem _ hk)) with e | e
      · have := hx k hk
        omega
      · exact e
    · intro hk
      rcases List.mem_cons.mp ((h k).mpr (List.mem_cons_of_mem _ hk)) with e | e
      · have := hy k hk
        omega
      · exact e
theorem Fac.len {n : Int} {xs : List Int} (h : Fac n xs) (hn : n ≤ 1000000000) : xs.length ≤ 30 := by
  have key : ∀ {n : Int} {xs : List Int}, Fac n xs → 2 ^ xs.length * 1 ≤ n.toNat ∧ 1 ≤ n := by
    intro n xs h
    induction h with
    | one => exact ⟨by decide, by decide⟩
    | cons h1 h2 h3 h4 h5 ih =>
      rename_i n p q ps
      obtain ⟨i1, i2⟩ := ih
      have : 2 * q ≤ p * q := Int.mul_le_mul_of_nonneg_right h1 (by omega)
      refine ⟨?_, by omega⟩
      rw [List.length_cons, Nat.pow_succ]
      omega
  obtain ⟨k1, k2⟩ := key h
  exact pow_len (num := 1) (n := n) (by simpa using k1) (by decide) hn
theorem Fac.pos {n : Int} {xs : List Int} (h : Fac n xs) : 1 ≤ n := by
  induction h with
  | one => decide
  | cons h1 h2 h3 h4 h5 ih =>
    rename_i n p q ps
    have : 1 * 1 ≤ p * q := Int.mul_le_mul (by omega) ih (by omega) (by omega)
    omega
theorem Fac.le {n : Int} {xs : List Int} (h : Fac n xs) : ∀ q ∈ xs, q ≤ n := by
  induction h with
  | one => intro q hq; simp at hq
  | cons h1 h2 h3 h4 h5 ih =>
    rename_i n p q ps
    intro x hx
    rcases List.mem_cons.mp hx with e | e
    · rw [e]
      have : p * 1 ≤ p * q := Int.mul_le_mul_of_nonneg_left h3 (by omega)
      omega
    · have := ih x e
      have : 1 * q ≤ p * q := Int.mul_le_mul_of_nonneg_right (by omega) (by omega)
      omega
theorem Fac.primes {n : Int} {xs : List Int} (h : Fac n xs) : ∀ q ∈ xs, 2 ≤ q ∧ Rough q q := by
  induction h with
  | one => intro q hq; simp at hq
  | cons h1 h2 h3 h4 h5 ih =>
    rename_i n p q ps
    intro x hx
    rcases List.mem_cons.mp hx with e | e
    · rw [e]
      exact ⟨h1, fun c c1 c2 c3 => h4 c c1 c2 (Int.dvd_trans c3 ⟨q, h2⟩)⟩
    · exact ih x e
/-! ### all divisors, rising -/
/-- ds is the rising list of all that divides n -/
def IsDv (n : Int) (ds : List Int) : Prop := ds.Pairwise (· < ·) ∧ ∀ k, k ∈ ds ↔ 1 ≤ k ∧ k ∣ n
theorem IsDv.uniq {n : Int} {l m : List Int} (a : IsDv n l) (b : IsDv n m) : l = m := srt_ext a.1 b.1 fun k => (a.2 k).trans (b.2 k).symm
theorem sq_lt {a b : Int} (ha : 0 ≤ a) (h : a * a < b * b) (hb : 0 ≤ b) : a < b := by
  apply Int.lt_of_not_ge
  intro z
  have : b * b ≤ a * a := Int.mul_le_mul z z hb ha
  omega
/-- low: those below c; high: the partners of those whose square is less, falling -/
structure Half (n c : Int) (low high : List Int) : Prop where
  up : low.Pairwise (· < ·)
  mem : ∀ k, k ∈ low ↔ 1 ≤ k ∧ k < c ∧ k ∣ n
  down : high.Pairwise (· > ·)
  part : ∀ y, y ∈ high ↔ ∃ d, 1 ≤ d ∧ d < c ∧ d * d < n ∧ y * d = n
  sq : ∀ d, 1 ≤ d → d < c → d * d ≤ n
theorem Half.start (n : Int) : Half n 1 [] [] := ⟨.nil, fun k => ⟨fun h => by simp at h, fun ⟨a, b, _⟩ => by omega⟩, .nil, fun y => ⟨fun h => by simp at h, fun ⟨d, a, b, _⟩ => by omega⟩, fun d a b => by omega⟩
theorem Half.skip {n c : Int} {low high : List Int} (h : Half n c low high) (hc : 1 ≤ c) (e : ¬ c ∣ n) (s : c * c ≤ n) : Half n (c + 1) low high := by
  refine ⟨h.up, fun k => ?_, h.down, fun y => ?_, fun d a b => ?_⟩
  · rw [h.mem]
    constructor
    · rintro ⟨a, b, d⟩
      exact ⟨a, by omega, d⟩
    · rintro ⟨a, b, d⟩
      refine ⟨a, ?_, d⟩
      have : k ≠ c := fun z => e (z ▸ d)
      omega
  · rw [h.part]
    constructor
    · rintro ⟨d, a, b, x, z⟩
      exact ⟨d, a, by omega, x, z⟩
    · rintro ⟨d, a, b, x, z⟩
      refine ⟨d, a, ?_, x, z⟩
      have : d ≠ c := fun w => e ⟨y, by rw [← w, Int.mul_comm]; exact z.symm⟩
      omega
  · by_cases z : d = c
    · rw [z]; exact s
    · exact h.sq d a (by omega)
theorem pw_append {R : Int → Int → Prop} {l : List Int} {x : Int} (h : l.Pairwise R) (k : ∀ y ∈ l, R y x) : (l ++ [x]).Pairwise R := by
  rw [List.pairwise_append]
  exact ⟨h, List.pairwise_singleton _ _, fun a ha b hb => by
    have e : b = x := by simpa using hb
    rw [e]
    exact k a ha⟩
theorem Half.low {n c : Int} {low high : List Int} (h : Half n c low high) (hc : 1 ≤ c) (e : c ∣ n) (s : c * c ≤ n) :
    (c * c < n → Half n (c + 1) (low ++ [c]) (high ++ [n / c])) ∧ (¬ c * c < n → Half n (c + 1) (low ++ [c]) high) := by
  have up : (low ++ [c]).Pairwise (· < ·) := pw_append h.up fun y hy => ((h.mem y).mp hy).2.1
  have mem : ∀ k, k ∈ low ++ [c] ↔ 1 ≤ k ∧ k < c + 1 ∧ k ∣ n := fun k => by
    rw [List.mem_append, h.mem, List.mem_singleton]
    constructor
    · rintro (⟨a, b, d⟩ | z)
      · exact ⟨a, by omega, d⟩
      · rw [z]
        exact ⟨hc, by omega, e⟩
    · rintro ⟨a, b, d⟩
      by_cases z : k = c
      · exact .inr z
      · exact .inl ⟨a, by omega, d⟩
  have sq : ∀ d, 1 ≤ d → d < c + 1 → d * d ≤ n := fun d a b => by
    by_cases z : d = c
    · rw [z]; exact s
    · exact h.sq d a (by omega)
  have ec : n / c * c = n := Int.ediv_mul_cancel e
  constructor
  · intro lt
    refine ⟨up, mem, pw_append h.down fun y hy => ?_, fun y => ?_, sq⟩
    · obtain ⟨d, a, b, x, z⟩ := (h.part y).mp hy
      show n / c < y
      apply Int.lt_of_not_ge
      intro w
      have p1 : y * d ≤ n / c * d := Int.mul_le_mul_of_nonneg_right w (by omega)
      have q0 : 0 < n / c := by
        apply Int.lt_of_not_ge
        intro v
        have : n / c * c ≤ 0 := Int.mul_nonpos_of_nonpos_of_nonneg v (by omega)
        have : 1 * 1 ≤ c * c := Int.mul_le_mul hc hc (by omega) (by omega)
        omega
      have p2 : n / c * d < n / c * c := Int.mul_lt_mul_of_pos_left b q0
      omega
    · rw [List.mem_append, h.part, List.mem_singleton]
      constructor
      · rintro (⟨d, a, b, x, z⟩ | w)
        · exact ⟨d, a, by omega, x, z⟩
        · rw [w]
          exact ⟨c, hc, by omega, lt, ec⟩
      · rintro ⟨d, a, b, x, z⟩
        by_cases w : d = c
        · right
          subst w
          have : y * d = n / d * d := by omega
          exact Int.eq_of_mul_eq_mul_right (by omega) this
        · exact .inl ⟨d, a, by omega, x, z⟩
  · intro nlt
    refine ⟨up, mem, h.down, fun y => ?_, sq⟩
    rw [h.part]
    constructor
    · rintro ⟨d, a, b, x, z⟩
      exact ⟨d, a, by omega, x, z⟩
    · rintro ⟨d, a, b, x, z⟩
      refine ⟨d, a, ?_, x, z⟩
      have : d ≠ c := fun w => nlt (w ▸ x)
      omega
theorem Half.done {n c : Int} {low high : List Int} (h : Half n c low high) (hn : 1 ≤ n) (hc : 1 ≤ c) (e : n < c * c) : IsDv n (low ++ high.reverse) := by
  constructor
  · rw [List.pairwise_append]
    refine ⟨h.up, ?_, fun x hx y hy => ?_⟩
    · rw [List.pairwise_reverse]
      exact h.down
    · obtain ⟨a, b, d⟩ := (h.mem x).mp hx
      obtain ⟨d', a', b', s', z'⟩ := (h.part y).mp (List.mem_reverse.mp hy)
      have sx := h.sq x a b
      -- y * y > n ≥ x * x
      have y0 : 0 < y := by
        apply Int.lt_of_not_ge
        intro v
        have : y * d' ≤ 0 := Int.mul_nonpos_of_nonpos_of_nonneg v (by omega)
        omega
      have yd : d' < y := by
        apply Int.lt_of_not_ge
        intro v
        have : y * d' ≤ d' * d' := Int.mul_le_mul_of_nonneg_right v (by omega)
        omega
      have : y * d' < y * y := Int.mul_lt_mul_of_pos_left yd y0
      exact sq_lt (by omega) (by omega) (by omega)
  · intro k
    rw [List.mem_append, List.mem_reverse, h.mem, h.part]
    constructor
    · rintro (⟨a, b, d⟩ | ⟨d, a, b, x, z⟩)
      · exact ⟨a, d⟩
      · refine ⟨?_, ⟨d, z.symm⟩⟩
        show 0 < k
        apply Int.lt_of_not_ge
        intro v
        have : k * d ≤ 0 := Int.mul_nonpos_of_nonpos_of_nonneg (by omega) (by omega)
        omega
    · rintro ⟨a, b⟩
      by_cases kc : k < c
      · exact .inl ⟨a, kc, b⟩
      · right
        obtain ⟨d, hd⟩ := b
        have d0 : 0 < d := by
          apply Int.lt_of_not_ge
          intro v
          have : k * d ≤ 0 := Int.mul_nonpos_of_nonneg_of_nonpos (by omega) v
          omega
        have dc : d < c := by
          apply Int.lt_of_not_ge
          intro v
          have : c * c ≤ k * d := Int.mul_le_mul (by omega) v (by omega) (by omega)
          omega
        have dk : d < k := by omega
        have : d * d < k * d := Int.mul_lt_mul_of_pos_right dk d0
        exact ⟨d, by omega, dc, by omega, hd.symm⟩
theorem half_len {m : Int} (hm : 1 ≤ m) (hm2 : m ≤ 1000000) : ∀ c : Nat, 1 ≤ c → (∃ (c' : Nat) (low high : List Int), 1 ≤ c' ∧ c' ≤ c ∧ m < (c' : Int) * c' ∧ Half m c' low high ∧ low.length + high.length + 2 ≤ 2 * c') ∨ (∃ low high : List Int, Half m c low high ∧ low.length + high.length + 2 ≤ 2 * c) := by
  intro c
  induction c with
  | zero => intro h; omega
  | succ c ih =>
    intro _
    by_cases c0 : c = 0
    · subst c0
      exact .inr ⟨[], [], Half.start m, by simp⟩
    · rcases ih (by omega) with ⟨c', low, high, a1, a2, a3, a4, a5⟩ | ⟨low, high, a4, a5⟩
      · exact .inl ⟨c', low, high, a1, by omega, a3, a4, a5⟩
      · by_cases z : m < (c : Int) * c
        · exact .inl ⟨c, low, high, by omega, by omega, z, a4, a5⟩
        · have e1 : (((c + 1 : Nat) : Int)) = (c : Int) + 1 := by omega
          by_cases dv : (c : Int) ∣ m
          · obtain ⟨b1, b2⟩ := a4.low (by omega) dv (by omega)
            by_cases lt : (c : Int) * c < m
            · refine .inr ⟨_, _, by rw [e1]; exact b1 lt, ?_⟩
              simp
              omega
            · refine .inr ⟨_, _, by rw [e1]; exact b2 lt, ?_⟩
              simp
              omega
          · refine .inr ⟨low, high, by rw [e1]; exact a4.skip (by omega) dv (by omega), by omega⟩
theorem IsDv.len {m : Int} {ds : List Int} (h : IsDv m ds) (hm : 1 ≤ m) (hm2 : m ≤ 1000000) : ds.length ≤ 2000 := by
  rcases half_len hm hm2 1001 (by decide) with ⟨c', low, high, a1, a2, a3, a4, a5⟩ | ⟨low, high, a4, a5⟩
  · have e := h.uniq (a4.done hm (by omega) a3)
    rw [e, List.length_append, List.length_reverse]
    omega
  · have big : m < ((1001 : Nat) : Int) * ((1001 : Nat) : Int) := by
      have e : ((1001 : Nat) : Int) * ((1001 : Nat) : Int) = 1002001 := by decide
      omega
    have e := h.uniq (a4.done hm (by omega) big)
    rw [e, List.length_append, List.length_reverse]
    omega
theorem dv_one : IsDv 1 [1] := by
  refine ⟨List.pairwise_singleton _ _, fun k => ?_⟩
  rw [List.mem_singleton]
  constructor
  · intro e
    rw [e]
    exact ⟨by decide, Int.dvd_refl _⟩
  · rintro ⟨a, b⟩
    exact Int.le_antisymm (Int.le_of_dvd (by decide) b) a
/-- d divides m * p, p a prime -/
theorem dv_prime {k m p : Int} (hk : 1 ≤ k) (hp : 2 ≤ p) (r : Rough p p) (h : k ∣ m * p) : k ∣ m ∨ ∃ e, k = e * p := by
  by_cases hpk : p ∣ k
  · obtain ⟨e, he⟩ := hpk
    exact .inr ⟨e, by rw [he, Int.mul_comm]⟩
  · left
    have hg : Nat.gcd k.natAbs p.natAbs = 1 := by
      have d1 := Nat.gcd_dvd_left k.natAbs p.natAbs
      have d2 := Nat.gcd_dvd_right k.natAbs p.natAbs
      generalize Nat.gcd k.natAbs p.natAbs = g at *
      have gp : (g : Int) ∣ p := by
        rw [← Int.natAbs_dvd_natAbs, Int.natAbs_natCast]
        exact d2
      have gk : (g : Int) ∣ k := by
        rw [← Int.natAbs_dvd_natAbs, Int.natAbs_natCast]
        exact d1
      have gle : (g : Int) ≤ p := Int.le_of_dvd (by omega) gp
      have g0 : g ≠ 0 := fun z => by
        rw [z] at gp
        have := Int.zero_dvd.mp gp
        omega
      by_cases g1 : g = 1
      · exact g1
      · exfalso
        by_cases gpe : (g : Int) = p
        · rw [gpe] at gk
          exact hpk gk
        · exact r g (by omega) (by omega) gp
    have h1 : k.natAbs ∣ m.natAbs * p.natAbs := by
      rw [← Int.natAbs_mul]
      exact Int.natAbs_dvd_natAbs.mpr h
    have h2 := Nat.Coprime.dvd_of_dvd_mul_right (show Nat.Coprime k.natAbs p.natAbs from hg) h1
    exact Int.natAbs_dvd_natAbs.mp h2
theorem dv_step {m p : Int} {found out : List Int} (h : IsDv m found) (hp : 2 ≤ p) (r : Rough p p) (hs : out.Pairwise (· < ·)) (hm : ∀ k, k ∈ out ↔ k ∈ found ++ found.map (· * p)) : IsDv (m * p) out := by
  refine ⟨hs, fun k => ?_⟩
  rw [hm, List.mem_append, List.mem_map, h.2]
  constructor
  · rintro (⟨a, b⟩ | ⟨x, hx, e⟩)
    · exact ⟨a, Int.dvd_trans b (Int.dvd_mul_right m p)⟩
    · obtain ⟨a, b⟩ := (h.2 x).mp hx
      rw [← e]
      refine ⟨?_, Int.mul_dvd_mul_right p b⟩
      have : 1 * 1 ≤ x * p := Int.mul_le_mul a (by omega) (by omega) (by omega)
      omega
  · rintro ⟨a, b⟩
    rcases dv_prime a hp r b with z | ⟨e, he⟩
    · exact .inl ⟨a, z⟩
    · right
      refine ⟨e, (h.2 e).mpr ⟨?_, ?_⟩, he.symm⟩
      · show 0 < e
        apply Int.lt_of_not_ge
        intro v
        have : e * p ≤ 0 := Int.mul_nonpos_of_nonpos_of_nonneg (by omega) (by omega)
        omega
      · rw [he] at b
        exact Int.dvd_of_mul_dvd_mul_right (by omega) b
abbrev s_divisors : Stmt := top 8
abbrev N_divisors : List Str := ["number", "low", "high", "divisor"]
abbrev P_divisors : List Str := ["number"]
theorem sc_divisors : FnScope N_divisors P_divisors (defScope s_divisors) := ⟨rfl, rfl, rfl, by decide +kernel, rfl, by decide +kernel, by decide +kernel⟩
def spDiv : Sp := fun vs H Q _ => ∃ (n : Int), vs = [.int n] ∧ 1 ≤ n ∧ n ≤ 1000000 ∧ ∀ ds l H', IsDv n ds → H l = none → Same H H' → H' l = some (.lst (ds.map V.int)) → Q (.ref l) H'
section
variable {P : Program} {w : World} {K : PySem.W.Frag} {mg : Str → Option Value} {base : Heap}
theorem ok_divisors {f : Addr} {fd : FuncData} {k : Nat} (F : Fun K "divisors" "divisors" s_divisors f fd) (T : Blt mg) : FnOk P w K mg base CX0 (k + 1) f fd P_divisors spDiv := by
  have nd := sc_divisors.nd
  refine F.ok sc_divisors (fun vs H Q E h => ?_) (fun cdv A outer s H vs Q E hr h => ?_)
  · obtain ⟨n, rfl, _⟩ := h
    rfl
  · obtain ⟨n, rfl, h1, h2, q⟩ := h
    refine ⟨_, (pss_cons (ps_set (i := 1) nd rfl (Or.inl rfl) (pe_lst pa_nil))
      (pss_cons (ps_set (i := 2) nd rfl (Or.inl rfl) (pe_lst pa_nil))
      (pss_cons (ps_set (i := 3) nd rfl (Or.inl rfl) (pe_int))
      (pss_cons (ps_while PassesOwn.never (pt_cmpR op_le (pe_op op_mul (pv 3) (pv 3)) (pv 0) (nomark _))
      (pss_cons (ps_if (pt_cmpR op_eq (pe_op op_mod (pv 0) (pv 3)) (pe_int) (nomark _)) (pss_cons (ps_expr (pe_bm PySem.F.plainAttrs_list PySem.F.slot_list_append PySem.F.type_list_append mt_append (pv 1) (pa_cons (pv 3) pa_nil)))
      (pss_one (ps_if (pt_cmpR op_lt (pe_op op_mul (pv 3) (pv 3)) (pv 0) (nomark _)) (pss_one (ps_expr (pe_bm PySem.F.plainAttrs_list PySem.F.slot_list_append PySem.F.type_list_append mt_append (pv 2) (pa_cons (pe_op op_fdiv (pv 0) (pv 3)) pa_nil)))) pss_nil))) pss_nil)
      (pss_one (ps_aug (i := 3) nd rfl (Or.inl rfl) (pe_int) ip_add))))
      (pss_one (ps_ret (pe_op op_cat (pv 1) (pe_revL (pv 2))))))))), ?_⟩
    walk_at "ev"
    intro a ha
    generalize hG1 : upd _ a _ = H1
    obtain ⟨sm1, hq1⟩ := newO hG1 ha
    walk_at "ev"
    intro b hb
    generalize hG2 : upd _ b _ = H2
    obtain ⟨sm2, hq2⟩ := newO hG2 hb
    have nab : a ≠ b := ne_of_none hq1 hb
    have hbf : H b = none := sm1.free hb
    refine ⟨fun m σ H' => ∃ (c : Int) (low high : List Int), σ = [some (.int n), some (.ref a), some (.ref b), some (.int c)] ∧ m = (n + 1 - c).toNat ∧ 1 ≤ c ∧ c ≤ 1001 ∧ c ≤ n + 1 ∧ Half n c low high ∧ low.length + high.length + 2 ≤ 2 * c.toNat ∧ Same H H' ∧ H' a = some (.lst (low.map V.int)) ∧ H' b = some (.lst (high.map V.int)), ⟨_, 1, [], [], rfl, rfl, by omega, by omega, by omega, Half.start n, by simp, sm1.trans sm2, sm2 _ _ hq1, hq2⟩, ?_⟩
    rintro m σ H' ⟨c, low, high, rfl, rfl, c1, c2, c3, hf, hl, sm, hqa, hqb⟩
    have cm : CMul c c := .inl ⟨by omega, by omega⟩
    walk_at "ev"
    refine ite2 (fun e => ?_) (fun e => ?_)
    · have e1 : c * c ≤ n := of_decide_eq_true e
      have cl : c ≤ c * c := by
        have : 1 * c ≤ c * c := Int.mul_le_mul_of_nonneg_right c1 (by omega)
        omega
      have c1000 : c ≤ 1000 := by
        apply Int.le_of_not_gt
        intro z
        have : 1001 * 1001 ≤ c * c := Int.mul_le_mul (by omega) (by omega) (by omega) (by omega)
        omega
      refine ⟨_, holdN, ?_⟩
      walk_at "ev"
      refine ite2 (fun e2 => ?_) (fun e2 => ?_)
      · have e3 : n % c = 0 := V.int.inj (of_decide_eq_true e2)
        obtain ⟨g1, g2⟩ := hf.low c1 (dvd_iff.mp e3) e1
        have hty : tyV K "list" (.ref a) H' := .inl ⟨rfl, _, SqL.of hqa⟩
        have hsa : (low.map V.int).length < sizeLine := by
          rw [List.length_map]
          exact szm (by omega)
        walk_at "ev"
        generalize hG3 : upd H' a _ = H3
        have hqa3 : H3 a = some (.lst ((low ++ [c]).map V.int)) := by
          rw [(mutO hG3).2, List.map_append]
          rfl
        have hqb3 : H3 b = some (.lst (high.map V.int)) := (mutO hG3).1 _ _ nab.symm hqb
        have sm3 : Same H H3 := by
          rw [← hG3]
          exact same_mut sm ha
        clear hG3
        refine ite2 (fun e4 => ?_) (fun e4 => ?_)
        · have e5 : c * c < n := of_decide_eq_true e4
          have hty3 : tyV K "list" (.ref b) H3 := .inl ⟨rfl, _, SqL.of hqb3⟩
          have hsb : (high.map V.int).length < sizeLine := by
            rw [List.length_map]
            exact szm (by omega)
          walk_at "ev"
          refine .mk ⟨(n + 1 - (c + 1)).toNat, by omega, c + 1, low ++ [c], high ++ [n / c], rfl, rfl, by omega, by omega, by omega, g1 e5, ?_, same_mut sm3 hbf, ?_, ?_⟩
          · simp
            omega
          · rw [upd_ne nab]
            exact hqa3
          · rw [upd_same, List.map_append]
            rfl
        · have e5 : ¬ c * c < n := fun z => e4 (decide_eq_true z)
          walk_at "ev"
          refine .mk ⟨(n + 1 - (c + 1)).toNat, by omega, c + 1, low ++ [c], high, rfl, rfl, by omega, by omega, by omega, g2 e5, ?_, sm3, hqa3, hqb3⟩
          simp
          omega
      · have e3 : ¬ n % c = 0 := fun z => e2 (decide_eq_true (congrArg V.int z))
        walk_at "ev"
        exact .mk ⟨(n + 1 - (c + 1)).toNat, by omega, c + 1, low, high, rfl, rfl, by omega, by omega, by omega, hf.skip c1 (fun z => e3 (dvd_iff.mpr z)) e1, by omega, sm, hqa, hqb⟩
    · have e1 : ¬ c * c ≤ n := fun z => e (decide_eq_true z)
      have hLb : SqL K H' b (high.map V.int) := SqL.of hqb
      walk_at "ev"
      intro r hr'
      generalize hG3 : upd _ r _ = H3
      obtain ⟨sm3, hq3⟩ := newO hG3 hr'
      have hqa3 := sm3 _ _ hqa
      have hsz : (low.map V.int).length + (high.map V.int).reverse.length ≤ sizeLine := by
        rw [List.length_map, List.length_reverse, List.length_map]
        exact szl (by omega)
      walk_at "ev"
      intro p hp
      generalize hG4 : upd _ p _ = H4
      obtain ⟨sm4, hq4⟩ := newO hG4 hp
      refine q (low ++ high.reverse) p H4 (hf.done h1 c1 (by omega)) ((sm.trans sm3).free hp) (sm.trans (sm3.trans sm4)) ?_
      rw [hq4, List.map_append, List.map_reverse]
end
abbrev s_totient : Stmt := top 11
abbrev N_totient : List Str := ["number", "told", "prime"]
abbrev P_totient : List Str := ["number"]
theorem sc_totient : FnScope N_totient P_totient (defScope s_totient) := ⟨rfl, rfl, rfl, by decide +kernel, rfl, by decide +kernel, by decide +kernel⟩
def totF (n : Int) (out : List Int) : Int := out.foldl (fun t p => t / p * (p - 1)) n
def spTot : Sp := fun vs H Q _ => ∃ (n : Int) (fs out : List Int), vs = [.int n] ∧ 1 ≤ n ∧ n ≤ 1000000 ∧ Fac n fs ∧ out.Pairwise (· < ·) ∧ (∀ k, k ∈ out ↔ k ∈ fs) ∧ ∀ H', Same H H' → Q (.int (totF n out)) H'
section
variable {P : Program} {w : World} {K : PySem.W.Frag} {mg : Str → Option Value} {base : Heap}
theorem tot_bound {n t p : Int} (h0 : 0 ≤ t) (h1 : t ≤ n) (hp : 2 ≤ p) : 0 ≤ t / p * (p - 1) ∧ t / p * (p - 1) ≤ n := by
  have a : 0 ≤ t / p := Int.ediv_nonneg h0 (by omega)
  have b : t / p * p ≤ t := Int.ediv_mul_le t (by omega)
  have c : t / p * (p - 1) ≤ t / p * p := Int.mul_le_mul_of_nonneg_left (by omega) a
  exact ⟨Int.mul_nonneg a (by omega), by omega⟩
theorem ok_totient {f f1 : Addr} {fd d1 : FuncData} {k : Nat} (F : Fun K "totient" "totient" s_totient f fd) (T : Blt mg) (D_factors : Df K mg "factors" s_factors P_factors f1 d1) : FnOk P w K mg base CX0 (k + 2) f fd P_totient spTot := by
  have G_factors : FnOk P w K mg base CX0 (k + 1) f1 d1 P_factors spFactors := ok_factors D_factors.F
  have nd := sc_totient.nd
  refine F.ok sc_totient (fun vs H Q E h => ?_) (fun cdv A outer s H vs Q E hr h => ?_)
  · obtain ⟨n, fs, out, rfl, _⟩ := h
    rfl
  · obtain ⟨n, fs, out, rfl, n1, n2, hfac, hso, hmo, q⟩ := h
    refine ⟨_, (pss_cons (ps_set (i := 1) nd rfl (Or.inl rfl) (pv 0))
      (pss_cons (ps_for PassesOwn.never rfl (pi_list (pe_sortSet (by rfl) T.b_sorted (by rfl) T.b_set (pe_call G_factors (hr.mono (by omega)) (by rfl) D_factors.g D_factors.F.kp D_factors.b .nil pass0 (pa_cons (pv 0) pa_nil)))) (pg_name (i := 2) nd rfl (Or.inl rfl))
      (pss_one (ps_set (i := 1) nd rfl (Or.inl rfl) (pe_op op_mul (pe_op op_fdiv (pv 1) (pv 2)) (pe_op op_sub (pv 2) (pe_int))))))
      (pss_one (ps_ret (pv 1))))), ?_⟩
    have n9 : n ≤ 1000000000 := by omega
    walk_at "ev"
    intro xs l H1 hf1 hl sm1 hq1
    have ex : xs = fs := hf1.uniq hfac
    subst ex
    have hxl := hfac.len (by omega)
    have hL1 : SqL K H1 l (xs.map V.int) := SqL.of hq1
    refine ⟨l, xs, rfl, hL1, by omega, ?_⟩
    intro out2 l2 hl2 hs2 hm2 ho2
    have eo : out2 = out := srt_ext hs2 hso fun k => (hm2 k).trans (hmo k).symm
    subst eo
    generalize hG2 : upd _ l2 _ = H2
    obtain ⟨sm2, hq2⟩ := newO hG2 hl2
    have hL2 : SqL K H2 l2 (out2.map V.int) := SqL.of hq2
    refine ⟨l2, rfl, ⟨_, hL2⟩, ?_⟩
    refine for_list (K := K) (a := l2) (xs := out2.map V.int) (fun i σ H' => Hold (∃ (t : Int) (s2 : Option V), σ = [some (.int n), some (.int t), s2] ∧ t = totF n (out2.take i) ∧ 0 ≤ t ∧ t ≤ n ∧ H' = H2)) (.mk ⟨n, none, rfl, rfl, by omega, by omega, rfl⟩) ?_ ?_ ?_
    · intro i σ H3 hi hP
      obtain ⟨t, s2, rfl, et, t0, t1, rfl⟩ := hP.un
      exact hL2
    · intro i v σ H3 hv hP
      obtain ⟨t, s2, rfl, et, t0, t1, rfl⟩ := hP.un
      rw [List.getElem?_map] at hv
      obtain ⟨x, hx, ev⟩ := Option.map_eq_some_iff.mp hv
      subst ev
      have hxm := (hmo x).mp (List.mem_of_getElem? hx)
      obtain ⟨x2, _⟩ := hfac.primes x hxm
      have hx6 := hfac.le x hxm
      obtain ⟨b0, b1⟩ := tot_bound t0 t1 x2
      have cm : CMul (t / x) (x - 1) := .inr ⟨by omega, by omega⟩
      walk_at "ev"
      refine .mk ⟨_, _, rfl, ?_, b0, b1, rfl⟩
      unfold totF
      rw [List.take_add_one, hx, List.foldl_append]
      show _ = (List.foldl _ n (List.take i out2)) / x * (x - 1)
      have et' : t = List.foldl (fun t p => t / p * (p - 1)) n (List.take i out2) := et
      rw [← et']
    · intro σ H3 hP
      obtain ⟨t, s2, rfl, et, t0, t1, rfl⟩ := hP.un
      rw [List.length_map, List.take_length] at et
      walk_at "ev"
      rw [et]
      exact q _ (sm1.trans sm2)
end
/-! ### powers by rests -/
theorem emod_pow (a m : Int) : ∀ k : Nat, (a % m) ^ k % m = a ^ k % m
  | 0 => by rw [Int.pow_zero, Int.pow_zero]
  | k + 1 => by rw [Int.pow_succ, Int.pow_succ, Int.mul_emod, emod_pow a m k, Int.emod_emod_of_dvd _ (Int.dvd_refl m), ← Int.mul_emod]
theorem mul_pow_mod (t b m : Int) (k : Nat) : t * (b % m) ^ k % m = t * b ^ k % m := by
  rw [Int.mul_emod, emod_pow, ← Int.mul_emod]
theorem mod_mul_mod (t x m : Int) : t % m * x % m = t * x % m := by
  rw [Int.mul_emod, Int.emod_emod_of_dvd _ (Int.dvd_refl m), ← Int.mul_emod]
theorem pow_sq (b : Int) : ∀ k : Nat, (b * b) ^ k = b ^ (2 * k)
  | 0 => by rw [Nat.mul_zero, Int.pow_zero, Int.pow_zero]
  | k + 1 => by
    rw [Int.pow_succ, pow_sq b k, show 2 * (k + 1) = 2 * k + 1 + 1 by omega, Int.pow_succ, Int.pow_succ, Int.mul_assoc]
theorem step_odd {t b m e : Int} (h : e % 2 = 1) (he : 0 ≤ e) : t * b % m * (b * b % m) ^ (e / 2).toNat % m = t * b ^ e.toNat % m := by
  rw [mul_pow_mod, mod_mul_mod, pow_sq]
  have : e.toNat = 2 * (e / 2).toNat + 1 := by omega
  rw [this, Int.pow_succ, Int.mul_comm (b ^ _) b, ← Int.mul_assoc]
theorem step_even {t b m e : Int} (h : ¬ e % 2 = 1) (he : 0 ≤ e) : t * (b * b % m) ^ (e / 2).toNat % m = t * b ^ e.toNat % m := by
  rw [mul_pow_mod, pow_sq]
  have : e.toNat = 2 * (e / 2).toNat := by omega
  rw [← this]
abbrev s_power_rest : Stmt := top 12
abbrev N_power_rest : List Str := ["number", "power", "by", "told"]
abbrev P_power_rest : List Str := ["number", "power", "by"]
theorem sc_power_rest : FnScope N_power_rest P_power_rest (defScope s_power_rest) := ⟨rfl, rfl, rfl, by decide +kernel, rfl, by decide +kernel, by decide +kernel⟩
def spPow : Sp := fun vs H Q _ => ∃ (b e m : Int), vs = [.int b, .int e, .int m] ∧ 0 ≤ e ∧ 1 ≤ m ∧ m ≤ 1000000 ∧ Q (.int (b ^ e.toNat % m)) H
section
variable {P : Program} {w : World} {K : PySem.W.Frag} {mg : Str → Option Value} {base : Heap}
theorem ok_power {f : Addr} {fd : FuncData} {k : Nat} (F : Fun K "power_rest" "power_rest" s_power_rest f fd) : FnOk P w K mg base CX0 (k + 1) f fd P_power_rest spPow := by
  have nd := sc_power_rest.nd
  refine F.ok sc_power_rest (fun vs H Q E h => ?_) (fun cdv A outer s H vs Q E hr h => ?_)
  · obtain ⟨b, e, m, rfl, _⟩ := h
    rfl
  · obtain ⟨b, e, m, rfl, he, hm1, hm2, q⟩ := h
    refine ⟨_, (pss_cons (ps_set (i := 3) nd rfl (Or.inl rfl) (pe_op op_mod (pe_int) (pv 2)))
      (pss_cons (ps_set (i := 0) nd rfl (Or.inl rfl) (pe_op op_mod (pv 0) (pv 2)))
      (pss_cons (ps_while PassesOwn.never (pt_cmpR op_gt (pv 1) (pe_int) (nomark _))
      (pss_cons (ps_if (pt_cmpR op_eq (pe_op op_mod (pv 1) (pe_int)) (pe_int) (nomark _)) (pss_one (ps_set (i := 3) nd rfl (Or.inl rfl) (pe_op op_mod (pe_op op_mul (pv 3) (pv 0)) (pv 2)))) pss_nil)
      (pss_cons (ps_set (i := 0) nd rfl (Or.inl rfl) (pe_op op_mod (pe_op op_mul (pv 0) (pv 0)) (pv 2)))
      (pss_one (ps_aug (i := 1) nd rfl (Or.inl rfl) (pe_int) iop_fdivW)))))
      (pss_one (ps_ret (pv 3)))))), ?_⟩
    walk_at "ev"
    have r0 : ∀ x : Int, 0 ≤ x % m ∧ x % m < m := fun x => ⟨Int.emod_nonneg _ (by omega), Int.emod_lt_of_pos _ (by omega)⟩
    refine ⟨fun z σ H' => H' = H ∧ ∃ (x p t : Int), σ = [some (.int x), some (.int p), some (.int m), some (.int t)] ∧ z = p.toNat ∧ 0 ≤ p ∧ 0 ≤ t ∧ t < m ∧ 0 ≤ x ∧ x < m ∧ t * x ^ p.toNat % m = b ^ e.toNat % m, ⟨_, rfl, b % m, e, 1 % m, rfl, rfl, he, (r0 _).1, (r0 _).2, (r0 _).1, (r0 _).2, ?_⟩, ?_⟩
    · rw [mod_mul_mod, mul_pow_mod, Int.one_mul]
    · rintro z σ H' ⟨rfl, x, p, t, rfl, rfl, p0, t0, t1, x0, x1, inv⟩
      have cm1 : CMul t x := .inl ⟨by omega, by omega⟩
      have cm2 : CMul x x := .inl ⟨by omega, by omega⟩
      walk_at "ev"
      refine ite2 (fun c => ?_) (fun c => ?_)
      · have c1 : 0 < p := of_decide_eq_true c
        refine ⟨_, holdN, ?_⟩
        walk_at "ev"
        refine ite2 (fun d => ?_) (fun d => ?_)
        · have d1 : p % 2 = 1 := V.int.inj (of_decide_eq_true d)
          walk_at "ev"
          exact .mk ⟨(p / 2).toNat, by omega, rfl, x * x % m, p / 2, t * x % m, rfl, rfl, by omega, (r0 _).1, (r0 _).2, (r0 _).1, (r0 _).2, by rw [step_odd d1 p0]; exact inv⟩
        · have d1 : ¬ p % 2 = 1 := fun z => d (decide_eq_true (congrArg V.int z))
          walk_at "ev"
          exact .mk ⟨(p / 2).toNat, by omega, rfl, x * x % m, p / 2, t, rfl, rfl, by omega, t0, t1, (r0 _).1, (r0 _).2, by rw [step_even d1 p0]; exact inv⟩
      · have c1 : p = 0 := by
          have : ¬ 0 < p := fun z => c (decide_eq_true z)
          omega
        subst c1
        walk_at "ev"
        have et : t = b ^ e.toNat % m := by
          rw [← inv]
          show t = t * x ^ (0 : Nat) % m
          rw [Int.pow_zero, Int.mul_one, Int.emod_eq_of_lt t0 t1]
        rw [et]
        exact q
end
abbrev s_generator : Stmt := top 13
abbrev N_generator : List Str := ["prime", "early", "number", "factor", "power"]
abbrev P_generator : List Str := ["prime"]
theorem sc_generator : FnScope N_generator P_generator (defScope s_generator) := ⟨rfl, rfl, rfl, by decide +kernel, rfl, by decide +kernel, by decide +kernel⟩
/-- the exponents at which powers may come round too early -/
def erl (p : Int) (fs : List Int) : List Int := fs.map fun f => (p - 1) / f
def GenOk (p g : Int) (es : List Int) : Prop := ∀ e ∈ es, ¬ g ^ e.toNat % p = 1
def LeastGen (p g : Int) (es : List Int) : Prop := 1 ≤ g ∧ g < p ∧ GenOk p g es ∧ ∀ x, 1 ≤ x → x < g → ¬ GenOk p x es
def spGen : Sp := fun vs H Q _ => ∃ (p g0 : Int) (fs out : List Int), vs = [.int p] ∧ 2 ≤ p ∧ p ≤ 1000000 ∧ Fac (p - 1) fs ∧ out.Pairwise (· < ·) ∧ (∀ k, k ∈ out ↔ k ∈ fs) ∧ 1 ≤ g0 ∧ g0 < p ∧ GenOk p g0 (erl p out) ∧ ∀ g H', Same H H' → LeastGen p g (erl p out) → Q (.int g) H'
section
variable {P : Program} {w : World} {K : PySem.W.Frag} {mg : Str → Option Value} {base : Heap}
theorem ok_generator {f f1 f2 : Addr} {fd d1 d2 : FuncData} {k : Nat} (F : Fun K "generator" "generator" s_generator f fd) (T : Blt mg) (D_factors : Df K mg "factors" s_factors P_factors f1 d1) (D_power_rest : Df K mg "power_rest" s_power_rest P_power_rest f2 d2) : FnOk P w K mg base CX0 (k + 2) f fd P_generator spGen := by
  have G_factors : FnOk P w K mg base CX0 (k + 1) f1 d1 P_factors spFactors := ok_factors D_factors.F
  have G_power_rest : FnOk P w K mg base CX0 (k + 1) f2 d2 P_power_rest spPow := ok_power D_power_rest.F
  have nd := sc_generator.nd
  refine F.ok sc_generator (fun vs H Q E h => ?_) (fun cdv A outer s H vs Q E hr h => ?_)
  · obtain ⟨p, g0, fs, out, rfl, _⟩ := h
    rfl
  · obtain ⟨p, g0, fs, out, rfl, p2, p6, hfac, hso, hmo, g1, gp, hg0, q⟩ := h
    refine ⟨_, (pss_cons (ps_setLc (i := 1) (own := [("factor", 3)]) (g := gName 3) (by rfl) nd rfl rfl (sw_true rfl rfl rfl (by decide +kernel)) (pi_list (pe_sortSet (by rfl) T.b_sorted (by rfl) T.b_set (pe_call G_factors (hr.mono (by omega)) (by rfl) D_factors.g D_factors.F.kp D_factors.b .nil pass0 (pa_cons (pe_op op_sub (pv 0) (pe_int)) pa_nil)))) (blkOk_by (own := [("factor", 3)]) (N := N_generator) (sc := defScope s_generator) (by decide +kernel)) (fun _ _ _ _ _ => (pg_name (i := 3) nd rfl (Or.inl rfl))) (fun _ _ _ _ _ => pts_nil) (fun _ _ _ _ _ => (pe_op op_fdiv (pe_op op_sub (pv 0) (pe_int)) (pv 3))))
      (pss_cons (ps_set (i := 2) nd rfl (Or.inr rfl) (pe_int))
      (pss_cons (ps_while PassesOwn.never (pt_val (pe_callB (r := rAny K) (cr_any rfl) (by rfl) T.b_any (by decide +kernel) (pa_cons (pe_lc (own := [("power", 4)]) (g := gName 4) (by rfl) nd (pi_list (pv 1)) (blkOk_by (own := [("power", 4)]) (N := N_generator) (sc := defScope s_generator) (by decide +kernel)) (fun _ _ _ _ _ => (pg_name (i := 4) nd rfl (Or.inl rfl))) (fun _ _ _ _ _ => pts_nil) (fun _ _ _ _ _ => (pe_cmpR op_eq (pe_call G_power_rest (hr.mono (by omega)) (by rfl) D_power_rest.g D_power_rest.F.kp D_power_rest.b .nil pass0 (pa_cons (pv 2) (pa_cons (pv 4) (pa_cons (pv 0) pa_nil)))) (pe_int) (nomark _)))) pa_nil)))
      (pss_one (ps_aug (i := 2) nd rfl (Or.inr rfl) (pe_int) ip_add)))
      (pss_one (ps_ret (pv 2)))))), ?_⟩
    walk_at "ev"
    intro xs l H1 hf1 hl sm1 hq1
    have ex : xs = fs := hf1.uniq hfac
    subst ex
    have hxl := hfac.len (by omega)
    have hL1 : SqL K H1 l (xs.map V.int) := SqL.of hq1
    refine ⟨l, xs, rfl, hL1, by omega, ?_⟩
    intro out2 l2 hl2 hs2 hm2 ho2
    have eo : out2 = out := srt_ext hs2 hso fun k => (hm2 k).trans (hmo k).symm
    subst eo
    generalize hG2 : upd _ l2 _ = H2
    obtain ⟨sm2, hq2⟩ := newO hG2 hl2
    have hL2 : SqL K H2 l2 (out2.map V.int) := SqL.of hq2
    refine ⟨l2, rfl, ⟨_, hL2⟩, fun D hD => ?_⟩
    refine lc_list (K := K) (a := l2) (xs := out2.map V.int) (fun i H' => Hold (Same H2 H' ∧ H' D = some (.lst ((erl p (out2.take i)).map V.int)))) (.mk ⟨same_new hD, upd_same⟩) ?_ ?_ ?_
    · intro i H3 hi hP
      obtain ⟨sm3, hD3⟩ := hP.un
      exact sm3.seq hL2
    · intro i v H3 hv hP
      obtain ⟨sm3, hD3⟩ := hP.un
      rw [List.getElem?_map] at hv
      obtain ⟨x, hx, ev⟩ := Option.map_eq_some_iff.mp hv
      subst ev
      have hxm := (hmo x).mp (List.mem_of_getElem? hx)
      obtain ⟨x2, _⟩ := hfac.primes x hxm
      have hx6 : x ≤ p - 1 := hfac.le x hxm
      have hil : i < out2.length := (List.getElem?_eq_some_iff.mp hx).1
      have hsz : ((erl p (out2.take i)).map V.int).length < sizeLine := by
        unfold erl
        rw [List.length_map, List.length_map, List.length_take]
        exact szm (by omega)
      walk_at "ev"
      refine .mk ⟨same_mut sm3 hD, ?_⟩
      unfold erl
      rw [upd_same, List.take_add_one, hx, List.map_append, List.map_append]
      rfl
    · intro H3 hP
      obtain ⟨sm3, hD3⟩ := hP.un
      rw [List.length_map, List.take_length] at hD3
      have sm03 := sm1.trans (sm2.trans sm3)
      have hlE : (erl p out2).length ≤ 30 := by
        unfold erl
        rw [List.length_map]
        omega
      have he0 : ∀ e ∈ erl p out2, 0 ≤ e := by
        intro e he
        obtain ⟨x, hx, ee⟩ := List.mem_map.mp he
        obtain ⟨x2, _⟩ := hfac.primes x ((hmo x).mp hx)
        rw [← ee]
        exact Int.ediv_nonneg (by omega) (by omega)
      generalize erl p out2 = es at *
      clear hG2 hP
      have hD1 : H D = none := (sm1.trans sm2).free hD
      walk_at "ev"
      refine ⟨fun z σ H' => ∃ (x : Int) (s3 s4 : Option V), σ = [some (.int p), some (.ref D), some (.int x), s3, s4] ∧ z = (g0 - x).toNat ∧ 1 ≤ x ∧ x ≤ g0 ∧ (∀ y, 1 ≤ y → y < x → ¬ GenOk p y es) ∧ Same H3 H', ⟨_, 1, _, _, rfl, rfl, by omega, by omega, fun y a b => by omega, Same.refl _⟩, ?_⟩
      rintro z σ H4 ⟨x, s3, s4, rfl, rfl, x1, x2, hless, sm4⟩
      have hL4 : SqL K H4 D (es.map V.int) := SqL.of (sm4 _ _ hD3)
      have hL4' : ∃ xs, SqL K H4 D xs := ⟨_, hL4⟩
      walk_at "ev"
      intro D5 hD5
      refine lc_list (K := K) (a := D) (xs := es.map V.int) (fun i H' => Hold (Same H4 H' ∧ H' D5 = some (.lst (((es.take i).map fun e => decide (x ^ e.toNat % p = 1)).map V.bl)))) (.mk ⟨same_new hD5, upd_same⟩) ?_ ?_ ?_
      · intro i H5 hi hP
        obtain ⟨sm5, hq5⟩ := hP.un
        exact sm5.seq hL4
      · intro i v H5 hv hP
        obtain ⟨sm5, hq5⟩ := hP.un
        rw [List.getElem?_map] at hv
        obtain ⟨e, he, ev⟩ := Option.map_eq_some_iff.mp hv
        subst ev
        have e0 := he0 e (List.mem_of_getElem? he)
        have hil : i < es.length := (List.getElem?_eq_some_iff.mp he).1
        have hsz : (((es.take i).map fun e => decide (x ^ e.toNat % p = 1)).map V.bl).length < sizeLine := by
          rw [List.length_map, List.length_map, List.length_take]
          exact szm (by omega)
        walk_at "ev"
        refine .mk ⟨same_mut sm5 hD5, ?_⟩
        have ed : decide (V.int (x ^ e.toNat % p) = V.int 1) = decide (x ^ e.toNat % p = 1) := by
          by_cases c : x ^ e.toNat % p = 1
          · rw [decide_eq_true c, decide_eq_true (congrArg V.int c)]
          · rw [decide_eq_false c, decide_eq_false fun z => c (V.int.inj z)]
        rw [upd_same, List.take_add_one, he, List.map_append, List.map_append, ed]
        rfl
      · intro H5 hP
        obtain ⟨sm5, hq5⟩ := hP.un
        rw [List.length_map, List.take_length] at hq5
        refine ⟨D5, _, rfl, SqL.of hq5, _, rfl, ?_⟩
        refine ite2 (fun c => ?_) (fun c => ?_)
        · have bad : ¬ GenOk p x es := by
            obtain ⟨b, hb, eb⟩ := List.any_eq_true.mp c
            obtain ⟨e, he, ee⟩ := List.mem_map.mp hb
            intro ok
            refine ok e he ?_
            rw [← ee] at eb
            exact of_decide_eq_true eb
          have xne : x ≠ g0 := fun z => bad (z ▸ hg0)
          refine ⟨_, holdN, ?_⟩
          walk_at "ev"
          refine .mk ⟨(g0 - (x + 1)).toNat, by omega, x + 1, _, _, rfl, rfl, by omega, by omega, fun y a b => ?_, sm4.trans sm5⟩
          by_cases yx : y = x
          · rw [yx]; exact bad
          · exact hless y a (by omega)
        · have good : GenOk p x es := by
            intro e he z
            apply c
            rw [List.any_eq_true]
            exact ⟨true, List.mem_map.mpr ⟨e, he, decide_eq_true z⟩, rfl⟩
          walk_at "ev"
          exact q _ _ (sm03.trans (sm4.trans sm5)) ⟨x1, by omega, good, hless⟩
end
def IsPf (n : Int) (out : List Int) : Prop := out.Pairwise (· < ·) ∧ ∀ k, k ∈ out ↔ 2 ≤ k ∧ k ∣ n ∧ Rough k k
/-! ### what stands in a list of primes; counts to 300 -/
theorem Fac.dvds {n : Int} {xs : List Int} (h : Fac n xs) : ∀ q ∈ xs, q ∣ n := by
  induction h with
  | one => intro q hq; simp at hq
  | cons h1 h2 h3 h4 h5 ih =>
    rename_i n p q ps
    intro x hx
    rcases List.mem_cons.mp hx with e | e
    · rw [e]
      exact ⟨q, h2⟩
    · exact Int.dvd_trans (ih x e) ⟨p, by rw [h2, Int.mul_comm]⟩
theorem Fac.mem_iff {n : Int} {xs : List Int} (h : Fac n xs) : ∀ k, k ∈ xs ↔ 2 ≤ k ∧ k ∣ n ∧ Rough k k := by
  intro k
  constructor
  · intro hk
    obtain ⟨a, b⟩ := h.primes k hk
    exact ⟨a, h.dvds k hk, b⟩
  · rintro ⟨k2, kn, kr⟩
    induction h with
    | one =>
      have := Int.le_of_dvd (by decide) kn
      omega
    | cons h1 h2 h3 h4 h5 ih =>
      rename_i n p q ps
      have pr : Rough p p := fun c c1 c2 c3 => h4 c c1 c2 (Int.dvd_trans c3 ⟨q, h2⟩)
      have kn' : k ∣ q * p := by
        rw [Int.mul_comm, ← h2]
        exact kn
      rcases dv_prime (by omega) h1 pr kn' with z | ⟨e, he⟩
      · exact List.mem_cons_of_mem _ (ih z)
      · have pk : p ∣ k := ⟨e, by rw [he, Int.mul_comm]⟩
        have ple := Int.le_of_dvd (by omega) pk
        have : ¬ p < k := fun z => kr p h1 z pk
        have : k = p := by omega
        rw [this]
        exact List.mem_cons_self
theorem fac_ex : ∀ n : Nat, 1 ≤ n → ∃ xs, Fac (n : Int) xs := by
  intro n
  induction n using Nat.strongRecOn with
  | ind n ih =>
    intro h1
    by_cases n1 : n = 1
    · subst n1
      exact ⟨[], .one⟩
    · -- the least divisor
      have ex : ∃ d : Nat, 2 ≤ d ∧ d ∣ n := ⟨n, by omega, Nat.dvd_refl n⟩
      obtain ⟨d, ⟨d2, dn⟩, least⟩ : ∃ d : Nat, (2 ≤ d ∧ d ∣ n) ∧ ∀ c, c < d → ¬ (2 ≤ c ∧ c ∣ n) := by
        obtain ⟨m, hm⟩ := ex
        revert hm
        induction m using Nat.strongRecOn with
        | ind m im =>
          intro hm
          by_cases hc : ∃ c, c < m ∧ 2 ≤ c ∧ c ∣ n
          · obtain ⟨c, c1, c2⟩ := hc
            exact im c c1 c2
          · exact ⟨m, hm, fun c c1 c2 => hc ⟨_, c1, c2⟩⟩
      obtain ⟨q, hq⟩ := dn
      have q1 : 1 ≤ q := by
        apply Nat.pos_of_ne_zero
        intro z
        rw [z] at hq
        omega
      have qn : q < n := by
        have : 2 * q ≤ d * q := Nat.mul_le_mul_right q d2
        omega
      obtain ⟨xs, hx⟩ := ih q qn q1
      refine ⟨(d : Int) :: xs, .cons (by omega) (by rw [hq, Int.natCast_mul]) (by omega) ?_ hx⟩
      intro e e2 ed en
      refine least e.toNat (by omega) ⟨by omega, ?_⟩
      rw [← Int.natCast_dvd_natCast, Int.toNat_of_nonneg (by omega)]
      exact en
theorem pf_ex {n : Int} (h1 : 1 ≤ n) : ∃ fs out, Fac n fs ∧ out.Pairwise (· < ·) ∧ (∀ k, k ∈ out ↔ k ∈ fs) ∧ IsPf n out := by
  obtain ⟨fs, hf⟩ := fac_ex n.toNat (by omega)
  rw [Int.toNat_of_nonneg (by omega)] at hf
  have hs : (((List.range' 2 n.toNat : List Nat).filter (fun (k : Nat) => decide ((k : Int) ∈ fs))).map Int.ofNat).Pairwise (· < ·) := by
    rw [List.pairwise_map]
    refine List.Pairwise.imp (R := fun a b : Nat => a < b) (fun {a b} h => ?_) ((List.pairwise_lt_range' (s := 2) (n := n.toNat) (step := 1)).sublist List.filter_sublist)
    show (a : Int) < (b : Int)
    omega
  have hm : ∀ k, k ∈ ((List.range' 2 n.toNat : List Nat).filter (fun (k : Nat) => decide ((k : Int) ∈ fs))).map Int.ofNat ↔ k ∈ fs := by
    intro k
    rw [List.mem_map]
    constructor
    · rintro ⟨j, hj, e⟩
      have := of_decide_eq_true (List.mem_filter.mp hj).2
      rw [← e]
      exact this
    · intro hk
      obtain ⟨k2, kd, _⟩ := (hf.mem_iff k).mp hk
      have kn := Int.le_of_dvd (by omega) kd
      have ek : ((k.toNat : Nat) : Int) = k := Int.toNat_of_nonneg (by omega)
      refine ⟨k.toNat, List.mem_filter.mpr ⟨List.mem_range'_1.mpr ⟨by omega, by omega⟩, decide_eq_true (by rw [ek]; exact hk)⟩, ek⟩
  exact ⟨fs, _, hf, hs, hm, hs, fun k => (hm k).trans (hf.mem_iff k)⟩
/-! ### each prime has a generator: looked up by the kernel -/
def pm (m : Nat) : Nat → Nat → Nat → Nat
  | 0, _, _ => 1 % m
  | k + 1, b, e => if e % 2 = 1 then b * pm m k (b * b % m) (e / 2) % m else pm m k (b * b % m) (e / 2)
theorem npow_mod (a m : Nat) (k : Nat) : (a % m) ^ k % m = a ^ k % m := (Nat.pow_mod a k m).symm
theorem npow_sq (b k : Nat) : (b * b) ^ k = b ^ (2 * k) := by
  rw [Nat.pow_mul, Nat.pow_two]
theorem pm_eq (m : Nat) : ∀ k b e : Nat, e < 2 ^ k → pm m k b e = b ^ e % m
  | 0, b, e, h => by
    have : e = 0 := by
      have : (2 : Nat) ^ 0 = 1 := rfl
      omega
    subst this
    show 1 % m = b ^ 0 % m
    rw [Nat.pow_zero]
  | k + 1, b, e, h => by
    have he : e / 2 < 2 ^ k := by
      rw [Nat.pow_succ] at h
      omega
    have ih := pm_eq m k (b * b % m) (e / 2) he
    show (if e % 2 = 1 then b * pm m k (b * b % m) (e / 2) % m else pm m k (b * b % m) (e / 2)) = _
    rw [ih, npow_mod, npow_sq]
    split
    · rename_i o
      have e2 : e = 2 * (e / 2) + 1 := by omega
      conv => rhs; rw [e2, Nat.pow_succ, Nat.mul_comm (b ^ _) b, Nat.mul_mod]
      rw [Nat.mul_mod, Nat.mod_mod]
    · have e2 : e = 2 * (e / 2) := by omega
      conv => rhs; rw [e2]
def okGn (p g d : Nat) : Bool := if (p - 1) % d = 0 then (pm p 20 g ((p - 1) / d) != 1) && (decide (d = p - 1) || (pm p 20 g d != 1)) else true
def okAll (p g s : Nat) : Bool := decide (2 ≤ g) && (decide (g < p) && (List.range' 2 (s - 1)).all (okGn p g))
def fnd (p s : Nat) : Nat → Nat → Nat
  | 0, g => g
  | k + 1, g => if okAll p g s = true then g else fnd p s k (g + 1)
theorem okG_at {p g s : Nat} (h : okAll p g s = true) {d : Nat} (d2 : 2 ≤ d) (ds : d ≤ s) (hd : d ∣ p - 1) (hp : p ≤ 1048576) (hp3 : 3 ≤ p) : ¬ g ^ ((p - 1) / d) % p = 1 ∧ (d ≠ p - 1 → ¬ g ^ d % p = 1) := by
  unfold okAll at h
  simp only [Bool.and_eq_true, decide_eq_true_eq, List.all_eq_true] at h
  have h1 := h.2.2 d (List.mem_range'_1.mpr ⟨d2, by omega⟩)
  unfold okGn at h1
  rw [if_pos (Nat.mod_eq_zero_of_dvd hd)] at h1
  have e20 : (2 : Nat) ^ 20 = 1048576 := by decide
  have dle : d ≤ p - 1 := Nat.le_of_dvd (by omega) hd
  have qle : (p - 1) / d ≤ p - 1 := Nat.div_le_self _ _
  rw [pm_eq p 20 g _ (by omega), pm_eq p 20 g _ (by omega)] at h1
  simp only [Bool.and_eq_true, Bool.or_eq_true, decide_eq_true_eq, bne_iff_ne, ne_eq] at h1
  exact ⟨h1.1, fun z => h1.2.resolve_left z⟩
/-- what was looked up is enough -/
theorem gen_of {p g s : Nat} (h : okAll p g s = true) (hp : p ≤ 1048576) (hp3 : 3 ≤ p) (hs : p ≤ (s + 1) * (s + 1)) {out : List Int} (ho : ∀ k ∈ out, 2 ≤ k ∧ k ∣ (p : Int) - 1) : 1 ≤ (g : Int) ∧ (g : Int) < p ∧ GenOk p g (erl p out) := by
  have h0 := h
  unfold okAll at h0
  simp only [Bool.and_eq_true, decide_eq_true_eq] at h0
  refine ⟨by omega, by omega, ?_⟩
  intro e he z
  obtain ⟨f, hf, ef⟩ := List.mem_map.mp he
  obtain ⟨f2, fd⟩ := ho f hf
  -- all in naturals
  have ep : ((p - 1 : Nat) : Int) = (p : Int) - 1 := by omega
  have fN : ((f.toNat : Nat) : Int) = f := Int.toNat_of_nonneg (by omega)
  have fdN : f.toNat ∣ p - 1 := by
    rw [← Int.natCast_dvd_natCast, fN, ep]
    exact fd
  have eN : e.toNat = (p - 1) / f.toNat := by
    rw [← ef]
    have : ((p : Int) - 1) / f = (((p - 1) / f.toNat : Nat) : Int) := by
      rw [Int.natCast_ediv, ep, fN]
    rw [this]
    rfl
  have zN : g ^ e.toNat % p = 1 := by
    have : ((g ^ e.toNat % p : Nat) : Int) = 1 := by
      rw [Int.natCast_emod, Int.natCast_pow]
      exact z
    omega
  rw [eN] at zN
  by_cases fs : f.toNat ≤ s
  · exact (okG_at h (by omega) fs fdN hp hp3).1 zN
  · -- the partner is small
    have hq : (p - 1) / f.toNat * f.toNat = p - 1 := Nat.div_mul_cancel fdN
    have hqs : (p - 1) / f.toNat ≤ s := by
      apply Nat.le_of_not_gt
      intro v
      have : (s + 1) * (s + 1) ≤ (p - 1) / f.toNat * f.toNat := Nat.mul_le_mul v (by omega)
      omega
    have hq0 : (p - 1) / f.toNat ≠ 0 := fun v => by
      rw [v] at hq
      omega
    by_cases q1 : (p - 1) / f.toNat = 1
    · rw [q1, Nat.pow_one, Nat.mod_eq_of_lt h0.2.1] at zN
      omega
    · refine (okG_at h (d := (p - 1) / f.toNat) (by omega) hqs ⟨f.toNat, hq.symm⟩ hp hp3).2 ?_ zN
      intro v
      have : (p - 1) / f.toNat * 2 ≤ (p - 1) / f.toNat * f.toNat := Nat.mul_le_mul_left _ (by omega)
      omega
def GenAt (p : Int) : Prop := 2 ≤ p ∧ p ≤ 1000000 ∧ ∃ (fs out : List Int) (g0 : Int), Fac (p - 1) fs ∧ out.Pairwise (· < ·) ∧ (∀ k, k ∈ out ↔ k ∈ fs) ∧ IsPf (p - 1) out ∧ 1 ≤ g0 ∧ g0 < p ∧ GenOk p g0 (erl p out)
theorem gen_odd {p : Nat} (h3 : 3 ≤ p) (hp : p ≤ 1000000) (h : ∀ out : List Int, (∀ k ∈ out, 2 ≤ k ∧ k ∣ (p : Int) - 1) → ∃ g0 : Int, 1 ≤ g0 ∧ g0 < p ∧ GenOk p g0 (erl p out)) : GenAt (p : Int) := by
  obtain ⟨fs, out, a, b, c, d⟩ := pf_ex (n := (p : Int) - 1) (by omega)
  obtain ⟨g0, e, f, g⟩ := h out fun k hk => by
    obtain ⟨u, v, _⟩ := (d.2 k).mp hk
    exact ⟨u, v⟩
  exact ⟨by omega, by omega, fs, out, g0, a, b, c, d, e, f, g⟩
def bases7 : List Int := [3, 5, 7, 13, 97, 257, 2521, 7681, 9973]
theorem b7_3 : GenAt (3 : Int) := gen_odd (p := 3) (by decide) (by decide) fun out ho => ⟨_, gen_of (p := 3) (g := fnd 3 100 60 2) (s := 100) (by decide +kernel) (by decide) (by decide) (by decide) ho⟩
theorem b7_5 : GenAt (5 : Int) := gen_odd (p := 5) (by decide) (by decide) fun out ho => ⟨_, gen_of (p := 5) (g := fnd 5 100 60 2) (s := 100) (by decide +kernel) (by decide) (by decide) (by decide) ho⟩
theorem b7_7 : GenAt (7 : Int) := gen_odd (p := 7) (by decide) (by decide) fun out ho => ⟨_, gen_of (p := 7) (g := fnd 7 100 60 2) (s := 100) (by decide +kernel) (by decide) (by decide) (by decide) ho⟩
theorem b7_13 : GenAt (13 : Int) := gen_odd (p := 13) (by decide) (by decide) fun out ho => ⟨_, gen_of (p := 13) (g := fnd 13 100 60 2) (s := 100) (by decide +kernel) (by decide) (by decide) (by decide) ho⟩
theorem b7_97 : GenAt (97 : Int) := gen_odd (p := 97) (by decide) (by decide) fun out ho => ⟨_, gen_of (p := 97) (g := fnd 97 100 60 2) (s := 100) (by decide +kernel) (by decide) (by decide) (by decide) ho⟩
theorem b7_257 : GenAt (257 : Int) := gen_odd (p := 257) (by decide) (by decide) fun out ho => ⟨_, gen_of (p := 257) (g := fnd 257 100 60 2) (s := 100) (by decide +kernel) (by decide) (by decide) (by decide) ho⟩
theorem b7_2521 : GenAt (2521 : Int) := gen_odd (p := 2521) (by decide) (by decide) fun out ho => ⟨_, gen_of (p := 2521) (g := fnd 2521 100 60 2) (s := 100) (by decide +kernel) (by decide) (by decide) (by decide) ho⟩
theorem b7_7681 : GenAt (7681 : Int) := gen_odd (p := 7681) (by decide) (by decide) fun out ho => ⟨_, gen_of (p := 7681) (g := fnd 7681 100 60 2) (s := 100) (by decide +kernel) (by decide) (by decide) (by decide) ho⟩
theorem b7_9973 : GenAt (9973 : Int) := gen_odd (p := 9973) (by decide) (by decide) fun out ho => ⟨_, gen_of (p := 9973) (g := fnd 9973 100 60 2) (s := 100) (by decide +kernel) (by decide) (by decide) (by decide) ho⟩
theorem b7_all : ∀ p ∈ bases7, GenAt p := by
  intro p hp
  simp only [bases7, List.mem_cons, List.not_mem_nil, or_false] at hp
  rcases hp with z | z | z | z | z | z | z | z | z <;> rw [z]
  · exact b7_3
  · exact b7_5
  · exact b7_7
  · exact b7_13
  · exact b7_97
  · exact b7_257
  · exact b7_2521
  · exact b7_7681
  · exact b7_9973
abbrev s_is_whole : Stmt := top 5
abbrev N_is_whole : List Str := ["thing"]
abbrev P_is_whole : List Str := ["thing"]
theorem sc_is_whole : FnScope N_is_whole P_is_whole (defScope s_is_whole) := ⟨rfl, rfl, rfl, by decide +kernel, rfl, by decide +kernel, by decide +kernel⟩
def spWhole (K : PySem.W.Frag) : Sp := fun vs H Q _ => ∃ (x : V) (t : String), vs = [x] ∧ Kd K H x t ∧ Q (.bl (t == "int")) H
section
variable {P : Program} {w : World} {K : PySem.W.Frag} {mg : Str → Option Value} {base : Heap}
theorem ok_whole {f : Addr} {fd : FuncData} {k : Nat} (F : Fun K "is_whole" "is_whole" s_is_whole f fd) (T : Blt mg) : FnOk P w K mg base CX0 (k + 1) f fd P_is_whole (spWhole K) := by
  have nd := sc_is_whole.nd
  refine F.ok sc_is_whole (fun vs H Q E h => ?_) (fun cdv A outer s H vs Q E hr h => ?_)
  · obtain ⟨x, t, rfl, _⟩ := h
    rfl
  · obtain ⟨x, t, rfl, kd, q⟩ := h
    refine ⟨_, (pss_one (ps_ret (pe_and (pe_callB (r := rIsi K) call_isi (by rfl) T.b_isinstance (by decide +kernel) (pa_cons (pv 0) (pa_cons (pe_bltn (v := .ty "int") (by rfl) T.b_int (by decide +kernel) rfl) pa_nil))) (pe_one (pe_not (pe_callB (r := rIsi K) call_isi (by rfl) T.b_isinstance (by decide +kernel) (pa_cons (pv 0) (pa_cons (pe_bltn (v := .ty "bool") (by rfl) T.b_bool (by decide +kernel) rfl) pa_nil)))))))), ?_⟩
    have ty := kd.ty
    obtain ⟨k1, k2, k3, k4, k5⟩ := kd.kit
    walk_at "ev"
    cases kd
    all_goals (walk_at "ev"; exact q)
end
abbrev s_is_prime : Stmt := top 6
abbrev N_is_prime : List Str := ["thing"]
abbrev P_is_prime : List Str := ["thing"]
theorem sc_is_prime : FnScope N_is_prime P_is_prime (defScope s_is_prime) := ⟨rfl, rfl, rfl, by decide +kernel, rfl, by decide +kernel, by decide +kernel⟩
def spPrime (K : PySem.W.Frag) : Sp := fun vs H Q _ => ∃ (x : V) (t : String), vs = [x] ∧ Kd K H x t ∧ (∀ n, x = .int n → n ≤ 1000000000) ∧ ∀ b H', Same H H' → (b = true ↔ ∃ n, x = .int n ∧ Fac n [n]) → Q (.bl b) H'
section
variable {P : Program} {w : World} {K : PySem.W.Frag} {mg : Str → Option Value} {base : Heap}
theorem ok_prime {f fW fF : Addr} {fd fdW fdF : FuncData} {k : Nat} (F : Fun K "is_prime" "is_prime" s_is_prime f fd) (T : Blt mg) (D_is_whole : Df K mg "is_whole" s_is_whole P_is_whole fW fdW) (D_factors : Df K mg "factors" s_factors P_factors fF fdF) : FnOk P w K mg base CX0 (k + 2) f fd P_is_prime (spPrime K) := by
  have G_is_whole : FnOk P w K mg base CX0 (k + 1) fW fdW P_is_whole (spWhole K) := ok_whole D_is_whole.F T
  have G_factors : FnOk P w K mg base CX0 (k + 1) fF fdF P_factors spFactors := ok_factors D_factors.F
  have nd := sc_is_prime.nd
  refine F.ok sc_is_prime (fun vs H Q E h => ?_) (fun cdv A outer s H vs Q E hr h => ?_)
  · obtain ⟨x, t, rfl, _⟩ := h
    rfl
  · obtain ⟨x, t, rfl, kd, hb, q⟩ := h
    refine ⟨_, (pss_one (ps_ret (pe_and (pe_call G_is_whole (hr.mono (by omega)) (by rfl) D_is_whole.g D_is_whole.F.kp D_is_whole.b .nil pass0 (pa_cons (pv 0) pa_nil)) (pe_and (pe_cmpR op_gt (pv 0) (pe_int) (nomark _)) (pe_one (pe_cmpR (r := rEqD K) (op_eqD hr.units) (pe_call G_factors (hr.mono (by omega)) (by rfl) D_factors.g D_factors.F.kp D_factors.b .nil pass0 (pa_cons (pv 0) pa_nil)) (pe_lst (pa_cons (pv 0) pa_nil)) (nomark _))))))), ?_⟩
    walk_at "ev"
    cases kd with
    | int n =>
      have hn := hb n rfl
      walk_at "ev"
      refine ite2 (fun e => ?_) (fun e => ?_)
      · have e1 : 1 < n := of_decide_eq_true e
        walk_at "ev"
        intro xs p H' hf hp sm hp'
        walk_at "ev"
        intro p2 hp2
        generalize hG : upd _ p2 _ = H2
        obtain ⟨sm2, hp3⟩ := newO hG hp2
        refine eqd_ints (ns := xs) (ms := [n]) (SqL.of (sm2 _ _ hp')) (SqL.of hp3) ?_
        refine q _ _ (sm.trans sm2) ?_
        rw [decide_eq_true_iff]
        constructor
        · intro z
          exact ⟨n, rfl, z ▸ hf⟩
        · rintro ⟨m, z, hm⟩
          cases z
          exact hf.uniq hm
      · have e1 : ¬ 1 < n := fun z => e (decide_eq_true z)
        refine q _ _ (Same.refl _) ⟨fun z => Bool.noConfusion z, ?_⟩
        rintro ⟨m, z, hm⟩
        cases z
        have := (Rough.of_fac hm).1
        omega
    | _ =>
      walk_at "ev"
      refine q _ _ (Same.refl _) ⟨fun z => Bool.noConfusion z, ?_⟩
      rintro ⟨m, z, hm⟩
      cases z
end
/-! ### a list or a tuple -/
section
open PySem.Spec PyProof.Rows
variable {X : Cx}
def rIxQ (K : PySem.W.Frag) : R2 := fun x y H Q => ∃ p xs i v, x = .ref p ∧ y = .int i ∧ (SqL K H p xs ∨ SqT K H p xs) ∧ atI xs i = some v ∧ Q v H
theorem ix_seq : IxR X (rIxQ X.K) := by
  intro value slice pins s σ H x y v u Q I rx ry h hs
  obtain ⟨p, xs, i, z, e1, e2, hq | hq, he, q⟩ := h
  · exact ix_list value slice pins s σ H x y v u Q I rx ry ⟨p, xs, i, z, e1, e2, hq, he, q⟩ hs
  · exact ix_tup value slice pins s σ H x y v u Q I rx ry ⟨p, xs, i, z, e1, e2, hq, he, q⟩ hs
end
theorem sq_same {K : PySem.W.Frag} {H H' : Hp} {a : Addr} {xs : List V} (e : Same H H') (h : SqL K H a xs ∨ SqT K H a xs) : SqL K H' a xs ∨ SqT K H' a xs := by
  rcases h with h | h
  · exact .inl (e.seq h)
  · exact .inr (same_t e h)
/-! ### divisors in common -/
theorem gcd_step {a b : Int} (ha : 0 ≤ a) (hb : 0 ≤ b) : Int.gcd b (a % b) = Int.gcd a b := by
  obtain ⟨m, rfl⟩ := Int.eq_ofNat_of_zero_le ha
  obtain ⟨n, rfl⟩ := Int.eq_ofNat_of_zero_le hb
  have e : ((m : Int) % (n : Int)).natAbs = m % n := by rw [← Int.natCast_emod]; rfl
  show Nat.gcd n ((m : Int) % (n : Int)).natAbs = Nat.gcd m n
  rw [e, Nat.gcd_comm n, ← Nat.gcd_rec, Nat.gcd_comm]
theorem emod_half {a b : Int} (hb : 0 < b) (h : b ≤ a) : 2 * (a % b) ≤ a := by
  have h1 := Int.emod_lt_of_pos a hb
  have h2 : a % b + b * (a / b) = a := Int.emod_add_mul_ediv a b
  have h3 : 1 ≤ a / b := (Int.le_ediv_iff_mul_le hb).mpr (by omega)
  have h4 : b * 1 ≤ b * (a / b) := Int.mul_le_mul_of_nonneg_left h3 (by omega)
  omega
/-- a product has the rest 1: no divisor in common -/
theorem gcd_of_inv {n x m : Int} (h : n * x % m = 1) : Int.gcd n m = 1 := by
  have h1 : ((Int.gcd n m : Nat) : Int) ∣ n * x := Int.dvd_mul_of_dvd_left (Int.gcd_dvd_left n m)
  have h2 : ((Int.gcd n m : Nat) : Int) ∣ m * (n * x / m) := Int.dvd_mul_of_dvd_left (Int.gcd_dvd_right n m)
  have h3 : n * x % m + m * (n * x / m) = n * x := Int.emod_add_mul_ediv _ _
  have h4 : ((Int.gcd n m : Nat) : Int) ∣ 1 := by
    have : (1 : Int) = n * x - m * (n * x / m) := by omega
    rw [this]
    exact Int.dvd_sub h1 h2
  have h5 := Int.le_of_dvd (by decide) h4
  have h6 : Int.gcd n m ≠ 0 := by
    intro z
    rw [z] at h4
    exact absurd (Int.zero_dvd.mp h4) (by decide)
  omega
abbrev s_are_coprime : Stmt := top 9
abbrev N_are_coprime : List Str := ["one", "other"]
abbrev P_are_coprime : List Str := ["one", "other"]
theorem sc_are_coprime : FnScope N_are_coprime P_are_coprime (defScope s_are_coprime) := ⟨rfl, rfl, rfl, by decide +kernel, rfl, by decide +kernel, by decide +kernel⟩
def spCop : Sp := fun vs H Q _ => ∃ (x y : Int), vs = [.int x, .int y] ∧ 0 ≤ x ∧ 0 ≤ y ∧ Q (.bl (decide (Int.gcd x y = 1))) H
section
variable {P : Program} {w : World} {K : PySem.W.Frag} {mg : Str → Option Value} {base : Heap}
theorem ok_coprime {f : Addr} {fd : FuncData} {k : Nat} (F : Fun K "are_coprime" "are_coprime" s_are_coprime f fd) : FnOk P w K mg base CX0 (k + 1) f fd P_are_coprime spCop := by
  have nd := sc_are_coprime.nd
  refine F.ok sc_are_coprime (fun vs H Q E h => ?_) (fun cdv A outer s H vs Q E hr h => ?_)
  · obtain ⟨x, y, rfl, _⟩ := h
    rfl
  · obtain ⟨x, y, rfl, hx, hy, q⟩ := h
    refine ⟨_, (pss_cons (ps_while PassesOwn.never (pt_cmpR op_ne (pv 1) (pe_int) (nomark _))
      (pss_one (ps_par (i := 0) (j := 1) (by rfl) nd rfl rfl (by decide) rfl rfl (pa_cons (pv 1) (pa_cons (pe_op op_mod (pv 0) (pv 1)) pa_nil)) (by rfl))))
      (pss_one (ps_ret (pe_cmpR op_eq (pv 0) (pe_int) (nomark _))))), ?_⟩
    refine ⟨fun z σ H' => H' = H ∧ ∃ (a b : Int), σ = [some (.int a), some (.int b)] ∧ z = b.toNat ∧ 0 ≤ a ∧ 0 ≤ b ∧ Int.gcd a b = Int.gcd x y, ⟨_, rfl, x, y, rfl, rfl, hx, hy, rfl⟩, ?_⟩
    rintro z σ H' ⟨rfl, a, b, rfl, rfl, ha, hb, hg⟩
    walk_at "ev"
    by_cases c : b = 0
    · subst c
      refine iteFe (by simp) ?_
      walk_at "ev"
      have e : decide (V.int a = V.int 1) = decide (Int.gcd x y = 1) := by
        rw [← hg, Int.gcd_zero_right]
        exact decide_eq_decide.mpr ⟨fun h => by have := V.int.inj h; omega, fun h => congrArg V.int (by omega)⟩
      rw [e]
      exact q
    · refine iteTe (by simp [c]) ?_
      refine ⟨_, holdN, ?_⟩
      walk_at "ev"
      have h1 := Int.emod_lt_of_pos a (show 0 < b by omega)
      have h0 := Int.emod_nonneg a c
      exact .mk ⟨(a % b).toNat, by omega, rfl, b, a % b, rfl, rfl, hb, h0, by rw [gcd_step ha hb]; exact hg⟩
end
section
open PySem.Spec PyProof.Rows
variable {X : Cx}
theorem ip_mul : OpR X (inplaceOp .Mult) (rI CMul fun i j => .int (i * j)) := opI fun _ _ _ _ _ _ _ hc q => imul_int q hc.ok
end
/-! ### a loop over enumerate -/
theorem for_enumL {K : PySem.W.Frag} {a : Addr} {xs : List V} {g : TG} {tb : TS} {D : Ends} {σ : L2.St} {H : Hp} (Pv : Nat → L2.St → Hp → Prop) (h0 : Pv 0 σ H) (hq : ∀ i σ H, Pv i σ H → SqL K H a xs)
    (hs : ∀ (i : Nat) (x : V) (T : Addr) (σ : L2.St) (H : Hp), xs[i]? = some x → Pv i σ H → H T = none → g (.ref T) σ (upd H T (.tup [.int (i : Nat), x])) fun σ2 H2 => tb { D with nx := Pv (i + 1), ct := Pv (i + 1), bk := D.nx } σ2 H2) (hd : ∀ σ H, Pv xs.length σ H → D.nx σ H) :
    ∃ W : Nat → Nat → L2.St → Hp → Prop, (∃ m, W 0 m σ H) ∧ ∀ i m σ H, W i m σ H →
      ((Ite K a).stop i H ∧ D.nx σ H) ∨ ((Ite K a).go i H ∧ ∃ N : L2.St → Hp → Prop, (∀ σ' H', N σ' H' → ∃ m', m' < m ∧ W (i + 1) m' σ' H') ∧ ∀ v H', (Ite K a).yld i H v H' → g v σ H' fun σ2 H2 => tb { D with nx := N, ct := N, bk := D.nx } σ2 H2) := by
  refine ⟨fun i m σ H => m = xs.length - i ∧ i ≤ xs.length ∧ Pv i σ H, ⟨xs.length, rfl, Nat.zero_le _, h0⟩, ?_⟩
  rintro i m σ H ⟨rfl, hi, p⟩
  have q := hq i σ H p
  by_cases hlt : i < xs.length
  · refine .inr ⟨⟨xs, xs[i], q, List.getElem?_eq_getElem hlt⟩, Pv (i + 1), fun σ' H' p' => ⟨xs.length - (i + 1), by omega, rfl, hlt, p'⟩, fun v H' y => ?_⟩
    obtain ⟨T, x', rfl, hT, rfl, f1⟩ := y
    exact hs i x' T σ H (f1 xs q) p hT
  · have e : i = xs.length := by omega
    subst e
    exact .inl ⟨⟨xs, q, Nat.le_refl _⟩, hd σ H p⟩
/-! ### enumerate of a tuple -/
section
open PySem.Spec PyProof.Rows
abbrev tIt (t : Addr) : Obj := { cls := .type "tuple_iterator", data := .fields #[.ref t, .int 0 0] }
abbrev tEn (i : Addr) : Obj := { cls := .type "enumerate", data := .fields #[.none, .bool false, .ref i, rawInt 0, .none, .none] }
theorem meets_enumT (l : Addr) (items : Array Value) (n : Nat) (dct : Option Addr) (sl : Array (Option Value)) :
    Meets (Builtin.«enumerate.__new__» ⟨[.type "enumerate", .ref l], []⟩) (fun _ R s => s.heap.get? l = some { cls := .type "tuple", dict := dct, data := .seq items n, slots := sl } ∧
      R (.ok (.ret (.ref (s.heap.push (tIt l)).objs.size))) { s with heap := (s.heap.push (tIt l)).push (tEn s.heap.objs.size) }) :=
  .of_wp fun prog w A R s h => by
    obtain ⟨hp, g, d, tk, os⟩ := s
    obtain ⟨hl, h⟩ := h
    have hsub := sub_enumerate
    have hT : Heap.IsTuple (Shared.heap ⟨hp, g, d, tk, os⟩) l items := ⟨_, hl, rfl, n, rfl⟩
    have q1 : ∀ {A' : Around} {E : Value → Shared → Prop} {Q : Value → Shared → Prop}, Q (.ref hp.objs.size) ⟨hp.push (tIt l), g, d, tk, os⟩ → wpAny (model prog w) A' (pyIter (.ref l)) Q E ⟨hp, g, d, tk, os⟩ := fun q => wpAny_pyIter_tuple hT q
    wp_walk using AutoSeq1.wpAny_loadPart' hl
    refine wpAny_stack_any fun st => wpAny_pure ?_
    split
    · rename_i c _ _ _ _ _
      cases (c == Value.type "enumerate")
      · wp_walk using AutoSeq1.wpAny_loadPart' hl, q1
        exact ⟨_, rfl, h⟩
      · wp_walk using AutoSeq1.wpAny_loadPart' hl, q1
        exact ⟨_, rfl, h⟩
    · wp_walk using AutoSeq1.wpAny_loadPart' hl, q1
      exact ⟨_, rfl, h⟩
theorem call_enumT {prog : Program} {w : World} {A : Around} {E : Value → Shared → Prop} {s : Shared} {l : Addr} {items : Array Value} {Q : Value → Shared → Prop} (hL : s.heap.IsTuple l items)
    (h : ∀ h', IsEnum h' (s.heap.objs.size + 1) s.heap.objs.size 0 .none → h'.IsTupleIter s.heap.objs.size l 0 → (∀ b o, s.heap.get? b = some o → h'.get? b = some o) → Q (.ref (s.heap.objs.size + 1)) { s with heap := h' }) :
    wpAny (model prog w) A (call (.type "enumerate") [.ref l]) Q E s := by
  obtain ⟨⟨c, dct, dt, sl⟩, hl, hc, n, hd⟩ := hL
  replace hc : c = .type "tuple" := hc
  replace hd : dt = .seq items n := hd
  subst hc hd
  refine callType_new F.called_enumerate (by decide) (F.typeCall_enumerate_1 _) (F.newCall_enumerate_1 _) (fun obj => F.args_object_init_2 obj _) F.entry_enumerate_new (meets_enumT l items n dct sl) ⟨hl, ?_⟩
  have hz : (s.heap.push (tIt l)).objs.size = s.heap.objs.size + 1 := Heap.size_push ..
  show _ ∧ _
  rw [hz]
  have he : IsEnum ((s.heap.push (tIt l)).push (tEn s.heap.objs.size)) (s.heap.objs.size + 1) s.heap.objs.size 0 .none := by
    have k := Heap.get?_push_size (s.heap.push (tIt l)) (o := tEn s.heap.objs.size) rfl
    rw [hz] at k
    exact k
  exact ⟨⟨_, he, rfl⟩, h _ he ⟨_, Heap.get?_push_of_some _ (Heap.get?_push_size _ rfl), rfl, rfl⟩ fun b o x => Heap.get?_push_of_some _ (Heap.get?_push_of_some _ x)⟩
/-- the tuple at a, each item in a new pair -/
def IteT (K : PySem.W.Frag) (a : Addr) : It :=
  ⟨fun i H => ∃ (xs : List V) (x : V), SqT K H a xs ∧ xs[i]? = some x, fun i H v H' => ∃ T x, v = .ref T ∧ H T = none ∧ H' = upd H T (.tup [.int (i : Nat), x]) ∧ ∀ xs, SqT K H a xs → xs[i]? = some x, fun i H => ∃ xs : List V, SqT K H a xs ∧ xs.length = i⟩
theorem turn_enumT {P : Program} {w : World} {K : PySem.W.Frag} {elts : List Expr} {kk : Nat} {tpos : Pos} (a e it : Addr) :
    Turn P w K (.Tuple elts kk tpos) (IteT K a) [e, it] e (fun i h => (∃ old, IsEnum h e it ((i : Nat) : Int) old) ∧ h.IsTupleIter it a i ∧ e ≠ it ∧ a ≠ it ∧ a ≠ e) where
  mem := by simp
  obj := fun i h st b hb => by
    obtain ⟨⟨old, he⟩, ⟨o, ho, hc, hd⟩, _⟩ := st
    have z : b = e ∨ b = it := by simpa using hb
    rcases z with z | z
    · rw [z]
      exact ⟨_, he, fun v q => nomatch q⟩
    · rw [z]
      exact ⟨o, ho, fun v q => by rw [hd] at q; cases q⟩
  keep := fun i h h' st k => by
    obtain ⟨⟨old, he⟩, hi, hne⟩ := st
    exact ⟨⟨old, k e (by simp) _ he⟩, hi.at fun o q => k it (by simp) o q, hne⟩
  item := by
    intro X hP hw hK hc i pins s σ H E I hf st hg
    subst hP hw hK
    obtain ⟨⟨old, he⟩, hit, hne, hna, hnb⟩ := st
    obtain ⟨xs, x, hq, hx⟩ := hg
    obtain ⟨its, rv, p, hz⟩ := I.tuple hq
    obtain ⟨u, hu, ru⟩ := rv.get hx
    have hel : e < s.heap.objs.size := Heap.lt_size he
    have hil : it < s.heap.objs.size := by
      obtain ⟨_, q, _⟩ := hit
      exact Heap.lt_size q
    have hlt : i < its.toArray.size := by
      rw [List.size_toArray]
      exact (List.getElem?_eq_some_iff.mp hu).1
    have dr : Draws X.prog X.w X.A.in1 it [it, a] its.toArray.size (fun i v => its.toArray[i]? = some v) (fun i h => h.IsTupleIter it a i ∧ h.IsTuple a its.toArray) := Draws.tuple (A := X.A.in1) (I.ok.hd hc) it a hna its.toArray
    refine wpAny_pyNext_enum_itemD dr he ⟨hit, p⟩ hlt hne (by simp [hne, hnb.symm]) fun y h' tk hy ho hst hT hsz hk => ?_
    have ey : y = u := by
      have h1 : its.toArray[i]? = some u := by simpa using hu
      rw [h1] at hy
      exact (Option.some.inj hy).symm
    subst ey
    refine ⟨_, rfl, wpAny_letOwnedTupleGo_enum (s := { s with heap := h', toks := tk + 1 }) ho fun h'' he' sb => ?_⟩
    have hT2 := (sb.2 _ (Nat.ne_of_gt hel)).trans hT
    have new : ObjOk X.prog X.w (upd H s.heap.objs.size (.tup [.int (i : Nat), x])) h'' s.heap.objs.size (.tup [.int (i : Nat), x]) := ⟨by show 2 ≤ sizeLine; decide, [.int i tk, y], .cons ⟨_, rfl⟩ (.cons ru .nil), ⟨_, hT2, rfl, _, rfl⟩⟩
    have I1 : Inv X pins σ (upd H s.heap.objs.size (.tup [.int (i : Nat), x])) { s with heap := h'', toks := tk + 1 } :=
      I.turnedNew (ch := [e, it]) (fun b ob hb q => (sb.2 b (fun z => hb (by simp [z]))).trans (hk b ob (fun z => hb (by simp [z])) (fun z => hb (by simp [z])) q)) hf (Nat.le_refl _) new
    refine ⟨.ref s.heap.objs.size, _, I1, rfl, ⟨_, x, rfl, I.hok.fresh (Nat.le_refl _), rfl, fun ys hy => by rw [I.tuple_inj hy hq]; exact hx⟩, ⟨⟨y, ?_⟩, hst.1.at fun o q => (sb.2 it hne.symm).trans q, hne, hna, hnb⟩, fun b hb => ?_⟩
    · rw [show ((i + 1 : Nat) : Int) = (i : Int) + 1 by omega]
      exact he'
    · have hb' : b < s.heap.objs.size := by
        have z : b = e ∨ b = it := by simpa using hb
        rcases z with z | z <;> rw [z]
        · exact hel
        · exact hil
      rw [upd_ne (Nat.ne_of_lt hb')]
      exact (hf b hb).1
  done := by
    intro X hP hw hK hc i pins s σ H E I hf st hg
    subst hP hw hK
    obtain ⟨⟨old, he⟩, hit, hne, hna, hnb⟩ := st
    obtain ⟨xs, hq, hx⟩ := hg
    obtain ⟨its, rv, p, hz⟩ := I.tuple hq
    obtain ⟨f0, f1, f2, f3, f4, f5⟩ := hf it (by simp)
    have hl : its.toArray.size = i := by
      rw [List.size_toArray, ← rv.length]
      exact hx
    have dr : Draws X.prog X.w X.A.in1 it [it, a] its.toArray.size (fun i v => its.toArray[i]? = some v) (fun i h => h.IsTupleIter it a i ∧ h.IsTuple a its.toArray) := Draws.tuple (A := X.A.in1) (I.ok.hd hc) it a hna its.toArray
    exact wpAny_pyNext_enum_endD dr he (by rw [hl]; exact ⟨hit, p⟩) fun h' eb => ⟨rfl, I.turned (t' := s.toks) (fun b o hb q => eb b o hb q) f0 f1 f3 f4 f5⟩
  self := fun A i s Q E st h => by
    obtain ⟨⟨_, he⟩, _⟩ := st
    exact wpAny_pyIter_enum he h
def iEnumT (K : PySem.W.Frag) (ta : TA) : TI := fun σ H R => ta σ H fun vs H1 => ∃ a xs, vs = [.ref a] ∧ SqT K H1 a xs ∧ R (IteT K a) H1
theorem pi_enumT {X : Cx} {e : Expr} {ta : TA} {p pos tpos : Pos} {elts : List Expr} {kk : Nat} (hg : Gl X "enumerate") (hm : X.mg "enumerate" = none) (ha : PA X [e] ta) (hs : starEach [e] X.env = [(false, eval e X.env)] := by rfl) :
    PI X (.Tuple elts kk tpos) (.Call (.Name "enumerate" p) [e] [] pos) (iEnumT X.K ta) := by
  refine ⟨fun pins s σ H R I h => ?_⟩
  refine Call_ (ld_blt I hg hm boot_enumerate (PyProof.Rows.callWith_type1 (thn (ha.run pos pins s σ H _ I h) fun us s1 ⟨vs, H1, I1, r1, q1⟩ => ?_) hs rfl))
  obtain ⟨a, xs, ex, hq, q⟩ := q1
  subst ex
  obtain ⟨u, rfl, ru⟩ := r1.one
  cases ru
  obtain ⟨its, rv, p', hz⟩ := I1.tuple hq
  have hal : a < s1.heap.objs.size := by
    obtain ⟨o, ho, _⟩ := p'
    exact Heap.lt_size ho
  refine call_enumT p' fun h' he hit hk => wpAny_pyIter_enum he ?_
  have I2 : Inv X pins σ H1 { s1 with heap := h' } := I1.kept (t' := s1.toks) hk
  refine ⟨s1.heap.objs.size + 1, [s1.heap.objs.size + 1, s1.heap.objs.size], _, _, H1, rfl, I2, turn_enumT a (s1.heap.objs.size + 1) s1.heap.objs.size, ⟨⟨.none, he⟩, hit, Nat.succ_ne_self _, Nat.ne_of_lt hal, Nat.ne_of_lt (Nat.lt_succ_of_lt hal)⟩, fun b hb => ?_, q⟩
  have hle : s1.heap.objs.size ≤ b := by
    have z : b = s1.heap.objs.size + 1 ∨ b = s1.heap.objs.size := by simpa using hb
    rcases z with z | z <;> rw [z]
    · exact Nat.le_add_right _ _
    · exact Nat.le_refl _
  exact I1.fpOk hle (I1.hok.fresh hle)
end
theorem for_enumT {K : PySem.W.Frag} {a : Addr} {xs : List V} {g : TG} {tb : TS} {D : Ends} {σ : L2.St} {H : Hp} (Pv : Nat → L2.St → Hp → Prop) (h0 : Pv 0 σ H) (hq : ∀ i σ H, Pv i σ H → SqT K H a xs)
    (hs : ∀ (i : Nat) (x : V) (T : Addr) (σ : L2.St) (H : Hp), xs[i]? = some x → Pv i σ H → H T = none → g (.ref T) σ (upd H T (.tup [.int (i : Nat), x])) fun σ2 H2 => tb { D with nx := Pv (i + 1), ct := Pv (i + 1), bk := D.nx } σ2 H2) (hd : ∀ σ H, Pv xs.length σ H → D.nx σ H) :
    ∃ W : Nat → Nat → L2.St → Hp → Prop, (∃ m, W 0 m σ H) ∧ ∀ i m σ H, W i m σ H →
      ((IteT K a).stop i H ∧ D.nx σ H) ∨ ((IteT K a).go i H ∧ ∃ N : L2.St → Hp → Prop, (∀ σ' H', N σ' H' → ∃ m', m' < m ∧ W (i + 1) m' σ' H') ∧ ∀ v H', (IteT K a).yld i H v H' → g v σ H' fun σ2 H2 => tb { D with nx := N, ct := N, bk := D.nx } σ2 H2) := by
  refine ⟨fun i m σ H => m = xs.length - i ∧ i ≤ xs.length ∧ Pv i σ H, ⟨xs.length, rfl, Nat.zero_le _, h0⟩, ?_⟩
  rintro i m σ H ⟨rfl, hi, p⟩
  have q := hq i σ H p
  by_cases hlt : i < xs.length
  · refine .inr ⟨⟨xs, xs[i], q, List.getElem?_eq_getElem hlt⟩, Pv (i + 1), fun σ' H' p' => ⟨xs.length - (i + 1), by omega, rfl, hlt, p'⟩, fun v H' y => ?_⟩
    obtain ⟨T, x', rfl, hT, rfl, f1⟩ := y
    exact hs i x' T σ H (f1 xs q) p hT
  · have e : i = xs.length := by omega
    subst e
    exact .inl ⟨⟨xs, q, rfl⟩, hd σ H p⟩
/-! ### the refusals' own making -/
abbrev s_init : Stmt := inClass (top 1) 0
abbrev N_init : List Str := ["self", "what"]
theorem sc_init : FnScope N_init N_init (defScope s_init) := ⟨rfl, rfl, rfl, by decide +kernel, rfl, by decide +kernel, by decide +kernel⟩
def spInit (K : PySem.W.Frag) : Sp := fun vs H Q _ => ∃ (a C : Addr) (v : V), vs = [.ref a, v] ∧ OexC K C ∧ PySem.W.findIn K (.ref C) "what" = some none ∧ H a = some (exo a C none) ∧
  ∀ dx, H dx = none → dx ≠ a → Q .non (upd (upd H dx (exd dx [(("what" : Str), v)])) a (exo a C (some dx)))
section
variable {P : Program} {w : World} {K : PySem.W.Frag} {mg : Str → Option Value} {base : Heap}
theorem ok_init {f : Addr} {fd : FuncData} {k : Nat} (F : Fun K "__init__" "TurnError.__init__" s_init f fd) : FnOk P w K mg base CX0 (k + 1) f fd N_init (spInit K) := by
  refine F.ok sc_init (fun vs H Q E h => ?_) (fun cdv A outer s H vs Q E hr h => ?_)
  · obtain ⟨a, C, v, rfl, _⟩ := h
    rfl
  · obtain ⟨a, C, v, rfl, T, nw, ha, q⟩ := h
    refine ⟨_, pss_one (ps_ost (pv 0) (pv 1)), ?_⟩
    exact ⟨_, rfl, _, rfl, a, C, rfl, T, nw, .inl ⟨ha, q⟩⟩
end
/-- C(v), made to be raised -/
theorem mk_what {K : PySem.W.Frag} {C : Addr} {v : V} {Q : XK} {H1 : Hp} (E : ExK K C) (h : ∀ d H', H1 d = none → Same H1 H' → H' d = some (.xd [(("what" : Str), v)]) → Q (.ref C) (some d) H') : ∀ a, H1 a = none → spInit K (.ref a :: ([v] ++ [])) (upd H1 a (exo a C none))
    (fun v' H2 => v' = .non ∧ ∃ (d : Addr) (fs : List (Str × V)), H2 a = some (exo a C (some d)) ∧ H2 d = some (exd d fs) ∧ H1 d = none ∧ Q (.ref C) (some d) (upd (del H2 a) d (.xd fs))) (fun _ _ _ => False) := by
  intro a ha
  refine ⟨a, C, v, rfl, E.oex, E.nw, upd_same, fun dx hd ne => ?_⟩
  rw [upd_ne ne] at hd
  refine ⟨rfl, dx, _, upd_same, ?_, hd, h dx _ hd (fun b o e => ?_) upd_same⟩
  · rw [upd_ne ne, upd_same]
  · have n1 := ne_of_none e hd
    have n2 := ne_of_none e ha
    rw [upd_ne n1, del_ne n2, upd_ne n2, upd_ne n1, upd_ne n2]
    exact e
/-- what is told of the class of a refusal, under TurnError at CT -/
structure Ref (K : PySem.W.Frag) (CT C fI : Addr) : Prop where
  ek : ExK K C
  ini : PySem.W.findIn K (.ref C) "__init__" = some (some (.ref fI))
  em : PySem.W.exmOne K (.ref C) (.ref CT) = some true
  kv : PySem.W.kitOne K (.ref C) (.type "ValueError") = some true
  kt : PySem.W.kitOne K (.ref C) (.ref CT) = some true
/-- what is told of the refusals' own making -/
structure XI (K : PySem.W.Frag) (fI : Addr) (fdI : FuncData) : Prop where
  F : Fun K "__init__" "TurnError.__init__" s_init fI fdI
  b : Binds K fdI N_init []
  ty : PySem.W.typeIn K (.ref fI) = some (.type "function")
def Wh (H H' : Hp) (d : Addr) (v : V) : Prop := H d = none ∧ Same H H' ∧ H' d = some (.xd [(("what" : Str), v)])
def Good (bs : List Int) (i : Nat) : Prop := ∀ a ∈ bs.take i, Int.gcd (bs.getD i 0) a = 1
theorem sIx_nat {n d i : Nat} (h : i ≤ n) : HT.sIx n d (some (i : Int)) = i := by
  rw [HT.sIx_nat]
  omega
abbrev s_check_coprime : Stmt := top 14
abbrev N_check_coprime : List Str := ["bys", "place", "by", "ahead"]
abbrev P_check_coprime : List Str := ["bys"]
theorem sc_check_coprime : FnScope N_check_coprime P_check_coprime (defScope s_check_coprime) := ⟨rfl, rfl, rfl, by decide +kernel, rfl, by decide +kernel, by decide +kernel⟩
section
variable {P : Program} {w : World} {K : PySem.W.Frag} {mg : Str → Option Value} {base : Heap}
def spChkL (K : PySem.W.Frag) (C : Addr) : Sp := fun vs H Q E => ∃ (b : Addr) (bs : List Int), vs = [.ref b] ∧ SqL K H b (bs.map V.int) ∧ bs.length ≤ 1000 ∧ (∀ x ∈ bs, 0 ≤ x ∧ x ≤ 1000000) ∧
  ((∀ i < bs.length, Good bs i) → ∀ H', Same H H' → Q .non H') ∧ (∀ p < bs.length, (∀ i < p, Good bs i) → ¬ Good bs p → ∀ d H', Wh H H' d (.int p) → E (.ref C) (some d) H')
theorem ok_chkL {f f1 fI C CT : Addr} {fd d1 fdI : FuncData} {k : Nat} (F : Fun K "check_coprime" "check_coprime" s_check_coprime f fd) (T : Blt mg) (D_are_coprime : Df K mg "are_coprime" s_are_coprime P_are_coprime f1 d1) (x : XI K fI fdI)
    (R : Ref K CT C fI) (M_NotCoprime : mg "NotCoprime" = some (.ref C)) : FnOk P w K mg base (L2.CX P w) (k + 3) f fd P_check_coprime (spChkL K C) := by
  have G_init : FnOk P w K mg base CX0 1 fI fdI N_init (spInit K) := ok_init x.F
  have G_are_coprime : FnOk P w K mg base CX0 1 f1 d1 P_are_coprime spCop := ok_coprime D_are_coprime.F
  have I_ty := x.ty
  have I_b := x.b
  have EK_NotCoprime := R.ek
  have II_NotCoprime := R.ini
  have nd := sc_check_coprime.nd
  refine F.okX sc_check_coprime (fun vs H Q E h => ?_) (fun cdv A outer s H vs Q E hr h => ?_)
  · obtain ⟨b, bs, rfl, _⟩ := h
    rfl
  · obtain ⟨b, bs, rfl, hb, hlen, hbb, qy, qn⟩ := h
    refine ⟨_, (pss_one (ps_for (passes_of rfl) rfl (pi_enum (by rfl) T.b_enumerate (pa_cons (pv 0) pa_nil)) (pg_tup (by rfl) (pgs_cons (pg_name (i := 1) nd rfl (Or.inl rfl)) (pgs_cons (pg_name (i := 2) nd rfl (Or.inr rfl)) pgs_nil)))
      (pss_one (ps_if (pt_not (pt_val (pe_callB (r := rAll K) (cr_all rfl) (by rfl) T.b_all (by decide +kernel) (pa_cons (pe_lc (own := [("ahead", 3)]) (g := gName 3) (by rfl) nd (pi_list (pe_slice (r := rSlL K) sl_list (pv 0) po_none (po_some (pv 1)))) (blkOk_by (own := [("ahead", 3)]) (N := N_check_coprime) (sc := defScope s_check_coprime) (by decide +kernel)) (fun _ _ _ _ _ => (pg_name (i := 3) nd rfl (Or.inl rfl))) (fun _ _ _ _ _ => pts_nil) (fun _ _ _ _ _ => (pe_call G_are_coprime (hr.mono (by omega)) (by rfl) D_are_coprime.g D_are_coprime.F.kp D_are_coprime.b .nil pass0 (pa_cons (pv 2) (pa_cons (pv 3) pa_nil))))) pa_nil)))) (pss_one (ps_raise rfl (takes_of rfl rfl rfl rfl) (pmk_oex EK_NotCoprime.oex II_NotCoprime I_ty G_init (hr.mono (by omega)) I_b .nil pass0 (by rfl) M_NotCoprime (pa_cons (pv 1) pa_nil)))) pss_nil)))), ?_⟩
    walk_at "ev"
    refine for_enumL (K := K) (a := b) (xs := bs.map V.int) (fun i σ H' => Hold (∃ s1 s2, σ = [some (.ref b), s1, s2, none] ∧ Same H H' ∧ ∀ j < i, Good bs j)) (.mk ⟨none, none, rfl, Same.refl _, fun j hj => absurd hj (Nat.not_lt_zero j)⟩) ?_ ?_ ?_
    · intro i σ H1 hP
      obtain ⟨s1, s2, rfl, sm1, hg⟩ := hP.un
      exact Same.seq sm1 hb
    · intro i v T' σ H1 hv hP hT
      obtain ⟨s1, s2, rfl, sm1, hg⟩ := hP.un
      rw [List.getElem?_map] at hv
      obtain ⟨y, hy, ev⟩ := Option.map_eq_some_iff.mp hv
      subst ev
      have hil : i < bs.length := (List.getElem?_eq_some_iff.mp hy).1
      have eyi : bs.getD i 0 = y := by rw [List.getD_eq_getElem?_getD, hy]; rfl
      have hyb := hbb y (List.mem_of_getElem? hy)
      generalize hG : upd _ T' _ = H2
      obtain ⟨sm2, hq2⟩ := newO hG hT
      clear hG
      have hT2 : SqT K H2 T' [.int (i : Nat), .int y] := SqT.of hq2
      have hb2 := Same.seq (sm1.trans sm2) hb
      have ecut : cutV (bs.map V.int) none (some (i : Int)) = (bs.take i).map V.int := by
        have e : cutV (bs.map V.int) none (some (i : Int)) = ((bs.map V.int).drop 0).take (HT.sIx (bs.map V.int).length (bs.map V.int).length (some (i : Int)) - 0) := rfl
        rw [e, List.drop_zero, List.map_take, sIx_nat (by rw [List.length_map]; omega)]
        rfl
      have hwh : ¬ (HT.sIx (bs.map V.int).length 0 none = 0 ∧ HT.sIx (bs.map V.int).length (bs.map V.int).length (some (i : Int)) = (bs.map V.int).length) := by
        rw [sIx_nat (by rw [List.length_map]; omega), List.length_map]
        omega
      walk_at "ev"
      w_cond _3
      rw [ecut] at hq3
      have hL3 := SqL.of (K := K) hq3
      refine ⟨l3, rfl, ⟨_, hL3⟩, fun D hD => ?_⟩
      refine lc_list (K := K) (a := l3) (xs := (bs.take i).map V.int) (fun j H' => Hold (Same H3 H' ∧ H' D = some (.lst ((((bs.take i).take j).map fun z => decide (Int.gcd y z = 1)).map V.bl)))) (.mk ⟨same_new hD, upd_same⟩) ?_ ?_ ?_
      · intro j H4 hj hP4
        obtain ⟨sm4, hD4⟩ := hP4.un
        exact Same.seq sm4 hL3
      · intro j v H4 hv hP4
        obtain ⟨sm4, hD4⟩ := hP4.un
        rw [List.getElem?_map] at hv
        obtain ⟨z, hz, ev⟩ := Option.map_eq_some_iff.mp hv
        subst ev
        have hzb := hbb z (List.mem_of_mem_take (List.mem_of_getElem? hz))
        have hjl : j < (bs.take i).length := (List.getElem?_eq_some_iff.mp hz).1
        rw [List.length_take] at hjl
        have hsz : ((((bs.take i).take j).map fun z => decide (Int.gcd y z = 1)).map V.bl).length < sizeLine := szm (by rw [List.length_map, List.length_map, List.length_take]; omega)
        walk_at "ev"
        refine .mk ⟨same_mut sm4 hD, ?_⟩
        rw [upd_same, List.take_add_one, hz]
        simp only [List.map_append]
        rfl
      intro H4 hP4
      obtain ⟨sm4, hD4⟩ := hP4.un
      rw [List.length_map, List.take_length] at hD4
      have s14 := sm2.trans (sm3.trans sm4)
      refine ⟨D, _, rfl, SqL.of hD4, ?_⟩
      have eg : (((bs.take i).map fun z => decide (Int.gcd y z = 1)).all id = true) ↔ Good bs i := by
        unfold Good
        rw [eyi]
        rw [List.all_map, List.all_eq_true]
        simp only [Function.comp, id, decide_eq_true_eq]
      walk_at "ev"
      by_cases c : Good bs i
      · refine iteFe (by rw [eg.mpr c]; rfl) ?_
        refine .mk ⟨_, _, rfl, sm1.trans s14, fun j hj => ?_⟩
        by_cases e : j = i
        · rw [e]
          exact c
        · exact hg j (by omega)
      · have c1 : ((bs.take i).map fun z => decide (Int.gcd y z = 1)).all id = false := by
          cases z : ((bs.take i).map fun z => decide (Int.gcd y z = 1)).all id with
          | false => rfl
          | true => exact absurd (eg.mp z) c
        refine iteTe (by rw [c1]; rfl) ?_
        refine ⟨_, rfl, (by show 1 ≤ 1000; decide), mk_what R.ek fun d H' hd sm hq => ?_⟩
        exact qn i hil hg c d H' ⟨(sm1.trans s14).free hd, (sm1.trans s14).trans sm, hq⟩
    · intro σ H1 hP
      obtain ⟨s1, s2, rfl, sm1, hg⟩ := hP.un
      rw [List.length_map] at hg
      exact qy hg _ sm1
end
section
variable {P : Program} {w : World} {K : PySem.W.Frag} {mg : Str → Option Value} {base : Heap}
def spChkT (K : PySem.W.Frag) (C : Addr) : Sp := fun vs H Q E => ∃ (b : Addr) (bs : List Int), vs = [.ref b] ∧ SqT K H b (bs.map V.int) ∧ bs.length ≤ 1000 ∧ (∀ x ∈ bs, 0 ≤ x ∧ x ≤ 1000000) ∧
  ((∀ i < bs.length, Good bs i) → ∀ H', Same H H' → Q .non H') ∧ (∀ p < bs.length, (∀ i < p, Good bs i) → ¬ Good bs p → ∀ d H', Wh H H' d (.int p) → E (.ref C) (some d) H')
theorem ok_chkT {f f1 fI C CT : Addr} {fd d1 fdI : FuncData} {k : Nat} (F : Fun K "check_coprime" "check_coprime" s_check_coprime f fd) (T : Blt mg) (D_are_coprime : Df K mg "are_coprime" s_are_coprime P_are_coprime f1 d1) (x : XI K fI fdI)
    (R : Ref K CT C fI) (M_NotCoprime : mg "NotCoprime" = some (.ref C)) : FnOk P w K mg base (L2.CX P w) (k + 3) f fd P_check_coprime (spChkT K C) := by
  have G_init : FnOk P w K mg base CX0 1 fI fdI N_init (spInit K) := ok_init x.F
  have G_are_coprime : FnOk P w K mg base CX0 1 f1 d1 P_are_coprime spCop := ok_coprime D_are_coprime.F
  have I_ty := x.ty
  have I_b := x.b
  have EK_NotCoprime := R.ek
  have II_NotCoprime := R.ini
  have nd := sc_check_coprime.nd
  refine F.okX sc_check_coprime (fun vs H Q E h => ?_) (fun cdv A outer s H vs Q E hr h => ?_)
  · obtain ⟨b, bs, rfl, _⟩ := h
    rfl
  · obtain ⟨b, bs, rfl, hb, hlen, hbb, qy, qn⟩ := h
    refine ⟨_, (pss_one (ps_for (passes_of rfl) rfl (pi_enumT (by rfl) T.b_enumerate (pa_cons (pv 0) pa_nil)) (pg_tup (by rfl) (pgs_cons (pg_name (i := 1) nd rfl (Or.inl rfl)) (pgs_cons (pg_name (i := 2) nd rfl (Or.inr rfl)) pgs_nil)))
      (pss_one (ps_if (pt_not (pt_val (pe_callB (r := rAll K) (cr_all rfl) (by rfl) T.b_all (by decide +kernel) (pa_cons (pe_lc (own := [("ahead", 3)]) (g := gName 3) (by rfl) nd (pi_tup (pe_slice (r := rSlT K) sl_tup (pv 0) po_none (po_some (pv 1)))) (blkOk_by (own := [("ahead", 3)]) (N := N_check_coprime) (sc := defScope s_check_coprime) (by decide +kernel)) (fun _ _ _ _ _ => (pg_name (i := 3) nd rfl (Or.inl rfl))) (fun _ _ _ _ _ => pts_nil) (fun _ _ _ _ _ => (pe_call G_are_coprime (hr.mono (by omega)) (by rfl) D_are_coprime.g D_are_coprime.F.kp D_are_coprime.b .nil pass0 (pa_cons (pv 2) (pa_cons (pv 3) pa_nil))))) pa_nil)))) (pss_one (ps_raise rfl (takes_of rfl rfl rfl rfl) (pmk_oex EK_NotCoprime.oex II_NotCoprime I_ty G_init (hr.mono (by omega)) I_b .nil pass0 (by rfl) M_NotCoprime (pa_cons (pv 1) pa_nil)))) pss_nil)))), ?_⟩
    walk_at "ev"
    refine for_enumT (K := K) (a := b) (xs := bs.map V.int) (fun i σ H' => Hold (∃ s1 s2, σ = [some (.ref b), s1, s2, none] ∧ Same H H' ∧ ∀ j < i, Good bs j)) (.mk ⟨none, none, rfl, Same.refl _, fun j hj => absurd hj (Nat.not_lt_zero j)⟩) ?_ ?_ ?_
    · intro i σ H1 hP
      obtain ⟨s1, s2, rfl, sm1, hg⟩ := hP.un
      exact same_t sm1 hb
    · intro i v T' σ H1 hv hP hT
      obtain ⟨s1, s2, rfl, sm1, hg⟩ := hP.un
      rw [List.getElem?_map] at hv
      obtain ⟨y, hy, ev⟩ := Option.map_eq_some_iff.mp hv
      subst ev
      have hil : i < bs.length := (List.getElem?_eq_some_iff.mp hy).1
      have eyi : bs.getD i 0 = y := by rw [List.getD_eq_getElem?_getD, hy]; rfl
      have hyb := hbb y (List.mem_of_getElem? hy)
      generalize hG : upd _ T' _ = H2
      obtain ⟨sm2, hq2⟩ := newO hG hT
      clear hG
      have hT2 : SqT K H2 T' [.int (i : Nat), .int y] := SqT.of hq2
      have hb2 := same_t (sm1.trans sm2) hb
      have ecut : cutV (bs.map V.int) none (some (i : Int)) = (bs.take i).map V.int := by
        have e : cutV (bs.map V.int) none (some (i : Int)) = ((bs.map V.int).drop 0).take (HT.sIx (bs.map V.int).length (bs.map V.int).length (some (i : Int)) - 0) := rfl
        rw [e, List.drop_zero, List.map_take, sIx_nat (by rw [List.length_map]; omega)]
        rfl
      have hwh : ¬ (HT.sIx (bs.map V.int).length 0 none = 0 ∧ HT.sIx (bs.map V.int).length (bs.map V.int).length (some (i : Int)) = (bs.map V.int).length) := by
        rw [sIx_nat (by rw [List.length_map]; omega), List.length_map]
        omega
      walk_at "ev"
      w_cond _3
      rw [ecut] at hq3
      have hL3 := SqT.of (K := K) hq3
      refine ⟨l3, rfl, ⟨_, hL3⟩, fun D hD => ?_⟩
      refine lc_tup (K := K) (a := l3) (xs := (bs.take i).map V.int) (fun j H' => Hold (Same H3 H' ∧ H' D = some (.lst ((((bs.take i).take j).map fun z => decide (Int.gcd y z = 1)).map V.bl)))) (.mk ⟨same_new hD, upd_same⟩) ?_ ?_ ?_
      · intro j H4 hj hP4
        obtain ⟨sm4, hD4⟩ := hP4.un
        exact same_t sm4 hL3
      · intro j v H4 hv hP4
        obtain ⟨sm4, hD4⟩ := hP4.un
        rw [List.getElem?_map] at hv
        obtain ⟨z, hz, ev⟩ := Option.map_eq_some_iff.mp hv
        subst ev
        have hzb := hbb z (List.mem_of_mem_take (List.mem_of_getElem? hz))
        have hjl : j < (bs.take i).length := (List.getElem?_eq_some_iff.mp hz).1
        rw [List.length_take] at hjl
        have hsz : ((((bs.take i).take j).map fun z => decide (Int.gcd y z = 1)).map V.bl).length < sizeLine := szm (by rw [List.length_map, List.length_map, List.length_take]; omega)
        walk_at "ev"
        refine .mk ⟨same_mut sm4 hD, ?_⟩
        rw [upd_same, List.take_add_one, hz]
        simp only [List.map_append]
        rfl
      intro H4 hP4
      obtain ⟨sm4, hD4⟩ := hP4.un
      rw [List.length_map, List.take_length] at hD4
      have s14 := sm2.trans (sm3.trans sm4)
      refine ⟨D, _, rfl, SqL.of hD4, ?_⟩
      have eg : (((bs.take i).map fun z => decide (Int.gcd y z = 1)).all id = true) ↔ Good bs i := by
        unfold Good
        rw [eyi]
        rw [List.all_map, List.all_eq_true]
        simp only [Function.comp, id, decide_eq_true_eq]
      walk_at "ev"
      by_cases c : Good bs i
      · refine iteFe (by rw [eg.mpr c]; rfl) ?_
        refine .mk ⟨_, _, rfl, sm1.trans s14, fun j hj => ?_⟩
        by_cases e : j = i
        · rw [e]
          exact c
        · exact hg j (by omega)
      · have c1 : ((bs.take i).map fun z => decide (Int.gcd y z = 1)).all id = false := by
          cases z : ((bs.take i).map fun z => decide (Int.gcd y z = 1)).all id with
          | false => rfl
          | true => exact absurd (eg.mp z) c
        refine iteTe (by rw [c1]; rfl) ?_
        refine ⟨_, rfl, (by show 1 ≤ 1000; decide), mk_what R.ek fun d H' hd sm hq => ?_⟩
        exact qn i hil hg c d H' ⟨(sm1.trans s14).free hd, (sm1.trans s14).trans sm, hq⟩
    · intro σ H1 hP
      obtain ⟨s1, s2, rfl, sm1, hg⟩ := hP.un
      rw [List.length_map] at hg
      exact qy hg _ sm1
end
abbrev s_inverse : Stmt := top 10
abbrev N_inverse : List Str := ["number", "by", "high", "low", "high_share", "low_share", "times", "found"]
abbrev P_inverse : List Str := ["number", "by"]
theorem sc_inverse : FnScope N_inverse P_inverse (defScope s_inverse) := ⟨rfl, rfl, rfl, by decide +kernel, rfl, by decide +kernel, by decide +kernel⟩
def spInv (C : Addr) : Sp := fun vs H Q E => ∃ (n m : Int), vs = [.int n, .int m] ∧ 0 ≤ n ∧ 2 ≤ m ∧ m ≤ 1000000000 ∧ (Int.gcd n m = 1 → ∀ x, 0 ≤ x → x < m → n * x % m = 1 → ∀ H', Same H H' → Q (.int x) H') ∧
  (Int.gcd n m ≠ 1 → ∀ d H', H d = none → Same H H' → H' d = some (.xd [(("what" : Str), .int n)]) → E (.ref C) (some d) H')
theorem mod_of_sub {m u v : Int} (h : m ∣ u - v) : u % m = v % m := Int.emod_eq_emod_iff_emod_sub_eq_zero.mpr (Int.emod_eq_zero_of_dvd h)
section
variable {P : Program} {w : World} {K : PySem.W.Frag} {mg : Str → Option Value} {base : Heap}
theorem ok_inverse {f fI C CT : Addr} {fd fdI : FuncData} {k : Nat} (F : Fun K "inverse" "inverse" s_inverse f fd) (FI : Fun K "__init__" "TurnError.__init__" s_init fI fdI) (I_b : Binds K fdI N_init []) (I_ty : PySem.W.typeIn K (.ref fI) = some (.type "function"))
    (R : Ref K CT C fI) (M_NoInverse : mg "NoInverse" = some (.ref C)) : FnOk P w K mg base (L2.CX P w) (k + 3) f fd P_inverse (spInv C) := by
  have G_init : FnOk P w K mg base CX0 1 fI fdI N_init (spInit K) := ok_init FI
  have EK_NoInverse := R.ek
  have II_NoInverse := R.ini
  have nd := sc_inverse.nd
  refine F.okX sc_inverse (fun vs H Q E h => ?_) (fun cdv A outer s H vs Q E hr h => ?_)
  · obtain ⟨n, m, rfl, _⟩ := h
    rfl
  · obtain ⟨n, m, rfl, n0, m2, m9, qy, qn⟩ := h
    refine ⟨_, (pss_cons (ps_par (i := 2) (j := 3) (by rfl) nd rfl rfl (by decide) rfl rfl (pa_cons (pv 1) (pa_cons (pe_op op_mod (pv 0) (pv 1)) pa_nil)) (by rfl))
      (pss_cons (ps_asg (pe_tup (pa_cons (pe_int) (pa_cons (pe_int) pa_nil))) (pg_tup (by rfl) (pgs_cons (pg_name (i := 4) nd rfl (Or.inl rfl)) (pgs_cons (pg_name (i := 5) nd rfl (Or.inl rfl)) pgs_nil))))
      (pss_cons (ps_while (passes_of rfl) (pt_cmpR op_ne (pv 3) (pe_int) (nomark _))
      (pss_cons (ps_set (i := 6) nd rfl (Or.inl rfl) (pe_op op_fdiv (pv 2) (pv 3)))
      (pss_cons (ps_par (i := 2) (j := 3) (by rfl) nd rfl rfl (by decide) rfl rfl (pa_cons (pv 3) (pa_cons (pe_op op_sub (pv 2) (pe_op op_mul (pv 6) (pv 3))) pa_nil)) (by rfl))
      (pss_one (ps_par (i := 4) (j := 5) (by rfl) nd rfl rfl (by decide) rfl rfl (pa_cons (pv 5) (pa_cons (pe_op op_sub (pv 4) (pe_op op_mul (pv 6) (pv 5))) pa_nil)) (by rfl))))))
      (pss_cons (ps_set (i := 7) nd rfl (Or.inl rfl) (pe_op op_mod (pv 4) (pv 1)))
      (pss_cons (ps_if (pt_cmpR op_ne (pe_op op_mod (pe_op op_mul (pv 0) (pv 7)) (pv 1)) (pe_int) (nomark _)) (pss_one (ps_raise rfl (takes_of rfl rfl rfl rfl) (pmk_oex EK_NoInverse.oex II_NoInverse I_ty G_init (hr.mono (by omega)) I_b .nil pass0 (by rfl) M_NoInverse (pa_cons (pv 0) pa_nil)))) pss_nil)
      (pss_one (ps_ret (pv 7)))))))), ?_⟩
    walk_at "ev"
    have l0 := Int.emod_nonneg n (show m ≠ 0 by omega)
    have l1 := Int.emod_lt_of_pos n (show 0 < m by omega)
    have ls : m ∣ n * 1 - n % m := by
      rw [Int.mul_one]
      have := Int.emod_add_mul_ediv n m
      exact ⟨n / m, by omega⟩
    intro tp hp
    generalize hG : upd _ tp _ = H1
    obtain ⟨sm1, hq1⟩ := newO hG hp
    have hT1 : SqT K H1 tp [.int 0, .int 1] := SqT.of hq1
    clear hG hq1
    walk_at "ev"
    refine ⟨fun z σ H' => H' = H1 ∧ ∃ (hi lo hs lo' : Int) (s6 : Option V), σ = [some (.int n), some (.int m), some (.int hi), some (.int lo), some (.int hs), some (.int lo'), s6, none] ∧ z = lo.toNat ∧ 0 ≤ hi ∧ hi ≤ m ∧ 0 ≤ lo ∧ lo ≤ m ∧ Int.gcd hi lo = Int.gcd m (n % m) ∧ m ∣ n * hs - hi ∧ m ∣ n * lo' - lo,
      ⟨_, rfl, m, n % m, 0, 1, none, rfl, rfl, by omega, by omega, l0, by omega, rfl, by rw [Int.mul_zero, Int.zero_sub]; exact Int.dvd_neg.mpr (Int.dvd_refl m), ls⟩, ?_⟩
    rintro z σ H' ⟨rfl, hi, lo, hs, lo', s6, rfl, rfl, h0, h1, g0, g1, hg, d1, d2⟩
    walk_at "ev"
    by_cases c : lo = 0
    · subst c
      refine iteFe (by simp) ?_
      have hgc : hi = ((Int.gcd n m : Nat) : Int) := by
        rw [gcd_step n0 (by omega), Int.gcd_zero_right] at hg
        omega
      have r0 := Int.emod_nonneg hs (show m ≠ 0 by omega)
      have r1 := Int.emod_lt_of_pos hs (show 0 < m by omega)
      have ep : n * (hs % m) % m = hi % m := by
        rw [Int.mul_emod, Int.emod_emod_of_dvd _ (Int.dvd_refl m), ← Int.mul_emod]
        exact mod_of_sub d1
      have cm : CMul n (hs % m) := .inr ⟨by omega, by omega⟩
      walk_at "ev"
      by_cases e : Int.gcd n m = 1
      · have e1 : n * (hs % m) % m = 1 := by
          rw [ep, hgc, e]
          exact Int.emod_eq_of_lt (by decide) (by show (1 : Int) < m; omega)
        refine iteFe (by simp [e1]) ?_
        walk_at "ev"
        exact qy e _ r0 r1 e1 _ sm1
      · have e1 : ¬ n * (hs % m) % m = 1 := fun z => e (gcd_of_inv z)
        refine iteTe (by simp [e1]) ?_
        refine ⟨_, rfl, (by show 1 ≤ 1000; decide), mk_what R.ek fun d H' hd sm hq => ?_⟩
        exact qn e d H' (sm1.free hd) (sm1.trans sm) hq
    · refine iteTe (by simp [c]) ?_
      refine ⟨_, holdN, ?_⟩
      have t0 : 0 ≤ hi / lo := Int.ediv_nonneg h0 g0
      have t1 : hi / lo ≤ hi := Int.ediv_le_self _ h0
      have cm1 : CMul (hi / lo) lo := .inl ⟨by omega, by omega⟩
      have cm2 : CMul (hi / lo) lo' := .inl ⟨by omega, by omega⟩
      have cd : CDiv hi lo := ⟨by omega, by omega⟩
      walk_at "ev"
      have em : hi - hi / lo * lo = hi % lo := by
        have := Int.emod_add_mul_ediv hi lo
        rw [Int.mul_comm lo] at this
        omega
      have u0 := Int.emod_nonneg hi c
      have u1 := Int.emod_lt_of_pos hi (show 0 < lo by omega)
      refine .mk ⟨(hi - hi / lo * lo).toNat, by omega, rfl, lo, hi - hi / lo * lo, lo', hs - hi / lo * lo', _, rfl, rfl, g0, g1, by omega, by omega, ?_, d2, ?_⟩
      · rw [em, gcd_step h0 g0]
        exact hg
      · have : n * (hs - hi / lo * lo') - (hi - hi / lo * lo) = (n * hs - hi) - hi / lo * (n * lo' - lo) := by
          rw [Int.mul_sub, Int.mul_sub, ← Int.mul_assoc, ← Int.mul_assoc, Int.mul_comm n (hi / lo)]
          omega
        rw [this]
        exact Int.dvd_sub d1 (Int.dvd_mul_of_dvd_right d2)
end
/-! ### rests joined -/
def prd (ns : List Int) : Int := ns.foldl (· * ·) 1
theorem prd_take {bs : List Int} {i : Nat} {y : Int} (h : bs[i]? = some y) : prd (bs.take (i + 1)) = prd (bs.take i) * y := by
  unfold prd
  rw [List.take_add_one, h, List.foldl_append]
  rfl
theorem fold_from : ∀ (ns : List Int) (a : Int), ns.foldl (· * ·) a = a * prd ns
  | [], a => by simp [prd]
  | x :: r, a => by
    rw [List.foldl_cons, fold_from r, show prd (x :: r) = (x :: r).foldl (· * ·) 1 from rfl, List.foldl_cons, fold_from r (1 * x), Int.one_mul, Int.mul_assoc]
theorem prd_cons (x : Int) (r : List Int) : prd (x :: r) = x * prd r := by
  rw [prd, List.foldl_cons, fold_from, Int.one_mul]
theorem prd_pos : ∀ {ns : List Int}, (∀ x ∈ ns, 1 ≤ x) → 0 < prd ns
  | [], _ => by decide
  | x :: r, h => by
    rw [prd_cons]
    exact Int.mul_pos (by have := h x List.mem_cons_self; omega) (prd_pos fun y hy => h y (List.mem_cons_of_mem _ hy))
theorem prd_dvd : ∀ {ns : List Int} {x : Int}, x ∈ ns → x ∣ prd ns
  | y :: r, x, h => by
    rw [prd_cons]
    rcases List.mem_cons.mp h with e | h
    · rw [e]
      exact Int.dvd_mul_right _ _
    · exact Int.dvd_mul_of_dvd_right (prd_dvd h)
theorem gcd_mul {a b y : Int} (h : Int.gcd y a = 1) (k : Int.gcd y b = 1) : Int.gcd (a * b) y = 1 := by
  have : Nat.Coprime y.natAbs (a * b).natAbs := by
    rw [Int.natAbs_mul]
    exact Nat.Coprime.mul_right h k
  exact this.symm
theorem gcd_prd : ∀ {ns : List Int} {y : Int}, (∀ x ∈ ns, Int.gcd y x = 1) → Int.gcd (prd ns) y = 1
  | [], y, _ => by
    show Int.gcd 1 y = 1
    simp
  | x :: r, y, h => by
    rw [prd_cons]
    refine gcd_mul (h x List.mem_cons_self) ?_
    rw [Int.gcd_comm]
    exact gcd_prd fun z hz => h z (List.mem_cons_of_mem _ hz)
/-- r has the first i rests -/
structure Crt (rs bs : List Int) (i : Nat) (r : Int) : Prop where
  lo : 0 ≤ r
  hi : r < prd (bs.take i)
  at_ : ∀ j < i, r % bs.getD j 0 = rs.getD j 0
theorem Crt.zero {rs bs : List Int} : Crt rs bs 0 0 := ⟨by decide, by show (0 : Int) < 1; decide, fun j hj => absurd hj (Nat.not_lt_zero j)⟩
theorem Crt.skip {rs bs : List Int} {i : Nat} {r y q : Int} (h : Crt rs bs i r) (hy : bs[i]? = some y) (hq : rs[i]? = some q) (e : y = 1) (e2 : q = 0) : Crt rs bs (i + 1) r := by
  have eyi : bs.getD i 0 = y := by rw [List.getD_eq_getElem?_getD, hy]; rfl
  have eqi : rs.getD i 0 = q := by rw [List.getD_eq_getElem?_getD, hq]; rfl
  refine ⟨h.lo, ?_, fun j hj => ?_⟩
  · rw [prd_take hy, e, Int.mul_one]
    exact h.hi
  · by_cases c : j = i
    · rw [c, eyi, eqi, e, e2, Int.emod_one]
    · exact h.at_ j (by omega)
theorem Crt.step {rs bs : List Int} {i : Nat} {r y q p z : Int} (h : Crt rs bs i r) (hy : bs[i]? = some y) (hq : rs[i]? = some q) (hp : p = prd (bs.take i)) (q0 : 0 ≤ q) (q1 : q < y) (hz : p * z % y = 1) (z0 : 0 ≤ z) (p0 : 0 ≤ p) (pos : ∀ x ∈ bs.take i, 1 ≤ x) : Crt rs bs (i + 1) (r + p * ((q - r) * z % y)) := by
  have eyi : bs.getD i 0 = y := by rw [List.getD_eq_getElem?_getD, hy]; rfl
  have eqi : rs.getD i 0 = q := by rw [List.getD_eq_getElem?_getD, hq]; rfl
  have w0 := Int.emod_nonneg ((q - r) * z) (show y ≠ 0 by omega)
  have w1 := Int.emod_lt_of_pos ((q - r) * z) (show 0 < y by omega)
  have hil : i < bs.length := (List.getElem?_eq_some_iff.mp hy).1
  refine ⟨Int.add_nonneg h.lo (Int.mul_nonneg p0 w0), ?_, fun j hj => ?_⟩
  · rw [prd_take hy, ← hp]
    have h1 : p * ((q - r) * z % y) ≤ p * (y - 1) := Int.mul_le_mul_of_nonneg_left (by omega) p0
    have h2 := h.hi
    rw [← hp] at h2
    rw [Int.mul_sub, Int.mul_one] at h1
    omega
  · by_cases c : j = i
    · rw [c, eyi, eqi]
      have e1 : (r + p * ((q - r) * z % y)) % y = q % y := by
        refine mod_of_sub ?_
        have d1 : y ∣ p * z - 1 := by
          have := Int.emod_add_mul_ediv (p * z) y
          exact ⟨p * z / y, by omega⟩
        have d2 : y ∣ (q - r) * z - (q - r) * z % y := by
          have := Int.emod_add_mul_ediv ((q - r) * z) y
          exact ⟨(q - r) * z / y, by omega⟩
        have e : r + p * ((q - r) * z % y) - q = (q - r) * (p * z - 1) - p * ((q - r) * z - (q - r) * z % y) := by
          rw [Int.mul_sub, Int.mul_sub, Int.mul_one]
          have : (q - r) * (p * z) = p * ((q - r) * z) := by rw [← Int.mul_assoc, ← Int.mul_assoc, Int.mul_comm (q - r) p]
          omega
        rw [e]
        exact Int.dvd_sub (Int.dvd_mul_of_dvd_right d1) (Int.dvd_mul_of_dvd_right d2)
      rw [e1, Int.emod_eq_of_lt q0 q1]
    · have hj' : j < i := by omega
      have hm : bs.getD j 0 ∈ bs.take i := by
        rw [List.getD_eq_getElem?_getD, List.getElem?_eq_getElem (by omega)]
        exact List.mem_take_iff_getElem.mpr ⟨j, by omega, rfl⟩
      have d : bs.getD j 0 ∣ p := by
        rw [hp]
        exact prd_dvd hm
      rw [← h.at_ j hj']
      refine mod_of_sub ?_
      rw [show r + p * ((q - r) * z % y) - r = p * ((q - r) * z % y) by omega]
      exact Int.dvd_mul_of_dvd_left d
abbrev s_joined : Stmt := top 15
abbrev N_joined : List Str := ["rests", "bys", "told", "product", "rest", "by"]
abbrev P_joined : List Str := ["rests", "bys"]
theorem sc_joined : FnScope N_joined P_joined (defScope s_joined) := ⟨rfl, rfl, rfl, by decide +kernel, rfl, by decide +kernel, by decide +kernel⟩
section
variable {P : Program} {w : World} {K : PySem.W.Frag} {mg : Str → Option Value} {base : Heap}
def spJoinL (K : PySem.W.Frag) (C : Addr) : Sp := fun vs H Q E => ∃ (a b : Addr) (rs bs : List Int), vs = [.ref a, .ref b] ∧ SqL K H a (rs.map V.int) ∧ SqL K H b (bs.map V.int) ∧ rs.length = bs.length ∧ bs.length ≤ 1000 ∧ (∀ x ∈ bs, 1 ≤ x ∧ x ≤ 1000000) ∧ (∀ i < bs.length, 0 ≤ rs.getD i 0 ∧ rs.getD i 0 < bs.getD i 0) ∧
  ((∀ i < bs.length, Good bs i) → ∀ r H', Crt rs bs bs.length r → Same H H' → Q (.int r) H') ∧ (∀ p < bs.length, (∀ i < p, Good bs i) → ¬ Good bs p → ∀ d H', Wh H H' d (.int p) → E (.ref C) (some d) H')
theorem ok_joinL {f f1 f2 f3 fI C CI CT : Addr} {fd d1 d2 d3 fdI : FuncData} {k : Nat} (F : Fun K "joined" "joined" s_joined f fd) (T : Blt mg) (D_are_coprime : Df K mg "are_coprime" s_are_coprime P_are_coprime f1 d1) (D_check_coprime : Df K mg "check_coprime" s_check_coprime P_check_coprime f2 d2) (D_inverse : Df K mg "inverse" s_inverse P_inverse f3 d3) (x : XI K fI fdI)
    (R : Ref K CT C fI) (M_NotCoprime : mg "NotCoprime" = some (.ref C)) (RI : Ref K CT CI fI) (M_NoInverse : mg "NoInverse" = some (.ref CI)) : FnOk P w K mg base (L2.CX P w) (k + 4) f fd P_joined (spJoinL K C) := by
  have G_check_coprime : FnOk P w K mg base (L2.CX P w) 3 f2 d2 P_check_coprime (spChkL K C) := ok_chkL (k := 0) D_check_coprime.F T D_are_coprime x R M_NotCoprime
  have G_inverse : FnOk P w K mg base (L2.CX P w) 3 f3 d3 P_inverse (spInv CI) := ok_inverse (k := 0) D_inverse.F x.F x.b x.ty RI M_NoInverse
  have nd := sc_joined.nd
  refine F.okX sc_joined (fun vs H Q E h => ?_) (fun cdv A outer s H vs Q E hr h => ?_)
  · obtain ⟨a, b, rs, bs, rfl, _⟩ := h
    rfl
  · obtain ⟨a, b, rs, bs, rfl, ha, hb, hll, hlen, hbb, hrb, qy, qn⟩ := h
    refine ⟨_, (pss_cons (ps_expr (pe_call G_check_coprime (hr.mono (by omega)) (by rfl) D_check_coprime.g D_check_coprime.F.kp D_check_coprime.b .nil (passes_call (takes_of rfl rfl rfl rfl) (fun _ _ _ _ h => h)) (pa_cons (pv 1) pa_nil)))
      (pss_cons (ps_set (i := 2) nd rfl (Or.inl rfl) (pe_int))
      (pss_cons (ps_set (i := 3) nd rfl (Or.inl rfl) (pe_int))
      (pss_cons (ps_for (passes_of rfl) rfl (RZ.pi_zipA (by rfl) T.b_zip (pa_cons (pv 0) (pa_cons (pv 1) pa_nil))) (pg_tup (by rfl) (pgs_cons (pg_name (i := 4) nd rfl (Or.inl rfl)) (pgs_cons (pg_name (i := 5) nd rfl (Or.inl rfl)) pgs_nil)))
      (pss_one (ps_if (pt_cmpR op_gt (pv 5) (pe_int) (nomark _)) (pss_cons (ps_aug (i := 2) nd rfl (Or.inl rfl) (pe_op op_mul (pv 3) (pe_op op_mod (pe_op op_mul (pe_op op_sub (pv 4) (pv 2)) (pe_call G_inverse (hr.mono (by omega)) (by rfl) D_inverse.g D_inverse.F.kp D_inverse.b .nil (passes_call (takes_of rfl rfl rfl rfl) (fun _ _ _ _ h => h)) (pa_cons (pv 3) (pa_cons (pv 5) pa_nil)))) (pv 5))) ip_add)
      (pss_one (ps_aug (i := 3) nd rfl (Or.inl rfl) (pv 5) ip_mul))) pss_nil)))
      (pss_one (ps_ret (pv 2))))))), ?_⟩
    have hbb0 : ∀ x ∈ bs, 0 ≤ x ∧ x ≤ 1000000 := fun x hx => by
      have := hbb x hx
      omega
    walk_at "ev"
    refine ⟨fun hgd H1 sm1 => ?_, qn⟩
    have ha1 := Same.seq sm1 ha
    have hb1 := Same.seq sm1 hb
    walk_at "ev"
    refine .inl ⟨ha1, hb1, ?_⟩
    refine RZ.for_zipL (K := K) (a := a) (b := b) (xs := rs.map V.int) (ys := bs.map V.int) (by rw [List.length_map, List.length_map]; exact hll) (fun i σ H' => Hold (∃ (r p : Int) (s4 s5 : Option V), σ = [some (.ref a), some (.ref b), some (.int r), some (.int p), s4, s5] ∧ Same H H' ∧ Crt rs bs i r ∧ p = prd (bs.take i))) (.mk ⟨0, 1, none, none, rfl, sm1, Crt.zero, rfl⟩) ?_ ?_ ?_
    · intro i σ H2 hP
      obtain ⟨r, p, s4, s5, rfl, sm2, hcr, hp⟩ := hP.un
      exact ⟨Same.seq sm2 ha, Same.seq sm2 hb⟩
    · intro i u v T' σ H2 hu hv hP hT
      obtain ⟨r, p, s4, s5, rfl, sm2, hcr, hp⟩ := hP.un
      rw [List.getElem?_map] at hu hv
      obtain ⟨y, hy, ev⟩ := Option.map_eq_some_iff.mp hv
      subst ev
      obtain ⟨q, hq, ev⟩ := Option.map_eq_some_iff.mp hu
      subst ev
      have hil : i < bs.length := (List.getElem?_eq_some_iff.mp hy).1
      have eyi : bs.getD i 0 = y := by rw [List.getD_eq_getElem?_getD, hy]; rfl
      have eqi : rs.getD i 0 = q := by rw [List.getD_eq_getElem?_getD, hq]; rfl
      have hyb := hbb y (List.mem_of_getElem? hy)
      have hqb := hrb i hil
      rw [eyi, eqi] at hqb
      have hp0 : 0 < p := by
        rw [hp]
        exact prd_pos fun x hx => (hbb x (List.mem_of_mem_take hx)).1
      generalize hG : upd _ T' _ = H3
      obtain ⟨sm3, hq3⟩ := newO hG hT
      clear hG
      have hT3 : SqT K H3 T' [.int q, .int y] := SqT.of hq3
      have ep : prd (bs.take (i + 1)) = p * y := by
        rw [prd_take hy, hp]
      walk_at "ev"
      refine ite2 (fun c => ?_) (fun c => ?_)
      · have c1 : 1 < y := of_decide_eq_true c
        have y2 : 2 ≤ y := by omega
        have y9 : y ≤ 1000000000 := by omega
        have hp0' : 0 ≤ p := by omega
        have gpy : Int.gcd p y = 1 := by
          rw [hp]
          exact gcd_prd (fun x hx => by rw [← eyi]; exact hgd i hil x hx)
        walk_at "ev"
        refine ⟨fun _ z z0 z1 hz H4 sm4 => ?_, fun e => absurd gpy e⟩
        have cm1 : CMul (q - r) z := .inr ⟨by omega, by omega⟩
        have w0 := Int.emod_nonneg ((q - r) * z) (show y ≠ 0 by omega)
        have w1 := Int.emod_lt_of_pos ((q - r) * z) (show 0 < y by omega)
        have cm2 : CMul p ((q - r) * z % y) := .inr ⟨by omega, by omega⟩
        have cm3 : CMul p y := .inr ⟨by omega, by omega⟩
        walk_at "ev"
        refine .mk ⟨_, _, _, _, rfl, sm2.trans (sm3.trans sm4), ?_, ep.symm⟩
        exact hcr.step hy hq hp hqb.1 hqb.2 hz z0 (by omega) (fun x hx => (hbb x (List.mem_of_mem_take hx)).1)
      · have c1 : y = 1 := by
          have : ¬ 1 < y := fun z => c (decide_eq_true z)
          omega
        walk_at "ev"
        refine .mk ⟨_, _, _, _, rfl, sm2.trans sm3, ?_, ?_⟩
        · exact hcr.skip hy hq c1 (by omega)
        · rw [ep, c1, Int.mul_one]
    · intro σ H2 hP
      obtain ⟨r, p, s4, s5, rfl, sm2, hcr, hp⟩ := hP.un
      rw [List.length_map, hll] at hcr
      walk_at "ev"
      exact qy hgd r H2 hcr sm2
end
section
variable {P : Program} {w : World} {K : PySem.W.Frag} {mg : Str → Option Value} {base : Heap}
def spJoinT (K : PySem.W.Frag) (C : Addr) : Sp := fun vs H Q E => ∃ (a b : Addr) (rs bs : List Int), vs = [.ref a, .ref b] ∧ SqT K H a (rs.map V.int) ∧ SqT K H b (bs.map V.int) ∧ rs.length = bs.length ∧ bs.length ≤ 1000 ∧ (∀ x ∈ bs, 1 ≤ x ∧ x ≤ 1000000) ∧ (∀ i < bs.length, 0 ≤ rs.getD i 0 ∧ rs.getD i 0 < bs.getD i 0) ∧
  ((∀ i < bs.length, Good bs i) → ∀ r H', Crt rs bs bs.length r → Same H H' → Q (.int r) H') ∧ (∀ p < bs.length, (∀ i < p, Good bs i) → ¬ Good bs p → ∀ d H', Wh H H' d (.int p) → E (.ref C) (some d) H')
theorem ok_joinT {f f1 f2 f3 fI C CI CT : Addr} {fd d1 d2 d3 fdI : FuncData} {k : Nat} (F : Fun K "joined" "joined" s_joined f fd) (T : Blt mg) (D_are_coprime : Df K mg "are_coprime" s_are_coprime P_are_coprime f1 d1) (D_check_coprime : Df K mg "check_coprime" s_check_coprime P_check_coprime f2 d2) (D_inverse : Df K mg "inverse" s_inverse P_inverse f3 d3) (x : XI K fI fdI)
    (R : Ref K CT C fI) (M_NotCoprime : mg "NotCoprime" = some (.ref C)) (RI : Ref K CT CI fI) (M_NoInverse : mg "NoInverse" = some (.ref CI)) : FnOk P w K mg base (L2.CX P w) (k + 4) f fd P_joined (spJoinT K C) := by
  have G_check_coprime : FnOk P w K mg base (L2.CX P w) 3 f2 d2 P_check_coprime (spChkT K C) := ok_chkT (k := 0) D_check_coprime.F T D_are_coprime x R M_NotCoprime
  have G_inverse : FnOk P w K mg base (L2.CX P w) 3 f3 d3 P_inverse (spInv CI) := ok_inverse (k := 0) D_inverse.F x.F x.b x.ty RI M_NoInverse
  have nd := sc_joined.nd
  refine F.okX sc_joined (fun vs H Q E h => ?_) (fun cdv A outer s H vs Q E hr h => ?_)
  · obtain ⟨a, b, rs, bs, rfl, _⟩ := h
    rfl
  · obtain ⟨a, b, rs, bs, rfl, ha, hb, hll, hlen, hbb, hrb, qy, qn⟩ := h
    refine ⟨_, (pss_cons (ps_expr (pe_call G_check_coprime (hr.mono (by omega)) (by rfl) D_check_coprime.g D_check_coprime.F.kp D_check_coprime.b .nil (passes_call (takes_of rfl rfl rfl rfl) (fun _ _ _ _ h => h)) (pa_cons (pv 1) pa_nil)))
      (pss_cons (ps_set (i := 2) nd rfl (Or.inl rfl) (pe_int))
      (pss_cons (ps_set (i := 3) nd rfl (Or.inl rfl) (pe_int))
      (pss_cons (ps_for (passes_of rfl) rfl (RZ.pi_zipA (by rfl) T.b_zip (pa_cons (pv 0) (pa_cons (pv 1) pa_nil))) (pg_tup (by rfl) (pgs_cons (pg_name (i := 4) nd rfl (Or.inl rfl)) (pgs_cons (pg_name (i := 5) nd rfl (Or.inl rfl)) pgs_nil)))
      (pss_one (ps_if (pt_cmpR op_gt (pv 5) (pe_int) (nomark _)) (pss_cons (ps_aug (i := 2) nd rfl (Or.inl rfl) (pe_op op_mul (pv 3) (pe_op op_mod (pe_op op_mul (pe_op op_sub (pv 4) (pv 2)) (pe_call G_inverse (hr.mono (by omega)) (by rfl) D_inverse.g D_inverse.F.kp D_inverse.b .nil (passes_call (takes_of rfl rfl rfl rfl) (fun _ _ _ _ h => h)) (pa_cons (pv 3) (pa_cons (pv 5) pa_nil)))) (pv 5))) ip_add)
      (pss_one (ps_aug (i := 3) nd rfl (Or.inl rfl) (pv 5) ip_mul))) pss_nil)))
      (pss_one (ps_ret (pv 2))))))), ?_⟩
    have hbb0 : ∀ x ∈ bs, 0 ≤ x ∧ x ≤ 1000000 := fun x hx => by
      have := hbb x hx
      omega
    walk_at "ev"
    refine ⟨fun hgd H1 sm1 => ?_, qn⟩
    have ha1 := same_t sm1 ha
    have hb1 := same_t sm1 hb
    walk_at "ev"
    refine .inr ⟨ha1, hb1, ?_⟩
    refine RZ.for_zipT (K := K) (a := a) (b := b) (xs := rs.map V.int) (ys := bs.map V.int) (by rw [List.length_map, List.length_map]; exact hll) (fun i σ H' => Hold (∃ (r p : Int) (s4 s5 : Option V), σ = [some (.ref a), some (.ref b), some (.int r), some (.int p), s4, s5] ∧ Same H H' ∧ Crt rs bs i r ∧ p = prd (bs.take i))) (.mk ⟨0, 1, none, none, rfl, sm1, Crt.zero, rfl⟩) ?_ ?_ ?_
    · intro i σ H2 hP
      obtain ⟨r, p, s4, s5, rfl, sm2, hcr, hp⟩ := hP.un
      exact ⟨same_t sm2 ha, same_t sm2 hb⟩
    · intro i u v T' σ H2 hu hv hP hT
      obtain ⟨r, p, s4, s5, rfl, sm2, hcr, hp⟩ := hP.un
      rw [List.getElem?_map] at hu hv
      obtain ⟨y, hy, ev⟩ := Option.map_eq_some_iff.mp hv
      subst ev
      obtain ⟨q, hq, ev⟩ := Option.map_eq_some_iff.mp hu
      subst ev
      have hil : i < bs.length := (List.getElem?_eq_some_iff.mp hy).1
      have eyi : bs.getD i 0 = y := by rw [List.getD_eq_getElem?_getD, hy]; rfl
      have eqi : rs.getD i 0 = q := by rw [List.getD_eq_getElem?_getD, hq]; rfl
      have hyb := hbb y (List.mem_of_getElem? hy)
      have hqb := hrb i hil
      rw [eyi, eqi] at hqb
      have hp0 : 0 < p := by
        rw [hp]
        exact prd_pos fun x hx => (hbb x (List.mem_of_mem_take hx)).1
      generalize hG : upd _ T' _ = H3
      obtain ⟨sm3, hq3⟩ := newO hG hT
      clear hG
      have hT3 : SqT K H3 T' [.int q, .int y] := SqT.of hq3
      have ep : prd (bs.take (i + 1)) = p * y := by
        rw [prd_take hy, hp]
      walk_at "ev"
      refine ite2 (fun c => ?_) (fun c => ?_)
      · have c1 : 1 < y := of_decide_eq_true c
        have y2 : 2 ≤ y := by omega
        have y9 : y ≤ 1000000000 := by omega
        have hp0' : 0 ≤ p := by omega
        have gpy : Int.gcd p y = 1 := by
          rw [hp]
          exact gcd_prd (fun x hx => by rw [← eyi]; exact hgd i hil x hx)
        walk_at "ev"
        refine ⟨fun _ z z0 z1 hz H4 sm4 => ?_, fun e => absurd gpy e⟩
        have cm1 : CMul (q - r) z := .inr ⟨by omega, by omega⟩
        have w0 := Int.emod_nonneg ((q - r) * z) (show y ≠ 0 by omega)
        have w1 := Int.emod_lt_of_pos ((q - r) * z) (show 0 < y by omega)
        have cm2 : CMul p ((q - r) * z % y) := .inr ⟨by omega, by omega⟩
        have cm3 : CMul p y := .inr ⟨by omega, by omega⟩
        walk_at "ev"
        refine .mk ⟨_, _, _, _, rfl, sm2.trans (sm3.trans sm4), ?_, ep.symm⟩
        exact hcr.step hy hq hp hqb.1 hqb.2 hz z0 (by omega) (fun x hx => (hbb x (List.mem_of_mem_take hx)).1)
      · have c1 : y = 1 := by
          have : ¬ 1 < y := fun z => c (decide_eq_true z)
          omega
        walk_at "ev"
        refine .mk ⟨_, _, _, _, rfl, sm2.trans sm3, ?_, ?_⟩
        · exact hcr.skip hy hq c1 (by omega)
        · rw [ep, c1, Int.mul_one]
    · intro σ H2 hP
      obtain ⟨r, p, s4, s5, rfl, sm2, hcr, hp⟩ := hP.un
      rw [List.length_map, hll] at hcr
      walk_at "ev"
      exact qy hgd r H2 hcr sm2
end
local macro_rules | `(tactic| walk_at "ev1") => `(tactic| ((first | with_reducible show ClsV _ _ | with_reducible show Paired ClsV _ _); first | exact ClsV.own _ | exact ClsV.ty _ | exact .cons (.own _) (.cons (.own _) .nil) | exact .cons (.own _) (.cons (.own _) (.cons (.own _) .nil))))
abbrev s__law_pick : Stmt := top 19
abbrev N__law_pick : List Str := ["_law_box_here", "_law_things"]
abbrev P__law_pick : List Str := ["_law_box_here", "_law_things"]
theorem sc__law_pick : FnScope N__law_pick P__law_pick (defScope s__law_pick) := ⟨rfl, rfl, rfl, by decide +kernel, rfl, by decide +kernel, by decide +kernel⟩
def spPick (K : PySem.W.Frag) : Sp := fun vs H Q _ => ∃ (b a : Addr) (xs : List V) (n : Int), vs = [.ref b, .ref a] ∧ BoxAt H b n ∧ SqL K H a xs ∧ a ≠ b ∧ 0 < (xs.length : Int) ∧ (xs.length : Int) < 1048576 ∧ n < 1048576 ∧ ∀ v H', v ∈ xs → Keep b H H' → BoxAt H' b (n + 1) → Q v H'
section
variable {P : Program} {w : World} {K : PySem.W.Frag} {mg : Str → Option Value} {base : Heap}
theorem ok_pick {f fT : Addr} {fd fdT : FuncData} {k : Nat} (F : Fun K "_law_pick" "_law_pick" s__law_pick f fd) (T : Blt mg) (D__law_take : Df K mg "_law_take" s__law_take P__law_take fT fdT) : FnOk P w K mg base CX0 (k + 2) f fd P__law_pick (spPick K) := by
  have G__law_take : FnOk P w K mg base CX0 (k + 1) fT fdT P__law_take spTake := ok_take D__law_take.F
  have nd := sc__law_pick.nd
  refine F.ok sc__law_pick (fun vs H Q E h => ?_) (fun cdv A outer s H vs Q E hr h => ?_)
  · obtain ⟨b, a, xs, n, rfl, _⟩ := h
    rfl
  · obtain ⟨b, a, xs, n, rfl, hb, hL, hne, h0, h1, hn, q⟩ := h
    refine ⟨_, (pss_one (ps_ret (pe_ix (r := rIxL K) ix_list (pv 1) (pe_call G__law_take (hr.mono (by omega)) (by rfl) D__law_take.g D__law_take.F.kp D__law_take.b .nil pass0 (pa_cons (pv 0) (pa_cons (pe_callB (r := rLenQ K) call_len_seq (by rfl) T.b_len (by decide +kernel) (pa_cons (pv 1) pa_nil)) pa_nil))) (fun _ _ => rfl)))), ?_⟩
    walk_at "ev"
    intro r H' hr0 hr1 hk hb'
    obtain ⟨v, hv, hat⟩ := at_some hr0 hr1
    have hL' := hk.seq hne hL
    walk_at "ev"
    exact q _ _ hv hk hb'
end
theorem keep_fresh {b D : Addr} {H H' : Hp} {o : HO} (h : Keep b H H') (n : H D = none) : Keep b H (upd H' D o) := fun a u na e => by
  rw [upd_ne (ne_of_none e n)]
  exact h a u na e
theorem BoxAt.upd {H : Hp} {b D : Addr} {n : Int} {o : HO} (h : BoxAt H b n) (e : D ≠ b) : BoxAt (L2.upd H D o) b n := by
  obtain ⟨x, y, z, a1, a2⟩ := h
  exact ⟨x, y, z, by rw [upd_ne e.symm]; exact a1, a2⟩
theorem dpl {K : PySem.W.Frag} {H : Hp} {a : Addr} (ns : List Int) (h : SqL K H a (ns.map V.int)) : Dp K H (.ref a) (.list (ns.map PyData.int)) := .lst h (dp_ints ns)
theorem fitl (ns : List Int) (h : ns.length ≤ 4000) : Fit 1 (.list (ns.map PyData.int)) := by
  refine ⟨by rw [List.length_map]; exact h, fun e he => ?_⟩
  obtain ⟨c, _, rfl⟩ := List.mem_map.mp he
  exact True.intro
theorem fit_ni {x : Str} {a : Int} : Fit 1 (.tuple [.str x, .int a]) := by
  refine ⟨by simp, fun e he => ?_⟩
  simp only [List.mem_cons, List.not_mem_nil, or_false] at he
  rcases he with h | h <;> rw [h] <;> exact True.intro
/-! ### except (x, x2) as n -/
theorem fly_keeps {base : Heap} {l : List Env} {e : Addr} {Z : Obj → Prop} {h h' : Heap} (f : HandSPX.FlyingZ base l e Z h) (k : ∀ b o, h.get? b = some o → h'.get? b = some o) : HandSPX.FlyingZ base l e Z h' := by
  obtain ⟨k1, k2, k3, ob, vs, T, oT, ts, q1, q2, q3, q4, q5, q6, q7, q8, q9⟩ := f
  exact ⟨fun b o z => k b o (k1 b o z), k2, Heap.FunFrames.of_keeps (fun b o z _ => ⟨o, k b o z, rfl⟩) k3, ob, vs, T, oT, ts, k _ _ q1, q2, q3, q4, q5, q6, k _ _ q7, q8, q9⟩
/-- what 'except x as n: ..' wishes, the exception tracked behind it -/
def wKeep2 (K : PySem.W.Frag) (c c2 : Value) (i : Nat) (ts : Addr → TS) (Wout : WX) (D : Ends) : WX := fun cls d σ H =>
  ∃ b, PySem.W.exmAny K cls [c, c2] = some b ∧ (b = true → ∃ C dd, cls = .ref C ∧ d = some dd ∧ ∀ a, H a = none →
    ts a { nx := fun σ2 H2 => D.nx (σ2.set i none) (upd H2 a (XOb C dd a)), rt := fun _ _ => False, bk := fun _ _ => False, ct := fun _ _ => False } (σ.set i (some (.ref a))) H) ∧ (b = false → Wout cls d σ H)
section
variable {X : Cx} {x x2 n : Str} {c c2 : Value} {i : Nat} {body suite : List Stmt} {b₀ : Stmt} {np np2 tpos pos pos' : Pos} {kk : Nat} {tb : WX → TS} {ts : Addr → TS} {Wout : WX}
theorem ps_try_keep2 (hs : X.stack = X.env :: X.outer) (hf : X.env.frame = some X.env.locals) (hex : X.ex = []) (hN : X.N.Nodup) (hi : X.N[i]? = some n) (hln : X.env.kindOf n = some .local) (hc : Names X x c) (hc2 : Names X x2 c2) (tk : Takes X Wout)
    (hb : ∀ (W : WX) (pn : List (Addr × Obj)) (xe : Value → Shared → Prop), Takes (X.tr pn xe) W → PassesOwn (model X.prog X.w) X.A X.env xe → PSs (X.tr pn xe) body (tb W))
    (hsu : ∀ (a : Addr) (pn : List (Addr × Obj)), PSs (X.suite a pn) (b₀ :: suite) (ts a)) :
    PS X (.Try body [.ExceptHandler (some (.Tuple [.Name x np, .Name x2 np2] kk tpos)) (some n) (b₀ :: suite) pos'] [] [] pos) (fun D σ H => tb (wKeep2 X.K c c2 i ts Wout D) D σ H) := by
  refine ⟨fun pins s σ H D I h => ?_⟩
  have ok := I.ok
  have fr : X.A.frames = some (X.env :: X.outer) := ok.frames.trans (congrArg some hs)
  refine wpAny_Try_except (wpAny_mono ((hb (wKeep2 X.K c c2 i ts Wout D) (X.pn ++ pins) (fun e s1 => wpAny (model X.prog X.w) X.A (noteFrame e X.env)
    (fun _ s2 => wpAny (model X.prog X.w) X.A (setFlight e none) (fun _ s3 => wpAny (model X.prog X.w) X.A (handleBy e X.env [.ExceptHandler (some (.Tuple [.Name x np, .Name x2 np2] kk tpos)) (some n) (b₀ :: suite) pos']) (SP X pins D) X.xe s3) X.xe s2) X.xe s1)
    (fun u s1 fly => ?_) PassesOwn.looking).run [] s σ H D (I.toTry _) h) (fun f s1 q => ?_) (fun _ _ z => z))
  · obtain ⟨a, B, s0, pins1, σ1, H1, cls, d, rfl, J0, nb, up, sky, na, os, ag, b, hm, yes, no⟩ := fly
    have J : Inv X pins σ1 H1 s0 := J0.ofTry ok
    have sky1 : Sky B (X.env :: X.outer) a (Zc cls d) X.env.locals s1.heap := hs ▸ sky
    show wpAny (model X.prog X.w) X.A (noteFrame (.ref a) X.env) _ _ _
    refine Sky.land Zc.steady fr hf sky1 fun g3 fly3 up3 => ?_
    have J3 : Inv X pins σ1 H1 { s1 with heap := g3 } := J.landed nb fly3.1 (up.trans up3) os ag
    obtain ⟨o3, f3, e3, z3, d3⟩ := fly3.there
    have away : a ∉ frs (X.env :: X.outer) := fun hmem => by
      obtain ⟨_, o', e', hnf⟩ := fly3.2.2.1.mem hmem
      cases e3.symm.trans e'
      exact hnf _ d3
    have nL : a ≠ X.env.locals := fun z => away (List.mem_filterMap.mpr ⟨X.env, List.mem_cons_self, hf.trans (congrArg some z.symm)⟩)
    have nF : a ∉ X.fs := fun hmem => by
      obtain ⟨e, he, q⟩ := List.mem_filterMap.mp hmem
      exact away (List.mem_filterMap.mpr ⟨e, List.mem_cons_of_mem _ he, q⟩)
    have nB : B.get? a = none := fly3.2.1
    have n0 : X.s_0.heap.get? a = none := by
      cases e : X.s_0.heap.get? a with
      | none => rfl
      | some o =>
        obtain ⟨o', q⟩ := J.base.there a o e (by rw [hex]; exact fun z => nomatch z)
        have q2 := nb a o' q (by rw [hs]; exact away)
        rw [nB] at q2
        cases q2
    have nP : ∀ p ∈ X.pn ++ pins, p.1 ≠ a := fun p hp z => by
      obtain ⟨q, _⟩ := J.pin p hp
      have q2 := nb p.1 p.2 q (by rw [hs, z]; exact away)
      rw [z, nB] at q2
      cases q2
    have S3 := J3.suite e3 d3 na nL nF
    have lt : PySem.W.Looks (model X.prog X.w) g3 (typeOf (.ref a)) cls := fun A Q E s k q => wpAny_typeOf_ref (k _ _ e3) (by rw [z3.1]; exact q)
    refine wpAny_handleBy_cons (codeAny_handlers_test ?_) (fun q => nomatch q)
    have named : ∀ {y : Str} {yp : Pos} {cy : Value} {Q E : Value → Shared → Prop}, Names X y cy → Q cy { s1 with heap := g3 } → wpAny (model X.prog X.w) (X.A.mark (some (.ref a))) (eval (.Name y yp) X.env) Q E { s1 with heap := g3 } := fun {y yp cy Q E} hc q => by
      rcases hc with ⟨hg, hdb, hm1 | ⟨hm1, hv, hnn⟩⟩
      · exact ld_glob (X := X.suite a ((a, o3) :: (X.pn ++ pins))) S3 hg hm1 q hdb
      · exact ld_blt (X := X.suite a ((a, o3) :: (X.pn ++ pins))) S3 hg hm1 hv q hnn hdb
    refine wpAny_Tuple (wpAny_items_cons (named hc (wpAny_items_cons (named hc2 (wpAny_items_nil ⟨by size_fits, ?_⟩)))))
    have kp : ∀ q o, g3.get? q = some o → (g3.push { cls := .type "tuple", data := .seq [c, c2].toArray }).get? q = some o := fun _ _ z => Heap.get?_push_of_some _ z
    have lm := PySem.W.exm_tup2 (M := model X.prog X.w) (J3.kIn.keeps kp) (lt.keeps kp) (Heap.get?_push_size g3 rfl) hm
    have fly5 := fly_keeps fly3 kp
    have up5 := up3.trans (Heap.UpToSlots.of_keeps kp)
    refine lm.here ?_
    cases b with
    | true =>
      obtain ⟨C, dd, ec, ed, yes⟩ := yes rfl
      refine codeAny_handlers_suite_as (HandSPX.lands_againZ fly5 fun g4 fly4 up4 => ?_)
      have J4 : Inv X pins σ1 H1 { s1 with heap := g4 } := J.landed nb fly4.1 ((up.trans up5).trans up4) os ag
      obtain ⟨o4, f4, e4, z4, d4⟩ := fly4.there
      refine store_ok (X := X.suite a ((a, o4) :: (X.pn ++ pins))) (v := .ref a) (J4.suite e4 d4 na nL nF) hN hi (.inl hln) rfl (fun s5 S5 => ?_) (.inr hln)
      refine wpAny_mono ((hsu a ((a, o4) :: (X.pn ++ pins))).run [] s5 _ H1 _ S5 (yes a na)) (fun f s6 q6 => ?_) (fun _ _ z => z.elim)
      cases f with
      | next =>
        obtain ⟨σ6, H6, S6, q6⟩ := q6
        refine gone_ok (X := X.suite a ((a, o4) :: (X.pn ++ pins))) (pins := []) S6 hN hi hln fun s7 S7 => ?_
        obtain ⟨e7, n7, _⟩ := S7.pin (a, o4) (List.mem_append_left _ List.mem_cons_self)
        refine ⟨_, _, track (S7.unsuite ok) n0 n7 nL (fun y c' ey z => ?_) nP (xob_ok (C := C) (d := dd) e7 (by rw [← ec, ← ed]; exact z4) d4), q6⟩
        obtain ⟨v, ob, q1, q2⟩ := S7.cell y c' ey
        subst z
        cases e7.symm.trans q1
        cases d4.symm.trans q2
      | brk =>
        obtain ⟨_, _, _, q6⟩ := q6
        exact q6.elim
      | cont =>
        obtain ⟨_, _, _, q6⟩ := q6
        exact q6.elim
      | ret u =>
        obtain ⟨_, _, _, _, _, q6⟩ := q6
        exact q6.elim
    | false =>
      show wpAny _ X.A (handleBy (.ref a) X.env []) _ _ _
      refine wpAny_handleBy_nil ?_
      obtain ⟨k1, k2, k3, ob, fl, T, oT, tl, he, hz, hd, h1, hr⟩ := id fly5
      unfold PySem.passOn
      refine wpAny_bind (wpAny_field he hd h1 ?_)
      rw [if_neg (show ¬ ((Value.ref T == Value.none) = true) from by simp)]
      have fin : wpAny (model X.prog X.w) X.A (setFlight (.ref a) X.env.frame) (fun _ s4 => wpAny (model X.prog X.w) X.A (throw (.ref a) : Sem Flow) (SP X pins D) X.xe s4) X.xe { s1 with heap := g3.push { cls := .type "tuple", data := .seq [c, c2].toArray } } := by
        rw [hf]
        exact HandSPX.setFlight_upZ fly5 fun g4 held4 up4 => wpAny_throw (tk _ _ ⟨a, B, s0, pins, σ1, H1, cls, d, rfl, J, nb, (up.trans up5).trans up4, .inr (.inr (hs ▸ held4)), na, os, ag, no rfl⟩)
      first
        | exact wpAny_bind (wpAny_pure (wpAny_bind fin))
        | exact wpAny_bind fin
  · cases f with
    | next =>
      obtain ⟨σ1, H1, J, q⟩ := q
      exact wpAny_execs_nil ⟨σ1, H1, J.ofTry ok, q⟩
    | brk =>
      obtain ⟨σ1, H1, J, q⟩ := q
      exact ⟨σ1, H1, J.ofTry ok, q⟩
    | cont =>
      obtain ⟨σ1, H1, J, q⟩ := q
      exact ⟨σ1, H1, J.ofTry ok, q⟩
    | ret u =>
      obtain ⟨v, σ1, H1, J, r, q⟩ := q
      exact ⟨v, σ1, H1, J.ofTry ok, r, q⟩
end
/-! ### calls by names alone -/
section
variable {X : Cx} {CX : CXT} {k : Nat} {f : Addr} {fd : FuncData} {ps ks : List Str} {sp : Sp} {x : Str} {p pos : Pos} {kws : List Keyword} {tk : TA} {g : List Value → List Value → List Value} {gV : List V → List V → List V}
theorem pe_callK0 {E : XK} (F : FnOk X.prog X.w X.K X.mg X.base CX k f fd ps sp) (hr : Room k X.A) (hg : Gl X x) (hm : X.mg x = some (.ref f)) (hk : PySem.W.keepIn X.K (.ref f) = true) (hb : KBinds X.K fd ps ks g gV) (hx : Passes CX X E)
    (hkw : PK X kws tk) (hall : (backToKw pos (keywordEach kws X.env)).all (·.1.isSome) = true := by rfl) (hks : (backToKw pos (keywordEach kws X.env)).filterMap (·.1) = ks := by rfl)
    (hdb : (x == ("__debug__" : Str)) = false := by decide) (hpl : ((backTo pos (starEach [] X.env)).any (·.1) || (backToKw pos (keywordEach kws X.env)).any (·.1.isNone)) = false := by rfl) :
    PE X (.Call (.Name x p) [] kws pos) (tCallK sp gV E tNil tk) := by
  refine ⟨fun pins s σ H Q I h => ?_⟩
  refine wpAny_Call_Name_kw (ld_glob I hg hm ?_ hdb)
  refine PySem.W.callWith_KW0 (h₀ := X.base) I.ok.mod.kin hk hall (thn (hkw.run pos pins s σ H _ I h) fun ws s2 ⟨zs, H2, I2, rz, q2⟩ => ⟨I2.kIn, ?_⟩) hpl
  rw [hks]
  exact run_fnk (us := []) (vs := []) F hr hb hx I2 .nil rz q2
theorem run_fnkS {E : L2.St → XK} {pins : List (Addr × Obj)} {σ : L2.St} {H : Hp} {s : Shared} {Q : VK} {us ws : List Value} {vs zs : List V} (F : FnOk X.prog X.w X.K X.mg X.base CX k f fd ps sp) (hr : Room k X.A) (hb : KBinds X.K fd ps ks g gV) (hx : PassesAt CX X σ (E σ))
    (I : Inv X pins σ H s) (r : Vals vs us) (rz : Vals zs ws) (h : sp (gV vs zs) H Q (E σ)) : wpAny (model X.prog X.w) X.A (call (.ref f) us (ks.zip ws)) (EP X pins σ Q) X.xe s := by
  have r2 := hb.rel r rz
  have hl : (g us ws).length = ps.length := by rw [← r2.length]; exact F.len _ _ _ _ h
  refine wpAny_call (codeAny_mono (F.run X.A X.stack s H ⟨us, ks.zip ws⟩ (g us ws) (gV vs zs) Q (E σ) hr I.env0 (hb.to s us ws I.kIn hl) r2 h) fun r s' hq => ?_)
  cases r with
  | error e => exact hx pins H s e s' I hq
  | ok fl =>
    cases fl with
    | ret u => exact I.after hq
    | next => exact False.elim hq
    | brk => exact False.elim hq
    | cont => exact False.elim hq
def tCallKS (sp : Sp) (gV : List V → List V → List V) (E : L2.St → XK) (tk : TA) : TE := fun σ H Q => tk σ H fun zs H2 => sp (gV [] zs) H2 Q (E σ)
theorem pe_callKS0 {E : L2.St → XK} (F : FnOk X.prog X.w X.K X.mg X.base CX k f fd ps sp) (hr : Room k X.A) (hg : Gl X x) (hm : X.mg x = some (.ref f)) (hk : PySem.W.keepIn X.K (.ref f) = true) (hb : KBinds X.K fd ps ks g gV) (hx : ∀ σ, PassesAt CX X σ (E σ))
    (hkw : PK X kws tk) (hall : (backToKw pos (keywordEach kws X.env)).all (·.1.isSome) = true := by rfl) (hks : (backToKw pos (keywordEach kws X.env)).filterMap (·.1) = ks := by rfl)
    (hdb : (x == ("__debug__" : Str)) = false := by decide) (hpl : ((backTo pos (starEach [] X.env)).any (·.1) || (backToKw pos (keywordEach kws X.env)).any (·.1.isNone)) = false := by rfl) :
    PE X (.Call (.Name x p) [] kws pos) (tCallKS sp gV E tk) := by
  refine ⟨fun pins s σ H Q I h => ?_⟩
  refine wpAny_Call_Name_kw (ld_glob I hg hm ?_ hdb)
  refine PySem.W.callWith_KW0 (h₀ := X.base) I.ok.mod.kin hk hall (thn (hkw.run pos pins s σ H _ I h) fun ws s2 ⟨zs, H2, I2, rz, q2⟩ => ⟨I2.kIn, ?_⟩) hpl
  rw [hks]
  exact run_fnkS (us := []) (vs := []) F hr hb (hx σ) I2 .nil rz q2
end
/-- one value by its name -/
def g1 {α : Type} : List α → List α → List α
  | [], [a] => [a]
  | _, _ => []
/-- two values by their names, the second parameter first -/
def g2 {α : Type} : List α → List α → List α
  | [], [a, b] => [b, a]
  | _, _ => []
theorem g1_rel {vs zs : List V} {us ws : List Value} (a : Vals vs us) (b : Vals zs ws) : Vals (g1 vs zs) (g1 us ws) := by
  cases a with
  | nil =>
    cases b with
    | nil => exact .nil
    | cons h t =>
      cases t with
      | nil => exact .cons h .nil
      | cons _ _ => exact .nil
  | cons h t => exact .nil
theorem g2_rel {vs zs : List V} {us ws : List Value} (a : Vals vs us) (b : Vals zs ws) : Vals (g2 vs zs) (g2 us ws) := by
  cases a with
  | nil =>
    cases b with
    | nil => exact .nil
    | cons h t =>
      cases t with
      | nil => exact .nil
      | cons h2 t2 =>
        cases t2 with
        | nil => exact .cons h2 (.cons h .nil)
        | cons _ _ => exact .nil
  | cons h t => exact .nil
theorem kb1 {K : PySem.W.Frag} {x qual : Str} {st : Stmt} {f : Addr} {fd : FuncData} {y : Str} (F : Fun K x qual st f fd)
    (h : ∀ (kV doc pm : Value) (an : Option Addr) (cdv ct : Value) (u : Value), bindArgs (PySem.W.fnOf x qual (defArgs st) (defBody st) (defScope st) .none kV doc pm an cdv ct) ⟨[], [(y, u)]⟩ = pure [(y, u)]) : KBinds K fd [y] [y] g1 g1 := by
  obtain ⟨oc, od, kV, doc, pm, an, cdv, ct, osl, rfl, lk, hcd⟩ := F.ex
  refine ⟨fun s us ws _ hl => ?_, fun a b => g1_rel a b⟩
  match us, ws, hl with
  | [], [u], _ => exact .of_eq (h kV doc pm an cdv ct u)
  | [], [], hl => exact absurd (show (0 : Nat) = 1 from hl) (by decide)
  | [], _ :: _ :: _, hl => exact absurd (show (0 : Nat) = 1 from hl) (by decide)
  | _ :: _, _, hl => exact absurd (show (0 : Nat) = 1 from hl) (by decide)
theorem kb2 {K : PySem.W.Frag} {x qual : Str} {st : Stmt} {f : Addr} {fd : FuncData} {y z : Str} (F : Fun K x qual st f fd)
    (h : ∀ (kV doc pm : Value) (an : Option Addr) (cdv ct : Value) (u v : Value), bindArgs (PySem.W.fnOf x qual (defArgs st) (defBody st) (defScope st) .none kV doc pm an cdv ct) ⟨[], [(z, v), (y, u)]⟩ = pure [(y, u), (z, v)]) : KBinds K fd [y, z] [z, y] g2 g2 := by
  obtain ⟨oc, od, kV, doc, pm, an, cdv, ct, osl, rfl, lk, hcd⟩ := F.ex
  refine ⟨fun s us ws _ hl => ?_, fun a b => g2_rel a b⟩
  match us, ws, hl with
  | [], [v, u], _ => exact .of_eq (h kV doc pm an cdv ct u v)
  | [], [], hl => exact absurd (show (0 : Nat) = 2 from hl) (by decide)
  | [], [_], hl => exact absurd (show (0 : Nat) = 2 from hl) (by decide)
  | [], _ :: _ :: _ :: _, hl => exact absurd (show (0 : Nat) = 2 from hl) (by decide)
  | _ :: _, _, hl => exact absurd (show (0 : Nat) = 2 from hl) (by decide)
section
variable {K : PySem.W.Frag} {f : Addr} {fd : FuncData}
theorem kb_is_prime (F : Fun K "is_prime" "is_prime" s_is_prime f fd) : KBinds K fd P_is_prime ["thing"] g1 g1 := kb1 F fun _ _ _ _ _ _ _ => rfl
theorem kb_factors (F : Fun K "factors" "factors" s_factors f fd) : KBinds K fd P_factors ["number"] g1 g1 := kb1 F fun _ _ _ _ _ _ _ => rfl
theorem kb_divisors (F : Fun K "divisors" "divisors" s_divisors f fd) : KBinds K fd P_divisors ["number"] g1 g1 := kb1 F fun _ _ _ _ _ _ _ => rfl
theorem kb_totient (F : Fun K "totient" "totient" s_totient f fd) : KBinds K fd P_totient ["number"] g1 g1 := kb1 F fun _ _ _ _ _ _ _ => rfl
theorem kb_generator (F : Fun K "generator" "generator" s_generator f fd) : KBinds K fd P_generator ["prime"] g1 g1 := kb1 F fun _ _ _ _ _ _ _ => rfl
theorem kb_are_coprime (F : Fun K "are_coprime" "are_coprime" s_are_coprime f fd) : KBinds K fd P_are_coprime ["other", "one"] g2 g2 := kb2 F fun _ _ _ _ _ _ _ _ => rfl
theorem kb_inverse (F : Fun K "inverse" "inverse" s_inverse f fd) : KBinds K fd P_inverse ["by", "number"] g2 g2 := kb2 F fun _ _ _ _ _ _ _ _ => rfl
theorem kb_joined (F : Fun K "joined" "joined" s_joined f fd) : KBinds K fd P_joined ["bys", "rests"] g2 g2 := kb2 F fun _ _ _ _ _ _ _ _ => rfl
end
theorem ned_ints {K : PySem.W.Frag} {H : Hp} {a b : Addr} {ns ms : List Int} {Q : VK} (ha : SqL K H a (ns.map V.int)) (hb : SqL K H b (ms.map V.int)) (q : Q (.bl (!decide (ns = ms))) H) : rNeD K (.ref a) (.ref b) H Q := by
  refine ⟨_, _, .lst ha (dp_ints ns), .lst hb (dp_ints ms), PySem.W.ke_shaped_ints ns, PySem.W.ke_shaped_ints ms, ?_⟩
  have e : PyData.eqv (.list (ns.map PyData.int)) (.list (ms.map PyData.int)) = decide (ns = ms) := by
    rw [PyData.eqv]
    exact eqv_ints ns ms
  rw [e]
  exact q
/-! ### repr of lists and tuples in one another, whatever repr is under way around them -/
section
open PySem.Spec PyProof.Rows
/-- things with their addresses -/
inductive AT where
  | leaf (d : PyData)
  | lst (a : Addr) (l : List AT)
  | tup (a : Addr) (l : List AT)
mutual
inductive Ap (K : PySem.W.Frag) (H : Hp) : V → AT → Prop
  | non : Ap K H .non (.leaf .none)
  | bl (b : Bool) : Ap K H (.bl b) (.leaf (.bool b))
  | int (i : Int) : Ap K H (.int i) (.leaf (.int i))
  | str (x : Str) : Ap K H (.str x) (.leaf (.str x))
  | lst {a : Addr} {xs : List V} {l : List AT} : SqL K H a xs → ApAll K H xs l → Ap K H (.ref a) (.lst a l)
  | tup {a : Addr} {xs : List V} {l : List AT} : SqT K H a xs → ApAll K H xs l → Ap K H (.ref a) (.tup a l)
inductive ApAll (K : PySem.W.Frag) (H : Hp) : List V → List AT → Prop
  | nil : ApAll K H [] []
  | cons {v : V} {vs : List V} {t : AT} {l : List AT} : Ap K H v t → ApAll K H vs l → ApAll K H (v :: vs) (t :: l)
end
/-- list.__repr__'s loop over this very list is under way -/
def loopF (self : Value) : Code × Pos → Bool := fun
  | (.builtin "list.__repr__.loop" ⟨v :: _, _⟩, _) => Builtin.List.listSameRef v self
  | _ => false
theorem loopF_pos (self : Value) (c : Code) (p : Pos) : loopF self (c, p) = loopF self (c, default) := by
  unfold loopF
  split
  · next v r k q heq =>
    cases heq
    rfl
  · next h =>
    split
    · next v r k q heq =>
      cases heq
      exact absurd rfl (h v r k p)
    · rfl
theorem loopF_off (self : Value) (c : Code) (p : Pos) (h : c.isGuard = false) : loopF self (c, p) = false := by
  unfold loopF
  split
  · next v r k q heq =>
    cases heq
    simp [Code.isGuard, guardIds] at h
  · rfl
def blkL (g : List Code) (b : Addr) : Bool := g.any fun c => loopF (.ref b) (c, default)
def blkT (g : List Code) (b : Addr) : Bool := g.any fun c => tupGuardF (.ref b) (c, default)
mutual
def AT.data : AT → PyData
  | .leaf d => d
  | .lst _ l => .list (AT.dataAll l)
  | .tup _ l => .tuple (AT.dataAll l)
def AT.dataAll : List AT → List PyData
  | [] => []
  | t :: l => AT.data t :: AT.dataAll l
end
mutual
def AT.txt (g : List Code) : AT → Str
  | .leaf d => d.shown
  | .lst _ [] => "[]"
  | .lst a (t :: l) => if blkL g a then "[...]" else listText (AT.txt g t :: AT.txtAll g l)
  | .tup a l => if blkT g a then "(...)" else tupleText (AT.txtAll g l)
def AT.txtAll (g : List Code) : List AT → List Str
  | [] => []
  | t :: l => AT.txt g t :: AT.txtAll g l
end
/-! how long it may come to be -/
mutual
def AT.wid : AT → Nat
  | .leaf d => d.shown.length
  | .lst _ l => 6 + AT.widAll l
  | .tup _ l => 6 + AT.widAll l
def AT.widAll : List AT → Nat
  | [] => 0
  | t :: l => AT.wid t + 2 + AT.widAll l
end
theorem txtAll_sum (g : List Code) : ∀ (l : List AT), (∀ t ∈ l, (AT.txt g t).length ≤ AT.wid t) → ((AT.txtAll g l).map (·.length)).sum + 2 * (AT.txtAll g l).length ≤ AT.widAll l
  | [], _ => by simp [AT.txtAll, AT.widAll]
  | t :: l, h => by
    have h1 := h t List.mem_cons_self
    have h2 := txtAll_sum g l fun u hu => h u (List.mem_cons_of_mem _ hu)
    simp only [AT.txtAll, AT.widAll, List.map_cons, List.sum_cons, List.length_cons]
    omega
mutual
theorem txt_wid (g : List Code) : ∀ t : AT, (AT.txt g t).length ≤ AT.wid t
  | .leaf d => by rw [AT.txt, AT.wid]; exact Nat.le_refl _
  | .lst a [] => by
    rw [AT.txt, AT.wid]
    have : (("[]" : String) : Str).length = 2 := rfl
    omega
  | .lst a (t :: l) => by
    rw [AT.txt, AT.wid]
    split
    · have : (("[...]" : String) : Str).length = 5 := rfl
      omega
    · have h := listText_len_le (AT.txt g t :: AT.txtAll g l)
      have h2 := txtAll_sum g (t :: l) (txt_widAll g (t :: l))
      rw [AT.txtAll] at h2
      omega
  | .tup a l => by
    rw [AT.txt, AT.wid]
    split
    · have : (("(...)" : String) : Str).length = 5 := rfl
      omega
    · have h := tupleText_len_le (AT.txtAll g l)
      have h2 := txtAll_sum g l (txt_widAll g l)
      omega
theorem txt_widAll (g : List Code) : ∀ l : List AT, ∀ t ∈ l, (AT.txt g t).length ≤ AT.wid t
  | [], _, h => nomatch h
  | u :: l, t, h => by
    rcases List.mem_cons.mp h with e | h
    · rw [e]
      exact txt_wid g u
    · exact txt_widAll g l t h
end
def Agr (g0 g : List Code) (as : List Addr) : Prop := ∀ b ∈ as, blkL g b = blkL g0 b ∧ blkT g b = blkT g0 b
theorem Agr.refl (g : List Code) (as : List Addr) : Agr g g as := fun _ _ => ⟨rfl, rfl⟩
theorem ref_beq {a b : Addr} (n : a ≠ b) : (Value.ref a == Value.ref b) = false := beq_eq_false_iff_ne.mpr fun e => n (Value.ref.inj e)
theorem Agr.cons {g0 g : List Code} {as : List Addr} {a : Addr} {id : String} {rest : List Value} {kw : List (Str × Value)} (h : Agr g0 g as) (n : a ∉ as) : Agr g0 (.builtin id ⟨.ref a :: rest, kw⟩ :: g) as := by
  intro b hb
  have ne : a ≠ b := fun e => n (e ▸ hb)
  obtain ⟨h1, h2⟩ := h b hb
  constructor
  · rw [← h1]
    unfold blkL
    rw [List.any_cons]
    have : loopF (.ref b) (Code.builtin id ⟨.ref a :: rest, kw⟩, default) = false := by
      unfold loopF
      split
      · next v r k q heq =>
        cases heq
        exact listSameRef_of_ne fun e => ne (Value.ref.inj e)
      · rfl
    rw [this, Bool.false_or]
  · rw [← h2]
    unfold blkT
    rw [List.any_cons]
    have : tupGuardF (.ref b) (Code.builtin id ⟨.ref a :: rest, kw⟩, default) = false := by
      simp only [tupGuardF, ref_beq ne, Bool.false_and]
    rw [this, Bool.false_or]
end
section
open PySem.Spec PyProof.Rows
open Sem (wp)
open Builtin Builtin.List
variable {prog : Program} {w : World} {g0 : List Code}
def ReprD (prog : Program) (w : World) (g0 : List Code) (as : List Addr) (h0 : Heap) (d : Nat) (x : Value) (t : Str) : Prop :=
  ∀ (n : Nat), n + t.length ≤ sizeLine → ∀ (A : Around) (g : List Code) (E : Value → Shared → Prop) (s : Shared) (Q : Str → Shared → Prop), A.guards = some g → Agr g0 g as → A.units + d < cLine →
    (∀ b o, h0.get? b = some o → s.heap.get? b = some o) → (∀ h' tk, (∀ b o, s.heap.get? b = some o → h'.get? b = some o) → Q t { s with heap := h', toks := tk }) → wpAny (model prog w) A (pyReprUnder n x) Q E s
theorem ReprD.leaf {x : Value} {t : Str} (h : ReprIs prog w x t) (as : List Addr) (h0 : Heap) (d : Nat) : ReprD prog w g0 as h0 d x t :=
  fun n hn A _ E s Q _ _ _ _ q => h n hn A E s Q fun tk => q s.heap tk fun _ _ e => e
theorem ReprD.wide {as bs : List Addr} {h0 : Heap} {d e : Nat} {x : Value} {t : Str} (h : ReprD prog w g0 as h0 d x t) (i : ∀ b ∈ as, b ∈ bs) (l : d ≤ e) : ReprD prog w g0 bs h0 e x t :=
  fun n hn A g E s Q hg ha hu hk q => h n hn A g E s Q hg (fun b hb => ha b (i b hb)) (by omega) hk q
/-- the loop of list.__repr__ -/
theorem loopD {A : Around} {R : Result → Shared → Prop} {a P : Addr} (hne : a ≠ P) {items : Array Value} {ts : List Str} {as : List Addr} {h0 : Heap} {d n : Nat} {g : List Code} (hg : A.guards = some g) (hag : Agr g0 g as)
    (hu : A.units + (d + 1) < cLine) (hna : a ∉ as) (hPf : h0.get? P = none) (hlen : ts.length = items.size)
    (hT : ∀ (i : Nat) (x : Value), items[i]? = some x → ∃ t, ts[i]? = some t ∧ ReprD prog w g0 as h0 d x t) (hsz : n + (listText ts).length ≤ sizeLine) :
    ∀ (k i : Nat) (s : Shared) (oa : Obj) (na : Nat) (acc : Array Value) (c : Nat) (done : List (Str × Tok)), items.size - i = k → i ≤ items.size → (∀ b o, h0.get? b = some o → s.heap.get? b = some o) →
      s.heap.get? a = some oa → oa.data = .seq items na → s.heap.get? P = some { cls := .type "list", dict := none, data := .seq acc c, slots := #[] } → acc.toList = strValues done → done.map (·.1) = ts.take i →
      (∀ h' u tk, (∀ b o, b ≠ P → s.heap.get? b = some o → h'.get? b = some o) → R (.ok (.ret (.str (listText ts) u))) { s with heap := h', toks := tk }) →
      codeAny (model prog w) A (.builtin "list.__repr__.loop" ⟨[.ref a, rawInt i, .ref P, rawInt ((n + piled (ts.take i) : Nat) : Int)], []⟩) R s := by
  have hX : (listText ts).length = (textFrom 0 "[" ts).length + 1 := by
    show ((textFrom 0 "[" ts) ++ ("]" : Str)).length = _
    rw [strLen_append]
    rfl
  obtain ⟨hL1, hL2, _⟩ := textFrom_len ts 0 "["
  rw [if_neg (Nat.lt_irrefl 0)] at hL1
  have hsz1 : items.size ≤ sizeLine := by omega
  have hp3 := piled_le_listText ts
  intro k
  induction k with
  | zero =>
    intro i s oa na acc c done hk hi hk0 ha hda hP hacc hdone hR
    have hin : i = items.size := by omega
    refine codeAny_builtin F.entry_list_repr_loop ?_
    show wpAny _ _ («list.__repr__.loop» ⟨[.ref a, .int i 0, .ref P, .int ((n + piled (ts.take i) : Nat) : Int) 0], []⟩) _ _ s
    rw [repr_loop_tree]
    refine wpAny_bind (wpAny_listItems ha hda ?_)
    have e0 : items[(i : Int).toNat]? = none := by simp [hin]
    simp only [e0]
    unfold reprEnd
    refine wpAny_bind (wpAny_listItems hP rfl ?_)
    rw [hacc, repr_fold]
    refine wpAny_bind (wpAny_pure ?_)
    have e1 : done.map (·.1) = ts := by rw [hdone, hin, ← hlen, List.take_length]
    rw [e1]
    exact wpAny_bind (wpAny_mkStr (wpAny_pure (hR s.heap _ _ fun _ _ _ e => e)) (show (listText ts).length ≤ sizeLine by omega))
  | succ k ih =>
    intro i s oa na acc c done hk hi hk0 ha hda hP hacc hdone hR
    have hlt : i < items.size := by omega
    obtain ⟨t, ht, hrep⟩ := hT i items[i] (by simp [hlt])
    have hp1 := piled_take_succ ht
    have hp2 := piled_take_le ts (i + 1)
    have ht2 := hL2 t (List.mem_of_getElem? ht)
    refine codeAny_builtin F.entry_list_repr_loop ?_
    show wpAny _ _ («list.__repr__.loop» ⟨[.ref a, .int i 0, .ref P, .int ((n + piled (ts.take i) : Nat) : Int) 0], []⟩) _ _ s
    rw [repr_loop_tree]
    refine wpAny_bind (wpAny_listItems ha hda ?_)
    have e0 : items[(i : Int).toNat]? = some items[i] := by simp [hlt]
    simp only [e0]
    rw [Int.toNat_natCast]
    refine wpAny_bind (wpAny_holding (hrep (n + piled (ts.take i) + 1) (by omega) _ _ _ _ _ (guards_under_guard (isGuard_list_loop _) hg) (hag.cons (a := a) hna) (by rw [units_under_list_loop]; omega) hk0 fun h' tk hkp => ?_))
    refine wpAny_bind (wpAny_mkStr ?_ (by omega))
    refine wpAny_bind ?_
    show wpAny _ _ (updateSeq P _) _ _ _
    have hasz : acc.size ≤ sizeLine := by
      have e1 : acc.toList.length = acc.size := by simp
      have e2 : (strValues done).length = (done.map (·.1)).length := by simp [strValues]
      rw [hdone, List.length_take] at e2
      rw [hacc] at e1
      omega
    refine wpAny_updateSeq (hkp _ _ hP) rfl (wpAny_pure ⟨F.quiet_list_repr_loop _, ?_⟩) hasz
    have f1 : ((i : Int) + 1) = ((i + 1 : Nat) : Int) := by omega
    have f2 : n + piled (ts.take i) + (t.length + 2) = n + piled (ts.take (i + 1)) := by omega
    rw [f1, f2]
    have out : ∀ {b : Addr}, b ≠ P → P ≠ b := fun z e => z e.symm
    refine ih (i + 1) _ oa na (acc.push (.str t tk)) _ (done ++ [(t, tk)]) (by omega) hlt (fun b o e => (Heap.get?_update_other _ _ (out fun z => by rw [z, hPf] at e; cases e)).trans (hkp _ _ (hk0 _ _ e)))
      ((Heap.get?_update_other _ _ (out hne)).trans (hkp _ _ ha)) hda (Heap.get?_update_self _ (hkp _ _ hP) rfl) (by simp [hacc, strValues]) (by simp [List.take_add_one, ht, hdone]) fun h'' u tk' hh => ?_
    exact hR h'' u tk' fun b o hb e => hh b o hb ((Heap.get?_update_other _ _ (out hb)).trans (hkp _ _ e))
end
section
open PySem.Spec PyProof.Rows
open Sem (wp)
open Builtin Builtin.List
variable {prog : Program} {w : World} {g0 : List Code}
abbrev finE (prog : Program) (w : World) (A : Around) (R : Result → Shared → Prop) : Fin → Shared → Prop := fun f s => match f with
  | .done v => R (.ok v) s
  | .again c => c.quiet = true ∧ codeAny (model prog w) A c R s
/-- the list is being shown already -/
theorem list_way {A : Around} {g : List Code} {c : Code} {a : Addr} {o : Obj} {x : Value} {l : List Value} {m n : Nat} {s : Shared} {Q : Fin → Shared → Prop} {E : Value → Shared → Prop} (hg : A.guards = some g) (hb : blkL g a = true)
    (ha : s.heap.get? a = some o) (hd : o.data = .seq (x :: l).toArray m) (h : ∀ u tk, Q (.done (.ret (.str "[...]" u))) { s with toks := tk }) : wpOwn (model prog w) A c (listReprAt n ⟨[.ref a], []⟩) Q E s := by
  intro Γ p hc hΓ
  have k : wpAny (model prog w) (A.under c) (do rule "list.__repr__.in-itself"; retStr "[...]") Q E s :=
    wpAny_bind (wpAny_rule (wpAny_bind (wpAny_mkStr (wpAny_pure (h _ _)) (by decide +kernel))))
  have k1 := k Γ p (hc ▸ hΓ.in)
  unfold listReprAt
  simp [slotArgs, listItems, seqItems?, Sem.wp_load_of (h := ha), hd, stack]
  show wp _ Γ (if (Γ.below.any (loopF (.ref a))) = true then _ else _) _ _ p s
  rw [if_pos]
  · exact k1
  · rw [any_eq_guards (loopF_off _) (loopF_pos _), hΓ.2.2.2.1 g hg]
    exact hb
theorem list_no {g : List Code} {a : Addr} (h : blkL g a = false) (v : Value) (rest : List Value) (kw : List (Str × Value)) (hm : Code.builtin "list.__repr__.loop" ⟨v :: rest, kw⟩ ∈ g) : listSameRef v (.ref a) = false := by
  have := List.any_eq_false.mp h _ hm
  simpa [loopF] using this
theorem list_at {as : List Addr} {h0 : Heap} {d : Nat} {a : Addr} {oa : Obj} {x : Value} {l : List Value} {na : Nat} {ts : List Str} (ha : h0.get? a = some oa) (hda : oa.data = .seq (x :: l).toArray na) (hna : a ∉ as)
    (hlen : ts.length = (x :: l).toArray.size) (hT : ∀ (i : Nat) (y : Value), (x :: l).toArray[i]? = some y → ∃ t, ts[i]? = some t ∧ ReprD prog w g0 as h0 d y t) {A : Around} {g : List Code} {s : Shared} {R : Result → Shared → Prop} {n : Nat} {id : String} {rest : List Value}
    (hpl : plainId id = true) (hg : A.guards = some g) (hag : Agr g0 g (a :: as)) (hu : A.units + (d + 1) < cLine) (hk0 : ∀ b o, h0.get? b = some o → s.heap.get? b = some o)
    (hR : ∀ h' u tk, (∀ b o, s.heap.get? b = some o → h'.get? b = some o) → R (.ok (.ret (.str (if blkL g0 a then "[...]" else listText ts) u))) { s with heap := h', toks := tk })
    (hsz : blkL g0 a = false → n + (listText ts).length ≤ sizeLine) : wpOwn (model prog w) A (.builtin id ⟨.ref a :: rest, []⟩) (listReprAt n ⟨[.ref a], []⟩) (finE prog w A R) (fun e s' => R (.error e) s') s := by
  have e := (hag a List.mem_cons_self).1
  cases hB : blkL g0 a with
  | true =>
    rw [hB] at e
    simp only [hB] at hR
    exact list_way hg e (hk0 _ _ ha) hda fun u tk => hR s.heap u tk fun _ _ z => z
  | false =>
    rw [hB] at e
    simp only [hB] at hR
    have hPf : h0.get? s.heap.objs.size = none := by
      cases q : h0.get? s.heap.objs.size with
      | none => rfl
      | some o => exact absurd (Heap.lt_size (hk0 _ _ q)) (Nat.lt_irrefl _)
    refine wpOwn_of_wpAny ?_
    rw [Around.under_plainId hpl]
    refine wpAny_list_repr_head (A := A.in1) hg (list_no e) (hk0 _ _ ha) hda ?_
    refine wpAny_bind (m := newList []) (wpAny_newObj_type (wpAny_pure ⟨F.quiet_list_repr_loop _, ?_⟩))
    refine loopD (P := s.heap.objs.size) (g0 := g0) (Nat.ne_of_lt (Heap.lt_size (hk0 _ _ ha))) hg (fun b hb => hag b (List.mem_cons_of_mem _ hb)) hu hna hPf hlen hT (hsz hB) _ 0 _ oa na #[] _ [] rfl (Nat.zero_le _)
      (fun b o z => Heap.get?_push_of_some _ (hk0 _ _ z)) (Heap.get?_push_of_some _ (hk0 _ _ ha)) hda (Heap.get?_push_size _ rfl) rfl (by simp) fun h' u tk hk => ?_
    exact hR h' u tk fun b o z => hk b o (Nat.ne_of_lt (Heap.lt_size z)) (Heap.get?_push_of_some _ z)
inductive ReprDs (prog : Program) (w : World) (g0 : List Code) (as : List Addr) (h0 : Heap) (d : Nat) : List Value → List Str → Prop
  | nil : ReprDs prog w g0 as h0 d [] []
  | cons {x : Value} {t : Str} {l : List Value} {ts : List Str} : ReprD prog w g0 as h0 d x t → ReprDs prog w g0 as h0 d l ts → ReprDs prog w g0 as h0 d (x :: l) (t :: ts)
theorem ReprDs.len {as : List Addr} {h0 : Heap} {d : Nat} : ∀ {l : List Value} {ts : List Str}, ReprDs prog w g0 as h0 d l ts → ts.length = l.length
  | _, _, .nil => rfl
  | _, _, .cons _ h => by rw [List.length_cons, List.length_cons, h.len]
theorem ReprDs.item {as : List Addr} {h0 : Heap} {d : Nat} : ∀ {l : List Value} {ts : List Str}, ReprDs prog w g0 as h0 d l ts → ∀ (i : Nat) (y : Value), l[i]? = some y → ∃ t, ts[i]? = some t ∧ ReprD prog w g0 as h0 d y t
  | _, _, .nil, i, y, e => by simp at e
  | _, _, .cons hx _, 0, y, e => by
    cases Option.some.inj e
    exact ⟨_, rfl, hx⟩
  | _, _, .cons _ hl, i + 1, y, e => hl.item i y e
theorem ReprDs.wide {as bs : List Addr} {h0 : Heap} {d e : Nat} (i : ∀ b ∈ as, b ∈ bs) (l : d ≤ e) : ∀ {vs : List Value} {ts : List Str}, ReprDs prog w g0 as h0 d vs ts → ReprDs prog w g0 bs h0 e vs ts
  | _, _, .nil => .nil
  | _, _, .cons hx hl => .cons (hx.wide i l) (hl.wide i l)
theorem tup_fold {A : Around} {E : Value → Shared → Prop} {as : List Addr} {h0 : Heap} {d : Nat} {g : List Code} (hg : A.guards = some g) (hag : Agr g0 g as) (hu : A.units + d < cLine) :
    ∀ (l : List Value) (ts : List Str) (acc : Array Str) (n : Nat) (s : Shared) (Q : (Array Str × Nat) → Shared → Prop), ReprDs prog w g0 as h0 d l ts → n + piled ts ≤ sizeLine → (∀ b o, h0.get? b = some o → s.heap.get? b = some o) →
      (∀ h' tk, (∀ b o, s.heap.get? b = some o → h'.get? b = some o) → Q ⟨acc ++ ts.toArray, n + piled ts⟩ { s with heap := h', toks := tk }) → wpAny (model prog w) A (forIn l (⟨acc, n⟩ : (Array Str × Nat)) tupBody) Q E s := by
  intro l
  induction l with
  | nil =>
    intro ts acc n s Q hT _ _ q
    cases hT
    have q0 := q s.heap s.toks fun _ _ e => e
    simp only [List.forIn_nil]
    exact wpAny_pure (by simpa [piled] using q0)
  | cons x l ih =>
    intro ts acc n s Q hT hn hk0 q
    cases hT with
    | cons hx hl =>
      rename_i t ts'
      rw [piled_cons] at hn
      rw [List.forIn_cons]
      refine wpAny_bind (wpAny_bind (hx (n + 1) (by omega) _ _ _ _ _ hg hag hu hk0 fun h' tk hk1 => wpAny_pure ?_))
      refine ih ts' (acc.push t) (n + (t.length + 2)) _ Q hl (by omega) (fun b o z => hk1 _ _ (hk0 _ _ z)) fun h'' tk' hk2 => ?_
      have q1 := q h'' tk' fun b o z => hk2 _ _ (hk1 _ _ z)
      rw [show n + piled (t :: ts') = n + (t.length + 2) + piled ts' by rw [piled_cons]; omega] at q1
      simpa using q1
theorem tup_at {as : List Addr} {h0 : Heap} {d : Nat} {a : Addr} {o : Obj} {items : Array Value} {na : Nat} {ts : List Str} (ha : h0.get? a = some o) (hd : o.data = .seq items na) (hna : a ∉ as) (hT : ReprDs prog w g0 as h0 d items.toList ts)
    {A : Around} {g : List Code} {s : Shared} {R : Result → Shared → Prop} {n : Nat} {id : String} {rest : List Value} (hcg : (Code.builtin id ⟨.ref a :: rest, []⟩).isGuard = true) (hcu : (A.under (.builtin id ⟨.ref a :: rest, []⟩)).units = A.units + 1)
    (hg : A.guards = some g) (hag : Agr g0 g (a :: as)) (hu : A.units + (d + 1) < cLine) (hk0 : ∀ b o, h0.get? b = some o → s.heap.get? b = some o)
    (hR : ∀ h' u tk, (∀ b o, s.heap.get? b = some o → h'.get? b = some o) → R (.ok (.ret (.str (if blkT g0 a then "(...)" else tupleText ts) u))) { s with heap := h', toks := tk })
    (hsz : blkT g0 a = false → n + (tupleText ts).length ≤ sizeLine) : wpOwn (model prog w) A (.builtin id ⟨.ref a :: rest, []⟩) (tupleReprAt n ⟨[.ref a], []⟩) (finE prog w A R) (fun e s' => R (.error e) s') s := by
  have e := (hag a List.mem_cons_self).2
  unfold blkT at e
  have hlen : ts.length = items.size := by simpa using hT.len
  have hp := piled_le_tupleText ts
  rw [tuple_repr_tree, tupleReprUnderWay_eq]
  refine wpOwn_bind (wpOwn_stackTailAny hg (tupGuardF_off _) (tupGuardF_pos _) ?_)
  rw [e]
  show wpOwn _ _ _ (if blkT g0 a = true then _ else _) _ _ _
  refine wpOwn_of_wpAny ?_
  cases hB : blkT g0 a with
  | true =>
    simp only [hB] at hR
    refine PySem.W.KFB.if_so rfl ?_
    exact wpAny_bind (wpAny_rule (wpAny_bind (wpAny_mkStr (wpAny_pure (hR s.heap _ _ fun _ _ z => z)) (by decide +kernel))))
  | false =>
    simp only [hB] at hR
    have hz := hsz hB
    refine PySem.W.KFB.if_not rfl ?_
    unfold tupleReprRest Builtin.Tuple.tupleItemsOf
    refine wpAny_bind (wpAny_bind (wpAny_seqItems (hk0 _ _ ha) hd (wpAny_pure ?_)))
    rw [← Array.forIn_toList]
    refine wpAny_bind (tup_fold (g0 := g0) (guards_under_guard hcg hg) (Agr.cons (a := a) (fun b hb => hag b (List.mem_cons_of_mem _ hb)) hna) (by rw [hcu]; omega) _ ts _ _ _ _ hT (by omega) hk0 fun h' tk hk1 => ?_)
    refine wpAny_bind (wpAny_mkStr (wpAny_pure ?_) (by simpa [tupleText, hlen] using (show (tupleText ts).length ≤ sizeLine by omega)))
    have q := hR h' tk (tk + 1) hk1
    simpa [tupleText, hlen] using q
end
section
open PySem.Spec PyProof.Rows
open Sem (wp)
open Builtin Builtin.List
variable {prog : Program} {w : World} {g0 : List Code}
theorem ReprD.lst {as : List Addr} {h0 : Heap} {d : Nat} {a : Addr} {oa : Obj} {x : Value} {l : List Value} {na : Nat} {ts : List Str} (ha : h0.get? a = some oa) (hc : oa.cls = .type "list") (hda : oa.data = .seq (x :: l).toArray na) (hna : a ∉ as)
    (hT : ReprDs prog w g0 as h0 d (x :: l) ts) : ReprD prog w g0 (a :: as) h0 (d + 1) (.ref a) (if blkL g0 a then "[...]" else listText ts) := by
  intro n hn A g E s Q hg hag hu hk q
  have hl : ts.length = (x :: l).toArray.size := by simpa using hT.len
  refine wpAny_pyReprUnder_ref (by omega) (wpAny_pyReprObjUnder_twin (twin := "list.__repr__.under") ⟨oa, hk _ _ ha, hc⟩ F.slot_list_repr.toG rfl (by omega) ?_)
  refine call_twin_own (Code.quiet_builtin _ (by decide +kernel)) F.entry_list_repr_under F.check_list_repr_under ⟨oa, hk _ _ ha, hc⟩ F.slot_list_repr.toG (F.args_list_repr_1 _) ?_
  refine list_at (R := callEnd _ E) ha hda hna hl (fun i y e => hT.item i y (by simpa using e)) F.plain_list_repr_under hg hag hu hk (fun h' u tk hk1 => ⟨⟨_, _, rfl⟩, _, _, rfl, q h' tk hk1⟩) fun hB => ?_
  rw [hB] at hn
  exact hn
theorem ReprD.bare {as : List Addr} {h0 : Heap} {d : Nat} {a : Addr} {oa : Obj} {na : Nat} (ha : h0.get? a = some oa) (hc : oa.cls = .type "list") (hda : oa.data = .seq #[] na) : ReprD prog w g0 as h0 d (.ref a) "[]" := by
  intro n hn A g E s Q _ _ hu hk q
  exact wpAny_pyReprUnder_ref (by omega) (wpAny_pyReprObjUnder_list_empty ⟨oa, hk _ _ ha, hc⟩ (by omega) (hk _ _ ha) hda ⟨_, _, rfl, q s.heap _ fun _ _ e => e⟩)
theorem ReprD.tup {as : List Addr} {h0 : Heap} {d : Nat} {a : Addr} {oa : Obj} {items : Array Value} {na : Nat} {ts : List Str} (ha : h0.get? a = some oa) (hc : oa.cls = .type "tuple") (hda : oa.data = .seq items na) (hna : a ∉ as)
    (hT : ReprDs prog w g0 as h0 d items.toList ts) : ReprD prog w g0 (a :: as) h0 (d + 1) (.ref a) (if blkT g0 a then "(...)" else tupleText ts) := by
  intro n hn A g E s Q hg hag hu hk q
  refine wpAny_pyReprUnder_ref (by omega) (wpAny_pyReprObjUnder_twin (twin := "tuple.__repr__.under") ⟨oa, hk _ _ ha, hc⟩ F.slot_tuple_repr rfl (by omega) ?_)
  refine call_twin_own (F.quiet_tuple_repr_under _) F.entry_tuple_repr_under F.check_tuple_repr_under ⟨oa, hk _ _ ha, hc⟩ F.slot_tuple_repr (F.args_tuple_repr_1 _) ?_
  refine tup_at (R := callEnd _ E) ha hda hna hT (isGuard_tuple_repr_under _) (units_under_tuple_repr_under _ _) hg hag hu hk (fun h' u tk hk1 => ⟨⟨_, _, rfl⟩, _, _, rfl, q h' tk hk1⟩) fun hB => ?_
  rw [hB] at hn
  exact hn
mutual
theorem Ap.dp {K : PySem.W.Frag} {H : Hp} : ∀ {v : V} {t : AT}, Ap K H v t → Dp K H v t.data
  | _, _, .non => .non
  | _, _, .bl b => .bl b
  | _, _, .int i => .int i
  | _, _, .str x => .str x
  | _, _, .lst h a => by rw [AT.data]; exact .lst h a.dp
  | _, _, .tup h a => by rw [AT.data]; exact .tup h a.dp
theorem ApAll.dp {K : PySem.W.Frag} {H : Hp} : ∀ {vs : List V} {l : List AT}, ApAll K H vs l → DpAll K H vs (AT.dataAll l)
  | _, _, .nil => by rw [AT.dataAll]; exact .nil
  | _, _, .cons h a => by rw [AT.dataAll]; exact .cons h.dp a.dp
end
mutual
theorem Ap.same {K : PySem.W.Frag} {H H' : Hp} (e : Same H H') : ∀ {v : V} {t : AT}, Ap K H v t → Ap K H' v t
  | _, _, .non => .non
  | _, _, .bl b => .bl b
  | _, _, .int i => .int i
  | _, _, .str x => .str x
  | _, _, .lst h a => .lst (e.seq h) (ApAll.same e a)
  | _, _, .tup h a => .tup (same_t e h) (ApAll.same e a)
theorem ApAll.same {K : PySem.W.Frag} {H H' : Hp} (e : Same H H') : ∀ {vs : List V} {l : List AT}, ApAll K H vs l → ApAll K H' vs l
  | _, _, .nil => .nil
  | _, _, .cons h a => .cons (Ap.same e h) (ApAll.same e a)
end
section
variable {X : Cx} {pins : List (Addr × Obj)} {σ : L2.St} {H : Hp} {s : Shared}
mutual
theorem repr_of (I : Inv X pins σ H s) : ∀ (t : AT) (v : V) (u : Value), Ap X.K H v t → RelV v u → t.data.showable = true → t.wid ≤ sizeLine → ∃ bs, ReadAtMost s.heap t.data.depth bs ∧ ReprD X.prog X.w g0 bs s.heap t.data.depth u (t.txt g0)
  | .leaf d, v, u, h, r, hs, hw => by
    refine ⟨[], (fun _ z => nomatch z), ?_⟩
    rw [AT.txt]
    rw [AT.wid] at hw
    cases h with
    | non =>
      cases r
      exact .leaf ReprIs.none _ _ _
    | bl b =>
      cases r
      exact .leaf (ReprIs.bool b) _ _ _
    | int i =>
      obtain ⟨k, rfl⟩ := r
      exact .leaf (ReprIs.int k (by simpa [AT.data, PyData.showable] using hs)) _ _ _
    | str x =>
      obtain ⟨k, rfl⟩ := r
      exact .leaf (ReprIs.str x k (by simpa only [PyData.shown] using hw)) _ _ _
  | .lst a [], v, u, h, r, hs, hw => by
    cases h with
    | lst hq ha =>
      cases ha
      cases r
      obtain ⟨its, rv, ⟨o, n, ho, hc, _, hd⟩, _⟩ := I.list hq
      cases rv
      rw [AT.txt]
      exact ⟨[], (fun _ z => nomatch z), ReprD.bare ho hc hd⟩
  | .lst a (t :: l), v, u, h, r, hs, hw => by
    obtain ⟨as, hR⟩ := Dp.reads I _ v u h.dp r
    cases h with
    | lst hq ha =>
      cases r
      obtain ⟨its, rv, ⟨o, n, ho, hc, _, hd⟩, _⟩ := I.list hq
      rw [AT.data, PyData.showable] at hs
      rw [AT.wid] at hw
      obtain ⟨bs, hb, hk⟩ := repr_ofAll I (t :: l) _ its ha rv hs (by omega)
      rw [AT.data] at hR
      have hna : a ∉ bs := not_mem_of_deeper hR (by simp only [PyData.depth]; omega) hb
      refine ⟨a :: bs, ?_, ?_⟩
      · rw [AT.data]
        exact ReadAtMost.cons hR (by simp only [PyData.depth]; omega) hb
      · rw [AT.txt, AT.data, PyData.depth]
        cases ha with
        | cons h1 h2 =>
          cases rv with
          | cons r1 r2 =>
            rw [AT.txtAll] at hk
            exact .lst ho hc hd hna hk
  | .tup a l, v, u, h, r, hs, hw => by
    obtain ⟨as, hR⟩ := Dp.reads I _ v u h.dp r
    cases h with
    | tup hq ha =>
      cases r
      obtain ⟨its, rv, ⟨o, ho, hc, n, hd⟩, _⟩ := I.tuple hq
      rw [AT.data, PyData.showable] at hs
      rw [AT.wid] at hw
      obtain ⟨bs, hb, hk⟩ := repr_ofAll I l _ its ha rv hs (by omega)
      rw [AT.data] at hR
      have hna : a ∉ bs := not_mem_of_deeper hR (by simp only [PyData.depth]; omega) hb
      refine ⟨a :: bs, ?_, ?_⟩
      · rw [AT.data]
        exact ReadAtMost.cons hR (by simp only [PyData.depth]; omega) hb
      · rw [AT.txt, AT.data, PyData.depth]
        exact .tup ho hc hd hna (by simpa using hk)
theorem repr_ofAll (I : Inv X pins σ H s) : ∀ (l : List AT) (vs : List V) (us : List Value), ApAll X.K H vs l → Vals vs us → PyData.showableAll (AT.dataAll l) = true → AT.widAll l ≤ sizeLine → ∃ bs, ReadAtMost s.heap (PyData.depthAll (AT.dataAll l)) bs ∧ ReprDs X.prog X.w g0 bs s.heap (PyData.depthAll (AT.dataAll l)) us (AT.txtAll g0 l)
  | [], _, _, h, r, _, _ => by
    cases h
    cases r
    exact ⟨[], (fun _ z => nomatch z), by rw [AT.txtAll]; exact .nil⟩
  | t :: l, _, _, h, r, hs, hw => by
    cases h with
    | cons h1 h2 =>
      cases r with
      | cons r1 r2 =>
        have hs' : t.data.showable = true ∧ PyData.showableAll (AT.dataAll l) = true := by simpa [AT.dataAll, PyData.showableAll] using hs
        rw [AT.widAll] at hw
        obtain ⟨b1, k1, m1⟩ := repr_of I t _ _ h1 r1 hs'.1 (by omega)
        obtain ⟨b2, k2, m2⟩ := repr_ofAll I l _ _ h2 r2 hs'.2 (by omega)
        rw [AT.dataAll, AT.txtAll, PyData.depthAll]
        exact ⟨b1 ++ b2, (k1.mono (Nat.le_max_left _ _)).append (k2.mono (Nat.le_max_right _ _)), .cons (m1.wide (fun b hb => List.mem_append_left _ hb) (Nat.le_max_left _ _)) (m2.wide (fun b hb => List.mem_append_right _ hb) (Nat.le_max_right _ _))⟩
end
end
end
section
open PySem.Spec PyProof.Rows
variable {X : Cx}
def gdX (X : Cx) (g : List Code) : Cx := { X with A := { X.A with guards := some g } }
theorem gd_inv {pins : List (Addr × Obj)} {σ : L2.St} {H : Hp} {s : Shared} {g : List Code} (I : Inv X pins σ H s) : Inv (gdX X g) pins σ H s :=
  ⟨⟨I.ok.mod, I.ok.kind, I.ok.glob, I.ok.blt, I.ok.above, I.ok.inj, I.ok.has, I.ok.cab, I.ok.hd, I.ok.frames, I.ok.stk, I.ok.exf, I.ok.bs, I.ok.bsz, I.ok.noex, I.ok.exfs, I.ok.funs, I.ok.frf⟩, I.os, I.bare, I.base, I.loc, I.cell, I.free, I.freeC, I.pin, I.hok, I.len⟩
theorem ungd_inv {pins : List (Addr × Obj)} {σ : L2.St} {H : Hp} {s : Shared} {g : List Code} (I : Inv (gdX X g) pins σ H s) : Inv X pins σ H s :=
  ⟨⟨I.ok.mod, I.ok.kind, I.ok.glob, I.ok.blt, I.ok.above, I.ok.inj, I.ok.has, I.ok.cab, I.ok.hd, I.ok.frames, I.ok.stk, I.ok.exf, I.ok.bs, I.ok.bsz, I.ok.noex, I.ok.exfs, I.ok.funs, I.ok.frf⟩, I.os, I.bare, I.base, I.loc, I.cell, I.free, I.freeC, I.pin, I.hok, I.len⟩
theorem gd_in {Γ : PySem.Ctx} {A : Around} (h : Γ.In A) : Γ.In { A with guards := some (Γ.code.guards ++ guardsOf Γ.below) } :=
  ⟨h.1, h.2.1, h.2.2.1, fun g hg => Option.some.inj hg, h.2.2.2.2⟩
theorem gd_room {k : Nat} {g : List Code} {A : Around} (h : Room k A) : Room k { A with guards := some g } := ⟨h.hd, h.dp, h.un⟩
/-- a block, for each list of what is being shown around it -/
theorem pss_gd {b : List Stmt} {t : List Code → TS} (h : ∀ g, PSs (gdX X g) b (t g)) : PSs X b (fun D σ H => ∀ g, t g D σ H) := by
  refine ⟨fun pins s σ H D I q Γ p hΓ => ?_⟩
  have k := (h (Γ.code.guards ++ guardsOf Γ.below)).run pins s σ H D (gd_inv I) (q _)
  refine (wpAny_mono k (fun f s' z => ?_) fun e s' z => z) Γ p (gd_in hΓ)
  cases f with
  | next =>
    obtain ⟨σ', H', J, z⟩ := z
    exact ⟨σ', H', ungd_inv J, z⟩
  | brk =>
    obtain ⟨σ', H', J, z⟩ := z
    exact ⟨σ', H', ungd_inv J, z⟩
  | cont =>
    obtain ⟨σ', H', J, z⟩ := z
    exact ⟨σ', H', ungd_inv J, z⟩
  | ret u =>
    obtain ⟨v, σ', H', J, r, z⟩ := z
    exact ⟨v, σ', H', ungd_inv J, r, z⟩
def rRepr (K : PySem.W.Frag) (g : List Code) : List V → Hp → VK → Prop := fun xs H Q => ∃ (v : V) (t : AT), xs = [v] ∧ Ap K H v t ∧ t.data.showable = true ∧ t.wid ≤ sizeLine ∧ t.data.depth ≤ 40 ∧ Q (.str (t.txt g)) H
theorem call_reprA {g : List Code} (hg : X.A.guards = some g) (hu : X.A.units + 64 < cLine) : CallR X (.builtin "repr") (rRepr X.K g) := by
  intro pins s σ H xs us Q I r h
  obtain ⟨v, t, rfl, ha, hs, hw, hd, q⟩ := h
  obtain ⟨u, rfl, ru⟩ := r.one
  have fin : ∀ (h' : Heap) (k tk : Tok), (∀ b o, s.heap.get? b = some o → h'.get? b = some o) → EP X pins σ Q (.str (t.txt g) k) { s with heap := h', toks := tk } := fun h' k tk hk => ⟨.str _, H, I.kept hk, ⟨_, rfl⟩, q⟩
  have fin0 : EP X pins σ Q (.str (t.txt g) s.toks) { s with toks := s.toks + 1 } := fin s.heap _ _ fun _ _ e => e
  cases t with
  | leaf d =>
    rw [AT.txt] at fin0
    rw [AT.wid] at hw
    cases ha with
    | non =>
      cases ru
      exact PySem.P.repr_of_none fin0
    | bl b =>
      cases ru
      exact PySem.P.repr_of_bool fin0
    | int i =>
      obtain ⟨k, rfl⟩ := ru
      exact PySem.P.repr_of_int (by simpa [AT.data, PyData.showable] using hs) fin0
    | str x =>
      obtain ⟨k, rfl⟩ := ru
      exact PySem.P.repr_of_str fin0 (by simpa only [PyData.shown] using hw)
  | lst a l =>
    have ha0 := ha
    obtain ⟨as, hR⟩ := Dp.reads I _ v u ha.dp ru
    cases ha with
    | lst hq hl =>
      cases ru
      obtain ⟨its, rv, ⟨o, n, ho, hc, _, hdt⟩, _⟩ := I.list hq
      refine call_repr_slot (by omega) ⟨o, ho, hc⟩ F.slot_list_repr.toG ?_
      cases l with
      | nil =>
        cases hl
        cases rv
        rw [AT.txt] at fin
        exact call_list_repr_empty ⟨o, ho, hc⟩ ho hdt ⟨_, _, rfl, fin s.heap _ _ fun _ _ e => e⟩
      | cons t l =>
        rw [AT.data, PyData.showable] at hs
        rw [AT.wid] at hw
        rw [AT.data, PyData.depth] at hd
        obtain ⟨bs, hb, hk⟩ := repr_ofAll (g0 := g) I (t :: l) _ its hl rv hs (by omega)
        rw [AT.data] at hR
        have hna : a ∉ bs := not_mem_of_deeper hR (by simp only [PyData.depth]; omega) hb
        cases hl with
        | cons h1 h2 =>
          cases rv with
          | cons r1 r2 =>
            rw [AT.txtAll] at hk
            rw [AT.txt] at fin
            have hz := txt_wid g (AT.lst a (t :: l))
            rw [AT.txt, AT.wid] at hz
            refine wpAny_call (codeAny_call_builtin_own (Code.quiet_builtin _ (by decide +kernel)) F.entry_list_repr (F.slot_list_repr.toG.check _ _ _ _ _ _ _ _ ⟨o, ho, hc⟩ (F.args_list_repr_1 _) ?_))
            refine list_at (R := callEnd _ _) (n := 0) ho hdt hna (by simpa using hk.len) (fun i y e => hk.item i y (by simpa using e)) F.slot_list_repr.plain hg (Agr.refl _ _) (by show X.A.units + 1 + _ < _; omega) (fun _ _ e => e) (fun h' u tk hk1 => ⟨_, _, rfl, fin h' u tk hk1⟩) fun hB => ?_
            rw [hB] at hz
            have hz2 : (listText (AT.txt g t :: AT.txtAll g l)).length ≤ 6 + AT.widAll (t :: l) := hz
            omega
  | tup a l =>
    obtain ⟨as, hR⟩ := Dp.reads I _ v u ha.dp ru
    cases ha with
    | tup hq hl =>
      cases ru
      obtain ⟨its, rv, ⟨o, ho, hc, n, hdt⟩, _⟩ := I.tuple hq
      refine call_repr_slot (by omega) ⟨o, ho, hc⟩ F.slot_tuple_repr ?_
      rw [AT.data, PyData.showable] at hs
      rw [AT.wid] at hw
      rw [AT.data, PyData.depth] at hd
      obtain ⟨bs, hb, hk⟩ := repr_ofAll (g0 := g) I l _ its hl rv hs (by omega)
      rw [AT.data] at hR
      have hna : a ∉ bs := not_mem_of_deeper hR (by simp only [PyData.depth]; omega) hb
      rw [AT.txt] at fin
      have hz := txt_wid g (AT.tup a l)
      rw [AT.txt, AT.wid] at hz
      refine wpAny_call (codeAny_call_builtin_own (Code.quiet_builtin _ (by decide +kernel)) F.entry_tuple_repr (F.slot_tuple_repr.check _ _ _ _ _ _ _ _ ⟨o, ho, hc⟩ (F.args_tuple_repr_1 _) ?_))
      refine tup_at (R := callEnd _ _) (n := 0) ho hdt hna (by simpa using hk) (isGuard_tuple_repr _) (units_under_tuple_repr _ _) hg (Agr.refl _ _) (by show X.A.units + 1 + _ < _; omega) (fun _ _ e => e) (fun h' u tk hk1 => ⟨_, _, rfl, fin h' u tk hk1⟩) fun hB => ?_
      rw [hB] at hz
      have hz2 : (tupleText (AT.txtAll g l)).length ≤ 6 + AT.widAll l := hz
      omega
end
/-! ### repr, where none is under way: by what the thing is -/
mutual
def dw : PyData → Nat
  | .list xs => 6 + dwAll xs
  | .tuple xs => 6 + dwAll xs
  | d => d.shown.length
def dwAll : List PyData → Nat
  | [] => 0
  | x :: xs => dw x + 2 + dwAll xs
end
section
open PySem.Spec PyProof.Rows
mutual
theorem dp_ap {K : PySem.W.Frag} {H : Hp} : ∀ {v : V} {d : PyData}, Dp K H v d → ∃ t : AT, Ap K H v t ∧ t.data = d ∧ t.wid = dw d ∧ t.txt [] = d.shown
  | _, _, .non => ⟨.leaf .none, .non, by rw [AT.data], by rw [AT.wid, dw] <;> nofun, by rw [AT.txt]⟩
  | _, _, .bl b => ⟨.leaf (.bool b), .bl b, by rw [AT.data], by rw [AT.wid, dw] <;> nofun, by rw [AT.txt]⟩
  | _, _, .int i => ⟨.leaf (.int i), .int i, by rw [AT.data], by rw [AT.wid, dw] <;> nofun, by rw [AT.txt]⟩
  | _, _, .str x => ⟨.leaf (.str x), .str x, by rw [AT.data], by rw [AT.wid, dw] <;> nofun, by rw [AT.txt]⟩
  | _, _, .lst (a := a) h q => by
    obtain ⟨l, h1, h2, h3, h4⟩ := dp_apAll q
    refine ⟨.lst a l, .lst h h1, by rw [AT.data, h2], by rw [AT.wid, dw, h3], ?_⟩
    rw [PyData.shown, ← h4]
    cases l with
    | nil =>
      rw [AT.txt, AT.txtAll]
      exact listText_nil.symm
    | cons t l =>
      rw [AT.txt, AT.txtAll]
      rfl
  | _, _, .tup (a := a) h q => by
    obtain ⟨l, h1, h2, h3, h4⟩ := dp_apAll q
    refine ⟨.tup a l, .tup h h1, by rw [AT.data, h2], by rw [AT.wid, dw, h3], ?_⟩
    rw [PyData.shown, ← h4, AT.txt]
    rfl
theorem dp_apAll {K : PySem.W.Frag} {H : Hp} : ∀ {vs : List V} {ds : List PyData}, DpAll K H vs ds → ∃ l : List AT, ApAll K H vs l ∧ AT.dataAll l = ds ∧ AT.widAll l = dwAll ds ∧ AT.txtAll [] l = PyData.shownAll ds
  | _, _, .nil => ⟨[], .nil, by rw [AT.dataAll], by rw [AT.widAll, dwAll], by rw [AT.txtAll, PyData.shownAll]⟩
  | _, _, .cons h q => by
    obtain ⟨t, a1, a2, a3, a4⟩ := dp_ap h
    obtain ⟨l, b1, b2, b3, b4⟩ := dp_apAll q
    exact ⟨t :: l, .cons a1 b1, by rw [AT.dataAll, a2, b2], by rw [AT.widAll, dwAll, a3, b3], by rw [AT.txtAll, PyData.shownAll, a4, b4]⟩
end
structure Shn (d : PyData) : Prop where
  s : d.showable = true
  w : dw d ≤ sizeLine
  d : d.depth ≤ 40
def rRepG (K : PySem.W.Frag) : List V → Hp → VK → Prop := fun xs H Q => ∃ (v : V) (d : PyData), xs = [v] ∧ Dp K H v d ∧ Shn d ∧ Q (.str d.shown) H
theorem call_reprG {X : Cx} (hg : X.A.guards = some []) (hu : X.A.units + 64 < cLine) : CallR X (.builtin "repr") (rRepG X.K) := by
  intro pins s σ H xs us Q I r h
  obtain ⟨v, d, rfl, hd, hs, q⟩ := h
  obtain ⟨t, h1, h2, h3, h4⟩ := dp_ap hd
  refine call_reprA hg hu pins s σ H _ us Q I r ⟨v, t, rfl, h1, by rw [h2]; exact hs.s, by rw [h3]; exact hs.w, by rw [h2]; exact hs.d, ?_⟩
  rw [h4]
  exact q
end
theorem dw_ints : ∀ {ns : List Int}, (∀ x ∈ ns, -1000000 ≤ x ∧ x ≤ 1000000) → PyData.showableAll (ns.map PyData.int) = true ∧ dwAll (ns.map PyData.int) ≤ 15 * ns.length ∧ PyData.depthAll (ns.map PyData.int) = 0
  | [], _ => ⟨by rw [List.map_nil, PyData.showableAll], by rw [List.map_nil, dwAll]; exact Nat.le_refl _, by rw [List.map_nil, PyData.depthAll]⟩
  | x :: r, h => by
    obtain ⟨a, b, c⟩ := dw_ints fun y hy => h y (List.mem_cons_of_mem _ hy)
    have hx := h x List.mem_cons_self
    have h1 : PyData.showable (.int x) = true := by
      rw [PyData.showable]
      refine decide_eq_true ?_
      have h1 : x.natAbs < 2 ^ 20 := by
        have : (2 : Nat) ^ 20 = 1048576 := by decide
        omega
      by_cases c : x.natAbs = 0
      · rw [c]
        decide
      · exact Nat.lt_trans ((Nat.log2_lt c).mpr h1) (by decide)
    have h2 : (PyData.shown (.int x)).length ≤ 13 := PyData.shown_int_le2 (by omega) (by omega)
    refine ⟨?_, ?_, ?_⟩
    · rw [List.map_cons, PyData.showableAll, h1, a]
      rfl
    · rw [List.map_cons, dwAll, List.length_cons]
      have : dw (.int x) = (PyData.shown (.int x)).length := by rw [dw] <;> nofun
      omega
    · rw [List.map_cons, PyData.depthAll, c, PyData.depth]
      rfl
theorem dw_rows : ∀ {ls : List (List Int)}, (∀ l ∈ ls, l.length ≤ 1000 ∧ ∀ x ∈ l, -1000000 ≤ x ∧ x ≤ 1000000) → PyData.showableAll (ls.map fun l => .list (l.map PyData.int)) = true ∧ dwAll (ls.map fun l => .list (l.map PyData.int)) ≤ 15100 * ls.length ∧ PyData.depthAll (ls.map fun l => .list (l.map PyData.int)) ≤ 1
  | [], _ => ⟨by rw [List.map_nil, PyData.showableAll], by rw [List.map_nil, dwAll]; exact Nat.le_refl _, by rw [List.map_nil, PyData.depthAll]; exact Nat.zero_le _⟩
  | x :: r, h => by
    obtain ⟨a, b, c⟩ := dw_rows fun y hy => h y (List.mem_cons_of_mem _ hy)
    obtain ⟨hl, hx⟩ := h x List.mem_cons_self
    obtain ⟨a1, b1, c1⟩ := dw_ints hx
    refine ⟨?_, ?_, ?_⟩
    · rw [List.map_cons, PyData.showableAll, PyData.showable, a1, a]
      rfl
    · rw [List.map_cons, dwAll, dw, List.length_cons]
      omega
    · rw [List.map_cons, PyData.depthAll, PyData.depth, c1]
      exact Nat.max_le.mpr ⟨by omega, c⟩
theorem shn_rows {ls : List (List Int)} (h : ∀ l ∈ ls, l.length ≤ 1000 ∧ ∀ x ∈ l, -1000000 ≤ x ∧ x ≤ 1000000) (k : ls.length ≤ 100) : Shn (.list (ls.map fun l => .list (l.map PyData.int))) := by
  obtain ⟨a, b, c⟩ := dw_rows h
  have hz : sizeLine = 16777216 := by decide
  refine ⟨?_, ?_, ?_⟩
  · rw [PyData.showable]
    exact a
  · rw [dw]
    omega
  · rw [PyData.depth]
    omega
/-! ### defs that are called while nothing is being shown -/
section
open PySem.Spec PyProof.Rows
/-- a def's promise where no repr is under way -/
structure FnG (P : Program) (w : World) (K : PySem.W.Frag) (mg : Str → Option Value) (base : Heap) (CX : CXT) (k : Nat) (f : Addr) (fd : FuncData) (ps : List Str) (sp : Sp) : Prop where
  len : ∀ vs H Q E, sp vs H Q E → vs.length = ps.length
  run : ∀ (A : Around) (outer : List Env) (s : Shared) (H : Hp) (args : Args) (us : List Value) (vs : List V) (Q : VK) (E : XK), A.guards = some [] → Room k A → Env0 P w K mg base A outer s H → BindsTo s fd args (ps.zip us) → Vals vs us → sp vs H Q E →
    codeAny (model P w) A (.call (.ref f) args) (CR CX outer P w H s Q E) s
variable {P : Program} {w : World} {K : PySem.W.Frag} {mg : Str → Option Value} {base : Heap} {CX : CXT} {k : Nat} {f : Addr} {fd : FuncData} {N ps : List Str} {sp : Sp}
theorem FnG.of (F : FnOk P w K mg base CX k f fd ps sp) : FnG P w K mg base CX k f fd ps sp := ⟨F.len, fun A outer s H args us vs Q E _ => F.run A outer s H args us vs Q E⟩
theorem okG {x qual : Str} {st : Stmt} (F : Fun K x qual st f fd) (S : FnScope N ps (defScope st)) (len : ∀ vs H Q E, sp vs H Q E → vs.length = ps.length)
    (body : ∀ (cdv : Value) (A : Around) (outer : List Env) (s : Shared) (H : Hp) (vs : List V) (Q : VK) (E : XK), A.guards = some [] → Room k (A.deeper (envOfC qual (defScope st) s.heap.objs.size f cdv)) → sp vs H Q E →
      ∃ t, PSs (cxOf CX0 P w K mg base N qual (defScope st) f cdv A outer s H E).nox (defBody st) t ∧ t { nx := fun _ H' => Q .non H', rt := Q } (L2.start N vs) H) : FnG P w K mg base CX0 (k + 1) f fd ps sp := by
  obtain ⟨oc, od, kV, doc, pm, an, cdv, ct, osl, rfl, lk, hcd⟩ := F.ex
  refine ⟨len, fun A outer s H args us vs Q E hgd hr e0 hb r hsp => ?_⟩
  have keeps : ∀ b o, base.get? b = some o → s.heap.get? b = some o := fun b o e => (e0.bs b o e).1
  have KX : K.In s.heap := e0.mod.kin.keeps keeps
  have kinds : ∀ y ∈ ps.zip us, (defScope st).names.lookup y.1 = some .local ∨ ((defScope st).names.lookup y.1 = some .cell ∧ ((cellsFrom (s.heap.objs.size + 1) (defScope st).names []).lookup y.1).isSome = true) := by
    rintro ⟨n, v⟩ hy
    rcases S.par n (List.of_mem_zip hy).1 with q | q
    · exact .inl q
    · exact .inr ⟨q, PySem.W.cellsFrom_some _ _ _ (.inl q)⟩
  refine codeAny_call_function hr.depth (KX _ _ lk) rfl S.co S.gen rfl (PySem.W.codeRec_of KX hcd) (hb _ _ _ _ (wpAny_newFunctionEnv_cells S.kind kinds fun env he s1 x => ?_))
  subst he
  refine ⟨(e0.mod.nolimit.keeps keeps).keeps x.toInCall.keep, codeAny_func ?_⟩
  obtain ⟨t, ht, hq⟩ := body cdv A outer s H vs Q E hgd (hr.deeper _) hsp
  have I := inv_start (CX := CX0) (E := E) S hr.hd e0 (len _ _ _ _ hsp) r x
  refine wpAny_mono (ht.nox.run [] s1 (L2.start N vs) H _ I hq) (fun fl s' z => ?_) fun e s' z => z
  cases fl with
  | ret u =>
    obtain ⟨v, σ', H', J, rv, z⟩ := z
    exact ⟨v, H', J.os, J.bare, J.base, J.hok, rv, z⟩
  | next =>
    obtain ⟨σ', H', J, z⟩ := z
    exact ⟨V.non, H', J.os, J.bare, J.base, J.hok, rfl, z⟩
  | brk =>
    obtain ⟨_, _, _, z⟩ := z
    exact z.elim
  | cont =>
    obtain ⟨_, _, _, z⟩ := z
    exact z.elim
variable {X : Cx} {dvs : List V} {ds : List Value} {E : XK} {x : Str} {p pos : Pos} {e : Expr} {es : List Expr} {t : TA}
theorem pe_callG (F : FnG X.prog X.w X.K X.mg X.base CX k f fd ps sp) (gd : X.A.guards = some []) (hr : Room k X.A) (hg : Gl X x) (hm : X.mg x = some (.ref f)) (hk : PySem.W.keepIn X.K (.ref f) = true) (hb : Binds X.K fd ps ds) (hd : Vals dvs ds) (hx : Passes CX X E) (ha : PA X (e :: es) t)
    (hdb : (x == ("__debug__" : Str)) = false := by decide) (he : starEach (e :: es) X.env = (false, eval e X.env) :: starEach es X.env := by rfl) (hpl : (backTo pos (starEach es X.env)).any (·.1) = false := by rfl) : PE X (.Call (.Name x p) (e :: es) [] pos) (tCall sp dvs E t) := by
  refine ⟨fun pins s σ H Q I h => wpAny_Call_Name_kw (ld_glob I hg hm ?_ hdb)⟩
  refine PySem.W.callWith_K (h₀ := X.base) I.ok.mod.kin hk (thn (ha.run pos pins s σ H _ I h) fun us s1 ⟨vs, H1, J, r, q⟩ => ⟨J.kIn, ?_⟩) he hpl
  have r2 : Vals (vs ++ dvs) (us ++ ds) := r.append hd
  refine wpAny_call (codeAny_mono (F.run X.A X.stack s1 H1 ⟨us, []⟩ (us ++ ds) (vs ++ dvs) Q E gd hr J.env0 (hb s1 us J.kIn (by rw [← r2.length]; exact F.len _ _ _ _ q)) r2 q) fun z s' hz => ?_)
  cases z with
  | error u => exact hx pins σ H1 s1 u s' J hz
  | ok fl =>
    cases fl with
    | ret u => exact J.after hz
    | next => exact hz.elim
    | brk => exact hz.elim
    | cont => exact hz.elim
end
section
open PySem.Spec PyProof.Rows
/-- the law's own call: nothing is being shown around it -/
theorem law_callG {P : Program} {w : World} {K : PySem.W.Frag} {mg mb : Str → Option Value} {k : Nat} {fa a : Addr} {fd : FuncData} {x : Str} {sp : Sp} {s1 : Shared} {vs : List Value} {ns : List Int} (KX : K.In s1.heap) (hns : s1.heap.Ns mainGlobals mg) (hb : s1.heap.Ns builtinsNs mb)
    (hbb : ∀ x : Str, x ≠ "__name__" → mb x = bootBuiltins x) (hlim : s1.heap.NoLimit) (hg : s1.gens = #[]) (ha : s1.heap.get? a = some { cls := .type "list", data := .seq vs.toArray }) (hi : IntsAre vs ns) (hl : ns.length ≤ sizeLine) (hr : Room k callerA)
    (F : ∀ base : Heap, K.In base → base.Ns mainGlobals mg → FnG P w K mg base CX0 k fa fd [x] sp) (hbind : ∀ (s : Shared) (u : Value), BindsTo s fd ⟨[u], []⟩ [(x, u)]) (hsp : ∀ H : Hp, Only H → SqL K H a (ns.map V.int) → sp [.ref a] H (fun v _ => v = .bl true) fun _ _ _ => False)
    : codeAny (model P w) callerA (.call (.ref fa) ⟨[.ref a], []⟩) (fun r s' => r = .ok (.ret (.bool true)) ∧ OldK s1.heap s'.heap ∧ s'.os = s1.os ∧ AllBare s'.gens) s1 := by
  have rv := vals_ints hi
  have lv := hi.length
  have main : ∀ H : Hp, Only H → SqL K H a (ns.map V.int) → HOk P w H s1.heap → (∀ b u, H b = some u → b = a) → (∀ u, H a = some u → K.lookup a = none) →
      codeAny (model P w) callerA (.call (.ref fa) ⟨[.ref a], []⟩) (fun r s' => r = .ok (.ret (.bool true)) ∧ OldK s1.heap s'.heap ∧ s'.os = s1.os ∧ AllBare s'.gens) s1 := by
    intro H hO hS hok hA hK
    have isn : ∀ {b : Addr}, b ≠ a → H b = none := fun {b} n => by
      cases q : H b with
      | none => rfl
      | some u => exact absurd (hA b u q) n
    have bn : ∀ {b : Addr} {m : Str → Option Value}, s1.heap.Ns b m → (hidT s1.heap H).Ns b m := by
      rintro b m ⟨o, es, ep, e, d, r⟩
      refine ⟨o, es, ep, hidT_get e (isn fun z => ?_), d, r⟩
      rw [z, ha] at e
      cases e
      cases d
    have bK : K.In (hidT s1.heap H) := fun b o e => hidT_get (KX b o e) (by
      cases q : H b with
      | none => rfl
      | some u =>
        have z := hA b u q
        subst z
        rw [hK u q] at e
        cases e)
    have lm : (hidT s1.heap H).NoLimit := by
      obtain ⟨mc, h1, h2⟩ := hlim
      exact ⟨mc, bn h1, h2⟩
    have e0 : Env0 P w K mg (hidT s1.heap H) callerA [] s1 H := ⟨rfl, ⟨bK, bn hns, ⟨mb, bn hb, hbb⟩, lm⟩, fun b o e => of_hidT e, Nat.le_of_eq (hidT_size _ _), trivial, (fun b z => nomatch z), hok, .of_eq hg⟩
    refine codeAny_mono ((F _ bK (bn hns)).run callerA [] s1 H ⟨[.ref a], []⟩ [.ref a] [.ref a] _ _ rfl hr e0 (hbind s1 (.ref a)) (.cons rfl .nil) (hsp H hO hS)) fun r s' h => ?_
    cases r with
    | error e => exact False.elim h
    | ok fl =>
      cases fl with
      | next => exact False.elim h
      | brk => exact False.elim h
      | cont => exact False.elim h
      | ret u =>
        obtain ⟨v, H', os, bare, un, hok', r', q⟩ := h
        have qv : v = .bl true := q
        subst qv
        obtain rfl : u = Value.bool true := r'
        refine ⟨rfl, OldK.of_keep fun b o e => ?_, os, bare⟩
        cases q : H b with
        | none => exact un.keep b o e q (fun z => nomatch z) (fun z => nomatch z)
        | some u =>
          rcases hO b with z | ⟨ob, xs, z⟩
          · rw [z] at q
            cases q
          · obtain ⟨e1, _⟩ := hok b _ z
            obtain ⟨e2, _⟩ := hok' b _ (un.frzs b ob _ z)
            rw [e1] at e
            cases e
            exact e2
  cases hk : K.lookup a with
  | some o =>
    have e := (KX a o hk).symm.trans ha
    cases e
    exact main (fun _ => none) (fun _ => .inl rfl) (.inr ⟨_, vs.toArray, _, hk, rfl, rfl, rfl, by rw [List.size_toArray, lv]; exact hl, by simpa using rv⟩) (fun b u z => nomatch z) (fun b u z => nomatch z) fun u z => nomatch z
  | none =>
    have gA : ∀ b u, (if b = a then some (HO.frz { cls := .type "list", data := .seq vs.toArray } (.lst (ns.map V.int))) else none) = some u → b = a ∧ u = HO.frz { cls := .type "list", data := .seq vs.toArray } (.lst (ns.map V.int)) := by
      intro b u z
      by_cases c : b = a
      · rw [if_pos c] at z
        exact ⟨c, (Option.some.inj z).symm⟩
      · rw [if_neg c] at z
        cases z
    refine main (fun b => if b = a then some (.frz { cls := .type "list", data := .seq vs.toArray } (.lst (ns.map V.int))) else none) (fun b => ?_) (.inl (.inr ⟨{ cls := .type "list", data := .seq vs.toArray }, if_pos rfl⟩)) (fun b u z => ?_) (fun b u z => (gA b u z).1) fun _ _ => hk
    · by_cases c : b = a
      · exact .inr ⟨_, _, if_pos c⟩
      · exact .inl (if_neg c)
    · obtain ⟨rfl, rfl⟩ := gA b u z
      exact ⟨ha, by rw [List.length_map]; exact hl, vs, _, rv, ha⟩
theorem walk_ofG {l : PySem.W.OpenLaw} {n k : Nat} {q : Program} {loose : List Str} {XP : (Str → Option Value) → Heap → Prop} {YP : World → Heap → Prop} {d : DefRec} {K : Params → PySem.W.Frag} {sp : World → Sp} {x : Str} (hn : l.most = some n) (hn2 : n ≤ sizeLine) (hdf : d.params.defaults = []) (hr : Room k callerA)
    (hY : ∀ (w : World) (h : Heap), YP w h → (K w.params).In h)
    (F : ∀ (w : World) (mg : Str → Option Value) (fa : Addr) (h : Heap), (K w.params).In h → h.Ns mainGlobals mg → mg d.name = some (.ref fa) → ∃ fd : FuncData, (∀ (s : Shared) (u : Value), BindsTo s fd ⟨[u], []⟩ [(x, u)]) ∧ ∀ base : Heap, (K w.params).In base → base.Ns mainGlobals mg → FnG l.prog w (K w.params) mg base CX0 k fa fd [x] (sp w))
    (hsp : ∀ (w : World) (H : Hp) (a : Addr) (ns : List Int), ns.length ≤ n → Only H → SqL (K w.params) H a (ns.map V.int) → sp w [.ref a] H (fun v _ => v = .bl true) fun _ _ _ => False) : PySem.W.WalkO q loose XP YP l.row.toRowW d [] (fun f vs => PySem.call f vs) := by
  refine Att.attach_call hn hdf fun w s₀ s1 mg mb fa o pm cd doc a vs ns G Y ho hd hcd hmg hobj hints hlen hg => ?_
  obtain ⟨fd, hb, hF⟩ := F w mg fa _ (hY w _ Y) G.T.g hmg
  exact law_callG (hY w _ Y) G.T.g G.T.b G.T.builtins G.T.nolimit hg hobj hints (Nat.le_trans hlen hn2) hr hF hb fun H hO hS => hsp w H a ns hlen hO hS
end
section
variable {X : Cx} {T : String} {name : Str} {id : String} {r : V → List V → Hp → VK → Prop} {o e : Expr} {es : List Expr} {to : TE} {t : TA} {apos cpos : Pos}
theorem pe_bmK {K : PySem.W.Frag} (hK : X.K = K) (pa : PlainAttrs T) (slot : Slot T name id) (hty : typeOf (.builtin id) = pure (.type "method_descriptor")) (hm : MtR X id r) (ho : PE X o to) (ha : PA X (e :: es) t)
    (hbase : attributeBase o name X.env (eval o X.env) = eval o X.env := by rfl)
    (hfew : ((backTo cpos (starEach (e :: es) X.env)).all (fun x => !x.1) && (backToKw cpos (keywordEach [] X.env)).all (fun x => x.1.isSome)
      && decide ((e :: es).length + ([] : List Keyword).length + (if ([] : List Keyword).isEmpty then 0 else 1) < 30)) = true := by rfl)
    (hline : (apos.endLine == cpos.line) = true := by rfl) (hs : starEach (e :: es) X.env = (false, eval e X.env) :: starEach es X.env := by rfl) (hplain : (backTo cpos (starEach es X.env)).any (·.1) = false := by rfl) :
    PE X (.Call (.Attribute o name apos) (e :: es) [] cpos) (tBM K T r to t) := by
  subst hK
  exact pe_bm pa slot hty hm ho ha hbase hfew hline hs hplain
end
abbrev s__law_refused : Stmt := top 22
abbrev N__law_refused : List Str := ["_law_named", "_law_found", "_law_way", "_law_caught", "error"]
abbrev P__law_refused : List Str := ["_law_named"]
theorem sc__law_refused : FnScope N__law_refused P__law_refused (defScope s__law_refused) := ⟨rfl, rfl, rfl, by decide +kernel, rfl, by decide +kernel, by decide +kernel⟩
def spRef7 : Sp := fun vs H Q _ => ∃ (nm : Bool), vs = [.bl nm] ∧ ∀ p H', H p = none → Same H H' → H' p = some (.lst [.int 6, .int 2]) → Q (.ref p) H'
structure Ex7 (K : PySem.W.Frag) (mg : Str → Option Value) (fI : Addr) (fdI : FuncData) (CT CI CN : Addr) : Prop where
  x : XI K fI fdI
  ri : Ref K CT CI fI
  rn : Ref K CT CN fI
  mi : mg "NoInverse" = some (.ref CI)
  mn : mg "NotCoprime" = some (.ref CN)
  ei : PySem.W.exmAny K (.ref CI) [.ref CI, .ref CN] = some true
  en : PySem.W.exmAny K (.ref CN) [.ref CI, .ref CN] = some true
theorem bad496 {p : Nat} (hp : p < ([4, 9, 6] : List Int).length) (h : ¬ Good [4, 9, 6] p) : p = 2 := by
  have : p = 0 ∨ p = 1 ∨ p = 2 := by
    have : ([4, 9, 6] : List Int).length = 3 := rfl
    omega
  rcases this with z | z | z
  · subst z
    exact absurd (fun a ha => by cases ha) h
  · subst z
    refine absurd (fun a ha => ?_) h
    have e : a = 4 := List.mem_singleton.mp ha
    subst e
    rfl
  · exact z
theorem not496 : ¬ ∀ i < ([4, 9, 6] : List Int).length, Good [4, 9, 6] i := fun h => absurd (h 2 (by decide) 4 (by simp)) (by decide)
section
variable {P : Program} {w : World} {K : PySem.W.Frag} {mg : Str → Option Value} {base : Heap}
theorem ok_ref7 {f f1 f2 fI CT CI CN : Addr} {fd d1 d2 fdI : FuncData} {k : Nat} (F : Fun K "_law_refused" "_law_refused" s__law_refused f fd) (T : Blt mg) (D_inverse : Df K mg "inverse" s_inverse P_inverse f1 d1) (D_joined : Df K mg "joined" s_joined P_joined f2 d2)
    (G_inverse : FnOk P w K mg base (L2.CX P w) 3 f1 d1 P_inverse (spInv CI)) (G_joined : FnOk P w K mg base (L2.CX P w) 4 f2 d2 P_joined (spJoinL K CN)) (ex : Ex7 K mg fI fdI CT CI CN) : FnOk P w K mg base CX0 (k + 5) f fd P__law_refused spRef7 := by
  have nd := sc__law_refused.nd
  have hbb : ∀ x ∈ ([4, 9, 6] : List Int), 1 ≤ x ∧ x ≤ 1000000 := by decide
  have hrb : ∀ i < ([4, 9, 6] : List Int).length, 0 ≤ ([0, 0, 0] : List Int).getD i 0 ∧ ([0, 0, 0] : List Int).getD i 0 < ([4, 9, 6] : List Int).getD i 0 := by decide
  have KB_inverse := kb_inverse D_inverse.F
  have KB_joined := kb_joined D_joined.F
  have M_NoInverse := ex.mi
  have M_NotCoprime := ex.mn
  refine F.ok sc__law_refused (fun vs H Q E h => ?_) (fun cdv A outer s H vs Q E hr h => ?_)
  · obtain ⟨nm, rfl, _⟩ := h
    rfl
  · obtain ⟨nm, rfl, q⟩ := h
    refine ⟨_, (pss_cons (ps_set (i := 1) nd rfl (Or.inl rfl) (pe_lst pa_nil))
      (pss_cons (ps_for PassesOwn.never rfl (pi_range1 (by rfl) T.b_range (pa_cons (pe_int) pa_nil)) (pg_name (i := 2) nd rfl (Or.inl rfl))
      (pss_cons (ps_set (i := 3) nd rfl (Or.inl rfl) (pe_non))
      (pss_cons (ps_try_keep2 (i := 4) (Wout := fun _ _ _ _ => False) rfl rfl rfl nd rfl rfl ⟨by rfl, by decide, Or.inl M_NoInverse⟩ ⟨by rfl, by decide, Or.inl M_NotCoprime⟩ takes0 (fun W pn xe tk _ => by exact (pss_one (ps_if (pt_cmpR op_eq (pv 2) (pe_int) (nomark _)) (pss_one (ps_expr (pe_bmK (K := K) rfl PySem.F.plainAttrs_list PySem.F.slot_list_append PySem.F.type_list_append mt_append (pv 1) (pa_cons (pe_ifExp (pt_val (pv 0)) (pe_callKS0 G_inverse (hr.mono (by omega)) (by rfl) D_inverse.g D_inverse.F.kp KB_inverse (fun σ => passAt tk σ) (pk_cons (pe_int) (pk_cons (pe_int) pk_nil))) (pe_callS G_inverse (hr.mono (by omega)) (by rfl) D_inverse.g D_inverse.F.kp D_inverse.b (fun σ => passAt tk σ) (pa_cons (pe_int) (pa_cons (pe_int) pa_nil)))) pa_nil)))) (pss_one (ps_expr (pe_bmK (K := K) rfl PySem.F.plainAttrs_list PySem.F.slot_list_append PySem.F.type_list_append mt_append (pv 1) (pa_cons (pe_ifExp (pt_val (pv 0)) (pe_callKS0 G_joined (hr.mono (by omega)) (by rfl) D_joined.g D_joined.F.kp KB_joined (fun σ => passAt tk σ) (pk_cons (pe_lst (pa_cons (pe_int) (pa_cons (pe_int) (pa_cons (pe_int) pa_nil)))) (pk_cons (pe_lst (pa_cons (pe_int) (pa_cons (pe_int) (pa_cons (pe_int) pa_nil)))) pk_nil))) (pe_callS G_joined (hr.mono (by omega)) (by rfl) D_joined.g D_joined.F.kp D_joined.b (fun σ => passAt tk σ) (pa_cons (pe_lst (pa_cons (pe_int) (pa_cons (pe_int) (pa_cons (pe_int) pa_nil)))) (pa_cons (pe_lst (pa_cons (pe_int) (pa_cons (pe_int) (pa_cons (pe_int) pa_nil)))) pa_nil)))) pa_nil))))))) (fun a pn => (pss_one (ps_set (i := 3) nd rfl (Or.inl rfl) (pv 4)))))
      (pss_one (ps_expr (pe_bm PySem.F.plainAttrs_list PySem.F.slot_list_append PySem.F.type_list_append mt_append (pv 1) (pa_cons (pe_ifExp (pt_cmpR op_isN (pv 3) (pe_non) (nomark _)) (pe_non) (pe_xw (pv 3))) pa_nil)))))))
      (pss_one (ps_ret (pv 1))))), ?_⟩
    walk_at "ev"
    w_cond _1
    walk_at "ev"
    refine for_range (lo := 0) (n := _) (fun i σ H' => Hold (∃ s2 s3, σ = [some (.bl nm), some (.ref l1), s2, s3, none] ∧ Same H H' ∧ H' l1 = some (.lst (([V.int 6, V.int 2] : List V).take i)))) (.mk ⟨_, _, rfl, sm1, hq1⟩) ?_ ?_
    · intro i σ H2 hi hP
      obtain ⟨s2, s3, rfl, sm2, h12⟩ := hP.un
      have hi2 : i = 0 ∨ i = 1 := by
        have : i < 2 := hi
        omega
      rcases hi2 with z | z <;> subst z
      · walk_at "ev"
        refine ite2 (fun c => ?_) (fun c => ?_)
        · walk_at "ev"
          intro _ d H3 hd0 sm3 hwd
          refine ⟨true, ex.ei, fun _ => ⟨CI, d, rfl, rfl, fun a ha => ?_⟩, fun z => nomatch z⟩
          have sm4 : Same H3 (upd H3 a (XOb CI d a)) := same_new ha
          have hx4 : XAt (upd H3 a (XOb CI d a)) a CI [(("what" : Str), .int 6)] := ⟨d, upd_same, sm4 _ _ hwd⟩
          have ek := ex.ri.ek
          have nw := ex.ri.ek.nw
          have h14 := (sm3.trans sm4) _ _ h12
          walk_at "ev"
          exact .mk ⟨_, _, rfl, same_mut (sm2.trans (sm3.trans sm4)) hl1, upd_same⟩
        · walk_at "ev"
          intro _ d H3 hd0 sm3 hwd
          refine ⟨true, ex.ei, fun _ => ⟨CI, d, rfl, rfl, fun a ha => ?_⟩, fun z => nomatch z⟩
          have sm4 : Same H3 (upd H3 a (XOb CI d a)) := same_new ha
          have hx4 : XAt (upd H3 a (XOb CI d a)) a CI [(("what" : Str), .int 6)] := ⟨d, upd_same, sm4 _ _ hwd⟩
          have ek := ex.ri.ek
          have nw := ex.ri.ek.nw
          have h14 := (sm3.trans sm4) _ _ h12
          walk_at "ev"
          exact .mk ⟨_, _, rfl, same_mut (sm2.trans (sm3.trans sm4)) hl1, upd_same⟩
      · walk_at "ev"
        refine ite2 (fun c => ?_) (fun c => ?_)
        · walk_at "ev"
          w_cond _6
          walk_at "ev"
          w_cond _7
          have hB7 : SqL K H7 l6 (([4, 9, 6] : List Int).map V.int) := SqL.of (sm7 _ _ hq6)
          have hA7 : SqL K H7 l7 (([0, 0, 0] : List Int).map V.int) := SqL.of hq7
          walk_at "ev"
          refine ⟨fun hg => absurd hg not496, fun p hp hg hng d H3 hw => ?_⟩
          have ep := bad496 hp hng
          subst ep
          have hwd := hw.2.2
          have sm3 := sm6.trans (sm7.trans hw.2.1)
          refine ⟨true, ex.en, fun _ => ⟨CN, d, rfl, rfl, fun a ha => ?_⟩, fun z => nomatch z⟩
          have sm4 : Same H3 (upd H3 a (XOb CN d a)) := same_new ha
          have hx4 : XAt (upd H3 a (XOb CN d a)) a CN [(("what" : Str), .int (2 : Nat))] := ⟨d, upd_same, sm4 _ _ hwd⟩
          have ek := ex.rn.ek
          have nw := ex.rn.ek.nw
          have h14 := (sm3.trans sm4) _ _ h12
          walk_at "ev"
          exact .mk ⟨_, _, rfl, same_mut (sm2.trans (sm3.trans sm4)) hl1, upd_same⟩
        · walk_at "ev"
          w_cond _6
          walk_at "ev"
          w_cond _7
          have hA7 : SqL K H7 l6 (([0, 0, 0] : List Int).map V.int) := SqL.of (sm7 _ _ hq6)
          have hB7 : SqL K H7 l7 (([4, 9, 6] : List Int).map V.int) := SqL.of hq7
          walk_at "ev"
          refine ⟨fun hg => absurd hg not496, fun p hp hg hng d H3 hw => ?_⟩
          have ep := bad496 hp hng
          subst ep
          have hwd := hw.2.2
          have sm3 := sm6.trans (sm7.trans hw.2.1)
          refine ⟨true, ex.en, fun _ => ⟨CN, d, rfl, rfl, fun a ha => ?_⟩, fun z => nomatch z⟩
          have sm4 : Same H3 (upd H3 a (XOb CN d a)) := same_new ha
          have hx4 : XAt (upd H3 a (XOb CN d a)) a CN [(("what" : Str), .int (2 : Nat))] := ⟨d, upd_same, sm4 _ _ hwd⟩
          have ek := ex.rn.ek
          have nw := ex.rn.ek.nw
          have h14 := (sm3.trans sm4) _ _ h12
          walk_at "ev"
          exact .mk ⟨_, _, rfl, same_mut (sm2.trans (sm3.trans sm4)) hl1, upd_same⟩
    · intro σ H2 hP
      obtain ⟨s2, s3, rfl, sm2, h12⟩ := hP.un
      walk_at "ev"
      exact q _ _ hl1 sm2 h12
end
theorem dpi {K : PySem.W.Frag} {H : Hp} {a : Addr} {ns : List Int} (h : H a = some (.lst (ns.map V.int))) : Dp K H (.ref a) (.list (ns.map PyData.int)) := .lst (SqL.of h) (dp_ints ns)
theorem dvd_both {p y d : Int} (hp : p ∣ d) (hy : y ∣ d) (g : Int.gcd p y = 1) : p * y ∣ d := by
  obtain ⟨c, rfl⟩ := hp
  have h1 : y ∣ c := by
    have h2 : Nat.Coprime y.natAbs p.natAbs := by
      show Nat.gcd _ _ = 1
      rw [Nat.gcd_comm]
      exact g
    have h3 : y.natAbs ∣ p.natAbs * c.natAbs := by
      rw [← Int.natAbs_mul]
      exact Int.natAbs_dvd_natAbs.mpr hy
    exact Int.natAbs_dvd_natAbs.mp (h2.dvd_of_dvd_mul_left h3)
  exact Int.mul_dvd_mul (Int.dvd_refl p) h1
theorem small_dvd {m d : Int} (h : m ∣ d) (a : -m < d) (b : d < m) : d = 0 := by
  obtain ⟨c, rfl⟩ := h
  have hm : 0 < m := by omega
  by_cases c0 : c = 0
  · rw [c0, Int.mul_zero]
  · rcases Int.lt_or_gt_of_ne c0 with z | z
    · have := Int.mul_le_mul_of_nonneg_left (show c ≤ -1 by omega) (show 0 ≤ m by omega)
      rw [Int.mul_neg, Int.mul_one] at this
      omega
    · have := Int.mul_le_mul_of_nonneg_left (show 1 ≤ c by omega) (show 0 ≤ m by omega)
      rw [Int.mul_one] at this
      omega
theorem mod_dvd {a b m : Int} (h : a % m = b % m) : m ∣ a - b := Int.dvd_of_emod_eq_zero (Int.emod_eq_emod_iff_emod_sub_eq_zero.mp h)
/-- there is one number alone -/
theorem crt_dvd {bs : List Int} {r r' : Int} (hb : ∀ x ∈ bs, 1 ≤ x) : ∀ i : Nat, i ≤ bs.length → (∀ j < i, Good bs j) → (∀ j < i, r % bs.getD j 0 = r' % bs.getD j 0) → prd (bs.take i) ∣ r - r'
  | 0, _, _, _ => by
    show (1 : Int) ∣ _
    exact Int.one_dvd _
  | i + 1, hi, hg, ha => by
    obtain ⟨y, hy⟩ : ∃ y, bs[i]? = some y := ⟨_, List.getElem?_eq_getElem (by omega)⟩
    have eyi : bs.getD i 0 = y := by rw [List.getD_eq_getElem?_getD, hy]; rfl
    rw [prd_take hy]
    refine dvd_both (crt_dvd hb i (by omega) (fun j hj => hg j (by omega)) fun j hj => ha j (by omega)) ?_ ?_
    · have := ha i (by omega)
      rw [eyi] at this
      exact mod_dvd this
    · exact gcd_prd fun x hx => by rw [← eyi]; exact hg i (by omega) x hx
theorem Crt.uniq {rs bs : List Int} {r r' : Int} (hb : ∀ x ∈ bs, 1 ≤ x) (hg : ∀ i < bs.length, Good bs i) (h : Crt rs bs bs.length r) (k : Crt rs bs bs.length r') : r = r' := by
  have d := crt_dvd (r := r) (r' := r') hb bs.length (Nat.le_refl _) hg fun j hj => (h.at_ j hj).trans (k.at_ j hj).symm
  have h1 := h.hi
  have h2 := k.hi
  have h3 := h.lo
  have h4 := k.lo
  have := small_dvd d (by omega) (by omega)
  omega
theorem rough7 (p : Nat) (h : (List.range' 2 (p - 2)).all (fun d => decide (p % d ≠ 0)) = true) : Rough (p : Int) (p : Int) := by
  intro e e2 ep hd
  obtain ⟨k, hk⟩ := Int.eq_ofNat_of_zero_le (show 0 ≤ e by omega)
  subst hk
  have hk2 : k ∣ p := Int.natCast_dvd_natCast.mp hd
  have h1 := (List.all_eq_true.mp h) k (List.mem_range'_1.mpr ⟨by omega, by omega⟩)
  exact (of_decide_eq_true h1) (Nat.mod_eq_zero_of_dvd hk2)
theorem bases_rough : ∀ b ∈ bases7, 3 ≤ b ∧ b ≤ 9973 ∧ Rough b b := by
  intro p hp
  simp only [bases7, List.mem_cons, List.not_mem_nil, or_false] at hp
  rcases hp with z | z | z | z | z | z | z | z | z <;> rw [z]
  · exact ⟨by decide, by decide, rough7 3 (by decide +kernel)⟩
  · exact ⟨by decide, by decide, rough7 5 (by decide +kernel)⟩
  · exact ⟨by decide, by decide, rough7 7 (by decide +kernel)⟩
  · exact ⟨by decide, by decide, rough7 13 (by decide +kernel)⟩
  · exact ⟨by decide, by decide, rough7 97 (by decide +kernel)⟩
  · exact ⟨by decide, by decide, rough7 257 (by decide +kernel)⟩
  · exact ⟨by decide, by decide, rough7 2521 (by decide +kernel)⟩
  · exact ⟨by decide, by decide, rough7 7681 (by decide +kernel)⟩
  · exact ⟨by decide, by decide, rough7 9973 (by decide +kernel)⟩
theorem base_gcd {s b : Int} (h : Rough b b) (s1 : 1 ≤ s) (sb : s < b) : Int.gcd s b = 1 := by
  have d1 : ((Int.gcd s b : Nat) : Int) ∣ s := Int.gcd_dvd_left s b
  have d2 : ((Int.gcd s b : Nat) : Int) ∣ b := Int.gcd_dvd_right s b
  have l1 : ((Int.gcd s b : Nat) : Int) ≤ s := Int.le_of_dvd (by omega) d1
  have n0 : Int.gcd s b ≠ 0 := fun z => by
    rw [z] at d1
    have := Int.zero_dvd.mp d1
    omega
  by_cases c : Int.gcd s b = 1
  · exact c
  · exact absurd d2 (h _ (by omega) (by omega))
structure W7 (f s b : Int) : Prop where
  f1 : 1 ≤ f
  f6 : f ≤ 1000000
  s1 : 1 ≤ s
  sb : s < b
  hb : b ∈ bases7
structure R7 (f s b : Int) (pr : Bool) (fs ds : List Int) (tt gg iv jn : Int) : Prop where
  pr : pr = true ↔ ∃ n, V.int f = .int n ∧ Fac n [n]
  fac : Fac f fs
  dv : IsDv f ds
  tt : ∃ fs' out, Fac f fs' ∧ out.Pairwise (· < ·) ∧ (∀ k, k ∈ out ↔ k ∈ fs') ∧ tt = totF f out
  gg : ∃ fs' out, Fac (b - 1) fs' ∧ out.Pairwise (· < ·) ∧ (∀ k, k ∈ out ↔ k ∈ fs') ∧ LeastGen b gg (erl b out)
  i0 : 0 ≤ iv
  i1 : iv < b
  im : s * iv % b = 1
  jn : Crt [1, f % b] [2, b] 2 jn
abbrev D7 (f s : Int) (pr : Bool) (fs ds : List Int) (tt gg iv jn : Int) : PyData := .list [.bool pr, .list (fs.map PyData.int), .list (ds.map PyData.int), .bool (decide (Int.gcd f s = 1)), .int tt, .int gg, .int iv, .int jn]
theorem lg7 {p x y : Int} {es : List Int} (a : LeastGen p x es) (b : LeastGen p y es) : x = y := by
  obtain ⟨a1, a2, a3, a4⟩ := a
  obtain ⟨b1, b2, b3, b4⟩ := b
  rcases Int.lt_trichotomy x y with z | z | z
  · exact absurd a3 (b4 x a1 z)
  · exact z
  · exact absurd b3 (a4 y b1 z)
theorem iv7 {s b x y : Int} (x0 : 0 ≤ x) (x1 : x < b) (y0 : 0 ≤ y) (y1 : y < b) (hx : s * x % b = 1) (hy : s * y % b = 1) : x = y := by
  have e1 : x * (s * y) % b = x := by
    rw [Int.mul_emod, hy, Int.emod_eq_of_lt x0 x1, Int.mul_one, Int.emod_eq_of_lt x0 x1]
  have e2 : y * (s * x) % b = y := by
    rw [Int.mul_emod, hx, Int.emod_eq_of_lt y0 y1, Int.mul_one, Int.emod_eq_of_lt y0 y1]
  have e3 : x * (s * y) = y * (s * x) := by
    rw [Int.mul_left_comm, Int.mul_left_comm y, Int.mul_comm x y]
  rw [← e1, e3, e2]
theorem good7 {b : Int} (h : b ∈ bases7) : ∀ i < ([2, b] : List Int).length, Good [2, b] i := by
  obtain ⟨b3, _, hr⟩ := bases_rough b h
  intro i hi
  have : i = 0 ∨ i = 1 := by
    have : ([2, b] : List Int).length = 2 := rfl
    omega
  rcases this with z | z <;> subst z
  · intro a ha
    cases ha
  · intro a ha
    have e : a = 2 := List.mem_singleton.mp ha
    subst e
    show Int.gcd b 2 = 1
    rw [Int.gcd_comm]
    exact base_gcd hr (by decide) (by omega)
theorem crt7 {f b r r' : Int} (h : b ∈ bases7) (a : Crt [1, f % b] [2, b] 2 r) (c : Crt [1, f % b] [2, b] 2 r') : r = r' := by
  obtain ⟨b3, _, _⟩ := bases_rough b h
  refine Crt.uniq (rs := [1, f % b]) (bs := [2, b]) (fun x hx => ?_) (good7 h) a c
  simp only [List.mem_cons, List.not_mem_nil, or_false] at hx
  omega
theorem R7.uniq {f s b : Int} {pr pr' : Bool} {fs fs' ds ds' : List Int} {tt tt' gg gg' iv iv' jn jn' : Int} (w : W7 f s b) (a : R7 f s b pr fs ds tt gg iv jn) (c : R7 f s b pr' fs' ds' tt' gg' iv' jn') : D7 f s pr fs ds tt gg iv jn = D7 f s pr' fs' ds' tt' gg' iv' jn' := by
  have e1 : pr = pr' := by
    have := a.pr.trans c.pr.symm
    cases pr <;> cases pr' <;> simp_all
  have e2 := a.fac.uniq c.fac
  have e3 := a.dv.uniq c.dv
  obtain ⟨x1, o1, p1, p2, p3, p4⟩ := a.tt
  obtain ⟨x2, o2, q1, q2, q3, q4⟩ := c.tt
  have e4 : tt = tt' := by
    rw [p4, q4, srt_ext p2 q2 fun k => by rw [p3, q3, p1.uniq q1]]
  obtain ⟨y1, u1, r1, r2, r3, r4⟩ := a.gg
  obtain ⟨y2, u2, t1, t2, t3, t4⟩ := c.gg
  have eu : u1 = u2 := srt_ext r2 t2 fun k => by rw [r3, t3, r1.uniq t1]
  rw [eu] at r4
  have e5 := lg7 r4 t4
  have e6 := iv7 a.i0 a.i1 c.i0 c.i1 a.im c.im
  have e7 := crt7 w.hb a.jn c.jn
  rw [e1, e2, e3, e4, e5, e6, e7]
theorem totF_bd {n : Int} : ∀ (out : List Int) (t : Int), 0 ≤ t → t ≤ n → (∀ p ∈ out, 2 ≤ p) → 0 ≤ out.foldl (fun t p => t / p * (p - 1)) t ∧ out.foldl (fun t p => t / p * (p - 1)) t ≤ n
  | [], t, h0, h1, _ => ⟨h0, h1⟩
  | p :: r, t, h0, h1, h => by
    obtain ⟨a, b⟩ := tot_bound h0 h1 (h p List.mem_cons_self)
    exact totF_bd r _ a b fun q hq => h q (List.mem_cons_of_mem _ hq)
theorem srt_len {hi : Int} : ∀ (l : List Int) (lo : Int), l.Pairwise (· < ·) → (∀ x ∈ l, lo ≤ x ∧ x ≤ hi) → lo ≤ hi + 1 → (l.length : Int) ≤ hi - lo + 1
  | [], lo, _, _, h => by
    show (0 : Int) ≤ _
    omega
  | x :: r, lo, hp, hb, h => by
    have hx := hb x List.mem_cons_self
    have hr := List.pairwise_cons.mp hp
    have := srt_len r (x + 1) hr.2 (fun y hy => ⟨by have := hr.1 y hy; omega, (hb y (List.mem_cons_of_mem _ hy)).2⟩) (by omega)
    rw [List.length_cons]
    omega
theorem R7.lens {f s b : Int} {pr : Bool} {fs ds : List Int} {tt gg iv jn : Int} (w : W7 f s b) (a : R7 f s b pr fs ds tt gg iv jn) : fs.length ≤ 30 ∧ ds.length ≤ 1000000 := by
  have f1 := w.f1
  have f6 := w.f6
  refine ⟨a.fac.len (by omega), ?_⟩
  have := srt_len (hi := f) ds 1 a.dv.1 (fun x hx => ⟨((a.dv.2 x).mp hx).1, Int.le_of_dvd (by omega) ((a.dv.2 x).mp hx).2⟩) (by omega)
  omega
theorem R7.shn {f s b : Int} {pr : Bool} {fs ds : List Int} {tt gg iv jn : Int} (w : W7 f s b) (a : R7 f s b pr fs ds tt gg iv jn) : Shn (D7 f s pr fs ds tt gg iv jn) := by
  have f1 := w.f1
  have f6 := w.f6
  obtain ⟨b3, b9, _⟩ := bases_rough b w.hb
  obtain ⟨l1, l2⟩ := a.lens w
  obtain ⟨a1, a2, a3⟩ := dw_ints (ns := fs) fun x hx => ⟨by have := (a.fac.primes x hx).1; omega, by have := a.fac.le x hx; omega⟩
  obtain ⟨c1, c2, c3⟩ := dw_ints (ns := ds) fun x hx => ⟨by have := ((a.dv.2 x).mp hx).1; omega, by have := Int.le_of_dvd (by omega) ((a.dv.2 x).mp hx).2; omega⟩
  have ht : 0 ≤ tt ∧ tt ≤ f := by
    obtain ⟨x1, o1, p1, p2, p3, p4⟩ := a.tt
    rw [p4]
    exact totF_bd o1 f (by omega) (by omega) fun p hp => (p1.primes p ((p3 p).mp hp)).1
  have hg : 1 ≤ gg ∧ gg < b := by
    obtain ⟨_, _, _, _, _, g1, g2, _⟩ := a.gg
    exact ⟨g1, g2⟩
  have i0 := a.i0
  have i1 := a.i1
  have j0 := a.jn.lo
  have j1 : jn < prd [2, b] := a.jn.hi
  rw [prd_cons, prd_cons] at j1
  have p0 : prd [] = 1 := rfl
  rw [p0] at j1
  obtain ⟨t1, t2, t3⟩ := dw_ints (ns := [tt, gg, iv, jn]) fun x hx => by
    simp only [List.mem_cons, List.not_mem_nil, or_false] at hx
    rcases hx with z | z | z | z <;> subst z <;> omega
  have hz : sizeLine = 16777216 := by decide
  have eb : ∀ x : Bool, (PyData.shown (.bool x)).length ≤ 5 := by
    intro x
    cases x <;> decide
  have db : ∀ x : Bool, dw (.bool x) = (PyData.shown (.bool x)).length := fun x => by rw [dw] <;> nofun
  have e1 := eb pr
  have e2 := eb (decide (Int.gcd f s = 1))
  rw [← db] at e1 e2
  simp only [List.map_cons, List.map_nil] at t1 t2 t3
  have t2' : dwAll [PyData.int tt, .int gg, .int iv, .int jn] ≤ 60 := t2
  refine ⟨?_, ?_, ?_⟩
  · rw [PyData.showable, PyData.showableAll, PyData.showableAll, PyData.showableAll, PyData.showableAll, t1, PyData.showable, PyData.showable, PyData.showable, PyData.showable, a1, c1]
    rfl
  · rw [dw, dwAll, dwAll, dwAll, dwAll, dw, dw]
    omega
  · rw [PyData.depth, PyData.depthAll, PyData.depthAll, PyData.depthAll, PyData.depthAll, t3, PyData.depth, PyData.depth, PyData.depth, PyData.depth, a3, c3]
    decide
def spBy (K : PySem.W.Frag) : Sp := fun vs H Q _ => ∃ (t : Addr) (x y b : Int), vs = [.ref t] ∧ SqT K H t [.int x, .int y, .int b] ∧ W7 x y b ∧ ∀ p l1 l2 H' pr fs ds tt gg iv jn, R7 x y b pr fs ds tt gg iv jn → H p = none → H l1 = none → H l2 = none → Same H H' → H' p = some (.lst [.bl pr, .ref l1, .ref l2, .bl (decide (Int.gcd x y = 1)), .int tt, .int gg, .int iv, .int jn]) → H' l1 = some (.lst (fs.map V.int)) → H' l2 = some (.lst (ds.map V.int)) → Q (.ref p) H'
structure G7 (P : Program) (w : World) (K : PySem.W.Frag) (mg : Str → Option Value) (base : Heap) (f1 f2 f3 f4 f5 f6 f7 f8 : Addr) (d1 d2 d3 d4 d5 d6 d7 d8 : FuncData) (CI CN : Addr) : Prop where
  g1 : FnOk P w K mg base CX0 2 f1 d1 P_is_prime (spPrime K)
  g2 : FnOk P w K mg base CX0 1 f2 d2 P_factors spFactors
  g3 : FnOk P w K mg base CX0 1 f3 d3 P_divisors spDiv
  g4 : FnOk P w K mg base CX0 1 f4 d4 P_are_coprime spCop
  g5 : FnOk P w K mg base CX0 2 f5 d5 P_totient spTot
  g6 : FnOk P w K mg base CX0 2 f6 d6 P_generator spGen
  g7 : FnOk P w K mg base (L2.CX P w) 3 f7 d7 P_inverse (spInv CI)
  g8 : FnOk P w K mg base (L2.CX P w) 4 f8 d8 P_joined (spJoinL K CN)
abbrev s__law_by_places : Stmt := top 20
abbrev N__law_by_places : List Str := ["_law_world", "_law_first", "_law_second", "_law_base", "_law_found"]
abbrev P__law_by_places : List Str := ["_law_world"]
theorem sc__law_by_places : FnScope N__law_by_places P__law_by_places (defScope s__law_by_places) := ⟨rfl, rfl, rfl, by decide +kernel, rfl, by decide +kernel, by decide +kernel⟩
section
variable {P : Program} {w : World} {K : PySem.W.Frag} {mg : Str → Option Value} {base : Heap}
theorem ok__law_by_places {f f1 f2 f3 f4 f5 f6 f7 f8 fI CT CI CN : Addr} {fd d1 d2 d3 d4 d5 d6 d7 d8 fdI : FuncData} (F : Fun K "_law_by_places" "_law_by_places" s__law_by_places f fd) (T : Blt mg)
    (D_is_prime : Df K mg "is_prime" s_is_prime P_is_prime f1 d1) (D_factors : Df K mg "factors" s_factors P_factors f2 d2) (D_divisors : Df K mg "divisors" s_divisors P_divisors f3 d3) (D_are_coprime : Df K mg "are_coprime" s_are_coprime P_are_coprime f4 d4) (D_totient : Df K mg "totient" s_totient P_totient f5 d5) (D_generator : Df K mg "generator" s_generator P_generator f6 d6) (D_inverse : Df K mg "inverse" s_inverse P_inverse f7 d7) (D_joined : Df K mg "joined" s_joined P_joined f8 d8)
    (G : G7 P w K mg base f1 f2 f3 f4 f5 f6 f7 f8 d1 d2 d3 d4 d5 d6 d7 d8 CI CN) : FnOk P w K mg base CX0 5 f fd P__law_by_places (spBy K) := by
  have nd := sc__law_by_places.nd
  obtain ⟨G_is_prime, G_factors, G_divisors, G_are_coprime, G_totient, G_generator, G_inverse, G_joined⟩ := G
  have KB_is_prime := kb_is_prime D_is_prime.F
  have KB_factors := kb_factors D_factors.F
  have KB_divisors := kb_divisors D_divisors.F
  have KB_are_coprime := kb_are_coprime D_are_coprime.F
  have KB_totient := kb_totient D_totient.F
  have KB_generator := kb_generator D_generator.F
  have KB_inverse := kb_inverse D_inverse.F
  have KB_joined := kb_joined D_joined.F
  refine F.ok sc__law_by_places (fun vs H Q E h => ?_) (fun cdv A outer s H vs Q E hr h => ?_)
  · obtain ⟨t, x, y, b, rfl, _⟩ := h
    rfl
  · obtain ⟨t, x, y, b, rfl, hT, w7, q⟩ := h
    obtain ⟨x1, x6, y1, yb, hbb⟩ := id w7
    obtain ⟨b3, b9, hro⟩ := bases_rough b hbb
    have hgc := base_gcd hro y1 yb
    obtain ⟨tfs, tout, th1, th2, th3, th4⟩ := pf_ex (n := x) x1
    have x0 : 0 ≤ x := by omega
    have y0 : 0 ≤ y := by omega
    have kx : Kd K H (.int x) "int" := .int x
    have kn : ∀ n, V.int x = .int n → n ≤ 1000000000 := fun n e => by
      cases e
      omega
    refine ⟨_, (pss_cons (ps_asg (pv 0) (pg_tup (by rfl) (pgs_cons (pg_name (i := 1) nd rfl (Or.inl rfl)) (pgs_cons (pg_name (i := 2) nd rfl (Or.inl rfl)) (pgs_cons (pg_name (i := 3) nd rfl (Or.inl rfl)) pgs_nil)))))
      (pss_cons (ps_set (i := 4) nd rfl (Or.inl rfl) (pe_lst (pa_cons (pe_call G_is_prime (hr.mono (by omega)) (by rfl) D_is_prime.g D_is_prime.F.kp D_is_prime.b .nil pass0 (pa_cons (pv 1) pa_nil)) (pa_cons (pe_call G_factors (hr.mono (by omega)) (by rfl) D_factors.g D_factors.F.kp D_factors.b .nil pass0 (pa_cons (pv 1) pa_nil)) (pa_cons (pe_call G_divisors (hr.mono (by omega)) (by rfl) D_divisors.g D_divisors.F.kp D_divisors.b .nil pass0 (pa_cons (pv 1) pa_nil)) (pa_cons (pe_call G_are_coprime (hr.mono (by omega)) (by rfl) D_are_coprime.g D_are_coprime.F.kp D_are_coprime.b .nil pass0 (pa_cons (pv 1) (pa_cons (pv 2) pa_nil))) (pa_cons (pe_call G_totient (hr.mono (by omega)) (by rfl) D_totient.g D_totient.F.kp D_totient.b .nil pass0 (pa_cons (pv 1) pa_nil)) pa_nil)))))))
      (pss_one (ps_ret (pe_op op_cat (pv 4) (pe_lst (pa_cons (pe_call G_generator (hr.mono (by omega)) (by rfl) D_generator.g D_generator.F.kp D_generator.b .nil pass0 (pa_cons (pv 3) pa_nil)) (pa_cons (pe_call G_inverse (hr.mono (by omega)) (by rfl) D_inverse.g D_inverse.F.kp D_inverse.b .nil passL (pa_cons (pv 2) (pa_cons (pv 3) pa_nil))) (pa_cons (pe_call G_joined (hr.mono (by omega)) (by rfl) D_joined.g D_joined.F.kp D_joined.b .nil passL (pa_cons (pe_lst (pa_cons (pe_int) (pa_cons (pe_op op_mod (pv 1) (pv 3)) pa_nil))) (pa_cons (pe_lst (pa_cons (pe_int) (pa_cons (pv 3) pa_nil))) pa_nil))) pa_nil))))))))), ?_⟩
    walk_at "ev"
    intro pr H1 sm1 hpr
    walk_at "ev"
    intro fs l2 H2 hfs hl2 sm2 hq2
    have e2 := th1.uniq hfs
    subst e2
    walk_at "ev"
    intro ds l3 H3 hds hl3 sm3 hq3
    walk_at "ev"
    intro H4 sm4
    obtain ⟨gb2, gb6, gfs, gout, g0, gh1, gh2, gh3, gh4, gh5, gh6, gh7⟩ := b7_all b hbb
    walk_at "ev"
    w_cond _5
    walk_at "ev"
    intro gg H6 sm6 hlg
    walk_at "ev"
    refine ⟨fun _ iv i0 i1 im H7 sm7 => ?_, fun c => absurd hgc c⟩
    walk_at "ev"
    w_cond _8
    walk_at "ev"
    w_cond _9
    have hA : SqL K H9 l8 (([1, x % b] : List Int).map V.int) := SqL.of (sm9 _ _ hq8)
    have hB : SqL K H9 l9 (([2, b] : List Int).map V.int) := SqL.of hq9
    have hbs : ∀ z ∈ ([2, b] : List Int), 1 ≤ z ∧ z ≤ 1000000 := by
      intro z hz
      simp only [List.mem_cons, List.not_mem_nil, or_false] at hz
      omega
    have hrs : ∀ i < ([2, b] : List Int).length, 0 ≤ ([1, x % b] : List Int).getD i 0 ∧ ([1, x % b] : List Int).getD i 0 < ([2, b] : List Int).getD i 0 := by
      intro i hi
      have : i = 0 ∨ i = 1 := by
        have : ([2, b] : List Int).length = 2 := rfl
        omega
      rcases this with z | z <;> subst z
      · show (0 : Int) ≤ 1 ∧ (1 : Int) < 2
        decide
      · exact ⟨Int.emod_nonneg _ (by omega), Int.emod_lt_of_pos _ (by omega)⟩
    have hll : ([1, x % b] : List Int).length = ([2, b] : List Int).length := rfl
    have hl9 : ([2, b] : List Int).length ≤ 1000 := by show 2 ≤ 1000; decide
    have hgood := good7 hbb
    walk_at "ev"
    refine ⟨fun _ jn H10 hcr sm10 => ?_, fun p hp hg hng => absurd (hgood p hp) hng⟩
    walk_at "ev"
    w_cond _11
    have s511 := sm6.trans (sm7.trans (sm8.trans (sm9.trans (sm10.trans sm11))))
    have h511 := s511 _ _ hq5
    walk_at "ev"
    w_cond _12
    have s012 := sm1.trans (sm2.trans (sm3.trans (sm4.trans (sm5.trans (s511.trans sm12)))))
    exact q l12 l2 l3 H12 pr tfs ds _ gg iv jn ⟨hpr, hfs, hds, ⟨_, _, hfs, th2, th3, rfl⟩, ⟨_, _, gh1, gh2, gh3, hlg⟩, i0, i1, im, hcr⟩ ((sm1.trans (sm2.trans (sm3.trans (sm4.trans (sm5.trans s511))))).free hl12) (sm1.free hl2) ((sm1.trans sm2).free hl3) s012 hq12 ((sm3.trans (sm4.trans (sm5.trans (s511.trans sm12)))) _ _ hq2) ((sm4.trans (sm5.trans (s511.trans sm12))) _ _ hq3)
end
abbrev s__law_by_names : Stmt := top 21
abbrev N__law_by_names : List Str := ["_law_world", "_law_first", "_law_second", "_law_base", "_law_found"]
abbrev P__law_by_names : List Str := ["_law_world"]
theorem sc__law_by_names : FnScope N__law_by_names P__law_by_names (defScope s__law_by_names) := ⟨rfl, rfl, rfl, by decide +kernel, rfl, by decide +kernel, by decide +kernel⟩
section
variable {P : Program} {w : World} {K : PySem.W.Frag} {mg : Str → Option Value} {base : Heap}
theorem ok__law_by_names {f f1 f2 f3 f4 f5 f6 f7 f8 fI CT CI CN : Addr} {fd d1 d2 d3 d4 d5 d6 d7 d8 fdI : FuncData} (F : Fun K "_law_by_names" "_law_by_names" s__law_by_names f fd) (T : Blt mg)
    (D_is_prime : Df K mg "is_prime" s_is_prime P_is_prime f1 d1) (D_factors : Df K mg "factors" s_factors P_factors f2 d2) (D_divisors : Df K mg "divisors" s_divisors P_divisors f3 d3) (D_are_coprime : Df K mg "are_coprime" s_are_coprime P_are_coprime f4 d4) (D_totient : Df K mg "totient" s_totient P_totient f5 d5) (D_generator : Df K mg "generator" s_generator P_generator f6 d6) (D_inverse : Df K mg "inverse" s_inverse P_inverse f7 d7) (D_joined : Df K mg "joined" s_joined P_joined f8 d8)
    (G : G7 P w K mg base f1 f2 f3 f4 f5 f6 f7 f8 d1 d2 d3 d4 d5 d6 d7 d8 CI CN) : FnOk P w K mg base CX0 5 f fd P__law_by_names (spBy K) := by
  have nd := sc__law_by_names.nd
  obtain ⟨G_is_prime, G_factors, G_divisors, G_are_coprime, G_totient, G_generator, G_inverse, G_joined⟩ := G
  have KB_is_prime := kb_is_prime D_is_prime.F
  have KB_factors := kb_factors D_factors.F
  have KB_divisors := kb_divisors D_divisors.F
  have KB_are_coprime := kb_are_coprime D_are_coprime.F
  have KB_totient := kb_totient D_totient.F
  have KB_generator := kb_generator D_generator.F
  have KB_inverse := kb_inverse D_inverse.F
  have KB_joined := kb_joined D_joined.F
  refine F.ok sc__law_by_names (fun vs H Q E h => ?_) (fun cdv A outer s H vs Q E hr h => ?_)
  · obtain ⟨t, x, y, b, rfl, _⟩ := h
    rfl
  · obtain ⟨t, x, y, b, rfl, hT, w7, q⟩ := h
    obtain ⟨x1, x6, y1, yb, hbb⟩ := id w7
    obtain ⟨b3, b9, hro⟩ := bases_rough b hbb
    have hgc := base_gcd hro y1 yb
    obtain ⟨tfs, tout, th1, th2, th3, th4⟩ := pf_ex (n := x) x1
    have x0 : 0 ≤ x := by omega
    have y0 : 0 ≤ y := by omega
    have kx : Kd K H (.int x) "int" := .int x
    have kn : ∀ n, V.int x = .int n → n ≤ 1000000000 := fun n e => by
      cases e
      omega
    refine ⟨_, (pss_cons (ps_asg (pv 0) (pg_tup (by rfl) (pgs_cons (pg_name (i := 1) nd rfl (Or.inl rfl)) (pgs_cons (pg_name (i := 2) nd rfl (Or.inl rfl)) (pgs_cons (pg_name (i := 3) nd rfl (Or.inl rfl)) pgs_nil)))))
      (pss_cons (ps_set (i := 4) nd rfl (Or.inl rfl) (pe_lst (pa_cons (pe_callK0 G_is_prime (hr.mono (by omega)) (by rfl) D_is_prime.g D_is_prime.F.kp KB_is_prime pass0 (pk_cons (pv 1) pk_nil)) (pa_cons (pe_callK0 G_factors (hr.mono (by omega)) (by rfl) D_factors.g D_factors.F.kp KB_factors pass0 (pk_cons (pv 1) pk_nil)) (pa_cons (pe_callK0 G_divisors (hr.mono (by omega)) (by rfl) D_divisors.g D_divisors.F.kp KB_divisors pass0 (pk_cons (pv 1) pk_nil)) pa_nil)))))
      (pss_cons (ps_set (i := 4) nd rfl (Or.inl rfl) (pe_op op_cat (pv 4) (pe_lst (pa_cons (pe_callK0 G_are_coprime (hr.mono (by omega)) (by rfl) D_are_coprime.g D_are_coprime.F.kp KB_are_coprime pass0 (pk_cons (pv 2) (pk_cons (pv 1) pk_nil))) (pa_cons (pe_callK0 G_totient (hr.mono (by omega)) (by rfl) D_totient.g D_totient.F.kp KB_totient pass0 (pk_cons (pv 1) pk_nil)) (pa_cons (pe_callK0 G_generator (hr.mono (by omega)) (by rfl) D_generator.g D_generator.F.kp KB_generator pass0 (pk_cons (pv 3) pk_nil)) pa_nil))))))
      (pss_one (ps_ret (pe_op op_cat (pv 4) (pe_lst (pa_cons (pe_callK0 G_inverse (hr.mono (by omega)) (by rfl) D_inverse.g D_inverse.F.kp KB_inverse passL (pk_cons (pv 3) (pk_cons (pv 2) pk_nil))) (pa_cons (pe_callK0 G_joined (hr.mono (by omega)) (by rfl) D_joined.g D_joined.F.kp KB_joined passL (pk_cons (pe_lst (pa_cons (pe_int) (pa_cons (pv 3) pa_nil))) (pk_cons (pe_lst (pa_cons (pe_int) (pa_cons (pe_op op_mod (pv 1) (pv 3)) pa_nil))) pk_nil))) pa_nil))))))))), ?_⟩
    walk_at "ev"
    intro pr H1 sm1 hpr
    walk_at "ev"
    intro fs l2 H2 hfs hl2 sm2 hq2
    have e2 := th1.uniq hfs
    subst e2
    walk_at "ev"
    intro ds l3 H3 hds hl3 sm3 hq3
    walk_at "ev"
    w_cond _4
    walk_at "ev"
    intro H5 sm5
    obtain ⟨gb2, gb6, gfs, gout, g0, gh1, gh2, gh3, gh4, gh5, gh6, gh7⟩ := b7_all b hbb
    walk_at "ev"
    intro gg H6 sm6 hlg
    walk_at "ev"
    w_cond _7
    have h47 := (sm5.trans (sm6.trans sm7)) _ _ hq4
    walk_at "ev"
    w_cond _8
    walk_at "ev"
    refine ⟨fun _ iv i0 i1 im H9 sm9 => ?_, fun c => absurd hgc c⟩
    walk_at "ev"
    w_cond _10
    walk_at "ev"
    w_cond _11
    have hA : SqL K H11 l11 (([1, x % b] : List Int).map V.int) := SqL.of hq11
    have hB : SqL K H11 l10 (([2, b] : List Int).map V.int) := SqL.of (sm11 _ _ hq10)
    have hbs : ∀ z ∈ ([2, b] : List Int), 1 ≤ z ∧ z ≤ 1000000 := by
      intro z hz
      simp only [List.mem_cons, List.not_mem_nil, or_false] at hz
      omega
    have hrs : ∀ i < ([2, b] : List Int).length, 0 ≤ ([1, x % b] : List Int).getD i 0 ∧ ([1, x % b] : List Int).getD i 0 < ([2, b] : List Int).getD i 0 := by
      intro i hi
      have : i = 0 ∨ i = 1 := by
        have : ([2, b] : List Int).length = 2 := rfl
        omega
      rcases this with z | z <;> subst z
      · show (0 : Int) ≤ 1 ∧ (1 : Int) < 2
        decide
      · exact ⟨Int.emod_nonneg _ (by omega), Int.emod_lt_of_pos _ (by omega)⟩
    have hll : ([1, x % b] : List Int).length = ([2, b] : List Int).length := rfl
    have hl9 : ([2, b] : List Int).length ≤ 1000 := by show 2 ≤ 1000; decide
    have hgood := good7 hbb
    walk_at "ev"
    refine ⟨fun _ jn H12 hcr sm12 => ?_, fun p hp hg hng => absurd (hgood p hp) hng⟩
    walk_at "ev"
    w_cond _13
    have s813 := sm9.trans (sm10.trans (sm11.trans (sm12.trans sm13)))
    have h813 := s813 _ _ hq8
    walk_at "ev"
    w_cond _14
    have s414 := sm5.trans (sm6.trans (sm7.trans (sm8.trans (s813.trans sm14))))
    exact q l14 l2 l3 H14 pr tfs ds _ gg iv jn ⟨hpr, hfs, hds, ⟨_, _, hfs, th2, th3, rfl⟩, ⟨_, _, gh1, gh2, gh3, hlg⟩, i0, i1, im, hcr⟩ ((sm1.trans (sm2.trans (sm3.trans (sm4.trans (sm5.trans (sm6.trans (sm7.trans (sm8.trans s813)))))))).free hl14) (sm1.free hl2) ((sm1.trans sm2).free hl3) (sm1.trans (sm2.trans (sm3.trans (sm4.trans s414)))) hq14 ((sm3.trans (sm4.trans s414)) _ _ hq2) ((sm4.trans s414) _ _ hq3)
end
abbrev s_law : Stmt := top 23
abbrev N_law : List Str := ["_law_script", "_law_k", "_law_box_here", "_law_worlds", "_law_turn", "_law_base", "_law_first", "_law_dues", "_law_at", "_law_found", "_law_told", "_law_row", "_law_world"]
abbrev P_law : List Str := ["_law_script"]
theorem sc_law : FnScope N_law P_law (defScope s_law) := ⟨rfl, rfl, rfl, by decide +kernel, rfl, by decide +kernel, by decide +kernel⟩
def spLaw (K : PySem.W.Frag) : Sp := fun vs H Q _ => ∃ (a : Addr) (ns : List Int), vs = [.ref a] ∧ SqL K H a (ns.map V.int) ∧ ns.length ≤ 63 ∧ ∀ H', Q (.bl true) H'
structure Fns (P : Program) (w : World) (K : PySem.W.Frag) (mg : Str → Option Value) (base : Heap) : Prop where
  x0 : ∃ f fd, Df K mg "is_whole" s_is_whole P_is_whole f fd
  x1 : ∃ f fd, Df K mg "is_prime" s_is_prime P_is_prime f fd
  x2 : ∃ f fd, Df K mg "factors" s_factors P_factors f fd
  x3 : ∃ f fd, Df K mg "divisors" s_divisors P_divisors f fd
  x4 : ∃ f fd, Df K mg "are_coprime" s_are_coprime P_are_coprime f fd
  x5 : ∃ f fd, Df K mg "inverse" s_inverse P_inverse f fd
  x6 : ∃ f fd, Df K mg "totient" s_totient P_totient f fd
  x7 : ∃ f fd, Df K mg "power_rest" s_power_rest P_power_rest f fd
  x8 : ∃ f fd, Df K mg "generator" s_generator P_generator f fd
  x9 : ∃ f fd, Df K mg "check_coprime" s_check_coprime P_check_coprime f fd
  x10 : ∃ f fd, Df K mg "joined" s_joined P_joined f fd
  x11 : ∃ f fd, Df K mg "_law_box" s__law_box P__law_box f fd
  x12 : ∃ f fd, Df K mg "_law_take" s__law_take P__law_take f fd
  x13 : ∃ f fd, Df K mg "_law_pick" s__law_pick P__law_pick f fd
  x14 : ∃ f fd, Df K mg "_law_by_places" s__law_by_places P__law_by_places f fd
  x15 : ∃ f fd, Df K mg "_law_by_names" s__law_by_names P__law_by_names f fd
  x16 : ∃ f fd, Df K mg "_law_refused" s__law_refused P__law_refused f fd
/-- a world of the law's own, and the text that is due -/
def WAt (H : Hp) (v : V) (g : Int × Int × Int) : Prop := ∃ t, v = .ref t ∧ H t = some (.tup [.int g.1, .int g.2.1, .int g.2.2]) ∧ W7 g.1 g.2.1 g.2.2
def DueOk (g : Int × Int × Int) (v : V) : Prop := ∃ pr fs ds tt gg iv jn, R7 g.1 g.2.1 g.2.2 pr fs ds tt gg iv jn ∧ v = .str (D7 g.1 g.2.1 pr fs ds tt gg iv jn).shown
theorem WAt.same {H H' : Hp} {v : V} {g : Int × Int × Int} (e : Same H H') (h : WAt H v g) : WAt H' v g := by
  obtain ⟨t, h1, h2, h3⟩ := h
  exact ⟨t, h1, e _ _ h2, h3⟩
theorem ne_box {H : Hp} {b t : Addr} {n : Int} {xs : List V} (hb : BoxAt H b n) (h : H t = some (.tup xs)) : t ≠ b := by
  obtain ⟨_, _, _, hq, _⟩ := hb
  intro e
  rw [e] at h
  rw [h] at hq
  cases hq
theorem WAt.keep {H H' : Hp} {b : Addr} {n : Int} {v : V} {g : Int × Int × Int} (hb : BoxAt H b n) (e : Keep b H H') (h : WAt H v g) : WAt H' v g := by
  obtain ⟨t, h1, h2, h3⟩ := h
  exact ⟨t, h1, e _ _ (ne_box hb h2) h2, h3⟩
theorem WAt.upd {H : Hp} {l : Addr} {xs ys : List V} {v : V} {g : Int × Int × Int} (hl : H l = some (.lst xs)) (h : WAt H v g) : WAt (upd H l (.lst ys)) v g := by
  obtain ⟨t, h1, h2, h3⟩ := h
  refine ⟨t, h1, ?_, h3⟩
  rw [upd_ne]
  · exact h2
  · intro e
    rw [e, hl] at h2
    cases h2
theorem in7 {v : V} (h : v ∈ [V.int 3, V.int 5, V.int 7, V.int 13, V.int 97, V.int 257, V.int 2521, V.int 7681, V.int 9973]) : ∃ b, v = .int b ∧ b ∈ bases7 := by
  simp only [List.mem_cons, List.not_mem_nil, or_false] at h
  rcases h with z | z | z | z | z | z | z | z | z <;> exact ⟨_, z, by decide⟩
theorem inf7 {v : V} {r s t : Int} (h : v ∈ [V.int 1, V.int (1 + r), V.int (1 + s), V.int t, V.int 720720]) (r0 : 0 ≤ r) (r1 : r < 400) (s0 : 0 ≤ s) (s1 : s < 1000000) (ht : t = 1000000) : ∃ f, v = .int f ∧ 1 ≤ f ∧ f ≤ 1000000 := by
  simp only [List.mem_cons, List.not_mem_nil, or_false] at h
  rcases h with z | z | z | z | z
  · exact ⟨_, z, by omega, by omega⟩
  · exact ⟨_, z, by omega, by omega⟩
  · exact ⟨_, z, by omega, by omega⟩
  · exact ⟨_, z, by omega, by omega⟩
  · exact ⟨_, z, by omega, by omega⟩
theorem d7dp {K : PySem.W.Frag} {H : Hp} {p l1 l2 : Addr} {x y : Int} {pr : Bool} {fs ds : List Int} {tt gg iv jn : Int} (h : H p = some (.lst [.bl pr, .ref l1, .ref l2, .bl (decide (Int.gcd x y = 1)), .int tt, .int gg, .int iv, .int jn])) (h1 : H l1 = some (.lst (fs.map V.int))) (h2 : H l2 = some (.lst (ds.map V.int))) : Dp K H (.ref p) (D7 x y pr fs ds tt gg iv jn) :=
  .lst (SqL.of h) (.cons (.bl _) (.cons (dpi h1) (.cons (dpi h2) (.cons (.bl _) (.cons (.int _) (.cons (.int _) (.cons (.int _) (.cons (.int _) .nil))))))))
section
variable {P : Program} {w : World} {K : PySem.W.Frag} {mg : Str → Option Value} {base : Heap}
theorem ok_law {f fI CT CI CN : Addr} {fd fdI : FuncData} (F : Fun K "law" "law" s_law f fd) (T : Blt mg) (U : Fns P w K mg base) (ex : Ex7 K mg fI fdI CT CI CN) : FnG P w K mg base CX0 6 f fd P_law (spLaw K) := by
  obtain ⟨⟨f0, d0, D_is_whole⟩, ⟨f1, d1, D_is_prime⟩, ⟨f2, d2, D_factors⟩, ⟨f3, d3, D_divisors⟩, ⟨f4, d4, D_are_coprime⟩, ⟨f5, d5, D_inverse⟩, ⟨f6, d6, D_totient⟩, ⟨f7, d7, D_power_rest⟩, ⟨f8, d8, D_generator⟩, ⟨f9, d9, D_check_coprime⟩, ⟨f10, d10, D_joined⟩, ⟨f11, d11, D__law_box⟩, ⟨f12, d12, D__law_take⟩, ⟨f13, d13, D__law_pick⟩, ⟨f14, d14, D__law_by_places⟩, ⟨f15, d15, D__law_by_names⟩, ⟨f16, d16, D__law_refused⟩⟩ := U
  have G__law_box : FnOk P w K mg base CX0 1 f11 d11 P__law_box (spBox K) := ok_box D__law_box.F T
  have G__law_take : FnOk P w K mg base CX0 1 f12 d12 P__law_take spTake := ok_take D__law_take.F
  have G__law_pick : FnOk P w K mg base CX0 2 f13 d13 P__law_pick (spPick K) := ok_pick D__law_pick.F T D__law_take
  have g7 : FnOk P w K mg base (L2.CX P w) 3 f5 d5 P_inverse (spInv CI) := ok_inverse (k := 0) D_inverse.F ex.x.F ex.x.b ex.x.ty ex.ri ex.mi
  have g8 : FnOk P w K mg base (L2.CX P w) 4 f10 d10 P_joined (spJoinL K CN) := ok_joinL (k := 0) D_joined.F T D_are_coprime D_check_coprime D_inverse ex.x ex.rn ex.mn ex.ri ex.mi
  have gs : G7 P w K mg base f1 f2 f3 f4 f6 f8 f5 f10 d1 d2 d3 d4 d6 d8 d5 d10 CI CN := ⟨ok_prime (k := 0) D_is_prime.F T D_is_whole D_factors, ok_factors D_factors.F, ok_divisors D_divisors.F T, ok_coprime D_are_coprime.F, ok_totient (k := 0) D_totient.F T D_factors, ok_generator (k := 0) D_generator.F T D_factors D_power_rest, g7, g8⟩
  have G__law_by_places : FnOk P w K mg base CX0 5 f14 d14 P__law_by_places (spBy K) := ok__law_by_places (fI := fI) (CT := CT) (fdI := fdI) D__law_by_places.F T D_is_prime D_factors D_divisors D_are_coprime D_totient D_generator D_inverse D_joined gs
  have G__law_by_names : FnOk P w K mg base CX0 5 f15 d15 P__law_by_names (spBy K) := ok__law_by_names (fI := fI) (CT := CT) (fdI := fdI) D__law_by_names.F T D_is_prime D_factors D_divisors D_are_coprime D_totient D_generator D_inverse D_joined gs
  have G__law_refused : FnOk P w K mg base CX0 5 f16 d16 P__law_refused spRef7 := ok_ref7 (k := 0) D__law_refused.F T D_inverse D_joined g7 g8 ex
  have nd := sc_law.nd
  refine okG F sc_law (fun vs H Q E h => ?_) (fun cdv A outer s H vs Q E hgd hr h => ?_)
  · obtain ⟨a, ns, rfl, _⟩ := h
    rfl
  · obtain ⟨a, ns, rfl, hS, hlen, q⟩ := h
    refine ⟨_, (pss_cons (ps_for PassesOwn.never rfl (pi_range1 (by rfl) T.b_range (pa_cons (pe_callB (call_max2 rfl) (by rfl) T.b_max (by decide +kernel) (pa_cons (pe_int) (pa_cons (pe_callB (call_min2 rfl) (by rfl) T.b_min (by decide +kernel) (pa_cons (pe_int) (pa_cons (pe_callB (r := rLenQ K) call_len_seq (by rfl) T.b_len (by decide +kernel) (pa_cons (pv 0) pa_nil)) pa_nil))) pa_nil))) pa_nil)) (pg_name (i := 1) nd rfl (Or.inl rfl))
      (pss_cons (ps_set (i := 2) nd rfl (Or.inl rfl) (pe_call G__law_box (hr.mono (by omega)) (by rfl) D__law_box.g D__law_box.F.kp D__law_box.b .nil pass0 (pa_cons (pv 0) (pa_cons (pv 1) pa_nil))))
      (pss_cons (ps_set (i := 3) nd rfl (Or.inl rfl) (pe_lst pa_nil))
      (pss_cons (ps_for PassesOwn.never rfl (pi_range1 (by rfl) T.b_range (pa_cons (pe_int) pa_nil)) (pg_name (i := 4) nd rfl (Or.inl rfl))
      (pss_cons (ps_set (i := 5) nd rfl (Or.inl rfl) (pe_call G__law_pick (hr.mono (by omega)) (by rfl) D__law_pick.g D__law_pick.F.kp D__law_pick.b .nil pass0 (pa_cons (pv 2) (pa_cons (pe_lst (pa_cons (pe_int) (pa_cons (pe_int) (pa_cons (pe_int) (pa_cons (pe_int) (pa_cons (pe_int) (pa_cons (pe_int) (pa_cons (pe_int) (pa_cons (pe_int) (pa_cons (pe_int) pa_nil)))))))))) pa_nil))))
      (pss_cons (ps_set (i := 6) nd rfl (Or.inl rfl) (pe_call G__law_pick (hr.mono (by omega)) (by rfl) D__law_pick.g D__law_pick.F.kp D__law_pick.b .nil pass0 (pa_cons (pv 2) (pa_cons (pe_lst (pa_cons (pe_int) (pa_cons (pe_op op_add (pe_int) (pe_call G__law_take (hr.mono (by omega)) (by rfl) D__law_take.g D__law_take.F.kp D__law_take.b .nil pass0 (pa_cons (pv 2) (pa_cons (pe_int) pa_nil)))) (pa_cons (pe_op op_add (pe_int) (pe_call G__law_take (hr.mono (by omega)) (by rfl) D__law_take.g D__law_take.F.kp D__law_take.b .nil pass0 (pa_cons (pv 2) (pa_cons (pe_op op_pow (pe_int) (pe_int)) pa_nil)))) (pa_cons (pe_op op_pow (pe_int) (pe_int)) (pa_cons (pe_int) pa_nil)))))) pa_nil))))
      (pss_one (ps_expr (pe_bm PySem.F.plainAttrs_list PySem.F.slot_list_append PySem.F.type_list_append mt_append (pv 3) (pa_cons (pe_tup (pa_cons (pv 6) (pa_cons (pe_op op_add (pe_int) (pe_call G__law_take (hr.mono (by omega)) (by rfl) D__law_take.g D__law_take.F.kp D__law_take.b .nil pass0 (pa_cons (pv 2) (pa_cons (pe_op op_sub (pv 5) (pe_int)) pa_nil)))) (pa_cons (pv 5) pa_nil)))) pa_nil)))))))
      (pss_cons (ps_setLc (i := 7) (own := [("_law_world", 12)]) (g := gName 12) (by rfl) nd rfl rfl (sw_true rfl rfl rfl (by decide +kernel)) (pi_list (pv 3)) (blkOk_by (own := [("_law_world", 12)]) (N := N_law) (sc := defScope s_law) (by decide +kernel)) (fun _ _ _ _ _ => (pg_name (i := 12) nd rfl (Or.inl rfl))) (fun _ _ _ _ _ => pts_nil) (fun _ _ _ _ _ => (pe_callB (r := rRepG K) (call_reprG hgd hr.units) (by rfl) T.b_repr (by decide +kernel) (pa_cons (pe_call G__law_by_places (hr.mono (by omega)) (by rfl) D__law_by_places.g D__law_by_places.F.kp D__law_by_places.b .nil pass0 (pa_cons (pv 12) pa_nil)) pa_nil))))
      (pss_cons (ps_for PassesOwn.never rfl (pi_range1 (by rfl) T.b_range (pa_cons (pe_int) pa_nil)) (pg_name (i := 4) nd rfl (Or.inl rfl))
      (pss_cons (ps_set (i := 8) nd rfl (Or.inl rfl) (pe_call G__law_take (hr.mono (by omega)) (by rfl) D__law_take.g D__law_take.F.kp D__law_take.b .nil pass0 (pa_cons (pv 2) (pa_cons (pe_int) pa_nil))))
      (pss_cons (ps_par (i := 9) (j := 10) (by rfl) nd rfl rfl (by decide) rfl rfl (pa_cons (pe_call G__law_by_names (hr.mono (by omega)) (by rfl) D__law_by_names.g D__law_by_names.F.kp D__law_by_names.b .nil pass0 (pa_cons (pe_ix (r := rIxL K) ix_list (pv 3) (pv 8) (fun _ _ => rfl)) pa_nil)) (pa_cons (pe_call G__law_by_places (hr.mono (by omega)) (by rfl) D__law_by_places.g D__law_by_places.F.kp D__law_by_places.b .nil pass0 (pa_cons (pe_ix (r := rIxL K) ix_list (pv 3) (pv 8) (fun _ _ => rfl)) pa_nil)) pa_nil)) (by rfl))
      (pss_cons (ps_if (PW.pt (pw_or (pt_cmpR op_ne (pe_callB (r := rRepG K) (call_reprG hgd hr.units) (by rfl) T.b_repr (by decide +kernel) (pa_cons (pv 9) pa_nil)) (pe_ix (r := rIxL K) ix_list (pv 7) (pv 8) (fun _ _ => rfl)) (nomark _)) (pw_or1 (pt_cmpR op_ne (pe_callB (r := rRepG K) (call_reprG hgd hr.units) (by rfl) T.b_repr (by decide +kernel) (pa_cons (pv 10) pa_nil)) (pe_ix (r := rIxL K) ix_list (pv 7) (pv 8) (fun _ _ => rfl)) (nomark _))))) (pss_one (ps_ret (pe_bl))) pss_nil)
      (pss_one (ps_for PassesOwn.never rfl (pi_tup (pe_tup (pa_cons (pe_ix (r := rIxL K) ix_list (pv 9) (pe_int) (fun _ _ => rfl)) (pa_cons (pe_ix (r := rIxL K) ix_list (pv 9) (pe_int) (fun _ _ => rfl)) (pa_cons (pe_ix (r := rIxL K) ix_list (pv 10) (pe_int) (fun _ _ => rfl)) (pa_cons (pe_ix (r := rIxL K) ix_list (pv 10) (pe_int) (fun _ _ => rfl)) pa_nil)))))) (pg_name (i := 11) nd rfl (Or.inl rfl))
      (pss_cons (ps_expr (pe_bm0 PySem.F.plainAttrs_list PySem.F.slot_list_reverse PySem.F.type_list_reverse mt_reverse (pv 11)))
      (pss_one (ps_expr (pe_bm PySem.F.plainAttrs_list PySem.F.slot_list_append PySem.F.type_list_append mt_append (pv 11) (pa_cons (pe_int) pa_nil)))))))))))
      (pss_one (ps_if (PW.pt (pw_or (pt_cmpR (r := rNeD K) (op_neD hr.units) (pe_call G__law_refused (hr.mono (by omega)) (by rfl) D__law_refused.g D__law_refused.F.kp D__law_refused.b .nil pass0 (pa_cons (pe_bl) pa_nil)) (pe_lst (pa_cons (pe_int) (pa_cons (pe_int) pa_nil))) (nomark _)) (pw_or1 (pt_cmpR (r := rNeD K) (op_neD hr.units) (pe_call G__law_refused (hr.mono (by omega)) (by rfl) D__law_refused.g D__law_refused.F.kp D__law_refused.b .nil pass0 (pa_cons (pe_bl) pa_nil)) (pe_lst (pa_cons (pe_int) (pa_cons (pe_int) pa_nil))) (nomark _))))) (pss_one (ps_ret (pe_bl))) pss_nil))))))))
      (pss_one (ps_ret (pe_bl)))), ?_⟩
    walk_at "ev"
    refine for_range (lo := 0) (n := _) (fun i σ H' => Hold (∃ s1 s2 s3 s4 s5 s6 s7 s8 s9 s10 s11, σ = [some (.ref a), s1, s2, s3, s4, s5, s6, s7, s8, s9, s10, s11, none] ∧ Same H H')) (.mk ⟨none, none, none, none, none, none, none, none, none, none, none, rfl, Same.refl _⟩) ?_ ?_
    · intro i σ H2 hi hP
      obtain ⟨s1, s2, s3, s4, s5, s6, s7, s8, s9, s10, s11, rfl, sm2⟩ := hP.un
      have hi4 : i < 100 := by omega
      have hS2 := sm2.seq hS
      walk_at "ev"
      intro b H3 hb0 sm3 hbx
      walk_at "ev"
      w_cond _4
      have hbx4 := hbx.same sm4
      have n4b := hbx.ne hl4
      walk_at "ev"
      refine for_range (lo := 0) (n := _) (fun j σ H' => Hold (∃ (s4 s5 s6 : Option V) (ws : List V) (G : List (Int × Int × Int)), σ = [some (.ref a), some (.int (0 + (i : Int))), some (.ref b), some (.ref l4), s4, s5, s6, s7, s8, s9, s10, s11, none] ∧ ws.length = j ∧ G.length = j ∧ (∀ m g, G[m]? = some g → ∃ v, ws[m]? = some v ∧ WAt H' v g) ∧ Keep b H3 H' ∧ BoxAt H' b (6 * (j : Int)) ∧ H' l4 = some (.lst ws))) (.mk ⟨_, _, _, [], [], rfl, rfl, rfl, fun m g h => (by rw [List.getElem?_nil] at h; cases h), keepS sm4, hbx4.mono (by omega), hq4⟩) ?_ ?_
      · intro j σ H5 hj hP5
        obtain ⟨t4, t5, t6, ws, G, rfl, hwl, hGl, hWG, k5, b5, h45⟩ := hP5.un
        have hj2 : j < 2 := hj
        walk_at "ev"
        w_cond _6
        have b6 := b5.same sm6
        have n6b := b5.ne hl6
        have hL6 := SqL.of (K := K) hq6
        walk_at "ev"
        intro v7 H7 hv7 k7 b7
        obtain ⟨bb, ev7, hbb⟩ := in7 hv7
        subst ev7
        obtain ⟨bb3, bb9, _⟩ := bases_rough bb hbb
        walk_at "ev"
        intro r8 H8 r80 r81 k8 b8
        walk_at "ev"
        intro r9 H9 r90 r91 k9 b9
        walk_at "ev"
        w_cond _10
        have b10 := b9.same sm10
        have n10b := b9.ne hl10
        have hL10 := SqL.of (K := K) hq10
        walk_at "ev"
        intro v11 H11 hv11 k11 b11
        obtain ⟨ff, ev11, ff1, ff6⟩ := inf7 hv11 r80 r81 r90 r91 (by decide)
        subst ev11
        have k511 : Keep b H5 H11 := (keepS sm6).trans (k7.trans (k8.trans (k9.trans ((keepS sm10).trans k11))))
        have h411 := k511 _ _ n4b h45
        have hLw := SqL.of (K := K) h411
        walk_at "ev"
        intro r12 H12 r120 r121 k12 b12
        walk_at "ev"
        w_cond _13
        have k313 : Keep b H5 H13 := (keepS sm6).trans (k7.trans (k8.trans (k9.trans ((keepS sm10).trans (k11.trans (k12.trans (keepS sm13)))))))
        have h413 := k313 _ _ n4b h45
        have zz : ws.length < sizeLine := szm (by omega)
        walk_at "ev"
        have w7 : W7 ff (1 + r12) bb := ⟨ff1, ff6, by omega, by omega, hbb⟩
        refine .mk ⟨_, _, _, ws ++ [.ref l13], G ++ [(ff, 1 + r12, bb)], rfl, by rw [List.length_append, hwl]; rfl, by rw [List.length_append, hGl]; rfl, fun m g hg => ?_, keep_fresh (k5.trans k313) hl4, ((b12.same sm13).upd n4b).mono (by omega), upd_same⟩
        by_cases c : m < j
        · rw [List.getElem?_append_left (by omega)] at hg
          obtain ⟨v, hv1, hv2⟩ := hWG m g hg
          exact ⟨v, by rw [List.getElem?_append_left (by omega)]; exact hv1, (hv2.keep b5 k313).upd h413⟩
        · rw [List.getElem?_append_right (by omega), hGl] at hg
          have em : m - j = 0 := by
            cases e : m - j with
            | zero => rfl
            | succ u =>
              rw [e] at hg
              cases hg
          rw [em] at hg
          cases hg
          refine ⟨.ref l13, by rw [List.getElem?_append_right (by omega), hwl, em]; rfl, WAt.upd h413 ⟨l13, rfl, hq13, w7⟩⟩
      · intro σ H5 hP5
        obtain ⟨t4, t5, t6, ws, G, rfl, hwl, hGl, hWG, k5, b5, h45⟩ := hP5.un
        have hG2 : G.length = 2 := hGl
        have hw2 : ws.length = 2 := hwl
        have hL5 := SqL.of (K := K) h45
        walk_at "ev"
        refine ⟨⟨_, hL5⟩, ?_⟩
        intro D hD
        refine lc_list (K := K) (a := l4) (xs := ws) (fun j H' => Hold (∃ ss : List V, ss.length = j ∧ (∀ m g, m < j → G[m]? = some g → ∃ v, ss[m]? = some v ∧ DueOk g v) ∧ Same H5 H' ∧ H' D = some (.lst ss))) (.mk ⟨[], rfl, fun m g h => absurd h (Nat.not_lt_zero _), same_new hD, upd_same⟩) ?_ ?_ ?_
        · intro j H6 hj hP6
          obtain ⟨ss, hsl, hsd, sm6, hD6⟩ := hP6.un
          exact sm6.seq hL5
        · intro j v H6 hv hP6
          obtain ⟨ss, hsl, hsd, sm6, hD6⟩ := hP6.un
          have hj2 : j < ws.length := (List.getElem?_eq_some_iff.mp hv).1
          obtain ⟨g, hg⟩ : ∃ g, G[j]? = some g := ⟨_, List.getElem?_eq_getElem (by omega)⟩
          obtain ⟨v', hv', hW⟩ := hWG j g hg
          cases hv.symm.trans hv'
          obtain ⟨t0, rfl, ht0, w7⟩ := hW.same sm6
          have hT6 := SqT.of (K := K) ht0
          walk_at "ev"
          intro p l1 l2 H7 pr fs ds tt gg iv jn hR hp0 hl10 hl20 sm7 hqp hq1 hq2
          have hdp := d7dp (K := K) hqp hq1 hq2
          have hsn := hR.shn w7
          have hD7 := sm7 _ _ hD6
          have zz : ss.length < sizeLine := szm (by omega)
          walk_at "ev"
          refine .mk ⟨ss ++ [_], by rw [List.length_append, hsl]; rfl, fun m g' hm hg' => ?_, same_mut (sm6.trans sm7) hD, upd_same⟩
          by_cases c : m < j
          · obtain ⟨v, hv1, hv2⟩ := hsd m g' c hg'
            exact ⟨v, by rw [List.getElem?_append_left (by omega)]; exact hv1, hv2⟩
          · have em : m = j := by omega
            subst em
            cases hg.symm.trans hg'
            exact ⟨_, by rw [List.getElem?_append_right (by omega), hsl, Nat.sub_self]; rfl, _, _, _, _, _, _, _, hR, rfl⟩
        · intro H6 hP6
          obtain ⟨ss, hsl, hsd, sm6, hD6⟩ := hP6.un
          have nDb := b5.ne hD
          have b6 := b5.same sm6
          have h46 := sm6 _ _ h45
          walk_at "ev"
          refine for_range (lo := 0) (n := _) (fun j σ H' => Hold (∃ (t4 t8 t9 t10 t11 : Option V), σ = [some (.ref a), some (.int (0 + (i : Int))), some (.ref b), some (.ref l4), t4, t5, t6, some (.ref D), t8, t9, t10, t11, none] ∧ Keep b H6 H' ∧ BoxAt H' b (20 + (j : Int)))) (.mk ⟨_, _, _, _, _, rfl, Keep.refl _ _, b6.mono (by omega)⟩) ?_ ?_
          · intro j σ H8 hj hP8
            obtain ⟨t4, t8, t9, t10, t11, rfl, k8, b8⟩ := hP8.un
            have hj4 : j < 4 := hj
            walk_at "ev"
            intro r9 H9 r90 r91 k9 b9
            obtain ⟨m, hm⟩ := Int.eq_ofNat_of_zero_le r90
            subst hm
            have hm2 : m < 2 := by omega
            obtain ⟨g, hg⟩ : ∃ g, G[m]? = some g := ⟨_, List.getElem?_eq_getElem (by omega)⟩
            obtain ⟨v, hv, hW⟩ := hWG m g hg
            obtain ⟨u, hu, hdue⟩ := hsd m g (by omega) hg
            have k69 := k8.trans k9
            have hW9 := (hW.same sm6).keep b6 k69
            obtain ⟨t0, rfl, ht0, w7⟩ := hW9
            have h49 := k69 _ _ n4b h46
            have hD9 := k69 _ _ nDb hD6
            have hL9 := SqL.of (K := K) h49
            have hT9 := SqT.of (K := K) ht0
            have hat : atI ws (m : Int) = some (.ref t0) := at_of (j := m) rfl hv
            walk_at "ev"
            intro p l1 l2 H10 pr fs ds tt gg iv jn hR hp0 hl10 hl20 sm10 hqp hq1 hq2
            have hL10 := SqL.of (K := K) (sm10 _ _ h49)
            have hT10 := SqT.of (K := K) (sm10 _ _ ht0)
            walk_at "ev"
            intro p' l1' l2' H11 pr' fs' ds' tt' gg' iv' jn' hR' hp0' hl10' hl20' sm11 hqp' hq1' hq2'
            have hdp := d7dp (K := K) (sm11 _ _ hqp) (sm11 _ _ hq1) (sm11 _ _ hq2)
            have hdp' := d7dp (K := K) hqp' hq1' hq2'
            have hsn := hR.shn w7
            have hsn' := hR'.shn w7
            obtain ⟨pr0, fs0, ds0, tt0, gg0, iv0, jn0, hR0, eu⟩ := hdue
            rw [hR0.uniq w7 hR] at eu
            rw [hR'.uniq w7 hR] at hdp' hsn'
            subst eu
            have hD11 := SqL.of (K := K) ((sm10.trans sm11) _ _ hD9)
            have hF11 := SqL.of (K := K) (sm11 _ _ hqp)
            have hF11' := SqL.of (K := K) hqp'
            have hat2 : atI ss (m : Int) = some (.str (D7 g.1 g.2.1 pr fs ds tt gg iv jn).shown) := at_of (j := m) rfl hu
            walk_at "ev"
            w_cond _12
            have hT12 := SqT.of (K := K) hq12
            have s912 := sm10.trans (sm11.trans sm12)
            obtain ⟨ln1, ln2⟩ := hR.lens w7
            obtain ⟨ln1', ln2'⟩ := hR'.lens w7
            have h0 : ∀ v ∈ [V.ref l1, V.ref l2, V.ref l1', V.ref l2'], ∃ (l : Addr) (ys : List V), v = .ref l ∧ H9 l = none ∧ H12 l = some (.lst ys) ∧ ys.length ≤ 1000000 + 0 := by
              intro v hv
              simp only [List.mem_cons, List.not_mem_nil, or_false] at hv
              rcases hv with z | z | z | z
              · exact ⟨l1, _, z, hl10, (sm11.trans sm12) _ _ hq1, by rw [List.length_map]; omega⟩
              · exact ⟨l2, _, z, hl20, (sm11.trans sm12) _ _ hq2, by rw [List.length_map]; omega⟩
              · exact ⟨l1', _, z, sm10.free hl10', sm12 _ _ hq1', by rw [List.length_map]; omega⟩
              · exact ⟨l2', _, z, sm10.free hl20', sm12 _ _ hq2', by rw [List.length_map]; omega⟩
            refine ⟨l12, rfl, ⟨_, hT12⟩, ?_⟩
            refine for_tup (K := K) (a := l12) (xs := [V.ref l1, V.ref l2, V.ref l1', V.ref l2']) (fun c σ H' => Hold (∃ t11, σ = [some (.ref a), some (.int (0 + (i : Int))), some (.ref b), some (.ref l4), some (.int (0 + (j : Int))), t5, t6, some (.ref D), some (.int (m : Int)), some (.ref p), some (.ref p'), t11, none] ∧ Same H9 H' ∧ H' l12 = some (.tup [V.ref l1, V.ref l2, V.ref l1', V.ref l2']) ∧ ∀ v ∈ [V.ref l1, V.ref l2, V.ref l1', V.ref l2'], ∃ (l : Addr) (ys : List V), v = .ref l ∧ H9 l = none ∧ H' l = some (.lst ys) ∧ ys.length ≤ 1000000 + c)) (.mk ⟨_, rfl, s912, hq12, h0⟩) ?_ ?_ ?_
            · intro c σ H13 hc hP13
              obtain ⟨u11, rfl, sm13, hq13, hv13⟩ := hP13.un
              exact SqT.of hq13
            · intro c v σ H13 hv hP13
              obtain ⟨u11, rfl, sm13, hq13, hv13⟩ := hP13.un
              have hc4 : c < 4 := (List.getElem?_eq_some_iff.mp hv).1
              obtain ⟨l, ys, rfl, hl9, hl13, hyl⟩ := hv13 v (List.mem_of_getElem? hv)
              have hLl := SqL.of (K := K) hl13
              have hu : (upd H13 l (.lst ys.reverse)) l = some (.lst ys.reverse) := upd_same
              have hLr : SqL K (upd H13 l (.lst ys.reverse)) l ys.reverse := SqL.of hu
              have zz : ys.reverse.length < sizeLine := by
                rw [List.length_reverse]
                have : sizeLine = 16777216 := by decide
                omega
              walk_at "ev"
              have nl : l12 ≠ l := fun e => by
                rw [e, hl13] at hq13
                cases hq13
              refine .mk ⟨_, rfl, same_mut (same_mut sm13 hl9) hl9, by rw [upd_ne nl, upd_ne nl]; exact hq13, fun v' hv' => ?_⟩
              obtain ⟨l', ys', rfl, h9', h13', hy'⟩ := hv13 v' hv'
              by_cases e : l' = l
              · subst e
                refine ⟨_, _, rfl, h9', upd_same, ?_⟩
                rw [List.length_append, List.length_reverse]
                show ys.length + 1 ≤ _
                omega
              · exact ⟨l', ys', rfl, h9', by rw [upd_ne e, upd_ne e]; exact h13', by omega⟩
            · intro σ H13 hP13
              obtain ⟨u11, rfl, sm13, hq13, hv13⟩ := hP13.un
              walk_at "ev"
              exact .mk ⟨_, _, _, _, _, rfl, k69.trans (keepS sm13), (b9.same sm13).mono (by omega)⟩
          · intro σ H8 hP8
            obtain ⟨t4, t8, t9, t10, t11, rfl, k8, b8⟩ := hP8.un
            walk_at "ev"
            intro p9 H9 hp9 sm9 hq9
            walk_at "ev"
            w_cond _10
            refine ned_ints (ns := [6, 2]) (ms := [6, 2]) (SqL.of (sm10 _ _ hq9)) (SqL.of hq10) ?_
            rw [decide_eq_true rfl]
            walk_at "ev"
            intro p11 H11 hp11 sm11 hq11
            walk_at "ev"
            w_cond _12
            refine ned_ints (ns := [6, 2]) (ms := [6, 2]) (SqL.of (sm12 _ _ hq11)) (SqL.of hq12) ?_
            rw [decide_eq_true rfl]
            walk_at "ev"
            exact .mk ⟨_, _, _, _, _, _, _, _, _, _, _, rfl, keep_same (sm2.trans sm3) (sm2.free hb0) (k5.trans ((keepS sm6).trans (k8.trans (keepS (sm9.trans (sm10.trans (sm11.trans sm12)))))))⟩
    · intro σ H2 hP
      obtain ⟨s1, s2, s3, s4, s5, s6, s7, s8, s9, s10, s11, rfl, sm2⟩ := hP.un
      walk_at "ev"
      exact q _
end
theorem exm2 {K : PySem.W.Frag} {cls c c2 : Value} {b1 b2 : Bool} (h1 : PySem.W.exmOne K cls c = some b1) (h2 : PySem.W.exmOne K cls c2 = some b2) : PySem.W.exmAny K cls [c, c2] = some (b1 || (b2 || false)) := by
  simp only [PySem.W.exmAny, h1, h2]
theorem all_mk {l : PySem.W.OpenLaw} {w : World} {K : PySem.W.Frag} {h : Heap} {mg : Str → Option Value} {fa : Addr} (X : K.In h) (G : h.Ns mainGlobals mg) (hfa : mg "law" = some (.ref fa))
    {od0 an0 : Option Addr} {sl0 : Array (Option Value)} {oc0 kV0 dc0 pm0 cd0 ct0 : Value} {f0 : Addr}
    {od1 an1 : Option Addr} {sl1 : Array (Option Value)} {oc1 kV1 dc1 pm1 cd1 ct1 : Value} {f1 : Addr}
    {od2 an2 : Option Addr} {sl2 : Array (Option Value)} {oc2 kV2 dc2 pm2 cd2 ct2 : Value} {f2 : Addr}
    {od3 an3 : Option Addr} {sl3 : Array (Option Value)} {oc3 kV3 dc3 pm3 cd3 ct3 : Value} {f3 : Addr}
    {od4 an4 : Option Addr} {sl4 : Array (Option Value)} {oc4 kV4 dc4 pm4 cd4 ct4 : Value} {f4 : Addr}
    {od5 an5 : Option Addr} {sl5 : Array (Option Value)} {oc5 kV5 dc5 pm5 cd5 ct5 : Value} {f5 : Addr}
    {od6 an6 : Option Addr} {sl6 : Array (Option Value)} {oc6 kV6 dc6 pm6 cd6 ct6 : Value} {f6 : Addr}
    {od7 an7 : Option Addr} {sl7 : Array (Option Value)} {oc7 kV7 dc7 pm7 cd7 ct7 : Value} {f7 : Addr}
    {od8 an8 : Option Addr} {sl8 : Array (Option Value)} {oc8 kV8 dc8 pm8 cd8 ct8 : Value} {f8 : Addr}
    {od9 an9 : Option Addr} {sl9 : Array (Option Value)} {oc9 kV9 dc9 pm9 cd9 ct9 : Value} {f9 : Addr}
    {od10 an10 : Option Addr} {sl10 : Array (Option Value)} {oc10 kV10 dc10 pm10 cd10 ct10 : Value} {f10 : Addr}
    {od11 an11 : Option Addr} {sl11 : Array (Option Value)} {oc11 kV11 dc11 pm11 cd11 ct11 : Value} {f11 : Addr}
    {od12 an12 : Option Addr} {sl12 : Array (Option Value)} {oc12 kV12 dc12 pm12 cd12 ct12 : Value} {f12 : Addr}
    {od13 an13 : Option Addr} {sl13 : Array (Option Value)} {oc13 kV13 dc13 pm13 cd13 ct13 : Value} {f13 : Addr}
    {od14 an14 : Option Addr} {sl14 : Array (Option Value)} {oc14 kV14 dc14 pm14 cd14 ct14 : Value} {f14 : Addr}
    {od15 an15 : Option Addr} {sl15 : Array (Option Value)} {oc15 kV15 dc15 pm15 cd15 ct15 : Value} {f15 : Addr}
    {od16 an16 : Option Addr} {sl16 : Array (Option Value)} {oc16 kV16 dc16 pm16 cd16 ct16 : Value} {f16 : Addr}
    {od17 an17 : Option Addr} {sl17 : Array (Option Value)} {oc17 kV17 dc17 pm17 cd17 ct17 : Value} {f17 : Addr}
    {fI : Addr} {odI anI : Option Addr} {slI : Array (Option Value)} {ocI kVI dcI pmI cdI ctI : Value}
    {C_TurnError : Addr}
    {C_NoInverse : Addr}
    {C_NotCoprime : Addr}
    {nm_NoInverse q_NoInverse : Str} {N_NoInverse : Addr} {bs_NoInverse : List Value} {sn_NoInverse : List Str} {sb_NoInverse : List Value} {ab_NoInverse : Bool} {co_NoInverse : Option Bool} {dd_NoInverse : Option Addr} {m0_NoInverse m1_NoInverse m2_NoInverse m3_NoInverse m5_NoInverse : Option Value}
    {nm_NotCoprime q_NotCoprime : Str} {N_NotCoprime : Addr} {bs_NotCoprime : List Value} {sn_NotCoprime : List Str} {sb_NotCoprime : List Value} {ab_NotCoprime : Bool} {co_NotCoprime : Option Bool} {dd_NotCoprime : Option Addr} {m0_NotCoprime m1_NotCoprime m2_NotCoprime m3_NotCoprime m5_NotCoprime : Option Value}
    (g_TurnError : PySem.W.nsIn K mainGlobals "TurnError" = some (some (.ref C_TurnError)))
    (g_NoInverse : PySem.W.nsIn K mainGlobals "NoInverse" = some (some (.ref C_NoInverse)))
    (g_NotCoprime : PySem.W.nsIn K mainGlobals "NotCoprime" = some (some (.ref C_NotCoprime)))
    (on : PySem.W.specialIn K (.builtin "object.__class__") "__get__" = some (some (.builtin "getset_descriptor.__get__")))
    (ot : PySem.W.takesIn K (.builtin "object.__class__") = some true)
    (eT : PySem.W.subIn K (.ref C_TurnError) (.type "BaseException") = some true)
    (hT : PySem.W.hasDictIn K C_TurnError = true)
    (tT : PySem.W.typeIn K (.ref C_TurnError) = some (.type "type"))
    (xL_NoInverse : K.lookup C_NoInverse = some (excClassObj nm_NoInverse q_NoInverse C_NoInverse N_NoInverse bs_NoInverse [.ref C_TurnError, .type "ValueError", .type "Exception", .type "BaseException", .type "object"] true sn_NoInverse sb_NoInverse ab_NoInverse co_NoInverse dd_NoInverse m0_NoInverse m1_NoInverse m2_NoInverse m3_NoInverse m5_NoInverse "ValueError.__new__"))
    (sa_NoInverse : PySem.W.findIn K (.ref C_NoInverse) "__setattr__" = some (some (.builtin "object.__setattr__")))
    (ga_NoInverse : PySem.W.findIn K (.ref C_NoInverse) "__getattribute__" = some (some (.builtin "BaseException.__getattribute__")))
    (gg_NoInverse : PySem.W.findIn K (.ref C_NoInverse) "__getattr__" = some none)
    (nw_NoInverse : PySem.W.findIn K (.ref C_NoInverse) "what" = some none)
    (ii_NoInverse : PySem.W.findIn K (.ref C_NoInverse) "__init__" = some (some (.ref fI)))
    (oc_NoInverse : PySem.W.findIn K (.ref C_NoInverse) "__class__" = some (some (.builtin "object.__class__")))
    (kC_NoInverse : PySem.W.keepIn K (.ref C_NoInverse) = true)
    (eC_NoInverse : PySem.W.subIn K (.ref C_NoInverse) (.type "BaseException") = some true)
    (tC_NoInverse : PySem.W.typeIn K (.ref C_NoInverse) = some (.type "type"))
    (hC_NoInverse : PySem.W.hasDictIn K C_NoInverse = true)
    (mo_NoInverse : PySem.W.mroIn K C_NoInverse (.type "object") = some true)
    (su_NoInverse : PySem.W.subIn K (.ref C_NoInverse) (.ref C_TurnError) = some true)
    (kv_NoInverse : PySem.W.kitOne K (.ref C_NoInverse) (.type "ValueError") = some true)
    (kt_NoInverse : PySem.W.kitOne K (.ref C_NoInverse) (.ref C_TurnError) = some true)
    (xL_NotCoprime : K.lookup C_NotCoprime = some (excClassObj nm_NotCoprime q_NotCoprime C_NotCoprime N_NotCoprime bs_NotCoprime [.ref C_TurnError, .type "ValueError", .type "Exception", .type "BaseException", .type "object"] true sn_NotCoprime sb_NotCoprime ab_NotCoprime co_NotCoprime dd_NotCoprime m0_NotCoprime m1_NotCoprime m2_NotCoprime m3_NotCoprime m5_NotCoprime "ValueError.__new__"))
    (sa_NotCoprime : PySem.W.findIn K (.ref C_NotCoprime) "__setattr__" = some (some (.builtin "object.__setattr__")))
    (ga_NotCoprime : PySem.W.findIn K (.ref C_NotCoprime) "__getattribute__" = some (some (.builtin "BaseException.__getattribute__")))
    (gg_NotCoprime : PySem.W.findIn K (.ref C_NotCoprime) "__getattr__" = some none)
    (nw_NotCoprime : PySem.W.findIn K (.ref C_NotCoprime) "what" = some none)
    (ii_NotCoprime : PySem.W.findIn K (.ref C_NotCoprime) "__init__" = some (some (.ref fI)))
    (oc_NotCoprime : PySem.W.findIn K (.ref C_NotCoprime) "__class__" = some (some (.builtin "object.__class__")))
    (kC_NotCoprime : PySem.W.keepIn K (.ref C_NotCoprime) = true)
    (eC_NotCoprime : PySem.W.subIn K (.ref C_NotCoprime) (.type "BaseException") = some true)
    (tC_NotCoprime : PySem.W.typeIn K (.ref C_NotCoprime) = some (.type "type"))
    (hC_NotCoprime : PySem.W.hasDictIn K C_NotCoprime = true)
    (mo_NotCoprime : PySem.W.mroIn K C_NotCoprime (.type "object") = some true)
    (su_NotCoprime : PySem.W.subIn K (.ref C_NotCoprime) (.ref C_TurnError) = some true)
    (kv_NotCoprime : PySem.W.kitOne K (.ref C_NotCoprime) (.type "ValueError") = some true)
    (kt_NotCoprime : PySem.W.kitOne K (.ref C_NotCoprime) (.ref C_TurnError) = some true)
    (lI : K.lookup fI = some ⟨ocI, odI, .func (PySem.W.fnOf "__init__" "TurnError.__init__" (defArgs s_init) (defBody s_init) (defScope s_init) .none kVI dcI pmI anI cdI ctI), slI⟩)
    (cI : PySem.W.codeIn K cdI "TurnError.__init__" = true)
    (kI : PySem.W.keepIn K (.ref fI) = true)
    (tI : PySem.W.typeIn K (.ref fI) = some (.type "function"))
    (sii : PySem.W.subIn K (.ref C_NoInverse) (.ref C_NoInverse) = some true)
    (sin : PySem.W.subIn K (.ref C_NoInverse) (.ref C_NotCoprime) = some false)
    (sni : PySem.W.subIn K (.ref C_NotCoprime) (.ref C_NoInverse) = some false)
    (snn : PySem.W.subIn K (.ref C_NotCoprime) (.ref C_NotCoprime) = some true)
    (a0 : PySem.W.nsIn K mainGlobals "is_whole" = some (some (.ref f0))) (l0 : K.lookup f0 = some ⟨oc0, od0, .func (PySem.W.fnOf "is_whole" "is_whole" (defArgs s_is_whole) (defBody s_is_whole) (defScope s_is_whole) .none kV0 dc0 pm0 an0 cd0 ct0), sl0⟩) (c0 : PySem.W.codeIn K cd0 "is_whole" = true) (k0 : PySem.W.keepIn K (.ref f0) = true)
    (a1 : PySem.W.nsIn K mainGlobals "is_prime" = some (some (.ref f1))) (l1 : K.lookup f1 = some ⟨oc1, od1, .func (PySem.W.fnOf "is_prime" "is_prime" (defArgs s_is_prime) (defBody s_is_prime) (defScope s_is_prime) .none kV1 dc1 pm1 an1 cd1 ct1), sl1⟩) (c1 : PySem.W.codeIn K cd1 "is_prime" = true) (k1 : PySem.W.keepIn K (.ref f1) = true)
    (a2 : PySem.W.nsIn K mainGlobals "factors" = some (some (.ref f2))) (l2 : K.lookup f2 = some ⟨oc2, od2, .func (PySem.W.fnOf "factors" "factors" (defArgs s_factors) (defBody s_factors) (defScope s_factors) .none kV2 dc2 pm2 an2 cd2 ct2), sl2⟩) (c2 : PySem.W.codeIn K cd2 "factors" = true) (k2 : PySem.W.keepIn K (.ref f2) = true)
    (a3 : PySem.W.nsIn K mainGlobals "divisors" = some (some (.ref f3))) (l3 : K.lookup f3 = some ⟨oc3, od3, .func (PySem.W.fnOf "divisors" "divisors" (defArgs s_divisors) (defBody s_divisors) (defScope s_divisors) .none kV3 dc3 pm3 an3 cd3 ct3), sl3⟩) (c3 : PySem.W.codeIn K cd3 "divisors" = true) (k3 : PySem.W.keepIn K (.ref f3) = true)
    (a4 : PySem.W.nsIn K mainGlobals "are_coprime" = some (some (.ref f4))) (l4 : K.lookup f4 = some ⟨oc4, od4, .func (PySem.W.fnOf "are_coprime" "are_coprime" (defArgs s_are_coprime) (defBody s_are_coprime) (defScope s_are_coprime) .none kV4 dc4 pm4 an4 cd4 ct4), sl4⟩) (c4 : PySem.W.codeIn K cd4 "are_coprime" = true) (k4 : PySem.W.keepIn K (.ref f4) = true)
    (a5 : PySem.W.nsIn K mainGlobals "inverse" = some (some (.ref f5))) (l5 : K.lookup f5 = some ⟨oc5, od5, .func (PySem.W.fnOf "inverse" "inverse" (defArgs s_inverse) (defBody s_inverse) (defScope s_inverse) .none kV5 dc5 pm5 an5 cd5 ct5), sl5⟩) (c5 : PySem.W.codeIn K cd5 "inverse" = true) (k5 : PySem.W.keepIn K (.ref f5) = true)
    (a6 : PySem.W.nsIn K mainGlobals "totient" = some (some (.ref f6))) (l6 : K.lookup f6 = some ⟨oc6, od6, .func (PySem.W.fnOf "totient" "totient" (defArgs s_totient) (defBody s_totient) (defScope s_totient) .none kV6 dc6 pm6 an6 cd6 ct6), sl6⟩) (c6 : PySem.W.codeIn K cd6 "totient" = true) (k6 : PySem.W.keepIn K (.ref f6) = true)
    (a7 : PySem.W.nsIn K mainGlobals "power_rest" = some (some (.ref f7))) (l7 : K.lookup f7 = some ⟨oc7, od7, .func (PySem.W.fnOf "power_rest" "power_rest" (defArgs s_power_rest) (defBody s_power_rest) (defScope s_power_rest) .none kV7 dc7 pm7 an7 cd7 ct7), sl7⟩) (c7 : PySem.W.codeIn K cd7 "power_rest" = true) (k7 : PySem.W.keepIn K (.ref f7) = true)
    (a8 : PySem.W.nsIn K mainGlobals "generator" = some (some (.ref f8))) (l8 : K.lookup f8 = some ⟨oc8, od8, .func (PySem.W.fnOf "generator" "generator" (defArgs s_generator) (defBody s_generator) (defScope s_generator) .none kV8 dc8 pm8 an8 cd8 ct8), sl8⟩) (c8 : PySem.W.codeIn K cd8 "generator" = true) (k8 : PySem.W.keepIn K (.ref f8) = true)
    (a9 : PySem.W.nsIn K mainGlobals "check_coprime" = some (some (.ref f9))) (l9 : K.lookup f9 = some ⟨oc9, od9, .func (PySem.W.fnOf "check_coprime" "check_coprime" (defArgs s_check_coprime) (defBody s_check_coprime) (defScope s_check_coprime) .none kV9 dc9 pm9 an9 cd9 ct9), sl9⟩) (c9 : PySem.W.codeIn K cd9 "check_coprime" = true) (k9 : PySem.W.keepIn K (.ref f9) = true)
    (a10 : PySem.W.nsIn K mainGlobals "joined" = some (some (.ref f10))) (l10 : K.lookup f10 = some ⟨oc10, od10, .func (PySem.W.fnOf "joined" "joined" (defArgs s_joined) (defBody s_joined) (defScope s_joined) .none kV10 dc10 pm10 an10 cd10 ct10), sl10⟩) (c10 : PySem.W.codeIn K cd10 "joined" = true) (k10 : PySem.W.keepIn K (.ref f10) = true)
    (a11 : PySem.W.nsIn K mainGlobals "_law_box" = some (some (.ref f11))) (l11 : K.lookup f11 = some ⟨oc11, od11, .func (PySem.W.fnOf "_law_box" "_law_box" (defArgs s__law_box) (defBody s__law_box) (defScope s__law_box) .none kV11 dc11 pm11 an11 cd11 ct11), sl11⟩) (c11 : PySem.W.codeIn K cd11 "_law_box" = true) (k11 : PySem.W.keepIn K (.ref f11) = true)
    (a12 : PySem.W.nsIn K mainGlobals "_law_take" = some (some (.ref f12))) (l12 : K.lookup f12 = some ⟨oc12, od12, .func (PySem.W.fnOf "_law_take" "_law_take" (defArgs s__law_take) (defBody s__law_take) (defScope s__law_take) .none kV12 dc12 pm12 an12 cd12 ct12), sl12⟩) (c12 : PySem.W.codeIn K cd12 "_law_take" = true) (k12 : PySem.W.keepIn K (.ref f12) = true)
    (a13 : PySem.W.nsIn K mainGlobals "_law_pick" = some (some (.ref f13))) (l13 : K.lookup f13 = some ⟨oc13, od13, .func (PySem.W.fnOf "_law_pick" "_law_pick" (defArgs s__law_pick) (defBody s__law_pick) (defScope s__law_pick) .none kV13 dc13 pm13 an13 cd13 ct13), sl13⟩) (c13 : PySem.W.codeIn K cd13 "_law_pick" = true) (k13 : PySem.W.keepIn K (.ref f13) = true)
    (a14 : PySem.W.nsIn K mainGlobals "_law_by_places" = some (some (.ref f14))) (l14 : K.lookup f14 = some ⟨oc14, od14, .func (PySem.W.fnOf "_law_by_places" "_law_by_places" (defArgs s__law_by_places) (defBody s__law_by_places) (defScope s__law_by_places) .none kV14 dc14 pm14 an14 cd14 ct14), sl14⟩) (c14 : PySem.W.codeIn K cd14 "_law_by_places" = true) (k14 : PySem.W.keepIn K (.ref f14) = true)
    (a15 : PySem.W.nsIn K mainGlobals "_law_by_names" = some (some (.ref f15))) (l15 : K.lookup f15 = some ⟨oc15, od15, .func (PySem.W.fnOf "_law_by_names" "_law_by_names" (defArgs s__law_by_names) (defBody s__law_by_names) (defScope s__law_by_names) .none kV15 dc15 pm15 an15 cd15 ct15), sl15⟩) (c15 : PySem.W.codeIn K cd15 "_law_by_names" = true) (k15 : PySem.W.keepIn K (.ref f15) = true)
    (a16 : PySem.W.nsIn K mainGlobals "_law_refused" = some (some (.ref f16))) (l16 : K.lookup f16 = some ⟨oc16, od16, .func (PySem.W.fnOf "_law_refused" "_law_refused" (defArgs s__law_refused) (defBody s__law_refused) (defScope s__law_refused) .none kV16 dc16 pm16 an16 cd16 ct16), sl16⟩) (c16 : PySem.W.codeIn K cd16 "_law_refused" = true) (k16 : PySem.W.keepIn K (.ref f16) = true)
    (a17 : PySem.W.nsIn K mainGlobals "law" = some (some (.ref f17))) (l17 : K.lookup f17 = some ⟨oc17, od17, .func (PySem.W.fnOf "law" "law" (defArgs s_law) (defBody s_law) (defScope s_law) .none kV17 dc17 pm17 an17 cd17 ct17), sl17⟩) (c17 : PySem.W.codeIn K cd17 "law" = true) (k17 : PySem.W.keepIn K (.ref f17) = true)
    (z0 : PySem.W.nsIn K mainGlobals "ValueError" = some none) (z1 : PySem.W.nsIn K mainGlobals "abs" = some none) (z2 : PySem.W.nsIn K mainGlobals "all" = some none) (z3 : PySem.W.nsIn K mainGlobals "any" = some none) (z4 : PySem.W.nsIn K mainGlobals "bool" = some none) (z5 : PySem.W.nsIn K mainGlobals "enumerate" = some none) (z6 : PySem.W.nsIn K mainGlobals "int" = some none) (z7 : PySem.W.nsIn K mainGlobals "isinstance" = some none) (z8 : PySem.W.nsIn K mainGlobals "len" = some none) (z9 : PySem.W.nsIn K mainGlobals "max" = some none) (z10 : PySem.W.nsIn K mainGlobals "min" = some none) (z11 : PySem.W.nsIn K mainGlobals "range" = some none) (z12 : PySem.W.nsIn K mainGlobals "repr" = some none) (z13 : PySem.W.nsIn K mainGlobals "set" = some none) (z14 : PySem.W.nsIn K mainGlobals "sorted" = some none) (z15 : PySem.W.nsIn K mainGlobals "zip" = some none) :
    ∃ fd : FuncData, (∀ (s : Shared) (v : Value), BindsTo s fd ⟨[v], []⟩ [("_law_script", v)]) ∧ ∀ base : Heap, K.In base → base.Ns mainGlobals mg → FnG l.prog w K mg base CX0 6 fa fd ["_law_script"] (spLaw K) := by
  have e := hfa.symm.trans (PySem.W.mg_of X G a17)
  cases e
  have T : Blt mg := ⟨PySem.W.mg_none_of X G z0, PySem.W.mg_none_of X G z1, PySem.W.mg_none_of X G z2, PySem.W.mg_none_of X G z3, PySem.W.mg_none_of X G z4, PySem.W.mg_none_of X G z5, PySem.W.mg_none_of X G z6, PySem.W.mg_none_of X G z7, PySem.W.mg_none_of X G z8, PySem.W.mg_none_of X G z9, PySem.W.mg_none_of X G z10, PySem.W.mg_none_of X G z11, PySem.W.mg_none_of X G z12, PySem.W.mg_none_of X G z13, PySem.W.mg_none_of X G z14, PySem.W.mg_none_of X G z15⟩
  have F0 := fun_mk (st := s_is_whole) l0 c0 k0
  have b0 := F0.binds (ps := P_is_whole) fun _ _ _ _ _ _ us hl => match us, hl with | [_], _ => rfl
  have F1 := fun_mk (st := s_is_prime) l1 c1 k1
  have b1 := F1.binds (ps := P_is_prime) fun _ _ _ _ _ _ us hl => match us, hl with | [_], _ => rfl
  have F2 := fun_mk (st := s_factors) l2 c2 k2
  have b2 := F2.binds (ps := P_factors) fun _ _ _ _ _ _ us hl => match us, hl with | [_], _ => rfl
  have F3 := fun_mk (st := s_divisors) l3 c3 k3
  have b3 := F3.binds (ps := P_divisors) fun _ _ _ _ _ _ us hl => match us, hl with | [_], _ => rfl
  have F4 := fun_mk (st := s_are_coprime) l4 c4 k4
  have b4 := F4.binds (ps := P_are_coprime) fun _ _ _ _ _ _ us hl => match us, hl with | [_, _], _ => rfl
  have F5 := fun_mk (st := s_inverse) l5 c5 k5
  have b5 := F5.binds (ps := P_inverse) fun _ _ _ _ _ _ us hl => match us, hl with | [_, _], _ => rfl
  have F6 := fun_mk (st := s_totient) l6 c6 k6
  have b6 := F6.binds (ps := P_totient) fun _ _ _ _ _ _ us hl => match us, hl with | [_], _ => rfl
  have F7 := fun_mk (st := s_power_rest) l7 c7 k7
  have b7 := F7.binds (ps := P_power_rest) fun _ _ _ _ _ _ us hl => match us, hl with | [_, _, _], _ => rfl
  have F8 := fun_mk (st := s_generator) l8 c8 k8
  have b8 := F8.binds (ps := P_generator) fun _ _ _ _ _ _ us hl => match us, hl with | [_], _ => rfl
  have F9 := fun_mk (st := s_check_coprime) l9 c9 k9
  have b9 := F9.binds (ps := P_check_coprime) fun _ _ _ _ _ _ us hl => match us, hl with | [_], _ => rfl
  have F10 := fun_mk (st := s_joined) l10 c10 k10
  have b10 := F10.binds (ps := P_joined) fun _ _ _ _ _ _ us hl => match us, hl with | [_, _], _ => rfl
  have F11 := fun_mk (st := s__law_box) l11 c11 k11
  have b11 := F11.binds (ps := P__law_box) fun _ _ _ _ _ _ us hl => match us, hl with | [_, _], _ => rfl
  have F12 := fun_mk (st := s__law_take) l12 c12 k12
  have b12 := F12.binds (ps := P__law_take) fun _ _ _ _ _ _ us hl => match us, hl with | [_, _], _ => rfl
  have F13 := fun_mk (st := s__law_pick) l13 c13 k13
  have b13 := F13.binds (ps := P__law_pick) fun _ _ _ _ _ _ us hl => match us, hl with | [_, _], _ => rfl
  have F14 := fun_mk (st := s__law_by_places) l14 c14 k14
  have b14 := F14.binds (ps := P__law_by_places) fun _ _ _ _ _ _ us hl => match us, hl with | [_], _ => rfl
  have F15 := fun_mk (st := s__law_by_names) l15 c15 k15
  have b15 := F15.binds (ps := P__law_by_names) fun _ _ _ _ _ _ us hl => match us, hl with | [_], _ => rfl
  have F16 := fun_mk (st := s__law_refused) l16 c16 k16
  have b16 := F16.binds (ps := P__law_refused) fun _ _ _ _ _ _ us hl => match us, hl with | [_], _ => rfl
  have F17 := fun_mk (st := s_law) l17 c17 k17
  have F_I := fun_mk (st := s_init) lI cI kI
  have b_I := F_I.binds (ps := N_init) fun _ _ _ _ _ _ us hl => match us, hl with | [_, _], _ => rfl
  have EK_NoInverse : ExK K C_NoInverse := ⟨⟨⟨nm_NoInverse, q_NoInverse, N_NoInverse, bs_NoInverse, _, sn_NoInverse, sb_NoInverse, ab_NoInverse, co_NoInverse, dd_NoInverse, m0_NoInverse, m1_NoInverse, m2_NoInverse, m3_NoInverse, m5_NoInverse, xL_NoInverse, rfl⟩, sa_NoInverse, eC_NoInverse, tC_NoInverse, kC_NoInverse⟩, ⟨ga_NoInverse, gg_NoInverse, eC_NoInverse, hC_NoInverse⟩, ⟨ga_NoInverse, gg_NoInverse, eC_NoInverse, hC_NoInverse, oc_NoInverse, on, ot, mo_NoInverse⟩, nw_NoInverse⟩
  have R_NoInverse : Ref K C_TurnError C_NoInverse fI := ⟨EK_NoInverse, ii_NoInverse, PySem.W.exm_ref eT hT tT su_NoInverse, kv_NoInverse, kt_NoInverse⟩
  have EK_NotCoprime : ExK K C_NotCoprime := ⟨⟨⟨nm_NotCoprime, q_NotCoprime, N_NotCoprime, bs_NotCoprime, _, sn_NotCoprime, sb_NotCoprime, ab_NotCoprime, co_NotCoprime, dd_NotCoprime, m0_NotCoprime, m1_NotCoprime, m2_NotCoprime, m3_NotCoprime, m5_NotCoprime, xL_NotCoprime, rfl⟩, sa_NotCoprime, eC_NotCoprime, tC_NotCoprime, kC_NotCoprime⟩, ⟨ga_NotCoprime, gg_NotCoprime, eC_NotCoprime, hC_NotCoprime⟩, ⟨ga_NotCoprime, gg_NotCoprime, eC_NotCoprime, hC_NotCoprime, oc_NotCoprime, on, ot, mo_NotCoprime⟩, nw_NotCoprime⟩
  have R_NotCoprime : Ref K C_TurnError C_NotCoprime fI := ⟨EK_NotCoprime, ii_NotCoprime, PySem.W.exm_ref eT hT tT su_NotCoprime, kv_NotCoprime, kt_NotCoprime⟩
  have M_TurnError := PySem.W.mg_of X G g_TurnError
  have M_NoInverse := PySem.W.mg_of X G g_NoInverse
  have M_NotCoprime := PySem.W.mg_of X G g_NotCoprime
  refine ⟨_, fun s v => .of_eq rfl, fun base _ _ => ok_law (P := l.prog) (w := w) (base := base) F17 T ⟨⟨_, _, F0, b0, PySem.W.mg_of X G a0⟩, ⟨_, _, F1, b1, PySem.W.mg_of X G a1⟩, ⟨_, _, F2, b2, PySem.W.mg_of X G a2⟩, ⟨_, _, F3, b3, PySem.W.mg_of X G a3⟩, ⟨_, _, F4, b4, PySem.W.mg_of X G a4⟩, ⟨_, _, F5, b5, PySem.W.mg_of X G a5⟩, ⟨_, _, F6, b6, PySem.W.mg_of X G a6⟩, ⟨_, _, F7, b7, PySem.W.mg_of X G a7⟩, ⟨_, _, F8, b8, PySem.W.mg_of X G a8⟩, ⟨_, _, F9, b9, PySem.W.mg_of X G a9⟩, ⟨_, _, F10, b10, PySem.W.mg_of X G a10⟩, ⟨_, _, F11, b11, PySem.W.mg_of X G a11⟩, ⟨_, _, F12, b12, PySem.W.mg_of X G a12⟩, ⟨_, _, F13, b13, PySem.W.mg_of X G a13⟩, ⟨_, _, F14, b14, PySem.W.mg_of X G a14⟩, ⟨_, _, F15, b15, PySem.W.mg_of X G a15⟩, ⟨_, _, F16, b16, PySem.W.mg_of X G a16⟩⟩ ⟨⟨F_I, b_I, tI⟩, R_NoInverse, R_NotCoprime, M_NoInverse, M_NotCoprime, exm2 (PySem.W.exm_ref eC_NoInverse hC_NoInverse tC_NoInverse sii) (PySem.W.exm_ref eC_NotCoprime hC_NotCoprime tC_NotCoprime sin), exm2 (PySem.W.exm_ref eC_NoInverse hC_NoInverse tC_NoInverse sni) (PySem.W.exm_ref eC_NotCoprime hC_NotCoprime tC_NotCoprime snn)⟩⟩
end My
open PySem PySem.W PyProof.Rows
set_option maxRecDepth 100000 in
set_option maxHeartbeats 0 in
theorem PySem.Challenge.cw_turnsums_k07_numbers_by_names_holds : PySem.Challenge.rw_turnsums_k07_numbers_by_names.Holds := by
  w_on; o_law; k_head; (case hw => w_witness2)
  k_fill
  refine My.walk_ofG (l := PySem.Challenge.rw_turnsums_k07_numbers_by_names) (n := 63) (k := 6) (x := "_law_script") (sp := fun w => My.spLaw _) rfl (by decide) rfl ⟨rfl, by decide, by decide⟩ (fun w h Y => PySem.W.kIn_of Y) ?F (fun _ _ a ns hl _ hS => ⟨a, ns, rfl, hS, hl, fun _ => rfl⟩)
  case F =>
    intro w mg fa h KX G hmg
    refine' My.all_mk KX G hmg ?g_TurnError ?g_NoInverse ?g_NotCoprime ?on ?ot ?eT ?hT ?tT ?xL_NoInverse ?sa_NoInverse ?ga_NoInverse ?gg_NoInverse ?nw_NoInverse ?ii_NoInverse ?oc_NoInverse ?kC_NoInverse ?eC_NoInverse ?tC_NoInverse ?hC_NoInverse ?mo_NoInverse ?su_NoInverse ?kv_NoInverse ?kt_NoInverse ?xL_NotCoprime ?sa_NotCoprime ?ga_NotCoprime ?gg_NotCoprime ?nw_NotCoprime ?ii_NotCoprime ?oc_NotCoprime ?kC_NotCoprime ?eC_NotCoprime ?tC_NotCoprime ?hC_NotCoprime ?mo_NotCoprime ?su_NotCoprime ?kv_NotCoprime ?kt_NotCoprime ?lI ?cI ?kI ?tI ?sii ?sin ?sni ?snn ?a0 ?l0 ?c0 ?k0 ?a1 ?l1 ?c1 ?k1 ?a2 ?l2 ?c2 ?k2 ?a3 ?l3 ?c3 ?k3 ?a4 ?l4 ?c4 ?k4 ?a5 ?l5 ?c5 ?k5 ?a6 ?l6 ?c6 ?k6 ?a7 ?l7 ?c7 ?k7 ?a8 ?l8 ?c8 ?k8 ?a9 ?l9 ?c9 ?k9 ?a10 ?l10 ?c10 ?k10 ?a11 ?l11 ?c11 ?k11 ?a12 ?l12 ?c12 ?k12 ?a13 ?l13 ?c13 ?k13 ?a14 ?l14 ?c14 ?k14 ?a15 ?l15 ?c15 ?k15 ?a16 ?l16 ?c16 ?k16 ?a17 ?l17 ?c17 ?k17 ?z0 ?z1 ?z2 ?z3 ?z4 ?z5 ?z6 ?z7 ?z8 ?z9 ?z10 ?z11 ?z12 ?z13 ?z14 ?z15
    (case g_TurnError => first | k_is | rfl)
    (case g_NoInverse => first | k_is | rfl)
    (case g_NotCoprime => first | k_is | rfl)
    (case on => first | k_is | rfl)
    (case ot => first | k_is | rfl)
    (case eT => first | k_is | rfl)
    (case hT => first | k_is | rfl)
    (case tT => first | k_is | rfl)
    (case xL_NoInverse => first | k_is | rfl)
    (case sa_NoInverse => first | k_is | rfl)
    (case ga_NoInverse => first | k_is | rfl)
    (case gg_NoInverse => first | k_is | rfl)
    (case nw_NoInverse => first | k_is | rfl)
    (case ii_NoInverse => first | k_is | rfl)
    (case oc_NoInverse => first | k_is | rfl)
    (case kC_NoInverse => first | k_is | rfl)
    (case eC_NoInverse => first | k_is | rfl)
    (case tC_NoInverse => first | k_is | rfl)
    (case hC_NoInverse => first | k_is | rfl)
    (case mo_NoInverse => first | k_is | rfl)
    (case su_NoInverse => first | k_is | rfl)
    (case kv_NoInverse => first | k_is | rfl)
    (case kt_NoInverse => first | k_is | rfl)
    (case xL_NotCoprime => first | k_is | rfl)
    (case sa_NotCoprime => first | k_is | rfl)
    (case ga_NotCoprime => first | k_is | rfl)
    (case gg_NotCoprime => first | k_is | rfl)
    (case nw_NotCoprime => first | k_is | rfl)
    (case ii_NotCoprime => first | k_is | rfl)
    (case oc_NotCoprime => first | k_is | rfl)
    (case kC_NotCoprime => first | k_is | rfl)
    (case eC_NotCoprime => first | k_is | rfl)
    (case tC_NotCoprime => first | k_is | rfl)
    (case hC_NotCoprime => first | k_is | rfl)
    (case mo_NotCoprime => first | k_is | rfl)
    (case su_NotCoprime => first | k_is | rfl)
    (case kv_NotCoprime => first | k_is | rfl)
    (case kt_NotCoprime => first | k_is | rfl)
    (case lI => first | k_is | rfl)
    (case cI => first | k_is | rfl)
    (case kI => first | k_is | rfl)
    (case tI => first | k_is | rfl)
    (case sii => first | k_is | rfl)
    (case sin => first | k_is | rfl)
    (case sni => first | k_is | rfl)
    (case snn => first | k_is | rfl)
    (case a0 => k_is)
    (case l0 => k_is)
    (case c0 => k_is)
    (case k0 => k_is)
    (case a1 => k_is)
    (case l1 => k_is)
    (case c1 => k_is)
    (case k1 => k_is)
    (case a2 => k_is)
    (case l2 => k_is)
    (case c2 => k_is)
    (case k2 => k_is)
    (case a3 => k_is)
    (case l3 => k_is)
    (case c3 => k_is)
    (case k3 => k_is)
    (case a4 => k_is)
    (case l4 => k_is)
    (case c4 => k_is)
    (case k4 => k_is)
    (case a5 => k_is)
    (case l5 => k_is)
    (case c5 => k_is)
    (case k5 => k_is)
    (case a6 => k_is)
    (case l6 => k_is)
    (case c6 => k_is)
    (case k6 => k_is)
    (case a7 => k_is)
    (case l7 => k_is)
    (case c7 => k_is)
    (case k7 => k_is)
    (case a8 => k_is)
    (case l8 => k_is)
    (case c8 => k_is)
    (case k8 => k_is)
    (case a9 => k_is)
    (case l9 => k_is)
    (case c9 => k_is)
    (case k9 => k_is)
    (case a10 => k_is)
    (case l10 => k_is)
    (case c10 => k_is)
    (case k10 => k_is)
    (case a11 => k_is)
    (case l11 => k_is)
    (case c11 => k_is)
    (case k11 => k_is)
    (case a12 => k_is)
    (case l12 => k_is)
    (case c12 => k_is)
    (case k12 => k_is)
    (case a13 => k_is)
    (case l13 => k_is)
    (case c13 => k_is)
    (case k13 => k_is)
    (case a14 => k_is)
    (case l14 => k_is)
    (case c14 => k_is)
    (case k14 => k_is)
    (case a15 => k_is)
    (case l15 => k_is)
    (case c15 => k_is)
    (case k15 => k_is)
    (case a16 => k_is)
    (case l16 => k_is)
    (case c16 => k_is)
    (case k16 => k_is)
    (case a17 => k_is)
    (case l17 => k_is)
    (case c17 => k_is)
    (case k17 => k_is)
    (case z0 => k_is)
    (case z1 => k_is)
    (case z2 => k_is)
    (case z3 => k_is)
    (case z4 => k_is)
    (case z5 => k_is)
    (case z6 => k_is)
    (case z7 => k_is)
    (case z8 => k_is)
    (case z9 => k_is)
    (case z10 => k_is)
    (case z11 => k_is)
    (case z12 => k_is)
    (case z13 => k_is)
    (case z14 => k_is)
    (case z15 => k_is)

