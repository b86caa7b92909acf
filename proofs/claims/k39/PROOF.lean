import PyProof.Rows.All
import Wide.All
import OpenK.AllK
import Wide.FinOn
import PyProof.NoPylong
import HandS.ForMost
import HandS.ForExc
import HandS.Wide
import HandS.Gcd
import HandS.IsInst
import HandS.ExcIs
import HandS.Property
import HandS.Defaults
import HandS.CallSlots
import HandS.ExcInit
import HandS.ExcField
import HandS.TryMany
import KE.KOpsOwn
import HandS.ClsMeth
import HandS.Evl
import KE.KCallOwn
import KE.KFmtOwn
import HandS.FStr
import PyProof.Rows.Range3
import HandS.Zip
import HandS.TupAny
import HandS.Walk
import HandS.More
import HandS.Star
import HandS.Style
import PySem.Challenge.RW_fieldlots_k39_grounds
set_option Elab.async false
set_option linter.all false
set_option maxRecDepth 100000
namespace Fl
open PySem PySem.Spec PyProof.Rows L2
/-! ### calls by a promise that names no address -/
structure Cal (P : Program) (w : World) (K : PySem.W.Frag) (mg : Str → Option Value) (base : Heap) (k : Nat) (x : Str) (ps : List Str) (sp : Sp) : Prop where
  ex : ∃ (f : Addr) (fd : FuncData), FnOk P w K mg base CX0 k f fd ps sp ∧ mg x = some (.ref f) ∧ PySem.W.keepIn K (.ref f) = true ∧ Binds K fd ps []
structure Dfn (K : PySem.W.Frag) (mg : Str → Option Value) (x qual : Str) (st : Stmt) (ps : List Str) : Prop where
  ex : ∃ (f : Addr) (fd : FuncData), Fun K x qual st f fd ∧ mg x = some (.ref f) ∧ Binds K fd ps []
section
variable {P : Program} {w : World} {K : PySem.W.Frag} {mg : Str → Option Value} {base : Heap}
theorem Dfn.cal {x qual : Str} {st : Stmt} {N ps : List Str} {k : Nat} {sp : Sp} (D : Dfn K mg x qual st ps) (S : FnScope N ps (defScope st)) (len : ∀ vs H Q E, sp vs H Q E → vs.length = ps.length)
    (hbody : ∀ (f : Addr) (cdv : Value) (A : Around) (outer : List Env) (s : Shared) (H : Hp) (vs : List V) (Q : VK) (E : XK), Room k (A.deeper (envOfC qual (defScope st) s.heap.objs.size f cdv)) → sp vs H Q E →
      ∃ t, PSs (cxOf CX0 P w K mg base N qual (defScope st) f cdv A outer s H E).nox (defBody st) t ∧ t { nx := fun _ H' => Q .non H', rt := Q } (start N vs) H) : Cal P w K mg base (k + 1) x ps sp := by
  obtain ⟨f, fd, F, m, b⟩ := D.ex
  exact ⟨f, fd, F.ok S len (hbody f), m, F.kp, b⟩
theorem Cal.mono {j k : Nat} {x : Str} {ps : List Str} {sp : Sp} (C : Cal P w K mg base j x ps sp) (h : j ≤ k) : Cal P w K mg base k x ps sp := by
  obtain ⟨f, fd, F, m, kp, b⟩ := C.ex
  exact ⟨f, fd, F.mono h, m, kp, b⟩
end
theorem pe_cal {X : Cx} {k : Nat} {x : Str} {ps : List Str} {sp : Sp} {p pos : Pos} {e : Expr} {es : List Expr} {t : TA} (C : Cal X.prog X.w X.K X.mg X.base k x ps sp) (hr : Room k X.A) (ha : PA X (e :: es) t) (hg : Gl X x := by rfl)
    (hdb : (x == ("__debug__" : Str)) = false := by decide) (he : starEach (e :: es) X.env = (false, eval e X.env) :: starEach es X.env := by rfl) (hpl : (backTo pos (starEach es X.env)).any (·.1) = false := by rfl) :
    PE X (.Call (.Name x p) (e :: es) [] pos) (tCall sp [] E0 t) := by
  obtain ⟨f, fd, F, m, kp, b⟩ := C.ex
  exact pe_call F hr hg m kp b .nil pass0 ha hdb he hpl
/-- the built-in names that the text leaves alone -/
structure Blt (mg : Str → Option Value) : Prop where
  len : mg "len" = none
  int : mg "int" = none
  abs : mg "abs" = none
  range : mg "range" = none
  isinstance : mg "isinstance" = none
  max : mg "max" = none
  min : mg "min" = none
  sum : mg "sum" = none
  str : mg "str" = none
  bool : mg "bool" = none
  list : mg "list" = none
  ve : mg "ValueError" = none
/-! ### great numbers -/
def CDivA (_ j : Int) : Prop := j ≠ 0 ∧ j.natAbs.log2 < 9000
theorem op_fdivA {X : Cx} : OpR X (binaryOp .FloorDiv) (rI CDivA fun i j => .int (i.fdiv j)) := opI fun i j _ _ _ _ _ hc q => floordiv_int hc.1 q (.inl (PyProof.noPylong_of_log2 hc.2))
theorem divA {i j : Int} {b : Nat} (h : j ≠ 0) (hb : j.natAbs < 2 ^ b) (h0 : 0 < b) (h9 : b ≤ 9000) : CDivA i j := ⟨h, Nat.lt_of_lt_of_le (PySem.Flt.log2_lt_of h0 hb) h9⟩
/-! ### heaps -/
/-- all that was tracked is as it was, but for p -/
def Keeps (H H' : Hp) (p : Addr) : Prop := ∀ b o, H b = some o → b ≠ p → H' b = some o
theorem Keeps.refl (H : Hp) (p : Addr) : Keeps H H p := fun _ _ h _ => h
theorem Keeps.trans {H H1 H2 : Hp} {p : Addr} (a : Keeps H H1 p) (b : Keeps H1 H2 p) : Keeps H H2 p := fun c o h n => b c o (a c o h n) n
theorem Keeps.upd {H : Hp} {p : Addr} {o : HO} : Keeps H (upd H p o) p := fun b u h n => by rw [upd_ne n]; exact h
theorem same_keeps {H H' : Hp} {p : Addr} (h : Same H H') : Keeps H H' p := fun b o e _ => h b o e
theorem same_upd {H : Hp} {p : Addr} {o : HO} (h : H p = none) : Same H (upd H p o) := fun b u e => by rw [upd_ne (ne_of_none e h)]; exact e
theorem Keeps.free {H H' : Hp} {p l : Addr} (k : Keeps H H' p) (h : H' l = none) (n : l ≠ p) : H l = none := by
  cases q : H l with
  | none => rfl
  | some o =>
    rw [k l o q n] at h
    cases h
theorem ints_at {ns : List Int} {j : Nat} (h : j < ns.length) : (ns.map V.int)[j]? = some (V.int ns[j]) := by
  rw [List.getElem?_map, List.getElem?_eq_getElem h]
  rfl
theorem int_of_map {ns : List Int} {i : Nat} {y : V} (h : (ns.map V.int)[i]? = some y) : ∃ z, ns[i]? = some z ∧ y = V.int z := by
  rw [List.getElem?_map] at h
  cases e : ns[i]? with
  | none => rw [e] at h; cases h
  | some z => rw [e] at h; exact ⟨z, rfl, (Option.some.inj h).symm⟩
/-- where the pool stands: its own list, the script's numbers -/
structure Pla where
  p : Addr
  q : Addr
instance : Coe Pla Addr := ⟨Pla.p⟩
/-- the pool: the script's numbers, how many are taken, what is left of one, a state, the draws -/
def Pool (H : Hp) (p : Pla) : Prop := ∃ (ns : List Int) (i b c d : Int), H p = some (.lst [.ref p.q, .int i, .int b, .int c, .int d]) ∧ H p.q = some (.lst (ns.map V.int)) ∧ 0 ≤ i ∧ p.q ≠ p
theorem Pool.same {H H' : Hp} {p : Pla} (h : Pool H p) (s : Same H H') : Pool H' p := by
  obtain ⟨ns, i, b, c, d, h1, h2, h3, h4⟩ := h
  exact ⟨ns, i, b, c, d, s _ _ h1, s _ _ h2, h3, h4⟩
theorem Pool.upd {H : Hp} {p : Pla} {x : Addr} {o : HO} (h : Pool H p) (hx : H x = none) : Pool (upd H x o) p := h.same (same_upd hx)
theorem Pool.store {H : Hp} {p : Pla} {x : Addr} {o : HO} (h : Pool H p) (hp : x ≠ p) (hq : x ≠ p.q) : Pool (L2.upd H x o) p := by
  obtain ⟨ns, i, b, c, d, h1, h2, h3, h4⟩ := h
  exact ⟨ns, i, b, c, d, by rw [upd_ne (Ne.symm hp)]; exact h1, by rw [upd_ne (Ne.symm hq)]; exact h2, h3, h4⟩
theorem Pool.apart {H : Hp} {p : Pla} {x : Addr} (h : Pool H p) (hx : H x = none) : x ≠ p ∧ x ≠ p.q := by
  obtain ⟨ns, i, b, c, d, h1, h2, _⟩ := h
  exact ⟨Ne.symm (ne_of_none h1 hx), Ne.symm (ne_of_none h2 hx)⟩
/-! ### tests -/
theorem ifD {p : Prop} [Decidable p] {A B : Prop} (h1 : p → A) (h2 : ¬ p → B) : if decide p = true then A else B := by
  by_cases h : p
  · rw [decide_eq_true h]; exact iteT (h1 h)
  · rw [decide_eq_false h]; exact iteF (h2 h)
theorem ifE {a b : Int} {A B : Prop} (h1 : a = b → A) (h2 : a ≠ b → B) : if decide (V.int a = V.int b) = true then A else B :=
  ifD (fun h => h1 (V.int.inj h)) fun h => h2 fun e => h (by rw [e])
theorem ifNE {a b : Int} {A B : Prop} (h1 : a ≠ b → A) (h2 : a = b → B) : if (!decide (V.int a = V.int b)) = true then A else B := by
  by_cases h : a = b
  · rw [decide_eq_true (show V.int a = V.int b by rw [h])]; exact iteF (h2 h)
  · rw [decide_eq_false (show ¬ V.int a = V.int b from fun e => h (V.int.inj e))]; exact iteT (h1 h)
theorem ifN {p : Prop} [Decidable p] {A B : Prop} (h1 : ¬ p → A) (h2 : p → B) : if (!decide p) = true then A else B := by
  by_cases h : p
  · rw [decide_eq_true h]; exact iteF (h2 h)
  · rw [decide_eq_false h]; exact iteT (h1 h)
theorem ifB {c : Bool} {A B : Prop} (h1 : c = true → A) (h2 : c = false → B) : if c = true then A else B := by
  cases c
  · exact iteF (h2 rfl)
  · exact iteT (h1 rfl)
theorem fm (a : Int) {b : Int} (h : 0 < b) : 0 ≤ a.fmod b ∧ a.fmod b < b := ⟨Int.fmod_nonneg_of_pos a h, Int.fmod_lt_of_pos a h⟩
/-! ### Euclid's steps -/
def fibp : Nat → Nat × Nat
  | 0 => (0, 1)
  | n + 1 => match fibp n with | (a, b) => (b, a + b)
def Eu : Nat → Nat → Nat → Prop
  | 0, _, y => y = 0
  | n + 1, x, y => y = 0 ∨ Eu n y (x % y)
theorem eu_mono : ∀ {n x y : Nat}, Eu n x y → Eu (n + 1) x y
  | 0, _, _, h => .inl h
  | _ + 1, _, _, .inl h => .inl h
  | n + 1, _, _, .inr h => .inr (eu_mono (n := n) h)
theorem fibp_step (n : Nat) : (fibp (n + 1)).1 = (fibp n).2 ∧ (fibp (n + 1)).2 = (fibp n).1 + (fibp n).2 := by
  show (match fibp n with | (a, b) => (b, a + b)).1 = _ ∧ (match fibp n with | (a, b) => (b, a + b)).2 = _
  cases fibp n
  exact ⟨rfl, rfl⟩
theorem eu_fib : ∀ (n x y : Nat), (y < (fibp n).2 → Eu n x y) ∧ (y < (fibp (n + 1)).2 → Eu (n + 1) x y) := by
  intro n
  induction n with
  | zero =>
    intro x y
    refine ⟨fun h => ?_, fun h => .inl ?_⟩
    · have h' : y < 1 := h
      show y = 0
      omega
    · have h' : y < 1 := h
      omega
  | succ n ih =>
    intro x y
    refine ⟨(ih x y).2, fun h => ?_⟩
    rw [(fibp_step (n + 1)).2, (fibp_step n).1] at h
    by_cases hy : y = 0
    · exact .inl hy
    refine .inr ?_
    have hr : x % y < y := Nat.mod_lt _ (by omega)
    by_cases hc : x % y < (fibp (n + 1)).2
    · exact (ih y (x % y)).2 hc
    · by_cases h0 : x % y = 0
      · exact .inl h0
      refine .inr ?_
      refine (ih (x % y) (y % (x % y))).1 ?_
      have e : y % (x % y) ≤ y - x % y := by
        rw [Nat.mod_eq_sub_mod (Nat.le_of_lt hr)]
        exact Nat.mod_le _ _
      omega
theorem fib_big : 10 ^ 124 ≤ (fibp 599).2 := by decide +kernel
theorem eu_all {x y : Nat} (h : y < 10 ^ 124) : Eu 599 x y := (eu_fib 599 x y).1 (Nat.lt_of_lt_of_le h fib_big)
end Fl

set_option Elab.async false
set_option linter.all false
set_option maxRecDepth 100000
set_option maxHeartbeats 4000000
namespace Fl
section
open PySem PySem.W PySem.Spec PySem.Calls PyProof.Rows
variable {prog : Program} {w : World} {A : Around} {E : Value → Shared → Prop} {s : Shared} {K : Frag} {x D : Addr} {ox : Obj} {od : Option Obj}
theorem findObj_dataE {C : Addr} {name : Str} {a g : Value} (hc : (clsIn K C).isSome = true) (ha : findIn K (.ref C) name = some (some a)) (hg : specialIn K a "__get__" = some (some g)) (ht : takesIn K a = some true) : findObj K C od name = some (.bind g a) := by
  obtain ⟨cd, hc⟩ := Option.isSome_iff_exists.mp hc
  unfold findObj
  rw [hc, Option.bind_some, ha, Option.bind_some]
  simp [hg, ht]
/-- __class__ of an exception of an own class, with or without a dict of its own -/
theorem kin_classX {Q : Option Value → Shared → Prop} (gAt : findIn K (.ref D) "__getattribute__" = some (some (.builtin "BaseException.__getattribute__"))) (gGt : findIn K (.ref D) "__getattr__" = some none) (sBe : subIn K (.ref D) (.type "BaseException") = some true)
    (dDc : hasDictIn K D = true) (ha : findIn K (.ref D) "__class__" = some (some (.builtin "object.__class__")))
    (hn : specialIn K (.builtin "object.__class__") "__get__" = some (some (.builtin "getset_descriptor.__get__"))) (tTk : takesIn K (.builtin "object.__class__") = some true) (hm : mroIn K D (.type "object") = some true)
    (X : K.In s.heap) (I : InstAt s.heap x ox D od) (h : Q (some (.ref D)) { s with toks := s.toks + 1 }) : wpAny (model prog w) A (getAttr? (.ref x) "__class__") Q E s := by
  have fnd : findObj K D od "__class__" = some (.bind (.builtin "getset_descriptor.__get__") (.builtin "object.__class__")) := findObj_dataE (by obtain ⟨cd, hc, _⟩ := any_some dDc; rw [hc]; rfl) ha hn tTk
  obtain ⟨heap0, g, d, t, os⟩ := s
  have lkT := I.type (M := model prog w)
  have lkG := looks_findIn (M := model prog w) X gAt
  have lkA := looks_findIn (M := model prog w) X gGt
  have lkF := looks_find (M := model prog w) X I fnd
  have isBe : Looks (model prog w) heap0 (isInstance (.ref x) (.type "BaseException")) true := lkT.andThen (looks_subIn X sBe)
  have nb0 : (false && onTheHeap (Value.builtin "BaseException.__getattribute__")) = false := rfl
  have nb2 : (Value.builtin "BaseException.__getattribute__" == Value.builtin "object.__getattribute__") = false := by decide +kernel
  have nb1 : (onTheHeap (Value.ref D) && Value.builtin "BaseException.__getattribute__" == Value.builtin "object.__getattribute__") = false := by rw [nb2]; rfl
  unfold getAttr? getAttrBy? getAttrBy
  refine wpAny_bind (wpAny_mkText (wpAny_bind (wpAny_attempt (wpAny_holding (wpAny_bind (lkT.at (wpAny_bind (lkG.at ?_))))))))
  show wpAny _ _ (if (onTheHeap (Value.ref D) && Value.builtin "BaseException.__getattribute__" == Value.builtin "object.__getattribute__") = true then _ else _) _ _ _
  rw [nb1, if_neg Bool.false_ne_true]
  unfold getAttrByItsOwn hookBefore
  refine wpAny_bind ?_
  rw [if_pos (show onTheHeap (Value.ref D) = true from rfl)]
  refine lkA.at ?_
  refine wpAny_bind (wpAny_attempt (wpAny_holding ?_))
  unfold callGetattribute
  rw [nb0, if_neg Bool.false_ne_true]
  unfold boundAndCalled
  rw [PySem.F.excAttr_ValueError.ga.bind (.ref x)]
  refine wpAny_bind (wpAny_pure ?_)
  show wpAny _ _ (call (.builtin "BaseException.__getattribute__") [.ref x, .str "__class__" t]) _ _ _
  refine wpAny_call (codeAny_call_builtin PySem.F.excAttr_ValueError.ga.plain PySem.F.entry_bexc_ga ?_)
  refine @check_slot (model prog w) _ _ ⟨heap0, g, d, t + 1, os⟩ "BaseException.__getattribute__" "BaseException" "__getattribute__" (.ref x) [.str "__class__" t] [] _ (by decide +kernel) (by decide +kernel) isBe (PySem.F.args_bexc_ga (.ref x) (.str "__class__" t)) ?_
  unfold Builtin.«object.__getattribute__»
  refine wpAny_bind (wpAny_of_eq (a := ((Value.ref x : Value), [Value.str "__class__" t])) (by first | rfl | (simp only [slotArgs]; rfl)) ?_)
  refine wpAny_bind (wpAny_pure (wpAny_bind (lkT.at (wpAny_bind (lkF.at ?_)))))
  show wpAny _ _ (holding [Value.builtin "object.__class__"] (call (.builtin "getset_descriptor.__get__") [.builtin "object.__class__", .ref x, .ref D]) >>= ret) _ _ _
  refine wpAny_bind (wpAny_holding (wpAny_call (class_get (s := ⟨heap0, g, d, t + 1, os⟩) (ox := ox) (od := od) X I hm ?_)))
  refine wpAny_pure ?_
  show wpAny _ _ (handedOut (.ref D)) _ _ _
  rw [handedOut_of (v := .ref D) rfl]
  first
    | exact wpAny_pure (wpAny_pure h)
    | exact wpAny_pure h
    | exact wpAny_pure (wpAny_bind (wpAny_pure (wpAny_pure h)))
theorem kitx_excX (gAt : findIn K (.ref D) "__getattribute__" = some (some (.builtin "BaseException.__getattribute__"))) (gGt : findIn K (.ref D) "__getattr__" = some none) (sBe : subIn K (.ref D) (.type "BaseException") = some true) (dDc : hasDictIn K D = true) (ha : findIn K (.ref D) "__class__" = some (some (.builtin "object.__class__")))
    (hn : specialIn K (.builtin "object.__class__") "__get__" = some (some (.builtin "getset_descriptor.__get__"))) (tTk : takesIn K (.builtin "object.__class__") = some true) (hm : mroIn K D (.type "object") = some true) :
    KitX K (.ref x) (.ref D) (fun h => InstAt h x ox D od) where
  ty := fun _ _ _ I => I.type
  it := fun _ _ X _ => by
    obtain ⟨cdE, hcE, _⟩ := any_some dDc
    unfold clsIn at hcE
    split at hcE
    · rename_i c' d' cd' sl' ho
      intro A' Q' E' s' k q
      unfold isType loadHead
      exact wpAny_bind (wpAny_loadPart (k _ _ (X _ _ ho)) (wpAny_pure q))
    · cases hcE
  ne := fun h tp dd its n sl X htp => by
    obtain ⟨cdE, hcE, _⟩ := any_some dDc
    refine Bool.eq_false_iff.mpr fun q => ?_
    have e : D = tp := Value.ref.inj (beq_iff_eq.mp q)
    subst e
    unfold clsIn at hcE
    split at hcE
    · rename_i c' d' cd' sl' ho
      have z := (X _ _ ho).symm.trans htp
      cases z
    · cases hcE
  ca := fun X I k => kin_classX gAt gGt sBe dDc ha hn tTk hm X I k
end
section
open PySem PySem.Spec PyProof.Rows L2
/-- the caught error at a: of the class D, its dict d -/
def Err (H : Hp) (d : Option Addr) : Prop := d = none ∨ ∃ dd fs, d = some dd ∧ H dd = some (.xd fs)
theorem exc_inst {X : Cx} {a D : Addr} {oe : Obj} {pn pins : List (Addr × Obj)} {d : Option Addr} {σ : L2.St} {H : Hp} {s : Shared} (hz : Zc (.ref D) d oe) (hf : ∃ vs, oe.data = .fields vs) (I : Inv (X.suite a ((a, oe) :: pn)) pins σ H s) (he : Err H d) :
    ∃ od, PySem.W.InstAt s.heap a oe D od := by
  obtain ⟨hget, _⟩ := I.pin (a, oe) (List.mem_append.mpr (.inl List.mem_cons_self))
  obtain ⟨vs, hv⟩ := hf
  obtain ⟨oc, oda, odt, osl⟩ := oe
  obtain ⟨h1, h2⟩ := hz
  dsimp only at h1 h2 hv
  subst h1 h2 hv
  rcases he with rfl | ⟨dd, fs, rfl, hd⟩
  · exact ⟨none, hget, rfl, rfl, trivial⟩
  · have hx : ObjOk X.prog X.w H s.heap dd (.xd fs) := I.hok dd _ hd
    obtain ⟨mA, hns, hr⟩ := hx
    obtain ⟨od, ho, hl⟩ := lookIn_ns hns
    exact ⟨some od, hget, rfl, rfl, ho⟩
def rIsX (K : PySem.W.Frag) (D a : Addr) (cls : Value) (d : Option Addr) : List V → Hp → VK → Prop := fun xs H Q => cls = .ref D ∧ Err H d ∧ ∃ (c : V) (cv : Value) (b : Bool), xs = [.ref a, c] ∧ ClsV c cv ∧ PySem.W.kitOne K (.ref D) cv = some b ∧ Q (.bl b) H
def rIsXT (K : PySem.W.Frag) (D a : Addr) (cls : Value) (d : Option Addr) : List V → Hp → VK → Prop := fun xs H Q => cls = .ref D ∧ Err H d ∧ ∃ (tp : Addr) (cs : List V) (us : List Value) (b : Bool), xs = [.ref a, .ref tp] ∧ H tp = some (.tup cs) ∧ Paired ClsV cs us ∧ PySem.W.kitAny K (.ref D) us = some b ∧ Q (.bl b) H
theorem call_isX {X : Cx} {a D : Addr} {cls : Value} {d : Option Addr} {oe : Obj} {pn : List (Addr × Obj)} (C : ExcC X.K D) (hz : Zc cls d oe) (hf : ∃ vs, oe.data = .fields vs) : CallR (X.suite a ((a, oe) :: pn)) (.builtin "isinstance") (rIsX X.K D a cls d) := by
  intro pins s σ H xs us Q I r h
  obtain ⟨rfl, he, c, cv, b, rfl, hcv, e, q⟩ := h
  obtain ⟨od, J⟩ := exc_inst hz hf I he
  obtain ⟨u1, u2, rfl, r1, r2⟩ := vals2 r
  have ec := hcv.eq r2
  subst ec
  cases (show u1 = Value.ref a from r1)
  exact PySem.W.kia_one (kitx_excX C.hg C.hk C.hs C.hd C.ha C.hn C.ht C.hm) I.kIn J e (fun z => nomatch z) fun tk => ⟨.bl b, H, I.kept (t' := tk) fun _ _ z => z, rfl, q⟩
theorem call_isXT {X : Cx} {a D : Addr} {cls : Value} {d : Option Addr} {oe : Obj} {pn : List (Addr × Obj)} (C : ExcC X.K D) (hz : Zc cls d oe) (hf : ∃ vs, oe.data = .fields vs) : CallR (X.suite a ((a, oe) :: pn)) (.builtin "isinstance") (rIsXT X.K D a cls d) := by
  intro pins s σ H xs us Q I r h
  obtain ⟨rfl, he, tp, cs, ws, b, rfl, hT, k, e, q⟩ := h
  obtain ⟨od, J⟩ := exc_inst hz hf I he
  obtain ⟨u1, u2, rfl, r1, r2⟩ := vals2 r
  cases (show u1 = Value.ref a from r1)
  cases (show u2 = Value.ref tp from r2)
  obtain ⟨_, its, rv, o, h1, h2, n, h3⟩ := (show ObjOk X.prog X.w H s.heap tp (.tup cs) from I.hok tp _ hT)
  have e3 := ClsV.all k rv
  subst e3
  obtain ⟨oc, od', dt, sl⟩ := o
  simp only at h2 h3
  subst h2 h3
  exact PySem.W.kia_tup (kitx_excX C.hg C.hk C.hs C.hd C.ha C.hn C.ht C.hm) I.kIn J h1 e (fun z => nomatch z) fun tk => ⟨.bl b, H, I.kept (t' := tk) fun _ _ z => z, rfl, q⟩
/-! ### making an instance where what is raised is wished for at the caller's slots -/
def tMakeS (C : Addr) (sp : Sp) (dvs : List V) (E : L2.St → XK) (t : TA) : TE := fun σ H Q => t σ H fun vs H1 => ∀ x dx, H1 x = none → H1 dx = none → dx ≠ x →
  sp (.ref x :: (vs ++ dvs)) (upd (upd H1 dx (.own x)) x (.ins C dx [])) (fun v H2 => v = .non ∧ Q (.ref x) H2) (E σ)
section
variable {X : Cx} {CX : CXT} {k : Nat} {f C : Addr} {fd : FuncData} {ps : List Str} {sp : Sp} {dvs : List V} {ds : List Value} {E : L2.St → XK} {x m : Str} {p pos apos : Pos} {e o : Expr} {es : List Expr} {ta : TE} {t : TA}
theorem run_makeS {pins : List (Addr × Obj)} {σ : L2.St} {H : Hp} {s : Shared} {Q : VK} {us : List Value} {vs : List V} (M : Mk X.K C f) (F : FnOk X.prog X.w X.K X.mg X.base CX k f fd ps sp) (hr : Room (k + 1) X.A) (hb : Binds X.K fd ps ds) (hd : Vals dvs ds)
    (hx : PassesAt CX X σ (E σ)) (I : Inv X pins σ H s) (r : Vals vs us)
    (h : ∀ x dx, H x = none → H dx = none → dx ≠ x → sp (.ref x :: (vs ++ dvs)) (upd (upd H dx (.own x)) x (.ins C dx [])) (fun v H2 => v = .non ∧ Q (.ref x) H2) (E σ)) :
    wpAny (model X.prog X.w) X.A (call (.ref C) us) (EP X pins σ Q) X.xe s := by
  have hnew := h (s.heap.objs.size + 1) s.heap.objs.size (I.hok.fresh (Nat.le_succ _)) (I.hok.fresh (Nat.le_refl _)) (Nat.ne_of_lt (Nat.lt_succ_self _))
  have Inew := Inv.made (C := C) I
  have rAll : Vals (V.ref (s.heap.objs.size + 1) :: (vs ++ dvs)) (Value.ref (s.heap.objs.size + 1) :: (us ++ ds)) := .cons rfl (r.append hd)
  have hlen : (Value.ref (s.heap.objs.size + 1) :: us ++ ds).length = ps.length := by
    have e := rAll.length
    rw [F.len _ _ _ _ hnew] at e
    exact e.symm
  refine wpAny_call (make_map (f := f) I.kIn M.makes M.init (beq_iff_eq.mp M.fn) (codeAny_mono (F.run _ X.stack _ _ ⟨Value.ref (s.heap.objs.size + 1) :: us, []⟩ (Value.ref (s.heap.objs.size + 1) :: (us ++ ds)) _ _ (E σ) (hr.make C us [])
    (Inew.env0.make C us []) (hb _ (Value.ref (s.heap.objs.size + 1) :: us) Inew.kIn hlen) rAll hnew) fun r s' hend => ?_))
  cases r with
  | error e => exact hx pins _ _ e s' Inew hend
  | ok fl =>
    cases fl with
    | ret u =>
      obtain ⟨v, H', Iend, rVal, ev, qEnd⟩ := Inew.after hend
      subst ev
      exact ⟨rVal, ⟨V.ref (s.heap.objs.size + 1), H', Iend, rfl, qEnd⟩⟩
    | next => exact False.elim hend
    | brk => exact False.elim hend
    | cont => exact False.elim hend
theorem pe_makeS (M : Mk X.K C f) (F : FnOk X.prog X.w X.K X.mg X.base CX k f fd ps sp) (hr : Room (k + 1) X.A) (hg : Gl X x) (hm : X.mg x = some (.ref C)) (hb : Binds X.K fd ps ds) (hd : Vals dvs ds) (hx : ∀ σ, PassesAt CX X σ (E σ))
    (ha : PA X (e :: es) t) (hdb : (x == ("__debug__" : Str)) = false := by decide) (he : starEach (e :: es) X.env = (false, eval e X.env) :: starEach es X.env := by rfl) (hpl : (backTo pos (starEach es X.env)).any (·.1) = false := by rfl) :
    PE X (.Call (.Name x p) (e :: es) [] pos) (tMakeS C sp dvs E t) := by
  refine ⟨fun pins s σ H Q I h => ?_⟩
  refine wpAny_Call_Name_kw (ld_glob I hg hm ?_ hdb)
  refine PySem.W.callWith_K (h₀ := X.base) I.ok.mod.kin M.kp (thn (ha.run pos pins s σ H _ I h) fun us s1 ⟨vs, H1, I1, r, q⟩ => ⟨I1.kIn, ?_⟩) he hpl
  exact run_makeS M F hr hb hd (hx σ) I1 r q
end
/-- a class that is called: C(..), the promise of its __init__; dvs the defaults that fill up -/
structure CalC (P : Program) (w : World) (K : PySem.W.Frag) (mg : Str → Option Value) (base : Heap) (CX : CXT) (k : Nat) (C : Addr) (x : Str) (ps : List Str) (dvs : List V) (sp : Sp) : Prop where
  ex : ∃ (f : Addr) (fd : FuncData) (ds : List Value), Mk K C f ∧ FnOk P w K mg base CX k f fd ps sp ∧ mg x = some (.ref C) ∧ Binds K fd ps ds ∧ Vals dvs ds
theorem pe_mk {X : Cx} {k : Nat} {C : Addr} {x : Str} {ps : List Str} {dvs : List V} {sp : Sp} {p pos : Pos} {e : Expr} {es : List Expr} {t : TA} (M : CalC X.prog X.w X.K X.mg X.base (L2.CX X.prog X.w) k C x ps dvs sp) (hr : Room (k + 1) X.A) (ha : PA X (e :: es) t) (hg : Gl X x := by rfl)
    (hdb : (x == ("__debug__" : Str)) = false := by decide) (he : starEach (e :: es) X.env = (false, eval e X.env) :: starEach es X.env := by rfl) (hpl : (backTo pos (starEach es X.env)).any (·.1) = false := by rfl) :
    PE X (.Call (.Name x p) (e :: es) [] pos) (tMake C sp dvs E0 t) := by
  obtain ⟨f, fd, ds, M, F, m, b, d⟩ := M.ex
  exact pe_make M F hr hg m b d passL ha hdb he hpl
theorem pe_mkS {X : Cx} {W : WX} {k : Nat} {C : Addr} {x : Str} {ps : List Str} {dvs : List V} {sp : Sp} {p pos : Pos} {e : Expr} {es : List Expr} {t : TA} (M : CalC X.prog X.w X.K X.mg X.base (L2.CX X.prog X.w) k C x ps dvs sp) (tk : Takes X W) (hr : Room (k + 1) X.A) (ha : PA X (e :: es) t) (hg : Gl X x := by rfl)
    (hdb : (x == ("__debug__" : Str)) = false := by decide) (he : starEach (e :: es) X.env = (false, eval e X.env) :: starEach es X.env := by rfl) (hpl : (backTo pos (starEach es X.env)).any (·.1) = false := by rfl) :
    PE X (.Call (.Name x p) (e :: es) [] pos) (tMakeS C sp dvs (WE W) t) := by
  obtain ⟨f, fd, ds, M, F, m, b, d⟩ := M.ex
  exact pe_makeS M F hr hg m b d (fun σ => passAt tk σ) ha hdb he hpl
/-! ### a def that may raise -/
structure CalX (P : Program) (w : World) (K : PySem.W.Frag) (mg : Str → Option Value) (base : Heap) (k : Nat) (x : Str) (ps : List Str) (sp : Sp) : Prop where
  ex : ∃ (f : Addr) (fd : FuncData), FnOk P w K mg base (L2.CX P w) k f fd ps sp ∧ mg x = some (.ref f) ∧ PySem.W.keepIn K (.ref f) = true ∧ Binds K fd ps []
theorem Dfn.calX {P : Program} {w : World} {K : PySem.W.Frag} {mg : Str → Option Value} {base : Heap} {x qual : Str} {st : Stmt} {N ps : List Str} {k : Nat} {sp : Sp} (D : Dfn K mg x qual st ps) (S : FnScope N ps (defScope st)) (len : ∀ vs H Q E, sp vs H Q E → vs.length = ps.length)
    (hbody : ∀ (f : Addr) (cdv : Value) (A : Around) (outer : List Env) (s : Shared) (H : Hp) (vs : List V) (Q : VK) (E : XK), Room k (A.deeper (envOfC qual (defScope st) s.heap.objs.size f cdv)) → sp vs H Q E →
      ∃ t, PSs (cxOf (L2.CX P w) P w K mg base N qual (defScope st) f cdv A outer s H E) (defBody st) t ∧ t { nx := fun _ H' => Q .non H', rt := Q } (start N vs) H) : CalX P w K mg base (k + 1) x ps sp := by
  obtain ⟨f, fd, F, m, b⟩ := D.ex
  exact ⟨f, fd, F.okX S len (hbody f), m, F.kp, b⟩
theorem pe_calX {X : Cx} {k : Nat} {x : Str} {ps : List Str} {sp : Sp} {p pos : Pos} {e : Expr} {es : List Expr} {t : TA} (C : CalX X.prog X.w X.K X.mg X.base k x ps sp) (hr : Room k X.A) (ha : PA X (e :: es) t) (hg : Gl X x := by rfl)
    (hdb : (x == ("__debug__" : Str)) = false := by decide) (he : starEach (e :: es) X.env = (false, eval e X.env) :: starEach es X.env := by rfl) (hpl : (backTo pos (starEach es X.env)).any (·.1) = false := by rfl) :
    PE X (.Call (.Name x p) (e :: es) [] pos) (tCall sp [] E0 t) := by
  obtain ⟨f, fd, F, m, kp, b⟩ := C.ex
  exact pe_call F hr hg m kp b .nil passL ha hdb he hpl
theorem pe_calS {X : Cx} {W : WX} {k : Nat} {x : Str} {ps : List Str} {sp : Sp} {p pos : Pos} {e : Expr} {es : List Expr} {t : TA} (C : CalX X.prog X.w X.K X.mg X.base k x ps sp) (tk : Takes X W) (hr : Room k X.A) (ha : PA X (e :: es) t) (hg : Gl X x := by rfl)
    (hdb : (x == ("__debug__" : Str)) = false := by decide) (he : starEach (e :: es) X.env = (false, eval e X.env) :: starEach es X.env := by rfl) (hpl : (backTo pos (starEach es X.env)).any (·.1) = false := by rfl) :
    PE X (.Call (.Name x p) (e :: es) [] pos) (tCallS sp (WE W) t) := by
  obtain ⟨f, fd, F, m, kp, b⟩ := C.ex
  exact pe_callS F hr hg m kp b (fun σ => passAt tk σ) ha hdb he hpl
theorem exm_self {K : PySem.W.Frag} {S : Addr} (h1 : PySem.W.subIn K (.ref S) (.type "BaseException") = some true) (h2 : PySem.W.hasDictIn K S = true) (h3 : PySem.W.typeIn K (.ref S) = some (.type "type")) (h4 : PySem.W.subIn K (.ref S) (.ref S) = some true) :
    PySem.W.exmOne K (.ref S) (.ref S) = some true := PySem.W.exm_ref h1 h2 h3 h4
end
end Fl

set_option Elab.async false
set_option linter.all false
set_option maxRecDepth 100000
set_option maxHeartbeats 4000000
namespace Fl
open PySem PySem.Spec PyProof.Rows L2
/-! ### lowest terms -/
def sh (t u : Int) : Int := if u < 0 then -(Nat.gcd t.natAbs u.natAbs : Nat) else (Nat.gcd t.natAbs u.natAbs : Nat)
def nT (t u : Int) : Int := t.fdiv (sh t u)
def nU (t u : Int) : Int := u.fdiv (sh t u)
theorem sh_abs (t u : Int) : (sh t u).natAbs = Nat.gcd t.natAbs u.natAbs := by
  unfold sh
  split <;> omega
theorem sh_ne {t u : Int} (h : u ≠ 0) : sh t u ≠ 0 := by
  have h1 : 0 < Nat.gcd t.natAbs u.natAbs := Nat.gcd_pos_of_pos_right _ (by omega)
  have := sh_abs t u
  omega
theorem sh_dvd_t (t u : Int) : sh t u ∣ t := Int.natAbs_dvd_natAbs.mp (by rw [sh_abs]; exact Nat.gcd_dvd_left _ _)
theorem sh_dvd_u (t u : Int) : sh t u ∣ u := Int.natAbs_dvd_natAbs.mp (by rw [sh_abs]; exact Nat.gcd_dvd_right _ _)
theorem nT_mul (t u : Int) : nT t u * sh t u = t := by
  unfold nT
  exact Int.fdiv_mul_cancel (sh_dvd_t t u)
theorem nU_mul (t u : Int) : nU t u * sh t u = u := by
  unfold nU
  exact Int.fdiv_mul_cancel (sh_dvd_u t u)
theorem nU_pos {t u : Int} (h : u ≠ 0) : 0 < nU t u := by
  have h1 : 0 < Nat.gcd t.natAbs u.natAbs := Nat.gcd_pos_of_pos_right _ (by omega)
  have e := nU_mul t u
  by_cases hn : u < 0
  · have hs : sh t u < 0 := by
      unfold sh
      rw [if_pos hn]
      omega
    rcases Int.lt_trichotomy (nU t u) 0 with hc | hc | hc
    · have := Int.mul_pos_of_neg_of_neg hc hs
      omega
    · rw [hc] at e
      omega
    · exact hc
  · have hs : 0 < sh t u := by
      unfold sh
      rw [if_neg hn]
      omega
    rcases Int.lt_trichotomy (nU t u) 0 with hc | hc | hc
    · have := Int.mul_neg_of_neg_of_pos hc hs
      omega
    · rw [hc] at e
      omega
    · exact hc
theorem n_cross (t u : Int) : nT t u * u = t * nU t u := by
  have e1 := nT_mul t u
  have e2 := nU_mul t u
  calc nT t u * u = nT t u * (nU t u * sh t u) := by rw [e2]
    _ = nT t u * sh t u * nU t u := by rw [Int.mul_comm (nU t u), Int.mul_assoc]
    _ = t * nU t u := by rw [e1]
theorem n_gcd {t u : Int} (h : u ≠ 0) : Nat.gcd (nT t u).natAbs (nU t u).natAbs = 1 := by
  have h1 : 0 < Nat.gcd t.natAbs u.natAbs := Nat.gcd_pos_of_pos_right _ (by omega)
  have e1 : (nT t u).natAbs * Nat.gcd t.natAbs u.natAbs = t.natAbs := by rw [← sh_abs, ← Int.natAbs_mul, nT_mul]
  have e2 : (nU t u).natAbs * Nat.gcd t.natAbs u.natAbs = u.natAbs := by rw [← sh_abs, ← Int.natAbs_mul, nU_mul]
  have e3 : Nat.gcd ((nT t u).natAbs * Nat.gcd t.natAbs u.natAbs) ((nU t u).natAbs * Nat.gcd t.natAbs u.natAbs) = Nat.gcd t.natAbs u.natAbs := by
    rw [e1, e2]
  rw [Nat.gcd_mul_right] at e3
  exact Nat.eq_of_mul_eq_mul_right h1 (by rw [e3, Nat.one_mul])
theorem nU_le {t u : Int} (h : u ≠ 0) : (nU t u).natAbs ≤ u.natAbs := by
  have h1 : 0 < Nat.gcd t.natAbs u.natAbs := Nat.gcd_pos_of_pos_right _ (by omega)
  have e2 : (nU t u).natAbs * Nat.gcd t.natAbs u.natAbs = u.natAbs := by rw [← sh_abs, ← Int.natAbs_mul, nU_mul]
  rw [← e2]
  exact Nat.le_mul_of_pos_right _ h1
theorem nT_le {t u : Int} (h : u ≠ 0) : (nT t u).natAbs ≤ t.natAbs := by
  have h1 : 0 < Nat.gcd t.natAbs u.natAbs := Nat.gcd_pos_of_pos_right _ (by omega)
  have e2 : (nT t u).natAbs * Nat.gcd t.natAbs u.natAbs = t.natAbs := by rw [← sh_abs, ← Int.natAbs_mul, nT_mul]
  rw [← e2]
  exact Nat.le_mul_of_pos_right _ h1
/-- a fraction has one form in lowest terms -/
theorem low_one {a b c d : Int} (hb : 0 < b) (hd : 0 < d) (g1 : Nat.gcd a.natAbs b.natAbs = 1) (g2 : Nat.gcd c.natAbs d.natAbs = 1) (e : a * d = c * b) : a = c ∧ b = d := by
  have en : a.natAbs * d.natAbs = c.natAbs * b.natAbs := by rw [← Int.natAbs_mul, ← Int.natAbs_mul, e]
  have d1 : b.natAbs ∣ d.natAbs := (Nat.Coprime.dvd_of_dvd_mul_left (k := b.natAbs) (m := a.natAbs) (n := d.natAbs) (by rw [Nat.Coprime, Nat.gcd_comm]; exact g1) (by rw [en]; exact Nat.dvd_mul_left _ _))
  have d2 : d.natAbs ∣ b.natAbs := (Nat.Coprime.dvd_of_dvd_mul_left (k := d.natAbs) (m := c.natAbs) (n := b.natAbs) (by rw [Nat.Coprime, Nat.gcd_comm]; exact g2) (by rw [← en]; exact Nat.dvd_mul_left _ _))
  have e3 : b.natAbs = d.natAbs := Nat.dvd_antisymm d1 d2
  have e4 : b = d := by omega
  subst e4
  exact ⟨Int.eq_of_mul_eq_mul_right (by omega) e, rfl⟩
theorem n_uniq {a b t u : Int} (hu : u ≠ 0) (hb : 0 < b) (g : Nat.gcd a.natAbs b.natAbs = 1) (e : a * u = t * b) : a = nT t u ∧ b = nU t u := by
  refine low_one hb (nU_pos hu) g (n_gcd hu) ?_
  have e1 := n_cross t u
  refine Int.eq_of_mul_eq_mul_right hu ?_
  calc a * nU t u * u = a * u * nU t u := by rw [Int.mul_assoc, Int.mul_comm (nU t u), ← Int.mul_assoc]
    _ = t * b * nU t u := by rw [e]
    _ = t * nU t u * b := by rw [Int.mul_assoc, Int.mul_comm b, ← Int.mul_assoc]
    _ = nT t u * u * b := by rw [e1]
    _ = nT t u * b * u := by rw [Int.mul_assoc, Int.mul_comm u, ← Int.mul_assoc]
theorem n_self {a b : Int} (hb : 0 < b) (g : Nat.gcd a.natAbs b.natAbs = 1) : nT a b = a ∧ nU a b = b := by
  obtain ⟨h1, h2⟩ := n_uniq (a := a) (b := b) (t := a) (u := b) (by omega) hb g rfl
  exact ⟨h1.symm, h2.symm⟩
theorem n_one (t : Int) : nT t 1 = t ∧ nU t 1 = 1 := n_self (by decide) (by simp)
theorem n_scale {t u f : Int} (hu : u ≠ 0) (hf : f ≠ 0) : nT (t * f) (u * f) = nT t u ∧ nU (t * f) (u * f) = nU t u := by
  have hne : u * f ≠ 0 := Int.mul_ne_zero hu hf
  obtain ⟨h1, h2⟩ := n_uniq (a := nT t u) (b := nU t u) (t := t * f) (u := u * f) hne (nU_pos hu) (n_gcd hu) (by
    have e1 := n_cross t u
    calc nT t u * (u * f) = nT t u * u * f := by rw [Int.mul_assoc]
      _ = t * nU t u * f := by rw [e1]
      _ = t * f * nU t u := by rw [Int.mul_assoc, Int.mul_comm (nU t u), ← Int.mul_assoc])
  exact ⟨h1.symm, h2.symm⟩
/-! ### instances of Ratio -/
def rf (t u : Int) : List (Str × V) := putF "under" (.int u) (putF "top" (.int t) [])
theorem tu : ¬ (("top" : Str) = "under") := by decide +kernel
theorem ut : ¬ (("under" : Str) = "top") := by decide +kernel
theorem rf_top (t u : Int) : (rf t u).lookup ("top" : Str) = some (.int t) := by
  unfold rf
  rw [lookup_putF, if_neg tu, lookup_putF, if_pos rfl]
theorem rf_under (t u : Int) : (rf t u).lookup ("under" : Str) = some (.int u) := by
  unfold rf
  rw [lookup_putF, if_pos rfl]
theorem rf_no (t u : Int) {m : Str} (h1 : ¬ m = "under") (h2 : ¬ m = "top") : (rf t u).lookup m = none := by
  unfold rf
  rw [lookup_putF, if_neg h1, lookup_putF, if_neg h2]
  rfl
/-- a Ratio t / u stands at x -/
def RatAt (C : Addr) (H : Hp) (x : Addr) (t u : Int) : Prop := ∃ dx, H x = some (.ins C dx (rf t u))
theorem RatAt.keep {C p : Addr} {H H' : Hp} {x : Addr} {t u : Int} (h : RatAt C H x t u) (k : Keeps H H' p) (hp : x ≠ p) : RatAt C H' x t u := by
  obtain ⟨dx, h⟩ := h
  exact ⟨dx, k _ _ h hp⟩
theorem RatAt.same {C : Addr} {H H' : Hp} {x : Addr} {t u : Int} (h : RatAt C H x t u) (k : Same H H') : RatAt C H' x t u := by
  obtain ⟨dx, h⟩ := h
  exact ⟨dx, k _ _ h⟩
theorem RatAt.ne_pool {C : Addr} {p : Pla} {H : Hp} {x : Addr} {t u : Int} (h : RatAt C H x t u) (hp : Pool H p) : x ≠ p := by
  obtain ⟨dx, h⟩ := h
  obtain ⟨ns, i, b, c, d, h1, _⟩ := hp
  exact ne_of h h1 (by intro z; cases z)
/-- the class Ratio as the top has left it -/
structure RatC (K : PySem.W.Frag) (mg : Str → Option Value) (C : Addr) : Prop where
  cl : Cls K C
  nT : NoAttr K C "top"
  nU : NoAttr K C "under"
  g : mg "Ratio" = some (.ref C)
  ha : PySem.W.findIn K (.ref C) "__class__" = some (some (.builtin "object.__class__"))
  hn : PySem.W.specialIn K (.builtin "object.__class__") "__get__" = some (some (.builtin "getset_descriptor.__get__"))
  htk : PySem.W.takesIn K (.builtin "object.__class__") = some true
  hm : PySem.W.mroIn K C (.type "object") = some true
  ki : PySem.W.kitOne K (.type "int") (.ref C) = some false
theorem RatC.tyX {K : PySem.W.Frag} {mg : Str → Option Value} {C : Addr} (T : RatC K mg C) {H : Hp} {x dx : Addr} {fs : List (Str × V)} (h : H x = some (.ins C dx fs)) : TyX K H (.ref x) (.ref C) := .base (.ins h T.cl T.ha T.hn T.htk T.hm)
theorem kit_self {K : PySem.W.Frag} (v : Value) : PySem.W.kitOne K v v = some true := by
  unfold PySem.W.kitOne
  rw [if_pos (beq_self_eq_true v)]
/-- an error class of the program without __init__ -/
structure ExC (K : PySem.W.Frag) (mg : Str → Option Value) (nm : Str) (C : Addr) : Prop where
  x : PySem.W.excIn K C [.type "ValueError", .type "Exception", .type "BaseException", .type "object"] "ValueError.__new__" = true
  g : mg nm = some (.ref C)
  k : PySem.W.keepIn K (.ref C) = true
  b : PySem.W.subIn K (.ref C) (.type "BaseException") = some true
  t : PySem.W.typeIn K (.ref C) = some (.type "type")
  s : PySem.W.subIn K (.ref C) (.ref C) = some true
  e : ExcC K C
theorem ExC.exm {K : PySem.W.Frag} {mg : Str → Option Value} {x : Str} {C : Addr} (T : ExC K mg x C) : PySem.W.exmOne K (.ref C) (.ref C) = some true := exm_self T.b T.e.hd T.t T.s
theorem beq_ref_ne {a b : Addr} (h : a ≠ b) : (Value.ref a == Value.ref b) = false := by
  rw [beq_eq_false_iff_ne]
  intro e
  injection e with e
  exact h e
end Fl

set_option Elab.async false
set_option linter.all false
set_option maxRecDepth 100000
set_option maxHeartbeats 4000000
namespace Fl
open PySem PySem.Spec PyProof.Rows L2
/-! ### the error with a name and a value -/
structure BnC (K : PySem.W.Frag) (mg : Str → Option Value) (C : Addr) : Prop where
  o : OexC K C
  g : mg "BadNumber" = some (.ref C)
  nN : PySem.W.findIn K (.ref C) "name" = some none
  nV : PySem.W.findIn K (.ref C) "value" = some none
  e : ExcC K C
  s : PySem.W.subIn K (.ref C) (.ref C) = some true
theorem BnC.exm {K : PySem.W.Frag} {mg : Str → Option Value} {C : Addr} (T : BnC K mg C) : PySem.W.exmOne K (.ref C) (.ref C) = some true := exm_self T.o.exC T.e.hd T.o.tyC T.s
theorem BnC.xf {K : PySem.W.Frag} {mg : Str → Option Value} {C : Addr} (T : BnC K mg C) : XfC K C := ⟨T.e.hg, T.e.hk, T.e.hs, T.e.hd⟩
def bnf (n v : V) : List (Str × V) := [("value", v), ("name", n)]
theorem nv : ¬ (("name" : Str) = "value") := by decide +kernel
theorem look_ne {f g : Str} {v : V} {fs : List (Str × V)} (h : ¬ f = g) : List.lookup f ((g, v) :: fs) = List.lookup f fs := by
  have e : (f == g) = false := by simpa using h
  rw [List.lookup_cons, e]
theorem look_eq {f : Str} {v : V} {fs : List (Str × V)} : List.lookup f ((f, v) :: fs) = some v := by
  rw [List.lookup_cons, beq_self_eq_true]
theorem bnf_name (n v : V) : (bnf n v).lookup ("name" : Str) = some n := by
  unfold bnf
  rw [look_ne nv, look_eq]
theorem bnf_value (n v : V) : (bnf n v).lookup ("value" : Str) = some v := look_eq
def spBN (C : Addr) : Sp := fun vs H Q _ => ∃ (a : Addr) (n v : V), vs = [.ref a, n, v] ∧ H a = some (exo a C none) ∧ ∀ (dx : Addr), H dx = none → dx ≠ a → Q .non (upd (upd (upd H dx (exd dx [("name", n)])) a (exo a C (some dx))) dx (exd dx (bnf n v)))
structure CalE (P : Program) (w : World) (K : PySem.W.Frag) (mg : Str → Option Value) (base : Heap) (k : Nat) (C : Addr) : Prop where
  ex : ∃ (fI : Addr) (fd : FuncData), PySem.W.findIn K (.ref C) "__init__" = some (some (.ref fI)) ∧ PySem.W.typeIn K (.ref fI) = some (.type "function") ∧ FnOk P w K mg base CX0 k fI fd ["self", "name", "value"] (spBN C) ∧ Binds K fd ["self", "name", "value"] []
theorem pmk_bn {X : Cx} {k : Nat} {C : Addr} {p pos : Pos} {e : Expr} {es : List Expr} {ta : TA} (T : BnC X.K X.mg C) (B : CalE X.prog X.w X.K X.mg X.base k C) (hr : Room (k + 1) X.A) (ha : PA X (e :: es) ta) (hg : Gl X "BadNumber" := by rfl)
    (he : starEach (e :: es) X.env = (false, eval e X.env) :: starEach es X.env := by rfl) (hpl : (backTo pos (starEach es X.env)).any (·.1) = false := by rfl) : PMk X (.Call (.Name "BadNumber" p) (e :: es) [] pos) (tMkO C (spBN C) [] ta) := by
  obtain ⟨fI, fd, iC, tI, F, b⟩ := B.ex
  exact pmk_oex T.o iC tI F hr b .nil (fun _ _ _ _ _ _ _ h => h.elim) hg T.g ha (by decide +kernel) he hpl
/-- what is wished where BadNumber(n, v) leaves -/
def Ref (E : XK) (C : Addr) (H : Hp) (n : Str) (v : Int) : Prop := ∀ (d : Addr) (H' : Hp), Same H H' → H d = none → H' d = some (.xd (bnf (.str n) (.int v))) → E (.ref C) (some d) H'
theorem Ref.same {E : XK} {C : Addr} {H H1 : Hp} {n : Str} {v : Int} (h : Ref E C H n v) (s : Same H H1) : Ref E C H1 n v := fun d H' s' hd he => h d H' (s.trans s') (s.free hd) he
theorem bn_made {C : Addr} {n : Str} {v : Int} {H : Hp} {Q : XK} (k : Ref Q C H n v) : [V.str n, V.int v].length ≤ 1000 ∧ ∀ a, H a = none → spBN C (.ref a :: ([V.str n, V.int v] ++ [])) (upd H a (exo a C none))
    (fun z H2 => z = .non ∧ ∃ (d : Addr) (fs : List (Str × V)), H2 a = some (exo a C (some d)) ∧ H2 d = some (exd d fs) ∧ H d = none ∧ Q (.ref C) (some d) (upd (del H2 a) d (.xd fs))) (fun _ _ _ => False) := by
  refine ⟨(show 2 ≤ 1000 by decide), fun a ha => ⟨a, .str n, .int v, rfl, upd_same, fun dx hdx hne => ⟨rfl, dx, bnf (.str n) (.int v), ?_, upd_same, ?_, ?_⟩⟩⟩
  · rw [upd_ne (Ne.symm hne), upd_same]
  · rw [upd_ne hne] at hdx
    exact hdx
  · rw [upd_ne hne] at hdx
    refine k dx _ (fun b o e => ?_) hdx upd_same
    have h1 : b ≠ a := ne_of_none e ha
    have h2 : b ≠ dx := ne_of_none e hdx
    rw [upd_ne h2, del_ne h1, upd_ne h2, upd_ne h1, upd_ne h2, upd_ne h1]
    exact e
end Fl

set_option Elab.async false
set_option linter.all false
set_option maxRecDepth 100000
set_option maxHeartbeats 4000000
namespace Fl
/-! ### the sum of the whole parts of (a i + b) / m, i below n -/
def fs (m a b : Nat) : Nat → Nat
  | 0 => 0
  | n + 1 => fs m a b n + (a * n + b) / m
theorem tri_succ (n : Nat) : (n + 1) * n / 2 = n * (n - 1) / 2 + n := by
  cases n with
  | zero => rfl
  | succ k =>
    have e : (k + 1 + 1) * (k + 1) = (k + 1) * (k + 1 - 1) + 2 * (k + 1) := by
      rw [Nat.add_sub_cancel, show k + 1 + 1 = k + 2 from rfl, Nat.add_mul, Nat.mul_comm k (k + 1)]
    rw [e, Nat.add_mul_div_left _ _ (by decide)]
theorem fs_split {m : Nat} (hm : 0 < m) (a b : Nat) : ∀ n : Nat, fs m a b n = n * (n - 1) / 2 * (a / m) + n * (b / m) + fs m (a % m) (b % m) n
  | 0 => by simp [fs]
  | n + 1 => by
    have ih := fs_split hm a b n
    have e : (a * n + b) / m = n * (a / m) + b / m + ((a % m) * n + b % m) / m := by
      have e1 : a * n + b = (a % m * n + b % m) + m * (n * (a / m) + b / m) := by
        have h1 := Nat.mod_add_div a m
        have h2 := Nat.mod_add_div b m
        calc a * n + b = (a % m + m * (a / m)) * n + (b % m + m * (b / m)) := by rw [h1, h2]
          _ = (a % m * n + b % m) + m * (n * (a / m) + b / m) := by
            rw [Nat.add_mul, Nat.mul_add, Nat.mul_assoc, Nat.mul_comm (a / m) n]
            omega
      rw [e1, Nat.add_mul_div_left _ _ hm]
      omega
    show fs m a b n + (a * n + b) / m = (n + 1) * (n + 1 - 1) / 2 * (a / m) + (n + 1) * (b / m) + (fs m (a % m) (b % m) n + (a % m * n + b % m) / m)
    rw [Nat.add_sub_cancel, tri_succ, ih, e, Nat.add_mul, Nat.add_mul]
    omega
theorem fs_up {a m r : Nat} (ha : 0 < a) : ∀ k : Nat, fs a m (r + a) k = fs a m r k + k
  | 0 => rfl
  | k + 1 => by
    have ih := fs_up (m := m) (r := r) ha k
    show fs a m (r + a) k + (m * k + (r + a)) / a = fs a m r k + (m * k + r) / a + (k + 1)
    rw [ih, ← Nat.add_assoc, Nat.add_div_right _ ha]
    omega
theorem fs_shift {a m r : Nat} : ∀ k : Nat, fs a m r (k + 1) = r / a + fs a m (r + m) k
  | 0 => by
    show 0 + (m * 0 + r) / a = r / a + 0
    rw [Nat.mul_zero, Nat.zero_add, Nat.zero_add, Nat.add_zero]
  | k + 1 => by
    have ih := fs_shift (a := a) (m := m) (r := r) k
    show fs a m r (k + 1) + (m * (k + 1) + r) / a = r / a + (fs a m (r + m) k + (m * k + (r + m)) / a)
    rw [ih, Nat.mul_add, Nat.mul_one, Nat.add_assoc (m * k), Nat.add_comm m r]
    omega
theorem fs_swap {m a b : Nat} (ham : a < m) (hbm : b < m) (ha : 0 < a) : ∀ n : Nat, fs m a b n = fs a m ((a * n + b) % m) ((a * n + b) / m)
  | 0 => by
    have e : (a * 0 + b) / m = 0 := by
      rw [Nat.mul_zero, Nat.zero_add]
      exact Nat.div_eq_of_lt hbm
    rw [e]
    rfl
  | n + 1 => by
    have hm : 0 < m := by omega
    have ih := fs_swap ham hbm ha n
    show fs m a b n + (a * n + b) / m = _
    rw [ih]
    have hr := Nat.mod_lt (a * n + b) hm
    have hd := Nat.mod_add_div (a * n + b) m
    generalize hR : (a * n + b) % m = r at *
    generalize hK : (a * n + b) / m = K at *
    have e : a * (n + 1) + b = m * K + (r + a) := by
      rw [Nat.mul_add, Nat.mul_one]
      omega
    rw [e, Nat.mul_add_mod, Nat.mul_add_div hm]
    by_cases hc : r + a < m
    · rw [Nat.mod_eq_of_lt hc, Nat.div_eq_of_lt hc, Nat.add_zero, fs_up ha]
    · have h1 : (r + a) / m = 1 := by
        rw [Nat.div_eq_sub_div hm (by omega), Nat.div_eq_of_lt (by omega)]
      have h2 : (r + a) % m = r + a - m := by
        rw [Nat.mod_eq_sub_mod (by omega), Nat.mod_eq_of_lt (by omega)]
      rw [h1, h2, fs_shift, Nat.div_eq_of_lt (by omega : r + a - m < a), show r + a - m + m = r + a by omega, fs_up ha]
      omega
theorem fs_zero {m b : Nat} (hbm : b < m) : ∀ n : Nat, fs m 0 b n = 0
  | 0 => rfl
  | n + 1 => by
    show fs m 0 b n + (0 * n + b) / m = 0
    rw [fs_zero hbm n, Nat.zero_mul, Nat.zero_add, Nat.zero_add, Nat.div_eq_of_lt hbm]
/-- one turn of Euclid's rule -/
theorem fs_turn {m : Nat} (hm : 0 < m) (a b n : Nat) : fs m a b n = n * (n - 1) / 2 * (a / m) + n * (b / m) + fs (a % m) m ((a % m * n + b % m) % m) ((a % m * n + b % m) / m) := by
  rw [fs_split hm]
  have h1 := Nat.mod_lt a hm
  have h2 := Nat.mod_lt b hm
  by_cases h0 : a % m = 0
  · rw [h0, Nat.zero_mul, Nat.zero_add, fs_zero h2, Nat.div_eq_of_lt h2]
    rfl
  · rw [fs_swap h1 h2 (by omega)]
theorem fs_tot {n m a b tot : Nat} (hn : 0 < n) : (tot : Int) + (n : Int) * ((n : Int) - 1) / 2 * ((a : Int) / (m : Int)) + (n : Int) * ((b : Int) / (m : Int)) = ((tot + n * (n - 1) / 2 * (a / m) + n * (b / m) : Nat) : Int) := by
  have e : (n : Int) - 1 = ((n - 1 : Nat) : Int) := by omega
  rw [e]
  simp only [Int.natCast_add, Int.natCast_mul, Int.natCast_ediv]
  rfl
theorem fs_many_le {n m a b : Nat} (hm : 0 < m) (hn : 0 < n) : (a % m * n + b % m) / m ≤ n := by
  have h1 := Nat.mod_lt a hm
  have h2 := Nat.mod_lt b hm
  have h3 : a % m * n ≤ (m - 1) * n := Nat.mul_le_mul_right n (by omega)
  have h4 : (m - 1) * n = m * n - n := by rw [Nat.sub_mul, Nat.one_mul]
  have h5 : n ≤ m * n := Nat.le_mul_of_pos_left n hm
  refine Nat.le_of_lt_succ (Nat.div_lt_of_lt_mul ?_)
  rw [Nat.mul_succ]
  omega
end Fl

set_option Elab.async false
set_option linter.all false
set_option maxRecDepth 100000
set_option maxHeartbeats 4000000
namespace Fl
open PySem PySem.Spec PyProof.Rows L2
/-! ### several except clauses, each with a name -/
abbrev Suites := List (Value × Nat × (Addr → Value → Option Addr → TS))
inductive ClsOk (X : Cx) : List ExceptHandler → Suites → Prop
  | nil : ClsOk X [] []
  | cons {x n : Str} {c : Value} {i : Nat} {ts : Addr → Value → Option Addr → TS} {b : Stmt} {su : List Stmt} {p q : Pos} {hs : List ExceptHandler} {l : Suites} (at_ : X.N[i]? = some n) (lo : X.env.kindOf n = some .local) (nm : Names X x c)
      (go : ∀ (a : Addr) (o : Obj) (cls : Value) (d : Option Addr) (pn : List (Addr × Obj)), Zc cls d o → (∃ vs, o.data = .fields vs) → PSs (X.suite a ((a, o) :: pn)) (b :: su) (ts a cls d)) (r : ClsOk X hs l) : ClsOk X (.ExceptHandler (some (.Name x p)) (some n) (b :: su) q :: hs) ((c, i, ts) :: l)
def wCls (K : PySem.W.Frag) (Wo : WX) (D : Ends) : Suites → WX
  | [] => Wo
  | (c, i, ts) :: r => wAs K c i ts (wCls K Wo D r) D
theorem ps_try_cls {X : Cx} {body : List Stmt} {h : ExceptHandler} {hds : List ExceptHandler} {l : Suites} {pos : Pos} {tb : WX → TS} {Wo : WX} (hs : X.stack = X.env :: X.outer) (hf : X.env.frame = some X.env.locals) (nd : X.N.Nodup) (tk : Takes X Wo)
    (hb : ∀ (W : WX) (pn : List (Addr × Obj)) (xe : Value → Shared → Prop), Takes (X.tr pn xe) W → PassesOwn (model X.prog X.w) X.A X.env xe → PSs (X.tr pn xe) body (tb W)) (hh : ClsOk X (h :: hds) l) :
    PS X (.Try body (h :: hds) [] [] pos) (fun D σ H => tb (wCls X.K Wo D l) D σ H) := by
  refine ⟨fun pins s σ H D I hw => ?_⟩
  have ok := I.ok
  have fr1 : X.A.frames = some (X.env :: X.outer) := ok.frames.trans (by rw [hs])
  refine wpAny_Try_except (wpAny_mono ((hb (wCls X.K Wo D l) (X.pn ++ pins) (fun e t₁ => wpAny (model X.prog X.w) X.A (noteFrame e X.env) (fun _ t₂ => wpAny (model X.prog X.w) X.A (setFlight e none) (fun _ t₃ => wpAny (model X.prog X.w) X.A (handleBy e X.env (h :: hds)) (SP X pins D) X.xe t₃) X.xe t₂) X.xe t₁) (fun u s' xx => ?_) PassesOwn.looking).run [] s σ H D (I.toTry _) hw) (fun f s1 hsp => ?_) (fun e s1 he => he))
  · obtain ⟨a, B, sI, _, σ', H', cls, d, rfl, J0, nb, up, sk0, na, os, ag, wish⟩ := xx
    have J : Inv X pins σ' H' sI := J0.ofTry ok
    have sk1 : Sky B (X.env :: X.outer) a (Zc cls d) X.env.locals s'.heap := by rw [← hs]; exact sk0
    show wpAny (model X.prog X.w) X.A (noteFrame (.ref a) X.env) _ _ _
    refine Sky.land Zc.steady fr1 hf sk1 fun g3 f3 u3 => ?_
    have Jn : Inv X pins σ' H' { s' with heap := g3 } := J.landed nb f3.1 (up.trans u3) os ag
    obtain ⟨o3, vs3, ho3, hz3, hd3⟩ := f3.there
    have far : a ∉ frs (X.env :: X.outer) := fun m => by
      obtain ⟨_, o', e', bad⟩ := f3.2.2.1.mem m
      cases ho3.symm.trans e'
      exact bad _ hd3
    have nL : a ≠ X.env.locals := fun z => far (List.mem_filterMap.mpr ⟨X.env, List.mem_cons_self, by rw [hf, z]⟩)
    have nF : a ∉ X.fs := fun m => by
      obtain ⟨e, me, q⟩ := List.mem_filterMap.mp m
      exact far (List.mem_filterMap.mpr ⟨e, List.mem_cons_of_mem _ me, q⟩)
    have Sn := Jn.suite ho3 hd3 na nL nF
    have each : ∀ {gs : List ExceptHandler} {m : Suites}, ClsOk X gs m → wCls X.K Wo D m cls d σ' H' → wpAny (model X.prog X.w) X.A (handleBy (.ref a) X.env gs) (SP X pins D) X.xe { s' with heap := g3 } := by
      intro gs m hk
      induction hk with
      | nil =>
        intro w0
        refine wpAny_handleBy_nil ?_
        obtain ⟨_, _, _, oe, vs, T, oT, ts', he, hz, hd, h1, hr⟩ := id f3
        have fin : wpAny (model X.prog X.w) X.A (setFlight (.ref a) X.env.frame) (fun _ s4 => wpAny (model X.prog X.w) X.A (throw (.ref a) : Sem Flow) (SP X pins D) X.xe s4) X.xe { s' with heap := g3 } := by
          rw [hf]
          exact HandSPX.setFlight_upZ f3 fun h4 hh4 up4 => wpAny_throw (tk _ _ ⟨a, B, sI, pins, σ', H', cls, d, rfl, J, nb, (up.trans u3).trans up4, .inr (.inr (by rw [hs]; exact hh4)), na, os, ag, w0⟩)
        unfold PySem.passOn
        refine wpAny_bind (wpAny_field he hd h1 ?_)
        rw [if_neg (by simp : ¬ ((Value.ref T == Value.none) = true))]
        first | exact wpAny_bind (wpAny_pure (wpAny_bind fin)) | exact wpAny_bind fin
      | @cons x n c i ts b su p q hs' l' at_ lo nm go r ih =>
        rintro ⟨k, hk1, yes, no⟩
        refine wpAny_handleBy_cons (codeAny_handlers_test ?_) nofun
        have LM := PySem.W.exm_one (M := model X.prog X.w) Jn.kIn (fun A Q E s k q => wpAny_typeOf_ref (k _ _ ho3) (by rw [hz3.1]; exact q)) hk1
        have asked : ∀ {Q E : Value → Shared → Prop}, Q c { s' with heap := g3 } → wpAny (model X.prog X.w) (X.A.mark (some (.ref a))) (eval (.Name x p) X.env) Q E { s' with heap := g3 } := fun {Q E} y => by
          obtain ⟨g, db, hm | ⟨hm, hv, hn⟩⟩ := nm
          · exact ld_glob (X := X.suite a ((a, o3) :: (X.pn ++ pins))) Sn g hm y db
          · exact ld_blt (X := X.suite a ((a, o3) :: (X.pn ++ pins))) Sn g hm hv y hn db
        refine asked (LM.here ?_)
        cases k with
        | false => exact ih (no rfl)
        | true =>
          refine codeAny_handlers_suite_as (HandSPX.lands_againZ f3 fun g4 f4 u4 => ?_)
          have J4 : Inv X pins σ' H' { s' with heap := g4 } := J.landed nb f4.1 ((up.trans u3).trans u4) os ag
          obtain ⟨o4, vs4, ho4, hz4, hd4⟩ := f4.there
          have S4 := J4.suite ho4 hd4 na nL nF
          refine store_ok (X := X.suite a ((a, o4) :: (X.pn ++ pins))) (v := .ref a) S4 nd at_ (.inl lo) rfl (fun s5 S5 => ?_) (.inr lo)
          refine wpAny_mono ((go a o4 cls d (X.pn ++ pins) hz4 ⟨_, hd4⟩).run [] s5 _ H' _ S5 (yes rfl a na)) (fun f s6 z6 => ?_) (fun _ _ z => z.elim)
          have gone : ∀ {σ6 : L2.St} {H6 : Hp} {Q : Shared → Prop}, Inv (X.suite a ((a, o4) :: (X.pn ++ pins))) [] σ6 H6 s6 → (∀ s7, Inv X pins (σ6.set i none) H6 s7 → Q s7) → wpAny (model X.prog X.w) X.A (do bindName X.env n .none; unbindBehindTheSuite X.env n q) (fun _ s7 => Q s7) X.xe s6 := fun {σ6 H6 Q} S6 y => gone_ok (S6.unsuite ok) nd at_ lo y
          cases f with
          | ret u =>
            obtain ⟨v6, σ6, H6, S6, r6, q6⟩ := z6
            exact gone S6 fun s7 J7 => ⟨_, _, _, J7, r6, q6⟩
          | next => obtain ⟨σ6, H6, S6, q6⟩ := z6; exact gone S6 fun s7 J7 => ⟨_, _, J7, q6⟩
          | brk => obtain ⟨σ6, H6, S6, q6⟩ := z6; exact gone S6 fun s7 J7 => ⟨_, _, J7, q6⟩
          | cont => obtain ⟨σ6, H6, S6, q6⟩ := z6; exact gone S6 fun s7 J7 => ⟨_, _, J7, q6⟩
    exact each hh wish
  · cases f with
    | ret u => obtain ⟨v, σ', H', J', r, q⟩ := hsp; exact ⟨v, σ', H', J'.ofTry ok, r, q⟩
    | next => obtain ⟨σ', H', J', q⟩ := hsp; exact wpAny_execs_nil ⟨σ', H', J'.ofTry ok, q⟩
    | brk => obtain ⟨σ', H', J', q⟩ := hsp; exact ⟨σ', H', J'.ofTry ok, q⟩
    | cont => obtain ⟨σ', H', J', q⟩ := hsp; exact ⟨σ', H', J'.ofTry ok, q⟩
end Fl

set_option Elab.async false
set_option linter.all false
set_option maxRecDepth 100000
set_option maxHeartbeats 4000000
namespace Fl
open PySem PySem.Spec PyProof.Rows L2
/-! ### the error with a name and a most -/
structure TmC (K : PySem.W.Frag) (mg : Str → Option Value) (C : Addr) : Prop where
  o : OexC K C
  g : mg "TooMany" = some (.ref C)
  nN : PySem.W.findIn K (.ref C) "name" = some none
  nM : PySem.W.findIn K (.ref C) "most" = some none
  e : ExcC K C
  s : PySem.W.subIn K (.ref C) (.ref C) = some true
theorem TmC.exm {K : PySem.W.Frag} {mg : Str → Option Value} {C : Addr} (T : TmC K mg C) : PySem.W.exmOne K (.ref C) (.ref C) = some true := exm_self T.o.exC T.e.hd T.o.tyC T.s
theorem TmC.xf {K : PySem.W.Frag} {mg : Str → Option Value} {C : Addr} (T : TmC K mg C) : XfC K C := ⟨T.e.hg, T.e.hk, T.e.hs, T.e.hd⟩
def tmf (n v : V) : List (Str × V) := [("most", v), ("name", n)]
theorem nvm : ¬ (("name" : Str) = "most") := by decide +kernel


theorem tmf_name (n v : V) : (tmf n v).lookup ("name" : Str) = some n := by
  unfold tmf
  rw [look_ne nvm, look_eq]
theorem tmf_most (n v : V) : (tmf n v).lookup ("most" : Str) = some v := look_eq
def spTM (C : Addr) : Sp := fun vs H Q _ => ∃ (a : Addr) (n v : V), vs = [.ref a, n, v] ∧ H a = some (exo a C none) ∧ ∀ (dx : Addr), H dx = none → dx ≠ a → Q .non (upd (upd (upd H dx (exd dx [("name", n)])) a (exo a C (some dx))) dx (exd dx (tmf n v)))
structure CalTE (P : Program) (w : World) (K : PySem.W.Frag) (mg : Str → Option Value) (base : Heap) (k : Nat) (C : Addr) : Prop where
  ex : ∃ (fI : Addr) (fd : FuncData), PySem.W.findIn K (.ref C) "__init__" = some (some (.ref fI)) ∧ PySem.W.typeIn K (.ref fI) = some (.type "function") ∧ FnOk P w K mg base CX0 k fI fd ["self", "name", "most"] (spTM C) ∧ Binds K fd ["self", "name", "most"] []
theorem pmk_tm {X : Cx} {k : Nat} {C : Addr} {p pos : Pos} {e : Expr} {es : List Expr} {ta : TA} (T : TmC X.K X.mg C) (B : CalTE X.prog X.w X.K X.mg X.base k C) (hr : Room (k + 1) X.A) (ha : PA X (e :: es) ta) (hg : Gl X "TooMany" := by rfl)
    (he : starEach (e :: es) X.env = (false, eval e X.env) :: starEach es X.env := by rfl) (hpl : (backTo pos (starEach es X.env)).any (·.1) = false := by rfl) : PMk X (.Call (.Name "TooMany" p) (e :: es) [] pos) (tMkO C (spTM C) [] ta) := by
  obtain ⟨fI, fd, iC, tI, F, b⟩ := B.ex
  exact pmk_oex T.o iC tI F hr b .nil (fun _ _ _ _ _ _ _ h => h.elim) hg T.g ha (by decide +kernel) he hpl
/-- what is wished where BadNumber(n, v) leaves -/
def RefM (E : XK) (C : Addr) (H : Hp) (n : Str) (v : Int) : Prop := ∀ (d : Addr) (H' : Hp), Same H H' → H d = none → H' d = some (.xd (tmf (.str n) (.int v))) → E (.ref C) (some d) H'
theorem RefM.same {E : XK} {C : Addr} {H H1 : Hp} {n : Str} {v : Int} (h : RefM E C H n v) (s : Same H H1) : RefM E C H1 n v := fun d H' s' hd he => h d H' (s.trans s') (s.free hd) he
theorem tm_made {C : Addr} {n : Str} {v : Int} {H : Hp} {Q : XK} (k : RefM Q C H n v) : [V.str n, V.int v].length ≤ 1000 ∧ ∀ a, H a = none → spTM C (.ref a :: ([V.str n, V.int v] ++ [])) (upd H a (exo a C none))
    (fun z H2 => z = .non ∧ ∃ (d : Addr) (fs : List (Str × V)), H2 a = some (exo a C (some d)) ∧ H2 d = some (exd d fs) ∧ H d = none ∧ Q (.ref C) (some d) (upd (del H2 a) d (.xd fs))) (fun _ _ _ => False) := by
  refine ⟨(show 2 ≤ 1000 by decide), fun a ha => ⟨a, .str n, .int v, rfl, upd_same, fun dx hdx hne => ⟨rfl, dx, tmf (.str n) (.int v), ?_, upd_same, ?_, ?_⟩⟩⟩
  · rw [upd_ne (Ne.symm hne), upd_same]
  · rw [upd_ne hne] at hdx
    exact hdx
  · rw [upd_ne hne] at hdx
    refine k dx _ (fun b o e => ?_) hdx upd_same
    have h1 : b ≠ a := ne_of_none e ha
    have h2 : b ≠ dx := ne_of_none e hdx
    rw [upd_ne h2, del_ne h1, upd_ne h2, upd_ne h1, upd_ne h2, upd_ne h1]
    exact e
end Fl

set_option Elab.async false
set_option linter.all false
set_option maxRecDepth 100000
set_option maxHeartbeats 4000000
namespace Bx
open PySem PySem.Spec PyProof.Rows L2 Fl
theorem int_add_own (a : Int) (t : Tok) (x C dx : Addr) : Meets (Builtin.«int.__add__» ⟨[.int a t, .ref x], []⟩) (fun _ R s => s.heap.get? x = some (PySem.W.instObj C dx) ∧ R (.ok (.ret Value.notImplemented)) s) :=
  .of_wp fun prog w A R s h => by obtain ⟨hp, g, d, tk, os⟩ := s; obtain ⟨hl, h⟩ := h; unfold PySem.W.instObj at hl; wp_walk; exact ⟨_, rfl, h⟩
theorem int_sub_own (a : Int) (t : Tok) (x C dx : Addr) : Meets (Builtin.«int.__sub__» ⟨[.int a t, .ref x], []⟩) (fun _ R s => s.heap.get? x = some (PySem.W.instObj C dx) ∧ R (.ok (.ret Value.notImplemented)) s) :=
  .of_wp fun prog w A R s h => by obtain ⟨hp, g, d, tk, os⟩ := s; obtain ⟨hl, h⟩ := h; unfold PySem.W.instObj at hl; wp_walk; exact ⟨_, rfl, h⟩
theorem int_mul_own (a : Int) (t : Tok) (x C dx : Addr) : Meets (Builtin.«int.__mul__» ⟨[.int a t, .ref x], []⟩) (fun _ R s => s.heap.get? x = some (PySem.W.instObj C dx) ∧ R (.ok (.ret Value.notImplemented)) s) :=
  .of_wp fun prog w A R s h => by obtain ⟨hp, g, d, tk, os⟩ := s; obtain ⟨hl, h⟩ := h; unfold PySem.W.instObj at hl; wp_walk; exact ⟨_, rfl, h⟩
section
open PySem.W PySem.Calls
variable {prog : Program} {w : World} {A : Around} {E : Value → Shared → Prop} {s : Shared} {K : Frag} {x C L f g dx : Addr} {h₀ : Heap} {m : Str → Option Value} {od : Option Obj}
theorem bin_refl {op : Operator} {n : Int} {t : Tok} {id : String} {B : Builtin} {Q : Value → Shared → Prop} (F : Fr h₀ L s.heap m) (X₀ : K.In h₀) (I : PySem.W.InstAt s.heap x (PySem.W.instObj C dx) C od) (hc : selfFirst K C = true)
    (hs : findIn K (.ref C) (PySem.dunder op.info.2) = some (some (.ref f))) (hr : findIn K (.ref C) (dunderR op.info.2) = some (some (.ref g))) (hg : isFn K (.ref g) = true)
    (hsub : subIn K (.ref C) (.type "int") = some false) (fills : fillsNumberSlot (.type "int") op.info.2 = pure true) (slot : Slot "int" (PySem.dunder op.info.2) id) (entry : entryFor table id = some B) (args : argsOk id ⟨[.int n t, .ref x], []⟩)
    (mt : Meets (B ⟨[.int n t, .ref x], []⟩) (fun _ R s => s.heap.get? x = some (PySem.W.instObj C dx) ∧ R (.ok (.ret Value.notImplemented)) s))
    (h : wpAny (model prog w) A (call (.ref g) [.ref x, .int n t]) (PySem.W.CmpBack Q) E s) : wpAny (model prog w) A (binaryOp op (.int n t) (.ref x)) Q E s := by
  have X := X₀.keeps F.keep
  obtain ⟨cd, rest, hcd, hm⟩ := ksp_first hc
  rcases hi : op.info with ⟨sym, nm'⟩
  rw [hi] at hs hr fills slot
  dsimp only at hs hr fills slot
  have one := ksp_try X I hr hg h
  simp only [binaryOp, hi]
  refine wpAny_holding (wpAny_bind ?_)
  simp only [binaryOp1]
  refine wpAny_bind (wpAny_typeOf (typeIs_int s n t) (wpAny_bind (I.type.here (wpAny_bind (wpAny_of_eq fills ?_)))))
  have hne : (Value.type "int" == Value.ref C) = false := Bool.eq_false_iff.mpr fun q => by cases beq_iff_eq.mp q
  simp only [hne, Bool.false_eq_true, if_false]
  refine wpAny_bind ((fills_K X hcd hm hs).here ?_)
  simp only [Bool.and_self, if_true]
  refine wpAny_bind ((looks_subIn X hsub).here ?_)
  have hpy : numberSlotInPython (.type "int") nm' = pure false := rfl
  simp only [Bool.false_eq_true, if_false, pure_bind, Bool.not_false, Bool.and_self, if_true, hpy]
  refine wpAny_bind (wpAny_tryMethod_declines (typeIs_int s n t) slot (call_meets slot (typeIs_int s n t) entry args mt ⟨I.at_, ?_⟩))
  refine ⟨rfl, ?_⟩
  refine wpAny_bind (wpAny_mono one (fun r s' hr' => ?_) fun _ _ e => e)
  obtain ⟨v, rfl, hq⟩ := hr'
  exact wpAny_bind (wpAny_rule (wpAny_pure (wpAny_pure hq)))
end

section
open PySem.W PySem.Calls
variable {prog : Program} {w : World} {A : Around} {E : Value → Shared → Prop} {s : Shared} {K : Frag} {x C f : Addr} {ox : Obj} {od : Option Obj}
theorem call_abs_own {Q : Value → Shared → Prop} (X : K.In s.heap) (I : PySem.W.InstAt s.heap x ox C od) (hs : findIn K (.ref C) "__abs__" = some (some (.ref f))) (hf : isFn K (.ref f) = true)
    (h : wpAny (model prog w) A.in1 (call (.ref f) [.ref x]) Q E s) : wpAny (model prog w) A (call (.builtin "abs") [.ref x]) Q E s := by
  refine call_function_entry kind_abs plain_abs entry_abs (args_abs _) ?_
  unfold Builtin.«abs»
  refine wpAny_bind (wpAny_pure ?_)
  refine wpAny_bind (m := callSpecial? (.ref x) (Str.ofString "__abs__")) (special_fn X I hs (beq_iff_eq.mp hf) (wpAny_mono h (fun v s' hv => ?_) fun _ _ z => ?_))
  · exact wpAny_pure ⟨_, rfl, hv⟩
  · exact z
end
section
/-- the def that an operator's special name of the class C finds -/
structure OpOwn (P : Program) (w : World) (K : PySem.W.Frag) (mg : Str → Option Value) (base : Heap) (k : Nat) (C : Addr) (nm : Str) (ps : List Str) (sp : Sp) : Prop where
  ex : ∃ (f : Addr) (fd : FuncData), PySem.W.findIn K (.ref C) nm = some (some (.ref f)) ∧ PySem.W.isFn K (.ref f) = true ∧ FnOk P w K mg base CX0 k f fd ps sp ∧ Binds K fd ps []
def oR (Q : VK) : VK := fun v H2 => ∃ z, v = .ref z ∧ Q (.ref z) H2
def rOO (C : Addr) (sp : Sp) : R2 := fun x y H Q => ∃ (a dx : Addr) (gs : List (Str × V)) (b dy : Addr) (hs : List (Str × V)), x = .ref a ∧ H a = some (.ins C dx gs) ∧ y = .ref b ∧ H b = some (.ins C dy hs) ∧ sp [.ref a, .ref b] H (oR Q) E0
def rOI (C : Addr) (sp : Sp) : R2 := fun x y H Q => ∃ (a dx : Addr) (gs : List (Str × V)) (n : Int), x = .ref a ∧ H a = some (.ins C dx gs) ∧ y = .int n ∧ sp [.ref a, .int n] H (oR Q) E0
def rIO (C : Addr) (sp : Sp) : R2 := fun x y H Q => ∃ (a dx : Addr) (gs : List (Str × V)) (n : Int), y = .ref a ∧ H a = some (.ins C dx gs) ∧ x = .int n ∧ sp [.ref a, .int n] H (oR Q) E0
variable {X : Cx} {k : Nat} {C : Addr} {ps : List Str} {sp : Sp} {op : Operator}
theorem op_oo (M : OpOwn X.prog X.w X.K X.mg X.base k C (PySem.dunder op.info.2) ps sp) (hc : PySem.W.selfFirst X.K C = true) (hr : Room k X.A) : OpR X (binaryOp op) (rOO C sp) := by
  obtain ⟨f, fd, hs, hf, F, b⟩ := M.ex
  intro pins s σ H x y v u Q I rx ry h
  obtain ⟨a, dx, gs, b', dy, gs', rfl, ea, rfl, eb, q⟩ := h
  cases rx
  cases ry
  obtain ⟨mA, J, _⟩ := ins_get I.hok ea
  obtain ⟨od, J, _⟩ := J.look
  obtain ⟨mB, J', _⟩ := ins_get I.hok eb
  obtain ⟨od', J', _⟩ := J'.look
  obtain ⟨m, hF⟩ := I.fr
  refine PySem.W.binop_K hF I.ok.mod.kin J J'.type hc hs hf (wpAny_mono (run_fn F hr b (dvs := []) .nil pass0 I (.cons (show RelV (.ref a) (.ref a) from rfl) (.cons (show RelV (.ref b') (.ref b') from rfl) .nil)) q) (fun r s' hr => ?_) fun _ _ z => z)
  obtain ⟨z, H2, I2, rz, c, rfl, q2⟩ := hr
  cases rz
  exact ⟨V.ref c, H2, I2, rfl, q2⟩
theorem op_oi {rc : Option Value} {fo ro : Option Value} (M : OpOwn X.prog X.w X.K X.mg X.base k C (PySem.dunder op.info.2) ps sp) (hc : PySem.W.selfFirst X.K C = true) (hR : PySem.W.findIn X.K (.ref C) (dunderR op.info.2) = some rc) (hp : rc = none ∨ ∃ g : Addr, rc = some (.ref g))
    (h1 : PySem.W.findIn X.K (.type "int") (PySem.dunder op.info.2) = some fo) (h2 : PySem.W.findIn X.K (.type "int") (dunderR op.info.2) = some ro) (hsub : PySem.W.subIn X.K (.type "int") (.ref C) = some false) (hr : Room k X.A) : OpR X (binaryOp op) (rOI C sp) := by
  obtain ⟨f, fd, hs, hf, F, b⟩ := M.ex
  intro pins s σ H x y v u Q I rx ry h
  obtain ⟨a, dx, gs, n, rfl, ea, rfl, q⟩ := h
  cases rx
  obtain ⟨t, rfl⟩ := ry
  obtain ⟨mA, J, _⟩ := ins_get I.hok ea
  obtain ⟨od, J, _⟩ := J.look
  obtain ⟨m, hF⟩ := I.fr
  refine PySem.W.ksp_binT hF I.ok.mod.kin J (T := "int") rfl hc hs hf hR hp h1 h2 hsub (wpAny_mono (run_fn F hr b (dvs := []) .nil pass0 I (.cons (show RelV (.ref a) (.ref a) from rfl) (.cons (show RelV (.int n) (.int n t) from ⟨_, rfl⟩) .nil)) q) (fun r s' hr => ?_) fun _ _ z => z)
  obtain ⟨z, H2, I2, rz, c, rfl, q2⟩ := hr
  cases rz
  exact ⟨V.ref c, H2, I2, rfl, q2⟩
theorem op_io {f0 : Addr} {id : String} {B : Builtin} (M : OpOwn X.prog X.w X.K X.mg X.base k C (dunderR op.info.2) ps sp) (hc : PySem.W.selfFirst X.K C = true) (hs0 : PySem.W.findIn X.K (.ref C) (PySem.dunder op.info.2) = some (some (.ref f0))) (hsub : PySem.W.subIn X.K (.ref C) (.type "int") = some false)
    (fills : fillsNumberSlot (.type "int") op.info.2 = pure true) (slot : Slot "int" (PySem.dunder op.info.2) id) (entry : entryFor table id = some B) (args : ∀ a b, argsOk id ⟨[a, b], []⟩)
    (mt : ∀ (n : Int) (t : Tok) (x C dx : Addr), Meets (B ⟨[.int n t, .ref x], []⟩) (fun _ R s => s.heap.get? x = some (PySem.W.instObj C dx) ∧ R (.ok (.ret Value.notImplemented)) s)) (hr : Room k X.A) : OpR X (binaryOp op) (rIO C sp) := by
  obtain ⟨f, fd, hs, hf, F, b⟩ := M.ex
  intro pins s σ H x y v u Q I rx ry h
  obtain ⟨a, dx, gs, n, rfl, ea, rfl, q⟩ := h
  cases ry
  obtain ⟨t, rfl⟩ := rx
  obtain ⟨mA, J, _⟩ := ins_get I.hok ea
  obtain ⟨od, J, _⟩ := J.look
  obtain ⟨m, hF⟩ := I.fr
  refine bin_refl hF I.ok.mod.kin J hc hs0 hs hf hsub fills slot entry (args _ _) (mt n t a C dx) (wpAny_mono (run_fn F hr b (dvs := []) .nil pass0 I (.cons (show RelV (.ref a) (.ref a) from rfl) (.cons (show RelV (.int n) (.int n t) from ⟨_, rfl⟩) .nil)) q) (fun r s' hr => ?_) fun _ _ z => z)
  obtain ⟨z, H2, I2, rz, c, rfl, q2⟩ := hr
  cases rz
  exact ⟨V.ref c, H2, I2, rfl, q2⟩
def rNegO (C : Addr) (sp : Sp) : V → Hp → VK → Prop := fun x H Q => ∃ (a dx : Addr) (gs : List (Str × V)), x = .ref a ∧ H a = some (.ins C dx gs) ∧ sp [.ref a] H Q E0
theorem un_negO (M : OpOwn X.prog X.w X.K X.mg X.base k C "__neg__" ps sp) (hr : Room k X.A) : UnR X (unaryOp .USub) (rNegO C sp) := by
  obtain ⟨f, fd, hs, hf, F, b⟩ := M.ex
  intro pins s σ H x v Q I rx h
  obtain ⟨a, dx, gs, rfl, ea, q⟩ := h
  cases rx
  obtain ⟨mA, J, _⟩ := ins_get I.hok ea
  obtain ⟨od, J, _⟩ := J.look
  obtain ⟨m, hF⟩ := I.fr
  exact PySem.W.ksp_neg hF I.ok.mod.kin J hs hf (run_fn F hr b (dvs := []) .nil pass0 I (.cons (show RelV (.ref a) (.ref a) from rfl) .nil) q)
def rAbsO (C : Addr) (sp : Sp) : List V → Hp → VK → Prop := fun xs H Q => ∃ (a dx : Addr) (gs : List (Str × V)), xs = [.ref a] ∧ H a = some (.ins C dx gs) ∧ sp [.ref a] H Q E0
theorem call_absO (M : OpOwn X.prog X.w X.K X.mg X.base k C "__abs__" ps sp) (hr : Room (k + 1) X.A) : CallR X (.builtin "abs") (rAbsO C sp) := by
  obtain ⟨f, fd, hs, hf, F, b⟩ := M.ex
  intro pins s σ H xs us Q I r h
  obtain ⟨a, dx, gs, rfl, ea, q⟩ := h
  obtain ⟨u, rfl, rx⟩ := vals1 r
  cases rx
  obtain ⟨mA, J, _⟩ := ins_get I.hok ea
  obtain ⟨od, J, _⟩ := J.look
  have hl := F.len _ _ _ _ q
  have r2 : Vals [V.ref a] [Value.ref a] := .cons (show RelV (.ref a) (.ref a) from rfl) .nil
  have bb := b s [.ref a] I.kIn (by simpa using hl)
  rw [List.append_nil] at bb
  refine call_abs_own I.kIn J hs hf (wpAny_call (codeAny_mono (F.run X.A.in1 X.stack s H ⟨[.ref a], []⟩ [.ref a] [.ref a] Q E0 hr.in1 I.env0.in1 bb r2 q) fun r s' hq => ?_))
  cases r with
  | error e => exact (pass0 pins σ H s e s' I hq)
  | ok fl =>
    cases fl with
    | ret z => exact I.after hq
    | next => exact False.elim hq
    | brk => exact False.elim hq
    | cont => exact False.elim hq
end
end Bx

set_option Elab.async false
set_option linter.all false
set_option maxRecDepth 100000
set_option maxHeartbeats 4000000
namespace Bx
open PySem PySem.Spec PyProof.Rows L2 Fl
section
/-- a def of the class that may raise what its spec says -/
structure OwnX (P : Program) (w : World) (K : PySem.W.Frag) (mg : Str → Option Value) (base : Heap) (k : Nat) (C : Addr) (nm : Str) (ps : List Str) (sp : Sp) : Prop where
  ex : ∃ (f : Addr) (fd : FuncData), PySem.W.findIn K (.ref C) nm = some (some (.ref f)) ∧ PySem.W.isFn K (.ref f) = true ∧ PySem.W.keepIn K (.ref f) = true ∧ FnOk P w K mg base (L2.CX P w) k f fd ps sp ∧ Binds K fd ps []
variable {X : Cx} {k : Nat} {C : Addr} {ps : List Str} {sp : Sp} {op : Operator} {E : L2.St → XK}
def tMethX (C : Addr) (m : Str) (sp : Sp) (E : L2.St → XK) (ta : TE) (t : TA) : TE := fun σ H Q => ta σ H fun x H1 => ∃ a dx fs, x = .ref a ∧ H1 a = some (.ins C dx fs) ∧ fs.lookup m = none ∧ t σ H1 fun vs H2 => sp (x :: vs) H2 Q (E σ)
theorem pe_methX {pl : Sem Bool} {m : Str} {o e : Expr} {es : List Expr} {apos pos : Pos} {ta : TE} {t : TA} (M : OwnX X.prog X.w X.K X.mg X.base k C m ps sp) (c : Cls X.K C) (hx : ∀ σ, PassesAt (L2.CX X.prog X.w) X σ (E σ)) (hr : Room k X.A) (he : PE X o ta) (ha : PA X (e :: es) t)
    (hst : starEach (e :: es) X.env = (false, eval e X.env) :: starEach es X.env := by rfl) (hpl : (backTo pos (starEach es X.env)).any (·.1) = false := by rfl)
    (ht : eval (.Call (.Attribute o m apos) (e :: es) [] pos) X.env = (do
      let ov ← eval o X.env
      standAt apos.atName
      let (f, first) ← holding [ov] (getMethod ov m pl)
      callWith pos f first (backTo pos (starEach (e :: es) X.env)) (backToKw pos (keywordEach [] X.env))) := by rfl) :
    PE X (.Call (.Attribute o m apos) (e :: es) [] pos) (tMethX C m sp E ta t) := by
  obtain ⟨f, fd, h1, h2, h3, F, b⟩ := M.ex
  refine ⟨fun pins s σ H Q I h => ?_⟩
  refine PySem.W.methodCall_KW (pl := pl) (thn (he.run pins s σ H _ I h) fun u s1 ⟨x, H1, I1, rx, a, dx, fs, ex, ea, l, q⟩ => ?_) ht
  subst ex
  obtain rfl : u = Value.ref a := rx
  refine getmeth_ok I1 ea c ⟨h1, h2, h3⟩ l ?_
  refine PySem.W.callWith_K (first := [.ref a]) (h₀ := X.base) I.ok.mod.kin h3 (thn (ha.run pos pins s1 σ H1 _ I1 q) fun us s2 ⟨vs, H2, I2, r, q2⟩ => ⟨I2.kIn, ?_⟩) hst hpl
  exact run_fnS (us := .ref a :: us) (vs := .ref a :: vs) (E := E) F hr b (hx σ) I2 (.cons rfl r) q2
/-- what comes back: a reference or a whole number -/
def oA (Q : VK) : VK := fun v H2 => ((∃ z, v = .ref z) ∨ ∃ i, v = .int i) ∧ Q v H2
def rOwnX (C : Addr) (sp : Sp) (E : L2.St → XK) : L2.St → R2 := fun σ x y H Q => ∃ (a dx : Addr) (gs : List (Str × V)), x = .ref a ∧ H a = some (.ins C dx gs) ∧ ((∃ (b dy : Addr) (hs : List (Str × V)), y = .ref b ∧ H b = some (.ins C dy hs)) ∨ ∃ n : Int, y = .int n) ∧ sp [x, y] H (oA Q) (E σ)
def tOpS (R : L2.St → R2) (ta tb : TE) : TE := fun σ H Q => ta σ H fun x H1 => tb σ H1 fun y H2 => R σ x y H2 Q
theorem back {pins : List (Addr × Obj)} {σ : L2.St} {Q : VK} {r : Value} {s' : Shared} (h : EP X pins σ (oA Q) r s') : PySem.W.CmpBack (EP X pins σ Q) r s' := by
  obtain ⟨z, H2, I2, rz, c, q2⟩ := h
  rcases c with ⟨c, rfl⟩ | ⟨i, rfl⟩
  · cases rz
    exact ⟨V.ref c, H2, I2, rfl, q2⟩
  · obtain ⟨t, rfl⟩ := rz
    exact ⟨V.int i, H2, I2, ⟨t, rfl⟩, q2⟩
theorem pe_ownX {rc fo ro : Option Value} {a b : Expr} {ta tb : TE} {pos : Pos} (M : OwnX X.prog X.w X.K X.mg X.base k C (PySem.dunder op.info.2) ps sp) (hx : ∀ σ, PassesAt (L2.CX X.prog X.w) X σ (E σ)) (hc : PySem.W.selfFirst X.K C = true)
    (hR : PySem.W.findIn X.K (.ref C) (dunderR op.info.2) = some rc) (hp : rc = none ∨ ∃ g : Addr, rc = some (.ref g)) (h1 : PySem.W.findIn X.K (.type "int") (PySem.dunder op.info.2) = some fo) (h2 : PySem.W.findIn X.K (.type "int") (dunderR op.info.2) = some ro)
    (hsub : PySem.W.subIn X.K (.type "int") (.ref C) = some false) (hr : Room k X.A) (ha : PE X a ta) (hb : PE X b tb) : PE X (.BinOp a op b pos) (tOpS (rOwnX C sp E) ta tb) := by
  obtain ⟨f, fd, hs, hf, hk, F, bd⟩ := M.ex
  refine ⟨fun pins s σ H Q I h => ?_⟩
  refine wpAny_BinOp (binT ha hb I h fun v u s2 x y H2 I2 rx ry q => ?_)
  obtain ⟨a', dx, gs, rfl, ea, hy, q⟩ := q
  cases rx
  obtain ⟨mA, J, _⟩ := ins_get I2.hok ea
  obtain ⟨od, J, _⟩ := J.look
  obtain ⟨m, hF⟩ := I2.fr
  have run := run_fnS (E := E) F hr bd (hx σ) I2 (.cons (show RelV (.ref a') (.ref a') from rfl) (.cons ry .nil)) q
  rcases hy with ⟨b', dy, gs', rfl, eb⟩ | ⟨n, rfl⟩
  · cases ry
    obtain ⟨mB, J', _⟩ := ins_get I2.hok eb
    obtain ⟨od', J', _⟩ := J'.look
    exact PySem.W.binop_K hF I2.ok.mod.kin J J'.type hc hs hf (wpAny_mono run (fun r s' hr => back hr) fun _ _ z => z)
  · obtain ⟨t, rfl⟩ := ry
    exact PySem.W.ksp_binT hF I2.ok.mod.kin J (T := "int") rfl hc hs hf hR hp h1 h2 hsub (wpAny_mono run (fun r s' hr => back hr) fun _ _ z => z)
theorem op_or {f : Value → Value → Sem Value} {r1 r2 : R2} (h1 : OpR X f r1) (h2 : OpR X f r2) : OpR X f (fun x y H Q => r1 x y H Q ∨ r2 x y H Q) := fun pins s σ H x y v u Q I rx ry h => h.elim (h1 pins s σ H x y v u Q I rx ry) (h2 pins s σ H x y v u Q I rx ry)
end
end Bx

set_option Elab.async false
set_option linter.all false
set_option maxRecDepth 100000
set_option maxHeartbeats 4000000
namespace Bx
open PySem PySem.Spec PyProof.Rows L2 Fl
theorem int_lt_own (a : Int) (t : Tok) (x C dx : Addr) : Meets (Builtin.«int.__lt__» ⟨[.int a t, .ref x], []⟩) (fun _ R s => s.heap.get? x = some (PySem.W.instObj C dx) ∧ R (.ok (.ret Value.notImplemented)) s) :=
  .of_wp fun prog w A R s h => by obtain ⟨hp, g, d, tk, os⟩ := s; obtain ⟨hl, h⟩ := h; unfold PySem.W.instObj at hl; wp_walk; exact ⟨_, rfl, h⟩
theorem int_le_own (a : Int) (t : Tok) (x C dx : Addr) : Meets (Builtin.«int.__le__» ⟨[.int a t, .ref x], []⟩) (fun _ R s => s.heap.get? x = some (PySem.W.instObj C dx) ∧ R (.ok (.ret Value.notImplemented)) s) :=
  .of_wp fun prog w A R s h => by obtain ⟨hp, g, d, tk, os⟩ := s; obtain ⟨hl, h⟩ := h; unfold PySem.W.instObj at hl; wp_walk; exact ⟨_, rfl, h⟩
theorem int_gt_own (a : Int) (t : Tok) (x C dx : Addr) : Meets (Builtin.«int.__gt__» ⟨[.int a t, .ref x], []⟩) (fun _ R s => s.heap.get? x = some (PySem.W.instObj C dx) ∧ R (.ok (.ret Value.notImplemented)) s) :=
  .of_wp fun prog w A R s h => by obtain ⟨hp, g, d, tk, os⟩ := s; obtain ⟨hl, h⟩ := h; unfold PySem.W.instObj at hl; wp_walk; exact ⟨_, rfl, h⟩
theorem int_ge_own (a : Int) (t : Tok) (x C dx : Addr) : Meets (Builtin.«int.__ge__» ⟨[.int a t, .ref x], []⟩) (fun _ R s => s.heap.get? x = some (PySem.W.instObj C dx) ∧ R (.ok (.ret Value.notImplemented)) s) :=
  .of_wp fun prog w A R s h => by obtain ⟨hp, g, d, tk, os⟩ := s; obtain ⟨hl, h⟩ := h; unfold PySem.W.instObj at hl; wp_walk; exact ⟨_, rfl, h⟩
theorem int_eq_own (a : Int) (t : Tok) (x C dx : Addr) : Meets (Builtin.«int.__eq__» ⟨[.int a t, .ref x], []⟩) (fun _ R s => s.heap.get? x = some (PySem.W.instObj C dx) ∧ R (.ok (.ret Value.notImplemented)) s) :=
  .of_wp fun prog w A R s h => by obtain ⟨hp, g, d, tk, os⟩ := s; obtain ⟨hl, h⟩ := h; unfold PySem.W.instObj at hl; wp_walk; exact ⟨_, rfl, h⟩
theorem int_ne_own (a : Int) (t : Tok) (x C dx : Addr) : Meets (Builtin.«int.__ne__» ⟨[.int a t, .ref x], []⟩) (fun _ R s => s.heap.get? x = some (PySem.W.instObj C dx) ∧ R (.ok (.ret Value.notImplemented)) s) :=
  .of_wp fun prog w A R s h => by obtain ⟨hp, g, d, tk, os⟩ := s; obtain ⟨hl, h⟩ := h; unfold PySem.W.instObj at hl; wp_walk; exact ⟨_, rfl, h⟩
section
open PySem.W PySem.Calls
variable {prog : Program} {w : World} {A : Around} {E : Value → Shared → Prop} {s : Shared} {K : Frag} {x C L f g dx : Addr} {h₀ : Heap} {m : Str → Option Value} {od : Option Obj}
theorem cmp_refl {op : CmpOp} {n : Int} {t : Tok} {id : String} {B : Builtin} {Q : Value → Shared → Prop} (hu : A.units < cLine) (F : Fr h₀ L s.heap m) (X₀ : K.In h₀) (I : PySem.W.InstAt s.heap x (PySem.W.instObj C dx) C od)
    (hr : findIn K (.ref C) (cmpInfo op).2.2 = some (some (.ref g))) (hg : isFn K (.ref g) = true)
    (hsub : subIn K (.ref C) (.type "int") = some false) (slot : Slot "int" (cmpInfo op).2.1 id) (entry : entryFor table id = some B) (args : argsOk id ⟨[.int n t, .ref x], []⟩)
    (mt : Meets (B ⟨[.int n t, .ref x], []⟩) (fun _ R s => s.heap.get? x = some (PySem.W.instObj C dx) ∧ R (.ok (.ret Value.notImplemented)) s))
    (h : wpAny (model prog w) A (call (.ref g) [.ref x, .int n t]) (PySem.W.CmpBack Q) E s) : wpAny (model prog w) A (richCompare op (.int n t) (.ref x)) Q E s := by
  have X := X₀.keeps F.keep
  have one : wpAny (model prog w) A (tryCompare (.ref x) (cmpInfo op).2.2 (.int n t)) (fun r s' => ∃ v, r = some v ∧ Q v s') E s := by
    unfold tryCompare
    refine wpAny_bind (ifBound_K X I hr hg (wpAny_mono h (fun v s' hv => ?_) fun _ _ e => e))
    cases v <;> first | exact hv.elim | exact wpAny_pure ⟨_, rfl, hv⟩
  have ot : oneThing? op (.int n t) (.ref x) = none := rfl
  unfold richCompare
  simp only [ot]
  refine wpAny_holding (wpAny_bind (wpAny_cRoomFor hu ?_))
  refine wpAny_bind (wpAny_typeOf (typeIs_int s n t) (wpAny_bind (I.type.here ?_)))
  have hne : (Value.type "int" != Value.ref C) = true := by
    rw [bne_iff_ne]
    intro q
    cases q
  simp only [hne, if_true]
  refine wpAny_bind ((looks_subIn X hsub).here ?_)
  simp only [Bool.false_eq_true, if_false, Bool.not_false, if_true]
  refine wpAny_bind (wpAny_tryCompare_declines (typeIs_int s n t) slot (call_meets slot (typeIs_int s n t) entry args mt ⟨I.at_, ?_⟩))
  refine ⟨rfl, ?_⟩
  refine wpAny_bind (wpAny_mono one (fun r s' hr' => ?_) fun _ _ e => e)
  obtain ⟨v, rfl, hq⟩ := hr'
  exact wpAny_pure hq
end
section
variable {X : Cx} {k : Nat} {C : Addr} {ps : List Str} {sp : Sp} {op : CmpOp}
def oB (Q : VK) : VK := fun v H2 => ∃ b, v = .bl b ∧ Q (.bl b) H2
/-- own op y: y of the same class -/
def cOO (C : Addr) (sp : Sp) : R2 := fun x y H Q => ∃ (a dx : Addr) (gs : List (Str × V)) (b dy : Addr) (hs : List (Str × V)), x = .ref a ∧ H a = some (.ins C dx gs) ∧ y = .ref b ∧ H b = some (.ins C dy hs) ∧ sp [.ref a, .ref b] H (oB Q) E0
def cOI (C : Addr) (sp : Sp) : R2 := fun x y H Q => ∃ (a dx : Addr) (gs : List (Str × V)) (n : Int), x = .ref a ∧ H a = some (.ins C dx gs) ∧ y = .int n ∧ sp [.ref a, .int n] H (oB Q) E0
def cIO (C : Addr) (sp : Sp) : R2 := fun x y H Q => ∃ (a dx : Addr) (gs : List (Str × V)) (n : Int), y = .ref a ∧ H a = some (.ins C dx gs) ∧ x = .int n ∧ sp [.ref a, .int n] H (oB Q) E0
theorem backB {pins : List (Addr × Obj)} {σ : L2.St} {Q : VK} {r : Value} {s' : Shared} (h : EP X pins σ (oB Q) r s') : PySem.W.CmpBack (EP X pins σ Q) r s' := by
  obtain ⟨z, H2, I2, rz, c, rfl, q2⟩ := h
  cases rz
  exact ⟨V.bl c, H2, I2, rfl, q2⟩
theorem cmp_oo (hop : ∀ a b, compareOp op a b = richCompare op a b) (M : OpOwn X.prog X.w X.K X.mg X.base k C (cmpInfo op).2.1 ps sp) (hu : X.A.units < cLine) (hr : Room k X.A) : OpR X (compareOp op) (cOO C sp) := by
  obtain ⟨f, fd, hs, hf, F, b⟩ := M.ex
  intro pins s σ H x y v u Q I rx ry h
  obtain ⟨a, dx, gs, b', dy, gs', rfl, ea, rfl, eb, q⟩ := h
  cases rx
  cases ry
  obtain ⟨mA, J, _⟩ := ins_get I.hok ea
  obtain ⟨od, J, _⟩ := J.look
  obtain ⟨mB, J', _⟩ := ins_get I.hok eb
  obtain ⟨od', J', _⟩ := J'.look
  obtain ⟨m, hF⟩ := I.fr
  rw [hop]
  refine PySem.W.cmp_K hu hF I.ok.mod.kin J J'.type (by unfold PySem.W.notFirst; simp) hs hf (wpAny_mono (run_fn F hr b (dvs := []) .nil pass0 I (.cons (show RelV (.ref a) (.ref a) from rfl) (.cons (show RelV (.ref b') (.ref b') from rfl) .nil)) q) (fun r s' hr => backB hr) fun _ _ z => z)
theorem cmp_oi (hop : ∀ a b, compareOp op a b = richCompare op a b) (M : OpOwn X.prog X.w X.K X.mg X.base k C (cmpInfo op).2.1 ps sp) (hsub : PySem.W.subIn X.K (.type "int") (.ref C) = some false) (hu : X.A.units < cLine) (hr : Room k X.A) : OpR X (compareOp op) (cOI C sp) := by
  obtain ⟨f, fd, hs, hf, F, b⟩ := M.ex
  intro pins s σ H x y v u Q I rx ry h
  obtain ⟨a, dx, gs, n, rfl, ea, rfl, q⟩ := h
  cases rx
  obtain ⟨t, rfl⟩ := ry
  obtain ⟨mA, J, _⟩ := ins_get I.hok ea
  obtain ⟨od, J, _⟩ := J.look
  obtain ⟨m, hF⟩ := I.fr
  rw [hop]
  refine PySem.W.cmp_K (tb := .type "int") hu hF I.ok.mod.kin J (PySem.W.Looks.of_pure rfl) (by unfold PySem.W.notFirst; rw [hsub]; simp) hs hf (wpAny_mono (run_fn F hr b (dvs := []) .nil pass0 I (.cons (show RelV (.ref a) (.ref a) from rfl) (.cons (show RelV (.int n) (.int n t) from ⟨_, rfl⟩) .nil)) q) (fun r s' hr => backB hr) fun _ _ z => z)
theorem cmp_io {id : String} {B : Builtin} (hop : ∀ a b, compareOp op a b = richCompare op a b) (M : OpOwn X.prog X.w X.K X.mg X.base k C (cmpInfo op).2.2 ps sp) (hsub : PySem.W.subIn X.K (.ref C) (.type "int") = some false) (slot : Slot "int" (cmpInfo op).2.1 id) (entry : entryFor table id = some B) (args : ∀ a b, argsOk id ⟨[a, b], []⟩)
    (mt : ∀ (n : Int) (t : Tok) (x C dx : Addr), Meets (B ⟨[.int n t, .ref x], []⟩) (fun _ R s => s.heap.get? x = some (PySem.W.instObj C dx) ∧ R (.ok (.ret Value.notImplemented)) s)) (hu : X.A.units < cLine) (hr : Room k X.A) : OpR X (compareOp op) (cIO C sp) := by
  obtain ⟨f, fd, hs, hf, F, b⟩ := M.ex
  intro pins s σ H x y v u Q I rx ry h
  obtain ⟨a, dx, gs, n, rfl, ea, rfl, q⟩ := h
  cases ry
  obtain ⟨t, rfl⟩ := rx
  obtain ⟨mA, J, _⟩ := ins_get I.hok ea
  obtain ⟨od, J, _⟩ := J.look
  obtain ⟨m, hF⟩ := I.fr
  rw [hop]
  refine cmp_refl hu hF I.ok.mod.kin J hs hf hsub slot entry (args _ _) (mt n t a C dx) (wpAny_mono (run_fn F hr b (dvs := []) .nil pass0 I (.cons (show RelV (.ref a) (.ref a) from rfl) (.cons (show RelV (.int n) (.int n t) from ⟨_, rfl⟩) .nil)) q) (fun r s' hr => backB hr) fun _ _ z => z)
end
end Bx

set_option Elab.async false
set_option linter.all false
set_option maxRecDepth 100000
set_option maxHeartbeats 4000000
namespace Bx
open PySem PySem.Spec PyProof.Rows L2 Fl
section
variable {X : Cx} {k : Nat} {C : Addr} {x m : Str} {ps : List Str} {dvs : List V} {sp : Sp} {E : L2.St → XK} {p pos apos : Pos} {e o : Expr} {es : List Expr} {t : TA} {tv ta : TE}
/-- v(e, ..), v a local that holds the class at C -/
def tMakeV (C : Addr) (sp : Sp) (dvs : List V) (E : L2.St → XK) (tv : TE) (t : TA) : TE := fun σ H Q => tv σ H fun v H1 => v = .ref C ∧ t σ H1 fun vs H2 => ∀ x dx, H2 x = none → H2 dx = none → dx ≠ x →
  sp (.ref x :: (vs ++ dvs)) (upd (upd H2 dx (.own x)) x (.ins C dx [])) (fun v H2 => v = .non ∧ Q (.ref x) H2) (E σ)
theorem pe_mkV (M : CalC X.prog X.w X.K X.mg X.base (L2.CX X.prog X.w) k C x ps dvs sp) (hx : ∀ σ, PassesAt (L2.CX X.prog X.w) X σ (E σ)) (hr : Room (k + 1) X.A) {y : Str} (hv : PE X (.Name y p) tv) (ha : PA X (e :: es) t)
    (he : starEach (e :: es) X.env = (false, eval e X.env) :: starEach es X.env := by rfl) (hpl : (backTo pos (starEach es X.env)).any (·.1) = false := by rfl) :
    PE X (.Call (.Name y p) (e :: es) [] pos) (tMakeV C sp dvs E tv t) := by
  obtain ⟨f, fd, ds, M, F, hm, hb, hd⟩ := M.ex
  refine ⟨fun pins s σ H Q I h => ?_⟩
  refine wpAny_Call_Name_kw (thn (hv.run pins s σ H _ I h) fun u s1 ⟨v, H1, I1, rv, ev, q⟩ => ?_)
  subst ev
  cases rv
  refine PySem.W.callWith_K (h₀ := X.base) I1.ok.mod.kin M.kp (thn (ha.run pos pins s1 σ H1 _ I1 q) fun us s2 ⟨vs, H2, I2, r, q2⟩ => ⟨I2.kIn, ?_⟩) he hpl
  exact run_makeS (E := E) M F hr hb hd (hx σ) I2 r q2
/-- a classmethod of C by the name m -/
structure CalCM (P : Program) (w : World) (K : PySem.W.Frag) (mg : Str → Option Value) (base : Heap) (k : Nat) (C : Addr) (m : Str) (ps : List Str) (sp : Sp) : Prop where
  ex : ∃ (mc : Value) (p g : Addr) (fd : FuncData), ClX.CRead K C mc ∧ ClX.CMet K C mc m p g ∧ FnOk P w K mg base (L2.CX P w) k g fd ps sp ∧ Binds K fd ps []
def tCMethS (C : Addr) (sp : Sp) (E : L2.St → XK) (ta : TE) (t : TA) : TE := fun σ H Q => ta σ H fun x H1 => x = .ref C ∧ t σ H1 fun vs H2 => sp (.ref C :: vs) H2 Q (E σ)
theorem pe_cm {pl : Sem Bool} (M : CalCM X.prog X.w X.K X.mg X.base k C m ps sp) (hx : ∀ σ, PassesAt (L2.CX X.prog X.w) X σ (E σ)) (hr : Room k X.A) (he : PE X o ta) (ha : PA X (e :: es) t)
    (hst : starEach (e :: es) X.env = (false, eval e X.env) :: starEach es X.env := by rfl) (hpl : (backTo pos (starEach es X.env)).any (·.1) = false := by rfl)
    (ht : eval (.Call (.Attribute o m apos) (e :: es) [] pos) X.env = (do
      let ov ← eval o X.env
      standAt apos.atName
      let (f, first) ← holding [ov] (getMethod ov m pl)
      callWith pos f first (backTo pos (starEach (e :: es) X.env)) (backToKw pos (keywordEach [] X.env))) := by rfl) :
    PE X (.Call (.Attribute o m apos) (e :: es) [] pos) (tCMethS C sp E ta t) := by
  obtain ⟨mc, pp, g, fd, r, c, F, b⟩ := M.ex
  refine ⟨fun pins s σ H Q I h => ?_⟩
  refine PySem.W.methodCall_KW (pl := pl) (thn (he.run pins s σ H _ I h) fun u s1 ⟨x, H1, I1, rx, ex, q⟩ => ?_) ht
  subst ex
  obtain rfl : u = Value.ref C := rx
  refine ClX.getmethcm_ok I1 r c fun s2 I2 => ?_
  refine ClX.callwith_cm I2 (ClX.base_none I1 (Nat.le_refl _)) c.fi (thn (ha.run pos _ s2 σ H1 _ I2 q) fun us s3 ⟨vs, H2, I3, rv, q2⟩ => ⟨⟨ClX.pin_at I3, I3.kIn⟩, ?_⟩) hst hpl
  have hl := F.len _ _ _ _ q2
  have r2 : Vals (V.ref C :: vs) (Value.ref C :: us) := .cons (show RelV (.ref C) (.ref C) from rfl) rv
  have bb := b s3 (Value.ref C :: us) I3.kIn (by rw [List.append_nil, ← r2.length]; exact hl)
  rw [List.append_nil] at bb
  have z : wpAny (model X.prog X.w) X.A (call (.ref s1.heap.objs.size) us) (EP X ((s1.heap.objs.size, PySem.W.methodObj (.ref g) (.ref C)) :: pins) σ Q) X.xe s3 := by
    refine wpAny_call (PySem.W.method_call (ClX.pin_at I3) (codeAny_mono (F.run X.A X.stack s3 H2 ⟨Value.ref C :: us, []⟩ (Value.ref C :: us) (V.ref C :: vs) Q (E σ) hr I3.env0 bb r2 q2) fun r s' hq => ?_))
    cases r with
    | error e => exact hx σ _ H2 s3 e s' I3 hq
    | ok fl =>
      cases fl with
      | ret u => exact I3.after hq
      | next => exact False.elim hq
      | brk => exact False.elim hq
      | cont => exact False.elim hq
  exact thn z fun _ _ y => ClX.unpinE y
end
end Bx

set_option Elab.async false
set_option linter.all false
set_option maxRecDepth 100000
set_option maxHeartbeats 4000000
namespace Fl
open PySem PySem.Spec PyProof.Rows L2
/-! ### what stands in a heap, as a list of places and objects -/
def Al (fs : List (Addr × HO)) (H : Hp) : Prop := ∀ a o, (a, o) ∈ fs → H a = some o
theorem Al.nil {H : Hp} : Al [] H := fun _ _ h => nomatch h
theorem Al.at {fs : List (Addr × HO)} {H : Hp} {a : Addr} {o : HO} (W : Al fs H) (h : (a, o) ∈ fs) : H a = some o := W a o h
theorem Al.same {fs : List (Addr × HO)} {H H' : Hp} (W : Al fs H) (s : Same H H') : Al fs H' := fun a o h => s a o (W a o h)
theorem Al.got {fs : List (Addr × HO)} {H : Hp} {a : Addr} {o : HO} (W : Al fs H) (h : H a = some o) : Al ((a, o) :: fs) H := fun b u hm => by
  rcases List.mem_cons.mp hm with e | e
  · cases e
    exact h
  · exact W b u e
theorem Al.new {fs : List (Addr × HO)} {H : Hp} {a : Addr} {o : HO} (W : Al fs H) (h : H a = none) : Al ((a, o) :: fs) (upd H a o) := (W.same (same_upd h)).got upd_same
structure Wd (p : Pla) (fs : List (Addr × HO)) (H : Hp) : Prop where
  P : Pool H p
  W : Al fs H
  n : ∀ a o, (a, o) ∈ fs → a ≠ p.p
theorem Wd.nil {p : Pla} {H : Hp} (h : Pool H p) : Wd p [] H := ⟨h, Al.nil, fun _ _ h => nomatch h⟩
theorem Wd.at {p : Pla} {fs : List (Addr × HO)} {H : Hp} {a : Addr} {o : HO} (W : Wd p fs H) (h : (a, o) ∈ fs) : H a = some o := W.W a o h
theorem Wd.same {p : Pla} {fs : List (Addr × HO)} {H H' : Hp} (W : Wd p fs H) (s : Same H H') : Wd p fs H' := ⟨W.P.same s, W.W.same s, W.n⟩
theorem Wd.keep {p : Pla} {fs : List (Addr × HO)} {H H' : Hp} (W : Wd p fs H) (hP : Pool H' p) (k : Keeps H H' p.p) : Wd p fs H' := ⟨hP, fun a o h => k a o (W.W a o h) (W.n a o h), W.n⟩
theorem Wd.got {p : Pla} {fs : List (Addr × HO)} {H : Hp} {a : Addr} {o : HO} (W : Wd p fs H) (h : H a = some o) (ne : ∀ xs, o ≠ .lst xs) : Wd p ((a, o) :: fs) H := ⟨W.P, W.W.got h, fun b u hm => by
  rcases List.mem_cons.mp hm with e | e
  · cases e
    obtain ⟨ns, i, b, c, d, h1, _⟩ := W.P
    exact ne_of h h1 (ne _)
  · exact W.n b u e⟩
theorem Wd.new {p : Pla} {fs : List (Addr × HO)} {H : Hp} {a : Addr} {o : HO} (W : Wd p fs H) (h : H a = none) : Wd p ((a, o) :: fs) (upd H a o) := ⟨W.P.upd h, W.W.new h, fun b u hm => by
  rcases List.mem_cons.mp hm with e | e
  · cases e
    exact (W.P.apart h).1
  · exact W.n b u e⟩
/-! ### tests whose answer is known -/
theorem itT {p : Prop} [Decidable p] {A B : Prop} (h : p) (a : A) : if decide p = true then A else B := by rw [decide_eq_true h]; exact iteT a
theorem itF {p : Prop} [Decidable p] {A B : Prop} (h : ¬ p) (b : B) : if decide p = true then A else B := by rw [decide_eq_false h]; exact iteF b
theorem niT {p : Prop} [Decidable p] {A B : Prop} (h : p) (b : B) : if (!decide p) = true then A else B := by rw [decide_eq_true h]; exact iteF b
theorem niF {p : Prop} [Decidable p] {A B : Prop} (h : ¬ p) (a : A) : if (!decide p) = true then A else B := by rw [decide_eq_false h]; exact iteT a
theorem ieT {a b : Int} {A B : Prop} (h : a = b) (x : A) : if decide (V.int a = V.int b) = true then A else B := itT (by rw [h]) x
theorem ieF {a b : Int} {A B : Prop} (h : a ≠ b) (x : B) : if decide (V.int a = V.int b) = true then A else B := itF (fun e => h (V.int.inj e)) x
theorem jeT {a b : Int} {A B : Prop} (h : a = b) (x : B) : if (!decide (V.int a = V.int b)) = true then A else B := niT (by rw [h]) x
theorem jeF {a b : Int} {A B : Prop} (h : a ≠ b) (x : A) : if (!decide (V.int a = V.int b)) = true then A else B := niF (fun e => h (V.int.inj e)) x
/-! ### values that are known -/
theorem vT {Q : VK} {H : Hp} {p : Prop} [Decidable p] (h : p) (q : Q (.bl true) H) : Q (.bl (decide p)) H := by rw [decide_eq_true h]; exact q
theorem vF {Q : VK} {H : Hp} {p : Prop} [Decidable p] (h : ¬ p) (q : Q (.bl false) H) : Q (.bl (decide p)) H := by rw [decide_eq_false h]; exact q
theorem veT {Q : VK} {H : Hp} {a b : Int} (h : a = b) (q : Q (.bl true) H) : Q (.bl (decide (V.int a = V.int b))) H := vT (by rw [h]) q
theorem veF {Q : VK} {H : Hp} {a b : Int} (h : a ≠ b) (q : Q (.bl false) H) : Q (.bl (decide (V.int a = V.int b))) H := vF (fun e => h (V.int.inj e)) q
/-! ### bounds -/
theorem ba {i j : Int} {a : Nat} (h1 : i.natAbs < 2 ^ a) (h2 : j.natAbs < 2 ^ a) : (i + j).natAbs < 2 ^ (a + 1) := by
  rw [Nat.pow_succ]
  generalize 2 ^ a = z at *
  omega
theorem bs {i j : Int} {a : Nat} (h1 : i.natAbs < 2 ^ a) (h2 : j.natAbs < 2 ^ a) : (i - j).natAbs < 2 ^ (a + 1) := by
  rw [Nat.pow_succ]
  generalize 2 ^ a = z at *
  omega
theorem bn {i : Int} {a : Nat} (h1 : i.natAbs < 2 ^ a) : (-i).natAbs < 2 ^ a := by
  rw [Int.natAbs_neg]
  exact h1
theorem ub {n : Int} {a b : Nat} (h : n.natAbs < 2 ^ a) (k : a ≤ b) : n.natAbs < 2 ^ b := Nat.lt_of_lt_of_le h (Nat.pow_le_pow_right (by decide) k)
end Fl
namespace Fl
open PySem PySem.Spec PyProof.Rows L2
theorem Al.drop {x : Addr × HO} {fs : List (Addr × HO)} {H : Hp} (W : Al (x :: fs) H) : Al fs H := fun a o h => W a o (List.mem_cons_of_mem _ h)
theorem Wd.drop {p : Pla} {x : Addr × HO} {fs : List (Addr × HO)} {H : Hp} (W : Wd p (x :: fs) H) : Wd p fs H := ⟨W.P, W.W.drop, fun a o h => W.n a o (List.mem_cons_of_mem _ h)⟩
end Fl

set_option Elab.async false
set_option linter.all false
set_option maxRecDepth 100000
set_option maxHeartbeats 4000000
namespace Bx
open PySem PySem.Spec PyProof.Rows L2 Fl
section
open PySem.W PySem.Calls
variable {prog : Program} {w : World} {A : Around} {E : Value → Shared → Prop} {s : Shared} {K : Frag} {x C L f dx : Addr} {h₀ : Heap} {m : Str → Option Value} {od : Option Obj} {ox : Obj} {b tb : Value}
open Builtin in
theorem obj_ne {Q : Value → Shared → Prop} (hu : A.in1.units < cLine) (X : K.In s.heap) (I : PySem.W.InstAt s.heap x ox C od) (hm : mroIn K C (.type "object") = some true) (hs : findIn K (.ref C) "__eq__" = some (some (.ref f))) (hf : isFn K (.ref f) = true)
    (h : wpAny (model prog w) A.in1 (call (.ref f) [.ref x, b]) (fun v s' => ∃ c, v = .bool c ∧ Q (.bool (!c)) s') E s) : wpAny (model prog w) A (call (.builtin "object.__ne__") [.ref x, b]) Q E s := by
  refine wpAny_call (codeAny_call_builtin PySem.F.slot_object_ne.plain PySem.F.entry_object_ne (check_slot (i := "object.__ne__") (owner := "object") (n := "__ne__") (by decide +kernel) (by decide +kernel) (I.type.andThen (looks_mroIn X hm)) (PySem.F.args_object_ne_2 _ _) ?_))
  unfold Builtin.«object.__ne__»
  refine wpAny_bind (m := slotArgs "__ne__" 1 _) (wpAny_pure ?_)
  refine wpAny_bind (m := cRoomFor _ _) (wpAny_cRoomFor hu ?_)
  refine wpAny_bind (m := callSpecialIfBound? (.ref x) (Str.ofString "__eq__") _) (ifBound_K X I hs hf (wpAny_mono h (fun r s' hq => ?_) fun _ _ y => y))
  obtain ⟨c, rfl, hq⟩ := hq
  exact wpAny_bind (m := truthy (.bool _)) (wpAny_truthy_bool (wpAny_pure hq))
theorem try_ne {Q : Value → Shared → Prop} (hu : A.in1.units < cLine) (X : K.In s.heap) (I : PySem.W.InstAt s.heap x ox C od) (hm : mroIn K C (.type "object") = some true) (hN : findIn K (.ref C) "__ne__" = some (some (.builtin "object.__ne__"))) (hs : findIn K (.ref C) "__eq__" = some (some (.ref f))) (hf : isFn K (.ref f) = true)
    (h : wpAny (model prog w) A.in1 (call (.ref f) [.ref x, b]) (fun v s' => ∃ c, v = .bool c ∧ Q (.bool (!c)) s') E s) : wpAny (model prog w) A (tryCompare (.ref x) "__ne__" b) (fun r s' => ∃ v, r = some v ∧ Q v s') E s := by
  have fin : wpAny (model prog w) A (call (.builtin "object.__ne__") [.ref x, b] >>= fun v => pure (some v)) (fun r s' => ∃ c, r = some (.bool c) ∧ Q (.bool c) s') E s :=
    wpAny_bind (wpAny_mono (obj_ne (Q := fun v s' => ∃ c, v = .bool c ∧ Q (.bool c) s') hu X I hm hs hf (wpAny_mono h (fun v s' ⟨c, e, q⟩ => ⟨c, e, _, rfl, q⟩) fun _ _ e => e)) (fun v s' ⟨c, e, q⟩ => wpAny_pure ⟨c, by rw [e], q⟩) fun _ _ e => e)
  unfold tryCompare
  refine wpAny_bind (wpAny_mono (Q := fun r s' => ∃ c, r = some (.bool c) ∧ Q (.bool c) s') ?_ (fun r s' ⟨c, e, q⟩ => ?_) fun _ _ e => e)
  · simp only [callSpecialIfBound?, bindSpecialIfBound?]
    refine wpAny_holding (wpAny_bind (wpAny_bind (wpAny_bind (I.type.here ((looks_findIn X hN).here ?_)))))
    refine wpAny_bind (wpAny_askSetting (wpAny_ite ?_))
    split
    · exact wpAny_bind ((Looks.of_pure (PySem.F.slot_object_ne.bind _)).here (wpAny_pure (by exact fin)))
    · exact wpAny_tryCatch (wpAny_bind ((Looks.of_pure (PySem.F.slot_object_ne.bind _)).here (wpAny_pure (by exact fin))))
  · subst e
    exact wpAny_pure ⟨_, rfl, q⟩
theorem ne_K {Q : Value → Shared → Prop} (hu : A.in1.units < cLine) (hu0 : A.units < cLine) (F : Fr h₀ L s.heap m) (X₀ : K.In h₀) (I : PySem.W.InstAt s.heap x ox C od) (hb : Looks (model prog w) s.heap (typeOf b) tb) (hn : notFirst K C tb = true) (hm : mroIn K C (.type "object") = some true)
    (hN : findIn K (.ref C) "__ne__" = some (some (.builtin "object.__ne__"))) (hs : findIn K (.ref C) "__eq__" = some (some (.ref f))) (hf : isFn K (.ref f) = true)
    (h : wpAny (model prog w) A.in1 (call (.ref f) [.ref x, b]) (fun v s' => ∃ c, v = .bool c ∧ Q (.bool (!c)) s') E s) : wpAny (model prog w) A (richCompare .NotEq (.ref x) b) Q E s := by
  have X := X₀.keeps F.keep
  have one := try_ne (Q := Q) hu X I hm hN hs hf h
  unfold richCompare
  simp only [oneThing_ref]
  refine wpAny_holding (wpAny_bind (wpAny_cRoomFor hu0 ?_))
  refine wpAny_bind (I.type.here (wpAny_bind (hb.here ?_)))
  unfold notFirst at hn
  by_cases hne : (Value.ref C != tb) = true
  · simp only [hne, if_true]
    by_cases h0 : subIn K tb (.ref C) = some false
    · refine wpAny_bind ((looks_subIn X h0).here ?_)
      simp only [Bool.false_eq_true, if_false]
      refine wpAny_bind (wpAny_mono one (fun r s' hr' => ?_) fun _ _ e => e)
      obtain ⟨v, rfl, hq⟩ := hr'
      exact wpAny_pure hq
    · exfalso
      have e : (tb == Value.ref C) = false := by
        rw [beq_eq_false_iff_ne]
        intro q
        rw [q] at hne
        simp at hne
      simp [e, h0] at hn
  · simp only [hne, Bool.false_eq_true, if_false]
    refine wpAny_bind (wpAny_pure ?_)
    simp only [Bool.false_eq_true, if_false]
    refine wpAny_bind (wpAny_mono one (fun r s' hr' => ?_) fun _ _ e => e)
    obtain ⟨v, rfl, hq⟩ := hr'
    exact wpAny_pure hq
theorem ne_refl {n : Int} {t : Tok} {Q : Value → Shared → Prop} (hu : A.in1.units < cLine) (hu0 : A.units < cLine) (F : Fr h₀ L s.heap m) (X₀ : K.In h₀) (I : PySem.W.InstAt s.heap x (PySem.W.instObj C dx) C od) (hm : mroIn K C (.type "object") = some true)
    (hN : findIn K (.ref C) "__ne__" = some (some (.builtin "object.__ne__"))) (hs : findIn K (.ref C) "__eq__" = some (some (.ref f))) (hf : isFn K (.ref f) = true) (hsub : subIn K (.ref C) (.type "int") = some false)
    (h : wpAny (model prog w) A.in1 (call (.ref f) [.ref x, .int n t]) (fun v s' => ∃ c, v = .bool c ∧ Q (.bool (!c)) s') E s) : wpAny (model prog w) A (richCompare .NotEq (.int n t) (.ref x)) Q E s := by
  have X := X₀.keeps F.keep
  have one := try_ne (Q := Q) hu X I hm hN hs hf h
  have ot : oneThing? .NotEq (.int n t) (.ref x) = none := rfl
  unfold richCompare
  simp only [ot]
  refine wpAny_holding (wpAny_bind (wpAny_cRoomFor hu0 ?_))
  refine wpAny_bind (wpAny_typeOf (typeIs_int s n t) (wpAny_bind (I.type.here ?_)))
  have hne : (Value.type "int" != Value.ref C) = true := by
    rw [bne_iff_ne]
    intro q
    cases q
  simp only [hne, if_true]
  refine wpAny_bind ((looks_subIn X hsub).here ?_)
  simp only [Bool.false_eq_true, if_false, Bool.not_false, if_true]
  refine wpAny_bind (wpAny_tryCompare_declines (typeIs_int s n t) PySem.F.slot_int_ne (call_meets PySem.F.slot_int_ne (typeIs_int s n t) PySem.F.entry_int_ne (PySem.F.args_int_ne_2 _ _) (int_ne_own n t x C dx) ⟨I.at_, ?_⟩))
  refine ⟨rfl, ?_⟩
  refine wpAny_bind (wpAny_mono one (fun r s' hr' => ?_) fun _ _ e => e)
  obtain ⟨v, rfl, hq⟩ := hr'
  exact wpAny_pure hq
end
end Bx

set_option Elab.async false
set_option linter.all false
set_option maxRecDepth 100000
set_option maxHeartbeats 4000000
namespace Bx
open PySem PySem.Spec PyProof.Rows L2 Fl
section
open PySem.W PySem.Calls
variable {prog : Program} {w : World} {A : Around} {E : Value → Shared → Prop} {s : Shared}
theorem bool_in (x : Value) : MeetsIn prog w (Builtin.«bool.__new__» ⟨[.type "bool", x], []⟩) (fun A R s => wpAny (model prog w) A.in1 (truthy x) (fun c s' => R (.ok (.ret (.bool c))) s') (fun e s' => R (.error e) s') s) :=
  .of_wp fun A R s h => by
    have f1 := F.conv_sub_bool
    obtain ⟨hp, g, d, tk, os⟩ := s
    repeat (any_goals (first | assumption | (with_reducible refine wpAny_mono h (fun c s' q => ?_) fun _ _ z => z) | wp_step))
    all_goals first | exact ⟨_, rfl, q⟩ | exact q | skip
theorem call_bool_own {x : Value} {Q : Value → Shared → Prop} (h : wpAny (model prog w) A.in1.in1 (truthy x) (fun c s' => Q (.bool c) s') E s) : wpAny (model prog w) A (call (.type "bool") [x]) Q E s :=
  callType_newIn F.called_bool F.newNe_bool (F.typeCall_bool_1 x) (F.newCall_bool_1 x) (fun obj => F.args_object_init_2 obj x) F.entry_bool_new (bool_in x) (wpAny_mono h (fun c s' q => ⟨rfl, q⟩) fun _ _ z => z)
end
end Bx
namespace Bx
open PySem PySem.Spec PyProof.Rows L2 Fl
section
variable {X : Cx} {k : Nat} {C : Addr} {ps : List Str} {sp : Sp}
/-- a def of one's own run one frame in -/
theorem run_in1 {pins : List (Addr × Obj)} {s : Shared} {σ : L2.St} {H : Hp} {f : Addr} {fd : FuncData} {us : List Value} {vs : List V} {Q : VK} (F : FnOk X.prog X.w X.K X.mg X.base CX0 k f fd ps sp) (bd : Binds X.K fd ps []) (hr : Room (k + 1) X.A) (I : Inv X pins σ H s) (r : Vals vs us) (q : sp vs H Q E0) :
    wpAny (model X.prog X.w) X.A.in1 (call (.ref f) us) (EP X pins σ Q) X.xe s := by
  have hl := F.len _ _ _ _ q
  have bb := bd s us I.kIn (by rw [List.append_nil]; rw [← r.length]; exact hl)
  rw [List.append_nil] at bb
  refine wpAny_call (codeAny_mono (F.run X.A.in1 X.stack s H ⟨us, []⟩ us vs Q E0 hr.in1 I.env0.in1 bb r q) fun r s' hq => ?_)
  cases r with
  | error e => exact pass0 pins σ H s e s' I hq
  | ok fl =>
    cases fl with
    | ret z => exact I.after hq
    | next => exact False.elim hq
    | brk => exact False.elim hq
    | cont => exact False.elim hq
theorem run_in2 {pins : List (Addr × Obj)} {s : Shared} {σ : L2.St} {H : Hp} {f : Addr} {fd : FuncData} {us : List Value} {vs : List V} {Q : VK} (F : FnOk X.prog X.w X.K X.mg X.base CX0 k f fd ps sp) (bd : Binds X.K fd ps []) (hr : Room (k + 2) X.A) (I : Inv X pins σ H s) (r : Vals vs us) (q : sp vs H Q E0) :
    wpAny (model X.prog X.w) X.A.in1.in1 (call (.ref f) us) (EP X pins σ Q) X.xe s := by
  have hl := F.len _ _ _ _ q
  have bb := bd s us I.kIn (by rw [List.append_nil]; rw [← r.length]; exact hl)
  rw [List.append_nil] at bb
  refine wpAny_call (codeAny_mono (F.run X.A.in1.in1 X.stack s H ⟨us, []⟩ us vs Q E0 hr.in1.in1 I.env0.in1.in1 bb r q) fun r s' hq => ?_)
  cases r with
  | error e => exact pass0 pins σ H s e s' I hq
  | ok fl =>
    cases fl with
    | ret z => exact I.after hq
    | next => exact False.elim hq
    | brk => exact False.elim hq
    | cont => exact False.elim hq
def oN (Q : VK) : VK := fun v H2 => ∃ c, v = .bl c ∧ Q (.bl (!c)) H2
theorem backN {pins : List (Addr × Obj)} {σ : L2.St} {Q : VK} {r : Value} {s' : Shared} (h : EP X pins σ (oN Q) r s') : ∃ c, r = .bool c ∧ EP X pins σ Q (.bool (!c)) s' := by
  obtain ⟨z, H2, I2, rz, c, rfl, q2⟩ := h
  cases rz
  exact ⟨c, rfl, V.bl (!c), H2, I2, rfl, q2⟩
structure NeC (K : PySem.W.Frag) (C : Addr) : Prop where
  hm : PySem.W.mroIn K C (.type "object") = some true
  hN : PySem.W.findIn K (.ref C) "__ne__" = some (some (.builtin "object.__ne__"))
  si : PySem.W.subIn K (.type "int") (.ref C) = some false
  sc : PySem.W.subIn K (.ref C) (.type "int") = some false
def nOX (C : Addr) (sp : Sp) : R2 := fun x y H Q => ∃ (a dx : Addr) (gs : List (Str × V)), x = .ref a ∧ H a = some (.ins C dx gs) ∧ ((∃ n : Int, y = .int n) ∨ ∃ (b dy : Addr) (hs : List (Str × V)), y = .ref b ∧ H b = some (.ins C dy hs)) ∧ sp [.ref a, y] H (oN Q) E0
def nIO (C : Addr) (sp : Sp) : R2 := fun x y H Q => ∃ (a dx : Addr) (gs : List (Str × V)) (n : Int), y = .ref a ∧ H a = some (.ins C dx gs) ∧ x = .int n ∧ sp [.ref a, .int n] H (oN Q) E0
theorem op_ne_ox (N : NeC X.K C) (M : OpOwn X.prog X.w X.K X.mg X.base k C "__eq__" ps sp) (hr : Room (k + 1) X.A) : OpR X (compareOp .NotEq) (nOX C sp) := by
  obtain ⟨f, fd, hs, hf, F, b⟩ := M.ex
  intro pins s σ H x y v u Q I rx ry h
  obtain ⟨a, dx, gs, rfl, ea, hy, q⟩ := h
  cases rx
  obtain ⟨mA, J, _⟩ := ins_get I.hok ea
  obtain ⟨od, J, _⟩ := J.look
  obtain ⟨m, hF⟩ := I.fr
  have run := run_in1 F b hr I (.cons (show RelV (.ref a) (.ref a) from rfl) (.cons ry .nil)) q
  have fin := wpAny_mono run (fun r s' z => backN z) fun _ _ z => z
  rcases hy with ⟨n, rfl⟩ | ⟨b', dy, gs', rfl, eb⟩
  · obtain ⟨t, rfl⟩ := ry
    exact ne_K (tb := .type "int") hr.in1.units0 hr.units0 hF I.ok.mod.kin J (PySem.W.Looks.of_pure rfl) (by unfold PySem.W.notFirst; rw [N.si]; simp) N.hm N.hN hs hf fin
  · cases ry
    obtain ⟨mB, J', _⟩ := ins_get I.hok eb
    obtain ⟨od', J', _⟩ := J'.look
    exact ne_K hr.in1.units0 hr.units0 hF I.ok.mod.kin J J'.type (by unfold PySem.W.notFirst; simp) N.hm N.hN hs hf fin
theorem op_ne_io (N : NeC X.K C) (M : OpOwn X.prog X.w X.K X.mg X.base k C "__eq__" ps sp) (hr : Room (k + 1) X.A) : OpR X (compareOp .NotEq) (nIO C sp) := by
  obtain ⟨f, fd, hs, hf, F, b⟩ := M.ex
  intro pins s σ H x y v u Q I rx ry h
  obtain ⟨a, dx, gs, n, rfl, ea, rfl, q⟩ := h
  cases ry
  obtain ⟨t, rfl⟩ := rx
  obtain ⟨mA, J, _⟩ := ins_get I.hok ea
  obtain ⟨od, J, _⟩ := J.look
  obtain ⟨m, hF⟩ := I.fr
  have run := run_in1 F b hr I (.cons (show RelV (.ref a) (.ref a) from rfl) (.cons (show RelV (.int n) (.int n t) from ⟨_, rfl⟩) .nil)) q
  exact ne_refl hr.in1.units0 hr.units0 hF I.ok.mod.kin J N.hm N.hN hs hf N.sc (wpAny_mono run (fun r s' z => backN z) fun _ _ z => z)
/-- own == y, y of a built-in type -/
def cOX (K : PySem.W.Frag) (C : Addr) (sp : Sp) : R2 := fun x y H Q => ∃ (a dx : Addr) (gs : List (Str × V)) (T : String), x = .ref a ∧ H a = some (.ins C dx gs) ∧ TyX K H y (.type T) ∧ PySem.W.subIn K (.type T) (.ref C) = some false ∧ sp [.ref a, y] H (oB Q) E0
theorem cmp_ox (M : OpOwn X.prog X.w X.K X.mg X.base k C "__eq__" ps sp) (hr : Room (k + 1) X.A) : OpR X (compareOp .Eq) (cOX X.K C sp) := by
  obtain ⟨f, fd, hs, hf, F, b⟩ := M.ex
  intro pins s σ H x y v u Q I rx ry h
  obtain ⟨a, dx, gs, T, rfl, ea, ty, hsub, q⟩ := h
  cases rx
  obtain ⟨mA, J, _⟩ := ins_get I.hok ea
  obtain ⟨od, J, _⟩ := J.look
  obtain ⟨m, hF⟩ := I.fr
  obtain ⟨P, kx, hp, _⟩ := kit_of I ry ty
  refine PySem.W.cmp_K (op := .Eq) hr.units0 hF I.ok.mod.kin J (kx.ty _ _ I.kIn hp) (by unfold PySem.W.notFirst; rw [hsub]; simp) hs hf ?_
  exact wpAny_mono (run_fn F (hr.mono (Nat.le_succ _)) b (dvs := []) .nil pass0 I (.cons (show RelV (.ref a) (.ref a) from rfl) (.cons ry .nil)) q) (fun r s' hr => backB hr) fun _ _ z => z
def rBoolO (C : Addr) (sp : Sp) : List V → Hp → VK → Prop := fun xs H Q => ∃ (a dx : Addr) (gs : List (Str × V)), xs = [.ref a] ∧ H a = some (.ins C dx gs) ∧ sp [.ref a] H (oB Q) E0
theorem call_boolO (M : OpOwn X.prog X.w X.K X.mg X.base k C "__bool__" ps sp) (hr : Room (k + 2) X.A) : CallR X (.type "bool") (rBoolO C sp) := by
  obtain ⟨f, fd, hs, hf, F, b⟩ := M.ex
  intro pins s σ H xs us Q I r h
  obtain ⟨a, dx, gs, rfl, ea, q⟩ := h
  obtain ⟨u, rfl, rx⟩ := vals1 r
  cases rx
  obtain ⟨mA, J, _⟩ := ins_get I.hok ea
  obtain ⟨od, J, _⟩ := J.look
  obtain ⟨m, hF⟩ := I.fr
  refine call_bool_own (PySem.W.truthy_K hF I.ok.mod.kin J hs hf (wpAny_mono (run_in2 F b hr I r q) (fun v s' hv => ?_) fun _ _ z => z))
  obtain ⟨z, H2, I2, rz, c, rfl, q2⟩ := hv
  cases rz
  exact ⟨V.bl c, H2, I2, rfl, q2⟩
def oS (Q : VK) : VK := fun v H2 => ∃ z, v = .str z ∧ Q (.str z) H2
def rStrO (C : Addr) (sp : Sp) : List V → Hp → VK → Prop := fun xs H Q => ∃ (a dx : Addr) (gs : List (Str × V)), xs = [.ref a] ∧ H a = some (.ins C dx gs) ∧ sp [.ref a] H (oS Q) E0
theorem call_strO (M : OpOwn X.prog X.w X.K X.mg X.base k C "__str__" ps sp) (hr : Room (k + 2) X.A) : CallR X (.type "str") (rStrO C sp) := by
  obtain ⟨f, fd, hs, hf, F, b⟩ := M.ex
  intro pins s σ H xs us Q I r h
  obtain ⟨a, dx, gs, rfl, ea, q⟩ := h
  obtain ⟨u, rfl, rx⟩ := vals1 r
  cases rx
  obtain ⟨mA, J, _⟩ := ins_get I.hok ea
  obtain ⟨od, J, _⟩ := J.look
  refine PySem.W.kso_call hr.in1.in1.units0 I.kIn J hs hf (wpAny_mono (run_in2 F b hr I r q) (fun v s' hv => ?_) fun _ _ z => z)
  obtain ⟨z, H2, I2, rz, c, rfl, q2⟩ := hv
  obtain ⟨t, rfl⟩ := rz
  exact ⟨V.str c, H2, I2, ⟨t, rfl⟩, q2⟩
def CPowW (i j : Int) : Prop := 0 ≤ j ∧ (Builtin.Int.intBits i : Int) * j ≤ 2 ^ 27
theorem op_powW : OpR X (binaryOp .Pow) (rI CPowW fun i j => .int (i ^ j.toNat)) := opI fun _ _ _ _ _ _ _ hc q => PyProof.Rows.pow_int hc.1 hc.2 q
end
end Bx

set_option Elab.async false
set_option linter.all false
set_option maxRecDepth 100000
set_option maxHeartbeats 4000000
namespace Fl
open PySem PySem.Spec PyProof.Rows L2
/-! ### a heap without one place -/
def wo (H : Hp) (d : Addr) : Hp := fun a => if a = d then none else H a
theorem wo_sub (H : Hp) (d : Addr) : Same (wo H d) H := fun a o h => by
  unfold wo at h
  split at h
  · cases h
  · exact h
theorem wo_same {H H' : Hp} (d : Addr) (s : Same H H') : Same (wo H d) (wo H' d) := fun a o h => by
  unfold wo at *
  split at h
  · cases h
  · rename_i n
    rw [if_neg n]
    exact s a o h
theorem wo_keep {H H' : Hp} {d : Addr} (s : Keeps H H' d) : Same (wo H d) (wo H' d) := fun a o h => by
  unfold wo at *
  split at h
  · cases h
  · rename_i n
    rw [if_neg n]
    exact s a o h n
theorem wo_upd {H : Hp} {d : Addr} {o : HO} : Same (wo H d) (wo (upd H d o) d) := fun a u h => by
  unfold wo at *
  split at h
  · cases h
  · rename_i n
    rw [if_neg n, upd_ne n]
    exact h
theorem wo_of {H : Hp} {d : Addr} (h : H d = none) : Same H (wo H d) := fun a o e => by
  unfold wo
  rw [if_neg (ne_of_none e h)]
  exact e
theorem wo_at {H : Hp} {d a : Addr} {o : HO} (h : H a = some o) (n : a ≠ d) : wo H d a = some o := by
  unfold wo
  rw [if_neg n]
  exact h
theorem same_late {H0 H : Hp} {D : Addr} {o : HO} (s : Same H0 H) (h : H0 D = none) : Same H0 (upd H D o) := fun b u e => by
  rw [upd_ne (ne_of_none e h)]
  exact s b u e
/-! ### lists whose items are told one by one -/
def LAt {α : Type} (R : Hp → V → α → Prop) (H : Hp) (a : Addr) (xs : List α) : Prop := ∃ vs : List V, H a = some (.lst vs) ∧ vs.length = xs.length ∧ ∀ (i : Nat) (x : α), xs[i]? = some x → ∃ v, vs[i]? = some v ∧ R H v x
def Mono {α : Type} (R : Hp → V → α → Prop) : Prop := ∀ (H H' : Hp) (v : V) (x : α), Same H H' → R H v x → R H' v x
theorem LAt.same {α : Type} {R : Hp → V → α → Prop} (m : Mono R) {H H' : Hp} {a : Addr} {xs : List α} (h : LAt R H a xs) (k : Same H H') : LAt R H' a xs := by
  obtain ⟨vs, h1, h2, h3⟩ := h
  refine ⟨vs, k _ _ h1, h2, fun i x hx => ?_⟩
  obtain ⟨v, hv, r⟩ := h3 i x hx
  exact ⟨v, hv, m _ _ _ _ k r⟩
theorem LAt.imp {α β : Type} {R : Hp → V → α → Prop} {S : Hp → V → β → Prop} {f : α → β} {H : Hp} {a : Addr} {xs : List α} (h : LAt R H a xs) (k : ∀ v x, R H v x → S H v (f x)) : LAt S H a (xs.map f) := by
  obtain ⟨vs, h1, h2, h3⟩ := h
  refine ⟨vs, h1, by rw [List.length_map]; exact h2, fun i y hy => ?_⟩
  rw [List.getElem?_map] at hy
  cases hx : xs[i]? with
  | none => rw [hx] at hy; cases hy
  | some x =>
    rw [hx] at hy
    cases hy
    obtain ⟨v, hv, r⟩ := h3 i x hx
    exact ⟨v, hv, k v x r⟩
theorem LAt.map {α : Type} {R : Hp → V → α → Prop} {H : Hp} {a : Addr} {xs : List α} {f : α → V} (h : LAt R H a xs) (k : ∀ v x, R H v x → v = f x) : H a = some (.lst (xs.map f)) := by
  obtain ⟨vs, h1, h2, h3⟩ := h
  rw [h1]
  congr 2
  refine List.ext_getElem? fun i => ?_
  rw [List.getElem?_map]
  cases hx : xs[i]? with
  | none =>
    rw [List.getElem?_eq_none_iff] at hx
    exact List.getElem?_eq_none (by omega)
  | some x =>
    obtain ⟨v, hv, r⟩ := h3 i x hx
    rw [hv, k v x r]
    rfl
theorem item {vs : List V} {α : Type} {xs : List α} {i : Nat} {v : V} (hl : vs.length = xs.length) (hv : vs[i]? = some v) : ∃ x, xs[i]? = some x := by
  have h : i < vs.length := (List.getElem?_eq_some_iff.mp hv).1
  exact ⟨_, List.getElem?_eq_getElem (by omega)⟩
/-- a comprehension over a list, one new item for each -/
theorem lc_build {K : PySem.W.Frag} {a : Addr} {xs : List V} {g : TG} {tt : TT} {te : TE} {vs : List Nat} {σ : L2.St} {Hc : Hp} {D : Addr} {Qd : Hp → Prop} {β : Type} (S : Hp → V → β → Prop) (ys : List β) (mono : Mono S)
    (hD : Hc D = none) (hlen : xs.length = ys.length) (hl : SqL K Hc a xs) (small : ys.length ≤ 1000)
    (hs : ∀ (i : Nat) (x : V) (y : β) (H : Hp) (Kc : VK) (Ke : Hp → Prop), xs[i]? = some x → ys[i]? = some y → Same Hc H → (∃ acc, H D = some (.lst acc)) → (∀ v H4, Same H H4 → S (wo H4 D) v y → Kc v H4) →
      g x (wipe σ vs) H fun σ2 H2 => wipe σ2 vs = wipe σ vs ∧ tt σ2 H2 fun b H3 => if b = true then te σ2 H3 Kc else Ke H3)
    (hd : ∀ H', Same Hc H' → LAt S H' D ys → Qd H') :
    ∃ W : Nat → Nat → Hp → Prop, (∃ m, W 0 m (upd Hc D (.lst []))) ∧ ∀ i m H, W i m H →
      ((Itl K a).stop i H ∧ Qd H) ∨ ((Itl K a).go i H ∧ ∃ Nx : Hp → Prop, (∀ H', Nx H' → ∃ m', m' < m ∧ W (i + 1) m' H') ∧ ∀ x H', (Itl K a).yld i H x H' → g x (wipe σ vs) H' fun σ2 H2 => wipe σ2 vs = wipe σ vs ∧ tt σ2 H2 fun b H3 =>
        if b = true then te σ2 H3 fun y H4 => ∃ acc, H4 D = some (.lst acc) ∧ acc.length < sizeLine ∧ Nx (upd H4 D (.lst (acc ++ [y]))) else Nx H3) := by
  refine lc_list (xs := xs) (fun i H' => Same Hc H' ∧ ∃ acc : List V, H' D = some (.lst acc) ∧ acc.length = i ∧ ∀ (j : Nat) (y : β), j < i → ys[j]? = some y → ∃ v, acc[j]? = some v ∧ S (wo H' D) v y)
    ⟨same_upd hD, [], upd_same, rfl, fun j y hj => absurd hj (by omega)⟩ (fun i H' _ h => h.1.seq hl) ?_ ?_
  · rintro i x H hx ⟨s, acc, hacc, hlen2, hall⟩
    have hi : i < xs.length := (List.getElem?_eq_some_iff.mp hx).1
    have hy : ys[i]? = some ys[i] := List.getElem?_eq_getElem (by omega)
    refine hs i x ys[i] H _ _ hx hy s ⟨acc, hacc⟩ fun v H4 s4 hS => ?_
    have hacc4 := s4 _ _ hacc
    refine ⟨acc, hacc4, by rw [hlen2]; exact small1000 (by omega), same_late (s.trans s4) hD, acc ++ [v], upd_same, by rw [List.length_append, hlen2]; rfl, fun j y hj hyj => ?_⟩
    by_cases hji : j < i
    · obtain ⟨u, hu, hSu⟩ := hall j y hji hyj
      refine ⟨u, by rw [List.getElem?_append_left (by omega)]; exact hu, ?_⟩
      exact mono _ _ _ _ ((wo_same D s4).trans wo_upd) hSu
    · have e : j = i := by omega
      subst e
      rw [hy] at hyj
      cases hyj
      refine ⟨v, by rw [List.getElem?_append_right (by omega), hlen2, Nat.sub_self]; rfl, mono _ _ _ _ wo_upd hS⟩
  · rintro H' ⟨s, acc, hacc, hlen2, hall⟩
    refine hd H' s ⟨acc, hacc, by omega, fun j y hy => ?_⟩
    have hj : j < ys.length := (List.getElem?_eq_some_iff.mp hy).1
    obtain ⟨v, hv, hS⟩ := hall j y (by omega) hy
    exact ⟨v, hv, mono _ _ _ _ (wo_sub H' D) hS⟩
end Fl

set_option Elab.async false
set_option linter.all false
set_option maxRecDepth 100000
set_option maxHeartbeats 4000000
set_option pp.maxSteps 160
set_option pp.deepTerms false
namespace L
open PySem PySem.Spec PyProof.Rows L2 Fl
local macro_rules | `(tactic| walk_at "side") => `(tactic| first | (exact .inl ⟨by omega, by omega⟩) | (exact .inr ⟨by omega, by omega⟩) | (exact .inr ⟨by decide, by decide⟩) | (show (_ : Int) ≠ _; omega) | (exact ⟨by omega, by decide⟩) | (exact ⟨by decide, by decide, by decide⟩))
local macro_rules | `(tactic| walk_at "go") => `(tactic| repeat (first | refine ⟨_, rfl, ?_⟩ | refine ⟨_, _, rfl, rfl, ?_⟩ | refine .inl ⟨_, rfl, ?_⟩ | refine ⟨rfl, ?_⟩ | refine ⟨(by walk_at "side"), ?_⟩))
local macro_rules | `(tactic| walk_at "see") => `(tactic| (set_option pp.maxSteps 110 in set_option pp.deepTerms false in trace_state))
local macro_rules | `(tactic| walk_at "if") => `(tactic| first | refine ifE ?_ ?_ | refine ifNE ?_ ?_ | refine ifD ?_ ?_ | refine ifN ?_ ?_ | refine ifB ?_ ?_)
def topS (i : Nat) : Stmt := PySem.Challenge.pw_fieldlots_k39_grounds.main.body.getD i (.Pass ⟨0, 0, 0, 0⟩)
abbrev s_wall : Stmt := topS 0
theorem sc_wall : FnScope ["k"] ["k"] (defScope s_wall) := ⟨rfl, rfl, rfl, by decide +kernel, rfl, by decide +kernel, by decide +kernel⟩
abbrev s_BadNumber_init : Stmt := inClass (topS 3) 0
theorem sc_BadNumber_init : FnScope ["self", "name", "value"] ["self", "name", "value"] (defScope s_BadNumber_init) := ⟨rfl, rfl, rfl, by decide +kernel, rfl, by decide +kernel, by decide +kernel⟩
abbrev s_TooMany_init : Stmt := inClass (topS 4) 0
theorem sc_TooMany_init : FnScope ["self", "name", "most"] ["self", "name", "most"] (defScope s_TooMany_init) := ⟨rfl, rfl, rfl, by decide +kernel, rfl, by decide +kernel, by decide +kernel⟩
abbrev s_check_worth : Stmt := topS 7
theorem sc_check_worth : FnScope ["worth"] ["worth"] (defScope s_check_worth) := ⟨rfl, rfl, rfl, by decide +kernel, rfl, by decide +kernel, by decide +kernel⟩
abbrev s_check_classes : Stmt := topS 10
theorem sc_check_classes : FnScope ["classes", "worth", "many", "_"] ["classes"] (defScope s_check_classes) := ⟨rfl, rfl, rfl, by decide +kernel, rfl, by decide +kernel, by decide +kernel⟩
abbrev s_Ground_init : Stmt := inClass (topS 11) 2
theorem sc_Ground_init : FnScope ["self", "classes", "_", "many"] ["self", "classes"] (defScope s_Ground_init) := ⟨rfl, rfl, rfl, by decide +kernel, rfl, by decide +kernel, by decide +kernel⟩
abbrev s_Ground_plain : Stmt := inClass (topS 11) 3
theorem sc_Ground_plain : FnScope ["cls", "fields"] ["cls", "fields"] (defScope s_Ground_plain) := ⟨rfl, rfl, rfl, by decide +kernel, rfl, by decide +kernel, by decide +kernel⟩
abbrev s_Ground_total : Stmt := inClass (topS 11) 4
theorem sc_Ground_total : FnScope ["self", "spread"] ["self", "spread"] (defScope s_Ground_total) := ⟨rfl, rfl, rfl, by decide +kernel, rfl, by decide +kernel, by decide +kernel⟩
abbrev s_Ground_spreads : Stmt := inClass (topS 11) 5
theorem sc_Ground_spreads : FnScope ["self", "total"] ["self", "total"] (defScope s_Ground_spreads) := ⟨rfl, rfl, rfl, by decide +kernel, rfl, by decide +kernel, by decide +kernel⟩
abbrev s_Ground_count_spreads : Stmt := inClass (topS 11) 6
theorem sc_Ground_count_spreads : FnScope ["self", "total"] ["self", "total"] (defScope s_Ground_count_spreads) := ⟨rfl, rfl, rfl, by decide +kernel, rfl, by decide +kernel, by decide +kernel⟩
abbrev s_Ground_eq : Stmt := inClass (topS 11) 7
theorem sc_Ground_eq : FnScope ["self", "other"] ["self", "other"] (defScope s_Ground_eq) := ⟨rfl, rfl, rfl, by decide +kernel, rfl, by decide +kernel, by decide +kernel⟩
abbrev s_pool : Stmt := topS 13
theorem sc_pool : FnScope ["_law_script", "_law_cell"] ["_law_script"] (defScope s_pool) := ⟨rfl, rfl, rfl, by decide +kernel, rfl, by decide +kernel, by decide +kernel⟩
abbrev s_mix : Stmt := topS 14
theorem sc_mix : FnScope ["_law_state", "_law_turn", "_law_many_here", "_law_first", "_law_second"] ["_law_state", "_law_turn", "_law_many_here"] (defScope s_mix) := ⟨rfl, rfl, rfl, by decide +kernel, rfl, by decide +kernel, by decide +kernel⟩
abbrev s_draw : Stmt := topS 15
theorem sc_draw : FnScope ["_law_pool_here", "_law_many_here", "_law_spare", "_law_found", "_law_cell"] ["_law_pool_here", "_law_many_here"] (defScope s_draw) := ⟨rfl, rfl, rfl, by decide +kernel, rfl, by decide +kernel, by decide +kernel⟩
abbrev s_wide : Stmt := topS 16
theorem sc_wide : FnScope ["_law_pool_here", "_law_size", "_law_many_here", "_law_found", "_law_spare"] ["_law_pool_here"] (defScope s_wide) := ⟨rfl, rfl, rfl, by decide +kernel, rfl, by decide +kernel, by decide +kernel⟩
abbrev s_whole : Stmt := topS 17
theorem sc_whole : FnScope ["_law_actual"] ["_law_actual"] (defScope s_whole) := ⟨rfl, rfl, rfl, by decide +kernel, rfl, by decide +kernel, by decide +kernel⟩
abbrev s_worth : Stmt := topS 18
theorem sc_worth : FnScope ["_law_pool_here", "_law_way", "_law_edge"] ["_law_pool_here"] (defScope s_worth) := ⟨rfl, rfl, rfl, by decide +kernel, rfl, by decide +kernel, by decide +kernel⟩
abbrev s_many : Stmt := topS 19
theorem sc_many : FnScope ["_law_pool_here", "_law_used", "_law_way"] ["_law_pool_here", "_law_used"] (defScope s_many) := ⟨rfl, rfl, rfl, by decide +kernel, rfl, by decide +kernel, by decide +kernel⟩
abbrev s_rows : Stmt := topS 20
theorem sc_rows : FnScope ["_law_pool_here", "_law_rows_here", "_law_used", "_law_spare", "_law_worth_here", "_law_many_here"] ["_law_pool_here"] (defScope s_rows) := ⟨rfl, rfl, rfl, by decide +kernel, rfl, by decide +kernel, by decide +kernel⟩
abbrev s_ground : Stmt := topS 21
theorem sc_ground : FnScope ["_law_rows_here"] ["_law_rows_here"] (defScope s_ground) := ⟨rfl, rfl, rfl, by decide +kernel, rfl, by decide +kernel, by decide +kernel⟩
abbrev s_refused : Stmt := topS 22
theorem sc_refused : FnScope ["_law_rows_here", "_law_plain", "_law_found", "_law_kinds", "bad", "much"] ["_law_rows_here", "_law_plain"] (defScope s_refused) := ⟨rfl, rfl, rfl, by decide +kernel, rfl, by decide +kernel, by decide +kernel⟩
abbrev s_due : Stmt := topS 23
theorem sc_due : FnScope ["_law_rows_here", "_law_fields", "_law_row"] ["_law_rows_here"] (defScope s_due) := ⟨rfl, rfl, rfl, by decide +kernel, rfl, by decide +kernel, by decide +kernel⟩
abbrev s_mended : Stmt := topS 24
theorem sc_mended : FnScope ["_law_rows_here", "_law_kept", "_law_good", "_law_room", "_law_index", "_law_behind", "_law_many_here"] ["_law_rows_here"] (defScope s_mended) := ⟨rfl, rfl, rfl, by decide +kernel, rfl, by decide +kernel, by decide +kernel⟩
abbrev s_shows : Stmt := topS 25
theorem sc_shows : FnScope ["_law_ground_here", "_law_rows_here", "_law_at", "_law_worth_here", "_law_many_here", "_law_row"] ["_law_ground_here", "_law_rows_here"] (defScope s_shows) := ⟨rfl, rfl, rfl, by decide +kernel, rfl, by decide +kernel, by decide +kernel⟩
abbrev s_others : Stmt := topS 26
theorem sc_others : FnScope ["_law_pool_here", "_law_good", "_law_at", "_law_worth_here", "_law_many_here", "_law_fields", "_law_row", "_law_others_here"] ["_law_pool_here", "_law_good"] (defScope s_others) := ⟨rfl, rfl, rfl, by decide +kernel, rfl, by decide +kernel, by decide +kernel⟩
abbrev s_law : Stmt := topS 27
theorem sc_law : FnScope ["_law_script", "_law_pool_here", "_law_rows_here", "_law_good", "_law_ground_here", "_law_other", "_law_made", "_law_like", "_law_due_here", "_law_plain"] ["_law_script"] (defScope s_law) := ⟨rfl, rfl, rfl, by decide +kernel, rfl, by decide +kernel, by decide +kernel⟩
section
variable {P : Program} {w : World} {K : PySem.W.Frag} {mg : Str → Option Value} {base : Heap}

def spMix : Sp := fun vs H Q _ => ∃ (s t m : Int), vs = [.int s, .int t, .int m] ∧ 2 ≤ m ∧ m < 1073741824 ∧ ∀ r : Int, 0 ≤ r → r < m → Q (.int r) H
abbrev CalMix (P : Program) (w : World) (K : PySem.W.Frag) (mg : Str → Option Value) (base : Heap) := Cal P w K mg base 1 "_law_mix" ["_law_state", "_law_turn", "_law_many_here"] spMix
theorem ok_mix (B : Blt mg) (D : Dfn K mg "_law_mix" "_law_mix" s_mix ["_law_state", "_law_turn", "_law_many_here"]) : CalMix P w K mg base := by
  refine D.cal sc_mix (fun vs H Q E h => ?_) (fun f cdv A outer st H vs Q E hr h => ?_)
  · obtain ⟨s, t, m, rfl, _⟩ := h
    rfl
  · obtain ⟨s, t, m, rfl, h2, h3, q⟩ := h
    refine ⟨_, (pss_cons (ps_set (i := 3) sc_mix.nd rfl (Or.inl rfl) (pe_op op_modN (pe_callTy call_int1 (by rfl) B.int (by decide +kernel) (pa_cons (pe_op op_add (pe_op op_add (pe_op op_mul (pv 0) (pe_int)) (pe_op op_mul (pv 1) (pe_int))) (pe_int)) pa_nil)) (pe_int)))
      (pss_cons (ps_set (i := 4) sc_mix.nd rfl (Or.inl rfl) (pe_op op_modN (pe_callTy call_int1 (by rfl) B.int (by decide +kernel) (pa_cons (pe_op op_add (pe_op op_add (pe_op op_mul (pv 3) (pv 3)) (pe_op op_mul (pv 1) (pe_int))) (pv 0)) pa_nil)) (pe_int)))
      (pss_one (ps_ret (pe_op op_modN (pe_callTy call_int1 (by rfl) B.int (by decide +kernel) (pa_cons (pe_op op_fdivA (pv 4) (pe_int)) pa_nil)) (pv 2)))))), ?_⟩
    walk_at "go"
    have b1 := fm (s * 16807 + t * 7919 + 101) (show (0 : Int) < 2147483629 by decide)
    refine ⟨.inl ⟨by omega, by omega⟩, ?_⟩
    walk_at "go"
    have b2 := fm (((((s * 16807 + t * 7919 + 101).fmod 2147483629 * (s * 16807 + t * 7919 + 101).fmod 2147483629) + t * 104729 + s).fmod 2147483587).fdiv 11) (show (0 : Int) < m by omega)
    exact q _ b2.1 b2.2
def spDraw : Sp := fun vs H Q _ => ∃ (p : Pla) (m : Int), vs = [.ref p, .int m] ∧ Pool H p ∧ 2 ≤ m ∧ m < 1073741824 ∧ ∀ (r : Int) (H' : Hp), 0 ≤ r → r < m → Pool H' p → Keeps H H' p → Q (.int r) H'
abbrev CalDraw (P : Program) (w : World) (K : PySem.W.Frag) (mg : Str → Option Value) (base : Heap) := Cal P w K mg base 2 "_law_draw" ["_law_pool_here", "_law_many_here"] spDraw
theorem ok_draw (B : Blt mg) (D : Dfn K mg "_law_draw" "_law_draw" s_draw ["_law_pool_here", "_law_many_here"]) (C_mix : CalMix P w K mg base) : CalDraw P w K mg base := by
  refine D.cal sc_draw (fun vs H Q E h => ?_) (fun f cdv A outer st H vs Q E hr h => ?_)
  · obtain ⟨p, m, rfl, _⟩ := h
    rfl
  · obtain ⟨p, m, rfl, ⟨ns, i, b, c, d, hp, hq, hi, hqp⟩, h2, h3, k⟩ := h
    refine ⟨_, (pss_cons (ps_if (PW.pt (pw_or (pt_cmpR op_lt (pv 1) (pe_int) (nomark _)) (pw_or1 (pt_cmpR op_eq (pe_callB call_len_seq (by rfl) B.len PySem.boot_len (pa_cons (pe_ix ix_list (pv 0) (pe_int) (fun _ _ => rfl)) pa_nil)) (pe_int) (nomark _))))) (pss_one (ps_ret (pe_int))) pss_nil)
      (pss_cons (ps_asg (pe_op op_add (pe_ix ix_list (pv 0) (pe_int) (fun _ _ => rfl)) (pe_int)) (pg_sub (pv 0) (pe_int) set_list))
      (pss_cons (ps_for PassesOwn.never rfl (pi_range1 (by rfl) B.range (pa_cons (pe_int) pa_nil)) (pg_name (i := 2) sc_draw.nd rfl (Or.inl rfl)) (pss_cons (ps_if (pt_cmpR op_gt (pe_ix ix_list (pv 0) (pe_int) (fun _ _ => rfl)) (pe_int) (nomark _)) (pss_cons (ps_set (i := 3) sc_draw.nd rfl (Or.inl rfl) (pe_op op_modN (pe_callTy call_int1 (by rfl) B.int (by decide +kernel) (pa_cons (pe_ix ix_list (pv 0) (pe_int) (fun _ _ => rfl)) pa_nil)) (pv 1)))
      (pss_cons (ps_asg (pe_op op_fdivA (pe_ix ix_list (pv 0) (pe_int) (fun _ _ => rfl)) (pv 1)) (pg_sub (pv 0) (pe_int) set_list))
      (pss_one (ps_ret (pv 3))))) pss_nil)
      (pss_cons (ps_if (pt_cmpR op_ge (pe_ix ix_list (pv 0) (pe_int) (fun _ _ => rfl)) (pe_callB call_len_seq (by rfl) B.len PySem.boot_len (pa_cons (pe_ix ix_list (pv 0) (pe_int) (fun _ _ => rfl)) pa_nil)) (nomark _)) (pss_one (ps_ret (pe_cal C_mix (hr.mono (by decide)) (pa_cons (pe_ix ix_list (pv 0) (pe_int) (fun _ _ => rfl)) (pa_cons (pe_ix ix_list (pv 0) (pe_int) (fun _ _ => rfl)) (pa_cons (pv 1) pa_nil)))))) pss_nil)
      (pss_cons (ps_set (i := 4) sc_draw.nd rfl (Or.inl rfl) (pe_ix ix_list (pe_ix ix_list (pv 0) (pe_int) (fun _ _ => rfl)) (pe_ix ix_list (pv 0) (pe_int) (fun _ _ => rfl)) (fun _ _ => rfl)))
      (pss_cons (ps_asg (pe_op op_add (pe_ix ix_list (pv 0) (pe_int) (fun _ _ => rfl)) (pe_int)) (pg_sub (pv 0) (pe_int) set_list))
      (pss_cons (ps_asg (pe_op op_modN (pe_callTy call_int1 (by rfl) B.int (by decide +kernel) (pa_cons (pe_op op_add (pe_op op_add (pe_op op_mul (pe_ix ix_list (pv 0) (pe_int) (fun _ _ => rfl)) (pe_int)) (pe_op op_mul (pv 4) (pe_int))) (pe_int)) pa_nil)) (pe_int)) (pg_sub (pv 0) (pe_int) set_list))
      (pss_cons (ps_if (pt_cmpR op_lt (pv 4) (pe_op op_pow (pe_int) (pe_int)) (nomark _)) (pss_one (ps_ret (pe_cal C_mix (hr.mono (by decide)) (pa_cons (pe_ix ix_list (pv 0) (pe_int) (fun _ _ => rfl)) (pa_cons (pe_ix ix_list (pv 0) (pe_int) (fun _ _ => rfl)) (pa_cons (pv 1) pa_nil)))))) pss_nil)
      (pss_one (ps_asg (pe_op op_sub (pv 4) (pe_op op_pow (pe_int) (pe_int))) (pg_sub (pv 0) (pe_int) set_list))))))))))
      (pss_one (ps_ret (pe_cal C_mix (hr.mono (by decide)) (pa_cons (pe_ix ix_list (pv 0) (pe_int) (fun _ _ => rfl)) (pa_cons (pe_ix ix_list (pv 0) (pe_int) (fun _ _ => rfl)) (pa_cons (pv 1) pa_nil))))))))), ?_⟩
    walk_at "go"
    rw [decide_eq_false (by omega)]
    refine iteF ?_
    walk_at "go"
    refine ⟨_, _, _, _, rfl, rfl, SqL.of hp, rfl, ?_⟩
    refine ⟨_, _, rfl, .inl (SqL.of hq), ?_⟩
    walk_at "go"
    walk_at "if"
    · intro _
      walk_at "go"
      exact k 0 H (by omega) (by omega) ⟨ns, i, b, c, d, hp, hq, hi, hqp⟩ (Keeps.refl _ _)
    intro hlen
    refine ⟨_, rfl, _, _, _, _, rfl, rfl, SqL.of hp, rfl, ?_⟩
    walk_at "go"
    refine ⟨_, _, _, _, rfl, rfl, hp, rfl, ?_⟩
    refine ⟨64, rfl, by decide, by decide, for_range (n := 64) (fun _ σ H' => ∃ v2 v3 v4 : Option V, σ = [some (.ref (p : Addr)), some (.int m), v2, v3, v4] ∧ ∃ i b c d : Int, H' p = some (.lst [.ref p.q, .int i, .int b, .int c, .int d]) ∧ H' p.q = some (.lst (ns.map V.int)) ∧ 0 ≤ i ∧ Keeps H H' p)
      ⟨none, none, none, rfl, i, b, c, d + 1, upd_same, by rw [upd_ne hqp]; exact hq, hi, Keeps.upd⟩ ?_ ?_⟩
    · rintro j σ H1 hj ⟨v2, v3, v4, rfl, i, b, c, d, hp, hq, hi, hk⟩
      refine ⟨_, rfl, _, _, _, _, rfl, rfl, SqL.of hp, rfl, ?_⟩
      walk_at "go"
      walk_at "if"
      · intro hb
        refine ⟨_, rfl, _, _, _, _, rfl, rfl, SqL.of hp, rfl, ?_⟩
        walk_at "go"
        refine ⟨_, _, _, _, rfl, rfl, SqL.of hp, rfl, ?_⟩
        walk_at "go"
        refine ⟨divA (b := 30) (by omega) (by omega) (by decide) (by decide), ?_⟩
        walk_at "go"
        refine ⟨_, _, _, _, rfl, rfl, hp, rfl, ?_⟩
        walk_at "go"
        have b2 := fm b (show (0 : Int) < m by omega)
        exact k _ _ b2.1 b2.2 ⟨ns, i, _, c, d, upd_same, by rw [upd_ne hqp]; exact hq, hi, hqp⟩ (hk.trans Keeps.upd)
      · intro hb
        refine ⟨_, rfl, _, _, _, _, rfl, rfl, SqL.of hp, rfl, ?_⟩
        walk_at "go"
        refine ⟨_, _, _, _, rfl, rfl, SqL.of hp, rfl, ?_⟩
        refine ⟨_, _, rfl, .inl (SqL.of hq), ?_⟩
        walk_at "go"
        walk_at "if"
        · intro hl
          refine ⟨_, rfl, _, _, _, _, rfl, rfl, SqL.of hp, rfl, ?_⟩
          refine ⟨_, rfl, _, _, _, _, rfl, rfl, SqL.of hp, rfl, ?_⟩
          walk_at "go"
          refine ⟨_, _, _, rfl, h2, h3, fun r r0 r1 => ?_⟩
          exact k _ _ r0 r1 ⟨ns, i, b, c, d, hp, hq, hi, hqp⟩ hk
        · intro hl
          have hl2 : i < (ns.length : Int) := by
            have hl' : ¬ ((ns.map V.int).length : Int) ≤ i := hl
            rw [List.length_map] at hl'
            omega
          obtain ⟨n, rfl⟩ : ∃ n : Nat, i = (n : Int) := ⟨i.toNat, by omega⟩
          have hn : n < ns.length := by omega
          refine ⟨_, rfl, _, _, _, _, rfl, rfl, SqL.of hp, rfl, ?_⟩
          refine ⟨_, rfl, _, _, _, _, rfl, rfl, SqL.of hp, rfl, ?_⟩
          refine ⟨_, _, _, _, rfl, rfl, SqL.of hq, atI_nat (ints_at hn), ?_⟩
          refine ⟨_, rfl, _, _, _, _, rfl, rfl, SqL.of hp, rfl, ?_⟩
          walk_at "go"
          refine ⟨_, _, _, _, rfl, rfl, hp, rfl, ?_⟩
          refine ⟨_, rfl, _, _, _, _, rfl, rfl, SqL.of upd_same, rfl, ?_⟩
          walk_at "go"
          refine ⟨_, _, _, _, rfl, rfl, upd_same, rfl, ?_⟩
          walk_at "go"
          walk_at "if"
          · intro hcell
            refine ⟨_, rfl, _, _, _, _, rfl, rfl, SqL.of upd_same, rfl, ?_⟩
            refine ⟨_, rfl, _, _, _, _, rfl, rfl, SqL.of upd_same, rfl, ?_⟩
            walk_at "go"
            refine ⟨_, _, _, rfl, h2, h3, fun r r0 r1 => ?_⟩
            exact k _ _ r0 r1 ⟨ns, _, b, _, d, upd_same, by rw [upd_ne hqp, upd_ne hqp]; exact hq, by omega, hqp⟩ ((hk.trans Keeps.upd).trans Keeps.upd)
          · intro hcell
            walk_at "go"
            refine ⟨_, _, _, _, rfl, rfl, upd_same, rfl, ?_⟩
            exact ⟨_, _, _, rfl, _, _, _, d, upd_same, by rw [upd_ne hqp, upd_ne hqp, upd_ne hqp]; exact hq, by omega, ((hk.trans Keeps.upd).trans Keeps.upd).trans Keeps.upd⟩
    · rintro σ H1 ⟨v2, v3, v4, rfl, i, b, c, d, hp, hq, hi, hk⟩
      refine ⟨_, rfl, _, _, _, _, rfl, rfl, SqL.of hp, rfl, ?_⟩
      refine ⟨_, rfl, _, _, _, _, rfl, rfl, SqL.of hp, rfl, ?_⟩
      walk_at "go"
      refine ⟨_, _, _, rfl, h2, h3, fun r r0 r1 => ?_⟩
      exact k _ _ r0 r1 ⟨ns, i, b, c, d, hp, hq, hi, hqp⟩ hk

theorem wide_ix {s : Int} (h0 : 3 ≤ s) (h1 : s < 6) : ∃ M : Int, atI [V.int 1, V.int 2, V.int 5] (s - 3) = some (V.int M) ∧ (M = 1 ∨ M = 2 ∨ M = 5) := by
  have : s = 3 ∨ s = 4 ∨ s = 5 := by omega
  rcases this with rfl | rfl | rfl
  · exact ⟨1, rfl, by omega⟩
  · exact ⟨2, rfl, by omega⟩
  · exact ⟨5, rfl, by omega⟩
def spWide : Sp := fun vs H Q _ => ∃ (p : Pla), vs = [.ref p] ∧ Pool H p ∧ ∀ (r : Int) (H' : Hp), 0 ≤ r → r < 10 ^ 30 → Pool H' p → Keeps H H' p → Q (.int r) H'
abbrev CalWide (P : Program) (w : World) (K : PySem.W.Frag) (mg : Str → Option Value) (base : Heap) := Cal P w K mg base 3 "_law_wide" ["_law_pool_here"] spWide
theorem ok_wide (B : Blt mg) (D : Dfn K mg "_law_wide" "_law_wide" s_wide ["_law_pool_here"]) (C_draw : CalDraw P w K mg base) : CalWide P w K mg base := by
  refine D.cal sc_wide (fun vs H Q E h => ?_) (fun f cdv A outer st H vs Q E hr h => ?_)
  · obtain ⟨p, rfl, _⟩ := h
    rfl
  · obtain ⟨p, rfl, hP, k⟩ := h
    refine ⟨_, (pss_cons (ps_set (i := 1) sc_wide.nd rfl (Or.inl rfl) (pe_cal C_draw (hr.mono (by decide)) (pa_cons (pv 0) (pa_cons (pe_int) pa_nil))))
      (pss_cons (ps_if (pt_cmpR op_eq (pv 1) (pe_int) (nomark _)) (pss_one (ps_ret (pe_cal C_draw (hr.mono (by decide)) (pa_cons (pv 0) (pa_cons (pe_int) pa_nil))))) pss_nil)
      (pss_cons (ps_if (pt_cmpR op_lt (pv 1) (pe_int) (nomark _)) (pss_one (ps_ret (pe_cal C_draw (hr.mono (by decide)) (pa_cons (pv 0) (pa_cons (pe_int) pa_nil))))) pss_nil)
      (pss_cons (ps_set (i := 2) sc_wide.nd rfl (Or.inl rfl) (pe_ix ix_tup (pe_tup (pa_cons (pe_int) (pa_cons (pe_int) (pa_cons (pe_int) pa_nil)))) (pe_op op_sub (pv 1) (pe_int)) (fun _ _ => rfl)))
      (pss_cons (ps_set (i := 3) sc_wide.nd rfl (Or.inl rfl) (pe_int))
      (pss_cons (ps_for PassesOwn.never rfl (pi_range1 (by rfl) B.range (pa_cons (pv 2) pa_nil)) (pg_name (i := 4) sc_wide.nd rfl (Or.inl rfl)) (pss_one (ps_set (i := 3) sc_wide.nd rfl (Or.inl rfl) (pe_op op_add (pe_op op_mul (pv 3) (pe_op op_pow (pe_int) (pe_int))) (pe_cal C_draw (hr.mono (by decide)) (pa_cons (pv 0) (pa_cons (pe_op op_pow (pe_int) (pe_int)) pa_nil)))))))
      (pss_one (ps_ret (pv 3))))))))), ?_⟩
    refine ⟨_, rfl, p, 6, rfl, hP, by decide, by decide, fun s H1 s0 s1 hP1 hk1 => ?_⟩
    walk_at "go"
    walk_at "if"
    · intro _
      refine ⟨_, rfl, p, 4, rfl, hP1, by decide, by decide, fun r H2 r0 r1 hP2 hk2 => ?_⟩
      exact k r H2 r0 (by omega) hP2 (hk1.trans hk2)
    intro n0
    walk_at "go"
    walk_at "if"
    · intro _
      refine ⟨_, rfl, p, 30, rfl, hP1, by decide, by decide, fun r H2 r0 r1 hP2 hk2 => ?_⟩
      exact k r H2 r0 (by omega) hP2 (hk1.trans hk2)
    intro n3
    obtain ⟨M, eM, hM⟩ := wide_ix (s := s) (by omega) s1
    refine ⟨(by show 3 ≤ sizeLine; decide), fun t ht => ?_⟩
    walk_at "go"
    refine ⟨_, _, _, _, rfl, rfl, SqT.of upd_same, eM, ?_⟩
    refine ⟨_, rfl, _, rfl, (by omega), (by omega), for_range (n := M.toNat) (fun i σ H' => ∃ (f : Int) (v4 : Option V), σ = [some (.ref (p : Addr)), some (.int s), some (.int M), some (.int f), v4] ∧ 0 ≤ f ∧ f < 1000000 ^ i ∧ Pool H' p ∧ Keeps H H' p)
      ⟨0, none, rfl, by omega, by decide, hP1.upd ht, hk1.trans (same_keeps (same_upd ht))⟩ ?_ ?_⟩
    · rintro i σ H2 hi ⟨f, v4, rfl, f0, f1, hP2, hk2⟩
      walk_at "go"
      refine ⟨_, _, rfl, hP2, by decide, by decide, fun r H3 r0 r1 hP3 hk3 => ?_⟩
      walk_at "go"
      have r1' : r < 1000000 := r1
      refine ⟨f * 1000000 + r, _, rfl, by omega, ?_, hP3, hk2.trans hk3⟩
      rw [Int.pow_succ]
      omega
    · rintro σ H2 ⟨f, v4, rfl, f0, f1, hP2, hk2⟩
      refine ⟨_, rfl, k f H2 f0 ?_ hP2 hk2⟩
      rcases hM with rfl | rfl | rfl
      · exact Int.lt_of_lt_of_le f1 (by decide)
      · exact Int.lt_of_lt_of_le f1 (by decide)
      · exact Int.lt_of_lt_of_le f1 (by decide)

def spPool (K : PySem.W.Frag) : Sp := fun vs H Q _ => ∃ (a : Addr) (ns : List Int), vs = [.ref a] ∧ SqL K H a (ns.map V.int) ∧ ns.length ≤ 63 ∧ ∀ (p : Pla) (H' : Hp), Same H H' → H p = none → H p.q = none → Pool H' p → Q (.ref p) H'
abbrev CalPool (P : Program) (w : World) (K : PySem.W.Frag) (mg : Str → Option Value) (base : Heap) := Cal P w K mg base 1 "_law_pool" ["_law_script"] (spPool K)
theorem ok_pool (B : Blt mg) (D : Dfn K mg "_law_pool" "_law_pool" s_pool ["_law_script"]) : CalPool P w K mg base := by
  refine D.cal sc_pool (fun vs H Q E h => ?_) (fun f cdv A outer st H vs Q E hr h => ?_)
  · obtain ⟨a, ns, rfl, _⟩ := h
    rfl
  · obtain ⟨a, ns, rfl, hS, hl, k⟩ := h
    refine ⟨_, (pss_one (ps_ret (pe_lst (pa_cons (pe_lc (own := [("_law_cell", 1)]) (g := gName 1) rfl sc_pool.nd (pi_list (pv 0)) (blkOk_by (N := ["_law_script", "_law_cell"]) (sc := defScope s_pool) (by decide +kernel)) (fun _ _ _ _ _ => pg_name (i := 1) sc_pool.nd rfl (Or.inl rfl)) (fun _ _ _ _ _ => pts_nil) (fun _ _ _ _ _ => (pe_callTy call_int1 (by rfl) B.int (by decide +kernel) (pa_cons (pv 1) pa_nil)))) (pa_cons (pe_int) (pa_cons (pe_int) (pa_cons (pe_int) (pa_cons (pe_int) pa_nil)))))))), ?_⟩
    refine ⟨_, rfl, a, rfl, ⟨_, hS⟩, fun D hD => lc_list (K := K) (a := a) (xs := ns.map V.int) (fun i H' => H' = upd H D (.lst ((ns.take i).map V.int))) rfl (fun i H' _ e => by rw [e]; exact (same_upd hD).seq hS) ?_ ?_⟩
    · rintro i x H' hx rfl
      obtain ⟨z, hz, rfl⟩ := int_of_map hx
      refine ⟨rfl, ?_⟩
      refine ⟨_, rfl, .inl ⟨_, rfl, _, upd_same, ?_, ?_⟩⟩
      · rw [List.length_map, List.length_take]
        exact small1000 (by omega)
      · rw [upd_upd, List.take_add_one, hz, List.map_append]
        rfl
    · rintro H' rfl
      refine ⟨(by show 5 ≤ sizeLine; decide), fun p hp => ?_⟩
      have hne : D ≠ p := ne_of_none upd_same hp
      have hp0 : H p = none := by rw [upd_ne hne.symm] at hp; exact hp
      refine k ⟨p, D⟩ _ ((same_upd hD).trans (same_upd hp)) hp0 hD ⟨ns, 0, 0, 1, 0, upd_same, ?_, by decide, hne⟩
      show upd _ p _ D = _
      rw [upd_ne hne, upd_same, List.length_map, List.take_length]

theorem kit_own {K : PySem.W.Frag} {t : Value} {C : Addr} {b : Bool} (hd : PySem.W.hasDictIn K C = true) (ht : PySem.W.typeIn K (.ref C) = some (.type "type")) (hs : PySem.W.subIn K t (.ref C) = some b) (hself : PySem.W.subIn K t t = some true) : PySem.W.kitOne K t (.ref C) = some b := by
  unfold PySem.W.kitOne
  by_cases h : (t == Value.ref C) = true
  · rw [if_pos h]
    have e := beq_iff_eq.mp h
    subst e
    rw [hs] at hself
    exact hself.symm
  · rw [if_neg h]
    obtain ⟨cd, hc, _⟩ := PySem.W.any_some hd
    have e2 : ((PySem.W.clsIn K C).isSome && PySem.W.typeIn K (.ref C) == some (.type "type")) = true := by rw [hc, ht] <;> rfl
    show (if ((PySem.W.clsIn K C).isSome && PySem.W.typeIn K (.ref C) == some (.type "type")) = true then PySem.W.subIn K t (.ref C) else none) = some b
    rw [if_pos e2]
    exact hs
theorem kit_int {K : PySem.W.Frag} {C : Addr} {b : Bool} (hd : PySem.W.hasDictIn K C = true) (ht : PySem.W.typeIn K (.ref C) = some (.type "type")) (hs : PySem.W.subIn K (.type "int") (.ref C) = some b) : PySem.W.kitOne K (.type "int") (.ref C) = some b := by
  unfold PySem.W.kitOne
  rw [if_neg (by intro h; cases beq_iff_eq.mp h)]
  obtain ⟨cd, hc, _⟩ := PySem.W.any_some hd
  have e2 : ((PySem.W.clsIn K C).isSome && PySem.W.typeIn K (.ref C) == some (.type "type")) = true := by rw [hc, ht] <;> rfl
  show (if ((PySem.W.clsIn K C).isSome && PySem.W.typeIn K (.ref C) == some (.type "type")) = true then PySem.W.subIn K (.type "int") (.ref C) else none) = some b
  rw [if_pos e2]
  exact hs
def spWhole : Sp := fun vs H Q _ => ∃ (i : Int), vs = [.int i] ∧ Q (.bl true) H
abbrev CalWhole (P : Program) (w : World) (K : PySem.W.Frag) (mg : Str → Option Value) (base : Heap) := Cal P w K mg base 1 "_law_whole" ["_law_actual"] spWhole
theorem ok_whole (B : Blt mg) (D : Dfn K mg "_law_whole" "_law_whole" s_whole ["_law_actual"]) : CalWhole P w K mg base := by
  refine D.cal sc_whole (fun vs H Q E h => ?_) (fun f cdv A outer st H vs Q E hr h => ?_)
  · obtain ⟨i, rfl, _⟩ := h
    rfl
  · obtain ⟨i, rfl, q⟩ := h
    refine ⟨_, (pss_one (ps_ret ((pe_and (pe_callB call_isi (by rfl) B.isinstance (by decide +kernel) (pa_cons (pv 0) (pa_cons (pe_bltn (v := .ty "int") (by rfl) B.int (by decide +kernel) rfl) pa_nil))) (pe_one (pe_not (pe_callB call_isi (by rfl) B.isinstance (by decide +kernel) (pa_cons (pv 0) (pa_cons (pe_bltn (v := .ty "bool") (by rfl) B.bool (by decide +kernel) rfl) pa_nil))))))))), ?_⟩
    refine ⟨_, rfl, _, _, _, _, true, rfl, .ty _, .base (.int _), kit_ty (by decide +kernel), _, rfl, iteT ?_⟩
    refine ⟨_, rfl, _, _, _, _, false, rfl, .ty _, .base (.int _), kit_ty (by decide +kernel), _, rfl, ?_⟩
    exact q

theorem ok_bn {C f : Addr} {fd : FuncData} (T : BnC K mg C) (F : Fun K "__init__" "BadNumber.__init__" s_BadNumber_init f fd) : FnOk P w K mg base CX0 1 f fd ["self", "name", "value"] (spBN C) := by
  refine F.ok sc_BadNumber_init (fun vs H Q E h => ?_) (fun cdv A outer st H vs Q E hr h => ?_)
  · obtain ⟨a, n, v, rfl, _⟩ := h
    rfl
  · obtain ⟨a, n, v, rfl, ha, k⟩ := h
    refine ⟨_, pss_cons (ps_ost (pv 0) (pv 1)) (pss_one (ps_ost (pv 0) (pv 2))), ?_⟩
    refine ⟨_, rfl, _, rfl, a, C, rfl, T.o, T.nN, .inl ⟨ha, fun dx hdx hne => ?_⟩⟩
    refine ⟨_, rfl, _, rfl, a, C, rfl, T.o, T.nV, .inr ⟨dx, [("name", n)], upd_same, ?_, (by show 1 ≤ 900; decide), k dx hdx hne⟩⟩
    rw [upd_ne hne, upd_same]
end

theorem keeps_late {H0 H : Hp} {D p : Addr} {o : HO} (s : Keeps H0 H p) (h : H0 D = none) : Keeps H0 (upd H D o) p := fun b u e n => by
  rw [upd_ne (ne_of_none e h)]
  exact s b u e n
theorem call_len_K {X : Cx} {K : PySem.W.Frag} (e : X.K = K) : CallR X (.builtin "len") (fun xs H Q => ∃ p ys, xs = [.ref p] ∧ (SqL K H p ys ∨ SqT K H p ys) ∧ Q (.int (ys.length : Int)) H) := by
  subst e
  exact call_len_seq
theorem ix_list_K {X : Cx} {K : PySem.W.Frag} (e : X.K = K) : IxR X (rIxL K) := by
  subst e
  exact ix_list
theorem ix_tup_K {X : Cx} {K : PySem.W.Frag} (e : X.K = K) : IxR X (rIxT K) := by
  subst e
  exact ix_tup
theorem pe_or {X : Cx} {e : Expr} {t u : TE} (h : PE X e t) (k : PE X e u) : PE X e (fun σ H Q => t σ H Q ∨ u σ H Q) := ⟨fun pins s σ H Q I q => by
  rcases q with q | q
  · exact h.run pins s σ H Q I q
  · exact k.run pins s σ H Q I q⟩
theorem made {C x dx : Addr} {fs : List (Str × V)} {H H' : Hp} (nx : H x = none) (ndx : H dx = none) (hk : Keeps (upd (upd H dx (.own x)) x (.ins C dx fs)) H' x) : Same H H' := fun b o e =>
  hk b o (by rw [upd_ne (ne_of_none e nx), upd_ne (ne_of_none e ndx)]; exact e) (ne_of_none e nx)
abbrev Cls2 := Int × Int
/-! ### classes -/
def ClP (H : Hp) (v : V) (c : Cls2) : Prop := ∃ t, v = .ref t ∧ H t = some (.tup [.int c.1, .int c.2])
theorem clP_mono : Mono ClP := fun H H' v x s h => by
  obtain ⟨t, e, ht⟩ := h
  exact ⟨t, e, s _ _ ht⟩
def fds (cs : List Cls2) : Int := (cs.map (fun c => c.2)).sum
structure ClsV (cs : List Cls2) : Prop where
  l1 : 1 ≤ cs.length
  l4 : cs.length ≤ 4
  at_ : ∀ c, c ∈ cs → 1 ≤ c.1 ∧ c.1 ≤ 1000 ∧ 1 ≤ c.2
  sm : fds cs ≤ 12
def grf (n : Int) (M : Addr) : List (Str × V) := putF "fields" (.int n) (putF "classes" (.ref M) [])
theorem nfc : ¬ (("classes" : Str) = "fields") := by decide +kernel
theorem grf_classes (n : Int) (M : Addr) : (grf n M).lookup ("classes" : Str) = some (.ref M) := by
  unfold grf
  rw [lookup_putF, if_neg nfc, lookup_putF, if_pos rfl]
theorem grf_fields (n : Int) (M : Addr) : (grf n M).lookup ("fields" : Str) = some (.int n) := by
  unfold grf
  rw [lookup_putF, if_pos rfl]
theorem grf_no (n : Int) (M : Addr) {m : Str} (h1 : ¬ m = "fields") (h2 : ¬ m = "classes") : (grf n M).lookup m = none := by
  unfold grf
  rw [lookup_putF, if_neg h1, lookup_putF, if_neg h2]
  rfl
/-- the ground x of these classes -/
def GrAt (G : Addr) (H : Hp) (x : Addr) (cs : List Cls2) : Prop := ∃ dx M, H x = some (.ins G dx (grf (fds cs) M)) ∧ LAt ClP H M cs
theorem GrAt.same {G : Addr} {H H' : Hp} {x : Addr} {cs : List Cls2} (h : GrAt G H x cs) (s : Same H H') : GrAt G H' x cs := by
  obtain ⟨dx, M, h1, h2⟩ := h
  exact ⟨dx, M, s _ _ h1, h2.same clP_mono s⟩
structure GrC (K : PySem.W.Frag) (mg : Str → Option Value) (G : Addr) : Prop where
  cl : Cls K G
  nC : NoAttr K G "classes"
  nF : NoAttr K G "fields"
  g : mg "Ground" = some (.ref G)
/-- a tuple of classes, given one by one -/
def TAt (H : Hp) (p : Addr) (cs : List Cls2) : Prop := ∃ vs : List V, H p = some (.tup vs) ∧ vs.length = cs.length ∧ ∀ (i : Nat) (c : Cls2), cs[i]? = some c → ∃ v, vs[i]? = some v ∧ ClP H v c
theorem TAt.same {H H' : Hp} {p : Addr} {cs : List Cls2} (h : TAt H p cs) (s : Same H H') : TAt H' p cs := by
  obtain ⟨vs, h1, h2, h3⟩ := h
  refine ⟨vs, s _ _ h1, h2, fun i c hc => ?_⟩
  obtain ⟨v, hv, r⟩ := h3 i c hc
  exact ⟨v, hv, clP_mono _ _ _ _ s r⟩

/-! ### what is refused -/
inductive Gd
  | ok
  | num (n : Str) (v : Int)
  | many (n : Str) (v : Int)
def badOf (c : Cls2) : Option (Str × Int) := if c.1 < 1 ∨ 1000 < c.1 then some ("worth", c.1) else if c.2 < 1 then some ("many", c.2) else none
def badIn : List Cls2 → Option (Str × Int)
  | [] => none
  | c :: r => match badOf c with
    | some z => some z
    | none => badIn r
def gdue (cs : List Cls2) : Gd := if cs.length = 0 then .num "classes" 0 else if 4 < cs.length then .many "classes" 4 else match badIn cs with
  | some (n, v) => .num n v
  | none => if 12 < fds cs then .many "fields" 12 else .ok
theorem bad_drop : ∀ {cs : List Cls2} {i : Nat} {c : Cls2}, cs[i]? = some c → badIn (cs.drop i) = (match badOf c with | some z => some z | none => badIn (cs.drop (i + 1)))
  | [], i, c, h => by simp at h
  | a :: r, 0, c, h => by
    cases h
    rfl
  | a :: r, i + 1, c, h => bad_drop (cs := r) (i := i) h
theorem gdue_nil : gdue [] = .num "classes" 0 := rfl
theorem gdue_many {cs : List Cls2} (h : 4 < cs.length) : gdue cs = .many "classes" 4 := by
  unfold gdue
  rw [if_neg (by omega), if_pos h]
theorem gdue_bad {cs : List Cls2} {n : Str} {v : Int} (h1 : 1 ≤ cs.length) (h4 : cs.length ≤ 4) (h : badIn cs = some (n, v)) : gdue cs = .num n v := by
  unfold gdue
  rw [if_neg (by omega), if_neg (by omega), h]
theorem gdue_end {cs : List Cls2} (h1 : 1 ≤ cs.length) (h4 : cs.length ≤ 4) (h : badIn cs = none) : gdue cs = if 12 < fds cs then .many "fields" 12 else .ok := by
  unfold gdue
  rw [if_neg (by omega), if_neg (by omega), h]
theorem bad_none : ∀ {cs : List Cls2}, badIn cs = none → ∀ c, c ∈ cs → 1 ≤ c.1 ∧ c.1 ≤ 1000 ∧ 1 ≤ c.2
  | [], _, c, hc => nomatch hc
  | a :: r, h, c, hc => by
    have h' : (match badOf a with | some z => some z | none => badIn r) = none := h
    cases hb : badOf a with
    | some z =>
      rw [hb] at h'
      cases h'
    | none =>
      rw [hb] at h'
      rcases List.mem_cons.mp hc with q | q
      · rw [q]
        unfold badOf at hb
        split at hb
        · cases hb
        · split at hb
          · cases hb
          · omega
      · exact bad_none h' c q
theorem none_bad : ∀ {cs : List Cls2}, (∀ c, c ∈ cs → 1 ≤ c.1 ∧ c.1 ≤ 1000 ∧ 1 ≤ c.2) → badIn cs = none
  | [], _ => rfl
  | a :: r, h => by
    have ha := h a (List.mem_cons_self ..)
    show (match badOf a with | some z => some z | none => badIn r) = none
    have e : badOf a = none := by
      unfold badOf
      rw [if_neg (by omega), if_neg (by omega)]
    rw [e]
    exact none_bad fun c hc => h c (List.mem_cons_of_mem _ hc)
theorem gdue_ok {cs : List Cls2} (h : gdue cs = .ok) : ClsV cs := by
  by_cases h0 : cs.length = 0
  · have e : cs = [] := List.length_eq_zero_iff.mp h0
    rw [e] at h
    cases h
  · by_cases h4 : 4 < cs.length
    · rw [gdue_many h4] at h
      cases h
    · cases hb : badIn cs with
      | some z =>
        rw [gdue_bad (n := z.1) (v := z.2) (by omega) (by omega) hb] at h
        cases h
      | none =>
        rw [gdue_end (by omega) (by omega) hb] at h
        by_cases hf : 12 < fds cs
        · rw [if_pos hf] at h
          cases h
        · exact ⟨by omega, by omega, bad_none hb, by omega⟩
theorem ok_gdue {cs : List Cls2} (h : ClsV cs) : gdue cs = .ok := by
  rw [gdue_end h.l1 h.l4 (none_bad h.at_), if_neg (by have := h.sm; omega)]
end L

set_option Elab.async false
set_option linter.all false
set_option maxRecDepth 100000
set_option maxHeartbeats 4000000
set_option pp.maxSteps 160
set_option pp.deepTerms false
namespace L
open PySem PySem.Spec PyProof.Rows L2 Fl
local macro_rules | `(tactic| walk_at "side") => `(tactic| first | (exact .inl ⟨by omega, by omega⟩) | (exact .inr ⟨by omega, by omega⟩) | (exact .inr ⟨by decide, by decide⟩) | (show (_ : Int) ≠ _; omega) | (exact ⟨by omega, by decide⟩) | (exact ⟨by decide, by decide, by decide⟩))
local macro_rules | `(tactic| walk_at "go") => `(tactic| repeat (first | refine ⟨_, rfl, ?_⟩ | refine ⟨_, _, rfl, rfl, ?_⟩ | refine .inl ⟨_, rfl, ?_⟩ | refine ⟨rfl, ?_⟩ | refine ⟨(by walk_at "side"), ?_⟩))
local macro_rules | `(tactic| walk_at "see") => `(tactic| (set_option pp.maxSteps 110 in set_option pp.deepTerms false in trace_state))
local macro_rules | `(tactic| walk_at "if") => `(tactic| first | refine ifE ?_ ?_ | refine ifNE ?_ ?_ | refine ifD ?_ ?_ | refine ifN ?_ ?_ | refine ifB ?_ ?_)
section
variable {P : Program} {w : World} {K : PySem.W.Frag} {mg : Str → Option Value} {base : Heap}

def tMakeVR (C : Addr) (sp : Sp) (E : XK) (tv : TE) (t : TA) : TE := fun σ H Q => tv σ H fun v H1 => v = .ref C ∧ t σ H1 fun vs H2 => ∀ x dx, H2 x = none → H2 dx = none → dx ≠ x → sp (.ref x :: vs) (upd (upd H2 dx (.own x)) x (.ins C dx [])) (fun v H3 => v = .non ∧ Q (.ref x) H3) E
theorem pe_mkVR {X : Cx} {CX : CXT} {k : Nat} {f C : Addr} {sp : Sp} {E : XK} {y : Str} {p pos : Pos} {e : Expr} {es : List Expr} {tv : TE} {t : TA} (M : Mk X.K C f) (F : FnR X.prog X.w X.K X.mg X.base CX k f sp) (hr : Room (k + 1) X.A) (hx : Passes CX X E) (hv : PE X (.Name y p) tv) (ha : PA X (e :: es) t)
    (he : starEach (e :: es) X.env = (false, eval e X.env) :: starEach es X.env := by rfl) (hpl : (backTo pos (starEach es X.env)).any (·.1) = false := by rfl) : PE X (.Call (.Name y p) (e :: es) [] pos) (tMakeVR C sp E tv t) := by
  refine ⟨fun pins s σ H Q I h => ?_⟩
  refine wpAny_Call_Name_kw (thn (hv.run pins s σ H _ I h) fun u s1 ⟨v, H1, I1, rv, ev, q⟩ => ?_)
  subst ev
  cases rv
  refine PySem.W.callWith_K (h₀ := X.base) I1.ok.mod.kin M.kp (thn (ha.run pos pins s1 σ H1 _ I1 q) fun us s2 ⟨vs, H2, I2, r, q2⟩ => ⟨I2.kIn, ?_⟩) he hpl
  exact StX.run_makeR M F hr hx I2 r q2
theorem pe_makeR0 {X : Cx} {CX : CXT} {k : Nat} {f C : Addr} {sp : Sp} {E : XK} {x : Str} {p pos : Pos} (M : Mk X.K C f) (F : FnR X.prog X.w X.K X.mg X.base CX k f sp) (hr : Room (k + 1) X.A) (hg : Gl X x) (hm : X.mg x = some (.ref C)) (hx : Passes CX X E) (hdb : (x == ("__debug__" : Str)) = false := by decide) :
    PE X (.Call (.Name x p) [] [] pos) (fun σ H Q => ∀ x dx, H x = none → H dx = none → dx ≠ x → sp [.ref x] (upd (upd H dx (.own x)) x (.ins C dx [])) (fun v H3 => v = .non ∧ Q (.ref x) H3) E) := by
  refine ⟨fun pins s σ H Q I h => ?_⟩
  refine wpAny_Call_Name_kw (ld_glob I hg hm ?_ hdb)
  exact PySem.W.callWith_K0 I.kIn M.kp (StX.run_makeR (us := []) M F hr hx I .nil h)
def spCW (BN : Addr) : Sp := fun vs H Q E => ∃ (n : Int), vs = [.int n] ∧ ((n < 1 ∨ 1000 < n) → Ref E BN H "worth" n) ∧ (1 ≤ n → n ≤ 1000 → Q .non H)
abbrev CalCW (P : Program) (w : World) (K : PySem.W.Frag) (mg : Str → Option Value) (base : Heap) (BN : Addr) := CalX P w K mg base 3 "check_worth" ["worth"] (spCW BN)
theorem ok_cw {BN : Addr} {tk : Tok} (TB : BnC K mg BN) (CE : CalE P w K mg base 1 BN) (gMW : mg "MOST_WORTH" = some (.int 1000 tk)) (D : Dfn K mg "check_worth" "check_worth" s_check_worth ["worth"]) : CalCW P w K mg base BN := by
  refine D.calX sc_check_worth (fun vs H Q E h => ?_) (fun f cdv A outer st H vs Q E hr h => ?_)
  · obtain ⟨n, rfl, _⟩ := h
    rfl
  · obtain ⟨n, rfl, k1, q⟩ := h
    have hr0 : Room 2 _ := hr
    refine ⟨_, (pss_one (ps_if (pt_not (pt_chain op_le op_le pe_int (pv 0) (pe_glob (v := .int 1000) (by rfl) gMW ⟨_, rfl⟩))) (pss_one (ps_raise rfl (takes_of rfl rfl rfl rfl) (pmk_bn TB CE (hr0.mono (by decide)) (pa_cons pe_str (pa_cons (pv 0) pa_nil))))) pss_nil)), ?_⟩
    exact ⟨_, rfl, _, _, rfl, rfl, _, rfl, ifD (fun h1 => ⟨_, _, rfl, rfl, _, rfl, ifN (fun h => ⟨_, rfl, bn_made (k1 (.inr (by omega)))⟩) (fun h2 => q h1 (by omega))⟩) (fun h => ⟨_, rfl, iteT ⟨_, rfl, bn_made (k1 (.inl (by omega)))⟩⟩)⟩
def spCC (BN TN : Addr) : Sp := fun vs H Q E => ∃ (p : Addr) (cs : List Cls2), vs = [.ref p] ∧ TAt H p cs ∧ cs.length ≤ 900 ∧ (∀ n v, gdue cs = .num n v → Ref E BN H n v) ∧ (∀ n v, gdue cs = .many n v → RefM E TN H n v) ∧ (gdue cs = .ok → ∀ H', Same H H' → Q .non H')
abbrev CalCC (P : Program) (w : World) (K : PySem.W.Frag) (mg : Str → Option Value) (base : Heap) (BN TN : Addr) := CalX P w K mg base 4 "_check_classes" ["classes"] (spCC BN TN)
theorem ok_cc {G BN TN : Addr} {mc : Value} {tk tk2 : Tok} (B : Blt mg) (TG : GrC K mg G) (TB : BnC K mg BN) (CE : CalE P w K mg base 1 BN) (TM : TmC K mg TN) (CT : CalTE P w K mg base 1 TN) (CR : ClX.CRead K G mc) (C12 : ClX.CVal K G mc "MOST_FIELDS" (.int 12) (.int 12 tk)) (gMC : mg "MOST_CLASSES" = some (.int 4 tk2)) (C_check_worth : CalCW P w K mg base BN)
    (D : Dfn K mg "_check_classes" "_check_classes" s_check_classes ["classes"]) : CalCC P w K mg base BN TN := by
  refine D.calX sc_check_classes (fun vs H Q E h => ?_) (fun f cdv A outer st H vs Q E hr h => ?_)
  · obtain ⟨p, cs, rfl, _⟩ := h
    rfl
  · obtain ⟨p, cs, rfl, ⟨vs, hp, hlen, hat⟩, hsm, k1, k2, k3⟩ := h
    have hr0 : Room 2 _ := hr.mono (by decide)
    refine ⟨_, (pss_cons (ps_if (pt_not (pt_truth (pv 0) (by intro _; rfl))) (pss_one (ps_raise rfl (takes_of rfl rfl rfl rfl) (pmk_bn TB CE (hr0.mono (by decide)) (pa_cons pe_str (pa_cons pe_int pa_nil))))) pss_nil)
      (pss_cons (ps_if (pt_cmpR op_gt (pe_callB call_len_seq (by rfl) B.len PySem.boot_len (pa_cons (pv 0) pa_nil)) (pe_glob (v := .int 4) (by rfl) gMC ⟨_, rfl⟩) (nomark _)) (pss_one (ps_raise rfl (takes_of rfl rfl rfl rfl) (pmk_tm TM CT (hr0.mono (by decide)) (pa_cons pe_str (pa_cons (pe_glob (v := .int 4) (by rfl) gMC ⟨_, rfl⟩) pa_nil))))) pss_nil)
      (pss_cons (ps_for (passes_of rfl) rfl (pi_tup (pv 0)) (pg_tup rfl (pgs_cons (pg_name (i := 1) sc_check_classes.nd rfl (Or.inl rfl)) (pgs_cons (pg_name (i := 2) sc_check_classes.nd rfl (Or.inl rfl)) pgs_nil))) (pss_cons (ps_expr (pe_calS C_check_worth (takes_of rfl rfl rfl rfl) (hr.mono (by decide)) (pa_cons (pv 1) pa_nil)))
      (pss_one (ps_if (pt_cmpR op_lt (pv 2) (pe_int) (nomark _)) (pss_one (ps_raise rfl (takes_of rfl rfl rfl rfl) (pmk_bn TB CE (hr0.mono (by decide)) (pa_cons pe_str (pa_cons (pv 2) pa_nil))))) pss_nil))))
      (pss_one (ps_if (pt_cmpR op_gt (pe_callB (cr_sum rfl) (by rfl) B.sum (by decide +kernel) (pa_cons (pe_lc (own := [("_", 3), ("many", 2)]) (g := (gTup K 2 (gCons (gName 3) (gCons (gName 2) gNil)))) rfl sc_check_classes.nd (pi_tup (pv 0)) (blkOk_by (N := ["classes", "worth", "many", "_"]) (sc := defScope s_check_classes) (by decide +kernel)) (fun _ _ _ _ _ => (pg_tup rfl (pgs_cons (pg_name (i := 3) sc_check_classes.nd rfl (Or.inl rfl)) (pgs_cons (pg_name (i := 2) sc_check_classes.nd rfl (Or.inl rfl)) pgs_nil)))) (fun _ _ _ _ _ => pts_nil) (fun _ _ _ _ _ => (pv 2))) pa_nil)) (ClX.pe_cval (pe_glob (v := .ref _) (by rfl) TG.g rfl)) (nomark _)) (pss_one (ps_raise rfl (takes_of rfl rfl rfl rfl) (pmk_tm TM CT (hr0.mono (by decide)) (pa_cons pe_str (pa_cons (ClX.pe_cval (pe_glob (v := .ref _) (by rfl) TG.g rfl)) pa_nil))))) pss_nil))))), ?_⟩
    refine ⟨_, rfl, _, .inr (.inl ⟨_, SqT.of hp, rfl⟩), ?_⟩
    by_cases h0 : cs.length = 0
    · have e : cs = [] := List.length_eq_zero_iff.mp h0
      have e2 : vs = [] := List.length_eq_zero_iff.mp (by omega)
      subst e2
      refine iteT (bn_made (k1 _ _ (by rw [e]; rfl)))
    rw [show vs.isEmpty = false by cases vs with | nil => exact absurd hlen.symm h0 | cons _ _ => rfl]
    refine iteF ?_
    refine ⟨_, rfl, _, _, rfl, .inr (SqT.of hp), _, _, rfl, rfl, _, rfl, ifD (fun h4 => tm_made (k2 _ _ (gdue_many (by omega)))) (fun h4 => ?_)⟩
    have h1 : 1 ≤ cs.length := by omega
    have h4 : cs.length ≤ 4 := by omega
    refine ⟨_, rfl, p, rfl, ⟨_, SqT.of hp⟩, for_tup (K := K) (a := p) (xs := vs) (fun i σ H' => H' = H ∧ ∃ o1 o2 : Option V, σ = [some (.ref p), o1, o2, none] ∧ badIn (cs.drop i) = badIn cs) ⟨rfl, none, none, rfl, rfl⟩ (fun i σ H' _ h => by rw [h.1]; exact SqT.of hp) ?_ ?_⟩
    · rintro i x σ H' hx ⟨rfl, o1, o2, rfl, hb⟩
      have hi : i < vs.length := (List.getElem?_eq_some_iff.mp hx).1
      have hc : cs[i]? = some cs[i] := List.getElem?_eq_getElem (by omega)
      obtain ⟨v, hv, t, rfl, ht⟩ := hat i _ hc
      rw [hx] at hv
      cases hv
      have hd := bad_drop hc
      generalize cs[i] = c at *
      refine ⟨t, _, rfl, SqT.of ht, rfl, _, _, rfl, _, _, rfl, rfl, ?_⟩
      refine ⟨_, rfl, _, rfl, fun hw => ?_, fun w1 w2 => ?_⟩
      · have e : badOf c = some (("worth" : Str), c.1) := if_pos hw
        rw [e] at hd
        exact k1 _ _ (gdue_bad h1 h4 (hb.symm.trans hd))
      · refine ⟨_, rfl, _, _, rfl, rfl, _, rfl, ifD (fun hm => ?_) (fun hm => ?_)⟩
        · have e : badOf c = some (("many" : Str), c.2) := by unfold badOf; rw [if_neg (by omega), if_pos hm]
          rw [e] at hd
          exact ⟨_, rfl, bn_made (k1 _ _ (gdue_bad h1 h4 (hb.symm.trans hd)))⟩
        · have e : badOf c = none := by unfold badOf; rw [if_neg (by omega), if_neg hm]
          rw [e] at hd
          exact ⟨rfl, _, _, rfl, hd.symm.trans hb⟩
    rintro σ Hz ⟨rfl, o1, o2, rfl, hb⟩
    rw [hlen, List.drop_length] at hb
    have ge := gdue_end h1 h4 hb.symm
    refine ⟨_, rfl, p, rfl, ⟨_, SqT.of hp⟩, fun D hD => lc_tup (K := K) (a := p) (xs := vs) (fun i H' => Same Hz H' ∧ H' D = some (.lst (((cs.take i).map (fun c => c.2)).map V.int))) ⟨same_upd hD, upd_same⟩ (fun i H' _ h => SqT.of (h.1 _ _ hp)) ?_ ?_⟩
    · rintro i x H' hx ⟨s1, hD1⟩
      have hi : i < vs.length := (List.getElem?_eq_some_iff.mp hx).1
      have hc : cs[i]? = some cs[i] := List.getElem?_eq_getElem (by omega)
      obtain ⟨v, hv, t, rfl, ht⟩ := hat i _ hc
      rw [hx] at hv
      cases hv
      refine ⟨t, _, rfl, SqT.of (s1 _ _ ht), rfl, _, _, rfl, _, _, rfl, rfl, rfl, ?_⟩
      refine ⟨_, rfl, _, hD1, ?_, same_late s1 hD, ?_⟩
      · rw [List.length_map, List.length_map, List.length_take]
        exact small1000 (by omega)
      · rw [upd_same, List.take_add_one, hc, List.map_append, List.map_append]
        rfl
    rintro H9 ⟨s1, hD1⟩
    rw [List.take_of_length_le (by omega)] at hD1

    have fe : fds cs = (cs.map (fun c => c.2)).sum := rfl
    refine ⟨_, _, rfl, SqL.of hD1, G, mc, _, _, rfl, CR, C12, _, _, rfl, rfl, _, rfl, ifD (fun h => ?_) (fun h => ?_)⟩
    · rw [if_pos (by omega)] at ge
      exact ⟨G, mc, _, _, rfl, CR, C12, tm_made ((k2 _ _ ge).same s1)⟩
    · rw [if_neg (by omega)] at ge
      exact k3 ge H9 s1
theorem clP_ins {G x dx : Addr} {H : Hp} {fs : List (Str × V)} {o : HO} {v : V} {c : Cls2} (h : ClP H v c) (hx : H x = some (.ins G dx fs)) : ClP (upd H x o) v c := by
  obtain ⟨t, e, ht⟩ := h
  exact ⟨t, e, by rw [upd_ne (ne_of ht hx (by intro q; cases q))]; exact ht⟩

def spGI (G BN TN : Addr) : Sp := fun vs H Q E => ∃ (x dx p : Addr) (cs : List Cls2), vs = [.ref x, .ref p] ∧ H x = some (.ins G dx []) ∧ TAt H p cs ∧ cs.length ≤ 900 ∧ (∀ n v, gdue cs = .num n v → Ref E BN H n v) ∧ (∀ n v, gdue cs = .many n v → RefM E TN H n v) ∧
  (gdue cs = .ok → ∀ (M : Addr) (H' : Hp), Keeps H H' x → H' x = some (.ins G dx (grf (fds cs) M)) → LAt ClP H' M cs → Q .non H')
def spGround (G BN TN : Addr) : Sp := fun vs H Q E => ∃ ws rest, vs = ws ++ rest ∧ ws.length = (["self"] : List Str).length ∧ rest.length ≤ sizeLine ∧ ∀ p, H p = Option.none → spGI G BN TN (ws ++ [V.ref p]) (upd H p (.tup rest)) Q E
theorem ok_gr_init {G BN TN fI : Addr} {oc kV dc pm cd ct : Value} {od an : Option Addr} {sl : Array (Option Value)} (B : Blt mg) (TG : GrC K mg G) (lk : K.lookup fI = some ⟨oc, od, .func (PySem.W.fnOf "__init__" "Ground.__init__" (defArgs s_Ground_init) (defBody s_Ground_init) (defScope s_Ground_init) .none kV dc pm an cd ct), sl⟩) (hcd : PySem.W.codeIn K cd "Ground.__init__" = true) (C_check_classes : CalCC P w K mg base BN TN) :
    FnR P w K mg base (L2.CX P w) 5 fI (spGround G BN TN) := by
  refine StX.fn_star (ps := ["self"]) (pv := "classes") (N := ["self", "classes", "_", "many"]) (sp := spGI G BN TN) lk hcd sc_Ground_init StX.cxUp (StX.bind_star1 (B := fun us => bindArgs (PySem.W.fnOf "__init__" "Ground.__init__" (defArgs s_Ground_init) (defBody s_Ground_init) (defScope s_Ground_init) .none kV dc pm an cd ct) ⟨us, []⟩) (fun a => rfl) (fun a r rs => rfl)) (fun A outer st H vs Q E hr h => ?_)
  obtain ⟨x, dx, p, cs, rfl, hx, hp, hsm, k1, k2, q⟩ := h
  refine ⟨_, (pss_cons (ps_expr (pe_calS C_check_classes (takes_of rfl rfl rfl rfl) (hr.mono (by decide)) (pa_cons (pv 1) pa_nil)))
      (PSs.nox (pss_cons (ps_fld (pv 0) (pe_callTy call_list_of (by rfl) B.list (by decide +kernel) (pa_cons (pv 1) pa_nil)) rfl)
      (pss_one (ps_fld (pv 0) (pe_callB (cr_sum rfl) (by rfl) B.sum (by decide +kernel) (pa_cons (pe_lc (own := [("_", 2), ("many", 3)]) (g := (gTup K 2 (gCons (gName 2) (gCons (gName 3) gNil)))) rfl sc_Ground_init.nd (pi_tup (pv 1)) (blkOk_by (N := ["self", "classes", "_", "many"]) (sc := defScope s_Ground_init) (by decide +kernel)) (fun _ _ _ _ _ => (pg_tup rfl (pgs_cons (pg_name (i := 2) sc_Ground_init.nd rfl (Or.inl rfl)) (pgs_cons (pg_name (i := 3) sc_Ground_init.nd rfl (Or.inl rfl)) pgs_nil)))) (fun _ _ _ _ _ => pts_nil) (fun _ _ _ _ _ => (pv 3))) pa_nil)) rfl))))), ?_⟩
  refine ⟨_, rfl, p, cs, rfl, hp, hsm, k1, k2, fun gok H1 s1 => ?_⟩
  have q := q gok
  have l4 := (gdue_ok gok).l4
  have hx1 := s1 _ _ hx
  obtain ⟨vs, hp1, hlen, hat⟩ := hp.same s1
  refine ⟨_, rfl, p, _, rfl, .inr (SqT.of hp1), fun M hM => ?_⟩
  have sM := same_upd (o := .lst vs) hM
  have hx2 := sM _ _ hx1
  refine ⟨_, rfl, x, G, dx, [], rfl, hx2, TG.cl, TG.nC, (by show 0 < 1000; decide), ?_⟩
  have hMx : M ≠ x := fun e => by
    rw [e, hx1] at hM
    cases hM
  have kx : Keeps H (upd (upd H1 M (.lst vs)) x (.ins G dx (putF "classes" (.ref M) []))) x := (same_keeps (s1.trans sM)).trans Keeps.upd
  have hp2 : upd (upd H1 M (.lst vs)) x (.ins G dx (putF "classes" (.ref M) [])) p = some (.tup vs) := by
    rw [upd_ne (ne_of hp1 hx1 (by intro q; cases q))]
    exact sM _ _ hp1
  have hM2 : upd (upd H1 M (.lst vs)) x (.ins G dx (putF "classes" (.ref M) [])) M = some (.lst vs) := by
    rw [upd_ne hMx, upd_same]
  have hat : ∀ (i : Nat) (c : Cls2), cs[i]? = some c → ∃ v, vs[i]? = some v ∧ ClP (upd (upd H1 M (.lst vs)) x (.ins G dx (putF "classes" (.ref M) []))) v c := fun i c hc => by
    obtain ⟨v, hv, r⟩ := hat i c hc
    exact ⟨v, hv, clP_ins (clP_mono _ _ _ _ sM r) hx2⟩
  have hx3 : upd (upd H1 M (.lst vs)) x (.ins G dx (putF "classes" (.ref M) [])) x = some (.ins G dx (putF "classes" (.ref M) [])) := upd_same
  generalize upd (upd H1 M (.lst vs)) x (.ins G dx (putF "classes" (.ref M) [])) = Hz at *
  refine ⟨_, rfl, p, rfl, ⟨_, SqT.of hp2⟩, fun D hD => lc_tup (K := K) (a := p) (xs := vs) (fun i H' => Same Hz H' ∧ H' D = some (.lst (((cs.take i).map (fun c => c.2)).map V.int))) ⟨same_upd hD, upd_same⟩ (fun i H' _ h => SqT.of (h.1 _ _ hp2)) ?_ ?_⟩
  · rintro i x H' hx ⟨s1, hD1⟩
    have hi : i < vs.length := (List.getElem?_eq_some_iff.mp hx).1
    have hc : cs[i]? = some cs[i] := List.getElem?_eq_getElem (by omega)
    obtain ⟨v, hv, t, rfl, ht⟩ := hat i _ hc
    rw [hx] at hv
    cases hv
    refine ⟨t, _, rfl, SqT.of (s1 _ _ ht), rfl, _, _, rfl, _, _, rfl, rfl, rfl, ?_⟩
    refine ⟨_, rfl, _, hD1, ?_, same_late s1 hD, ?_⟩
    · rw [List.length_map, List.length_map, List.length_take]
      exact small1000 (by omega)
    · rw [upd_same, List.take_add_one, hc, List.map_append, List.map_append]
      rfl
  rintro H9 ⟨s1, hD1⟩
  rw [List.take_of_length_le (by omega)] at hD1

  have hx9 := s1 _ _ hx3
  refine ⟨_, _, rfl, SqL.of hD1, _, rfl, x, G, dx, _, rfl, hx9, TG.cl, TG.nF, (by show 1 < 1000; decide), ?_⟩
  refine q M _ ((kx.trans (same_keeps s1)).trans Keeps.upd) upd_same ⟨vs, by rw [upd_ne hMx]; exact s1 _ _ hM2, hlen, fun i c hc => ?_⟩
  obtain ⟨v, hv, r⟩ := hat i c hc
  exact ⟨v, hv, clP_ins (clP_mono _ _ _ _ s1 r) hx9⟩
/-- Ground(..) of these classes -/
theorem ground_made {G BN TN : Addr} {H : Hp} {vs : List V} {cs : List Cls2} {Q : VK} {E : XK} (hlen : vs.length = cs.length) (hsm : cs.length ≤ 900) (hat : ∀ (i : Nat) (c : Cls2), cs[i]? = some c → ∃ v, vs[i]? = some v ∧ ClP H v c) (k1 : ∀ n v, gdue cs = .num n v → Ref E BN H n v) (k2 : ∀ n v, gdue cs = .many n v → RefM E TN H n v)
    (q : gdue cs = .ok → ∀ (x : Addr) (H' : Hp), Same H H' → GrAt G H' x cs → Q (.ref x) H') :
    ∀ x dx, H x = none → H dx = none → dx ≠ x → spGround G BN TN (.ref x :: vs) (upd (upd H dx (.own x)) x (.ins G dx [])) (fun v H2 => v = .non ∧ Q (.ref x) H2) E := fun x dx nx nd ne => by
  refine ⟨[.ref x], vs, rfl, rfl, Nat.le_of_lt (small1000 (by omega)), fun p hp => ?_⟩
  have sp := same_upd (o := .tup vs) hp
  have sh : Same H (upd (upd (upd H dx (.own x)) x (.ins G dx [])) p (.tup vs)) := ((same_upd nd).trans (same_upd (by rw [upd_ne ne.symm]; exact nx))).trans sp
  refine ⟨x, dx, p, cs, rfl, sp _ _ upd_same, ⟨vs, upd_same, hlen, fun i c hc => ?_⟩, hsm, fun n v e => (k1 n v e).same sh, fun n v e => (k2 n v e).same sh, fun gok M H' kx hx hM => ⟨rfl, q gok x H' (made nx nd ((same_keeps sp).trans kx)) ⟨dx, M, hx, hM⟩⟩⟩
  obtain ⟨v, hv, r⟩ := hat i c hc
  exact ⟨v, hv, clP_mono _ _ _ _ sh r⟩
end
end L

set_option Elab.async false
set_option linter.all false
set_option maxRecDepth 100000
set_option maxHeartbeats 4000000
set_option pp.maxSteps 160
set_option pp.deepTerms false
namespace L
open PySem PySem.Spec PyProof.Rows L2 Fl
local macro_rules | `(tactic| walk_at "side") => `(tactic| first | (exact .inl ⟨by omega, by omega⟩) | (exact .inr ⟨by omega, by omega⟩) | (exact .inr ⟨by decide, by decide⟩) | (show (_ : Int) ≠ _; omega) | (exact ⟨by omega, by decide⟩) | (exact ⟨by decide, by decide, by decide⟩))
local macro_rules | `(tactic| walk_at "go") => `(tactic| repeat (first | refine ⟨_, rfl, ?_⟩ | refine ⟨_, _, rfl, rfl, ?_⟩ | refine .inl ⟨_, rfl, ?_⟩ | refine ⟨rfl, ?_⟩ | refine ⟨(by walk_at "side"), ?_⟩))
local macro_rules | `(tactic| walk_at "see") => `(tactic| (set_option pp.maxSteps 110 in set_option pp.deepTerms false in trace_state))
local macro_rules | `(tactic| walk_at "if") => `(tactic| first | refine ifE ?_ ?_ | refine ifNE ?_ ?_ | refine ifD ?_ ?_ | refine ifN ?_ ?_ | refine ifB ?_ ?_)
theorem clP_keep {H H' : Hp} {p : Pla} {v : V} {c : Cls2} (h : ClP H v c) (hP : Pool H p) (k : Keeps H H' p) : ClP H' v c := by
  obtain ⟨t, e, ht⟩ := h
  obtain ⟨_, _, _, _, _, hp, _⟩ := hP
  exact ⟨t, e, k _ _ ht (ne_of ht hp (by intro q; cases q))⟩
theorem lat_keep {H H' : Hp} {p : Pla} {L : Addr} {cs : List Cls2} (h : LAt ClP H L cs) (hP : Pool H p) (n : L ≠ p) (k : Keeps H H' p) : LAt ClP H' L cs := by
  obtain ⟨vs, h1, h2, h3⟩ := h
  refine ⟨vs, k _ _ h1 n, h2, fun i c hc => ?_⟩
  obtain ⟨v, hv, r⟩ := h3 i c hc
  exact ⟨v, hv, clP_keep r hP k⟩
theorem clP_lst {H : Hp} {L : Addr} {xs ys : List V} {v : V} {c : Cls2} (h : ClP H v c) (hL : H L = some (.lst xs)) : ClP (upd H L (.lst ys)) v c := by
  obtain ⟨t, e, ht⟩ := h
  exact ⟨t, e, by rw [upd_ne (ne_of ht hL (by intro q; cases q))]; exact ht⟩
theorem cls_snoc {H : Hp} {L : Addr} {vs : List V} {cs : List Cls2} {v : V} {c : Cls2} (hL : H L = some (.lst vs)) (hA : LAt ClP H L cs) (hv : ClP H v c) : LAt ClP (upd H L (.lst (vs ++ [v]))) L (cs ++ [c]) := by
  obtain ⟨us, h1, h2, h3⟩ := hA
  rw [hL] at h1
  cases h1
  refine ⟨vs ++ [v], upd_same, by rw [List.length_append, List.length_append, h2]; rfl, fun i y hy => ?_⟩
  by_cases h : i < cs.length
  · rw [List.getElem?_append_left h] at hy
    obtain ⟨u, hu, r⟩ := h3 i y hy
    exact ⟨u, by rw [List.getElem?_append_left (by omega)]; exact hu, clP_lst r hL⟩
  · rw [List.getElem?_append_right (by omega)] at hy
    have e : i = cs.length := by
      rcases Nat.lt_or_ge (i - cs.length) 1 with h2 | h2
      · omega
      · rw [List.getElem?_eq_none (by simpa using h2)] at hy
        cases hy
    subst e
    rw [Nat.sub_self] at hy
    cases hy
    exact ⟨v, by rw [List.getElem?_append_right (by omega), h2, Nat.sub_self]; rfl, clP_lst hv hL⟩
theorem fds_app {a b : List Cls2} : fds (a ++ b) = fds a + fds b := by
  unfold fds
  rw [List.map_append, List.sum_append]
theorem fds_one {c : Cls2} : fds [c] = c.2 := by
  show c.2 + 0 = c.2
  omega
theorem le_fds : ∀ {cs : List Cls2}, (∀ c, c ∈ cs → 1 ≤ c.2) → 0 ≤ fds cs ∧ ∀ c, c ∈ cs → c.2 ≤ fds cs
  | [], _ => ⟨Int.le_refl _, fun c hc => nomatch hc⟩
  | a :: r, h => by
    obtain ⟨h0, hr⟩ := le_fds (cs := r) fun c hc => h c (List.mem_cons_of_mem _ hc)
    have ha := h a (List.mem_cons_self ..)
    have e : fds (a :: r) = a.2 + fds r := rfl
    refine ⟨by omega, fun c hc => ?_⟩
    rcases List.mem_cons.mp hc with q | q
    · rw [q]
      omega
    · have := hr c q
      omega
theorem ClsV.b12 {cs : List Cls2} (h : ClsV cs) : ∀ c, c ∈ cs → 1 ≤ c.2 ∧ c.2 ≤ 12 := fun c hc => by
  have h1 := (h.at_ c hc).2.2
  have h2 := (le_fds fun c hc => (h.at_ c hc).2.2).2 c hc
  have := h.sm
  exact ⟨h1, by omega⟩
/-- item by item -/
def PW (R : V → Cls2 → Prop) (vs : List V) (cs : List Cls2) : Prop := vs.length = cs.length ∧ ∀ (i : Nat) (c : Cls2), cs[i]? = some c → ∃ v, vs[i]? = some v ∧ R v c
theorem PW.mono {H H' : Hp} {vs : List V} {cs : List Cls2} (h : PW (ClP H) vs cs) (s : Same H H') : PW (ClP H') vs cs := ⟨h.1, fun i c hc => by
  obtain ⟨v, hv, r⟩ := h.2 i c hc
  exact ⟨v, hv, clP_mono _ _ _ _ s r⟩⟩
theorem pw_app {R : V → Cls2 → Prop} {a b : List V} {x y : List Cls2} (h : PW R a x) (k : PW R b y) : PW R (a ++ b) (x ++ y) := by
  refine ⟨by rw [List.length_append, List.length_append, h.1, k.1], fun i c hc => ?_⟩
  by_cases hi : i < x.length
  · rw [List.getElem?_append_left hi] at hc
    obtain ⟨v, hv, r⟩ := h.2 i c hc
    exact ⟨v, by rw [List.getElem?_append_left (by rw [h.1]; exact hi)]; exact hv, r⟩
  · rw [List.getElem?_append_right (by omega)] at hc
    obtain ⟨v, hv, r⟩ := k.2 _ c hc
    exact ⟨v, by rw [List.getElem?_append_right (by rw [h.1]; omega), h.1]; exact hv, r⟩
theorem pw_take {R : V → Cls2 → Prop} {a : List V} {x : List Cls2} {n : Nat} (h : PW R a x) : PW R (a.take n) (x.take n) := by
  refine ⟨by rw [List.length_take, List.length_take, h.1], fun i c hc => ?_⟩
  rw [List.getElem?_take] at hc
  split at hc
  · rename_i hi
    obtain ⟨v, hv, r⟩ := h.2 i c hc
    exact ⟨v, by rw [List.getElem?_take, if_pos hi]; exact hv, r⟩
  · cases hc
theorem pw_drop {R : V → Cls2 → Prop} {a : List V} {x : List Cls2} {n : Nat} (h : PW R a x) : PW R (a.drop n) (x.drop n) := by
  refine ⟨by rw [List.length_drop, List.length_drop, h.1], fun i c hc => ?_⟩
  rw [List.getElem?_drop] at hc
  obtain ⟨v, hv, r⟩ := h.2 _ c hc
  exact ⟨v, by rw [List.getElem?_drop]; exact hv, r⟩
theorem pw_one {R : V → Cls2 → Prop} {v : V} {c : Cls2} (h : R v c) : PW R [v] [c] := ⟨rfl, fun i y hy => by
  cases i with
  | zero =>
    cases hy
    exact ⟨v, rfl, h⟩
  | succ i => simp at hy⟩
theorem pw_rev {R : V → Cls2 → Prop} : ∀ {a : List V} {x : List Cls2}, PW R a x → PW R a.reverse x.reverse
  | [], [], h => h
  | [], _ :: _, h => nomatch h.1
  | _ :: _, [], h => nomatch h.1
  | v :: a, c :: x, h => by
    obtain ⟨u, hu, r⟩ := h.2 0 c rfl
    cases hu
    have h2 : PW R a x := ⟨by have := h.1; simp only [List.length_cons] at this; omega, fun i y hy => h.2 (i + 1) y hy⟩
    rw [List.reverse_cons, List.reverse_cons]
    exact pw_app (pw_rev h2) (pw_one r)
theorem cut_l {vs : List V} {i : Nat} (h : i ≤ vs.length) : cutV vs none (some (i : Int)) = vs.take i := by
  unfold cutV
  rw [HT.sIx_nat, HT.sIx_none, Nat.min_eq_left h, Nat.sub_zero, List.drop_zero]
theorem cut_r {vs : List V} {i : Nat} (h : i + 1 ≤ vs.length) : cutV vs (some ((i : Int) + 1)) none = vs.drop (i + 1) := by
  unfold cutV
  rw [show (i : Int) + 1 = ((i + 1 : Nat) : Int) from rfl, HT.sIx_nat, HT.sIx_none, Nat.min_eq_left h, List.take_of_length_le (by rw [List.length_drop]; exact Nat.le_refl _)]
theorem split_at : ∀ {cs : List Cls2} {i : Nat} {c : Cls2}, cs[i]? = some c → cs = cs.take i ++ [c] ++ cs.drop (i + 1)
  | [], i, c, h => by simp at h
  | a :: r, 0, c, h => by
    cases h
    rfl
  | a :: r, i + 1, c, h => by
    have e := split_at (cs := r) (i := i) h
    show a :: r = a :: (r.take i ++ [c] ++ r.drop (i + 1))
    rw [← e]
theorem near_ok {cs : List Cls2} {i : Nat} {c : Cls2} {d : Int} (ok : ClsV cs) (hc : cs[i]? = some c) (h1 : 1 ≤ c.2 + d) (h2 : fds cs + d ≤ 12) : ClsV (cs.take i ++ [(c.1, c.2 + d)] ++ cs.drop (i + 1)) := by
  have hi : i < cs.length := (List.getElem?_eq_some_iff.mp hc).1
  have hl : (cs.take i ++ [(c.1, c.2 + d)] ++ cs.drop (i + 1)).length = cs.length := by
    rw [List.length_append, List.length_append, List.length_take, List.length_drop]
    show min i cs.length + 1 + (cs.length - (i + 1)) = _
    omega
  have e : fds cs = fds (cs.take i) + c.2 + fds (cs.drop (i + 1)) := by
    have := congrArg fds (split_at hc)
    rw [fds_app, fds_app, fds_one] at this
    exact this
  refine ⟨by rw [hl]; exact ok.l1, by rw [hl]; exact ok.l4, fun x hx => ?_, ?_⟩
  · rcases List.mem_append.mp hx with h | h
    · rcases List.mem_append.mp h with h | h
      · exact ok.at_ x (List.mem_of_mem_take h)
      · rw [List.mem_singleton.mp h]
        obtain ⟨a1, a2, _⟩ := ok.at_ c (List.mem_of_getElem? hc)
        exact ⟨a1, a2, h1⟩
    · exact ok.at_ x (List.mem_of_mem_drop h)
  · rw [fds_app, fds_app, fds_one]
    show fds (cs.take i) + (c.2 + d) + fds (cs.drop (i + 1)) ≤ 12
    omega
theorem fds_rev : ∀ {cs : List Cls2}, fds cs.reverse = fds cs
  | [] => rfl
  | c :: r => by
    rw [List.reverse_cons, fds_app, fds_one, fds_rev]
    show fds r + c.2 = c.2 + fds r
    omega
section
variable {P : Program} {w : World} {K : PySem.W.Frag} {mg : Str → Option Value} {base : Heap}

theorem ok_tm {C f : Addr} {fd : FuncData} (T : TmC K mg C) (F : Fun K "__init__" "TooMany.__init__" s_TooMany_init f fd) : FnOk P w K mg base CX0 1 f fd ["self", "name", "most"] (spTM C) := by
  refine F.ok sc_TooMany_init (fun vs H Q E h => ?_) (fun cdv A outer st H vs Q E hr h => ?_)
  · obtain ⟨a, n, v, rfl, _⟩ := h
    rfl
  · obtain ⟨a, n, v, rfl, ha, k⟩ := h
    refine ⟨_, pss_cons (ps_ost (pv 0) (pv 1)) (pss_one (ps_ost (pv 0) (pv 2))), ?_⟩
    refine ⟨_, rfl, _, rfl, a, C, rfl, T.o, T.nN, .inl ⟨ha, fun dx hdx hne => ?_⟩⟩
    refine ⟨_, rfl, _, rfl, a, C, rfl, T.o, T.nM, .inr ⟨dx, [("name", n)], upd_same, ?_, (by show 1 ≤ 900; decide), k dx hdx hne⟩⟩
    rw [upd_ne hne, upd_same]

theorem mono3 {H : Hp} {L : Addr} {cs : List Cls2} (h : LAt ClP H L cs) : ∃ vs : List V, H L = some (.lst vs) ∧ PW (ClP H) vs cs := h
def clsD (cs : List Cls2) : PyData := .list (cs.map fun c => .tuple [.int c.1, .int c.2])
theorem cls_lay : ∀ cs : List Cls2, PyData.canLayAll0 (cs.map fun c => PyData.tuple [.int c.1, .int c.2]) = true
  | [] => by simp [PyData.canLayAll0]
  | c :: r => by
    have := cls_lay r
    simp only [List.map_cons, PyData.canLayAll0, PyData.canLay0, this, Bool.and_true]
theorem cls_depth : ∀ cs : List Cls2, PyData.depthAll (cs.map fun c => PyData.tuple [.int c.1, .int c.2]) ≤ 2
  | [] => by simp [PyData.depthAll]
  | c :: r => by
    have := cls_depth r
    simp only [List.map_cons, PyData.depthAll, PyData.depth]
    omega
theorem clsD_ok (cs : List Cls2) : SeqAt.shaped (clsD cs) = true := by
  have h1 := cls_lay cs
  have h2 := cls_depth cs
  unfold clsD
  simp only [SeqAt.shaped, PyData.canLay0, PyData.depth, h1, Bool.true_and]
  exact decide_eq_true (by omega)
theorem cls_dpa {H : Hp} : ∀ {vs : List V} {cs : List Cls2}, PW (ClP H) vs cs → DpAll K H vs (cs.map fun c => .tuple [.int c.1, .int c.2])
  | [], [], _ => .nil
  | [], _ :: _, h => nomatch h.1
  | _ :: _, [], h => nomatch h.1
  | v :: vs, c :: cs, h => by
    obtain ⟨u, hu, t, e, ht⟩ := h.2 0 c rfl
    cases hu
    have h2 : PW (ClP H) vs cs := ⟨by have := h.1; simp only [List.length_cons] at this; omega, fun i y hy => h.2 (i + 1) y hy⟩
    rw [e]
    exact .cons (.tup (SqT.of ht) (.cons (.int _) (.cons (.int _) .nil))) (cls_dpa h2)
theorem lat_dp {H : Hp} {L : Addr} {cs : List Cls2} (h : LAt ClP H L cs) : Dp K H (.ref L) (clsD cs) := by
  obtain ⟨vs, hL, pw⟩ := h
  exact .lst (SqL.of hL) (cls_dpa pw)
theorem cls_eqv : ∀ {cs ds : List Cls2}, PyData.eqvAll (cs.map fun c => .tuple [.int c.1, .int c.2]) (ds.map fun c => .tuple [.int c.1, .int c.2]) = decide (cs = ds)
  | [], [] => by simp [PyData.eqvAll]
  | [], _ :: _ => by simp [PyData.eqvAll]
  | _ :: _, [] => by simp [PyData.eqvAll]
  | c :: cs, d :: ds => by
    have h := cls_eqv (cs := cs) (ds := ds)
    obtain ⟨a, b⟩ := c
    obtain ⟨a', b'⟩ := d
    simp only [List.map_cons, PyData.eqvAll, PyData.eqv, h, Bool.and_true]
    by_cases e1 : a = a'
    · by_cases e2 : b = b'
      · by_cases e3 : cs = ds
        · simp [e1, e2, e3]
        · simp [e1, e2, e3]
      · simp [e1, e2]
    · simp [e1]
theorem clsD_eqv {cs ds : List Cls2} : PyData.eqv (clsD cs) (clsD ds) = decide (cs = ds) := by
  unfold clsD
  rw [PyData.eqv]
  exact cls_eqv
structure GrX (K : PySem.W.Frag) (mg : Str → Option Value) (G : Addr) : Prop where
  cl : Cls K G
  g : mg "Ground" = some (.ref G)
  ha : PySem.W.findIn K (.ref G) "__class__" = some (some (.builtin "object.__class__"))
  hn : PySem.W.specialIn K (.builtin "object.__class__") "__get__" = some (some (.builtin "getset_descriptor.__get__"))
  htk : PySem.W.takesIn K (.builtin "object.__class__") = some true
  hm : PySem.W.mroIn K G (.type "object") = some true
theorem GrX.tyX {K : PySem.W.Frag} {mg : Str → Option Value} {G : Addr} (T : GrX K mg G) {H : Hp} {x dx : Addr} {fs : List (Str × V)} (h : H x = some (.ins G dx fs)) : TyX K H (.ref x) (.ref G) := .base (.ins h T.cl T.ha T.hn T.htk T.hm)
def spGEq (G : Addr) : Sp := fun vs H Q _ => ∃ (x y : Addr) (cs ds : List Cls2), vs = [.ref x, .ref y] ∧ GrAt G H x cs ∧ GrAt G H y ds ∧ Q (.bl (decide (cs = ds))) H
theorem ok_geq {G fA : Addr} {fd : FuncData} (B : Blt mg) (TG : GrC K mg G) (TX : GrX K mg G) (F : Fun K "__eq__" "Ground.__eq__" s_Ground_eq fA fd) : FnOk P w K mg base CX0 1 fA fd ["self", "other"] (spGEq G) := by
  refine F.ok sc_Ground_eq (fun vs H Q E h => ?_) (fun cdv A outer st H vs Q E hr h => ?_)
  · obtain ⟨x, y, cs, ds, rfl, _⟩ := h
    rfl
  · obtain ⟨x, y, cs, ds, rfl, ⟨dx, M, hx, hM⟩, ⟨dy, N, hy, hN⟩, q⟩ := h
    refine ⟨_, (pss_one (ps_ret ((pe_and (pe_callB call_isi (by rfl) B.isinstance (by decide +kernel) (pa_cons (pv 1) (pa_cons (pe_glob (v := .ref _) (by rfl) TX.g rfl) pa_nil))) (pe_one (pe_cmpR (op_eqD hr.units) (pe_fld (pv 0) rfl) (pe_fld (pv 1) rfl) (nomark _))))))), ?_⟩
    refine ⟨_, rfl, _, _, _, _, true, rfl, .own _, TX.tyX hy, kit_self _, _, rfl, iteT ?_⟩
    refine ⟨_, rfl, x, G, dx, _, _, rfl, hx, TG.cl, TG.nC, grf_classes _ _, _, rfl, y, G, dy, _, _, rfl, hy, TG.cl, TG.nC, grf_classes _ _, _, _, lat_dp hM, lat_dp hN, clsD_ok cs, clsD_ok ds, ?_⟩
    rw [clsD_eqv]
    exact q
def spPlain (G BN TN : Addr) : Sp := fun vs H Q E => ∃ (f : Int), vs = [.ref G, .int f] ∧ (∀ n v, gdue [(1, f)] = .num n v → Ref E BN H n v) ∧ (∀ n v, gdue [(1, f)] = .many n v → RefM E TN H n v) ∧ (gdue [(1, f)] = .ok → ∀ (x : Addr) (H' : Hp), Same H H' → GrAt G H' x [(1, f)] → Q (.ref x) H')
theorem ok_plain {G BN TN fI fA : Addr} {fd : FuncData} (B : Blt mg) (TG : GrC K mg G) (MK : Mk K G fI) (FG : FnR P w K mg base (L2.CX P w) 5 fI (spGround G BN TN)) (F : Fun K "plain" "Ground.plain" s_Ground_plain fA fd) : FnOk P w K mg base (L2.CX P w) 7 fA fd ["cls", "fields"] (spPlain G BN TN) := by
  refine F.okX sc_Ground_plain (fun vs H Q E h => ?_) (fun cdv A outer st H vs Q E hr h => ?_)
  · obtain ⟨f, rfl, _⟩ := h
    rfl
  · obtain ⟨f, rfl, k1, k2, k3⟩ := h
    refine ⟨_, (pss_one (ps_ret (pe_mkVR MK FG (hr.mono (by decide)) (passes_call (takes_of rfl rfl rfl rfl) fun _ _ _ _ h => h) (pv 0) (pa_cons (pe_tup (pa_cons pe_int (pa_cons (pv 1) pa_nil))) pa_nil)))), ?_⟩
    refine ⟨_, rfl, rfl, _, rfl, (by show 2 ≤ sizeLine; decide), fun t ht => ?_⟩
    have st := same_upd (o := .tup [.int 1, .int f]) ht
    refine ground_made (cs := [(1, f)]) rfl (by show 1 ≤ 900; decide) (fun i c hc => ?_) (fun n v e => (k1 n v e).same st) (fun n v e => (k2 n v e).same st) (fun gok x H' s hx => k3 gok x H' (st.trans s) hx)
    cases i with
    | zero =>
      cases hc
      exact ⟨_, rfl, t, rfl, upd_same⟩
    | succ i => simp at hc
def spLGr (G BN TN : Addr) : Sp := fun vs H Q E => ∃ (L : Addr) (cs : List Cls2), vs = [.ref L] ∧ LAt ClP H L cs ∧ cs.length ≤ 5 ∧ (∀ n v, gdue cs = .num n v → Ref E BN H n v) ∧ (∀ n v, gdue cs = .many n v → RefM E TN H n v) ∧ (gdue cs = .ok → ∀ (x : Addr) (H' : Hp), Same H H' → GrAt G H' x cs → Q (.ref x) H')
abbrev CalLGr (P : Program) (w : World) (K : PySem.W.Frag) (mg : Str → Option Value) (base : Heap) (G BN TN : Addr) := CalX P w K mg base 7 "_law_ground" ["_law_rows_here"] (spLGr G BN TN)
theorem ok_lgr {G BN TN fI : Addr} (B : Blt mg) (TG : GrC K mg G) (MK : Mk K G fI) (FG : FnR P w K mg base (L2.CX P w) 5 fI (spGround G BN TN)) (D : Dfn K mg "_law_ground" "_law_ground" s_ground ["_law_rows_here"]) : CalLGr P w K mg base G BN TN := by
  refine D.calX sc_ground (fun vs H Q E h => ?_) (fun f cdv A outer st H vs Q E hr h => ?_)
  · obtain ⟨L, cs, rfl, _⟩ := h
    rfl
  · obtain ⟨L, cs, rfl, ⟨vs, hL, hlen, hat⟩, l5, k1, k2, q⟩ := h
    refine ⟨_, (pss_cons (ps_if (pt_cmpR op_eq (pe_callB call_len_seq (by rfl) B.len PySem.boot_len (pa_cons (pv 0) pa_nil)) (pe_int) (nomark _)) (pss_one (ps_ret (pe_makeR0 MK FG (hr.mono (by decide)) (by rfl) TG.g (passes_call (takes_of rfl rfl rfl rfl) fun _ _ _ _ h => h)))) pss_nil)
      (pss_cons (ps_if (pt_cmpR op_eq (pe_callB call_len_seq (by rfl) B.len PySem.boot_len (pa_cons (pv 0) pa_nil)) (pe_int) (nomark _)) (pss_one (ps_ret (StX.pe_makeR MK FG (hr.mono (by decide)) (by rfl) TG.g (passes_call (takes_of rfl rfl rfl rfl) fun _ _ _ _ h => h) (pa_cons (pe_ix ix_list (pv 0) (pe_int) (fun _ _ => rfl)) pa_nil)))) pss_nil)
      (pss_cons (ps_if (pt_cmpR op_eq (pe_callB call_len_seq (by rfl) B.len PySem.boot_len (pa_cons (pv 0) pa_nil)) (pe_int) (nomark _)) (pss_one (ps_ret (StX.pe_makeR MK FG (hr.mono (by decide)) (by rfl) TG.g (passes_call (takes_of rfl rfl rfl rfl) fun _ _ _ _ h => h) (pa_cons (pe_ix ix_list (pv 0) (pe_int) (fun _ _ => rfl)) (pa_cons (pe_ix ix_list (pv 0) (pe_int) (fun _ _ => rfl)) pa_nil))))) pss_nil)
      (pss_cons (ps_if (pt_cmpR op_eq (pe_callB call_len_seq (by rfl) B.len PySem.boot_len (pa_cons (pv 0) pa_nil)) (pe_int) (nomark _)) (pss_one (ps_ret (StX.pe_makeR MK FG (hr.mono (by decide)) (by rfl) TG.g (passes_call (takes_of rfl rfl rfl rfl) fun _ _ _ _ h => h) (pa_cons (pe_ix ix_list (pv 0) (pe_int) (fun _ _ => rfl)) (pa_cons (pe_ix ix_list (pv 0) (pe_int) (fun _ _ => rfl)) (pa_cons (pe_ix ix_list (pv 0) (pe_int) (fun _ _ => rfl)) pa_nil)))))) pss_nil)
      (pss_cons (ps_if (pt_cmpR op_eq (pe_callB call_len_seq (by rfl) B.len PySem.boot_len (pa_cons (pv 0) pa_nil)) (pe_int) (nomark _)) (pss_one (ps_ret (StX.pe_makeR MK FG (hr.mono (by decide)) (by rfl) TG.g (passes_call (takes_of rfl rfl rfl rfl) fun _ _ _ _ h => h) (pa_cons (pe_ix ix_list (pv 0) (pe_int) (fun _ _ => rfl)) (pa_cons (pe_ix ix_list (pv 0) (pe_int) (fun _ _ => rfl)) (pa_cons (pe_ix ix_list (pv 0) (pe_int) (fun _ _ => rfl)) (pa_cons (pe_ix ix_list (pv 0) (pe_int) (fun _ _ => rfl)) pa_nil))))))) pss_nil)
      (pss_one (ps_ret (StX.pe_makeR MK FG (hr.mono (by decide)) (by rfl) TG.g (passes_call (takes_of rfl rfl rfl rfl) fun _ _ _ _ h => h) (pa_cons (pe_ix ix_list (pv 0) (pe_int) (fun _ _ => rfl)) (pa_cons (pe_ix ix_list (pv 0) (pe_int) (fun _ _ => rfl)) (pa_cons (pe_ix ix_list (pv 0) (pe_int) (fun _ _ => rfl)) (pa_cons (pe_ix ix_list (pv 0) (pe_int) (fun _ _ => rfl)) (pa_cons (pe_ix ix_list (pv 0) (pe_int) (fun _ _ => rfl)) pa_nil))))))))))))), ?_⟩
    have fin := ground_made (G := G) (BN := BN) (TN := TN) (H := H) (E := E) (Q := Q) hlen (by omega) hat k1 k2 q
    clear hat q k1 k2
    rw [← hlen] at l5
    clear hlen
    match vs, hL, fin, l5 with
    | [], hL, fin, _ =>
      refine ⟨_, rfl, _, _, rfl, .inl (SqL.of hL), rfl, _, rfl, ifE (fun _ => ?_) (fun h => absurd (show (0 : Int) = 0 from rfl) h)⟩
      exact fin
    | [v0], hL, fin, _ =>
      refine ⟨_, rfl, _, _, rfl, .inl (SqL.of hL), rfl, _, rfl, ifE (fun h => absurd h (show ¬ (1 : Int) = 0 by decide)) (fun _ => ?_)⟩
      refine ⟨_, rfl, _, _, rfl, .inl (SqL.of hL), rfl, _, rfl, ifE (fun _ => ?_) (fun h => absurd (show (1 : Int) = 1 from rfl) h)⟩
      exact ⟨_, rfl, _, _, _, _, rfl, rfl, SqL.of hL, rfl, fin⟩
    | [v0, v1], hL, fin, _ =>
      refine ⟨_, rfl, _, _, rfl, .inl (SqL.of hL), rfl, _, rfl, ifE (fun h => absurd h (show ¬ (2 : Int) = 0 by decide)) (fun _ => ?_)⟩
      refine ⟨_, rfl, _, _, rfl, .inl (SqL.of hL), rfl, _, rfl, ifE (fun h => absurd h (show ¬ (2 : Int) = 1 by decide)) (fun _ => ?_)⟩
      refine ⟨_, rfl, _, _, rfl, .inl (SqL.of hL), rfl, _, rfl, ifE (fun _ => ?_) (fun h => absurd (show (2 : Int) = 2 from rfl) h)⟩
      exact ⟨_, rfl, _, _, _, _, rfl, rfl, SqL.of hL, rfl, _, rfl, _, _, _, _, rfl, rfl, SqL.of hL, rfl, fin⟩
    | [v0, v1, v2], hL, fin, _ =>
      refine ⟨_, rfl, _, _, rfl, .inl (SqL.of hL), rfl, _, rfl, ifE (fun h => absurd h (show ¬ (3 : Int) = 0 by decide)) (fun _ => ?_)⟩
      refine ⟨_, rfl, _, _, rfl, .inl (SqL.of hL), rfl, _, rfl, ifE (fun h => absurd h (show ¬ (3 : Int) = 1 by decide)) (fun _ => ?_)⟩
      refine ⟨_, rfl, _, _, rfl, .inl (SqL.of hL), rfl, _, rfl, ifE (fun h => absurd h (show ¬ (3 : Int) = 2 by decide)) (fun _ => ?_)⟩
      refine ⟨_, rfl, _, _, rfl, .inl (SqL.of hL), rfl, _, rfl, ifE (fun _ => ?_) (fun h => absurd (show (3 : Int) = 3 from rfl) h)⟩
      exact ⟨_, rfl, _, _, _, _, rfl, rfl, SqL.of hL, rfl, _, rfl, _, _, _, _, rfl, rfl, SqL.of hL, rfl, _, rfl, _, _, _, _, rfl, rfl, SqL.of hL, rfl, fin⟩
    | [v0, v1, v2, v3], hL, fin, _ =>
      refine ⟨_, rfl, _, _, rfl, .inl (SqL.of hL), rfl, _, rfl, ifE (fun h => absurd h (show ¬ (4 : Int) = 0 by decide)) (fun _ => ?_)⟩
      refine ⟨_, rfl, _, _, rfl, .inl (SqL.of hL), rfl, _, rfl, ifE (fun h => absurd h (show ¬ (4 : Int) = 1 by decide)) (fun _ => ?_)⟩
      refine ⟨_, rfl, _, _, rfl, .inl (SqL.of hL), rfl, _, rfl, ifE (fun h => absurd h (show ¬ (4 : Int) = 2 by decide)) (fun _ => ?_)⟩
      refine ⟨_, rfl, _, _, rfl, .inl (SqL.of hL), rfl, _, rfl, ifE (fun h => absurd h (show ¬ (4 : Int) = 3 by decide)) (fun _ => ?_)⟩
      refine ⟨_, rfl, _, _, rfl, .inl (SqL.of hL), rfl, _, rfl, ifE (fun _ => ?_) (fun h => absurd (show (4 : Int) = 4 from rfl) h)⟩
      exact ⟨_, rfl, _, _, _, _, rfl, rfl, SqL.of hL, rfl, _, rfl, _, _, _, _, rfl, rfl, SqL.of hL, rfl, _, rfl, _, _, _, _, rfl, rfl, SqL.of hL, rfl, _, rfl, _, _, _, _, rfl, rfl, SqL.of hL, rfl, fin⟩
    | [v0, v1, v2, v3, v4], hL, fin, _ =>
      refine ⟨_, rfl, _, _, rfl, .inl (SqL.of hL), rfl, _, rfl, ifE (fun h => absurd h (show ¬ (5 : Int) = 0 by decide)) (fun _ => ?_)⟩
      refine ⟨_, rfl, _, _, rfl, .inl (SqL.of hL), rfl, _, rfl, ifE (fun h => absurd h (show ¬ (5 : Int) = 1 by decide)) (fun _ => ?_)⟩
      refine ⟨_, rfl, _, _, rfl, .inl (SqL.of hL), rfl, _, rfl, ifE (fun h => absurd h (show ¬ (5 : Int) = 2 by decide)) (fun _ => ?_)⟩
      refine ⟨_, rfl, _, _, rfl, .inl (SqL.of hL), rfl, _, rfl, ifE (fun h => absurd h (show ¬ (5 : Int) = 3 by decide)) (fun _ => ?_)⟩
      refine ⟨_, rfl, _, _, rfl, .inl (SqL.of hL), rfl, _, rfl, ifE (fun h => absurd h (show ¬ (5 : Int) = 4 by decide)) (fun _ => ?_)⟩
      exact ⟨_, rfl, _, _, _, _, rfl, rfl, SqL.of hL, rfl, _, rfl, _, _, _, _, rfl, rfl, SqL.of hL, rfl, _, rfl, _, _, _, _, rfl, rfl, SqL.of hL, rfl, _, rfl, _, _, _, _, rfl, rfl, SqL.of hL, rfl, _, rfl, _, _, _, _, rfl, rfl, SqL.of hL, rfl, fin⟩
    | _ :: _ :: _ :: _ :: _ :: _ :: _, _, _, h => exact absurd h (by simp)
def spAny1 : Sp := fun vs H Q _ => ∃ (p : Pla), vs = [.ref p] ∧ Pool H p ∧ ∀ (r : Int) (H' : Hp), Pool H' p → Keeps H H' p → Q (.int r) H'
abbrev CalW1 (P : Program) (w : World) (K : PySem.W.Frag) (mg : Str → Option Value) (base : Heap) := Cal P w K mg base 4 "_law_worth" ["_law_pool_here"] spAny1
theorem ok_w1 (C_draw : CalDraw P w K mg base) (C_wide : CalWide P w K mg base) (D : Dfn K mg "_law_worth" "_law_worth" s_worth ["_law_pool_here"]) : CalW1 P w K mg base := by
  refine D.cal sc_worth (fun vs H Q E h => ?_) (fun f cdv A outer st H vs Q E hr h => ?_)
  · obtain ⟨p, rfl, _⟩ := h
    rfl
  · obtain ⟨p, rfl, hP, q⟩ := h
    refine ⟨_, (pss_cons (ps_set (i := 1) sc_worth.nd rfl (Or.inl rfl) (pe_cal C_draw (hr.mono (by decide)) (pa_cons (pv 0) (pa_cons (pe_int) pa_nil))))
      (pss_cons (ps_if (pt_cmpR op_lt (pv 1) (pe_int) (nomark _)) (pss_one (ps_ret (pe_op op_add (pe_int) (pe_cal C_draw (hr.mono (by decide)) (pa_cons (pv 0) (pa_cons (pe_int) pa_nil)))))) pss_nil)
      (pss_cons (ps_if (pt_cmpR op_lt (pv 1) (pe_int) (nomark _)) (pss_one (ps_ret (pe_op op_add (pe_int) (pe_cal C_draw (hr.mono (by decide)) (pa_cons (pv 0) (pa_cons (pe_int) pa_nil)))))) pss_nil)
      (pss_cons (ps_if (pt_cmpR op_eq (pv 1) (pe_int) (nomark _)) (pss_one (ps_ret (pe_op op_sub (pe_int) (pe_cal C_draw (hr.mono (by decide)) (pa_cons (pv 0) (pa_cons (pe_int) pa_nil)))))) pss_nil)
      (pss_cons (ps_set (i := 2) sc_worth.nd rfl (Or.inl rfl) (pe_cal C_draw (hr.mono (by decide)) (pa_cons (pv 0) (pa_cons (pe_int) pa_nil))))
      (pss_cons (ps_if (pt_cmpR op_eq (pv 2) (pe_int) (nomark _)) (pss_one (ps_ret (pe_int))) pss_nil)
      (pss_cons (ps_if (pt_cmpR op_eq (pv 2) (pe_int) (nomark _)) (pss_one (ps_ret (pe_int))) pss_nil)
      (pss_cons (ps_if (pt_cmpR op_eq (pv 2) (pe_int) (nomark _)) (pss_one (ps_ret (pe_op op_sub (pe_un un_neg (pe_int)) (pe_cal C_wide (hr.mono (by decide)) (pa_cons (pv 0) pa_nil))))) pss_nil)
      (pss_one (ps_ret (pe_op op_add (pe_int) (pe_cal C_wide (hr.mono (by decide)) (pa_cons (pv 0) pa_nil))))))))))))), ?_⟩
    refine ⟨_, rfl, p, 8, rfl, hP, by decide, by decide, fun r H1 r0 r1 hP1 k1 => ?_⟩
    refine ⟨_, rfl, _, _, rfl, rfl, _, rfl, ifD (fun _ => ?_) (fun _ => ?_)⟩
    · exact ⟨_, rfl, p, 5, rfl, hP1, by decide, by decide, fun z H2 z0 z1 hP2 k2 => ⟨_, _, rfl, rfl, q _ _ hP2 (k1.trans k2)⟩⟩
    refine ⟨_, rfl, _, _, rfl, rfl, _, rfl, ifD (fun _ => ?_) (fun _ => ?_)⟩
    · exact ⟨_, rfl, p, 1000, rfl, hP1, by decide, by decide, fun z H2 z0 z1 hP2 k2 => ⟨_, _, rfl, rfl, q _ _ hP2 (k1.trans k2)⟩⟩
    refine ⟨_, rfl, rfl, _, rfl, ifE (fun _ => ?_) (fun _ => ?_)⟩
    · exact ⟨_, rfl, p, 2, rfl, hP1, by decide, by decide, fun z H2 z0 z1 hP2 k2 => ⟨_, _, rfl, rfl, q _ _ hP2 (k1.trans k2)⟩⟩
    refine ⟨_, rfl, p, 4, rfl, hP1, by decide, by decide, fun e H2 e0 e1 hP2 k2 => ?_⟩
    have k2 := k1.trans k2
    refine ⟨_, rfl, rfl, _, rfl, ifE (fun _ => q _ _ hP2 k2) (fun _ => ?_)⟩
    refine ⟨_, rfl, rfl, _, rfl, ifE (fun _ => q _ _ hP2 k2) (fun _ => ?_)⟩
    refine ⟨_, rfl, rfl, _, rfl, ifE (fun _ => ?_) (fun _ => ?_)⟩
    · exact ⟨_, rfl, _, rfl, p, rfl, hP2, fun z H3 z0 z1 hP3 k3 => ⟨_, _, rfl, rfl, q _ _ hP3 (k2.trans k3)⟩⟩
    · exact ⟨_, rfl, p, rfl, hP2, fun z H3 z0 z1 hP3 k3 => ⟨_, _, rfl, rfl, q _ _ hP3 (k2.trans k3)⟩⟩
def spMany : Sp := fun vs H Q _ => ∃ (p : Pla) (u : Int), vs = [.ref p, .int u] ∧ Pool H p ∧ ∀ (r : Int) (H' : Hp), Pool H' p → Keeps H H' p → Q (.int r) H'
abbrev CalM1 (P : Program) (w : World) (K : PySem.W.Frag) (mg : Str → Option Value) (base : Heap) := Cal P w K mg base 4 "_law_many" ["_law_pool_here", "_law_used"] spMany
theorem ok_m1 (B : Blt mg) (C_draw : CalDraw P w K mg base) (C_wide : CalWide P w K mg base) (D : Dfn K mg "_law_many" "_law_many" s_many ["_law_pool_here", "_law_used"]) : CalM1 P w K mg base := by
  refine D.cal sc_many (fun vs H Q E h => ?_) (fun f cdv A outer st H vs Q E hr h => ?_)
  · obtain ⟨p, u, rfl, _⟩ := h
    rfl
  · obtain ⟨p, u, rfl, hP, q⟩ := h
    refine ⟨_, (pss_cons (ps_set (i := 2) sc_many.nd rfl (Or.inl rfl) (pe_cal C_draw (hr.mono (by decide)) (pa_cons (pv 0) (pa_cons (pe_int) pa_nil))))
      (pss_cons (ps_if (pt_cmpR op_lt (pv 2) (pe_int) (nomark _)) (pss_one (ps_ret (pe_op op_add (pe_int) (pe_cal C_draw (hr.mono (by decide)) (pa_cons (pv 0) (pa_cons (pe_int) pa_nil)))))) pss_nil)
      (pss_cons (ps_if (pt_cmpR op_eq (pv 2) (pe_int) (nomark _)) (pss_one (ps_ret (pe_op op_add (pe_int) (pe_cal C_draw (hr.mono (by decide)) (pa_cons (pv 0) (pa_cons (pe_int) pa_nil)))))) pss_nil)
      (pss_cons (ps_if (pt_cmpR op_eq (pv 2) (pe_int) (nomark _)) (pss_one (ps_ret (pe_callB (call_max2 rfl) (by rfl) B.max (by decide +kernel) (pa_cons (pe_int) (pa_cons (pe_op op_sub (pe_int) (pv 1)) pa_nil))))) pss_nil)
      (pss_cons (ps_if (pt_cmpR op_eq (pv 2) (pe_int) (nomark _)) (pss_one (ps_ret (pe_callB (call_max2 rfl) (by rfl) B.max (by decide +kernel) (pa_cons (pe_int) (pa_cons (pe_op op_sub (pe_int) (pv 1)) pa_nil))))) pss_nil)
      (pss_cons (ps_if (pt_cmpR op_eq (pe_cal C_draw (hr.mono (by decide)) (pa_cons (pv 0) (pa_cons (pe_int) pa_nil))) (pe_int) (nomark _)) (pss_one (ps_ret (pe_un un_neg (pe_cal C_wide (hr.mono (by decide)) (pa_cons (pv 0) pa_nil))))) pss_nil)
      (pss_one (ps_ret (pe_un un_neg (pe_cal C_draw (hr.mono (by decide)) (pa_cons (pv 0) (pa_cons (pe_int) pa_nil)))))))))))), ?_⟩
    refine ⟨_, rfl, p, 8, rfl, hP, by decide, by decide, fun r H1 r0 r1 hP1 k1 => ?_⟩
    refine ⟨_, rfl, _, _, rfl, rfl, _, rfl, ifD (fun _ => ?_) (fun _ => ?_)⟩
    · exact ⟨_, rfl, p, 4, rfl, hP1, by decide, by decide, fun z H2 z0 z1 hP2 k2 => ⟨_, _, rfl, rfl, q _ _ hP2 (k1.trans k2)⟩⟩
    refine ⟨_, rfl, rfl, _, rfl, ifE (fun _ => ?_) (fun _ => ?_)⟩
    · exact ⟨_, rfl, p, 40, rfl, hP1, by decide, by decide, fun z H2 z0 z1 hP2 k2 => ⟨_, _, rfl, rfl, q _ _ hP2 (k1.trans k2)⟩⟩
    refine ⟨_, rfl, rfl, _, rfl, ifE (fun _ => ⟨_, rfl, _, _, rfl, rfl, _, _, rfl, q _ _ hP1 k1⟩) (fun _ => ?_)⟩
    refine ⟨_, rfl, rfl, _, rfl, ifE (fun _ => ⟨_, rfl, _, _, rfl, rfl, _, _, rfl, q _ _ hP1 k1⟩) (fun _ => ?_)⟩
    refine ⟨_, rfl, p, 2, rfl, hP1, by decide, by decide, fun e H2 e0 e1 hP2 k2 => ?_⟩
    have k2 := k1.trans k2
    refine ⟨rfl, _, rfl, ifE (fun _ => ?_) (fun _ => ?_)⟩
    · exact ⟨_, rfl, p, rfl, hP2, fun z H3 z0 z1 hP3 k3 => ⟨_, rfl, q _ _ hP3 (k2.trans k3)⟩⟩
    · exact ⟨_, rfl, p, 2, rfl, hP2, by decide, by decide, fun z H3 z0 z1 hP3 k3 => ⟨_, rfl, q _ _ hP3 (k2.trans k3)⟩⟩
def spRows : Sp := fun vs H Q _ => ∃ (p : Pla), vs = [.ref p] ∧ Pool H p ∧ ∀ (L : Addr) (cs : List Cls2) (H' : Hp), Pool H' p → Keeps H H' p → L ≠ p → LAt ClP H' L cs → cs.length ≤ 5 → Q (.ref L) H'
abbrev CalRows (P : Program) (w : World) (K : PySem.W.Frag) (mg : Str → Option Value) (base : Heap) := Cal P w K mg base 5 "_law_rows" ["_law_pool_here"] spRows
theorem eight {r : Int} (h0 : 0 ≤ r) (h1 : r < 8) : ∃ n : Nat, atI [V.int 2, V.int 1, V.int 3, V.int 4, V.int 0, V.int 5, V.int 1, V.int 2] r = some (V.int (n : Int)) ∧ n ≤ 5 := by
  have : r = 0 ∨ r = 1 ∨ r = 2 ∨ r = 3 ∨ r = 4 ∨ r = 5 ∨ r = 6 ∨ r = 7 := by omega
  rcases this with rfl | rfl | rfl | rfl | rfl | rfl | rfl | rfl
  · exact ⟨2, rfl, by decide⟩
  · exact ⟨1, rfl, by decide⟩
  · exact ⟨3, rfl, by decide⟩
  · exact ⟨4, rfl, by decide⟩
  · exact ⟨0, rfl, by decide⟩
  · exact ⟨5, rfl, by decide⟩
  · exact ⟨1, rfl, by decide⟩
  · exact ⟨2, rfl, by decide⟩
theorem ok_rows (B : Blt mg) (C_draw : CalDraw P w K mg base) (C_worth : CalW1 P w K mg base) (C_many : CalM1 P w K mg base) (D : Dfn K mg "_law_rows" "_law_rows" s_rows ["_law_pool_here"]) : CalRows P w K mg base := by
  refine D.cal sc_rows (fun vs H Q E h => ?_) (fun f cdv A outer st H vs Q E hr h => ?_)
  · obtain ⟨p, rfl, _⟩ := h
    rfl
  · obtain ⟨p, rfl, hP, q⟩ := h
    refine ⟨_, (pss_cons (ps_set (i := 1) sc_rows.nd rfl (Or.inl rfl) (pe_lst pa_nil))
      (pss_cons (ps_set (i := 2) sc_rows.nd rfl (Or.inl rfl) (pe_int))
      (pss_cons (ps_for PassesOwn.never rfl (pi_range1 (by rfl) B.range (pa_cons (pe_ix ix_tup (pe_tup (pa_cons (pe_int) (pa_cons (pe_int) (pa_cons (pe_int) (pa_cons (pe_int) (pa_cons (pe_int) (pa_cons (pe_int) (pa_cons (pe_int) (pa_cons (pe_int) pa_nil))))))))) (pe_cal C_draw (hr.mono (by decide)) (pa_cons (pv 0) (pa_cons (pe_int) pa_nil))) (fun _ _ => rfl)) pa_nil)) (pg_name (i := 3) sc_rows.nd rfl (Or.inl rfl)) (pss_cons (ps_set (i := 4) sc_rows.nd rfl (Or.inl rfl) (pe_cal C_worth (hr.mono (by decide)) (pa_cons (pv 0) pa_nil)))
      (pss_cons (ps_set (i := 5) sc_rows.nd rfl (Or.inl rfl) (pe_cal C_many (hr.mono (by decide)) (pa_cons (pv 0) (pa_cons (pv 2) pa_nil))))
      (pss_cons (ps_set (i := 2) sc_rows.nd rfl (Or.inl rfl) (pe_op op_add (pv 2) (pe_callB (call_max2 rfl) (by rfl) B.max (by decide +kernel) (pa_cons (pe_int) (pa_cons (pv 5) pa_nil)))))
      (pss_one (ps_expr (pe_bm PySem.F.plainAttrs_list PySem.F.slot_list_append PySem.F.type_list_append mt_append (pv 1) (pa_cons (pe_tup (pa_cons (pv 4) (pa_cons (pv 5) pa_nil))) pa_nil))))))))
      (pss_one (ps_ret (pv 1)))))), ?_⟩
    refine ⟨(by show 0 ≤ sizeLine; decide), fun L hL => ?_⟩
    have dp := hP.apart hL
    have hP1 := hP.upd (o := .lst []) hL
    refine ⟨(by show 8 ≤ sizeLine; decide), fun u hu => ⟨_, rfl, p, 8, rfl, hP1.upd hu, by decide, by decide, fun r H2 r0 r1 hP2 k2 => ?_⟩⟩
    obtain ⟨n, hn, n5⟩ := eight r0 r1
    have up : u ≠ p := (hP1.apart hu).1
    refine ⟨_, _, _, _, rfl, rfl, SqT.of (k2 _ _ upd_same up), hn, _, rfl, by omega, by omega, ?_⟩
    rw [Int.toNat_natCast]
    have kL : Keeps H H2 p := (same_keeps ((same_upd hL).trans (same_upd hu))).trans k2
    have hL2 : H2 L = some (.lst []) := k2 _ _ (same_upd hu _ _ upd_same) dp.1
    refine for_range (lo := 0) (n := n) (fun i σ H' => ∃ (used : Int) (o1 o2 o3 : Option V) (cs : List Cls2), σ = [some (.ref (p : Addr)), some (.ref L), some (.int used), o1, o2, o3] ∧ Pool H' p ∧ Keeps H H' p ∧ LAt ClP H' L cs ∧ cs.length = i) ⟨0, none, none, none, [], rfl, hP2, kL, ⟨[], hL2, rfl, fun i y hy => by simp at hy⟩, rfl⟩ ?_ ?_
    · rintro i σ H3 hi ⟨used, o1, o2, o3, cs, rfl, hP3, k3, hA, hl⟩
      refine ⟨_, rfl, p, rfl, hP3, fun wv H4 hP4 k4 => ?_⟩
      refine ⟨_, rfl, _, rfl, p, used, rfl, hP4, fun mv H5 hP5 k5 => ?_⟩
      have hA5 := lat_keep (lat_keep hA hP3 dp.1 k4) hP4 dp.1 k5
      obtain ⟨vs, hL5, hl5, hat5⟩ := id hA5
      refine ⟨_, rfl, _, rfl, _, _, rfl, _, _, rfl, rfl, ?_⟩
      refine ⟨_, rfl, .inl ⟨rfl, _, SqL.of hL5⟩, _, rfl, _, rfl, (by show 2 ≤ sizeLine; decide), fun t ht => ⟨L, _, _, rfl, rfl, same_upd ht _ _ hL5, small1000 (by omega), ?_⟩⟩
      have st := same_upd (o := .tup [.int wv, .int mv]) ht
      exact ⟨_, _, _, _, cs ++ [(wv, mv)], rfl, (hP5.same st).store dp.1 dp.2, keeps_late (k3.trans (k4.trans (k5.trans (same_keeps st)))) hL, cls_snoc (st _ _ hL5) (hA5.same clP_mono st) ⟨t, rfl, upd_same⟩, by rw [List.length_append, hl]; rfl⟩
    · rintro σ H3 ⟨used, o1, o2, o3, cs, rfl, hP3, k3, hA, hl⟩
      exact ⟨_, rfl, q L cs H3 hP3 k3 dp.1 hA (by omega)⟩
end
end L

set_option Elab.async false
set_option linter.all false
set_option maxRecDepth 100000
set_option maxHeartbeats 4000000
set_option pp.maxSteps 160
set_option pp.deepTerms false
namespace L
open PySem PySem.Spec PyProof.Rows L2 Fl
local macro_rules | `(tactic| walk_at "side") => `(tactic| first | (exact .inl ⟨by omega, by omega⟩) | (exact .inr ⟨by omega, by omega⟩) | (exact .inr ⟨by decide, by decide⟩) | (show (_ : Int) ≠ _; omega) | (exact ⟨by omega, by decide⟩) | (exact ⟨by decide, by decide, by decide⟩))
local macro_rules | `(tactic| walk_at "go") => `(tactic| repeat (first | refine ⟨_, rfl, ?_⟩ | refine ⟨_, _, rfl, rfl, ?_⟩ | refine .inl ⟨_, rfl, ?_⟩ | refine ⟨rfl, ?_⟩ | refine ⟨(by walk_at "side"), ?_⟩))
local macro_rules | `(tactic| walk_at "see") => `(tactic| (set_option pp.maxSteps 110 in set_option pp.deepTerms false in trace_state))
local macro_rules | `(tactic| walk_at "if") => `(tactic| first | refine ifE ?_ ?_ | refine ifNE ?_ ?_ | refine ifD ?_ ?_ | refine ifN ?_ ?_ | refine ifB ?_ ?_)
section
variable {P : Program} {w : World} {K : PySem.W.Frag} {mg : Str → Option Value} {base : Heap}

def gdL : Gd → List V
  | .ok => [.str "made", .str "", .int 0]
  | .num n v => [.str "number", .str n, .int v]
  | .many n v => [.str "many", .str n, .int v]
def gdD : Gd → PyData
  | .ok => .tuple [.str "made", .str "", .int 0]
  | .num n v => .tuple [.str "number", .str n, .int v]
  | .many n v => .tuple [.str "many", .str n, .int v]
theorem gd_dp {H : Hp} {z : Addr} {d : Gd} (h : H z = some (.tup (gdL d))) : Dp K H (.ref z) (gdD d) := by
  cases d with
  | ok => exact .tup (SqT.of h) (.cons (.str _) (.cons (.str _) (.cons (.int _) .nil)))
  | num n v => exact .tup (SqT.of h) (.cons (.str _) (.cons (.str _) (.cons (.int _) .nil)))
  | many n v => exact .tup (SqT.of h) (.cons (.str _) (.cons (.str _) (.cons (.int _) .nil)))
theorem gd_int (d : Gd) : ∃ x y v, gdL d = [x, y, .int v] := by
  cases d with
  | ok => exact ⟨_, _, _, rfl⟩
  | num n v => exact ⟨_, _, _, rfl⟩
  | many n v => exact ⟨_, _, _, rfl⟩
theorem bad_name : ∀ {cs : List Cls2} {n : Str} {v : Int}, badIn cs = some (n, v) → PyData.strOk n = true
  | [], n, v, h => nomatch h
  | c :: r, n, v, h => by
    have h' : (match badOf c with | some z => some z | none => badIn r) = some (n, v) := h
    cases hb : badOf c with
    | none =>
      rw [hb] at h'
      exact bad_name h'
    | some z =>
      rw [hb] at h'
      cases h'
      unfold badOf at hb
      split at hb
      · cases hb
        decide +kernel
      · split at hb
        · cases hb
          decide +kernel
        · cases hb
theorem str3 {a n : Str} {v : Int} (h1 : PyData.strOk a = true) (h2 : PyData.strOk n = true) : SeqAt.shaped (.tuple [.str a, .str n, .int v]) = true := by
  simp [SeqAt.shaped, PyData.canLay0, PyData.canLayAll0, PyData.depth, PyData.depthAll, h1, h2]
theorem gd_ok {cs : List Cls2} : SeqAt.shaped (gdD (gdue cs)) = true := by
  by_cases h0 : cs.length = 0
  · rw [List.length_eq_zero_iff.mp h0]
    exact str3 (by decide +kernel) (by decide +kernel)
  · by_cases h4 : 4 < cs.length
    · rw [gdue_many h4]
      exact str3 (by decide +kernel) (by decide +kernel)
    · cases hb : badIn cs with
      | some z =>
        obtain ⟨n, v⟩ := z
        rw [gdue_bad (by omega) (by omega) hb]
        exact str3 (by decide +kernel) (bad_name hb)
      | none =>
        rw [gdue_end (by omega) (by omega) hb]
        split
        · exact str3 (by decide +kernel) (by decide +kernel)
        · exact str3 (by decide +kernel) (by decide +kernel)
def kindD : PyData := .tuple [.bool true, .bool true, .bool false]
theorem kind_ok : SeqAt.shaped kindD = true := by
  simp [kindD, SeqAt.shaped, PyData.canLay0, PyData.canLayAll0, PyData.depth, PyData.depthAll]
theorem kind_dp {H : Hp} {z : Addr} (h : H z = some (.tup [.bl true, .bl true, .bl false])) : Dp K H (.ref z) kindD := .tup (SqT.of h) (.cons (.bl _) (.cons (.bl _) (.cons (.bl _) .nil)))
def spRef : Sp := fun vs H Q _ => ∃ (L : Addr) (b : Bool) (cs : List Cls2), vs = [.ref L, .bl b] ∧ LAt ClP H L cs ∧ cs.length ≤ 5 ∧ (b = true → ∃ f, cs = [(1, f)]) ∧ ∀ (z : Addr) (H' : Hp), Same H H' → H' z = some (.tup (gdL (gdue cs))) → Q (.ref z) H'
abbrev CalRef (P : Program) (w : World) (K : PySem.W.Frag) (mg : Str → Option Value) (base : Heap) := Cal P w K mg base 8 "_law_refused" ["_law_rows_here", "_law_plain"] spRef
theorem ok_ref {G BN TN LE : Addr} (B : Blt mg) (TG : GrC K mg G) (TB : BnC K mg BN) (TM : TmC K mg TN) (gLotError : mg "LotError" = some (.ref LE)) (gBadNumber : mg "BadNumber" = some (.ref BN)) (gTooMany : mg "TooMany" = some (.ref TN))
    (b1 : PySem.W.kitOne K (.ref BN) (.ref LE) = some true) (b2 : PySem.W.kitOne K (.ref BN) (.type "ValueError") = some true) (b3 : PySem.W.kitOne K (.ref BN) (.ref TN) = some false)
    (n1 : PySem.W.kitOne K (.ref TN) (.ref LE) = some true) (n2 : PySem.W.kitOne K (.ref TN) (.type "ValueError") = some true) (n3 : PySem.W.kitOne K (.ref TN) (.ref BN) = some false) (nb : PySem.W.exmOne K (.ref TN) (.ref BN) = some false)
    (CPL : Bx.CalCM P w K mg base 7 G "plain" ["cls", "fields"] (spPlain G BN TN)) (C_ground : CalLGr P w K mg base G BN TN) (C_whole : CalWhole P w K mg base) (D : Dfn K mg "_law_refused" "_law_refused" s_refused ["_law_rows_here", "_law_plain"]) : CalRef P w K mg base := by
  refine D.cal sc_refused (fun vs H Q E h => ?_) (fun f cdv A outer st H vs Q E hr h => ?_)
  · obtain ⟨L, b, cs, rfl, _⟩ := h
    rfl
  · obtain ⟨L, b, cs, rfl, hL, l5, hp, q⟩ := h
    refine ⟨_, (pss_cons (ps_set (i := 2) sc_refused.nd rfl (Or.inl rfl) (pe_tup (pa_cons (pe_str) (pa_cons (pe_str) (pa_cons (pe_int) pa_nil)))))
      (pss_cons (ps_set (i := 3) sc_refused.nd rfl (Or.inl rfl) (pe_tup (pa_cons (pe_bl) (pa_cons (pe_bl) (pa_cons (pe_bl) pa_nil)))))
      (Evl.pss_cut (ps_try_cls rfl rfl sc_refused.nd takes0 (fun W pn xe tk _ => (pss_one (ps_if (pt_val (pv 1)) (pss_one (ps_expr (Bx.pe_cm CPL (fun σ => passAt tk σ) (hr.mono (by decide)) (pe_glob (v := .ref _) (by rfl) TG.g rfl) (pa_cons (pe_ix (ix_tup_K (K := K) rfl) (pe_ix (ix_list_K (K := K) rfl) (pv 0) pe_int (fun _ _ => rfl)) pe_int (fun _ _ => rfl)) pa_nil)))) (pss_one (ps_expr (pe_calS C_ground tk (hr.mono (by decide)) (pa_cons (pv 0) pa_nil))))))) (.cons (i := 4) rfl rfl ⟨rfl, by decide, Or.inl TB.g⟩ (fun a oe cls d pn hz hf => (pss_cons (ps_set (i := 2) sc_refused.nd rfl (Or.inl rfl) (pe_tup (pa_cons (pe_str) (pa_cons (pe_xf TB.xf TB.nN hz hf (pv 4)) (pa_cons (pe_xf TB.xf TB.nV hz hf (pv 4)) pa_nil)))))
      (pss_one (ps_set (i := 3) sc_refused.nd rfl (Or.inl rfl) (pe_tup (pa_cons (pe_callB (call_isX TB.e hz hf) (by rfl) B.isinstance (by decide +kernel) (pa_cons (pv 4) (pa_cons (pe_glob (v := .ref _) (by rfl) gLotError rfl) pa_nil))) (pa_cons (pe_callB (call_isX TB.e hz hf) (by rfl) B.isinstance (by decide +kernel) (pa_cons (pv 4) (pa_cons (pe_bltn (v := .ty "ValueError") (by rfl) B.ve (by decide +kernel) rfl) pa_nil))) (pa_cons (pe_callB (call_isX TB.e hz hf) (by rfl) B.isinstance (by decide +kernel) (pa_cons (pv 4) (pa_cons (pe_glob (v := .ref _) (by rfl) TM.g rfl) pa_nil))) pa_nil)))))))) (.cons (i := 5) rfl rfl ⟨rfl, by decide, Or.inl TM.g⟩ (fun a oe cls d pn hz hf => (pss_cons (ps_set (i := 2) sc_refused.nd rfl (Or.inl rfl) (pe_tup (pa_cons (pe_str) (pa_cons (pe_xf TM.xf TM.nN hz hf (pv 5)) (pa_cons (pe_xf TM.xf TM.nM hz hf (pv 5)) pa_nil)))))
      (pss_one (ps_set (i := 3) sc_refused.nd rfl (Or.inl rfl) (pe_tup (pa_cons (pe_callB (call_isX TM.e hz hf) (by rfl) B.isinstance (by decide +kernel) (pa_cons (pv 5) (pa_cons (pe_glob (v := .ref _) (by rfl) gLotError rfl) pa_nil))) (pa_cons (pe_callB (call_isX TM.e hz hf) (by rfl) B.isinstance (by decide +kernel) (pa_cons (pv 5) (pa_cons (pe_bltn (v := .ty "ValueError") (by rfl) B.ve (by decide +kernel) rfl) pa_nil))) (pa_cons (pe_callB (call_isX TM.e hz hf) (by rfl) B.isinstance (by decide +kernel) (pa_cons (pv 5) (pa_cons (pe_glob (v := .ref _) (by rfl) TB.g rfl) pa_nil))) pa_nil)))))))) .nil)))
      (pss_cons (ps_if (PW.pt (pw_or (pt_cmpR (op_neD hr.units) (pv 3) (pe_tup (pa_cons (pe_bl) (pa_cons (pe_bl) (pa_cons (pe_bl) pa_nil)))) (nomark _)) (pw_or1 (pt_not (pt_val (pe_cal C_whole (hr.mono (by decide)) (pa_cons (pe_ix ix_tup (pv 2) (pe_int) (fun _ _ => rfl)) pa_nil))))))) (pss_one (ps_ret (pe_tup (pa_cons (pe_str) (pa_cons (pe_str) (pa_cons (pe_int) pa_nil)))))) pss_nil)
      (pss_one (ps_ret (pv 2))))))), ?_⟩
    refine ⟨(by show 3 ≤ sizeLine; decide), fun z0 hz0 => ⟨(by show 3 ≤ sizeLine; decide), fun y0 hy0 => ?_⟩⟩
    have sz := same_upd (o := .tup [.str "made", .str "", .int 0]) hz0
    have sy := same_upd (o := .tup [.bl true, .bl true, .bl false]) hy0
    have hz1 : upd (upd H z0 (.tup [.str "made", .str "", .int 0])) y0 (.tup [.bl true, .bl true, .bl false]) z0 = some (.tup [.str "made", .str "", .int 0]) := sy _ _ upd_same
    have hy1 : upd (upd H z0 (.tup [.str "made", .str "", .int 0])) y0 (.tup [.bl true, .bl true, .bl false]) y0 = some (.tup [.bl true, .bl true, .bl false]) := upd_same
    have s0 := sz.trans sy
    have hL0 := hL.same clP_mono s0
    generalize upd (upd H z0 (.tup [.str "made", .str "", .int 0])) y0 (.tup [.bl true, .bl true, .bl false]) = H0 at *
    refine ⟨fun σ' H' => ∃ z y : Addr, σ' = [some (.ref L), some (.bl b), some (.ref z), some (.ref y), none, none] ∧ Same H H' ∧ H' z = some (.tup (gdL (gdue cs))) ∧ H' y = some (.tup [.bl true, .bl true, .bl false]), ?_, ?_⟩
    · refine ⟨_, rfl, _, rfl, ifB (fun hb => ?_) (fun hb => ?_)⟩
      · obtain ⟨f, rfl⟩ := hp hb
        obtain ⟨vs, hL1, pw⟩ := mono3 hL0
        obtain ⟨v, hv, t, rfl, ht⟩ := pw.2 0 _ rfl
        refine ⟨rfl, _, rfl, _, _, _, _, rfl, rfl, SqL.of hL1, atI_nat (j := 0) hv, _, _, _, _, rfl, rfl, SqT.of ht, rfl, f, rfl, fun n v hn => ?_, fun n v hn => ?_, fun hn x H1 s1 hx => ?_⟩
        · intro d H1 s1 hd0 hd
          refine ⟨true, TB.exm, fun _ e0 he0 => ?_, nofun⟩
          refine ⟨_, rfl, rfl, rfl, d, _, _, rfl, hd, bnf_name _ _, ?_⟩
          refine ⟨_, rfl, rfl, rfl, d, _, _, rfl, hd, bnf_value _ _, (by show 3 ≤ sizeLine; decide), fun z1 hz1 => ?_⟩
          have sz1 := same_upd (o := .tup [.str "number", .str n, .int v]) hz1
          have hd1 := sz1 _ _ hd
          refine ⟨_, rfl, rfl, .inr ⟨d, _, rfl, hd1⟩, _, _, true, rfl, .own _, b1, ?_⟩
          refine ⟨_, rfl, rfl, .inr ⟨d, _, rfl, hd1⟩, _, _, true, rfl, .ty _, b2, ?_⟩
          refine ⟨_, rfl, rfl, .inr ⟨d, _, rfl, hd1⟩, _, _, false, rfl, .own _, b3, ?_⟩
          refine ⟨(by show 3 ≤ sizeLine; decide), fun y1 hy1 => ⟨z1, y1, rfl, ((s0.trans s1).trans sz1).trans (same_upd hy1), ?_, upd_same⟩⟩
          rw [hn]
          exact same_upd hy1 _ _ upd_same
        · intro d H1 s1 hd0 hd
          refine ⟨false, nb, nofun, fun _ => ⟨true, TM.exm, fun _ e0 he0 => ?_, nofun⟩⟩
          refine ⟨_, rfl, rfl, rfl, d, _, _, rfl, hd, tmf_name _ _, ?_⟩
          refine ⟨_, rfl, rfl, rfl, d, _, _, rfl, hd, tmf_most _ _, (by show 3 ≤ sizeLine; decide), fun z1 hz1 => ?_⟩
          have sz1 := same_upd (o := .tup [.str "many", .str n, .int v]) hz1
          have hd1 := sz1 _ _ hd
          refine ⟨_, rfl, rfl, .inr ⟨d, _, rfl, hd1⟩, _, _, true, rfl, .own _, n1, ?_⟩
          refine ⟨_, rfl, rfl, .inr ⟨d, _, rfl, hd1⟩, _, _, true, rfl, .ty _, n2, ?_⟩
          refine ⟨_, rfl, rfl, .inr ⟨d, _, rfl, hd1⟩, _, _, false, rfl, .own _, n3, ?_⟩
          refine ⟨(by show 3 ≤ sizeLine; decide), fun y1 hy1 => ⟨z1, y1, rfl, ((s0.trans s1).trans sz1).trans (same_upd hy1), ?_, upd_same⟩⟩
          rw [hn]
          exact same_upd hy1 _ _ upd_same
        · refine ⟨z0, y0, rfl, s0.trans s1, ?_, s1 _ _ hy1⟩
          rw [hn]
          exact s1 _ _ hz1
      · refine ⟨_, rfl, L, cs, rfl, hL0, l5, fun n v hn => ?_, fun n v hn => ?_, fun hn x H1 s1 hx => ?_⟩
        · intro d H1 s1 hd0 hd
          refine ⟨true, TB.exm, fun _ e0 he0 => ?_, nofun⟩
          refine ⟨_, rfl, rfl, rfl, d, _, _, rfl, hd, bnf_name _ _, ?_⟩
          refine ⟨_, rfl, rfl, rfl, d, _, _, rfl, hd, bnf_value _ _, (by show 3 ≤ sizeLine; decide), fun z1 hz1 => ?_⟩
          have sz1 := same_upd (o := .tup [.str "number", .str n, .int v]) hz1
          have hd1 := sz1 _ _ hd
          refine ⟨_, rfl, rfl, .inr ⟨d, _, rfl, hd1⟩, _, _, true, rfl, .own _, b1, ?_⟩
          refine ⟨_, rfl, rfl, .inr ⟨d, _, rfl, hd1⟩, _, _, true, rfl, .ty _, b2, ?_⟩
          refine ⟨_, rfl, rfl, .inr ⟨d, _, rfl, hd1⟩, _, _, false, rfl, .own _, b3, ?_⟩
          refine ⟨(by show 3 ≤ sizeLine; decide), fun y1 hy1 => ⟨z1, y1, rfl, ((s0.trans s1).trans sz1).trans (same_upd hy1), ?_, upd_same⟩⟩
          rw [hn]
          exact same_upd hy1 _ _ upd_same
        · intro d H1 s1 hd0 hd
          refine ⟨false, nb, nofun, fun _ => ⟨true, TM.exm, fun _ e0 he0 => ?_, nofun⟩⟩
          refine ⟨_, rfl, rfl, rfl, d, _, _, rfl, hd, tmf_name _ _, ?_⟩
          refine ⟨_, rfl, rfl, rfl, d, _, _, rfl, hd, tmf_most _ _, (by show 3 ≤ sizeLine; decide), fun z1 hz1 => ?_⟩
          have sz1 := same_upd (o := .tup [.str "many", .str n, .int v]) hz1
          have hd1 := sz1 _ _ hd
          refine ⟨_, rfl, rfl, .inr ⟨d, _, rfl, hd1⟩, _, _, true, rfl, .own _, n1, ?_⟩
          refine ⟨_, rfl, rfl, .inr ⟨d, _, rfl, hd1⟩, _, _, true, rfl, .ty _, n2, ?_⟩
          refine ⟨_, rfl, rfl, .inr ⟨d, _, rfl, hd1⟩, _, _, false, rfl, .own _, n3, ?_⟩
          refine ⟨(by show 3 ≤ sizeLine; decide), fun y1 hy1 => ⟨z1, y1, rfl, ((s0.trans s1).trans sz1).trans (same_upd hy1), ?_, upd_same⟩⟩
          rw [hn]
          exact same_upd hy1 _ _ upd_same
        · refine ⟨z0, y0, rfl, s0.trans s1, ?_, s1 _ _ hy1⟩
          rw [hn]
          exact s1 _ _ hz1
    rintro σ' H' ⟨z, y, rfl, s', hz, hy⟩
    obtain ⟨a1, a2, a3, ha⟩ := gd_int (gdue cs)
    refine ⟨_, rfl, (by show 3 ≤ sizeLine; decide), fun u hu => ⟨kindD, kindD, kind_dp (same_upd hu _ _ hy), kind_dp upd_same, kind_ok, kind_ok, ?_⟩⟩
    rw [SeqAt.eqv_refl _ (SeqAt.canLay_of_shaped kind_ok)]
    refine ⟨_, rfl, iteF ?_⟩
    have hz2 := same_upd (o := .tup [.bl true, .bl true, .bl false]) hu _ _ hz
    rw [ha] at hz2
    refine ⟨_, rfl, _, _, _, _, rfl, rfl, SqT.of hz2, rfl, _, rfl, _, rfl, iteF ?_⟩
    exact ⟨_, rfl, q z _ (s'.trans (same_upd hu)) (same_upd hu _ _ hz)⟩
end
end L

set_option Elab.async false
set_option linter.all false
set_option maxRecDepth 100000
set_option maxHeartbeats 4000000
set_option pp.maxSteps 160
set_option pp.deepTerms false
namespace L
open PySem PySem.Spec PyProof.Rows L2 Fl
local macro_rules | `(tactic| walk_at "side") => `(tactic| first | (exact .inl ⟨by omega, by omega⟩) | (exact .inr ⟨by omega, by omega⟩) | (exact .inr ⟨by decide, by decide⟩) | (show (_ : Int) ≠ _; omega) | (exact ⟨by omega, by decide⟩) | (exact ⟨by decide, by decide, by decide⟩))
local macro_rules | `(tactic| walk_at "go") => `(tactic| repeat (first | refine ⟨_, rfl, ?_⟩ | refine ⟨_, _, rfl, rfl, ?_⟩ | refine .inl ⟨_, rfl, ?_⟩ | refine ⟨rfl, ?_⟩ | refine ⟨(by walk_at "side"), ?_⟩))
local macro_rules | `(tactic| walk_at "see") => `(tactic| (set_option pp.maxSteps 110 in set_option pp.deepTerms false in trace_state))
local macro_rules | `(tactic| walk_at "if") => `(tactic| first | refine ifE ?_ ?_ | refine ifNE ?_ ?_ | refine ifD ?_ ?_ | refine ifN ?_ ?_ | refine ifB ?_ ?_)
section
variable {P : Program} {w : World} {K : PySem.W.Frag} {mg : Str → Option Value} {base : Heap}

def spDue : Sp := fun vs H Q _ => ∃ (L : Addr) (cs : List Cls2), vs = [.ref L] ∧ LAt ClP H L cs ∧ ∀ (z : Addr) (H' : Hp), Same H H' → H' z = some (.tup (gdL (gdue cs))) → Q (.ref z) H'
abbrev CalDue (P : Program) (w : World) (K : PySem.W.Frag) (mg : Str → Option Value) (base : Heap) := Cal P w K mg base 1 "_law_due" ["_law_rows_here"] spDue
theorem ok_due (B : Blt mg) (D : Dfn K mg "_law_due" "_law_due" s_due ["_law_rows_here"]) : CalDue P w K mg base := by
  refine D.cal sc_due (fun vs H Q E h => ?_) (fun f cdv A outer st H vs Q E hr h => ?_)
  · obtain ⟨L, cs, rfl, _⟩ := h
    rfl
  · obtain ⟨L, cs, rfl, ⟨vs, hL, hlen, hat⟩, q⟩ := h
    have out : ∀ (d : Gd), gdue cs = d → ∀ (z : Addr) (H' : Hp), Same H H' → H' z = some (.tup (gdL d)) → Q (.ref z) H' := fun d e z H' s h => q z H' s (by rw [e]; exact h)
    refine ⟨_, (pss_cons (ps_if (pt_cmpR op_eq (pe_callB call_len_seq (by rfl) B.len PySem.boot_len (pa_cons (pv 0) pa_nil)) (pe_int) (nomark _)) (pss_one (ps_ret (pe_tup (pa_cons (pe_str) (pa_cons (pe_str) (pa_cons (pe_int) pa_nil)))))) pss_nil)
      (pss_cons (ps_if (pt_cmpR op_gt (pe_callB call_len_seq (by rfl) B.len PySem.boot_len (pa_cons (pv 0) pa_nil)) (pe_int) (nomark _)) (pss_one (ps_ret (pe_tup (pa_cons (pe_str) (pa_cons (pe_str) (pa_cons (pe_int) pa_nil)))))) pss_nil)
      (pss_cons (ps_set (i := 1) sc_due.nd rfl (Or.inl rfl) (pe_int))
      (pss_cons (ps_for PassesOwn.never rfl (pi_list (pv 0)) (pg_name (i := 2) sc_due.nd rfl (Or.inl rfl)) (pss_cons (ps_if (PW.pt (pw_or (pt_cmpR op_lt (pe_ix ix_tup (pv 2) (pe_int) (fun _ _ => rfl)) (pe_int) (nomark _)) (pw_or1 (pt_cmpR op_gt (pe_ix ix_tup (pv 2) (pe_int) (fun _ _ => rfl)) (pe_int) (nomark _))))) (pss_one (ps_ret (pe_tup (pa_cons (pe_str) (pa_cons (pe_str) (pa_cons (pe_ix ix_tup (pv 2) (pe_int) (fun _ _ => rfl)) pa_nil)))))) pss_nil)
      (pss_cons (ps_if (pt_cmpR op_lt (pe_ix ix_tup (pv 2) (pe_int) (fun _ _ => rfl)) (pe_int) (nomark _)) (pss_one (ps_ret (pe_tup (pa_cons (pe_str) (pa_cons (pe_str) (pa_cons (pe_ix ix_tup (pv 2) (pe_int) (fun _ _ => rfl)) pa_nil)))))) pss_nil)
      (pss_one (ps_set (i := 1) sc_due.nd rfl (Or.inl rfl) (pe_op op_add (pv 1) (pe_ix ix_tup (pv 2) (pe_int) (fun _ _ => rfl))))))))
      (pss_cons (ps_if (pt_cmpR op_gt (pv 1) (pe_int) (nomark _)) (pss_one (ps_ret (pe_tup (pa_cons (pe_str) (pa_cons (pe_str) (pa_cons (pe_int) pa_nil)))))) pss_nil)
      (pss_one (ps_ret (pe_tup (pa_cons (pe_str) (pa_cons (pe_str) (pa_cons (pe_int) pa_nil))))))))))), ?_⟩
    refine ⟨_, rfl, _, _, rfl, .inl (SqL.of hL), rfl, _, rfl, ?_⟩
    refine ifE (fun h => ?_) (fun h0 => ?_)
    · have e : cs = [] := List.length_eq_zero_iff.mp (by omega)
      exact ⟨(by show 3 ≤ sizeLine; decide), fun z hz => out (.num "classes" 0) (by rw [e]; rfl) z _ (same_upd hz) upd_same⟩
    refine ⟨_, rfl, _, _, rfl, .inl (SqL.of hL), _, _, rfl, rfl, _, rfl, ifD (fun h => ?_) (fun h4 => ?_)⟩
    · exact ⟨(by show 3 ≤ sizeLine; decide), fun z hz => out (.many "classes" 4) (gdue_many (by omega)) z _ (same_upd hz) upd_same⟩
    have h1 : 1 ≤ cs.length := by omega
    have h4 : cs.length ≤ 4 := by omega
    refine ⟨_, rfl, L, rfl, ⟨_, SqL.of hL⟩, for_list (K := K) (a := L) (xs := vs) (fun i σ H' => H' = H ∧ ∃ (n : Int) (o : Option V), σ = [some (.ref L), some (.int n), o] ∧ n = fds (cs.take i) ∧ badIn (cs.drop i) = badIn cs) ⟨rfl, 0, none, rfl, rfl, rfl⟩ (fun i σ H' _ h => by rw [h.1]; exact SqL.of hL) ?_ ?_⟩
    · rintro i y σ H' hy ⟨rfl, n, o, rfl, hn, hb⟩
      have hi : i < vs.length := (List.getElem?_eq_some_iff.mp hy).1
      have hc : cs[i]? = some cs[i] := List.getElem?_eq_getElem (by omega)
      obtain ⟨v, hv, t, rfl, ht⟩ := hat i _ hc
      rw [hy] at hv
      cases hv
      have hd := bad_drop hc
      have hf : fds (cs.take (i + 1)) = fds (cs.take i) + (cs[i]).2 := by
        rw [List.take_add_one, hc, fds_app]
        show _ + fds [cs[i]] = _
        rw [fds_one]
      generalize cs[i] = c at *
      have w1 : (c.1 < 1 ∨ 1000 < c.1) → gdue cs = .num "worth" c.1 := fun hw => by
        have e : badOf c = some (("worth" : Str), c.1) := if_pos hw
        rw [e] at hd
        exact gdue_bad h1 h4 (hb.symm.trans hd)
      refine ⟨_, rfl, _, _, _, _, rfl, rfl, SqT.of ht, rfl, _, _, rfl, rfl, _, rfl, ifD (fun h => ?_) (fun h2 => ?_)⟩
      · exact ⟨_, rfl, _, _, _, _, rfl, rfl, SqT.of ht, rfl, (by show 3 ≤ sizeLine; decide), fun z hz => out _ (w1 (.inl h)) z _ (same_upd hz) upd_same⟩
      refine ⟨_, rfl, _, _, _, _, rfl, rfl, SqT.of ht, rfl, _, _, rfl, rfl, _, rfl, ifD (fun h => ?_) (fun h3 => ?_)⟩
      · exact ⟨_, rfl, _, _, _, _, rfl, rfl, SqT.of ht, rfl, (by show 3 ≤ sizeLine; decide), fun z hz => out _ (w1 (.inr h)) z _ (same_upd hz) upd_same⟩
      refine ⟨_, rfl, _, _, _, _, rfl, rfl, SqT.of ht, rfl, _, _, rfl, rfl, _, rfl, ifD (fun h => ?_) (fun h5 => ?_)⟩
      · have e : badOf c = some (("many" : Str), c.2) := by unfold badOf; rw [if_neg (by omega), if_pos h]
        rw [e] at hd
        exact ⟨_, rfl, _, _, _, _, rfl, rfl, SqT.of ht, rfl, (by show 3 ≤ sizeLine; decide), fun z hz => out _ (gdue_bad h1 h4 (hb.symm.trans hd)) z _ (same_upd hz) upd_same⟩
      · have e : badOf c = none := by unfold badOf; rw [if_neg (by omega), if_neg h5]
        rw [e] at hd
        exact ⟨_, rfl, _, rfl, _, _, _, _, rfl, rfl, SqT.of ht, rfl, _, _, rfl, rfl, rfl, _, _, rfl, by rw [hf, hn], hd.symm.trans hb⟩
    · rintro σ H' ⟨rfl, n, o, rfl, hn, hb⟩
      rw [hlen, List.drop_length] at hb
      rw [hlen, List.take_length] at hn
      have ge := gdue_end h1 h4 hb.symm
      refine ⟨_, rfl, _, _, rfl, rfl, _, rfl, ifD (fun h => ?_) (fun h => ?_)⟩
      · rw [if_pos (by omega)] at ge
        exact ⟨(by show 3 ≤ sizeLine; decide), fun z hz => out _ ge z _ (same_upd hz) upd_same⟩
      · rw [if_neg (by omega)] at ge
        exact ⟨(by show 3 ≤ sizeLine; decide), fun z hz => out _ ge z _ (same_upd hz) upd_same⟩
def meM (r b c : Int) : Int := if (if c < r - b then c else r - b) > 1 then (if c < r - b then c else r - b) else 1
def meW (c : Int) : Int := if (if c < 1000 then c else 1000) > 1 then (if c < 1000 then c else 1000) else 1
theorem meM_ok {r b c : Int} (h : 1 ≤ r - b) : 1 ≤ meM r b c ∧ meM r b c ≤ r - b := by
  unfold meM
  split <;> (try split) <;> omega
theorem meW_ok (c : Int) : 1 ≤ meW c ∧ meW c ≤ 1000 := by
  unfold meW
  split <;> (try split) <;> omega
def spMe : Sp := fun vs H Q _ => ∃ (L : Addr) (cs : List Cls2), vs = [.ref L] ∧ LAt ClP H L cs ∧ cs.length ≤ 5 ∧ ∀ (z : Addr) (gs : List Cls2) (H' : Hp), Same H H' → H z = none → LAt ClP H' z gs → ClsV gs → Q (.ref z) H'
abbrev CalMe (P : Program) (w : World) (K : PySem.W.Frag) (mg : Str → Option Value) (base : Heap) := Cal P w K mg base 1 "_law_mended" ["_law_rows_here"] spMe
theorem ok_me (B : Blt mg) (D : Dfn K mg "_law_mended" "_law_mended" s_mended ["_law_rows_here"]) : CalMe P w K mg base := by
  refine D.cal sc_mended (fun vs H Q E h => ?_) (fun f cdv A outer st H vs Q E hr h => ?_)
  · obtain ⟨L, cs, rfl, _⟩ := h
    rfl
  · obtain ⟨L0, cs, rfl, ⟨vs, hL, pw⟩, l5, q⟩ := h
    have pw : PW (ClP H) vs cs := pw
    have hlen := pw.1
    refine ⟨_, (pss_cons (ps_set (i := 1) sc_mended.nd rfl (Or.inl rfl) (pe_slice sl_list (pv 0) po_none (po_some (pe_int))))
      (Evl.pss_cut (ps_if (pt_cmpR op_eq (pe_callB call_len_seq (by rfl) B.len PySem.boot_len (pa_cons (pv 1) pa_nil)) (pe_int) (nomark _)) (pss_one (ps_set (i := 1) sc_mended.nd rfl (Or.inl rfl) (pe_lst (pa_cons (pe_tup (pa_cons (pe_int) (pa_cons (pe_int) pa_nil))) pa_nil)))) pss_nil)
      (pss_cons (ps_set (i := 2) sc_mended.nd rfl (Or.inl rfl) (pe_lst pa_nil))
      (pss_cons (ps_set (i := 3) sc_mended.nd rfl (Or.inl rfl) (pe_int))
      (pss_cons (ps_for PassesOwn.never rfl (pi_range1 (by rfl) B.range (pa_cons (pe_callB call_len_seq (by rfl) B.len PySem.boot_len (pa_cons (pv 1) pa_nil)) pa_nil)) (pg_name (i := 4) sc_mended.nd rfl (Or.inl rfl)) (pss_cons (ps_set (i := 5) sc_mended.nd rfl (Or.inl rfl) (pe_op op_sub (pe_op op_sub (pe_callB call_len_seq (by rfl) B.len PySem.boot_len (pa_cons (pv 1) pa_nil)) (pe_int)) (pv 4)))
      (pss_cons (ps_set (i := 6) sc_mended.nd rfl (Or.inl rfl) (pe_callB (call_max2 rfl) (by rfl) B.max (by decide +kernel) (pa_cons (pe_int) (pa_cons (pe_callB (call_min2 rfl) (by rfl) B.min (by decide +kernel) (pa_cons (pe_callTy call_int1 (by rfl) B.int (by decide +kernel) (pa_cons (pe_op op_sub (pv 3) (pv 5)) pa_nil)) (pa_cons (pe_ix ix_tup (pe_ix ix_list (pv 1) (pv 4) (fun _ _ => rfl)) (pe_int) (fun _ _ => rfl)) pa_nil))) pa_nil))))
      (pss_cons (ps_set (i := 3) sc_mended.nd rfl (Or.inl rfl) (pe_op op_sub (pv 3) (pv 6)))
      (pss_one (ps_expr (pe_bm PySem.F.plainAttrs_list PySem.F.slot_list_append PySem.F.type_list_append mt_append (pv 2) (pa_cons (pe_tup (pa_cons (pe_callB (call_max2 rfl) (by rfl) B.max (by decide +kernel) (pa_cons (pe_int) (pa_cons (pe_callB (call_min2 rfl) (by rfl) B.min (by decide +kernel) (pa_cons (pe_int) (pa_cons (pe_ix ix_tup (pe_ix ix_list (pv 1) (pv 4) (fun _ _ => rfl)) (pe_int) (fun _ _ => rfl)) pa_nil))) pa_nil))) (pa_cons (pv 6) pa_nil))) pa_nil))))))))
      (pss_one (ps_ret (pv 2)))))))), ?_⟩
    refine ⟨_, rfl, ?_⟩
    dsimp only [tNoPart]
    refine ⟨_, rfl, _, _, rfl, SqL.of hL, fun N hN => ?_⟩
    have sN := same_upd (o := .lst (cutV vs none (some 4))) hN
    have ek : cutV vs none (some 4) = vs.take 4 := by
      unfold cutV
      rw [show (some (4 : Int)) = some ((4 : Nat) : Int) from rfl, HT.sIx_nat, HT.sIx_none, List.drop_zero, Nat.sub_zero]
      by_cases h : 4 ≤ vs.length
      · rw [Nat.min_eq_left h]
      · rw [Nat.min_eq_right (by omega), List.take_of_length_le (Nat.le_refl _), List.take_of_length_le (by omega)]
    rw [ek] at sN ⊢
    refine ⟨fun σ' H' => ∃ (N : Addr) (ks : List Cls2), σ' = [some (.ref L0), some (.ref N), none, none, none, none, none] ∧ Same H H' ∧ LAt ClP H' N ks ∧ 1 ≤ ks.length ∧ ks.length ≤ 4, ?_, ?_⟩
    · refine ⟨_, rfl, _, _, rfl, .inl (SqL.of upd_same), rfl, _, rfl, ?_⟩
      refine ifE (fun h => ?_) (fun h => ?_)
      · refine ⟨(by show 2 ≤ sizeLine; decide), fun t ht => ⟨(by show 1 ≤ sizeLine; decide), fun u hu => ?_⟩⟩
        exact ⟨u, [(1, 1)], rfl, sN.trans ((same_upd ht).trans (same_upd hu)), ⟨_, upd_same, pw_one ⟨t, rfl, same_upd hu _ _ upd_same⟩⟩, by decide, by decide⟩
      · have hk := pw_take (n := 4) (pw.mono sN)
        have hkl := hk.1
        rw [List.length_take] at hkl
        refine ⟨N, cs.take 4, rfl, sN, ⟨_, upd_same, hk⟩, ?_, ?_⟩
        · have h' : ¬ ((vs.take 4).length : Int) = 0 := h
          rw [List.length_take]
          rw [List.length_take] at h'
          omega
        · rw [List.length_take]
          omega
    rintro σ' H2 ⟨N, ks, rfl, s2, ⟨ws, hN2, pk⟩, k1, k4⟩
    have pk : PW (ClP H2) ws ks := pk
    have hkl := pk.1
    refine ⟨(by show 0 ≤ sizeLine; decide), fun G hG => ?_⟩
    have sG := same_upd (o := .lst []) hG
    have hGH : H G = none := s2.free hG
    refine ⟨_, rfl, _, _, rfl, .inl (SqL.of (sG _ _ hN2)), _, rfl, by omega, by omega, ?_⟩
    rw [hkl, Int.toNat_natCast]
    refine for_range (lo := 0) (n := ks.length) (fun i σ H' => ∃ (rm : Int) (o1 o2 o3 : Option V) (gs : List Cls2), σ = [some (.ref L0), some (.ref N), some (.ref G), some (.int rm), o1, o2, o3] ∧ Same H2 H' ∧ LAt ClP H' G gs ∧ gs.length = i ∧ rm = 12 - fds gs ∧ (ks.length : Int) - (i : Int) ≤ rm ∧ ∀ c, c ∈ gs → 1 ≤ c.1 ∧ c.1 ≤ 1000 ∧ 1 ≤ c.2) ⟨12, none, none, none, [], rfl, sG, ⟨[], upd_same, rfl, fun i y hy => by simp at hy⟩, rfl, rfl, by omega, fun c hc => nomatch hc⟩ ?_ ?_
    · rintro i σ H3 hi ⟨rm, o1, o2, o3, gs, rfl, s3, hA, hl, hrm, hge, hv⟩
      have hN3 := s3 _ _ hN2
      have hc : ks[i]? = some ks[i] := List.getElem?_eq_getElem hi
      obtain ⟨v, hv', t, rfl, ht⟩ := pk.2 i _ hc
      have ht3 := s3 _ _ ht
      generalize ks[i] = c at *
      have a1 : atI ws (0 + (i : Int)) = some (.ref t) := by
        rw [Int.zero_add]
        exact atI_nat hv'
      refine ⟨_, rfl, _, _, rfl, .inl (SqL.of hN3), _, _, rfl, rfl, _, rfl, _, _, rfl, rfl, ?_⟩
      refine ⟨_, rfl, _, rfl, _, _, rfl, rfl, .inl ⟨_, rfl, _, rfl, _, rfl, _, _, _, _, rfl, rfl, SqL.of hN3, a1, _, _, _, _, rfl, rfl, SqT.of ht3, rfl, _, _, rfl, _, _, rfl, ?_⟩⟩
      obtain ⟨m1, m2⟩ := meM_ok (r := rm) (b := (ws.length : Int) - 1 - (0 + (i : Int))) (c := c.2) (by omega)
      obtain ⟨us, hG3, hul, huat⟩ := id hA
      refine ⟨_, rfl, _, rfl, _, _, rfl, rfl, ?_⟩
      refine ⟨_, rfl, .inl ⟨rfl, _, SqL.of hG3⟩, _, rfl, _, rfl, _, _, _, _, rfl, rfl, SqL.of hN3, a1, _, _, _, _, rfl, rfl, SqT.of ht3, rfl, _, _, rfl, _, _, rfl, _, rfl, (by show 2 ≤ sizeLine; decide), fun u hu => ⟨G, _, _, rfl, rfl, same_upd hu _ _ hG3, small1000 (by omega), ?_⟩⟩
      obtain ⟨w1a, w1b⟩ := meW_ok c.1
      have su := same_upd (o := .tup [.int (meW c.1), .int (meM rm ((ws.length : Int) - 1 - (0 + (i : Int))) c.2)]) hu
      refine ⟨rm - meM rm ((ws.length : Int) - 1 - (0 + (i : Int))) c.2, _, _, _, gs ++ [(meW c.1, meM rm ((ws.length : Int) - 1 - (0 + (i : Int))) c.2)], rfl, same_late (s3.trans su) hG, cls_snoc (su _ _ hG3) (hA.same clP_mono su) ⟨u, rfl, upd_same⟩, by rw [List.length_append, hl]; rfl, ?_, by omega, fun x hx => ?_⟩
      · rw [fds_app, fds_one]
        show rm - meM rm ((ws.length : Int) - 1 - (0 + (i : Int))) c.2 = 12 - (fds gs + meM rm ((ws.length : Int) - 1 - (0 + (i : Int))) c.2)
        omega
      · rcases List.mem_append.mp hx with h | h
        · exact hv x h
        · rw [List.mem_singleton.mp h]
          exact ⟨w1a, w1b, m1⟩
    · rintro σ H3 ⟨rm, o1, o2, o3, gs, rfl, s3, hA, hl, hrm, hge, hv⟩
      exact ⟨_, rfl, q G gs H3 (s2.trans s3) hGH hA ⟨by omega, by omega, hv, by omega⟩⟩
end
end L

set_option Elab.async false
set_option linter.all false
set_option maxRecDepth 100000
set_option maxHeartbeats 4000000
set_option pp.maxSteps 160
set_option pp.deepTerms false
namespace L
open PySem PySem.Spec PyProof.Rows L2 Fl
local macro_rules | `(tactic| walk_at "side") => `(tactic| first | (exact .inl ⟨by omega, by omega⟩) | (exact .inr ⟨by omega, by omega⟩) | (exact .inr ⟨by decide, by decide⟩) | (show (_ : Int) ≠ _; omega) | (exact ⟨by omega, by decide⟩) | (exact ⟨by decide, by decide, by decide⟩))
local macro_rules | `(tactic| walk_at "go") => `(tactic| repeat (first | refine ⟨_, rfl, ?_⟩ | refine ⟨_, _, rfl, rfl, ?_⟩ | refine .inl ⟨_, rfl, ?_⟩ | refine ⟨rfl, ?_⟩ | refine ⟨(by walk_at "side"), ?_⟩))
local macro_rules | `(tactic| walk_at "see") => `(tactic| (set_option pp.maxSteps 110 in set_option pp.deepTerms false in trace_state))
local macro_rules | `(tactic| walk_at "if") => `(tactic| first | refine ifE ?_ ?_ | refine ifNE ?_ ?_ | refine ifD ?_ ?_ | refine ifN ?_ ?_ | refine ifB ?_ ?_)
section
variable {P : Program} {w : World} {K : PySem.W.Frag} {mg : Str → Option Value} {base : Heap}

def spSh (G : Addr) : Sp := fun vs H Q _ => ∃ (x L : Addr) (cs : List Cls2), vs = [.ref x, .ref L] ∧ GrAt G H x cs ∧ LAt ClP H L cs ∧ cs.length ≤ 900 ∧ ∀ H', Same H H' → Q (.bl true) H'
abbrev CalSh (P : Program) (w : World) (K : PySem.W.Frag) (mg : Str → Option Value) (base : Heap) (G : Addr) := Cal P w K mg base 2 "_law_shows" ["_law_ground_here", "_law_rows_here"] (spSh G)
theorem pair_ok {a b : Int} : SeqAt.shaped (.tuple [.int a, .int b]) = true := by
  simp [SeqAt.shaped, PyData.canLay0, PyData.canLayAll0, PyData.depth, PyData.depthAll]
theorem pair_dp {H : Hp} {z : Addr} {a b : Int} (h : H z = some (.tup [.int a, .int b])) : Dp K H (.ref z) (.tuple [.int a, .int b]) := .tup (SqT.of h) (.cons (.int _) (.cons (.int _) .nil))
theorem ok_sh {G : Addr} (B : Blt mg) (TG : GrC K mg G) (TX : GrX K mg G) (C_whole : CalWhole P w K mg base) (D : Dfn K mg "_law_shows" "_law_shows" s_shows ["_law_ground_here", "_law_rows_here"]) : CalSh P w K mg base G := by
  refine D.cal sc_shows (fun vs H Q E h => ?_) (fun f cdv A outer st H vs Q E hr h => ?_)
  · obtain ⟨x, L, cs, rfl, _⟩ := h
    rfl
  · obtain ⟨x, L, cs, rfl, ⟨dx, M, hx, hM⟩, hL, hsm, q⟩ := h
    obtain ⟨us, hM1, pm⟩ := mono3 hM
    obtain ⟨vs, hL1, pl⟩ := mono3 hL
    have lm := pm.1
    have ll := pl.1
    refine ⟨_, (pss_cons (ps_if (PW.pt (pw_or (pt_not (pt_val (pe_callB call_isi (by rfl) B.isinstance (by decide +kernel) (pa_cons (pv 0) (pa_cons (pe_glob (v := .ref _) (by rfl) TX.g rfl) pa_nil))))) (pw_or1 (pt_not (pt_val (pe_callB call_isi (by rfl) B.isinstance (by decide +kernel) (pa_cons (pe_fld (pv 0) rfl) (pa_cons (pe_bltn (v := .ty "list") (by rfl) B.list (by decide +kernel) rfl) pa_nil)))))))) (pss_one (ps_ret (pe_bl))) pss_nil)
      (pss_cons (ps_if (pt_cmpR op_ne (pe_callB call_len_seq (by rfl) B.len PySem.boot_len (pa_cons (pe_fld (pv 0) rfl) pa_nil)) (pe_callB call_len_seq (by rfl) B.len PySem.boot_len (pa_cons (pv 1) pa_nil)) (nomark _)) (pss_one (ps_ret (pe_bl))) pss_nil)
      (pss_cons (ps_set (i := 2) sc_shows.nd rfl (Or.inl rfl) (pe_int))
      (pss_cons (ps_for PassesOwn.never rfl (pi_list (pe_fld (pv 0) rfl)) (pg_tup rfl (pgs_cons (pg_name (i := 3) sc_shows.nd rfl (Or.inl rfl)) (pgs_cons (pg_name (i := 4) sc_shows.nd rfl (Or.inl rfl)) pgs_nil))) (pss_cons (ps_if (PW.pt (pw_or (pt_not (pt_val (pe_cal C_whole (hr.mono (by decide)) (pa_cons (pv 3) pa_nil)))) (pw_or (pt_not (pt_val (pe_cal C_whole (hr.mono (by decide)) (pa_cons (pv 4) pa_nil)))) (pw_or1 (pt_cmpR (op_neD hr.units) (pe_tup (pa_cons (pv 3) (pa_cons (pv 4) pa_nil))) (pe_ix ix_list (pv 1) (pv 2) (fun _ _ => rfl)) (nomark _)))))) (pss_one (ps_ret (pe_bl))) pss_nil)
      (pss_one (ps_set (i := 2) sc_shows.nd rfl (Or.inl rfl) (pe_op op_add (pv 2) (pe_int))))))
      (pss_one (ps_ret ((pe_and (pe_cal C_whole (hr.mono (by decide)) (pa_cons (pe_fld (pv 0) rfl) pa_nil)) (pe_one (pe_cmpR op_eq (pe_fld (pv 0) rfl) (pe_callB (cr_sum rfl) (by rfl) B.sum (by decide +kernel) (pa_cons (pe_lc (own := [("_law_row", 5)]) (g := gName 5) rfl sc_shows.nd (pi_list (pv 1)) (blkOk_by (N := ["_law_ground_here", "_law_rows_here", "_law_at", "_law_worth_here", "_law_many_here", "_law_row"]) (sc := defScope s_shows) (by decide +kernel)) (fun _ _ _ _ _ => pg_name (i := 5) sc_shows.nd rfl (Or.inl rfl)) (fun _ _ _ _ _ => pts_nil) (fun _ _ _ _ _ => (pe_ix (ix_tup_K (K := K) rfl) (pv 5) (pe_int) (fun _ _ => rfl)))) pa_nil)) (nomark _))))))))))), ?_⟩
    refine ⟨_, rfl, _, _, _, _, true, rfl, .own _, TX.tyX hx, kit_self _, _, rfl, iteF ?_⟩
    refine ⟨_, rfl, x, G, dx, _, _, rfl, hx, TG.cl, TG.nC, grf_classes _ _, _, _, _, _, true, rfl, .ty _, .base (.lst hM1), kit_ty (by decide +kernel), _, rfl, iteF ?_⟩
    refine ⟨_, rfl, x, G, dx, _, _, rfl, hx, TG.cl, TG.nC, grf_classes _ _, _, _, rfl, .inl (SqL.of hM1), _, rfl, _, _, rfl, .inl (SqL.of hL1), rfl, _, rfl, ifNE (fun h => absurd (by rw [lm, ll]) h) (fun _ => ?_)⟩
    refine ⟨_, rfl, x, G, dx, _, _, rfl, hx, TG.cl, TG.nC, grf_classes _ _, M, rfl, ⟨_, SqL.of hM1⟩, for_list (K := K) (a := M) (xs := us) (fun i σ H' => ∃ (o1 o2 : Option V), σ = [some (.ref x), some (.ref L), some (.int (i : Int)), o1, o2, none] ∧ Same H H') ⟨none, none, rfl, Same.refl _⟩ (fun i σ H' _ h => by obtain ⟨_, _, _, s⟩ := h; exact SqL.of (s _ _ hM1)) ?_ ?_⟩
    · rintro i y σ H1 hy ⟨o1, o2, rfl, s1⟩
      have hi : i < us.length := (List.getElem?_eq_some_iff.mp hy).1
      have hc : cs[i]? = some cs[i] := List.getElem?_eq_getElem (by omega)
      obtain ⟨v, hv, t, rfl, ht⟩ := pm.2 i _ hc
      obtain ⟨v2, hv2, t2, rfl, ht2⟩ := pl.2 i _ hc
      rw [hy] at hv
      cases hv
      generalize cs[i] = c at *
      have ht1 := s1 _ _ ht
      refine ⟨t, _, rfl, SqT.of ht1, rfl, _, _, rfl, _, _, rfl, rfl, ?_⟩
      refine ⟨_, rfl, _, rfl, _, rfl, iteF ?_⟩
      refine ⟨_, rfl, _, rfl, _, rfl, iteF ?_⟩
      refine ⟨_, rfl, _, rfl, (by show 2 ≤ sizeLine; decide), fun u hu => ?_⟩
      have su := same_upd (o := .tup [.int c.1, .int c.2]) hu
      refine ⟨_, rfl, _, rfl, _, _, _, _, rfl, rfl, SqL.of (su _ _ (s1 _ _ hL1)), atI_nat hv2, _, _, pair_dp upd_same, pair_dp (su _ _ (s1 _ _ ht2)), pair_ok, pair_ok, ?_⟩
      rw [SeqAt.eqv_refl _ (SeqAt.canLay_of_shaped pair_ok)]
      exact ⟨_, rfl, iteF ⟨_, rfl, _, _, rfl, rfl, _, _, rfl, s1.trans su⟩⟩
    rintro σ H1 ⟨o1, o2, rfl, s1⟩
    refine ⟨_, rfl, x, G, dx, _, _, rfl, s1 _ _ hx, TG.cl, TG.nF, grf_fields _ _, _, rfl, _, rfl, iteT ?_⟩
    refine ⟨_, rfl, x, G, dx, _, _, rfl, s1 _ _ hx, TG.cl, TG.nF, grf_fields _ _, ?_⟩
    refine ⟨_, rfl, L, rfl, ⟨_, SqL.of (s1 _ _ hL1)⟩, fun D hD => lc_list (K := K) (a := L) (xs := vs) (fun j H' => Same H1 H' ∧ H' D = some (.lst (((cs.take j).map (fun c => c.2)).map V.int))) ⟨same_upd hD, upd_same⟩ (fun i H' _ h => SqL.of (h.1 _ _ (s1 _ _ hL1))) ?_ ?_⟩
    · rintro j y H2 hy ⟨s2, hD2⟩
      have hj : j < vs.length := (List.getElem?_eq_some_iff.mp hy).1
      have hcj : cs[j]? = some cs[j] := List.getElem?_eq_getElem (by omega)
      obtain ⟨v, hv, t, rfl, ht⟩ := pl.2 j _ hcj
      rw [hy] at hv
      cases hv
      refine ⟨rfl, _, rfl, _, _, _, _, rfl, rfl, SqT.of (s2 _ _ (s1 _ _ ht)), rfl, _, hD2, ?_, same_late s2 hD, ?_⟩
      · rw [List.length_map, List.length_map, List.length_take]
        exact small1000 (by omega)
      · rw [upd_same, List.take_add_one, hcj, List.map_append, List.map_append]
        rfl
    rintro H2 ⟨s2, hD2⟩
    rw [List.take_of_length_le (by omega)] at hD2
    refine ⟨_, _, rfl, SqL.of hD2, rfl, ?_⟩
    rw [show (cs.map (fun c => c.2)).sum = fds cs from rfl, decide_eq_true rfl]
    exact q H2 (s1.trans s2)
def spDraw1 : Sp := fun vs H Q _ => ∃ (p : Pla), vs = [.ref p, .int 1] ∧ Q (.int 0) H
abbrev CalDraw1 (P : Program) (w : World) (K : PySem.W.Frag) (mg : Str → Option Value) (base : Heap) := Cal P w K mg base 2 "_law_draw" ["_law_pool_here", "_law_many_here"] spDraw1
theorem ok_draw1 (B : Blt mg) (D : Dfn K mg "_law_draw" "_law_draw" s_draw ["_law_pool_here", "_law_many_here"]) (C_mix : CalMix P w K mg base) : CalDraw1 P w K mg base := by
  refine D.cal sc_draw (fun vs H Q E h => ?_) (fun f cdv A outer st H vs Q E hr h => ?_)
  · obtain ⟨p, rfl, _⟩ := h
    rfl
  · obtain ⟨p, rfl, q⟩ := h
    refine ⟨_, (pss_cons (ps_if (PW.pt (pw_or (pt_cmpR op_lt (pv 1) (pe_int) (nomark _)) (pw_or1 (pt_cmpR op_eq (pe_callB call_len_seq (by rfl) B.len PySem.boot_len (pa_cons (pe_ix ix_list (pv 0) (pe_int) (fun _ _ => rfl)) pa_nil)) (pe_int) (nomark _))))) (pss_one (ps_ret (pe_int))) pss_nil)
      (pss_cons (ps_asg (pe_op op_add (pe_ix ix_list (pv 0) (pe_int) (fun _ _ => rfl)) (pe_int)) (pg_sub (pv 0) (pe_int) set_list))
      (pss_cons (ps_for PassesOwn.never rfl (pi_range1 (by rfl) B.range (pa_cons (pe_int) pa_nil)) (pg_name (i := 2) sc_draw.nd rfl (Or.inl rfl)) (pss_cons (ps_if (pt_cmpR op_gt (pe_ix ix_list (pv 0) (pe_int) (fun _ _ => rfl)) (pe_int) (nomark _)) (pss_cons (ps_set (i := 3) sc_draw.nd rfl (Or.inl rfl) (pe_op op_modN (pe_callTy call_int1 (by rfl) B.int (by decide +kernel) (pa_cons (pe_ix ix_list (pv 0) (pe_int) (fun _ _ => rfl)) pa_nil)) (pv 1)))
      (pss_cons (ps_asg (pe_op op_fdivA (pe_ix ix_list (pv 0) (pe_int) (fun _ _ => rfl)) (pv 1)) (pg_sub (pv 0) (pe_int) set_list))
      (pss_one (ps_ret (pv 3))))) pss_nil)
      (pss_cons (ps_if (pt_cmpR op_ge (pe_ix ix_list (pv 0) (pe_int) (fun _ _ => rfl)) (pe_callB call_len_seq (by rfl) B.len PySem.boot_len (pa_cons (pe_ix ix_list (pv 0) (pe_int) (fun _ _ => rfl)) pa_nil)) (nomark _)) (pss_one (ps_ret (pe_cal C_mix (hr.mono (by decide)) (pa_cons (pe_ix ix_list (pv 0) (pe_int) (fun _ _ => rfl)) (pa_cons (pe_ix ix_list (pv 0) (pe_int) (fun _ _ => rfl)) (pa_cons (pv 1) pa_nil)))))) pss_nil)
      (pss_cons (ps_set (i := 4) sc_draw.nd rfl (Or.inl rfl) (pe_ix ix_list (pe_ix ix_list (pv 0) (pe_int) (fun _ _ => rfl)) (pe_ix ix_list (pv 0) (pe_int) (fun _ _ => rfl)) (fun _ _ => rfl)))
      (pss_cons (ps_asg (pe_op op_add (pe_ix ix_list (pv 0) (pe_int) (fun _ _ => rfl)) (pe_int)) (pg_sub (pv 0) (pe_int) set_list))
      (pss_cons (ps_asg (pe_op op_modN (pe_callTy call_int1 (by rfl) B.int (by decide +kernel) (pa_cons (pe_op op_add (pe_op op_add (pe_op op_mul (pe_ix ix_list (pv 0) (pe_int) (fun _ _ => rfl)) (pe_int)) (pe_op op_mul (pv 4) (pe_int))) (pe_int)) pa_nil)) (pe_int)) (pg_sub (pv 0) (pe_int) set_list))
      (pss_cons (ps_if (pt_cmpR op_lt (pv 4) (pe_op op_pow (pe_int) (pe_int)) (nomark _)) (pss_one (ps_ret (pe_cal C_mix (hr.mono (by decide)) (pa_cons (pe_ix ix_list (pv 0) (pe_int) (fun _ _ => rfl)) (pa_cons (pe_ix ix_list (pv 0) (pe_int) (fun _ _ => rfl)) (pa_cons (pv 1) pa_nil)))))) pss_nil)
      (pss_one (ps_asg (pe_op op_sub (pv 4) (pe_op op_pow (pe_int) (pe_int))) (pg_sub (pv 0) (pe_int) set_list))))))))))
      (pss_one (ps_ret (pe_cal C_mix (hr.mono (by decide)) (pa_cons (pe_ix ix_list (pv 0) (pe_int) (fun _ _ => rfl)) (pa_cons (pe_ix ix_list (pv 0) (pe_int) (fun _ _ => rfl)) (pa_cons (pv 1) pa_nil))))))))), ?_⟩
    exact ⟨_, rfl, _, _, rfl, rfl, _, rfl, itT (by decide) q⟩

/-- a list of classes that is not the list O itself -/
def OtP (O : Addr) (H : Hp) (v : V) (ds : List Cls2) : Prop := ∃ L, v = .ref L ∧ L ≠ O ∧ LAt ClP H L ds
theorem otP_mono (O : Addr) : Mono (OtP O) := fun H H' v x s h => by
  obtain ⟨L, e, n, h⟩ := h
  exact ⟨L, e, n, h.same clP_mono s⟩
theorem otP_upd {O : Addr} {H : Hp} {xs ys : List V} {v : V} {ds : List Cls2} (h : OtP O H v ds) (hO : H O = some (.lst xs)) : OtP O (upd H O (.lst ys)) v ds := by
  obtain ⟨L, e, n, vs, h1, h2, h3⟩ := h
  refine ⟨L, e, n, vs, by rw [upd_ne n]; exact h1, h2, fun i c hc => ?_⟩
  obtain ⟨v, hv, r⟩ := h3 i c hc
  exact ⟨v, hv, clP_lst r hO⟩
theorem ot_push {O : Addr} {H : Hp} {acc : List V} {dss : List (List Cls2)} {L : Addr} {ds : List Cls2} (hO : H O = some (.lst acc)) (h : LAt (OtP O) H O dss) (n : L ≠ O) (hL : LAt ClP H L ds) : LAt (OtP O) (upd H O (.lst (acc ++ [.ref L]))) O (dss ++ [ds]) := by
  obtain ⟨us, h1, h2, h3⟩ := h
  rw [hO] at h1
  cases h1
  refine ⟨acc ++ [.ref L], upd_same, by rw [List.length_append, List.length_append, h2]; rfl, fun i y hy => ?_⟩
  by_cases hi : i < dss.length
  · rw [List.getElem?_append_left hi] at hy
    obtain ⟨v, hv, r⟩ := h3 i y hy
    exact ⟨v, by rw [List.getElem?_append_left (by omega)]; exact hv, otP_upd r hO⟩
  · rw [List.getElem?_append_right (by omega)] at hy
    have e : i = dss.length := by
      rcases Nat.lt_or_ge (i - dss.length) 1 with h2 | h2
      · omega
      · rw [List.getElem?_eq_none (by simpa using h2)] at hy
        cases hy
    subst e
    rw [Nat.sub_self] at hy
    cases hy
    exact ⟨.ref L, by rw [List.getElem?_append_right (by omega), h2, Nat.sub_self]; rfl, otP_upd ⟨L, rfl, n, hL⟩ hO⟩
theorem rep_ne {cs : List Cls2} {i : Nat} {c d : Cls2} (hc : cs[i]? = some c) (h : d ≠ c) : cs.take i ++ [d] ++ cs.drop (i + 1) ≠ cs := fun e => by
  have hi : i < cs.length := (List.getElem?_eq_some_iff.mp hc).1
  have h2 : (cs.take i ++ [d] ++ cs.drop (i + 1))[i]? = some d := by
    rw [List.append_assoc, List.getElem?_append_right (by rw [List.length_take]; omega), List.length_take, Nat.min_eq_left (by omega), Nat.sub_self]
    rfl
  rw [e, hc] at h2
  cases h2
  exact h rfl
theorem rep_ok {cs : List Cls2} {i : Nat} {c : Cls2} {a b : Int} (ok : ClsV cs) (hc : cs[i]? = some c) (h0 : 1 ≤ a) (h0' : a ≤ 1000) (h1 : 1 ≤ b) (h2 : fds cs - c.2 + b ≤ 12) : ClsV (cs.take i ++ [(a, b)] ++ cs.drop (i + 1)) := by
  have hi : i < cs.length := (List.getElem?_eq_some_iff.mp hc).1
  have hl : (cs.take i ++ [(a, b)] ++ cs.drop (i + 1)).length = cs.length := by
    rw [List.length_append, List.length_append, List.length_take, List.length_drop]
    show min i cs.length + 1 + (cs.length - (i + 1)) = _
    omega
  have e : fds cs = fds (cs.take i) + c.2 + fds (cs.drop (i + 1)) := by
    have := congrArg fds (split_at hc)
    rw [fds_app, fds_app, fds_one] at this
    exact this
  refine ⟨by rw [hl]; exact ok.l1, by rw [hl]; exact ok.l4, fun x hx => ?_, ?_⟩
  · rcases List.mem_append.mp hx with h | h
    · rcases List.mem_append.mp h with h | h
      · exact ok.at_ x (List.mem_of_mem_take h)
      · rw [List.mem_singleton.mp h]
        exact ⟨h0, h0', h1⟩
    · exact ok.at_ x (List.mem_of_mem_drop h)
  · rw [fds_app, fds_app, fds_one]
    show fds (cs.take i) + b + fds (cs.drop (i + 1)) ≤ 12
    omega
end
end L

set_option Elab.async false
set_option linter.all false
set_option maxRecDepth 100000
set_option maxHeartbeats 4000000
set_option pp.maxSteps 160
set_option pp.deepTerms false
namespace L
open PySem PySem.Spec PyProof.Rows L2 Fl
local macro_rules | `(tactic| walk_at "side") => `(tactic| first | (exact .inl ⟨by omega, by omega⟩) | (exact .inr ⟨by omega, by omega⟩) | (exact .inr ⟨by decide, by decide⟩) | (show (_ : Int) ≠ _; omega) | (exact ⟨by omega, by decide⟩) | (exact ⟨by decide, by decide, by decide⟩))
local macro_rules | `(tactic| walk_at "go") => `(tactic| repeat (first | refine ⟨_, rfl, ?_⟩ | refine ⟨_, _, rfl, rfl, ?_⟩ | refine .inl ⟨_, rfl, ?_⟩ | refine ⟨rfl, ?_⟩ | refine ⟨(by walk_at "side"), ?_⟩))
local macro_rules | `(tactic| walk_at "see") => `(tactic| (set_option pp.maxSteps 110 in set_option pp.deepTerms false in trace_state))
local macro_rules | `(tactic| walk_at "if") => `(tactic| first | refine ifE ?_ ?_ | refine ifNE ?_ ?_ | refine ifD ?_ ?_ | refine ifN ?_ ?_ | refine ifB ?_ ?_)
section
variable {P : Program} {w : World} {K : PySem.W.Frag} {mg : Str → Option Value} {base : Heap}

theorem turn_ne {x : Int} (h1 : 1 ≤ x) (h2 : x ≤ 1000) : x.fmod 1000 + 1 ≠ x := by
  rw [Int.fmod_eq_emod_of_nonneg _ (by decide)]
  omega
theorem cut_last {vs : List V} : cutV vs none (some (-1)) = vs.take (vs.length - 1) := by
  unfold cutV
  rw [HT.sIx_none, List.drop_zero, Nat.sub_zero]
  congr 1
  show (if (-1 : Int) < 0 then (-1 + (vs.length : Int)).toNat else min (-1 : Int).toNat vs.length) = _
  rw [if_pos (by decide)]
  omega
theorem ClsV.rev {cs : List Cls2} (h : ClsV cs) : ClsV cs.reverse := ⟨by rw [List.length_reverse]; exact h.l1, by rw [List.length_reverse]; exact h.l4, fun c hc => h.at_ c (List.mem_reverse.mp hc), by rw [fds_rev]; exact h.sm⟩
theorem ClsV.init {cs : List Cls2} (h : ClsV cs) (l : 2 ≤ cs.length) : ClsV (cs.take (cs.length - 1)) := by
  have hl : (cs.take (cs.length - 1)).length = cs.length - 1 := by rw [List.length_take]; omega
  have h4 := h.l4
  refine ⟨by omega, by omega, fun c hc => h.at_ c (List.mem_of_mem_take hc), ?_⟩
  have e : fds cs = fds (cs.take (cs.length - 1)) + fds (cs.drop (cs.length - 1)) := by
    have := congrArg fds (List.take_append_drop (cs.length - 1) cs)
    rw [fds_app] at this
    exact this.symm
  have h0 := (le_fds (cs := cs.drop (cs.length - 1)) fun c hc => (h.at_ c (List.mem_of_mem_drop hc)).2.2).1
  have := h.sm
  omega
theorem ClsV.snoc {cs : List Cls2} {a : Int} (h : ClsV cs) (l : cs.length < 4) (h0 : 1 ≤ a) (h1 : a ≤ 1000) (s : fds cs < 12) : ClsV (cs ++ [(a, 1)]) := by
  refine ⟨by rw [List.length_append]; show 1 ≤ _ + 1; omega, by rw [List.length_append]; show _ + 1 ≤ 4; omega, fun c hc => ?_, ?_⟩
  · rcases List.mem_append.mp hc with q | q
    · exact h.at_ c q
    · rw [List.mem_singleton.mp q]
      exact ⟨h0, h1, Int.le_refl _⟩
  · rw [fds_app, fds_one]
    show fds cs + 1 ≤ 12
    omega
def spOth : Sp := fun vs H Q _ => ∃ (p : Pla) (L : Addr) (cs : List Cls2), vs = [.ref p, .ref L] ∧ Pool H p ∧ L ≠ p ∧ LAt ClP H L cs ∧ ClsV cs ∧ ∀ (O : Addr) (dss : List (List Cls2)) (H' : Hp), Pool H' p → Keeps H H' p → O ≠ p → LAt (OtP O) H' O dss → (∀ ds, ds ∈ dss → ClsV ds ∧ ds ≠ cs) → Q (.ref O) H'
abbrev CalOth (P : Program) (w : World) (K : PySem.W.Frag) (mg : Str → Option Value) (base : Heap) := Cal P w K mg base 3 "_law_others" ["_law_pool_here", "_law_good"] spOth
theorem ok_oth (B : Blt mg) (C_draw : CalDraw P w K mg base) (C_draw1 : CalDraw1 P w K mg base) (D : Dfn K mg "_law_others" "_law_others" s_others ["_law_pool_here", "_law_good"]) : CalOth P w K mg base := by
  refine D.cal sc_others (fun vs H Q E h => ?_) (fun f cdv A outer st H vs Q E hr h => ?_)
  · obtain ⟨p, L, cs, rfl, _⟩ := h
    rfl
  · obtain ⟨p, L, cs, rfl, hP, pL, hL, ok, q⟩ := h
    have l1 := ok.l1
    have l4 := ok.l4
    refine ⟨_, (Evl.pss_cut (ps_set (i := 2) sc_others.nd rfl (Or.inl rfl) (pe_or (pe_cal C_draw (hr.mono (by decide)) (pa_cons (pv 0) (pa_cons (pe_callB call_len_seq (by rfl) B.len PySem.boot_len (pa_cons (pv 1) pa_nil)) pa_nil))) (pe_cal C_draw1 (hr.mono (by decide)) (pa_cons (pv 0) (pa_cons (pe_callB call_len_seq (by rfl) B.len PySem.boot_len (pa_cons (pv 1) pa_nil)) pa_nil)))))
      (pss_cons (ps_set (i := 3) sc_others.nd rfl (Or.inl rfl) (pe_ix ix_tup (pe_ix ix_list (pv 1) (pv 2) (fun _ _ => rfl)) (pe_int) (fun _ _ => rfl)))
      (pss_cons (ps_set (i := 4) sc_others.nd rfl (Or.inl rfl) (pe_ix ix_tup (pe_ix ix_list (pv 1) (pv 2) (fun _ _ => rfl)) (pe_int) (fun _ _ => rfl)))
      (pss_cons (ps_set (i := 5) sc_others.nd rfl (Or.inl rfl) (pe_callB (cr_sum rfl) (by rfl) B.sum (by decide +kernel) (pa_cons (pe_lc (own := [("_law_row", 6)]) (g := gName 6) rfl sc_others.nd (pi_list (pv 1)) (blkOk_by (N := ["_law_pool_here", "_law_good", "_law_at", "_law_worth_here", "_law_many_here", "_law_fields", "_law_row", "_law_others_here"]) (sc := defScope s_others) (by decide +kernel)) (fun _ _ _ _ _ => pg_name (i := 6) sc_others.nd rfl (Or.inl rfl)) (fun _ _ _ _ _ => pts_nil) (fun _ _ _ _ _ => (pe_ix (ix_tup_K (K := K) rfl) (pv 6) (pe_int) (fun _ _ => rfl)))) pa_nil)))
      (pss_cons (ps_set (i := 7) sc_others.nd rfl (Or.inl rfl) (pe_lst (pa_cons (pe_op op_cat (pe_op op_cat (pe_slice sl_list (pv 1) po_none (po_some (pv 2))) (pe_lst (pa_cons (pe_tup (pa_cons (pe_op op_add (pe_op op_modN (pe_callTy call_int1 (by rfl) B.int (by decide +kernel) (pa_cons (pv 3) pa_nil)) (pe_int)) (pe_int)) (pa_cons (pv 4) pa_nil))) pa_nil))) (pe_slice sl_list (pv 1) (po_some (pe_op op_add (pv 2) (pe_int))) po_none)) pa_nil)))
      (Evl.pss_cut (ps_if (pt_cmpR op_gt (pv 4) (pe_int) (nomark _)) (pss_one (ps_expr (pe_bm PySem.F.plainAttrs_list PySem.F.slot_list_append PySem.F.type_list_append mt_append (pv 7) (pa_cons (pe_op op_cat (pe_op op_cat (pe_slice sl_list (pv 1) po_none (po_some (pv 2))) (pe_lst (pa_cons (pe_tup (pa_cons (pv 3) (pa_cons (pe_op op_sub (pv 4) (pe_int)) pa_nil))) pa_nil))) (pe_slice sl_list (pv 1) (po_some (pe_op op_add (pv 2) (pe_int))) po_none)) pa_nil)))) pss_nil)
      (Evl.pss_cut (ps_if (pt_cmpR op_lt (pv 5) (pe_int) (nomark _)) (pss_one (ps_expr (pe_bm PySem.F.plainAttrs_list PySem.F.slot_list_append PySem.F.type_list_append mt_append (pv 7) (pa_cons (pe_op op_cat (pe_op op_cat (pe_slice sl_list (pv 1) po_none (po_some (pv 2))) (pe_lst (pa_cons (pe_tup (pa_cons (pv 3) (pa_cons (pe_op op_add (pv 4) (pe_int)) pa_nil))) pa_nil))) (pe_slice sl_list (pv 1) (po_some (pe_op op_add (pv 2) (pe_int))) po_none)) pa_nil)))) pss_nil)
      (Evl.pss_cut (ps_if (PW.pt (pw_and (pt_cmpR op_lt (pv 5) (pe_int) (nomark _)) (pw_and1 (pt_cmpR op_lt (pe_callB call_len_seq (by rfl) B.len PySem.boot_len (pa_cons (pv 1) pa_nil)) (pe_int) (nomark _))))) (pss_one (ps_expr (pe_bm PySem.F.plainAttrs_list PySem.F.slot_list_append PySem.F.type_list_append mt_append (pv 7) (pa_cons (pe_op op_cat (pv 1) (pe_lst (pa_cons (pe_tup (pa_cons (pv 3) (pa_cons (pe_int) pa_nil))) pa_nil))) pa_nil)))) pss_nil)
      (Evl.pss_cut (ps_if (pt_cmpR op_gt (pe_callB call_len_seq (by rfl) B.len PySem.boot_len (pa_cons (pv 1) pa_nil)) (pe_int) (nomark _)) (pss_one (ps_expr (pe_bm PySem.F.plainAttrs_list PySem.F.slot_list_append PySem.F.type_list_append mt_append (pv 7) (pa_cons (pe_slice sl_list (pv 1) po_none (po_some (pe_un un_neg (pe_int)))) pa_nil)))) pss_nil)
      (Evl.pss_cut (ps_if (pt_cmpR (op_neD hr.units) (pe_revL (pv 1)) (pv 1) (nomark _)) (pss_one (ps_expr (pe_bm PySem.F.plainAttrs_list PySem.F.slot_list_append PySem.F.type_list_append mt_append (pv 7) (pa_cons (pe_revL (pv 1)) pa_nil)))) pss_nil)
      (pss_one (ps_ret (pv 7))))))))))))), ?_⟩
    refine ⟨fun σ' H' => ∃ i : Nat, σ' = [some (.ref (p : Addr)), some (.ref L), some (.int (i : Int)), none, none, none, none, none] ∧ i < cs.length ∧ Pool H' p ∧ Keeps H H' p, ?_, ?_⟩
    · obtain ⟨vs, hL1, hlen, _⟩ := id hL
      rcases (by omega : cs.length = 1 ∨ 2 ≤ cs.length) with h0 | h0
      · refine .inr ⟨_, rfl, _, rfl, _, _, rfl, .inl (SqL.of hL1), p, ?_, 0, rfl, by omega, hP, Keeps.refl _ _⟩
        rw [hlen, h0]
        rfl
      · refine .inl ⟨_, rfl, _, rfl, _, _, rfl, .inl (SqL.of hL1), p, _, rfl, hP, by omega, by omega, fun r H6 r0 r1 hP6 k6 => ?_⟩
        obtain ⟨i, rfl⟩ : ∃ i : Nat, r = (i : Int) := ⟨r.toNat, by omega⟩
        exact ⟨i, rfl, by omega, hP6, k6⟩
    rintro σ' H3 ⟨i, rfl, hi, hP3, k3⟩
    have hL := lat_keep hL hP pL k3
    obtain ⟨vs, hL3, pw⟩ := mono3 hL
    have hlen := pw.1
    have hc : cs[i]? = some cs[i] := List.getElem?_eq_getElem hi
    obtain ⟨v, hv, t0, rfl, ht0⟩ := pw.2 i _ hc
    obtain ⟨b1, b2, b3⟩ := ok.at_ _ (List.mem_of_getElem? hc)
    generalize cs[i] = c at *
    have a1 : atI vs (i : Int) = some (.ref t0) := atI_nat hv
    refine ⟨_, rfl, _, rfl, _, _, _, _, rfl, rfl, SqL.of hL3, a1, _, _, _, _, rfl, rfl, SqT.of ht0, rfl, ?_⟩
    refine ⟨_, rfl, _, rfl, _, _, _, _, rfl, rfl, SqL.of hL3, a1, _, _, _, _, rfl, rfl, SqT.of ht0, rfl, ?_⟩
    refine ⟨_, rfl, L, rfl, ⟨_, SqL.of hL3⟩, fun D hD => lc_list (K := K) (a := L) (xs := vs) (fun j H' => Same H3 H' ∧ H' D = some (.lst (((cs.take j).map (fun c => c.2)).map V.int))) ⟨same_upd hD, upd_same⟩ (fun i H' _ h => SqL.of (h.1 _ _ hL3)) ?_ ?_⟩
    · rintro j x H' hx ⟨s1, hD1⟩
      have hj : j < vs.length := (List.getElem?_eq_some_iff.mp hx).1
      have hcj : cs[j]? = some cs[j] := List.getElem?_eq_getElem (by omega)
      obtain ⟨v, hv, t, rfl, ht⟩ := pw.2 j _ hcj
      rw [hx] at hv
      cases hv
      refine ⟨rfl, _, rfl, _, _, _, _, rfl, rfl, SqT.of (s1 _ _ ht), rfl, _, hD1, ?_, same_late s1 hD, ?_⟩
      · rw [List.length_map, List.length_map, List.length_take]
        exact small1000 (by omega)
      · rw [upd_same, List.take_add_one, hcj, List.map_append, List.map_append]
        rfl
    rintro H4 ⟨s4, hD4⟩
    rw [List.take_of_length_le (by omega)] at hD4
    have hL4 := s4 _ _ hL3
    have pw4 : PW (ClP H4) vs cs := pw.mono s4
    refine ⟨_, _, rfl, SqL.of hD4, ?_⟩
    refine ⟨_, rfl, _, rfl, _, rfl, _, _, rfl, SqL.of hL4, fun p1 hp1 => ?_⟩
    have t1 := same_upd (o := .lst (cutV vs none (some (i : Int)))) hp1
    refine ⟨_, rfl, .inl ⟨_, rfl, ?_⟩⟩
    refine ⟨_, _, rfl, rfl, (by show (1000 : Int) ≠ 0; decide), _, _, rfl, rfl, _, rfl, (by show 2 ≤ sizeLine; decide), fun t ht => ⟨(by show 1 ≤ sizeLine; decide), fun p2 hp2 => ?_⟩⟩
    have t2 := same_upd (o := .tup [.int (c.1.fmod 1000 + 1), .int (c.2)]) ht
    have t3 := same_upd (o := .lst [.ref t]) hp2
    refine ⟨p1, p2, _, _, rfl, rfl, t3 _ _ (t2 _ _ upd_same), upd_same, ?_, fun p3 hp3 => ?_⟩
    · exact Nat.le_of_lt (small1000 (by have := cutV_length vs none (some (i : Int)); show (cutV vs none (some (i : Int))).length + 1 ≤ 1000; omega))
    have t4 := same_upd (o := .lst (cutV vs none (some (i : Int)) ++ [.ref t])) hp3
    have ss := (t1.trans t2).trans (t3.trans t4)
    refine ⟨_, rfl, _, rfl, _, _, rfl, rfl, _, rfl, ?_⟩
    dsimp only [tNoPart]
    refine ⟨_, _, rfl, SqL.of (ss _ _ hL4), fun p4 hp4 => ?_⟩
    have t5 := same_upd (o := .lst (cutV vs (some ((i : Int) + 1)) none)) hp4
    refine ⟨p3, p4, _, _, rfl, rfl, t5 _ _ upd_same, upd_same, ?_, fun p5 hp5 => ?_⟩
    · exact Nat.le_of_lt (small1000 (by have h1 := cutV_length vs none (some (i : Int)); have h2 := cutV_length vs (some ((i : Int) + 1)) none; rw [List.length_append]; show (cutV vs none (some (i : Int))).length + 1 + _ ≤ 1000; omega))
    have t6 := same_upd (o := .lst (cutV vs none (some (i : Int)) ++ [.ref t] ++ cutV vs (some ((i : Int) + 1)) none)) hp5
    have up := (ss.trans t5).trans t6
    have upt := ((t3.trans t4).trans t5).trans t6
    have fin : ∀ Hf : Hp, Same H4 Hf → Hf t = some (.tup [.int (c.1.fmod 1000 + 1), .int (c.2)]) → Hf p5 = some (.lst (cutV vs none (some (i : Int)) ++ [.ref t] ++ cutV vs (some ((i : Int) + 1)) none)) → LAt ClP Hf p5 (cs.take i ++ [(c.1.fmod 1000 + 1, c.2)] ++ cs.drop (i + 1)) := fun Hf u ht h5 => by
      rw [cut_l (by omega), cut_r (by omega)] at h5
      exact ⟨_, h5, pw_app (pw_app (pw_take (pw4.mono u)) (pw_one ⟨t, rfl, ht⟩)) (pw_drop (pw4.mono u))⟩
    have lat := fin _ up (upt _ _ upd_same) upd_same

    refine ⟨(by show 1 ≤ sizeLine; decide), fun O hO => ?_⟩
    have hOb := hO
    have sO := same_upd (o := .lst [.ref p5]) hO
    have pO : O ≠ p := ((hP3.same (s4.trans up)).apart hO).1
    have p5O : p5 ≠ O := ne_of_none upd_same hO
    have hA0 : LAt (OtP O) (upd (upd (upd (upd (upd (upd (upd H4 p1 (.lst (cutV vs none (some (i : Int))))) t (.tup [.int (c.1.fmod 1000 + 1), .int c.2])) p2 (.lst [.ref t])) p3 (.lst (cutV vs none (some (i : Int)) ++ [.ref t]))) p4 (.lst (cutV vs (some ((i : Int) + 1)) none))) p5 (.lst (cutV vs none (some (i : Int)) ++ [.ref t] ++ cutV vs (some ((i : Int) + 1)) none))) O (.lst [.ref p5])) O [cs.take i ++ [(c.1.fmod 1000 + 1, c.2)] ++ cs.drop (i + 1)] := by
      refine ⟨[.ref p5], upd_same, rfl, fun j y hy => ?_⟩
      cases j with
      | zero =>
        cases hy
        exact ⟨_, rfl, p5, rfl, p5O, lat.same clP_mono sO⟩
      | succ j => simp at hy
    have hLb := up _ _ hL4
    have pwb := pw4.mono up
    have sb := s4.trans up
    generalize upd (upd (upd (upd (upd (upd H4 p1 (.lst (cutV vs none (some (i : Int))))) t (.tup [.int (c.1.fmod 1000 + 1), .int c.2])) p2 (.lst [.ref t])) p3 (.lst (cutV vs none (some (i : Int)) ++ [.ref t]))) p4 (.lst (cutV vs (some ((i : Int) + 1)) none))) p5 (.lst (cutV vs none (some (i : Int)) ++ [.ref t] ++ cutV vs (some ((i : Int) + 1)) none)) = Hb at *
    have fm1 := fm c.1 (show (0 : Int) < 1000 by decide)
    have fe : (cs.map (fun c => c.2)).sum = fds cs := rfl
    have smm := ok.sm
    have first : ∀ ds, ds ∈ [cs.take i ++ [(c.1.fmod 1000 + 1, c.2)] ++ cs.drop (i + 1)] → ClsV ds ∧ ds ≠ cs := fun ds h => by
      rw [List.mem_singleton.mp h]
      exact ⟨rep_ok ok hc (by omega) (by omega) b3 (by omega), rep_ne hc (fun e => turn_ne b1 b2 (congrArg (fun x : Cls2 => x.1) e))⟩
    refine ⟨fun σ' H' => ∃ (dss : List (List Cls2)), σ' = [some (.ref (p : Addr)), some (.ref L), some (.int (i : Int)), some (.int c.1), some (.int c.2), some (.int (fds cs)), none, some (.ref O)] ∧ Same Hb H' ∧ LAt (OtP O) H' O dss ∧ dss.length ≤ 2 ∧ ∀ ds, ds ∈ dss → ClsV ds ∧ ds ≠ cs, ?_, ?_⟩
    · refine ⟨_, rfl, _, _, rfl, rfl, _, rfl, ifD (fun hm => ?_) (fun hm => ⟨_, rfl, sO, hA0, (by show 1 ≤ 2; decide), first⟩)⟩
      have sk := sO
      have hA := hA0
      have hds := first
      have hLk := sk _ _ hLb
      have pwk := pwb.mono sk
      obtain ⟨acc, hOv, hacc, _⟩ := id hA
      have hacc : acc.length = 1 := hacc
      refine ⟨_, rfl, .inl ⟨rfl, _, SqL.of hOv⟩, ?_⟩
      refine ⟨_, rfl, _, rfl, _, rfl, _, _, rfl, SqL.of hLk, fun p1 hp1 => ?_⟩
      have t1 := same_upd (o := .lst (cutV vs none (some (i : Int)))) hp1
      refine ⟨_, rfl, _, rfl, _, _, rfl, rfl, (by show 2 ≤ sizeLine; decide), fun t ht => ⟨(by show 1 ≤ sizeLine; decide), fun p2 hp2 => ?_⟩⟩
      have t2 := same_upd (o := .tup [.int (c.1), .int (c.2 - 1)]) ht
      have t3 := same_upd (o := .lst [.ref t]) hp2
      refine ⟨p1, p2, _, _, rfl, rfl, t3 _ _ (t2 _ _ upd_same), upd_same, ?_, fun p3 hp3 => ?_⟩
      · exact Nat.le_of_lt (small1000 (by have := cutV_length vs none (some (i : Int)); show (cutV vs none (some (i : Int))).length + 1 ≤ 1000; omega))
      have t4 := same_upd (o := .lst (cutV vs none (some (i : Int)) ++ [.ref t])) hp3
      have ss := (t1.trans t2).trans (t3.trans t4)
      refine ⟨_, rfl, _, rfl, _, _, rfl, rfl, _, rfl, ?_⟩
      dsimp only [tNoPart]
      refine ⟨_, _, rfl, SqL.of (ss _ _ hLk), fun p4 hp4 => ?_⟩
      have t5 := same_upd (o := .lst (cutV vs (some ((i : Int) + 1)) none)) hp4
      refine ⟨p3, p4, _, _, rfl, rfl, t5 _ _ upd_same, upd_same, ?_, fun p5 hp5 => ?_⟩
      · exact Nat.le_of_lt (small1000 (by have h1 := cutV_length vs none (some (i : Int)); have h2 := cutV_length vs (some ((i : Int) + 1)) none; rw [List.length_append]; show (cutV vs none (some (i : Int))).length + 1 + _ ≤ 1000; omega))
      have t6 := same_upd (o := .lst (cutV vs none (some (i : Int)) ++ [.ref t] ++ cutV vs (some ((i : Int) + 1)) none)) hp5
      have up := (ss.trans t5).trans t6
      have upt := ((t3.trans t4).trans t5).trans t6
      have fin : ∀ Hf : Hp, Same _ Hf → Hf t = some (.tup [.int (c.1), .int (c.2 - 1)]) → Hf p5 = some (.lst (cutV vs none (some (i : Int)) ++ [.ref t] ++ cutV vs (some ((i : Int) + 1)) none)) → LAt ClP Hf p5 (cs.take i ++ [(c.1, c.2 - 1)] ++ cs.drop (i + 1)) := fun Hf u ht h5 => by
        rw [cut_l (by omega), cut_r (by omega)] at h5
        exact ⟨_, h5, pw_app (pw_app (pw_take (pwk.mono u)) (pw_one ⟨t, rfl, ht⟩)) (pw_drop (pwk.mono u))⟩
      have lat := fin _ up (upt _ _ upd_same) upd_same
      refine ⟨O, _, _, rfl, rfl, up _ _ hOv, small1000 (by omega), ?_⟩
      refine ⟨_, rfl, same_late (sk.trans up) hOb, ot_push (up _ _ hOv) (hA.same (otP_mono O) up) (ne_of_none (t5 _ _ (ss _ _ hOv)) hp5).symm lat, by rw [List.length_append]; show _ + 1 ≤ 2; omega, fun ds h => ?_⟩
      rcases List.mem_append.mp h with h | h
      · exact hds ds h
      · rw [List.mem_singleton.mp h]
        exact ⟨rep_ok ok hc b1 b2 (by omega) (by omega), rep_ne hc (fun e => by have := congrArg (fun x : Cls2 => x.2) e; dsimp only at this; omega)⟩
    rintro σ' Hk ⟨dss, rfl, sk, hA, hn, hds⟩
    have hLk := sk _ _ hLb
    have pwk : PW (ClP Hk) vs cs := pwb.mono sk
    obtain ⟨acc, hOv, hacc, _⟩ := id hA
    refine ⟨fun σ' H' => ∃ (dss : List (List Cls2)), σ' = [some (.ref (p : Addr)), some (.ref L), some (.int (i : Int)), some (.int c.1), some (.int c.2), some (.int (fds cs)), none, some (.ref O)] ∧ Same Hb H' ∧ LAt (OtP O) H' O dss ∧ dss.length ≤ 3 ∧ ∀ ds, ds ∈ dss → ClsV ds ∧ ds ≠ cs, ?_, ?_⟩
    · refine ⟨_, rfl, _, _, rfl, rfl, _, rfl, ifD (fun hm => ?_) (fun hm => ⟨dss, rfl, sk, hA, by omega, hds⟩)⟩
      refine ⟨_, rfl, .inl ⟨rfl, _, SqL.of hOv⟩, ?_⟩
      refine ⟨_, rfl, _, rfl, _, rfl, _, _, rfl, SqL.of hLk, fun p1 hp1 => ?_⟩
      have t1 := same_upd (o := .lst (cutV vs none (some (i : Int)))) hp1
      refine ⟨_, rfl, _, rfl, _, _, rfl, rfl, (by show 2 ≤ sizeLine; decide), fun t ht => ⟨(by show 1 ≤ sizeLine; decide), fun p2 hp2 => ?_⟩⟩
      have t2 := same_upd (o := .tup [.int (c.1), .int (c.2 + 1)]) ht
      have t3 := same_upd (o := .lst [.ref t]) hp2
      refine ⟨p1, p2, _, _, rfl, rfl, t3 _ _ (t2 _ _ upd_same), upd_same, ?_, fun p3 hp3 => ?_⟩
      · exact Nat.le_of_lt (small1000 (by have := cutV_length vs none (some (i : Int)); show (cutV vs none (some (i : Int))).length + 1 ≤ 1000; omega))
      have t4 := same_upd (o := .lst (cutV vs none (some (i : Int)) ++ [.ref t])) hp3
      have ss := (t1.trans t2).trans (t3.trans t4)
      refine ⟨_, rfl, _, rfl, _, _, rfl, rfl, _, rfl, ?_⟩
      dsimp only [tNoPart]
      refine ⟨_, _, rfl, SqL.of (ss _ _ hLk), fun p4 hp4 => ?_⟩
      have t5 := same_upd (o := .lst (cutV vs (some ((i : Int) + 1)) none)) hp4
      refine ⟨p3, p4, _, _, rfl, rfl, t5 _ _ upd_same, upd_same, ?_, fun p5 hp5 => ?_⟩
      · exact Nat.le_of_lt (small1000 (by have h1 := cutV_length vs none (some (i : Int)); have h2 := cutV_length vs (some ((i : Int) + 1)) none; rw [List.length_append]; show (cutV vs none (some (i : Int))).length + 1 + _ ≤ 1000; omega))
      have t6 := same_upd (o := .lst (cutV vs none (some (i : Int)) ++ [.ref t] ++ cutV vs (some ((i : Int) + 1)) none)) hp5
      have up := (ss.trans t5).trans t6
      have upt := ((t3.trans t4).trans t5).trans t6
      have fin : ∀ Hf : Hp, Same Hk Hf → Hf t = some (.tup [.int (c.1), .int (c.2 + 1)]) → Hf p5 = some (.lst (cutV vs none (some (i : Int)) ++ [.ref t] ++ cutV vs (some ((i : Int) + 1)) none)) → LAt ClP Hf p5 (cs.take i ++ [(c.1, c.2 + 1)] ++ cs.drop (i + 1)) := fun Hf u ht h5 => by
        rw [cut_l (by omega), cut_r (by omega)] at h5
        exact ⟨_, h5, pw_app (pw_app (pw_take (pwk.mono u)) (pw_one ⟨t, rfl, ht⟩)) (pw_drop (pwk.mono u))⟩
      have lat := fin _ up (upt _ _ upd_same) upd_same
      refine ⟨O, _, _, rfl, rfl, up _ _ hOv, small1000 (by omega), ?_⟩
      refine ⟨_, rfl, same_late (sk.trans up) hOb, ot_push (up _ _ hOv) (hA.same (otP_mono O) up) (ne_of_none (t5 _ _ (ss _ _ hOv)) hp5).symm lat, by rw [List.length_append]; show _ + 1 ≤ 3; omega, fun ds h => ?_⟩
      rcases List.mem_append.mp h with h | h
      · exact hds ds h
      · rw [List.mem_singleton.mp h]
        exact ⟨rep_ok ok hc b1 b2 (by omega) (by omega), rep_ne hc (fun e => by have := congrArg (fun x : Cls2 => x.2) e; dsimp only at this; omega)⟩
    rintro σ' Hk ⟨dss, rfl, sk, hA, hn, hds⟩
    have hLk := sk _ _ hLb
    have pwk : PW (ClP Hk) vs cs := pwb.mono sk
    obtain ⟨acc, hOv, hacc, _⟩ := id hA
    refine ⟨fun σ' H' => ∃ (dss : List (List Cls2)), σ' = [some (.ref (p : Addr)), some (.ref L), some (.int (i : Int)), some (.int c.1), some (.int c.2), some (.int (fds cs)), none, some (.ref O)] ∧ Same Hb H' ∧ LAt (OtP O) H' O dss ∧ dss.length ≤ 4 ∧ ∀ ds, ds ∈ dss → ClsV ds ∧ ds ≠ cs, ?_, ?_⟩
    · refine ⟨_, rfl, _, _, rfl, rfl, _, rfl, ifD (fun hm => ?_) (fun hm => ⟨dss, rfl, sk, hA, by omega, hds⟩)⟩
      refine ⟨_, rfl, _, _, rfl, .inl (SqL.of hLk), _, _, rfl, rfl, _, rfl, ifD (fun hm2 => ?_) (fun hm2 => ⟨dss, rfl, sk, hA, by omega, hds⟩)⟩
      refine ⟨_, rfl, .inl ⟨rfl, _, SqL.of hOv⟩, _, rfl, _, rfl, (by show 2 ≤ sizeLine; decide), fun t ht => ⟨(by show 1 ≤ sizeLine; decide), fun p2 hp2 => ?_⟩⟩
      have t2 := same_upd (o := .tup [.int c.1, .int 1]) ht
      have t3 := same_upd (o := .lst [.ref t]) hp2
      refine ⟨L, p2, _, _, rfl, rfl, t3 _ _ (t2 _ _ hLk), upd_same, Nat.le_of_lt (small1000 (by show vs.length + 1 ≤ 1000; omega)), fun p5 hp5 => ?_⟩
      have t5 := t2.trans t3
      have t6 := same_upd (o := .lst (vs ++ [.ref t])) hp5
      have up := t5.trans t6
      have lat : LAt ClP (upd (upd (upd Hk t (.tup [.int c.1, .int 1])) p2 (.lst [.ref t])) p5 (.lst (vs ++ [.ref t]))) p5 (cs ++ [(c.1, 1)]) := ⟨_, upd_same, pw_app (pwk.mono up) (pw_one ⟨t, rfl, t6 _ _ (t3 _ _ upd_same)⟩)⟩
      refine ⟨O, _, _, rfl, rfl, up _ _ hOv, small1000 (by omega), ?_⟩
      refine ⟨_, rfl, same_late (sk.trans up) hOb, ot_push (up _ _ hOv) (hA.same (otP_mono O) up) (ne_of_none (t5 _ _ hOv) hp5).symm lat, by rw [List.length_append]; show _ + 1 ≤ 4; omega, fun ds h => ?_⟩
      rcases List.mem_append.mp h with h | h
      · exact hds ds h
      · rw [List.mem_singleton.mp h]
        exact ⟨ok.snoc (by omega) b1 b2 hm, (fun e => by have := congrArg List.length e; rw [List.length_append] at this; have : cs.length + 1 = cs.length := this; omega)⟩
    rintro σ' Hk ⟨dss, rfl, sk, hA, hn, hds⟩
    have hLk := sk _ _ hLb
    have pwk : PW (ClP Hk) vs cs := pwb.mono sk
    obtain ⟨acc, hOv, hacc, _⟩ := id hA
    refine ⟨fun σ' H' => ∃ (dss : List (List Cls2)), σ' = [some (.ref (p : Addr)), some (.ref L), some (.int (i : Int)), some (.int c.1), some (.int c.2), some (.int (fds cs)), none, some (.ref O)] ∧ Same Hb H' ∧ LAt (OtP O) H' O dss ∧ dss.length ≤ 5 ∧ ∀ ds, ds ∈ dss → ClsV ds ∧ ds ≠ cs, ?_, ?_⟩
    · refine ⟨_, rfl, _, _, rfl, .inl (SqL.of hLk), _, _, rfl, rfl, _, rfl, ifD (fun hm => ?_) (fun hm => ⟨dss, rfl, sk, hA, by omega, hds⟩)⟩
      refine ⟨_, rfl, .inl ⟨rfl, _, SqL.of hOv⟩, _, rfl, ?_⟩
      dsimp only [tNoPart]
      refine ⟨_, rfl, _, rfl, _, _, rfl, SqL.of hLk, fun p5 hp5 => ?_⟩
      have up := same_upd (o := .lst (cutV vs none (some (-1)))) hp5
      have lat : LAt ClP (upd Hk p5 (.lst (cutV vs none (some (-1))))) p5 (cs.take (cs.length - 1)) := by
        refine ⟨vs.take (cs.length - 1), ?_, pw_take (pwk.mono up)⟩
        rw [upd_same, cut_last, hlen]
      refine ⟨O, _, _, rfl, rfl, up _ _ hOv, small1000 (by omega), ?_⟩
      refine ⟨_, rfl, same_late (sk.trans up) hOb, ot_push (up _ _ hOv) (hA.same (otP_mono O) up) (ne_of_none hOv hp5).symm lat, by rw [List.length_append]; show _ + 1 ≤ 5; omega, fun ds h => ?_⟩
      rcases List.mem_append.mp h with h | h
      · exact hds ds h
      · rw [List.mem_singleton.mp h]
        exact ⟨ok.init (by omega), (fun e => by have := congrArg List.length e; rw [List.length_take] at this; omega)⟩
    rintro σ' Hk ⟨dss, rfl, sk, hA, hn, hds⟩
    have hLk := sk _ _ hLb
    have pwk : PW (ClP Hk) vs cs := pwb.mono sk
    obtain ⟨acc, hOv, hacc, _⟩ := id hA
    refine ⟨fun σ' H' => ∃ (dss : List (List Cls2)), σ' = [some (.ref (p : Addr)), some (.ref L), some (.int (i : Int)), some (.int c.1), some (.int c.2), some (.int (fds cs)), none, some (.ref O)] ∧ Same Hb H' ∧ LAt (OtP O) H' O dss ∧ dss.length ≤ 6 ∧ ∀ ds, ds ∈ dss → ClsV ds ∧ ds ≠ cs, ?_, ?_⟩
    · refine ⟨_, rfl, L, _, rfl, SqL.of hLk, fun r1 hr1 => ?_⟩
      have sr := same_upd (o := .lst vs.reverse) hr1
      refine ⟨_, rfl, _, _, lat_dp ⟨_, upd_same, pw_rev (pwk.mono sr)⟩, lat_dp ⟨_, sr _ _ hLk, pwk.mono sr⟩, clsD_ok _, clsD_ok _, ?_⟩
      rw [clsD_eqv]
      have sk := sk.trans sr
      have hA := hA.same (otP_mono O) sr
      have hOv := sr _ _ hOv
      have hLk := sr _ _ hLk
      have pwk := pwk.mono sr
      generalize upd Hk r1 (.lst vs.reverse) = Hm at *
      by_cases hm : cs.reverse = cs
      · rw [decide_eq_true hm]
        exact ⟨_, rfl, iteF ⟨dss, rfl, sk, hA, by omega, hds⟩⟩
      · rw [decide_eq_false hm]
        refine ⟨_, rfl, iteT ?_⟩
        refine ⟨_, rfl, .inl ⟨rfl, _, SqL.of hOv⟩, _, rfl, L, _, rfl, SqL.of hLk, fun p5 hp5 => ?_⟩
        have up := same_upd (o := .lst vs.reverse) hp5
        have lat : LAt ClP (upd Hm p5 (.lst vs.reverse)) p5 cs.reverse := ⟨_, upd_same, pw_rev (pwk.mono up)⟩
        refine ⟨O, _, _, rfl, rfl, up _ _ hOv, small1000 (by omega), ?_⟩
        refine ⟨_, rfl, same_late (sk.trans up) hOb, ot_push (up _ _ hOv) (hA.same (otP_mono O) up) (ne_of_none hOv hp5).symm lat, by rw [List.length_append]; show _ + 1 ≤ 6; omega, fun ds h => ?_⟩
        rcases List.mem_append.mp h with h | h
        · exact hds ds h
        · rw [List.mem_singleton.mp h]
          exact ⟨ok.rev, hm⟩
    rintro σ' Hk ⟨dss, rfl, sk, hA, hn, hds⟩
    exact ⟨_, rfl, q O dss Hk ((hP3.same sb).same sk) (k3.trans (same_keeps (sb.trans sk))) pO hA hds⟩
end
end L

set_option Elab.async false
set_option linter.all false
set_option maxRecDepth 100000
set_option maxHeartbeats 4000000
set_option pp.maxSteps 160
set_option pp.deepTerms false
namespace L
open PySem PySem.Spec PyProof.Rows L2 Fl
local macro_rules | `(tactic| walk_at "side") => `(tactic| first | (exact .inl ⟨by omega, by omega⟩) | (exact .inr ⟨by omega, by omega⟩) | (exact .inr ⟨by decide, by decide⟩) | (show (_ : Int) ≠ _; omega) | (exact ⟨by omega, by decide⟩) | (exact ⟨by decide, by decide, by decide⟩))
local macro_rules | `(tactic| walk_at "go") => `(tactic| repeat (first | refine ⟨_, rfl, ?_⟩ | refine ⟨_, _, rfl, rfl, ?_⟩ | refine .inl ⟨_, rfl, ?_⟩ | refine ⟨rfl, ?_⟩ | refine ⟨(by walk_at "side"), ?_⟩))
local macro_rules | `(tactic| walk_at "see") => `(tactic| (set_option pp.maxSteps 110 in set_option pp.deepTerms false in trace_state))
local macro_rules | `(tactic| walk_at "if") => `(tactic| first | refine ifE ?_ ?_ | refine ifNE ?_ ?_ | refine ifD ?_ ?_ | refine ifN ?_ ?_ | refine ifB ?_ ?_)
section
variable {P : Program} {w : World} {K : PySem.W.Frag} {mg : Str → Option Value} {base : Heap}

theorem ground_made2 {G BN TN : Addr} {H : Hp} {vs : List V} {cs : List Cls2} {Qk : VK} {E : XK} {x dx : Addr} (nx : H x = none) (nd : H dx = none) (ne : dx ≠ x) (hlen : vs.length = cs.length) (hsm : cs.length ≤ 900) (hat : ∀ (i : Nat) (c : Cls2), cs[i]? = some c → ∃ v, vs[i]? = some v ∧ ClP H v c) (k1 : ∀ n v, gdue cs = .num n v → Ref E BN H n v) (k2 : ∀ n v, gdue cs = .many n v → RefM E TN H n v)
    (q : gdue cs = .ok → ∀ (H' : Hp), Same H H' → GrAt G H' x cs → Qk .non H') : spGround G BN TN (.ref x :: vs) (upd (upd H dx (.own x)) x (.ins G dx [])) Qk E := by
  refine ⟨[.ref x], vs, rfl, rfl, Nat.le_of_lt (small1000 (by omega)), fun p hp => ?_⟩
  have sp := same_upd (o := .tup vs) hp
  have sh : Same H (upd (upd (upd H dx (.own x)) x (.ins G dx [])) p (.tup vs)) := ((same_upd nd).trans (same_upd (by rw [upd_ne ne.symm]; exact nx))).trans sp
  refine ⟨x, dx, p, cs, rfl, sp _ _ upd_same, ⟨vs, upd_same, hlen, fun i c hc => ?_⟩, hsm, fun n v e => (k1 n v e).same sh, fun n v e => (k2 n v e).same sh, fun gok M H' kx hx hM => q gok H' (made nx nd ((same_keeps sp).trans kx)) ⟨dx, M, hx, hM⟩⟩
  obtain ⟨v, hv, r⟩ := hat i c hc
  exact ⟨v, hv, clP_mono _ _ _ _ sh r⟩
theorem lat_ne {H : Hp} {p : Pla} {M : Addr} {cs : List Cls2} (h : LAt ClP H M cs) (hP : Pool H p) : M ≠ p := fun e => by
  obtain ⟨vs, h1, h2, h3⟩ := h
  obtain ⟨_, _, _, _, _, hp, _⟩ := hP
  rw [e, hp] at h1
  cases h1
  have h2 : 5 = cs.length := h2
  obtain ⟨v, hv, t, e2, _⟩ := h3 1 _ (List.getElem?_eq_getElem (by omega))
  cases hv
  cases e2
theorem GrAt.keep {G : Addr} {H H' : Hp} {p : Pla} {x : Addr} {cs : List Cls2} (h : GrAt G H x cs) (hP : Pool H p) (k : Keeps H H' p) : GrAt G H' x cs := by
  obtain ⟨dx, M, h1, h2⟩ := h
  refine ⟨dx, M, k _ _ h1 ?_, lat_keep h2 hP (lat_ne h2 hP) k⟩
  obtain ⟨_, _, _, _, _, hp, _⟩ := hP
  exact ne_of h1 hp (by intro q; cases q)
theorem gd_num {cs : List Cls2} (ok : gdue cs = .ok) : (∀ {E : XK} {BN : Addr} {H : Hp} n v, gdue cs = .num n v → Ref E BN H n v) ∧ (∀ {E : XK} {TN : Addr} {H : Hp} n v, gdue cs = .many n v → RefM E TN H n v) := by
  refine ⟨fun {E BN H} n v h => ?_, fun {E TN H} n v h => ?_⟩
  · rw [ok] at h
    cases h
  · rw [ok] at h
    cases h
def spLaw (K : PySem.W.Frag) : Sp := fun vs H Q _ => ∃ (a : Addr) (ns : List Int), vs = [.ref a] ∧ SqL K H a (ns.map V.int) ∧ ns.length ≤ 63 ∧ ∀ H', Q (.bl true) H'
theorem ok_law {G BN TN fI fA : Addr} {fd : FuncData} {mc : Value} {tk tk2 : Tok} (B : Blt mg) (TG : GrC K mg G) (MK : Mk K G fI) (FG : FnR P w K mg base (L2.CX P w) 5 fI (spGround G BN TN)) (CR : ClX.CRead K G mc) (C12 : ClX.CVal K G mc "MOST_FIELDS" (.int 12) (.int 12 tk)) (C40 : ClX.CVal K G mc "MOST_FORCES" (.int 40) (.int 40 tk2))
    (EQ : Bx.OpOwn P w K mg base 1 G (cmpInfo .Eq).2.1 ["self", "other"] (spGEq G)) (CPL : Bx.CalCM P w K mg base 7 G "plain" ["cls", "fields"] (spPlain G BN TN)) (F : Fun K "law" "law" s_law fA fd) (C_pool : CalPool P w K mg base) (C_draw : CalDraw P w K mg base) (C_rows : CalRows P w K mg base) (C_refused : CalRef P w K mg base) (C_due : CalDue P w K mg base) (C_mended : CalMe P w K mg base)
    (C_ground : CalLGr P w K mg base G BN TN) (C_shows : CalSh P w K mg base G) (C_others : CalOth P w K mg base) (C_whole : CalWhole P w K mg base) : FnOk P w K mg base CX0 9 fA fd ["_law_script"] (spLaw K) := by
  refine F.ok sc_law (fun vs H Q E h => ?_) (fun cdv A outer st H vs Q E hr h => ?_)
  · obtain ⟨a, ns, rfl, _⟩ := h
    rfl
  · obtain ⟨a, ns, rfl, hS, hl, q⟩ := h
    refine ⟨_, (pss_cons (ps_set (i := 1) sc_law.nd rfl (Or.inl rfl) (pe_cal C_pool (hr.mono (by decide)) (pa_cons (pv 0) pa_nil)))
      (pss_cons (ps_set (i := 2) sc_law.nd rfl (Or.inl rfl) (pe_cal C_rows (hr.mono (by decide)) (pa_cons (pv 1) pa_nil)))
      (pss_cons (ps_if (pt_cmpR (op_neD hr.units) (pe_cal C_refused (hr.mono (by decide)) (pa_cons (pe_callTy call_list_of (by rfl) B.list (by decide +kernel) (pa_cons (pv 2) pa_nil)) (pa_cons (pe_bl) pa_nil))) (pe_cal C_due (hr.mono (by decide)) (pa_cons (pv 2) pa_nil)) (nomark _)) (pss_one (ps_ret (pe_bl))) pss_nil)
      (pss_cons (ps_set (i := 3) sc_law.nd rfl (Or.inl rfl) (pe_cal C_mended (hr.mono (by decide)) (pa_cons (pv 2) pa_nil)))
      (pss_cons (ps_set (i := 4) sc_law.nd rfl (Or.inl rfl) (pe_calX C_ground (hr.mono (by decide)) (pa_cons (pv 3) pa_nil)))
      (pss_cons (ps_if (PW.pt (pw_or (pt_not (pt_val (pe_cal C_shows (hr.mono (by decide)) (pa_cons (pv 4) (pa_cons (pv 3) pa_nil))))) (pw_or1 (pt_not (pt_cmpR (Bx.cmp_oo (op := .Eq) (fun _ _ => rfl) EQ hr.units0 (hr.mono (by decide))) (pv 4) (pe_calX C_ground (hr.mono (by decide)) (pa_cons (pv 3) pa_nil)) (nomark _)))))) (pss_one (ps_ret (pe_bl))) pss_nil)
      (pss_cons (ps_for PassesOwn.never rfl (pi_list (pe_cal C_others (hr.mono (by decide)) (pa_cons (pv 1) (pa_cons (pv 3) pa_nil)))) (pg_name (i := 5) sc_law.nd rfl (Or.inl rfl)) (pss_cons (ps_set (i := 6) sc_law.nd rfl (Or.inl rfl) (pe_calX C_ground (hr.mono (by decide)) (pa_cons (pv 5) pa_nil)))
      (pss_one (ps_if (PW.pt (pw_or (pt_not (pt_val (pe_cal C_shows (hr.mono (by decide)) (pa_cons (pv 6) (pa_cons (pv 5) pa_nil))))) (pw_or (pt_cmpR (Bx.cmp_oo (op := .Eq) (fun _ _ => rfl) EQ hr.units0 (hr.mono (by decide))) (pv 4) (pv 6) (nomark _)) (pw_or1 (pt_cmpR (Bx.cmp_oo (op := .Eq) (fun _ _ => rfl) EQ hr.units0 (hr.mono (by decide))) (pv 6) (pv 4) (nomark _)))))) (pss_one (ps_ret (pe_bl))) pss_nil))))
      (pss_cons (ps_set (i := 7) sc_law.nd rfl (Or.inl rfl) (pe_lst (pa_cons (pe_tup (pa_cons (pe_int) (pa_cons (pe_op op_sub (pe_cal C_draw (hr.mono (by decide)) (pa_cons (pv 1) (pa_cons (pe_int) pa_nil))) (pe_int)) pa_nil))) pa_nil)))
      (pss_cons (ps_set (i := 8) sc_law.nd rfl (Or.inl rfl) (pe_cal C_due (hr.mono (by decide)) (pa_cons (pv 7) pa_nil)))
      (pss_cons (ps_if (PW.pt (pw_or (pt_cmpR (op_neD hr.units) (pe_cal C_refused (hr.mono (by decide)) (pa_cons (pe_callTy call_list_of (by rfl) B.list (by decide +kernel) (pa_cons (pv 7) pa_nil)) (pa_cons (pe_bl) pa_nil))) (pv 8) (nomark _)) (pw_or1 (pt_cmpR (op_neD hr.units) (pe_cal C_refused (hr.mono (by decide)) (pa_cons (pe_callTy call_list_of (by rfl) B.list (by decide +kernel) (pa_cons (pv 7) pa_nil)) (pa_cons (pe_bl) pa_nil))) (pv 8) (nomark _))))) (pss_one (ps_ret (pe_bl))) pss_nil)
      (Evl.pss_cut (ps_if (pt_cmpR op_eq (pe_ix ix_tup (pv 8) (pe_int) (fun _ _ => rfl)) (pe_str) (nomark _)) (pss_cons (ps_set (i := 9) sc_law.nd rfl (Or.inl rfl) (Bx.pe_cm (E := fun _ => E0) CPL (fun σ pins H s e s' I h => passL pins σ H s e s' I h) (hr.mono (by decide)) (pe_glob (v := .ref _) (by rfl) TG.g rfl) (pa_cons (pe_ix ix_tup (pe_ix ix_list (pv 7) pe_int (fun _ _ => rfl)) pe_int (fun _ _ => rfl)) pa_nil)))
      (pss_one (ps_if (PW.pt (pw_or (pt_not (pt_val (pe_cal C_shows (hr.mono (by decide)) (pa_cons (pv 9) (pa_cons (pv 7) pa_nil))))) (pw_or1 (pt_not (pt_cmpR (Bx.cmp_oo (op := .Eq) (fun _ _ => rfl) EQ hr.units0 (hr.mono (by decide))) (pv 9) (StX.pe_makeR (E := E0) MK FG (hr.mono (by decide)) (by rfl) TG.g passL (pa_cons (pe_ix ix_list (pv 7) (pe_int) (fun _ _ => rfl)) pa_nil)) (nomark _)))))) (pss_one (ps_ret (pe_bl))) pss_nil))) pss_nil)
      (pss_cons (ps_if (PW.pt (pw_or (pt_not (pt_val (pe_cal C_whole (hr.mono (by decide)) (pa_cons (ClX.pe_cval (pe_glob (v := .ref _) (by rfl) TG.g rfl)) pa_nil)))) (pw_or1 (pt_not (pt_val (pe_cal C_whole (hr.mono (by decide)) (pa_cons (ClX.pe_cval (pe_glob (v := .ref _) (by rfl) TG.g rfl)) pa_nil))))))) (pss_one (ps_ret (pe_bl))) pss_nil)
      (pss_cons (ps_if (PW.pt (pw_or (pt_cmpR op_ne (ClX.pe_cval (pe_glob (v := .ref _) (by rfl) TG.g rfl)) (pe_int) (nomark _)) (pw_or1 (pt_cmpR op_ne (ClX.pe_cval (pe_glob (v := .ref _) (by rfl) TG.g rfl)) (pe_int) (nomark _))))) (pss_one (ps_ret (pe_bl))) pss_nil)
      (pss_one (ps_ret ((pe_and (pe_cal C_shows (hr.mono (by decide)) (pa_cons (pv 4) (pa_cons (pv 3) pa_nil))) (pe_one (pe_cmpR (op_eqD hr.units) (pe_cal C_refused (hr.mono (by decide)) (pa_cons (pe_callTy call_list_of (by rfl) B.list (by decide +kernel) (pa_cons (pv 2) pa_nil)) (pa_cons (pe_bl) pa_nil))) (pe_cal C_due (hr.mono (by decide)) (pa_cons (pv 2) pa_nil)) (nomark _)))))))))))))))))))), ?_⟩
    have eqr : ∀ {d : PyData}, SeqAt.shaped d = true → PyData.eqv d d = true := fun h => SeqAt.eqv_refl _ (SeqAt.canLay_of_shaped h)
    refine ⟨_, rfl, a, ns, rfl, hS, hl, fun p H1 s1 np nq hP1 => ?_⟩
    refine ⟨_, rfl, p, rfl, hP1, fun L cs H2 hP2 k2 pL hL l5 => ?_⟩
    obtain ⟨vs, hL2, pw2⟩ := mono3 hL
    refine ⟨_, rfl, L, _, rfl, .inl (SqL.of hL2), fun R hR => ?_⟩
    have sR := same_upd (o := .lst vs) hR
    refine ⟨R, false, cs, rfl, ⟨_, upd_same, pw2.mono sR⟩, l5, nofun, fun z1 H3 s3 hz1 => ?_⟩
    have hL3 := (hL.same clP_mono sR).same clP_mono s3
    refine ⟨_, rfl, L, cs, rfl, hL3, fun z2 H4 s4 hz2 => ?_⟩
    refine ⟨_, _, gd_dp (s4 _ _ hz1), gd_dp hz2, gd_ok, gd_ok, ?_⟩
    rw [eqr gd_ok]
    refine ⟨_, rfl, iteF ?_⟩
    have hL4 := hL3.same clP_mono s4
    have hP4 := ((hP2.same sR).same s3).same s4
    refine ⟨_, rfl, L, cs, rfl, hL4, l5, fun N gs H5 s5 hN0 hN okg => ?_⟩
    have hP5 := hP4.same s5
    have hL5 := hL4.same clP_mono s5
    have pN : N ≠ p := lat_ne hN hP5
    have go := ok_gdue okg
    have g4 := okg.l4
    refine ⟨_, rfl, N, gs, rfl, hN, by omega, (gd_num go).1, (gd_num go).2, fun _ x H6 s6 hx => ?_⟩
    have hN := hN.same clP_mono s6
    have hP6 := hP5.same s6
    have hL6 := hL5.same clP_mono s6
    refine ⟨_, rfl, _, rfl, x, N, gs, rfl, hx, hN, by omega, fun H7 s7 => ⟨_, rfl, iteF ?_⟩⟩
    have hx := hx.same s7
    have hN := hN.same clP_mono s7
    refine ⟨_, rfl, _, rfl, N, gs, rfl, hN, by omega, (gd_num go).1, (gd_num go).2, fun _ y H8 s8 hy => ?_⟩
    have hx := hx.same s8
    have hN := hN.same clP_mono s8
    have hP8 := (hP6.same s7).same s8
    have hL8 := (hL6.same clP_mono s7).same clP_mono s8
    obtain ⟨dx, Mx, hx1, _⟩ := id hx
    obtain ⟨dy, My, hy1, _⟩ := id hy
    refine ⟨x, dx, _, y, dy, _, rfl, hx1, rfl, hy1, x, y, gs, gs, rfl, hx, hy, _, rfl, _, rfl, ?_⟩
    rw [decide_eq_true rfl]
    refine iteF ?_
    refine ⟨_, rfl, _, rfl, p, N, gs, rfl, hP8, pN, hN, okg, fun O dss H9 hP9 k9 pO hO hds => ?_⟩
    have hx := hx.keep hP8 k9
    have hN := lat_keep hN hP8 pN k9
    have hL9 := lat_keep hL8 hP8 pL k9
    obtain ⟨os, hO1, hol, hoat⟩ := id hO
    refine ⟨O, rfl, ⟨_, SqL.of hO1⟩, for_list (K := K) (a := O) (xs := os) (fun i σ H' => ∃ (o1 o2 : Option V), σ = [some (.ref a), some (.ref (p : Addr)), some (.ref L), some (.ref N), some (.ref x), o1, o2, none, none, none] ∧ Same H9 H') ⟨none, none, rfl, Same.refl _⟩ (fun i σ H' _ h => by obtain ⟨_, _, _, s⟩ := h; exact SqL.of (s _ _ hO1)) ?_ ?_⟩
    · rintro i y σ Ha hy ⟨o1, o2, rfl, sa⟩
      have hi : i < os.length := (List.getElem?_eq_some_iff.mp hy).1
      have hd : dss[i]? = some dss[i] := List.getElem?_eq_getElem (by omega)
      obtain ⟨v, hv, Lo, rfl, _, hLo⟩ := hoat i _ hd
      rw [hy] at hv
      cases hv
      obtain ⟨okd, ned⟩ := hds _ (List.mem_of_getElem? hd)
      generalize dss[i] = ds at *
      have gd := ok_gdue okd
      have d4 := okd.l4
      have hLo := hLo.same clP_mono sa
      have hxa := hx.same sa
      refine ⟨_, rfl, Lo, ds, rfl, hLo, by omega, (gd_num gd).1, (gd_num gd).2, fun _ m Hb sb hm => ?_⟩
      have hLo := hLo.same clP_mono sb
      have hxb := hxa.same sb
      refine ⟨_, rfl, _, rfl, m, Lo, ds, rfl, hm, hLo, by omega, fun Hc sc => ⟨_, rfl, iteF ?_⟩⟩
      have hxc := hxb.same sc
      have hmc := hm.same sc
      obtain ⟨dx, Mx, hx1, _⟩ := id hxc
      obtain ⟨dm, Mm, hm1, _⟩ := id hmc
      refine ⟨_, rfl, _, rfl, x, dx, _, m, dm, _, rfl, hx1, rfl, hm1, x, m, gs, ds, rfl, hxc, hmc, _, rfl, _, rfl, ?_⟩
      rw [decide_eq_false (Ne.symm ned)]
      refine iteF ⟨_, rfl, _, rfl, m, dm, _, x, dx, _, rfl, hm1, rfl, hx1, m, x, ds, gs, rfl, hmc, hxc, _, rfl, _, rfl, ?_⟩
      rw [decide_eq_false ned]
      exact iteF ⟨_, _, rfl, (sa.trans sb).trans sc⟩
    rintro σ Ha ⟨o1, o2, rfl, sa⟩
    have hPa := hP9.same sa
    have hx := hx.same sa
    have hN := hN.same clP_mono sa
    have hLa := hL9.same clP_mono sa
    refine ⟨_, rfl, p, 17, rfl, hPa, by decide, by decide, fun r Hb r0 r1 hPb kb => ⟨_, _, rfl, rfl, (by show 2 ≤ sizeLine; decide), fun t ht => ⟨(by show 1 ≤ sizeLine; decide), fun K1 hK1 => ?_⟩⟩⟩
    have hx := hx.keep hPa kb
    have hN := lat_keep hN hPa pN kb
    have hLb := lat_keep hLa hPa pL kb
    have st := same_upd (o := .tup [.int 1, .int (r - 2)]) ht
    have sk := same_upd (o := .lst [.ref t]) hK1
    have hK : LAt ClP (upd (upd Hb t (.tup [.int 1, .int (r - 2)])) K1 (.lst [.ref t])) K1 [(1, r - 2)] := ⟨_, upd_same, pw_one ⟨t, rfl, sk _ _ upd_same⟩⟩
    have hx := (hx.same st).same sk
    have hN := (hN.same clP_mono st).same clP_mono sk
    have hLc := (hLb.same clP_mono st).same clP_mono sk
    generalize upd (upd Hb t (.tup [.int 1, .int (r - 2)])) K1 (.lst [.ref t]) = Hc at *
    refine ⟨_, rfl, K1, _, rfl, hK, fun z Hd sd hz => ?_⟩
    have hK := hK.same clP_mono sd
    have hx := hx.same sd
    have hN := hN.same clP_mono sd
    have hLd := hLc.same clP_mono sd
    obtain ⟨ks, hKv, pk⟩ := mono3 hK
    refine ⟨_, rfl, K1, _, rfl, .inl (SqL.of hKv), fun R1 hR1 => ?_⟩
    have sr := same_upd (o := .lst ks) hR1
    refine ⟨R1, true, _, rfl, ⟨_, upd_same, pk.mono sr⟩, by show 1 ≤ 5; decide, fun _ => ⟨_, rfl⟩, fun z1 He se hz1 => ?_⟩
    refine ⟨_, rfl, _, _, gd_dp hz1, gd_dp (se _ _ (sr _ _ hz)), gd_ok, gd_ok, ?_⟩
    rw [eqr gd_ok]
    refine ⟨_, rfl, iteF ?_⟩
    have see := sr.trans se
    have hz := see _ _ hz
    have hK := hK.same clP_mono see
    have hx := hx.same see
    have hN := hN.same clP_mono see
    have hLe := hLd.same clP_mono see
    obtain ⟨ks, hKv, pk⟩ := mono3 hK
    refine ⟨_, rfl, K1, _, rfl, .inl (SqL.of hKv), fun R2 hR2 => ?_⟩
    have sr := same_upd (o := .lst ks) hR2
    refine ⟨R2, false, _, rfl, ⟨_, upd_same, pk.mono sr⟩, by show 1 ≤ 5; decide, nofun, fun z2 Hf sf hz2 => ?_⟩
    refine ⟨_, rfl, _, _, gd_dp hz2, gd_dp (sf _ _ (sr _ _ hz)), gd_ok, gd_ok, ?_⟩
    rw [eqr gd_ok]
    refine ⟨_, rfl, iteF ?_⟩
    have sff := sr.trans sf
    have hz := sff _ _ hz
    have hK := hK.same clP_mono sff
    have hx := hx.same sff
    have hN := hN.same clP_mono sff
    have hLf := hLe.same clP_mono sff
    refine ⟨fun σ' H' => ∃ o5 : Option V, σ' = [some (.ref a), some (.ref (p : Addr)), some (.ref L), some (.ref N), some (.ref x), o1, o2, some (.ref K1), some (.ref z), o5] ∧ Same Hf H', ?_, ?_⟩
    · cases hg : gdue [((1 : Int), r - 2)] with
      | num n v =>
        rw [hg] at hz
        refine ⟨_, rfl, _, _, _, _, rfl, rfl, SqT.of hz, rfl, rfl, _, rfl, ?_⟩
        rw [decide_eq_false (fun h => absurd (V.str.inj h) (by decide +kernel))]
        exact iteF ⟨none, rfl, Same.refl _⟩
      | many n v =>
        rw [hg] at hz
        refine ⟨_, rfl, _, _, _, _, rfl, rfl, SqT.of hz, rfl, rfl, _, rfl, ?_⟩
        rw [decide_eq_false (fun h => absurd (V.str.inj h) (by decide +kernel))]
        exact iteF ⟨none, rfl, Same.refl _⟩
      | ok =>
        rw [hg] at hz
        refine ⟨_, rfl, _, _, _, _, rfl, rfl, SqT.of hz, rfl, rfl, _, rfl, ?_⟩
        rw [decide_eq_true rfl]
        refine iteT ?_
        obtain ⟨ks, hKv, pk⟩ := mono3 hK
        obtain ⟨v, hv, t2, rfl, ht2⟩ := pk.2 0 _ rfl
        refine ⟨rfl, _, rfl, _, _, _, _, rfl, rfl, SqL.of hKv, atI_nat (j := 0) hv, _, _, _, _, rfl, rfl, SqT.of ht2, rfl, r - 2, rfl, (gd_num hg).1, (gd_num hg).2, fun _ y Hg sg hy => ?_⟩
        have hKg := hK.same clP_mono sg
        refine ⟨_, rfl, _, rfl, y, K1, _, rfl, hy, hKg, by show 1 ≤ 900; decide, fun Hh sh => ⟨_, rfl, iteF ?_⟩⟩
        have hyh := hy.same sh
        have sgh := sg.trans sh
        refine ⟨_, rfl, _, rfl, _, _, _, _, rfl, rfl, SqL.of (sgh _ _ hKv), atI_nat (j := 0) hv, ?_⟩
        intro x2 dx2 n1 n2 n3
        refine ground_made2 (vs := [.ref t2]) (cs := [((1 : Int), r - 2)]) n1 n2 n3 rfl (by show 1 ≤ 900; decide) (fun i c hc => ?_) (gd_num hg).1 (gd_num hg).2 (fun _ Hi si hm => ⟨rfl, ?_⟩)
        · cases i with
          | zero =>
            cases hc
            exact ⟨_, rfl, t2, rfl, sgh _ _ ht2⟩
          | succ i => simp at hc
        have hyi := hyh.same si
        obtain ⟨dy, My, hy1, _⟩ := id hyi
        obtain ⟨dm, Mm, hm1, _⟩ := id hm
        refine ⟨y, dy, _, x2, dm, _, rfl, hy1, rfl, hm1, y, x2, _, _, rfl, hyi, hm, _, rfl, _, rfl, ?_⟩
        rw [decide_eq_true rfl]
        exact iteF ⟨_, rfl, sgh.trans si⟩
    rintro σ' Hg ⟨o5, rfl, sg⟩
    have hx := hx.same sg
    have hN := hN.same clP_mono sg
    have hLg := hLf.same clP_mono sg
    refine ⟨G, mc, _, _, rfl, CR, C12, _, rfl, _, rfl, iteF ?_⟩
    refine ⟨G, mc, _, _, rfl, CR, C40, _, rfl, _, rfl, iteF ?_⟩
    refine ⟨G, mc, _, _, rfl, CR, C12, rfl, _, rfl, ifNE (fun h => absurd rfl h) (fun _ => ?_)⟩
    refine ⟨G, mc, _, _, rfl, CR, C40, rfl, _, rfl, ifNE (fun h => absurd rfl h) (fun _ => ?_)⟩
    refine ⟨_, rfl, _, rfl, x, N, gs, rfl, hx, hN, by omega, fun Hh sh => ⟨_, rfl, iteT ?_⟩⟩
    have hLh := hLg.same clP_mono sh
    obtain ⟨vs, hLv, pv⟩ := mono3 hLh
    refine ⟨_, rfl, L, _, rfl, .inl (SqL.of hLv), fun R3 hR3 => ?_⟩
    have sr := same_upd (o := .lst vs) hR3
    refine ⟨R3, false, cs, rfl, ⟨_, upd_same, pv.mono sr⟩, l5, nofun, fun z1 Hi si hz1 => ?_⟩
    refine ⟨_, rfl, L, cs, rfl, (hLh.same clP_mono sr).same clP_mono si, fun z2 Hj sj hz2 => ?_⟩
    refine ⟨_, _, gd_dp (sj _ _ hz1), gd_dp hz2, gd_ok, gd_ok, ?_⟩
    rw [eqr gd_ok]
    exact q _
end
end L

set_option Elab.async false
set_option linter.all false
set_option maxRecDepth 100000
set_option maxHeartbeats 4000000
set_option pp.maxSteps 160
set_option pp.deepTerms false
namespace L
open PySem PySem.Spec PyProof.Rows L2 Fl
local macro_rules | `(tactic| walk_at "side") => `(tactic| first | (exact .inl ⟨by omega, by omega⟩) | (exact .inr ⟨by omega, by omega⟩) | (exact .inr ⟨by decide, by decide⟩) | (show (_ : Int) ≠ _; omega) | (exact ⟨by omega, by decide⟩) | (exact ⟨by decide, by decide, by decide⟩))
local macro_rules | `(tactic| walk_at "go") => `(tactic| repeat (first | refine ⟨_, rfl, ?_⟩ | refine ⟨_, _, rfl, rfl, ?_⟩ | refine .inl ⟨_, rfl, ?_⟩ | refine ⟨rfl, ?_⟩ | refine ⟨(by walk_at "side"), ?_⟩))
local macro_rules | `(tactic| walk_at "see") => `(tactic| (set_option pp.maxSteps 110 in set_option pp.deepTerms false in trace_state))
local macro_rules | `(tactic| walk_at "if") => `(tactic| first | refine ifE ?_ ?_ | refine ifNE ?_ ?_ | refine ifD ?_ ?_ | refine ifN ?_ ?_ | refine ifB ?_ ?_)
section
variable {P : Program} {w : World} {K : PySem.W.Frag} {mg : Str → Option Value} {base : Heap}
end

theorem kit_type {K : PySem.W.Frag} {t : Addr} {n : String} {b : Bool} (hk : PySem.W.kitMeta n = true) (hs : PySem.W.subIn K (.ref t) (.type n) = some b) : PySem.W.kitOne K (.ref t) (.type n) = some b := by
  unfold PySem.W.kitOne
  rw [if_neg (by intro h; cases beq_iff_eq.mp h)]
  show (if PySem.W.kitMeta n = true then PySem.W.subIn K (.ref t) (.type n) else none) = some b
  rw [if_pos hk]
  exact hs
theorem all_mk {l : PySem.W.OpenLaw} {w : World} {K : PySem.W.Frag} {h : Heap} {mg : Str → Option Value} {fa : Addr} (X : K.In h) (G : h.Ns mainGlobals mg) (hfa : mg "law" = some (.ref fa))
    {LE : Addr} {BN : Addr} {nmE qE : Str} {NE : Addr} {bsE subE : List Value} {snE : List Str} {abE : Bool} {colE : Option Bool} {ddE : Option Addr} {mE0 mE1 mE2 mE3 mE5 : Option Value} {fBadNumber_init : Addr} {ocBadNumber_init kVBadNumber_init dcBadNumber_init pmBadNumber_init cdBadNumber_init ctBadNumber_init : Value} {odBadNumber_init anBadNumber_init : Option Addr} {slBadNumber_init : Array (Option Value)} {TN : Addr} {nmT qT : Str} {NT_ : Addr} {bsT subT : List Value} {snT : List Str} {abT : Bool} {colT : Option Bool} {ddT : Option Addr} {mT0 mT1 mT2 mT3 mT5 : Option Value} {fTooMany_init : Addr} {ocTooMany_init kVTooMany_init dcTooMany_init pmTooMany_init cdTooMany_init ctTooMany_init : Value} {odTooMany_init anTooMany_init : Option Addr} {slTooMany_init : Array (Option Value)} {tkMC : Tok} {tkMW : Tok} {GR : Addr} {tkF12 : Tok} {tkF40 : Tok} {fGround_init : Addr} {ocGround_init kVGround_init dcGround_init pmGround_init cdGround_init ctGround_init : Value} {odGround_init anGround_init : Option Addr} {slGround_init : Array (Option Value)} {pGround_plain gGround_plain : Addr} {rGround_plain : List Value} {ocGround_plain kVGround_plain dcGround_plain pmGround_plain cdGround_plain ctGround_plain : Value} {odGround_plain anGround_plain : Option Addr} {slGround_plain : Array (Option Value)} {fGround_eq : Addr} {ocGround_eq kVGround_eq dcGround_eq pmGround_eq cdGround_eq ctGround_eq : Value} {odGround_eq anGround_eq : Option Addr} {slGround_eq : Array (Option Value)} {fpool : Addr} {ocpool kVpool dcpool pmpool cdpool ctpool : Value} {odpool anpool : Option Addr} {slpool : Array (Option Value)} {fmix : Addr} {ocmix kVmix dcmix pmmix cdmix ctmix : Value} {odmix anmix : Option Addr} {slmix : Array (Option Value)} {fdraw : Addr} {ocdraw kVdraw dcdraw pmdraw cddraw ctdraw : Value} {oddraw andraw : Option Addr} {sldraw : Array (Option Value)} {fwide : Addr} {ocwide kVwide dcwide pmwide cdwide ctwide : Value} {odwide anwide : Option Addr} {slwide : Array (Option Value)} {fwhole : Addr} {ocwhole kVwhole dcwhole pmwhole cdwhole ctwhole : Value} {odwhole anwhole : Option Addr} {slwhole : Array (Option Value)} {fworth : Addr} {ocworth kVworth dcworth pmworth cdworth ctworth : Value} {odworth anworth : Option Addr} {slworth : Array (Option Value)} {fmany : Addr} {ocmany kVmany dcmany pmmany cdmany ctmany : Value} {odmany anmany : Option Addr} {slmany : Array (Option Value)} {frows : Addr} {ocrows kVrows dcrows pmrows cdrows ctrows : Value} {odrows anrows : Option Addr} {slrows : Array (Option Value)} {fground : Addr} {ocground kVground dcground pmground cdground ctground : Value} {odground anground : Option Addr} {slground : Array (Option Value)} {frefused : Addr} {ocrefused kVrefused dcrefused pmrefused cdrefused ctrefused : Value} {odrefused anrefused : Option Addr} {slrefused : Array (Option Value)} {fdue : Addr} {ocdue kVdue dcdue pmdue cddue ctdue : Value} {oddue andue : Option Addr} {sldue : Array (Option Value)} {fmended : Addr} {ocmended kVmended dcmended pmmended cdmended ctmended : Value} {odmended anmended : Option Addr} {slmended : Array (Option Value)} {fshows : Addr} {ocshows kVshows dcshows pmshows cdshows ctshows : Value} {odshows anshows : Option Addr} {slshows : Array (Option Value)} {fothers : Addr} {ocothers kVothers dcothers pmothers cdothers ctothers : Value} {odothers anothers : Option Addr} {slothers : Array (Option Value)} {fcheck_worth : Addr} {occheck_worth kVcheck_worth dccheck_worth pmcheck_worth cdcheck_worth ctcheck_worth : Value} {odcheck_worth ancheck_worth : Option Addr} {slcheck_worth : Array (Option Value)} {fcheck_classes : Addr} {occheck_classes kVcheck_classes dccheck_classes pmcheck_classes cdcheck_classes ctcheck_classes : Value} {odcheck_classes ancheck_classes : Option Addr} {slcheck_classes : Array (Option Value)} {flaw : Addr} {oclaw kVlaw dclaw pmlaw cdlaw ctlaw : Value} {odlaw anlaw : Option Addr} {sllaw : Array (Option Value)}
    (zlen : PySem.W.nsIn K mainGlobals "len" = some none)
    (zint : PySem.W.nsIn K mainGlobals "int" = some none)
    (zabs : PySem.W.nsIn K mainGlobals "abs" = some none)
    (zrange : PySem.W.nsIn K mainGlobals "range" = some none)
    (zisinstance : PySem.W.nsIn K mainGlobals "isinstance" = some none)
    (zmax : PySem.W.nsIn K mainGlobals "max" = some none)
    (zmin : PySem.W.nsIn K mainGlobals "min" = some none)
    (zsum : PySem.W.nsIn K mainGlobals "sum" = some none)
    (zstr : PySem.W.nsIn K mainGlobals "str" = some none)
    (zbool : PySem.W.nsIn K mainGlobals "bool" = some none)
    (zlist : PySem.W.nsIn K mainGlobals "list" = some none)
    (zValueError : PySem.W.nsIn K mainGlobals "ValueError" = some none)
    (hnO : PySem.W.specialIn K (.builtin "object.__class__") "__get__" = some (some (.builtin "getset_descriptor.__get__")))
    (htO : PySem.W.takesIn K (.builtin "object.__class__") = some true)
    (aLE : PySem.W.nsIn K mainGlobals "LotError" = some (some (.ref LE)))
    (hdLE : PySem.W.hasDictIn K LE = true)
    (teLE : PySem.W.typeIn K (.ref LE) = some (.type "type"))
    (aBN : PySem.W.nsIn K mainGlobals "BadNumber" = some (some (.ref BN)))
    (xBN : K.lookup BN = some (excClassObj nmE qE BN NE bsE [.ref LE, .type "ValueError", .type "Exception", .type "BaseException", .type "object"] true snE subE abE colE ddE mE0 mE1 mE2 mE3 mE5 "ValueError.__new__"))
    (saBN : PySem.W.findIn K (.ref BN) "__setattr__" = some (some (.builtin "object.__setattr__")))
    (keBN : PySem.W.keepIn K (.ref BN) = true)
    (beBN : PySem.W.subIn K (.ref BN) (.type "BaseException") = some true)
    (teBN : PySem.W.typeIn K (.ref BN) = some (.type "type"))
    (seBN : PySem.W.subIn K (.ref BN) (.ref BN) = some true)
    (geBN : PySem.W.findIn K (.ref BN) "__getattribute__" = some (some (.builtin "BaseException.__getattribute__")))
    (ggBN : PySem.W.findIn K (.ref BN) "__getattr__" = some none)
    (hdBN : PySem.W.hasDictIn K BN = true)
    (hcBN : PySem.W.findIn K (.ref BN) "__class__" = some (some (.builtin "object.__class__")))
    (hoBN : PySem.W.mroIn K BN (.type "object") = some true)
    (veBN : PySem.W.subIn K (.ref BN) (.type "ValueError") = some true)
    (fnBN : PySem.W.findIn K (.ref BN) "name" = some none)
    (fvBN : PySem.W.findIn K (.ref BN) "value" = some none)
    (aBadNumber_init : PySem.W.findIn K (.ref BN) "__init__" = some (some (.ref fBadNumber_init)))
    (tBadNumber_init : PySem.W.typeIn K (.ref fBadNumber_init) = some (.type "function"))
    (lBadNumber_init : K.lookup fBadNumber_init = some ⟨ocBadNumber_init, odBadNumber_init, .func (PySem.W.fnOf "__init__" "BadNumber.__init__" (defArgs s_BadNumber_init) (defBody s_BadNumber_init) (defScope s_BadNumber_init) .none kVBadNumber_init dcBadNumber_init pmBadNumber_init anBadNumber_init cdBadNumber_init ctBadNumber_init), slBadNumber_init⟩)
    (cBadNumber_init : PySem.W.codeIn K cdBadNumber_init "BadNumber.__init__" = true)
    (kBadNumber_init : PySem.W.keepIn K (.ref fBadNumber_init) = true)
    (sBNLE : PySem.W.subIn K (.ref BN) (.ref LE) = some true)
    (kmV : PySem.W.kitMeta "ValueError" = true)
    (aTN : PySem.W.nsIn K mainGlobals "TooMany" = some (some (.ref TN)))
    (xTN : K.lookup TN = some (excClassObj nmT qT TN NT_ bsT [.ref LE, .type "ValueError", .type "Exception", .type "BaseException", .type "object"] true snT subT abT colT ddT mT0 mT1 mT2 mT3 mT5 "ValueError.__new__"))
    (saTN : PySem.W.findIn K (.ref TN) "__setattr__" = some (some (.builtin "object.__setattr__")))
    (keTN : PySem.W.keepIn K (.ref TN) = true)
    (beTN : PySem.W.subIn K (.ref TN) (.type "BaseException") = some true)
    (teTN : PySem.W.typeIn K (.ref TN) = some (.type "type"))
    (seTN : PySem.W.subIn K (.ref TN) (.ref TN) = some true)
    (geTN : PySem.W.findIn K (.ref TN) "__getattribute__" = some (some (.builtin "BaseException.__getattribute__")))
    (ggTN : PySem.W.findIn K (.ref TN) "__getattr__" = some none)
    (hdTN : PySem.W.hasDictIn K TN = true)
    (hcTN : PySem.W.findIn K (.ref TN) "__class__" = some (some (.builtin "object.__class__")))
    (hoTN : PySem.W.mroIn K TN (.type "object") = some true)
    (veTN : PySem.W.subIn K (.ref TN) (.type "ValueError") = some true)
    (fnTN : PySem.W.findIn K (.ref TN) "name" = some none)
    (fMTN : PySem.W.findIn K (.ref TN) "most" = some none)
    (aTooMany_init : PySem.W.findIn K (.ref TN) "__init__" = some (some (.ref fTooMany_init)))
    (tTooMany_init : PySem.W.typeIn K (.ref fTooMany_init) = some (.type "function"))
    (lTooMany_init : K.lookup fTooMany_init = some ⟨ocTooMany_init, odTooMany_init, .func (PySem.W.fnOf "__init__" "TooMany.__init__" (defArgs s_TooMany_init) (defBody s_TooMany_init) (defScope s_TooMany_init) .none kVTooMany_init dcTooMany_init pmTooMany_init anTooMany_init cdTooMany_init ctTooMany_init), slTooMany_init⟩)
    (cTooMany_init : PySem.W.codeIn K cdTooMany_init "TooMany.__init__" = true)
    (kTooMany_init : PySem.W.keepIn K (.ref fTooMany_init) = true)
    (sTNLE : PySem.W.subIn K (.ref TN) (.ref LE) = some true)
    (sTNBN : PySem.W.subIn K (.ref TN) (.ref BN) = some false)
    (sBNTN : PySem.W.subIn K (.ref BN) (.ref TN) = some false)
    (aMC : PySem.W.nsIn K mainGlobals "MOST_CLASSES" = some (some (.int 4 tkMC)))
    (aMW : PySem.W.nsIn K mainGlobals "MOST_WORTH" = some (some (.int 1000 tkMW)))
    (aGR : PySem.W.nsIn K mainGlobals "Ground" = some (some (.ref GR)))
    (pgGR : PySem.W.plainGet K GR Str.empty = true)
    (hdGR : PySem.W.hasDictIn K GR = true)
    (poGR : PySem.W.plainOver K GR = true)
    (saGR : PySem.W.findIn K (.ref GR) "__setattr__" = some (some (.builtin "object.__setattr__")))
    (mkGR : PySem.W.makesIn K GR = true)
    (kcGR : PySem.W.keepIn K (.ref GR) = true)
    (n1GR : PySem.W.findIn K (.ref GR) "classes" = some none)
    (n2GR : PySem.W.findIn K (.ref GR) "fields" = some none)
    (rdGR : PySem.W.readsIn K GR (.type "type") = true)
    (gatGR : PySem.W.specialIn K (.ref GR) "__getattribute__" = some (some (.builtin "type.__getattribute__")))
    (qF12 : PySem.W.findCls K (.ref GR) (.type "type") "MOST_FIELDS" = some (.val (.int 12 tkF12)))
    (qF40 : PySem.W.findCls K (.ref GR) (.type "type") "MOST_FORCES" = some (.val (.int 40 tkF40)))
    (aGround_init : PySem.W.findIn K (.ref GR) "__init__" = some (some (.ref fGround_init)))
    (iGround_init : PySem.W.isFn K (.ref fGround_init) = true)
    (lGround_init : K.lookup fGround_init = some ⟨ocGround_init, odGround_init, .func (PySem.W.fnOf "__init__" "Ground.__init__" (defArgs s_Ground_init) (defBody s_Ground_init) (defScope s_Ground_init) .none kVGround_init dcGround_init pmGround_init anGround_init cdGround_init ctGround_init), slGround_init⟩)
    (cGround_init : PySem.W.codeIn K cdGround_init "Ground.__init__" = true)
    (kGround_init : PySem.W.keepIn K (.ref fGround_init) = true)
    (q1Ground_plain : PySem.W.findCls K (.ref GR) (.type "type") "plain" = some (.get (.builtin "classmethod.__get__") (.ref pGround_plain) .none (.ref GR)))
    (q2Ground_plain : PySem.W.recIn K pGround_plain "classmethod" = some (.ref gGround_plain :: rGround_plain))
    (q3Ground_plain : PySem.W.fnIn K gGround_plain = true)
    (lGround_plain : K.lookup gGround_plain = some ⟨ocGround_plain, odGround_plain, .func (PySem.W.fnOf "plain" "Ground.plain" (defArgs s_Ground_plain) (defBody s_Ground_plain) (defScope s_Ground_plain) .none kVGround_plain dcGround_plain pmGround_plain anGround_plain cdGround_plain ctGround_plain), slGround_plain⟩)
    (cGround_plain : PySem.W.codeIn K cdGround_plain "Ground.plain" = true)
    (kGround_plain : PySem.W.keepIn K (.ref gGround_plain) = true)
    (haGR : PySem.W.findIn K (.ref GR) "__class__" = some (some (.builtin "object.__class__")))
    (hmGR : PySem.W.mroIn K GR (.type "object") = some true)
    (aGround_eq : PySem.W.findIn K (.ref GR) "__eq__" = some (some (.ref fGround_eq)))
    (iGround_eq : PySem.W.isFn K (.ref fGround_eq) = true)
    (lGround_eq : K.lookup fGround_eq = some ⟨ocGround_eq, odGround_eq, .func (PySem.W.fnOf "__eq__" "Ground.__eq__" (defArgs s_Ground_eq) (defBody s_Ground_eq) (defScope s_Ground_eq) .none kVGround_eq dcGround_eq pmGround_eq anGround_eq cdGround_eq ctGround_eq), slGround_eq⟩)
    (cGround_eq : PySem.W.codeIn K cdGround_eq "Ground.__eq__" = true)
    (kGround_eq : PySem.W.keepIn K (.ref fGround_eq) = true)
    (apool : PySem.W.nsIn K mainGlobals "_law_pool" = some (some (.ref fpool)))
    (lpool : K.lookup fpool = some ⟨ocpool, odpool, .func (PySem.W.fnOf "_law_pool" "_law_pool" (defArgs s_pool) (defBody s_pool) (defScope s_pool) .none kVpool dcpool pmpool anpool cdpool ctpool), slpool⟩)
    (cpool : PySem.W.codeIn K cdpool "_law_pool" = true)
    (kpool : PySem.W.keepIn K (.ref fpool) = true)
    (amix : PySem.W.nsIn K mainGlobals "_law_mix" = some (some (.ref fmix)))
    (lmix : K.lookup fmix = some ⟨ocmix, odmix, .func (PySem.W.fnOf "_law_mix" "_law_mix" (defArgs s_mix) (defBody s_mix) (defScope s_mix) .none kVmix dcmix pmmix anmix cdmix ctmix), slmix⟩)
    (cmix : PySem.W.codeIn K cdmix "_law_mix" = true)
    (kmix : PySem.W.keepIn K (.ref fmix) = true)
    (adraw : PySem.W.nsIn K mainGlobals "_law_draw" = some (some (.ref fdraw)))
    (ldraw : K.lookup fdraw = some ⟨ocdraw, oddraw, .func (PySem.W.fnOf "_law_draw" "_law_draw" (defArgs s_draw) (defBody s_draw) (defScope s_draw) .none kVdraw dcdraw pmdraw andraw cddraw ctdraw), sldraw⟩)
    (cdraw : PySem.W.codeIn K cddraw "_law_draw" = true)
    (kdraw : PySem.W.keepIn K (.ref fdraw) = true)
    (awide : PySem.W.nsIn K mainGlobals "_law_wide" = some (some (.ref fwide)))
    (lwide : K.lookup fwide = some ⟨ocwide, odwide, .func (PySem.W.fnOf "_law_wide" "_law_wide" (defArgs s_wide) (defBody s_wide) (defScope s_wide) .none kVwide dcwide pmwide anwide cdwide ctwide), slwide⟩)
    (cwide : PySem.W.codeIn K cdwide "_law_wide" = true)
    (kwide : PySem.W.keepIn K (.ref fwide) = true)
    (awhole : PySem.W.nsIn K mainGlobals "_law_whole" = some (some (.ref fwhole)))
    (lwhole : K.lookup fwhole = some ⟨ocwhole, odwhole, .func (PySem.W.fnOf "_law_whole" "_law_whole" (defArgs s_whole) (defBody s_whole) (defScope s_whole) .none kVwhole dcwhole pmwhole anwhole cdwhole ctwhole), slwhole⟩)
    (cwhole : PySem.W.codeIn K cdwhole "_law_whole" = true)
    (kwhole : PySem.W.keepIn K (.ref fwhole) = true)
    (aworth : PySem.W.nsIn K mainGlobals "_law_worth" = some (some (.ref fworth)))
    (lworth : K.lookup fworth = some ⟨ocworth, odworth, .func (PySem.W.fnOf "_law_worth" "_law_worth" (defArgs s_worth) (defBody s_worth) (defScope s_worth) .none kVworth dcworth pmworth anworth cdworth ctworth), slworth⟩)
    (cworth : PySem.W.codeIn K cdworth "_law_worth" = true)
    (kworth : PySem.W.keepIn K (.ref fworth) = true)
    (amany : PySem.W.nsIn K mainGlobals "_law_many" = some (some (.ref fmany)))
    (lmany : K.lookup fmany = some ⟨ocmany, odmany, .func (PySem.W.fnOf "_law_many" "_law_many" (defArgs s_many) (defBody s_many) (defScope s_many) .none kVmany dcmany pmmany anmany cdmany ctmany), slmany⟩)
    (cmany : PySem.W.codeIn K cdmany "_law_many" = true)
    (kmany : PySem.W.keepIn K (.ref fmany) = true)
    (arows : PySem.W.nsIn K mainGlobals "_law_rows" = some (some (.ref frows)))
    (lrows : K.lookup frows = some ⟨ocrows, odrows, .func (PySem.W.fnOf "_law_rows" "_law_rows" (defArgs s_rows) (defBody s_rows) (defScope s_rows) .none kVrows dcrows pmrows anrows cdrows ctrows), slrows⟩)
    (crows : PySem.W.codeIn K cdrows "_law_rows" = true)
    (krows : PySem.W.keepIn K (.ref frows) = true)
    (aground : PySem.W.nsIn K mainGlobals "_law_ground" = some (some (.ref fground)))
    (lground : K.lookup fground = some ⟨ocground, odground, .func (PySem.W.fnOf "_law_ground" "_law_ground" (defArgs s_ground) (defBody s_ground) (defScope s_ground) .none kVground dcground pmground anground cdground ctground), slground⟩)
    (cground : PySem.W.codeIn K cdground "_law_ground" = true)
    (kground : PySem.W.keepIn K (.ref fground) = true)
    (arefused : PySem.W.nsIn K mainGlobals "_law_refused" = some (some (.ref frefused)))
    (lrefused : K.lookup frefused = some ⟨ocrefused, odrefused, .func (PySem.W.fnOf "_law_refused" "_law_refused" (defArgs s_refused) (defBody s_refused) (defScope s_refused) .none kVrefused dcrefused pmrefused anrefused cdrefused ctrefused), slrefused⟩)
    (crefused : PySem.W.codeIn K cdrefused "_law_refused" = true)
    (krefused : PySem.W.keepIn K (.ref frefused) = true)
    (adue : PySem.W.nsIn K mainGlobals "_law_due" = some (some (.ref fdue)))
    (ldue : K.lookup fdue = some ⟨ocdue, oddue, .func (PySem.W.fnOf "_law_due" "_law_due" (defArgs s_due) (defBody s_due) (defScope s_due) .none kVdue dcdue pmdue andue cddue ctdue), sldue⟩)
    (cdue : PySem.W.codeIn K cddue "_law_due" = true)
    (kdue : PySem.W.keepIn K (.ref fdue) = true)
    (amended : PySem.W.nsIn K mainGlobals "_law_mended" = some (some (.ref fmended)))
    (lmended : K.lookup fmended = some ⟨ocmended, odmended, .func (PySem.W.fnOf "_law_mended" "_law_mended" (defArgs s_mended) (defBody s_mended) (defScope s_mended) .none kVmended dcmended pmmended anmended cdmended ctmended), slmended⟩)
    (cmended : PySem.W.codeIn K cdmended "_law_mended" = true)
    (kmended : PySem.W.keepIn K (.ref fmended) = true)
    (ashows : PySem.W.nsIn K mainGlobals "_law_shows" = some (some (.ref fshows)))
    (lshows : K.lookup fshows = some ⟨ocshows, odshows, .func (PySem.W.fnOf "_law_shows" "_law_shows" (defArgs s_shows) (defBody s_shows) (defScope s_shows) .none kVshows dcshows pmshows anshows cdshows ctshows), slshows⟩)
    (cshows : PySem.W.codeIn K cdshows "_law_shows" = true)
    (kshows : PySem.W.keepIn K (.ref fshows) = true)
    (aothers : PySem.W.nsIn K mainGlobals "_law_others" = some (some (.ref fothers)))
    (lothers : K.lookup fothers = some ⟨ocothers, odothers, .func (PySem.W.fnOf "_law_others" "_law_others" (defArgs s_others) (defBody s_others) (defScope s_others) .none kVothers dcothers pmothers anothers cdothers ctothers), slothers⟩)
    (cothers : PySem.W.codeIn K cdothers "_law_others" = true)
    (kothers : PySem.W.keepIn K (.ref fothers) = true)
    (acheck_worth : PySem.W.nsIn K mainGlobals "check_worth" = some (some (.ref fcheck_worth)))
    (lcheck_worth : K.lookup fcheck_worth = some ⟨occheck_worth, odcheck_worth, .func (PySem.W.fnOf "check_worth" "check_worth" (defArgs s_check_worth) (defBody s_check_worth) (defScope s_check_worth) .none kVcheck_worth dccheck_worth pmcheck_worth ancheck_worth cdcheck_worth ctcheck_worth), slcheck_worth⟩)
    (ccheck_worth : PySem.W.codeIn K cdcheck_worth "check_worth" = true)
    (kcheck_worth : PySem.W.keepIn K (.ref fcheck_worth) = true)
    (acheck_classes : PySem.W.nsIn K mainGlobals "_check_classes" = some (some (.ref fcheck_classes)))
    (lcheck_classes : K.lookup fcheck_classes = some ⟨occheck_classes, odcheck_classes, .func (PySem.W.fnOf "_check_classes" "_check_classes" (defArgs s_check_classes) (defBody s_check_classes) (defScope s_check_classes) .none kVcheck_classes dccheck_classes pmcheck_classes ancheck_classes cdcheck_classes ctcheck_classes), slcheck_classes⟩)
    (ccheck_classes : PySem.W.codeIn K cdcheck_classes "_check_classes" = true)
    (kcheck_classes : PySem.W.keepIn K (.ref fcheck_classes) = true)
    (alaw : PySem.W.nsIn K mainGlobals "law" = some (some (.ref flaw)))
    (llaw : K.lookup flaw = some ⟨oclaw, odlaw, .func (PySem.W.fnOf "law" "law" (defArgs s_law) (defBody s_law) (defScope s_law) .none kVlaw dclaw pmlaw anlaw cdlaw ctlaw), sllaw⟩)
    (claw : PySem.W.codeIn K cdlaw "law" = true)
    (klaw : PySem.W.keepIn K (.ref flaw) = true) :
    ∃ fd : FuncData, (∀ (s : Shared) (v : Value), BindsTo s fd ⟨[v], []⟩ [("_law_script", v)]) ∧ ∀ base : Heap, K.In base → base.Ns mainGlobals mg → FnOk l.prog w K mg base CX0 9 fa fd ["_law_script"] (spLaw K) := by
  have e := hfa.symm.trans (PySem.W.mg_of X G alaw)
  cases e
  have B : Blt mg := ⟨PySem.W.mg_none_of X G zlen, PySem.W.mg_none_of X G zint, PySem.W.mg_none_of X G zabs, PySem.W.mg_none_of X G zrange, PySem.W.mg_none_of X G zisinstance, PySem.W.mg_none_of X G zmax, PySem.W.mg_none_of X G zmin, PySem.W.mg_none_of X G zsum, PySem.W.mg_none_of X G zstr, PySem.W.mg_none_of X G zbool, PySem.W.mg_none_of X G zlist, PySem.W.mg_none_of X G zValueError⟩
  have gLotError := PySem.W.mg_of X G aLE
  have gBadNumber := PySem.W.mg_of X G aBN
  have rBN : PySem.HandSPX.refsVE [.ref LE, .type "ValueError", .type "Exception", .type "BaseException", .type "object"] = true := (show PySem.HandSPX.refsVE [.type "ValueError", .type "Exception", .type "BaseException", .type "object"] = true by decide +kernel)
  have TB : BnC K mg BN := ⟨⟨⟨nmE, qE, NE, bsE, _, snE, subE, abE, colE, ddE, mE0, mE1, mE2, mE3, mE5, xBN, rBN⟩, saBN, beBN, teBN, keBN⟩, gBadNumber, fnBN, fvBN, ⟨geBN, ggBN, beBN, hdBN, hcBN, hnO, htO, hoBN⟩, seBN⟩
  have FB := fun_mk (st := s_BadNumber_init) lBadNumber_init cBadNumber_init kBadNumber_init
  have bB := FB.binds (ps := ["self", "name", "value"]) fun _ _ _ _ _ _ us hl => match us, hl with | [_, _, _], _ => rfl
  have gTooMany := PySem.W.mg_of X G aTN
  have rTN : PySem.HandSPX.refsVE [.ref LE, .type "ValueError", .type "Exception", .type "BaseException", .type "object"] = true := (show PySem.HandSPX.refsVE [.type "ValueError", .type "Exception", .type "BaseException", .type "object"] = true by decide +kernel)
  have TM : TmC K mg TN := ⟨⟨⟨nmT, qT, NT_, bsT, _, snT, subT, abT, colT, ddT, mT0, mT1, mT2, mT3, mT5, xTN, rTN⟩, saTN, beTN, teTN, keTN⟩, gTooMany, fnTN, fMTN, ⟨geTN, ggTN, beTN, hdTN, hcTN, hnO, htO, hoTN⟩, seTN⟩
  have FT := fun_mk (st := s_TooMany_init) lTooMany_init cTooMany_init kTooMany_init
  have bT := FT.binds (ps := ["self", "name", "most"]) fun _ _ _ _ _ _ us hl => match us, hl with | [_, _, _], _ => rfl
  have gMC := PySem.W.mg_of X G aMC
  have gMW := PySem.W.mg_of X G aMW
  have gGround := PySem.W.mg_of X G aGR
  have TG : GrC K mg GR := ⟨⟨pgGR, hdGR, poGR, saGR⟩, n1GR, n2GR, gGround⟩
  have CRGR : ClX.CRead K GR (.type "type") := ⟨rdGR, gatGR⟩
  have CF12 : ClX.CVal K GR (.type "type") "MOST_FIELDS" (.int 12) (.int 12 tkF12) := ⟨qF12, ⟨_, rfl⟩⟩
  have CF40 : ClX.CVal K GR (.type "type") "MOST_FORCES" (.int 40) (.int 40 tkF40) := ⟨qF40, ⟨_, rfl⟩⟩
  have MKG : Mk K GR fGround_init := ⟨mkGR, aGround_init, iGround_init, kcGR⟩
  have CRGR : ClX.CRead K GR (.type "type") := ⟨rdGR, gatGR⟩
  have FGround_plain := fun_mk (st := s_Ground_plain) lGround_plain cGround_plain kGround_plain
  have bGround_plain := FGround_plain.binds (ps := ["cls", "fields"]) fun _ _ _ _ _ _ us hl => match us, hl with | [_, _], _ => rfl
  have CMGround_plain : ClX.CMet K GR (.type "type") "plain" pGround_plain gGround_plain := ⟨q1Ground_plain, ⟨_, q2Ground_plain⟩, q3Ground_plain⟩
  have TX : GrX K mg GR := ⟨TG.cl, gGround, haGR, hnO, htO, hmGR⟩
  have FGround_eq := fun_mk (st := s_Ground_eq) lGround_eq cGround_eq kGround_eq
  have bGround_eq := FGround_eq.binds (ps := ["self", "other"]) fun _ _ _ _ _ _ us hl => match us, hl with | [_, _], _ => rfl
  have Fpool := fun_mk (st := s_pool) lpool cpool kpool
  have Dpool : Dfn K mg "_law_pool" "_law_pool" s_pool ["_law_script"] := ⟨fpool, _, Fpool, PySem.W.mg_of X G apool, Fpool.binds (ps := ["_law_script"]) fun _ _ _ _ _ _ us hl => match us, hl with | [_], _ => rfl⟩
  have Fmix := fun_mk (st := s_mix) lmix cmix kmix
  have Dmix : Dfn K mg "_law_mix" "_law_mix" s_mix ["_law_state", "_law_turn", "_law_many_here"] := ⟨fmix, _, Fmix, PySem.W.mg_of X G amix, Fmix.binds (ps := ["_law_state", "_law_turn", "_law_many_here"]) fun _ _ _ _ _ _ us hl => match us, hl with | [_, _, _], _ => rfl⟩
  have Fdraw := fun_mk (st := s_draw) ldraw cdraw kdraw
  have Ddraw : Dfn K mg "_law_draw" "_law_draw" s_draw ["_law_pool_here", "_law_many_here"] := ⟨fdraw, _, Fdraw, PySem.W.mg_of X G adraw, Fdraw.binds (ps := ["_law_pool_here", "_law_many_here"]) fun _ _ _ _ _ _ us hl => match us, hl with | [_, _], _ => rfl⟩
  have Fwide := fun_mk (st := s_wide) lwide cwide kwide
  have Dwide : Dfn K mg "_law_wide" "_law_wide" s_wide ["_law_pool_here"] := ⟨fwide, _, Fwide, PySem.W.mg_of X G awide, Fwide.binds (ps := ["_law_pool_here"]) fun _ _ _ _ _ _ us hl => match us, hl with | [_], _ => rfl⟩
  have Fwhole := fun_mk (st := s_whole) lwhole cwhole kwhole
  have Dwhole : Dfn K mg "_law_whole" "_law_whole" s_whole ["_law_actual"] := ⟨fwhole, _, Fwhole, PySem.W.mg_of X G awhole, Fwhole.binds (ps := ["_law_actual"]) fun _ _ _ _ _ _ us hl => match us, hl with | [_], _ => rfl⟩
  have Fworth := fun_mk (st := s_worth) lworth cworth kworth
  have Dworth : Dfn K mg "_law_worth" "_law_worth" s_worth ["_law_pool_here"] := ⟨fworth, _, Fworth, PySem.W.mg_of X G aworth, Fworth.binds (ps := ["_law_pool_here"]) fun _ _ _ _ _ _ us hl => match us, hl with | [_], _ => rfl⟩
  have Fmany := fun_mk (st := s_many) lmany cmany kmany
  have Dmany : Dfn K mg "_law_many" "_law_many" s_many ["_law_pool_here", "_law_used"] := ⟨fmany, _, Fmany, PySem.W.mg_of X G amany, Fmany.binds (ps := ["_law_pool_here", "_law_used"]) fun _ _ _ _ _ _ us hl => match us, hl with | [_, _], _ => rfl⟩
  have Frows := fun_mk (st := s_rows) lrows crows krows
  have Drows : Dfn K mg "_law_rows" "_law_rows" s_rows ["_law_pool_here"] := ⟨frows, _, Frows, PySem.W.mg_of X G arows, Frows.binds (ps := ["_law_pool_here"]) fun _ _ _ _ _ _ us hl => match us, hl with | [_], _ => rfl⟩
  have Fground := fun_mk (st := s_ground) lground cground kground
  have Dground : Dfn K mg "_law_ground" "_law_ground" s_ground ["_law_rows_here"] := ⟨fground, _, Fground, PySem.W.mg_of X G aground, Fground.binds (ps := ["_law_rows_here"]) fun _ _ _ _ _ _ us hl => match us, hl with | [_], _ => rfl⟩
  have Frefused := fun_mk (st := s_refused) lrefused crefused krefused
  have Drefused : Dfn K mg "_law_refused" "_law_refused" s_refused ["_law_rows_here", "_law_plain"] := ⟨frefused, _, Frefused, PySem.W.mg_of X G arefused, Frefused.binds (ps := ["_law_rows_here", "_law_plain"]) fun _ _ _ _ _ _ us hl => match us, hl with | [_, _], _ => rfl⟩
  have Fdue := fun_mk (st := s_due) ldue cdue kdue
  have Ddue : Dfn K mg "_law_due" "_law_due" s_due ["_law_rows_here"] := ⟨fdue, _, Fdue, PySem.W.mg_of X G adue, Fdue.binds (ps := ["_law_rows_here"]) fun _ _ _ _ _ _ us hl => match us, hl with | [_], _ => rfl⟩
  have Fmended := fun_mk (st := s_mended) lmended cmended kmended
  have Dmended : Dfn K mg "_law_mended" "_law_mended" s_mended ["_law_rows_here"] := ⟨fmended, _, Fmended, PySem.W.mg_of X G amended, Fmended.binds (ps := ["_law_rows_here"]) fun _ _ _ _ _ _ us hl => match us, hl with | [_], _ => rfl⟩
  have Fshows := fun_mk (st := s_shows) lshows cshows kshows
  have Dshows : Dfn K mg "_law_shows" "_law_shows" s_shows ["_law_ground_here", "_law_rows_here"] := ⟨fshows, _, Fshows, PySem.W.mg_of X G ashows, Fshows.binds (ps := ["_law_ground_here", "_law_rows_here"]) fun _ _ _ _ _ _ us hl => match us, hl with | [_, _], _ => rfl⟩
  have Fothers := fun_mk (st := s_others) lothers cothers kothers
  have Dothers : Dfn K mg "_law_others" "_law_others" s_others ["_law_pool_here", "_law_good"] := ⟨fothers, _, Fothers, PySem.W.mg_of X G aothers, Fothers.binds (ps := ["_law_pool_here", "_law_good"]) fun _ _ _ _ _ _ us hl => match us, hl with | [_, _], _ => rfl⟩
  have Fcheck_worth := fun_mk (st := s_check_worth) lcheck_worth ccheck_worth kcheck_worth
  have Dcheck_worth : Dfn K mg "check_worth" "check_worth" s_check_worth ["worth"] := ⟨fcheck_worth, _, Fcheck_worth, PySem.W.mg_of X G acheck_worth, Fcheck_worth.binds (ps := ["worth"]) fun _ _ _ _ _ _ us hl => match us, hl with | [_], _ => rfl⟩
  have Fcheck_classes := fun_mk (st := s_check_classes) lcheck_classes ccheck_classes kcheck_classes
  have Dcheck_classes : Dfn K mg "_check_classes" "_check_classes" s_check_classes ["classes"] := ⟨fcheck_classes, _, Fcheck_classes, PySem.W.mg_of X G acheck_classes, Fcheck_classes.binds (ps := ["classes"]) fun _ _ _ _ _ _ us hl => match us, hl with | [_], _ => rfl⟩
  have Flaw := fun_mk (st := s_law) llaw claw klaw
  refine ⟨PySem.W.fnOf "law" "law" (defArgs s_law) (defBody s_law) (defScope s_law) .none kVlaw dclaw pmlaw anlaw cdlaw ctlaw, fun s v => .of_eq rfl, fun base _ _ => ?_⟩
  have CE : CalE l.prog w K mg base 1 BN := ⟨_, _, aBadNumber_init, tBadNumber_init, ok_bn TB FB, bB⟩
  have CT : CalTE l.prog w K mg base 1 TN := ⟨_, _, aTooMany_init, tTooMany_init, ok_tm TM FT, bT⟩
  have cmix := ok_mix (P := l.prog) (w := w) (base := base) B Dmix
  have cdraw := ok_draw B Ddraw cmix
  have cdraw1 := ok_draw1 B Ddraw cmix
  have cwide := ok_wide B Dwide cdraw
  have cpool := ok_pool (P := l.prog) (w := w) (base := base) B Dpool
  have cwhole := ok_whole (P := l.prog) (w := w) (base := base) B Dwhole
  have ccw := ok_cw TB CE gMW Dcheck_worth
  have ccc := ok_cc B TG TB CE TM CT CRGR CF12 gMC ccw Dcheck_classes
  have FG := ok_gr_init B TG lGround_init cGround_init ccc
  have CPL : Bx.CalCM l.prog w K mg base 7 GR "plain" ["cls", "fields"] (spPlain GR BN TN) := ⟨_, _, _, _, CRGR, CMGround_plain, ok_plain B TG MKG FG FGround_plain, bGround_plain⟩
  have EQ : Bx.OpOwn l.prog w K mg base 1 GR (cmpInfo .Eq).2.1 ["self", "other"] (spGEq GR) := ⟨_, _, aGround_eq, iGround_eq, ok_geq B TG TX FGround_eq, bGround_eq⟩
  have clg := ok_lgr B TG MKG FG Dground
  have cw1 := ok_w1 cdraw cwide Dworth
  have cm1 := ok_m1 B cdraw cwide Dmany
  have crows := ok_rows B cdraw cw1 cm1 Drows
  have cref := ok_ref B TG TB TM gLotError gBadNumber gTooMany (kit_own hdLE teLE sBNLE seBN) (kit_type kmV veBN) (kit_own hdTN teTN sBNTN seBN) (kit_own hdLE teLE sTNLE seTN) (kit_type kmV veTN) (kit_own hdBN teBN sTNBN seTN) (PySem.W.exm_ref beBN hdBN teBN sTNBN) CPL clg cwhole Drefused
  have cdue := ok_due (P := l.prog) (w := w) (base := base) B Ddue
  have cme := ok_me (P := l.prog) (w := w) (base := base) B Dmended
  have csh := ok_sh B TG TX cwhole Dshows
  have coth := ok_oth B cdraw cdraw1 Dothers
  exact ok_law B TG MKG FG CRGR CF12 CF40 EQ CPL Flaw cpool cdraw crows cref cdue cme clg csh coth cwhole
end L

set_option Elab.async false

set_option pp.maxSteps 160
set_option pp.deepTerms false
open PySem PySem.W PyProof.Rows
set_option maxRecDepth 100000 in
set_option maxHeartbeats 0 in
theorem PySem.Challenge.cw_fieldlots_k39_grounds_holds : PySem.Challenge.rw_fieldlots_k39_grounds.Holds := by
  w_on; o_law; k_head; (case hw => w_witness2)
  k_fill
  refine L2.walk_of (l := PySem.Challenge.rw_fieldlots_k39_grounds) (n := 63) (k := 9) (x := "_law_script") (CX := fun _ => L2.CX0) (sp := fun w => L.spLaw _) rfl (by decide) rfl ⟨rfl, by decide, by decide⟩ (fun w h Y => PySem.W.kIn_of Y) ?F (fun _ _ a ns hl _ hS => ⟨a, ns, rfl, hS, hl, fun _ => rfl⟩) (fun _ _ _ _ _ h => h)
  case F =>
    intro w mg fa h KX G hmg
    refine' L.all_mk KX G hmg ?zlen ?zint ?zabs ?zrange ?zisinstance ?zmax ?zmin ?zsum ?zstr ?zbool ?zlist ?zValueError ?hnO ?htO ?aLE ?hdLE ?teLE ?aBN ?xBN ?saBN ?keBN ?beBN ?teBN ?seBN ?geBN ?ggBN ?hdBN ?hcBN ?hoBN ?veBN ?fnBN ?fvBN ?aBadNumber_init ?tBadNumber_init ?lBadNumber_init ?cBadNumber_init ?kBadNumber_init ?sBNLE ?kmV ?aTN ?xTN ?saTN ?keTN ?beTN ?teTN ?seTN ?geTN ?ggTN ?hdTN ?hcTN ?hoTN ?veTN ?fnTN ?fMTN ?aTooMany_init ?tTooMany_init ?lTooMany_init ?cTooMany_init ?kTooMany_init ?sTNLE ?sTNBN ?sBNTN ?aMC ?aMW ?aGR ?pgGR ?hdGR ?poGR ?saGR ?mkGR ?kcGR ?n1GR ?n2GR ?rdGR ?gatGR ?qF12 ?qF40 ?aGround_init ?iGround_init ?lGround_init ?cGround_init ?kGround_init ?q1Ground_plain ?q2Ground_plain ?q3Ground_plain ?lGround_plain ?cGround_plain ?kGround_plain ?haGR ?hmGR ?aGround_eq ?iGround_eq ?lGround_eq ?cGround_eq ?kGround_eq ?apool ?lpool ?cpool ?kpool ?amix ?lmix ?cmix ?kmix ?adraw ?ldraw ?cdraw ?kdraw ?awide ?lwide ?cwide ?kwide ?awhole ?lwhole ?cwhole ?kwhole ?aworth ?lworth ?cworth ?kworth ?amany ?lmany ?cmany ?kmany ?arows ?lrows ?crows ?krows ?aground ?lground ?cground ?kground ?arefused ?lrefused ?crefused ?krefused ?adue ?ldue ?cdue ?kdue ?amended ?lmended ?cmended ?kmended ?ashows ?lshows ?cshows ?kshows ?aothers ?lothers ?cothers ?kothers ?acheck_worth ?lcheck_worth ?ccheck_worth ?kcheck_worth ?acheck_classes ?lcheck_classes ?ccheck_classes ?kcheck_classes ?alaw ?llaw ?claw ?klaw
    (case zlen => k_is)
    (case zint => k_is)
    (case zabs => k_is)
    (case zrange => k_is)
    (case zisinstance => k_is)
    (case zmax => k_is)
    (case zmin => k_is)
    (case zsum => k_is)
    (case zstr => k_is)
    (case zbool => k_is)
    (case zlist => k_is)
    (case zValueError => k_is)
    (case hnO => k_is)
    (case htO => k_is)
    (case aLE => k_is)
    (case hdLE => k_is)
    (case teLE => k_is)
    (case aBN => k_is)
    (case xBN => k_is)
    (case saBN => k_is)
    (case keBN => k_is)
    (case beBN => k_is)
    (case teBN => k_is)
    (case seBN => k_is)
    (case geBN => k_is)
    (case ggBN => k_is)
    (case hdBN => k_is)
    (case hcBN => k_is)
    (case hoBN => k_is)
    (case veBN => k_is)
    (case fnBN => k_is)
    (case fvBN => k_is)
    (case aBadNumber_init => k_is)
    (case tBadNumber_init => k_is)
    (case lBadNumber_init => k_is)
    (case cBadNumber_init => k_is)
    (case kBadNumber_init => k_is)
    (case sBNLE => k_is)
    (case kmV => decide +kernel)
    (case aTN => k_is)
    (case xTN => k_is)
    (case saTN => k_is)
    (case keTN => k_is)
    (case beTN => k_is)
    (case teTN => k_is)
    (case seTN => k_is)
    (case geTN => k_is)
    (case ggTN => k_is)
    (case hdTN => k_is)
    (case hcTN => k_is)
    (case hoTN => k_is)
    (case veTN => k_is)
    (case fnTN => k_is)
    (case fMTN => k_is)
    (case aTooMany_init => k_is)
    (case tTooMany_init => k_is)
    (case lTooMany_init => k_is)
    (case cTooMany_init => k_is)
    (case kTooMany_init => k_is)
    (case sTNLE => k_is)
    (case sTNBN => k_is)
    (case sBNTN => k_is)
    (case aMC => k_is)
    (case aMW => k_is)
    (case aGR => k_is)
    (case pgGR => k_is)
    (case hdGR => k_is)
    (case poGR => k_is)
    (case saGR => k_is)
    (case mkGR => k_is)
    (case kcGR => k_is)
    (case n1GR => k_is)
    (case n2GR => k_is)
    (case rdGR => k_is)
    (case gatGR => k_is)
    (case qF12 => k_is)
    (case qF40 => k_is)
    (case aGround_init => k_is)
    (case iGround_init => k_is)
    (case lGround_init => k_is)
    (case cGround_init => k_is)
    (case kGround_init => k_is)
    (case q1Ground_plain => k_is)
    (case q2Ground_plain => k_is)
    (case q3Ground_plain => k_is)
    (case lGround_plain => k_is)
    (case cGround_plain => k_is)
    (case kGround_plain => k_is)
    (case haGR => k_is)
    (case hmGR => k_is)
    (case aGround_eq => k_is)
    (case iGround_eq => k_is)
    (case lGround_eq => k_is)
    (case cGround_eq => k_is)
    (case kGround_eq => k_is)
    (case apool => k_is)
    (case lpool => k_is)
    (case cpool => k_is)
    (case kpool => k_is)
    (case amix => k_is)
    (case lmix => k_is)
    (case cmix => k_is)
    (case kmix => k_is)
    (case adraw => k_is)
    (case ldraw => k_is)
    (case cdraw => k_is)
    (case kdraw => k_is)
    (case awide => k_is)
    (case lwide => k_is)
    (case cwide => k_is)
    (case kwide => k_is)
    (case awhole => k_is)
    (case lwhole => k_is)
    (case cwhole => k_is)
    (case kwhole => k_is)
    (case aworth => k_is)
    (case lworth => k_is)
    (case cworth => k_is)
    (case kworth => k_is)
    (case amany => k_is)
    (case lmany => k_is)
    (case cmany => k_is)
    (case kmany => k_is)
    (case arows => k_is)
    (case lrows => k_is)
    (case crows => k_is)
    (case krows => k_is)
    (case aground => k_is)
    (case lground => k_is)
    (case cground => k_is)
    (case kground => k_is)
    (case arefused => k_is)
    (case lrefused => k_is)
    (case crefused => k_is)
    (case krefused => k_is)
    (case adue => k_is)
    (case ldue => k_is)
    (case cdue => k_is)
    (case kdue => k_is)
    (case amended => k_is)
    (case lmended => k_is)
    (case cmended => k_is)
    (case kmended => k_is)
    (case ashows => k_is)
    (case lshows => k_is)
    (case cshows => k_is)
    (case kshows => k_is)
    (case aothers => k_is)
    (case lothers => k_is)
    (case cothers => k_is)
    (case kothers => k_is)
    (case acheck_worth => k_is)
    (case lcheck_worth => k_is)
    (case ccheck_worth => k_is)
    (case kcheck_worth => k_is)
    (case acheck_classes => k_is)
    (case lcheck_classes => k_is)
    (case ccheck_classes => k_is)
    (case kcheck_classes => k_is)
    (case alaw => k_is)
    (case llaw => k_is)
    (case claw => k_is)
    (case klaw => k_is)
