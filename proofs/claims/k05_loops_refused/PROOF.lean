import PyProof.Rows.All
import Wide.All
import OpenK.AllK
import Wide.FinOn
import HandS.ForMost
import HandS.Walk
import HandS.WideBits
import HandS.IsInst
import HandS.RaiseMore
import KE.GoesEnum
import HandS.TupAny
import HandS.Evl
import HandS.TupMul
import HandS.ExcInit
import HandS.ExcField
import HandS.ExcOwn
import HandS.TryOnly
import HandS.ForExc
import HandS.Strs
import HandS.SetBool
import HandS.TupLen
import HandS.Zip
import KE.KRevSl
import HandS.TupLe
import HandS.TryMany
import PySem.Challenge.RW_pedalrounds_k05_loops_refused
set_option Elab.async false
set_option linter.all false
set_option maxRecDepth 100000
set_option maxHeartbeats 4000000
/-! Rules of my own for the laws of Pedalrounds: repr of data, enumerate of a tuple, great powers. -/
namespace PySem
section
open PySem.Spec PyProof.Rows Builtin
/-- enumerate(t), t a tuple: the two new cells -/
abbrev myIt (t : Addr) : Obj := { cls := .type "tuple_iterator", data := .fields #[.ref t, .int 0 0] }
abbrev myEn (i : Addr) : Obj := { cls := .type "enumerate", data := .fields #[.none, .bool false, .ref i, rawInt 0, .none, .none] }
theorem my_enum_meets (t : Addr) (items : Array Value) :
    Meets (Builtin.«enumerate.__new__» ⟨[.type "enumerate", .ref t], []⟩)
      (fun _ R s => s.heap.IsTuple t items ∧ R (.ok (.ret (.ref (s.heap.push (myIt t)).objs.size))) { s with heap := (s.heap.push (myIt t)).push (myEn s.heap.objs.size) }) :=
  .of_wp fun prog w A R s hh => by
    obtain ⟨hp, g, dd, tk, os⟩ := s
    obtain ⟨hT, hR⟩ := hh
    have hsub := sub_enumerate
    have go : ∀ {A' : Around} {E Q : Value → Shared → Prop},
        Q (.ref hp.objs.size) ⟨hp.push (myIt t), g, dd, tk, os⟩ → wpAny (model prog w) A' (pyIter (.ref t)) Q E ⟨hp, g, dd, tk, os⟩ :=
      fun q => (begins_tuple t items).iter prog w _ _ ⟨hp, g, dd, tk, os⟩ _ hT q
    wp_walk using go
    refine wpAny_stack_any fun st => wpAny_pure ?_
    split
    · rename_i cc _ _ _ _ _
      cases (cc == Value.type "enumerate") <;> (wp_walk using go; exact ⟨_, rfl, hR⟩)
    · wp_walk using go
      exact ⟨_, rfl, hR⟩
variable {prog : Program} {w : World} {A : Around} {E : Value → Shared → Prop} {s : Shared}
theorem my_call_enum {t : Addr} {items : Array Value} {Q : Value → Shared → Prop} (hT : s.heap.IsTuple t items)
    (k : ∀ h', IsEnum h' (s.heap.objs.size + 1) s.heap.objs.size 0 .none → h'.IsTupleIter s.heap.objs.size t 0 →
      (∀ b o, s.heap.get? b = some o → h'.get? b = some o) → Q (.ref (s.heap.objs.size + 1)) { s with heap := h' }) :
    wpAny (model prog w) A (call (.type "enumerate") [.ref t]) Q E s := by
  refine callType_new F.called_enumerate (by decide) (F.typeCall_enumerate_1 _) (F.newCall_enumerate_1 _)
    (fun obj => F.args_object_init_2 obj _) F.entry_enumerate_new (my_enum_meets t items) ⟨hT, ?_⟩
  have hz : (s.heap.push (myIt t)).objs.size = s.heap.objs.size + 1 := Heap.size_push ..
  show _ ∧ _
  rw [hz]
  have he : IsEnum ((s.heap.push (myIt t)).push (myEn s.heap.objs.size)) (s.heap.objs.size + 1) s.heap.objs.size 0 .none := by
    have q := Heap.get?_push_size (s.heap.push (myIt t)) (o := myEn s.heap.objs.size) rfl
    rw [hz] at q
    exact q
  have hi : ((s.heap.push (myIt t)).push (myEn s.heap.objs.size)).IsTupleIter s.heap.objs.size t 0 := by
    refine ⟨myIt t, ?_, rfl, rfl⟩
    exact Heap.get?_push_of_some _ (Heap.get?_push_size _ rfl)
  refine ⟨⟨_, he, rfl⟩, k _ he hi ?_⟩
  intro b o x
  exact Heap.get?_push_of_some _ (Heap.get?_push_of_some _ x)
end
end PySem
namespace L2
open PySem PySem.Spec PyProof.Rows
/-! ### repr of data -/
theorem my_repr {X : Cx} (hu : X.A.units + 64 < cLine) (hg : X.A.guards = some []) :
    CallR X (.builtin "repr") (fun xs H Q => ∃ x d, xs = [x] ∧ Dp X.K H x d ∧ (isDisplay d = true ∧ d.showable = true ∧ d.hasDict = false ∧ d.depth ≤ 8 ∧ d.shown.length ≤ sizeLine) ∧ Q (.str d.shown) H) := by
  intro pins s σ H xs us Q I r h
  obtain ⟨x, d, rfl, hd, ⟨h1, h2, h3, h4, h5⟩, q⟩ := h
  obtain ⟨u, rfl, ru⟩ := vals1 r
  obtain ⟨as, rd⟩ := Dp.reads I d x u hd ru
  obtain ⟨a, rfl⟩ := isRef_of_reads rd h1
  refine repr_of_reads' rd h2 (PyData.noDict_hsm h3) hg (by omega) (fun _ _ e => e) (fun h' v tk hk => ?_) h5
  exact ⟨.str _, H, I.kept hk, ⟨_, rfl⟩, q⟩
/-! ### great powers -/
def CPowX (i j : Int) : Prop := 0 ≤ j ∧ (Builtin.Int.intBits i : Int) * j ≤ 2 ^ 27
theorem op_powX {X : Cx} : OpR X (binaryOp .Pow) (rI CPowX fun i j => .int (i ^ j.toNat)) :=
  opI fun _ _ _ _ _ _ _ hc q => pow_int hc.1 hc.2 q
/-! ### the built-in names -/
theorem bt_range : bootBuiltins "range" = some (.type "range") := by decide +kernel
theorem bt_int : bootBuiltins "int" = some (.type "int") := by decide +kernel
theorem bt_list : bootBuiltins "list" = some (.type "list") := by decide +kernel
theorem bt_tuple : bootBuiltins "tuple" = some (.type "tuple") := by decide +kernel
theorem bt_bool : bootBuiltins "bool" = some (.type "bool") := by decide +kernel
theorem bt_enumerate : bootBuiltins "enumerate" = some (.type "enumerate") := by decide +kernel
theorem bt_zip : bootBuiltins "zip" = some (.type "zip") := by decide +kernel
theorem bt_str : bootBuiltins "str" = some (.type "str") := by decide +kernel
theorem bt_dict : bootBuiltins "dict" = some (.type "dict") := by decide +kernel
theorem bt_set : bootBuiltins "set" = some (.type "set") := by decide +kernel
theorem bt_len : bootBuiltins "len" = some (.builtin "len") := by decide +kernel
theorem bt_min : bootBuiltins "min" = some (.builtin "min") := by decide +kernel
theorem bt_max : bootBuiltins "max" = some (.builtin "max") := by decide +kernel
theorem bt_repr : bootBuiltins "repr" = some (.builtin "repr") := by decide +kernel
theorem bt_sum : bootBuiltins "sum" = some (.builtin "sum") := by decide +kernel
theorem bt_isinstance : bootBuiltins "isinstance" = some (.builtin "isinstance") := by decide +kernel
theorem bt_any : bootBuiltins "any" = some (.builtin "any") := by decide +kernel
theorem bt_all : bootBuiltins "all" = some (.builtin "all") := by decide +kernel
theorem bt_sorted : bootBuiltins "sorted" = some (.builtin "sorted") := by decide +kernel
theorem bt_abs : bootBuiltins "abs" = some (.builtin "abs") := by decide +kernel
end L2

namespace L2
open PySem PySem.Spec PyProof.Rows
/-! ### enumerate of a tuple, walked -/
def ItE (K : PySem.W.Frag) (a : Addr) : It where
  go := fun i H => ∃ (xs : List V) (x : V), SqT K H a xs ∧ xs[i]? = some x
  yld := fun i H v H' => ∃ T x, v = .ref T ∧ H T = none ∧ H' = upd H T (.tup [.int (i : Nat), x]) ∧
    ∀ xs, SqT K H a xs → xs[i]? = some x
  stop := fun i H => ∃ xs : List V, SqT K H a xs ∧ xs.length = i
def tnE (a e it : Addr) (i : Nat) (h : Heap) : Prop :=
  (∃ old, IsEnum h e it ((i : Nat) : Int) old) ∧ h.IsTupleIter it a i ∧ e ≠ it ∧ a ≠ it ∧ a ≠ e
theorem turn_enumT {P : Program} {w : World} {K : PySem.W.Frag} {elts : List Expr} {kk : Nat} {tpos : Pos} (a e it : Addr) :
    Turn P w K (.Tuple elts kk tpos) (ItE K a) [e, it] e (tnE a e it) where
  mem := by simp
  obj := fun i h st b hb => by
    obtain ⟨⟨old, he⟩, ⟨o, ho, _, hd⟩, _⟩ := st
    rcases (by simpa using hb : b = e ∨ b = it) with z | z <;> subst z
    · exact ⟨_, he, fun v q => nomatch q⟩
    · refine ⟨o, ho, fun v q => ?_⟩
      rw [hd] at q
      cases q
  keep := fun i h h' st k => by
    obtain ⟨⟨old, he⟩, hi, r⟩ := st
    exact ⟨⟨old, k e (by simp) _ he⟩, hi.at (fun o q => k it (by simp) o q), r⟩
  item := by
    intro X hP hw hK hc i pins s σ H E I hf st hg
    subst hP hw hK
    obtain ⟨⟨old, he⟩, hit, hne, hai, hae⟩ := st
    obtain ⟨xs, x, hq, hx⟩ := hg
    obtain ⟨its, rv, p, hz⟩ := I.tuple hq
    obtain ⟨u, hu, ru⟩ := rv.get hx
    have hTu : s.heap.IsTuple a its.toArray := p
    have hel : e < s.heap.objs.size := Heap.lt_size he
    have hil : it < s.heap.objs.size := by
      obtain ⟨_, q, _⟩ := hit
      exact Heap.lt_size q
    have hlt : i < its.toArray.size := by
      have := (List.getElem?_eq_some_iff.mp hu).1
      simpa using this
    have D := Draws.tuple (prog := X.prog) (w := X.w) (A := X.A.in1) (I.ok.hd hc) it a hai its.toArray
    refine wpAny_pyNext_enum_itemD D he ⟨hit, hTu⟩ hlt hne (by simp; exact ⟨hne, Ne.symm hae⟩) fun y h' tk hy ho st' hT hsz hk => ?_
    have ey : y = u := by
      have q : its.toArray[i]? = some u := by simpa using hu
      exact Option.some.inj (hy.symm.trans q)
    subst ey
    refine ⟨_, rfl, wpAny_letOwnedTupleGo_enum (s := { s with heap := h', toks := tk + 1 }) ho fun g he' sb => ?_⟩
    have hT2 : g.get? s.heap.objs.size = some { cls := .type "tuple", data := .seq #[.int i tk, y] } :=
      (sb.2 _ (Nat.ne_of_gt hel)).trans hT
    have new : ObjOk X.prog X.w (upd H s.heap.objs.size (.tup [.int (i : Nat), x])) g s.heap.objs.size (.tup [.int (i : Nat), x]) :=
      ⟨by show 2 ≤ sizeLine; decide, [.int i tk, y], .cons ⟨_, rfl⟩ (.cons ru .nil), ⟨_, hT2, rfl, _, rfl⟩⟩
    have kk : ∀ b ob, b ∉ [e, it] → s.heap.get? b = some ob → g.get? b = some ob := fun b ob hb q => by
      have b1 : b ≠ e := fun z => hb (by simp [z])
      have b2 : b ≠ it := fun z => hb (by simp [z])
      exact (sb.2 b b1).trans (hk b ob b1 b2 q)
    have I1 := I.turnedNew (t' := tk + 1) kk hf (Nat.le_refl _) new
    refine ⟨.ref s.heap.objs.size, _, I1, rfl, ⟨_, x, rfl, I.hok.fresh (Nat.le_refl _), rfl, fun ys hy => ?_⟩, ?_, fun b hb => ?_⟩
    · rw [I.tuple_inj hy hq]
      exact hx
    · refine ⟨⟨y, ?_⟩, st'.1.at (fun o q => (sb.2 it (Ne.symm hne)).trans q), hne, hai, hae⟩
      have e1 : ((i + 1 : Nat) : Int) = (i : Int) + 1 := by omega
      rw [e1]
      exact he'
    · have hb' : b < s.heap.objs.size := by
        rcases (by simpa using hb : b = e ∨ b = it) with z | z <;> (rw [z]; assumption)
      rw [upd_ne (Nat.ne_of_lt hb')]
      exact (hf b hb).1
  done := by
    intro X hP hw hK hc i pins s σ H E I hf st hg
    subst hP hw hK
    obtain ⟨⟨old, he⟩, hit, hne, hai, hae⟩ := st
    obtain ⟨xs, hq, hx⟩ := hg
    obtain ⟨its, rv, p, hz⟩ := I.tuple hq
    obtain ⟨f0, f1, f2, f3, f4, f5⟩ := hf it (by simp)
    have hTu : s.heap.IsTuple a its.toArray := p
    have hn : i = its.toArray.size := by
      have hl := rv.length
      simp
      omega
    have D := Draws.tuple (prog := X.prog) (w := X.w) (A := X.A.in1) (I.ok.hd hc) it a hai its.toArray
    refine wpAny_pyNext_enum_endD D he ⟨hn ▸ hit, hTu⟩ fun h' eb => ?_
    exact ⟨rfl, I.turned (t' := s.toks) (fun b o hb q => eb b o hb q) f0 f1 f3 f4 f5⟩
  self := fun A i s Q E st h => by
    obtain ⟨⟨old, he⟩, _⟩ := st
    exact wpAny_pyIter_enum he h
/-- enumerate(t) is walked -/
def iEnumT (K : PySem.W.Frag) (ta : TA) : TI := fun σ H R => ta σ H fun vs H1 => ∃ a xs, vs = [.ref a] ∧ SqT K H1 a xs ∧ R (ItE K a) H1
theorem pi_enumT {X : Cx} {e : Expr} {ta : TA} {p pos tpos : Pos} {elts : List Expr} {kk : Nat} (hg : Gl X "enumerate")
    (hm : X.mg "enumerate" = none) (ha : PA X [e] ta) (hs : starEach [e] X.env = [(false, eval e X.env)] := by rfl) :
    PI X (.Tuple elts kk tpos) (.Call (.Name "enumerate" p) [e] [] pos) (iEnumT X.K ta) := by
  refine ⟨fun pins s σ H R I h => ?_⟩
  have body : ∀ us s1, AP X pins σ (fun vs H1 => ∃ a xs, vs = [.ref a] ∧ SqT X.K H1 a xs ∧ R (ItE X.K a) H1) us s1 →
      wpAny (model X.prog X.w) X.A (call (.type "enumerate") us) (fun v s2 => wpAny (model X.prog X.w) X.A (pyIter v) (PIE X pins σ (.Tuple elts kk tpos) R) X.xe s2) X.xe s1 := by
    rintro us s1 ⟨vs, H1, I1, r1, a, xs, rfl, hq, q⟩
    obtain ⟨u, rfl, ru⟩ := vals1 r1
    cases ru
    obtain ⟨its, rv, p', hz⟩ := I1.tuple hq
    have hTu : s1.heap.IsTuple a its.toArray := p'
    obtain ⟨oa, hoa, _⟩ := id hTu
    have hal : a < s1.heap.objs.size := Heap.lt_size hoa
    refine my_call_enum hTu fun h' he hit hk => wpAny_pyIter_enum he ?_
    have I2 : Inv X pins σ H1 { s1 with heap := h' } := I1.kept (t' := s1.toks) hk
    refine ⟨s1.heap.objs.size + 1, [s1.heap.objs.size + 1, s1.heap.objs.size], _, _, H1, rfl, I2, turn_enumT a (s1.heap.objs.size + 1) s1.heap.objs.size, ?_, fun b hb => ?_, q⟩
    · exact ⟨⟨.none, he⟩, hit, Nat.succ_ne_self _, Nat.ne_of_lt hal, Nat.ne_of_lt (Nat.lt_succ_of_lt hal)⟩
    · have hle : s1.heap.objs.size ≤ b := by
        rcases (by simpa using hb : b = s1.heap.objs.size + 1 ∨ b = s1.heap.objs.size) with z | z <;> rw [z]
        · exact Nat.le_add_right _ _
        · exact Nat.le_refl _
      exact I1.fpOk hle (I1.hok.fresh hle)
  exact Call_ (ld_blt I hg hm boot_enumerate (PyProof.Rows.callWith_type1 (thn (ha.run pos pins s σ H _ I h) fun us s1 q => body us s1 q) hs rfl))
theorem walk_enumT {K : PySem.W.Frag} {a : Addr} {xs : List V} :
    Walk (ItE K a) xs.length (fun H => SqT K H a xs) (YPair (fun i => some (.int (i : Nat))) (fun i => xs[i]?)) where
  goes := fun i _ hi q => ⟨xs, xs[i], q, by simp [hi]⟩
  stops := fun _ q => ⟨xs, q, rfl⟩
  yields := by
    rintro i H v H' _ q ⟨T, x, h1, h2, h3, h4⟩
    exact ⟨T, .int (i : Nat), x, h1, h2, h3, rfl, h4 xs q⟩
end L2

namespace L2
open PySem PySem.Spec PyProof.Rows
/-! ### data that stand in a heap, and what keeps them -/
/-- tuples stay -/
def TK (K : PySem.W.Frag) (H H' : Hp) : Prop := ∀ a xs, SqT K H a xs → SqT K H' a xs
theorem TK.refl {K : PySem.W.Frag} {H : Hp} : TK K H H := fun _ _ h => h
theorem TK.trans {K : PySem.W.Frag} {H H1 H2 : Hp} (a : TK K H H1) (b : TK K H1 H2) : TK K H H2 := fun c xs h => b c xs (a c xs h)
theorem Same.tk {K : PySem.W.Frag} {H H' : Hp} (e : Same H H') : TK K H H' := fun a xs h => by
  rcases h with (h | ⟨o, h⟩) | h
  · exact .inl (.inl (e _ _ h))
  · exact .inl (.inr ⟨o, e _ _ h⟩)
  · exact .inr h
theorem same_upd {H : Hp} {p : Addr} (h : H p = none) (o : HO) : Same H (upd H p o) := fun b u q => by
  rw [upd_ne (ne_of_none q h)]
  exact q
theorem same_step {H H1 : Hp} {p : Addr} (e : Same H H1) (h : H1 p = none) (o : HO) : Same H (upd H1 p o) := e.trans (same_upd h o)
/-- only tuples, no lists -/
def tupOnly : PyData → Bool
  | .list _ => false
  | .dict _ => false
  | .tuple xs => go xs
  | _ => true
where go : List PyData → Bool
  | [] => true
  | x :: r => tupOnly x && go r
mutual
theorem Dp.keepT {K : PySem.W.Frag} {H H' : Hp} (k : TK K H H') : ∀ (d : PyData) (v : V), tupOnly d = true → Dp K H v d → Dp K H' v d
  | .none, _, _, h => by cases h; exact .non
  | .bool b, _, _, h => by cases h; exact .bl b
  | .int i, _, _, h => by cases h; exact .int i
  | .str x, _, _, h => by cases h; exact .str x
  | .list _, _, t, _ => by cases t
  | .dict _, _, t, _ => by cases t
  | .tuple ds, _, t, h => by
    cases h with
    | tup hs ha => exact .tup (k _ _ hs) (DpAll.keepT k ds _ t ha)
theorem DpAll.keepT {K : PySem.W.Frag} {H H' : Hp} (k : TK K H H') : ∀ (ds : List PyData) (vs : List V), tupOnly.go ds = true → DpAll K H vs ds → DpAll K H' vs ds
  | [], _, _, h => by cases h; exact .nil
  | d :: r, _, t, h => by
    cases h with
    | cons h1 h2 =>
      have t' := Bool.and_eq_true_iff.mp t
      exact .cons (Dp.keepT k d _ t'.1 h1) (DpAll.keepT k r _ t'.2 h2)
end
mutual
theorem Dp.same {K : PySem.W.Frag} {H H' : Hp} (e : Same H H') : ∀ (d : PyData) (v : V), Dp K H v d → Dp K H' v d
  | .none, _, h => by cases h; exact .non
  | .bool b, _, h => by cases h; exact .bl b
  | .int i, _, h => by cases h; exact .int i
  | .str x, _, h => by cases h; exact .str x
  | .dict _, _, h => by cases h
  | .list ds, _, h => by
    cases h with
    | lst hs ha => exact .lst (e.seq hs) (DpAll.same e ds _ ha)
  | .tuple ds, _, h => by
    cases h with
    | tup hs ha => exact .tup (Same.tk e _ _ hs) (DpAll.same e ds _ ha)
theorem DpAll.same {K : PySem.W.Frag} {H H' : Hp} (e : Same H H') : ∀ (ds : List PyData) (vs : List V), DpAll K H vs ds → DpAll K H' vs ds
  | [], _, h => by cases h; exact .nil
  | d :: r, _, h => by
    cases h with
    | cons h1 h2 => exact .cons (Dp.same e d _ h1) (DpAll.same e r _ h2)
end
theorem DpAll.len {K : PySem.W.Frag} {H : Hp} : ∀ {vs : List V} {ds : List PyData}, DpAll K H vs ds → vs.length = ds.length
  | _, _, .nil => rfl
  | _, _, .cons _ h => by simp [DpAll.len h]
theorem DpAll.get {K : PySem.W.Frag} {H : Hp} : ∀ {vs : List V} {ds : List PyData} {i : Nat} {v : V}, DpAll K H vs ds → vs[i]? = some v → ∃ d, ds[i]? = some d ∧ Dp K H v d
  | _, _, _, _, .nil, h => by cases h
  | _, _, 0, _, .cons h1 _, h => by
    cases h
    exact ⟨_, rfl, h1⟩
  | _, _, i + 1, _, .cons _ h2, h => DpAll.get (i := i) h2 h
theorem DpAll.app {K : PySem.W.Frag} {H : Hp} : ∀ {vs us : List V} {ds es : List PyData}, DpAll K H vs ds → DpAll K H us es → DpAll K H (vs ++ us) (ds ++ es)
  | _, _, _, _, .nil, h => h
  | _, _, _, _, .cons h1 h2, h => .cons h1 (DpAll.app h2 h)
theorem DpAll.ints {K : PySem.W.Frag} {H : Hp} : ∀ (ns : List Int), DpAll K H (ns.map V.int) (ns.map PyData.int)
  | [] => .nil
  | n :: r => .cons (.int n) (DpAll.ints r)
theorem DpAll.ints_inv {K : PySem.W.Frag} {H : Hp} : ∀ {ns : List Int} {vs : List V}, DpAll K H vs (ns.map PyData.int) → vs = ns.map V.int
  | [], _, h => by cases h; rfl
  | n :: r, _, h => by
    cases h with
    | cons h1 h2 =>
      cases h1
      rw [DpAll.ints_inv h2]
      rfl
/-- a tuple of ints -/
abbrev dInts (ns : List Int) : PyData := .tuple (ns.map PyData.int)
/-- loops -/
abbrev dLoops (ls : List (List Int)) : PyData := .tuple (ls.map dInts)
theorem Dp.ints {K : PySem.W.Frag} {H : Hp} {v : V} {ns : List Int} (h : Dp K H v (dInts ns)) : ∃ a, v = .ref a ∧ SqT K H a (ns.map V.int) := by
  cases h with
  | tup hs ha =>
    rw [DpAll.ints_inv ha] at hs
    exact ⟨_, rfl, hs⟩
theorem Dp.ofInts {K : PySem.W.Frag} {H : Hp} {a : Addr} {ns : List Int} (h : SqT K H a (ns.map V.int)) : Dp K H (.ref a) (dInts ns) := .tup h (DpAll.ints ns)
theorem Dp.tuple {K : PySem.W.Frag} {H : Hp} {v : V} {ds : List PyData} (h : Dp K H v (.tuple ds)) : ∃ a xs, v = .ref a ∧ SqT K H a xs ∧ DpAll K H xs ds := by
  cases h with
  | tup hs ha => exact ⟨_, _, rfl, hs, ha⟩
theorem to_ints : ∀ ns : List Int, tupOnly.go (ns.map PyData.int) = true
  | [] => rfl
  | n :: r => by
    show (true && tupOnly.go (r.map PyData.int)) = true
    rw [to_ints r]
    rfl
theorem to_loops : ∀ ls : List (List Int), tupOnly.go (ls.map dInts) = true
  | [] => rfl
  | l :: r => by
    show (tupOnly.go (l.map PyData.int) && tupOnly.go (r.map dInts)) = true
    rw [to_loops r, to_ints l]
    rfl
theorem SqT.ty {K : PySem.W.Frag} {H : Hp} {a : Addr} {xs : List V} (h : SqT K H a xs) : TyX K H (.ref a) (.type "tuple") := by
  rcases h with (h | ⟨o, h⟩) | ⟨o, its, n, h1, h2, _⟩
  · exact .base (.tup h)
  · exact .fTuple h
  · exact .kTuple h1 h2
/-! ### the rules with the written part named -/
section
variable {X : Cx} {K : PySem.W.Frag}
theorem k_len (e : X.K = K := by rfl) : CallR X (.builtin "len") (Evl.rLenS K) := by
  subst e
  exact call_len_seq
def rTupS (K : PySem.W.Frag) : List V → Hp → VK → Prop := fun xs H Q => ∃ p ys, xs = [.ref p] ∧ ((SqL K H p ys ∧ ∀ l, H l = none → Q (.ref l) (upd H l (.tup ys))) ∨ (SqT K H p ys ∧ Q (.ref p) H))
theorem k_tuple (e : X.K = K := by rfl) : CallR X (.type "tuple") (rTupS K) := by
  subst e
  exact call_tuple_of
theorem k_list (e : X.K = K := by rfl) : CallR X (.type "list") (Evl.rListS K) := by
  subst e
  exact call_list_of
theorem k_sum (hc : X.calm = true) (e : X.K = K := by rfl) : CallR X (.builtin "sum") (rSum K) := by
  subst e
  exact cr_sum hc
theorem k_isi (e : X.K = K := by rfl) : CallR X (.builtin "isinstance") (rIsi K) := by
  subst e
  exact call_isi
theorem k_slL (e : X.K = K := by rfl) : SlR X (rSlL K) := by
  subst e
  exact sl_list
theorem k_slT (e : X.K = K := by rfl) : SlR X (rSlA K) := by
  subst e
  exact sl_tupA
theorem k_ixL (e : X.K = K := by rfl) : IxR X (rIxL K) := by
  subst e
  exact ix_list
theorem k_ixT (e : X.K = K := by rfl) : IxR X (rIxT K) := by
  subst e
  exact ix_tup
theorem k_eqD (hu : X.A.units + 64 < cLine) (e : X.K = K := by rfl) : OpR X (compareOp .Eq) (rEqD K) := by
  subst e
  exact op_eqD hu
theorem k_neD (hu : X.A.units + 64 < cLine) (e : X.K = K := by rfl) : OpR X (compareOp .NotEq) (rNeD K) := by
  subst e
  exact op_neD hu
theorem k_catT (e : X.K = K := by rfl) : OpR X (binaryOp .Add) (rCatA K) := by
  subst e
  exact op_catA
def rReprD (K : PySem.W.Frag) : List V → Hp → VK → Prop := fun xs H Q => ∃ x d, xs = [x] ∧ Dp K H x d ∧ (isDisplay d = true ∧ d.showable = true ∧ d.hasDict = false ∧ d.depth ≤ 8 ∧ d.shown.length ≤ sizeLine) ∧ Q (.str d.shown) H
theorem k_repr (hu : X.A.units + 64 < cLine) (hg : X.A.guards = some []) (e : X.K = K := by rfl) : CallR X (.builtin "repr") (rReprD K) := by
  subst e
  exact my_repr hu hg
theorem k_piL {tg l : Expr} {tl : TE} (hl : PE X l tl) (e : X.K = K := by rfl) : PI X tg l (iList K tl) := by
  subst e
  exact pi_list hl
theorem k_piT {tg l : Expr} {tl : TE} (hl : PE X l tl) (e : X.K = K := by rfl) : PI X tg l (iTup K tl) := by
  subst e
  exact pi_tup hl
theorem k_piET {e : Expr} {ta : TA} {p pos tpos : Pos} {elts : List Expr} {kk : Nat} (hg : Gl X "enumerate")
    (hm : X.mg "enumerate" = none) (ha : PA X [e] ta) (hs : starEach [e] X.env = [(false, eval e X.env)] := by rfl) (ek : X.K = K := by rfl) :
    PI X (.Tuple elts kk tpos) (.Call (.Name "enumerate" p) [e] [] pos) (iEnumT K ta) := by
  subst ek
  exact pi_enumT hg hm ha hs
theorem k_piEL {e : Expr} {ta : TA} {p pos tpos : Pos} {elts : List Expr} {kk : Nat} (hg : Gl X "enumerate")
    (hm : X.mg "enumerate" = none) (ha : PA X [e] ta) (hs : starEach [e] X.env = [(false, eval e X.env)] := by rfl) (ek : X.K = K := by rfl) :
    PI X (.Tuple elts kk tpos) (.Call (.Name "enumerate" p) [e] [] pos) (iEnum K ta) := by
  subst ek
  exact pi_enum hg hm ha hs
end
end L2
namespace My
open PySem PySem.Spec PyProof.Rows L2
/-! ### the state of the draws -/

abbrev kCells : Key := .inr "cells"
abbrev kLeft : Key := .inr "left"
abbrev kAt : Key := .inr "at"
def mKvs (c l : Addr) (n : Nat) : List (Key × V) := [(kCells, .ref c), (kLeft, .ref l), (kAt, .int (n : Int))]
structure MAt (H : Hp) (m c l : Addr) (n : Nat) : Prop where
  dk : H m = some (.dK (mKvs c l n))
  cs : ∃ cs : List Int, H c = some (.lst (cs.map V.int)) ∧ cs.length ≤ 63
  ls : ∃ ls : List Int, H l = some (.lst (ls.map V.int)) ∧ ls.length ≤ 63 ∧ ∀ z ∈ ls, 0 ≤ z
  cl : c ≠ l
/-- b is a part of the state: the list of the cells, or that of what is left -/
def Lf (H : Hp) (m b : Addr) : Prop := ∃ kvs k, H m = some (.dK kvs) ∧ valV kvs k = some (.ref b)
/-- the state of the draws stands at m, n mixed numbers drawn -/
def MS (H : Hp) (m : Addr) (n : Nat) : Prop := ∃ c l, MAt H m c l n
theorem e12 : ¬ (Str.ofString "cells" = Str.ofString "left") := by decide +kernel
theorem e13 : ¬ (Str.ofString "cells" = Str.ofString "at") := by decide +kernel
theorem e23 : ¬ (Str.ofString "left" = Str.ofString "at") := by decide +kernel
theorem e21 : ¬ (Str.ofString "left" = Str.ofString "cells") := by decide +kernel
theorem e31 : ¬ (Str.ofString "at" = Str.ofString "cells") := by decide +kernel
theorem e32 : ¬ (Str.ofString "at" = Str.ofString "left") := by decide +kernel
theorem k12 : ¬ kCells = kLeft := by decide +kernel
theorem k13 : ¬ kCells = kAt := by decide +kernel
theorem k23 : ¬ kLeft = kAt := by decide +kernel
theorem k21 : ¬ kLeft = kCells := by decide +kernel
theorem k31 : ¬ kAt = kCells := by decide +kernel
theorem k32 : ¬ kAt = kLeft := by decide +kernel
theorem mKvs_cells (c l : Addr) (n : Nat) : valV (mKvs c l n) kCells = some (.ref c) := by
  unfold mKvs
  rw [valV_pos rfl]
theorem mKvs_left (c l : Addr) (n : Nat) : valV (mKvs c l n) kLeft = some (.ref l) := by
  unfold mKvs
  rw [valV_neg k12, valV_pos rfl]
theorem mKvs_at (c l : Addr) (n : Nat) : valV (mKvs c l n) kAt = some (.int (n : Int)) := by
  unfold mKvs
  rw [valV_neg k13, valV_neg k23, valV_pos rfl]
theorem put3_2 {x y z w : V} : putK [(kCells, x), (kLeft, y), (kAt, z)] kLeft w = [(kCells, x), (kLeft, w), (kAt, z)] := by
  simp [putK, e12, e21, e23, e32]
theorem put3_3 {x y z w : V} : putK [(kCells, x), (kLeft, y), (kAt, z)] kAt w = [(kCells, x), (kLeft, y), (kAt, w)] := by
  simp [putK, e13, e31, e23, e32]
theorem merge3 {x y z : V} : mergeK [] [(kCells, x), (kLeft, y), (kAt, z)] = [(kCells, x), (kLeft, y), (kAt, z)] := by
  simp [mergeK, putK, e12, e21, e13, e31, e23, e32]
theorem mKvs_ref {c l b : Addr} {n : Nat} {k : Key} (h : valV (mKvs c l n) k = some (.ref b)) : b = c ∨ b = l := by
  unfold mKvs at h
  by_cases h1 : kCells = k
  · rw [valV_pos h1] at h
    cases h
    exact .inl rfl
  · rw [valV_neg h1] at h
    by_cases h2 : kLeft = k
    · rw [valV_pos h2] at h
      cases h
      exact .inr rfl
    · rw [valV_neg h2] at h
      by_cases h3 : kAt = k
      · rw [valV_pos h3] at h
        cases h
      · rw [valV_neg h3] at h
        cases h
theorem MAt.lf {H : Hp} {m c l : Addr} {n : Nat} (M : MAt H m c l n) {b : Addr} (h : Lf H m b) : b = c ∨ b = l := by
  obtain ⟨kvs, k, h1, h2⟩ := h
  rw [M.dk] at h1
  cases h1
  exact mKvs_ref h2
theorem MAt.ownC {H : Hp} {m c l : Addr} {n : Nat} (M : MAt H m c l n) : Lf H m c := ⟨_, kCells, M.dk, mKvs_cells c l n⟩
theorem MAt.ownL {H : Hp} {m c l : Addr} {n : Nat} (M : MAt H m c l n) : Lf H m l := ⟨_, kLeft, M.dk, mKvs_left c l n⟩
/-- what a draw may change: the state itself and what is left -/
structure Ef (m : Addr) (H H' : Hp) : Prop where
  keep : ∀ b o, H b = some o → b ≠ m → ¬ Lf H m b → H' b = some o
  new : ∀ b, Lf H' m b → Lf H m b ∨ H b = none
  st : ∀ o, H m = some o → ∃ o', H' m = some o'
theorem Ef.trans {m : Addr} {H H1 H2 : Hp} (a : Ef m H H1) (b : Ef m H1 H2) : Ef m H H2 where
  keep := fun c o h h1 h2 => b.keep c o (a.keep c o h h1 h2) h1 fun z => by
    rcases a.new c z with q | q
    · exact h2 q
    · rw [h] at q
      cases q
  new := fun c z => by
    rcases b.new c z with q | q
    · exact a.new c q
    · cases e : H c with
      | none => exact .inr rfl
      | some o =>
        refine .inl (Classical.byContradiction fun w => ?_)
        by_cases cm : c = m
        · subst cm
          obtain ⟨o', e'⟩ := a.st o e
          rw [q] at e'
          cases e'
        · rw [a.keep c o e cm w] at q
          cases q
  st := fun o h => by
    obtain ⟨o1, h1⟩ := a.st o h
    exact b.st o1 h1
theorem Ef.refl {m : Addr} {H : Hp} : Ef m H H := ⟨fun _ _ h _ _ => h, fun _ h => .inl h, fun o h => ⟨o, h⟩⟩
theorem Ef.ofSame {m : Addr} {H H' : Hp} {n : Nat} (M : MS H m n) (e : Same H H') : Ef m H H' where
  keep := fun b o h _ _ => e b o h
  new := fun b z => by
    obtain ⟨c, l, M⟩ := M
    obtain ⟨kvs, k, h1, h2⟩ := z
    rw [e _ _ M.dk] at h1
    cases h1
    exact .inl ⟨_, k, M.dk, h2⟩
  st := fun o h => ⟨o, e _ _ h⟩
theorem MS.same {m : Addr} {H H' : Hp} {n : Nat} (M : MS H m n) (e : Same H H') : MS H' m n := by
  obtain ⟨c, l, dk, ⟨cs, h1, h2⟩, ⟨ls, h3, h4, h5⟩, cl⟩ := M
  exact ⟨c, l, e _ _ dk, ⟨cs, e _ _ h1, h2⟩, ⟨ls, e _ _ h3, h4, h5⟩, cl⟩
theorem Ef.tk {K : PySem.W.Frag} {m : Addr} {H H' : Hp} {n : Nat} (e : Ef m H H') (M : MS H m n) : TK K H H' := fun a xs h => by
  obtain ⟨c, l, M⟩ := M
  obtain ⟨ls, hl, _⟩ := M.ls
  obtain ⟨cs, hc, _⟩ := M.cs
  have go : ∀ u : HO, H a = some u → (∀ kvs, u ≠ .dK kvs) → (∀ ys, u ≠ .lst ys) → H' a = some u := fun u hu h1 h2 => by
    refine e.keep a u hu (fun z => ?_) (fun z => ?_)
    · subst z
      rw [M.dk] at hu
      exact h1 _ (Option.some.inj hu).symm
    · rcases M.lf z with q | q
      · rw [q, hc] at hu
        exact h2 _ (Option.some.inj hu).symm
      · rw [q, hl] at hu
        exact h2 _ (Option.some.inj hu).symm
  rcases h with (h | ⟨o, h⟩) | h
  · exact .inl (.inl (go _ h (by intro _ z; cases z) (by intro _ z; cases z)))
  · exact .inl (.inr ⟨o, go _ h (by intro _ z; cases z) (by intro _ z; cases z)⟩)
  · exact .inr h
theorem Ef.lst {m : Addr} {H H' : Hp} {p : Addr} {xs : List V} {n : Nat} (e : Ef m H H') (M : MS H m n) (h : H p = some (.lst xs)) (nl : ¬ Lf H m p) : H' p = some (.lst xs) ∧ ¬ Lf H' m p := by
  have pm : p ≠ m := fun z => by
    obtain ⟨c, l, M⟩ := M
    rw [z, M.dk] at h
    cases h
  refine ⟨e.keep _ _ h pm nl, fun z => ?_⟩
  rcases e.new _ z with q | q
  · exact nl q
  · rw [h] at q
    cases q
theorem MS.notLf {m : Addr} {H : Hp} {n : Nat} (M : MS H m n) {p : Addr} (h : H p = none) : ¬ Lf H m p := fun z => by
  obtain ⟨c, l, M⟩ := M
  obtain ⟨ls, hl, _⟩ := M.ls
  obtain ⟨cs, hc, _⟩ := M.cs
  rcases M.lf z with q | q
  · rw [q, hc] at h
    cases h
  · rw [q, hl] at h
    cases h
theorem map_int_get {ns : List Int} {i : Nat} {x : V} (h : (ns.map V.int)[i]? = some x) : ∃ z, ns[i]? = some z ∧ x = V.int z := by
  rw [List.getElem?_map] at h
  cases e : ns[i]? with
  | none =>
    rw [e] at h
    cases h
  | some z =>
    rw [e] at h
    exact ⟨z, rfl, (Option.some.inj h).symm⟩
theorem MAt.left {H : Hp} {m c l : Addr} {n : Nat} (M : MAt H m c l n) : DGet H m (.str "left") (some (.ref l)) := by
  have h := DGet.k (k := kLeft) M.dk
  rw [mKvs_left] at h
  exact h
theorem MAt.cells {H : Hp} {m c l : Addr} {n : Nat} (M : MAt H m c l n) : DGet H m (.str "cells") (some (.ref c)) := by
  have h := DGet.k (k := kCells) M.dk
  rw [mKvs_cells] at h
  exact h
theorem MAt.at {H : Hp} {m c l : Addr} {n : Nat} (M : MAt H m c l n) : DGet H m (.str "at") (some (.int (n : Int))) := by
  have h := DGet.k (k := kAt) M.dk
  rw [mKvs_at] at h
  exact h
theorem eqv_nil : ∀ ls : List Int, PyData.eqv (.list (ls.map PyData.int)) (.list []) = ls.isEmpty
  | [] => rfl
  | _ :: _ => rfl
/-- xs != [] -/
theorem rd_ne_nil {K : PySem.W.Frag} {H : Hp} {l : Addr} {ls : List Int} {σ : L2.St} {Q : VK} (hl : H l = some (.lst (ls.map V.int)))
    (k : ∀ p, H p = none → Q (.bl (!ls.isEmpty)) (upd H p (.lst []))) : tLst tNil σ H fun y H2 => rNeD K (.ref l) y H2 Q := by
  refine ⟨(by show 0 ≤ sizeLine; decide), fun p hp => ?_⟩
  have lp : l ≠ p := ne_of_none hl hp
  refine ⟨.list (ls.map PyData.int), .list [], .lst (SqL.of (by rw [upd_ne lp]; exact hl)) (DpAll.ints ls), .lst (SqL.of upd_same) .nil, PySem.W.shaped_ints ls, by decide +kernel, ?_⟩
  rw [eqv_nil]
  exact k p hp
theorem cut_tail (z : Int) (r : List Int) : cutV ((z :: r).map V.int) (some 1) none = r.map V.int := by
  simp only [cutV, HT.sIx, List.map_cons, List.length_cons, List.length_map]
  rw [if_neg (by omega)]
  have e : min (1 : Int).toNat (r.length + 1) = 1 := by
    show min 1 (r.length + 1) = 1
    omega
  rw [e]
  show ((r.map V.int).take (r.length + 1 - 1)) = _
  rw [List.take_of_length_le (by rw [List.length_map]; omega)]
theorem map_int_inj : ∀ {xs ys : List Int}, xs.map V.int = ys.map V.int → xs = ys
  | [], [], _ => rfl
  | [], _ :: _, h => by simp at h
  | _ :: _, [], h => by simp at h
  | x :: xs, y :: ys, h => by
    simp only [List.map_cons, List.cons.injEq, V.int.injEq] at h
    rw [h.1, map_int_inj h.2]
theorem at_zero {x : V} {r : List V} : atI (x :: r) 0 = some x := at_of (j := 0) rfl rfl
/-- what is known of a value and its heap, for all that follows -/
theorem te_cut {te : TE} {σ : L2.St} {H : Hp} {Q : VK} (R : V → Hp → Prop) (h : ∀ Q', (∀ v H', R v H' → Q' v H') → te σ H Q') (k : ∀ v H', R v H' → Q v H') : te σ H Q := h Q k
theorem tt_cut {tt : TT} {σ : L2.St} {H : Hp} {Q : Bool → Hp → Prop} (R : Bool → Hp → Prop) (h : ∀ Q', (∀ b H', R b H' → Q' b H') → tt σ H Q') (k : ∀ b H', R b H' → Q b H') : tt σ H Q := h Q k
theorem MAt.same {m c l : Addr} {H H' : Hp} {n : Nat} (M : MAt H m c l n) (e : Same H H') : MAt H' m c l n := by
  obtain ⟨dk, ⟨cs, h1, h2⟩, ⟨ls, h3, h4, h5⟩, cl⟩ := M
  exact ⟨e _ _ dk, ⟨cs, e _ _ h1, h2⟩, ⟨ls, e _ _ h3, h4, h5⟩, cl⟩
theorem at_mod (k : Int) {xs : List Int} (h : (0 : Int) < ((xs.map V.int).length : Int)) : ∃ v : Int, atI (xs.map V.int) (k.fmod ((xs.map V.int).length : Int)) = some (.int v) := by
  have h1 := Int.fmod_nonneg_of_pos k h
  have h2 := Int.fmod_lt_of_pos k h
  rw [List.length_map] at h h1 h2 ⊢
  have hk : (k.fmod (xs.length : Int)).toNat < xs.length := by omega
  refine ⟨xs[(k.fmod (xs.length : Int)).toNat], at_of (j := (k.fmod (xs.length : Int)).toNat) (by omega) ?_⟩
  rw [List.getElem?_map, List.getElem?_eq_getElem hk]
  all_goals rfl
theorem seq_asg {te : TE} {g : TG} {u : TS} {D : Ends} {σ : L2.St} {H : Hp} (h : te σ H fun x H1 => g x σ H1 (u D)) : tSeq (tAsg te g) u D σ H := h
/-- name = e, what is known of the value told once -/
theorem seq_cut {te : TE} {g : TG} {u : TS} {D : Ends} {σ : L2.St} {H : Hp} (R : V → Hp → Prop) (h : ∀ Q', (∀ v H', R v H' → Q' v H') → te σ H Q')
    (k : ∀ v H', R v H' → g v σ H' (u D)) : tSeq (tAsg te g) u D σ H := h _ k
theorem ret_cut {te : TE} {D : Ends} {σ : L2.St} {H : Hp} (R : V → Hp → Prop) (h : ∀ Q', (∀ v H', R v H' → Q' v H') → te σ H Q') (k : ∀ v H', R v H' → D.rt v H') : tRet te D σ H := h _ k
/-- another list than those of the state is written -/
theorem MS.upd {m : Addr} {H : Hp} {n : Nat} {D : Addr} {xs : List V} {o : HO} (M : MS H m n) (h : H D = some (.lst xs)) (nl : ¬ Lf H m D) : MS (upd H D o) m n := by
  obtain ⟨c, l, M⟩ := M
  have Dm : m ≠ D := fun z => by
    rw [← z, M.dk] at h
    cases h
  have Dc : c ≠ D := fun z => nl (z ▸ M.ownC)
  have Dl : l ≠ D := fun z => nl (z ▸ M.ownL)
  obtain ⟨dk, ⟨cs, h1, h2⟩, ⟨ls, h3, h4, h5⟩, cl⟩ := M
  exact ⟨c, l, by rw [upd_ne Dm]; exact dk, ⟨cs, by rw [upd_ne Dc]; exact h1, h2⟩, ⟨ls, by rw [upd_ne Dl]; exact h3, h4, h5⟩, cl⟩
theorem Lf.upd {m : Addr} {H : Hp} {D b : Addr} {o : HO} (Dm : m ≠ D) (h : Lf (upd H D o) m b) : Lf H m b := by
  obtain ⟨kvs, k, h1, h2⟩ := h
  rw [upd_ne Dm] at h1
  exact ⟨kvs, k, h1, h2⟩
/-- a list that was new at H0 is written -/
theorem Ef.upd {m : Addr} {H0 H : Hp} {D : Addr} {o : HO} (e : Ef m H0 H) (h0 : H0 D = none) (Dm : m ≠ D) : Ef m H0 (upd H D o) where
  keep := fun b u h h1 h2 => by
    rw [upd_ne (ne_of_none h h0)]
    exact e.keep b u h h1 h2
  new := fun b z => e.new b (z.upd Dm)
  st := fun u h => by
    rw [upd_ne Dm]
    exact e.st u h
theorem log_ok {many : Int} (h0 : 0 < many) (h : many ≤ 10 ^ 31) : many.natAbs.log2 < 9000 := by
  have e : many.natAbs < 2 ^ 104 := by
    have : (10 : Int) ^ 31 < 2 ^ 104 := by decide
    omega
  have := (Nat.log2_lt (by omega)).mpr e
  omega
theorem MS.mne {m : Addr} {H : Hp} {n : Nat} (M : MS H m n) {D : Addr} (h : H D = none) : m ≠ D := fun z => by
  obtain ⟨c, l, M⟩ := M
  rw [← z, M.dk] at h
  cases h
theorem MS.mneL {m : Addr} {H : Hp} {n : Nat} (M : MS H m n) {D : Addr} {xs : List V} (h : H D = some (.lst xs)) : m ≠ D := fun z => by
  obtain ⟨c, l, M⟩ := M
  rw [← z, M.dk] at h
  cases h
/-- a list is written: tuples stay -/
theorem tk_upd {K : PySem.W.Frag} {H : Hp} {D : Addr} {xs : List V} {o : HO} (h : H D = some (.lst xs)) : TK K H (upd H D o) := fun a ys q => by
  rcases q with (q | ⟨u, q⟩) | q
  · exact .inl (.inl (by rw [upd_ne (ne_of q h (by intro w; cases w))]; exact q))
  · exact .inl (.inr ⟨u, by rw [upd_ne (ne_of q h (by intro w; cases w))]; exact q⟩)
  · exact .inr q
theorem take_more {α : Type} {l : List α} {i : Nat} {x : α} (h : l[i]? = some x) : l.take (i + 1) = l.take i ++ [x] := by
  rw [List.take_add_one, h]
  rfl
end My

/-! Which data repr tells, and how long its text may be. -/
namespace L2
open PySem PySem.Spec PyProof.Rows
/-- ints of at most k digits, no dict -/
def fits (k : Nat) : PyData → Bool
  | .int i => decide (i.natAbs < 10 ^ k)
  | .none => true
  | .bool _ => true
  | .str x => decide ((reprText x).length ≤ 1000)
  | .list xs => go xs
  | .tuple xs => go xs
  | .dict _ => false
where go : List PyData → Bool
  | [] => true
  | x :: r => fits k x && go r
/-- a bound of the text's length -/
def room (k : Nat) : PyData → Nat
  | .int _ => k + 1
  | .none => 10
  | .bool _ => 10
  | .str _ => 1000
  | .list xs => go xs + 4
  | .tuple xs => go xs + 4
  | .dict _ => 0
where go : List PyData → Nat
  | [] => 0
  | x :: r => room k x + 2 + go r
theorem list_text_le (ts : List Str) : (listText ts).length ≤ piled ts + 4 := by
  cases ts with
  | nil => decide +kernel
  | cons t r =>
    have h := textFrom_length_pos r 1 (("[" : Str) ++ (if (0 : Nat) > 0 then ", " else "" : String) ++ t) (Nat.succ_pos 0)
    have e : (("[" : Str) ++ (if (0 : Nat) > 0 then ", " else "" : String) ++ t).length = 1 + t.length := by
      rw [strLen_append, strLen_append]
      rfl
    have f : (listText (t :: r)).length = (textFrom 1 (("[" : Str) ++ (if (0 : Nat) > 0 then ", " else "" : String) ++ t) r).length + 1 := by
      show (textFrom 0 "[" (t :: r) ++ "]").length = _
      rw [strLen_append]
      rfl
    rw [f, h, e, piled_cons]
    omega
theorem tuple_text_le (ts : List Str) : (tupleText ts).length ≤ piled ts + 4 := by
  have e : (tupleText ts).length ≤ (Str.join ", " ts).length + 3 := by
    unfold tupleText
    rw [strLen_append, strLen_append]
    have e1 : (("(" : String) : Str).length = 1 := by decide +kernel
    have e2 : ((if (ts.length == 1) = true then ",)" else ")" : String) : Str).length ≤ 2 := by
      split
      · decide +kernel
      · decide +kernel
    omega
  cases ts with
  | nil => exact Nat.le_trans e (by decide +kernel)
  | cons t r =>
    have q := join_length_add (t :: r) (by simp)
    omega
mutual
theorem room_ok {k : Nat} (hk : 0 < k) : ∀ d : PyData, fits k d = true → d.shown.length ≤ room k d
  | .none, _ => (by decide +kernel : PyData.none.shown.length ≤ 10)
  | .bool true, _ => (by decide +kernel : (PyData.bool true).shown.length ≤ 10)
  | .bool false, _ => (by decide +kernel : (PyData.bool false).shown.length ≤ 10)
  | .int i, h => by
    have q := int_text_length_le10 hk (of_decide_eq_true h)
    show (Str.ofString (toString i)).length ≤ k + 1
    rw [PySem.ofString_length]
    exact q
  | .str x, h => of_decide_eq_true h
  | .list xs, h => by
    have q := rooms_ok hk xs h
    exact Nat.le_trans (list_text_le _) (Nat.add_le_add_right q 4)
  | .tuple xs, h => by
    have q := rooms_ok hk xs h
    exact Nat.le_trans (tuple_text_le _) (Nat.add_le_add_right q 4)
  | .dict _, h => by cases h
theorem rooms_ok {k : Nat} (hk : 0 < k) : ∀ ds : List PyData, fits.go k ds = true → piled (PyData.shownAll ds) ≤ room.go k ds
  | [], _ => Nat.le_refl _
  | d :: r, h => by
    have h' := Bool.and_eq_true_iff.mp h
    have q1 := room_ok hk d h'.1
    have q2 := rooms_ok hk r h'.2
    show piled (d.shown :: PyData.shownAll r) ≤ room k d + 2 + room.go k r
    rw [piled_cons]
    omega
end
mutual
theorem fits_show {k : Nat} (hk : k ≤ 500) : ∀ d : PyData, fits k d = true → d.showable = true ∧ d.hasDict = false
  | .none, _ => ⟨rfl, rfl⟩
  | .bool _, _ => ⟨rfl, rfl⟩
  | .int i, h => by
    refine ⟨decide_eq_true ?_, rfl⟩
    have h1 : i.natAbs < 10 ^ k := of_decide_eq_true h
    have h2 : (10 : Nat) ^ k ≤ 10 ^ 500 := Nat.pow_le_pow_right (by decide) hk
    have h3 : (10 : Nat) ^ 500 < 2 ^ 1900 := by decide +kernel
    by_cases z : i.natAbs = 0
    · rw [z]
      decide
    · have := (Nat.log2_lt z).mpr (Nat.lt_trans (Nat.lt_of_lt_of_le h1 h2) h3)
      omega
  | .str _, _ => ⟨rfl, rfl⟩
  | .list xs, h => fits_shows hk xs h
  | .tuple xs, h => fits_shows hk xs h
  | .dict _, h => by cases h
theorem fits_shows {k : Nat} (hk : k ≤ 500) : ∀ ds : List PyData, fits.go k ds = true → PyData.showableAll ds = true ∧ PyData.hasDictAll ds = false
  | [], _ => ⟨rfl, rfl⟩
  | d :: r, h => by
    have h' := Bool.and_eq_true_iff.mp h
    obtain ⟨a, b⟩ := fits_show hk d h'.1
    obtain ⟨a', b'⟩ := fits_shows hk r h'.2
    refine ⟨?_, ?_⟩
    · show (d.showable && PyData.showableAll r) = true
      rw [a, a']
      rfl
    · show (d.hasDict || PyData.hasDictAll r) = false
      rw [b, b']
      rfl
end
/-- what repr asks -/
abbrev Tells (d : PyData) : Prop := isDisplay d = true ∧ d.showable = true ∧ d.hasDict = false ∧ d.depth ≤ 8 ∧ d.shown.length ≤ sizeLine
theorem tells (k : Nat) {d : PyData} (h0 : 0 < k) (h1 : k ≤ 500) (hd : isDisplay d = true) (hf : fits k d = true) (hp : d.depth ≤ 8) (hr : room k d ≤ 16000000) :
    Tells d := by
  obtain ⟨a, b⟩ := fits_show h1 d hf
  refine ⟨hd, a, b, hp, Nat.le_trans (room_ok h0 d hf) (Nat.le_trans hr ?_)⟩
  rw [sizeLine_eq]
  decide
/-! ### ints and loops -/
theorem fits_ints {k : Nat} : ∀ {ns : List Int}, (∀ z ∈ ns, z.natAbs < 10 ^ k) → fits.go k (ns.map PyData.int) = true
  | [], _ => rfl
  | n :: r, h => by
    have q := fits_ints (k := k) (ns := r) fun z hz => h z (List.mem_cons_of_mem _ hz)
    show (decide (n.natAbs < 10 ^ k) && fits.go k (r.map PyData.int)) = true
    rw [q, decide_eq_true (h n List.mem_cons_self)]
    rfl
theorem room_ints (k : Nat) : ∀ ns : List Int, room.go k (ns.map PyData.int) = (k + 3) * ns.length
  | [] => rfl
  | n :: r => by
    have q := room_ints k r
    show (k + 1) + 2 + room.go k (r.map PyData.int) = (k + 3) * (r.length + 1)
    rw [q, Nat.mul_add]
    omega
theorem depth_ints : ∀ ns : List Int, PyData.depthAll (ns.map PyData.int) = 0
  | [] => rfl
  | n :: r => by
    show max 0 (PyData.depthAll (r.map PyData.int)) = 0
    rw [depth_ints r]
    rfl
theorem tells_ints (k : Nat) {ns : List Int} (h0 : 0 < k) (h1 : k ≤ 500) (hz : ∀ z ∈ ns, z.natAbs < 10 ^ k) (hl : (k + 3) * ns.length + 4 ≤ 16000000) :
    Tells (dInts ns) := by
  refine tells k h0 h1 rfl (fits_ints hz) ?_ ?_
  · show PyData.depthAll (ns.map PyData.int) + 1 ≤ 8
    rw [depth_ints]
    decide
  · show room.go k (ns.map PyData.int) + 4 ≤ _
    rw [room_ints]
    exact hl
abbrev dList (ns : List Int) : PyData := .list (ns.map PyData.int)
theorem tells_list (k : Nat) {ns : List Int} (h0 : 0 < k) (h1 : k ≤ 500) (hz : ∀ z ∈ ns, z.natAbs < 10 ^ k) (hl : (k + 3) * ns.length + 4 ≤ 16000000) :
    Tells (dList ns) := by
  refine tells k h0 h1 rfl (fits_ints hz) ?_ ?_
  · show PyData.depthAll (ns.map PyData.int) + 1 ≤ 8
    rw [depth_ints]
    decide
  · show room.go k (ns.map PyData.int) + 4 ≤ _
    rw [room_ints]
    exact hl
theorem fits_loops {k : Nat} : ∀ {ls : List (List Int)}, (∀ l ∈ ls, ∀ z ∈ l, z.natAbs < 10 ^ k) → fits.go k (ls.map dInts) = true
  | [], _ => rfl
  | l :: r, h => by
    have q := fits_loops (k := k) (ls := r) fun z hz => h z (List.mem_cons_of_mem _ hz)
    show (fits.go k (l.map PyData.int) && fits.go k (r.map dInts)) = true
    rw [q, fits_ints (h l List.mem_cons_self)]
    rfl
theorem room_loops (k b : Nat) : ∀ ls : List (List Int), (∀ l ∈ ls, l.length ≤ b) → room.go k (ls.map dInts) ≤ ((k + 3) * b + 6) * ls.length
  | [], _ => Nat.le_refl _
  | l :: r, h => by
    have q := room_loops k b r fun z hz => h z (List.mem_cons_of_mem _ hz)
    have e := Nat.mul_le_mul_left (k + 3) (h l List.mem_cons_self)
    show room.go k (l.map PyData.int) + 4 + 2 + room.go k (r.map dInts) ≤ ((k + 3) * b + 6) * (r.length + 1)
    rw [room_ints, Nat.mul_add]
    omega
theorem depth_loops : ∀ ls : List (List Int), PyData.depthAll (ls.map dInts) ≤ 1
  | [] => by decide
  | l :: r => by
    have q := depth_loops r
    show max (PyData.depthAll (l.map PyData.int) + 1) (PyData.depthAll (r.map dInts)) ≤ 1
    rw [depth_ints]
    omega
theorem tells_loops (k b : Nat) {ls : List (List Int)} (h0 : 0 < k) (h1 : k ≤ 500) (hz : ∀ l ∈ ls, ∀ z ∈ l, z.natAbs < 10 ^ k) (hb : ∀ l ∈ ls, l.length ≤ b) (hl : ((k + 3) * b + 6) * ls.length + 4 ≤ 16000000) :
    Tells (dLoops ls) := by
  refine tells k h0 h1 rfl (fits_loops hz) ?_ ?_
  · have q := depth_loops ls
    show PyData.depthAll (ls.map dInts) + 1 ≤ 8
    omega
  · have q := room_loops k b ls hb
    show room.go k (ls.map dInts) + 4 ≤ _
    omega
end L2

/-! Defs that ask repr of a container: they are called where no repr is under way. -/
namespace L2
open PySem PySem.Spec PyProof.Rows
/-- as FnOk, where no guard stands -/
structure FnG (P : Program) (w : World) (K : PySem.W.Frag) (mg : Str → Option Value) (base : Heap) (k : Nat) (f : Addr) (fd : FuncData)
    (ps : List Str) (sp : Sp) : Prop where
  len : ∀ vs H Q E, sp vs H Q E → vs.length = ps.length
  go : ∀ (A : Around) (outer : List Env) (s : Shared) (H : Hp) (args : Args) (us : List Value) (vs : List V) (Q : VK) (E : XK),
    Room k A → A.guards = some [] → Env0 P w K mg base A outer s H → BindsTo s fd args (ps.zip us) → Vals vs us → sp vs H Q E →
    codeAny (model P w) A (.call (.ref f) args) (CR CX0 outer P w H s Q E) s
section
variable {P : Program} {w : World} {K : PySem.W.Frag} {mg : Str → Option Value} {base : Heap}
/-- a def whose body asks for no guard -/
theorem _root_.L2.Fun.okG {x qual : Str} {st : Stmt} {f : Addr} {fd : FuncData} {N ps : List Str} {k : Nat} {sp : Sp} (F : Fun K x qual st f fd)
    (S : FnScope N ps (defScope st)) (len : ∀ vs H Q E, sp vs H Q E → vs.length = ps.length)
    (body : ∀ (cdv : Value) (A : Around) (outer : List Env) (s : Shared) (H : Hp) (vs : List V) (Q : VK) (E : XK),
      Room k (A.deeper (envOfC qual (defScope st) s.heap.objs.size f cdv)) → A.guards = some [] → sp vs H Q E →
      ∃ t, PSs (cxOf CX0 P w K mg base N qual (defScope st) f cdv A outer s H E).nox (defBody st) t ∧
        t { nx := fun _ H' => Q .non H', rt := Q } (start N vs) H) : FnG P w K mg base (k + 1) f fd ps sp := by
  obtain ⟨oc, od, kV, doc, pm, an, cdv, ct, osl, rfl, lk, hcd⟩ := F.ex
  constructor
  · exact len
  intro A outer s H args us vs Q E room hg env binds rel ask
  have room' := room.deeper (envOfC qual (defScope st) s.heap.objs.size f cdv)
  obtain ⟨t, walk, want⟩ := body cdv A outer s H vs Q E room' hg ask
  have kin : K.In s.heap := env.mod.kin.keeps fun b o e => (env.bs b o e).1
  have kinds : ∀ y ∈ ps.zip us, (defScope st).names.lookup y.1 = some .local ∨
      ((defScope st).names.lookup y.1 = some .cell ∧ ((cellsFrom (s.heap.objs.size + 1) (defScope st).names []).lookup y.1).isSome = true) := by
    rintro ⟨n, v⟩ hy
    have hn := S.par n (List.of_mem_zip hy).1
    rcases hn with q | q
    · exact Or.inl q
    · exact Or.inr ⟨q, PySem.W.cellsFrom_some _ _ _ (Or.inl q)⟩
  refine codeAny_call_function room.depth (kin _ _ lk) rfl S.co S.gen rfl (PySem.W.codeRec_of kin hcd) (binds _ _ _ _ ?_)
  refine wpAny_newFunctionEnv_cells S.kind kinds fun e he s1 begun => ?_
  subst he
  have lim : s.heap.NoLimit := env.mod.nolimit.keeps fun b o e => (env.bs b o e).1
  refine And.intro (lim.keeps begun.toInCall.keep) (codeAny_func ?_)
  have inv := inv_start (CX := CX0) (E := E) S room.hd env (len _ _ _ _ ask) rel begun
  have over : ∀ {σ' : St} {H' : Hp} {v : V} {u : Value} {s' : Shared},
      Inv (cxOf CX0 P w K mg base N qual (defScope st) f cdv A outer s H E) [] σ' H' s' → RelV v u → Q v H' → CE outer P w H s Q u s' :=
    fun J r q => ⟨_, _, J.os, J.bare, J.base, J.hok, r, q⟩
  refine wpAny_mono (walk.nox.run [] s1 (start N vs) H _ inv want) ?_ (fun _ _ z => z)
  intro fl s' ends
  cases fl with
  | next =>
    obtain ⟨_, _, J, q⟩ := ends
    exact over (v := V.non) (u := Value.none) J rfl q
  | ret u =>
    obtain ⟨_, _, _, J, r, q⟩ := ends
    exact over J r q
  | brk =>
    obtain ⟨_, _, _, q⟩ := ends
    cases q
  | cont =>
    obtain ⟨_, _, _, q⟩ := ends
    cases q
/-- a def that keeps a promise everywhere keeps it where no guard stands -/
theorem FnOk.toG {k : Nat} {f : Addr} {fd : FuncData} {ps : List Str} {sp : Sp} (F : FnOk P w K mg base CX0 k f fd ps sp) : FnG P w K mg base k f fd ps sp :=
  ⟨F.len, fun A outer s H args us vs Q E r _ => F.run A outer s H args us vs Q E r⟩
end
section
variable {X : Cx} {k : Nat} {f : Addr} {fd : FuncData} {ps : List Str} {sp : Sp} {dvs : List V} {ds : List Value} {E : XK} {x : Str}
/-- f(e, ..), f such a def -/
theorem pe_callG {p pos : Pos} {e : Expr} {es : List Expr} {t : TA} (F : FnG X.prog X.w X.K X.mg X.base k f fd ps sp) (hr : Room k X.A) (hG : X.A.guards = some [])
    (hg : Gl X x) (hm : X.mg x = some (.ref f)) (hk : PySem.W.keepIn X.K (.ref f) = true) (hb : Binds X.K fd ps ds) (hd : Vals dvs ds) (hx : Passes CX0 X E)
    (ha : PA X (e :: es) t) (hdb : (x == ("__debug__" : Str)) = false := by decide)
    (he : starEach (e :: es) X.env = (false, eval e X.env) :: starEach es X.env := by rfl) (hpl : (backTo pos (starEach es X.env)).any (·.1) = false := by rfl) :
    PE X (.Call (.Name x p) (e :: es) [] pos) (tCall sp dvs E t) := by
  constructor
  intro pins s σ H Q I h
  have run : ∀ us s1, AP X pins σ (fun vs H1 => sp (vs ++ dvs) H1 Q E) us s1 →
      X.K.In s1.heap ∧ wpAny (model X.prog X.w) X.A (call (.ref f) us) (EP X pins σ Q) X.xe s1 := by
    rintro us s1 ⟨vs, H1, I1, r, q⟩
    have r2 := r.append hd
    have hl : (us ++ ds).length = ps.length := by
      rw [← r2.length]
      exact F.len _ _ _ _ q
    refine ⟨I1.kIn, wpAny_call (codeAny_mono (F.go X.A X.stack s1 H1 ⟨us, []⟩ (us ++ ds) (vs ++ dvs) Q E hr hG I1.env0 (hb s1 us I1.kIn hl) r2 q) ?_)⟩
    intro res s2 z
    cases res with
    | error er => exact hx pins σ H1 s1 er s2 I1 z
    | ok fl =>
      cases fl with
      | ret u => exact I1.after z
      | next => cases z
      | brk => cases z
      | cont => cases z
  exact wpAny_Call_Name_kw (ld_glob I hg hm (PySem.W.callWith_K (h₀ := X.base) I.ok.mod.kin hk
    (thn (ha.run pos pins s σ H _ I h) fun us s1 q => run us s1 q) he hpl) hdb)
end
end L2

/-! A law's end where its def asks repr of a container. -/
namespace L2
open PySem PySem.Spec PyProof.Rows
section
variable {P : Program} {w : World} {K : PySem.W.Frag} {mg mb : Str → Option Value} {k : Nat} {fa a : Addr} {fd : FuncData} {x : Str} {sp : Sp}
  {z : Shared} {vs : List Value} {ns : List Int}
def endsTrue (z : Shared) (r : Result) (s' : Shared) : Prop :=
  r = .ok (.ret (.bool true)) ∧ OldK z.heap s'.heap ∧ s'.os = z.os ∧ AllBare s'.gens
/-- from an abstract heap that tracks the script at most -/
theorem my_core (kin : K.In z.heap) (hns : z.heap.Ns mainGlobals mg) (hb : z.heap.Ns builtinsNs mb) (hbb : ∀ x : Str, x ≠ "__name__" → mb x = bootBuiltins x)
    (hlim : z.heap.NoLimit) (hg : z.gens = #[]) (ha : z.heap.get? a = some { cls := .type "list", data := .seq vs.toArray }) (hr : Room k callerA)
    (F : ∀ base : Heap, K.In base → base.Ns mainGlobals mg → FnG P w K mg base k fa fd [x] sp) (bind : ∀ (s : Shared) (u : Value), BindsTo s fd ⟨[u], []⟩ [(x, u)])
    (H : Hp) (ask : sp [.ref a] H (fun v _ => v = .bl true) fun _ _ _ => False) (ok : HOk P w H z.heap) (only : Only H) (atA : ∀ b, H b ≠ none → b = a)
    (notK : H a ≠ none → K.lookup a = none) : codeAny (model P w) callerA (.call (.ref fa) ⟨[.ref a], []⟩) (endsTrue z) z := by
  -- the base: all that H does not track
  have stays : ∀ {b : Addr} {o : Obj}, z.heap.get? b = some o → (b ≠ a ∨ H a = none) → (hidT z.heap H).get? b = some o := by
    intro b o e h
    refine hidT_get e ?_
    cases q : H b with
    | none => rfl
    | some u =>
      have eb := atA b (by rw [q]; exact Option.some_ne_none u)
      rcases h with h | h
      · exact absurd eb h
      · rw [eb, h] at q
        cases q
  have names : ∀ {b : Addr} {m : Str → Option Value}, z.heap.Ns b m → (hidT z.heap H).Ns b m := by
    rintro b m ⟨o, es, ep, e, d, r⟩
    refine ⟨o, es, ep, stays e (.inl fun eb => ?_), d, r⟩
    rw [eb, ha] at e
    cases e
    cases d
  have kinB : K.In (hidT z.heap H) := by
    intro b o e
    refine stays (kin b o e) ?_
    by_cases eb : b = a
    · refine .inr ?_
      cases q : H a with
      | none => rfl
      | some u =>
        rw [eb, notK (by rw [q]; exact Option.some_ne_none u)] at e
        cases e
    · exact .inl eb
  obtain ⟨mc, l1, l2⟩ := hlim
  have M : Mod K mg (hidT z.heap H) := ⟨kinB, names hns, ⟨mb, names hb, hbb⟩, ⟨mc, names l1, l2⟩⟩
  have env : Env0 P w K mg (hidT z.heap H) callerA [] z H := by
    refine ⟨rfl, M, fun b o e => of_hidT e, Nat.le_of_eq (hidT_size _ _), trivial, ?_, ok, .of_eq hg⟩
    intro b hm
    cases hm
  refine codeAny_mono ((F _ kinB (names hns)).go callerA [] z H ⟨[.ref a], []⟩ [.ref a] [.ref a] _ _ hr rfl env (bind z (.ref a)) (.cons rfl .nil) ask) ?_
  intro r s' res
  cases r with
  | error e => cases res
  | ok fl =>
    cases fl with
    | ret u =>
      obtain ⟨v, H', os, bare, un, ok', rel, ev⟩ := res
      have ev' : v = .bl true := ev
      subst ev'
      have eu : u = Value.bool true := rel
      subst eu
      refine ⟨rfl, OldK.of_keep fun b o e => ?_, os, bare⟩
      rcases only b with q | ⟨ob, xs, q⟩
      · exact un.keep b o e q (fun m => by cases m) (fun m => by cases m)
      · obtain ⟨e1, _⟩ := ok b _ q
        obtain ⟨e2, _⟩ := ok' b _ (un.frzs b ob _ q)
        rw [e] at e1
        cases e1
        exact e2
    | next => cases res
    | brk => cases res
    | cont => cases res
theorem my_law_call (kin : K.In z.heap) (hns : z.heap.Ns mainGlobals mg) (hb : z.heap.Ns builtinsNs mb) (hbb : ∀ x : Str, x ≠ "__name__" → mb x = bootBuiltins x)
    (hlim : z.heap.NoLimit) (hg : z.gens = #[]) (ha : z.heap.get? a = some { cls := .type "list", data := .seq vs.toArray }) (hi : IntsAre vs ns) (hl : ns.length ≤ sizeLine)
    (hr : Room k callerA) (F : ∀ base : Heap, K.In base → base.Ns mainGlobals mg → FnG P w K mg base k fa fd [x] sp)
    (bind : ∀ (s : Shared) (u : Value), BindsTo s fd ⟨[u], []⟩ [(x, u)])
    (ask : ∀ H : Hp, Only H → SqL K H a (ns.map V.int) → sp [.ref a] H (fun v _ => v = .bl true) fun _ _ _ => False) :
    codeAny (model P w) callerA (.call (.ref fa) ⟨[.ref a], []⟩) (endsTrue z) z := by
  have rv := vals_ints hi
  have lv := hi.length
  cases hk : K.lookup a with
  | none =>
    let H0 : Hp := fun b => if b = a then some (.frz { cls := .type "list", data := .seq vs.toArray } (.lst (ns.map V.int))) else none
    have at0 : H0 a = some (.frz { cls := .type "list", data := .seq vs.toArray } (.lst (ns.map V.int))) := if_pos rfl
    have else0 : ∀ b, b ≠ a → H0 b = none := fun b h => if_neg h
    have only : Only H0 := fun b => by
      by_cases h : b = a
      · rw [h]
        exact .inr ⟨_, _, at0⟩
      · exact .inl (else0 b h)
    refine my_core kin hns hb hbb hlim hg ha hr F bind H0 (ask H0 only (.inl (.inr ⟨_, at0⟩))) ?_ only ?_ (fun _ => hk)
    · intro b u h
      by_cases hba : b = a
      · subst hba
        rw [at0] at h
        cases h
        exact ⟨ha, by rw [List.length_map]; exact hl, vs, _, rv, ha⟩
      · rw [else0 b hba] at h
        cases h
    · intro b h
      exact Classical.byContradiction fun n => h (else0 b n)
  | some o =>
    have e := kin a o hk
    rw [ha] at e
    cases e
    have only : Only fun _ => none := fun _ => .inl rfl
    refine my_core kin hns hb hbb hlim hg ha hr F bind (fun _ => none) (ask _ only ?_) ?_ only ?_ ?_
    · exact .inr ⟨_, vs.toArray, _, hk, rfl, rfl, rfl, by rw [List.size_toArray, lv]; exact hl, by simpa using rv⟩
    · intro b u h
      cases h
    · intro b h
      exact absurd rfl h
    · intro h
      exact absurd rfl h
end
theorem my_walk {l : PySem.W.OpenLaw} {k : Nat} {q : Program} {loose : List Str} {XP : (Str → Option Value) → Heap → Prop} {YP : World → Heap → Prop} {d : DefRec}
    {K : Params → PySem.W.Frag} {sp : PySem.W.Frag → Sp} (hn : l.most = some 63) (hdf : d.params.defaults = []) (hr : Room k callerA)
    (hY : ∀ (w : World) (h : Heap), YP w h → (K w.params).In h)
    (F : ∀ (w : World) (mg : Str → Option Value) (fa : Addr) (h : Heap), (K w.params).In h → h.Ns mainGlobals mg → mg d.name = some (.ref fa) →
      ∃ fd : FuncData, (∀ (s : Shared) (u : Value), BindsTo s fd ⟨[u], []⟩ [("script", u)]) ∧
        ∀ base : Heap, (K w.params).In base → base.Ns mainGlobals mg → FnG l.prog w (K w.params) mg base k fa fd ["script"] (sp (K w.params)))
    (ask : ∀ (K : PySem.W.Frag) (H : Hp) (a : Addr) (ns : List Int), ns.length ≤ 63 → SqL K H a (ns.map V.int) → sp K [.ref a] H (fun v _ => v = .bl true) fun _ _ _ => False) :
    PySem.W.WalkO q loose XP YP l.row.toRowW d [] (fun f vs => PySem.call f vs) := by
  refine Att.attach_call hn hdf fun w s0 z mg mb fa o pm cd doc a vs ns G Y ho hd hcd hmg hobj hints hlen hg => ?_
  have kin := hY w _ Y
  obtain ⟨fd, bind, hF⟩ := F w mg fa _ kin G.T.g hmg
  exact my_law_call kin G.T.g G.T.b G.T.builtins G.T.nolimit hg hobj hints (Nat.le_trans hlen (by decide)) hr hF bind
    fun H only hS => ask (K w.params) H a ns hlen hS
end L2

/-! Data compared, cut, and told. -/
namespace L2
open PySem PySem.Spec PyProof.Rows
theorem eqv_ints : ∀ xs ys : List Int, PyData.eqvAll (xs.map PyData.int) (ys.map PyData.int) = decide (xs = ys)
  | [], [] => rfl
  | [], _ :: _ => rfl
  | _ :: _, [] => rfl
  | x :: xs, y :: ys => by
    have q := eqv_ints xs ys
    show ((x == y) && PyData.eqvAll (xs.map PyData.int) (ys.map PyData.int)) = decide (x :: xs = y :: ys)
    rw [q]
    by_cases h : x = y
    · subst h
      by_cases h2 : xs = ys
      · subst h2
        simp
      · simp [h2]
    · simp [h]
theorem eqv_dInts (xs ys : List Int) : PyData.eqv (dInts xs) (dInts ys) = decide (xs = ys) := eqv_ints xs ys
theorem shaped_dInts (ns : List Int) : SeqAt.shaped (dInts ns) = true := by
  have e : SeqAt.shaped (dInts ns) = SeqAt.shaped (.list (ns.map PyData.int)) := rfl
  rw [e]
  exact PySem.W.shaped_ints ns
/-- a list of ints that stands -/
theorem Dp.ofList {K : PySem.W.Frag} {H : Hp} {a : Addr} {ns : List Int} (h : H a = some (.lst (ns.map V.int))) : Dp K H (.ref a) (dList ns) :=
  .lst (SqL.of h) (DpAll.ints ns)
def cutD (ds : List PyData) (lo hi : Option Int) : List PyData := (ds.drop (HT.sIx ds.length 0 lo)).take (HT.sIx ds.length ds.length hi - HT.sIx ds.length 0 lo)
theorem DpAll.drop {K : PySem.W.Frag} {H : Hp} : ∀ {vs : List V} {ds : List PyData} (n : Nat), DpAll K H vs ds → DpAll K H (vs.drop n) (ds.drop n)
  | _, _, 0, h => h
  | _, _, _ + 1, .nil => .nil
  | _, _, n + 1, .cons _ h => DpAll.drop n h
theorem DpAll.take {K : PySem.W.Frag} {H : Hp} : ∀ {vs : List V} {ds : List PyData} (n : Nat), DpAll K H vs ds → DpAll K H (vs.take n) (ds.take n)
  | _, _, 0, _ => .nil
  | _, _, _ + 1, .nil => .nil
  | _, _, n + 1, .cons h1 h => .cons h1 (DpAll.take n h)
/-- t[lo:hi] of a tuple of data -/
theorem rd_cut {K : PySem.W.Frag} {H : Hp} {v : V} {ds : List PyData} {lo hi : Option Int} {Q : VK} (h : Dp K H v (.tuple ds))
    (k : ∀ w H', Same H H' → Dp K H' w (.tuple (cutD ds lo hi)) → Q w H') : rSlA K v lo hi H Q := by
  obtain ⟨a, xs, rfl, hT, hX⟩ := h.tuple
  have hl := hX.len
  have hc : DpAll K H (cutV xs lo hi) (cutD ds lo hi) := by
    unfold cutV cutD
    rw [← hl]
    exact (hX.drop _).take _
  refine ⟨a, xs, rfl, hT, fun w => ?_, fun _ p hp => ?_⟩
  · refine k _ H (Same.refl H) (.tup hT ?_)
    have e : cutV xs lo hi = xs := by
      unfold cutV
      rw [w.1, w.2, List.drop_zero, Nat.sub_zero, List.take_length]
    rw [e] at hc
    exact hc
  · exact k _ _ (same_upd hp _) (.tup (SqT.of upd_same) (DpAll.same (same_upd hp _) _ _ hc))
theorem cutD_map {α : Type} (f : α → PyData) (xs : List α) (n : Nat) : cutD (xs.map f) none (some (n : Int)) = (xs.take n).map f := by
  unfold cutD
  rw [HT.sIx_none, HT.sIx_nat, List.drop_zero, Nat.sub_zero, List.length_map, ← List.map_take]
  congr 1
  by_cases h : n ≤ xs.length
  · rw [Nat.min_eq_left h]
  · rw [Nat.min_eq_right (by omega), List.take_length, List.take_of_length_le (by omega)]
end L2

/-! The promises of the defs that several laws share, and what is known of them. -/
namespace My
open PySem PySem.Spec PyProof.Rows L2
def sp__law_begun (K : PySem.W.Frag) : Sp := fun vs H Q _ => ∃ (a : Addr) (ns : List Int), vs = [.ref a] ∧ SqL K H a (ns.map V.int) ∧ ns.length ≤ 63 ∧
  ∀ m H', Same H H' → MS H' m 0 → Q (.ref m) H'
def sp__law_next (K : PySem.W.Frag) : Sp := fun vs H Q _ => ∃ (m : Addr) (many : Int) (n : Nat), vs = [.ref m, .int many] ∧ MS H m n ∧ 0 < many ∧ many ≤ 10 ^ 31 ∧ n < 2 ^ 40 ∧
  ∀ (r : Int) (n' : Nat) H', 0 ≤ r → r < many → n' ≤ n + 1 → MS H' m n' → Ef m H H' → Q (.int r) H'
def NB (r : Int) : Prop := -(10 ^ 30) ≤ r ∧ r ≤ 10 ^ 30
def sp__law_number (K : PySem.W.Frag) : Sp := fun vs H Q _ => ∃ (m : Addr) (n : Nat), vs = [.ref m] ∧ MS H m n ∧ n + 2 ≤ 2 ^ 40 ∧
  ∀ (r : Int) (n' : Nat) H', NB r → n' ≤ n + 2 → MS H' m n' → Ef m H H' → Q (.int r) H'
def sp__law_lengths (K : PySem.W.Frag) : Sp := fun vs H Q _ => ∃ (m : Addr) (many most : Int) (n : Nat), vs = [.ref m, .int many, .int most] ∧ MS H m n ∧ 0 ≤ many ∧ many ≤ 100 ∧ 1 ≤ most ∧ most ≤ 1000 ∧ n + 200 ≤ 2 ^ 40 ∧
  ∀ (v : V) (ls : List Int) (n' : Nat) H', Dp K H' v (dInts ls) → (ls.length : Int) ≤ many → (∀ z ∈ ls, 1 ≤ z ∧ z ≤ most) → n' ≤ n + 200 → MS H' m n' → Ef m H H' → Q v H'
def sp__law_loops_of (K : PySem.W.Frag) : Sp := fun vs H Q _ => ∃ (m : Addr) (v : V) (lens : List Int) (n : Nat), vs = [.ref m, v] ∧ Dp K H v (dInts lens) ∧ lens.length ≤ 100 ∧ (∀ z ∈ lens, 0 ≤ z ∧ z ≤ 1000) ∧ MS H m n ∧ n + 300000 ≤ 2 ^ 40 ∧
  ∀ (v : V) (ls : List (List Int)) (n' : Nat) H', Dp K H' v (dLoops ls) → ls.map (fun l => (l.length : Int)) = lens → (∀ l ∈ ls, ∀ z ∈ l, NB z) → n' ≤ n + 200000 → MS H' m n' → Ef m H H' → Q v H'
def sp_is_whole (K : PySem.W.Frag) : Sp := fun vs H Q _ => ∃ (x : V) (t : Value) (b1 b2 : Bool), vs = [x] ∧ TyX K H x t ∧ PySem.W.kitOne K t (.type "int") = some b1 ∧ PySem.W.kitOne K t (.type "bool") = some b2 ∧ Q (.bl (b1 && !b2)) H
def sp_is_tick (K : PySem.W.Frag) : Sp := fun vs H Q _ => ∃ (i : Int), vs = [.int i] ∧ Q (.bl (decide (0 ≤ i) && decide (i ≤ 10 ^ 30))) H
def sp_need_tick (K : PySem.W.Frag) : Sp := fun vs H Q _ => ∃ (i : Int), vs = [.int i] ∧ 0 ≤ i ∧ i ≤ 10 ^ 30 ∧ Q .non H
def sp_need_many (K : PySem.W.Frag) : Sp := fun vs H Q _ => ∃ (i : Int), vs = [.int i] ∧ 0 ≤ i ∧ i ≤ 1000 ∧ Q .non H
def OkL (ls : List (List Int)) : Prop := ls.length ≤ 6 ∧ ∀ l ∈ ls, 1 ≤ l.length ∧ l.length ≤ 64
def sp_need_loops (K : PySem.W.Frag) : Sp := fun vs H Q _ => ∃ (v : V) (ls : List (List Int)), vs = [v] ∧ Dp K H v (dLoops ls) ∧ OkL ls ∧ ∀ H', Same H H' → Q v H'
def hAt (l : List Int) (t : Int) : Int := l.getD (t.fmod (l.length : Int)).toNat 0
def hd (ls : List (List Int)) (t : Int) : Int := (ls.map fun l => hAt l t).sum
def hrow (ls : List (List Int)) (t : Int) (n : Nat) : List Int := (List.range n).map fun i => hd ls (t + (i : Nat))
def sp_sum_at (K : PySem.W.Frag) : Sp := fun vs H Q _ => ∃ (v : V) (ls : List (List Int)) (t : Int), vs = [v, .int t] ∧ Dp K H v (dLoops ls) ∧ OkL ls ∧ ∀ H', Same H H' → Q (.int (hd ls t)) H'
def sp__law_heard (K : PySem.W.Frag) : Sp := fun vs H Q _ => ∃ (v : V) (ls : List (List Int)) (t : Int), vs = [v, .int t] ∧ Dp K H v (dLoops ls) ∧ OkL ls ∧ ∀ H', Same H H' → Q (.int (hd ls t)) H'
def sp_heard (K : PySem.W.Frag) : Sp := fun vs H Q _ => ∃ (v : V) (ls : List (List Int)) (t : Int), vs = [v, .int t] ∧ Dp K H v (dLoops ls) ∧ OkL ls ∧ 0 ≤ t ∧ t ≤ 10 ^ 30 ∧ ∀ H', Same H H' → Q (.int (hd ls t)) H'
def sp_heard_row (K : PySem.W.Frag) : Sp := fun vs H Q _ => ∃ (v : V) (ls : List (List Int)) (t n : Int), vs = [v, .int t, .int n] ∧ Dp K H v (dLoops ls) ∧ OkL ls ∧ 0 ≤ t ∧ t ≤ 10 ^ 30 ∧ 0 ≤ n ∧ n ≤ 1000 ∧
  ∀ w H', Same H H' → Dp K H' w (dInts (hrow ls t n.toNat)) → Q w H'
def sp__law_heard_row (K : PySem.W.Frag) : Sp := fun vs H Q _ => ∃ (v : V) (ls : List (List Int)) (t n : Int), vs = [v, .int t, .int n] ∧ Dp K H v (dLoops ls) ∧ OkL ls ∧ 0 ≤ n ∧ n ≤ 1000 ∧
  ∀ w H', Same H H' → Dp K H' w (dInts (hrow ls t n.toNat)) → Q w H'
theorem loops_get {K : PySem.W.Frag} {H : Hp} {xs : List V} {ls : List (List Int)} {i : Nat} {x : V} (h : DpAll K H xs (ls.map dInts)) (hx : xs[i]? = some x) :
    ∃ l a, ls[i]? = some l ∧ x = .ref a ∧ SqT K H a (l.map V.int) := by
  obtain ⟨d, hd, hD⟩ := h.get hx
  rw [List.getElem?_map] at hd
  cases e : ls[i]? with
  | none =>
    rw [e] at hd
    cases hd
  | some l =>
    rw [e] at hd
    cases hd
    obtain ⟨a, rfl, hT⟩ := hD.ints
    exact ⟨l, a, rfl, rfl, hT⟩
theorem iteP {p A B : Prop} [Decidable p] (h : p) (a : A) : if decide p = true then A else B := by
  rw [decide_eq_true h]
  exact iteT a
theorem iteN {p A B : Prop} [Decidable p] (h : ¬ p) (b : B) : if decide p = true then A else B := by
  rw [decide_eq_false h]
  exact iteF b
theorem kit_ii {K : PySem.W.Frag} : PySem.W.kitOne K (.type "int") (.type "int") = some true := kit_ty (by decide +kernel)
theorem kit_ib {K : PySem.W.Frag} : PySem.W.kitOne K (.type "int") (.type "bool") = some false := kit_ty (by decide +kernel)
theorem kit_tt {K : PySem.W.Frag} : PySem.W.kitOne K (.type "tuple") (.type "tuple") = some true := kit_ty (by decide +kernel)
theorem _root_.L2.Dp.same_at {K : PySem.W.Frag} {H H' : Hp} {v : V} {d : PyData} (h : Dp K H v d) (e : Same H H') : Dp K H' v d := Dp.same e d v h
theorem hAt_ix {l : List Int} (t : Int) (h : 1 ≤ l.length) : atI (l.map V.int) (t.fmod ((l.map V.int).length : Int)) = some (.int (hAt l t)) := by
  rw [List.length_map]
  have hp : (0 : Int) < (l.length : Int) := by omega
  have h1 := Int.fmod_nonneg_of_pos t hp
  have h2 := Int.fmod_lt_of_pos t hp
  have hk : (t.fmod (l.length : Int)).toNat < l.length := by omega
  refine at_of (j := (t.fmod (l.length : Int)).toNat) (by omega) ?_
  rw [List.getElem?_map, List.getElem?_eq_getElem hk]
  unfold hAt
  rw [List.getD_eq_getElem?_getD, List.getElem?_eq_getElem hk]
  rfl
theorem hrow_len (ls : List (List Int)) (t : Int) (n : Nat) : (hrow ls t n).length = n := by
  unfold hrow
  rw [List.length_map, List.length_range]
theorem hrow_more (ls : List (List Int)) (t : Int) (n : Nat) : hrow ls t (n + 1) = hrow ls t n ++ [hd ls (t + (0 + (n : Int)))] := by
  unfold hrow
  rw [List.range_succ, List.map_append, Int.zero_add]
  rfl
def sp_law (K : PySem.W.Frag) : Sp := fun vs H Q _ => ∃ (a : Addr) (ns : List Int), vs = [.ref a] ∧ SqL K H a (ns.map V.int) ∧ ns.length ≤ 63 ∧ ∀ H', Q (.bl true) H'
def NBL (ls : List (List Int)) : Prop := ∀ l ∈ ls, ∀ z ∈ l, NB z
theorem hAt_nb {l : List Int} (t : Int) (h : ∀ z ∈ l, NB z) : NB (hAt l t) := by
  unfold hAt
  rw [List.getD_eq_getElem?_getD]
  cases e : l[(t.fmod (l.length : Int)).toNat]? with
  | none => exact ⟨by decide, by decide⟩
  | some z => exact h z (List.mem_of_getElem? e)
theorem hd_nb : ∀ {ls : List (List Int)} (t : Int), NBL ls → -(10 ^ 30) * (ls.length : Int) ≤ hd ls t ∧ hd ls t ≤ 10 ^ 30 * (ls.length : Int)
  | [], _, _ => ⟨(by decide : -(10 ^ 30) * ((0 : Nat) : Int) ≤ 0), (by decide : (0 : Int) ≤ 10 ^ 30 * ((0 : Nat) : Int))⟩
  | l :: r, t, h => by
    have q := hd_nb (ls := r) t fun x hx => h x (List.mem_cons_of_mem _ hx)
    have e : hd (l :: r) t = hAt l t + hd r t := by
      unfold hd
      rw [List.map_cons, List.sum_cons]
    obtain ⟨a, b⟩ := hAt_nb t (h l List.mem_cons_self)
    rw [e, List.length_cons]
    obtain ⟨c, d⟩ := q
    constructor <;> omega
theorem hd_small {ls : List (List Int)} (t : Int) (h : NBL ls) (hl : ls.length ≤ 6) : (hd ls t).natAbs < 10 ^ 40 := by
  obtain ⟨a, b⟩ := hd_nb t h
  have c : ((ls.length : Nat) : Int) ≤ 6 := by omega
  have e : (10 : Int) ^ 30 * (ls.length : Int) ≤ 10 ^ 31 := by omega
  have f : -(10 ^ 31) ≤ -(10 : Int) ^ 30 * (ls.length : Int) := by omega
  have g : (10 : Nat) ^ 40 = 10000000000000000000000000000000000000000 := by decide
  omega
theorem hrow_small {ls : List (List Int)} (t : Int) (n : Nat) (h : NBL ls) (hl : ls.length ≤ 6) : ∀ z ∈ hrow ls t n, z.natAbs < 10 ^ 40 := by
  intro z hz
  unfold hrow at hz
  obtain ⟨i, _, rfl⟩ := List.mem_map.mp hz
  exact hd_small _ h hl
theorem nb_small {z : Int} (h : NB z) : z.natAbs < 10 ^ 40 := by
  obtain ⟨a, b⟩ := h
  have g : (10 : Nat) ^ 40 = 10000000000000000000000000000000000000000 := by decide
  omega
theorem tells_row {ls : List (List Int)} (t : Int) (n : Nat) (h : NBL ls) (hl : ls.length ≤ 6) (hn : n ≤ 1000) : Tells (dInts (hrow ls t n)) :=
  tells_ints (ns := hrow ls t n) 40 (by decide) (by decide) (hrow_small t n h hl) (by rw [hrow_len]; omega)
theorem tells_two {x : Int} (h : x.natAbs < 10 ^ 40) : Tells (dList [x, x]) := tells_list (ns := [x, x]) 40 (by decide) (by decide)
  (by intro z hz; simp at hz; rw [hz]; exact h) (by show (40 + 3) * 2 + 4 ≤ 16000000; decide)
theorem tells_ok {ls : List (List Int)} (h : NBL ls) (ok : OkL ls) : Tells (dLoops ls) := tells_loops (ls := ls) 40 64 (by decide) (by decide)
  (fun l hl z hz => nb_small (h l hl z hz)) (fun l hl => (ok.2 l hl).2) (by have := ok.1; omega)
/-- one of two -/
theorem pick2 {x y : Int} {r : Int} (h0 : 0 ≤ r) (h1 : r < 2) : ∃ b : Int, atI ([x, y].map V.int) r = some (.int b) ∧ (b = x ∨ b = y) := by
  rcases (by omega : r = 0 ∨ r = 1) with e | e
  · rw [e]
    exact ⟨x, at_of (j := 0) rfl rfl, .inl rfl⟩
  · rw [e]
    exact ⟨y, at_of (j := 1) rfl rfl, .inr rfl⟩
theorem pick3 {x y w : Int} {r : Int} (h0 : 0 ≤ r) (h1 : r < 3) : ∃ b : Int, atI ([x, y, w].map V.int) r = some (.int b) ∧ (b = x ∨ b = y ∨ b = w) := by
  rcases (by omega : r = 0 ∨ r = 1 ∨ r = 2) with e | e | e
  · rw [e]
    exact ⟨x, at_of (j := 0) rfl rfl, .inl rfl⟩
  · rw [e]
    exact ⟨y, at_of (j := 1) rfl rfl, .inr (.inl rfl)⟩
  · rw [e]
    exact ⟨w, at_of (j := 2) rfl rfl, .inr (.inr rfl)⟩
theorem min4 (z : Int) (h : 0 ≤ z) : 0 ≤ (if (4 : Int) < z then 4 else z) ∧ (if (4 : Int) < z then 4 else z) ≤ 4 := by
  split <;> omega
abbrev farL : List (List Int) := [[(10 ^ 62) ^ 16, 1 - (10 ^ 62) ^ 16], [5]]
theorem far_row : hrow farL (10 ^ 30) 2 = [(10 ^ 62) ^ 16 + 5, 6 - (10 ^ 62) ^ 16] := by decide +kernel
theorem iteB {b : Bool} {A B : Prop} (h : b = true) (k : B) : if (!b) = true then A else B := by
  rw [h]
  exact iteF k
theorem far_eq : PyData.eqv (dInts (hrow farL (10 ^ 30) 2)) (dInts [(10 ^ 62) ^ 16 + 5, 6 - (10 ^ 62) ^ 16]) = true := by
  rw [eqv_dInts, far_row]
  exact decide_eq_true rfl
theorem far_ok : OkL farL := by
  refine ⟨by decide, fun l hl => ?_⟩
  simp at hl
  rcases hl with h | h <;> (rw [h]; decide)
theorem OkL.take {ls : List (List Int)} (h : OkL ls) (n : Nat) : OkL (ls.take n) :=
  ⟨by rw [List.length_take]; have := h.1; omega, fun l hl => h.2 l (List.mem_of_mem_take hl)⟩
theorem NBL.take {ls : List (List Int)} (h : NBL ls) (n : Nat) : NBL (ls.take n) := fun l hl => h l (List.mem_of_mem_take hl)
/-! ### loops turned -/
def turnL (l : List Int) (k : Nat) : List Int := l.drop k ++ l.take k
def lat (ls : List (List Int)) (t : Int) : List (List Int) := ls.map fun l => turnL l (t.fmod (l.length : Int)).toNat
def lensI (ls : List (List Int)) : List Int := ls.map fun l => (l.length : Int)
def sp_lengths_of (K : PySem.W.Frag) : Sp := fun vs H Q _ => ∃ (v : V) (ls : List (List Int)), vs = [v] ∧ Dp K H v (dLoops ls) ∧ OkL ls ∧ ∀ w H', Same H H' → Dp K H' w (dInts (lensI ls)) → Q w H'
def sp_begun_at (K : PySem.W.Frag) : Sp := fun vs H Q _ => ∃ (v : V) (l : List Int) (i : Int), vs = [v, .int i] ∧ Dp K H v (dInts l) ∧ 0 ≤ i ∧ i < (l.length : Int) ∧ l.length ≤ 64 ∧ ∀ w H', Same H H' → Dp K H' w (dInts (turnL l i.toNat)) → Q w H'
def sp__law_turned (K : PySem.W.Frag) : Sp := fun vs H Q _ => ∃ (v : V) (l : List Int) (t : Int), vs = [v, .int t] ∧ Dp K H v (dInts l) ∧ 1 ≤ l.length ∧ l.length ≤ 64 ∧ ∀ w H', Same H H' → Dp K H' w (dInts (turnL l (t.fmod (l.length : Int)).toNat)) → Q w H'
def sp_later (K : PySem.W.Frag) : Sp := fun vs H Q _ => ∃ (v : V) (ls : List (List Int)) (t : Int), vs = [v, .int t] ∧ Dp K H v (dLoops ls) ∧ OkL ls ∧ 0 ≤ t ∧ t ≤ 10 ^ 30 ∧ ∀ w H', Same H H' → Dp K H' w (dLoops (lat ls t)) → Q w H'
theorem fm {t : Int} {n : Nat} (h : 1 ≤ n) : t.fmod (n : Int) = t % (n : Int) := Int.fmod_eq_emod_of_nonneg t (by omega)
theorem fm_lt {t : Int} {n : Nat} (h : 1 ≤ n) : (t.fmod (n : Int)).toNat < n := by
  have a := Int.fmod_nonneg_of_pos t (show (0 : Int) < (n : Int) by omega)
  have b := Int.fmod_lt_of_pos t (show (0 : Int) < (n : Int) by omega)
  omega
theorem turn_len (l : List Int) (k : Nat) : (turnL l k).length = l.length := by
  unfold turnL
  rw [List.length_append, List.length_drop, List.length_take]
  omega
theorem turn_get {l : List Int} {k i : Nat} (hk : k < l.length) (hi : i < l.length) : (turnL l k)[i]? = l[(k + i) % l.length]? := by
  unfold turnL
  by_cases h : i < l.length - k
  · rw [List.getElem?_append_left (by rw [List.length_drop]; exact h), List.getElem?_drop, Nat.mod_eq_of_lt (by omega)]
  · rw [List.getElem?_append_right (by rw [List.length_drop]; omega), List.length_drop, List.getElem?_take_of_lt (by omega)]
    congr 1
    rw [Nat.mod_eq_sub_mod (by omega), Nat.mod_eq_of_lt (by omega)]
    omega
theorem turn_turn {l : List Int} {a b : Nat} (ha : a < l.length) (hb : b < l.length) : turnL (turnL l a) b = turnL l ((a + b) % l.length) := by
  refine List.ext_getElem? fun i => ?_
  by_cases hi : i < l.length
  · rw [turn_get (by rw [turn_len]; exact hb) (by rw [turn_len]; exact hi), turn_len, turn_get ha (Nat.mod_lt _ (by omega)), turn_get (Nat.mod_lt _ (by omega)) hi]
    congr 1
    rw [Nat.add_mod_mod, Nat.mod_add_mod, Nat.add_assoc]
  · rw [List.getElem?_eq_none (by rw [turn_len, turn_len]; omega), List.getElem?_eq_none (by rw [turn_len]; omega)]
theorem fm_add {a b : Int} {n : Nat} (h : 1 ≤ n) : ((a.fmod (n : Int)).toNat + (b.fmod (n : Int)).toNat) % n = ((a + b).fmod (n : Int)).toNat := by
  rw [fm h, fm h, fm h]
  have a0 := Int.emod_nonneg a (show (n : Int) ≠ 0 by omega)
  have b0 := Int.emod_nonneg b (show (n : Int) ≠ 0 by omega)
  have c0 := Int.emod_nonneg (a + b) (show (n : Int) ≠ 0 by omega)
  have e : ((((a % (n : Int)).toNat + (b % (n : Int)).toNat) % n : Nat) : Int) = (a + b) % (n : Int) := by
    rw [Int.natCast_emod, Int.natCast_add, Int.toNat_of_nonneg a0, Int.toNat_of_nonneg b0, ← Int.add_emod]
  omega
theorem hAt_turn {l : List Int} (a t : Int) (h : 1 ≤ l.length) : hAt (turnL l (a.fmod (l.length : Int)).toNat) t = hAt l (a + t) := by
  unfold hAt
  rw [turn_len, List.getD_eq_getElem?_getD, List.getD_eq_getElem?_getD, turn_get (fm_lt h) (fm_lt h), fm_add h]
theorem hd_lat {ls : List (List Int)} (a t : Int) (h : ∀ l ∈ ls, 1 ≤ l.length) : hd (lat ls a) t = hd ls (a + t) := by
  unfold hd lat
  rw [List.map_map]
  congr 1
  exact List.map_congr_left fun l hl => hAt_turn a t (h l hl)
theorem lat_lat {ls : List (List Int)} (a b : Int) (h : ∀ l ∈ ls, 1 ≤ l.length) : lat (lat ls a) b = lat ls (a + b) := by
  unfold lat
  rw [List.map_map]
  refine List.map_congr_left fun l hl => ?_
  show turnL (turnL l (a.fmod (l.length : Int)).toNat) (b.fmod ((turnL l (a.fmod (l.length : Int)).toNat).length : Int)).toNat = _
  rw [turn_len, turn_turn (fm_lt (h l hl)) (fm_lt (h l hl)), fm_add (h l hl)]
theorem lat_id {ls : List (List Int)} (a : Int) (h : ∀ l ∈ ls, 1 ≤ l.length ∧ a % (l.length : Int) = 0) : lat ls a = ls := by
  unfold lat
  have e : ls.map (fun l => turnL l (a.fmod (l.length : Int)).toNat) = ls.map fun l => l := by
    refine List.map_congr_left fun l hl => ?_
    rw [fm (h l hl).1, (h l hl).2]
    show l.drop 0 ++ l.take 0 = l
    rw [List.drop_zero, List.take_zero, List.append_nil]
  rw [e, List.map_id']
theorem lat_ok {ls : List (List Int)} (a : Int) (h : OkL ls) : OkL (lat ls a) := by
  refine ⟨by unfold lat; rw [List.length_map]; exact h.1, fun l hl => ?_⟩
  obtain ⟨l', hl', rfl⟩ := List.mem_map.mp hl
  rw [turn_len]
  exact h.2 l' hl'
theorem lat_nb {ls : List (List Int)} (a : Int) (h : NBL ls) : NBL (lat ls a) := fun l hl z hz => by
  obtain ⟨l', hl', rfl⟩ := List.mem_map.mp hl
  unfold turnL at hz
  rcases List.mem_append.mp hz with q | q
  · exact h l' hl' z (List.mem_of_mem_drop q)
  · exact h l' hl' z (List.mem_of_mem_take q)
theorem lens_lat (ls : List (List Int)) (a : Int) : lensI (lat ls a) = lensI ls := by
  unfold lensI lat
  rw [List.map_map]
  exact List.map_congr_left fun l _ => by rw [Function.comp, turn_len]
theorem hrow_lat {ls : List (List Int)} (a t : Int) (n : Nat) (h : ∀ l ∈ ls, 1 ≤ l.length) : hrow (lat ls a) t n = hrow ls (a + t) n := by
  unfold hrow
  refine List.map_congr_left fun i _ => ?_
  rw [hd_lat a _ h, Int.add_assoc]
/-- two tuples of data, one behind the other -/
theorem rd_cat {K : PySem.W.Frag} {H : Hp} {v u : V} {ds es : List PyData} {Q : VK} (h1 : Dp K H v (.tuple ds)) (h2 : Dp K H u (.tuple es)) (hz : ds.length + es.length ≤ sizeLine)
    (k : ∀ w H', Same H H' → Dp K H' w (.tuple (ds ++ es)) → Q w H') : rCatA K v u H Q := by
  obtain ⟨a, xs, rfl, hT, hX⟩ := h1.tuple
  obtain ⟨b, ys, rfl, hU, hY⟩ := h2.tuple
  have l1 := hX.len
  have l2 := hY.len
  refine ⟨a, b, xs, ys, rfl, rfl, hT, hU, by rw [l1, l2]; exact hz, fun e => ?_, fun _ e => ?_, fun _ _ p hp => ?_⟩
  · subst e
    cases hX
    exact k _ H (Same.refl H) (.tup hU hY)
  · subst e
    cases hY
    rw [List.append_nil] at k
    exact k _ H (Same.refl H) (.tup hT hX)
  · exact k _ _ (same_upd hp _) (.tup (SqT.of upd_same) (DpAll.same (same_upd hp _) _ _ (hX.app hY)))
theorem cutD_from {α : Type} (f : α → PyData) (xs : List α) {i : Int} (h : 0 ≤ i) (h2 : i ≤ (xs.length : Int)) : cutD (xs.map f) (some i) none = (xs.drop i.toNat).map f := by
  have e : i = ((i.toNat : Nat) : Int) := by omega
  rw [e]
  unfold L2.cutD
  rw [HT.sIx_none, HT.sIx_nat, List.length_map, Int.toNat_natCast, Nat.min_eq_left (by omega), ← List.map_drop]
  rw [List.take_of_length_le (by rw [List.length_map, List.length_drop]; omega)]
theorem cutD_to {α : Type} (f : α → PyData) (xs : List α) {i : Int} (h : 0 ≤ i) : cutD (xs.map f) none (some i) = (xs.take i.toNat).map f := by
  have e : i = ((i.toNat : Nat) : Int) := by omega
  rw [e, cutD_map, Int.toNat_natCast]
end My

/-! A tuple times any int; a tuple compared with the empty one. -/
namespace L2
open PySem PySem.Spec PyProof.Rows
section
theorem my_mul_same (l : Addr) (items : Array Value) (n : Nat) (dd : Option Addr) (sl : Array (Option Value)) (x : Int) (u : Tok)
    (c0 : (decide (x < -(2 ^ 63)) || decide (x ≥ 2 ^ 63)) = false) (c1 : (items.isEmpty || x == 1) = true) :
    Meets (Builtin.«tuple.__mul__» ⟨[.ref l, .int x u], []⟩) (fun _ R s =>
      s.heap.get? l = some { cls := .type "tuple", dict := dd, data := .seq items n, slots := sl } ∧ R (.ok (.ret (Value.ref l))) s) :=
  .of_wp fun prog w A R s h => by
    obtain ⟨hp, g, d, tk, os⟩ := s
    obtain ⟨hl, h⟩ := h
    have f1 := AutoSeq1.idx_int
    have c1' := c1
    wp_walk using wpAny_loadPart' hl
    refine wpAny_ite_false (decide_eq_false (by rw [c0]; exact Bool.false_ne_true)) ?_
    wp_walk using wpAny_loadPart' hl
    exact ⟨_, rfl, h⟩
theorem my_mul_none (l : Addr) (items : Array Value) (n : Nat) (dd : Option Addr) (sl : Array (Option Value)) (x : Int) (u : Tok)
    (c0 : (decide (x < -(2 ^ 63)) || decide (x ≥ 2 ^ 63)) = false) (c1 : (items.isEmpty || x == 1) = false) (c2 : (decide (x ≤ 0) || items.isEmpty) = true) :
    Meets (Builtin.«tuple.__mul__» ⟨[.ref l, .int x u], []⟩) (fun _ R s =>
      s.heap.get? l = some { cls := .type "tuple", dict := dd, data := .seq items n, slots := sl } ∧
      R (.ok (.ret (Value.ref s.heap.objs.size))) { s with heap := s.heap.push { cls := Value.type "tuple", data := Data.seq #[] } }) :=
  .of_wp fun prog w A R s h => by
    obtain ⟨hp, g, d, tk, os⟩ := s
    obtain ⟨hl, h⟩ := h
    have f1 := AutoSeq1.idx_int
    wp_walk using wpAny_loadPart' hl
    repeat (first
      | exact ⟨_, rfl, h⟩
      | (refine wpAny_ite_false (decide_eq_false (by rw [c0]; decide)) ?_; wp_walk using wpAny_loadPart' hl)
      | (refine wpAny_ite_false (decide_eq_false (by rw [c1]; decide)) ?_; wp_walk using wpAny_loadPart' hl)
      | (refine wpAny_ite_true (decide_eq_true c2) ?_; wp_walk using wpAny_loadPart' hl))
end
/-- t * k, any t, any k -/
def rRepA (K : PySem.W.Frag) : R2 := fun x y H Q => ∃ l k xs, x = .ref l ∧ y = .int k ∧ SqT K H l xs ∧ -1000 ≤ k ∧ k ≤ 1000 ∧ xs.length ≤ 1000 ∧
  ((xs = [] ∨ k = 1) → Q (.ref l) H) ∧ (¬ (xs = [] ∨ k = 1) → ∀ p, H p = none → Q (.ref p) (upd H p (.tup (List.replicate k.toNat xs).flatten)))
theorem op_repA {X : Cx} {K : PySem.W.Frag} (e : X.K = K := by rfl) : OpR X (binaryOp .Mult) (rRepA K) := by
  subst e
  intro pins s σ H x y v u Q I rx ry h
  obtain ⟨l, k, xs, rfl, rfl, hT, h1, h2, hz, q0, q1⟩ := h
  by_cases same : xs = [] ∨ k = 1
  · have q := q0 same
    cases rx
    obtain ⟨t, rfl⟩ := ry
    obtain ⟨its, r, ⟨⟨cls, dd, data, sl⟩, ho, hc, n, hd⟩, hs⟩ := I.tuple hT
    simp only at hc hd
    subst hc hd
    have c0 : (decide (k < -(2 ^ 63)) || decide (k ≥ 2 ^ 63)) = false := by
      rw [decide_eq_false (by omega), decide_eq_false (by omega)]
      rfl
    have c1 : (its.toArray.isEmpty || k == 1) = true := by
      rcases same with e | e
      · subst e
        cases r
        rfl
      · subst e
        simp
    refine wpAny_binaryOp_repeat_ref (T := "tuple") (U := "int") (by decide) ⟨_, ho, rfl⟩ (fun s' => typeIs_int s' k t) noFill_tuple_mul F.fills_int_mul F.slot_int_rmul repeat_tuple F.slot_int_index.lookup
      (call_meets F.slot_int_rmul (typeIs_int s k t) F.entry_int_rmul (F.args_int_rmul_2 _ _) (int_rmul_tuple k t l its.toArray n dd sl) ⟨ho, rfl, ⟨_, ho, rfl⟩, ?_⟩)
    exact call_meets F.slot_tuple_mul ⟨_, ho, rfl⟩ F.entry_tuple_mul (F.args_tuple_mul_2 _ _) (my_mul_same l its.toArray n dd sl k t c0 c1) ⟨ho, .ref l, H, I, rfl, q⟩
  · have q := q1 same
    have hne : xs ≠ [] := fun z => same (.inl z)
    by_cases h3 : 2 ≤ k
    · exact op_repT pins s σ H (.ref l) (.int k) v u Q I rx ry ⟨l, k, xs, rfl, rfl, hT, hne, h3, h2, hz, q⟩
    · cases rx
      obtain ⟨t, rfl⟩ := ry
      obtain ⟨its, r, ⟨⟨cls, dd, data, sl⟩, ho, hc, n, hd⟩, hs⟩ := I.tuple hT
      simp only at hc hd
      subst hc hd
      have k0 : k ≤ 0 := by
        have : k ≠ 1 := fun z => same (.inr z)
        omega
      have c0 : (decide (k < -(2 ^ 63)) || decide (k ≥ 2 ^ 63)) = false := by
        rw [decide_eq_false (by omega), decide_eq_false (by omega)]
        rfl
      have c1 : (its.toArray.isEmpty || k == 1) = false := by
        have e1 : its.toArray.isEmpty = false := by
          cases r with
          | nil => exact absurd rfl hne
          | cons _ _ => rfl
        rw [e1, Bool.false_or]
        exact beq_eq_false_iff_ne.mpr (by omega)
      have c2 : (decide (k ≤ 0) || its.toArray.isEmpty) = true := by
        rw [decide_eq_true k0]
        rfl
      have ek : k.toNat = 0 := by omega
      rw [ek] at q
      refine wpAny_binaryOp_repeat_ref (T := "tuple") (U := "int") (by decide) ⟨_, ho, rfl⟩ (fun s' => typeIs_int s' k t) noFill_tuple_mul F.fills_int_mul F.slot_int_rmul repeat_tuple F.slot_int_index.lookup
        (call_meets F.slot_int_rmul (typeIs_int s k t) F.entry_int_rmul (F.args_int_rmul_2 _ _) (int_rmul_tuple k t l its.toArray n dd sl) ⟨ho, rfl, ⟨_, ho, rfl⟩, ?_⟩)
      refine call_meets F.slot_tuple_mul ⟨_, ho, rfl⟩ F.entry_tuple_mul (F.args_tuple_mul_2 _ _) (my_mul_none l its.toArray n dd sl k t c0 c1 c2) ⟨ho, ?_⟩
      have J : Inv X pins σ (upd H s.heap.objs.size (.tup [])) { s with heap := s.heap.push { cls := .type "tuple", data := .seq #[] } } :=
        I.laid (t' := s.toks) (fun b ob z => Heap.get?_push_of_some _ z) (Nat.le_refl _) ⟨Nat.zero_le _, [], .nil, IsTup.new _ _⟩
      exact ⟨.ref s.heap.objs.size, _, J, rfl, q _ (I.hok.fresh (Nat.le_refl _))⟩
end L2

/-! Own errors with one field; things of many kinds. -/
namespace L2
open PySem PySem.Spec PyProof.Rows
/-! ### t == () -/
def rEqT0 (K : PySem.W.Frag) : R2 := fun x y H Q => ∃ a b xs, x = .ref a ∧ y = .ref b ∧ SqT K H a xs ∧ SqT K H b [] ∧ Q (.bl xs.isEmpty) H
theorem op_eqT0 {X : Cx} {K : PySem.W.Frag} (hu : X.A.units + 64 < cLine) (ek : X.K = K := by rfl) : OpR X (compareOp .Eq) (rEqT0 K) := by
  subst ek
  intro pins s σ H x y v u Q I rx ry h
  obtain ⟨a, b, xs, rfl, rfl, ha, hb, q⟩ := h
  cases rx
  cases ry
  obtain ⟨us, r1, p1, z1⟩ := I.tuple ha
  obtain ⟨ws, r2, p2, z2⟩ := I.tuple hb
  have t1 : s.heap.IsTuple a us.toArray := p1
  have t2 : s.heap.IsTuple b ws.toArray := p2
  have l1 := r1.length
  cases r2
  have go := SeqAt.RcAt.tuples (A := X.A) (e := fun _ => true) t1 t2 (by omega) (fun j _ h2 => absurd h2 (by simp))
  refine go X.prog X.w _ _ ⟨.bl _, H, I, ?_, q⟩
  show Value.bool _ = Value.bool _
  cases xs with
  | nil =>
    cases r1
    rfl
  | cons x r =>
    cases r1
    rfl
/-! ### (a, b) = t, the written part named -/
theorem k_pgt {X : Cx} {K : PySem.W.Frag} {es : List Expr} {k : Nat} {t : TGs} {n : Nat} {pos : Pos} (hc : X.calm = true) (h : PGs X es t)
    (hn : (assignEach es X.env).length = n := by rfl) (hst : (assignEach es X.env).findIdx? (·.1) = none := by rfl)
    (e : X.K = K := by rfl) : PG X (.Tuple es k pos) (gTup K n t) := by
  subst e
  exact pg_tup hc h hn hst
/-! ### repr of data, of None and ints too -/
def TellsA (d : PyData) : Prop := Tells d ∨ d = .none ∨ ∃ i : Int, d = .int i ∧ i.natAbs.log2 < 1920
def rReprA (K : PySem.W.Frag) : List V → Hp → VK → Prop := fun xs H Q => ∃ x d, xs = [x] ∧ Dp K H x d ∧ TellsA d ∧ Q (.str d.shown) H
theorem k_reprA {X : Cx} {K : PySem.W.Frag} (hu : X.A.units + 64 < cLine) (hg : X.A.guards = some []) (e : X.K = K := by rfl) : CallR X (.builtin "repr") (rReprA K) := by
  intro pins s σ H xs us Q I r h
  obtain ⟨x, d, rfl, hd, ht, q⟩ := h
  rcases ht with ht | rfl | ⟨i, rfl, hi⟩
  · exact k_repr hu hg e pins s σ H [x] us Q I r ⟨x, d, rfl, hd, ht, q⟩
  · obtain ⟨u, rfl, ru⟩ := vals1 r
    cases hd
    cases ru
    exact PySem.P.repr_of_none ⟨.str _, H, I.tok _, ⟨_, rfl⟩, q⟩
  · obtain ⟨u, rfl, ru⟩ := vals1 r
    cases hd
    obtain ⟨t, rfl⟩ := ru
    exact PySem.P.repr_of_int hi ⟨.str _, H, I.tok _, ⟨_, rfl⟩, q⟩
end L2
namespace My
open PySem PySem.Spec PyProof.Rows L2
/-! ### an own error whose __init__ keeps its one argument -/
def sp_exc (C : Addr) (fld : Str) : Sp := fun vs H Q _ => ∃ (a : Addr) (w : V), vs = [.ref a, w] ∧ H a = some (exo a C none) ∧
  ∀ dx, H dx = none → dx ≠ a → Q .non (upd (upd H dx (exd dx [(fld, w)])) a (exo a C (some dx)))
structure ExcT (K : PySem.W.Frag) (mg : Str → Option Value) (name qual fld : Str) (st : Stmt) where
  C : Addr
  f : Addr
  d : FuncData
  m : mg name = some (.ref C)
  ox : OexC K C
  iC : PySem.W.findIn K (.ref C) "__init__" = some (some (.ref f))
  tI : PySem.W.typeIn K (.ref f) = some (.type "function")
  F : Fun K "__init__" qual st f d
  b : Binds K d ["self", fld] []
  nf : PySem.W.findIn K (.ref C) fld = some none
  xf : XfC K C
  te : PySem.W.exmOne K (.ref C) (.ref C) = some true
theorem exm_me {K : PySem.W.Frag} {C : Addr} (h1 : PySem.W.subIn K (.ref C) (.type "BaseException") = some true) (h2 : PySem.W.isClsIn K C = true)
    (h3 : PySem.W.typeIn K (.ref C) = some (.type "type")) (h4 : PySem.W.subIn K (.ref C) (.ref C) = some true) : PySem.W.exmOne K (.ref C) (.ref C) = some true := by
  have h2' : (PySem.W.clsIn K C).isSome = true := h2
  simp [PySem.W.exmOne, PySem.W.kitCls, h1, h2', h3, h4]
/-- what the top has written of such a class -/
def exc_mk {K : PySem.W.Frag} {h : Heap} {mg : Str → Option Value} {name qual fld : Str} {st : Stmt} (X : K.In h) (G : h.Ns mainGlobals mg) {C f : Addr} {d : FuncData} {nm q : Str} {N : Addr} {bs : List Value} {sn : List Str} {sub : List Value}
    {ab : Bool} {col : Option Bool} {dd : Option Addr} {m0 m1 m2 m3 m5 : Option Value} (F : Fun K "__init__" qual st f d) (b : Binds K d ["self", fld] [])
    (aC : PySem.W.nsIn K mainGlobals name = some (some (.ref C)))
    (xL : K.lookup C = some (excClassObj nm q C N bs [.type "ValueError", .type "Exception", .type "BaseException", .type "object"] true sn sub ab col dd m0 m1 m2 m3 m5 "ValueError.__new__"))
    (sa : PySem.W.findIn K (.ref C) "__setattr__" = some (some (.builtin "object.__setattr__")))
    (ga : PySem.W.findIn K (.ref C) "__getattribute__" = some (some (.builtin "BaseException.__getattribute__")))
    (gg : PySem.W.findIn K (.ref C) "__getattr__" = some none) (nb : PySem.W.findIn K (.ref C) fld = some none)
    (a1 : PySem.W.findIn K (.ref C) "__init__" = some (some (.ref f))) (t1 : PySem.W.typeIn K (.ref f) = some (.type "function"))
    (kC : PySem.W.keepIn K (.ref C) = true) (eC : PySem.W.subIn K (.ref C) (.type "BaseException") = some true) (tC : PySem.W.typeIn K (.ref C) = some (.type "type"))
    (hC : PySem.W.hasDictIn K C = true) (iC : PySem.W.isClsIn K C = true) (sC : PySem.W.subIn K (.ref C) (.ref C) = some true) : ExcT K mg name qual fld st where
  C := C
  f := f
  d := d
  m := PySem.W.mg_of X G aC
  ox := ⟨⟨nm, q, N, bs, _, sn, sub, ab, col, dd, m0, m1, m2, m3, m5, xL, by decide +kernel⟩, sa, eC, tC, kC⟩
  iC := a1
  tI := t1
  F := F
  b := b
  nf := nb
  xf := ⟨ga, gg, eC, hC⟩
  te := exm_me eC iC tC sC
/-- such an error made: what its maker wants -/
theorem exc_made {C : Addr} {fld : Str} {w : V} {H : Hp} {Q : XK} (k : ∀ d H', Same H H' → H' d = some (.xd [(fld, w)]) → Q (.ref C) (some d) H') :
    ∀ a, H a = none → sp_exc C fld (.ref a :: ([w] ++ [])) (upd H a (exo a C none)) (fun v H2 => v = .non ∧ ∃ (d : Addr) (fs : List (Str × V)),
      H2 a = some (exo a C (some d)) ∧ H2 d = some (exd d fs) ∧ H d = none ∧ Q (.ref C) (some d) (upd (del H2 a) d (.xd fs))) (fun _ _ _ => False) := by
  intro a ha
  refine ⟨a, w, rfl, upd_same, fun dx hdx hne => ⟨rfl, dx, [(fld, w)], upd_same, by rw [upd_ne hne, upd_same], ?_, ?_⟩⟩
  · rw [upd_ne hne] at hdx
    exact hdx
  · rw [upd_ne hne] at hdx
    refine k dx _ (fun b o q => ?_) upd_same
    have b1 := ne_of_none q ha
    have b2 := ne_of_none q hdx
    rw [upd_ne b2, del_ne b1, upd_ne b1, upd_ne b2, upd_ne b1]
    exact q
/-! ### things of many kinds -/
inductive Dt where
  | int (i : Int)
  | oth (n : String)
  | tup (ds : List Dt)
def tyOf : Dt → String
  | .int _ => "int"
  | .oth n => n
  | .tup _ => "tuple"
mutual
/-- v is a thing d; lists and dicts in it lie at allowed places -/
inductive Rp (K : PySem.W.Frag) (H : Hp) (ok : Addr → Prop) : V → Dt → Prop
  | int (i : Int) (h : i.natAbs < 10 ^ 40) : Rp K H ok (.int i) (.int i)
  | bl (b : Bool) : Rp K H ok (.bl b) (.oth "bool")
  | non : Rp K H ok .non (.oth "NoneType")
  | str (x : Str) : Rp K H ok (.str x) (.oth "str")
  | lst {a : Addr} {xs : List V} (h : H a = some (.lst xs)) (ho : ok a) : Rp K H ok (.ref a) (.oth "list")
  | dct {a : Addr} {kvs : List (Key × V)} (h : H a = some (.dK kvs)) (ho : ok a) : Rp K H ok (.ref a) (.oth "dict")
  | tup {a : Addr} {xs : List V} {ds : List Dt} (h : SqT K H a xs) (hx : RpAll K H ok xs ds) : Rp K H ok (.ref a) (.tup ds)
inductive RpAll (K : PySem.W.Frag) (H : Hp) (ok : Addr → Prop) : List V → List Dt → Prop
  | nil : RpAll K H ok [] []
  | cons {v : V} {vs : List V} {d : Dt} {ds : List Dt} (h : Rp K H ok v d) (r : RpAll K H ok vs ds) : RpAll K H ok (v :: vs) (d :: ds)
end
variable {K : PySem.W.Frag} {H H' : Hp} {ok ok' : Addr → Prop}
mutual
theorem Rp.keep (tk : TK K H H') (kp : ∀ a o, ok a → H a = some o → H' a = some o) (oo : ∀ a o, H a = some o → ok a → ok' a) : ∀ (d : Dt) (v : V), Rp K H ok v d → Rp K H' ok' v d
  | .int i, _, h => by
    cases h with
    | int _ h => exact .int i h
  | .oth _, _, h => by
    cases h with
    | bl b => exact .bl b
    | non => exact .non
    | str x => exact .str x
    | lst h ho => exact .lst (kp _ _ ho h) (oo _ _ h ho)
    | dct h ho => exact .dct (kp _ _ ho h) (oo _ _ h ho)
  | .tup ds, _, h => by
    cases h with
    | tup h hx => exact .tup (tk _ _ h) (RpAll.keep tk kp oo ds _ hx)
theorem RpAll.keep (tk : TK K H H') (kp : ∀ a o, ok a → H a = some o → H' a = some o) (oo : ∀ a o, H a = some o → ok a → ok' a) : ∀ (ds : List Dt) (vs : List V), RpAll K H ok vs ds → RpAll K H' ok' vs ds
  | [], _, h => by
    cases h
    exact .nil
  | d :: r, _, h => by
    cases h with
    | cons h1 h2 => exact .cons (Rp.keep tk kp oo d _ h1) (RpAll.keep tk kp oo r _ h2)
end
theorem Rp.same {v : V} {d : Dt} (h : Rp K H ok v d) (e : Same H H') : Rp K H' ok v d := Rp.keep (Same.tk e) (fun a o _ q => e a o q) (fun _ _ _ q => q) d v h
theorem RpAll.same {vs : List V} {ds : List Dt} (h : RpAll K H ok vs ds) (e : Same H H') : RpAll K H' ok vs ds := RpAll.keep (Same.tk e) (fun a o _ q => e a o q) (fun _ _ _ q => q) ds vs h
theorem Rp.any {v : V} {d : Dt} (h : Rp K H ok v d) : Rp K H (fun _ => True) v d := Rp.keep TK.refl (fun _ _ _ q => q) (fun _ _ _ _ => trivial) d v h
theorem RpAll.len : ∀ {vs : List V} {ds : List Dt}, RpAll K H ok vs ds → vs.length = ds.length
  | _, _, .nil => rfl
  | _, _, .cons _ h => by simp [RpAll.len h]
theorem RpAll.get : ∀ {vs : List V} {ds : List Dt} {i : Nat} {v : V}, RpAll K H ok vs ds → vs[i]? = some v → ∃ d, ds[i]? = some d ∧ Rp K H ok v d
  | _, _, _, _, .nil, h => by cases h
  | _, _, 0, _, .cons h1 _, h => by
    cases h
    exact ⟨_, rfl, h1⟩
  | _, _, i + 1, _, .cons _ h2, h => RpAll.get (i := i) h2 h
theorem RpAll.app : ∀ {vs us : List V} {ds es : List Dt}, RpAll K H ok vs ds → RpAll K H ok us es → RpAll K H ok (vs ++ us) (ds ++ es)
  | _, _, _, _, .nil, h => h
  | _, _, _, _, .cons h1 h2, h => .cons h1 (RpAll.app h2 h)
theorem RpAll.take : ∀ {vs : List V} {ds : List Dt} (n : Nat), RpAll K H ok vs ds → RpAll K H ok (vs.take n) (ds.take n)
  | _, _, 0, _ => .nil
  | _, _, _ + 1, .nil => .nil
  | _, _, n + 1, .cons h1 h => .cons h1 (RpAll.take n h)
theorem RpAll.drop : ∀ {vs : List V} {ds : List Dt} (n : Nat), RpAll K H ok vs ds → RpAll K H ok (vs.drop n) (ds.drop n)
  | _, _, 0, h => h
  | _, _, _ + 1, .nil => .nil
  | _, _, n + 1, .cons _ h => RpAll.drop n h
theorem RpAll.rep {vs : List V} {ds : List Dt} (h : RpAll K H ok vs ds) : ∀ k : Nat, RpAll K H ok (List.replicate k vs).flatten (List.replicate k ds).flatten
  | 0 => .nil
  | k + 1 => by
    rw [List.replicate_succ, List.replicate_succ, List.flatten_cons, List.flatten_cons]
    exact h.app (RpAll.rep h k)
theorem Rp.ty {v : V} {d : Dt} (h : Rp K H ok v d) : TyX K H v (.type (tyOf d)) := by
  cases h with
  | int i _ => exact .base (.int i)
  | bl b => exact .base (.bl b)
  | non => exact .base .non
  | str x => exact .base (.str x)
  | lst h _ => exact .base (.lst h)
  | dct h _ => exact .base (.dK h)
  | tup h _ => exact h.ty
def isTup : Dt → Bool
  | .tup _ => true
  | _ => false
def isNum : Dt → Bool
  | .int _ => true
  | _ => false
theorem Rp.kitTup {v : V} {d : Dt} (h : Rp K H ok v d) : PySem.W.kitOne K (.type (tyOf d)) (.type "tuple") = some (isTup d) := by
  cases h
  · exact (kit_ty (a := "int") (b := "tuple") (r := false) (by decide +kernel))
  · exact (kit_ty (a := "bool") (b := "tuple") (r := false) (by decide +kernel))
  · exact (kit_ty (a := "NoneType") (b := "tuple") (r := false) (by decide +kernel))
  · exact (kit_ty (a := "str") (b := "tuple") (r := false) (by decide +kernel))
  · exact (kit_ty (a := "list") (b := "tuple") (r := false) (by decide +kernel))
  · exact (kit_ty (a := "dict") (b := "tuple") (r := false) (by decide +kernel))
  · exact (kit_ty (a := "tuple") (b := "tuple") (r := true) (by decide +kernel))
theorem Rp.kitInt {v : V} {d : Dt} (h : Rp K H ok v d) : ∃ b1 b2, PySem.W.kitOne K (.type (tyOf d)) (.type "int") = some b1 ∧ PySem.W.kitOne K (.type (tyOf d)) (.type "bool") = some b2 ∧ (b1 && !b2) = isNum d := by
  cases h
  · exact ⟨true, false, (kit_ty (a := "int") (b := "int") (by decide +kernel)), (kit_ty (a := "int") (b := "bool") (by decide +kernel)), rfl⟩
  · exact ⟨true, true, (kit_ty (a := "bool") (b := "int") (by decide +kernel)), (kit_ty (a := "bool") (b := "bool") (by decide +kernel)), rfl⟩
  · exact ⟨false, false, (kit_ty (a := "NoneType") (b := "int") (by decide +kernel)), (kit_ty (a := "NoneType") (b := "bool") (by decide +kernel)), rfl⟩
  · exact ⟨false, false, (kit_ty (a := "str") (b := "int") (by decide +kernel)), (kit_ty (a := "str") (b := "bool") (by decide +kernel)), rfl⟩
  · exact ⟨false, false, (kit_ty (a := "list") (b := "int") (by decide +kernel)), (kit_ty (a := "list") (b := "bool") (by decide +kernel)), rfl⟩
  · exact ⟨false, false, (kit_ty (a := "dict") (b := "int") (by decide +kernel)), (kit_ty (a := "dict") (b := "bool") (by decide +kernel)), rfl⟩
  · exact ⟨false, false, (kit_ty (a := "tuple") (b := "int") (by decide +kernel)), (kit_ty (a := "tuple") (b := "bool") (by decide +kernel)), rfl⟩
theorem Rp.tuple {v : V} {ds : List Dt} (h : Rp K H ok v (.tup ds)) : ∃ a xs, v = .ref a ∧ SqT K H a xs ∧ RpAll K H ok xs ds := by
  cases h with
  | tup h hx => exact ⟨_, _, rfl, h, hx⟩
/-! ### what is wrong of things -/
def badLoop : Dt → Bool
  | .tup ds => !(decide (1 ≤ ds.length) && decide (ds.length ≤ 64))
  | _ => true
def badNum (d : Dt) : Bool := !isNum d
def firstBad : Dt → Option Nat
  | .tup xs => xs.findIdx? badNum
  | _ => none
def faultOf : Dt → Option (List Nat)
  | .tup ds => if 6 < ds.length then some [] else match ds.findIdx? badLoop with
    | some k => some [k]
    | none => match ds.findIdx? (fun d => (firstBad d).isSome) with
      | some k => some [k, ((ds[k]?).bind firstBad).getD 0]
      | none => none
  | _ => some []
theorem fi_some {p : Dt → Bool} : ∀ {xs : List Dt} {i : Nat} {x : Dt}, xs[i]? = some x → p x = true → (∀ (j : Nat) (y : Dt), j < i → xs[j]? = some y → p y = false) → xs.findIdx? p = some i
  | [], i, x, h, _, _ => by simp at h
  | a :: r, 0, x, h, hp, _ => by
    simp at h
    subst h
    simp [List.findIdx?_cons, hp]
  | a :: r, i + 1, x, h, hp, hb => by
    have h0 := hb 0 a (Nat.succ_pos i) rfl
    have ih := fi_some (p := p) (xs := r) (i := i) (x := x) h hp fun j y hj hy => hb (j + 1) y (Nat.succ_lt_succ hj) hy
    simp [List.findIdx?_cons, h0, ih]
theorem fi_none {p : Dt → Bool} : ∀ {xs : List Dt}, (∀ (j : Nat) (y : Dt), xs[j]? = some y → p y = false) → xs.findIdx? p = none
  | [], _ => rfl
  | a :: r, hb => by
    have h0 := hb 0 a rfl
    have ih := fi_none (p := p) (xs := r) fun j y hy => hb (j + 1) y hy
    simp [List.findIdx?_cons, h0, ih]
abbrev placeD (p : List Nat) : PyData := dInts (p.map fun n : Nat => (n : Int))
/-! ### things cut and put together -/
def cutT (ds : List Dt) (lo hi : Option Int) : List Dt := (ds.drop (HT.sIx ds.length 0 lo)).take (HT.sIx ds.length ds.length hi - HT.sIx ds.length 0 lo)
theorem rd_cutR {v : V} {ds : List Dt} {lo hi : Option Int} {Q : VK} (h : Rp K H ok v (.tup ds)) (k : ∀ w H', Same H H' → Rp K H' ok w (.tup (cutT ds lo hi)) → Q w H') : rSlA K v lo hi H Q := by
  obtain ⟨a, xs, rfl, hT, hX⟩ := h.tuple
  have hl := hX.len
  have hc : RpAll K H ok (cutV xs lo hi) (cutT ds lo hi) := by
    unfold cutV cutT
    rw [← hl]
    exact (hX.drop _).take _
  refine ⟨a, xs, rfl, hT, fun w => ?_, fun _ p hp => ?_⟩
  · refine k _ H (Same.refl H) (.tup hT ?_)
    have e : cutV xs lo hi = xs := by
      unfold cutV
      rw [w.1, w.2, List.drop_zero, Nat.sub_zero, List.take_length]
    rw [e] at hc
    exact hc
  · exact k _ _ (same_upd hp _) (.tup (SqT.of upd_same) (hc.same (same_upd hp _)))
theorem rd_catR {v u : V} {ds es : List Dt} {Q : VK} (h1 : Rp K H ok v (.tup ds)) (h2 : Rp K H ok u (.tup es)) (hz : ds.length + es.length ≤ sizeLine)
    (k : ∀ w H', Same H H' → Rp K H' ok w (.tup (ds ++ es)) → Q w H') : rCatA K v u H Q := by
  obtain ⟨a, xs, rfl, hT, hX⟩ := h1.tuple
  obtain ⟨b, ys, rfl, hU, hY⟩ := h2.tuple
  have l1 := hX.len
  have l2 := hY.len
  refine ⟨a, b, xs, ys, rfl, rfl, hT, hU, by rw [l1, l2]; exact hz, fun e => ?_, fun _ e => ?_, fun _ _ p hp => ?_⟩
  · subst e
    cases hX
    exact k _ H (Same.refl H) (.tup hU hY)
  · subst e
    cases hY
    rw [List.append_nil] at k
    exact k _ H (Same.refl H) (.tup hT hX)
  · exact k _ _ (same_upd hp _) (.tup (SqT.of upd_same) ((hX.app hY).same (same_upd hp _)))
theorem rd_repR {v : V} {ds : List Dt} {n : Int} {Q : VK} (h : Rp K H ok v (.tup ds)) (hz : ds.length ≤ 1000) (h0 : -1000 ≤ n) (h1 : n ≤ 1000)
    (k : ∀ w H', Same H H' → Rp K H' ok w (.tup (List.replicate n.toNat ds).flatten) → Q w H') : rRepA K v (.int n) H Q := by
  obtain ⟨a, xs, rfl, hT, hX⟩ := h.tuple
  have hl := hX.len
  refine ⟨a, n, xs, rfl, rfl, hT, h0, h1, by omega, fun w => ?_, fun _ p hp => ?_⟩
  · refine k _ H (Same.refl H) (.tup hT ?_)
    rcases w with w | w
    · subst w
      cases hX
      have e : (List.replicate n.toNat ([] : List Dt)).flatten = [] := by simp
      rw [e]
      exact .nil
    · subst w
      have e : (List.replicate (1 : Int).toNat ds).flatten = ds := by
        show (List.replicate 1 ds).flatten = ds
        simp
      rw [e]
      exact hX
  · exact k _ _ (same_upd hp _) (.tup (SqT.of upd_same) ((hX.rep _).same (same_upd hp _)))
theorem cutT_to (xs : List Dt) {i : Int} (h : 0 ≤ i) : cutT xs none (some i) = xs.take i.toNat := by
  have e : i = ((i.toNat : Nat) : Int) := by omega
  rw [e]
  unfold cutT
  rw [HT.sIx_none, HT.sIx_nat, List.drop_zero, Nat.sub_zero, Int.toNat_natCast]
  by_cases h : i.toNat ≤ xs.length
  · rw [Nat.min_eq_left h]
  · rw [Nat.min_eq_right (by omega), List.take_length, List.take_of_length_le (by omega)]
theorem cutT_from (xs : List Dt) {i : Int} (h : 0 ≤ i) (h2 : i ≤ (xs.length : Int)) : cutT xs (some i) none = xs.drop i.toNat := by
  have e : i = ((i.toNat : Nat) : Int) := by omega
  rw [e]
  unfold cutT
  rw [HT.sIx_none, HT.sIx_nat, Int.toNat_natCast, Nat.min_eq_left (by omega), List.take_of_length_le (by rw [List.length_drop]; omega)]
/-- a new tuple of things -/
theorem Rp.new {a : Addr} {xs : List V} {ds : List Dt} (hp : H a = none) (h : RpAll K H ok xs ds) : Rp K (upd H a (.tup xs)) ok (.ref a) (.tup ds) := .tup (SqT.of upd_same) (h.same (same_upd hp _))
/-- loops are things -/
def loopsT (ls : List (List Int)) : List Dt := ls.map fun l => .tup (l.map Dt.int)
theorem ints_rp : ∀ {ns : List Int}, (∀ z ∈ ns, z.natAbs < 10 ^ 40) → RpAll K H ok (ns.map V.int) (ns.map Dt.int)
  | [], _ => .nil
  | n :: r, h => .cons (.int n (h n List.mem_cons_self)) (ints_rp fun z hz => h z (List.mem_cons_of_mem _ hz))
theorem loops_rp : ∀ {ls : List (List Int)} {xs : List V}, DpAll K H xs (ls.map dInts) → (∀ l ∈ ls, ∀ z ∈ l, z.natAbs < 10 ^ 40) → RpAll K H ok xs (loopsT ls)
  | [], _, h, _ => by
    cases h
    exact .nil
  | l :: r, _, h, hz => by
    cases h with
    | cons h1 h2 =>
      obtain ⟨a, rfl, hT⟩ := h1.ints
      exact .cons (.tup hT (ints_rp (hz l List.mem_cons_self))) (loops_rp h2 fun l hl => hz l (List.mem_cons_of_mem _ hl))
/-- things that are only ints are ints -/
theorem nums_of : ∀ {ds : List Dt} {xs : List V}, RpAll K H ok xs ds → ds.findIdx? badNum = none → ∃ ns : List Int, xs = ns.map V.int ∧ (∀ z ∈ ns, z.natAbs < 10 ^ 40) ∧ ns.length = ds.length
  | [], _, h, _ => by
    cases h
    exact ⟨[], rfl, (by intro z hz; cases hz), rfl⟩
  | d :: r, _, h, hf => by
    cases h with
    | cons h1 h2 =>
      rw [List.findIdx?_cons] at hf
      cases eb : badNum d with
      | true =>
        rw [eb] at hf
        simp at hf
      | false =>
        rw [eb] at hf
        have hf' : r.findIdx? badNum = none := by
          cases q : r.findIdx? badNum with
          | none => rfl
          | some j =>
            rw [q] at hf
            simp at hf
        obtain ⟨ns, rfl, hz, hl⟩ := nums_of h2 hf'
        cases h1 with
        | int i hi =>
          refine ⟨i :: ns, rfl, ?_, by simp [hl]⟩
          intro z hz'
          rcases List.mem_cons.mp hz' with q | q
          · rw [q]
            exact hi
          · exact hz z q
        | bl b => cases eb
        | non => cases eb
        | str x => cases eb
        | lst _ _ => cases eb
        | dct _ _ => cases eb
        | tup _ _ => cases eb
/-- an if whose test is known in part -/
theorem if_cut {c : TT} {t u w : TS} {D : Ends} {σ : L2.St} {H : Hp} (R : Bool → Hp → Prop) (h : ∀ Q' : Bool → Hp → Prop, (∀ b H', R b H' → Q' b H') → c σ H Q')
    (k1 : ∀ H', R true H' → t { D with nx := w D } σ H') (k2 : ∀ H', R false H' → u { D with nx := w D } σ H') : tSeq (tIfS c t u) w D σ H := by
  refine h _ fun b H' r => ?_
  cases b with
  | true => exact iteT (k1 H' r)
  | false => exact iteF (k2 H' r)
/-- places that are no part of the draws' state -/
abbrev off (H : Hp) (m : Addr) : Addr → Prop := fun a => a ≠ m ∧ ¬ Lf H m a
theorem Rp.ef {K : PySem.W.Frag} {H H' : Hp} {m : Addr} {n : Nat} (M : MS H m n) (e : Ef m H H') {v : V} {d : Dt} (h : Rp K H (off H m) v d) : Rp K H' (off H' m) v d := by
  refine Rp.keep (e.tk M) (fun a o q z => e.keep a o z q.1 q.2) (fun a o z q => ⟨q.1, fun w => ?_⟩) d v h
  rcases e.new a w with r | r
  · exact q.2 r
  · rw [z] at r
    cases r
theorem noLf_same {B H : Hp} {m a : Addr} {n : Nat} (M : MS B m n) (s : Same B H) (q : ¬ Lf B m a) : ¬ Lf H m a := fun w => q (by
  obtain ⟨c, l, M0⟩ := M
  obtain ⟨kvs, k, h1, h2⟩ := w
  rw [s _ _ M0.dk] at h1
  cases h1
  exact ⟨_, k, M0.dk, h2⟩)
/-- from a base, behind steps that only lay new things, and draws -/
theorem RpAll.out {K : PySem.W.Frag} {B H H' : Hp} {m : Addr} {n n' : Nat} (MB : MS B m n) (s : Same B H) (M : MS H m n') (e : Ef m H H') {vs : List V} {ds : List Dt} (h : RpAll K H (off B m) vs ds) : RpAll K H' (off H' m) vs ds := by
  have noL : ∀ a, ¬ Lf B m a → ¬ Lf H m a := fun a q w => q (by
    obtain ⟨c, l, M0⟩ := MB
    obtain ⟨kvs, k, h1, h2⟩ := w
    rw [s _ _ M0.dk] at h1
    cases h1
    exact ⟨_, k, M0.dk, h2⟩)
  refine RpAll.keep (e.tk M) (fun a o q z => e.keep a o z q.1 (noL a q.2)) (fun a o z q => ⟨q.1, fun w => ?_⟩) ds vs h
  rcases e.new a w with r | r
  · exact noL a q.2 r
  · rw [z] at r
    cases r
theorem off_new {B H : Hp} {m p : Addr} {n : Nat} (M : MS B m n) (s : Same B H) (hp : H p = none) : off B m p := by
  have b := s.free hp
  refine ⟨fun z => ?_, M.notLf b⟩
  obtain ⟨c, l, M0⟩ := M
  rw [z, M0.dk] at b
  cases b
theorem pickR {K : PySem.W.Frag} {H : Hp} {ok : Addr → Prop} {vs : List V} {ds : List Dt} {r : Int} (h : RpAll K H ok vs ds) (h0 : 0 ≤ r) (h1 : r < (ds.length : Int)) :
    ∃ v d, atI vs r = some v ∧ d ∈ ds ∧ Rp K H ok v d ∧ vs[r.toNat]? = some v ∧ ds[r.toNat]? = some d := by
  have hl := h.len
  have hr : r.toNat < vs.length := by omega
  obtain ⟨d, hd, hR⟩ := h.get (List.getElem?_eq_getElem hr)
  exact ⟨_, d, at_of (j := r.toNat) (by omega) (List.getElem?_eq_getElem hr), List.mem_of_getElem? hd, hR, List.getElem?_eq_getElem hr, hd⟩
theorem Rp.ef' {K : PySem.W.Frag} {B H : Hp} {m : Addr} {n : Nat} {v : V} {d : Dt} (h : Rp K H (off B m) v d) (M : MS B m n) (s : Same B H) : Rp K H (off H m) v d :=
  Rp.keep TK.refl (fun _ _ _ q => q) (fun a o _ q => ⟨q.1, noLf_same M s q.2⟩) d v h
theorem Rp.keep2 {K : PySem.W.Frag} {B H H' : Hp} {m : Addr} {n : Nat} {v : V} {d : Dt} (h : Rp K H (off B m) v d) (M : MS B m n) (s : Same B H') (s2 : Same H H' := by assumption) : Rp K H' (off H' m) v d :=
  (h.same s2).ef' M s
end My

/-! {f for x in xs for y in ys}, whole numbers; len of such a set. -/
namespace L2
open PySem PySem.Spec PyProof.Rows
/-- a set comprehension of two clauses without tests -/
abbrev twoFor (f a0 b0 a1 b1 : Expr) (sc : Scope) (ps : Pos) : Expr := .SetComp f [⟨a0, b0, [], 0⟩, ⟨a1, b1, [], 0⟩] sc ps
def turnBy (p : Pos) (tgt : Expr) (en : Env) (src : Value) (rest : Sem Fin) : Sem Fin := do
  standAt p
  match ← pyNext src with
  | none => pure (.done .next)
  | some v => do
    letOwnedTupleGo tgt src v
    assign tgt en v
    rest
section
variable {P : Program} {w : World} {A : Around} {R : Result → Shared → Prop} {f a0 b0 a1 b1 : Expr} {sc : Scope} {ps : Pos} {src D : Value} {en : Env}
def inner (f a0 b0 a1 b1 : Expr) (sc : Scope) (ps : Pos) (src D : Value) (en : Env) : Sem Fin := do
  let x ← eval b1 en
  standAt b1.pos
  let x ← foldedSetIterable b1 en x
  let _ ← runOwn (.compStart (twoFor f a0 b0 a1 b1 sc ps) 1 (← holding [x] (pyIter x)) D en) en
  again (.compLoop (twoFor f a0 b0 a1 b1 sc ps) 0 src D en)
def added (f a0 b0 a1 b1 : Expr) (sc : Scope) (ps : Pos) (src D : Value) (en : Env) : Sem Fin := do
  (do let v ← eval f en; standAt f.pos; let _ ← call (.builtin "set.add") [D, v])
  again (.compLoop (twoFor f a0 b0 a1 b1 sc ps) 1 src D en)
theorem turn0_eq : compTurn (twoFor f a0 b0 a1 b1 sc ps) 0 src D en = turnBy b0.pos a0 en src (inner f a0 b0 a1 b1 sc ps src D en) := by rfl
theorem turn1_eq : compTurn (twoFor f a0 b0 a1 b1 sc ps) 1 src D en = turnBy b1.pos a1 en src (added f a0 b0 a1 b1 sc ps src D en) := by rfl
abbrev Hurt (P : Program) (w : World) (A : Around) (R : Result → Shared → Prop) (en : Env) : Value → Shared → Prop := notedBy (model P w) A en fun x s' => R (.error x) s'
abbrev Goes2 (R : Result → Shared → Prop) (c : Code) (J : Nat → Shared → Prop) (n : Nat) : Fin → Shared → Prop := fun fin s' => match fin with
  | .done z => R (.ok z) s'
  | .again c' => c' = c ∧ ∃ m, m < n ∧ J m s'
theorem loopBy {k : Nat} {p : Pos} {tgt : Expr} {rest : Sem Fin} {s : Shared} (e : compTurn (twoFor f a0 b0 a1 b1 sc ps) k src D en = turnBy p tgt en src rest) (J : Nat → Shared → Prop)
    (turn : ∀ n s, J n s → wpAny (model P w) A (pyNext src) (fun r s1 => match r with
      | none => R (.ok .next) s1
      | some v => wpAny (model P w) A (letOwnedTupleGo tgt src v) (fun _ s2 => wpAny (model P w) A (assign tgt en v) (fun _ s3 =>
          wpAny (model P w) A rest (Goes2 R (.compLoop (twoFor f a0 b0 a1 b1 sc ps) k src D en) J n) (Hurt P w A R en) s3) (Hurt P w A R en) s2) (Hurt P w A R en) s1) (Hurt P w A R en) s)
    (n : Nat) (h : J n s) : codeAny (model P w) A (.compLoop (twoFor f a0 b0 a1 b1 sc ps) k src D en) R s := by
  refine codeAny_loop rfl J (fun n s hJ => ?_) n h
  show wpAny _ A ((compTurn _ k src D en).onRaise _) _ _ s
  refine wpAny_noted ?_
  rw [e]
  unfold turnBy
  refine wpAny_bind (wpAny_standAt (wpAny_bind (wpAny_mono (turn n s hJ) (fun r s1 h1 => ?_) fun _ _ z => z)))
  cases r with
  | none => exact wpAny_pure h1
  | some v => exact wpAny_bind (wpAny_mono h1 (fun _ s2 h2 => wpAny_bind (wpAny_mono h2 (fun _ s3 h3 => h3) fun _ _ z => z)) fun _ _ z => z)
theorem inner_ok {n : Nat} {J : Nat → Shared → Prop} {s : Shared} (hs : ∀ x, foldedSetIterable b1 en x = pure x)
    (h : wpAny (model P w) A (eval b1 en) (fun x s1 => wpAny (model P w) A (pyIter x) (fun i1 s2 =>
      codeAny (model P w) A (.compStart (twoFor f a0 b0 a1 b1 sc ps) 1 i1 D en) (fun r s' => match r with
        | .ok _ => ∃ m, m < n ∧ J m s'
        | .error _ => False) s2) (Hurt P w A R en) s1) (Hurt P w A R en) s) :
    wpAny (model P w) A (inner f a0 b0 a1 b1 sc ps src D en) (Goes2 R (.compLoop (twoFor f a0 b0 a1 b1 sc ps) 0 src D en) J n) (Hurt P w A R en) s := by
  unfold inner
  refine wpAny_bind (wpAny_mono h (fun x s1 h1 => ?_) fun _ _ z => z)
  refine wpAny_bind (wpAny_standAt (wpAny_bind (wpAny_of_eq (hs x) ?_)))
  refine wpAny_bind (wpAny_holding (wpAny_mono h1 (fun i1 s2 h2 => ?_) fun _ _ z => z))
  refine wpAny_bind (wpAny_runOwn ?_)
  rw [Around.mark_none]
  refine codeAny_mono h2 fun r s' hr => ?_
  cases r with
  | ok z =>
    first
      | exact wpAny_pure ⟨rfl, hr⟩
      | exact wpAny_bind (wpAny_pure (wpAny_pure ⟨rfl, hr⟩))
  | error z => exact hr.elim
theorem added_ok {n : Nat} {J : Nat → Shared → Prop} {s : Shared}
    (h : wpAny (model P w) A (eval f en) (fun x s1 => wpAny (model P w) A (call (.builtin "set.add") [D, x]) (fun _ s2 => ∃ m, m < n ∧ J m s2) (Hurt P w A R en) s1) (Hurt P w A R en) s) :
    wpAny (model P w) A (added f a0 b0 a1 b1 sc ps src D en) (Goes2 R (.compLoop (twoFor f a0 b0 a1 b1 sc ps) 1 src D en) J n) (Hurt P w A R en) s := by
  unfold added
  refine wpAny_bind (wpAny_bind (wpAny_mono h (fun x s1 h1 => ?_) fun _ _ z => z))
  refine wpAny_bind (wpAny_standAt (wpAny_bind (wpAny_mono h1 (fun _ s2 h2 => ?_) fun _ _ z => z)))
  exact wpAny_pure (wpAny_pure ⟨rfl, h2⟩)
/-- where clause k starts -/
theorem started {k : Nat} {b : Expr} {s : Shared} (hk : (clausesOf (twoFor f a0 b0 a1 b1 sc ps))[k]? = some ⟨a0, b, [], 0⟩ ∨ (clausesOf (twoFor f a0 b0 a1 b1 sc ps))[k]? = some ⟨a1, b, [], 0⟩)
    (h0 : codeAny (model P w) A (.compLoop (twoFor f a0 b0 a1 b1 sc ps) k src D en) R s)
    (h : wpAny (model P w) A (pyIter src) (fun i s' => codeAny (model P w) A (.compLoop (twoFor f a0 b0 a1 b1 sc ps) k i D en) R s') (Hurt P w A R en) s) :
    codeAny (model P w) A (.compStart (twoFor f a0 b0 a1 b1 sc ps) k src D en) R s := by
  refine codeAny_of_tree ?_
  show wpAny _ _ ((compStart _ k src D en).onRaise _) _ _ s
  refine wpAny_notedAt ?_
  unfold compStart
  have hq : (((clausesOf (twoFor f a0 b0 a1 b1 sc ps))[k]?).elim false (·.is_async != 0)) = false := by
    rcases hk with z | z <;> rw [z] <;> rfl
  rw [hq]
  show wpAny _ _ (ask >>= _) _ _ s
  refine wpAny_bind (wpAny_askSetting (wpAny_ite ?_))
  split
  · first
      | exact wpAny_bind (wpAny_pure (wpAny_pure (And.intro rfl h0)))
      | exact wpAny_pure (And.intro rfl h0)
  · refine wpAny_bind (wpAny_rule ?_)
    rcases hk with z | z <;> rw [z]
    · exact wpAny_bind (wpAny_standAt (wpAny_bind (wpAny_mono h (fun i s' h' => wpAny_pure (And.intro rfl h')) fun _ _ x => x)))
    · exact wpAny_bind (wpAny_standAt (wpAny_bind (wpAny_mono h (fun i s' h' => wpAny_pure (And.intro rfl h')) fun _ _ x => x)))
end
end L2

/-! {f for x in xs for y in ys}: the rule. -/
namespace L2
open PySem PySem.Spec PyProof.Rows
def putI (w : World) (H : Hp) (D : Addr) (S : Int → Bool) (n : Nat) (c : Int) : Hp := upd H D (SetO w D (fun j => S j || decide (j = c)) (if S c = true then n else n + 1))
abbrev noneI (w : World) (H : Hp) (D : Addr) : Hp := upd H D (SetO w D (fun _ => false) 0)
/-- a walk: Wk is what holds ahead of each turn; stop, and step, which leads to the next -/
def Wlk (J : It) (St : Hp → Prop) (Go : (Hp → Prop) → V → Hp → Prop) (H0 : Hp) : Prop := ∃ Wk : Nat → Nat → Hp → Prop, (∃ m, Wk 0 m H0) ∧ ∀ i m H, Wk i m H →
  (J.stop i H ∧ St H) ∨ (J.go i H ∧ ∃ Nx : Hp → Prop, (∀ H', Nx H' → ∃ m', m' < m ∧ Wk (i + 1) m' H') ∧ ∀ x H', J.yld i H x H' → Go Nx x H')
def tSc2 (w : World) (wa : TI) (ga : TG) (wb : TI) (gb : TG) (tf : TE) (vs us : List Nat) : TE := fun σ H Q => wa σ H fun J H1 => ∀ D, H1 D = none →
  Wlk J (fun H => Q (.ref D) H) (fun Nx x H => ga x (wipe σ vs) H fun σ2 H2 => wipe σ2 vs = wipe σ vs ∧ wb σ2 H2 fun J1 H4 =>
    Wlk J1 Nx (fun Nx1 x1 H => gb x1 (wipe σ2 us) H fun σ3 H5 => wipe σ3 us = wipe σ2 us ∧ tf σ3 H5 fun y H7 =>
      ∃ (c : Int) (S : Int → Bool) (n : Nat), y = .int c ∧ H7 D = some (SetO w D S n) ∧ n + 1 < scanBound ∧ Nx1 (putI w H7 D S n c)) H4) (noneI w H1 D)
section
variable {X : Cx}
theorem addI_ok {pins : List (Addr × Obj)} {σ : St} {H : Hp} {s : Shared} {E : Value → Shared → Prop} {D : Addr} {S : Int → Bool} {n : Nat} {c : Int} {v : Value} {Q : Value → Shared → Prop} (I : Inv X pins σ H s) (hD : H D = some (SetO X.w D S n)) (hr : n + 1 < scanBound) (rv : RelV (.int c) v)
    (h : ∀ s', Inv X pins σ (putI X.w H D S n c) s' → Q .none s') : wpAny (model X.prog X.w) X.A (call (.builtin "set.add") [.ref D, v]) Q E s := by
  obtain ⟨tk, rfl⟩ := rv
  refine setR_add (setO_get I hD) hr fun g sb new => ?_
  have he : ∃ u, g.get? D = some u := let ⟨o, _, _, _, ho, _⟩ := new; ⟨o, ho⟩
  exact h _ (I.write (e := D) (t' := s.toks + 1) (by rw [hD]; trivial) (.inl rfl) (fun b u hb z => (sb.2 b hb).trans z) he (setO_new new))
variable {pins : List (Addr × Obj)} {s : Shared} {σ : St} {H : Hp} {Q : VK} {f ta sa tb sb : Expr} {sc : Scope} {own : List (Str × Nat)} {us : List Nat} {ps : Pos} {wa wb : TI} {ga gb : TG} {tf : TE}
/-- what is asked of a part within the block -/
abbrev InBlk (X : Cx) (sc : Scope) (p : Cx → Prop) : Prop := ∀ (s : Shared) (H : Hp) (C : Addr) (cl : List (Str × Addr)) (fp : List Addr), p (X.blk s H sc (compEnvC sc cl C X.env) fp)
theorem pe_sc2 (hc : X.calm = true) (hN : X.N.Nodup) (hi : PI X ta sa wa) (ok : BlkOk X.N X.env.scope sc own) (hv : ∀ i ∈ us, i ∈ own.map (·.2))
    (hga : InBlk X sc fun Y => PG Y ta ga) (hib : InBlk X sc fun Y => PI Y tb sb wb) (hgb : InBlk X sc fun Y => PG Y tb gb) (hf : InBlk X sc fun Y => PE Y f tf)
    (fa : ∀ x, foldedSetIterable sa X.env x = pure x := by intro _; rfl) (fb : ∀ en x, foldedSetIterable sb en x = pure x := by intro _ _; rfl) :
    PE X (twoFor f ta sa tb sb sc ps) (tSc2 X.w wa ga wb gb tf (own.map (·.2)) us) := by
  refine ⟨fun pins s σ H Q I h => ?_⟩
  rw [PpSet.eval_SetComp]
  have free : ∀ y ∈ sc.names, y.2 = .free → ∃ c, X.env.cells.lookup y.1 = some c := fun y hy e => (ok.free y hy e).elim (fun z => I.ok.has _ (.inl z)) (fun z => I.ok.has _ (.inr z))
  refine wpAny_comprehension_free (use := none) rfl fa (closure_ok free) ok.kind (fun y hy e => by rw [ok.uniq y hy, e]) ?_
  refine thn (hi.run pins s σ H _ I h) fun xv s1 hx => thn hx fun itv s2 h2 => ?_
  obtain ⟨it, fp, tn, J, H2, rfl, I2, T, st2, f2, q⟩ := h2
  refine PpSet.newSet_ok (newEnv_comp ?_)
  generalize hD : s2.heap.objs.size = D
  obtain ⟨Wk, ⟨m0, w0⟩, turn⟩ := q D (I2.hok.fresh (Nat.le_of_eq hD))
  -- the set is laid, then the block begins
  generalize es3 : ({ s2 with heap := s2.heap.push { cls := .type "set", dict := none, data := .set #[] 0 (.fresh 0 0 (!X.w.params.followText "set-order")) } } : Shared) = s3
  have old3 : ∀ b o, s2.heap.get? b = some o → s3.heap.get? b = some o := fun b o e => by rw [← es3]; exact Heap.get?_push_of_some _ e
  have I3 : Inv X pins σ (noneI X.w H2 D) s3 := by
    rw [← es3, ← hD]
    exact I2.laid (t' := s2.toks) (fun b o e => Heap.get?_push_of_some _ e) (Nat.le_refl _) (setO_new (setR_fresh X.w))
  have size3 : s3.heap.objs.size = s2.heap.objs.size + 1 := by rw [← es3]; exact Heap.size_push ..
  have f3 : ∀ b ∈ fp, FpOk X pins (noneI X.w H2 D) b ∧ b < s3.heap.objs.size := fun b hb => by
    obtain ⟨o, e, _⟩ := T.obj _ _ st2 b hb
    have lt := Heap.lt_size e
    refine ⟨⟨?_, (f2 b hb).2⟩, by rw [size3]; exact Nat.lt_succ_of_lt lt⟩
    show upd _ _ _ b = none
    rw [upd_ne (fun z => Nat.lt_irrefl _ (by rw [z, ← hD] at lt; exact lt))]
    exact (f2 b hb).1
  have I4 := block_start I3 ok hN f3
  generalize ecl : cellsFrom (s3.heap.objs.size + 1) sc.names (cloFrom X.env.cells sc.names []) = cl at I4
  have pga := hga s3 (noneI X.w H2 D) s3.heap.objs.size cl fp
  have pib := hib s3 (noneI X.w H2 D) s3.heap.objs.size cl fp
  have pgb := hgb s3 (noneI X.w H2 D) s3.heap.objs.size cl fp
  have pf := hf s3 (noneI X.w H2 D) s3.heap.objs.size cl fp
  generalize es4 : ({ s3 with heap := pushCells (s3.heap.push { cls := .type "dict", data := .dict #[] }) sc.names } : Shared) = s4 at I4
  have old4 : ∀ b o, s3.heap.get? b = some o → s4.heap.get? b = some o := fun b o e => by rw [← es4]; exact pushCells_keeps _ _ _ _ (Heap.get?_push_of_some _ e)
  have st4 : tn 0 s4.heap := T.keep _ _ _ st2 fun b _ o e => old4 b o (old3 b o e)
  have nfp : ∀ b ∈ fp, (noneI X.w H2 D) b = none := fun b hb => (f3 b hb).1.1
  show codeAny _ _ (.compStart (twoFor f ta sa tb sb sc ps) 0 (.ref it) (.ref D) (compEnvC sc cl s3.heap.objs.size X.env)) (compPost (model X.prog X.w) X.A X.xe none (EP X pins σ Q) (.ref D) s3.heap.objs.size) s4
  have cL : (compEnvC sc cl s3.heap.objs.size X.env).locals = s3.heap.objs.size := rfl
  generalize compEnvC sc cl s3.heap.objs.size X.env = ce at I4 pga pib pgb pf cL ⊢
  generalize noneI X.w H2 D = H3 at I3 I4 pga pib pgb pf w0 nfp f3
  generalize eY : X.blk s3 H3 sc ce fp = Y at I4 pga pib pgb pf
  have still : ∀ {σ' : St} {H' : Hp} {s' : Shared}, Inv Y [] σ' H' s' → (∀ b ∈ fp, H' b = none) → ∀ b ∈ fp, FpOk Y [] H' b := by
    subst eY
    exact fun {σ' H' s'} I' hn b hb => ⟨hn b hb, (I'.ok.exf b hb).1, I'.ok.exfs b hb, .inl hb, fun x c e => (I'.ok.exf b hb).2 x c e, fun p hp => absurd (show p ∈ ([] : List (Addr × Obj)) ++ [] from hp) (by simp)⟩
  have eP : Y.prog = X.prog := by rw [← eY]
  have eW : Y.w = X.w := by rw [← eY]
  have eK : Y.K = X.K := by rw [← eY]
  have eA : Y.A = X.A := by rw [← eY]
  have eE : Y.env = ce := by rw [← eY]
  have hcY : Y.calm = true := by rw [← eY]; exact hc
  have outer : codeAny (model X.prog X.w) X.A (.compLoop (twoFor f ta sa tb sb sc ps) 0 (.ref it) (.ref D) ce) (compPost (model X.prog X.w) X.A X.xe none (EP X pins σ Q) (.ref D) s3.heap.objs.size) s4 := by
    refine loopBy turn0_eq (fun n s' => ∃ i H', Inv Y [] (wipe σ (own.map (·.2))) H' s' ∧ tn i s'.heap ∧ (∀ b ∈ fp, H' b = none) ∧ Wk i n H') ?_ m0 ⟨0, H3, I4, st4, nfp, w0⟩
    rintro n s5 ⟨i, H5, I5, st5, n5, w5⟩
    rcases turn i n H5 w5 with ⟨stop, qq⟩ | ⟨go, Nx, hNx, step⟩
    · subst eY
      refine thnF (T.done (X.blk s3 H3 sc ce fp) rfl rfl rfl hc i [] s5 _ H5 (fun _ _ => False) I5 (still I5 n5) st5 stop) fun r s6 ⟨hr, I6⟩ => ?_
      subst hr
      have I7 : Inv X pins σ H5 s6 := I3.call' (ch := fp) I6.os I6.base I6.hok I6.bare fun b hb => ⟨(f3 b hb).1.2.2.2.1, (f3 b hb).1.2.1, (f3 b hb).1.2.2.2.2.1, (f3 b hb).1.2.2.2.2.2⟩
      have nC : H5 s3.heap.objs.size = none := by
        have z : H5 ce.locals = none := I6.free
        rwa [cL] at z
      obtain ⟨m, hn, _⟩ := I6.loc
      have hn : s6.heap.Ns ce.locals m := hn
      rw [cL] at hn
      obtain ⟨g0, g1, g2, g3, g4, g5⟩ := I3.fpOk (Nat.le_refl _) nC
      exact ⟨m, hn, fun h'' sb => ⟨.ref D, H5, I7.turned (t' := s6.toks) (fun b o hb e => (sb.2 b hb).trans e) g0 g1 g3 g4 g5, rfl, qq⟩⟩
    · subst eY
      refine thnF (T.item (X.blk s3 H3 sc ce fp) rfl rfl rfl hc i [] s5 _ H5 (fun _ _ => False) I5 (still I5 n5) st5 go) fun r s6 ⟨u, hr, h6⟩ => ?_
      subst hr
      refine thnF h6 fun _ s7 ⟨x, H7, I7, r7, y7, st7, n7⟩ => ?_
      have J7 := I7.pinned (still I7 n7) (T.obj _ _ st7)
      refine thnF (pga.run _ s7 _ H7 x u _ J7 r7 (step x H7 y7)) fun _ s8 ⟨σ8, H8, I8, hw8, q8⟩ => ?_
      have len8 : (wipe σ (own.map (·.2))).length = σ8.length := by rw [← hw8, wipe_length]
      have sub8 : ∀ (j : Nat) v, (wipe σ (own.map (·.2)))[j]? = some (some v) → (wipe σ8 us)[j]? = some (some v) := fun j v e => by
        rw [← hw8] at e
        have z := wipe_some e
        rw [wipe_out fun m => z.2 (hv j m)]
        exact z.1
      -- the turn's end
      have back : ∀ {s' : Shared} {H' : Hp}, Inv (X.blk s3 H3 sc ce fp) ([] ++ pinsAt fp s7.heap) (wipe σ8 us) H' s' → Nx H' →
          ∃ m, m < n ∧ ∃ i H', Inv (X.blk s3 H3 sc ce fp) [] (wipe σ (own.map (·.2))) H' s' ∧ tn i s'.heap ∧ (∀ b ∈ fp, H' b = none) ∧ Wk i m H' := fun {s' H'} I' nx => by
        obtain ⟨m', hm, w'⟩ := hNx H' nx
        have kept : ∀ b ∈ fp, ∀ o, s7.heap.get? b = some o → s'.heap.get? b = some o ∧ H' b = none := fun b hb o e => by
          have z := I'.pin (b, o) (List.mem_append_right _ (List.mem_append_right _ (mem_pinsAt hb e)))
          exact ⟨z.1, z.2.1⟩
        refine ⟨m', hm, i + 1, H', (I'.unpinned (pins := [])).weak (len8.trans (wipe_length σ8 us).symm) sub8, T.keep _ _ _ st7 fun b hb o e => (kept b hb o e).1, fun b hb => ?_, w'⟩
        obtain ⟨o, e, _⟩ := T.obj _ _ st7 b hb
        exact (kept b hb o e).2
      refine inner_ok (fb ce) ?_
      refine thnF (pib.run _ s8 σ8 H8 _ I8 q8) fun xv s10 hx => thnF hx fun itv s11 h11 => ?_
      obtain ⟨ib, fq, tm, Jb, H11, rfl, I11, T1, st11, f11, W1, ⟨m1, w1⟩, turn1⟩ := h11
      have still1 : ∀ {H' : Hp}, (∀ b ∈ fq, H' b = none) → ∀ b ∈ fq, FpOk (X.blk s3 H3 sc ce fp) ([] ++ pinsAt fp s7.heap) H' b := fun z b hb => ⟨z b hb, (f11 b hb).2⟩
      have within : codeAny (model X.prog X.w) X.A (.compLoop (twoFor f ta sa tb sb sc ps) 1 (.ref ib) (.ref D) ce) (fun r s' => match r with
          | .ok _ => ∃ m, m < n ∧ ∃ i H', Inv (X.blk s3 H3 sc ce fp) [] (wipe σ (own.map (·.2))) H' s' ∧ tn i s'.heap ∧ (∀ b ∈ fp, H' b = none) ∧ Wk i m H'
          | .error _ => False) s11 := by
        refine loopBy turn1_eq (fun k s' => ∃ j H', Inv (X.blk s3 H3 sc ce fp) ([] ++ pinsAt fp s7.heap) (wipe σ8 us) H' s' ∧ tm j s'.heap ∧ (∀ b ∈ fq, H' b = none) ∧ W1 j k H') ?_ m1
          ⟨0, H11, I11.weak (wipe_length _ _) (fun j v e => (wipe_some e).1), st11, fun b hb => (f11 b hb).1, w1⟩
        rintro k s12 ⟨j, H12, I12, st12, n12, w12⟩
        rcases turn1 j k H12 w12 with ⟨stop1, nx1⟩ | ⟨go1, Nx1, hNx1, step1⟩
        · refine thnF (T1.done (X.blk s3 H3 sc ce fp) rfl rfl rfl hc j _ s12 _ H12 (fun _ _ => False) I12 (still1 n12) st12 stop1) fun r s13 ⟨hr, I13⟩ => ?_
          subst hr
          exact back I13 nx1
        · refine thnF (T1.item (X.blk s3 H3 sc ce fp) rfl rfl rfl hc j _ s12 _ H12 (fun _ _ => False) I12 (still1 n12) st12 go1) fun r s13 ⟨u1, hr, h13⟩ => ?_
          subst hr
          refine thnF h13 fun _ s14 ⟨x1, H14, I14, r14, y14, st14, n14⟩ => ?_
          have J14 := I14.pinned (still1 n14) (T1.obj _ _ st14)
          refine thnF (pgb.run _ s14 _ H14 x1 u1 _ J14 r14 (step1 x1 H14 y14)) fun _ s15 ⟨σ15, H15, I15, hw15, q15⟩ => ?_
          refine added_ok (thnF (pf.run _ s15 σ15 H15 _ I15 q15) fun z s17 ⟨yv, H17, I17, r17, c, S, nn, ey, hD17, hz17, nx⟩ => ?_)
          subst ey
          refine addI_ok (X := X.blk s3 H3 sc ce fp) I17 hD17 hz17 r17 fun s18 I18 => ?_
          obtain ⟨m', hm, w'⟩ := hNx1 _ nx
          have kept : ∀ b ∈ fq, ∀ o, s14.heap.get? b = some o → s18.heap.get? b = some o ∧ (putI X.w H17 D S nn c) b = none := fun b hb o e => by
            have z := I18.pin (b, o) (List.mem_append_right _ (List.mem_append_right _ (mem_pinsAt hb e)))
            exact ⟨z.1, z.2.1⟩
          refine ⟨m', hm, j + 1, _, I18.unpinned.weak (by rw [← hw15, wipe_length]) (fun j v e => by rw [← hw15] at e; exact (wipe_some e).1), T1.keep _ _ _ st14 fun b hb o e => (kept b hb o e).1, fun b hb => ?_, w'⟩
          obtain ⟨o, e, _⟩ := T1.obj _ _ st14 b hb
          exact (kept b hb o e).2
      exact started (b := sb) (.inr rfl) within (T1.self X.A 0 _ _ _ st11 within)
  exact started (b := sa) (.inl rfl) outer (T.self X.A 0 _ _ _ st4 outer)
end
end L2

/-! Walks within a set comprehension; sets by the list of their members; len. -/
namespace L2
open PySem PySem.Spec PyProof.Rows
section
variable {K : PySem.W.Frag} {a : Addr} {xs : List V} {St : Hp → Prop} {Go : (Hp → Prop) → V → Hp → Prop} {H0 : Hp}
theorem wlk_tup (Pv : Nat → Hp → Prop) (h0 : Pv 0 H0) (hl : ∀ i H, i ≤ xs.length → Pv i H → SqT K H a xs) (hs : ∀ i x H, xs[i]? = some x → Pv i H → Go (Pv (i + 1)) x H) (hd : ∀ H, Pv xs.length H → St H) : Wlk (Itt K a) St Go H0 := by
  refine ⟨fun i m H => m = xs.length - i ∧ i ≤ xs.length ∧ Pv i H, ⟨_, rfl, Nat.zero_le _, h0⟩, ?_⟩
  rintro i m H ⟨rfl, hi, p⟩
  have q := hl i H hi p
  rcases Nat.lt_or_ge i xs.length with lt | ge
  · refine .inr ⟨⟨xs, xs[i], q, by simp [lt]⟩, Pv (i + 1), fun H' p' => ⟨_, by omega, rfl, lt, p'⟩, fun x H' y => ?_⟩
    obtain ⟨rfl, y⟩ := y
    exact hs i x _ (y xs q) p
  · obtain rfl : i = xs.length := Nat.le_antisymm hi ge
    exact .inl ⟨⟨xs, q, Nat.le_refl _⟩, hd H p⟩
theorem wlk_rng {lo : Int} {n : Nat} (Pv : Nat → Hp → Prop) (h0 : Pv 0 H0) (hs : ∀ i H, i < n → Pv i H → Go (Pv (i + 1)) (.int (lo + i)) H) (hd : ∀ H, Pv n H → St H) : Wlk (Itr lo n) St Go H0 := by
  refine ⟨fun i m H => m = n - i ∧ i ≤ n ∧ Pv i H, ⟨_, rfl, Nat.zero_le _, h0⟩, ?_⟩
  rintro i m H ⟨rfl, hi, p⟩
  rcases Nat.lt_or_ge i n with lt | ge
  · refine .inr ⟨lt, Pv (i + 1), fun H' p' => ⟨_, by omega, rfl, lt, p'⟩, fun x H' y => ?_⟩
    obtain ⟨rfl, rfl⟩ := y
    exact hs i _ lt p
  · obtain rfl : i = n := Nat.le_antisymm hi ge
    exact .inl ⟨Nat.le_refl _, hd H p⟩
end
/-! ### sets by the list of their members -/
def ins {α : Type} [DecidableEq α] (L : List α) (c : α) : List α := if c ∈ L then L else c :: L
def fset {α : Type} [DecidableEq α] (L : List α) : List α := L.foldl ins []
def memb (L : List Int) : Int → Bool := fun j => decide (j ∈ L)
abbrev SetL (w : World) (a : Addr) (L : List Int) : HO := SetO w a (memb L) L.length
theorem noneI_eq {w : World} {H : Hp} {D : Addr} : noneI w H D = upd H D (SetL w D []) := by
  have e : memb [] = fun _ => false := funext fun j => decide_eq_false (by simp)
  show _ = upd H D (SetO w D (memb []) 0)
  rw [e]
theorem putI_eq {w : World} {H : Hp} {D : Addr} {L : List Int} {c : Int} : putI w H D (memb L) L.length c = upd H D (SetL w D (ins L c)) := by
  have e : (fun j => memb L j || decide (j = c)) = memb (ins L c) := funext fun j => by
    show (decide (j ∈ L) || decide (j = c)) = decide (j ∈ ins L c)
    rw [← Bool.decide_or]
    refine decide_eq_decide.mpr ?_
    unfold ins
    by_cases h : c ∈ L
    · rw [if_pos h]
      exact ⟨fun z => z.elim id fun e => e ▸ h, .inl⟩
    · rw [if_neg h, List.mem_cons]
      exact Or.comm
  have n : (if memb L c = true then L.length else L.length + 1) = (ins L c).length := by
    unfold ins
    by_cases h : c ∈ L
    · rw [if_pos h, if_pos (show memb L c = true from decide_eq_true h)]
    · rw [if_neg h, if_neg (fun z : memb L c = true => h (of_decide_eq_true z))]
      rfl
  unfold putI
  rw [e, n]
theorem ins_le {α : Type} [DecidableEq α] {L : List α} {c : α} : (ins L c).length ≤ L.length + 1 := by
  unfold ins
  split
  · omega
  · exact Nat.le_refl _
def rLenSet (w : World) : List V → Hp → VK → Prop := fun xs H Q => ∃ (a : Addr) (S : Int → Bool) (n : Nat), xs = [.ref a] ∧ H a = some (SetO w a S n) ∧ Q (.int (n : Nat)) H
theorem k_lenSet {X : Cx} {w : World} (e : X.w = w := by rfl) : CallR X (.builtin "len") (rLenSet w) := by
  subst e
  intro pins s σ H xs us Q I r h
  obtain ⟨a, S, n, rfl, ha, q⟩ := h
  obtain ⟨u, rfl, rx⟩ := vals1 r
  obtain rfl : u = .ref a := rx
  obtain ⟨o, es, ep, t, ho, hex, hd, _, _, _, hb, hf, hn, _⟩ := setO_get I ha
  refine call_len_set ho hex hd hf (by unfold scanBound at hb; omega) ?_
  rw [hn]
  exact ⟨.int (n : Nat), H, I.tok _, ⟨_, rfl⟩, q⟩
end L2

/-! t[::-1], t a tuple. -/
namespace L2
open PySem PySem.Spec PyProof.Rows HT
section
variable {prog : Program} {w : World} {A : Around} {E : Value → Shared → Prop} {s : Shared}
theorem adjust_back (n : Nat) : Builtin.Slice.sliceAdjust none none (-1) (n : Int) = ((n : Int) - 1, -1) := by
  unfold Builtin.Slice.sliceAdjust
  rfl
theorem places_back (n : Nat) : Builtin.Slice.slicePlaces ((n : Int) - 1) (-1) (-1) = n := by
  unfold Builtin.Slice.slicePlaces
  have h1 : ¬ (-1 : Int) > 0 := by omega
  simp only [h1, if_false, Int.neg_neg, Int.ediv_one]
  split <;> omega
theorem applied_back {sl : Addr} {tk : Tok} {n : Nat} {Q : Int × Int × Nat → Shared → Prop} (hs : s.heap.IsSliceOf sl .none .none (.int (-1) tk)) (h : Q ((n : Int) - 1, -1, n) s) :
    wpAny (model prog w) A (Builtin.Slice.sliceApplied (.ref sl) (pure (n : Int))) Q E s := by
  obtain ⟨os, hos, hcs, hds⟩ := id hs
  unfold Builtin.Slice.sliceApplied Builtin.Slice.sliceFields
  refine wpAny_bind (wpAny_bind (wpAny_field hos hds (x := .none) rfl ?_))
  refine wpAny_bind (wpAny_field hos hds (x := .none) rfl ?_)
  refine wpAny_bind (wpAny_field hos hds (x := .int (-1) tk) rfl (wpAny_pure ?_))
  refine wpAny_bind (slicePart_ (.int (-1) tk) ?_)
  show wpAny _ _ (if ((-1 : Int) == 0) = true then _ else _) _ _ s
  rw [if_neg (by decide)]
  refine wpAny_bind (slicePart_ .none (wpAny_bind (slicePart_ .none ?_)))
  refine wpAny_bind (wpAny_pure ?_)
  show wpAny _ _ (match Builtin.Slice.sliceAdjust none none (-1) (n : Int) with | (lo, hi) => pure (lo, (-1 : Int), Builtin.Slice.slicePlaces lo hi (-1))) _ _ s
  rw [adjust_back]
  show wpAny _ _ (pure ((n : Int) - 1, (-1 : Int), Builtin.Slice.slicePlaces ((n : Int) - 1) (-1) (-1))) _ _ s
  rw [places_back]
  exact wpAny_pure h
theorem back_go {α : Type} (xs : Array α) : ∀ k, k ≤ xs.size → (List.range k).filterMap (fun (m : Nat) => xs[((xs.size : Int) - 1 + (m : Int) * -1).toNat]?) = xs.toList.reverse.take k
  | 0, _ => rfl
  | k + 1, h => by
    rw [List.range_succ, List.filterMap_append, back_go xs k (by omega), List.take_add_one]
    have e : ((xs.size : Int) - 1 + (k : Int) * -1).toNat = xs.size - 1 - k := by omega
    congr 1
    have l : k < xs.toList.reverse.length := by rw [List.length_reverse, Array.length_toList]; omega
    have g : xs.toList.reverse[k]? = xs[xs.size - 1 - k]? := by
      rw [List.getElem?_reverse (by rw [Array.length_toList]; omega), Array.getElem?_toList, Array.length_toList]
    rw [g]
    show (match xs[((xs.size : Int) - 1 + (k : Int) * -1).toNat]? with | none => [] | some b => [b]) = _
    rw [e]
    cases xs[xs.size - 1 - k]? <;> rfl
theorem back_all (xs : Array Value) : ((List.range xs.size).filterMap (fun (m : Nat) => xs[((xs.size : Int) - 1 + (m : Int) * -1).toNat]?)).toArray = xs.toList.reverse.toArray := by
  rw [back_go xs xs.size (Nat.le_refl _), List.take_of_length_le (by rw [List.length_reverse, Array.length_toList]; exact Nat.le_refl _)]
theorem getItem_back {t sl : Addr} {items : Array Value} {tk : Tok} {Q : Value → Shared → Prop} (ht : IsTup s.heap t items) (hs : s.heap.IsSliceOf sl .none .none (.int (-1) tk))
    (h : Q (.ref s.heap.objs.size) { s with heap := s.heap.push { cls := .type "tuple", data := .seq items.toList.reverse.toArray } }) (hsz : items.size ≤ sizeLine) : wpAny (model prog w) A (getItem (.ref t) (.ref sl)) Q E s := by
  have fits : sizeOk (.seq items.toList.reverse.toArray) := by
    show items.toList.reverse.toArray.size ≤ sizeLine
    rw [List.size_toArray, List.length_reverse, Array.length_toList]
    exact hsz
  obtain ⟨os, hos, hcs, hds⟩ := id hs
  have hTs : s.TypeIs (.ref sl) "slice" := ⟨os, hos, hcs⟩
  unfold getItem
  try with_reducible refine wpAny_holding ?_
  first
    | refine wpAny_bind (wpAny_pure ?_)
    | skip
  refine wpAny_bind (wpAny_sequenceKey ht.typeIs (by decide) ?_)
  have sg := PyProof.Rows.slot_tuple_getitem
  refine wpAny_bind (wpAny_callSpecial?_slot (name := Str.ofString "__getitem__") ht.typeIs sg (wpAny_call_entry sg ht.typeIs entry_tuple_getitem ?_ (args_tuple_getitem _ _)))
  show wpAny _ _ (Builtin.Tuple.tupleItemsOf (.ref t) >>= _) _ _ s
  refine wpAny_bind (tupleItemsOf_ ht (wpAny_bind (wpAny_typeOf hTs ?_)))
  rw [if_pos (by decide)]
  refine wpAny_bind (applied_back hs ?_)
  show wpAny _ _ (if ((((items.size : Int) - 1) == 0 && (-1 : Int) == 1 && items.size == items.size) = true) then _ else _) _ _ s
  rw [if_neg (by simp), back_all]
  first
    | exact wpAny_bind (m := Builtin.Tuple.tupleExact _) (wpAny_newObj_type (wpAny_pure ⟨_, rfl, wpAny_pure h⟩) fits)
    | exact wpAny_bind (m := Builtin.Tuple.tupleExact _) (wpAny_newObj_type (wpAny_bind (wpAny_pure (wpAny_pure ⟨_, rfl, wpAny_pure h⟩))) fits)
    | exact wpAny_bind (wpAny_bind (m := Builtin.Tuple.tupleExact _) (wpAny_newObj_type (wpAny_pure (wpAny_pure ⟨_, rfl, wpAny_pure h⟩)) fits))
    | exact wpAny_bind (wpAny_bind (m := Builtin.Tuple.tupleExact _) (wpAny_newObj_type (wpAny_pure ⟨_, rfl, wpAny_pure h⟩) fits))
end
theorem vals_rev : ∀ {xs : List V} {us : List Value}, Vals xs us → Vals xs.reverse us.reverse
  | _, _, .nil => .nil
  | _, _, .cons r t => by
    rw [List.reverse_cons, List.reverse_cons]
    exact (vals_rev t).append (.cons r .nil)
def tBack (K : PySem.W.Frag) (te ts : TE) : TE := fun σ H Q => te σ H fun x H1 => ts σ H1 fun y H2 => y = .int (-1) ∧ ∃ (a : Addr) (xs : List V), x = .ref a ∧ SqT K H2 a xs ∧ ∀ p, H2 p = none → Q (.ref p) (upd H2 p (.tup xs.reverse))
theorem pe_back {X : Cx} {K : PySem.W.Frag} {e st : Expr} {te ts : TE} {p2 pos : Pos} (he : PE X e te) (hst : PE X st ts) (ek : X.K = K := by rfl) : PE X (.Subscript e (.Slice none none (some st) p2) pos) (tBack K te ts) := by
  subst ek
  refine ⟨fun pins s σ H Q I h => ?_⟩
  refine Subscript_ (thn (he.run pins s σ H _ I h) fun v s1 ⟨x, H1, I1, r1, q1⟩ => ?_)
  refine wpAny_Slice ?_
  rw [evalPart_none, evalPart_some]
  refine wpAny_pure (wpAny_pure (thn (hst.run pins s1 σ H1 _ I1 q1) fun vs s3 ⟨y, H3, I3, ry, ey, a, xs, ex, hx, q⟩ => ?_))
  subst ey ex
  obtain ⟨tk, rfl⟩ := ry
  cases r1
  have I4 : Inv X pins σ H3 { s3 with heap := s3.heap.push { cls := .type "slice", data := .fields #[.none, .none, .int (-1) tk] } } := I3.kept (t' := s3.toks) fun b ob q => Heap.get?_push_of_some _ q
  obtain ⟨its, r, ht, hz⟩ := I4.tuple hx
  have hlen : its.toArray.size = xs.length := by rw [List.size_toArray]; exact r.length.symm
  show wpAny (model X.prog X.w) X.A (subscriptTail e (.Slice none none (some st) p2) (.ref a) (.ref s3.heap.objs.size)) (EP X pins σ Q) X.xe { s3 with heap := s3.heap.push { cls := .type "slice", data := .fields #[.none, .none, .int (-1) tk] } }
  refine tail_any (T := "tuple") (ops := [.ref a, .ref s3.heap.objs.size]) ht.typeIs PyProof.Rows.slot_tuple_getitem.lookup (getItem_back ht (Heap.IsSliceOf.new ..) ?_ (by rw [hlen]; exact hz)) (by with_unfolding_all rfl)
  refine ⟨.ref _, _, I4.laid (t' := s3.toks) (o := .tup xs.reverse) (fun b ob z => Heap.get?_push_of_some _ z) (Nat.le_refl _) ?_, rfl, q _ (I4.hok.fresh (Nat.le_refl _))⟩
  exact ⟨by rw [List.length_reverse]; exact hz, its.reverse, vals_rev r, IsTup.new _ _⟩
end L2

/-! zip of tuples, all and any named, three comparisons in a chain, tuples of data times ints, repr of truth values. -/
namespace L2
open PySem PySem.Spec PyProof.Rows
section
variable {X : Cx} {K : PySem.W.Frag}
theorem k_all (hc : X.calm = true) (ek : X.K = K := by rfl) : CallR X (.builtin "all") (rAll K) := by
  subst ek
  exact cr_all hc
theorem k_any (hc : X.calm = true) (ek : X.K = K := by rfl) : CallR X (.builtin "any") (rAny K) := by
  subst ek
  exact cr_any hc
theorem k_piZA {e e2 : Expr} {ta : TA} {p pos tpos : Pos} {elts : List Expr} {kk : Nat} (hg : Gl X "zip") (hm : X.mg "zip" = none) (ha : PA X [e, e2] ta)
    (hs : starEach [e, e2] X.env = (false, eval e X.env) :: starEach [e2] X.env := by rfl)
    (hpl : (backTo pos (starEach [e2] X.env)).any (·.1) = false := by rfl) (ek : X.K = K := by rfl) :
    PI X (.Tuple elts kk tpos) (.Call (.Name "zip" p) [e, e2] [] pos) (RZ.iZipA K ta) := by
  subst ek
  exact RZ.pi_zipA hg hm ha hs hpl
end
theorem walk_zipT {K : PySem.W.Frag} {a b : Addr} {xs ys : List V} (hn : xs.length = ys.length) :
    Walk (RZ.ItzT K a b) xs.length (fun H => SqT K H a xs ∧ SqT K H b ys) (YPair (fun i => xs[i]?) (fun i => ys[i]?)) where
  goes := fun i _ hi q => ⟨xs, ys, xs[i], ys[i]'(by omega), q.1, q.2, by simp [hi], by simp [show i < ys.length by omega]⟩
  stops := fun _ q => ⟨xs, ys, q.1, q.2, .inl (Nat.le_refl _)⟩
  yields := fun i H v H' _ q y => by
    obtain ⟨T, x, z, e1, e2, e3, e4, e5⟩ := y
    exact ⟨T, x, z, e1, e2, e3, e4 xs q.1, e5 ys q.2⟩
/-! ### a < b < c < d as a test -/
def tChain3 (r r' r2 : R2) (ta tb tc td : TE) : TE := fun σ H Q => ta σ H fun x H1 => tb σ H1 fun y H2 => r x y H2 fun z H3 => ∃ k, z = .bl k ∧
  (if k = true then tc σ H3 fun y2 H4 => r' y y2 H4 fun z2 H5 => ∃ k2, z2 = .bl k2 ∧ (if k2 = true then td σ H5 fun y3 H6 => r2 y2 y3 H6 Q else Q (.bl false) H5) else Q (.bl false) H3)
theorem pt_chain3 {X : Cx} {a b c d : Expr} {ta tb tc td : TE} {pos : Pos} {o1 o2 o3 : CmpOp} {r r' r2 : R2} (h1 : OpR X (compareOp o1) r) (h2 : OpR X (compareOp o2) r') (h3 : OpR X (compareOp o3) r2)
    (ha : PE X a ta) (hb : PE X b tb) (hc : PE X c tc) (hd : PE X d td) (hm : lastMarks [o1, o2, o3] [b, c, d] = false := by with_unfolding_all rfl) :
    PT X (.Compare a [o1, o2, o3] [b, c, d] pos) (tTest (tChain3 r r' r2 ta tb tc td)) := by
  refine ⟨fun pins s σ H Q I h => ?_⟩
  refine isTrue_chain (thn (ha.run pins s σ H _ I h) fun v1 s1 ⟨x, H1, I1, r1, q1⟩ => ?_) hm
  refine test_link (thn (hb.run pins s1 σ H1 _ I1 q1) fun v2 s2 ⟨y, H2, I2, r2', q2⟩ => ?_)
  refine thn (h1 pins s2 σ H2 x y v1 v2 _ I2 r1 r2' q2) fun b1 s3 ⟨z, H3, I3, r3, k, ez, q3⟩ => ?_
  subst ez
  cases r3
  refine wpAny_truthy_bool ?_
  cases k with
  | false =>
    obtain ⟨_, e0, q0⟩ := q3
    cases e0
    exact ite_ff ⟨H3, I3, q0⟩
  | true =>
    refine ite_tt (test_link (thn (hc.run pins s3 σ H3 _ I3 q3) fun v4 s4 ⟨y2, H4, I4, r4, q4⟩ => ?_))
    refine thn (h2 pins s4 σ H4 y y2 v2 v4 _ I4 r2' r4 q4) fun b2 s5 ⟨z2, H5, I5, r5, k2, ez2, q5⟩ => ?_
    subst ez2
    cases r5
    refine wpAny_truthy_bool ?_
    cases k2 with
    | false =>
      obtain ⟨_, e0, q0⟩ := q5
      cases e0
      exact ite_ff ⟨H5, I5, q0⟩
    | true =>
      refine ite_tt (test_last (thn (hd.run pins s5 σ H5 _ I5 q5) fun v6 s6 ⟨y3, H6, I6, r6, q6⟩ => ?_))
      refine thn (h3 pins s6 σ H6 y2 y3 v4 v6 _ I6 r4 r6 q6) fun b3 s7 ⟨z3, H7, I7, r7, k3, ez3, q7⟩ => ?_
      subst ez3
      cases r7
      exact wpAny_truthy_bool ⟨H7, I7, q7⟩
/-! ### repr of a truth value -/
def rReprB : List V → Hp → VK → Prop := fun xs H Q => ∃ b, xs = [.bl b] ∧ Q (.str (if b then "True" else "False" : String)) H
theorem k_reprB {X : Cx} : CallR X (.builtin "repr") rReprB := by
  intro pins s σ H xs us Q I r h
  obtain ⟨b, rfl, q⟩ := h
  obtain ⟨u, rfl, ru⟩ := vals1 r
  cases ru
  refine PySem.P.repr_of_bool ?_
  cases b
  · exact ⟨.str _, H, I.tok _, ⟨_, rfl⟩, q⟩
  · exact ⟨.str _, H, I.tok _, ⟨_, rfl⟩, q⟩
end L2
namespace My
open PySem PySem.Spec PyProof.Rows L2
/-- a tuple of data, times an int -/
theorem rd_repD {K : PySem.W.Frag} {H : Hp} {v : V} {ds : List PyData} {n : Int} {Q : VK} (h : Dp K H v (.tuple ds)) (hz : ds.length ≤ 1000) (h0 : -1000 ≤ n) (h1 : n ≤ 1000)
    (k : ∀ w H', Same H H' → Dp K H' w (.tuple (List.replicate n.toNat ds).flatten) → Q w H') : rRepA K v (.int n) H Q := by
  obtain ⟨a, xs, rfl, hT, hX⟩ := h.tuple
  have hl := hX.len
  have go : ∀ m : Nat, DpAll K H (List.replicate m xs).flatten (List.replicate m ds).flatten := fun m => by
    induction m with
    | zero => exact .nil
    | succ m ih =>
      rw [List.replicate_succ, List.replicate_succ, List.flatten_cons, List.flatten_cons]
      exact hX.app ih
  refine ⟨a, n, xs, rfl, rfl, hT, h0, h1, by omega, fun w => ?_, fun _ p hp => ?_⟩
  · refine k _ H (Same.refl H) (.tup hT ?_)
    rcases w with w | w
    · subst w
      cases hX
      have e : (List.replicate n.toNat ([] : List PyData)).flatten = [] := by simp
      rw [e]
      exact .nil
    · subst w
      have e : (List.replicate (1 : Int).toNat ds).flatten = ds := by
        show (List.replicate 1 ds).flatten = ds
        simp
      rw [e]
      exact hX
  · exact k _ _ (same_upd hp _) (.tup (SqT.of upd_same) (DpAll.same (same_upd hp _) _ _ (go _)))
end My

/-! Lengths, their least common multiple, places; when loops meet. -/
namespace My
open PySem PySem.Spec PyProof.Rows L2
def NN (ns : List Nat) : List Int := ns.map fun n : Nat => (n : Int)
def lcmN (ns : List Nat) : Nat := ns.foldl Nat.lcm 1
theorem lcm_go : ∀ (ns : List Nat) (a : Nat), a ∣ ns.foldl Nat.lcm a ∧ ∀ n ∈ ns, n ∣ ns.foldl Nat.lcm a
  | [], a => ⟨Nat.dvd_refl a, by intro n hn; cases hn⟩
  | b :: r, a => by
    obtain ⟨h1, h2⟩ := lcm_go r (Nat.lcm a b)
    refine ⟨Nat.dvd_trans (Nat.dvd_lcm_left a b) h1, fun n hn => ?_⟩
    rcases List.mem_cons.mp hn with q | q
    · rw [q]
      exact Nat.dvd_trans (Nat.dvd_lcm_right a b) h1
    · exact h2 n q
theorem lcm_least : ∀ (ns : List Nat) (a m : Nat), a ∣ m → (∀ n ∈ ns, n ∣ m) → ns.foldl Nat.lcm a ∣ m
  | [], a, m, h, _ => h
  | b :: r, a, m, h, g => lcm_least r (Nat.lcm a b) m (Nat.lcm_dvd h (g b List.mem_cons_self)) fun n hn => g n (List.mem_cons_of_mem _ hn)
theorem dvd_lcmN {ns : List Nat} {n : Nat} (h : n ∈ ns) : n ∣ lcmN ns := (lcm_go ns 1).2 n h
theorem lcmN_dvd {ns : List Nat} {m : Nat} (h : ∀ n ∈ ns, n ∣ m) : lcmN ns ∣ m := lcm_least ns 1 m (Nat.one_dvd m) h
theorem lcmN_take {ns : List Nat} {i n : Nat} (h : ns[i]? = some n) : lcmN (ns.take (i + 1)) = Nat.lcm (lcmN (ns.take i)) n := by
  rw [take_more h]
  unfold lcmN
  rw [List.foldl_append]
  rfl
theorem lcm_pos_go : ∀ (ns : List Nat) (a : Nat), 0 < a → (∀ n ∈ ns, 1 ≤ n) → 0 < ns.foldl Nat.lcm a
  | [], a, h, _ => h
  | b :: r, a, h, g => lcm_pos_go r (Nat.lcm a b) (Nat.lcm_pos h (g b List.mem_cons_self)) fun n hn => g n (List.mem_cons_of_mem _ hn)
theorem lcmN_pos {ns : List Nat} (h : ∀ n ∈ ns, 1 ≤ n) : 0 < lcmN ns := lcm_pos_go ns 1 (Nat.succ_pos 0) h
theorem lcm_le_go (b : Nat) (hb : 1 ≤ b) : ∀ (ns : List Nat) (a : Nat), (∀ n ∈ ns, n ≤ b) → ns.foldl Nat.lcm a ≤ a * b ^ ns.length
  | [], a, _ => by simp
  | c :: r, a, h => by
    have ih := lcm_le_go b hb r (Nat.lcm a c) fun n hn => h n (List.mem_cons_of_mem _ hn)
    have h1 : Nat.lcm a c ≤ a * b := by
      rcases Nat.eq_zero_or_pos a with e | e
      · rw [e, Nat.lcm_zero_left]
        exact Nat.zero_le _
      · rcases Nat.eq_zero_or_pos c with f | f
        · rw [f, Nat.lcm_zero_right]
          exact Nat.zero_le _
        · exact Nat.le_trans (Nat.le_of_dvd (Nat.mul_pos e f) (Nat.lcm_dvd (Nat.dvd_mul_right a c) (Nat.dvd_mul_left c a))) (Nat.mul_le_mul_left a (h c List.mem_cons_self))
    refine Nat.le_trans ih ?_
    rw [List.length_cons, Nat.pow_succ, Nat.mul_comm (b ^ r.length) b, ← Nat.mul_assoc]
    exact Nat.mul_le_mul_right _ h1
theorem lcmN_le {ns : List Nat} {b : Nat} (hb : 1 ≤ b) (h : ∀ n ∈ ns, n ≤ b) : lcmN ns ≤ b ^ ns.length := by
  have q := lcm_le_go b hb ns 1 h
  rw [Nat.one_mul] at q
  exact q
/-! ### two rests together -/
theorem bez (a b : Nat) : ∃ x y : Int, ((Nat.gcd a b : Nat) : Int) = a * x + b * y := by
  induction a, b using Nat.gcd.induction with
  | H0 b => exact ⟨0, 1, by simp⟩
  | H1 a b ha ih =>
    obtain ⟨x, y, e⟩ := ih
    refine ⟨y - ((b / a : Nat) : Int) * x, x, ?_⟩
    rw [Nat.gcd_rec, e]
    have q : ((b % a : Nat) : Int) = (b : Int) - (a : Int) * ((b / a : Nat) : Int) := by
      have := Nat.mod_add_div b a
      have q2 : ((b % a + a * (b / a) : Nat) : Int) = (b : Int) := by rw [this]
      rw [Int.natCast_add, Int.natCast_mul] at q2
      omega
    rw [q, Int.sub_mul, Int.mul_sub, Int.mul_assoc]
    omega
theorem crt2 {R L : Nat} {x q : Int} (h : ((Nat.gcd R L : Nat) : Int) ∣ q - x) : ∃ Y : Int, (R : Int) ∣ Y - x ∧ (L : Int) ∣ Y - q := by
  obtain ⟨c, hc⟩ := h
  obtain ⟨a, b, e⟩ := bez R L
  refine ⟨x + R * (a * c), ⟨a * c, by omega⟩, ⟨-(b * c), ?_⟩⟩
  have e2 : q - x = R * (a * c) + L * (b * c) := by
    rw [hc, e, Int.add_mul, Int.mul_assoc, Int.mul_assoc]
  rw [Int.mul_neg]
  omega
theorem gcd_lcm_dvd {a b L m : Nat} (h1 : Nat.gcd a L ∣ m) (h2 : Nat.gcd b L ∣ m) : Nat.gcd (Nat.lcm a b) L ∣ m := by
  have key : ∀ d : Nat, d ∣ Nat.lcm a b → d ∣ Nat.lcm (Nat.gcd a d) (Nat.gcd b d) := by
    intro d hd
    rcases Nat.eq_zero_or_pos d with e | dp
    · subst e
      rw [Nat.gcd_zero_right, Nat.gcd_zero_right]
      exact hd
    have gp : 0 < Nat.gcd (Nat.gcd a d) (Nat.gcd b d) := Nat.gcd_pos_of_pos_left _ (Nat.gcd_pos_of_pos_right _ dp)
    have N : d * Nat.gcd (Nat.gcd a d) (Nat.gcd b d) ∣ Nat.gcd a d * Nat.gcd b d := by
      have ga : Nat.gcd (Nat.gcd a d) (Nat.gcd b d) ∣ a := Nat.dvd_trans (Nat.gcd_dvd_left _ _) (Nat.gcd_dvd_left _ _)
      have gb : Nat.gcd (Nat.gcd a d) (Nat.gcd b d) ∣ b := Nat.dvd_trans (Nat.gcd_dvd_right _ _) (Nat.gcd_dvd_left _ _)
      have gd : Nat.gcd (Nat.gcd a d) (Nat.gcd b d) ∣ d := Nat.dvd_trans (Nat.gcd_dvd_left _ _) (Nat.gcd_dvd_right _ _)
      have nab : d * Nat.gcd (Nat.gcd a d) (Nat.gcd b d) ∣ a * b := by
        have q : d * Nat.gcd (Nat.gcd a d) (Nat.gcd b d) ∣ Nat.lcm a b * Nat.gcd a b := Nat.mul_dvd_mul hd (Nat.dvd_gcd ga gb)
        rw [Nat.mul_comm (Nat.lcm a b), Nat.gcd_mul_lcm] at q
        exact q
      have nad : d * Nat.gcd (Nat.gcd a d) (Nat.gcd b d) ∣ a * d := by
        rw [Nat.mul_comm a d]
        exact Nat.mul_dvd_mul_left d ga
      have ndb : d * Nat.gcd (Nat.gcd a d) (Nat.gcd b d) ∣ d * b := Nat.mul_dvd_mul_left d gb
      have ndd : d * Nat.gcd (Nat.gcd a d) (Nat.gcd b d) ∣ d * d := Nat.mul_dvd_mul_left d gd
      have q1 : d * Nat.gcd (Nat.gcd a d) (Nat.gcd b d) ∣ a * Nat.gcd b d := by
        rw [← Nat.gcd_mul_left a b d]
        exact Nat.dvd_gcd nab nad
      have q2 : d * Nat.gcd (Nat.gcd a d) (Nat.gcd b d) ∣ d * Nat.gcd b d := by
        rw [← Nat.gcd_mul_left d b d]
        exact Nat.dvd_gcd ndb ndd
      have q3 := Nat.dvd_gcd q1 q2
      rw [Nat.gcd_mul_right] at q3
      exact q3
    rw [← Nat.gcd_mul_lcm (Nat.gcd a d) (Nat.gcd b d), Nat.mul_comm d] at N
    exact Nat.dvd_of_mul_dvd_mul_left gp N
  have k := key _ (Nat.gcd_dvd_left (Nat.lcm a b) L)
  have dL : Nat.gcd (Nat.lcm a b) L ∣ L := Nat.gcd_dvd_right _ _
  refine Nat.dvd_trans k (Nat.lcm_dvd (Nat.dvd_trans ?_ h1) (Nat.dvd_trans ?_ h2))
  · exact Nat.dvd_gcd (Nat.gcd_dvd_left _ _) (Nat.dvd_trans (Nat.gcd_dvd_right _ _) dL)
  · exact Nat.dvd_gcd (Nat.gcd_dvd_left _ _) (Nat.dvd_trans (Nat.gcd_dvd_right _ _) dL)
theorem gcd_lcms {L m : Nat} : ∀ (ns : List Nat) (a : Nat), Nat.gcd a L ∣ m → (∀ n ∈ ns, Nat.gcd n L ∣ m) → Nat.gcd (ns.foldl Nat.lcm a) L ∣ m
  | [], a, h, _ => h
  | b :: r, a, h, g => gcd_lcms r (Nat.lcm a b) (gcd_lcm_dvd h (g b List.mem_cons_self)) fun n hn => g n (List.mem_cons_of_mem _ hn)
theorem emod_eq_dvd {n x y : Int} : x % n = y % n ↔ n ∣ x - y := by
  rw [Int.emod_eq_emod_iff_emod_sub_eq_zero]
  exact ⟨Int.dvd_of_emod_eq_zero, Int.emod_eq_zero_of_dvd⟩
/-- places that by pairs can meet are those of some tick -/
theorem crt_all {ns : List Nat} {ps : List Int} (hl : ps.length = ns.length) (hp : ∀ (i n : Nat) (p : Int), ns[i]? = some n → ps[i]? = some p → 0 ≤ p ∧ p < (n : Int))
    (h : ∀ (i j a b : Nat) (p q : Int), i < j → ns[i]? = some a → ns[j]? = some b → ps[i]? = some p → ps[j]? = some q → ((Nat.gcd a b : Nat) : Int) ∣ p - q) :
    ∃ X : Int, ∀ (i n : Nat) (p : Int), ns[i]? = some n → ps[i]? = some p → X % (n : Int) = p := by
  have go : ∀ m : Nat, ∃ X : Int, ∀ (i n : Nat) (p : Int), i < m → ns[i]? = some n → ps[i]? = some p → X % (n : Int) = p := fun m => by
    induction m with
    | zero => exact ⟨0, fun i n p hi => absurd hi (Nat.not_lt_zero i)⟩
    | succ m ih =>
      obtain ⟨X, hX⟩ := ih
      cases en : ns[m]? with
      | none =>
        refine ⟨X, fun i n p hi e1 e2 => ?_⟩
        by_cases im : i < m
        · exact hX i n p im e1 e2
        · have : i = m := by omega
          subst this
          rw [en] at e1
          cases e1
      | some L =>
        have hm : m < ns.length := (List.getElem?_eq_some_iff.mp en).1
        have eq : ps[m]? = some (ps[m]'(by omega)) := List.getElem?_eq_getElem (by omega)
        have hd : ((Nat.gcd (lcmN (ns.take m)) L : Nat) : Int) ∣ ps[m]'(by omega) - X := by
          rw [Int.ofNat_dvd_left]
          refine gcd_lcms (ns.take m) 1 (by rw [Nat.gcd_one_left]; exact Nat.one_dvd _) fun n hn => ?_
          rw [← Int.ofNat_dvd_left]
          obtain ⟨i, hi⟩ := List.mem_iff_getElem?.mp hn
          have im : i < m := by
            have := (List.getElem?_eq_some_iff.mp hi).1
            rw [List.length_take] at this
            omega
          rw [List.getElem?_take_of_lt im] at hi
          have ep : ps[i]? = some (ps[i]'(by omega)) := List.getElem?_eq_getElem (by omega)
          have a1 := h i m n L _ _ im hi en ep eq
          have a2 : (n : Int) ∣ X - ps[i]'(by omega) := by
            have b1 := hX i n _ im hi ep
            obtain ⟨c1, c2⟩ := hp i n _ hi ep
            rw [← emod_eq_dvd, b1, Int.emod_eq_of_lt c1 c2]
          have a3 : ((Nat.gcd n L : Nat) : Int) ∣ X - ps[i]'(by omega) := Int.dvd_trans (Int.natCast_dvd_natCast.mpr (Nat.gcd_dvd_left n L)) a2
          have a4 := Int.dvd_add a1 a3
          have e : ps[i]'(by omega) - ps[m]'(by omega) + (X - ps[i]'(by omega)) = -(ps[m]'(by omega) - X) := by omega
          rw [e] at a4
          exact Int.dvd_neg.mp a4
        obtain ⟨Y, y1, y2⟩ := crt2 hd
        refine ⟨Y, fun i n p hi e1 e2 => ?_⟩
        by_cases im : i < m
        · rw [← hX i n p im e1 e2, emod_eq_dvd]
          refine Int.dvd_trans (Int.natCast_dvd_natCast.mpr (dvd_lcmN ?_)) y1
          exact List.mem_of_getElem? (i := i) (by rw [List.getElem?_take_of_lt im]; exact e1)
        · have : i = m := by omega
          subst this
          rw [en] at e1
          rw [eq] at e2
          cases e1
          cases e2
          obtain ⟨c1, c2⟩ := hp i L _ en eq
          have := emod_eq_dvd.mpr y2
          rw [this, Int.emod_eq_of_lt c1 c2]
  obtain ⟨X, hX⟩ := go ns.length
  exact ⟨X, fun i n p e1 e2 => hX i n p (List.getElem?_eq_some_iff.mp e1).1 e1 e2⟩
/-- the places of a tick -/
def plc (ns : List Nat) (t : Int) : List Int := ns.map fun n : Nat => t % (n : Int)
theorem plc_of {ns : List Nat} {ps : List Int} {X : Int} (hl : ps.length = ns.length) (h : ∀ (i n : Nat) (p : Int), ns[i]? = some n → ps[i]? = some p → X % (n : Int) = p) : ps = plc ns X := by
  refine List.ext_getElem? fun i => ?_
  unfold plc
  rw [List.getElem?_map]
  by_cases hi : i < ns.length
  · have e1 : ns[i]? = some ns[i] := List.getElem?_eq_getElem hi
    have e2 : ps[i]? = some (ps[i]'(by omega)) := List.getElem?_eq_getElem (by omega)
    rw [e1, e2, ← h i _ _ e1 e2]
    rfl
  · rw [List.getElem?_eq_none (by omega), List.getElem?_eq_none (show ns.length ≤ i by omega)]
    rfl
theorem plc_mod {ns : List Nat} {t u : Int} : plc ns t = plc ns u ↔ ((lcmN ns : Nat) : Int) ∣ t - u := by
  constructor
  · intro h
    rw [Int.ofNat_dvd_left]
    refine lcmN_dvd fun n hn => ?_
    rw [← Int.ofNat_dvd_left, ← emod_eq_dvd]
    exact List.map_inj_left.mp h n hn
  · intro h
    refine List.map_congr_left fun n hn => ?_
    rw [emod_eq_dvd]
    exact Int.dvd_trans (Int.natCast_dvd_natCast.mpr (dvd_lcmN hn)) h
theorem plc_lcm (ns : List Nat) (t : Int) : plc ns (t % (lcmN ns : Nat)) = plc ns t := by
  rw [plc_mod, ← emod_eq_dvd, Int.emod_emod]
theorem plc_one {ns : List Nat} {t u : Int} (h : plc ns t = plc ns u) (t0 : 0 ≤ t) (t1 : t < (lcmN ns : Nat)) (u0 : 0 ≤ u) (u1 : u < (lcmN ns : Nat)) : t = u := by
  have q := emod_eq_dvd.mpr (plc_mod.mp h)
  rw [Int.emod_eq_of_lt t0 t1, Int.emod_eq_of_lt u0 u1] at q
  exact q
end My

/-! Great tuples times ints; what settles what is heard of loops; periods. -/
namespace L2
open PySem PySem.Spec PyProof.Rows
/-- t * k, k from 1 on, not more than a million things -/
def rRepW (K : PySem.W.Frag) : R2 := fun x y H Q => ∃ l k xs, x = .ref l ∧ y = .int k ∧ SqT K H l xs ∧ 1 ≤ xs.length ∧ 1 ≤ k ∧ k.toNat * xs.length ≤ 1000000 ∧
  (k = 1 → Q (.ref l) H) ∧ (k ≠ 1 → ∀ p, H p = none → Q (.ref p) (upd H p (.tup (List.replicate k.toNat xs).flatten)))
theorem op_repW {X : Cx} {K : PySem.W.Frag} (ek : X.K = K := by rfl) : OpR X (binaryOp .Mult) (rRepW K) := by
  subst ek
  intro pins s σ H x y v u Q I rx ry h
  obtain ⟨l, k, xs, rfl, rfl, hT, x1, k1, km, q0, q1⟩ := h
  cases rx
  obtain ⟨t, rfl⟩ := ry
  obtain ⟨its, r, ⟨⟨cls, dd, data, sl⟩, ho, hc, n, hd⟩, hs⟩ := I.tuple hT
  simp only at hc hd
  subst hc hd
  have lx : its.length = xs.length := r.length.symm
  have kk : k ≤ 1000000 := by
    have := Nat.mul_le_mul_left k.toNat x1
    omega
  have c0 : (decide (k < -(2 ^ 63)) || decide (k ≥ 2 ^ 63)) = false := by
    rw [decide_eq_false (by omega), decide_eq_false (by omega)]
    rfl
  have e1 : its.toArray.isEmpty = false := by
    cases its with
    | nil =>
      rw [← lx] at x1
      exact absurd x1 (by decide)
    | cons _ _ => rfl
  by_cases e : k = 1
  · refine wpAny_binaryOp_repeat_ref (U := "int") (T := "tuple") (by decide) ⟨_, ho, rfl⟩ (fun s2 => typeIs_int s2 k t) noFill_tuple_mul F.fills_int_mul F.slot_int_rmul repeat_tuple F.slot_int_index.lookup
      (call_meets F.slot_int_rmul (typeIs_int s k t) F.entry_int_rmul (F.args_int_rmul_2 _ _) (int_rmul_tuple k t l its.toArray n dd sl) ⟨ho, rfl, ⟨_, ho, rfl⟩, ?_⟩)
    refine call_meets F.slot_tuple_mul ⟨_, ho, rfl⟩ F.entry_tuple_mul (F.args_tuple_mul_2 _ _) (my_mul_same l its.toArray n dd sl k t c0 ?_) ⟨ho, .ref l, H, I, rfl, q0 e⟩
    rw [e1, e]
    rfl
  · have sz : its.toArray.size = xs.length := by rw [List.size_toArray, lx]
    have nn : ((its.toArray.size : Nat) : Int) * k ≤ 1000000 := by
      rw [sz]
      have f : ((k.toNat * xs.length : Nat) : Int) ≤ 1000000 := by omega
      rw [Int.natCast_mul, Int.toNat_of_nonneg (by omega), Int.mul_comm] at f
      exact f
    have long : (List.replicate k.toNat its).flatten.length ≤ sizeLine := by
      rw [PyProof.Rows.lm_len_rep_flat, lx, sizeLine_eq]
      omega
    have c1 : (its.toArray.isEmpty || k == 1) = false := by rw [e1, Bool.false_or, beq_eq_false_iff_ne.mpr e]
    have c2 : (decide (k ≤ 0) || its.toArray.isEmpty) = false := by rw [e1, Bool.or_false, decide_eq_false (by omega)]
    have c4 : Builtin.Tuple.tupleTooMany (((its.toArray.size : Nat) : Int) * k) = false := by
      unfold Builtin.Tuple.tupleTooMany
      rw [sizeLine_eq, decide_eq_false (by omega)]
    refine wpAny_binaryOp_repeat_ref (U := "int") (T := "tuple") (by decide) ⟨_, ho, rfl⟩ (fun s2 => typeIs_int s2 k t) noFill_tuple_mul F.fills_int_mul F.slot_int_rmul repeat_tuple F.slot_int_index.lookup
      (call_meets F.slot_int_rmul (typeIs_int s k t) F.entry_int_rmul (F.args_int_rmul_2 _ _) (int_rmul_tuple k t l its.toArray n dd sl) ⟨ho, rfl, ⟨_, ho, rfl⟩, ?_⟩)
    refine call_meets F.slot_tuple_mul ⟨_, ho, rfl⟩ F.entry_tuple_mul (F.args_tuple_mul_2 _ _) (tuple_mulW l its.toArray n dd sl k t c0 c1 c2 (by omega) c4 (by rw [size_rep, List.size_toArray]; exact long)) ⟨ho, ?_⟩
    rw [size_rep]
    refine ⟨.ref s.heap.objs.size, _, I.laid (t' := s.toks) (o := .tup (List.replicate k.toNat xs).flatten) (fun b ob q => Heap.get?_push_of_some _ q) (Nat.le_refl _) ?_, rfl, q1 e _ (I.hok.fresh (Nat.le_refl _))⟩
    refine ⟨?_, _, r.rep k.toNat, IsTup.new _ _⟩
    rw [PyProof.Rows.lm_len_rep_flat, sizeLine_eq]
    omega
end L2
namespace My
open PySem PySem.Spec PyProof.Rows L2
/-! ### sums of functions that come again -/
def Sm : List Nat → (Nat → Int) → Prop
  | [], f => ∀ t, f t = 0
  | L :: r, f => ∃ p : Nat → Int, (∀ t, p (t + L) = p t) ∧ Sm r (fun t => f t - p t)
theorem Sm.congr {Ls : List Nat} {f g : Nat → Int} (h : Sm Ls f) (e : ∀ t, f t = g t) : Sm Ls g := by
  have : f = g := funext e
  rw [← this]
  exact h
theorem Sm.delta : ∀ (Ls : List Nat) (f : Nat → Int) (L : Nat), Sm Ls f → Sm Ls (fun t => f (t + L) - f t)
  | [], f, L, h => fun t => by
    show f (t + L) - f t = 0
    rw [h (t + L), h t]
    rfl
  | M :: r, f, L, ⟨p, hp, hs⟩ => by
    refine ⟨fun t => p (t + L) - p t, fun t => ?_, (Sm.delta r _ L hs).congr fun t => ?_⟩
    · show p (t + M + L) - p (t + M) = p (t + L) - p t
      rw [show t + M + L = t + L + M by omega, hp, hp]
    · show f (t + L) - p (t + L) - (f t - p t) = f (t + L) - f t - (p (t + L) - p t)
      omega
theorem Sm.drop {L : Nat} {r : List Nat} {f : Nat → Int} : Sm (L :: r) f → Sm r (fun t => f (t + L) - f t)
  | ⟨p, hp, hs⟩ => (Sm.delta r _ L hs).congr fun t => by
    show f (t + L) - p (t + L) - (f t - p t) = f (t + L) - f t
    rw [hp]
    omega
theorem Sm.zero : ∀ (Ls : List Nat) (f : Nat → Int), (∀ L ∈ Ls, 1 ≤ L) → Sm Ls f → (∀ t, t < Ls.sum → f t = 0) → ∀ t, f t = 0
  | [], _, _, h, _ => h
  | L :: r, f, hL, h, hz => by
    have g := Sm.zero r (fun t => f (t + L) - f t) (fun M hM => hL M (List.mem_cons_of_mem _ hM)) h.drop fun t ht => by
      rw [List.sum_cons] at hz
      show f (t + L) - f t = 0
      rw [hz (t + L) (by omega), hz t (by omega)]
      rfl
    have L1 := hL L List.mem_cons_self
    intro t
    induction t using Nat.strongRecOn with
    | _ t ih =>
      by_cases q : t < L
      · exact hz t (by rw [List.sum_cons]; omega)
      · have e := g (t - L)
        have e' : f (t - L + L) - f (t - L) = 0 := e
        rw [Nat.sub_add_cancel (by omega), ih (t - L) (by omega)] at e'
        omega
def lenN (ls : List (List Int)) : List Nat := ls.map List.length
theorem hd_cons (l : List Int) (r : List (List Int)) (t : Int) : hd (l :: r) t = hAt l t + hd r t := by
  unfold hd
  rw [List.map_cons, List.sum_cons]
theorem hAt_add {l : List Int} {t : Int} {P : Nat} (h : l.length ∣ P) : hAt l (t + (P : Int)) = hAt l t := by
  unfold hAt
  have e : (t + (P : Int)).fmod (l.length : Int) = t.fmod (l.length : Int) := by
    rw [Int.fmod_eq_emod_of_nonneg _ (by omega), Int.fmod_eq_emod_of_nonneg _ (by omega)]
    obtain ⟨c, hc⟩ := h
    rw [hc, Int.natCast_mul, Int.add_mul_emod_self_left]
  rw [e]
theorem sm_neg : ∀ ms : List (List Int), Sm (lenN ms) (fun t => -hd ms (t : Int))
  | [] => fun t => rfl
  | m :: r => by
    refine ⟨fun t => -hAt m (t : Int), fun t => ?_, (sm_neg r).congr fun t => ?_⟩
    · show -hAt m ((t + m.length : Nat) : Int) = -hAt m (t : Int)
      rw [Int.natCast_add, hAt_add (Nat.dvd_refl _)]
    · show -hd r (t : Int) = -hd (m :: r) (t : Int) - -hAt m (t : Int)
      rw [hd_cons]
      omega
theorem sm_hd (Ls : List Nat) (g : Nat → Int) (hg : Sm Ls g) : ∀ ls : List (List Int), Sm (lenN ls ++ Ls) (fun t => hd ls (t : Int) + g t)
  | [] => hg.congr fun t => by
    show g t = 0 + g t
    omega
  | l :: r => by
    refine ⟨fun t => hAt l (t : Int), fun t => ?_, (sm_hd Ls g hg r).congr fun t => ?_⟩
    · show hAt l ((t + l.length : Nat) : Int) = hAt l (t : Int)
      rw [Int.natCast_add, hAt_add (Nat.dvd_refl _)]
    · show hd r (t : Int) + g t = hd (l :: r) (t : Int) + g t - hAt l (t : Int)
      rw [hd_cons]
      omega
/-- heard alike at so many ticks as both have things, heard alike for ever -/
theorem settled {ls ms : List (List Int)} (h1 : ∀ l ∈ ls, 1 ≤ l.length) (h2 : ∀ l ∈ ms, 1 ≤ l.length) (h : ∀ t : Nat, t < (lenN ls ++ lenN ms).sum → hd ls (t : Int) = hd ms (t : Int)) (t : Nat) : hd ls (t : Int) = hd ms (t : Int) := by
  have z := Sm.zero _ _ (fun L hL => by
    rcases List.mem_append.mp hL with q | q
    · obtain ⟨l, hl, rfl⟩ := List.mem_map.mp q
      exact h1 l hl
    · obtain ⟨l, hl, rfl⟩ := List.mem_map.mp q
      exact h2 l hl) (sm_hd _ _ (sm_neg ms) ls) (fun t ht => by
      show hd ls (t : Int) + -hd ms (t : Int) = 0
      rw [h t ht]
      omega) t
  have z' : hd ls (t : Int) + -hd ms (t : Int) = 0 := z
  omega
/-! ### the first tick at which two part -/
def isFirst (ls ms : List (List Int)) : Option Nat → Prop
  | none => ∀ t : Nat, hd ls (t : Int) = hd ms (t : Int)
  | some t => hd ls (t : Int) ≠ hd ms (t : Int) ∧ ∀ s : Nat, s < t → hd ls (s : Int) = hd ms (s : Int)
theorem isFirst.one {ls ms : List (List Int)} {r r' : Option Nat} (h : isFirst ls ms r) (g : isFirst ls ms r') : r = r' := by
  cases r with
  | none =>
    cases r' with
    | none => rfl
    | some t => exact absurd (h t) g.1
  | some t =>
    cases r' with
    | none => exact absurd (g t) h.1
    | some u =>
      rcases Nat.lt_trichotomy t u with q | q | q
      · exact absurd (g.2 t q) h.1
      · rw [q]
      · exact absurd (h.2 u q) g.1
theorem isFirst.swap {ls ms : List (List Int)} {r : Option Nat} (h : isFirst ls ms r) : isFirst ms ls r := by
  cases r with
  | none => exact fun t => (h t).symm
  | some t => exact ⟨fun z => h.1 z.symm, fun s hs => (h.2 s hs).symm⟩
def optV : Option Nat → V
  | none => .non
  | some t => .int (t : Int)
/-! ### periods -/
def isPer (ls : List (List Int)) (P : Nat) : Prop := ∀ t : Nat, hd ls ((t + P : Nat) : Int) = hd ls (t : Int)
def isMin (ls : List (List Int)) (P : Nat) : Prop := 0 < P ∧ isPer ls P ∧ ∀ P', 0 < P' → isPer ls P' → P ≤ P'
theorem isMin.one {ls : List (List Int)} {P P' : Nat} (h : isMin ls P) (g : isMin ls P') : P = P' := Nat.le_antisymm (h.2.2 P' g.1 g.2.1) (g.2.2 P h.1 h.2.1)
theorem per_dvd : ∀ {ls : List (List Int)} {P : Nat}, (∀ l ∈ ls, l.length ∣ P) → isPer ls P
  | [], _, _ => fun t => rfl
  | l :: r, P, h => fun t => by
    have ih := per_dvd (ls := r) (P := P) (fun x hx => h x (List.mem_cons_of_mem _ hx)) t
    rw [hd_cons, hd_cons, ih, Int.natCast_add, hAt_add (h l List.mem_cons_self)]
theorem per_mul {ls : List (List Int)} {P : Nat} (h : isPer ls P) : ∀ k : Nat, isPer ls (P * k)
  | 0 => fun t => rfl
  | k + 1 => fun t => by
    rw [Nat.mul_succ, ← Nat.add_assoc, h, per_mul h k]
theorem per_mod {ls : List (List Int)} {a b : Nat} (ha : isPer ls a) (hb : isPer ls b) : isPer ls (b % a) := fun t => by
  have e : t + b % a + a * (b / a) = t + b := by
    have := Nat.mod_add_div b a
    omega
  have h1 := per_mul ha (b / a) (t + b % a)
  rw [e, hb] at h1
  exact h1.symm
theorem per_gcd {ls : List (List Int)} {a b : Nat} : isPer ls a → isPer ls b → isPer ls (Nat.gcd a b) := by
  induction a, b using Nat.gcd.induction with
  | H0 b =>
    intro _ hb
    rw [Nat.gcd_zero_left]
    exact hb
  | H1 a b ha ih =>
    intro h1 h2
    rw [Nat.gcd_rec]
    exact ih (per_mod h1 h2) h1
theorem min_dvd {ls : List (List Int)} {P P' : Nat} (h : isMin ls P) (g : isPer ls P') : P ∣ P' := by
  rcases Nat.eq_zero_or_pos P' with e | e
  · rw [e]
    exact Nat.dvd_zero P
  · have q := h.2.2 _ (Nat.gcd_pos_of_pos_left P' h.1) (per_gcd h.2.1 g)
    have e2 : Nat.gcd P P' = P := Nat.le_antisymm (Nat.le_of_dvd h.1 (Nat.gcd_dvd_left P P')) q
    rw [← e2]
    exact Nat.gcd_dvd_right P P'
/-- no divisor to 64 leads to a lesser one: it is the period -/
theorem min_of {ls : List (List Int)} {T : Nat} (ok : ∀ l ∈ ls, 1 ≤ l.length ∧ l.length ≤ 64) (t0 : 0 < T) (hT : isPer ls T) (hd : T ∣ lcmN (lenN ls)) (h : ∀ e, 2 ≤ e → e ≤ 64 → ¬ (e ∣ T ∧ isPer ls (T / e))) : isMin ls T := by
  refine ⟨t0, hT, fun P' p0 hP => ?_⟩
  have gP := per_gcd hT hP
  have g0 : 0 < Nat.gcd T P' := Nat.gcd_pos_of_pos_left P' t0
  obtain ⟨m, hm⟩ := Nat.gcd_dvd_left T P'
  have m0 : 0 < m := by
    rcases Nat.eq_zero_or_pos m with e | e
    · rw [e, Nat.mul_zero] at hm
      omega
    · exact e
  rcases (by omega : m = 1 ∨ 2 ≤ m) with e | m2
  · rw [e, Nat.mul_one] at hm
    have := Nat.le_of_dvd p0 (Nat.gcd_dvd_right T P')
    omega
  exfalso
  have ex : ∃ n ∈ lenN ls, Nat.gcd n m ≠ 1 := by
    refine Classical.byContradiction fun z => ?_
    have q : Nat.gcd (lcmN (lenN ls)) m ∣ 1 := gcd_lcms (lenN ls) 1 (by rw [Nat.gcd_one_left]; exact Nat.dvd_refl 1) fun n hn => by
      have e : Nat.gcd n m = 1 := Classical.byContradiction fun w => z ⟨n, hn, w⟩
      rw [e]
      exact Nat.dvd_refl 1
    have mL : m ∣ lcmN (lenN ls) := Nat.dvd_trans ⟨Nat.gcd T P', by rw [Nat.mul_comm]; exact hm⟩ hd
    rw [Nat.gcd_eq_right mL] at q
    have := Nat.le_of_dvd (Nat.succ_pos 0) q
    omega
  obtain ⟨n, hn, gn⟩ := ex
  obtain ⟨l, hl, rfl⟩ := List.mem_map.mp hn
  have o := ok l hl
  have e0 : 0 < Nat.gcd l.length m := Nat.gcd_pos_of_pos_left m o.1
  have e64 : Nat.gcd l.length m ≤ 64 := Nat.le_trans (Nat.gcd_le_left m o.1) o.2
  obtain ⟨c, hc⟩ := Nat.gcd_dvd_right l.length m
  generalize Nat.gcd l.length m = E at *
  generalize Nat.gcd T P' = G at *
  have eT : T = E * (G * c) := by rw [hm, hc, Nat.mul_left_comm]
  refine h E (by omega) e64 ⟨⟨G * c, eT⟩, ?_⟩
  rw [eT, Nat.mul_div_cancel_left _ e0]
  exact per_mul gP c
/-- the same, heard behind so many ticks -/
theorem per_lat {ls : List (List Int)} {P : Nat} (h : ∀ l ∈ ls, 1 ≤ l.length) : isFirst ls (lat ls (P : Int)) none ↔ isPer ls P := by
  constructor
  · intro z t
    have q := z t
    rw [hd_lat _ _ h] at q
    rw [Nat.add_comm, Int.natCast_add]
    exact q.symm
  · intro z t
    rw [hd_lat _ _ h, ← Int.natCast_add, Nat.add_comm]
    exact (z t).symm
end My

/-! Loops that are heard alike, and their periods: what the defs promise. -/
namespace My
open PySem PySem.Spec PyProof.Rows L2
def sp_common_divisor (K : PySem.W.Frag) : Sp := fun vs H Q _ => ∃ (x y : Nat), vs = [.int x, .int y] ∧ Q (.int (Nat.gcd x y : Nat)) H
def sp__law_common (K : PySem.W.Frag) : Sp := sp_common_divisor K
def sp_common_multiple (K : PySem.W.Frag) : Sp := fun vs H Q _ => ∃ (a : Addr) (ns : List Nat), vs = [.ref a] ∧ SqL K H a ((NN ns).map V.int) ∧ (∀ n ∈ ns, 1 ≤ n) ∧ lcmN ns ≤ 2 ^ 40 ∧ Q (.int (lcmN ns : Nat)) H
def sp__law_round (K : PySem.W.Frag) : Sp := sp_common_multiple K
def sp_parted_at (K : PySem.W.Frag) : Sp := fun vs H Q _ => ∃ (v w : V) (ls ms : List (List Int)), vs = [v, w] ∧ Dp K H v (dLoops ls) ∧ Dp K H w (dLoops ms) ∧ OkL ls ∧ OkL ms ∧ ∀ (r : Option Nat) H', isFirst ls ms r → (∀ t, r = some t → t < 768) → Same H H' → Q (optV r) H'
def sp_first_apart (K : PySem.W.Frag) : Sp := sp_parted_at K
def sp__law_first (K : PySem.W.Frag) : Sp := sp_parted_at K
def sp_silent (K : PySem.W.Frag) : Sp := fun vs H Q _ => ∃ (v : V) (ls : List (List Int)), vs = [v] ∧ Dp K H v (dLoops ls) ∧ OkL ls ∧ ∀ (b : Bool) H', (b = true ↔ isFirst ls [] none) → Same H H' → Q (.bl b) H'
def sp_leads_round (K : PySem.W.Frag) : Sp := fun vs H Q _ => ∃ (v : V) (ls : List (List Int)) (t : Nat), vs = [v, .int t] ∧ Dp K H v (dLoops ls) ∧ OkL ls ∧ ∀ (b : Bool) H', (b = true ↔ isPer ls t) → Same H H' → Q (.bl b) H'
def sp_period (K : PySem.W.Frag) : Sp := fun vs H Q _ => ∃ (v : V) (ls : List (List Int)), vs = [v] ∧ Dp K H v (dLoops ls) ∧ OkL ls ∧ ∀ (P : Nat) H', isMin ls P → P ≤ 64 ^ 6 → Same H H' → Q (.int P) H'
theorem nn_get {ns : List Nat} {i : Nat} {c : Int} (h : (NN ns)[i]? = some c) : ∃ n : Nat, ns[i]? = some n ∧ c = (n : Int) := by
  unfold NN at h
  rw [List.getElem?_map] at h
  cases e : ns[i]? with
  | none =>
    rw [e] at h
    cases h
  | some n =>
    rw [e] at h
    exact ⟨n, rfl, (Option.some.inj h).symm⟩
theorem nn_len (ns : List Nat) : (NN ns).length = ns.length := by
  unfold NN
  rw [List.length_map]
theorem fm_nat (u j : Nat) : ((u : Int)).fmod (j : Int) = ((u % j : Nat) : Int) := by
  rw [Int.fmod_eq_emod_of_nonneg _ (by omega)]
  rfl
theorem lcm_a (m n : Nat) : m * (n / Nat.gcd m n) = Nat.lcm m n := by
  unfold Nat.lcm
  rw [Nat.mul_div_assoc m (Nat.gcd_dvd_right m n)]
theorem lcm_b (m n : Nat) : m / Nat.gcd m n * n = Nat.lcm m n := by
  unfold Nat.lcm
  rw [Nat.mul_comm m n, Nat.mul_div_assoc n (Nat.gcd_dvd_left m n), Nat.mul_comm]
theorem lcmN_take_le {ns : List Nat} (h : ∀ n ∈ ns, 1 ≤ n) (i : Nat) : lcmN (ns.take i) ≤ lcmN ns :=
  Nat.le_of_dvd (lcmN_pos h) (lcmN_dvd fun n hn => dvd_lcmN (List.mem_of_mem_take hn))
theorem log_nat {n : Nat} (h : n ≤ 2 ^ 40) : ((n : Nat) : Int).natAbs.log2 < 9000 := by
  rw [Int.natAbs_natCast]
  rcases Nat.eq_zero_or_pos n with e | e
  · rw [e]
    decide
  · have := (Nat.log2_lt (show n ≠ 0 by omega) (k := 41)).mpr (by omega)
    omega
theorem lens_nn (ls : List (List Int)) : lensI ls = NN (lenN ls) := by
  unfold lensI NN lenN
  rw [List.map_map]
  rfl
theorem lenN_app (ls ms : List (List Int)) : lenN (ls ++ ms) = lenN ls ++ lenN ms := by
  unfold lenN
  rw [List.map_append]
theorem sum_nn : ∀ ns : List Nat, (NN ns).sum = ((ns.sum : Nat) : Int)
  | [] => rfl
  | n :: r => by
    show (n : Int) + (NN r).sum = _
    rw [sum_nn r, List.sum_cons, Int.natCast_add]
theorem sum_le : ∀ (ns : List Nat) (b : Nat), (∀ n ∈ ns, n ≤ b) → ns.sum ≤ b * ns.length
  | [], _, _ => Nat.zero_le _
  | n :: r, b, h => by
    have q := sum_le r b fun x hx => h x (List.mem_cons_of_mem _ hx)
    have := h n List.mem_cons_self
    rw [List.sum_cons, List.length_cons, Nat.mul_succ]
    omega
theorem okl_len {ls : List (List Int)} (ok : OkL ls) : ∀ n ∈ lenN ls, 1 ≤ n ∧ n ≤ 64 := fun n hn => by
  obtain ⟨l, hl, rfl⟩ := List.mem_map.mp hn
  exact ok.2 l hl
theorem lenN_len (ls : List (List Int)) : (lenN ls).length = ls.length := by
  unfold lenN
  rw [List.length_map]
theorem okl_lcm {ls : List (List Int)} (ok : OkL ls) : lcmN (lenN ls) ≤ 64 ^ 6 :=
  Nat.le_trans (lcmN_le (b := 64) (by decide) fun n hn => (okl_len ok n hn).2) (Nat.pow_le_pow_right (by decide) (by rw [lenN_len]; exact ok.1))
theorem okl_sum {ls ms : List (List Int)} (ok : OkL ls) (okm : OkL ms) : (lenN ls ++ lenN ms).sum ≤ 768 := by
  have q := sum_le (lenN ls ++ lenN ms) 64 fun n hn => by
    rcases List.mem_append.mp hn with h | h
    · exact (okl_len ok n h).2
    · exact (okl_len okm n h).2
  rw [List.length_append, lenN_len, lenN_len] at q
  have := ok.1
  have := okm.1
  omega
theorem opt_non (r : Option Nat) : decide (optV r = V.non) = true ↔ r = none := by
  cases r with
  | none => simp [optV]
  | some t => simp [optV]
theorem opt_not (r : Option Nat) : (!decide (optV r = V.non)) = true ↔ r ≠ none := by
  cases r with
  | none => simp [optV]
  | some t => simp [optV]
theorem isFirst.non {ls ms : List (List Int)} {r : Option Nat} (h : isFirst ls ms r) : r = none ↔ isFirst ls ms none := by
  constructor
  · intro e
    rw [← e]
    exact h
  · intro g
    exact h.one g
theorem dec_ne {a b : Int} : (!decide (V.int a = V.int b)) = true ↔ a ≠ b := by
  simp
/-- a lesser one that leads round keeps what is known of the others -/
theorem per_keep {ls : List (List Int)} {T d e : Nat} (d0 : 0 < d) (hd : d ∣ T) (h : ¬ (e ∣ T ∧ isPer ls (T / e))) : ¬ (e ∣ T / d ∧ isPer ls (T / d / e)) := by
  rintro ⟨⟨c, hc⟩, g⟩
  obtain ⟨b, hb⟩ := hd
  subst hb
  rw [Nat.mul_div_cancel_left _ d0] at hc g
  subst hc
  apply h
  rcases Nat.eq_zero_or_pos e with e0 | e0
  · subst e0
    refine ⟨⟨0, by simp⟩, ?_⟩
    rw [Nat.div_zero]
    exact fun t => rfl
  rw [Nat.mul_div_cancel_left _ e0] at g
  refine ⟨⟨d * c, by rw [Nat.mul_left_comm]⟩, ?_⟩
  rw [Nat.mul_left_comm, Nat.mul_div_cancel_left _ e0, Nat.mul_comm]
  exact per_mul g d
theorem hd_app (ls ms : List (List Int)) (t : Int) : hd (ls ++ ms) t = hd ls t + hd ms t := by
  unfold hd
  rw [List.map_append, List.sum_append]
theorem isPer.congr {ls ms : List (List Int)} {P : Nat} (h : isPer ls P) (e : ∀ t : Nat, hd ms (t : Int) = hd ls (t : Int)) : isPer ms P := fun t => by
  rw [e, e]
  exact h t
theorem isMin.congr {ls ms : List (List Int)} {P : Nat} (h : isMin ls P) (e : ∀ t : Nat, hd ms (t : Int) = hd ls (t : Int)) : isMin ms P :=
  ⟨h.1, h.2.1.congr e, fun P' p0 hP => h.2.2 P' p0 (hP.congr fun t => (e t).symm)⟩
theorem isPer.off {ls ms : List (List Int)} {P : Nat} {c : Int} (h : isPer ls P) (e : ∀ t : Nat, hd ms (t : Int) = hd ls (t : Int) + c) : isPer ms P := fun t => by
  rw [e, e, h t]
theorem isMin.off {ls ms : List (List Int)} {P : Nat} {c : Int} (h : isMin ls P) (e : ∀ t : Nat, hd ms (t : Int) = hd ls (t : Int) + c) : isMin ms P :=
  ⟨h.1, h.2.1.off e, fun P' p0 hP => h.2.2 P' p0 (hP.off (c := -c) fun t => by rw [e]; omega)⟩
/-- two whose periods have no common divisor -/
theorem min_two {ls ms ns : List (List Int)} {D q : Nat} (h : isMin ls D) (g : isMin ms q) (c : Nat.Coprime D q) (e : ∀ t : Nat, hd ns (t : Int) = hd ls (t : Int) + hd ms (t : Int)) : isMin ns (D * q) := by
  refine ⟨Nat.mul_pos h.1 g.1, fun t => ?_, fun P p0 hP => ?_⟩
  · rw [e, e, per_mul h.2.1 q t]
    rw [Nat.mul_comm D q, per_mul g.2.1 D t]
  · have a1 : isPer ls (P * q) := fun t => by
      have x := per_mul hP q t
      have y := per_mul g.2.1 P t
      rw [Nat.mul_comm] at y
      rw [e, e, y] at x
      omega
    have a2 : isPer ms (P * D) := fun t => by
      have x := per_mul hP D t
      have y := per_mul h.2.1 P t
      rw [Nat.mul_comm] at y
      rw [e, e, y] at x
      omega
    have b1 : D ∣ P := c.dvd_of_dvd_mul_right (min_dvd h a1)
    have b2 : q ∣ P := c.symm.dvd_of_dvd_mul_right (min_dvd g a2)
    exact Nat.le_of_dvd p0 (Nat.Coprime.mul_dvd_of_dvd_of_dvd c b1 b2)
theorem min_nil : isMin [] 1 := ⟨by decide, fun t => rfl, fun P' p0 _ => p0⟩
theorem hd_one (l : List Int) (t : Int) : hd [l] t = hAt l t := by
  unfold hd
  simp
theorem hAt_lt {l : List Int} {i : Nat} (h : i < l.length) : hAt l (i : Int) = l.getD i 0 := by
  unfold hAt
  rw [fm (by omega), ← Int.natCast_emod, Int.toNat_natCast, Nat.mod_eq_of_lt h]
end My

/-! Lists backwards; what several laws of loops share. -/
namespace L2
open PySem PySem.Spec PyProof.Rows HT
def tBackL (K : PySem.W.Frag) (te ts : TE) : TE := fun σ H Q => te σ H fun x H1 => ts σ H1 fun y H2 => y = .int (-1) ∧ ∃ (a : Addr) (xs : List V), x = .ref a ∧ SqL K H2 a xs ∧ ∀ p, H2 p = none → Q (.ref p) (upd H2 p (.lst xs.reverse))
theorem pe_backL {X : Cx} {K : PySem.W.Frag} {e st : Expr} {te ts : TE} {p2 pos : Pos} (he : PE X e te) (hst : PE X st ts) (ek : X.K = K := by rfl) : PE X (.Subscript e (.Slice none none (some st) p2) pos) (tBackL K te ts) := by
  subst ek
  refine ⟨fun pins s σ H Q I h => ?_⟩
  refine Subscript_ (thn (he.run pins s σ H _ I h) fun v s1 ⟨x, H1, I1, r1, q1⟩ => ?_)
  refine wpAny_Slice ?_
  rw [evalPart_none, evalPart_some]
  refine wpAny_pure (wpAny_pure (thn (hst.run pins s1 σ H1 _ I1 q1) fun vs s3 ⟨y, H3, I3, ry, ey, a, xs, ex, hx, q⟩ => ?_))
  subst ey ex
  obtain ⟨tk, rfl⟩ := ry
  cases r1
  have I4 : Inv X pins σ H3 { s3 with heap := s3.heap.push { cls := .type "slice", data := .fields #[.none, .none, .int (-1) tk] } } := I3.kept (t' := s3.toks) fun b ob q => Heap.get?_push_of_some _ q
  obtain ⟨its, r, ht, hz⟩ := I4.list hx
  have hlen := r.length
  show wpAny (model X.prog X.w) X.A (subscriptTail e (.Slice none none (some st) p2) (.ref a) (.ref s3.heap.objs.size)) (EP X pins σ Q) X.xe { s3 with heap := s3.heap.push { cls := .type "slice", data := .fields #[.none, .none, .int (-1) tk] } }
  refine tail_any (T := "list") (ops := [.ref a, .ref s3.heap.objs.size]) ht.isList.typeIs slot_list_getitem.lookup (wpAny_getItem_list_slice ht.isList (Heap.IsSliceOf.new ..) .none .none (IsPart.int (-1) tk) (by decide) ?_ (by rw [List.size_toArray]; omega)) (by with_unfolding_all rfl)
  rw [PySem.W.krv_pick]
  refine ⟨.ref _, _, I4.laid (t' := s3.toks) (o := .lst xs.reverse) (fun b ob z => Heap.get?_push_of_some _ z) (Nat.le_refl _) ?_, rfl, q _ (I4.hok.fresh (Nat.le_refl _))⟩
  exact ⟨by rw [List.length_reverse]; exact hz, its.reverse, 0, vals_rev r, Heap.get?_push_size _ rfl⟩
end L2
namespace My
open PySem PySem.Spec PyProof.Rows L2
theorem small9000 {n : Nat} (h : n ≤ 9000) : n < sizeLine := by
  rw [sizeLine_eq]
  omega
theorem shaped_dLoops (ls : List (List Int)) : SeqAt.shaped (dLoops ls) = true := by
  have go : ∀ ls : List (List Int), PyData.canLayAll0 (ls.map dInts) = true ∧ PyData.depthAll (ls.map dInts) ≤ 1 := fun ls => by
    refine ⟨?_, depth_loops ls⟩
    induction ls with
    | nil => rfl
    | cons l r ih =>
      show ((dInts l).canLay0 && PyData.canLayAll0 (r.map dInts)) = true
      rw [ih, SeqAt.canLay_of_shaped (shaped_dInts l)]
      rfl
  obtain ⟨h1, h2⟩ := go ls
  refine Bool.and_eq_true_iff.mpr ⟨h1, decide_eq_true ?_⟩
  show PyData.depthAll (ls.map dInts) + 1 ≤ 64
  omega
theorem eqv_loops_nil (ls : List (List Int)) : PyData.eqv (dLoops ls) (.tuple []) = ls.isEmpty := by
  cases ls <;> rfl
/-- a tuple of data times an int, greater -/
theorem rd_repW {K : PySem.W.Frag} {H : Hp} {v : V} {ds : List PyData} {n : Int} {Q : VK} (h : Dp K H v (.tuple ds)) (h1 : 1 ≤ ds.length) (n1 : 1 ≤ n) (hz : n.toNat * ds.length ≤ 1000000)
    (k : ∀ w H', Same H H' → Dp K H' w (.tuple (List.replicate n.toNat ds).flatten) → Q w H') : rRepW K v (.int n) H Q := by
  obtain ⟨a, xs, rfl, hT, hX⟩ := h.tuple
  have hl := hX.len
  have go : ∀ m : Nat, DpAll K H (List.replicate m xs).flatten (List.replicate m ds).flatten := fun m => by
    induction m with
    | zero => exact .nil
    | succ m ih =>
      rw [List.replicate_succ, List.replicate_succ, List.flatten_cons, List.flatten_cons]
      exact hX.app ih
  refine ⟨a, n, xs, rfl, rfl, hT, by omega, n1, by rw [hl]; exact hz, fun w => ?_, fun _ p hp => ?_⟩
  · subst w
    refine k _ H (Same.refl H) (.tup hT ?_)
    have e : (List.replicate (1 : Int).toNat ds).flatten = ds := by
      show (List.replicate 1 ds).flatten = ds
      simp
    rw [e]
    exact hX
  · exact k _ _ (same_upd hp _) (.tup (SqT.of upd_same) (DpAll.same (same_upd hp _) _ _ (go _)))
theorem rep_one (p : Nat) (c : Int) : (List.replicate p [PyData.int c]).flatten = (List.replicate p c).map PyData.int := by
  induction p with
  | zero => rfl
  | succ p ih =>
    rw [List.replicate_succ, List.replicate_succ, List.flatten_cons, ih]
    rfl
theorem hAt_rep {p : Nat} (c t : Int) (h : 1 ≤ p) : hAt (List.replicate p c) t = c := by
  unfold hAt
  have q := fm_lt (t := t) h
  rw [List.length_replicate, List.getD_eq_getElem?_getD, List.getElem?_replicate, if_pos q]
  rfl
theorem min_rep {p : Nat} (c : Int) (h : 1 ≤ p) : isMin [List.replicate p c] 1 := by
  refine ⟨by decide, fun t => ?_, fun P' p0 _ => p0⟩
  rw [hd_one, hd_one, hAt_rep c _ h, hAt_rep c _ h]
theorem log_small {P : Nat} (h : P ≤ 64 ^ 6) : ((P : Nat) : Int).natAbs.log2 < 1920 := by
  rw [Int.natAbs_natCast]
  rcases Nat.eq_zero_or_pos P with e | e
  · rw [e]
    decide
  · have := (Nat.log2_lt (show P ≠ 0 by omega) (k := 41)).mpr (by omega)
    omega
theorem min4' (z : Int) (h : 0 ≤ z) : 0 ≤ (if (4 : Int) < z then 4 else z) ∧ (if (4 : Int) < z then 4 else z) ≤ 4 := by
  split <;> omega
theorem at_neg {xs : List V} {x : V} (h : xs[xs.length - 1]? = some x) : atI xs (-1) = some x := by
  have l := (List.getElem?_eq_some_iff.mp h).1
  unfold atI ixN
  rw [if_neg (by decide), if_pos (by omega)]
  have e : (-1 + (xs.length : Int)).toNat = xs.length - 1 := by omega
  show xs[((-1 : Int) + (xs.length : Int)).toNat]? = _
  rw [e]
  exact h
theorem cutD_last (ds : List PyData) : L2.cutD ds none (some (-1)) = ds.dropLast := by
  unfold L2.cutD
  rw [HT.sIx_none]
  have e : HT.sIx ds.length ds.length (some (-1)) = ds.length - 1 := by
    unfold HT.sIx
    show (if (-1 : Int) < 0 then _ else _) = _
    rw [if_pos (by decide)]
    omega
  rw [e, List.drop_zero, Nat.sub_zero, List.dropLast_eq_take]
theorem cutD_rest (ds : List PyData) : L2.cutD ds (some 1) none = ds.drop 1 := by
  cases ds with
  | nil => rfl
  | cons d r =>
    unfold L2.cutD
    have e : HT.sIx (d :: r).length 0 (some 1) = 1 := by
      unfold HT.sIx
      show (if (1 : Int) < 0 then _ else _) = _
      rw [if_neg (by decide), List.length_cons]
      show min 1 (r.length + 1) = 1
      omega
    rw [HT.sIx_none, e]
    rw [List.take_of_length_le (by rw [List.length_drop]; omega)]
theorem dp_two {K : PySem.W.Frag} {H : Hp} (l1 l2 : List Int) {p1 p2 p3 : Addr} (h1 : H p1 = none) (h2 : upd H p1 (.tup (l1.map V.int)) p2 = none) (h3 : upd (upd H p1 (.tup (l1.map V.int))) p2 (.tup (l2.map V.int)) p3 = none) :
    Dp K (upd (upd (upd H p1 (.tup (l1.map V.int))) p2 (.tup (l2.map V.int))) p3 (.tup [.ref p1, .ref p2])) (.ref p3) (dLoops [l1, l2]) ∧ Same H (upd (upd (upd H p1 (.tup (l1.map V.int))) p2 (.tup (l2.map V.int))) p3 (.tup [.ref p1, .ref p2])) := by
  have q2 := same_upd h2 (.tup (l2.map V.int))
  have q3 := same_upd h3 (.tup [.ref p1, .ref p2])
  refine ⟨.tup (SqT.of upd_same) (.cons (Dp.ofInts (SqT.of (q3 _ _ (q2 _ _ upd_same)))) (.cons (Dp.ofInts (SqT.of (q3 _ _ upd_same))) .nil)), (same_upd h1 _).trans (q2.trans q3)⟩
theorem eqv_ints' (xs ys : List Int) : PyData.eqv (dList xs) (dList ys) = decide (xs = ys) := eqv_ints xs ys
theorem dp_tup {K : PySem.W.Frag} {H : Hp} {p : Addr} (l : List Int) (h : H p = none) : Dp K (upd H p (.tup (l.map V.int))) (.ref p) (dInts l) := Dp.ofInts (SqT.of upd_same)
def sp_begun2 (K : PySem.W.Frag) : Sp := fun vs H Q _ => ∃ (a : Addr) (ns : List Int), vs = [.ref a] ∧ SqL K H a (ns.map V.int) ∧ ns.length ≤ 63 ∧
  ∀ m H', Same H H' → MS H' m 0 → (∀ b o, H b = some o → b ≠ m ∧ ¬ Lf H' m b) → Q (.ref m) H'
theorem seq_ef {K : PySem.W.Frag} {H H1 H2 : Hp} {m a : Addr} {xs : List V} (h : SqL K H a xs) (s1 : Same H H1) (hn : ∀ b o, H b = some o → b ≠ m ∧ ¬ Lf H1 m b) (e : Ef m H1 H2) : SqL K H2 a xs := by
  rcases h with (h | ⟨o, h⟩) | h
  · exact .inl (.inl (e.keep _ _ (s1 _ _ h) (hn _ _ h).1 (hn _ _ h).2))
  · exact .inl (.inr ⟨o, e.keep _ _ (s1 _ _ h) (hn _ _ h).1 (hn _ _ h).2⟩)
  · exact .inr h
theorem per_dec {ls : List (List Int)} {L P : Nat} (hL : ∀ l ∈ ls, l.length ∣ L) (L0 : 0 < L) (h : ∀ t, t < L → hd ls ((t + P : Nat) : Int) = hd ls (t : Int)) : isPer ls P := fun t => by
  have pL := per_dvd hL
  have e : t % L + L * (t / L) = t := Nat.mod_add_div t L
  have p := per_mul pL (t / L) (t % L)
  have p2 := per_mul pL (t / L) (t % L + P)
  have e2 : t % L + P + L * (t / L) = t + P := by omega
  rw [e] at p
  rw [e2] at p2
  rw [p, p2, h _ (Nat.mod_lt _ L0)]
theorem min_dec {ls : List (List Int)} {T : Nat} (ok : ∀ l ∈ ls, 1 ≤ l.length ∧ l.length ≤ 64) (T0 : 0 < T) (hL : T ∣ lcmN (lenN ls)) (hT : ∀ t, t < lcmN (lenN ls) → hd ls ((t + T : Nat) : Int) = hd ls (t : Int))
    (h : ∀ e, e ≤ 64 → 2 ≤ e → e ∣ T → ¬ ∀ t, t < lcmN (lenN ls) → hd ls ((t + T / e : Nat) : Int) = hd ls (t : Int)) : isMin ls T :=
  min_of ok T0 (per_dec (fun l hl => dvd_lcmN (List.mem_map_of_mem hl)) (lcmN_pos fun n hn => by
    obtain ⟨l, hl, rfl⟩ := List.mem_map.mp hn
    exact (ok l hl).1) hT) hL fun e h1 h2 z => h e h2 h1 z.1 fun t _ => z.2 t
theorem hd_rev (ls : List (List Int)) (t : Int) : hd ls.reverse t = hd ls t := by
  unfold hd
  rw [List.map_reverse, List.sum_reverse]
theorem OkL.rev {ls : List (List Int)} (h : OkL ls) : OkL ls.reverse := ⟨by rw [List.length_reverse]; exact h.1, fun l hl => h.2 l (List.mem_reverse.mp hl)⟩
def optD : Option Nat → PyData
  | none => .none
  | some t => .int (t : Int)
theorem opt_dp {K : PySem.W.Frag} {H : Hp} (r : Option Nat) : Dp K H (optV r) (optD r) := by
  cases r with
  | none => exact .non
  | some t => exact .int _
theorem tells_opts (r : Option Nat) (h : ∀ t, r = some t → t < 10 ^ 40) : Tells (.list [optD r, optD r]) := by
  refine tells 40 (by decide) (by decide) rfl ?_ ?_ ?_
  · cases r with
    | none => rfl
    | some t =>
      show (decide (((t : Nat) : Int).natAbs < 10 ^ 40) && (decide (((t : Nat) : Int).natAbs < 10 ^ 40) && true)) = true
      rw [decide_eq_true (by rw [Int.natAbs_natCast]; exact h t rfl)]
      rfl
  · cases r <;> exact Nat.le_of_ble_eq_true rfl
  · cases r <;> exact Nat.le_of_ble_eq_true rfl
/-- the items of a list of loops, cut -/
theorem dp_cutV {K : PySem.W.Frag} {H : Hp} {xs : List V} {ls : List (List Int)} {lo hi : Option Int} (h : DpAll K H xs (ls.map dInts)) : ∃ ms : List (List Int), DpAll K H (L2.cutV xs lo hi) (ms.map dInts) ∧ (∀ l ∈ ms, l ∈ ls) ∧ ms.length = (L2.cutV xs lo hi).length := by
  refine ⟨(ls.drop (HT.sIx xs.length 0 lo)).take (HT.sIx xs.length xs.length hi - HT.sIx xs.length 0 lo), ?_, fun l hl => List.mem_of_mem_drop (List.mem_of_mem_take hl), ?_⟩
  · rw [List.map_take, List.map_drop]
    exact (h.drop _).take _
  · have hl := h.len
    rw [List.length_map] at hl
    unfold L2.cutV
    rw [List.length_take, List.length_take, List.length_drop, List.length_drop, hl]
theorem cutV_mid (xs : List V) (h : 2 ≤ xs.length) : (L2.cutV xs (some 1) (some (-1))).length = xs.length - 2 := by
  unfold L2.cutV HT.sIx
  rw [List.length_take, List.length_drop]
  show min ((if (-1 : Int) < 0 then ((-1 : Int) + (xs.length : Int)).toNat else min (-1 : Int).toNat xs.length) - (if (1 : Int) < 0 then ((1 : Int) + (xs.length : Int)).toNat else min (1 : Int).toNat xs.length)) (xs.length - (if (1 : Int) < 0 then ((1 : Int) + (xs.length : Int)).toNat else min (1 : Int).toNat xs.length)) = _
  rw [if_pos (by decide), if_neg (by decide)]
  show min (((-1 : Int) + (xs.length : Int)).toNat - min 1 xs.length) (xs.length - min 1 xs.length) = _
  omega
end My

/-! Own errors whose __init__ keeps no field. -/
namespace L2
open PySem PySem.Spec PyProof.Rows
section
variable {X : Cx} {pins : List (Addr × Obj)} {σ : St} {H1 H2 : Hp} {Q : XK} {a C : Addr}
/-- such an error is let go -/
theorem end_bare {A0 A1 A2 : Heap} {ga gb : Array GenState} {da db : Drawn} {ta tb : Nat} {oa ob : OsState} (hR : Raises X (.ref C)) (I1 : Inv X pins σ H1 ⟨A0, ga, da, ta, oa⟩) (big : A0.objs.size ≤ a)
    (k : ∀ b o, A0.get? b = some o → A1.get? b = some o) (un : Un (frs X.stack) [] (upd H1 a (exo a C none)) H2 A1 A2) (hok : HOk X.prog X.w H2 A2) (ho : ob = oa) (hb : AllBare gb) (ea : H2 a = some (exo a C none))
    (q : Q (.ref C) none (del H2 a)) : MkP X pins σ Q (.ref a) ⟨A2, gb, db, tb, ob⟩ := by
  obtain ⟨t0, at0⟩ := exo_at hok ea
  have none1 : H1 a = none := I1.hok.fresh big
  obtain ⟨G, in1, out1⟩ := restrict A2 fun b => decide (b ≠ a)
  have same : ∀ b, b ≠ a → G.get? b = A2.get? b := fun b hb => in1 b (decide_eq_true hb)
  have gone : G.get? a = none := out1 a (by simp)
  have ne : ∀ {b : Addr} {o : Obj}, A0.get? b = some o → b ≠ a := fun {b o} z e => by
    have q := Heap.lt_size z
    rw [e] at q
    exact Nat.lt_irrefl _ (Nat.lt_of_lt_of_le q big)
  have free1 : ∀ {b : Addr}, b ≠ a → H1 b = none → upd H1 a (exo a C none) b = none := fun {b} hb n => (upd_ne hb).trans n
  have U : Un (frs X.stack) [] H1 (del H2 a) A0 G := by
    refine ⟨fun b o z n hf hx => ?_, fun b o z n hf hx => ?_, fun b o z n hx => ?_, fun b o z hx => ?_, fun b xs z => ?_, fun b o u z => ?_, fun b ps z => ?_⟩
    · exact (same b (ne z)).trans (un.keep b o (k b o z) (free1 (ne z) n) hf hx)
    · obtain ⟨sl, e⟩ := un.slot b o (k b o z) (free1 (ne z) n) hf hx
      exact ⟨sl, (same b (ne z)).trans e⟩
    · exact (del_ne (ne z)).trans (un.free b o (k b o z) (free1 (ne z) n) hx)
    · obtain ⟨o', e⟩ := un.there b o (k b o z) hx
      exact ⟨o', (same b (ne z)).trans e⟩
    · have b1 : b ≠ a := ne_of_none z none1
      exact (del_ne b1).trans (un.tups b xs ((upd_ne b1).trans z))
    · have b1 : b ≠ a := ne_of_none z none1
      exact (del_ne b1).trans (un.frzs b o u ((upd_ne b1).trans z))
    · have b1 : b ≠ a := ne_of_none z none1
      obtain ⟨more, e⟩ := un.tbls b ps ((upd_ne b1).trans z)
      exact ⟨more, (del_ne b1).trans e⟩
  have hok3 : HOk X.prog X.w (del H2 a) G := fun b o z => by
    have b1 : b ≠ a := fun e => by
      subst e
      rw [del_same] at z
      cases z
    rw [del_ne b1] at z
    have own1 : ∀ {c : Addr}, H2 c = some (.own b) → c ≠ a := fun {c} hc => at_ne ea hc exo_own
    refine (hok b o z).stay (fun c v hc y => ?_) (fun c hc => (del_ne (own1 hc)).trans hc) (fun c xs hc => (del_ne (at_ne ea hc exo_tup)).trans hc)
    have c1 : c ≠ a := by
      rcases hc with e | e
      · rw [e]
        exact b1
      · exact own1 e
    exact (same c c1).trans y
  have J : Inv X pins σ (del H2 a) ⟨G, gb, db, tb, ob⟩ := I1.call' (ch := []) ho U hok3 hb (fun b z => absurd z (by simp))
  refine ⟨a, _, _, ⟨G, gb, db, tb, ob⟩, _, .ref C, none, rfl, J, fun b o z => ?_, gone, at0, ⟨rfl, rfl⟩, rfl, rfl, del_same, rfl, hb, hR, q⟩
  by_cases b1 : b = a
  · subst b1
    rw [gone] at z
    cases z
  · exact (same b b1).symm.trans z
end
def tMkN (C : Addr) (sp : Sp) (ta : TA) : St → Hp → XK → Prop := fun σ H Q => ta σ H fun vs H1 => vs.length ≤ 1000 ∧ ∀ a, H1 a = none → sp (.ref a :: (vs ++ [])) (upd H1 a (exo a C none))
  (fun v H2 => v = .non ∧ H2 a = some (exo a C none) ∧ Q (.ref C) none (del H2 a)) (fun _ _ _ => False)
section
variable {X : Cx} {e : Expr} {es : List Expr} {ta : TA} {p pos : Pos}
theorem pmk_bare {CX : CXT} {x : Str} {C fI : Addr} {k : Nat} {fd : FuncData} {ps : List Str} {sp : Sp} (T : OexC X.K C) (iC : PySem.W.findIn X.K (.ref C) "__init__" = some (some (.ref fI)))
    (tI : PySem.W.typeIn X.K (.ref fI) = some (.type "function")) (F1 : FnOk X.prog X.w X.K X.mg X.base CX k fI fd ps sp) (hr : Room (k + 1) X.A) (hb : Binds X.K fd ps []) (hx : Passes CX X (fun _ _ _ => False)) (hg : Gl X x)
    (hm : X.mg x = some (.ref C)) (ha : PA X (e :: es) ta) (hdb : (x == ("__debug__" : Str)) = false := by decide) (he : starEach (e :: es) X.env = (false, eval e X.env) :: starEach es X.env := by rfl)
    (hpl : (backTo pos (starEach es X.env)).any (·.1) = false := by rfl) : PMk X (.Call (.Name x p) (e :: es) [] pos) (tMkN C sp ta) := by
  intro pins s σ H Q I h
  obtain ⟨c1, c2, c3, c4, c5, c6, c7, c8, c9, ca, cb, cc, cd, ce, cf, atC, bases⟩ := T.cls
  refine wpAny_Call_Name_kw (ld_glob I hg hm (PySem.W.callWith_K (h₀ := X.base) I.ok.mod.kin T.kC (thn (ha.run pos pins s σ H _ I h) fun us s1 hh => ?_) he hpl) hdb)
  obtain ⟨vs, H1, I1, r1, hz, q1⟩ := hh
  refine ⟨I1.kIn, ?_⟩
  show wpAny _ _ (call (.ref C) us) _ _ _
  obtain ⟨A0, g, dr, tk, os⟩ := s1
  have big : A0.objs.size ≤ A0.objs.size + 1 := Nat.le_succ _
  have hq := q1 (A0.objs.size + 1) (I1.hok.fresh big)
  have kk : ∀ b o, A0.get? b = some o → ((A0.push (PySem.W.kdv_tup us)).push (PySem.HandSPX.excO C A0.objs.size)).get? b = some o := fun b o z => Heap.get?_push_of_some _ (Heap.get?_push_of_some _ z)
  have at1 : ((A0.push (PySem.W.kdv_tup us)).push (PySem.HandSPX.excO C A0.objs.size)).get? (A0.objs.size + 1) = some (PySem.HandSPX.excO C A0.objs.size) := by heap_get
  have I2 : Inv X pins σ (upd H1 (A0.objs.size + 1) (exo (A0.objs.size + 1) C none)) ⟨(A0.push (PySem.W.kdv_tup us)).push (PySem.HandSPX.excO C A0.objs.size), g, dr, tk, os⟩ :=
    I1.laid (t' := tk) (a := A0.objs.size + 1) (o := exo (A0.objs.size + 1) C none) (h' := (A0.push (PySem.W.kdv_tup us)).push (PySem.HandSPX.excO C A0.objs.size)) kk big (exo_ok at1)
  have r2 : Vals (V.ref (A0.objs.size + 1) :: (vs ++ [])) (Value.ref (A0.objs.size + 1) :: (us ++ [])) := .cons rfl (r1.append .nil)
  have len2 : (Value.ref (A0.objs.size + 1) :: us ++ []).length = ps.length := r2.length.symm.trans (F1.len _ _ _ _ hq)
  have bb := hb ⟨(A0.push (PySem.W.kdv_tup us)).push (PySem.HandSPX.excO C A0.objs.size), g, dr, tk, os⟩ (Value.ref (A0.objs.size + 1) :: us) I2.kIn len2
  rw [List.cons_append] at bb
  have small : us.length ≤ sizeLine := by
    have e1 := Paired.length r1
    rw [sizeLine_eq]
    omega
  refine wpAny_call (PySem.HandSPX.call_own F.excBase_ValueError (fun Y => PySem.HandSPX.refsVE_contains Y c5 bases) (I1.kIn _ _ atC) (PySem.W.looks_findIn I1.kIn iC) (fun self => PySem.W.bind_fn I1.kIn self tI) small (codeAny_mono (F1.run _ X.stack _ _ ⟨Value.ref (A0.objs.size + 1) :: us, []⟩ (Value.ref (A0.objs.size + 1) :: (us ++ [])) _ _ (fun _ _ _ => False) (hr.make C us []) (I2.env0.make C us []) bb r2 hq) fun r s' hq' => ?_))
  match r, hq' with
  | .error er, z => exact hx pins σ _ _ er s' I2 z
  | .ok (.ret u), ⟨v, H2, os2, bare2, un2, hok2, rv, ev, ea, q2⟩ =>
    subst ev
    obtain ⟨A2, g2, d2, t2, os'⟩ := s'
    exact ⟨rv, end_bare (raises_own T.exC T.tyC) I1 big kk un2 hok2 os2 bare2 ea q2⟩
  | .ok .next, z => exact z.elim
  | .ok .brk, z => exact z.elim
  | .ok .cont, z => exact z.elim
end
end L2
namespace My
open PySem PySem.Spec PyProof.Rows L2
def sp_excN (C : Addr) : Sp := fun vs H Q _ => ∃ (a : Addr) (w : V), vs = [.ref a, w] ∧ H a = some (exo a C none) ∧ Q .non H
theorem made_bare {C : Addr} {w : V} {H : Hp} {Q : XK} (k : ∀ H', Same H H' → Q (.ref C) none H') :
    ∀ a, H a = none → sp_excN C (.ref a :: ([w] ++ [])) (upd H a (exo a C none)) (fun v H2 => v = .non ∧ H2 a = some (exo a C none) ∧ Q (.ref C) none (del H2 a)) (fun _ _ _ => False) := by
  intro a ha
  refine ⟨a, w, rfl, upd_same, rfl, upd_same, k _ fun b o q => ?_⟩
  have b1 := ne_of_none q ha
  rw [del_ne b1, upd_ne b1]
  exact q
end My

/-! Loops that sound one thing at one place; loops and their opposites. -/
namespace My
open PySem PySem.Spec PyProof.Rows L2
/-- a loop that sounds 0 but at one place -/
theorem min_mark {l : List Int} {i : Nat} {c : Int} (hi : l[i]? = some c) (h0 : c ≠ 0) (hz : ∀ (j : Nat) (z : Int), j ≠ i → l[j]? = some z → z = 0) : isMin [l] l.length := by
  have il := (List.getElem?_eq_some_iff.mp hi).1
  refine ⟨by omega, fun t => ?_, fun P' p0 hP => ?_⟩
  · rw [hd_one, hd_one, Int.natCast_add, hAt_add (Nat.dvd_refl _)]
  · have q := hP i
    rw [hd_one, hd_one, hAt_lt il] at q
    have e1 : l.getD i 0 = c := by rw [List.getD_eq_getElem?_getD, hi]; rfl
    rw [e1] at q
    unfold hAt at q
    rw [fm (by omega), ← Int.natCast_emod, Int.toNat_natCast, List.getD_eq_getElem?_getD] at q
    have ml : (i + P') % l.length < l.length := Nat.mod_lt _ (by omega)
    have e2 : (i + P') % l.length = i := Classical.byContradiction fun z => by
      have g := hz ((i + P') % l.length) _ z (List.getElem?_eq_getElem ml)
      rw [List.getElem?_eq_getElem ml] at q
      have q' : l[(i + P') % l.length] = c := q
      rw [g] at q'
      exact h0 q'.symm
    have d : l.length ∣ P' := by
      have m := Nat.mod_add_div (i + P') l.length
      rw [e2] at m
      exact ⟨(i + P') / l.length, by omega⟩
    exact Nat.le_of_dvd p0 d
def lateA (n : Nat) : List Int := List.replicate (n - 2) 0 ++ [-1, 0]
def lateB (n : Nat) : List Int := List.replicate (n - 2) 0 ++ [1]
theorem late_first : ∀ n, n ≤ 64 → 4 ≤ n → hd [lateA n, lateB n] ((2 * n - 3 : Nat) : Int) ≠ 0 ∧ ∀ s, s < 2 * n - 3 → hd [lateA n, lateB n] (s : Int) = 0 := by decide +kernel
theorem late_cop : ∀ n, n ≤ 64 → 4 ≤ n → Nat.Coprime n (n - 1) := by decide +kernel
theorem lateA_min {n : Nat} (h : 4 ≤ n) : isMin [lateA n] n := by
  have len : (lateA n).length = n := by
    unfold lateA
    rw [List.length_append, List.length_replicate]
    show n - 2 + 2 = n
    omega
  have q := min_mark (l := lateA n) (i := n - 2) (c := -1) ?_ (by decide) fun j z hj e => ?_
  · rw [len] at q
    exact q
  · unfold lateA
    rw [List.getElem?_append_right (by rw [List.length_replicate]; omega), List.length_replicate, Nat.sub_self]
    rfl
  · unfold lateA at e
    by_cases w : j < n - 2
    · rw [List.getElem?_append_left (by rw [List.length_replicate]; exact w), List.getElem?_replicate, if_pos w] at e
      exact (Option.some.inj e).symm
    · rw [List.getElem?_append_right (by rw [List.length_replicate]; omega), List.length_replicate] at e
      have e1 : j - (n - 2) = 1 ∨ 2 ≤ j - (n - 2) := by omega
      rcases e1 with e1 | e1
      · rw [e1] at e
        exact (Option.some.inj e).symm
      · rw [List.getElem?_eq_none (by exact e1)] at e
        cases e
theorem lateB_min {n : Nat} (h : 4 ≤ n) : isMin [lateB n] (n - 1) := by
  have len : (lateB n).length = n - 1 := by
    unfold lateB
    rw [List.length_append, List.length_replicate]
    show n - 2 + 1 = n - 1
    omega
  have q := min_mark (l := lateB n) (i := n - 2) (c := 1) ?_ (by decide) fun j z hj e => ?_
  · rw [len] at q
    exact q
  · unfold lateB
    rw [List.getElem?_append_right (by rw [List.length_replicate]; omega), List.length_replicate, Nat.sub_self]
    rfl
  · unfold lateB at e
    by_cases w : j < n - 2
    · rw [List.getElem?_append_left (by rw [List.length_replicate]; exact w), List.getElem?_replicate, if_pos w] at e
      exact (Option.some.inj e).symm
    · rw [List.getElem?_append_right (by rw [List.length_replicate]; omega), List.length_replicate, List.getElem?_eq_none (by show 1 ≤ j - (n - 2); omega)] at e
      cases e
theorem late_min {n : Nat} (h : 4 ≤ n) (h64 : n ≤ 64) : isMin [lateA n, lateB n] (n * (n - 1)) :=
  min_two (lateA_min h) (lateB_min h) (late_cop n h64 h) fun t => by rw [hd_cons, hd_one, hd_one]
/-- one number of one loop otherwise: it is first heard at its place -/
theorem bent_first {ls : List (List Int)} {k i : Nat} {l : List Int} {c d : Int} (hk : ls[k]? = some l) (hi : l[i]? = some c) (hc : d ≠ 0) (hz : ∀ t : Nat, hd ls (t : Int) = 0) :
    isFirst (ls.set k (l.set i (c + d))) [] (some i) := by
  have il := (List.getElem?_eq_some_iff.mp hi).1
  have key : ∀ t : Nat, hd (ls.set k (l.set i (c + d))) (t : Int) = hd ls (t : Int) + (if t % l.length = i then d else 0) := by
    have at1 : ∀ t : Nat, hAt (l.set i (c + d)) (t : Int) = hAt l (t : Int) + (if t % l.length = i then d else 0) := fun t => by
      unfold hAt
      rw [List.length_set, fm (by omega), ← Int.natCast_emod, Int.toNat_natCast, List.getD_eq_getElem?_getD, List.getD_eq_getElem?_getD]
      by_cases w : t % l.length = i
      · rw [if_pos w, w, List.getElem?_set_self il, hi]
        rfl
      · rw [if_neg w, List.getElem?_set_ne (fun z => w z.symm), Int.add_zero]
    intro t
    have go : ∀ (ls : List (List Int)) (k : Nat), ls[k]? = some l → hd (ls.set k (l.set i (c + d))) (t : Int) = hd ls (t : Int) + (if t % l.length = i then d else 0) := by
      intro ls
      induction ls with
      | nil =>
        intro k hk
        simp at hk
      | cons x r ih =>
        intro k hk
        cases k with
        | zero =>
          have ex : x = l := Option.some.inj hk
          subst ex
          show hd (x.set i (c + d) :: r) (t : Int) = _
          rw [hd_cons, hd_cons, at1]
          omega
        | succ k =>
          show hd (x :: r.set k (l.set i (c + d))) (t : Int) = _
          rw [hd_cons, hd_cons, ih k hk]
          omega
    exact go ls k hk
  refine ⟨?_, fun s hs => ?_⟩
  · rw [key, hz, Nat.mod_eq_of_lt il, if_pos rfl]
    show 0 + d ≠ 0
    omega
  · rw [key, hz, Nat.mod_eq_of_lt (by omega), if_neg (by omega)]
    rfl
theorem hAt_map {l : List Int} {f : Int → Int} (t : Int) (h : 1 ≤ l.length) : hAt (l.map f) t = f (hAt l t) := by
  unfold hAt
  have q := fm_lt (t := t) h
  rw [List.length_map, List.getD_eq_getElem?_getD, List.getD_eq_getElem?_getD, List.getElem?_map, List.getElem?_eq_getElem q]
  rfl
theorem hAt_two {l : List Int} (t : Int) (h : 1 ≤ l.length) : hAt (l ++ l) t = hAt l t := by
  unfold hAt
  rw [fm h, fm (by rw [List.length_append]; omega), List.length_append, List.getD_eq_getElem?_getD, List.getD_eq_getElem?_getD]
  have a0 := Int.emod_nonneg t (show (l.length : Int) ≠ 0 by omega)
  have a1 := Int.emod_lt_of_pos t (show (0 : Int) < (l.length : Int) by omega)
  have b0 := Int.emod_nonneg t (show ((l.length + l.length : Nat) : Int) ≠ 0 by omega)
  have b1 := Int.emod_lt_of_pos t (show (0 : Int) < ((l.length + l.length : Nat) : Int) by omega)
  have e : (t % ((l.length + l.length : Nat) : Int)) % (l.length : Int) = t % (l.length : Int) := Int.emod_emod_of_dvd t ⟨2, by omega⟩
  by_cases q : t % ((l.length + l.length : Nat) : Int) < (l.length : Int)
  · rw [Int.emod_eq_of_lt b0 q] at e
    rw [e, List.getElem?_append_left (by omega)]
  · have e2 : t % ((l.length + l.length : Nat) : Int) = t % (l.length : Int) + l.length := by
      have w : (t % ((l.length + l.length : Nat) : Int) - l.length) % (l.length : Int) = t % (l.length : Int) := by
        rw [Int.sub_emod_right]
        exact e
      rw [Int.emod_eq_of_lt (by omega) (by omega)] at w
      omega
    rw [e2, List.getElem?_append_right (by omega)]
    congr 2
    omega
end My

/-! try with two handlers, the first one with a name. -/
namespace L2
open PySem PySem.Spec PyProof.Rows
/-- an exception that has landed at its try: B is the heap ahead of it, Wo what is wished if it goes on -/
def Caught (X : Cx) (Wo : WX) (pins : List (Addr × Obj)) (a : Addr) (cls : Value) (d : Option Addr) (σ : St) (H : Hp) (s : Shared) : Prop :=
  ∃ B : Heap, HandSPX.FlyingZ B (X.env :: X.outer) a (Zc cls d) s.heap ∧ (∀ h, HandSPX.FlyingZ B (X.env :: X.outer) a (Zc cls d) h → s.heap.UpToSlots h → Inv X pins σ H { s with heap := h }) ∧
    (∀ h, HandSPX.HeldZ B (X.env :: X.outer) a (Zc cls d) X.env.locals h → s.heap.UpToSlots h → Wo cls d σ H → X.xe (.ref a) { s with heap := h }) ∧ H a = none ∧ a ≠ X.env.locals ∧ a ∉ X.fs
variable {X : Cx} {Wo : WX} {pins : List (Addr × Obj)} {a : Addr} {cls : Value} {d : Option Addr} {σ : St} {H : Hp} {s : Shared} {D : Ends}
theorem Caught.inv (c : Caught X Wo pins a cls d σ H s) : Inv X pins σ H s := by
  obtain ⟨B, fl, k, _⟩ := c
  exact k s.heap fl (Heap.UpToSlots.refl _)
/-- no handler takes it -/
theorem Caught.on (c : Caught X Wo pins a cls d σ H s) (hf : X.env.frame = some X.env.locals) (w : Wo cls d σ H) : wpAny (model X.prog X.w) X.A (handleBy (.ref a) X.env []) (SP X pins D) X.xe s := by
  obtain ⟨B, fl, _, go, _⟩ := c
  obtain ⟨_, _, _, oe, vs, T, oT, ts, he, hz, hd, h1, hr⟩ := id fl
  refine wpAny_handleBy_nil ?_
  unfold PySem.passOn
  refine wpAny_bind ?_; refine wpAny_field he hd h1 ?_
  rw [if_neg (show ¬ ((Value.ref T == Value.none) = true) by simp)]
  have last : wpAny (model X.prog X.w) X.A (setFlight (.ref a) X.env.frame) (fun _ t => wpAny (model X.prog X.w) X.A (throw (.ref a) : Sem Flow) (SP X pins D) X.xe t) X.xe s := by
    rw [hf]
    exact HandSPX.setFlight_upZ fl fun h hh up => wpAny_throw (go h hh up w)
  first | exact wpAny_bind (wpAny_pure (wpAny_bind last)) | exact wpAny_bind last
/-- the test of one handler -/
theorem Caught.test (c : Caught X Wo pins a cls d σ H s) {x : Str} {cv : Value} {np pos : Pos} {nm : Option Str} {suite : List Stmt} {hds : List ExceptHandler} (hc : Names X x cv) {b : Bool} (hb : PySem.W.exmOne X.K cls cv = some b)
    (yes : b = true → codeAny (model X.prog X.w) (X.A.mark (some (.ref a))) (.handlers (.ref a) [.ExceptHandler none nm suite pos] X.env) (fun r s₂ => match r with
      | .ok f => (match nm with | none => SP X pins D f s₂ | some n => wpAny (model X.prog X.w) X.A (do bindName X.env n .none; unbindBehindTheSuite X.env n pos) (fun _ s₃ => SP X pins D f s₃) X.xe s₂)
      | .error z => cameBackBy (model X.prog X.w) X.A X.env X.xe z s₂) s)
    (no : b = false → wpAny (model X.prog X.w) X.A (handleBy (.ref a) X.env hds) (SP X pins D) X.xe s) (ne : suite ≠ []) :
    wpAny (model X.prog X.w) X.A (handleBy (.ref a) X.env (.ExceptHandler (some (.Name x np)) nm suite pos :: hds)) (SP X pins D) X.xe s := by
  have I := c.inv
  obtain ⟨B, fl, k, _, na, nL, nF⟩ := c
  obtain ⟨oe, vs, he, hz, hd⟩ := fl.there
  have S := I.suite he hd na nL nF
  refine wpAny_handleBy_cons (codeAny_handlers_test ?_) fun z => nomatch z
  have looks : PySem.W.Looks (model X.prog X.w) s.heap (typeOf (.ref a)) cls := fun A Q E t keep q => wpAny_typeOf_ref (keep _ _ he) (by rw [hz.1]; exact q)
  have named : ∀ {Q : Value → Shared → Prop} {E : Value → Shared → Prop}, Q cv s → wpAny (model X.prog X.w) (X.A.mark (some (.ref a))) (eval (.Name x np) X.env) Q E s := by
    intro Q E q
    obtain ⟨hg, hdb, hm | ⟨hm, hv, hn⟩⟩ := hc
    · exact ld_glob (X := X.suite a ((a, oe) :: (X.pn ++ pins))) S hg hm q hdb
    · exact ld_blt (X := X.suite a ((a, oe) :: (X.pn ++ pins))) S hg hm hv q hn hdb
  refine named ((PySem.W.exm_one (M := model X.prog X.w) I.kIn looks hb).here ?_)
  cases b
  · exact no rfl
  · exact yes rfl
/-- a handler's suite, without a name -/
theorem Caught.plain (c : Caught X Wo pins a cls d σ H s) (ok : X.Ok) {b₀ : Stmt} {suite : List Stmt} {pos : Pos} {ts : TS}
    (hsu : ∀ (oe : Obj) (pn : List (Addr × Obj)), Zc cls d oe → (∃ vs, oe.data = .fields vs) → PSs (X.suite a ((a, oe) :: pn)) (b₀ :: suite) ts) (w : ts D σ H) :
    codeAny (model X.prog X.w) (X.A.mark (some (.ref a))) (.handlers (.ref a) [.ExceptHandler none none (b₀ :: suite) pos] X.env) (fun r t => match r with
      | .ok f => SP X pins D f t
      | .error z => cameBackBy (model X.prog X.w) X.A X.env X.xe z t) s := by
  obtain ⟨B, fl, k, _, na, nL, nF⟩ := c
  refine codeAny_handlers_suite (HandSPX.lands_againZ fl fun h fl2 up => ?_)
  obtain ⟨oe, vs, he, hz, hd⟩ := fl2.there
  have S := (k h fl2 up).suite he hd na nL nF
  refine wpAny_mono ((hsu oe (X.pn ++ pins) hz ⟨_, hd⟩).run [] _ _ H _ S w) (fun f t g => ?_) (fun _ _ z => False.elim z)
  cases f
  · obtain ⟨σ', H', S', q⟩ := g
    exact ⟨_, _, S'.unsuite ok, q⟩
  · obtain ⟨σ', H', S', q⟩ := g
    exact ⟨_, _, S'.unsuite ok, q⟩
  · obtain ⟨σ', H', S', q⟩ := g
    exact ⟨_, _, S'.unsuite ok, q⟩
  · obtain ⟨v, σ', H', S', r, q⟩ := g
    exact ⟨_, _, _, S'.unsuite ok, r, q⟩
/-- what ends a suite with a name: the name goes -/
def unE (D : Ends) (i : Nat) : Ends where
  nx := fun σ H => D.nx (σ.set i none) H
  rt := D.rt
  bk := fun σ H => D.bk (σ.set i none) H
  ct := fun σ H => D.ct (σ.set i none) H
theorem Caught.named (c : Caught X Wo pins a cls d σ H s) (ok : X.Ok) {i : Nat} {n : Str} (hN : X.N.Nodup) (hi : X.N[i]? = some n) (hln : X.env.kindOf n = some .local) {b₀ : Stmt} {suite : List Stmt} {pos : Pos} {ts : TS}
    (hsu : ∀ (oe : Obj) (pn : List (Addr × Obj)), Zc cls d oe → (∃ vs, oe.data = .fields vs) → PSs (X.suite a ((a, oe) :: pn)) (b₀ :: suite) ts) (w : ts (unE D i) (σ.set i (some (.ref a))) H) :
    codeAny (model X.prog X.w) (X.A.mark (some (.ref a))) (.handlers (.ref a) [.ExceptHandler none (some n) (b₀ :: suite) pos] X.env) (fun r t => match r with
      | .ok f => wpAny (model X.prog X.w) X.A (do bindName X.env n .none; unbindBehindTheSuite X.env n pos) (fun _ t' => SP X pins D f t') X.xe t
      | .error z => cameBackBy (model X.prog X.w) X.A X.env X.xe z t) s := by
  obtain ⟨B, fl, k, _, na, nL, nF⟩ := c
  refine codeAny_handlers_suite_as (HandSPX.lands_againZ fl fun h fl2 up => ?_)
  obtain ⟨oe, vs, he, hz, hd⟩ := fl2.there
  have S := (k h fl2 up).suite he hd na nL nF
  refine store_ok (X := X.suite a ((a, oe) :: (X.pn ++ pins))) (v := .ref a) S hN hi (.inl hln) rfl (fun t S2 => ?_) (.inr hln)
  refine wpAny_mono ((hsu oe (X.pn ++ pins) hz ⟨_, hd⟩).run [] t _ H _ S2 w) (fun f t2 g => ?_) (fun _ _ z => False.elim z)
  cases f
  · obtain ⟨σ', H', S', q⟩ := g
    exact gone_ok (S'.unsuite ok) hN hi hln fun t3 J => ⟨_, _, J, q⟩
  · obtain ⟨σ', H', S', q⟩ := g
    exact gone_ok (S'.unsuite ok) hN hi hln fun t3 J => ⟨_, _, J, q⟩
  · obtain ⟨σ', H', S', q⟩ := g
    exact gone_ok (S'.unsuite ok) hN hi hln fun t3 J => ⟨_, _, J, q⟩
  · obtain ⟨v, σ', H', S', r, q⟩ := g
    exact gone_ok (S'.unsuite ok) hN hi hln fun t3 J => ⟨_, _, _, J, r, q⟩
def wTwo (K : PySem.W.Frag) (c1 : Value) (i : Nat) (t1 : Addr → Value → Option Addr → TS) (c2 : Value) (t2 : Addr → Value → Option Addr → TS) (Wo : WX) (D : Ends) : WX := fun cls d σ H =>
  ∃ b, PySem.W.exmOne K cls c1 = some b ∧ (b = true → ∀ a, H a = none → t1 a cls d (unE D i) (σ.set i (some (.ref a))) H) ∧
    (b = false → ∃ b', PySem.W.exmOne K cls c2 = some b' ∧ (b' = true → ∀ a, H a = none → t2 a cls d D σ H) ∧ (b' = false → Wo cls d σ H))
/-- try: body; except x1 as n: suite; except x2: suite -/
theorem ps_try_two {x1 x2 n : Str} {c1 c2 : Value} {i : Nat} {body su1 su2 : List Stmt} {b1 b2 : Stmt} {np1 np2 pos p1 p2 : Pos} {tb : WX → TS} {t1 t2 : Addr → Value → Option Addr → TS} {Wo : WX} (hs : X.stack = X.env :: X.outer) (hf : X.env.frame = some X.env.locals)
    (hN : X.N.Nodup) (hi : X.N[i]? = some n) (hln : X.env.kindOf n = some .local) (n1 : Names X x1 c1) (n2 : Names X x2 c2) (tk : Takes X Wo)
    (hb : ∀ (W : WX) (pn : List (Addr × Obj)) (xe : Value → Shared → Prop), Takes (X.tr pn xe) W → PassesOwn (model X.prog X.w) X.A X.env xe → PSs (X.tr pn xe) body (tb W))
    (h1 : ∀ (a : Addr) (oe : Obj) (cls : Value) (d : Option Addr) (pn : List (Addr × Obj)), Zc cls d oe → (∃ vs, oe.data = .fields vs) → PSs (X.suite a ((a, oe) :: pn)) (b1 :: su1) (t1 a cls d))
    (h2 : ∀ (a : Addr) (oe : Obj) (cls : Value) (d : Option Addr) (pn : List (Addr × Obj)), Zc cls d oe → (∃ vs, oe.data = .fields vs) → PSs (X.suite a ((a, oe) :: pn)) (b2 :: su2) (t2 a cls d)) :
    PS X (.Try body [.ExceptHandler (some (.Name x1 np1)) (some n) (b1 :: su1) p1, .ExceptHandler (some (.Name x2 np2)) none (b2 :: su2) p2] [] [] pos) (fun D σ H => tb (wTwo X.K c1 i t1 c2 t2 Wo D) D σ H) := by
  refine ⟨fun pins s σ H D I h => ?_⟩
  have ok := I.ok
  have hfr : X.A.frames = some (X.env :: X.outer) := by rw [ok.frames, hs]
  refine wpAny_Try_except (wpAny_mono ((hb (wTwo X.K c1 i t1 c2 t2 Wo D) (X.pn ++ pins) _ (fun u t xx => ?_) PassesOwn.looking).run [] s σ H D (I.toTry _) h) (fun f t g => ?_) (fun e t he => he))
  · obtain ⟨a, B, sI, pins', σ', H', cls, d, rfl, J', nb, up, sky, na, os, ag, b, hb1, yes, no⟩ := xx
    have J : Inv X pins σ' H' sI := J'.ofTry ok
    have sky' : Sky B (X.env :: X.outer) a (Zc cls d) X.env.locals t.heap := by rw [← hs]; exact sky
    change wpAny (model X.prog X.w) X.A (noteFrame (.ref a) X.env) _ _ _
    refine Sky.land Zc.steady hfr hf sky' fun h3 fl up3 => ?_
    have away : a ∉ frs (X.env :: X.outer) := fun hm => by
      obtain ⟨oe, vs, he, _, hd⟩ := fl.there
      obtain ⟨_, o', e', hnf⟩ := fl.2.2.1.mem hm
      rw [he] at e'
      cases e'
      exact hnf _ hd
    have C : Caught X Wo pins a cls d σ' H' { t with heap := h3 } := by
      refine ⟨B, fl, fun h4 fl4 up4 => J.landed nb fl4.1 ((up.trans up3).trans up4) os ag, fun h4 hh4 up4 w => tk _ _ ?_, na, fun z => away ?_, fun hm => away ?_⟩
      · exact ⟨a, B, sI, pins, σ', H', cls, d, rfl, J, nb, (up.trans up3).trans up4, .inr (.inr (by rw [hs]; exact hh4)), na, os, ag, w⟩
      · exact List.mem_filterMap.mpr ⟨X.env, List.mem_cons_self, by rw [hf, z]⟩
      · obtain ⟨e, he, q⟩ := List.mem_filterMap.mp hm
        exact List.mem_filterMap.mpr ⟨e, List.mem_cons_of_mem _ he, q⟩
    refine C.test n1 hb1 (fun e => C.named ok hN hi hln (fun oe pn => h1 a oe cls d pn) (yes e a na)) (fun e => ?_) (by simp)
    obtain ⟨b', hb2, yes2, no2⟩ := no e
    exact C.test n2 hb2 (fun e => C.plain ok (fun oe pn => h2 a oe cls d pn) (yes2 e a na)) (fun e => C.on hf (no2 e)) (by simp)
  · cases f
    · obtain ⟨σ', H', J', q⟩ := g
      exact wpAny_execs_nil ⟨σ', H', J'.ofTry ok, q⟩
    · obtain ⟨σ', H', J', q⟩ := g
      exact ⟨σ', H', J'.ofTry ok, q⟩
    · obtain ⟨σ', H', J', q⟩ := g
      exact ⟨σ', H', J'.ofTry ok, q⟩
    · obtain ⟨v, σ', H', J', r, q⟩ := g
      exact ⟨v, σ', H', J'.ofTry ok, r, q⟩
end L2

namespace My
open PySem PySem.Spec PyProof.Rows L2
def sp_need_loopsX (K : PySem.W.Frag) (C : Addr) : Sp := fun vs H Q E => ∃ (v : V) (d : Dt), vs = [v] ∧ Rp K H (fun _ => True) v d ∧ (faultOf d = none → ∀ H', Same H H' → Q v H') ∧
  (∀ p, faultOf d = some p → ∀ dd w H', Same H H' → H' dd = some (.xd [("place", w)]) → Dp K H' w (placeD p) → E (.ref C) (some dd) H')
theorem fault_eq (ds : List Dt) : faultOf (.tup ds) = if 6 < ds.length then some [] else match ds.findIdx? badLoop with
    | some k => some [k]
    | none => match ds.findIdx? (fun d => (firstBad d).isSome) with
      | some k => some [k, ((ds[k]?).bind firstBad).getD 0]
      | none => none := rfl
theorem fault0 {ds : List Dt} (h6 : ¬ 6 < ds.length) (h1 : ∀ (j : Nat) (y : Dt), ds[j]? = some y → badLoop y = false) (h2 : ∀ (j : Nat) (y : Dt), ds[j]? = some y → firstBad y = none) : faultOf (.tup ds) = none := by
  rw [fault_eq]
  rw [if_neg h6, fi_none h1]
  simp only
  rw [fi_none fun j y hy => by rw [h2 j y hy]; rfl]
theorem fault1 {ds : List Dt} {i : Nat} {x : Dt} (h6 : ¬ 6 < ds.length) (hx : ds[i]? = some x) (hb : badLoop x = true) (h1 : ∀ (j : Nat) (y : Dt), j < i → ds[j]? = some y → badLoop y = false) : faultOf (.tup ds) = some [i] := by
  rw [fault_eq]
  rw [if_neg h6, fi_some hx hb h1]
theorem fault2 {ds : List Dt} {i j : Nat} {x : Dt} (h6 : ¬ 6 < ds.length) (h1 : ∀ (j : Nat) (y : Dt), ds[j]? = some y → badLoop y = false) (hx : ds[i]? = some x) (hb : firstBad x = some j)
    (h2 : ∀ (j : Nat) (y : Dt), j < i → ds[j]? = some y → firstBad y = none) : faultOf (.tup ds) = some [i, j] := by
  rw [fault_eq]
  rw [if_neg h6, fi_none h1]
  simp only
  rw [fi_some hx (by rw [hb]; rfl) fun j y hj hy => by rw [h2 j y hj hy]; rfl]
  simp only
  rw [hx]
  show some [i, ((firstBad x)).getD 0] = _
  rw [hb]
  rfl
theorem fault6 {ds : List Dt} (h6 : 6 < ds.length) : faultOf (.tup ds) = some [] := by
  rw [fault_eq]
  rw [if_pos h6]
theorem valid_all {K : PySem.W.Frag} {H : Hp} {ok : Addr → Prop} : ∀ {ds : List Dt} {xs : List V}, RpAll K H ok xs ds → (∀ d ∈ ds, badLoop d = false ∧ firstBad d = none) →
    ∃ ls : List (List Int), DpAll K H xs (ls.map dInts) ∧ ls.length = ds.length ∧ (∀ l ∈ ls, 1 ≤ l.length ∧ l.length ≤ 64) ∧ ∀ l ∈ ls, ∀ z ∈ l, z.natAbs < 10 ^ 40
  | [], _, h, _ => by
    cases h
    exact ⟨[], .nil, rfl, (by intro l hl; cases hl), (by intro l hl; cases hl)⟩
  | d :: r, _, h, hb => by
    cases h with
    | cons h1 h2 =>
      obtain ⟨ls, q1, q2, q3, q4⟩ := valid_all h2 fun d hd => hb d (List.mem_cons_of_mem _ hd)
      obtain ⟨b1, b2⟩ := hb d List.mem_cons_self
      cases d with
      | int i => cases b1
      | oth n => cases b1
      | tup es =>
        obtain ⟨a, ys, rfl, hT, hX⟩ := h1.tuple
        obtain ⟨ns, rfl, hz, hl⟩ := nums_of hX b2
        have b1' : (!(decide (1 ≤ es.length) && decide (es.length ≤ 64))) = false := b1
        simp at b1'
        refine ⟨ns :: ls, .cons (Dp.ofInts hT) q1, by simp [q2], ?_, ?_⟩
        · intro l hl'
          rcases List.mem_cons.mp hl' with q | q
          · rw [q, hl]
            exact b1'
          · exact q3 l q
        · intro l hl'
          rcases List.mem_cons.mp hl' with q | q
          · rw [q]
            exact hz
          · exact q4 l q
theorem fault_none {ds : List Dt} (h : faultOf (.tup ds) = none) : ds.length ≤ 6 ∧ ∀ d ∈ ds, badLoop d = false ∧ firstBad d = none := by
  rw [fault_eq] at h
  by_cases h6 : 6 < ds.length
  · rw [if_pos h6] at h
    cases h
  rw [if_neg h6] at h
  cases e1 : ds.findIdx? badLoop with
  | some k =>
    rw [e1] at h
    cases h
  | none =>
    rw [e1] at h
    simp only at h
    cases e2 : ds.findIdx? (fun d => (firstBad d).isSome) with
    | some k =>
      rw [e2] at h
      cases h
    | none =>
      refine ⟨by omega, fun d hd => ⟨?_, ?_⟩⟩
      · have := List.findIdx?_eq_none_iff.mp e1 d hd
        simpa using this
      · have := List.findIdx?_eq_none_iff.mp e2 d hd
        simpa using this
theorem valid_dp {K : PySem.W.Frag} {H : Hp} {ok : Addr → Prop} {v : V} {d : Dt} (h : Rp K H ok v d) (e : faultOf d = none) :
    ∃ ls, Dp K H v (dLoops ls) ∧ OkL ls ∧ ∀ l ∈ ls, ∀ z ∈ l, z.natAbs < 10 ^ 40 := by
  cases d with
  | int i => cases e
  | oth n => cases e
  | tup ds =>
    obtain ⟨a, xs, rfl, hT, hX⟩ := h.tuple
    obtain ⟨h6, hb⟩ := fault_none e
    obtain ⟨ls, q1, q2, q3, q4⟩ := valid_all hX hb
    exact ⟨ls, .tup hT q1, ⟨by omega, q3⟩, q4⟩
def mok : Dt → Bool
  | .int i => decide (0 ≤ i) && decide (i ≤ 1000)
  | _ => false
def sp_need_manyX (K : PySem.W.Frag) (C : Addr) : Sp := fun vs H Q E => ∃ (oka : Addr → Prop) (x : V) (d : Dt), vs = [x] ∧ Rp K H oka x d ∧ (mok d = true → Q .non H) ∧ (mok d = false → ∀ H', Same H H' → E (.ref C) none H')
def tok : Dt → Bool
  | .int i => decide (0 ≤ i) && decide (i ≤ 10 ^ 30)
  | _ => false
def sp_is_tickR (K : PySem.W.Frag) : Sp := fun vs H Q _ => ∃ (oka : Addr → Prop) (x : V) (d : Dt), vs = [x] ∧ Rp K H oka x d ∧ Q (.bl (tok d)) H
def sp_need_tickX (K : PySem.W.Frag) (C : Addr) : Sp := fun vs H Q E => ∃ (oka : Addr → Prop) (x : V) (d : Dt), vs = [x] ∧ Rp K H oka x d ∧ (tok d = true → Q .non H) ∧ (tok d = false → ∀ H', Same H H' → E (.ref C) none H')
def KL (K : PySem.W.Frag) (C : Addr) (H : Hp) (E : XK) (d : Dt) : Prop := ∀ p, faultOf d = some p → ∀ dd w H', Same H H' → H' dd = some (.xd [("place", w)]) → Dp K H' w (placeD p) → E (.ref C) (some dd) H'
def sp_lengths_ofX (K : PySem.W.Frag) (C B : Addr) : Sp := fun vs H Q E => ∃ (v : V) (d : Dt), vs = [v] ∧ Rp K H (fun _ => True) v d ∧ KL K C H E d ∧ (faultOf d = none → ∀ u H', Same H H' → Q u H')
def sp_heardX (K : PySem.W.Frag) (C B : Addr) : Sp := fun vs H Q E => ∃ (v x : V) (d e : Dt), vs = [v, x] ∧ Rp K H (fun _ => True) v d ∧ Rp K H (fun _ => True) x e ∧ KL K C H E d ∧ (faultOf d = none → tok e = false → ∀ H', Same H H' → E (.ref B) none H') ∧ (faultOf d = none → tok e = true → ∀ u H', Same H H' → Q u H')
def sp_heard_rowX (K : PySem.W.Frag) (C B : Addr) : Sp := fun vs H Q E => ∃ (v x y : V) (d e f : Dt), vs = [v, x, y] ∧ Rp K H (fun _ => True) v d ∧ Rp K H (fun _ => True) x e ∧ Rp K H (fun _ => True) y f ∧ KL K C H E d ∧ (faultOf d = none → (tok e && mok f) = false → ∀ H', Same H H' → E (.ref B) none H') ∧ (faultOf d = none → (tok e && mok f) = true → ∀ u H', Same H H' → Q u H')
def sp_first_apartX (K : PySem.W.Frag) (C B : Addr) : Sp := fun vs H Q E => ∃ (v w : V) (d e : Dt), vs = [v, w] ∧ Rp K H (fun _ => True) v d ∧ Rp K H (fun _ => True) w e ∧ KL K C H E d ∧ (faultOf d = none → KL K C H E e) ∧ (faultOf d = none → faultOf e = none → ∀ u H', Same H H' → Q u H')
/-- what a call is refused by -/
def outP (p : List Nat) : PyData := .tuple [.str "loops", placeD p]
def plcW : PyData := .str "place"
def want (way : Int) (d e f : Dt) : PyData := match faultOf d with
  | some p => outP p
  | none => if way = 0 ∨ way = 2 then (if tok e then .none else plcW) else if way = 1 then (if tok e && mok f then .none else plcW) else if way = 4 then (match faultOf e with | some p => outP p | none => .none) else .none
def sp__law_outcome (K : PySem.W.Frag) : Sp := fun vs H Q _ => ∃ (way : Int) (v x y : V) (d e f : Dt), vs = [.int way, v, x, y] ∧ Rp K H (fun _ => True) v d ∧ Rp K H (fun _ => True) x e ∧ Rp K H (fun _ => True) y f ∧ 0 ≤ way ∧ way < 7 ∧ ∀ w H', Same H H' → Dp K H' w (want way d e f) → Q w H'
theorem tok_int {K : PySem.W.Frag} {H : Hp} {ok : Addr → Prop} {x : V} {e : Dt} (h : Rp K H ok x e) (g : tok e = true) : ∃ i : Int, x = .int i ∧ 0 ≤ i ∧ i ≤ 10 ^ 30 := by
  cases e with
  | oth s => cases g
  | tup ds => cases g
  | int i =>
    cases h
    have g' : (decide (0 ≤ i) && decide (i ≤ 10 ^ 30)) = true := g
    rw [Bool.and_eq_true] at g'
    exact ⟨i, rfl, of_decide_eq_true g'.1, of_decide_eq_true g'.2⟩
theorem mok_int {K : PySem.W.Frag} {H : Hp} {ok : Addr → Prop} {x : V} {e : Dt} (h : Rp K H ok x e) (g : mok e = true) : ∃ i : Int, x = .int i ∧ 0 ≤ i ∧ i ≤ 1000 := by
  cases e with
  | oth s => cases g
  | tup ds => cases g
  | int i =>
    cases h
    have g' : (decide (0 ≤ i) && decide (i ≤ 1000)) = true := g
    rw [Bool.and_eq_true] at g'
    exact ⟨i, rfl, of_decide_eq_true g'.1, of_decide_eq_true g'.2⟩
theorem exm_apart {K : PySem.W.Frag} {B C : Addr} (h1 : PySem.W.subIn K (.ref C) (.type "BaseException") = some true) (h2 : PySem.W.isClsIn K C = true)
    (h3 : PySem.W.typeIn K (.ref C) = some (.type "type")) (h4 : PySem.W.subIn K (.ref B) (.ref C) = some false) : PySem.W.exmOne K (.ref B) (.ref C) = some false := by
  have h2' : (PySem.W.clsIn K C).isSome = true := h2
  simp [PySem.W.exmOne, PySem.W.kitCls, h1, h2', h3, h4]
theorem want_L {way : Int} {d e f : Dt} {p : List Nat} (g : faultOf d = some p) : want way d e f = outP p := by
  unfold want
  rw [g]
theorem want_0 {way : Int} {d e f : Dt} (g : faultOf d = none) (w : way = 0 ∨ way = 2) : want way d e f = if tok e then .none else plcW := by
  unfold want
  rw [g]
  simp only
  rw [if_pos w]
theorem want_1 {d e f : Dt} (g : faultOf d = none) : want 1 d e f = if tok e && mok f then .none else plcW := by
  unfold want
  rw [g]
  rfl
theorem want_4 {d e f : Dt} (g : faultOf d = none) : want 4 d e f = match faultOf e with | some p => outP p | none => .none := by
  unfold want
  rw [g]
  rfl
theorem want_n {way : Int} {d e f : Dt} (g : faultOf d = none) (w : way = 3 ∨ way = 5 ∨ way = 6) : want way d e f = .none := by
  unfold want
  rw [g]
  rcases w with w | w | w <;> rw [w] <;> rfl
def topS (i : Nat) : Stmt := PySem.Challenge.pw_pedalrounds_k05_loops_refused.main.body.getD i (.Pass ⟨0, 0, 0, 0⟩)
abbrev s_is_whole : Stmt := topS 4
abbrev s_is_tick : Stmt := topS 5
abbrev s_need_tick : Stmt := topS 6
abbrev s_need_many : Stmt := topS 7
abbrev s_need_loops : Stmt := topS 11
abbrev s_lengths_of : Stmt := topS 12
abbrev s_heard : Stmt := topS 13
abbrev s_heard_row : Stmt := topS 14
abbrev s_later : Stmt := topS 15
abbrev s_sum_at : Stmt := topS 16
abbrev s_begun_at : Stmt := topS 17
abbrev s_common_divisor : Stmt := topS 19
abbrev s_common_multiple : Stmt := topS 20
abbrev s_first_apart : Stmt := topS 22
abbrev s_period : Stmt := topS 23
abbrev s_silent : Stmt := topS 24
abbrev s_parted_at : Stmt := topS 25
abbrev s_leads_round : Stmt := topS 26
abbrev s__law_begun : Stmt := topS 28
abbrev s__law_next : Stmt := topS 29
abbrev s__law_number : Stmt := topS 30
abbrev s__law_lengths : Stmt := topS 31
abbrev s__law_loops_of : Stmt := topS 32
abbrev s__law_outcome : Stmt := topS 33
abbrev s_law : Stmt := topS 34
theorem sc_is_whole : FnScope ["thing"] ["thing"] (defScope s_is_whole) := ⟨rfl, rfl, rfl, by decide +kernel, rfl, by decide +kernel, by decide +kernel⟩
theorem sc_is_tick : FnScope ["thing"] ["thing"] (defScope s_is_tick) := ⟨rfl, rfl, rfl, by decide +kernel, rfl, by decide +kernel, by decide +kernel⟩
theorem sc_need_tick : FnScope ["thing"] ["thing"] (defScope s_need_tick) := ⟨rfl, rfl, rfl, by decide +kernel, rfl, by decide +kernel, by decide +kernel⟩
theorem sc_need_many : FnScope ["thing"] ["thing"] (defScope s_need_many) := ⟨rfl, rfl, rfl, by decide +kernel, rfl, by decide +kernel, by decide +kernel⟩
theorem sc_need_loops : FnScope ["thing", "at", "loop", "index", "sounded"] ["thing"] (defScope s_need_loops) := ⟨rfl, rfl, rfl, by decide +kernel, rfl, by decide +kernel, by decide +kernel⟩
theorem sc_lengths_of : FnScope ["loops", "loop"] ["loops"] (defScope s_lengths_of) := ⟨rfl, rfl, rfl, by decide +kernel, rfl, by decide +kernel, by decide +kernel⟩
theorem sc_heard : FnScope ["loops", "tick"] ["loops", "tick"] (defScope s_heard) := ⟨rfl, rfl, rfl, by decide +kernel, rfl, by decide +kernel, by decide +kernel⟩
theorem sc_heard_row : FnScope ["loops", "tick", "many", "step"] ["loops", "tick", "many"] (defScope s_heard_row) := ⟨rfl, rfl, rfl, by decide +kernel, rfl, by decide +kernel, by decide +kernel⟩
theorem sc_later : FnScope ["loops", "ticks", "loop"] ["loops", "ticks"] (defScope s_later) := ⟨rfl, rfl, rfl, by decide +kernel, rfl, by decide +kernel, by decide +kernel⟩
theorem sc_sum_at : FnScope ["loops", "tick", "loop"] ["loops", "tick"] (defScope s_sum_at) := ⟨rfl, rfl, rfl, by decide +kernel, rfl, by decide +kernel, by decide +kernel⟩
theorem sc_begun_at : FnScope ["loop", "index"] ["loop", "index"] (defScope s_begun_at) := ⟨rfl, rfl, rfl, by decide +kernel, rfl, by decide +kernel, by decide +kernel⟩
theorem sc_common_divisor : FnScope ["one", "other"] ["one", "other"] (defScope s_common_divisor) := ⟨rfl, rfl, rfl, by decide +kernel, rfl, by decide +kernel, by decide +kernel⟩
theorem sc_common_multiple : FnScope ["lengths", "common", "length"] ["lengths"] (defScope s_common_multiple) := ⟨rfl, rfl, rfl, by decide +kernel, rfl, by decide +kernel, by decide +kernel⟩
theorem sc_first_apart : FnScope ["one", "other"] ["one", "other"] (defScope s_first_apart) := ⟨rfl, rfl, rfl, by decide +kernel, rfl, by decide +kernel, by decide +kernel⟩
theorem sc_period : FnScope ["loops", "ticks", "divisor", "loop"] ["loops"] (defScope s_period) := ⟨rfl, rfl, rfl, by decide +kernel, rfl, by decide +kernel, by decide +kernel⟩
theorem sc_silent : FnScope ["loops"] ["loops"] (defScope s_silent) := ⟨rfl, rfl, rfl, by decide +kernel, rfl, by decide +kernel, by decide +kernel⟩
theorem sc_parted_at : FnScope ["one", "other", "tick", "loop"] ["one", "other"] (defScope s_parted_at) := ⟨rfl, rfl, rfl, by decide +kernel, rfl, by decide +kernel, by decide +kernel⟩
theorem sc_leads_round : FnScope ["loops", "ticks", "moved", "loop"] ["loops", "ticks"] (defScope s_leads_round) := ⟨rfl, rfl, rfl, by decide +kernel, rfl, by decide +kernel, by decide +kernel⟩
theorem sc__law_begun : FnScope ["script", "cell"] ["script"] (defScope s__law_begun) := ⟨rfl, rfl, rfl, by decide +kernel, rfl, by decide +kernel, by decide +kernel⟩
theorem sc__law_next : FnScope ["m", "many", "rest", "k", "cell", "mixed"] ["m", "many"] (defScope s__law_next) := ⟨rfl, rfl, rfl, by decide +kernel, rfl, by decide +kernel, by decide +kernel⟩
theorem sc__law_number : FnScope ["m", "way"] ["m"] (defScope s__law_number) := ⟨rfl, rfl, rfl, by decide +kernel, rfl, by decide +kernel, by decide +kernel⟩
theorem sc__law_lengths : FnScope ["m", "many", "most", "k"] ["m", "many", "most"] (defScope s__law_lengths) := ⟨rfl, rfl, rfl, by decide +kernel, rfl, by decide +kernel, by decide +kernel⟩
theorem sc__law_loops_of : FnScope ["m", "lengths", "found", "length", "k"] ["m", "lengths"] (defScope s__law_loops_of) := ⟨rfl, rfl, rfl, by decide +kernel, rfl, by decide +kernel, by decide +kernel⟩
theorem sc__law_outcome : FnScope ["way", "loops", "x", "y", "found", "e"] ["way", "loops", "x", "y"] (defScope s__law_outcome) := ⟨rfl, rfl, rfl, by decide +kernel, rfl, by decide +kernel, by decide +kernel⟩
theorem sc_law : FnScope ["script", "m", "turn", "loops", "at", "some", "thing", "due", "way"] ["script"] (defScope s_law) := ⟨rfl, rfl, rfl, by decide +kernel, rfl, by decide +kernel, by decide +kernel⟩
abbrev s_BadLoops_init : Stmt := inClass (topS 1) 0
theorem sc_BadLoops_init : FnScope ["self", "place"] ["self", "place"] (defScope s_BadLoops_init) := ⟨rfl, rfl, rfl, by decide +kernel, rfl, by decide +kernel, by decide +kernel⟩
abbrev s_OutOfPlace_init : Stmt := inClass (topS 2) 0
theorem sc_OutOfPlace_init : FnScope ["self", "text"] ["self", "text"] (defScope s_OutOfPlace_init) := ⟨rfl, rfl, rfl, by decide +kernel, rfl, by decide +kernel, by decide +kernel⟩
structure Top (K : PySem.W.Frag) (mg : Str → Option Value) where
  a_is_whole : Addr
  d_is_whole : FuncData
  F_is_whole : Fun K "is_whole" "is_whole" s_is_whole a_is_whole d_is_whole
  m_is_whole : mg "is_whole" = some (.ref a_is_whole)
  b_is_whole : Binds K d_is_whole ["thing"] []
  a_is_tick : Addr
  d_is_tick : FuncData
  F_is_tick : Fun K "is_tick" "is_tick" s_is_tick a_is_tick d_is_tick
  m_is_tick : mg "is_tick" = some (.ref a_is_tick)
  b_is_tick : Binds K d_is_tick ["thing"] []
  a_need_tick : Addr
  d_need_tick : FuncData
  F_need_tick : Fun K "need_tick" "need_tick" s_need_tick a_need_tick d_need_tick
  m_need_tick : mg "need_tick" = some (.ref a_need_tick)
  b_need_tick : Binds K d_need_tick ["thing"] []
  a_need_many : Addr
  d_need_many : FuncData
  F_need_many : Fun K "need_many" "need_many" s_need_many a_need_many d_need_many
  m_need_many : mg "need_many" = some (.ref a_need_many)
  b_need_many : Binds K d_need_many ["thing"] []
  a_need_loops : Addr
  d_need_loops : FuncData
  F_need_loops : Fun K "need_loops" "need_loops" s_need_loops a_need_loops d_need_loops
  m_need_loops : mg "need_loops" = some (.ref a_need_loops)
  b_need_loops : Binds K d_need_loops ["thing"] []
  a_lengths_of : Addr
  d_lengths_of : FuncData
  F_lengths_of : Fun K "lengths_of" "lengths_of" s_lengths_of a_lengths_of d_lengths_of
  m_lengths_of : mg "lengths_of" = some (.ref a_lengths_of)
  b_lengths_of : Binds K d_lengths_of ["loops"] []
  a_heard : Addr
  d_heard : FuncData
  F_heard : Fun K "heard" "heard" s_heard a_heard d_heard
  m_heard : mg "heard" = some (.ref a_heard)
  b_heard : Binds K d_heard ["loops", "tick"] []
  a_heard_row : Addr
  d_heard_row : FuncData
  F_heard_row : Fun K "heard_row" "heard_row" s_heard_row a_heard_row d_heard_row
  m_heard_row : mg "heard_row" = some (.ref a_heard_row)
  b_heard_row : Binds K d_heard_row ["loops", "tick", "many"] []
  a_later : Addr
  d_later : FuncData
  F_later : Fun K "later" "later" s_later a_later d_later
  m_later : mg "later" = some (.ref a_later)
  b_later : Binds K d_later ["loops", "ticks"] []
  a_sum_at : Addr
  d_sum_at : FuncData
  F_sum_at : Fun K "sum_at" "sum_at" s_sum_at a_sum_at d_sum_at
  m_sum_at : mg "sum_at" = some (.ref a_sum_at)
  b_sum_at : Binds K d_sum_at ["loops", "tick"] []
  a_begun_at : Addr
  d_begun_at : FuncData
  F_begun_at : Fun K "begun_at" "begun_at" s_begun_at a_begun_at d_begun_at
  m_begun_at : mg "begun_at" = some (.ref a_begun_at)
  b_begun_at : Binds K d_begun_at ["loop", "index"] []
  a_common_divisor : Addr
  d_common_divisor : FuncData
  F_common_divisor : Fun K "common_divisor" "common_divisor" s_common_divisor a_common_divisor d_common_divisor
  m_common_divisor : mg "common_divisor" = some (.ref a_common_divisor)
  b_common_divisor : Binds K d_common_divisor ["one", "other"] []
  a_common_multiple : Addr
  d_common_multiple : FuncData
  F_common_multiple : Fun K "common_multiple" "common_multiple" s_common_multiple a_common_multiple d_common_multiple
  m_common_multiple : mg "common_multiple" = some (.ref a_common_multiple)
  b_common_multiple : Binds K d_common_multiple ["lengths"] []
  a_first_apart : Addr
  d_first_apart : FuncData
  F_first_apart : Fun K "first_apart" "first_apart" s_first_apart a_first_apart d_first_apart
  m_first_apart : mg "first_apart" = some (.ref a_first_apart)
  b_first_apart : Binds K d_first_apart ["one", "other"] []
  a_period : Addr
  d_period : FuncData
  F_period : Fun K "period" "period" s_period a_period d_period
  m_period : mg "period" = some (.ref a_period)
  b_period : Binds K d_period ["loops"] []
  a_silent : Addr
  d_silent : FuncData
  F_silent : Fun K "silent" "silent" s_silent a_silent d_silent
  m_silent : mg "silent" = some (.ref a_silent)
  b_silent : Binds K d_silent ["loops"] []
  a_parted_at : Addr
  d_parted_at : FuncData
  F_parted_at : Fun K "parted_at" "parted_at" s_parted_at a_parted_at d_parted_at
  m_parted_at : mg "parted_at" = some (.ref a_parted_at)
  b_parted_at : Binds K d_parted_at ["one", "other"] []
  a_leads_round : Addr
  d_leads_round : FuncData
  F_leads_round : Fun K "leads_round" "leads_round" s_leads_round a_leads_round d_leads_round
  m_leads_round : mg "leads_round" = some (.ref a_leads_round)
  b_leads_round : Binds K d_leads_round ["loops", "ticks"] []
  a__law_begun : Addr
  d__law_begun : FuncData
  F__law_begun : Fun K "_law_begun" "_law_begun" s__law_begun a__law_begun d__law_begun
  m__law_begun : mg "_law_begun" = some (.ref a__law_begun)
  b__law_begun : Binds K d__law_begun ["script"] []
  a__law_next : Addr
  d__law_next : FuncData
  F__law_next : Fun K "_law_next" "_law_next" s__law_next a__law_next d__law_next
  m__law_next : mg "_law_next" = some (.ref a__law_next)
  b__law_next : Binds K d__law_next ["m", "many"] []
  a__law_number : Addr
  d__law_number : FuncData
  F__law_number : Fun K "_law_number" "_law_number" s__law_number a__law_number d__law_number
  m__law_number : mg "_law_number" = some (.ref a__law_number)
  b__law_number : Binds K d__law_number ["m"] []
  a__law_lengths : Addr
  d__law_lengths : FuncData
  F__law_lengths : Fun K "_law_lengths" "_law_lengths" s__law_lengths a__law_lengths d__law_lengths
  m__law_lengths : mg "_law_lengths" = some (.ref a__law_lengths)
  b__law_lengths : Binds K d__law_lengths ["m", "many", "most"] []
  a__law_loops_of : Addr
  d__law_loops_of : FuncData
  F__law_loops_of : Fun K "_law_loops_of" "_law_loops_of" s__law_loops_of a__law_loops_of d__law_loops_of
  m__law_loops_of : mg "_law_loops_of" = some (.ref a__law_loops_of)
  b__law_loops_of : Binds K d__law_loops_of ["m", "lengths"] []
  a__law_outcome : Addr
  d__law_outcome : FuncData
  F__law_outcome : Fun K "_law_outcome" "_law_outcome" s__law_outcome a__law_outcome d__law_outcome
  m__law_outcome : mg "_law_outcome" = some (.ref a__law_outcome)
  b__law_outcome : Binds K d__law_outcome ["way", "loops", "x", "y"] []
  a_law : Addr
  d_law : FuncData
  F_law : Fun K "law" "law" s_law a_law d_law
  m_law : mg "law" = some (.ref a_law)
  b_law : Binds K d_law ["script"] []
  x_BadLoops : ExcT K mg "BadLoops" "BadLoops.__init__" "place" s_BadLoops_init
  x_OutOfPlace : ExcT K mg "OutOfPlace" "OutOfPlace.__init__" "text" s_OutOfPlace_init
  y_OutOfPlace_BadLoops : PySem.W.exmOne K (.ref x_OutOfPlace.C) (.ref x_BadLoops.C) = some false
  z_ValueError : mg "ValueError" = none
  v_ValueError : PySem.W.findCls K (.type "ValueError") (.type "type") "__init__" = some (.val (.builtin "ValueError.__init__"))
  z_isinstance : mg "isinstance" = none
  z_int : mg "int" = none
  z_bool : mg "bool" = none
  z_enumerate : mg "enumerate" = none
  z_tuple : mg "tuple" = none
  z_len : mg "len" = none
  z_range : mg "range" = none
  z_sum : mg "sum" = none
  z_list : mg "list" = none
  z_min : mg "min" = none
  t_MOST_LOOPS : Tok
  c_MOST_LOOPS : mg "MOST_LOOPS" = some (.int 6 t_MOST_LOOPS)
  t_MOST_THINGS : Tok
  c_MOST_THINGS : mg "MOST_THINGS" = some (.int 64 t_MOST_THINGS)
end My

namespace My
open PySem PySem.Spec PyProof.Rows L2
section
variable {P : Program} {w : World} {K : PySem.W.Frag} {mg : Str → Option Value} {base : Heap}
theorem ok_BadLoops_init (T : Top K mg) : FnOk P w K mg base CX0 1 T.x_BadLoops.f T.x_BadLoops.d ["self", "place"] (sp_exc T.x_BadLoops.C "place") := by
  refine T.x_BadLoops.F.ok sc_BadLoops_init (fun vs H Q E h => ?_) (fun cdv A outer s H vs Q E hr h => ?_)
  · obtain ⟨a, w, rfl, _⟩ := h
    rfl
  obtain ⟨a, w, rfl, ha, k⟩ := h
  refine ⟨_, pss_cons (ps_expr (pe_veinit (by rfl) T.z_ValueError T.v_ValueError (pa_cons (pv 0) (pa_cons (pv 1) pa_nil)))) (pss_one (ps_ost (pv 0) (pv 1))), ?_⟩
  refine ⟨_, rfl, _, rfl, a, T.x_BadLoops.C, [w], rfl, (by show 1 ≤ 1000; decide), T.x_BadLoops.ox, ha, ?_⟩
  exact ⟨_, rfl, _, rfl, a, T.x_BadLoops.C, rfl, T.x_BadLoops.ox, T.x_BadLoops.nf, .inl ⟨ha, fun dx h1 h2 => k dx h1 h2⟩⟩
end
section
variable {P : Program} {w : World} {K : PySem.W.Frag} {mg : Str → Option Value} {base : Heap}
theorem ok_OutOfPlace_init (T : Top K mg) : FnOk P w K mg base CX0 1 T.x_OutOfPlace.f T.x_OutOfPlace.d ["self", "text"] (sp_excN T.x_OutOfPlace.C) := by
  refine T.x_OutOfPlace.F.ok sc_OutOfPlace_init (fun vs H Q E h => ?_) (fun cdv A outer s H vs Q E hr h => ?_)
  · obtain ⟨a, w, rfl, _⟩ := h
    rfl
  obtain ⟨a, w, rfl, ha, k⟩ := h
  refine ⟨_, pss_one (ps_expr (pe_veinit (by rfl) T.z_ValueError T.v_ValueError (pa_cons (pv 0) (pa_cons (pv 1) pa_nil)))), ?_⟩
  exact ⟨_, rfl, _, rfl, a, T.x_OutOfPlace.C, [w], rfl, (by show 1 ≤ 1000; decide), T.x_OutOfPlace.ox, ha, k⟩
end
section
variable {P : Program} {w : World} {K : PySem.W.Frag} {mg : Str → Option Value} {base : Heap}
theorem ok_is_whole (T : Top K mg) : FnOk P w K mg base CX0 1 T.a_is_whole T.d_is_whole ["thing"] (sp_is_whole K) := by
  refine T.F_is_whole.ok sc_is_whole (fun vs H Q E h => ?_) (fun cdv A outer s H vs Q E hr h => ?_)
  · obtain ⟨x, t, b1, b2, rfl, hx, h1, h2, k⟩ := h
    rfl
  obtain ⟨x, t, b1, b2, rfl, hx, h1, h2, k⟩ := h
  refine ⟨_, (pss_one (ps_ret (pe_and (pe_callB (k_isi (K := K)) (by rfl) T.z_isinstance bt_isinstance (pa_cons (pv 0) (pa_cons (pe_bltn (v := .ty "int") (by rfl) T.z_int bt_int rfl) pa_nil))) (pe_one (pe_not (pe_callB (k_isi (K := K)) (by rfl) T.z_isinstance bt_isinstance (pa_cons (pv 0) (pa_cons (pe_bltn (v := .ty "bool") (by rfl) T.z_bool bt_bool rfl) pa_nil)))))))), ?_⟩
  refine ⟨_, rfl, x, _, t, _, b1, rfl, ClsV.ty _, hx, h1, b1, rfl, ?_⟩
  cases b1 with
  | false => exact iteF k
  | true =>
    refine iteT ?_
    exact ⟨_, rfl, x, _, t, _, b2, rfl, ClsV.ty _, hx, h2, b2, rfl, k⟩
end
section
variable {P : Program} {w : World} {K : PySem.W.Frag} {mg : Str → Option Value} {base : Heap}
theorem ok_sum_at (T : Top K mg) : FnOk P w K mg base CX0 1 T.a_sum_at T.d_sum_at ["loops", "tick"] (sp_sum_at K) := by
  refine T.F_sum_at.ok sc_sum_at (fun vs H Q E h => ?_) (fun cdv A outer s H vs Q E hr h => ?_)
  · obtain ⟨v, ls, t, rfl, hv, ok, k⟩ := h
    rfl
  obtain ⟨v, ls, t, rfl, hv, ok, k⟩ := h
  refine ⟨_, (pss_one (ps_ret (pe_callB (k_sum (K := K) rfl) (by rfl) T.z_sum bt_sum (pa_cons (pe_lc (own := [("loop", 2)]) rfl sc_sum_at.nd (k_piT (K := K) (pv 0)) (blkOk_by (own := [("loop", 2)]) (N := ["loops", "tick", "loop"]) (sc := defScope s_sum_at) (by decide +kernel)) (fun _ _ _ _ _ => (pg_name (i := 2) sc_sum_at.nd rfl (Or.inl rfl))) (fun _ _ _ _ _ => pts_nil) (fun _ _ _ _ _ => (pe_ix (k_ixT (K := K)) (pv 2) (pe_op op_modN (pv 1) (pe_callB (k_len (K := K)) (by rfl) T.z_len bt_len (pa_cons (pv 2) pa_nil))) (fun _ _ => rfl)))) pa_nil)))), ?_⟩
  obtain ⟨ok1, ok2⟩ := ok
  obtain ⟨a, xs, rfl, hT, hX⟩ := hv.tuple
  have hlen := hX.len
  rw [List.length_map] at hlen
  refine ⟨_, rfl, a, rfl, ⟨_, hT⟩, fun D hD => ?_⟩
  refine lc_it walk_tup (fun i H' => H' D = some (.lst (((ls.take i).map fun l => hAt l t).map V.int)) ∧ Same H H') ⟨upd_same, same_upd hD _⟩ (fun i H' _ p => Same.tk p.2 _ _ hT) ?_ ?_
  · rintro i x H1 H2 hi ⟨hA, s1⟩ ⟨rfl, hx⟩
    obtain ⟨l, b, hl, rfl, hB⟩ := loops_get hX hx
    obtain ⟨k1, k2⟩ := ok2 l (List.mem_of_getElem? hl)
    have hB1 := Same.tk s1 _ _ hB
    refine ⟨rfl, ?_⟩
    refine ⟨_, rfl, _, rfl, _, rfl, b, _, rfl, .inr hB1, _, _, rfl, rfl, by rw [List.length_map]; omega, b, _, _, _, rfl, rfl, hB1, hAt_ix t k1, ?_⟩
    refine ⟨_, hA, by rw [List.length_map, List.length_map, List.length_take]; exact small1000 (by omega), ?_, ?_⟩
    · rw [upd_same, take_more hl]
      simp
    · exact fun b' o q => by
        rw [upd_ne (ne_of_none q hD)]
        exact s1 _ _ q
  · rintro H1 ⟨hA, s1⟩
    rw [hlen, List.take_length] at hA
    exact ⟨D, _, rfl, SqL.of hA, k H1 s1⟩
end
section
variable {P : Program} {w : World} {K : PySem.W.Frag} {mg : Str → Option Value} {base : Heap}
theorem ok_begun_at (T : Top K mg) : FnOk P w K mg base CX0 1 T.a_begun_at T.d_begun_at ["loop", "index"] (sp_begun_at K) := by
  refine T.F_begun_at.ok sc_begun_at (fun vs H Q E h => ?_) (fun cdv A outer s H vs Q E hr h => ?_)
  · obtain ⟨v, l, i, rfl, hv, h0, h1, h2, k⟩ := h
    rfl
  obtain ⟨v, l, i, rfl, hv, h0, h1, h2, k⟩ := h
  refine ⟨_, (pss_one (ps_ret (pe_op (k_catT (K := K)) (pe_slice (k_slT (K := K)) (pv 0) (po_some (pv 1)) po_none) (pe_slice (k_slT (K := K)) (pv 0) po_none (po_some (pv 1)))))), ?_⟩
  refine ⟨_, rfl, _, rfl, i, rfl, ?_⟩
  dsimp only [tNoPart]
  refine rd_cut hv fun w1 H1 s1 hw1 => ?_
  refine ⟨_, rfl, _, rfl, i, rfl, rd_cut (hv.same_at s1) fun w2 H2 s2 hw2 => ?_⟩
  rw [cutD_from PyData.int l h0 (by omega)] at hw1
  rw [cutD_to PyData.int l h0] at hw2
  refine rd_cat (hw1.same_at s2) hw2 ?_ fun w3 H3 s3 hw3 => ?_
  · rw [List.length_map, List.length_map, List.length_drop, List.length_take]
    exact Nat.le_of_lt (small1000 (by omega))
  · rw [← List.map_append] at hw3
    exact k w3 H3 (s1.trans (s2.trans s3)) hw3
end
section
variable {P : Program} {w : World} {K : PySem.W.Frag} {mg : Str → Option Value} {base : Heap}
theorem ok_common_divisor (T : Top K mg) : FnOk P w K mg base CX0 1 T.a_common_divisor T.d_common_divisor ["one", "other"] (sp_common_divisor K) := by
  refine T.F_common_divisor.ok sc_common_divisor (fun vs H Q E h => ?_) (fun cdv A outer s H vs Q E hr h => ?_)
  · obtain ⟨x, y, rfl, k⟩ := h
    rfl
  obtain ⟨x, y, rfl, k⟩ := h
  refine ⟨_, (Evl.pss_cut (ps_while PassesOwn.never (pt_cmpR op_ne (pv 1) pe_int (nomark _)) (pss_one (ps_par (i := 0) (j := 1) (by rfl) sc_common_divisor.nd rfl rfl (by decide) rfl rfl (pa_cons (pv 1) (pa_cons (pe_op op_modN (pv 0) (pv 1)) pa_nil)) (by rfl))))
      (pss_one (ps_ret (pv 0)))), ?_⟩
  refine ⟨fun σ H' => σ = [some (.int (Nat.gcd x y : Nat)), some (.int 0)] ∧ H' = H, ?_, ?_⟩
  · refine ⟨fun j σ H' => ∃ u : Nat, σ = [some (.int u), some (.int j)] ∧ Nat.gcd u j = Nat.gcd x y ∧ H' = H, ⟨y, x, rfl, rfl, rfl⟩, ?_⟩
    rintro j σ H1 ⟨u, rfl, e, rfl⟩
    refine ⟨_, rfl, rfl, _, rfl, ?_⟩
    rcases Nat.eq_zero_or_pos j with rfl | jp
    · refine ite2 (fun cc => absurd cc (by simp)) (fun _ => ?_)
      rw [Nat.gcd_zero_right] at e
      exact ⟨by rw [← e]; rfl, rfl⟩
    refine ite2 (fun _ => ?_) (fun cc => absurd (by simp; omega) cc)
    refine ⟨fun σ' H' => ∃ j' u' : Nat, j' < j ∧ σ' = [some (.int u'), some (.int j')] ∧ Nat.gcd u' j' = Nat.gcd x y ∧ H' = H1, ?_, ?_⟩
    · rintro σ' H' ⟨j', u', a1, a2, a3⟩
      exact ⟨j', a1, u', a2, a3⟩
    refine ⟨_, rfl, _, rfl, _, rfl, _, _, rfl, rfl, by omega, _, _, rfl, ?_⟩
    refine ⟨u % j, j, Nat.mod_lt _ jp, ?_, ?_, rfl⟩
    · show [some (V.int (j : Int)), some (V.int ((u : Int).fmod (j : Int)))] = _
      rw [fm_nat]
    · rw [← e, Nat.gcd_comm u j, Nat.gcd_rec j u, Nat.gcd_comm]
  rintro σ H1 ⟨rfl, rfl⟩
  exact ⟨_, rfl, k⟩
end
section
variable {P : Program} {w : World} {K : PySem.W.Frag} {mg : Str → Option Value} {base : Heap}
theorem ok__law_begun (T : Top K mg) : FnOk P w K mg base CX0 1 T.a__law_begun T.d__law_begun ["script"] (sp__law_begun K) := by
  refine T.F__law_begun.ok sc__law_begun (fun vs H Q E h => ?_) (fun cdv A outer s H vs Q E hr h => ?_)
  · obtain ⟨a, ns, rfl, hS, hl, k⟩ := h
    rfl
  obtain ⟨a, ns, rfl, hS, hl, k⟩ := h
  refine ⟨_, (pss_one (ps_ret (pe_disp (pps_cons pe_str (pe_callTy (k_list (K := K)) (by rfl) T.z_list bt_list (pa_cons (pv 0) pa_nil)) (pps_cons pe_str (pe_lc (own := [("cell", 1)]) rfl sc__law_begun.nd (k_piL (K := K) (pv 0)) (blkOk_by (own := [("cell", 1)]) (N := ["script", "cell"]) (sc := defScope s__law_begun) (by decide +kernel)) (fun _ _ _ _ _ => (pg_name (i := 1) sc__law_begun.nd rfl (Or.inl rfl))) (fun _ _ _ _ _ => (pts_one (pt_cmpR op_ge (pv 1) (pe_op op_pow pe_int pe_int) (nomark _)))) (fun _ _ _ _ _ => (pv 1))) (pps_cons pe_str pe_int pps_nil))) (by rfl) (by rfl) (fun z => by cases z) (by decide)))), ?_⟩
  refine fun p hp => ?_
  refine ⟨_, rfl, a, _, rfl, .inl ((same_upd hp _).seq hS), fun l hl' => ?_⟩
  have s1 : Same H (upd (upd H p (.dK [])) l (.lst (ns.map V.int))) := (same_upd hp _).trans (same_upd hl' _)
  have lp : l ≠ p := fun z => by rw [z, upd_same] at hl'; cases hl'
  refine ⟨_, rfl, a, rfl, ⟨_, s1.seq hS⟩, fun D hD => ?_⟩
  have Dp' : D ≠ p := fun z => by rw [z, upd_ne (Ne.symm lp), upd_same] at hD; cases hD
  have Dl : D ≠ l := fun z => by rw [z, upd_same] at hD; cases hD
  refine lc_list (K := K) (a := a) (xs := ns.map V.int) (fun i H' => ∃ acc : List Int, H' D = some (.lst (acc.map V.int)) ∧ acc.length ≤ i ∧ (∀ z ∈ acc, 0 ≤ z) ∧ Same (upd (upd H p (.dK [])) l (.lst (ns.map V.int))) H')
    ⟨[], upd_same, Nat.le_refl _, (by intro z hz; cases hz), same_upd hD _⟩ (fun i H' _ ⟨_, _, _, _, s⟩ => s.seq (s1.seq hS)) ?_ ?_
  · rintro i x H' hi ⟨acc, hA, hn, h0, s⟩
    obtain ⟨z, hz, rfl⟩ := map_int_get hi
    refine ⟨rfl, _, rfl, _, _, rfl, rfl, ⟨by decide, by decide, by decide⟩, _, _, rfl, rfl, _, rfl, ?_⟩
    refine ite2 (fun cc => ?_) (fun _ => ⟨acc, hA, by omega, h0, s⟩)
    have cz : (10 : Int) ^ (18 : Int).toNat ≤ z := of_decide_eq_true cc
    have cz' : 0 ≤ z := Int.le_trans (by decide) cz
    refine ⟨_, rfl, _, hA, by rw [List.length_map]; exact small1000 (by have := (List.getElem?_eq_some_iff.mp hz).1; omega), acc ++ [z], ?_, ?_, ?_, ?_⟩
    · rw [upd_same, List.map_append]
      all_goals rfl
    · rw [List.length_append, List.length_singleton]
      omega
    · intro y hy
      rcases List.mem_append.mp hy with q | q
      · exact h0 y q
      · rw [List.mem_singleton.mp q]
        exact cz'
    · intro b o q
      have bD : b ≠ D := ne_of_none q hD
      rw [upd_ne bD]
      exact s b o q
  · rintro H' ⟨acc, hA, hn, h0, s⟩
    rw [List.length_map] at hn
    have hp' : H' p = some (.dK []) := s _ _ (by rw [upd_ne (Ne.symm lp), upd_same])
    refine ⟨hp', [(kCells, .ref l), (kLeft, .ref D), (kAt, .int 0)], rfl, (by show 3 ≤ 15; decide), ?_⟩
    rw [merge3]
    have e : ∀ b, b ≠ p → upd H' p (.dK [(kCells, V.ref l), (kLeft, V.ref D), (kAt, V.int 0)]) b = H' b := fun b hb => upd_ne hb
    refine k p _ (fun b o q => ?_) ⟨l, D, upd_same, ⟨ns, ?_, hl⟩, ⟨acc, ?_, by omega, h0⟩, Ne.symm Dl⟩
    · rw [e b (ne_of_none q hp)]
      exact s _ _ (s1 _ _ q)
    · rw [e _ lp]
      exact s _ _ upd_same
    · rw [e _ Dp']
      exact hA
end
section
variable {P : Program} {w : World} {K : PySem.W.Frag} {mg : Str → Option Value} {base : Heap}
theorem ok__law_next (T : Top K mg) : FnOk P w K mg base CX0 1 T.a__law_next T.d__law_next ["m", "many"] (sp__law_next K) := by
  refine T.F__law_next.ok sc__law_next (fun vs H Q E h => ?_) (fun cdv A outer s H vs Q E hr h => ?_)
  · obtain ⟨m, many, n, rfl, M, h0, h9, hn, k⟩ := h
    rfl
  obtain ⟨m, many, n, rfl, M, h0, h9, hn, k⟩ := h
  refine ⟨_, (Evl.pss_cut (ps_while PassesOwn.never (PW.pt (pw_and (pt_cmpR (k_neD (K := K) hr.units) (pe_dget (hu_of hr) (pv 0) pe_str (fun _ _ => rfl)) (pe_lst pa_nil) (nomark _)) (pw_and1 (pt_cmpR op_eq (pe_ix (k_ixL (K := K)) (pe_dget (hu_of hr) (pv 0) pe_str (fun _ _ => rfl)) pe_int (fun _ _ => rfl)) pe_int (nomark _))))) (pss_one (ps_dput (hu_of hr) (pv 0) pe_str (pe_slice (k_slL (K := K)) (pe_dget (hu_of hr) (pv 0) pe_str (fun _ _ => rfl)) (po_some pe_int) po_none) rfl)))
      (pss_cons (ps_if (pt_cmpR (k_neD (K := K) hr.units) (pe_dget (hu_of hr) (pv 0) pe_str (fun _ _ => rfl)) (pe_lst pa_nil) (nomark _)) (pss_cons (ps_set (i := 2) sc__law_next.nd rfl (Or.inl rfl) (pe_callTy call_int1 (by rfl) T.z_int bt_int (pa_cons (pe_ix (k_ixL (K := K)) (pe_dget (hu_of hr) (pv 0) pe_str (fun _ _ => rfl)) pe_int (fun _ _ => rfl)) pa_nil)))
      (pss_cons (ps_asg (pe_op op_fdivW (pv 2) (pv 1)) (pg_sub (pe_dget (hu_of hr) (pv 0) pe_str (fun _ _ => rfl)) pe_int set_list))
      (pss_one (ps_ret (pe_op op_modN (pv 2) (pv 1)))))) pss_nil)
      (pss_cons (ps_set (i := 3) sc__law_next.nd rfl (Or.inl rfl) (pe_op op_add (pe_dget (hu_of hr) (pv 0) pe_str (fun _ _ => rfl)) pe_int))
      (pss_cons (ps_dput (hu_of hr) (pv 0) pe_str (pv 3) rfl)
      (pss_cons (ps_set (i := 4) sc__law_next.nd rfl (Or.inl rfl) (pe_ifExp (pt_cmpR (k_neD (K := K) hr.units) (pe_dget (hu_of hr) (pv 0) pe_str (fun _ _ => rfl)) (pe_lst pa_nil) (nomark _)) (pe_ix (k_ixL (K := K)) (pe_dget (hu_of hr) (pv 0) pe_str (fun _ _ => rfl)) (pe_op op_modN (pe_callTy call_int1 (by rfl) T.z_int bt_int (pa_cons (pv 3) pa_nil)) (pe_callB (k_len (K := K)) (by rfl) T.z_len bt_len (pa_cons (pe_dget (hu_of hr) (pv 0) pe_str (fun _ _ => rfl)) pa_nil))) (fun _ _ => rfl)) pe_int))
      (pss_cons (ps_set (i := 5) sc__law_next.nd rfl (Or.inl rfl) (pe_op op_mul (pe_callTy call_int1 (by rfl) T.z_int bt_int (pa_cons (pe_op op_add (pe_op op_add (pe_op op_modN (pe_callTy call_int1 (by rfl) T.z_int bt_int (pa_cons (pv 4) pa_nil)) pe_int) (pe_op op_mul pe_int (pv 3))) (pe_op op_mul (pe_op op_mul pe_int (pv 3)) (pv 3))) pa_nil)) pe_int))
      (pss_cons (ps_set (i := 5) sc__law_next.nd rfl (Or.inl rfl) (pe_op op_mul (pe_callTy call_int1 (by rfl) T.z_int bt_int (pa_cons (pe_op op_add (pe_op op_modN (pe_callTy call_int1 (by rfl) T.z_int bt_int (pa_cons (pv 5) pa_nil)) pe_int) (pe_op op_mul pe_int (pv 3))) pa_nil)) pe_int))
      (pss_one (ps_ret (pe_op op_modN (pe_callTy call_int1 (by rfl) T.z_int bt_int (pa_cons (pe_op op_fdivN (pe_op op_modN (pe_callTy call_int1 (by rfl) T.z_int bt_int (pa_cons (pv 5) pa_nil)) pe_int) pe_int) pa_nil)) (pv 1))))))))))), ?_⟩
  refine ⟨fun σ H' => σ = [some (.ref m), some (.int many), none, none, none, none] ∧ MS H' m n ∧ Ef m H H', ?_, ?_⟩
  · refine ⟨fun j σ H' => σ = [some (.ref m), some (.int many), none, none, none, none] ∧ Ef m H H' ∧ ∃ (c l : Addr) (ls : List Int), MAt H' m c l n ∧ H' l = some (.lst (ls.map V.int)) ∧ ls.length = j, ?_, ?_⟩
    · obtain ⟨c, l, M⟩ := M
      obtain ⟨ls, hl, _⟩ := M.ls
      exact ⟨ls.length, rfl, Ef.refl, c, l, ls, M, hl, rfl⟩
    · rintro j σ H1 ⟨rfl, e1, c, l, ls, M1, hl, rfl⟩
      refine ⟨_, rfl, m, _, rfl, M1.left, rd_ne_nil hl fun p hp => ?_⟩
      have s2 := same_upd hp (.lst [])
      have lp : l ≠ p := ne_of_none hl hp
      have M2 : MS (upd H1 p (.lst [])) m n := MS.same ⟨c, l, M1⟩ s2
      have e2 : Ef m H (upd H1 p (.lst [])) := e1.trans (Ef.ofSame ⟨c, l, M1⟩ s2)
      cases ls with
      | nil => exact ⟨_, rfl, iteF (iteF ⟨rfl, M2, e2⟩)⟩
      | cons z r =>
        obtain ⟨c', l', M2'⟩ := M2
        have dk2 := s2 _ _ M1.dk
        rw [M2'.dk] at dk2
        have ecl : c' = c ∧ l' = l := by
          have q := HO.dK.inj (Option.some.inj dk2)
          simp [mKvs] at q
          exact q
        obtain ⟨rfl, rfl⟩ := ecl
        have hl2 := s2 _ _ hl
        refine ⟨_, rfl, iteT ?_⟩
        refine ⟨_, rfl, m, _, rfl, M2'.left, l', _, _, V.int z, rfl, rfl, SqL.of hl2, at_zero, rfl, _, rfl, ?_⟩
        refine ite2 (fun _ => ?_) (fun _ => ⟨rfl, ⟨c', l', M2'⟩, e2⟩)
        refine ⟨fun σ' H' => σ' = [some (.ref m), some (.int many), none, none, none, none] ∧ Ef m H H' ∧ ∃ (c l : Addr) (ls : List Int), MAt H' m c l n ∧ H' l = some (.lst (ls.map V.int)) ∧ ls.length = r.length, ?_, ?_⟩
        · rintro σ' H' ⟨a1, a2, a3⟩
          exact ⟨r.length, Nat.lt_succ_self _, a1, a2, a3⟩
        · refine ⟨_, rfl, m, _, rfl, M2'.left, 1, rfl, l', _, rfl, SqL.of hl2, fun q hq => ?_⟩
          rw [cut_tail]
          have mq : m ≠ q := ne_of_none M2'.dk hq
          have s3 := same_upd hq (.lst (r.map V.int))
          refine ⟨_, rfl, m, _, rfl, DPut.k (k := kLeft) (s3 _ _ M2'.dk) (by show 3 < sizeLine; decide), ?_⟩
          have ep : putK (mKvs c' l' n) kLeft (.ref q) = mKvs c' q n := put3_2
          rw [ep]
          obtain ⟨cs, hc, hc2⟩ := M2'.cs
          obtain ⟨ls', hl3, hl4, hl5⟩ := M2'.ls
          have els : ls' = z :: r := map_int_inj (HO.lst.inj (Option.some.inj (hl3.symm.trans hl2)))
          subst els
          have cq : c' ≠ q := ne_of_none hc hq
          have cm : c' ≠ m := ne_of hc M2'.dk (by intro w; cases w)
          refine ⟨rfl, ?_, c', q, r, ⟨upd_same, ⟨cs, ?_, hc2⟩, ⟨r, ?_, ?_, ?_⟩, cq⟩, ?_, rfl⟩
          · refine e2.trans ⟨fun b o hb h1 _ => ?_, fun b hb => ?_, fun o ho => ⟨_, upd_same⟩⟩
            · rw [upd_ne h1, upd_ne (ne_of_none hb hq)]
              exact hb
            · obtain ⟨kvs, kk, w1, w2⟩ := hb
              rw [upd_same] at w1
              cases w1
              rcases mKvs_ref w2 with q1 | q1
              · rw [q1]
                exact .inl M2'.ownC
              · rw [q1]
                exact .inr hq
          · rw [upd_ne cm, upd_ne cq]
            exact hc
          · rw [upd_ne (Ne.symm mq), upd_same]
          · simp at hl4
            omega
          · exact fun y hy => hl5 y (List.mem_cons_of_mem _ hy)
          · rw [upd_ne (Ne.symm mq), upd_same]
  · rintro σ H1 ⟨rfl, M1, e1⟩
    obtain ⟨c, l, M1⟩ := M1
    obtain ⟨ls, hl, hl4, hl5⟩ := M1.ls
    refine ⟨_, rfl, m, _, rfl, M1.left, rd_ne_nil hl fun p hp => ⟨_, rfl, ?_⟩⟩
    have s2 := same_upd hp (.lst [])
    have M2 : MAt (upd H1 p (.lst [])) m c l n := M1.same s2
    have e2 : Ef m H (upd H1 p (.lst [])) := e1.trans (Ef.ofSame ⟨c, l, M1⟩ s2)
    have hl2 := s2 _ _ hl
    have lm : l ≠ m := ne_of hl2 M2.dk (by intro w; cases w)
    cases ls with
    | cons z r =>
      refine iteT ?_
      refine ⟨_, rfl, m, _, rfl, M2.left, l, _, _, V.int z, rfl, rfl, SqL.of hl2, at_zero, .inl ⟨_, rfl, ?_⟩⟩
      refine ⟨_, rfl, _, rfl, _, _, rfl, rfl, ⟨h0, log_ok h0 h9⟩, _, rfl, m, _, rfl, M2.left, l, _, 0, 0, rfl, rfl, hl2, by simp [ixN], ?_⟩
      refine ⟨_, rfl, _, rfl, _, _, rfl, rfl, by omega, ?_⟩
      refine k _ n _ (Int.fmod_nonneg_of_pos _ h0) (Int.fmod_lt_of_pos _ h0) (Nat.le_succ n) ⟨c, l, ?_, ?_, ⟨(z / many) :: r, ?_, hl4, ?_⟩, M2.cl⟩ (e2.trans ⟨fun b o hb h1 h2 => ?_, fun b hb => ?_, fun o ho => ⟨o, ?_⟩⟩)
      · rw [upd_ne (Ne.symm lm)]
        exact M2.dk
      · obtain ⟨cs, hc, hc2⟩ := M2.cs
        exact ⟨cs, by rw [upd_ne M2.cl]; exact hc, hc2⟩
      · rw [upd_same]
        all_goals rfl
      · intro y hy
        rcases List.mem_cons.mp hy with q | q
        · rw [q]
          exact Int.ediv_nonneg (hl5 z List.mem_cons_self) (by omega)
        · exact hl5 y (List.mem_cons_of_mem _ q)
      · rw [upd_ne (fun q => h2 (by rw [q]; exact M2.ownL))]
        exact hb
      · exact .inl (hb.upd (Ne.symm lm))
      · rw [upd_ne (Ne.symm lm)]
        exact ho
    | nil =>
      refine iteF ?_
      refine ⟨_, rfl, m, _, rfl, M2.at, _, _, rfl, rfl, ?_⟩
      refine ⟨_, rfl, _, rfl, m, _, rfl, DPut.k (k := kAt) M2.dk (by show 3 < sizeLine; decide), ?_⟩
      have ep : putK (mKvs c l n) kAt (.int ((n : Int) + 1)) = mKvs c l (n + 1) := put3_3
      rw [ep]
      have M3 : MAt (upd (upd H1 p (.lst [])) m (.dK (mKvs c l (n + 1)))) m c l (n + 1) := by
        obtain ⟨cs, hc, hc2⟩ := M2.cs
        obtain ⟨ls', q1, q2, q3⟩ := M2.ls
        exact ⟨upd_same, ⟨cs, by rw [upd_ne (ne_of hc M2.dk (by intro w; cases w))]; exact hc, hc2⟩, ⟨ls', by rw [upd_ne lm]; exact q1, q2, q3⟩, M2.cl⟩
      have e3 : Ef m H (upd (upd H1 p (.lst [])) m (.dK (mKvs c l (n + 1)))) := by
        refine e2.trans ⟨fun b o hb h1 _ => by rw [upd_ne h1]; exact hb, fun b hb => ?_, fun o _ => ⟨_, upd_same⟩⟩
        obtain ⟨kvs, kk, w1, w2⟩ := hb
        rw [upd_same] at w1
        cases w1
        rcases mKvs_ref w2 with q1 | q1
        · rw [q1]
          exact .inl M2.ownC
        · rw [q1]
          exact .inl M2.ownL
      dsimp only
      refine seq_cut (fun v H' => ∃ i : Int, v = .int i ∧ MS H' m (n + 1) ∧ Ef m H H') (fun Q' k' => ?_) ?_
      · obtain ⟨cs, hc, hc2⟩ := M3.cs
        refine ⟨_, rfl, m, _, rfl, M3.cells, rd_ne_nil hc fun q hq => ⟨_, rfl, ?_⟩⟩
        have s4 := same_upd hq (.lst [])
        have M4 := M3.same s4
        have e4 := e3.trans (Ef.ofSame ⟨c, l, M3⟩ s4)
        have hc4 := s4 _ _ hc
        cases cs with
        | nil => exact iteF (k' _ _ ⟨3, rfl, ⟨c, l, M4⟩, e4⟩)
        | cons z r =>
          refine iteT ?_
          have hp0 : (0 : Int) < (((z :: r).map V.int).length : Int) := by
            rw [List.length_map, List.length_cons]
            omega
          obtain ⟨v, hv⟩ := at_mod (n + 1 : Int) (xs := z :: r) hp0
          refine ⟨_, rfl, m, _, rfl, M4.cells, _, rfl, .inl ⟨_, rfl, _, rfl, m, _, rfl, M4.cells, c, _, rfl, .inl (SqL.of hc4), _, _, rfl, rfl, by omega, c, _, _, V.int v, rfl, rfl, SqL.of hc4, hv, ?_⟩⟩
          exact k' _ _ ⟨v, rfl, ⟨c, l, M4⟩, e4⟩
      · rintro v H4 ⟨i, rfl, M4, e4⟩
        have z0 : (0 : Int) ≤ (n : Int) + 1 := by omega
        have z1 : ((n : Int) + 1) < 2 ^ 41 := by
          have hn' : ((n : Nat) : Int) < ((2 ^ 40 : Nat) : Int) := Int.ofNat_lt.mpr hn
          have : ((2 ^ 40 : Nat) : Int) = 1099511627776 := by decide
          omega
        refine ⟨_, rfl, .inl ⟨_, rfl, _, _, rfl, rfl, by omega, _, rfl, _, _, rfl, rfl, .inl (by decide), _, _, rfl, rfl, ?_⟩⟩
        refine ⟨_, rfl, _, _, rfl, rfl, .inl (by decide), _, rfl, _, _, rfl, rfl, .inl (by constructor <;> omega), _, _, rfl, rfl, .inl ⟨_, rfl, _, _, rfl, rfl, .inr (by decide), ?_⟩⟩
        refine ⟨_, rfl, .inl ⟨_, rfl, _, _, rfl, rfl, by omega, _, rfl, _, _, rfl, rfl, .inl (by decide), _, _, rfl, rfl, .inl ⟨_, rfl, _, _, rfl, rfl, .inr (by decide), ?_⟩⟩⟩
        refine ⟨_, rfl, .inl ⟨_, rfl, _, _, rfl, rfl, by omega, _, _, rfl, rfl, ⟨by decide, by decide⟩, .inl ⟨_, rfl, _, rfl, _, _, rfl, rfl, by omega, ?_⟩⟩⟩
        exact k _ (n + 1) _ (Int.fmod_nonneg_of_pos _ h0) (Int.fmod_lt_of_pos _ h0) (Nat.le_refl _) M4 e4
end
section
variable {P : Program} {w : World} {K : PySem.W.Frag} {mg : Str → Option Value} {base : Heap}
theorem ok_is_tick (T : Top K mg) : FnOk P w K mg base CX0 2 T.a_is_tick T.d_is_tick ["thing"] (sp_is_tickR K) := by
  refine T.F_is_tick.ok sc_is_tick (fun vs H Q E h => ?_) (fun cdv A outer s H vs Q E hr h => ?_)
  · obtain ⟨oka, x, d, rfl, hx, k⟩ := h
    rfl
  obtain ⟨oka, x, d, rfl, hx, k⟩ := h
  refine ⟨_, (pss_one (ps_ret (pe_and (pe_call (ok_is_whole T) (hr.mono (by decide)) (by rfl) T.m_is_whole T.F_is_whole.kp T.b_is_whole .nil pass0 (pa_cons (pv 0) pa_nil)) (pe_one (pe_chain op_le op_le pe_int (pv 0) (pe_op op_pow pe_int pe_int)))))), ?_⟩
  obtain ⟨b1, b2, q1, q2, q3⟩ := hx.kitInt
  refine ⟨_, rfl, x, _, b1, b2, rfl, hx.ty, q1, q2, _, rfl, ?_⟩
  cases d with
  | oth s' =>
    rw [q3]
    exact iteF k
  | tup ds =>
    rw [q3]
    exact iteF k
  | int i =>
    cases hx
    rw [q3]
    refine iteT ?_
    have k : Q (V.bl (decide (0 ≤ i) && decide (i ≤ 10 ^ 30))) H := k
    by_cases h0 : 0 ≤ i
    · rw [decide_eq_true h0, Bool.true_and] at k
      refine ⟨_, rfl, _, _, rfl, rfl, _, rfl, iteP h0 ?_⟩
      refine ⟨_, _, rfl, rfl, ⟨by decide, by decide, by decide⟩, _, _, rfl, rfl, ?_⟩
      exact k
    · rw [decide_eq_false h0, Bool.false_and] at k
      refine ⟨_, rfl, _, _, rfl, rfl, _, rfl, ?_⟩
      refine ite2 (fun cc => absurd (of_decide_eq_true cc) h0) (fun _ => ?_)
      exact k
end
section
variable {P : Program} {w : World} {K : PySem.W.Frag} {mg : Str → Option Value} {base : Heap}
theorem ok_common_multiple (T : Top K mg) : FnOk P w K mg base CX0 2 T.a_common_multiple T.d_common_multiple ["lengths"] (sp_common_multiple K) := by
  refine T.F_common_multiple.ok sc_common_multiple (fun vs H Q E h => ?_) (fun cdv A outer s H vs Q E hr h => ?_)
  · obtain ⟨a, ns, rfl, hT, h1, h2, k⟩ := h
    rfl
  obtain ⟨a, ns, rfl, hT, h1, h2, k⟩ := h
  refine ⟨_, (pss_cons (ps_set (i := 1) sc_common_multiple.nd rfl (Or.inl rfl) pe_int)
      (pss_cons (ps_for PassesOwn.never rfl (k_piL (K := K) (pv 0)) (pg_name (i := 2) sc_common_multiple.nd rfl (Or.inl rfl)) (pss_one (ps_set (i := 1) sc_common_multiple.nd rfl (Or.inl rfl) (pe_op op_mul (pv 1) (pe_op op_fdivW (pv 2) (pe_call (ok_common_divisor T) (hr.mono (by decide)) (by rfl) T.m_common_divisor T.F_common_divisor.kp T.b_common_divisor .nil pass0 (pa_cons (pv 1) (pa_cons (pv 2) pa_nil))))))))
      (pss_one (ps_ret (pv 1))))), ?_⟩
  refine ⟨_, rfl, a, rfl, ⟨_, hT⟩, ?_⟩
  refine for_it (walk_list (xs := (NN ns).map V.int)) (fun i σ H' => ∃ w1, σ = [some (.ref a), some (.int (lcmN (ns.take i) : Nat)), w1] ∧ H' = H) ⟨none, rfl, rfl⟩ (fun i σ H' _ ⟨_, _, s⟩ => s ▸ hT) ?_ ?_
  · rintro i x σ H2 H3 hi ⟨w1, rfl, rfl⟩ ⟨rfl, hx⟩
    obtain ⟨c, hc, rfl⟩ := map_int_get hx
    obtain ⟨n, hn, rfl⟩ := nn_get hc
    have n1 := h1 n (List.mem_of_getElem? hn)
    have gp : 0 < Nat.gcd (lcmN (ns.take i)) n := Nat.gcd_pos_of_pos_right _ n1
    have nL : n ≤ lcmN ns := Nat.le_of_dvd (lcmN_pos h1) (dvd_lcmN (List.mem_of_getElem? hn))
    have gL : Nat.gcd (lcmN (ns.take i)) n ≤ 2 ^ 40 := Nat.le_trans (Nat.gcd_le_right _ n1) (Nat.le_trans nL h2)
    have qL : n / Nat.gcd (lcmN (ns.take i)) n ≤ 2 ^ 40 := Nat.le_trans (Nat.div_le_self _ _) (Nat.le_trans nL h2)
    have q0 : 0 ≤ (n : Int) / ((Nat.gcd (lcmN (ns.take i)) n : Nat) : Int) := Int.ediv_nonneg (by omega) (by omega)
    refine ⟨_, rfl, _, rfl, _, rfl, _, rfl, lcmN (ns.take i), n, rfl, _, _, rfl, rfl, ⟨by omega, log_nat gL⟩, _, _, rfl, rfl, .inr ⟨by omega, by omega⟩, ?_⟩
    refine ⟨some (V.int (n : Nat)), ?_, rfl⟩
    rw [lcmN_take hn, ← lcm_a, Int.natCast_mul, Int.natCast_ediv]
    rfl
  rintro σ H2 ⟨w1, rfl, rfl⟩
  rw [List.length_map, nn_len, List.take_length]
  exact ⟨_, rfl, k⟩
end
section
variable {P : Program} {w : World} {K : PySem.W.Frag} {mg : Str → Option Value} {base : Heap}
theorem ok_parted_at (T : Top K mg) : FnOk P w K mg base CX0 2 T.a_parted_at T.d_parted_at ["one", "other"] (sp_parted_at K) := by
  refine T.F_parted_at.ok sc_parted_at (fun vs H Q E h => ?_) (fun cdv A outer s H vs Q E hr h => ?_)
  · obtain ⟨v, w, ls, ms, rfl, hv, hw, ok, okm, k⟩ := h
    rfl
  obtain ⟨v, w, ls, ms, rfl, hv, hw, ok, okm, k⟩ := h
  refine ⟨_, (pss_cons (ps_for PassesOwn.never rfl (pi_range1 (by rfl) T.z_range (pa_cons (pe_callB (k_sum (K := K) rfl) (by rfl) T.z_sum bt_sum (pa_cons (pe_lc (own := [("loop", 3)]) rfl sc_parted_at.nd (k_piT (K := K) (pe_op (k_catT (K := K)) (pv 0) (pv 1))) (blkOk_by (own := [("loop", 3)]) (N := ["one", "other", "tick", "loop"]) (sc := defScope s_parted_at) (by decide +kernel)) (fun _ _ _ _ _ => (pg_name (i := 3) sc_parted_at.nd rfl (Or.inl rfl))) (fun _ _ _ _ _ => pts_nil) (fun _ _ _ _ _ => (pe_callB (k_len (K := K)) (by rfl) T.z_len bt_len (pa_cons (pv 3) pa_nil)))) pa_nil)) pa_nil)) (pg_name (i := 2) sc_parted_at.nd rfl (Or.inl rfl)) (pss_one (ps_if (pt_cmpR op_ne (pe_call (ok_sum_at T) (hr.mono (by decide)) (by rfl) T.m_sum_at T.F_sum_at.kp T.b_sum_at .nil pass0 (pa_cons (pv 0) (pa_cons (pv 2) pa_nil))) (pe_call (ok_sum_at T) (hr.mono (by decide)) (by rfl) T.m_sum_at T.F_sum_at.kp T.b_sum_at .nil pass0 (pa_cons (pv 1) (pa_cons (pv 2) pa_nil))) (nomark _)) (pss_one (ps_ret (pv 2))) pss_nil)))
      (pss_one (ps_ret pe_non))), ?_⟩
  obtain ⟨ok1, ok2⟩ := id ok
  obtain ⟨om1, om2⟩ := id okm
  refine ⟨_, rfl, _, rfl, rd_cat hv hw ?_ fun u H1 s1 hu => ?_⟩
  · rw [List.length_map, List.length_map]
    exact Nat.le_of_lt (small1000 (by omega))
  rw [← List.map_append] at hu
  obtain ⟨a, xs, rfl, hT, hX⟩ := Dp.tuple hu
  have hlen := hX.len
  rw [List.length_map, List.length_append] at hlen
  refine ⟨a, rfl, ⟨_, hT⟩, fun D hD => ?_⟩
  refine lc_it walk_tup (fun i H' => H' D = some (.lst ((lensI ((ls ++ ms).take i)).map V.int)) ∧ Same H1 H') ⟨upd_same, same_upd hD _⟩ (fun i H' _ p => Same.tk p.2 _ _ hT) ?_ ?_
  · rintro i x H2 H3 hi ⟨hA, s2⟩ ⟨rfl, hx⟩
    obtain ⟨l, b, hl, rfl, hB⟩ := loops_get hX hx
    have hB1 := Same.tk s2 _ _ hB
    refine ⟨rfl, ?_⟩
    refine ⟨_, rfl, b, _, rfl, .inr hB1, ?_⟩
    refine ⟨_, hA, by unfold lensI; rw [List.length_map, List.length_map, List.length_take, List.length_append]; exact small1000 (by omega), ?_, ?_⟩
    · rw [upd_same, take_more hl]
      simp [lensI]
    · exact fun b' o q => by
        rw [upd_ne (ne_of_none q hD)]
        exact s2 _ _ q
  rintro H2 ⟨hA, s2⟩
  rw [List.take_of_length_le (by rw [List.length_append]; omega), lens_nn] at hA
  refine ⟨D, _, rfl, SqL.of hA, ?_⟩
  have eS : (NN (lenN (ls ++ ms))).sum = (((lenN ls ++ lenN ms).sum : Nat) : Int) := by rw [sum_nn, lenN_app]
  have bS := okl_sum ok okm
  rw [eS]
  refine ⟨_, rfl, by omega, by omega, ?_⟩
  have t2 := s1.trans s2
  refine for_it walk_range (fun i σ H' => ∃ w2, σ = [some v, some w, w2, none] ∧ Same H H' ∧ ∀ t : Nat, t < i → hd ls (t : Int) = hd ms (t : Int)) ⟨_, rfl, t2, fun t h => absurd h (Nat.not_lt_zero _)⟩ (fun _ _ _ _ _ => trivial) ?_ ?_
  · rintro i x σ H3 H4 hi ⟨w2, rfl, s3, hq⟩ ⟨rfl, rfl⟩
    refine ⟨_, rfl, _, rfl, v, ls, _, rfl, hv.same_at s3, ok, fun H5 s5 => ⟨_, rfl, _, rfl, w, ms, _, rfl, hw.same_at (s3.trans s5), okm, fun H6 s6 => ⟨rfl, _, rfl, ?_⟩⟩⟩
    have t6 := s3.trans (s5.trans s6)
    rw [Int.zero_add]
    refine ite2 (fun cc => ?_) (fun cc => ?_)
    · refine ⟨_, rfl, ?_⟩
      show Q (V.int (0 + ((i : Nat) : Int))) H6
      rw [Int.zero_add]
      refine k (some i) H6 ⟨dec_ne.mp cc, hq⟩ (fun t e => ?_) t6
      cases e
      omega
    · refine ⟨_, rfl, t6, fun t ht => ?_⟩
      by_cases e : t < i
      · exact hq t e
      · have e2 : t = i := by omega
        subst e2
        exact Classical.byContradiction fun z => cc (dec_ne.mpr z)
  · rintro σ H3 ⟨w2, rfl, s3, hq⟩
    refine k none H3 (fun t => settled (fun l hl => (ok2 l hl).1) (fun l hl => (om2 l hl).1) (fun t ht => hq t (by omega)) t) (fun t e => by cases e) s3
end
section
variable {P : Program} {w : World} {K : PySem.W.Frag} {mg : Str → Option Value} {base : Heap}
theorem ok__law_number (T : Top K mg) : FnOk P w K mg base CX0 2 T.a__law_number T.d__law_number ["m"] (sp__law_number K) := by
  refine T.F__law_number.ok sc__law_number (fun vs H Q E h => ?_) (fun cdv A outer s H vs Q E hr h => ?_)
  · obtain ⟨m, n, rfl, M, hn, k⟩ := h
    rfl
  obtain ⟨m, n, rfl, M, hn, k⟩ := h
  refine ⟨_, (pss_cons (ps_set (i := 1) sc__law_number.nd rfl (Or.inl rfl) (pe_call (ok__law_next T) (hr.mono (by decide)) (by rfl) T.m__law_next T.F__law_next.kp T.b__law_next .nil pass0 (pa_cons (pv 0) (pa_cons pe_int pa_nil))))
      (pss_cons (ps_if (pt_cmpR op_eq (pv 1) pe_int (nomark _)) (pss_one (ps_ret pe_int)) pss_nil)
      (pss_cons (ps_if (pt_cmpR op_eq (pv 1) pe_int (nomark _)) (pss_one (ps_ret (pe_op op_sub (pe_call (ok__law_next T) (hr.mono (by decide)) (by rfl) T.m__law_next T.F__law_next.kp T.b__law_next .nil pass0 (pa_cons (pv 0) (pa_cons (pe_op op_pow pe_int pe_int) pa_nil))) (pe_op op_pow pe_int pe_int)))) pss_nil)
      (pss_one (ps_ret (pe_ifExp (pt_cmpR op_eq (pv 1) pe_int (nomark _)) (pe_op op_sub (pe_call (ok__law_next T) (hr.mono (by decide)) (by rfl) T.m__law_next T.F__law_next.kp T.b__law_next .nil pass0 (pa_cons (pv 0) (pa_cons pe_int pa_nil))) pe_int) (pe_op op_sub (pe_call (ok__law_next T) (hr.mono (by decide)) (by rfl) T.m__law_next T.F__law_next.kp T.b__law_next .nil pass0 (pa_cons (pv 0) (pa_cons pe_int pa_nil))) pe_int))))))), ?_⟩
  refine ⟨_, rfl, m, 4, n, rfl, M, by decide, by decide, by omega, fun r n1 H1 r0 r4 hn1 M1 e1 => ?_⟩
  refine ⟨_, rfl, rfl, _, rfl, ?_⟩
  refine ite2 (fun _ => k 0 n1 H1 ⟨by decide, by decide⟩ (by omega) M1 e1) (fun _ => ?_)
  refine ⟨_, rfl, rfl, _, rfl, ?_⟩
  refine ite2 (fun _ => ?_) (fun _ => ?_)
  · refine ⟨_, rfl, _, _, rfl, rfl, ⟨by decide, by decide, by decide⟩, m, _, n1, rfl, M1, by decide, by decide, by omega, fun r2 n2 H2 a0 a1 hn2 M2 e2 => ⟨_, _, rfl, rfl, ⟨by decide, by decide, by decide⟩, _, _, rfl, rfl, ?_⟩⟩
    have p30 : (10 : Int) ^ (30 : Int).toNat = 10 ^ 30 := rfl
    have p29 : (10 : Int) ^ (29 : Int).toNat = 10 ^ 29 := rfl
    rw [p30] at a1
    refine k _ n2 H2 ?_ (by omega) M2 (e1.trans e2)
    rw [p29]
    exact ⟨by omega, by omega⟩
  · refine ⟨_, rfl, rfl, _, rfl, ?_⟩
    refine ite2 (fun _ => ?_) (fun _ => ?_)
    · refine ⟨_, rfl, m, 7, n1, rfl, M1, by decide, by decide, by omega, fun r2 n2 H2 a0 a1 hn2 M2 e2 => ⟨_, _, rfl, rfl, ?_⟩⟩
      exact k _ n2 H2 ⟨by omega, by omega⟩ (by omega) M2 (e1.trans e2)
    · refine ⟨_, rfl, m, 200, n1, rfl, M1, by decide, by decide, by omega, fun r2 n2 H2 a0 a1 hn2 M2 e2 => ⟨_, _, rfl, rfl, ?_⟩⟩
      exact k _ n2 H2 ⟨by omega, by omega⟩ (by omega) M2 (e1.trans e2)
end
section
variable {P : Program} {w : World} {K : PySem.W.Frag} {mg : Str → Option Value} {base : Heap}
theorem ok__law_lengths (T : Top K mg) : FnOk P w K mg base CX0 2 T.a__law_lengths T.d__law_lengths ["m", "many", "most"] (sp__law_lengths K) := by
  refine T.F__law_lengths.ok sc__law_lengths (fun vs H Q E h => ?_) (fun cdv A outer s H vs Q E hr h => ?_)
  · obtain ⟨m, many, most, n, rfl, M, h0, h1, h2, h3, hn, k⟩ := h
    rfl
  obtain ⟨m, many, most, n, rfl, M, h0, h1, h2, h3, hn, k⟩ := h
  refine ⟨_, (pss_one (ps_ret (pe_callTy (k_tuple (K := K)) (by rfl) T.z_tuple bt_tuple (pa_cons (pe_lc (own := [("k", 3)]) rfl sc__law_lengths.nd (pi_range1 (by rfl) T.z_range (pa_cons (pe_call (ok__law_next T) (hr.mono (by decide)) (by rfl) T.m__law_next T.F__law_next.kp T.b__law_next .nil pass0 (pa_cons (pv 0) (pa_cons (pe_op op_add (pv 1) pe_int) pa_nil))) pa_nil)) (blkOk_by (own := [("k", 3)]) (N := ["m", "many", "most", "k"]) (sc := defScope s__law_lengths) (by decide +kernel)) (fun _ _ _ _ _ => (pg_name (i := 3) sc__law_lengths.nd rfl (Or.inl rfl))) (fun _ _ _ _ _ => pts_nil) (fun _ _ _ _ _ => (pe_op op_add pe_int (pe_call (ok__law_next T) (hr.mono (by decide)) (by rfl) T.m__law_next T.F__law_next.kp T.b__law_next .nil pass0 (pa_cons (pv 0) (pa_cons (pv 2) pa_nil)))))) pa_nil)))), ?_⟩
  refine ⟨_, rfl, _, rfl, _, _, rfl, rfl, m, _, n, rfl, M, by omega, by omega, by omega, fun r n1 H1 r0 r4 hn1 M1 e1 => ?_⟩
  refine ⟨r, rfl, by omega, by omega, fun D hD => ?_⟩
  refine lc_it walk_range (fun i H' => ∃ (acc : List Int) (n' : Nat), H' D = some (.lst (acc.map V.int)) ∧ acc.length = i ∧ (∀ z ∈ acc, 1 ≤ z ∧ z ≤ most) ∧ n' ≤ n1 + i ∧ MS H' m n' ∧ ¬ Lf H' m D ∧ Ef m H1 H')
    ⟨[], n1, upd_same, rfl, (by intro z hz; cases hz), Nat.le_refl _, M1.same (same_upd hD _), fun z => M1.notLf hD (z.upd (M1.mne hD)), Ef.ofSame M1 (same_upd hD _)⟩ (fun _ _ _ _ => trivial) ?_ ?_
  · rintro i x H2 H3 hi ⟨acc, n', hA, hi2, hb, hn', M2, nl, e2⟩ ⟨rfl, rfl⟩
    refine ⟨rfl, ?_⟩
    have hir : i < 100 := by omega
    refine ⟨_, rfl, _, rfl, m, most, n', rfl, M2, by omega, by omega, by omega, fun r2 n2 H4 a0 a1 hn2 M4 e4 => ⟨_, _, rfl, rfl, ?_⟩⟩
    obtain ⟨hA4, nl4⟩ := e4.lst M2 hA nl
    refine ⟨_, hA4, by rw [List.length_map]; exact small1000 (by omega), acc ++ [1 + r2], n2, ?_, ?_, ?_, by omega, M4.upd hA4 nl4, fun z => nl4 (z.upd (M4.mneL hA4)), (e2.trans e4).upd hD (M4.mneL hA4)⟩
    · rw [upd_same, List.map_append]
      all_goals rfl
    · rw [List.length_append, List.length_singleton, hi2]
    · intro y hy
      rcases List.mem_append.mp hy with q | q
      · exact hb y q
      · rw [List.mem_singleton.mp q]
        exact ⟨by omega, by omega⟩
  · rintro H2 ⟨acc, n', hA, hi2, hb, hn', M2, nl, e2⟩
    refine ⟨D, _, rfl, .inl ⟨SqL.of hA, fun t ht => ?_⟩⟩
    refine k _ acc n' _ (Dp.ofInts (SqT.of upd_same)) (by omega) hb (by omega) (M2.same (same_upd ht _)) ((e1.trans e2).trans (Ef.ofSame M2 (same_upd ht _)))
end
section
variable {P : Program} {w : World} {K : PySem.W.Frag} {mg : Str → Option Value} {base : Heap}
theorem okX_need_tick (T : Top K mg) : FnOk P w K mg base (L2.CX P w) 3 T.a_need_tick T.d_need_tick ["thing"] (sp_need_tickX K T.x_OutOfPlace.C) := by
  refine T.F_need_tick.okX sc_need_tick (fun vs H Q E h => ?_) (fun cdv A outer s H vs Q E hr h => ?_)
  · obtain ⟨oka, x, d, rfl, hx, k1, k2⟩ := h
    rfl
  obtain ⟨oka, x, d, rfl, hx, k1, k2⟩ := h
  refine ⟨_, (pss_one (ps_if (pt_not (pt_val (pe_call (ok_is_tick T) (hr.mono (by decide)) (by rfl) T.m_is_tick T.F_is_tick.kp T.b_is_tick .nil pass0 (pa_cons (pv 0) pa_nil)))) (pss_one (ps_raise rfl (takes_of rfl rfl rfl rfl) (pmk_bare T.x_OutOfPlace.ox T.x_OutOfPlace.iC T.x_OutOfPlace.tI (ok_OutOfPlace_init T) (hr.mono (by decide)) T.x_OutOfPlace.b pass0 (by rfl) T.x_OutOfPlace.m (pa_cons pe_str pa_nil)))) pss_nil)), ?_⟩
  refine ⟨_, rfl, oka, x, d, rfl, hx, _, rfl, ?_⟩
  cases g : tok d with
  | true => exact iteF (k1 g)
  | false => exact iteT ⟨(by show 1 ≤ 1000; decide), made_bare fun H' s' => k2 g H' s'⟩
end
section
variable {P : Program} {w : World} {K : PySem.W.Frag} {mg : Str → Option Value} {base : Heap}
theorem okX_need_many (T : Top K mg) : FnOk P w K mg base (L2.CX P w) 3 T.a_need_many T.d_need_many ["thing"] (sp_need_manyX K T.x_OutOfPlace.C) := by
  refine T.F_need_many.okX sc_need_many (fun vs H Q E h => ?_) (fun cdv A outer s H vs Q E hr h => ?_)
  · obtain ⟨oka, x, d, rfl, hx, k1, k2⟩ := h
    rfl
  obtain ⟨oka, x, d, rfl, hx, k1, k2⟩ := h
  refine ⟨_, (pss_one (ps_if (PW.pt (pw_or (pt_not (pt_val (pe_call (ok_is_whole T) (hr.mono (by decide)) (by rfl) T.m_is_whole T.F_is_whole.kp T.b_is_whole .nil pass0 (pa_cons (pv 0) pa_nil)))) (pw_or1 (pt_not (pt_chain op_le op_le pe_int (pv 0) pe_int))))) (pss_one (ps_raise rfl (takes_of rfl rfl rfl rfl) (pmk_bare T.x_OutOfPlace.ox T.x_OutOfPlace.iC T.x_OutOfPlace.tI (ok_OutOfPlace_init T) (hr.mono (by decide)) T.x_OutOfPlace.b pass0 (by rfl) T.x_OutOfPlace.m (pa_cons pe_str pa_nil)))) pss_nil)), ?_⟩
  obtain ⟨b1, b2, q1, q2, q3⟩ := hx.kitInt
  refine ⟨_, rfl, x, _, b1, b2, rfl, hx.ty, q1, q2, _, rfl, ?_⟩
  cases d with
  | oth s' =>
    rw [q3]
    refine iteT (iteT ⟨(by show 1 ≤ 1000; decide), made_bare fun H' s' => k2 rfl H' s'⟩)
  | tup ds =>
    rw [q3]
    refine iteT (iteT ⟨(by show 1 ≤ 1000; decide), made_bare fun H' s' => k2 rfl H' s'⟩)
  | int i =>
    cases hx
    rw [q3]
    refine iteF ?_
    refine ⟨_, rfl, _, _, rfl, rfl, _, rfl, ?_⟩
    by_cases h0 : 0 ≤ i
    · refine iteP h0 ?_
      refine ⟨_, _, rfl, rfl, _, rfl, ?_⟩
      by_cases h1 : i ≤ 1000
      · show (if (!decide (i ≤ (1000 : Int))) = true then _ else _)
        rw [decide_eq_true h1]
        exact iteF (k1 (by show (decide (0 ≤ i) && decide (i ≤ 1000)) = true; rw [decide_eq_true h0, decide_eq_true h1]; rfl))
      · show (if (!decide (i ≤ (1000 : Int))) = true then _ else _)
        rw [decide_eq_false h1]
        exact iteT ⟨(by show 1 ≤ 1000; decide), made_bare fun H' s' => k2 (by show (decide (0 ≤ i) && decide (i ≤ 1000)) = false; rw [decide_eq_false h1, Bool.and_false]) H' s'⟩
    · refine ite2 (fun cc => absurd (of_decide_eq_true cc) h0) (fun _ => ?_)
      exact ⟨_, rfl, iteT ⟨(by show 1 ≤ 1000; decide), made_bare fun H' s' => k2 (by show (decide (0 ≤ i) && decide (i ≤ 1000)) = false; rw [decide_eq_false h0]; rfl) H' s'⟩⟩
end
section
variable {P : Program} {w : World} {K : PySem.W.Frag} {mg : Str → Option Value} {base : Heap}
theorem okX_need_loops (T : Top K mg) : FnOk P w K mg base (L2.CX P w) 3 T.a_need_loops T.d_need_loops ["thing"] (sp_need_loopsX K T.x_BadLoops.C) := by
  refine T.F_need_loops.okX sc_need_loops (fun vs H Q E h => ?_) (fun cdv A outer s H vs Q E hr h => ?_)
  · obtain ⟨v, d, rfl, hv, k1, k2⟩ := h
    rfl
  obtain ⟨v, d, rfl, hv, k1, k2⟩ := h
  refine ⟨_, (pss_cons (ps_if (PW.pt (pw_or (pt_not (pt_val (pe_callB (k_isi (K := K)) (by rfl) T.z_isinstance bt_isinstance (pa_cons (pv 0) (pa_cons (pe_bltn (v := .ty "tuple") (by rfl) T.z_tuple bt_tuple rfl) pa_nil))))) (pw_or1 (pt_cmpR op_gt (pe_callB (k_len (K := K)) (by rfl) T.z_len bt_len (pa_cons (pv 0) pa_nil)) (pe_glob (v := .int 6) rfl T.c_MOST_LOOPS ⟨_, rfl⟩) (nomark _))))) (pss_one (ps_raise rfl (takes_of rfl rfl rfl rfl) (pmk_oex T.x_BadLoops.ox T.x_BadLoops.iC T.x_BadLoops.tI (ok_BadLoops_init T) (hr.mono (by decide)) T.x_BadLoops.b .nil pass0 (by rfl) T.x_BadLoops.m (pa_cons (pe_tup pa_nil) pa_nil)))) pss_nil)
      (pss_cons (ps_for (passes_of rfl) rfl (k_piET (K := K) (by rfl) T.z_enumerate (pa_cons (pv 0) pa_nil)) (pg_tup rfl (pgs_cons (pg_name (i := 1) sc_need_loops.nd rfl (Or.inl rfl)) (pgs_cons (pg_name (i := 2) sc_need_loops.nd rfl (Or.inl rfl)) pgs_nil))) (pss_one (ps_if (PW.pt (pw_or (pt_not (pt_val (pe_callB (k_isi (K := K)) (by rfl) T.z_isinstance bt_isinstance (pa_cons (pv 2) (pa_cons (pe_bltn (v := .ty "tuple") (by rfl) T.z_tuple bt_tuple rfl) pa_nil))))) (pw_or1 (pt_not (pt_chain op_le op_le pe_int (pe_callB (k_len (K := K)) (by rfl) T.z_len bt_len (pa_cons (pv 2) pa_nil)) (pe_glob (v := .int 64) rfl T.c_MOST_THINGS ⟨_, rfl⟩)))))) (pss_one (ps_raise rfl (takes_of rfl rfl rfl rfl) (pmk_oex T.x_BadLoops.ox T.x_BadLoops.iC T.x_BadLoops.tI (ok_BadLoops_init T) (hr.mono (by decide)) T.x_BadLoops.b .nil pass0 (by rfl) T.x_BadLoops.m (pa_cons (pe_tup (pa_cons (pv 1) pa_nil)) pa_nil)))) pss_nil)))
      (pss_cons (ps_for (passes_of rfl) rfl (k_piET (K := K) (by rfl) T.z_enumerate (pa_cons (pv 0) pa_nil)) (pg_tup rfl (pgs_cons (pg_name (i := 1) sc_need_loops.nd rfl (Or.inl rfl)) (pgs_cons (pg_name (i := 2) sc_need_loops.nd rfl (Or.inl rfl)) pgs_nil))) (pss_one (ps_for (passes_of rfl) rfl (k_piET (K := K) (by rfl) T.z_enumerate (pa_cons (pv 2) pa_nil)) (pg_tup rfl (pgs_cons (pg_name (i := 3) sc_need_loops.nd rfl (Or.inl rfl)) (pgs_cons (pg_name (i := 4) sc_need_loops.nd rfl (Or.inl rfl)) pgs_nil))) (pss_one (ps_if (pt_not (pt_val (pe_call (ok_is_whole T) (hr.mono (by decide)) (by rfl) T.m_is_whole T.F_is_whole.kp T.b_is_whole .nil pass0 (pa_cons (pv 4) pa_nil)))) (pss_one (ps_raise rfl (takes_of rfl rfl rfl rfl) (pmk_oex T.x_BadLoops.ox T.x_BadLoops.iC T.x_BadLoops.tI (ok_BadLoops_init T) (hr.mono (by decide)) T.x_BadLoops.b .nil pass0 (by rfl) T.x_BadLoops.m (pa_cons (pe_tup (pa_cons (pv 1) (pa_cons (pv 3) pa_nil))) pa_nil)))) pss_nil)))))
      (pss_one (ps_ret (pv 0)))))), ?_⟩
  refine ⟨_, rfl, v, _, _, _, isTup d, rfl, ClsV.ty _, hv.ty, hv.kitTup, isTup d, rfl, ?_⟩
  have raise0 : faultOf d = some [] → ∀ H1, Same H H1 → ∀ t, H1 t = none → ∀ dd H', Same (upd H1 t (.tup [])) H' → H' dd = some (.xd [("place", .ref t)]) → E (.ref T.x_BadLoops.C) (some dd) H' := fun e H1 s1 t ht dd H' s' hd' =>
    k2 [] e dd (.ref t) H' (s1.trans ((same_upd ht _).trans s')) hd' (Dp.ofInts (SqT.of (s' _ _ upd_same)))
  cases d with
  | int i => exact iteT (iteT ⟨(by show 0 ≤ sizeLine; decide), fun t ht => ⟨(by show 1 ≤ 1000; decide), exc_made fun dd H' s' hd' => raise0 rfl H (Same.refl H) t ht dd H' s' hd'⟩⟩)
  | oth n => exact iteT (iteT ⟨(by show 0 ≤ sizeLine; decide), fun t ht => ⟨(by show 1 ≤ 1000; decide), exc_made fun dd H' s' hd' => raise0 rfl H (Same.refl H) t ht dd H' s' hd'⟩⟩)
  | tup ds =>
    refine iteF ?_
    obtain ⟨a, xs, rfl, hT, hX⟩ := hv.tuple
    have hlen := hX.len
    refine ⟨_, rfl, a, xs, rfl, .inr hT, _, _, rfl, rfl, _, rfl, ?_⟩
    by_cases h6 : 6 < ds.length
    · exact iteP (by omega) ⟨(by show 0 ≤ sizeLine; decide), fun t ht => ⟨(by show 1 ≤ 1000; decide), exc_made fun dd H' s' hd' => raise0 (fault6 h6) H (Same.refl H) t ht dd H' s' hd'⟩⟩
    refine iteN (by omega) ?_
    refine ⟨_, rfl, a, xs, rfl, hT, ?_⟩
    refine for_it walk_enumT (fun i σ H' => ∃ w1 w2, σ = [some (.ref a), w1, w2, none, none] ∧ Same H H' ∧ ∀ (j : Nat) (y : Dt), j < i → ds[j]? = some y → badLoop y = false)
      ⟨none, none, rfl, Same.refl H, fun j y hj => absurd hj (Nat.not_lt_zero j)⟩ (fun i σ H' _ ⟨_, _, _, s, _⟩ => Same.tk s _ _ hT) ?_ ?_
    · rintro i x σ H1 H2 hi ⟨w1, w2, rfl, s1, hb⟩ ⟨t, y, z, rfl, ht, rfl, hy, hz⟩
      cases hy
      obtain ⟨e, he, hE⟩ := hX.get hz
      have s2 := same_step s1 ht (.tup [.int (i : Nat), z])
      have hE2 := hE.same s2
      refine ⟨t, _, rfl, SqT.of upd_same, rfl, _, _, rfl, _, _, rfl, rfl, ?_⟩
      refine ⟨_, rfl, z, _, _, _, isTup e, rfl, ClsV.ty _, hE2.ty, hE2.kitTup, isTup e, rfl, ?_⟩
      have raise1 : badLoop e = true → ∀ t', (upd H1 t (.tup [.int (i : Nat), z])) t' = none → ∀ dd H', Same (upd (upd H1 t (.tup [.int (i : Nat), z])) t' (.tup [.int (i : Nat)])) H' → H' dd = some (.xd [("place", .ref t')]) → E (.ref T.x_BadLoops.C) (some dd) H' := fun eb t' ht' dd H' s' hd' =>
        k2 [i] (fault1 h6 he eb hb) dd (.ref t') H' (s2.trans ((same_upd ht' _).trans s')) hd' (Dp.ofInts (ns := [((i : Nat) : Int)]) (SqT.of (s' _ _ upd_same)))
      cases e with
      | int i' => exact iteT (iteT ⟨_, rfl, (by show 1 ≤ sizeLine; decide), fun t' ht' => ⟨(by show 1 ≤ 1000; decide), exc_made fun dd H' s' hd' => raise1 rfl t' ht' dd H' s' hd'⟩⟩)
      | oth n => exact iteT (iteT ⟨_, rfl, (by show 1 ≤ sizeLine; decide), fun t' ht' => ⟨(by show 1 ≤ 1000; decide), exc_made fun dd H' s' hd' => raise1 rfl t' ht' dd H' s' hd'⟩⟩)
      | tup es =>
        refine iteF ?_
        obtain ⟨b, ys, rfl, hU, hY⟩ := hE2.tuple
        have hleny := hY.len
        refine ⟨_, rfl, b, ys, rfl, .inr hU, _, _, rfl, rfl, _, rfl, ?_⟩
        by_cases c1 : 1 ≤ es.length
        · refine iteP (by omega) ?_
          refine ⟨_, _, rfl, rfl, _, rfl, ?_⟩
          by_cases c2 : es.length ≤ 64
          · have e2 : ((ys.length : Nat) : Int) ≤ 64 := by omega
            show (if (!decide (((ys.length : Nat) : Int) ≤ 64)) = true then _ else _)
            rw [decide_eq_true e2]
            refine iteF ⟨_, _, rfl, s2, fun j y hj hy => ?_⟩
            by_cases ej : j < i
            · exact hb j y ej hy
            · have ej' : j = i := by omega
              subst ej'
              rw [he] at hy
              cases hy
              show (!(decide (1 ≤ es.length) && decide (es.length ≤ 64))) = false
              rw [decide_eq_true c1, decide_eq_true c2]
              rfl
          · have e2 : ¬ ((ys.length : Nat) : Int) ≤ 64 := by omega
            show (if (!decide (((ys.length : Nat) : Int) ≤ 64)) = true then _ else _)
            rw [decide_eq_false e2]
            refine iteT ⟨_, rfl, (by show 1 ≤ sizeLine; decide), fun t' ht' => ⟨(by show 1 ≤ 1000; decide), exc_made fun dd H' s' hd' => raise1 ?_ t' ht' dd H' s' hd'⟩⟩
            show (!(decide (1 ≤ es.length) && decide (es.length ≤ 64))) = true
            rw [decide_eq_false c2, Bool.and_false]
            rfl
        · refine iteN (by omega) ⟨_, rfl, ?_⟩
          refine iteT ⟨_, rfl, (by show 1 ≤ sizeLine; decide), fun t' ht' => ⟨(by show 1 ≤ 1000; decide), exc_made fun dd H' s' hd' => raise1 ?_ t' ht' dd H' s' hd'⟩⟩
          show (!(decide (1 ≤ es.length) && decide (es.length ≤ 64))) = true
          rw [decide_eq_false c1]
          rfl
    rintro σ H1 ⟨w1, w2, rfl, s1, hb⟩
    have hgood : ∀ (j : Nat) (y : Dt), ds[j]? = some y → badLoop y = false := fun j y hy => hb j y (by rw [hlen]; exact (List.getElem?_eq_some_iff.mp hy).1) hy
    have hT1 := Same.tk s1 _ _ hT
    refine ⟨_, rfl, a, xs, rfl, hT1, ?_⟩
    refine for_it walk_enumT (fun i σ H' => ∃ w1 w2 w3 w4, σ = [some (.ref a), w1, w2, w3, w4] ∧ Same H H' ∧ ∀ (j : Nat) (y : Dt), j < i → ds[j]? = some y → firstBad y = none)
      ⟨_, _, none, none, rfl, s1, fun j y hj => absurd hj (Nat.not_lt_zero j)⟩ (fun i σ H' _ ⟨_, _, _, _, _, s, _⟩ => Same.tk s _ _ hT) ?_ ?_
    · rintro i x σ H1 H2 hi ⟨w1, w2, w3, w4, rfl, s1, hf⟩ ⟨t, y, z, rfl, ht, rfl, hy, hz⟩
      cases hy
      obtain ⟨e, he, hE⟩ := hX.get hz
      have s2 := same_step s1 ht (.tup [.int (i : Nat), z])
      have hE2 := hE.same s2
      refine ⟨t, _, rfl, SqT.of upd_same, rfl, _, _, rfl, _, _, rfl, rfl, ?_⟩
      have ge := hgood i e he
      cases e with
      | int i' => cases ge
      | oth n => cases ge
      | tup es =>
        obtain ⟨b, ys, rfl, hU, hY⟩ := hE2.tuple
        have hleny := hY.len
        refine ⟨_, rfl, b, ys, rfl, hU, ?_⟩
        refine for_it walk_enumT (fun j σ H' => ∃ w2 w3 w4, σ = [some (.ref a), some (.int (i : Nat)), w2, w3, w4] ∧ Same H H' ∧ Same (upd H1 t (.tup [.int (i : Nat), .ref b])) H' ∧ ∀ (k : Nat) (y : Dt), k < j → es[k]? = some y → badNum y = false)
          ⟨_, _, _, rfl, s2, Same.refl _, fun j y hj => absurd hj (Nat.not_lt_zero j)⟩ (fun j σ H' _ ⟨_, _, _, _, _, s, _⟩ => Same.tk s _ _ hU) ?_ ?_
        · rintro j x σ H3 H4 hj ⟨v2, v3, v4, rfl, s3, s3', hn⟩ ⟨t', y', z', rfl, ht', rfl, hy', hz'⟩
          cases hy'
          obtain ⟨c, hc, hC⟩ := hY.get hz'
          have s4 := same_step s3 ht' (.tup [.int (j : Nat), z'])
          have s4' := same_step s3' ht' (.tup [.int (j : Nat), z'])
          have hC4 := hC.same s4'
          obtain ⟨b1, b2, q1, q2, q3⟩ := hC4.kitInt
          refine ⟨t', _, rfl, SqT.of upd_same, rfl, _, _, rfl, _, _, rfl, rfl, ?_⟩
          refine ⟨_, rfl, z', _, b1, b2, rfl, hC4.ty, q1, q2, _, rfl, ?_⟩
          rw [q3]
          cases en : isNum c with
          | true =>
            refine iteF ⟨_, _, _, rfl, s4, s4', fun k y hk hy => ?_⟩
            by_cases ek : k < j
            · exact hn k y ek hy
            · have ek' : k = j := by omega
              subst ek'
              rw [hc] at hy
              cases hy
              show (!isNum c) = false
              rw [en]
              rfl
          | false =>
            refine iteT ⟨_, rfl, _, rfl, (by show 2 ≤ sizeLine; decide), fun t5 ht5 => ⟨(by show 1 ≤ 1000; decide), exc_made fun dd H' s' hd' => ?_⟩⟩
            refine k2 [i, j] (fault2 h6 hgood he ?_ hf) dd (.ref t5) H' (s4.trans ((same_upd ht5 _).trans s')) hd' (Dp.ofInts (ns := [((i : Nat) : Int), ((j : Nat) : Int)]) (SqT.of (s' _ _ upd_same)))
            refine fi_some hc ?_ hn
            show (!isNum c) = true
            rw [en]
            rfl
        · rintro σ H3 ⟨v2, v3, v4, rfl, s3, s3', hn⟩
          refine ⟨_, _, _, _, rfl, s3, fun j y hj hy => ?_⟩
          by_cases ej : j < i
          · exact hf j y ej hy
          · have ej' : j = i := by omega
            subst ej'
            rw [he] at hy
            cases hy
            exact fi_none fun k y hy => hn k y (by rw [hleny]; exact (List.getElem?_eq_some_iff.mp hy).1) hy
    rintro σ H2 ⟨w1, w2, w3, w4, rfl, s2, hf⟩
    have hok := fault0 h6 hgood fun j y hy => hf j y (by rw [hlen]; exact (List.getElem?_eq_some_iff.mp hy).1) hy
    exact ⟨_, rfl, k1 hok H2 s2⟩
end
section
variable {P : Program} {w : World} {K : PySem.W.Frag} {mg : Str → Option Value} {base : Heap}
theorem ok_leads_round (T : Top K mg) : FnOk P w K mg base CX0 3 T.a_leads_round T.d_leads_round ["loops", "ticks"] (sp_leads_round K) := by
  refine T.F_leads_round.ok sc_leads_round (fun vs H Q E h => ?_) (fun cdv A outer s H vs Q E hr h => ?_)
  · obtain ⟨v, ls, t, rfl, hv, ok, k⟩ := h
    rfl
  obtain ⟨v, ls, t, rfl, hv, ok, k⟩ := h
  refine ⟨_, (pss_cons (ps_set (i := 2) sc_leads_round.nd rfl (Or.inl rfl) (pe_callTy (k_tuple (K := K)) (by rfl) T.z_tuple bt_tuple (pa_cons (pe_lc (own := [("loop", 3)]) rfl sc_leads_round.nd (k_piT (K := K) (pv 0)) (blkOk_by (own := [("loop", 3)]) (N := ["loops", "ticks", "moved", "loop"]) (sc := defScope s_leads_round) (by decide +kernel)) (fun _ _ _ _ _ => (pg_name (i := 3) sc_leads_round.nd rfl (Or.inl rfl))) (fun _ _ _ _ _ => pts_nil) (fun _ _ _ _ _ => (pe_call (ok_begun_at T) (hr.mono (by decide)) (by rfl) T.m_begun_at T.F_begun_at.kp T.b_begun_at .nil pass0 (pa_cons (pv 3) (pa_cons (pe_op op_modN (pv 1) (pe_callB (k_len (K := K)) (by rfl) T.z_len bt_len (pa_cons (pv 3) pa_nil))) pa_nil))))) pa_nil)))
      (pss_one (ps_ret (pe_cmpR op_isN (pe_call (ok_parted_at T) (hr.mono (by decide)) (by rfl) T.m_parted_at T.F_parted_at.kp T.b_parted_at .nil pass0 (pa_cons (pv 0) (pa_cons (pv 2) pa_nil))) pe_non (nomark _))))), ?_⟩
  obtain ⟨ok1, ok2⟩ := id ok
  obtain ⟨a, xs, rfl, hT, hX⟩ := hv.tuple
  have hlen := hX.len
  rw [List.length_map] at hlen
  refine ⟨_, rfl, a, rfl, ⟨_, hT⟩, fun D hD => ?_⟩
  refine lc_it walk_tup (fun i H' => (∃ ys, H' D = some (.lst ys) ∧ DpAll K H' ys ((lat (ls.take i) (t : Nat)).map dInts)) ∧ Same H H') ⟨⟨_, upd_same, .nil⟩, same_upd hD _⟩ (fun i H' _ p => Same.tk p.2 _ _ hT) ?_ ?_
  · rintro i x H2 H3 hi ⟨⟨ys, hA, hY⟩, s2⟩ ⟨rfl, hx⟩
    obtain ⟨l, b, hl, rfl, hB⟩ := loops_get hX hx
    obtain ⟨k1, k2⟩ := ok2 l (List.mem_of_getElem? hl)
    have hB1 := Same.tk s2 _ _ hB
    have hp : (0 : Int) < (l.length : Int) := by omega
    have q0 := Int.fmod_nonneg_of_pos (t : Int) hp
    have q1 := Int.fmod_lt_of_pos (t : Int) hp
    refine ⟨rfl, ?_⟩
    refine ⟨_, rfl, _, rfl, _, rfl, b, _, rfl, .inr hB1, _, _, rfl, rfl, by rw [List.length_map]; omega, ?_⟩
    rw [List.length_map]
    refine ⟨.ref b, l, _, rfl, Dp.ofInts hB1, q0, q1, k2, fun w H4 s4 hw => ?_⟩
    have hyl := hY.len
    rw [List.length_map] at hyl
    have hyl2 : (lat (ls.take i) (t : Nat)).length ≤ 6 := by
      unfold lat
      rw [List.length_map, List.length_take]
      omega
    refine ⟨ys, s4 _ _ hA, small1000 (by omega), ⟨ys ++ [w], upd_same, ?_⟩, ?_⟩
    · have e : (lat (ls.take (i + 1)) (t : Nat)).map dInts = (lat (ls.take i) (t : Nat)).map dInts ++ [dInts (turnL l ((t : Int).fmod (l.length : Int)).toNat)] := by
        rw [take_more hl]
        simp [lat]
      rw [e]
      have tk := (Same.tk (K := K) s4).trans (tk_upd (o := .lst (ys ++ [w])) (s4 _ _ hA))
      exact (DpAll.keepT tk _ _ (to_loops _) hY).app (.cons (Dp.keepT (tk_upd (s4 _ _ hA)) _ _ (to_ints _) hw) .nil)
    · exact fun b' o q => by
        rw [upd_ne (ne_of_none q hD)]
        exact s4 _ _ (s2 _ _ q)
  rintro H2 ⟨⟨ys, hA, hY⟩, s2⟩
  rw [hlen, List.take_length] at hY
  refine ⟨D, _, rfl, .inl ⟨SqL.of hA, fun t' ht => ?_⟩⟩
  have s3 := same_upd ht (.tup ys)
  have t3 := s2.trans s3
  refine ⟨_, rfl, _, rfl, .ref a, .ref t', ls, lat ls (t : Nat), rfl, hv.same_at t3, .tup (SqT.of upd_same) (DpAll.same s3 _ _ hY), ok, lat_ok _ ok, fun r H4 hf hb s4 => ⟨rfl, ?_⟩⟩
  refine k _ H4 ?_ (t3.trans s4)
  rw [opt_non, hf.non]
  exact per_lat fun l hl => (ok2 l hl).1
end
section
variable {P : Program} {w : World} {K : PySem.W.Frag} {mg : Str → Option Value} {base : Heap}
theorem ok__law_loops_of (T : Top K mg) : FnOk P w K mg base CX0 3 T.a__law_loops_of T.d__law_loops_of ["m", "lengths"] (sp__law_loops_of K) := by
  refine T.F__law_loops_of.ok sc__law_loops_of (fun vs H Q E h => ?_) (fun cdv A outer s H vs Q E hr h => ?_)
  · obtain ⟨m, v, lens, n, rfl, hv, hl, hz, M, hn, k⟩ := h
    rfl
  obtain ⟨m, v, lens, n, rfl, hv, hl, hz, M, hn, k⟩ := h
  refine ⟨_, (pss_cons (ps_set (i := 2) sc__law_loops_of.nd rfl (Or.inl rfl) (pe_lst pa_nil))
      (pss_cons (ps_for PassesOwn.never rfl (k_piT (K := K) (pv 1)) (pg_name (i := 3) sc__law_loops_of.nd rfl (Or.inl rfl)) (pss_one (ps_expr (pe_bm PySem.F.plainAttrs_list PySem.F.slot_list_append PySem.F.type_list_append mt_append (pv 2) (pa_cons (pe_callTy (k_tuple (K := K)) (by rfl) T.z_tuple bt_tuple (pa_cons (pe_lc (own := [("k", 4)]) rfl sc__law_loops_of.nd (pi_range1 (by rfl) T.z_range (pa_cons (pv 3) pa_nil)) (blkOk_by (own := [("k", 4)]) (N := ["m", "lengths", "found", "length", "k"]) (sc := defScope s__law_loops_of) (by decide +kernel)) (fun _ _ _ _ _ => (pg_name (i := 4) sc__law_loops_of.nd rfl (Or.inl rfl))) (fun _ _ _ _ _ => pts_nil) (fun _ _ _ _ _ => (pe_call (ok__law_number T) (hr.mono (by decide)) (by rfl) T.m__law_number T.F__law_number.kp T.b__law_number .nil pass0 (pa_cons (pv 0) pa_nil)))) pa_nil)) pa_nil)))))
      (pss_one (ps_ret (pe_callTy (k_tuple (K := K)) (by rfl) T.z_tuple bt_tuple (pa_cons (pv 2) pa_nil)))))), ?_⟩
  obtain ⟨a, rfl, hT⟩ := hv.ints
  refine ⟨(by show 0 ≤ sizeLine; decide), fun D hD => ?_⟩
  refine ⟨_, rfl, a, rfl, ⟨_, (Same.tk (same_upd hD _)) _ _ hT⟩, ?_⟩
  refine for_it walk_tup (fun i σ H' => ∃ (acc : List (List Int)) (xs : List V) (n' : Nat) (vl : Option V), σ = [some (.ref m), some (.ref a), some (.ref D), vl, none] ∧ H' D = some (.lst xs) ∧ DpAll K H' xs (acc.map dInts) ∧
      acc.map (fun l => (l.length : Int)) = lens.take i ∧ (∀ l ∈ acc, ∀ z ∈ l, NB z) ∧ n' ≤ n + 2000 * i ∧ MS H' m n' ∧ ¬ Lf H' m D ∧ Ef m H H')
    ⟨[], [], n, none, rfl, upd_same, .nil, rfl, (by intro z hz; cases hz), Nat.le_refl _, M.same (same_upd hD _), fun z => M.notLf hD (z.upd (M.mne hD)), Ef.ofSame M (same_upd hD _)⟩
    (fun i σ H' _ ⟨_, _, _, _, _, _, _, _, _, _, _, _, e⟩ => (e.tk M) _ _ hT) ?_ ?_
  · rintro i x σ H2 H3 hi ⟨acc, xs, n1, vl, rfl, hA, hX, hm, hb, hn1, M2, nl, e2⟩ ⟨rfl, hx⟩
    obtain ⟨z, hz1, rfl⟩ := map_int_get hx
    have hi' : i < lens.length := (List.getElem?_eq_some_iff.mp hz1).1
    obtain ⟨z0, z1⟩ := hz z (List.mem_of_getElem? hz1)
    refine ⟨_, rfl, .inl ⟨rfl, _, SqL.of hA⟩, ?_⟩
    refine ⟨_, rfl, z, rfl, by omega, by omega, fun D2 hD2 => ?_⟩
    refine lc_it walk_range (fun j H' => ∃ (bs : List Int) (n' : Nat), H' D2 = some (.lst (bs.map V.int)) ∧ bs.length = j ∧ (∀ y ∈ bs, NB y) ∧ n' ≤ n1 + 2 * j ∧ MS H' m n' ∧ ¬ Lf H' m D2 ∧ Ef m H3 H')
      ⟨[], n1, upd_same, rfl, (by intro y hy; cases hy), Nat.le_refl _, M2.same (same_upd hD2 _), fun w => M2.notLf hD2 (w.upd (M2.mne hD2)), Ef.ofSame M2 (same_upd hD2 _)⟩ (fun _ _ _ _ => trivial) ?_ ?_
    · rintro j x H4 H5 hj ⟨bs, n', hB, hj2, hbb, hn', M4, nl4, e4⟩ ⟨rfl, rfl⟩
      refine ⟨rfl, ?_⟩
      refine ⟨_, rfl, m, n', rfl, M4, by omega, fun r n2 H6 hr hn2 M6 e6 => ?_⟩
      obtain ⟨hB6, nl6⟩ := e6.lst M4 hB nl4
      refine ⟨_, hB6, by rw [List.length_map]; exact small1000 (by omega), bs ++ [r], n2, ?_, ?_, ?_, by omega, M6.upd hB6 nl6, fun w => nl6 (w.upd (M6.mneL hB6)), (e4.trans e6).upd hD2 (M6.mneL hB6)⟩
      · rw [upd_same, List.map_append]
        all_goals rfl
      · rw [List.length_append, List.length_singleton, hj2]
      · intro y hy
        rcases List.mem_append.mp hy with q | q
        · exact hbb y q
        · rw [List.mem_singleton.mp q]
          exact hr
    · rintro H4 ⟨bs, n', hB, hj2, hbb, hn', M4, nl4, e4⟩
      obtain ⟨hA4, nlA⟩ := e4.lst M2 hA nl
      refine ⟨D2, _, rfl, .inl ⟨SqL.of hB, fun t ht => ?_⟩⟩
      have s5 := same_upd ht (.tup (bs.map V.int))
      have hA5 := s5 _ _ hA4
      have M5 := M4.same s5
      have e5 := e4.trans (Ef.ofSame M4 s5)
      have nl5 : ¬ Lf (upd H4 t (.tup (bs.map V.int))) m D := fun w => nlA (w.upd (M4.mne ht))
      have hlx := hX.len
      rw [List.length_map] at hlx
      have hla : acc.length = i := by
        have q := congrArg List.length hm
        rw [List.length_map, List.length_take] at q
        omega
      refine ⟨D, xs, _, rfl, rfl, hA5, small1000 (by omega), ?_⟩
      refine ⟨acc ++ [bs], xs ++ [.ref t], n', _, rfl, upd_same, ?_, ?_, ?_, by omega, M5.upd hA5 nl5, fun w => nl5 (w.upd (M5.mneL hA5)), (e2.trans e5).upd ?_ (M5.mneL hA5)⟩
      · rw [List.map_append]
        have tk : TK K H3 (upd (upd H4 t (.tup (bs.map V.int))) D (.lst (xs ++ [.ref t]))) := (e5.tk M2).trans (tk_upd hA5)
        refine (DpAll.keepT tk _ _ (to_loops acc) hX).app (.cons (Dp.ofInts ?_) .nil)
        exact (tk_upd hA5) _ _ (SqT.of upd_same)
      · rw [List.map_append, hm, take_more hz1]
        have q : (bs.length : Int) = z := by omega
        show _ = _
        simp [q]
      · intro l hl' y hy
        rcases List.mem_append.mp hl' with q | q
        · exact hb l q y hy
        · rw [List.mem_singleton.mp q] at hy
          exact hbb y hy
      · exact hD
  · rintro σ H2 ⟨acc, xs, n1, vl, rfl, hA, hX, hm, hb, hn1, M2, nl, e2⟩
    rw [List.length_map] at hm hn1
    rw [List.take_length] at hm
    refine ⟨_, rfl, D, _, rfl, .inl ⟨SqL.of hA, fun t ht => ?_⟩⟩
    have s3 := same_upd ht (.tup xs)
    refine k _ acc n1 _ (.tup (SqT.of upd_same) (DpAll.same s3 _ _ hX)) hm hb (by omega) (M2.same s3) (e2.trans (Ef.ofSame M2 s3))
end
section
variable {P : Program} {w : World} {K : PySem.W.Frag} {mg : Str → Option Value} {base : Heap}
theorem okX_lengths_of (T : Top K mg) : FnOk P w K mg base (L2.CX P w) 4 T.a_lengths_of T.d_lengths_of ["loops"] (sp_lengths_ofX K T.x_BadLoops.C T.x_OutOfPlace.C) := by
  refine T.F_lengths_of.okX sc_lengths_of (fun vs H Q E h => ?_) (fun cdv A outer s H vs Q E hr h => ?_)
  · obtain ⟨v, d, rfl, hv, k1, k2⟩ := h
    rfl
  obtain ⟨v, d, rfl, hv, k1, k2⟩ := h
  refine ⟨_, (pss_one (ps_ret (pe_callTy (k_tuple (K := K)) (by rfl) T.z_tuple bt_tuple (pa_cons (pe_lc (own := [("loop", 1)]) rfl sc_lengths_of.nd (k_piT (K := K) (pe_callS (okX_need_loops T) (hr.mono (by decide)) (by rfl) T.m_need_loops T.F_need_loops.kp T.b_need_loops (fun σ => passAt (takes_of rfl rfl rfl rfl) σ) (pa_cons (pv 0) pa_nil))) (blkOk_by (own := [("loop", 1)]) (N := ["loops", "loop"]) (sc := defScope s_lengths_of) (by decide +kernel)) (fun _ _ _ _ _ => (pg_name (i := 1) sc_lengths_of.nd rfl (Or.inl rfl))) (fun _ _ _ _ _ => pts_nil) (fun _ _ _ _ _ => (pe_callB (k_len (K := K)) (by rfl) T.z_len bt_len (pa_cons (pv 1) pa_nil)))) pa_nil)))), ?_⟩
  refine ⟨_, rfl, v, d, rfl, hv, fun g H1 s1 => ?_, fun p g dd w H' s' hd' hp => k1 p g dd w H' s' hd' hp⟩
  obtain ⟨ls, hv0, ok, _⟩ := valid_dp hv g
  have hv := hv0
  obtain ⟨ok1, ok2⟩ := id ok
  have hv1 := hv.same_at s1
  obtain ⟨a, xs, rfl, hT, hX⟩ := hv1.tuple
  have hlen := hX.len
  rw [List.length_map] at hlen
  refine ⟨a, rfl, ⟨_, hT⟩, fun D hD => ?_⟩
  refine lc_it walk_tup (fun i H' => H' D = some (.lst ((lensI (ls.take i)).map V.int)) ∧ Same H1 H') ⟨upd_same, same_upd hD _⟩ (fun i H' _ p => Same.tk p.2 _ _ hT) ?_ ?_
  · rintro i x H2 H3 hi ⟨hA, s2⟩ ⟨rfl, hx⟩
    obtain ⟨l, b, hl, rfl, hB⟩ := loops_get hX hx
    have hB1 := Same.tk s2 _ _ hB
    refine ⟨rfl, ?_⟩
    refine ⟨_, rfl, b, _, rfl, .inr hB1, ?_⟩
    refine ⟨_, hA, by unfold lensI; rw [List.length_map, List.length_map, List.length_take]; exact small1000 (by omega), ?_, ?_⟩
    · rw [upd_same, take_more hl]
      simp [lensI]
    · exact fun b' o q => by
        rw [upd_ne (ne_of_none q hD)]
        exact s2 _ _ q
  · rintro H2 ⟨hA, s2⟩
    rw [hlen, List.take_length] at hA
    refine ⟨D, _, rfl, .inl ⟨SqL.of hA, fun t ht => ?_⟩⟩
    exact k2 g _ _ (s1.trans (s2.trans (same_upd ht _)))
end
section
variable {P : Program} {w : World} {K : PySem.W.Frag} {mg : Str → Option Value} {base : Heap}
theorem okX_heard (T : Top K mg) : FnOk P w K mg base (L2.CX P w) 4 T.a_heard T.d_heard ["loops", "tick"] (sp_heardX K T.x_BadLoops.C T.x_OutOfPlace.C) := by
  refine T.F_heard.okX sc_heard (fun vs H Q E h => ?_) (fun cdv A outer s H vs Q E hr h => ?_)
  · obtain ⟨v, x, d, e, rfl, hv, hx, k1, k2, k3⟩ := h
    rfl
  obtain ⟨v, x, d, e, rfl, hv, hx, k1, k2, k3⟩ := h
  refine ⟨_, (pss_cons (ps_expr (pe_callS (okX_need_loops T) (hr.mono (by decide)) (by rfl) T.m_need_loops T.F_need_loops.kp T.b_need_loops (fun σ => passAt (takes_of rfl rfl rfl rfl) σ) (pa_cons (pv 0) pa_nil)))
      (pss_cons (ps_expr (pe_callS (okX_need_tick T) (hr.mono (by decide)) (by rfl) T.m_need_tick T.F_need_tick.kp T.b_need_tick (fun σ => passAt (takes_of rfl rfl rfl rfl) σ) (pa_cons (pv 1) pa_nil)))
      (pss_one (ps_ret (pe_call (ok_sum_at T) (hr.mono (by decide)) (by rfl) T.m_sum_at T.F_sum_at.kp T.b_sum_at .nil pass0 (pa_cons (pv 0) (pa_cons (pv 1) pa_nil))))))), ?_⟩
  refine ⟨_, rfl, v, d, rfl, hv, fun g H1 s1 => ?_, fun p g dd w H' s' hd' hp => k1 p g dd w H' s' hd' hp⟩
  obtain ⟨ls, hv0, ok, _⟩ := valid_dp hv g
  have hv := hv0
  refine ⟨_, rfl, _, x, e, rfl, hx.same s1, fun ge => ?_, fun ge H' s' => k2 g ge H' (s1.trans s')⟩
  obtain ⟨t, rfl, h0, h1⟩ := tok_int hx ge
  refine ⟨_, rfl, _, rfl, v, ls, t, rfl, Dp.same_at hv s1, ok, fun H2 s2 => ?_⟩
  exact k3 g ge _ _ (s1.trans s2)
end
section
variable {P : Program} {w : World} {K : PySem.W.Frag} {mg : Str → Option Value} {base : Heap}
theorem okX_heard_row (T : Top K mg) : FnOk P w K mg base (L2.CX P w) 4 T.a_heard_row T.d_heard_row ["loops", "tick", "many"] (sp_heard_rowX K T.x_BadLoops.C T.x_OutOfPlace.C) := by
  refine T.F_heard_row.okX sc_heard_row (fun vs H Q E h => ?_) (fun cdv A outer s H vs Q E hr h => ?_)
  · obtain ⟨v, x, y, d, e, f, rfl, hv, hx, hy, k1, k2, k3⟩ := h
    rfl
  obtain ⟨v, x, y, d, e, f, rfl, hv, hx, hy, k1, k2, k3⟩ := h
  refine ⟨_, (pss_cons (ps_expr (pe_callS (okX_need_loops T) (hr.mono (by decide)) (by rfl) T.m_need_loops T.F_need_loops.kp T.b_need_loops (fun σ => passAt (takes_of rfl rfl rfl rfl) σ) (pa_cons (pv 0) pa_nil)))
      (pss_cons (ps_expr (pe_callS (okX_need_tick T) (hr.mono (by decide)) (by rfl) T.m_need_tick T.F_need_tick.kp T.b_need_tick (fun σ => passAt (takes_of rfl rfl rfl rfl) σ) (pa_cons (pv 1) pa_nil)))
      (pss_cons (ps_expr (pe_callS (okX_need_many T) (hr.mono (by decide)) (by rfl) T.m_need_many T.F_need_many.kp T.b_need_many (fun σ => passAt (takes_of rfl rfl rfl rfl) σ) (pa_cons (pv 2) pa_nil)))
      (pss_one (ps_ret (pe_callTy (k_tuple (K := K)) (by rfl) T.z_tuple bt_tuple (pa_cons (pe_lc (own := [("step", 3)]) rfl sc_heard_row.nd (pi_range1 (by rfl) T.z_range (pa_cons (pv 2) pa_nil)) (blkOk_by (own := [("step", 3)]) (N := ["loops", "tick", "many", "step"]) (sc := defScope s_heard_row) (by decide +kernel)) (fun _ _ _ _ _ => (pg_name (i := 3) sc_heard_row.nd rfl (Or.inl rfl))) (fun _ _ _ _ _ => pts_nil) (fun _ _ _ _ _ => (pe_call (ok_sum_at T) (hr.mono (by decide)) (by rfl) T.m_sum_at T.F_sum_at.kp T.b_sum_at .nil pass0 (pa_cons (pv 0) (pa_cons (pe_op op_add (pv 1) (pv 3)) pa_nil))))) pa_nil))))))), ?_⟩
  refine ⟨_, rfl, v, d, rfl, hv, fun g H1 s1 => ?_, fun p g dd w H' s' hd' hp => k1 p g dd w H' s' hd' hp⟩
  obtain ⟨ls, hv0, ok, _⟩ := valid_dp hv g
  have hv := hv0
  refine ⟨_, rfl, _, x, e, rfl, hx.same s1, fun ge => ?_, fun ge H' s' => k2 g (by rw [ge]; rfl) H' (s1.trans s')⟩
  obtain ⟨t, rfl, h0, h1⟩ := tok_int hx ge
  refine ⟨_, rfl, _, y, f, rfl, hy.same s1, fun gf => ?_, fun gf H' s' => k2 g (by rw [gf, Bool.and_false]) H' (s1.trans s')⟩
  obtain ⟨n, rfl, n0, n1⟩ := mok_int hy gf
  refine ⟨_, rfl, n, rfl, by omega, by omega, fun D hD => ?_⟩
  have hD0 : H D = none := s1.free hD
  refine lc_it walk_range (fun i H' => H' D = some (.lst ((hrow ls t i).map V.int)) ∧ Same H H') ⟨upd_same, s1.trans (same_upd hD _)⟩ (fun _ _ _ _ => trivial) ?_ ?_
  · rintro i x H2 H3 hi ⟨hA, s2⟩ ⟨rfl, rfl⟩
    refine ⟨rfl, ?_⟩
    refine ⟨_, rfl, _, rfl, _, rfl, _, _, rfl, rfl, v, ls, _, rfl, Dp.same_at hv s2, ok, fun H4 s4 => ?_⟩
    refine ⟨_, s4 _ _ hA, by rw [List.length_map, hrow_len]; exact small1000 (by omega), ?_, ?_⟩
    · rw [upd_same, hrow_more]
      simp
    · exact fun b' o q => by
        rw [upd_ne (ne_of_none q hD0)]
        exact s4 _ _ (s2 _ _ q)
  · rintro H2 ⟨hA, s2⟩
    refine ⟨D, _, rfl, .inl ⟨SqL.of hA, fun t' ht => ?_⟩⟩
    exact k3 g (by rw [ge, gf]; rfl) _ _ (s2.trans (same_upd ht _))
end
section
variable {P : Program} {w : World} {K : PySem.W.Frag} {mg : Str → Option Value} {base : Heap}
theorem okX_later (T : Top K mg) : FnOk P w K mg base (L2.CX P w) 4 T.a_later T.d_later ["loops", "ticks"] (sp_heardX K T.x_BadLoops.C T.x_OutOfPlace.C) := by
  refine T.F_later.okX sc_later (fun vs H Q E h => ?_) (fun cdv A outer s H vs Q E hr h => ?_)
  · obtain ⟨v, x, d, e, rfl, hv, hx, k1, k2, k3⟩ := h
    rfl
  obtain ⟨v, x, d, e, rfl, hv, hx, k1, k2, k3⟩ := h
  refine ⟨_, (pss_cons (ps_expr (pe_callS (okX_need_loops T) (hr.mono (by decide)) (by rfl) T.m_need_loops T.F_need_loops.kp T.b_need_loops (fun σ => passAt (takes_of rfl rfl rfl rfl) σ) (pa_cons (pv 0) pa_nil)))
      (pss_cons (ps_expr (pe_callS (okX_need_tick T) (hr.mono (by decide)) (by rfl) T.m_need_tick T.F_need_tick.kp T.b_need_tick (fun σ => passAt (takes_of rfl rfl rfl rfl) σ) (pa_cons (pv 1) pa_nil)))
      (pss_one (ps_ret (pe_callTy (k_tuple (K := K)) (by rfl) T.z_tuple bt_tuple (pa_cons (pe_lc (own := [("loop", 2)]) rfl sc_later.nd (k_piT (K := K) (pv 0)) (blkOk_by (own := [("loop", 2)]) (N := ["loops", "ticks", "loop"]) (sc := defScope s_later) (by decide +kernel)) (fun _ _ _ _ _ => (pg_name (i := 2) sc_later.nd rfl (Or.inl rfl))) (fun _ _ _ _ _ => pts_nil) (fun _ _ _ _ _ => (pe_call (ok_begun_at T) (hr.mono (by decide)) (by rfl) T.m_begun_at T.F_begun_at.kp T.b_begun_at .nil pass0 (pa_cons (pv 2) (pa_cons (pe_op op_modN (pv 1) (pe_callB (k_len (K := K)) (by rfl) T.z_len bt_len (pa_cons (pv 2) pa_nil))) pa_nil))))) pa_nil)))))), ?_⟩
  refine ⟨_, rfl, v, d, rfl, hv, fun g H1 s1 => ?_, fun p g dd w H' s' hd' hp => k1 p g dd w H' s' hd' hp⟩
  obtain ⟨ls, hv0, ok, _⟩ := valid_dp hv g
  have hv := hv0
  obtain ⟨ok1, ok2⟩ := id ok
  refine ⟨_, rfl, _, x, e, rfl, hx.same s1, fun ge => ?_, fun ge H' s' => k2 g ge H' (s1.trans s')⟩
  obtain ⟨t, rfl, h0, h1⟩ := tok_int hx ge
  have hv1 := hv.same_at s1
  obtain ⟨a, xs, rfl, hT, hX⟩ := hv1.tuple
  have hlen := hX.len
  rw [List.length_map] at hlen
  refine ⟨_, rfl, a, rfl, ⟨_, hT⟩, fun D hD => ?_⟩
  refine lc_it walk_tup (fun i H' => (∃ ys, H' D = some (.lst ys) ∧ DpAll K H' ys ((lat (ls.take i) t).map dInts)) ∧ Same H1 H') ⟨⟨_, upd_same, .nil⟩, same_upd hD _⟩ (fun i H' _ p => Same.tk p.2 _ _ hT) ?_ ?_
  · rintro i x H2 H3 hi ⟨⟨ys, hA, hY⟩, s2⟩ ⟨rfl, hx⟩
    obtain ⟨l, b, hl, rfl, hB⟩ := loops_get hX hx
    obtain ⟨k1, k2⟩ := ok2 l (List.mem_of_getElem? hl)
    have hB1 := Same.tk s2 _ _ hB
    have hp : (0 : Int) < (l.length : Int) := by omega
    have q0 := Int.fmod_nonneg_of_pos t hp
    have q1 := Int.fmod_lt_of_pos t hp
    refine ⟨rfl, ?_⟩
    refine ⟨_, rfl, _, rfl, _, rfl, b, _, rfl, .inr hB1, _, _, rfl, rfl, by rw [List.length_map]; omega, ?_⟩
    rw [List.length_map]
    refine ⟨.ref b, l, _, rfl, Dp.ofInts hB1, q0, q1, k2, fun w H4 s4 hw => ?_⟩
    have hyl := hY.len
    rw [List.length_map] at hyl
    have hyl2 : (lat (ls.take i) t).length ≤ 6 := by
      unfold lat
      rw [List.length_map, List.length_take]
      omega
    refine ⟨ys, s4 _ _ hA, small1000 (by omega), ⟨ys ++ [w], upd_same, ?_⟩, ?_⟩
    · have e : (lat (ls.take (i + 1)) t).map dInts = (lat (ls.take i) t).map dInts ++ [dInts (turnL l (t.fmod (l.length : Int)).toNat)] := by
        rw [take_more hl]
        simp [lat]
      rw [e]
      have tk := (Same.tk (K := K) s4).trans (tk_upd (o := .lst (ys ++ [w])) (s4 _ _ hA))
      exact (DpAll.keepT tk _ _ (to_loops _) hY).app (.cons (Dp.keepT (tk_upd (s4 _ _ hA)) _ _ (to_ints _) hw) .nil)
    · exact fun b' o q => by
        rw [upd_ne (ne_of_none q hD)]
        exact s4 _ _ (s2 _ _ q)
  · rintro H2 ⟨⟨ys, hA, hY⟩, s2⟩
    rw [hlen, List.take_length] at hY
    refine ⟨D, _, rfl, .inl ⟨SqL.of hA, fun t' ht => ?_⟩⟩
    have s3 := same_upd ht (.tup ys)
    exact k3 g ge _ _ (s1.trans (s2.trans s3))
end
section
variable {P : Program} {w : World} {K : PySem.W.Frag} {mg : Str → Option Value} {base : Heap}
theorem okX_first_apart (T : Top K mg) : FnOk P w K mg base (L2.CX P w) 4 T.a_first_apart T.d_first_apart ["one", "other"] (sp_first_apartX K T.x_BadLoops.C T.x_OutOfPlace.C) := by
  refine T.F_first_apart.okX sc_first_apart (fun vs H Q E h => ?_) (fun cdv A outer s H vs Q E hr h => ?_)
  · obtain ⟨v, w, d, e, rfl, hv, hw, k1, k2, k3⟩ := h
    rfl
  obtain ⟨v, w, d, e, rfl, hv, hw, k1, k2, k3⟩ := h
  refine ⟨_, (pss_cons (ps_expr (pe_callS (okX_need_loops T) (hr.mono (by decide)) (by rfl) T.m_need_loops T.F_need_loops.kp T.b_need_loops (fun σ => passAt (takes_of rfl rfl rfl rfl) σ) (pa_cons (pv 0) pa_nil)))
      (pss_cons (ps_expr (pe_callS (okX_need_loops T) (hr.mono (by decide)) (by rfl) T.m_need_loops T.F_need_loops.kp T.b_need_loops (fun σ => passAt (takes_of rfl rfl rfl rfl) σ) (pa_cons (pv 1) pa_nil)))
      (pss_one (ps_ret (pe_call (ok_parted_at T) (hr.mono (by decide)) (by rfl) T.m_parted_at T.F_parted_at.kp T.b_parted_at .nil pass0 (pa_cons (pv 0) (pa_cons (pv 1) pa_nil))))))), ?_⟩
  refine ⟨_, rfl, v, d, rfl, hv, fun g H1 s1 => ?_, fun p g dd w H' s' hd' hp => k1 p g dd w H' s' hd' hp⟩
  obtain ⟨ls, hv0, ok, _⟩ := valid_dp hv g
  have hv := hv0
  refine ⟨_, rfl, w, e, rfl, hw.same s1, fun g2 H2 s2 => ?_, fun p g2 dd w' H' s' hd' hp => k2 g p g2 dd w' H' (s1.trans s') hd' hp⟩
  obtain ⟨ms, hw0, okm, _⟩ := valid_dp hw g2
  have hw := hw0
  refine ⟨_, rfl, _, rfl, v, w, ls, ms, rfl, hv.same_at (s1.trans s2), hw.same_at (s1.trans s2), ok, okm, fun r H3 hf hb s3 => ?_⟩
  exact k3 g g2 _ H3 (s1.trans (s2.trans s3))
end
section
variable {P : Program} {w : World} {K : PySem.W.Frag} {mg : Str → Option Value} {base : Heap}
theorem okX_period (T : Top K mg) : FnOk P w K mg base (L2.CX P w) 4 T.a_period T.d_period ["loops"] (sp_lengths_ofX K T.x_BadLoops.C T.x_OutOfPlace.C) := by
  refine T.F_period.okX sc_period (fun vs H Q E h => ?_) (fun cdv A outer s H vs Q E hr h => ?_)
  · obtain ⟨v, d, rfl, hv, k1, k2⟩ := h
    rfl
  obtain ⟨v, d, rfl, hv, k1, k2⟩ := h
  refine ⟨_, (pss_cons (ps_expr (pe_callS (okX_need_loops T) (hr.mono (by decide)) (by rfl) T.m_need_loops T.F_need_loops.kp T.b_need_loops (fun σ => passAt (takes_of rfl rfl rfl rfl) σ) (pa_cons (pv 0) pa_nil)))
      (pss_cons (ps_set (i := 1) sc_period.nd rfl (Or.inl rfl) (pe_call (ok_common_multiple T) (hr.mono (by decide)) (by rfl) T.m_common_multiple T.F_common_multiple.kp T.b_common_multiple .nil pass0 (pa_cons (pe_lc (own := [("loop", 3)]) rfl sc_period.nd (k_piT (K := K) (pv 0)) (blkOk_by (own := [("loop", 3)]) (N := ["loops", "ticks", "divisor", "loop"]) (sc := defScope s_period) (by decide +kernel)) (fun _ _ _ _ _ => (pg_name (i := 3) sc_period.nd rfl (Or.inl rfl))) (fun _ _ _ _ _ => pts_nil) (fun _ _ _ _ _ => (pe_callB (k_len (K := K)) (by rfl) T.z_len bt_len (pa_cons (pv 3) pa_nil)))) pa_nil)))
      (pss_cons (ps_for (passes_of rfl) rfl (pi_range2 (by rfl) T.z_range (pa_cons pe_int (pa_cons (pe_op op_add (pe_glob (v := .int 64) rfl T.c_MOST_THINGS ⟨_, rfl⟩) pe_int) pa_nil))) (pg_name (i := 2) sc_period.nd rfl (Or.inl rfl)) (pss_one (ps_while (passes_of rfl) (PW.pt (pw_and (pt_cmpR op_eq (pe_op op_modN (pv 1) (pv 2)) pe_int (nomark _)) (pw_and1 (pt_val (pe_call (ok_leads_round T) (hr.mono (by decide)) (by rfl) T.m_leads_round T.F_leads_round.kp T.b_leads_round .nil pass0 (pa_cons (pv 0) (pa_cons (pe_op op_fdivW (pv 1) (pv 2)) pa_nil))))))) (pss_one (ps_set (i := 1) sc_period.nd rfl (Or.inl rfl) (pe_op op_fdivW (pv 1) (pv 2)))))))
      (pss_one (ps_ret (pv 1)))))), ?_⟩
  refine ⟨_, rfl, v, d, rfl, hv, fun g H1 s1 => ?_, fun p g dd w H' s' hd' hp => k1 p g dd w H' s' hd' hp⟩
  obtain ⟨ls, hv0, ok, _⟩ := valid_dp hv g
  have hv := hv0
  obtain ⟨ok1, ok2⟩ := id ok
  have k : ∀ (P : Nat) H', isMin ls P → P ≤ 64 ^ 6 → Same H H' → Q (.int P) H' := fun P H' _ _ s => k2 g _ H' s
  have hv1 := hv.same_at s1
  obtain ⟨a, xs, rfl, hT, hX⟩ := hv1.tuple
  have hlen := hX.len
  rw [List.length_map] at hlen
  refine ⟨_, rfl, a, rfl, ⟨_, hT⟩, fun D hD => ?_⟩
  refine lc_it walk_tup (fun i H' => H' D = some (.lst ((lensI (ls.take i)).map V.int)) ∧ Same H1 H') ⟨upd_same, same_upd hD _⟩ (fun i H' _ p => Same.tk p.2 _ _ hT) ?_ ?_
  · rintro i x H2 H3 hi ⟨hA, s2⟩ ⟨rfl, hx⟩
    obtain ⟨l, b, hl, rfl, hB⟩ := loops_get hX hx
    have hB1 := Same.tk s2 _ _ hB
    refine ⟨rfl, ?_⟩
    refine ⟨_, rfl, b, _, rfl, .inr hB1, ?_⟩
    refine ⟨_, hA, by unfold lensI; rw [List.length_map, List.length_map, List.length_take]; exact small1000 (by omega), ?_, ?_⟩
    · rw [upd_same, take_more hl]
      simp [lensI]
    · exact fun b' o q => by
        rw [upd_ne (ne_of_none q hD)]
        exact s2 _ _ q
  rintro H2 ⟨hA, s2⟩
  rw [hlen, List.take_length, lens_nn] at hA
  have L1 : ∀ n ∈ lenN ls, 1 ≤ n := fun n hn => (okl_len ok n hn).1
  have LL := okl_lcm ok
  have c6 : (64 : Nat) ^ 6 ≤ 2 ^ 40 := by decide
  refine ⟨D, lenN ls, rfl, SqL.of hA, L1, by omega, ?_⟩
  have t2 := s1.trans s2
  refine ⟨_, _, rfl, rfl, _, _, rfl, ⟨by decide, by decide, by decide, by decide⟩, ?_⟩
  refine for_it walk_range (fun i σ H' => ∃ (w2 : Option V) (T : Nat), σ = [some (.ref a), some (.int (T : Nat)), w2, none] ∧ Same H H' ∧ 0 < T ∧ T ∣ lcmN (lenN ls) ∧ isPer ls T ∧ ∀ e, 2 ≤ e → e < 2 + i → ¬ (e ∣ T ∧ isPer ls (T / e)))
    ⟨_, _, rfl, t2, lcmN_pos L1, Nat.dvd_refl _, per_dvd (fun l hl => dvd_lcmN (List.mem_map_of_mem hl)), fun e h1 h2 => by omega⟩ (fun _ _ _ _ _ => trivial) ?_ ?_
  · rintro i x σ H3 H4 hi ⟨w2, T, rfl, s3, T0, Td, hT3, hq⟩ ⟨rfl, rfl⟩
    have hi' : i < 63 := hi
    have ed : (2 : Int) + ((i : Nat) : Int) = ((2 + i : Nat) : Int) := by omega
    refine ⟨fun j σ H' => ∃ T : Nat, σ = [some (.ref a), some (.int (T : Nat)), some (.int (2 + (i : Nat))), none] ∧ T = j ∧ Same H H' ∧ 0 < T ∧ T ∣ lcmN (lenN ls) ∧ isPer ls T ∧ ∀ e, 2 ≤ e → e < 2 + i → ¬ (e ∣ T ∧ isPer ls (T / e)), ⟨T, T, rfl, rfl, s3, T0, Td, hT3, hq⟩, ?_⟩
    rintro j σ H5 ⟨T, rfl, rfl, s5, T0, Td, hT5, hq⟩
    have T40 : T ≤ 2 ^ 40 := Nat.le_trans (Nat.le_of_dvd (lcmN_pos L1) Td) (by omega)
    refine ⟨_, rfl, _, rfl, _, _, rfl, rfl, by omega, rfl, _, rfl, ?_⟩
    have e5 : (T : Int).fmod ((2 : Int) + ((i : Nat) : Int)) = ((T % (2 + i) : Nat) : Int) := by rw [ed, fm_nat]
    have e6 : (T : Int) / ((2 : Int) + ((i : Nat) : Int)) = ((T / (2 + i) : Nat) : Int) := by
      rw [ed]
      rfl
    have lg : ((2 : Int) + ((i : Nat) : Int)).natAbs.log2 < 9000 := by
      rw [ed]
      exact log_nat (by omega)
    refine ite2 (fun cc => ?_) (fun cc => ?_)
    · have c0 : T % (2 + i) = 0 := by
        have q : V.int ((T : Int).fmod ((2 : Int) + ((i : Nat) : Int))) = V.int 0 := of_decide_eq_true cc
        rw [e5] at q
        injection q with q
        omega
      obtain ⟨c, hc⟩ := Nat.dvd_of_mod_eq_zero c0
      have cT : T / (2 + i) = c := by rw [hc, Nat.mul_div_cancel_left _ (by omega)]
      refine ⟨_, rfl, _, rfl, _, rfl, _, _, rfl, rfl, ⟨by omega, lg⟩, .ref a, ls, T / (2 + i), (by show [V.ref a, V.int ((T : Int) / ((2 : Int) + ((i : Nat) : Int)))] = _; rw [e6]), hv.same_at s5, ok, fun b H6 hb s6 => ⟨_, rfl, ?_⟩⟩
      have s56 := s5.trans s6
      cases b with
      | true =>
        refine iteT ?_
        refine ⟨fun σ' H' => ∃ j' T' : Nat, j' < T ∧ σ' = [some (.ref a), some (.int (T' : Nat)), some (.int (2 + (i : Nat))), none] ∧ T' = j' ∧ Same H H' ∧ 0 < T' ∧ T' ∣ lcmN (lenN ls) ∧ isPer ls T' ∧ ∀ e, 2 ≤ e → e < 2 + i → ¬ (e ∣ T' ∧ isPer ls (T' / e)), ?_, ?_⟩
        · rintro σ' H' ⟨j', T', a1, a2⟩
          exact ⟨j', a1, T', a2⟩
        refine ⟨_, rfl, _, rfl, _, _, rfl, rfl, ⟨by omega, lg⟩, ?_⟩
        have pc := hb.mp rfl
        rw [cT] at pc
        have c1 : 0 < c := by
          rcases Nat.eq_zero_or_pos c with z | z
          · subst z
            omega
          · exact z
        refine ⟨c, c, ?_, ?_, rfl, s56, c1, Nat.dvd_trans ⟨2 + i, by rw [Nat.mul_comm]; exact hc⟩ Td, pc, fun e h1 h2 => ?_⟩
        · rw [hc]
          have := Nat.mul_le_mul_right c (show 2 ≤ 2 + i by omega)
          omega
        · show [some (V.ref a), some (V.int ((T : Int) / ((2 : Int) + ((i : Nat) : Int)))), some (V.int (2 + (i : Nat))), none] = [some (V.ref a), some (V.int (c : Nat)), some (V.int (2 + (i : Nat))), none]
          rw [e6, cT]
        · have q := per_keep (d := 2 + i) (by omega) ⟨c, hc⟩ (hq e h1 h2)
          rw [cT] at q
          exact q
      | false =>
        refine iteF ⟨_, T, rfl, s56, T0, Td, hT5, fun e h1 h2 => ?_⟩
        by_cases q : e < 2 + i
        · exact hq e h1 q
        · have q2 : e = 2 + i := by omega
          subst q2
          rintro ⟨z1, z2⟩
          have := hb.mpr z2
          cases this
    · refine ⟨_, T, rfl, s5, T0, Td, hT5, fun e h1 h2 => ?_⟩
      by_cases q : e < 2 + i
      · exact hq e h1 q
      · have q2 : e = 2 + i := by omega
        subst q2
        rintro ⟨z1, z2⟩
        apply cc
        refine decide_eq_true ?_
        show V.int ((T : Int).fmod ((2 : Int) + ((i : Nat) : Int))) = V.int 0
        rw [e5, Nat.mod_eq_zero_of_dvd z1]
        rfl
  · rintro σ H3 ⟨w2, T, rfl, s3, T0, Td, hT3, hq⟩
    refine ⟨_, rfl, k T H3 (min_of ok2 T0 hT3 Td fun e h1 h2 => hq e h1 (show e < 2 + 63 by omega)) (Nat.le_trans (Nat.le_of_dvd (lcmN_pos L1) Td) LL) s3⟩
end
section
variable {P : Program} {w : World} {K : PySem.W.Frag} {mg : Str → Option Value} {base : Heap}
theorem okX_silent (T : Top K mg) : FnOk P w K mg base (L2.CX P w) 4 T.a_silent T.d_silent ["loops"] (sp_lengths_ofX K T.x_BadLoops.C T.x_OutOfPlace.C) := by
  refine T.F_silent.okX sc_silent (fun vs H Q E h => ?_) (fun cdv A outer s H vs Q E hr h => ?_)
  · obtain ⟨v, d, rfl, hv, k1, k2⟩ := h
    rfl
  obtain ⟨v, d, rfl, hv, k1, k2⟩ := h
  refine ⟨_, (pss_cons (ps_expr (pe_callS (okX_need_loops T) (hr.mono (by decide)) (by rfl) T.m_need_loops T.F_need_loops.kp T.b_need_loops (fun σ => passAt (takes_of rfl rfl rfl rfl) σ) (pa_cons (pv 0) pa_nil)))
      (pss_one (ps_ret (pe_cmpR op_isN (pe_call (ok_parted_at T) (hr.mono (by decide)) (by rfl) T.m_parted_at T.F_parted_at.kp T.b_parted_at .nil pass0 (pa_cons (pv 0) (pa_cons (pe_tup pa_nil) pa_nil))) pe_non (nomark _))))), ?_⟩
  refine ⟨_, rfl, v, d, rfl, hv, fun g H1 s1 => ?_, fun p g dd w H' s' hd' hp => k1 p g dd w H' s' hd' hp⟩
  obtain ⟨ls, hv0, ok, _⟩ := valid_dp hv g
  have hv := hv0
  have k : ∀ (b : Bool) H', (b = true ↔ isFirst ls [] none) → Same H H' → Q (.bl b) H' := fun b H' _ s => k2 g _ H' s
  refine ⟨_, rfl, (by show 0 ≤ sizeLine; decide), fun p hp => ?_⟩
  have s2 := s1.trans (same_upd hp (.tup []))
  refine ⟨v, .ref p, ls, [], rfl, hv.same_at s2, .tup (SqT.of upd_same) .nil, ok, ⟨by decide, by intro l hl; cases hl⟩, fun r H3 hf hb s3 => ⟨rfl, ?_⟩⟩
  refine k _ H3 ?_ (s2.trans s3)
  rw [opt_non]
  exact hf.non
end
section
variable {P : Program} {w : World} {K : PySem.W.Frag} {mg : Str → Option Value} {base : Heap}
theorem ok__law_outcome (T : Top K mg) : FnOk P w K mg base CX0 5 T.a__law_outcome T.d__law_outcome ["way", "loops", "x", "y"] (sp__law_outcome K) := by
  refine T.F__law_outcome.ok sc__law_outcome (fun vs H Q E h => ?_) (fun cdv A outer s H vs Q E hr h => ?_)
  · obtain ⟨way, v, x, y, d, e, f, rfl, hv, hx, hy, w0, w7, k⟩ := h
    rfl
  obtain ⟨way, v, x, y, d, e, f, rfl, hv, hx, hy, w0, w7, k⟩ := h
  refine ⟨_, (pss_cons (ps_set (i := 4) sc__law_outcome.nd rfl (Or.inl rfl) pe_non)
      (pss_cons (ps_try_two (i := 5) (tb := (fun W => (tIfS (tTest (tOp rEq (tVar 0) (tC (.int 0)))) (tDrop (tCallS (sp_heardX K T.x_BadLoops.C T.x_OutOfPlace.C) (WE W) (tCons (tVar 1) (tCons (tVar 2) tNil)))) (tIfS (tTest (tOp rEq (tVar 0) (tC (.int 1)))) (tDrop (tCallS (sp_heard_rowX K T.x_BadLoops.C T.x_OutOfPlace.C) (WE W) (tCons (tVar 1) (tCons (tVar 2) (tCons (tVar 3) tNil))))) (tIfS (tTest (tOp rEq (tVar 0) (tC (.int 2)))) (tDrop (tCallS (sp_heardX K T.x_BadLoops.C T.x_OutOfPlace.C) (WE W) (tCons (tVar 1) (tCons (tVar 2) tNil)))) (tIfS (tTest (tOp rEq (tVar 0) (tC (.int 3)))) (tDrop (tCallS (sp_lengths_ofX K T.x_BadLoops.C T.x_OutOfPlace.C) (WE W) (tCons (tVar 1) tNil))) (tIfS (tTest (tOp rEq (tVar 0) (tC (.int 4)))) (tDrop (tCallS (sp_first_apartX K T.x_BadLoops.C T.x_OutOfPlace.C) (WE W) (tCons (tVar 1) (tCons (tVar 2) tNil)))) (tIfS (tTest (tOp rEq (tVar 0) (tC (.int 5)))) (tDrop (tCallS (sp_lengths_ofX K T.x_BadLoops.C T.x_OutOfPlace.C) (WE W) (tCons (tVar 1) tNil))) (tDrop (tCallS (sp_lengths_ofX K T.x_BadLoops.C T.x_OutOfPlace.C) (WE W) (tCons (tVar 1) tNil))))))))))) (t1 := (fun a cls d => tAsg (tTup (tCons (tC (.str "loops")) (tCons (tXf a cls d T.x_BadLoops.C "place" (tVar 5)) tNil))) (gName 4))) (t2 := (fun a cls d => tAsg (tC (.str "place")) (gName 4))) (Wo := fun _ _ _ _ => False) rfl rfl sc__law_outcome.nd rfl rfl ⟨rfl, by decide, Or.inl T.x_BadLoops.m⟩ ⟨rfl, by decide, Or.inl T.x_OutOfPlace.m⟩ takes0 (fun W pn xe tk _ => (pss_one (ps_if (pt_cmpR op_eq (pv 0) pe_int (nomark _)) (pss_one (ps_expr (by exact (pe_callS (okX_heard T) (hr.mono (by decide)) (by rfl) T.m_heard T.F_heard.kp T.b_heard (fun σ => passAt tk σ) (by exact (pa_cons (pv 1) (pa_cons (pv 2) pa_nil))))))) (pss_one (ps_if (pt_cmpR op_eq (pv 0) pe_int (nomark _)) (pss_one (ps_expr (by exact (pe_callS (okX_heard_row T) (hr.mono (by decide)) (by rfl) T.m_heard_row T.F_heard_row.kp T.b_heard_row (fun σ => passAt tk σ) (by exact (pa_cons (pv 1) (pa_cons (pv 2) (pa_cons (pv 3) pa_nil)))))))) (pss_one (ps_if (pt_cmpR op_eq (pv 0) pe_int (nomark _)) (pss_one (ps_expr (by exact (pe_callS (okX_later T) (hr.mono (by decide)) (by rfl) T.m_later T.F_later.kp T.b_later (fun σ => passAt tk σ) (by exact (pa_cons (pv 1) (pa_cons (pv 2) pa_nil))))))) (pss_one (ps_if (pt_cmpR op_eq (pv 0) pe_int (nomark _)) (pss_one (ps_expr (by exact (pe_callS (okX_lengths_of T) (hr.mono (by decide)) (by rfl) T.m_lengths_of T.F_lengths_of.kp T.b_lengths_of (fun σ => passAt tk σ) (by exact (pa_cons (pv 1) pa_nil)))))) (pss_one (ps_if (pt_cmpR op_eq (pv 0) pe_int (nomark _)) (pss_one (ps_expr (by exact (pe_callS (okX_first_apart T) (hr.mono (by decide)) (by rfl) T.m_first_apart T.F_first_apart.kp T.b_first_apart (fun σ => passAt tk σ) (by exact (pa_cons (pv 1) (pa_cons (pv 2) pa_nil))))))) (pss_one (ps_if (pt_cmpR op_eq (pv 0) pe_int (nomark _)) (pss_one (ps_expr (by exact (pe_callS (okX_period T) (hr.mono (by decide)) (by rfl) T.m_period T.F_period.kp T.b_period (fun σ => passAt tk σ) (by exact (pa_cons (pv 1) pa_nil)))))) (pss_one (ps_expr (by exact (pe_callS (okX_silent T) (hr.mono (by decide)) (by rfl) T.m_silent T.F_silent.kp T.b_silent (fun σ => passAt tk σ) (by exact (pa_cons (pv 1) pa_nil))))))))))))))))))) (fun a oe cls d pn hz hf => pss_one (ps_set (i := 4) sc__law_outcome.nd rfl (Or.inl rfl) (by exact (pe_tup (pa_cons pe_str (pa_cons (pe_xf T.x_BadLoops.xf T.x_BadLoops.nf hz hf (pv 5)) pa_nil)))))) (fun a oe cls d pn hz hf => pss_one (ps_set (i := 4) sc__law_outcome.nd rfl (Or.inl rfl) pe_str)))
      (pss_one (ps_ret (pv 4))))), ?_⟩
  refine ⟨_, rfl, rfl, _, rfl, ?_⟩
  refine ite2 (fun cc => ?_) (fun cc => ?_)
  · have ew : way = 0 := by simpa using of_decide_eq_true cc
    subst ew
    refine ⟨_, rfl, _, rfl, v, x, d, e, rfl, hv, hx, fun p g dd w' H1 s1 hd hp => ?_, fun g ge H1 s1 => ?_, fun g ge u H1 s1 => ?_⟩
    · refine ⟨true, T.x_BadLoops.te, fun _ a ha => ?_, fun q => Bool.noConfusion q⟩
      refine ⟨_, rfl, rfl, rfl, dd, [("place", w')], w', rfl, hd, by simp [List.lookup], (by show 2 ≤ sizeLine; decide), fun p' hp' => ?_⟩
      have s2 := same_upd hp' (.tup [.str "loops", w'])
      refine ⟨_, rfl, k _ _ (s1.trans s2) ?_⟩
      rw [want_L g]
      exact .tup (SqT.of upd_same) (.cons (.str _) (.cons (hp.same_at s2) .nil))
    · refine ⟨false, T.y_OutOfPlace_BadLoops, fun q => Bool.noConfusion q, fun _ => ⟨true, T.x_OutOfPlace.te, fun _ a ha => ?_, fun q => Bool.noConfusion q⟩⟩
      refine ⟨_, rfl, k _ _ s1 ?_⟩
      rw [want_0 g (by decide), ge, if_neg (by decide)]
      exact .str _
    · refine ⟨_, rfl, k _ _ s1 ?_⟩
      rw [want_0 g (by decide), ge, if_pos rfl]
      exact .non
  · have n0 : way ≠ 0 := fun z => cc (by rw [z]; exact decide_eq_true rfl)
    refine ⟨_, rfl, rfl, _, rfl, ?_⟩
    refine ite2 (fun cc => ?_) (fun cc => ?_)
    · have ew : way = 1 := by simpa using of_decide_eq_true cc
      subst ew
      refine ⟨_, rfl, _, rfl, _, rfl, v, x, y, d, e, f, rfl, hv, hx, hy, fun p g dd w' H1 s1 hd hp => ?_, fun g ge H1 s1 => ?_, fun g ge u H1 s1 => ?_⟩
      · refine ⟨true, T.x_BadLoops.te, fun _ a ha => ?_, fun q => Bool.noConfusion q⟩
        refine ⟨_, rfl, rfl, rfl, dd, [("place", w')], w', rfl, hd, by simp [List.lookup], (by show 2 ≤ sizeLine; decide), fun p' hp' => ?_⟩
        have s2 := same_upd hp' (.tup [.str "loops", w'])
        refine ⟨_, rfl, k _ _ (s1.trans s2) ?_⟩
        rw [want_L g]
        exact .tup (SqT.of upd_same) (.cons (.str _) (.cons (hp.same_at s2) .nil))
      · refine ⟨false, T.y_OutOfPlace_BadLoops, fun q => Bool.noConfusion q, fun _ => ⟨true, T.x_OutOfPlace.te, fun _ a ha => ?_, fun q => Bool.noConfusion q⟩⟩
        refine ⟨_, rfl, k _ _ s1 ?_⟩
        rw [want_1 g, ge, if_neg (by decide)]
        exact .str _
      · refine ⟨_, rfl, k _ _ s1 ?_⟩
        rw [want_1 g, ge, if_pos rfl]
        exact .non
    · have n1 : way ≠ 1 := fun z => cc (by rw [z]; exact decide_eq_true rfl)
      refine ⟨_, rfl, rfl, _, rfl, ?_⟩
      refine ite2 (fun cc => ?_) (fun cc => ?_)
      · have ew : way = 2 := by simpa using of_decide_eq_true cc
        subst ew
        refine ⟨_, rfl, _, rfl, v, x, d, e, rfl, hv, hx, fun p g dd w' H1 s1 hd hp => ?_, fun g ge H1 s1 => ?_, fun g ge u H1 s1 => ?_⟩
        · refine ⟨true, T.x_BadLoops.te, fun _ a ha => ?_, fun q => Bool.noConfusion q⟩
          refine ⟨_, rfl, rfl, rfl, dd, [("place", w')], w', rfl, hd, by simp [List.lookup], (by show 2 ≤ sizeLine; decide), fun p' hp' => ?_⟩
          have s2 := same_upd hp' (.tup [.str "loops", w'])
          refine ⟨_, rfl, k _ _ (s1.trans s2) ?_⟩
          rw [want_L g]
          exact .tup (SqT.of upd_same) (.cons (.str _) (.cons (hp.same_at s2) .nil))
        · refine ⟨false, T.y_OutOfPlace_BadLoops, fun q => Bool.noConfusion q, fun _ => ⟨true, T.x_OutOfPlace.te, fun _ a ha => ?_, fun q => Bool.noConfusion q⟩⟩
          refine ⟨_, rfl, k _ _ s1 ?_⟩
          rw [want_0 g (by decide), ge, if_neg (by decide)]
          exact .str _
        · refine ⟨_, rfl, k _ _ s1 ?_⟩
          rw [want_0 g (by decide), ge, if_pos rfl]
          exact .non
      · have n2 : way ≠ 2 := fun z => cc (by rw [z]; exact decide_eq_true rfl)
        refine ⟨_, rfl, rfl, _, rfl, ?_⟩
        refine ite2 (fun cc => ?_) (fun cc => ?_)
        · have ew : way = 3 := by simpa using of_decide_eq_true cc
          subst ew
          refine ⟨_, rfl, v, d, rfl, hv, fun p g dd w' H1 s1 hd hp => ?_, fun g u H1 s1 => ?_⟩
          · refine ⟨true, T.x_BadLoops.te, fun _ a ha => ?_, fun q => Bool.noConfusion q⟩
            refine ⟨_, rfl, rfl, rfl, dd, [("place", w')], w', rfl, hd, by simp [List.lookup], (by show 2 ≤ sizeLine; decide), fun p' hp' => ?_⟩
            have s2 := same_upd hp' (.tup [.str "loops", w'])
            refine ⟨_, rfl, k _ _ (s1.trans s2) ?_⟩
            rw [want_L g]
            exact .tup (SqT.of upd_same) (.cons (.str _) (.cons (hp.same_at s2) .nil))
          · refine ⟨_, rfl, k _ _ s1 ?_⟩
            rw [want_n g (by decide)]
            exact .non
        · have n3 : way ≠ 3 := fun z => cc (by rw [z]; exact decide_eq_true rfl)
          refine ⟨_, rfl, rfl, _, rfl, ?_⟩
          refine ite2 (fun cc => ?_) (fun cc => ?_)
          · have ew : way = 4 := by simpa using of_decide_eq_true cc
            subst ew
            refine ⟨_, rfl, _, rfl, v, x, d, e, rfl, hv, hx, fun p g dd w' H1 s1 hd hp => ?_, fun g p g2 dd w' H1 s1 hd hp => ?_, fun g g2 u H1 s1 => ?_⟩
            · refine ⟨true, T.x_BadLoops.te, fun _ a ha => ?_, fun q => Bool.noConfusion q⟩
              refine ⟨_, rfl, rfl, rfl, dd, [("place", w')], w', rfl, hd, by simp [List.lookup], (by show 2 ≤ sizeLine; decide), fun p' hp' => ?_⟩
              have s2 := same_upd hp' (.tup [.str "loops", w'])
              refine ⟨_, rfl, k _ _ (s1.trans s2) ?_⟩
              rw [want_L g]
              exact .tup (SqT.of upd_same) (.cons (.str _) (.cons (hp.same_at s2) .nil))
            · refine ⟨true, T.x_BadLoops.te, fun _ a ha => ?_, fun q => Bool.noConfusion q⟩
              refine ⟨_, rfl, rfl, rfl, dd, [("place", w')], w', rfl, hd, by simp [List.lookup], (by show 2 ≤ sizeLine; decide), fun p' hp' => ?_⟩
              have s2 := same_upd hp' (.tup [.str "loops", w'])
              refine ⟨_, rfl, k _ _ (s1.trans s2) ?_⟩
              rw [want_4 g, g2]
              exact .tup (SqT.of upd_same) (.cons (.str _) (.cons (hp.same_at s2) .nil))
            · refine ⟨_, rfl, k _ _ s1 ?_⟩
              rw [want_4 g, g2]
              exact .non
          · have n4 : way ≠ 4 := fun z => cc (by rw [z]; exact decide_eq_true rfl)
            refine ⟨_, rfl, rfl, _, rfl, ?_⟩
            refine ite2 (fun cc => ?_) (fun cc => ?_)
            · have ew : way = 5 := by simpa using of_decide_eq_true cc
              subst ew
              refine ⟨_, rfl, v, d, rfl, hv, fun p g dd w' H1 s1 hd hp => ?_, fun g u H1 s1 => ?_⟩
              · refine ⟨true, T.x_BadLoops.te, fun _ a ha => ?_, fun q => Bool.noConfusion q⟩
                refine ⟨_, rfl, rfl, rfl, dd, [("place", w')], w', rfl, hd, by simp [List.lookup], (by show 2 ≤ sizeLine; decide), fun p' hp' => ?_⟩
                have s2 := same_upd hp' (.tup [.str "loops", w'])
                refine ⟨_, rfl, k _ _ (s1.trans s2) ?_⟩
                rw [want_L g]
                exact .tup (SqT.of upd_same) (.cons (.str _) (.cons (hp.same_at s2) .nil))
              · refine ⟨_, rfl, k _ _ s1 ?_⟩
                rw [want_n g (by decide)]
                exact .non
            · have n5 : way ≠ 5 := fun z => cc (by rw [z]; exact decide_eq_true rfl)
              have e6 : way = 6 := by omega
              subst e6
              refine ⟨_, rfl, v, d, rfl, hv, fun p g dd w' H1 s1 hd hp => ?_, fun g u H1 s1 => ?_⟩
              · refine ⟨true, T.x_BadLoops.te, fun _ a ha => ?_, fun q => Bool.noConfusion q⟩
                refine ⟨_, rfl, rfl, rfl, dd, [("place", w')], w', rfl, hd, by simp [List.lookup], (by show 2 ≤ sizeLine; decide), fun p' hp' => ?_⟩
                have s2 := same_upd hp' (.tup [.str "loops", w'])
                refine ⟨_, rfl, k _ _ (s1.trans s2) ?_⟩
                rw [want_L g]
                exact .tup (SqT.of upd_same) (.cons (.str _) (.cons (hp.same_at s2) .nil))
              · refine ⟨_, rfl, k _ _ s1 ?_⟩
                rw [want_n g (by decide)]
                exact .non
end
end My

namespace My
open PySem PySem.Spec PyProof.Rows L2
theorem loopsT_get {ls : List (List Int)} {j : Nat} {y : Dt} (h : (loopsT ls)[j]? = some y) : ∃ l, ls[j]? = some l ∧ y = .tup (l.map Dt.int) := by
  unfold loopsT at h
  rw [List.getElem?_map] at h
  cases e : ls[j]? with
  | none =>
    rw [e] at h
    cases h
  | some l =>
    rw [e] at h
    exact ⟨l, rfl, (Option.some.inj h).symm⟩
theorem valid_loops {ls : List (List Int)} (h : OkL ls) : faultOf (.tup (loopsT ls)) = none := by
  refine fault0 (by unfold loopsT; rw [List.length_map]; have := h.1; omega) (fun j y hy => ?_) (fun j y hy => ?_)
  · obtain ⟨l, hl, rfl⟩ := loopsT_get hy
    obtain ⟨a, b⟩ := h.2 l (List.mem_of_getElem? hl)
    show (!(decide (1 ≤ (l.map Dt.int).length) && decide ((l.map Dt.int).length ≤ 64))) = false
    rw [List.length_map, decide_eq_true a, decide_eq_true b]
    rfl
  · obtain ⟨l, hl, rfl⟩ := loopsT_get hy
    refine fi_none fun k z hz => ?_
    rw [List.getElem?_map] at hz
    cases e : l[k]? with
    | none =>
      rw [e] at hz
      cases hz
    | some i =>
      rw [e] at hz
      cases hz
      rfl
def Pr (K : PySem.W.Frag) (H : Hp) (v : V) (d : Dt) (p : List Nat) : Prop := ∃ (pa : Addr) (x y : V), v = .ref pa ∧ SqT K H pa [x, y] ∧ Rp K H (fun _ => True) x d ∧ Dp K H y (placeD p) ∧ faultOf d = some p
theorem Pr.same {K : PySem.W.Frag} {H H' : Hp} {v : V} {d : Dt} {p : List Nat} (h : Pr K H v d p) (s : Same H H') : Pr K H' v d p := by
  obtain ⟨pa, x, y, e, h1, h2, h3, h4⟩ := h
  exact ⟨pa, x, y, e, Same.tk s _ _ h1, h2.same s, h3.same_at s, h4⟩
theorem Pr.new {K : PySem.W.Frag} {H : Hp} {pa : Addr} {x y : V} {d : Dt} {p : List Nat} (hp : H pa = none) (hx : Rp K H (fun _ => True) x d) (hy : Dp K H y (placeD p)) (g : faultOf d = some p) : Pr K (upd H pa (.tup [x, y])) (.ref pa) d p :=
  ⟨pa, x, y, rfl, SqT.of upd_same, hx.same (same_upd hp _), hy.same_at (same_upd hp _), g⟩
theorem go_rep {o : PyData} (h : tupOnly o = true) : ∀ n, tupOnly.go (List.replicate n o) = true
  | 0 => rfl
  | n + 1 => by
    rw [List.replicate_succ]
    show (tupOnly o && tupOnly.go (List.replicate n o)) = true
    rw [h, go_rep h n]
    rfl
theorem step_out {K : PySem.W.Frag} {H : Hp} {D : Addr} {ys : List V} {w : V} {o : PyData} {j : Nat} (hA : H D = some (.lst ys)) (hY : DpAll K H ys (List.replicate j o)) (hw : Dp K H w o) (ho : tupOnly o = true) :
    DpAll K (upd H D (.lst (ys ++ [w]))) (ys ++ [w]) (List.replicate (j + 1) o) := by
  rw [List.replicate_succ']
  exact (DpAll.keepT (tk_upd hA) _ _ (go_rep ho j) hY).app (.cons (Dp.keepT (tk_upd hA) _ _ ho hw) .nil)
theorem rep_dp {K : PySem.W.Frag} {H : Hp} {x : V} {o : PyData} (h : Dp K H x o) : ∀ n : Nat, DpAll K H (List.replicate n [x]).flatten (List.replicate n o)
  | 0 => .nil
  | n + 1 => by
    rw [List.replicate_succ, List.flatten_cons, List.replicate_succ]
    exact .cons h (rep_dp h n)
theorem lay_rep {o : PyData} (h : o.canLay0 = true) : ∀ n, PyData.canLayAll0 (List.replicate n o) = true
  | 0 => rfl
  | n + 1 => by
    rw [List.replicate_succ]
    show (o.canLay0 && PyData.canLayAll0 (List.replicate n o)) = true
    rw [h, lay_rep h n]
    rfl
theorem deep_rep {o : PyData} {b : Nat} (h : o.depth ≤ b) : ∀ n, PyData.depthAll (List.replicate n o) ≤ b
  | 0 => Nat.zero_le _
  | n + 1 => by
    rw [List.replicate_succ]
    show max o.depth (PyData.depthAll (List.replicate n o)) ≤ b
    have := deep_rep h n
    omega
theorem sh_rep {o : PyData} (h : o.canLay0 = true) (g : o.depth ≤ 10) (n : Nat) : SeqAt.shaped (.list (List.replicate n o)) = true := by
  have a : (PyData.list (List.replicate n o)).canLay0 = true := lay_rep h n
  have b : (PyData.list (List.replicate n o)).depth ≤ 64 := by
    show PyData.depthAll (List.replicate n o) + 1 ≤ 64
    have := deep_rep g n
    omega
  show ((PyData.list (List.replicate n o)).canLay0 && decide ((PyData.list (List.replicate n o)).depth ≤ 64)) = true
  rw [a, decide_eq_true b]
  rfl
theorem out_lay (p : List Nat) : (outP p).canLay0 = true ∧ (outP p).depth ≤ 10 ∧ tupOnly (outP p) = true := by
  have a := shaped_dInts (p.map fun n : Nat => (n : Int))
  have a1 : (placeD p).canLay0 = true := (Bool.and_eq_true_iff.mp a).1
  refine ⟨?_, ?_, ?_⟩
  · show (PyData.canLay0 (.str "loops") && ((placeD p).canLay0 && true)) = true
    rw [a1]
    decide +kernel
  · have d : (placeD p).depth ≤ 2 := by
      show PyData.depthAll ((p.map fun n : Nat => (n : Int)).map PyData.int) + 1 ≤ 2
      have go : ∀ xs : List Int, PyData.depthAll (xs.map PyData.int) ≤ 1 := fun xs => by
        induction xs with
        | nil => exact Nat.zero_le _
        | cons x r ih =>
          show max (PyData.depth (.int x)) (PyData.depthAll (r.map PyData.int)) ≤ 1
          have e : PyData.depth (.int x) ≤ 1 := by
            show (_ : Nat) ≤ 1
            simp [PyData.depth]
          omega
      have := go (p.map fun n : Nat => (n : Int))
      omega
    show max (PyData.depth (.str "loops")) (max (placeD p).depth 0) + 1 ≤ 10
    have e : PyData.depth (.str "loops") ≤ 1 := by simp [PyData.depth]
    omega
  · show (true && (tupOnly.go ((p.map fun n : Nat => (n : Int)).map PyData.int) && true)) = true
    rw [to_ints]
    rfl
theorem ne_self {d : PyData} (h : SeqAt.shaped d = true) : PyData.eqv d d = true := SeqAt.eqv_refl d (Bool.and_eq_true_iff.mp h).1
theorem min3' (z : Int) (h : 0 ≤ z) : 0 ≤ (if (3 : Int) < z then 3 else z) ∧ (if (3 : Int) < z then 3 else z) ≤ 3 := by
  split <;> omega
theorem fault_parts {ds : List Dt} (h : faultOf (.tup ds) = none) (j : Nat) (y : Dt) (hy : ds[j]? = some y) : badLoop y = false ∧ firstBad y = none := (fault_none h).2 y (List.mem_of_getElem? hy)
/-- a wrong thing behind loops -/
theorem fault_last {ds : List Dt} {y : Dt} (h : faultOf (.tup ds) = none) (l : ds.length ≤ 5) (b : badLoop y = true) : faultOf (.tup (ds ++ [y])) = some [ds.length] := by
  refine fault1 (x := y) (by rw [List.length_append, List.length_singleton]; omega) (by rw [List.getElem?_append_right (Nat.le_refl _), Nat.sub_self]; rfl) b fun j z hj hz => ?_
  rw [List.getElem?_append_left hj] at hz
  exact (fault_parts h j z hz).1
theorem fault_in {ds : List Dt} {y : Dt} {k : Nat} (h : faultOf (.tup ds) = none) (l : ds.length ≤ 5) (b : badLoop y = false) (f : firstBad y = some k) : faultOf (.tup (ds ++ [y])) = some [ds.length, k] := by
  refine fault2 (x := y) (by rw [List.length_append, List.length_singleton]; omega) (fun j z hz => ?_) (by rw [List.getElem?_append_right (Nat.le_refl _), Nat.sub_self]; rfl) f fun j z hj hz => ?_
  · by_cases q : j < ds.length
    · rw [List.getElem?_append_left q] at hz
      exact (fault_parts h j z hz).1
    · rw [List.getElem?_append_right (by omega)] at hz
      cases e : j - ds.length with
      | zero =>
        rw [e] at hz
        cases hz
        exact b
      | succ k =>
        rw [e] at hz
        cases hz
  · rw [List.getElem?_append_left hj] at hz
    exact (fault_parts h j z hz).2
theorem fault_many {ds es : List Dt} (l : 7 ≤ es.length) : faultOf (.tup (ds ++ es)) = some [] := fault6 (by rw [List.length_append]; omega)
theorem lst_newX {H : Hp} {p : Addr} (h : H p = none) (xs : List V) : upd H p (.lst xs) p = some (.lst xs) := upd_same
def Bun (K : PySem.W.Frag) (H : Hp) (la : Addr) (ls : List (List Int)) (SY : Addr) (vals : List V) (m : Addr) (n : Nat) : Prop :=
  Rp K H (fun _ => True) (.ref la) (.tup (loopsT ls)) ∧ SqL K H SY vals ∧ (∀ v ∈ vals, ∃ d p, Pr K H v d p) ∧ MS H m n
theorem sh_out (p : List Nat) : SeqAt.shaped (outP p) = true := by
  obtain ⟨a, b, _⟩ := out_lay p
  show ((outP p).canLay0 && decide ((outP p).depth ≤ 64)) = true
  rw [a, decide_eq_true (show (outP p).depth ≤ 64 by omega)]
  rfl
section
variable {P : Program} {w : World} {K : PySem.W.Frag} {mg : Str → Option Value} {base : Heap}
theorem ok_law (T : Top K mg) : FnOk P w K mg base CX0 6 T.a_law T.d_law ["script"] (sp_law K) := by
  refine T.F_law.ok sc_law (fun vs H Q E h => ?_) (fun cdv A outer s H vs Q E hr h => ?_)
  · obtain ⟨a, ns, rfl, hS, hl, q⟩ := h
    rfl
  obtain ⟨a, ns, rfl, hS, hl, q⟩ := h
  refine ⟨_, (pss_cons (ps_set (i := 1) sc_law.nd rfl (Or.inl rfl) (pe_call (ok__law_begun T) (hr.mono (by decide)) (by rfl) T.m__law_begun T.F__law_begun.kp T.b__law_begun .nil pass0 (pa_cons (pv 0) pa_nil)))
      (pss_cons (ps_for PassesOwn.never rfl (pi_range1 (by rfl) T.z_range (pa_cons (pe_op op_add pe_int (pe_callB (call_min2 rfl) (by rfl) T.z_min bt_min (pa_cons (pe_callB (k_len (K := K)) (by rfl) T.z_len bt_len (pa_cons (pv 0) pa_nil)) (pa_cons pe_int pa_nil)))) pa_nil)) (pg_name (i := 2) sc_law.nd rfl (Or.inl rfl)) (pss_cons (ps_set (i := 3) sc_law.nd rfl (Or.inr rfl) (pe_call (ok__law_loops_of T) (hr.mono (by decide)) (by rfl) T.m__law_loops_of T.F__law_loops_of.kp T.b__law_loops_of .nil pass0 (pa_cons (pv 1) (pa_cons (pe_call (ok__law_lengths T) (hr.mono (by decide)) (by rfl) T.m__law_lengths T.F__law_lengths.kp T.b__law_lengths .nil pass0 (pa_cons (pv 1) (pa_cons pe_int (pa_cons pe_int pa_nil)))) pa_nil))))
      (pss_cons (ps_set (i := 4) sc_law.nd rfl (Or.inl rfl) (pe_callB (k_len (K := K)) (by rfl) T.z_len bt_len (pa_cons (pv 3) pa_nil)))
      (pss_cons (ps_set (i := 5) sc_law.nd rfl (Or.inl rfl) (pe_lst (pa_cons (pe_tup (pa_cons pe_non (pa_cons (pe_tup pa_nil) pa_nil))) (pa_cons (pe_tup (pa_cons pe_int (pa_cons (pe_tup pa_nil) pa_nil))) (pa_cons (pe_tup (pa_cons (pe_callTy (k_list (K := K)) (by rfl) T.z_list bt_list (pa_cons (pv 3) pa_nil)) (pa_cons (pe_tup pa_nil) pa_nil))) (pa_cons (pe_tup (pa_cons (pe_op (k_catT (K := K)) (pv 3) (pe_op (op_repA (K := K)) (pe_tup (pa_cons (pe_tup (pa_cons pe_int pa_nil)) pa_nil)) pe_int)) (pa_cons (pe_tup pa_nil) pa_nil))) (pa_cons (pe_tup (pa_cons (pe_op (k_catT (K := K)) (pv 3) (pe_tup (pa_cons (pe_tup pa_nil) pa_nil))) (pa_cons (pe_tup (pa_cons (pv 4) pa_nil)) pa_nil))) pa_nil)))))))
      (pss_cons (ps_set (i := 5) sc_law.nd rfl (Or.inl rfl) (pe_op op_cat (pv 5) (pe_lst (pa_cons (pe_tup (pa_cons (pe_op (k_catT (K := K)) (pv 3) (pe_tup (pa_cons (pe_tup (pa_cons pe_int (pa_cons pe_non pa_nil))) pa_nil))) (pa_cons (pe_tup (pa_cons (pv 4) (pa_cons pe_int pa_nil))) pa_nil))) (pa_cons (pe_tup (pa_cons (pe_op (k_catT (K := K)) (pv 3) (pe_tup (pa_cons (pe_tup (pa_cons pe_bl pa_nil)) pa_nil))) (pa_cons (pe_tup (pa_cons (pv 4) (pa_cons pe_int pa_nil))) pa_nil))) (pa_cons (pe_tup (pa_cons (pe_op (k_catT (K := K)) (pv 3) (pe_tup (pa_cons pe_int pa_nil))) (pa_cons (pe_tup (pa_cons (pv 4) pa_nil)) pa_nil))) pa_nil))))))
      (pss_cons (ps_for PassesOwn.never rfl (k_piL (K := K) (pv 5)) (pg_tup rfl (pgs_cons (pg_name (i := 6) sc_law.nd rfl (Or.inr rfl)) (pgs_cons (pg_name (i := 7) sc_law.nd rfl (Or.inl rfl)) pgs_nil))) (pss_cons (ps_if (pt_cmpR (k_neD (K := K) hr.units) (pe_lc (own := [("way", 8)]) rfl sc_law.nd (pi_range1 (by rfl) T.z_range (pa_cons pe_int pa_nil)) (blkOk_by (own := [("way", 8)]) (N := ["script", "m", "turn", "loops", "at", "some", "thing", "due", "way"]) (sc := defScope s_law) (by decide +kernel)) (fun _ _ _ _ _ => (pg_name (i := 8) sc_law.nd rfl (Or.inl rfl))) (fun _ _ _ _ _ => pts_nil) (fun _ _ _ _ _ => (pe_call (ok__law_outcome T) (hr.mono (by decide)) (by rfl) T.m__law_outcome T.F__law_outcome.kp T.b__law_outcome .nil pass0 (pa_cons (pv 8) (pa_cons (pv 6) (pa_cons pe_non (pa_cons pe_non pa_nil))))))) (pe_op op_rep (pe_lst (pa_cons (pe_tup (pa_cons pe_str (pa_cons (pv 7) pa_nil))) pa_nil)) pe_int) (nomark _)) (pss_one (ps_ret pe_bl)) pss_nil)
      (pss_one (ps_if (pt_cmpR (k_neD (K := K) hr.units) (pe_call (ok__law_outcome T) (hr.mono (by decide)) (by rfl) T.m__law_outcome T.F__law_outcome.kp T.b__law_outcome .nil pass0 (pa_cons pe_int (pa_cons (pv 3) (pa_cons (pv 6) (pa_cons pe_non pa_nil))))) (pe_tup (pa_cons pe_str (pa_cons (pv 7) pa_nil))) (nomark _)) (pss_one (ps_ret pe_bl)) pss_nil))))
      (pss_cons (ps_for PassesOwn.never rfl (k_piL (K := K) (pe_lst (pa_cons (pe_un un_neg pe_int) (pa_cons (pe_op op_add (pe_op op_pow pe_int pe_int) pe_int) (pa_cons pe_non (pa_cons pe_bl (pa_cons pe_str (pa_cons (pe_tup (pa_cons pe_int pa_nil)) (pa_cons (pe_lst (pa_cons pe_int pa_nil)) pa_nil))))))))) (pg_name (i := 6) sc_law.nd rfl (Or.inr rfl)) (pss_one (ps_if (pt_cmpR (k_neD (K := K) hr.units) (pe_lc (own := [("way", 8)]) rfl sc_law.nd (pi_range1 (by rfl) T.z_range (pa_cons pe_int pa_nil)) (blkOk_by (own := [("way", 8)]) (N := ["script", "m", "turn", "loops", "at", "some", "thing", "due", "way"]) (sc := defScope s_law) (by decide +kernel)) (fun _ _ _ _ _ => (pg_name (i := 8) sc_law.nd rfl (Or.inl rfl))) (fun _ _ _ _ _ => pts_nil) (fun _ _ _ _ _ => (pe_call (ok__law_outcome T) (hr.mono (by decide)) (by rfl) T.m__law_outcome T.F__law_outcome.kp T.b__law_outcome .nil pass0 (pa_cons (pv 8) (pa_cons (pv 3) (pa_cons (pv 6) (pa_cons pe_non pa_nil))))))) (pe_op op_rep (pe_lst (pa_cons pe_str pa_nil)) pe_int) (nomark _)) (pss_one (ps_ret pe_bl)) pss_nil)))
      (pss_cons (ps_for PassesOwn.never rfl (k_piL (K := K) (pe_lst (pa_cons (pe_un un_neg pe_int) (pa_cons pe_int (pa_cons pe_non (pa_cons pe_bl (pa_cons pe_str (pa_cons (pe_tup (pa_cons pe_int pa_nil)) (pa_cons (pe_lst (pa_cons pe_int pa_nil)) pa_nil))))))))) (pg_name (i := 6) sc_law.nd rfl (Or.inr rfl)) (pss_one (ps_if (pt_cmpR op_ne (pe_call (ok__law_outcome T) (hr.mono (by decide)) (by rfl) T.m__law_outcome T.F__law_outcome.kp T.b__law_outcome .nil pass0 (pa_cons pe_int (pa_cons (pv 3) (pa_cons pe_int (pa_cons (pv 6) pa_nil))))) pe_str (nomark _)) (pss_one (ps_ret pe_bl)) pss_nil)))
      (pss_cons (ps_if (pt_cmpR (k_neD (K := K) hr.units) (pe_lc (own := [("way", 8)]) rfl sc_law.nd (pi_range1 (by rfl) T.z_range (pa_cons pe_int pa_nil)) (blkOk_by (own := [("way", 8)]) (N := ["script", "m", "turn", "loops", "at", "some", "thing", "due", "way"]) (sc := defScope s_law) (by decide +kernel)) (fun _ _ _ _ _ => (pg_name (i := 8) sc_law.nd rfl (Or.inl rfl))) (fun _ _ _ _ _ => pts_nil) (fun _ _ _ _ _ => (pe_call (ok__law_outcome T) (hr.mono (by decide)) (by rfl) T.m__law_outcome T.F__law_outcome.kp T.b__law_outcome .nil pass0 (pa_cons (pv 8) (pa_cons (pv 3) (pa_cons (pe_op op_pow pe_int pe_int) (pa_cons pe_int pa_nil))))))) (pe_op op_rep (pe_lst (pa_cons pe_non pa_nil)) pe_int) (nomark _)) (pss_one (ps_ret pe_bl)) pss_nil)
      (pss_one (ps_if (pt_cmpR (k_neD (K := K) hr.units) (pe_lc (own := [("way", 8)]) rfl sc_law.nd (pi_range2 (by rfl) T.z_range (pa_cons pe_int (pa_cons pe_int pa_nil))) (blkOk_by (own := [("way", 8)]) (N := ["script", "m", "turn", "loops", "at", "some", "thing", "due", "way"]) (sc := defScope s_law) (by decide +kernel)) (fun _ _ _ _ _ => (pg_name (i := 8) sc_law.nd rfl (Or.inl rfl))) (fun _ _ _ _ _ => pts_nil) (fun _ _ _ _ _ => (pe_call (ok__law_outcome T) (hr.mono (by decide)) (by rfl) T.m__law_outcome T.F__law_outcome.kp T.b__law_outcome .nil pass0 (pa_cons (pv 8) (pa_cons (pv 3) (pa_cons (pv 3) (pa_cons pe_int pa_nil))))))) (pe_op op_rep (pe_lst (pa_cons pe_non pa_nil)) pe_int) (nomark _)) (pss_one (ps_ret pe_bl)) pss_nil)))))))))))
      (pss_one (ps_ret pe_bl)))), ?_⟩
  refine ⟨_, rfl, a, ns, rfl, hS, hl, fun m H1 s1 M1 => ?_⟩
  have hmin := min3' (((ns.map V.int).length : Nat) : Int) (by omega)
  refine ⟨_, rfl, a, _, rfl, .inl (s1.seq hS), _, _, rfl, _, _, rfl, rfl, _, rfl, by omega, by omega, ?_⟩
  refine for_it walk_range (fun i σ H' => ∃ (n : Nat) (w2 w3 w4 w5 w6 w7 w8 : Option V), σ = [some (.ref a), some (.ref m), w2, w3, w4, w5, w6, w7, w8] ∧ MS H' m n ∧ n ≤ 300000 * i)
    ⟨0, none, none, none, none, none, none, none, rfl, M1, by omega⟩ (fun _ _ _ _ _ => trivial) ?_ ?_
  · rintro i x σ H2 H3 hi ⟨n, w2, w3, w4, w5, w6, w7, w8, rfl, M2, hn⟩ ⟨rfl, rfl⟩
    have hi7 : i < 7 := by omega
    refine ⟨_, rfl, _, rfl, m, 5, 12, n, rfl, M2, by decide, by decide, by decide, by decide, by omega, fun v5 ds n5 H5 hd5 hl5 hb5 hn5 M5 e5 => ?_⟩
    refine ⟨m, v5, ds, n5, rfl, hd5, by omega, (fun z hz => by have := hb5 z hz; omega), M5, by omega, fun v6 ls n6 H6 hd6 hm6 hb6 hn6 M6 e6 => ?_⟩
    have ok6 : OkL ls := by
      have e := congrArg List.length hm6
      rw [List.length_map] at e
      refine ⟨by omega, fun l hl => ?_⟩
      have := hb5 _ (hm6 ▸ List.mem_map_of_mem hl : (l.length : Int) ∈ ds)
      omega
    have l5 : ls.length ≤ 5 := by
      have e := congrArg List.length hm6
      rw [List.length_map] at e
      omega
    obtain ⟨la, xs, rfl, hTl, hX⟩ := hd6.tuple
    have gl := valid_loops ok6
    have lL : (loopsT ls).length = ls.length := by unfold loopsT; rw [List.length_map]
    have W : Rp K H6 (fun _ => True) (.ref la) (.tup (loopsT ls)) := .tup hTl (loops_rp hX fun l hl z hz => nb_small (hb6 l hl z hz))
    have xl : xs.length = ls.length := by have := hX.len; rw [List.length_map] at this; exact this
    have bad : ∀ (j : Nat) (y : Dt), (loopsT ls)[j]? = some y → badLoop y = false ∧ firstBad y = none := fault_parts gl
    have My := M6
    refine ⟨_, rfl, la, _, rfl, .inr hTl, ?_⟩
    have at0 : ((xs.length : Nat) : Int) = ((ls.length : Nat) : Int) := by rw [xl]
    refine ⟨(by show 0 ≤ sizeLine; decide), fun e1 he1 => ⟨(by show 2 ≤ sizeLine; decide), fun p1 hp1 => ?_⟩⟩
    have sa1 := same_upd he1 (.tup [])
    replace W := W.same sa1
    replace hTl := Same.tk sa1 _ _ hTl
    replace My := My.same sa1
    have P1 : Pr K (upd _ p1 (.tup [.non, .ref e1])) (.ref p1) (.oth "NoneType") [] := Pr.new hp1 .non (Dp.ofInts (ns := []) (SqT.of upd_same)) rfl
    have sb1 := same_upd hp1 (.tup [.non, .ref e1])
    replace W := W.same sb1
    replace hTl := Same.tk sb1 _ _ hTl
    replace My := My.same sb1
    refine ⟨(by show 0 ≤ sizeLine; decide), fun e2 he2 => ⟨(by show 2 ≤ sizeLine; decide), fun p2 hp2 => ?_⟩⟩
    have sa2 := same_upd he2 (.tup [])
    replace P1 := P1.same sa2
    replace W := W.same sa2
    replace hTl := Same.tk sa2 _ _ hTl
    replace My := My.same sa2
    have P2 : Pr K (upd _ p2 (.tup [.int 5, .ref e2])) (.ref p2) (.int 5) [] := Pr.new hp2 (.int 5 (by decide)) (Dp.ofInts (ns := []) (SqT.of upd_same)) rfl
    have sb2 := same_upd hp2 (.tup [.int 5, .ref e2])
    replace P1 := P1.same sb2
    replace W := W.same sb2
    replace hTl := Same.tk sb2 _ _ hTl
    replace My := My.same sb2
    refine ⟨_, rfl, la, _, rfl, .inr hTl, fun l3 hl3 => ?_⟩
    have sl3 := same_upd hl3 (.lst xs)
    replace P1 := P1.same sl3
    replace P2 := P2.same sl3
    replace W := W.same sl3
    replace hTl := Same.tk sl3 _ _ hTl
    replace My := My.same sl3
    refine ⟨(by show 0 ≤ sizeLine; decide), fun e3 he3 => ⟨(by show 2 ≤ sizeLine; decide), fun p3 hp3 => ?_⟩⟩
    have sa3 := same_upd he3 (.tup [])
    have r3 : Rp K _ (fun _ => True) (.ref l3) (.oth "list") := .lst (xs := xs) (sa3 _ _ upd_same) trivial
    replace P1 := P1.same sa3
    replace P2 := P2.same sa3
    replace W := W.same sa3
    replace hTl := Same.tk sa3 _ _ hTl
    replace My := My.same sa3
    have P3 := Pr.new (p := []) hp3 r3 (Dp.ofInts (ns := []) (SqT.of upd_same)) rfl
    have sb3 := same_upd hp3 (.tup [.ref l3, .ref e3])
    replace P1 := P1.same sb3
    replace P2 := P2.same sb3
    replace W := W.same sb3
    replace hTl := Same.tk sb3 _ _ hTl
    replace My := My.same sb3
    refine ⟨_, rfl, (by show 1 ≤ sizeLine; decide), fun q4 hq4 => ⟨(by show 1 ≤ sizeLine; decide), fun u4 hu4 => ?_⟩⟩
    have c4 := same_upd hq4 (.tup [.int 1])
    have d4 := same_upd hu4 (.tup [.ref q4])
    have r4 : Rp K _ (fun _ => True) (.ref q4) (.tup [.int 1]) := Rp.new hq4 (.cons (.int 1 (by decide)) .nil)
    have r4' : Rp K _ (fun _ => True) (.ref u4) (.tup [.tup [.int 1]]) := Rp.new hu4 (.cons r4 .nil)
    replace P1 := P1.same c4
    replace P2 := P2.same c4
    replace P3 := P3.same c4
    replace W := W.same c4
    replace hTl := Same.tk c4 _ _ hTl
    replace My := My.same c4
    replace P1 := P1.same d4
    replace P2 := P2.same d4
    replace P3 := P3.same d4
    replace W := W.same d4
    replace hTl := Same.tk d4 _ _ hTl
    replace My := My.same d4
    dsimp only [tC]
    refine rd_repR r4' (by decide) (by decide) (by decide) fun x4 G4 g4 hx4 => ?_
    replace P1 := P1.same g4
    replace P2 := P2.same g4
    replace P3 := P3.same g4
    replace W := W.same g4
    replace hTl := Same.tk g4 _ _ hTl
    replace My := My.same g4
    refine rd_catR W hx4 (by rw [lL]; exact Nat.le_of_lt (small1000 (by simp; omega))) fun y4 F4 f4 hy4 => ?_
    replace P1 := P1.same f4
    replace P2 := P2.same f4
    replace P3 := P3.same f4
    replace W := W.same f4
    replace hTl := Same.tk f4 _ _ hTl
    replace My := My.same f4
    refine ⟨(by show 0 ≤ sizeLine; decide), fun e4 he4 => ⟨(by show 2 ≤ sizeLine; decide), fun p4 hp4 => ?_⟩⟩
    have sa4 := same_upd he4 (.tup [])
    replace P1 := P1.same sa4
    replace P2 := P2.same sa4
    replace P3 := P3.same sa4
    replace W := W.same sa4
    replace hTl := Same.tk sa4 _ _ hTl
    replace My := My.same sa4
    have P4 := Pr.new (p := []) hp4 (hy4.same sa4) (Dp.ofInts (ns := []) (SqT.of upd_same)) (fault_many (by decide))
    have sb4 := same_upd hp4 (.tup [y4, .ref e4])
    replace P1 := P1.same sb4
    replace P2 := P2.same sb4
    replace P3 := P3.same sb4
    replace W := W.same sb4
    replace hTl := Same.tk sb4 _ _ hTl
    replace My := My.same sb4
    refine ⟨_, rfl, (by show 0 ≤ sizeLine; decide), fun q5 hq5 => ⟨(by show 1 ≤ sizeLine; decide), fun u5 hu5 => ?_⟩⟩
    have c5 := same_upd hq5 (.tup [])
    have d5 := same_upd hu5 (.tup [.ref q5])
    have rq5 : Rp K _ (fun _ => True) (.ref q5) (.tup []) := Rp.new hq5 .nil
    have r5 : Rp K _ (fun _ => True) (.ref u5) (.tup [.tup []]) := Rp.new hu5 (.cons rq5 .nil)
    replace P1 := P1.same c5
    replace P2 := P2.same c5
    replace P3 := P3.same c5
    replace P4 := P4.same c5
    replace W := W.same c5
    replace hTl := Same.tk c5 _ _ hTl
    replace My := My.same c5
    replace P1 := P1.same d5
    replace P2 := P2.same d5
    replace P3 := P3.same d5
    replace P4 := P4.same d5
    replace W := W.same d5
    replace hTl := Same.tk d5 _ _ hTl
    replace My := My.same d5
    refine rd_catR W r5 (by rw [lL]; exact Nat.le_of_lt (small1000 (by simp; omega))) fun y5 F5 f5 hy5 => ?_
    replace P1 := P1.same f5
    replace P2 := P2.same f5
    replace P3 := P3.same f5
    replace P4 := P4.same f5
    replace W := W.same f5
    replace hTl := Same.tk f5 _ _ hTl
    replace My := My.same f5
    refine ⟨_, rfl, (by show 1 ≤ sizeLine; decide), fun e5 he5 => ⟨(by show 2 ≤ sizeLine; decide), fun p5 hp5 => ?_⟩⟩
    have sa5 := same_upd he5 (.tup ([((xs.length : Nat) : Int)].map V.int))
    replace P1 := P1.same sa5
    replace P2 := P2.same sa5
    replace P3 := P3.same sa5
    replace P4 := P4.same sa5
    replace W := W.same sa5
    replace hTl := Same.tk sa5 _ _ hTl
    replace My := My.same sa5
    have P5 := Pr.new (p := [(loopsT ls).length]) hp5 (hy5.same sa5) (by show Dp K _ _ (dInts (List.map (fun n : Nat => (n : Int)) [(loopsT ls).length])); exact Dp.ofInts (ns := List.map (fun n : Nat => (n : Int)) [(loopsT ls).length]) (SqT.of (by rw [upd_same, at0, ← lL]; rfl))) (fault_last gl (by omega) rfl)
    have sb5 := same_upd hp5 (.tup [y5, .ref e5])
    replace P1 := P1.same sb5
    replace P2 := P2.same sb5
    replace P3 := P3.same sb5
    replace P4 := P4.same sb5
    replace W := W.same sb5
    replace hTl := Same.tk sb5 _ _ hTl
    replace My := My.same sb5
    refine ⟨(by show 5 ≤ sizeLine; decide), fun S1 hS1 => ?_⟩
    have sS1 := same_upd hS1 (.lst [.ref p1, .ref p2, .ref p3, .ref p4, .ref p5])
    replace P1 := P1.same sS1
    replace P2 := P2.same sS1
    replace P3 := P3.same sS1
    replace P4 := P4.same sS1
    replace P5 := P5.same sS1
    replace W := W.same sS1
    replace hTl := Same.tk sS1 _ _ hTl
    replace My := My.same sS1
    have kS := lst_newX hS1 [.ref p1, .ref p2, .ref p3, .ref p4, .ref p5]
    refine ⟨_, rfl, _, rfl, (by show 2 ≤ sizeLine; decide), fun q6 hq6 => ⟨(by show 1 ≤ sizeLine; decide), fun u6 hu6 => ?_⟩⟩
    have c6 := same_upd hq6 (.tup [.int 1, .non])
    have d6 := same_upd hu6 (.tup [.ref q6])
    have rq6 : Rp K _ (fun _ => True) (.ref q6) (.tup [.int 1, .oth "NoneType"]) := Rp.new hq6 (.cons (.int 1 (by decide)) (.cons .non .nil))
    have r6 : Rp K _ (fun _ => True) (.ref u6) (.tup [.tup [.int 1, .oth "NoneType"]]) := Rp.new hu6 (.cons rq6 .nil)
    replace P1 := P1.same c6
    replace P2 := P2.same c6
    replace P3 := P3.same c6
    replace P4 := P4.same c6
    replace P5 := P5.same c6
    replace W := W.same c6
    replace hTl := Same.tk c6 _ _ hTl
    replace My := My.same c6
    replace kS := c6 _ _ kS
    replace P1 := P1.same d6
    replace P2 := P2.same d6
    replace P3 := P3.same d6
    replace P4 := P4.same d6
    replace P5 := P5.same d6
    replace W := W.same d6
    replace hTl := Same.tk d6 _ _ hTl
    replace My := My.same d6
    replace kS := d6 _ _ kS
    refine rd_catR W r6 (by rw [lL]; exact Nat.le_of_lt (small1000 (by simp; omega))) fun y6 F6 f6 hy6 => ?_
    replace P1 := P1.same f6
    replace P2 := P2.same f6
    replace P3 := P3.same f6
    replace P4 := P4.same f6
    replace P5 := P5.same f6
    replace W := W.same f6
    replace hTl := Same.tk f6 _ _ hTl
    replace My := My.same f6
    replace kS := f6 _ _ kS
    refine ⟨_, rfl, (by show 2 ≤ sizeLine; decide), fun e6 he6 => ⟨(by show 2 ≤ sizeLine; decide), fun p6 hp6 => ?_⟩⟩
    have sa6 := same_upd he6 (.tup ([((xs.length : Nat) : Int), 1].map V.int))
    replace P1 := P1.same sa6
    replace P2 := P2.same sa6
    replace P3 := P3.same sa6
    replace P4 := P4.same sa6
    replace P5 := P5.same sa6
    replace W := W.same sa6
    replace hTl := Same.tk sa6 _ _ hTl
    replace My := My.same sa6
    replace kS := sa6 _ _ kS
    have P6 := Pr.new (p := [(loopsT ls).length, 1]) hp6 (hy6.same sa6) (by show Dp K _ _ (dInts (List.map (fun n : Nat => (n : Int)) [(loopsT ls).length, 1])); exact Dp.ofInts (ns := List.map (fun n : Nat => (n : Int)) [(loopsT ls).length, 1]) (SqT.of (by rw [upd_same, at0, ← lL]; rfl))) (fault_in gl (by omega) rfl rfl)
    have sb6 := same_upd hp6 (.tup [y6, .ref e6])
    replace P1 := P1.same sb6
    replace P2 := P2.same sb6
    replace P3 := P3.same sb6
    replace P4 := P4.same sb6
    replace P5 := P5.same sb6
    replace W := W.same sb6
    replace hTl := Same.tk sb6 _ _ hTl
    replace My := My.same sb6
    replace kS := sb6 _ _ kS
    refine ⟨_, rfl, (by show 1 ≤ sizeLine; decide), fun q7 hq7 => ⟨(by show 1 ≤ sizeLine; decide), fun u7 hu7 => ?_⟩⟩
    have c7 := same_upd hq7 (.tup [.bl true])
    have d7 := same_upd hu7 (.tup [.ref q7])
    have rq7 : Rp K _ (fun _ => True) (.ref q7) (.tup [.oth "bool"]) := Rp.new hq7 (.cons (.bl true) .nil)
    have r7 : Rp K _ (fun _ => True) (.ref u7) (.tup [.tup [.oth "bool"]]) := Rp.new hu7 (.cons rq7 .nil)
    replace P1 := P1.same c7
    replace P2 := P2.same c7
    replace P3 := P3.same c7
    replace P4 := P4.same c7
    replace P5 := P5.same c7
    replace P6 := P6.same c7
    replace W := W.same c7
    replace hTl := Same.tk c7 _ _ hTl
    replace My := My.same c7
    replace kS := c7 _ _ kS
    replace P1 := P1.same d7
    replace P2 := P2.same d7
    replace P3 := P3.same d7
    replace P4 := P4.same d7
    replace P5 := P5.same d7
    replace P6 := P6.same d7
    replace W := W.same d7
    replace hTl := Same.tk d7 _ _ hTl
    replace My := My.same d7
    replace kS := d7 _ _ kS
    refine rd_catR W r7 (by rw [lL]; exact Nat.le_of_lt (small1000 (by simp; omega))) fun y7 F7 f7 hy7 => ?_
    replace P1 := P1.same f7
    replace P2 := P2.same f7
    replace P3 := P3.same f7
    replace P4 := P4.same f7
    replace P5 := P5.same f7
    replace P6 := P6.same f7
    replace W := W.same f7
    replace hTl := Same.tk f7 _ _ hTl
    replace My := My.same f7
    replace kS := f7 _ _ kS
    refine ⟨_, rfl, (by show 2 ≤ sizeLine; decide), fun e7 he7 => ⟨(by show 2 ≤ sizeLine; decide), fun p7 hp7 => ?_⟩⟩
    have sa7 := same_upd he7 (.tup ([((xs.length : Nat) : Int), 0].map V.int))
    replace P1 := P1.same sa7
    replace P2 := P2.same sa7
    replace P3 := P3.same sa7
    replace P4 := P4.same sa7
    replace P5 := P5.same sa7
    replace P6 := P6.same sa7
    replace W := W.same sa7
    replace hTl := Same.tk sa7 _ _ hTl
    replace My := My.same sa7
    replace kS := sa7 _ _ kS
    have P7 := Pr.new (p := [(loopsT ls).length, 0]) hp7 (hy7.same sa7) (by show Dp K _ _ (dInts (List.map (fun n : Nat => (n : Int)) [(loopsT ls).length, 0])); exact Dp.ofInts (ns := List.map (fun n : Nat => (n : Int)) [(loopsT ls).length, 0]) (SqT.of (by rw [upd_same, at0, ← lL]; rfl))) (fault_in gl (by omega) rfl rfl)
    have sb7 := same_upd hp7 (.tup [y7, .ref e7])
    replace P1 := P1.same sb7
    replace P2 := P2.same sb7
    replace P3 := P3.same sb7
    replace P4 := P4.same sb7
    replace P5 := P5.same sb7
    replace P6 := P6.same sb7
    replace W := W.same sb7
    replace hTl := Same.tk sb7 _ _ hTl
    replace My := My.same sb7
    replace kS := sb7 _ _ kS
    refine ⟨_, rfl, (by show 1 ≤ sizeLine; decide), fun u8 hu8 => ?_⟩
    have d8 := same_upd hu8 (.tup [.int 5])
    have r8 : Rp K _ (fun _ => True) (.ref u8) (.tup [.int 5]) := Rp.new hu8 (.cons (.int 5 (by decide)) .nil)
    replace P1 := P1.same d8
    replace P2 := P2.same d8
    replace P3 := P3.same d8
    replace P4 := P4.same d8
    replace P5 := P5.same d8
    replace P6 := P6.same d8
    replace P7 := P7.same d8
    replace W := W.same d8
    replace hTl := Same.tk d8 _ _ hTl
    replace My := My.same d8
    replace kS := d8 _ _ kS
    refine rd_catR W r8 (by rw [lL]; exact Nat.le_of_lt (small1000 (by simp; omega))) fun y8 F8 f8 hy8 => ?_
    replace P1 := P1.same f8
    replace P2 := P2.same f8
    replace P3 := P3.same f8
    replace P4 := P4.same f8
    replace P5 := P5.same f8
    replace P6 := P6.same f8
    replace P7 := P7.same f8
    replace W := W.same f8
    replace hTl := Same.tk f8 _ _ hTl
    replace My := My.same f8
    replace kS := f8 _ _ kS
    refine ⟨_, rfl, (by show 1 ≤ sizeLine; decide), fun e8 he8 => ⟨(by show 2 ≤ sizeLine; decide), fun p8 hp8 => ?_⟩⟩
    have sa8 := same_upd he8 (.tup ([((xs.length : Nat) : Int)].map V.int))
    replace P1 := P1.same sa8
    replace P2 := P2.same sa8
    replace P3 := P3.same sa8
    replace P4 := P4.same sa8
    replace P5 := P5.same sa8
    replace P6 := P6.same sa8
    replace P7 := P7.same sa8
    replace W := W.same sa8
    replace hTl := Same.tk sa8 _ _ hTl
    replace My := My.same sa8
    replace kS := sa8 _ _ kS
    have P8 := Pr.new (p := [(loopsT ls).length]) hp8 (hy8.same sa8) (by show Dp K _ _ (dInts (List.map (fun n : Nat => (n : Int)) [(loopsT ls).length])); exact Dp.ofInts (ns := List.map (fun n : Nat => (n : Int)) [(loopsT ls).length]) (SqT.of (by rw [upd_same, at0, ← lL]; rfl))) (fault_last gl (by omega) rfl)
    have sb8 := same_upd hp8 (.tup [y8, .ref e8])
    replace P1 := P1.same sb8
    replace P2 := P2.same sb8
    replace P3 := P3.same sb8
    replace P4 := P4.same sb8
    replace P5 := P5.same sb8
    replace P6 := P6.same sb8
    replace P7 := P7.same sb8
    replace W := W.same sb8
    replace hTl := Same.tk sb8 _ _ hTl
    replace My := My.same sb8
    replace kS := sb8 _ _ kS
    refine ⟨(by show 3 ≤ sizeLine; decide), fun S2 hS2 => ?_⟩
    have sS2 := same_upd hS2 (.lst [.ref p6, .ref p7, .ref p8])
    replace P1 := P1.same sS2
    replace P2 := P2.same sS2
    replace P3 := P3.same sS2
    replace P4 := P4.same sS2
    replace P5 := P5.same sS2
    replace P6 := P6.same sS2
    replace P7 := P7.same sS2
    replace P8 := P8.same sS2
    replace W := W.same sS2
    replace hTl := Same.tk sS2 _ _ hTl
    replace My := My.same sS2
    replace kS := sS2 _ _ kS
    refine ⟨S1, S2, _, _, rfl, rfl, kS, lst_newX hS2 _, (by show 5 + 3 ≤ sizeLine; decide), fun SY hSY => ?_⟩
    have sY := same_upd hSY (.lst ([.ref p1, .ref p2, .ref p3, .ref p4, .ref p5] ++ [.ref p6, .ref p7, .ref p8]))
    replace P1 := P1.same sY
    replace P2 := P2.same sY
    replace P3 := P3.same sY
    replace P4 := P4.same sY
    replace P5 := P5.same sY
    replace P6 := P6.same sY
    replace P7 := P7.same sY
    replace P8 := P8.same sY
    replace W := W.same sY
    replace hTl := Same.tk sY _ _ hTl
    replace My := My.same sY
    replace kS := sY _ _ kS
    have bun : Bun K _ la ls SY [.ref p1, .ref p2, .ref p3, .ref p4, .ref p5, .ref p6, .ref p7, .ref p8] m n6 := ⟨W, SqL.of (lst_newX hSY _), fun v hv => by
      simp only [List.mem_cons, List.mem_nil_iff, or_false] at hv
      rcases hv with e | e | e | e | e | e | e | e <;> subst e
      · exact ⟨_, _, P1⟩
      · exact ⟨_, _, P2⟩
      · exact ⟨_, _, P3⟩
      · exact ⟨_, _, P4⟩
      · exact ⟨_, _, P5⟩
      · exact ⟨_, _, P6⟩
      · exact ⟨_, _, P7⟩
      · exact ⟨_, _, P8⟩, My⟩
    clear P1 P2 P3 P4 P5 P6 P7 P8 W hTl My kS
    refine ⟨_, rfl, SY, rfl, ⟨_, bun.2.1⟩, ?_⟩
    refine for_it (D := { nx := _, rt := Q }) walk_list (fun j σ H' => ∃ w6 w7 w8, σ = [some (.ref a), some (.ref m), some (.int (0 + (i : Nat))), some (.ref la), some (.int ((xs.length : Nat) : Int)), some (.ref SY), w6, w7, w8] ∧ Bun K H' la ls SY [.ref p1, .ref p2, .ref p3, .ref p4, .ref p5, .ref p6, .ref p7, .ref p8] m n6) ⟨_, _, _, rfl, bun⟩ (fun j σ H' _ ⟨_, _, _, _, g⟩ => g.2.1) ?_ ?_
    · rintro j x σ H20 H21 hj ⟨w6, w7, w8, rfl, bj⟩ ⟨rfl, hx⟩
      obtain ⟨d, p, pa, thing, due, rfl, hT, hR, hD', g⟩ := bj.2.2.1 x (List.mem_of_getElem? hx)
      obtain ⟨oL, oD, oT⟩ := out_lay p
      refine ⟨pa, _, rfl, hT, rfl, _, _, rfl, _, _, rfl, rfl, ?_⟩
      refine ⟨_, rfl, by decide, by decide, fun D hD => ?_⟩
      refine lc_it walk_range (fun j H' => ∃ ys, H' D = some (.lst ys) ∧ DpAll K H' ys (List.replicate j (outP p)) ∧ Same H21 H') ⟨[], upd_same, .nil, same_upd hD _⟩ (fun _ _ _ _ => trivial) ?_ ?_
      · rintro j x G1 G2 hj ⟨ys, hA, hY, g1⟩ ⟨rfl, rfl⟩
        have j7 : j < 7 := hj
        have yl := hY.len
        rw [List.length_replicate] at yl
        refine ⟨rfl, ?_⟩
        refine ⟨_, rfl, _, rfl, _, thing, .non, .non, d, .oth "NoneType", .oth "NoneType", rfl, hR.same g1, .non, .non, by omega, by omega, fun w G3 g3 hw => ?_⟩
        rw [want_L g] at hw
        have hA3 := g3 _ _ hA
        refine ⟨ys, hA3, small1000 (by omega), ys ++ [w], upd_same, step_out hA3 (DpAll.same g3 _ _ hY) hw oT, fun b o z => ?_⟩
        rw [upd_ne (ne_of_none z hD)]
        exact g3 _ _ (g1 _ _ z)
      rintro G1 ⟨ys, hA, hY, g1⟩
      refine ⟨_, rfl, (by show 2 ≤ sizeLine; decide), fun q1 hq1 => ⟨(by show 1 ≤ sizeLine; decide), fun q2 hq2 => ⟨q2, 7, _, rfl, rfl, upd_same, by decide, by decide, (by show 1 * 7 ≤ sizeLine; decide), fun q3 hq3 => ?_⟩⟩⟩
      have c1 := same_upd hq1 (.tup [.str "loops", due])
      have c2 := same_upd hq2 (.lst [.ref q1])
      have c3 := same_upd hq3 (.lst (List.replicate (7 : Int).toNat [V.ref q1]).flatten)
      have cc := c1.trans (c2.trans c3)
      have dq : Dp K _ (.ref q1) (outP p) := .tup (SqT.of ((c2.trans c3) _ _ upd_same)) (.cons (.str _) (.cons (hD'.same_at (g1.trans cc)) .nil))
      refine ⟨.list (List.replicate 7 (outP p)), .list (List.replicate 7 (outP p)), .lst (SqL.of (cc _ _ hA)) (DpAll.same cc _ _ hY), .lst (SqL.of upd_same) (rep_dp dq 7), sh_rep oL oD 7, sh_rep oL oD 7, _, rfl, iteB (ne_self (sh_rep oL oD 7)) ?_⟩
      have t1 := g1.trans cc
      refine ⟨_, rfl, _, rfl, 4, .ref la, thing, .non, .tup (loopsT ls), d, .oth "NoneType", rfl, bj.1.same t1, hR.same t1, .non, by decide, by decide, fun w G3 g3 hw => ?_⟩
      rw [want_4 gl, g] at hw
      refine ⟨_, rfl, (by show 2 ≤ sizeLine; decide), fun q5 hq5 => ?_⟩
      have c5 := same_upd hq5 (.tup [.str "loops", due])
      have t5 := t1.trans (g3.trans c5)
      refine ⟨outP p, outP p, hw.same_at c5, .tup (SqT.of upd_same) (.cons (.str _) (.cons (hD'.same_at t5) .nil)), sh_out p, sh_out p, _, rfl, iteB (ne_self (sh_out p)) ?_⟩
      refine ⟨_, _, _, rfl, bj.1.same t5, ?_, fun v hv => ?_, bj.2.2.2.same t5⟩
      · exact t5.seq bj.2.1
      · obtain ⟨d, p, h⟩ := bj.2.2.1 v hv
        exact ⟨d, p, h.same t5⟩
    rintro σ H22 ⟨w6, w7, w8, rfl, bj⟩
    obtain ⟨W, _, _, My⟩ := bj
    refine ⟨_, rfl, _, _, rfl, rfl, ⟨by decide, by decide, by decide⟩, _, _, rfl, rfl, (by show 1 ≤ sizeLine; decide), fun p9 hp9 => ⟨(by show 1 ≤ sizeLine; decide), fun l9 hl9 => ⟨(by show 7 ≤ sizeLine; decide), fun S9 hS9 => ?_⟩⟩⟩
    have sp9 := same_upd hp9 (.tup [.int 0])
    have sl9 := same_upd hl9 (.lst [.int 0])
    have sS9 := same_upd hS9 (.lst [.int (-1), .int (10 ^ (30 : Int).toNat + 1), .non, .bl true, .str "0", .ref p9, .ref l9])
    have tS9 := sp9.trans (sl9.trans sS9)
    have RS9 : RpAll K (upd (upd (upd H22 p9 (.tup [.int 0])) l9 (.lst [.int 0])) S9 (.lst [.int (-1), .int (10 ^ (30 : Int).toNat + 1), .non, .bl true, .str "0", .ref p9, .ref l9])) (fun _ => True) [.int (-1), .int (10 ^ (30 : Int).toNat + 1), .non, .bl true, .str "0", .ref p9, .ref l9] [Dt.int (-1), .int (10 ^ (30 : Int).toNat + 1), .oth "NoneType", .oth "bool", .oth "str", .tup [.int 0], .oth "list"] :=
      .cons (.int _ (by decide)) (.cons (.int _ (by decide)) (.cons .non (.cons (.bl true) (.cons (.str _) (.cons ((Rp.new hp9 (.cons (.int 0 (by decide)) .nil)).same (sl9.trans sS9)) (.cons (.lst (xs := [.int 0]) (sS9 _ _ upd_same) trivial) .nil))))))
    have WS9 := W.same tS9
    refine ⟨S9, rfl, ⟨_, SqL.of upd_same⟩, ?_⟩
    have badT : ∀ d ∈ [Dt.int (-1), .int (10 ^ (30 : Int).toNat + 1), .oth "NoneType", .oth "bool", .oth "str", .tup [.int 0], .oth "list"], tok d = false := by decide +kernel
    refine for_it (D := { nx := _, rt := Q }) walk_list (fun j σ H' => ∃ w6 w8, σ = [some (.ref a), some (.ref m), some (.int (0 + (i : Nat))), some (.ref la), some (.int ((xs.length : Nat) : Int)), some (.ref SY), w6, w7, w8] ∧ Same (upd (upd (upd H22 p9 (.tup [.int 0])) l9 (.lst [.int 0])) S9 (.lst [.int (-1), .int (10 ^ (30 : Int).toNat + 1), .non, .bl true, .str "0", .ref p9, .ref l9])) H') ⟨_, _, rfl, Same.refl _⟩ (fun j σ H' _ ⟨_, _, _, g⟩ => SqL.of (g _ _ upd_same)) ?_ ?_
    · rintro j x σ H30 H31 hj ⟨w6, w8, rfl, sp⟩ ⟨rfl, hx⟩
      obtain ⟨d, hd, hR⟩ := RS9.get hx
      have bt := badT d (List.mem_of_getElem? hd)
      refine ⟨_, rfl, by decide, by decide, fun D hD => ?_⟩
      refine lc_it walk_range (fun j H' => ∃ ys, H' D = some (.lst ys) ∧ DpAll K H' ys (List.replicate j plcW) ∧ Same H31 H') ⟨[], upd_same, .nil, same_upd hD _⟩ (fun _ _ _ _ => trivial) ?_ ?_
      · rintro j x' G1 G2 hj ⟨ys, hA, hY, g1⟩ ⟨rfl, rfl⟩
        have j7 : j < 3 := hj
        have yl := hY.len
        rw [List.length_replicate] at yl
        refine ⟨rfl, ?_⟩
        refine ⟨_, rfl, _, rfl, _, rfl, _, .ref la, x, .non, .tup (loopsT ls), d, .oth "NoneType", rfl, WS9.same (sp.trans g1), hR.same (sp.trans g1), .non, by omega, by omega, fun w G3 g3 hw => ?_⟩
        have hwant : want (0 + ((j : Nat) : Int)) (.tup (loopsT ls)) d (.oth "NoneType") = plcW := by
          rcases (by omega : j = 0 ∨ j = 1 ∨ j = 2) with e | e | e
          · subst e
            rw [want_0 gl (by decide), bt, if_neg (by decide)]
          · subst e
            show want 1 _ _ _ = _
            rw [want_1 gl, bt]
            rfl
          · subst e
            rw [want_0 gl (by decide), bt, if_neg (by decide)]
        rw [hwant] at hw
        have hA3 := g3 _ _ hA
        refine ⟨ys, hA3, small1000 (by omega), ys ++ [w], upd_same, step_out hA3 (DpAll.same g3 _ _ hY) hw rfl, fun b o z => ?_⟩
        rw [upd_ne (ne_of_none z hD)]
        exact g3 _ _ (g1 _ _ z)
      rintro G1 ⟨ys, hA, hY, g1⟩
      refine ⟨(by show 1 ≤ sizeLine; decide), fun q2 hq2 => ⟨q2, 3, _, rfl, rfl, upd_same, by decide, by decide, (by show 1 * 3 ≤ sizeLine; decide), fun q3 hq3 => ?_⟩⟩
      have c2 := same_upd hq2 (.lst [.str "place"])
      have c3 := same_upd hq3 (.lst (List.replicate (3 : Int).toNat [.str "place"]).flatten)
      have cc := c2.trans c3
      have sh : SeqAt.shaped (.list (List.replicate 3 plcW)) = true := sh_rep (by decide +kernel) (by decide +kernel) 3
      refine ⟨.list (List.replicate 3 plcW), .list (List.replicate 3 plcW), .lst (SqL.of (cc _ _ hA)) (DpAll.same cc _ _ hY), .lst (SqL.of upd_same) (rep_dp (.str _) 3), sh, sh, _, rfl, iteB (ne_self sh) ?_⟩
      have t1 := g1.trans cc
      exact ⟨_, _, rfl, sp.trans t1⟩
    rintro σ H23 ⟨w6, w8, rfl, sp⟩
    have W := WS9.same sp
    have My := My.same (tS9.trans sp)
    refine ⟨_, rfl, (by show 1 ≤ sizeLine; decide), fun pA hpA => ⟨(by show 1 ≤ sizeLine; decide), fun lA hlA => ⟨(by show 7 ≤ sizeLine; decide), fun SA hSA => ?_⟩⟩⟩
    have spA := same_upd hpA (.tup [.int 0])
    have slA := same_upd hlA (.lst [.int 0])
    have sSA := same_upd hSA (.lst [.int (-1), .int (1001), .non, .bl true, .str "0", .ref pA, .ref lA])
    have tSA := spA.trans (slA.trans sSA)
    have RSA : RpAll K (upd (upd (upd H23 pA (.tup [.int 0])) lA (.lst [.int 0])) SA (.lst [.int (-1), .int (1001), .non, .bl true, .str "0", .ref pA, .ref lA])) (fun _ => True) [.int (-1), .int (1001), .non, .bl true, .str "0", .ref pA, .ref lA] [Dt.int (-1), .int (1001), .oth "NoneType", .oth "bool", .oth "str", .tup [.int 0], .oth "list"] :=
      .cons (.int _ (by decide)) (.cons (.int _ (by decide)) (.cons .non (.cons (.bl true) (.cons (.str _) (.cons ((Rp.new hpA (.cons (.int 0 (by decide)) .nil)).same (slA.trans sSA)) (.cons (.lst (xs := [.int 0]) (sSA _ _ upd_same) trivial) .nil))))))
    have WSA := W.same tSA
    refine ⟨SA, rfl, ⟨_, SqL.of upd_same⟩, ?_⟩
    have badM : ∀ d ∈ [Dt.int (-1), .int (1001), .oth "NoneType", .oth "bool", .oth "str", .tup [.int 0], .oth "list"], mok d = false := by decide +kernel
    refine for_it (D := { nx := _, rt := Q }) walk_list (fun j σ H' => ∃ w6 w8, σ = [some (.ref a), some (.ref m), some (.int (0 + (i : Nat))), some (.ref la), some (.int ((xs.length : Nat) : Int)), some (.ref SY), w6, w7, w8] ∧ Same (upd (upd (upd H23 pA (.tup [.int 0])) lA (.lst [.int 0])) SA (.lst [.int (-1), .int (1001), .non, .bl true, .str "0", .ref pA, .ref lA])) H') ⟨_, _, rfl, Same.refl _⟩ (fun j σ H' _ ⟨_, _, _, g⟩ => SqL.of (g _ _ upd_same)) ?_ ?_
    · rintro j x σ H30 H31 hj ⟨w6, w8, rfl, sp⟩ ⟨rfl, hx⟩
      obtain ⟨d, hd, hR⟩ := RSA.get hx
      have bm := badM d (List.mem_of_getElem? hd)
      refine ⟨_, rfl, _, rfl, 1, .ref la, .int 0, x, .tup (loopsT ls), .int 0, d, rfl, WSA.same sp, .int 0 (by decide), hR.same sp, by decide, by decide, fun w G3 g3 hw => ?_⟩
      rw [want_1 gl, bm, Bool.and_false, if_neg (by decide)] at hw
      cases hw
      exact ⟨rfl, _, rfl, iteNS rfl ⟨_, _, rfl, sp.trans g3⟩⟩
    rintro σ H24 ⟨w6, w8, rfl, sp⟩
    have W := WSA.same sp
    have My := My.same (tSA.trans sp)
    refine ⟨_, rfl, by decide, by decide, fun D hD => ?_⟩
    refine lc_it walk_range (fun j H' => ∃ ys, H' D = some (.lst ys) ∧ DpAll K H' ys (List.replicate j PyData.none) ∧ Same H24 H') ⟨[], upd_same, .nil, same_upd hD _⟩ (fun _ _ _ _ => trivial) ?_ ?_
    · rintro j x' G1 G2 hj ⟨ys, hA, hY, g1⟩ ⟨rfl, rfl⟩
      have j7 : j < 4 := hj
      have yl := hY.len
      rw [List.length_replicate] at yl
      refine ⟨rfl, ?_⟩
      refine ⟨_, rfl, _, rfl, _, _, rfl, rfl, ⟨by decide, by decide, by decide⟩, _, .ref la, _, .int 1000, .tup (loopsT ls), .int (10 ^ (30 : Int).toNat), .int 1000, rfl, W.same g1, .int _ (by decide), .int _ (by decide), by omega, by omega, fun w G3 g3 hw => ?_⟩
      have hwant : want (0 + ((j : Nat) : Int)) (.tup (loopsT ls)) (.int (10 ^ (30 : Int).toNat)) (.int 1000) = PyData.none := by
        rcases (by omega : j = 0 ∨ j = 1 ∨ j = 2 ∨ j = 3) with e | e | e | e
        · subst e
          rw [want_0 gl (by decide), if_pos (by decide +kernel)]
        · subst e
          show want 1 _ _ _ = _
          rw [want_1 gl, if_pos (by decide +kernel)]
        · subst e
          rw [want_0 gl (by decide), if_pos (by decide +kernel)]
        · subst e
          exact want_n gl (by decide)
      rw [hwant] at hw
      have hA3 := g3 _ _ hA
      refine ⟨ys, hA3, small1000 (by omega), ys ++ [w], upd_same, step_out hA3 (DpAll.same g3 _ _ hY) hw rfl, fun b o z => ?_⟩
      rw [upd_ne (ne_of_none z hD)]
      exact g3 _ _ (g1 _ _ z)
    rintro G1 ⟨ys, hA, hY, g1⟩
    refine ⟨(by show 1 ≤ sizeLine; decide), fun q2 hq2 => ⟨q2, 4, _, rfl, rfl, upd_same, by decide, by decide, (by show 1 * 4 ≤ sizeLine; decide), fun q3 hq3 => ?_⟩⟩
    have c2 := same_upd hq2 (.lst [.non])
    have c3 := same_upd hq3 (.lst (List.replicate (4 : Int).toNat [.non]).flatten)
    have cc := c2.trans c3
    have sh : SeqAt.shaped (.list (List.replicate 4 PyData.none)) = true := sh_rep (by decide +kernel) (by decide +kernel) 4
    refine ⟨.list (List.replicate 4 PyData.none), .list (List.replicate 4 PyData.none), .lst (SqL.of (cc _ _ hA)) (DpAll.same cc _ _ hY), .lst (SqL.of upd_same) (rep_dp .non 4), sh, sh, _, rfl, iteB (ne_self sh) ?_⟩
    have t1 := g1.trans cc
    have W5 := W.same t1
    have My5 := My.same t1
    refine ⟨_, _, rfl, ⟨by decide, by decide, by decide, by decide⟩, fun D hD => ?_⟩
    refine lc_it walk_range (fun j H' => ∃ ys, H' D = some (.lst ys) ∧ DpAll K H' ys (List.replicate j PyData.none) ∧ Same (upd (upd G1 q2 (.lst [.non])) q3 (.lst (List.replicate (4 : Int).toNat [V.non]).flatten)) H') ⟨[], upd_same, .nil, same_upd hD _⟩ (fun _ _ _ _ => trivial) ?_ ?_
    · rintro j x' G7 G2 hj ⟨ys, hA, hY, g1⟩ ⟨rfl, rfl⟩
      have j7 : j < 3 := hj
      have yl := hY.len
      rw [List.length_replicate] at yl
      refine ⟨rfl, ?_⟩
      refine ⟨_, rfl, _, rfl, _, rfl, _, .ref la, .ref la, .int 0, .tup (loopsT ls), .tup (loopsT ls), .int 0, rfl, W5.same g1, W5.same g1, .int 0 (by decide), by omega, by omega, fun w G3 g3 hw => ?_⟩
      have hwant : want (4 + ((j : Nat) : Int)) (.tup (loopsT ls)) (.tup (loopsT ls)) (.int 0) = PyData.none := by
        rcases (by omega : j = 0 ∨ j = 1 ∨ j = 2) with e | e | e
        · subst e
          show want 4 _ _ _ = _
          rw [want_4 gl, gl]
        · subst e
          exact want_n gl (by decide)
        · subst e
          exact want_n gl (by decide)
      rw [hwant] at hw
      have hA3 := g3 _ _ hA
      refine ⟨ys, hA3, small1000 (by omega), ys ++ [w], upd_same, step_out hA3 (DpAll.same g3 _ _ hY) hw rfl, fun b o z => ?_⟩
      rw [upd_ne (ne_of_none z hD)]
      exact g3 _ _ (g1 _ _ z)
    rintro G8 ⟨ys, hA, hY, g1⟩
    refine ⟨(by show 1 ≤ sizeLine; decide), fun q4 hq4 => ⟨q4, 3, _, rfl, rfl, upd_same, by decide, by decide, (by show 1 * 3 ≤ sizeLine; decide), fun q5 hq5 => ?_⟩⟩
    have c2 := same_upd hq4 (.lst [.non])
    have c3 := same_upd hq5 (.lst (List.replicate (3 : Int).toNat [.non]).flatten)
    have cc := c2.trans c3
    have sh : SeqAt.shaped (.list (List.replicate 3 PyData.none)) = true := sh_rep (by decide +kernel) (by decide +kernel) 3
    refine ⟨.list (List.replicate 3 PyData.none), .list (List.replicate 3 PyData.none), .lst (SqL.of (cc _ _ hA)) (DpAll.same cc _ _ hY), .lst (SqL.of upd_same) (rep_dp .non 3), sh, sh, _, rfl, iteB (ne_self sh) ?_⟩
    have t1 := g1.trans cc
    exact ⟨n6, _, _, _, _, _, _, _, rfl, My5.same t1, by omega⟩
  · rintro σ H2 ⟨n, w2, w3, w4, w5, w6, w7, w8, rfl, M2, hn⟩
    exact q H2
end
end My

namespace My
open PySem PySem.Spec PyProof.Rows L2
theorem all_mk {P : Program} {w : World} {K : PySem.W.Frag} {h : Heap} {mg : Str → Option Value} {fa : Addr} (X : K.In h) (G : h.Ns mainGlobals mg) (hfa : mg "law" = some (.ref fa))
    {f0 f1 f2 f3 f4 f5 f6 f7 f8 f9 f10 f11 f12 f13 f14 f15 f16 f17 f18 f19 f20 f21 f22 f23 f24 : Addr} {od0 an0 od1 an1 od2 an2 od3 an3 od4 an4 od5 an5 od6 an6 od7 an7 od8 an8 od9 an9 od10 an10 od11 an11 od12 an12 od13 an13 od14 an14 od15 an15 od16 an16 od17 an17 od18 an18 od19 an19 od20 an20 od21 an21 od22 an22 od23 an23 od24 an24 : Option Addr} {sl0 sl1 sl2 sl3 sl4 sl5 sl6 sl7 sl8 sl9 sl10 sl11 sl12 sl13 sl14 sl15 sl16 sl17 sl18 sl19 sl20 sl21 sl22 sl23 sl24 : Array (Option Value)}
    {oc0 kV0 dc0 pm0 cd0 ct0 oc1 kV1 dc1 pm1 cd1 ct1 oc2 kV2 dc2 pm2 cd2 ct2 oc3 kV3 dc3 pm3 cd3 ct3 oc4 kV4 dc4 pm4 cd4 ct4 oc5 kV5 dc5 pm5 cd5 ct5 oc6 kV6 dc6 pm6 cd6 ct6 oc7 kV7 dc7 pm7 cd7 ct7 oc8 kV8 dc8 pm8 cd8 ct8 oc9 kV9 dc9 pm9 cd9 ct9 oc10 kV10 dc10 pm10 cd10 ct10 oc11 kV11 dc11 pm11 cd11 ct11 oc12 kV12 dc12 pm12 cd12 ct12 oc13 kV13 dc13 pm13 cd13 ct13 oc14 kV14 dc14 pm14 cd14 ct14 oc15 kV15 dc15 pm15 cd15 ct15 oc16 kV16 dc16 pm16 cd16 ct16 oc17 kV17 dc17 pm17 cd17 ct17 oc18 kV18 dc18 pm18 cd18 ct18 oc19 kV19 dc19 pm19 cd19 ct19 oc20 kV20 dc20 pm20 cd20 ct20 oc21 kV21 dc21 pm21 cd21 ct21 oc22 kV22 dc22 pm22 cd22 ct22 oc23 kV23 dc23 pm23 cd23 ct23 oc24 kV24 dc24 pm24 cd24 ct24 : Value}
    {tk_MOST_LOOPS tk_MOST_THINGS : Tok}
    (a0 : PySem.W.nsIn K mainGlobals "is_whole" = some (some (.ref f0)))
    (l0 : K.lookup f0 = some ⟨oc0, od0, .func (PySem.W.fnOf "is_whole" "is_whole" (defArgs s_is_whole) (defBody s_is_whole) (defScope s_is_whole) .none kV0 dc0 pm0 an0 cd0 ct0), sl0⟩)
    (c0 : PySem.W.codeIn K cd0 "is_whole" = true) (k0 : PySem.W.keepIn K (.ref f0) = true)
    (a1 : PySem.W.nsIn K mainGlobals "is_tick" = some (some (.ref f1)))
    (l1 : K.lookup f1 = some ⟨oc1, od1, .func (PySem.W.fnOf "is_tick" "is_tick" (defArgs s_is_tick) (defBody s_is_tick) (defScope s_is_tick) .none kV1 dc1 pm1 an1 cd1 ct1), sl1⟩)
    (c1 : PySem.W.codeIn K cd1 "is_tick" = true) (k1 : PySem.W.keepIn K (.ref f1) = true)
    (a2 : PySem.W.nsIn K mainGlobals "need_tick" = some (some (.ref f2)))
    (l2 : K.lookup f2 = some ⟨oc2, od2, .func (PySem.W.fnOf "need_tick" "need_tick" (defArgs s_need_tick) (defBody s_need_tick) (defScope s_need_tick) .none kV2 dc2 pm2 an2 cd2 ct2), sl2⟩)
    (c2 : PySem.W.codeIn K cd2 "need_tick" = true) (k2 : PySem.W.keepIn K (.ref f2) = true)
    (a3 : PySem.W.nsIn K mainGlobals "need_many" = some (some (.ref f3)))
    (l3 : K.lookup f3 = some ⟨oc3, od3, .func (PySem.W.fnOf "need_many" "need_many" (defArgs s_need_many) (defBody s_need_many) (defScope s_need_many) .none kV3 dc3 pm3 an3 cd3 ct3), sl3⟩)
    (c3 : PySem.W.codeIn K cd3 "need_many" = true) (k3 : PySem.W.keepIn K (.ref f3) = true)
    (a4 : PySem.W.nsIn K mainGlobals "need_loops" = some (some (.ref f4)))
    (l4 : K.lookup f4 = some ⟨oc4, od4, .func (PySem.W.fnOf "need_loops" "need_loops" (defArgs s_need_loops) (defBody s_need_loops) (defScope s_need_loops) .none kV4 dc4 pm4 an4 cd4 ct4), sl4⟩)
    (c4 : PySem.W.codeIn K cd4 "need_loops" = true) (k4 : PySem.W.keepIn K (.ref f4) = true)
    (a5 : PySem.W.nsIn K mainGlobals "lengths_of" = some (some (.ref f5)))
    (l5 : K.lookup f5 = some ⟨oc5, od5, .func (PySem.W.fnOf "lengths_of" "lengths_of" (defArgs s_lengths_of) (defBody s_lengths_of) (defScope s_lengths_of) .none kV5 dc5 pm5 an5 cd5 ct5), sl5⟩)
    (c5 : PySem.W.codeIn K cd5 "lengths_of" = true) (k5 : PySem.W.keepIn K (.ref f5) = true)
    (a6 : PySem.W.nsIn K mainGlobals "heard" = some (some (.ref f6)))
    (l6 : K.lookup f6 = some ⟨oc6, od6, .func (PySem.W.fnOf "heard" "heard" (defArgs s_heard) (defBody s_heard) (defScope s_heard) .none kV6 dc6 pm6 an6 cd6 ct6), sl6⟩)
    (c6 : PySem.W.codeIn K cd6 "heard" = true) (k6 : PySem.W.keepIn K (.ref f6) = true)
    (a7 : PySem.W.nsIn K mainGlobals "heard_row" = some (some (.ref f7)))
    (l7 : K.lookup f7 = some ⟨oc7, od7, .func (PySem.W.fnOf "heard_row" "heard_row" (defArgs s_heard_row) (defBody s_heard_row) (defScope s_heard_row) .none kV7 dc7 pm7 an7 cd7 ct7), sl7⟩)
    (c7 : PySem.W.codeIn K cd7 "heard_row" = true) (k7 : PySem.W.keepIn K (.ref f7) = true)
    (a8 : PySem.W.nsIn K mainGlobals "later" = some (some (.ref f8)))
    (l8 : K.lookup f8 = some ⟨oc8, od8, .func (PySem.W.fnOf "later" "later" (defArgs s_later) (defBody s_later) (defScope s_later) .none kV8 dc8 pm8 an8 cd8 ct8), sl8⟩)
    (c8 : PySem.W.codeIn K cd8 "later" = true) (k8 : PySem.W.keepIn K (.ref f8) = true)
    (a9 : PySem.W.nsIn K mainGlobals "sum_at" = some (some (.ref f9)))
    (l9 : K.lookup f9 = some ⟨oc9, od9, .func (PySem.W.fnOf "sum_at" "sum_at" (defArgs s_sum_at) (defBody s_sum_at) (defScope s_sum_at) .none kV9 dc9 pm9 an9 cd9 ct9), sl9⟩)
    (c9 : PySem.W.codeIn K cd9 "sum_at" = true) (k9 : PySem.W.keepIn K (.ref f9) = true)
    (a10 : PySem.W.nsIn K mainGlobals "begun_at" = some (some (.ref f10)))
    (l10 : K.lookup f10 = some ⟨oc10, od10, .func (PySem.W.fnOf "begun_at" "begun_at" (defArgs s_begun_at) (defBody s_begun_at) (defScope s_begun_at) .none kV10 dc10 pm10 an10 cd10 ct10), sl10⟩)
    (c10 : PySem.W.codeIn K cd10 "begun_at" = true) (k10 : PySem.W.keepIn K (.ref f10) = true)
    (a11 : PySem.W.nsIn K mainGlobals "common_divisor" = some (some (.ref f11)))
    (l11 : K.lookup f11 = some ⟨oc11, od11, .func (PySem.W.fnOf "common_divisor" "common_divisor" (defArgs s_common_divisor) (defBody s_common_divisor) (defScope s_common_divisor) .none kV11 dc11 pm11 an11 cd11 ct11), sl11⟩)
    (c11 : PySem.W.codeIn K cd11 "common_divisor" = true) (k11 : PySem.W.keepIn K (.ref f11) = true)
    (a12 : PySem.W.nsIn K mainGlobals "common_multiple" = some (some (.ref f12)))
    (l12 : K.lookup f12 = some ⟨oc12, od12, .func (PySem.W.fnOf "common_multiple" "common_multiple" (defArgs s_common_multiple) (defBody s_common_multiple) (defScope s_common_multiple) .none kV12 dc12 pm12 an12 cd12 ct12), sl12⟩)
    (c12 : PySem.W.codeIn K cd12 "common_multiple" = true) (k12 : PySem.W.keepIn K (.ref f12) = true)
    (a13 : PySem.W.nsIn K mainGlobals "first_apart" = some (some (.ref f13)))
    (l13 : K.lookup f13 = some ⟨oc13, od13, .func (PySem.W.fnOf "first_apart" "first_apart" (defArgs s_first_apart) (defBody s_first_apart) (defScope s_first_apart) .none kV13 dc13 pm13 an13 cd13 ct13), sl13⟩)
    (c13 : PySem.W.codeIn K cd13 "first_apart" = true) (k13 : PySem.W.keepIn K (.ref f13) = true)
    (a14 : PySem.W.nsIn K mainGlobals "period" = some (some (.ref f14)))
    (l14 : K.lookup f14 = some ⟨oc14, od14, .func (PySem.W.fnOf "period" "period" (defArgs s_period) (defBody s_period) (defScope s_period) .none kV14 dc14 pm14 an14 cd14 ct14), sl14⟩)
    (c14 : PySem.W.codeIn K cd14 "period" = true) (k14 : PySem.W.keepIn K (.ref f14) = true)
    (a15 : PySem.W.nsIn K mainGlobals "silent" = some (some (.ref f15)))
    (l15 : K.lookup f15 = some ⟨oc15, od15, .func (PySem.W.fnOf "silent" "silent" (defArgs s_silent) (defBody s_silent) (defScope s_silent) .none kV15 dc15 pm15 an15 cd15 ct15), sl15⟩)
    (c15 : PySem.W.codeIn K cd15 "silent" = true) (k15 : PySem.W.keepIn K (.ref f15) = true)
    (a16 : PySem.W.nsIn K mainGlobals "parted_at" = some (some (.ref f16)))
    (l16 : K.lookup f16 = some ⟨oc16, od16, .func (PySem.W.fnOf "parted_at" "parted_at" (defArgs s_parted_at) (defBody s_parted_at) (defScope s_parted_at) .none kV16 dc16 pm16 an16 cd16 ct16), sl16⟩)
    (c16 : PySem.W.codeIn K cd16 "parted_at" = true) (k16 : PySem.W.keepIn K (.ref f16) = true)
    (a17 : PySem.W.nsIn K mainGlobals "leads_round" = some (some (.ref f17)))
    (l17 : K.lookup f17 = some ⟨oc17, od17, .func (PySem.W.fnOf "leads_round" "leads_round" (defArgs s_leads_round) (defBody s_leads_round) (defScope s_leads_round) .none kV17 dc17 pm17 an17 cd17 ct17), sl17⟩)
    (c17 : PySem.W.codeIn K cd17 "leads_round" = true) (k17 : PySem.W.keepIn K (.ref f17) = true)
    (a18 : PySem.W.nsIn K mainGlobals "_law_begun" = some (some (.ref f18)))
    (l18 : K.lookup f18 = some ⟨oc18, od18, .func (PySem.W.fnOf "_law_begun" "_law_begun" (defArgs s__law_begun) (defBody s__law_begun) (defScope s__law_begun) .none kV18 dc18 pm18 an18 cd18 ct18), sl18⟩)
    (c18 : PySem.W.codeIn K cd18 "_law_begun" = true) (k18 : PySem.W.keepIn K (.ref f18) = true)
    (a19 : PySem.W.nsIn K mainGlobals "_law_next" = some (some (.ref f19)))
    (l19 : K.lookup f19 = some ⟨oc19, od19, .func (PySem.W.fnOf "_law_next" "_law_next" (defArgs s__law_next) (defBody s__law_next) (defScope s__law_next) .none kV19 dc19 pm19 an19 cd19 ct19), sl19⟩)
    (c19 : PySem.W.codeIn K cd19 "_law_next" = true) (k19 : PySem.W.keepIn K (.ref f19) = true)
    (a20 : PySem.W.nsIn K mainGlobals "_law_number" = some (some (.ref f20)))
    (l20 : K.lookup f20 = some ⟨oc20, od20, .func (PySem.W.fnOf "_law_number" "_law_number" (defArgs s__law_number) (defBody s__law_number) (defScope s__law_number) .none kV20 dc20 pm20 an20 cd20 ct20), sl20⟩)
    (c20 : PySem.W.codeIn K cd20 "_law_number" = true) (k20 : PySem.W.keepIn K (.ref f20) = true)
    (a21 : PySem.W.nsIn K mainGlobals "_law_lengths" = some (some (.ref f21)))
    (l21 : K.lookup f21 = some ⟨oc21, od21, .func (PySem.W.fnOf "_law_lengths" "_law_lengths" (defArgs s__law_lengths) (defBody s__law_lengths) (defScope s__law_lengths) .none kV21 dc21 pm21 an21 cd21 ct21), sl21⟩)
    (c21 : PySem.W.codeIn K cd21 "_law_lengths" = true) (k21 : PySem.W.keepIn K (.ref f21) = true)
    (a22 : PySem.W.nsIn K mainGlobals "_law_loops_of" = some (some (.ref f22)))
    (l22 : K.lookup f22 = some ⟨oc22, od22, .func (PySem.W.fnOf "_law_loops_of" "_law_loops_of" (defArgs s__law_loops_of) (defBody s__law_loops_of) (defScope s__law_loops_of) .none kV22 dc22 pm22 an22 cd22 ct22), sl22⟩)
    (c22 : PySem.W.codeIn K cd22 "_law_loops_of" = true) (k22 : PySem.W.keepIn K (.ref f22) = true)
    (a23 : PySem.W.nsIn K mainGlobals "_law_outcome" = some (some (.ref f23)))
    (l23 : K.lookup f23 = some ⟨oc23, od23, .func (PySem.W.fnOf "_law_outcome" "_law_outcome" (defArgs s__law_outcome) (defBody s__law_outcome) (defScope s__law_outcome) .none kV23 dc23 pm23 an23 cd23 ct23), sl23⟩)
    (c23 : PySem.W.codeIn K cd23 "_law_outcome" = true) (k23 : PySem.W.keepIn K (.ref f23) = true)
    (a24 : PySem.W.nsIn K mainGlobals "law" = some (some (.ref f24)))
    (l24 : K.lookup f24 = some ⟨oc24, od24, .func (PySem.W.fnOf "law" "law" (defArgs s_law) (defBody s_law) (defScope s_law) .none kV24 dc24 pm24 an24 cd24 ct24), sl24⟩)
    (c24 : PySem.W.codeIn K cd24 "law" = true) (k24 : PySem.W.keepIn K (.ref f24) = true)
    {C_BadLoops f_BadLoops N_BadLoops : Addr} {nm_BadLoops q_BadLoops : Str} {bs_BadLoops sub_BadLoops : List Value} {sn_BadLoops : List Str} {ab_BadLoops : Bool} {col_BadLoops : Option Bool} {dd_BadLoops od_BadLoops an_BadLoops : Option Addr} {m0_BadLoops m1_BadLoops m2_BadLoops m3_BadLoops m5_BadLoops : Option Value}
    {sl_BadLoops : Array (Option Value)} {oc_BadLoops kV_BadLoops dc_BadLoops pm_BadLoops cd_BadLoops ct_BadLoops : Value}
    (aC_BadLoops : PySem.W.nsIn K mainGlobals "BadLoops" = some (some (.ref C_BadLoops)))
    (xL_BadLoops : K.lookup C_BadLoops = some (excClassObj nm_BadLoops q_BadLoops C_BadLoops N_BadLoops bs_BadLoops [.type "ValueError", .type "Exception", .type "BaseException", .type "object"] true sn_BadLoops sub_BadLoops ab_BadLoops col_BadLoops dd_BadLoops m0_BadLoops m1_BadLoops m2_BadLoops m3_BadLoops m5_BadLoops "ValueError.__new__"))
    (sa_BadLoops : PySem.W.findIn K (.ref C_BadLoops) "__setattr__" = some (some (.builtin "object.__setattr__")))
    (ga_BadLoops : PySem.W.findIn K (.ref C_BadLoops) "__getattribute__" = some (some (.builtin "BaseException.__getattribute__")))
    (gg_BadLoops : PySem.W.findIn K (.ref C_BadLoops) "__getattr__" = some none)
    (nb_BadLoops : PySem.W.findIn K (.ref C_BadLoops) "place" = some none)
    (ai_BadLoops : PySem.W.findIn K (.ref C_BadLoops) "__init__" = some (some (.ref f_BadLoops)))
    (ti_BadLoops : PySem.W.typeIn K (.ref f_BadLoops) = some (.type "function"))
    (kC_BadLoops : PySem.W.keepIn K (.ref C_BadLoops) = true)
    (eC_BadLoops : PySem.W.subIn K (.ref C_BadLoops) (.type "BaseException") = some true)
    (tC_BadLoops : PySem.W.typeIn K (.ref C_BadLoops) = some (.type "type"))
    (hC_BadLoops : PySem.W.hasDictIn K C_BadLoops = true)
    (iC_BadLoops : PySem.W.isClsIn K C_BadLoops = true)
    (sC_BadLoops : PySem.W.subIn K (.ref C_BadLoops) (.ref C_BadLoops) = some true)
    (ki_BadLoops : PySem.W.keepIn K (.ref f_BadLoops) = true)
    (li_BadLoops : K.lookup f_BadLoops = some ⟨oc_BadLoops, od_BadLoops, .func (PySem.W.fnOf "__init__" "BadLoops.__init__" (defArgs s_BadLoops_init) (defBody s_BadLoops_init) (defScope s_BadLoops_init) .none kV_BadLoops dc_BadLoops pm_BadLoops an_BadLoops cd_BadLoops ct_BadLoops), sl_BadLoops⟩)
    (ci_BadLoops : PySem.W.codeIn K cd_BadLoops "BadLoops.__init__" = true)
    {C_OutOfPlace f_OutOfPlace N_OutOfPlace : Addr} {nm_OutOfPlace q_OutOfPlace : Str} {bs_OutOfPlace sub_OutOfPlace : List Value} {sn_OutOfPlace : List Str} {ab_OutOfPlace : Bool} {col_OutOfPlace : Option Bool} {dd_OutOfPlace od_OutOfPlace an_OutOfPlace : Option Addr} {m0_OutOfPlace m1_OutOfPlace m2_OutOfPlace m3_OutOfPlace m5_OutOfPlace : Option Value}
    {sl_OutOfPlace : Array (Option Value)} {oc_OutOfPlace kV_OutOfPlace dc_OutOfPlace pm_OutOfPlace cd_OutOfPlace ct_OutOfPlace : Value}
    (aC_OutOfPlace : PySem.W.nsIn K mainGlobals "OutOfPlace" = some (some (.ref C_OutOfPlace)))
    (xL_OutOfPlace : K.lookup C_OutOfPlace = some (excClassObj nm_OutOfPlace q_OutOfPlace C_OutOfPlace N_OutOfPlace bs_OutOfPlace [.type "ValueError", .type "Exception", .type "BaseException", .type "object"] true sn_OutOfPlace sub_OutOfPlace ab_OutOfPlace col_OutOfPlace dd_OutOfPlace m0_OutOfPlace m1_OutOfPlace m2_OutOfPlace m3_OutOfPlace m5_OutOfPlace "ValueError.__new__"))
    (sa_OutOfPlace : PySem.W.findIn K (.ref C_OutOfPlace) "__setattr__" = some (some (.builtin "object.__setattr__")))
    (ga_OutOfPlace : PySem.W.findIn K (.ref C_OutOfPlace) "__getattribute__" = some (some (.builtin "BaseException.__getattribute__")))
    (gg_OutOfPlace : PySem.W.findIn K (.ref C_OutOfPlace) "__getattr__" = some none)
    (nb_OutOfPlace : PySem.W.findIn K (.ref C_OutOfPlace) "text" = some none)
    (ai_OutOfPlace : PySem.W.findIn K (.ref C_OutOfPlace) "__init__" = some (some (.ref f_OutOfPlace)))
    (ti_OutOfPlace : PySem.W.typeIn K (.ref f_OutOfPlace) = some (.type "function"))
    (kC_OutOfPlace : PySem.W.keepIn K (.ref C_OutOfPlace) = true)
    (eC_OutOfPlace : PySem.W.subIn K (.ref C_OutOfPlace) (.type "BaseException") = some true)
    (tC_OutOfPlace : PySem.W.typeIn K (.ref C_OutOfPlace) = some (.type "type"))
    (hC_OutOfPlace : PySem.W.hasDictIn K C_OutOfPlace = true)
    (iC_OutOfPlace : PySem.W.isClsIn K C_OutOfPlace = true)
    (sC_OutOfPlace : PySem.W.subIn K (.ref C_OutOfPlace) (.ref C_OutOfPlace) = some true)
    (ki_OutOfPlace : PySem.W.keepIn K (.ref f_OutOfPlace) = true)
    (li_OutOfPlace : K.lookup f_OutOfPlace = some ⟨oc_OutOfPlace, od_OutOfPlace, .func (PySem.W.fnOf "__init__" "OutOfPlace.__init__" (defArgs s_OutOfPlace_init) (defBody s_OutOfPlace_init) (defScope s_OutOfPlace_init) .none kV_OutOfPlace dc_OutOfPlace pm_OutOfPlace an_OutOfPlace cd_OutOfPlace ct_OutOfPlace), sl_OutOfPlace⟩)
    (ci_OutOfPlace : PySem.W.codeIn K cd_OutOfPlace "OutOfPlace.__init__" = true)
    (sy_OutOfPlace_BadLoops : PySem.W.subIn K (.ref C_OutOfPlace) (.ref C_BadLoops) = some false)
    (z_ValueError : PySem.W.nsIn K mainGlobals "ValueError" = some none)
    (v_ValueError : PySem.W.findCls K (.type "ValueError") (.type "type") "__init__" = some (.val (.builtin "ValueError.__init__")))
    (z_isinstance : PySem.W.nsIn K mainGlobals "isinstance" = some none)
    (z_int : PySem.W.nsIn K mainGlobals "int" = some none)
    (z_bool : PySem.W.nsIn K mainGlobals "bool" = some none)
    (z_enumerate : PySem.W.nsIn K mainGlobals "enumerate" = some none)
    (z_tuple : PySem.W.nsIn K mainGlobals "tuple" = some none)
    (z_len : PySem.W.nsIn K mainGlobals "len" = some none)
    (z_range : PySem.W.nsIn K mainGlobals "range" = some none)
    (z_sum : PySem.W.nsIn K mainGlobals "sum" = some none)
    (z_list : PySem.W.nsIn K mainGlobals "list" = some none)
    (z_min : PySem.W.nsIn K mainGlobals "min" = some none)
    (g_MOST_LOOPS : PySem.W.nsIn K mainGlobals "MOST_LOOPS" = some (some (.int 6 tk_MOST_LOOPS)))
    (g_MOST_THINGS : PySem.W.nsIn K mainGlobals "MOST_THINGS" = some (some (.int 64 tk_MOST_THINGS)))
    : ∃ fd : FuncData, (∀ (s : Shared) (v : Value), BindsTo s fd ⟨[v], []⟩ [("script", v)]) ∧
      ∀ base : Heap, K.In base → base.Ns mainGlobals mg → FnG P w K mg base 6 fa fd ["script"] (sp_law K) := by
  have e := hfa.symm.trans (PySem.W.mg_of X G a24)
  cases e
  have F0 := fun_mk (st := s_is_whole) l0 c0 k0
  have b0 := F0.binds (ps := ["thing"]) fun _ _ _ _ _ _ us hl => match us, hl with | [_], _ => rfl
  have F1 := fun_mk (st := s_is_tick) l1 c1 k1
  have b1 := F1.binds (ps := ["thing"]) fun _ _ _ _ _ _ us hl => match us, hl with | [_], _ => rfl
  have F2 := fun_mk (st := s_need_tick) l2 c2 k2
  have b2 := F2.binds (ps := ["thing"]) fun _ _ _ _ _ _ us hl => match us, hl with | [_], _ => rfl
  have F3 := fun_mk (st := s_need_many) l3 c3 k3
  have b3 := F3.binds (ps := ["thing"]) fun _ _ _ _ _ _ us hl => match us, hl with | [_], _ => rfl
  have F4 := fun_mk (st := s_need_loops) l4 c4 k4
  have b4 := F4.binds (ps := ["thing"]) fun _ _ _ _ _ _ us hl => match us, hl with | [_], _ => rfl
  have F5 := fun_mk (st := s_lengths_of) l5 c5 k5
  have b5 := F5.binds (ps := ["loops"]) fun _ _ _ _ _ _ us hl => match us, hl with | [_], _ => rfl
  have F6 := fun_mk (st := s_heard) l6 c6 k6
  have b6 := F6.binds (ps := ["loops", "tick"]) fun _ _ _ _ _ _ us hl => match us, hl with | [_, _], _ => rfl
  have F7 := fun_mk (st := s_heard_row) l7 c7 k7
  have b7 := F7.binds (ps := ["loops", "tick", "many"]) fun _ _ _ _ _ _ us hl => match us, hl with | [_, _, _], _ => rfl
  have F8 := fun_mk (st := s_later) l8 c8 k8
  have b8 := F8.binds (ps := ["loops", "ticks"]) fun _ _ _ _ _ _ us hl => match us, hl with | [_, _], _ => rfl
  have F9 := fun_mk (st := s_sum_at) l9 c9 k9
  have b9 := F9.binds (ps := ["loops", "tick"]) fun _ _ _ _ _ _ us hl => match us, hl with | [_, _], _ => rfl
  have F10 := fun_mk (st := s_begun_at) l10 c10 k10
  have b10 := F10.binds (ps := ["loop", "index"]) fun _ _ _ _ _ _ us hl => match us, hl with | [_, _], _ => rfl
  have F11 := fun_mk (st := s_common_divisor) l11 c11 k11
  have b11 := F11.binds (ps := ["one", "other"]) fun _ _ _ _ _ _ us hl => match us, hl with | [_, _], _ => rfl
  have F12 := fun_mk (st := s_common_multiple) l12 c12 k12
  have b12 := F12.binds (ps := ["lengths"]) fun _ _ _ _ _ _ us hl => match us, hl with | [_], _ => rfl
  have F13 := fun_mk (st := s_first_apart) l13 c13 k13
  have b13 := F13.binds (ps := ["one", "other"]) fun _ _ _ _ _ _ us hl => match us, hl with | [_, _], _ => rfl
  have F14 := fun_mk (st := s_period) l14 c14 k14
  have b14 := F14.binds (ps := ["loops"]) fun _ _ _ _ _ _ us hl => match us, hl with | [_], _ => rfl
  have F15 := fun_mk (st := s_silent) l15 c15 k15
  have b15 := F15.binds (ps := ["loops"]) fun _ _ _ _ _ _ us hl => match us, hl with | [_], _ => rfl
  have F16 := fun_mk (st := s_parted_at) l16 c16 k16
  have b16 := F16.binds (ps := ["one", "other"]) fun _ _ _ _ _ _ us hl => match us, hl with | [_, _], _ => rfl
  have F17 := fun_mk (st := s_leads_round) l17 c17 k17
  have b17 := F17.binds (ps := ["loops", "ticks"]) fun _ _ _ _ _ _ us hl => match us, hl with | [_, _], _ => rfl
  have F18 := fun_mk (st := s__law_begun) l18 c18 k18
  have b18 := F18.binds (ps := ["script"]) fun _ _ _ _ _ _ us hl => match us, hl with | [_], _ => rfl
  have F19 := fun_mk (st := s__law_next) l19 c19 k19
  have b19 := F19.binds (ps := ["m", "many"]) fun _ _ _ _ _ _ us hl => match us, hl with | [_, _], _ => rfl
  have F20 := fun_mk (st := s__law_number) l20 c20 k20
  have b20 := F20.binds (ps := ["m"]) fun _ _ _ _ _ _ us hl => match us, hl with | [_], _ => rfl
  have F21 := fun_mk (st := s__law_lengths) l21 c21 k21
  have b21 := F21.binds (ps := ["m", "many", "most"]) fun _ _ _ _ _ _ us hl => match us, hl with | [_, _, _], _ => rfl
  have F22 := fun_mk (st := s__law_loops_of) l22 c22 k22
  have b22 := F22.binds (ps := ["m", "lengths"]) fun _ _ _ _ _ _ us hl => match us, hl with | [_, _], _ => rfl
  have F23 := fun_mk (st := s__law_outcome) l23 c23 k23
  have b23 := F23.binds (ps := ["way", "loops", "x", "y"]) fun _ _ _ _ _ _ us hl => match us, hl with | [_, _, _, _], _ => rfl
  have F24 := fun_mk (st := s_law) l24 c24 k24
  have b24 := F24.binds (ps := ["script"]) fun _ _ _ _ _ _ us hl => match us, hl with | [_], _ => rfl
  have Fi_BadLoops := fun_mk (st := s_BadLoops_init) li_BadLoops ci_BadLoops ki_BadLoops
  have bi_BadLoops := Fi_BadLoops.binds (ps := ["self", "place"]) fun _ _ _ _ _ _ us hl => match us, hl with | [_, _], _ => rfl
  have Fi_OutOfPlace := fun_mk (st := s_OutOfPlace_init) li_OutOfPlace ci_OutOfPlace ki_OutOfPlace
  have bi_OutOfPlace := Fi_OutOfPlace.binds (ps := ["self", "text"]) fun _ _ _ _ _ _ us hl => match us, hl with | [_, _], _ => rfl
  refine ⟨PySem.W.fnOf "law" "law" (defArgs s_law) (defBody s_law) (defScope s_law) .none kV24 dc24 pm24 an24 cd24 ct24, fun s v => .of_eq rfl, fun base _ _ => ?_⟩
  let T : Top K mg := {
      a_is_whole := f0
      d_is_whole := _
      F_is_whole := F0
      m_is_whole := PySem.W.mg_of X G a0
      b_is_whole := b0
      a_is_tick := f1
      d_is_tick := _
      F_is_tick := F1
      m_is_tick := PySem.W.mg_of X G a1
      b_is_tick := b1
      a_need_tick := f2
      d_need_tick := _
      F_need_tick := F2
      m_need_tick := PySem.W.mg_of X G a2
      b_need_tick := b2
      a_need_many := f3
      d_need_many := _
      F_need_many := F3
      m_need_many := PySem.W.mg_of X G a3
      b_need_many := b3
      a_need_loops := f4
      d_need_loops := _
      F_need_loops := F4
      m_need_loops := PySem.W.mg_of X G a4
      b_need_loops := b4
      a_lengths_of := f5
      d_lengths_of := _
      F_lengths_of := F5
      m_lengths_of := PySem.W.mg_of X G a5
      b_lengths_of := b5
      a_heard := f6
      d_heard := _
      F_heard := F6
      m_heard := PySem.W.mg_of X G a6
      b_heard := b6
      a_heard_row := f7
      d_heard_row := _
      F_heard_row := F7
      m_heard_row := PySem.W.mg_of X G a7
      b_heard_row := b7
      a_later := f8
      d_later := _
      F_later := F8
      m_later := PySem.W.mg_of X G a8
      b_later := b8
      a_sum_at := f9
      d_sum_at := _
      F_sum_at := F9
      m_sum_at := PySem.W.mg_of X G a9
      b_sum_at := b9
      a_begun_at := f10
      d_begun_at := _
      F_begun_at := F10
      m_begun_at := PySem.W.mg_of X G a10
      b_begun_at := b10
      a_common_divisor := f11
      d_common_divisor := _
      F_common_divisor := F11
      m_common_divisor := PySem.W.mg_of X G a11
      b_common_divisor := b11
      a_common_multiple := f12
      d_common_multiple := _
      F_common_multiple := F12
      m_common_multiple := PySem.W.mg_of X G a12
      b_common_multiple := b12
      a_first_apart := f13
      d_first_apart := _
      F_first_apart := F13
      m_first_apart := PySem.W.mg_of X G a13
      b_first_apart := b13
      a_period := f14
      d_period := _
      F_period := F14
      m_period := PySem.W.mg_of X G a14
      b_period := b14
      a_silent := f15
      d_silent := _
      F_silent := F15
      m_silent := PySem.W.mg_of X G a15
      b_silent := b15
      a_parted_at := f16
      d_parted_at := _
      F_parted_at := F16
      m_parted_at := PySem.W.mg_of X G a16
      b_parted_at := b16
      a_leads_round := f17
      d_leads_round := _
      F_leads_round := F17
      m_leads_round := PySem.W.mg_of X G a17
      b_leads_round := b17
      a__law_begun := f18
      d__law_begun := _
      F__law_begun := F18
      m__law_begun := PySem.W.mg_of X G a18
      b__law_begun := b18
      a__law_next := f19
      d__law_next := _
      F__law_next := F19
      m__law_next := PySem.W.mg_of X G a19
      b__law_next := b19
      a__law_number := f20
      d__law_number := _
      F__law_number := F20
      m__law_number := PySem.W.mg_of X G a20
      b__law_number := b20
      a__law_lengths := f21
      d__law_lengths := _
      F__law_lengths := F21
      m__law_lengths := PySem.W.mg_of X G a21
      b__law_lengths := b21
      a__law_loops_of := f22
      d__law_loops_of := _
      F__law_loops_of := F22
      m__law_loops_of := PySem.W.mg_of X G a22
      b__law_loops_of := b22
      a__law_outcome := f23
      d__law_outcome := _
      F__law_outcome := F23
      m__law_outcome := PySem.W.mg_of X G a23
      b__law_outcome := b23
      a_law := fa
      d_law := _
      F_law := F24
      m_law := PySem.W.mg_of X G a24
      b_law := b24
      x_BadLoops := exc_mk X G Fi_BadLoops bi_BadLoops aC_BadLoops xL_BadLoops sa_BadLoops ga_BadLoops gg_BadLoops nb_BadLoops ai_BadLoops ti_BadLoops kC_BadLoops eC_BadLoops tC_BadLoops hC_BadLoops iC_BadLoops sC_BadLoops
      x_OutOfPlace := exc_mk X G Fi_OutOfPlace bi_OutOfPlace aC_OutOfPlace xL_OutOfPlace sa_OutOfPlace ga_OutOfPlace gg_OutOfPlace nb_OutOfPlace ai_OutOfPlace ti_OutOfPlace kC_OutOfPlace eC_OutOfPlace tC_OutOfPlace hC_OutOfPlace iC_OutOfPlace sC_OutOfPlace
      y_OutOfPlace_BadLoops := exm_apart eC_BadLoops iC_BadLoops tC_BadLoops sy_OutOfPlace_BadLoops
      z_ValueError := PySem.W.mg_none_of X G z_ValueError
      v_ValueError := v_ValueError
      z_isinstance := PySem.W.mg_none_of X G z_isinstance
      z_int := PySem.W.mg_none_of X G z_int
      z_bool := PySem.W.mg_none_of X G z_bool
      z_enumerate := PySem.W.mg_none_of X G z_enumerate
      z_tuple := PySem.W.mg_none_of X G z_tuple
      z_len := PySem.W.mg_none_of X G z_len
      z_range := PySem.W.mg_none_of X G z_range
      z_sum := PySem.W.mg_none_of X G z_sum
      z_list := PySem.W.mg_none_of X G z_list
      z_min := PySem.W.mg_none_of X G z_min
      t_MOST_LOOPS := tk_MOST_LOOPS
      c_MOST_LOOPS := PySem.W.mg_of X G g_MOST_LOOPS
      t_MOST_THINGS := tk_MOST_THINGS
      c_MOST_THINGS := PySem.W.mg_of X G g_MOST_THINGS }
  exact (ok_law T).toG
end My
open PySem PySem.W PyProof.Rows
set_option maxRecDepth 100000 in
set_option maxHeartbeats 0 in
theorem PySem.Challenge.cw_pedalrounds_k05_loops_refused_holds : PySem.Challenge.rw_pedalrounds_k05_loops_refused.Holds := by
  w_on; o_law; k_head; (case hw => w_witness2)
  k_fill
  refine L2.my_walk (l := PySem.Challenge.rw_pedalrounds_k05_loops_refused) (k := 6) (sp := My.sp_law) rfl rfl ⟨rfl, by decide, by decide⟩ (fun w h Y => PySem.W.kIn_of Y) ?F (fun K H a ns hl hS => ⟨a, ns, rfl, hS, hl, fun _ => rfl⟩)
  case F =>
    intro w mg fa h KX G hmg
    refine' My.all_mk KX G hmg ?a0 ?l0 ?c0 ?k0 ?a1 ?l1 ?c1 ?k1 ?a2 ?l2 ?c2 ?k2 ?a3 ?l3 ?c3 ?k3 ?a4 ?l4 ?c4 ?k4 ?a5 ?l5 ?c5 ?k5 ?a6 ?l6 ?c6 ?k6 ?a7 ?l7 ?c7 ?k7 ?a8 ?l8 ?c8 ?k8 ?a9 ?l9 ?c9 ?k9 ?a10 ?l10 ?c10 ?k10 ?a11 ?l11 ?c11 ?k11 ?a12 ?l12 ?c12 ?k12 ?a13 ?l13 ?c13 ?k13 ?a14 ?l14 ?c14 ?k14 ?a15 ?l15 ?c15 ?k15 ?a16 ?l16 ?c16 ?k16 ?a17 ?l17 ?c17 ?k17 ?a18 ?l18 ?c18 ?k18 ?a19 ?l19 ?c19 ?k19 ?a20 ?l20 ?c20 ?k20 ?a21 ?l21 ?c21 ?k21 ?a22 ?l22 ?c22 ?k22 ?a23 ?l23 ?c23 ?k23 ?a24 ?l24 ?c24 ?k24 ?aC_BadLoops ?xL_BadLoops ?sa_BadLoops ?ga_BadLoops ?gg_BadLoops ?nb_BadLoops ?ai_BadLoops ?ti_BadLoops ?kC_BadLoops ?eC_BadLoops ?tC_BadLoops ?hC_BadLoops ?iC_BadLoops ?sC_BadLoops ?ki_BadLoops ?li_BadLoops ?ci_BadLoops ?aC_OutOfPlace ?xL_OutOfPlace ?sa_OutOfPlace ?ga_OutOfPlace ?gg_OutOfPlace ?nb_OutOfPlace ?ai_OutOfPlace ?ti_OutOfPlace ?kC_OutOfPlace ?eC_OutOfPlace ?tC_OutOfPlace ?hC_OutOfPlace ?iC_OutOfPlace ?sC_OutOfPlace ?ki_OutOfPlace ?li_OutOfPlace ?ci_OutOfPlace ?sy_OutOfPlace_BadLoops ?z_ValueError ?v_ValueError ?z_isinstance ?z_int ?z_bool ?z_enumerate ?z_tuple ?z_len ?z_range ?z_sum ?z_list ?z_min ?g_MOST_LOOPS ?g_MOST_THINGS
    (case a0 => k_is)
    (case l0 => k_is)
    (case c0 => k_is)
    (case k0 => k_is)
    (case a1 => k_is)
    (case l1 => k_is)
    (case c1 => k_is)
    (case k1 => k_is)
    (case a2 => k_is)
    (case l2 => k_is)
    (case c2 => k_is)
    (case k2 => k_is)
    (case a3 => k_is)
    (case l3 => k_is)
    (case c3 => k_is)
    (case k3 => k_is)
    (case a4 => k_is)
    (case l4 => k_is)
    (case c4 => k_is)
    (case k4 => k_is)
    (case a5 => k_is)
    (case l5 => k_is)
    (case c5 => k_is)
    (case k5 => k_is)
    (case a6 => k_is)
    (case l6 => k_is)
    (case c6 => k_is)
    (case k6 => k_is)
    (case a7 => k_is)
    (case l7 => k_is)
    (case c7 => k_is)
    (case k7 => k_is)
    (case a8 => k_is)
    (case l8 => k_is)
    (case c8 => k_is)
    (case k8 => k_is)
    (case a9 => k_is)
    (case l9 => k_is)
    (case c9 => k_is)
    (case k9 => k_is)
    (case a10 => k_is)
    (case l10 => k_is)
    (case c10 => k_is)
    (case k10 => k_is)
    (case a11 => k_is)
    (case l11 => k_is)
    (case c11 => k_is)
    (case k11 => k_is)
    (case a12 => k_is)
    (case l12 => k_is)
    (case c12 => k_is)
    (case k12 => k_is)
    (case a13 => k_is)
    (case l13 => k_is)
    (case c13 => k_is)
    (case k13 => k_is)
    (case a14 => k_is)
    (case l14 => k_is)
    (case c14 => k_is)
    (case k14 => k_is)
    (case a15 => k_is)
    (case l15 => k_is)
    (case c15 => k_is)
    (case k15 => k_is)
    (case a16 => k_is)
    (case l16 => k_is)
    (case c16 => k_is)
    (case k16 => k_is)
    (case a17 => k_is)
    (case l17 => k_is)
    (case c17 => k_is)
    (case k17 => k_is)
    (case a18 => k_is)
    (case l18 => k_is)
    (case c18 => k_is)
    (case k18 => k_is)
    (case a19 => k_is)
    (case l19 => k_is)
    (case c19 => k_is)
    (case k19 => k_is)
    (case a20 => k_is)
    (case l20 => k_is)
    (case c20 => k_is)
    (case k20 => k_is)
    (case a21 => k_is)
    (case l21 => k_is)
    (case c21 => k_is)
    (case k21 => k_is)
    (case a22 => k_is)
    (case l22 => k_is)
    (case c22 => k_is)
    (case k22 => k_is)
    (case a23 => k_is)
    (case l23 => k_is)
    (case c23 => k_is)
    (case k23 => k_is)
    (case a24 => k_is)
    (case l24 => k_is)
    (case c24 => k_is)
    (case k24 => k_is)
    (case aC_BadLoops => k_is)
    (case xL_BadLoops => k_is)
    (case sa_BadLoops => k_is)
    (case ga_BadLoops => k_is)
    (case gg_BadLoops => k_is)
    (case nb_BadLoops => k_is)
    (case ai_BadLoops => k_is)
    (case ti_BadLoops => k_is)
    (case kC_BadLoops => k_is)
    (case eC_BadLoops => k_is)
    (case tC_BadLoops => k_is)
    (case hC_BadLoops => k_is)
    (case iC_BadLoops => k_is)
    (case sC_BadLoops => first | rfl | k_is)
    (case ki_BadLoops => k_is)
    (case li_BadLoops => k_is)
    (case ci_BadLoops => k_is)
    (case aC_OutOfPlace => k_is)
    (case xL_OutOfPlace => k_is)
    (case sa_OutOfPlace => k_is)
    (case ga_OutOfPlace => k_is)
    (case gg_OutOfPlace => k_is)
    (case nb_OutOfPlace => k_is)
    (case ai_OutOfPlace => k_is)
    (case ti_OutOfPlace => k_is)
    (case kC_OutOfPlace => k_is)
    (case eC_OutOfPlace => k_is)
    (case tC_OutOfPlace => k_is)
    (case hC_OutOfPlace => k_is)
    (case iC_OutOfPlace => k_is)
    (case sC_OutOfPlace => first | rfl | k_is)
    (case ki_OutOfPlace => k_is)
    (case li_OutOfPlace => k_is)
    (case ci_OutOfPlace => k_is)
    (case sy_OutOfPlace_BadLoops => k_is)
    (case z_ValueError => k_is)
    (case v_ValueError => k_is)
    (case z_isinstance => k_is)
    (case z_int => k_is)
    (case z_bool => k_is)
    (case z_enumerate => k_is)
    (case z_tuple => k_is)
    (case z_len => k_is)
    (case z_range => k_is)
    (case z_sum => k_is)
    (case z_list => k_is)
    (case z_min => k_is)
    (case g_MOST_LOOPS => k_is)
    (case g_MOST_THINGS => k_is)

