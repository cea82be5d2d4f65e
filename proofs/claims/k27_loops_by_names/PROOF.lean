import PyProof.Rows.All
import Wide.All
import OpenK.AllK
import Wide.FinOn
import HandS.ForMost
import HandS.Walk
import HandS.WideBits
import HandS.IsInst
import HandS.RaiseMore
import KE.GoesEnum
import HandS.TupAny
import HandS.Evl
import HandS.TupMul
import HandS.ExcInit
import HandS.ExcField
import HandS.ExcOwn
import HandS.TryOnly
import HandS.ForExc
import HandS.Strs
import HandS.SetBool
import HandS.TupLen
import HandS.Zip
import KE.KRevSl
import HandS.TupLe
import PyProof.Rows.SumAny
import HandS.Defaults
import PySem.Challenge.RW_pedalrounds_k27_loops_by_names
set_option Elab.async false
set_option linter.all false
set_option maxRecDepth 100000
set_option maxHeartbeats 4000000
/-! Rules of my own for the laws of Pedalrounds: repr of data, enumerate of a tuple, great powers. -/
namespace PySem
section
open PySem.Spec PyProof.Rows Builtin
/-- enumerate(t), t a tuple: the two new cells -/
abbrev myIt (t : Addr) : Obj := { cls := .type "tuple_iterator", data := .fields #[.ref t, .int 0 0] }
abbrev myEn (i : Addr) : Obj := { cls := .type "enumerate", data := .fields #[.none, .bool false, .ref i, rawInt 0, .none, .none] }
theorem my_enum_meets (t : Addr) (items : Array Value) :
    Meets (Builtin.«enumerate.__new__» ⟨[.type "enumerate", .ref t], []⟩)
      (fun _ R s => s.heap.IsTuple t items ∧ R (.ok (.ret (.ref (s.heap.push (myIt t)).objs.size))) { s with heap := (s.heap.push (myIt t)).push (myEn s.heap.objs.size) }) :=
  .of_wp fun prog w A R s hh => by
    obtain ⟨hp, g, dd, tk, os⟩ := s
    obtain ⟨hT, hR⟩ := hh
    have hsub := sub_enumerate
    have go : ∀ {A' : Around} {E Q : Value → Shared → Prop},
        Q (.ref hp.objs.size) ⟨hp.push (myIt t), g, dd, tk, os⟩ → wpAny (model prog w) A' (pyIter (.ref t)) Q E ⟨hp, g, dd, tk, os⟩ :=
      fun q => (begins_tuple t items).iter prog w _ _ ⟨hp, g, dd, tk, os⟩ _ hT q
    wp_walk using go
    refine wpAny_stack_any fun st => wpAny_pure ?_
    split
    · rename_i cc _ _ _ _ _
      cases (cc == Value.type "enumerate") <;> (wp_walk using go; exact ⟨_, rfl, hR⟩)
    · wp_walk using go
      exact ⟨_, rfl, hR⟩
variable {prog : Program} {w : World} {A : Around} {E : Value → Shared → Prop} {s : Shared}
theorem my_call_enum {t : Addr} {items : Array Value} {Q : Value → Shared → Prop} (hT : s.heap.IsTuple t items)
    (k : ∀ h', IsEnum h' (s.heap.objs.size + 1) s.heap.objs.size 0 .none → h'.IsTupleIter s.heap.objs.size t 0 →
      (∀ b o, s.heap.get? b = some o → h'.get? b = some o) → Q (.ref (s.heap.objs.size + 1)) { s with heap := h' }) :
    wpAny (model prog w) A (call (.type "enumerate") [.ref t]) Q E s := by
  refine callType_new F.called_enumerate (by decide) (F.typeCall_enumerate_1 _) (F.newCall_enumerate_1 _)
    (fun obj => F.args_object_init_2 obj _) F.entry_enumerate_new (my_enum_meets t items) ⟨hT, ?_⟩
  have hz : (s.heap.push (myIt t)).objs.size = s.heap.objs.size + 1 := Heap.size_push ..
  show _ ∧ _
  rw [hz]
  have he : IsEnum ((s.heap.push (myIt t)).push (myEn s.heap.objs.size)) (s.heap.objs.size + 1) s.heap.objs.size 0 .none := by
    have q := Heap.get?_push_size (s.heap.push (myIt t)) (o := myEn s.heap.objs.size) rfl
    rw [hz] at q
    exact q
  have hi : ((s.heap.push (myIt t)).push (myEn s.heap.objs.size)).IsTupleIter s.heap.objs.size t 0 := by
    refine ⟨myIt t, ?_, rfl, rfl⟩
    exact Heap.get?_push_of_some _ (Heap.get?_push_size _ rfl)
  refine ⟨⟨_, he, rfl⟩, k _ he hi ?_⟩
  intro b o x
  exact Heap.get?_push_of_some _ (Heap.get?_push_of_some _ x)
end
end PySem
namespace L2
open PySem PySem.Spec PyProof.Rows
/-! ### repr of data -/
theorem my_repr {X : Cx} (hu : X.A.units + 64 < cLine) (hg : X.A.guards = some []) :
    CallR X (.builtin "repr") (fun xs H Q => ∃ x d, xs = [x] ∧ Dp X.K H x d ∧ (isDisplay d = true ∧ d.showable = true ∧ d.hasDict = false ∧ d.depth ≤ 8 ∧ d.shown.length ≤ sizeLine) ∧ Q (.str d.shown) H) := by
  intro pins s σ H xs us Q I r h
  obtain ⟨x, d, rfl, hd, ⟨h1, h2, h3, h4, h5⟩, q⟩ := h
  obtain ⟨u, rfl, ru⟩ := vals1 r
  obtain ⟨as, rd⟩ := Dp.reads I d x u hd ru
  obtain ⟨a, rfl⟩ := isRef_of_reads rd h1
  refine repr_of_reads' rd h2 (PyData.noDict_hsm h3) hg (by omega) (fun _ _ e => e) (fun h' v tk hk => ?_) h5
  exact ⟨.str _, H, I.kept hk, ⟨_, rfl⟩, q⟩
/-! ### great powers -/
def CPowX (i j : Int) : Prop := 0 ≤ j ∧ (Builtin.Int.intBits i : Int) * j ≤ 2 ^ 27
theorem op_powX {X : Cx} : OpR X (binaryOp .Pow) (rI CPowX fun i j => .int (i ^ j.toNat)) :=
  opI fun _ _ _ _ _ _ _ hc q => pow_int hc.1 hc.2 q
/-! ### the built-in names -/
theorem bt_range : bootBuiltins "range" = some (.type "range") := by decide +kernel
theorem bt_int : bootBuiltins "int" = some (.type "int") := by decide +kernel
theorem bt_list : bootBuiltins "list" = some (.type "list") := by decide +kernel
theorem bt_tuple : bootBuiltins "tuple" = some (.type "tuple") := by decide +kernel
theorem bt_bool : bootBuiltins "bool" = some (.type "bool") := by decide +kernel
theorem bt_enumerate : bootBuiltins "enumerate" = some (.type "enumerate") := by decide +kernel
theorem bt_zip : bootBuiltins "zip" = some (.type "zip") := by decide +kernel
theorem bt_str : bootBuiltins "str" = some (.type "str") := by decide +kernel
theorem bt_dict : bootBuiltins "dict" = some (.type "dict") := by decide +kernel
theorem bt_set : bootBuiltins "set" = some (.type "set") := by decide +kernel
theorem bt_len : bootBuiltins "len" = some (.builtin "len") := by decide +kernel
theorem bt_min : bootBuiltins "min" = some (.builtin "min") := by decide +kernel
theorem bt_max : bootBuiltins "max" = some (.builtin "max") := by decide +kernel
theorem bt_repr : bootBuiltins "repr" = some (.builtin "repr") := by decide +kernel
theorem bt_sum : bootBuiltins "sum" = some (.builtin "sum") := by decide +kernel
theorem bt_isinstance : bootBuiltins "isinstance" = some (.builtin "isinstance") := by decide +kernel
theorem bt_any : bootBuiltins "any" = some (.builtin "any") := by decide +kernel
theorem bt_all : bootBuiltins "all" = some (.builtin "all") := by decide +kernel
theorem bt_sorted : bootBuiltins "sorted" = some (.builtin "sorted") := by decide +kernel
theorem bt_abs : bootBuiltins "abs" = some (.builtin "abs") := by decide +kernel
end L2

namespace L2
open PySem PySem.Spec PyProof.Rows
/-! ### enumerate of a tuple, walked -/
def ItE (K : PySem.W.Frag) (a : Addr) : It where
  go := fun i H => ∃ (xs : List V) (x : V), SqT K H a xs ∧ xs[i]? = some x
  yld := fun i H v H' => ∃ T x, v = .ref T ∧ H T = none ∧ H' = upd H T (.tup [.int (i : Nat), x]) ∧
    ∀ xs, SqT K H a xs → xs[i]? = some x
  stop := fun i H => ∃ xs : List V, SqT K H a xs ∧ xs.length = i
def tnE (a e it : Addr) (i : Nat) (h : Heap) : Prop :=
  (∃ old, IsEnum h e it ((i : Nat) : Int) old) ∧ h.IsTupleIter it a i ∧ e ≠ it ∧ a ≠ it ∧ a ≠ e
theorem turn_enumT {P : Program} {w : World} {K : PySem.W.Frag} {elts : List Expr} {kk : Nat} {tpos : Pos} (a e it : Addr) :
    Turn P w K (.Tuple elts kk tpos) (ItE K a) [e, it] e (tnE a e it) where
  mem := by simp
  obj := fun i h st b hb => by
    obtain ⟨⟨old, he⟩, ⟨o, ho, _, hd⟩, _⟩ := st
    rcases (by simpa using hb : b = e ∨ b = it) with z | z <;> subst z
    · exact ⟨_, he, fun v q => nomatch q⟩
    · refine ⟨o, ho, fun v q => ?_⟩
      rw [hd] at q
      cases q
  keep := fun i h h' st k => by
    obtain ⟨⟨old, he⟩, hi, r⟩ := st
    exact ⟨⟨old, k e (by simp) _ he⟩, hi.at (fun o q => k it (by simp) o q), r⟩
  item := by
    intro X hP hw hK hc i pins s σ H E I hf st hg
    subst hP hw hK
    obtain ⟨⟨old, he⟩, hit, hne, hai, hae⟩ := st
    obtain ⟨xs, x, hq, hx⟩ := hg
    obtain ⟨its, rv, p, hz⟩ := I.tuple hq
    obtain ⟨u, hu, ru⟩ := rv.get hx
    have hTu : s.heap.IsTuple a its.toArray := p
    have hel : e < s.heap.objs.size := Heap.lt_size he
    have hil : it < s.heap.objs.size := by
      obtain ⟨_, q, _⟩ := hit
      exact Heap.lt_size q
    have hlt : i < its.toArray.size := by
      have := (List.getElem?_eq_some_iff.mp hu).1
      simpa using this
    have D := Draws.tuple (prog := X.prog) (w := X.w) (A := X.A.in1) (I.ok.hd hc) it a hai its.toArray
    refine wpAny_pyNext_enum_itemD D he ⟨hit, hTu⟩ hlt hne (by simp; exact ⟨hne, Ne.symm hae⟩) fun y h' tk hy ho st' hT hsz hk => ?_
    have ey : y = u := by
      have q : its.toArray[i]? = some u := by simpa using hu
      exact Option.some.inj (hy.symm.trans q)
    subst ey
    refine ⟨_, rfl, wpAny_letOwnedTupleGo_enum (s := { s with heap := h', toks := tk + 1 }) ho fun g he' sb => ?_⟩
    have hT2 : g.get? s.heap.objs.size = some { cls := .type "tuple", data := .seq #[.int i tk, y] } :=
      (sb.2 _ (Nat.ne_of_gt hel)).trans hT
    have new : ObjOk X.prog X.w (upd H s.heap.objs.size (.tup [.int (i : Nat), x])) g s.heap.objs.size (.tup [.int (i : Nat), x]) :=
      ⟨by show 2 ≤ sizeLine; decide, [.int i tk, y], .cons ⟨_, rfl⟩ (.cons ru .nil), ⟨_, hT2, rfl, _, rfl⟩⟩
    have kk : ∀ b ob, b ∉ [e, it] → s.heap.get? b = some ob → g.get? b = some ob := fun b ob hb q => by
      have b1 : b ≠ e := fun z => hb (by simp [z])
      have b2 : b ≠ it := fun z => hb (by simp [z])
      exact (sb.2 b b1).trans (hk b ob b1 b2 q)
    have I1 := I.turnedNew (t' := tk + 1) kk hf (Nat.le_refl _) new
    refine ⟨.ref s.heap.objs.size, _, I1, rfl, ⟨_, x, rfl, I.hok.fresh (Nat.le_refl _), rfl, fun ys hy => ?_⟩, ?_, fun b hb => ?_⟩
    · rw [I.tuple_inj hy hq]
      exact hx
    · refine ⟨⟨y, ?_⟩, st'.1.at (fun o q => (sb.2 it (Ne.symm hne)).trans q), hne, hai, hae⟩
      have e1 : ((i + 1 : Nat) : Int) = (i : Int) + 1 := by omega
      rw [e1]
      exact he'
    · have hb' : b < s.heap.objs.size := by
        rcases (by simpa using hb : b = e ∨ b = it) with z | z <;> (rw [z]; assumption)
      rw [upd_ne (Nat.ne_of_lt hb')]
      exact (hf b hb).1
  done := by
    intro X hP hw hK hc i pins s σ H E I hf st hg
    subst hP hw hK
    obtain ⟨⟨old, he⟩, hit, hne, hai, hae⟩ := st
    obtain ⟨xs, hq, hx⟩ := hg
    obtain ⟨its, rv, p, hz⟩ := I.tuple hq
    obtain ⟨f0, f1, f2, f3, f4, f5⟩ := hf it (by simp)
    have hTu : s.heap.IsTuple a its.toArray := p
    have hn : i = its.toArray.size := by
      have hl := rv.length
      simp
      omega
    have D := Draws.tuple (prog := X.prog) (w := X.w) (A := X.A.in1) (I.ok.hd hc) it a hai its.toArray
    refine wpAny_pyNext_enum_endD D he ⟨hn ▸ hit, hTu⟩ fun h' eb => ?_
    exact ⟨rfl, I.turned (t' := s.toks) (fun b o hb q => eb b o hb q) f0 f1 f3 f4 f5⟩
  self := fun A i s Q E st h => by
    obtain ⟨⟨old, he⟩, _⟩ := st
    exact wpAny_pyIter_enum he h
/-- enumerate(t) is walked -/
def iEnumT (K : PySem.W.Frag) (ta : TA) : TI := fun σ H R => ta σ H fun vs H1 => ∃ a xs, vs = [.ref a] ∧ SqT K H1 a xs ∧ R (ItE K a) H1
theorem pi_enumT {X : Cx} {e : Expr} {ta : TA} {p pos tpos : Pos} {elts : List Expr} {kk : Nat} (hg : Gl X "enumerate")
    (hm : X.mg "enumerate" = none) (ha : PA X [e] ta) (hs : starEach [e] X.env = [(false, eval e X.env)] := by rfl) :
    PI X (.Tuple elts kk tpos) (.Call (.Name "enumerate" p) [e] [] pos) (iEnumT X.K ta) := by
  refine ⟨fun pins s σ H R I h => ?_⟩
  have body : ∀ us s1, AP X pins σ (fun vs H1 => ∃ a xs, vs = [.ref a] ∧ SqT X.K H1 a xs ∧ R (ItE X.K a) H1) us s1 →
      wpAny (model X.prog X.w) X.A (call (.type "enumerate") us) (fun v s2 => wpAny (model X.prog X.w) X.A (pyIter v) (PIE X pins σ (.Tuple elts kk tpos) R) X.xe s2) X.xe s1 := by
    rintro us s1 ⟨vs, H1, I1, r1, a, xs, rfl, hq, q⟩
    obtain ⟨u, rfl, ru⟩ := vals1 r1
    cases ru
    obtain ⟨its, rv, p', hz⟩ := I1.tuple hq
    have hTu : s1.heap.IsTuple a its.toArray := p'
    obtain ⟨oa, hoa, _⟩ := id hTu
    have hal : a < s1.heap.objs.size := Heap.lt_size hoa
    refine my_call_enum hTu fun h' he hit hk => wpAny_pyIter_enum he ?_
    have I2 : Inv X pins σ H1 { s1 with heap := h' } := I1.kept (t' := s1.toks) hk
    refine ⟨s1.heap.objs.size + 1, [s1.heap.objs.size + 1, s1.heap.objs.size], _, _, H1, rfl, I2, turn_enumT a (s1.heap.objs.size + 1) s1.heap.objs.size, ?_, fun b hb => ?_, q⟩
    · exact ⟨⟨.none, he⟩, hit, Nat.succ_ne_self _, Nat.ne_of_lt hal, Nat.ne_of_lt (Nat.lt_succ_of_lt hal)⟩
    · have hle : s1.heap.objs.size ≤ b := by
        rcases (by simpa using hb : b = s1.heap.objs.size + 1 ∨ b = s1.heap.objs.size) with z | z <;> rw [z]
        · exact Nat.le_add_right _ _
        · exact Nat.le_refl _
      exact I1.fpOk hle (I1.hok.fresh hle)
  exact Call_ (ld_blt I hg hm boot_enumerate (PyProof.Rows.callWith_type1 (thn (ha.run pos pins s σ H _ I h) fun us s1 q => body us s1 q) hs rfl))
theorem walk_enumT {K : PySem.W.Frag} {a : Addr} {xs : List V} :
    Walk (ItE K a) xs.length (fun H => SqT K H a xs) (YPair (fun i => some (.int (i : Nat))) (fun i => xs[i]?)) where
  goes := fun i _ hi q => ⟨xs, xs[i], q, by simp [hi]⟩
  stops := fun _ q => ⟨xs, q, rfl⟩
  yields := by
    rintro i H v H' _ q ⟨T, x, h1, h2, h3, h4⟩
    exact ⟨T, .int (i : Nat), x, h1, h2, h3, rfl, h4 xs q⟩
end L2

namespace L2
open PySem PySem.Spec PyProof.Rows
/-! ### data that stand in a heap, and what keeps them -/
/-- tuples stay -/
def TK (K : PySem.W.Frag) (H H' : Hp) : Prop := ∀ a xs, SqT K H a xs → SqT K H' a xs
theorem TK.refl {K : PySem.W.Frag} {H : Hp} : TK K H H := fun _ _ h => h
theorem TK.trans {K : PySem.W.Frag} {H H1 H2 : Hp} (a : TK K H H1) (b : TK K H1 H2) : TK K H H2 := fun c xs h => b c xs (a c xs h)
theorem Same.tk {K : PySem.W.Frag} {H H' : Hp} (e : Same H H') : TK K H H' := fun a xs h => by
  rcases h with (h | ⟨o, h⟩) | h
  · exact .inl (.inl (e _ _ h))
  · exact .inl (.inr ⟨o, e _ _ h⟩)
  · exact .inr h
theorem same_upd {H : Hp} {p : Addr} (h : H p = none) (o : HO) : Same H (upd H p o) := fun b u q => by
  rw [upd_ne (ne_of_none q h)]
  exact q
theorem same_step {H H1 : Hp} {p : Addr} (e : Same H H1) (h : H1 p = none) (o : HO) : Same H (upd H1 p o) := e.trans (same_upd h o)
/-- only tuples, no lists -/
def tupOnly : PyData → Bool
  | .list _ => false
  | .dict _ => false
  | .tuple xs => go xs
  | _ => true
where go : List PyData → Bool
  | [] => true
  | x :: r => tupOnly x && go r
mutual
theorem Dp.keepT {K : PySem.W.Frag} {H H' : Hp} (k : TK K H H') : ∀ (d : PyData) (v : V), tupOnly d = true → Dp K H v d → Dp K H' v d
  | .none, _, _, h => by cases h; exact .non
  | .bool b, _, _, h => by cases h; exact .bl b
  | .int i, _, _, h => by cases h; exact .int i
  | .str x, _, _, h => by cases h; exact .str x
  | .list _, _, t, _ => by cases t
  | .dict _, _, t, _ => by cases t
  | .tuple ds, _, t, h => by
    cases h with
    | tup hs ha => exact .tup (k _ _ hs) (DpAll.keepT k ds _ t ha)
theorem DpAll.keepT {K : PySem.W.Frag} {H H' : Hp} (k : TK K H H') : ∀ (ds : List PyData) (vs : List V), tupOnly.go ds = true → DpAll K H vs ds → DpAll K H' vs ds
  | [], _, _, h => by cases h; exact .nil
  | d :: r, _, t, h => by
    cases h with
    | cons h1 h2 =>
      have t' := Bool.and_eq_true_iff.mp t
      exact .cons (Dp.keepT k d _ t'.1 h1) (DpAll.keepT k r _ t'.2 h2)
end
mutual
theorem Dp.same {K : PySem.W.Frag} {H H' : Hp} (e : Same H H') : ∀ (d : PyData) (v : V), Dp K H v d → Dp K H' v d
  | .none, _, h => by cases h; exact .non
  | .bool b, _, h => by cases h; exact .bl b
  | .int i, _, h => by cases h; exact .int i
  | .str x, _, h => by cases h; exact .str x
  | .dict _, _, h => by cases h
  | .list ds, _, h => by
    cases h with
    | lst hs ha => exact .lst (e.seq hs) (DpAll.same e ds _ ha)
  | .tuple ds, _, h => by
    cases h with
    | tup hs ha => exact .tup (Same.tk e _ _ hs) (DpAll.same e ds _ ha)
theorem DpAll.same {K : PySem.W.Frag} {H H' : Hp} (e : Same H H') : ∀ (ds : List PyData) (vs : List V), DpAll K H vs ds → DpAll K H' vs ds
  | [], _, h => by cases h; exact .nil
  | d :: r, _, h => by
    cases h with
    | cons h1 h2 => exact .cons (Dp.same e d _ h1) (DpAll.same e r _ h2)
end
theorem DpAll.len {K : PySem.W.Frag} {H : Hp} : ∀ {vs : List V} {ds : List PyData}, DpAll K H vs ds → vs.length = ds.length
  | _, _, .nil => rfl
  | _, _, .cons _ h => by simp [DpAll.len h]
theorem DpAll.get {K : PySem.W.Frag} {H : Hp} : ∀ {vs : List V} {ds : List PyData} {i : Nat} {v : V}, DpAll K H vs ds → vs[i]? = some v → ∃ d, ds[i]? = some d ∧ Dp K H v d
  | _, _, _, _, .nil, h => by cases h
  | _, _, 0, _, .cons h1 _, h => by
    cases h
    exact ⟨_, rfl, h1⟩
  | _, _, i + 1, _, .cons _ h2, h => DpAll.get (i := i) h2 h
theorem DpAll.app {K : PySem.W.Frag} {H : Hp} : ∀ {vs us : List V} {ds es : List PyData}, DpAll K H vs ds → DpAll K H us es → DpAll K H (vs ++ us) (ds ++ es)
  | _, _, _, _, .nil, h => h
  | _, _, _, _, .cons h1 h2, h => .cons h1 (DpAll.app h2 h)
theorem DpAll.ints {K : PySem.W.Frag} {H : Hp} : ∀ (ns : List Int), DpAll K H (ns.map V.int) (ns.map PyData.int)
  | [] => .nil
  | n :: r => .cons (.int n) (DpAll.ints r)
theorem DpAll.ints_inv {K : PySem.W.Frag} {H : Hp} : ∀ {ns : List Int} {vs : List V}, DpAll K H vs (ns.map PyData.int) → vs = ns.map V.int
  | [], _, h => by cases h; rfl
  | n :: r, _, h => by
    cases h with
    | cons h1 h2 =>
      cases h1
      rw [DpAll.ints_inv h2]
      rfl
/-- a tuple of ints -/
abbrev dInts (ns : List Int) : PyData := .tuple (ns.map PyData.int)
/-- loops -/
abbrev dLoops (ls : List (List Int)) : PyData := .tuple (ls.map dInts)
theorem Dp.ints {K : PySem.W.Frag} {H : Hp} {v : V} {ns : List Int} (h : Dp K H v (dInts ns)) : ∃ a, v = .ref a ∧ SqT K H a (ns.map V.int) := by
  cases h with
  | tup hs ha =>
    rw [DpAll.ints_inv ha] at hs
    exact ⟨_, rfl, hs⟩
theorem Dp.ofInts {K : PySem.W.Frag} {H : Hp} {a : Addr} {ns : List Int} (h : SqT K H a (ns.map V.int)) : Dp K H (.ref a) (dInts ns) := .tup h (DpAll.ints ns)
theorem Dp.tuple {K : PySem.W.Frag} {H : Hp} {v : V} {ds : List PyData} (h : Dp K H v (.tuple ds)) : ∃ a xs, v = .ref a ∧ SqT K H a xs ∧ DpAll K H xs ds := by
  cases h with
  | tup hs ha => exact ⟨_, _, rfl, hs, ha⟩
theorem to_ints : ∀ ns : List Int, tupOnly.go (ns.map PyData.int) = true
  | [] => rfl
  | n :: r => by
    show (true && tupOnly.go (r.map PyData.int)) = true
    rw [to_ints r]
    rfl
theorem to_loops : ∀ ls : List (List Int), tupOnly.go (ls.map dInts) = true
  | [] => rfl
  | l :: r => by
    show (tupOnly.go (l.map PyData.int) && tupOnly.go (r.map dInts)) = true
    rw [to_loops r, to_ints l]
    rfl
theorem SqT.ty {K : PySem.W.Frag} {H : Hp} {a : Addr} {xs : List V} (h : SqT K H a xs) : TyX K H (.ref a) (.type "tuple") := by
  rcases h with (h | ⟨o, h⟩) | ⟨o, its, n, h1, h2, _⟩
  · exact .base (.tup h)
  · exact .fTuple h
  · exact .kTuple h1 h2
/-! ### the rules with the written part named -/
section
variable {X : Cx} {K : PySem.W.Frag}
theorem k_len (e : X.K = K := by rfl) : CallR X (.builtin "len") (Evl.rLenS K) := by
  subst e
  exact call_len_seq
def rTupS (K : PySem.W.Frag) : List V → Hp → VK → Prop := fun xs H Q => ∃ p ys, xs = [.ref p] ∧ ((SqL K H p ys ∧ ∀ l, H l = none → Q (.ref l) (upd H l (.tup ys))) ∨ (SqT K H p ys ∧ Q (.ref p) H))
theorem k_tuple (e : X.K = K := by rfl) : CallR X (.type "tuple") (rTupS K) := by
  subst e
  exact call_tuple_of
theorem k_list (e : X.K = K := by rfl) : CallR X (.type "list") (Evl.rListS K) := by
  subst e
  exact call_list_of
theorem k_sum (hc : X.calm = true) (e : X.K = K := by rfl) : CallR X (.builtin "sum") (rSum K) := by
  subst e
  exact cr_sum hc
theorem k_isi (e : X.K = K := by rfl) : CallR X (.builtin "isinstance") (rIsi K) := by
  subst e
  exact call_isi
theorem k_slL (e : X.K = K := by rfl) : SlR X (rSlL K) := by
  subst e
  exact sl_list
theorem k_slT (e : X.K = K := by rfl) : SlR X (rSlA K) := by
  subst e
  exact sl_tupA
theorem k_ixL (e : X.K = K := by rfl) : IxR X (rIxL K) := by
  subst e
  exact ix_list
theorem k_ixT (e : X.K = K := by rfl) : IxR X (rIxT K) := by
  subst e
  exact ix_tup
theorem k_eqD (hu : X.A.units + 64 < cLine) (e : X.K = K := by rfl) : OpR X (compareOp .Eq) (rEqD K) := by
  subst e
  exact op_eqD hu
theorem k_neD (hu : X.A.units + 64 < cLine) (e : X.K = K := by rfl) : OpR X (compareOp .NotEq) (rNeD K) := by
  subst e
  exact op_neD hu
theorem k_catT (e : X.K = K := by rfl) : OpR X (binaryOp .Add) (rCatA K) := by
  subst e
  exact op_catA
def rReprD (K : PySem.W.Frag) : List V → Hp → VK → Prop := fun xs H Q => ∃ x d, xs = [x] ∧ Dp K H x d ∧ (isDisplay d = true ∧ d.showable = true ∧ d.hasDict = false ∧ d.depth ≤ 8 ∧ d.shown.length ≤ sizeLine) ∧ Q (.str d.shown) H
theorem k_repr (hu : X.A.units + 64 < cLine) (hg : X.A.guards = some []) (e : X.K = K := by rfl) : CallR X (.builtin "repr") (rReprD K) := by
  subst e
  exact my_repr hu hg
theorem k_piL {tg l : Expr} {tl : TE} (hl : PE X l tl) (e : X.K = K := by rfl) : PI X tg l (iList K tl) := by
  subst e
  exact pi_list hl
theorem k_piT {tg l : Expr} {tl : TE} (hl : PE X l tl) (e : X.K = K := by rfl) : PI X tg l (iTup K tl) := by
  subst e
  exact pi_tup hl
theorem k_piET {e : Expr} {ta : TA} {p pos tpos : Pos} {elts : List Expr} {kk : Nat} (hg : Gl X "enumerate")
    (hm : X.mg "enumerate" = none) (ha : PA X [e] ta) (hs : starEach [e] X.env = [(false, eval e X.env)] := by rfl) (ek : X.K = K := by rfl) :
    PI X (.Tuple elts kk tpos) (.Call (.Name "enumerate" p) [e] [] pos) (iEnumT K ta) := by
  subst ek
  exact pi_enumT hg hm ha hs
theorem k_piEL {e : Expr} {ta : TA} {p pos tpos : Pos} {elts : List Expr} {kk : Nat} (hg : Gl X "enumerate")
    (hm : X.mg "enumerate" = none) (ha : PA X [e] ta) (hs : starEach [e] X.env = [(false, eval e X.env)] := by rfl) (ek : X.K = K := by rfl) :
    PI X (.Tuple elts kk tpos) (.Call (.Name "enumerate" p) [e] [] pos) (iEnum K ta) := by
  subst ek
  exact pi_enum hg hm ha hs
end
end L2
namespace My
open PySem PySem.Spec PyProof.Rows L2
/-! ### the state of the draws -/

abbrev kCells : Key := .inr "cells"
abbrev kLeft : Key := .inr "left"
abbrev kAt : Key := .inr "at"
def mKvs (c l : Addr) (n : Nat) : List (Key × V) := [(kCells, .ref c), (kLeft, .ref l), (kAt, .int (n : Int))]
structure MAt (H : Hp) (m c l : Addr) (n : Nat) : Prop where
  dk : H m = some (.dK (mKvs c l n))
  cs : ∃ cs : List Int, H c = some (.lst (cs.map V.int)) ∧ cs.length ≤ 63
  ls : ∃ ls : List Int, H l = some (.lst (ls.map V.int)) ∧ ls.length ≤ 63 ∧ ∀ z ∈ ls, 0 ≤ z
  cl : c ≠ l
/-- b is a part of the state: the list of the cells, or that of what is left -/
def Lf (H : Hp) (m b : Addr) : Prop := ∃ kvs k, H m = some (.dK kvs) ∧ valV kvs k = some (.ref b)
/-- the state of the draws stands at m, n mixed numbers drawn -/
def MS (H : Hp) (m : Addr) (n : Nat) : Prop := ∃ c l, MAt H m c l n
theorem e12 : ¬ (Str.ofString "cells" = Str.ofString "left") := by decide +kernel
theorem e13 : ¬ (Str.ofString "cells" = Str.ofString "at") := by decide +kernel
theorem e23 : ¬ (Str.ofString "left" = Str.ofString "at") := by decide +kernel
theorem e21 : ¬ (Str.ofString "left" = Str.ofString "cells") := by decide +kernel
theorem e31 : ¬ (Str.ofString "at" = Str.ofString "cells") := by decide +kernel
theorem e32 : ¬ (Str.ofString "at" = Str.ofString "left") := by decide +kernel
theorem k12 : ¬ kCells = kLeft := by decide +kernel
theorem k13 : ¬ kCells = kAt := by decide +kernel
theorem k23 : ¬ kLeft = kAt := by decide +kernel
theorem k21 : ¬ kLeft = kCells := by decide +kernel
theorem k31 : ¬ kAt = kCells := by decide +kernel
theorem k32 : ¬ kAt = kLeft := by decide +kernel
theorem mKvs_cells (c l : Addr) (n : Nat) : valV (mKvs c l n) kCells = some (.ref c) := by
  unfold mKvs
  rw [valV_pos rfl]
theorem mKvs_left (c l : Addr) (n : Nat) : valV (mKvs c l n) kLeft = some (.ref l) := by
  unfold mKvs
  rw [valV_neg k12, valV_pos rfl]
theorem mKvs_at (c l : Addr) (n : Nat) : valV (mKvs c l n) kAt = some (.int (n : Int)) := by
  unfold mKvs
  rw [valV_neg k13, valV_neg k23, valV_pos rfl]
theorem put3_2 {x y z w : V} : putK [(kCells, x), (kLeft, y), (kAt, z)] kLeft w = [(kCells, x), (kLeft, w), (kAt, z)] := by
  simp [putK, e12, e21, e23, e32]
theorem put3_3 {x y z w : V} : putK [(kCells, x), (kLeft, y), (kAt, z)] kAt w = [(kCells, x), (kLeft, y), (kAt, w)] := by
  simp [putK, e13, e31, e23, e32]
theorem merge3 {x y z : V} : mergeK [] [(kCells, x), (kLeft, y), (kAt, z)] = [(kCells, x), (kLeft, y), (kAt, z)] := by
  simp [mergeK, putK, e12, e21, e13, e31, e23, e32]
theorem mKvs_ref {c l b : Addr} {n : Nat} {k : Key} (h : valV (mKvs c l n) k = some (.ref b)) : b = c ∨ b = l := by
  unfold mKvs at h
  by_cases h1 : kCells = k
  · rw [valV_pos h1] at h
    cases h
    exact .inl rfl
  · rw [valV_neg h1] at h
    by_cases h2 : kLeft = k
    · rw [valV_pos h2] at h
      cases h
      exact .inr rfl
    · rw [valV_neg h2] at h
      by_cases h3 : kAt = k
      · rw [valV_pos h3] at h
        cases h
      · rw [valV_neg h3] at h
        cases h
theorem MAt.lf {H : Hp} {m c l : Addr} {n : Nat} (M : MAt H m c l n) {b : Addr} (h : Lf H m b) : b = c ∨ b = l := by
  obtain ⟨kvs, k, h1, h2⟩ := h
  rw [M.dk] at h1
  cases h1
  exact mKvs_ref h2
theorem MAt.ownC {H : Hp} {m c l : Addr} {n : Nat} (M : MAt H m c l n) : Lf H m c := ⟨_, kCells, M.dk, mKvs_cells c l n⟩
theorem MAt.ownL {H : Hp} {m c l : Addr} {n : Nat} (M : MAt H m c l n) : Lf H m l := ⟨_, kLeft, M.dk, mKvs_left c l n⟩
/-- what a draw may change: the state itself and what is left -/
structure Ef (m : Addr) (H H' : Hp) : Prop where
  keep : ∀ b o, H b = some o → b ≠ m → ¬ Lf H m b → H' b = some o
  new : ∀ b, Lf H' m b → Lf H m b ∨ H b = none
  st : ∀ o, H m = some o → ∃ o', H' m = some o'
theorem Ef.trans {m : Addr} {H H1 H2 : Hp} (a : Ef m H H1) (b : Ef m H1 H2) : Ef m H H2 where
  keep := fun c o h h1 h2 => b.keep c o (a.keep c o h h1 h2) h1 fun z => by
    rcases a.new c z with q | q
    · exact h2 q
    · rw [h] at q
      cases q
  new := fun c z => by
    rcases b.new c z with q | q
    · exact a.new c q
    · cases e : H c with
      | none => exact .inr rfl
      | some o =>
        refine .inl (Classical.byContradiction fun w => ?_)
        by_cases cm : c = m
        · subst cm
          obtain ⟨o', e'⟩ := a.st o e
          rw [q] at e'
          cases e'
        · rw [a.keep c o e cm w] at q
          cases q
  st := fun o h => by
    obtain ⟨o1, h1⟩ := a.st o h
    exact b.st o1 h1
theorem Ef.refl {m : Addr} {H : Hp} : Ef m H H := ⟨fun _ _ h _ _ => h, fun _ h => .inl h, fun o h => ⟨o, h⟩⟩
theorem Ef.ofSame {m : Addr} {H H' : Hp} {n : Nat} (M : MS H m n) (e : Same H H') : Ef m H H' where
  keep := fun b o h _ _ => e b o h
  new := fun b z => by
    obtain ⟨c, l, M⟩ := M
    obtain ⟨kvs, k, h1, h2⟩ := z
    rw [e _ _ M.dk] at h1
    cases h1
    exact .inl ⟨_, k, M.dk, h2⟩
  st := fun o h => ⟨o, e _ _ h⟩
theorem MS.same {m : Addr} {H H' : Hp} {n : Nat} (M : MS H m n) (e : Same H H') : MS H' m n := by
  obtain ⟨c, l, dk, ⟨cs, h1, h2⟩, ⟨ls, h3, h4, h5⟩, cl⟩ := M
  exact ⟨c, l, e _ _ dk, ⟨cs, e _ _ h1, h2⟩, ⟨ls, e _ _ h3, h4, h5⟩, cl⟩
theorem Ef.tk {K : PySem.W.Frag} {m : Addr} {H H' : Hp} {n : Nat} (e : Ef m H H') (M : MS H m n) : TK K H H' := fun a xs h => by
  obtain ⟨c, l, M⟩ := M
  obtain ⟨ls, hl, _⟩ := M.ls
  obtain ⟨cs, hc, _⟩ := M.cs
  have go : ∀ u : HO, H a = some u → (∀ kvs, u ≠ .dK kvs) → (∀ ys, u ≠ .lst ys) → H' a = some u := fun u hu h1 h2 => by
    refine e.keep a u hu (fun z => ?_) (fun z => ?_)
    · subst z
      rw [M.dk] at hu
      exact h1 _ (Option.some.inj hu).symm
    · rcases M.lf z with q | q
      · rw [q, hc] at hu
        exact h2 _ (Option.some.inj hu).symm
      · rw [q, hl] at hu
        exact h2 _ (Option.some.inj hu).symm
  rcases h with (h | ⟨o, h⟩) | h
  · exact .inl (.inl (go _ h (by intro _ z; cases z) (by intro _ z; cases z)))
  · exact .inl (.inr ⟨o, go _ h (by intro _ z; cases z) (by intro _ z; cases z)⟩)
  · exact .inr h
theorem Ef.lst {m : Addr} {H H' : Hp} {p : Addr} {xs : List V} {n : Nat} (e : Ef m H H') (M : MS H m n) (h : H p = some (.lst xs)) (nl : ¬ Lf H m p) : H' p = some (.lst xs) ∧ ¬ Lf H' m p := by
  have pm : p ≠ m := fun z => by
    obtain ⟨c, l, M⟩ := M
    rw [z, M.dk] at h
    cases h
  refine ⟨e.keep _ _ h pm nl, fun z => ?_⟩
  rcases e.new _ z with q | q
  · exact nl q
  · rw [h] at q
    cases q
theorem MS.notLf {m : Addr} {H : Hp} {n : Nat} (M : MS H m n) {p : Addr} (h : H p = none) : ¬ Lf H m p := fun z => by
  obtain ⟨c, l, M⟩ := M
  obtain ⟨ls, hl, _⟩ := M.ls
  obtain ⟨cs, hc, _⟩ := M.cs
  rcases M.lf z with q | q
  · rw [q, hc] at h
    cases h
  · rw [q, hl] at h
    cases h
theorem map_int_get {ns : List Int} {i : Nat} {x : V} (h : (ns.map V.int)[i]? = some x) : ∃ z, ns[i]? = some z ∧ x = V.int z := by
  rw [List.getElem?_map] at h
  cases e : ns[i]? with
  | none =>
    rw [e] at h
    cases h
  | some z =>
    rw [e] at h
    exact ⟨z, rfl, (Option.some.inj h).symm⟩
theorem MAt.left {H : Hp} {m c l : Addr} {n : Nat} (M : MAt H m c l n) : DGet H m (.str "left") (some (.ref l)) := by
  have h := DGet.k (k := kLeft) M.dk
  rw [mKvs_left] at h
  exact h
theorem MAt.cells {H : Hp} {m c l : Addr} {n : Nat} (M : MAt H m c l n) : DGet H m (.str "cells") (some (.ref c)) := by
  have h := DGet.k (k := kCells) M.dk
  rw [mKvs_cells] at h
  exact h
theorem MAt.at {H : Hp} {m c l : Addr} {n : Nat} (M : MAt H m c l n) : DGet H m (.str "at") (some (.int (n : Int))) := by
  have h := DGet.k (k := kAt) M.dk
  rw [mKvs_at] at h
  exact h
theorem eqv_nil : ∀ ls : List Int, PyData.eqv (.list (ls.map PyData.int)) (.list []) = ls.isEmpty
  | [] => rfl
  | _ :: _ => rfl
/-- xs != [] -/
theorem rd_ne_nil {K : PySem.W.Frag} {H : Hp} {l : Addr} {ls : List Int} {σ : L2.St} {Q : VK} (hl : H l = some (.lst (ls.map V.int)))
    (k : ∀ p, H p = none → Q (.bl (!ls.isEmpty)) (upd H p (.lst []))) : tLst tNil σ H fun y H2 => rNeD K (.ref l) y H2 Q := by
  refine ⟨(by show 0 ≤ sizeLine; decide), fun p hp => ?_⟩
  have lp : l ≠ p := ne_of_none hl hp
  refine ⟨.list (ls.map PyData.int), .list [], .lst (SqL.of (by rw [upd_ne lp]; exact hl)) (DpAll.ints ls), .lst (SqL.of upd_same) .nil, PySem.W.shaped_ints ls, by decide +kernel, ?_⟩
  rw [eqv_nil]
  exact k p hp
theorem cut_tail (z : Int) (r : List Int) : cutV ((z :: r).map V.int) (some 1) none = r.map V.int := by
  simp only [cutV, HT.sIx, List.map_cons, List.length_cons, List.length_map]
  rw [if_neg (by omega)]
  have e : min (1 : Int).toNat (r.length + 1) = 1 := by
    show min 1 (r.length + 1) = 1
    omega
  rw [e]
  show ((r.map V.int).take (r.length + 1 - 1)) = _
  rw [List.take_of_length_le (by rw [List.length_map]; omega)]
theorem map_int_inj : ∀ {xs ys : List Int}, xs.map V.int = ys.map V.int → xs = ys
  | [], [], _ => rfl
  | [], _ :: _, h => by simp at h
  | _ :: _, [], h => by simp at h
  | x :: xs, y :: ys, h => by
    simp only [List.map_cons, List.cons.injEq, V.int.injEq] at h
    rw [h.1, map_int_inj h.2]
theorem at_zero {x : V} {r : List V} : atI (x :: r) 0 = some x := at_of (j := 0) rfl rfl
/-- what is known of a value and its heap, for all that follows -/
theorem te_cut {te : TE} {σ : L2.St} {H : Hp} {Q : VK} (R : V → Hp → Prop) (h : ∀ Q', (∀ v H', R v H' → Q' v H') → te σ H Q') (k : ∀ v H', R v H' → Q v H') : te σ H Q := h Q k
theorem tt_cut {tt : TT} {σ : L2.St} {H : Hp} {Q : Bool → Hp → Prop} (R : Bool → Hp → Prop) (h : ∀ Q', (∀ b H', R b H' → Q' b H') → tt σ H Q') (k : ∀ b H', R b H' → Q b H') : tt σ H Q := h Q k
theorem MAt.same {m c l : Addr} {H H' : Hp} {n : Nat} (M : MAt H m c l n) (e : Same H H') : MAt H' m c l n := by
  obtain ⟨dk, ⟨cs, h1, h2⟩, ⟨ls, h3, h4, h5⟩, cl⟩ := M
  exact ⟨e _ _ dk, ⟨cs, e _ _ h1, h2⟩, ⟨ls, e _ _ h3, h4, h5⟩, cl⟩
theorem at_mod (k : Int) {xs : List Int} (h : (0 : Int) < ((xs.map V.int).length : Int)) : ∃ v : Int, atI (xs.map V.int) (k.fmod ((xs.map V.int).length : Int)) = some (.int v) := by
  have h1 := Int.fmod_nonneg_of_pos k h
  have h2 := Int.fmod_lt_of_pos k h
  rw [List.length_map] at h h1 h2 ⊢
  have hk : (k.fmod (xs.length : Int)).toNat < xs.length := by omega
  refine ⟨xs[(k.fmod (xs.length : Int)).toNat], at_of (j := (k.fmod (xs.length : Int)).toNat) (by omega) ?_⟩
  rw [List.getElem?_map, List.getElem?_eq_getElem hk]
  all_goals rfl
theorem seq_asg {te : TE} {g : TG} {u : TS} {D : Ends} {σ : L2.St} {H : Hp} (h : te σ H fun x H1 => g x σ H1 (u D)) : tSeq (tAsg te g) u D σ H := h
/-- name = e, what is known of the value told once -/
theorem seq_cut {te : TE} {g : TG} {u : TS} {D : Ends} {σ : L2.St} {H : Hp} (R : V → Hp → Prop) (h : ∀ Q', (∀ v H', R v H' → Q' v H') → te σ H Q')
    (k : ∀ v H', R v H' → g v σ H' (u D)) : tSeq (tAsg te g) u D σ H := h _ k
theorem ret_cut {te : TE} {D : Ends} {σ : L2.St} {H : Hp} (R : V → Hp → Prop) (h : ∀ Q', (∀ v H', R v H' → Q' v H') → te σ H Q') (k : ∀ v H', R v H' → D.rt v H') : tRet te D σ H := h _ k
/-- another list than those of the state is written -/
theorem MS.upd {m : Addr} {H : Hp} {n : Nat} {D : Addr} {xs : List V} {o : HO} (M : MS H m n) (h : H D = some (.lst xs)) (nl : ¬ Lf H m D) : MS (upd H D o) m n := by
  obtain ⟨c, l, M⟩ := M
  have Dm : m ≠ D := fun z => by
    rw [← z, M.dk] at h
    cases h
  have Dc : c ≠ D := fun z => nl (z ▸ M.ownC)
  have Dl : l ≠ D := fun z => nl (z ▸ M.ownL)
  obtain ⟨dk, ⟨cs, h1, h2⟩, ⟨ls, h3, h4, h5⟩, cl⟩ := M
  exact ⟨c, l, by rw [upd_ne Dm]; exact dk, ⟨cs, by rw [upd_ne Dc]; exact h1, h2⟩, ⟨ls, by rw [upd_ne Dl]; exact h3, h4, h5⟩, cl⟩
theorem Lf.upd {m : Addr} {H : Hp} {D b : Addr} {o : HO} (Dm : m ≠ D) (h : Lf (upd H D o) m b) : Lf H m b := by
  obtain ⟨kvs, k, h1, h2⟩ := h
  rw [upd_ne Dm] at h1
  exact ⟨kvs, k, h1, h2⟩
/-- a list that was new at H0 is written -/
theorem Ef.upd {m : Addr} {H0 H : Hp} {D : Addr} {o : HO} (e : Ef m H0 H) (h0 : H0 D = none) (Dm : m ≠ D) : Ef m H0 (upd H D o) where
  keep := fun b u h h1 h2 => by
    rw [upd_ne (ne_of_none h h0)]
    exact e.keep b u h h1 h2
  new := fun b z => e.new b (z.upd Dm)
  st := fun u h => by
    rw [upd_ne Dm]
    exact e.st u h
theorem log_ok {many : Int} (h0 : 0 < many) (h : many ≤ 10 ^ 31) : many.natAbs.log2 < 9000 := by
  have e : many.natAbs < 2 ^ 104 := by
    have : (10 : Int) ^ 31 < 2 ^ 104 := by decide
    omega
  have := (Nat.log2_lt (by omega)).mpr e
  omega
theorem MS.mne {m : Addr} {H : Hp} {n : Nat} (M : MS H m n) {D : Addr} (h : H D = none) : m ≠ D := fun z => by
  obtain ⟨c, l, M⟩ := M
  rw [← z, M.dk] at h
  cases h
theorem MS.mneL {m : Addr} {H : Hp} {n : Nat} (M : MS H m n) {D : Addr} {xs : List V} (h : H D = some (.lst xs)) : m ≠ D := fun z => by
  obtain ⟨c, l, M⟩ := M
  rw [← z, M.dk] at h
  cases h
/-- a list is written: tuples stay -/
theorem tk_upd {K : PySem.W.Frag} {H : Hp} {D : Addr} {xs : List V} {o : HO} (h : H D = some (.lst xs)) : TK K H (upd H D o) := fun a ys q => by
  rcases q with (q | ⟨u, q⟩) | q
  · exact .inl (.inl (by rw [upd_ne (ne_of q h (by intro w; cases w))]; exact q))
  · exact .inl (.inr ⟨u, by rw [upd_ne (ne_of q h (by intro w; cases w))]; exact q⟩)
  · exact .inr q
theorem take_more {α : Type} {l : List α} {i : Nat} {x : α} (h : l[i]? = some x) : l.take (i + 1) = l.take i ++ [x] := by
  rw [List.take_add_one, h]
  rfl
end My

/-! Which data repr tells, and how long its text may be. -/
namespace L2
open PySem PySem.Spec PyProof.Rows
/-- ints of at most k digits, no dict -/
def fits (k : Nat) : PyData → Bool
  | .int i => decide (i.natAbs < 10 ^ k)
  | .none => true
  | .bool _ => true
  | .str x => decide ((reprText x).length ≤ 1000)
  | .list xs => go xs
  | .tuple xs => go xs
  | .dict _ => false
where go : List PyData → Bool
  | [] => true
  | x :: r => fits k x && go r
/-- a bound of the text's length -/
def room (k : Nat) : PyData → Nat
  | .int _ => k + 1
  | .none => 10
  | .bool _ => 10
  | .str _ => 1000
  | .list xs => go xs + 4
  | .tuple xs => go xs + 4
  | .dict _ => 0
where go : List PyData → Nat
  | [] => 0
  | x :: r => room k x + 2 + go r
theorem list_text_le (ts : List Str) : (listText ts).length ≤ piled ts + 4 := by
  cases ts with
  | nil => decide +kernel
  | cons t r =>
    have h := textFrom_length_pos r 1 (("[" : Str) ++ (if (0 : Nat) > 0 then ", " else "" : String) ++ t) (Nat.succ_pos 0)
    have e : (("[" : Str) ++ (if (0 : Nat) > 0 then ", " else "" : String) ++ t).length = 1 + t.length := by
      rw [strLen_append, strLen_append]
      rfl
    have f : (listText (t :: r)).length = (textFrom 1 (("[" : Str) ++ (if (0 : Nat) > 0 then ", " else "" : String) ++ t) r).length + 1 := by
      show (textFrom 0 "[" (t :: r) ++ "]").length = _
      rw [strLen_append]
      rfl
    rw [f, h, e, piled_cons]
    omega
theorem tuple_text_le (ts : List Str) : (tupleText ts).length ≤ piled ts + 4 := by
  have e : (tupleText ts).length ≤ (Str.join ", " ts).length + 3 := by
    unfold tupleText
    rw [strLen_append, strLen_append]
    have e1 : (("(" : String) : Str).length = 1 := by decide +kernel
    have e2 : ((if (ts.length == 1) = true then ",)" else ")" : String) : Str).length ≤ 2 := by
      split
      · decide +kernel
      · decide +kernel
    omega
  cases ts with
  | nil => exact Nat.le_trans e (by decide +kernel)
  | cons t r =>
    have q := join_length_add (t :: r) (by simp)
    omega
mutual
theorem room_ok {k : Nat} (hk : 0 < k) : ∀ d : PyData, fits k d = true → d.shown.length ≤ room k d
  | .none, _ => (by decide +kernel : PyData.none.shown.length ≤ 10)
  | .bool true, _ => (by decide +kernel : (PyData.bool true).shown.length ≤ 10)
  | .bool false, _ => (by decide +kernel : (PyData.bool false).shown.length ≤ 10)
  | .int i, h => by
    have q := int_text_length_le10 hk (of_decide_eq_true h)
    show (Str.ofString (toString i)).length ≤ k + 1
    rw [PySem.ofString_length]
    exact q
  | .str x, h => of_decide_eq_true h
  | .list xs, h => by
    have q := rooms_ok hk xs h
    exact Nat.le_trans (list_text_le _) (Nat.add_le_add_right q 4)
  | .tuple xs, h => by
    have q := rooms_ok hk xs h
    exact Nat.le_trans (tuple_text_le _) (Nat.add_le_add_right q 4)
  | .dict _, h => by cases h
theorem rooms_ok {k : Nat} (hk : 0 < k) : ∀ ds : List PyData, fits.go k ds = true → piled (PyData.shownAll ds) ≤ room.go k ds
  | [], _ => Nat.le_refl _
  | d :: r, h => by
    have h' := Bool.and_eq_true_iff.mp h
    have q1 := room_ok hk d h'.1
    have q2 := rooms_ok hk r h'.2
    show piled (d.shown :: PyData.shownAll r) ≤ room k d + 2 + room.go k r
    rw [piled_cons]
    omega
end
mutual
theorem fits_show {k : Nat} (hk : k ≤ 500) : ∀ d : PyData, fits k d = true → d.showable = true ∧ d.hasDict = false
  | .none, _ => ⟨rfl, rfl⟩
  | .bool _, _ => ⟨rfl, rfl⟩
  | .int i, h => by
    refine ⟨decide_eq_true ?_, rfl⟩
    have h1 : i.natAbs < 10 ^ k := of_decide_eq_true h
    have h2 : (10 : Nat) ^ k ≤ 10 ^ 500 := Nat.pow_le_pow_right (by decide) hk
    have h3 : (10 : Nat) ^ 500 < 2 ^ 1900 := by decide +kernel
    by_cases z : i.natAbs = 0
    · rw [z]
      decide
    · have := (Nat.log2_lt z).mpr (Nat.lt_trans (Nat.lt_of_lt_of_le h1 h2) h3)
      omega
  | .str _, _ => ⟨rfl, rfl⟩
  | .list xs, h => fits_shows hk xs h
  | .tuple xs, h => fits_shows hk xs h
  | .dict _, h => by cases h
theorem fits_shows {k : Nat} (hk : k ≤ 500) : ∀ ds : List PyData, fits.go k ds = true → PyData.showableAll ds = true ∧ PyData.hasDictAll ds = false
  | [], _ => ⟨rfl, rfl⟩
  | d :: r, h => by
    have h' := Bool.and_eq_true_iff.mp h
    obtain ⟨a, b⟩ := fits_show hk d h'.1
    obtain ⟨a', b'⟩ := fits_shows hk r h'.2
    refine ⟨?_, ?_⟩
    · show (d.showable && PyData.showableAll r) = true
      rw [a, a']
      rfl
    · show (d.hasDict || PyData.hasDictAll r) = false
      rw [b, b']
      rfl
end
/-- what repr asks -/
abbrev Tells (d : PyData) : Prop := isDisplay d = true ∧ d.showable = true ∧ d.hasDict = false ∧ d.depth ≤ 8 ∧ d.shown.length ≤ sizeLine
theorem tells (k : Nat) {d : PyData} (h0 : 0 < k) (h1 : k ≤ 500) (hd : isDisplay d = true) (hf : fits k d = true) (hp : d.depth ≤ 8) (hr : room k d ≤ 16000000) :
    Tells d := by
  obtain ⟨a, b⟩ := fits_show h1 d hf
  refine ⟨hd, a, b, hp, Nat.le_trans (room_ok h0 d hf) (Nat.le_trans hr ?_)⟩
  rw [sizeLine_eq]
  decide
/-! ### ints and loops -/
theorem fits_ints {k : Nat} : ∀ {ns : List Int}, (∀ z ∈ ns, z.natAbs < 10 ^ k) → fits.go k (ns.map PyData.int) = true
  | [], _ => rfl
  | n :: r, h => by
    have q := fits_ints (k := k) (ns := r) fun z hz => h z (List.mem_cons_of_mem _ hz)
    show (decide (n.natAbs < 10 ^ k) && fits.go k (r.map PyData.int)) = true
    rw [q, decide_eq_true (h n List.mem_cons_self)]
    rfl
theorem room_ints (k : Nat) : ∀ ns : List Int, room.go k (ns.map PyData.int) = (k + 3) * ns.length
  | [] => rfl
  | n :: r => by
    have q := room_ints k r
    show (k + 1) + 2 + room.go k (r.map PyData.int) = (k + 3) * (r.length + 1)
    rw [q, Nat.mul_add]
    omega
theorem depth_ints : ∀ ns : List Int, PyData.depthAll (ns.map PyData.int) = 0
  | [] => rfl
  | n :: r => by
    show max 0 (PyData.depthAll (r.map PyData.int)) = 0
    rw [depth_ints r]
    rfl
theorem tells_ints (k : Nat) {ns : List Int} (h0 : 0 < k) (h1 : k ≤ 500) (hz : ∀ z ∈ ns, z.natAbs < 10 ^ k) (hl : (k + 3) * ns.length + 4 ≤ 16000000) :
    Tells (dInts ns) := by
  refine tells k h0 h1 rfl (fits_ints hz) ?_ ?_
  · show PyData.depthAll (ns.map PyData.int) + 1 ≤ 8
    rw [depth_ints]
    decide
  · show room.go k (ns.map PyData.int) + 4 ≤ _
    rw [room_ints]
    exact hl
abbrev dList (ns : List Int) : PyData := .list (ns.map PyData.int)
theorem tells_list (k : Nat) {ns : List Int} (h0 : 0 < k) (h1 : k ≤ 500) (hz : ∀ z ∈ ns, z.natAbs < 10 ^ k) (hl : (k + 3) * ns.length + 4 ≤ 16000000) :
    Tells (dList ns) := by
  refine tells k h0 h1 rfl (fits_ints hz) ?_ ?_
  · show PyData.depthAll (ns.map PyData.int) + 1 ≤ 8
    rw [depth_ints]
    decide
  · show room.go k (ns.map PyData.int) + 4 ≤ _
    rw [room_ints]
    exact hl
theorem fits_loops {k : Nat} : ∀ {ls : List (List Int)}, (∀ l ∈ ls, ∀ z ∈ l, z.natAbs < 10 ^ k) → fits.go k (ls.map dInts) = true
  | [], _ => rfl
  | l :: r, h => by
    have q := fits_loops (k := k) (ls := r) fun z hz => h z (List.mem_cons_of_mem _ hz)
    show (fits.go k (l.map PyData.int) && fits.go k (r.map dInts)) = true
    rw [q, fits_ints (h l List.mem_cons_self)]
    rfl
theorem room_loops (k b : Nat) : ∀ ls : List (List Int), (∀ l ∈ ls, l.length ≤ b) → room.go k (ls.map dInts) ≤ ((k + 3) * b + 6) * ls.length
  | [], _ => Nat.le_refl _
  | l :: r, h => by
    have q := room_loops k b r fun z hz => h z (List.mem_cons_of_mem _ hz)
    have e := Nat.mul_le_mul_left (k + 3) (h l List.mem_cons_self)
    show room.go k (l.map PyData.int) + 4 + 2 + room.go k (r.map dInts) ≤ ((k + 3) * b + 6) * (r.length + 1)
    rw [room_ints, Nat.mul_add]
    omega
theorem depth_loops : ∀ ls : List (List Int), PyData.depthAll (ls.map dInts) ≤ 1
  | [] => by decide
  | l :: r => by
    have q := depth_loops r
    show max (PyData.depthAll (l.map PyData.int) + 1) (PyData.depthAll (r.map dInts)) ≤ 1
    rw [depth_ints]
    omega
theorem tells_loops (k b : Nat) {ls : List (List Int)} (h0 : 0 < k) (h1 : k ≤ 500) (hz : ∀ l ∈ ls, ∀ z ∈ l, z.natAbs < 10 ^ k) (hb : ∀ l ∈ ls, l.length ≤ b) (hl : ((k + 3) * b + 6) * ls.length + 4 ≤ 16000000) :
    Tells (dLoops ls) := by
  refine tells k h0 h1 rfl (fits_loops hz) ?_ ?_
  · have q := depth_loops ls
    show PyData.depthAll (ls.map dInts) + 1 ≤ 8
    omega
  · have q := room_loops k b ls hb
    show room.go k (ls.map dInts) + 4 ≤ _
    omega
end L2

/-! Defs that ask repr of a container: they are called where no repr is under way. -/
namespace L2
open PySem PySem.Spec PyProof.Rows
/-- as FnOk, where no guard stands -/
structure FnG (P : Program) (w : World) (K : PySem.W.Frag) (mg : Str → Option Value) (base : Heap) (k : Nat) (f : Addr) (fd : FuncData)
    (ps : List Str) (sp : Sp) : Prop where
  len : ∀ vs H Q E, sp vs H Q E → vs.length = ps.length
  go : ∀ (A : Around) (outer : List Env) (s : Shared) (H : Hp) (args : Args) (us : List Value) (vs : List V) (Q : VK) (E : XK),
    Room k A → A.guards = some [] → Env0 P w K mg base A outer s H → BindsTo s fd args (ps.zip us) → Vals vs us → sp vs H Q E →
    codeAny (model P w) A (.call (.ref f) args) (CR CX0 outer P w H s Q E) s
section
variable {P : Program} {w : World} {K : PySem.W.Frag} {mg : Str → Option Value} {base : Heap}
/-- a def whose body asks for no guard -/
theorem _root_.L2.Fun.okG {x qual : Str} {st : Stmt} {f : Addr} {fd : FuncData} {N ps : List Str} {k : Nat} {sp : Sp} (F : Fun K x qual st f fd)
    (S : FnScope N ps (defScope st)) (len : ∀ vs H Q E, sp vs H Q E → vs.length = ps.length)
    (body : ∀ (cdv : Value) (A : Around) (outer : List Env) (s : Shared) (H : Hp) (vs : List V) (Q : VK) (E : XK),
      Room k (A.deeper (envOfC qual (defScope st) s.heap.objs.size f cdv)) → A.guards = some [] → sp vs H Q E →
      ∃ t, PSs (cxOf CX0 P w K mg base N qual (defScope st) f cdv A outer s H E).nox (defBody st) t ∧
        t { nx := fun _ H' => Q .non H', rt := Q } (start N vs) H) : FnG P w K mg base (k + 1) f fd ps sp := by
  obtain ⟨oc, od, kV, doc, pm, an, cdv, ct, osl, rfl, lk, hcd⟩ := F.ex
  constructor
  · exact len
  intro A outer s H args us vs Q E room hg env binds rel ask
  have room' := room.deeper (envOfC qual (defScope st) s.heap.objs.size f cdv)
  obtain ⟨t, walk, want⟩ := body cdv A outer s H vs Q E room' hg ask
  have kin : K.In s.heap := env.mod.kin.keeps fun b o e => (env.bs b o e).1
  have kinds : ∀ y ∈ ps.zip us, (defScope st).names.lookup y.1 = some .local ∨
      ((defScope st).names.lookup y.1 = some .cell ∧ ((cellsFrom (s.heap.objs.size + 1) (defScope st).names []).lookup y.1).isSome = true) := by
    rintro ⟨n, v⟩ hy
    have hn := S.par n (List.of_mem_zip hy).1
    rcases hn with q | q
    · exact Or.inl q
    · exact Or.inr ⟨q, PySem.W.cellsFrom_some _ _ _ (Or.inl q)⟩
  refine codeAny_call_function room.depth (kin _ _ lk) rfl S.co S.gen rfl (PySem.W.codeRec_of kin hcd) (binds _ _ _ _ ?_)
  refine wpAny_newFunctionEnv_cells S.kind kinds fun e he s1 begun => ?_
  subst he
  have lim : s.heap.NoLimit := env.mod.nolimit.keeps fun b o e => (env.bs b o e).1
  refine And.intro (lim.keeps begun.toInCall.keep) (codeAny_func ?_)
  have inv := inv_start (CX := CX0) (E := E) S room.hd env (len _ _ _ _ ask) rel begun
  have over : ∀ {σ' : St} {H' : Hp} {v : V} {u : Value} {s' : Shared},
      Inv (cxOf CX0 P w K mg base N qual (defScope st) f cdv A outer s H E) [] σ' H' s' → RelV v u → Q v H' → CE outer P w H s Q u s' :=
    fun J r q => ⟨_, _, J.os, J.bare, J.base, J.hok, r, q⟩
  refine wpAny_mono (walk.nox.run [] s1 (start N vs) H _ inv want) ?_ (fun _ _ z => z)
  intro fl s' ends
  cases fl with
  | next =>
    obtain ⟨_, _, J, q⟩ := ends
    exact over (v := V.non) (u := Value.none) J rfl q
  | ret u =>
    obtain ⟨_, _, _, J, r, q⟩ := ends
    exact over J r q
  | brk =>
    obtain ⟨_, _, _, q⟩ := ends
    cases q
  | cont =>
    obtain ⟨_, _, _, q⟩ := ends
    cases q
/-- a def that keeps a promise everywhere keeps it where no guard stands -/
theorem FnOk.toG {k : Nat} {f : Addr} {fd : FuncData} {ps : List Str} {sp : Sp} (F : FnOk P w K mg base CX0 k f fd ps sp) : FnG P w K mg base k f fd ps sp :=
  ⟨F.len, fun A outer s H args us vs Q E r _ => F.run A outer s H args us vs Q E r⟩
end
section
variable {X : Cx} {k : Nat} {f : Addr} {fd : FuncData} {ps : List Str} {sp : Sp} {dvs : List V} {ds : List Value} {E : XK} {x : Str}
/-- f(e, ..), f such a def -/
theorem pe_callG {p pos : Pos} {e : Expr} {es : List Expr} {t : TA} (F : FnG X.prog X.w X.K X.mg X.base k f fd ps sp) (hr : Room k X.A) (hG : X.A.guards = some [])
    (hg : Gl X x) (hm : X.mg x = some (.ref f)) (hk : PySem.W.keepIn X.K (.ref f) = true) (hb : Binds X.K fd ps ds) (hd : Vals dvs ds) (hx : Passes CX0 X E)
    (ha : PA X (e :: es) t) (hdb : (x == ("__debug__" : Str)) = false := by decide)
    (he : starEach (e :: es) X.env = (false, eval e X.env) :: starEach es X.env := by rfl) (hpl : (backTo pos (starEach es X.env)).any (·.1) = false := by rfl) :
    PE X (.Call (.Name x p) (e :: es) [] pos) (tCall sp dvs E t) := by
  constructor
  intro pins s σ H Q I h
  have run : ∀ us s1, AP X pins σ (fun vs H1 => sp (vs ++ dvs) H1 Q E) us s1 →
      X.K.In s1.heap ∧ wpAny (model X.prog X.w) X.A (call (.ref f) us) (EP X pins σ Q) X.xe s1 := by
    rintro us s1 ⟨vs, H1, I1, r, q⟩
    have r2 := r.append hd
    have hl : (us ++ ds).length = ps.length := by
      rw [← r2.length]
      exact F.len _ _ _ _ q
    refine ⟨I1.kIn, wpAny_call (codeAny_mono (F.go X.A X.stack s1 H1 ⟨us, []⟩ (us ++ ds) (vs ++ dvs) Q E hr hG I1.env0 (hb s1 us I1.kIn hl) r2 q) ?_)⟩
    intro res s2 z
    cases res with
    | error er => exact hx pins σ H1 s1 er s2 I1 z
    | ok fl =>
      cases fl with
      | ret u => exact I1.after z
      | next => cases z
      | brk => cases z
      | cont => cases z
  exact wpAny_Call_Name_kw (ld_glob I hg hm (PySem.W.callWith_K (h₀ := X.base) I.ok.mod.kin hk
    (thn (ha.run pos pins s σ H _ I h) fun us s1 q => run us s1 q) he hpl) hdb)
end
end L2

/-! A law's end where its def asks repr of a container. -/
namespace L2
open PySem PySem.Spec PyProof.Rows
section
variable {P : Program} {w : World} {K : PySem.W.Frag} {mg mb : Str → Option Value} {k : Nat} {fa a : Addr} {fd : FuncData} {x : Str} {sp : Sp}
  {z : Shared} {vs : List Value} {ns : List Int}
def endsTrue (z : Shared) (r : Result) (s' : Shared) : Prop :=
  r = .ok (.ret (.bool true)) ∧ OldK z.heap s'.heap ∧ s'.os = z.os ∧ AllBare s'.gens
/-- from an abstract heap that tracks the script at most -/
theorem my_core (kin : K.In z.heap) (hns : z.heap.Ns mainGlobals mg) (hb : z.heap.Ns builtinsNs mb) (hbb : ∀ x : Str, x ≠ "__name__" → mb x = bootBuiltins x)
    (hlim : z.heap.NoLimit) (hg : z.gens = #[]) (ha : z.heap.get? a = some { cls := .type "list", data := .seq vs.toArray }) (hr : Room k callerA)
    (F : ∀ base : Heap, K.In base → base.Ns mainGlobals mg → FnG P w K mg base k fa fd [x] sp) (bind : ∀ (s : Shared) (u : Value), BindsTo s fd ⟨[u], []⟩ [(x, u)])
    (H : Hp) (ask : sp [.ref a] H (fun v _ => v = .bl true) fun _ _ _ => False) (ok : HOk P w H z.heap) (only : Only H) (atA : ∀ b, H b ≠ none → b = a)
    (notK : H a ≠ none → K.lookup a = none) : codeAny (model P w) callerA (.call (.ref fa) ⟨[.ref a], []⟩) (endsTrue z) z := by
  -- the base: all that H does not track
  have stays : ∀ {b : Addr} {o : Obj}, z.heap.get? b = some o → (b ≠ a ∨ H a = none) → (hidT z.heap H).get? b = some o := by
    intro b o e h
    refine hidT_get e ?_
    cases q : H b with
    | none => rfl
    | some u =>
      have eb := atA b (by rw [q]; exact Option.some_ne_none u)
      rcases h with h | h
      · exact absurd eb h
      · rw [eb, h] at q
        cases q
  have names : ∀ {b : Addr} {m : Str → Option Value}, z.heap.Ns b m → (hidT z.heap H).Ns b m := by
    rintro b m ⟨o, es, ep, e, d, r⟩
    refine ⟨o, es, ep, stays e (.inl fun eb => ?_), d, r⟩
    rw [eb, ha] at e
    cases e
    cases d
  have kinB : K.In (hidT z.heap H) := by
    intro b o e
    refine stays (kin b o e) ?_
    by_cases eb : b = a
    · refine .inr ?_
      cases q : H a with
      | none => rfl
      | some u =>
        rw [eb, notK (by rw [q]; exact Option.some_ne_none u)] at e
        cases e
    · exact .inl eb
  obtain ⟨mc, l1, l2⟩ := hlim
  have M : Mod K mg (hidT z.heap H) := ⟨kinB, names hns, ⟨mb, names hb, hbb⟩, ⟨mc, names l1, l2⟩⟩
  have env : Env0 P w K mg (hidT z.heap H) callerA [] z H := by
    refine ⟨rfl, M, fun b o e => of_hidT e, Nat.le_of_eq (hidT_size _ _), trivial, ?_, ok, .of_eq hg⟩
    intro b hm
    cases hm
  refine codeAny_mono ((F _ kinB (names hns)).go callerA [] z H ⟨[.ref a], []⟩ [.ref a] [.ref a] _ _ hr rfl env (bind z (.ref a)) (.cons rfl .nil) ask) ?_
  intro r s' res
  cases r with
  | error e => cases res
  | ok fl =>
    cases fl with
    | ret u =>
      obtain ⟨v, H', os, bare, un, ok', rel, ev⟩ := res
      have ev' : v = .bl true := ev
      subst ev'
      have eu : u = Value.bool true := rel
      subst eu
      refine ⟨rfl, OldK.of_keep fun b o e => ?_, os, bare⟩
      rcases only b with q | ⟨ob, xs, q⟩
      · exact un.keep b o e q (fun m => by cases m) (fun m => by cases m)
      · obtain ⟨e1, _⟩ := ok b _ q
        obtain ⟨e2, _⟩ := ok' b _ (un.frzs b ob _ q)
        rw [e] at e1
        cases e1
        exact e2
    | next => cases res
    | brk => cases res
    | cont => cases res
theorem my_law_call (kin : K.In z.heap) (hns : z.heap.Ns mainGlobals mg) (hb : z.heap.Ns builtinsNs mb) (hbb : ∀ x : Str, x ≠ "__name__" → mb x = bootBuiltins x)
    (hlim : z.heap.NoLimit) (hg : z.gens = #[]) (ha : z.heap.get? a = some { cls := .type "list", data := .seq vs.toArray }) (hi : IntsAre vs ns) (hl : ns.length ≤ sizeLine)
    (hr : Room k callerA) (F : ∀ base : Heap, K.In base → base.Ns mainGlobals mg → FnG P w K mg base k fa fd [x] sp)
    (bind : ∀ (s : Shared) (u : Value), BindsTo s fd ⟨[u], []⟩ [(x, u)])
    (ask : ∀ H : Hp, Only H → SqL K H a (ns.map V.int) → sp [.ref a] H (fun v _ => v = .bl true) fun _ _ _ => False) :
    codeAny (model P w) callerA (.call (.ref fa) ⟨[.ref a], []⟩) (endsTrue z) z := by
  have rv := vals_ints hi
  have lv := hi.length
  cases hk : K.lookup a with
  | none =>
    let H0 : Hp := fun b => if b = a then some (.frz { cls := .type "list", data := .seq vs.toArray } (.lst (ns.map V.int))) else none
    have at0 : H0 a = some (.frz { cls := .type "list", data := .seq vs.toArray } (.lst (ns.map V.int))) := if_pos rfl
    have else0 : ∀ b, b ≠ a → H0 b = none := fun b h => if_neg h
    have only : Only H0 := fun b => by
      by_cases h : b = a
      · rw [h]
        exact .inr ⟨_, _, at0⟩
      · exact .inl (else0 b h)
    refine my_core kin hns hb hbb hlim hg ha hr F bind H0 (ask H0 only (.inl (.inr ⟨_, at0⟩))) ?_ only ?_ (fun _ => hk)
    · intro b u h
      by_cases hba : b = a
      · subst hba
        rw [at0] at h
        cases h
        exact ⟨ha, by rw [List.length_map]; exact hl, vs, _, rv, ha⟩
      · rw [else0 b hba] at h
        cases h
    · intro b h
      exact Classical.byContradiction fun n => h (else0 b n)
  | some o =>
    have e := kin a o hk
    rw [ha] at e
    cases e
    have only : Only fun _ => none := fun _ => .inl rfl
    refine my_core kin hns hb hbb hlim hg ha hr F bind (fun _ => none) (ask _ only ?_) ?_ only ?_ ?_
    · exact .inr ⟨_, vs.toArray, _, hk, rfl, rfl, rfl, by rw [List.size_toArray, lv]; exact hl, by simpa using rv⟩
    · intro b u h
      cases h
    · intro b h
      exact absurd rfl h
    · intro h
      exact absurd rfl h
end
theorem my_walk {l : PySem.W.OpenLaw} {k : Nat} {q : Program} {loose : List Str} {XP : (Str → Option Value) → Heap → Prop} {YP : World → Heap → Prop} {d : DefRec}
    {K : Params → PySem.W.Frag} {sp : PySem.W.Frag → Sp} (hn : l.most = some 63) (hdf : d.params.defaults = []) (hr : Room k callerA)
    (hY : ∀ (w : World) (h : Heap), YP w h → (K w.params).In h)
    (F : ∀ (w : World) (mg : Str → Option Value) (fa : Addr) (h : Heap), (K w.params).In h → h.Ns mainGlobals mg → mg d.name = some (.ref fa) →
      ∃ fd : FuncData, (∀ (s : Shared) (u : Value), BindsTo s fd ⟨[u], []⟩ [("script", u)]) ∧
        ∀ base : Heap, (K w.params).In base → base.Ns mainGlobals mg → FnG l.prog w (K w.params) mg base k fa fd ["script"] (sp (K w.params)))
    (ask : ∀ (K : PySem.W.Frag) (H : Hp) (a : Addr) (ns : List Int), ns.length ≤ 63 → SqL K H a (ns.map V.int) → sp K [.ref a] H (fun v _ => v = .bl true) fun _ _ _ => False) :
    PySem.W.WalkO q loose XP YP l.row.toRowW d [] (fun f vs => PySem.call f vs) := by
  refine Att.attach_call hn hdf fun w s0 z mg mb fa o pm cd doc a vs ns G Y ho hd hcd hmg hobj hints hlen hg => ?_
  have kin := hY w _ Y
  obtain ⟨fd, bind, hF⟩ := F w mg fa _ kin G.T.g hmg
  exact my_law_call kin G.T.g G.T.b G.T.builtins G.T.nolimit hg hobj hints (Nat.le_trans hlen (by decide)) hr hF bind
    fun H only hS => ask (K w.params) H a ns hlen hS
end L2

/-! Data compared, cut, and told. -/
namespace L2
open PySem PySem.Spec PyProof.Rows
theorem eqv_ints : ∀ xs ys : List Int, PyData.eqvAll (xs.map PyData.int) (ys.map PyData.int) = decide (xs = ys)
  | [], [] => rfl
  | [], _ :: _ => rfl
  | _ :: _, [] => rfl
  | x :: xs, y :: ys => by
    have q := eqv_ints xs ys
    show ((x == y) && PyData.eqvAll (xs.map PyData.int) (ys.map PyData.int)) = decide (x :: xs = y :: ys)
    rw [q]
    by_cases h : x = y
    · subst h
      by_cases h2 : xs = ys
      · subst h2
        simp
      · simp [h2]
    · simp [h]
theorem eqv_dInts (xs ys : List Int) : PyData.eqv (dInts xs) (dInts ys) = decide (xs = ys) := eqv_ints xs ys
theorem shaped_dInts (ns : List Int) : SeqAt.shaped (dInts ns) = true := by
  have e : SeqAt.shaped (dInts ns) = SeqAt.shaped (.list (ns.map PyData.int)) := rfl
  rw [e]
  exact PySem.W.shaped_ints ns
/-- a list of ints that stands -/
theorem Dp.ofList {K : PySem.W.Frag} {H : Hp} {a : Addr} {ns : List Int} (h : H a = some (.lst (ns.map V.int))) : Dp K H (.ref a) (dList ns) :=
  .lst (SqL.of h) (DpAll.ints ns)
def cutD (ds : List PyData) (lo hi : Option Int) : List PyData := (ds.drop (HT.sIx ds.length 0 lo)).take (HT.sIx ds.length ds.length hi - HT.sIx ds.length 0 lo)
theorem DpAll.drop {K : PySem.W.Frag} {H : Hp} : ∀ {vs : List V} {ds : List PyData} (n : Nat), DpAll K H vs ds → DpAll K H (vs.drop n) (ds.drop n)
  | _, _, 0, h => h
  | _, _, _ + 1, .nil => .nil
  | _, _, n + 1, .cons _ h => DpAll.drop n h
theorem DpAll.take {K : PySem.W.Frag} {H : Hp} : ∀ {vs : List V} {ds : List PyData} (n : Nat), DpAll K H vs ds → DpAll K H (vs.take n) (ds.take n)
  | _, _, 0, _ => .nil
  | _, _, _ + 1, .nil => .nil
  | _, _, n + 1, .cons h1 h => .cons h1 (DpAll.take n h)
/-- t[lo:hi] of a tuple of data -/
theorem rd_cut {K : PySem.W.Frag} {H : Hp} {v : V} {ds : List PyData} {lo hi : Option Int} {Q : VK} (h : Dp K H v (.tuple ds))
    (k : ∀ w H', Same H H' → Dp K H' w (.tuple (cutD ds lo hi)) → Q w H') : rSlA K v lo hi H Q := by
  obtain ⟨a, xs, rfl, hT, hX⟩ := h.tuple
  have hl := hX.len
  have hc : DpAll K H (cutV xs lo hi) (cutD ds lo hi) := by
    unfold cutV cutD
    rw [← hl]
    exact (hX.drop _).take _
  refine ⟨a, xs, rfl, hT, fun w => ?_, fun _ p hp => ?_⟩
  · refine k _ H (Same.refl H) (.tup hT ?_)
    have e : cutV xs lo hi = xs := by
      unfold cutV
      rw [w.1, w.2, List.drop_zero, Nat.sub_zero, List.take_length]
    rw [e] at hc
    exact hc
  · exact k _ _ (same_upd hp _) (.tup (SqT.of upd_same) (DpAll.same (same_upd hp _) _ _ hc))
theorem cutD_map {α : Type} (f : α → PyData) (xs : List α) (n : Nat) : cutD (xs.map f) none (some (n : Int)) = (xs.take n).map f := by
  unfold cutD
  rw [HT.sIx_none, HT.sIx_nat, List.drop_zero, Nat.sub_zero, List.length_map, ← List.map_take]
  congr 1
  by_cases h : n ≤ xs.length
  · rw [Nat.min_eq_left h]
  · rw [Nat.min_eq_right (by omega), List.take_length, List.take_of_length_le (by omega)]
end L2

/-! The promises of the defs that several laws share, and what is known of them. -/
namespace My
open PySem PySem.Spec PyProof.Rows L2
def sp__law_begun (K : PySem.W.Frag) : Sp := fun vs H Q _ => ∃ (a : Addr) (ns : List Int), vs = [.ref a] ∧ SqL K H a (ns.map V.int) ∧ ns.length ≤ 63 ∧
  ∀ m H', Same H H' → MS H' m 0 → Q (.ref m) H'
def sp__law_next (K : PySem.W.Frag) : Sp := fun vs H Q _ => ∃ (m : Addr) (many : Int) (n : Nat), vs = [.ref m, .int many] ∧ MS H m n ∧ 0 < many ∧ many ≤ 10 ^ 31 ∧ n < 2 ^ 40 ∧
  ∀ (r : Int) (n' : Nat) H', 0 ≤ r → r < many → n' ≤ n + 1 → MS H' m n' → Ef m H H' → Q (.int r) H'
def NB (r : Int) : Prop := -(10 ^ 30) ≤ r ∧ r ≤ 10 ^ 30
def sp__law_number (K : PySem.W.Frag) : Sp := fun vs H Q _ => ∃ (m : Addr) (n : Nat), vs = [.ref m] ∧ MS H m n ∧ n + 2 ≤ 2 ^ 40 ∧
  ∀ (r : Int) (n' : Nat) H', NB r → n' ≤ n + 2 → MS H' m n' → Ef m H H' → Q (.int r) H'
def sp__law_lengths (K : PySem.W.Frag) : Sp := fun vs H Q _ => ∃ (m : Addr) (many most : Int) (n : Nat), vs = [.ref m, .int many, .int most] ∧ MS H m n ∧ 0 ≤ many ∧ many ≤ 100 ∧ 1 ≤ most ∧ most ≤ 1000 ∧ n + 200 ≤ 2 ^ 40 ∧
  ∀ (v : V) (ls : List Int) (n' : Nat) H', Dp K H' v (dInts ls) → (ls.length : Int) ≤ many → (∀ z ∈ ls, 1 ≤ z ∧ z ≤ most) → n' ≤ n + 200 → MS H' m n' → Ef m H H' → Q v H'
def sp__law_loops_of (K : PySem.W.Frag) : Sp := fun vs H Q _ => ∃ (m : Addr) (v : V) (lens : List Int) (n : Nat), vs = [.ref m, v] ∧ Dp K H v (dInts lens) ∧ lens.length ≤ 100 ∧ (∀ z ∈ lens, 0 ≤ z ∧ z ≤ 1000) ∧ MS H m n ∧ n + 300000 ≤ 2 ^ 40 ∧
  ∀ (v : V) (ls : List (List Int)) (n' : Nat) H', Dp K H' v (dLoops ls) → ls.map (fun l => (l.length : Int)) = lens → (∀ l ∈ ls, ∀ z ∈ l, NB z) → n' ≤ n + 200000 → MS H' m n' → Ef m H H' → Q v H'
def sp_is_whole (K : PySem.W.Frag) : Sp := fun vs H Q _ => ∃ (x : V) (t : Value) (b1 b2 : Bool), vs = [x] ∧ TyX K H x t ∧ PySem.W.kitOne K t (.type "int") = some b1 ∧ PySem.W.kitOne K t (.type "bool") = some b2 ∧ Q (.bl (b1 && !b2)) H
def sp_is_tick (K : PySem.W.Frag) : Sp := fun vs H Q _ => ∃ (i : Int), vs = [.int i] ∧ Q (.bl (decide (0 ≤ i) && decide (i ≤ 10 ^ 30))) H
def sp_need_tick (K : PySem.W.Frag) : Sp := fun vs H Q _ => ∃ (i : Int), vs = [.int i] ∧ 0 ≤ i ∧ i ≤ 10 ^ 30 ∧ Q .non H
def sp_need_many (K : PySem.W.Frag) : Sp := fun vs H Q _ => ∃ (i : Int), vs = [.int i] ∧ 0 ≤ i ∧ i ≤ 1000 ∧ Q .non H
def OkL (ls : List (List Int)) : Prop := ls.length ≤ 6 ∧ ∀ l ∈ ls, 1 ≤ l.length ∧ l.length ≤ 64
def sp_need_loops (K : PySem.W.Frag) : Sp := fun vs H Q _ => ∃ (v : V) (ls : List (List Int)), vs = [v] ∧ Dp K H v (dLoops ls) ∧ OkL ls ∧ ∀ H', Same H H' → Q v H'
def hAt (l : List Int) (t : Int) : Int := l.getD (t.fmod (l.length : Int)).toNat 0
def hd (ls : List (List Int)) (t : Int) : Int := (ls.map fun l => hAt l t).sum
def hrow (ls : List (List Int)) (t : Int) (n : Nat) : List Int := (List.range n).map fun i => hd ls (t + (i : Nat))
def sp_sum_at (K : PySem.W.Frag) : Sp := fun vs H Q _ => ∃ (v : V) (ls : List (List Int)) (t : Int), vs = [v, .int t] ∧ Dp K H v (dLoops ls) ∧ OkL ls ∧ ∀ H', Same H H' → Q (.int (hd ls t)) H'
def sp__law_heard (K : PySem.W.Frag) : Sp := fun vs H Q _ => ∃ (v : V) (ls : List (List Int)) (t : Int), vs = [v, .int t] ∧ Dp K H v (dLoops ls) ∧ OkL ls ∧ ∀ H', Same H H' → Q (.int (hd ls t)) H'
def sp_heard (K : PySem.W.Frag) : Sp := fun vs H Q _ => ∃ (v : V) (ls : List (List Int)) (t : Int), vs = [v, .int t] ∧ Dp K H v (dLoops ls) ∧ OkL ls ∧ 0 ≤ t ∧ t ≤ 10 ^ 30 ∧ ∀ H', Same H H' → Q (.int (hd ls t)) H'
def sp_heard_row (K : PySem.W.Frag) : Sp := fun vs H Q _ => ∃ (v : V) (ls : List (List Int)) (t n : Int), vs = [v, .int t, .int n] ∧ Dp K H v (dLoops ls) ∧ OkL ls ∧ 0 ≤ t ∧ t ≤ 10 ^ 30 ∧ 0 ≤ n ∧ n ≤ 1000 ∧
  ∀ w H', Same H H' → Dp K H' w (dInts (hrow ls t n.toNat)) → Q w H'
def sp__law_heard_row (K : PySem.W.Frag) : Sp := fun vs H Q _ => ∃ (v : V) (ls : List (List Int)) (t n : Int), vs = [v, .int t, .int n] ∧ Dp K H v (dLoops ls) ∧ OkL ls ∧ 0 ≤ n ∧ n ≤ 1000 ∧
  ∀ w H', Same H H' → Dp K H' w (dInts (hrow ls t n.toNat)) → Q w H'
theorem loops_get {K : PySem.W.Frag} {H : Hp} {xs : List V} {ls : List (List Int)} {i : Nat} {x : V} (h : DpAll K H xs (ls.map dInts)) (hx : xs[i]? = some x) :
    ∃ l a, ls[i]? = some l ∧ x = .ref a ∧ SqT K H a (l.map V.int) := by
  obtain ⟨d, hd, hD⟩ := h.get hx
  rw [List.getElem?_map] at hd
  cases e : ls[i]? with
  | none =>
    rw [e] at hd
    cases hd
  | some l =>
    rw [e] at hd
    cases hd
    obtain ⟨a, rfl, hT⟩ := hD.ints
    exact ⟨l, a, rfl, rfl, hT⟩
theorem iteP {p A B : Prop} [Decidable p] (h : p) (a : A) : if decide p = true then A else B := by
  rw [decide_eq_true h]
  exact iteT a
theorem iteN {p A B : Prop} [Decidable p] (h : ¬ p) (b : B) : if decide p = true then A else B := by
  rw [decide_eq_false h]
  exact iteF b
theorem kit_ii {K : PySem.W.Frag} : PySem.W.kitOne K (.type "int") (.type "int") = some true := kit_ty (by decide +kernel)
theorem kit_ib {K : PySem.W.Frag} : PySem.W.kitOne K (.type "int") (.type "bool") = some false := kit_ty (by decide +kernel)
theorem kit_tt {K : PySem.W.Frag} : PySem.W.kitOne K (.type "tuple") (.type "tuple") = some true := kit_ty (by decide +kernel)
theorem _root_.L2.Dp.same_at {K : PySem.W.Frag} {H H' : Hp} {v : V} {d : PyData} (h : Dp K H v d) (e : Same H H') : Dp K H' v d := Dp.same e d v h
theorem hAt_ix {l : List Int} (t : Int) (h : 1 ≤ l.length) : atI (l.map V.int) (t.fmod ((l.map V.int).length : Int)) = some (.int (hAt l t)) := by
  rw [List.length_map]
  have hp : (0 : Int) < (l.length : Int) := by omega
  have h1 := Int.fmod_nonneg_of_pos t hp
  have h2 := Int.fmod_lt_of_pos t hp
  have hk : (t.fmod (l.length : Int)).toNat < l.length := by omega
  refine at_of (j := (t.fmod (l.length : Int)).toNat) (by omega) ?_
  rw [List.getElem?_map, List.getElem?_eq_getElem hk]
  unfold hAt
  rw [List.getD_eq_getElem?_getD, List.getElem?_eq_getElem hk]
  rfl
theorem hrow_len (ls : List (List Int)) (t : Int) (n : Nat) : (hrow ls t n).length = n := by
  unfold hrow
  rw [List.length_map, List.length_range]
theorem hrow_more (ls : List (List Int)) (t : Int) (n : Nat) : hrow ls t (n + 1) = hrow ls t n ++ [hd ls (t + (0 + (n : Int)))] := by
  unfold hrow
  rw [List.range_succ, List.map_append, Int.zero_add]
  rfl
def sp_law (K : PySem.W.Frag) : Sp := fun vs H Q _ => ∃ (a : Addr) (ns : List Int), vs = [.ref a] ∧ SqL K H a (ns.map V.int) ∧ ns.length ≤ 63 ∧ ∀ H', Q (.bl true) H'
def NBL (ls : List (List Int)) : Prop := ∀ l ∈ ls, ∀ z ∈ l, NB z
theorem hAt_nb {l : List Int} (t : Int) (h : ∀ z ∈ l, NB z) : NB (hAt l t) := by
  unfold hAt
  rw [List.getD_eq_getElem?_getD]
  cases e : l[(t.fmod (l.length : Int)).toNat]? with
  | none => exact ⟨by decide, by decide⟩
  | some z => exact h z (List.mem_of_getElem? e)
theorem hd_nb : ∀ {ls : List (List Int)} (t : Int), NBL ls → -(10 ^ 30) * (ls.length : Int) ≤ hd ls t ∧ hd ls t ≤ 10 ^ 30 * (ls.length : Int)
  | [], _, _ => ⟨(by decide : -(10 ^ 30) * ((0 : Nat) : Int) ≤ 0), (by decide : (0 : Int) ≤ 10 ^ 30 * ((0 : Nat) : Int))⟩
  | l :: r, t, h => by
    have q := hd_nb (ls := r) t fun x hx => h x (List.mem_cons_of_mem _ hx)
    have e : hd (l :: r) t = hAt l t + hd r t := by
      unfold hd
      rw [List.map_cons, List.sum_cons]
    obtain ⟨a, b⟩ := hAt_nb t (h l List.mem_cons_self)
    rw [e, List.length_cons]
    obtain ⟨c, d⟩ := q
    constructor <;> omega
theorem hd_small {ls : List (List Int)} (t : Int) (h : NBL ls) (hl : ls.length ≤ 6) : (hd ls t).natAbs < 10 ^ 40 := by
  obtain ⟨a, b⟩ := hd_nb t h
  have c : ((ls.length : Nat) : Int) ≤ 6 := by omega
  have e : (10 : Int) ^ 30 * (ls.length : Int) ≤ 10 ^ 31 := by omega
  have f : -(10 ^ 31) ≤ -(10 : Int) ^ 30 * (ls.length : Int) := by omega
  have g : (10 : Nat) ^ 40 = 10000000000000000000000000000000000000000 := by decide
  omega
theorem hrow_small {ls : List (List Int)} (t : Int) (n : Nat) (h : NBL ls) (hl : ls.length ≤ 6) : ∀ z ∈ hrow ls t n, z.natAbs < 10 ^ 40 := by
  intro z hz
  unfold hrow at hz
  obtain ⟨i, _, rfl⟩ := List.mem_map.mp hz
  exact hd_small _ h hl
theorem nb_small {z : Int} (h : NB z) : z.natAbs < 10 ^ 40 := by
  obtain ⟨a, b⟩ := h
  have g : (10 : Nat) ^ 40 = 10000000000000000000000000000000000000000 := by decide
  omega
theorem tells_row {ls : List (List Int)} (t : Int) (n : Nat) (h : NBL ls) (hl : ls.length ≤ 6) (hn : n ≤ 1000) : Tells (dInts (hrow ls t n)) :=
  tells_ints (ns := hrow ls t n) 40 (by decide) (by decide) (hrow_small t n h hl) (by rw [hrow_len]; omega)
theorem tells_two {x : Int} (h : x.natAbs < 10 ^ 40) : Tells (dList [x, x]) := tells_list (ns := [x, x]) 40 (by decide) (by decide)
  (by intro z hz; simp at hz; rw [hz]; exact h) (by show (40 + 3) * 2 + 4 ≤ 16000000; decide)
theorem tells_ok {ls : List (List Int)} (h : NBL ls) (ok : OkL ls) : Tells (dLoops ls) := tells_loops (ls := ls) 40 64 (by decide) (by decide)
  (fun l hl z hz => nb_small (h l hl z hz)) (fun l hl => (ok.2 l hl).2) (by have := ok.1; omega)
/-- one of two -/
theorem pick2 {x y : Int} {r : Int} (h0 : 0 ≤ r) (h1 : r < 2) : ∃ b : Int, atI ([x, y].map V.int) r = some (.int b) ∧ (b = x ∨ b = y) := by
  rcases (by omega : r = 0 ∨ r = 1) with e | e
  · rw [e]
    exact ⟨x, at_of (j := 0) rfl rfl, .inl rfl⟩
  · rw [e]
    exact ⟨y, at_of (j := 1) rfl rfl, .inr rfl⟩
theorem pick3 {x y w : Int} {r : Int} (h0 : 0 ≤ r) (h1 : r < 3) : ∃ b : Int, atI ([x, y, w].map V.int) r = some (.int b) ∧ (b = x ∨ b = y ∨ b = w) := by
  rcases (by omega : r = 0 ∨ r = 1 ∨ r = 2) with e | e | e
  · rw [e]
    exact ⟨x, at_of (j := 0) rfl rfl, .inl rfl⟩
  · rw [e]
    exact ⟨y, at_of (j := 1) rfl rfl, .inr (.inl rfl)⟩
  · rw [e]
    exact ⟨w, at_of (j := 2) rfl rfl, .inr (.inr rfl)⟩
theorem min4 (z : Int) (h : 0 ≤ z) : 0 ≤ (if (4 : Int) < z then 4 else z) ∧ (if (4 : Int) < z then 4 else z) ≤ 4 := by
  split <;> omega
abbrev farL : List (List Int) := [[(10 ^ 62) ^ 16, 1 - (10 ^ 62) ^ 16], [5]]
theorem far_row : hrow farL (10 ^ 30) 2 = [(10 ^ 62) ^ 16 + 5, 6 - (10 ^ 62) ^ 16] := by decide +kernel
theorem iteB {b : Bool} {A B : Prop} (h : b = true) (k : B) : if (!b) = true then A else B := by
  rw [h]
  exact iteF k
theorem far_eq : PyData.eqv (dInts (hrow farL (10 ^ 30) 2)) (dInts [(10 ^ 62) ^ 16 + 5, 6 - (10 ^ 62) ^ 16]) = true := by
  rw [eqv_dInts, far_row]
  exact decide_eq_true rfl
theorem far_ok : OkL farL := by
  refine ⟨by decide, fun l hl => ?_⟩
  simp at hl
  rcases hl with h | h <;> (rw [h]; decide)
theorem OkL.take {ls : List (List Int)} (h : OkL ls) (n : Nat) : OkL (ls.take n) :=
  ⟨by rw [List.length_take]; have := h.1; omega, fun l hl => h.2 l (List.mem_of_mem_take hl)⟩
theorem NBL.take {ls : List (List Int)} (h : NBL ls) (n : Nat) : NBL (ls.take n) := fun l hl => h l (List.mem_of_mem_take hl)
/-! ### loops turned -/
def turnL (l : List Int) (k : Nat) : List Int := l.drop k ++ l.take k
def lat (ls : List (List Int)) (t : Int) : List (List Int) := ls.map fun l => turnL l (t.fmod (l.length : Int)).toNat
def lensI (ls : List (List Int)) : List Int := ls.map fun l => (l.length : Int)
def sp_lengths_of (K : PySem.W.Frag) : Sp := fun vs H Q _ => ∃ (v : V) (ls : List (List Int)), vs = [v] ∧ Dp K H v (dLoops ls) ∧ OkL ls ∧ ∀ w H', Same H H' → Dp K H' w (dInts (lensI ls)) → Q w H'
def sp_begun_at (K : PySem.W.Frag) : Sp := fun vs H Q _ => ∃ (v : V) (l : List Int) (i : Int), vs = [v, .int i] ∧ Dp K H v (dInts l) ∧ 0 ≤ i ∧ i < (l.length : Int) ∧ l.length ≤ 64 ∧ ∀ w H', Same H H' → Dp K H' w (dInts (turnL l i.toNat)) → Q w H'
def sp__law_turned (K : PySem.W.Frag) : Sp := fun vs H Q _ => ∃ (v : V) (l : List Int) (t : Int), vs = [v, .int t] ∧ Dp K H v (dInts l) ∧ 1 ≤ l.length ∧ l.length ≤ 64 ∧ ∀ w H', Same H H' → Dp K H' w (dInts (turnL l (t.fmod (l.length : Int)).toNat)) → Q w H'
def sp_later (K : PySem.W.Frag) : Sp := fun vs H Q _ => ∃ (v : V) (ls : List (List Int)) (t : Int), vs = [v, .int t] ∧ Dp K H v (dLoops ls) ∧ OkL ls ∧ 0 ≤ t ∧ t ≤ 10 ^ 30 ∧ ∀ w H', Same H H' → Dp K H' w (dLoops (lat ls t)) → Q w H'
theorem fm {t : Int} {n : Nat} (h : 1 ≤ n) : t.fmod (n : Int) = t % (n : Int) := Int.fmod_eq_emod_of_nonneg t (by omega)
theorem fm_lt {t : Int} {n : Nat} (h : 1 ≤ n) : (t.fmod (n : Int)).toNat < n := by
  have a := Int.fmod_nonneg_of_pos t (show (0 : Int) < (n : Int) by omega)
  have b := Int.fmod_lt_of_pos t (show (0 : Int) < (n : Int) by omega)
  omega
theorem turn_len (l : List Int) (k : Nat) : (turnL l k).length = l.length := by
  unfold turnL
  rw [List.length_append, List.length_drop, List.length_take]
  omega
theorem turn_get {l : List Int} {k i : Nat} (hk : k < l.length) (hi : i < l.length) : (turnL l k)[i]? = l[(k + i) % l.length]? := by
  unfold turnL
  by_cases h : i < l.length - k
  · rw [List.getElem?_append_left (by rw [List.length_drop]; exact h), List.getElem?_drop, Nat.mod_eq_of_lt (by omega)]
  · rw [List.getElem?_append_right (by rw [List.length_drop]; omega), List.length_drop, List.getElem?_take_of_lt (by omega)]
    congr 1
    rw [Nat.mod_eq_sub_mod (by omega), Nat.mod_eq_of_lt (by omega)]
    omega
theorem turn_turn {l : List Int} {a b : Nat} (ha : a < l.length) (hb : b < l.length) : turnL (turnL l a) b = turnL l ((a + b) % l.length) := by
  refine List.ext_getElem? fun i => ?_
  by_cases hi : i < l.length
  · rw [turn_get (by rw [turn_len]; exact hb) (by rw [turn_len]; exact hi), turn_len, turn_get ha (Nat.mod_lt _ (by omega)), turn_get (Nat.mod_lt _ (by omega)) hi]
    congr 1
    rw [Nat.add_mod_mod, Nat.mod_add_mod, Nat.add_assoc]
  · rw [List.getElem?_eq_none (by rw [turn_len, turn_len]; omega), List.getElem?_eq_none (by rw [turn_len]; omega)]
theorem fm_add {a b : Int} {n : Nat} (h : 1 ≤ n) : ((a.fmod (n : Int)).toNat + (b.fmod (n : Int)).toNat) % n = ((a + b).fmod (n : Int)).toNat := by
  rw [fm h, fm h, fm h]
  have a0 := Int.emod_nonneg a (show (n : Int) ≠ 0 by omega)
  have b0 := Int.emod_nonneg b (show (n : Int) ≠ 0 by omega)
  have c0 := Int.emod_nonneg (a + b) (show (n : Int) ≠ 0 by omega)
  have e : ((((a % (n : Int)).toNat + (b % (n : Int)).toNat) % n : Nat) : Int) = (a + b) % (n : Int) := by
    rw [Int.natCast_emod, Int.natCast_add, Int.toNat_of_nonneg a0, Int.toNat_of_nonneg b0, ← Int.add_emod]
  omega
theorem hAt_turn {l : List Int} (a t : Int) (h : 1 ≤ l.length) : hAt (turnL l (a.fmod (l.length : Int)).toNat) t = hAt l (a + t) := by
  unfold hAt
  rw [turn_len, List.getD_eq_getElem?_getD, List.getD_eq_getElem?_getD, turn_get (fm_lt h) (fm_lt h), fm_add h]
theorem hd_lat {ls : List (List Int)} (a t : Int) (h : ∀ l ∈ ls, 1 ≤ l.length) : hd (lat ls a) t = hd ls (a + t) := by
  unfold hd lat
  rw [List.map_map]
  congr 1
  exact List.map_congr_left fun l hl => hAt_turn a t (h l hl)
theorem lat_lat {ls : List (List Int)} (a b : Int) (h : ∀ l ∈ ls, 1 ≤ l.length) : lat (lat ls a) b = lat ls (a + b) := by
  unfold lat
  rw [List.map_map]
  refine List.map_congr_left fun l hl => ?_
  show turnL (turnL l (a.fmod (l.length : Int)).toNat) (b.fmod ((turnL l (a.fmod (l.length : Int)).toNat).length : Int)).toNat = _
  rw [turn_len, turn_turn (fm_lt (h l hl)) (fm_lt (h l hl)), fm_add (h l hl)]
theorem lat_id {ls : List (List Int)} (a : Int) (h : ∀ l ∈ ls, 1 ≤ l.length ∧ a % (l.length : Int) = 0) : lat ls a = ls := by
  unfold lat
  have e : ls.map (fun l => turnL l (a.fmod (l.length : Int)).toNat) = ls.map fun l => l := by
    refine List.map_congr_left fun l hl => ?_
    rw [fm (h l hl).1, (h l hl).2]
    show l.drop 0 ++ l.take 0 = l
    rw [List.drop_zero, List.take_zero, List.append_nil]
  rw [e, List.map_id']
theorem lat_ok {ls : List (List Int)} (a : Int) (h : OkL ls) : OkL (lat ls a) := by
  refine ⟨by unfold lat; rw [List.length_map]; exact h.1, fun l hl => ?_⟩
  obtain ⟨l', hl', rfl⟩ := List.mem_map.mp hl
  rw [turn_len]
  exact h.2 l' hl'
theorem lat_nb {ls : List (List Int)} (a : Int) (h : NBL ls) : NBL (lat ls a) := fun l hl z hz => by
  obtain ⟨l', hl', rfl⟩ := List.mem_map.mp hl
  unfold turnL at hz
  rcases List.mem_append.mp hz with q | q
  · exact h l' hl' z (List.mem_of_mem_drop q)
  · exact h l' hl' z (List.mem_of_mem_take q)
theorem lens_lat (ls : List (List Int)) (a : Int) : lensI (lat ls a) = lensI ls := by
  unfold lensI lat
  rw [List.map_map]
  exact List.map_congr_left fun l _ => by rw [Function.comp, turn_len]
theorem hrow_lat {ls : List (List Int)} (a t : Int) (n : Nat) (h : ∀ l ∈ ls, 1 ≤ l.length) : hrow (lat ls a) t n = hrow ls (a + t) n := by
  unfold hrow
  refine List.map_congr_left fun i _ => ?_
  rw [hd_lat a _ h, Int.add_assoc]
/-- two tuples of data, one behind the other -/
theorem rd_cat {K : PySem.W.Frag} {H : Hp} {v u : V} {ds es : List PyData} {Q : VK} (h1 : Dp K H v (.tuple ds)) (h2 : Dp K H u (.tuple es)) (hz : ds.length + es.length ≤ sizeLine)
    (k : ∀ w H', Same H H' → Dp K H' w (.tuple (ds ++ es)) → Q w H') : rCatA K v u H Q := by
  obtain ⟨a, xs, rfl, hT, hX⟩ := h1.tuple
  obtain ⟨b, ys, rfl, hU, hY⟩ := h2.tuple
  have l1 := hX.len
  have l2 := hY.len
  refine ⟨a, b, xs, ys, rfl, rfl, hT, hU, by rw [l1, l2]; exact hz, fun e => ?_, fun _ e => ?_, fun _ _ p hp => ?_⟩
  · subst e
    cases hX
    exact k _ H (Same.refl H) (.tup hU hY)
  · subst e
    cases hY
    rw [List.append_nil] at k
    exact k _ H (Same.refl H) (.tup hT hX)
  · exact k _ _ (same_upd hp _) (.tup (SqT.of upd_same) (DpAll.same (same_upd hp _) _ _ (hX.app hY)))
theorem cutD_from {α : Type} (f : α → PyData) (xs : List α) {i : Int} (h : 0 ≤ i) (h2 : i ≤ (xs.length : Int)) : cutD (xs.map f) (some i) none = (xs.drop i.toNat).map f := by
  have e : i = ((i.toNat : Nat) : Int) := by omega
  rw [e]
  unfold L2.cutD
  rw [HT.sIx_none, HT.sIx_nat, List.length_map, Int.toNat_natCast, Nat.min_eq_left (by omega), ← List.map_drop]
  rw [List.take_of_length_le (by rw [List.length_map, List.length_drop]; omega)]
theorem cutD_to {α : Type} (f : α → PyData) (xs : List α) {i : Int} (h : 0 ≤ i) : cutD (xs.map f) none (some i) = (xs.take i.toNat).map f := by
  have e : i = ((i.toNat : Nat) : Int) := by omega
  rw [e, cutD_map, Int.toNat_natCast]
end My

/-! A tuple times any int; a tuple compared with the empty one. -/
namespace L2
open PySem PySem.Spec PyProof.Rows
section
theorem my_mul_same (l : Addr) (items : Array Value) (n : Nat) (dd : Option Addr) (sl : Array (Option Value)) (x : Int) (u : Tok)
    (c0 : (decide (x < -(2 ^ 63)) || decide (x ≥ 2 ^ 63)) = false) (c1 : (items.isEmpty || x == 1) = true) :
    Meets (Builtin.«tuple.__mul__» ⟨[.ref l, .int x u], []⟩) (fun _ R s =>
      s.heap.get? l = some { cls := .type "tuple", dict := dd, data := .seq items n, slots := sl } ∧ R (.ok (.ret (Value.ref l))) s) :=
  .of_wp fun prog w A R s h => by
    obtain ⟨hp, g, d, tk, os⟩ := s
    obtain ⟨hl, h⟩ := h
    have f1 := AutoSeq1.idx_int
    have c1' := c1
    wp_walk using wpAny_loadPart' hl
    refine wpAny_ite_false (decide_eq_false (by rw [c0]; exact Bool.false_ne_true)) ?_
    wp_walk using wpAny_loadPart' hl
    exact ⟨_, rfl, h⟩
theorem my_mul_none (l : Addr) (items : Array Value) (n : Nat) (dd : Option Addr) (sl : Array (Option Value)) (x : Int) (u : Tok)
    (c0 : (decide (x < -(2 ^ 63)) || decide (x ≥ 2 ^ 63)) = false) (c1 : (items.isEmpty || x == 1) = false) (c2 : (decide (x ≤ 0) || items.isEmpty) = true) :
    Meets (Builtin.«tuple.__mul__» ⟨[.ref l, .int x u], []⟩) (fun _ R s =>
      s.heap.get? l = some { cls := .type "tuple", dict := dd, data := .seq items n, slots := sl } ∧
      R (.ok (.ret (Value.ref s.heap.objs.size))) { s with heap := s.heap.push { cls := Value.type "tuple", data := Data.seq #[] } }) :=
  .of_wp fun prog w A R s h => by
    obtain ⟨hp, g, d, tk, os⟩ := s
    obtain ⟨hl, h⟩ := h
    have f1 := AutoSeq1.idx_int
    wp_walk using wpAny_loadPart' hl
    repeat (first
      | exact ⟨_, rfl, h⟩
      | (refine wpAny_ite_false (decide_eq_false (by rw [c0]; decide)) ?_; wp_walk using wpAny_loadPart' hl)
      | (refine wpAny_ite_false (decide_eq_false (by rw [c1]; decide)) ?_; wp_walk using wpAny_loadPart' hl)
      | (refine wpAny_ite_true (decide_eq_true c2) ?_; wp_walk using wpAny_loadPart' hl))
end
/-- t * k, any t, any k -/
def rRepA (K : PySem.W.Frag) : R2 := fun x y H Q => ∃ l k xs, x = .ref l ∧ y = .int k ∧ SqT K H l xs ∧ -1000 ≤ k ∧ k ≤ 1000 ∧ xs.length ≤ 1000 ∧
  ((xs = [] ∨ k = 1) → Q (.ref l) H) ∧ (¬ (xs = [] ∨ k = 1) → ∀ p, H p = none → Q (.ref p) (upd H p (.tup (List.replicate k.toNat xs).flatten)))
theorem op_repA {X : Cx} {K : PySem.W.Frag} (e : X.K = K := by rfl) : OpR X (binaryOp .Mult) (rRepA K) := by
  subst e
  intro pins s σ H x y v u Q I rx ry h
  obtain ⟨l, k, xs, rfl, rfl, hT, h1, h2, hz, q0, q1⟩ := h
  by_cases same : xs = [] ∨ k = 1
  · have q := q0 same
    cases rx
    obtain ⟨t, rfl⟩ := ry
    obtain ⟨its, r, ⟨⟨cls, dd, data, sl⟩, ho, hc, n, hd⟩, hs⟩ := I.tuple hT
    simp only at hc hd
    subst hc hd
    have c0 : (decide (k < -(2 ^ 63)) || decide (k ≥ 2 ^ 63)) = false := by
      rw [decide_eq_false (by omega), decide_eq_false (by omega)]
      rfl
    have c1 : (its.toArray.isEmpty || k == 1) = true := by
      rcases same with e | e
      · subst e
        cases r
        rfl
      · subst e
        simp
    refine wpAny_binaryOp_repeat_ref (T := "tuple") (U := "int") (by decide) ⟨_, ho, rfl⟩ (fun s' => typeIs_int s' k t) noFill_tuple_mul F.fills_int_mul F.slot_int_rmul repeat_tuple F.slot_int_index.lookup
      (call_meets F.slot_int_rmul (typeIs_int s k t) F.entry_int_rmul (F.args_int_rmul_2 _ _) (int_rmul_tuple k t l its.toArray n dd sl) ⟨ho, rfl, ⟨_, ho, rfl⟩, ?_⟩)
    exact call_meets F.slot_tuple_mul ⟨_, ho, rfl⟩ F.entry_tuple_mul (F.args_tuple_mul_2 _ _) (my_mul_same l its.toArray n dd sl k t c0 c1) ⟨ho, .ref l, H, I, rfl, q⟩
  · have q := q1 same
    have hne : xs ≠ [] := fun z => same (.inl z)
    by_cases h3 : 2 ≤ k
    · exact op_repT pins s σ H (.ref l) (.int k) v u Q I rx ry ⟨l, k, xs, rfl, rfl, hT, hne, h3, h2, hz, q⟩
    · cases rx
      obtain ⟨t, rfl⟩ := ry
      obtain ⟨its, r, ⟨⟨cls, dd, data, sl⟩, ho, hc, n, hd⟩, hs⟩ := I.tuple hT
      simp only at hc hd
      subst hc hd
      have k0 : k ≤ 0 := by
        have : k ≠ 1 := fun z => same (.inr z)
        omega
      have c0 : (decide (k < -(2 ^ 63)) || decide (k ≥ 2 ^ 63)) = false := by
        rw [decide_eq_false (by omega), decide_eq_false (by omega)]
        rfl
      have c1 : (its.toArray.isEmpty || k == 1) = false := by
        have e1 : its.toArray.isEmpty = false := by
          cases r with
          | nil => exact absurd rfl hne
          | cons _ _ => rfl
        rw [e1, Bool.false_or]
        exact beq_eq_false_iff_ne.mpr (by omega)
      have c2 : (decide (k ≤ 0) || its.toArray.isEmpty) = true := by
        rw [decide_eq_true k0]
        rfl
      have ek : k.toNat = 0 := by omega
      rw [ek] at q
      refine wpAny_binaryOp_repeat_ref (T := "tuple") (U := "int") (by decide) ⟨_, ho, rfl⟩ (fun s' => typeIs_int s' k t) noFill_tuple_mul F.fills_int_mul F.slot_int_rmul repeat_tuple F.slot_int_index.lookup
        (call_meets F.slot_int_rmul (typeIs_int s k t) F.entry_int_rmul (F.args_int_rmul_2 _ _) (int_rmul_tuple k t l its.toArray n dd sl) ⟨ho, rfl, ⟨_, ho, rfl⟩, ?_⟩)
      refine call_meets F.slot_tuple_mul ⟨_, ho, rfl⟩ F.entry_tuple_mul (F.args_tuple_mul_2 _ _) (my_mul_none l its.toArray n dd sl k t c0 c1 c2) ⟨ho, ?_⟩
      have J : Inv X pins σ (upd H s.heap.objs.size (.tup [])) { s with heap := s.heap.push { cls := .type "tuple", data := .seq #[] } } :=
        I.laid (t' := s.toks) (fun b ob z => Heap.get?_push_of_some _ z) (Nat.le_refl _) ⟨Nat.zero_le _, [], .nil, IsTup.new _ _⟩
      exact ⟨.ref s.heap.objs.size, _, J, rfl, q _ (I.hok.fresh (Nat.le_refl _))⟩
end L2

/-! Own errors with one field; things of many kinds. -/
namespace L2
open PySem PySem.Spec PyProof.Rows
/-! ### t == () -/
def rEqT0 (K : PySem.W.Frag) : R2 := fun x y H Q => ∃ a b xs, x = .ref a ∧ y = .ref b ∧ SqT K H a xs ∧ SqT K H b [] ∧ Q (.bl xs.isEmpty) H
theorem op_eqT0 {X : Cx} {K : PySem.W.Frag} (hu : X.A.units + 64 < cLine) (ek : X.K = K := by rfl) : OpR X (compareOp .Eq) (rEqT0 K) := by
  subst ek
  intro pins s σ H x y v u Q I rx ry h
  obtain ⟨a, b, xs, rfl, rfl, ha, hb, q⟩ := h
  cases rx
  cases ry
  obtain ⟨us, r1, p1, z1⟩ := I.tuple ha
  obtain ⟨ws, r2, p2, z2⟩ := I.tuple hb
  have t1 : s.heap.IsTuple a us.toArray := p1
  have t2 : s.heap.IsTuple b ws.toArray := p2
  have l1 := r1.length
  cases r2
  have go := SeqAt.RcAt.tuples (A := X.A) (e := fun _ => true) t1 t2 (by omega) (fun j _ h2 => absurd h2 (by simp))
  refine go X.prog X.w _ _ ⟨.bl _, H, I, ?_, q⟩
  show Value.bool _ = Value.bool _
  cases xs with
  | nil =>
    cases r1
    rfl
  | cons x r =>
    cases r1
    rfl
/-! ### (a, b) = t, the written part named -/
theorem k_pgt {X : Cx} {K : PySem.W.Frag} {es : List Expr} {k : Nat} {t : TGs} {n : Nat} {pos : Pos} (hc : X.calm = true) (h : PGs X es t)
    (hn : (assignEach es X.env).length = n := by rfl) (hst : (assignEach es X.env).findIdx? (·.1) = none := by rfl)
    (e : X.K = K := by rfl) : PG X (.Tuple es k pos) (gTup K n t) := by
  subst e
  exact pg_tup hc h hn hst
/-! ### repr of data, of None and ints too -/
def TellsA (d : PyData) : Prop := Tells d ∨ d = .none ∨ ∃ i : Int, d = .int i ∧ i.natAbs.log2 < 1920
def rReprA (K : PySem.W.Frag) : List V → Hp → VK → Prop := fun xs H Q => ∃ x d, xs = [x] ∧ Dp K H x d ∧ TellsA d ∧ Q (.str d.shown) H
theorem k_reprA {X : Cx} {K : PySem.W.Frag} (hu : X.A.units + 64 < cLine) (hg : X.A.guards = some []) (e : X.K = K := by rfl) : CallR X (.builtin "repr") (rReprA K) := by
  intro pins s σ H xs us Q I r h
  obtain ⟨x, d, rfl, hd, ht, q⟩ := h
  rcases ht with ht | rfl | ⟨i, rfl, hi⟩
  · exact k_repr hu hg e pins s σ H [x] us Q I r ⟨x, d, rfl, hd, ht, q⟩
  · obtain ⟨u, rfl, ru⟩ := vals1 r
    cases hd
    cases ru
    exact PySem.P.repr_of_none ⟨.str _, H, I.tok _, ⟨_, rfl⟩, q⟩
  · obtain ⟨u, rfl, ru⟩ := vals1 r
    cases hd
    obtain ⟨t, rfl⟩ := ru
    exact PySem.P.repr_of_int hi ⟨.str _, H, I.tok _, ⟨_, rfl⟩, q⟩
end L2
namespace My
open PySem PySem.Spec PyProof.Rows L2
/-! ### an own error whose __init__ keeps its one argument -/
def sp_exc (C : Addr) (fld : Str) : Sp := fun vs H Q _ => ∃ (a : Addr) (w : V), vs = [.ref a, w] ∧ H a = some (exo a C none) ∧
  ∀ dx, H dx = none → dx ≠ a → Q .non (upd (upd H dx (exd dx [(fld, w)])) a (exo a C (some dx)))
structure ExcT (K : PySem.W.Frag) (mg : Str → Option Value) (name qual fld : Str) (st : Stmt) where
  C : Addr
  f : Addr
  d : FuncData
  m : mg name = some (.ref C)
  ox : OexC K C
  iC : PySem.W.findIn K (.ref C) "__init__" = some (some (.ref f))
  tI : PySem.W.typeIn K (.ref f) = some (.type "function")
  F : Fun K "__init__" qual st f d
  b : Binds K d ["self", fld] []
  nf : PySem.W.findIn K (.ref C) fld = some none
  xf : XfC K C
  te : PySem.W.exmOne K (.ref C) (.ref C) = some true
theorem exm_me {K : PySem.W.Frag} {C : Addr} (h1 : PySem.W.subIn K (.ref C) (.type "BaseException") = some true) (h2 : PySem.W.isClsIn K C = true)
    (h3 : PySem.W.typeIn K (.ref C) = some (.type "type")) (h4 : PySem.W.subIn K (.ref C) (.ref C) = some true) : PySem.W.exmOne K (.ref C) (.ref C) = some true := by
  have h2' : (PySem.W.clsIn K C).isSome = true := h2
  simp [PySem.W.exmOne, PySem.W.kitCls, h1, h2', h3, h4]
/-- what the top has written of such a class -/
def exc_mk {K : PySem.W.Frag} {h : Heap} {mg : Str → Option Value} {name qual fld : Str} {st : Stmt} (X : K.In h) (G : h.Ns mainGlobals mg) {C f : Addr} {d : FuncData} {nm q : Str} {N : Addr} {bs : List Value} {sn : List Str} {sub : List Value}
    {ab : Bool} {col : Option Bool} {dd : Option Addr} {m0 m1 m2 m3 m5 : Option Value} (F : Fun K "__init__" qual st f d) (b : Binds K d ["self", fld] [])
    (aC : PySem.W.nsIn K mainGlobals name = some (some (.ref C)))
    (xL : K.lookup C = some (excClassObj nm q C N bs [.type "ValueError", .type "Exception", .type "BaseException", .type "object"] true sn sub ab col dd m0 m1 m2 m3 m5 "ValueError.__new__"))
    (sa : PySem.W.findIn K (.ref C) "__setattr__" = some (some (.builtin "object.__setattr__")))
    (ga : PySem.W.findIn K (.ref C) "__getattribute__" = some (some (.builtin "BaseException.__getattribute__")))
    (gg : PySem.W.findIn K (.ref C) "__getattr__" = some none) (nb : PySem.W.findIn K (.ref C) fld = some none)
    (a1 : PySem.W.findIn K (.ref C) "__init__" = some (some (.ref f))) (t1 : PySem.W.typeIn K (.ref f) = some (.type "function"))
    (kC : PySem.W.keepIn K (.ref C) = true) (eC : PySem.W.subIn K (.ref C) (.type "BaseException") = some true) (tC : PySem.W.typeIn K (.ref C) = some (.type "type"))
    (hC : PySem.W.hasDictIn K C = true) (iC : PySem.W.isClsIn K C = true) (sC : PySem.W.subIn K (.ref C) (.ref C) = some true) : ExcT K mg name qual fld st where
  C := C
  f := f
  d := d
  m := PySem.W.mg_of X G aC
  ox := ⟨⟨nm, q, N, bs, _, sn, sub, ab, col, dd, m0, m1, m2, m3, m5, xL, by decide +kernel⟩, sa, eC, tC, kC⟩
  iC := a1
  tI := t1
  F := F
  b := b
  nf := nb
  xf := ⟨ga, gg, eC, hC⟩
  te := exm_me eC iC tC sC
/-- such an error made: what its maker wants -/
theorem exc_made {C : Addr} {fld : Str} {w : V} {H : Hp} {Q : XK} (k : ∀ d H', Same H H' → H' d = some (.xd [(fld, w)]) → Q (.ref C) (some d) H') :
    ∀ a, H a = none → sp_exc C fld (.ref a :: ([w] ++ [])) (upd H a (exo a C none)) (fun v H2 => v = .non ∧ ∃ (d : Addr) (fs : List (Str × V)),
      H2 a = some (exo a C (some d)) ∧ H2 d = some (exd d fs) ∧ H d = none ∧ Q (.ref C) (some d) (upd (del H2 a) d (.xd fs))) (fun _ _ _ => False) := by
  intro a ha
  refine ⟨a, w, rfl, upd_same, fun dx hdx hne => ⟨rfl, dx, [(fld, w)], upd_same, by rw [upd_ne hne, upd_same], ?_, ?_⟩⟩
  · rw [upd_ne hne] at hdx
    exact hdx
  · rw [upd_ne hne] at hdx
    refine k dx _ (fun b o q => ?_) upd_same
    have b1 := ne_of_none q ha
    have b2 := ne_of_none q hdx
    rw [upd_ne b2, del_ne b1, upd_ne b1, upd_ne b2, upd_ne b1]
    exact q
/-! ### things of many kinds -/
inductive Dt where
  | int (i : Int)
  | oth (n : String)
  | tup (ds : List Dt)
def tyOf : Dt → String
  | .int _ => "int"
  | .oth n => n
  | .tup _ => "tuple"
mutual
/-- v is a thing d; lists and dicts in it lie at allowed places -/
inductive Rp (K : PySem.W.Frag) (H : Hp) (ok : Addr → Prop) : V → Dt → Prop
  | int (i : Int) (h : i.natAbs < 10 ^ 40) : Rp K H ok (.int i) (.int i)
  | bl (b : Bool) : Rp K H ok (.bl b) (.oth "bool")
  | non : Rp K H ok .non (.oth "NoneType")
  | str (x : Str) : Rp K H ok (.str x) (.oth "str")
  | lst {a : Addr} {xs : List V} (h : H a = some (.lst xs)) (ho : ok a) : Rp K H ok (.ref a) (.oth "list")
  | dct {a : Addr} {kvs : List (Key × V)} (h : H a = some (.dK kvs)) (ho : ok a) : Rp K H ok (.ref a) (.oth "dict")
  | tup {a : Addr} {xs : List V} {ds : List Dt} (h : SqT K H a xs) (hx : RpAll K H ok xs ds) : Rp K H ok (.ref a) (.tup ds)
inductive RpAll (K : PySem.W.Frag) (H : Hp) (ok : Addr → Prop) : List V → List Dt → Prop
  | nil : RpAll K H ok [] []
  | cons {v : V} {vs : List V} {d : Dt} {ds : List Dt} (h : Rp K H ok v d) (r : RpAll K H ok vs ds) : RpAll K H ok (v :: vs) (d :: ds)
end
variable {K : PySem.W.Frag} {H H' : Hp} {ok ok' : Addr → Prop}
mutual
theorem Rp.keep (tk : TK K H H') (kp : ∀ a o, ok a → H a = some o → H' a = some o) (oo : ∀ a o, H a = some o → ok a → ok' a) : ∀ (d : Dt) (v : V), Rp K H ok v d → Rp K H' ok' v d
  | .int i, _, h => by
    cases h with
    | int _ h => exact .int i h
  | .oth _, _, h => by
    cases h with
    | bl b => exact .bl b
    | non => exact .non
    | str x => exact .str x
    | lst h ho => exact .lst (kp _ _ ho h) (oo _ _ h ho)
    | dct h ho => exact .dct (kp _ _ ho h) (oo _ _ h ho)
  | .tup ds, _, h => by
    cases h with
    | tup h hx => exact .tup (tk _ _ h) (RpAll.keep tk kp oo ds _ hx)
theorem RpAll.keep (tk : TK K H H') (kp : ∀ a o, ok a → H a = some o → H' a = some o) (oo : ∀ a o, H a = some o → ok a → ok' a) : ∀ (ds : List Dt) (vs : List V), RpAll K H ok vs ds → RpAll K H' ok' vs ds
  | [], _, h => by
    cases h
    exact .nil
  | d :: r, _, h => by
    cases h with
    | cons h1 h2 => exact .cons (Rp.keep tk kp oo d _ h1) (RpAll.keep tk kp oo r _ h2)
end
theorem Rp.same {v : V} {d : Dt} (h : Rp K H ok v d) (e : Same H H') : Rp K H' ok v d := Rp.keep (Same.tk e) (fun a o _ q => e a o q) (fun _ _ _ q => q) d v h
theorem RpAll.same {vs : List V} {ds : List Dt} (h : RpAll K H ok vs ds) (e : Same H H') : RpAll K H' ok vs ds := RpAll.keep (Same.tk e) (fun a o _ q => e a o q) (fun _ _ _ q => q) ds vs h
theorem Rp.any {v : V} {d : Dt} (h : Rp K H ok v d) : Rp K H (fun _ => True) v d := Rp.keep TK.refl (fun _ _ _ q => q) (fun _ _ _ _ => trivial) d v h
theorem RpAll.len : ∀ {vs : List V} {ds : List Dt}, RpAll K H ok vs ds → vs.length = ds.length
  | _, _, .nil => rfl
  | _, _, .cons _ h => by simp [RpAll.len h]
theorem RpAll.get : ∀ {vs : List V} {ds : List Dt} {i : Nat} {v : V}, RpAll K H ok vs ds → vs[i]? = some v → ∃ d, ds[i]? = some d ∧ Rp K H ok v d
  | _, _, _, _, .nil, h => by cases h
  | _, _, 0, _, .cons h1 _, h => by
    cases h
    exact ⟨_, rfl, h1⟩
  | _, _, i + 1, _, .cons _ h2, h => RpAll.get (i := i) h2 h
theorem RpAll.app : ∀ {vs us : List V} {ds es : List Dt}, RpAll K H ok vs ds → RpAll K H ok us es → RpAll K H ok (vs ++ us) (ds ++ es)
  | _, _, _, _, .nil, h => h
  | _, _, _, _, .cons h1 h2, h => .cons h1 (RpAll.app h2 h)
theorem RpAll.take : ∀ {vs : List V} {ds : List Dt} (n : Nat), RpAll K H ok vs ds → RpAll K H ok (vs.take n) (ds.take n)
  | _, _, 0, _ => .nil
  | _, _, _ + 1, .nil => .nil
  | _, _, n + 1, .cons h1 h => .cons h1 (RpAll.take n h)
theorem RpAll.drop : ∀ {vs : List V} {ds : List Dt} (n : Nat), RpAll K H ok vs ds → RpAll K H ok (vs.drop n) (ds.drop n)
  | _, _, 0, h => h
  | _, _, _ + 1, .nil => .nil
  | _, _, n + 1, .cons _ h => RpAll.drop n h
theorem RpAll.rep {vs : List V} {ds : List Dt} (h : RpAll K H ok vs ds) : ∀ k : Nat, RpAll K H ok (List.replicate k vs).flatten (List.replicate k ds).flatten
  | 0 => .nil
  | k + 1 => by
    rw [List.replicate_succ, List.replicate_succ, List.flatten_cons, List.flatten_cons]
    exact h.app (RpAll.rep h k)
theorem Rp.ty {v : V} {d : Dt} (h : Rp K H ok v d) : TyX K H v (.type (tyOf d)) := by
  cases h with
  | int i _ => exact .base (.int i)
  | bl b => exact .base (.bl b)
  | non => exact .base .non
  | str x => exact .base (.str x)
  | lst h _ => exact .base (.lst h)
  | dct h _ => exact .base (.dK h)
  | tup h _ => exact h.ty
def isTup : Dt → Bool
  | .tup _ => true
  | _ => false
def isNum : Dt → Bool
  | .int _ => true
  | _ => false
theorem Rp.kitTup {v : V} {d : Dt} (h : Rp K H ok v d) : PySem.W.kitOne K (.type (tyOf d)) (.type "tuple") = some (isTup d) := by
  cases h
  · exact (kit_ty (a := "int") (b := "tuple") (r := false) (by decide +kernel))
  · exact (kit_ty (a := "bool") (b := "tuple") (r := false) (by decide +kernel))
  · exact (kit_ty (a := "NoneType") (b := "tuple") (r := false) (by decide +kernel))
  · exact (kit_ty (a := "str") (b := "tuple") (r := false) (by decide +kernel))
  · exact (kit_ty (a := "list") (b := "tuple") (r := false) (by decide +kernel))
  · exact (kit_ty (a := "dict") (b := "tuple") (r := false) (by decide +kernel))
  · exact (kit_ty (a := "tuple") (b := "tuple") (r := true) (by decide +kernel))
theorem Rp.kitInt {v : V} {d : Dt} (h : Rp K H ok v d) : ∃ b1 b2, PySem.W.kitOne K (.type (tyOf d)) (.type "int") = some b1 ∧ PySem.W.kitOne K (.type (tyOf d)) (.type "bool") = some b2 ∧ (b1 && !b2) = isNum d := by
  cases h
  · exact ⟨true, false, (kit_ty (a := "int") (b := "int") (by decide +kernel)), (kit_ty (a := "int") (b := "bool") (by decide +kernel)), rfl⟩
  · exact ⟨true, true, (kit_ty (a := "bool") (b := "int") (by decide +kernel)), (kit_ty (a := "bool") (b := "bool") (by decide +kernel)), rfl⟩
  · exact ⟨false, false, (kit_ty (a := "NoneType") (b := "int") (by decide +kernel)), (kit_ty (a := "NoneType") (b := "bool") (by decide +kernel)), rfl⟩
  · exact ⟨false, false, (kit_ty (a := "str") (b := "int") (by decide +kernel)), (kit_ty (a := "str") (b := "bool") (by decide +kernel)), rfl⟩
  · exact ⟨false, false, (kit_ty (a := "list") (b := "int") (by decide +kernel)), (kit_ty (a := "list") (b := "bool") (by decide +kernel)), rfl⟩
  · exact ⟨false, false, (kit_ty (a := "dict") (b := "int") (by decide +kernel)), (kit_ty (a := "dict") (b := "bool") (by decide +kernel)), rfl⟩
  · exact ⟨false, false, (kit_ty (a := "tuple") (b := "int") (by decide +kernel)), (kit_ty (a := "tuple") (b := "bool") (by decide +kernel)), rfl⟩
theorem Rp.tuple {v : V} {ds : List Dt} (h : Rp K H ok v (.tup ds)) : ∃ a xs, v = .ref a ∧ SqT K H a xs ∧ RpAll K H ok xs ds := by
  cases h with
  | tup h hx => exact ⟨_, _, rfl, h, hx⟩
/-! ### what is wrong of things -/
def badLoop : Dt → Bool
  | .tup ds => !(decide (1 ≤ ds.length) && decide (ds.length ≤ 64))
  | _ => true
def badNum (d : Dt) : Bool := !isNum d
def firstBad : Dt → Option Nat
  | .tup xs => xs.findIdx? badNum
  | _ => none
def faultOf : Dt → Option (List Nat)
  | .tup ds => if 6 < ds.length then some [] else match ds.findIdx? badLoop with
    | some k => some [k]
    | none => match ds.findIdx? (fun d => (firstBad d).isSome) with
      | some k => some [k, ((ds[k]?).bind firstBad).getD 0]
      | none => none
  | _ => some []
theorem fi_some {p : Dt → Bool} : ∀ {xs : List Dt} {i : Nat} {x : Dt}, xs[i]? = some x → p x = true → (∀ (j : Nat) (y : Dt), j < i → xs[j]? = some y → p y = false) → xs.findIdx? p = some i
  | [], i, x, h, _, _ => by simp at h
  | a :: r, 0, x, h, hp, _ => by
    simp at h
    subst h
    simp [List.findIdx?_cons, hp]
  | a :: r, i + 1, x, h, hp, hb => by
    have h0 := hb 0 a (Nat.succ_pos i) rfl
    have ih := fi_some (p := p) (xs := r) (i := i) (x := x) h hp fun j y hj hy => hb (j + 1) y (Nat.succ_lt_succ hj) hy
    simp [List.findIdx?_cons, h0, ih]
theorem fi_none {p : Dt → Bool} : ∀ {xs : List Dt}, (∀ (j : Nat) (y : Dt), xs[j]? = some y → p y = false) → xs.findIdx? p = none
  | [], _ => rfl
  | a :: r, hb => by
    have h0 := hb 0 a rfl
    have ih := fi_none (p := p) (xs := r) fun j y hy => hb (j + 1) y hy
    simp [List.findIdx?_cons, h0, ih]
abbrev placeD (p : List Nat) : PyData := dInts (p.map fun n : Nat => (n : Int))
/-! ### things cut and put together -/
def cutT (ds : List Dt) (lo hi : Option Int) : List Dt := (ds.drop (HT.sIx ds.length 0 lo)).take (HT.sIx ds.length ds.length hi - HT.sIx ds.length 0 lo)
theorem rd_cutR {v : V} {ds : List Dt} {lo hi : Option Int} {Q : VK} (h : Rp K H ok v (.tup ds)) (k : ∀ w H', Same H H' → Rp K H' ok w (.tup (cutT ds lo hi)) → Q w H') : rSlA K v lo hi H Q := by
  obtain ⟨a, xs, rfl, hT, hX⟩ := h.tuple
  have hl := hX.len
  have hc : RpAll K H ok (cutV xs lo hi) (cutT ds lo hi) := by
    unfold cutV cutT
    rw [← hl]
    exact (hX.drop _).take _
  refine ⟨a, xs, rfl, hT, fun w => ?_, fun _ p hp => ?_⟩
  · refine k _ H (Same.refl H) (.tup hT ?_)
    have e : cutV xs lo hi = xs := by
      unfold cutV
      rw [w.1, w.2, List.drop_zero, Nat.sub_zero, List.take_length]
    rw [e] at hc
    exact hc
  · exact k _ _ (same_upd hp _) (.tup (SqT.of upd_same) (hc.same (same_upd hp _)))
theorem rd_catR {v u : V} {ds es : List Dt} {Q : VK} (h1 : Rp K H ok v (.tup ds)) (h2 : Rp K H ok u (.tup es)) (hz : ds.length + es.length ≤ sizeLine)
    (k : ∀ w H', Same H H' → Rp K H' ok w (.tup (ds ++ es)) → Q w H') : rCatA K v u H Q := by
  obtain ⟨a, xs, rfl, hT, hX⟩ := h1.tuple
  obtain ⟨b, ys, rfl, hU, hY⟩ := h2.tuple
  have l1 := hX.len
  have l2 := hY.len
  refine ⟨a, b, xs, ys, rfl, rfl, hT, hU, by rw [l1, l2]; exact hz, fun e => ?_, fun _ e => ?_, fun _ _ p hp => ?_⟩
  · subst e
    cases hX
    exact k _ H (Same.refl H) (.tup hU hY)
  · subst e
    cases hY
    rw [List.append_nil] at k
    exact k _ H (Same.refl H) (.tup hT hX)
  · exact k _ _ (same_upd hp _) (.tup (SqT.of upd_same) ((hX.app hY).same (same_upd hp _)))
theorem rd_repR {v : V} {ds : List Dt} {n : Int} {Q : VK} (h : Rp K H ok v (.tup ds)) (hz : ds.length ≤ 1000) (h0 : -1000 ≤ n) (h1 : n ≤ 1000)
    (k : ∀ w H', Same H H' → Rp K H' ok w (.tup (List.replicate n.toNat ds).flatten) → Q w H') : rRepA K v (.int n) H Q := by
  obtain ⟨a, xs, rfl, hT, hX⟩ := h.tuple
  have hl := hX.len
  refine ⟨a, n, xs, rfl, rfl, hT, h0, h1, by omega, fun w => ?_, fun _ p hp => ?_⟩
  · refine k _ H (Same.refl H) (.tup hT ?_)
    rcases w with w | w
    · subst w
      cases hX
      have e : (List.replicate n.toNat ([] : List Dt)).flatten = [] := by simp
      rw [e]
      exact .nil
    · subst w
      have e : (List.replicate (1 : Int).toNat ds).flatten = ds := by
        show (List.replicate 1 ds).flatten = ds
        simp
      rw [e]
      exact hX
  · exact k _ _ (same_upd hp _) (.tup (SqT.of upd_same) ((hX.rep _).same (same_upd hp _)))
theorem cutT_to (xs : List Dt) {i : Int} (h : 0 ≤ i) : cutT xs none (some i) = xs.take i.toNat := by
  have e : i = ((i.toNat : Nat) : Int) := by omega
  rw [e]
  unfold cutT
  rw [HT.sIx_none, HT.sIx_nat, List.drop_zero, Nat.sub_zero, Int.toNat_natCast]
  by_cases h : i.toNat ≤ xs.length
  · rw [Nat.min_eq_left h]
  · rw [Nat.min_eq_right (by omega), List.take_length, List.take_of_length_le (by omega)]
theorem cutT_from (xs : List Dt) {i : Int} (h : 0 ≤ i) (h2 : i ≤ (xs.length : Int)) : cutT xs (some i) none = xs.drop i.toNat := by
  have e : i = ((i.toNat : Nat) : Int) := by omega
  rw [e]
  unfold cutT
  rw [HT.sIx_none, HT.sIx_nat, Int.toNat_natCast, Nat.min_eq_left (by omega), List.take_of_length_le (by rw [List.length_drop]; omega)]
/-- a new tuple of things -/
theorem Rp.new {a : Addr} {xs : List V} {ds : List Dt} (hp : H a = none) (h : RpAll K H ok xs ds) : Rp K (upd H a (.tup xs)) ok (.ref a) (.tup ds) := .tup (SqT.of upd_same) (h.same (same_upd hp _))
/-- loops are things -/
def loopsT (ls : List (List Int)) : List Dt := ls.map fun l => .tup (l.map Dt.int)
theorem ints_rp : ∀ {ns : List Int}, (∀ z ∈ ns, z.natAbs < 10 ^ 40) → RpAll K H ok (ns.map V.int) (ns.map Dt.int)
  | [], _ => .nil
  | n :: r, h => .cons (.int n (h n List.mem_cons_self)) (ints_rp fun z hz => h z (List.mem_cons_of_mem _ hz))
theorem loops_rp : ∀ {ls : List (List Int)} {xs : List V}, DpAll K H xs (ls.map dInts) → (∀ l ∈ ls, ∀ z ∈ l, z.natAbs < 10 ^ 40) → RpAll K H ok xs (loopsT ls)
  | [], _, h, _ => by
    cases h
    exact .nil
  | l :: r, _, h, hz => by
    cases h with
    | cons h1 h2 =>
      obtain ⟨a, rfl, hT⟩ := h1.ints
      exact .cons (.tup hT (ints_rp (hz l List.mem_cons_self))) (loops_rp h2 fun l hl => hz l (List.mem_cons_of_mem _ hl))
/-- things that are only ints are ints -/
theorem nums_of : ∀ {ds : List Dt} {xs : List V}, RpAll K H ok xs ds → ds.findIdx? badNum = none → ∃ ns : List Int, xs = ns.map V.int ∧ (∀ z ∈ ns, z.natAbs < 10 ^ 40) ∧ ns.length = ds.length
  | [], _, h, _ => by
    cases h
    exact ⟨[], rfl, (by intro z hz; cases hz), rfl⟩
  | d :: r, _, h, hf => by
    cases h with
    | cons h1 h2 =>
      rw [List.findIdx?_cons] at hf
      cases eb : badNum d with
      | true =>
        rw [eb] at hf
        simp at hf
      | false =>
        rw [eb] at hf
        have hf' : r.findIdx? badNum = none := by
          cases q : r.findIdx? badNum with
          | none => rfl
          | some j =>
            rw [q] at hf
            simp at hf
        obtain ⟨ns, rfl, hz, hl⟩ := nums_of h2 hf'
        cases h1 with
        | int i hi =>
          refine ⟨i :: ns, rfl, ?_, by simp [hl]⟩
          intro z hz'
          rcases List.mem_cons.mp hz' with q | q
          · rw [q]
            exact hi
          · exact hz z q
        | bl b => cases eb
        | non => cases eb
        | str x => cases eb
        | lst _ _ => cases eb
        | dct _ _ => cases eb
        | tup _ _ => cases eb
/-- an if whose test is known in part -/
theorem if_cut {c : TT} {t u w : TS} {D : Ends} {σ : L2.St} {H : Hp} (R : Bool → Hp → Prop) (h : ∀ Q' : Bool → Hp → Prop, (∀ b H', R b H' → Q' b H') → c σ H Q')
    (k1 : ∀ H', R true H' → t { D with nx := w D } σ H') (k2 : ∀ H', R false H' → u { D with nx := w D } σ H') : tSeq (tIfS c t u) w D σ H := by
  refine h _ fun b H' r => ?_
  cases b with
  | true => exact iteT (k1 H' r)
  | false => exact iteF (k2 H' r)
/-- places that are no part of the draws' state -/
abbrev off (H : Hp) (m : Addr) : Addr → Prop := fun a => a ≠ m ∧ ¬ Lf H m a
theorem Rp.ef {K : PySem.W.Frag} {H H' : Hp} {m : Addr} {n : Nat} (M : MS H m n) (e : Ef m H H') {v : V} {d : Dt} (h : Rp K H (off H m) v d) : Rp K H' (off H' m) v d := by
  refine Rp.keep (e.tk M) (fun a o q z => e.keep a o z q.1 q.2) (fun a o z q => ⟨q.1, fun w => ?_⟩) d v h
  rcases e.new a w with r | r
  · exact q.2 r
  · rw [z] at r
    cases r
theorem noLf_same {B H : Hp} {m a : Addr} {n : Nat} (M : MS B m n) (s : Same B H) (q : ¬ Lf B m a) : ¬ Lf H m a := fun w => q (by
  obtain ⟨c, l, M0⟩ := M
  obtain ⟨kvs, k, h1, h2⟩ := w
  rw [s _ _ M0.dk] at h1
  cases h1
  exact ⟨_, k, M0.dk, h2⟩)
/-- from a base, behind steps that only lay new things, and draws -/
theorem RpAll.out {K : PySem.W.Frag} {B H H' : Hp} {m : Addr} {n n' : Nat} (MB : MS B m n) (s : Same B H) (M : MS H m n') (e : Ef m H H') {vs : List V} {ds : List Dt} (h : RpAll K H (off B m) vs ds) : RpAll K H' (off H' m) vs ds := by
  have noL : ∀ a, ¬ Lf B m a → ¬ Lf H m a := fun a q w => q (by
    obtain ⟨c, l, M0⟩ := MB
    obtain ⟨kvs, k, h1, h2⟩ := w
    rw [s _ _ M0.dk] at h1
    cases h1
    exact ⟨_, k, M0.dk, h2⟩)
  refine RpAll.keep (e.tk M) (fun a o q z => e.keep a o z q.1 (noL a q.2)) (fun a o z q => ⟨q.1, fun w => ?_⟩) ds vs h
  rcases e.new a w with r | r
  · exact noL a q.2 r
  · rw [z] at r
    cases r
theorem off_new {B H : Hp} {m p : Addr} {n : Nat} (M : MS B m n) (s : Same B H) (hp : H p = none) : off B m p := by
  have b := s.free hp
  refine ⟨fun z => ?_, M.notLf b⟩
  obtain ⟨c, l, M0⟩ := M
  rw [z, M0.dk] at b
  cases b
theorem pickR {K : PySem.W.Frag} {H : Hp} {ok : Addr → Prop} {vs : List V} {ds : List Dt} {r : Int} (h : RpAll K H ok vs ds) (h0 : 0 ≤ r) (h1 : r < (ds.length : Int)) :
    ∃ v d, atI vs r = some v ∧ d ∈ ds ∧ Rp K H ok v d ∧ vs[r.toNat]? = some v ∧ ds[r.toNat]? = some d := by
  have hl := h.len
  have hr : r.toNat < vs.length := by omega
  obtain ⟨d, hd, hR⟩ := h.get (List.getElem?_eq_getElem hr)
  exact ⟨_, d, at_of (j := r.toNat) (by omega) (List.getElem?_eq_getElem hr), List.mem_of_getElem? hd, hR, List.getElem?_eq_getElem hr, hd⟩
theorem Rp.ef' {K : PySem.W.Frag} {B H : Hp} {m : Addr} {n : Nat} {v : V} {d : Dt} (h : Rp K H (off B m) v d) (M : MS B m n) (s : Same B H) : Rp K H (off H m) v d :=
  Rp.keep TK.refl (fun _ _ _ q => q) (fun a o _ q => ⟨q.1, noLf_same M s q.2⟩) d v h
theorem Rp.keep2 {K : PySem.W.Frag} {B H H' : Hp} {m : Addr} {n : Nat} {v : V} {d : Dt} (h : Rp K H (off B m) v d) (M : MS B m n) (s : Same B H') (s2 : Same H H' := by assumption) : Rp K H' (off H' m) v d :=
  (h.same s2).ef' M s
end My

/-! {f for x in xs for y in ys}, whole numbers; len of such a set. -/
namespace L2
open PySem PySem.Spec PyProof.Rows
/-- a set comprehension of two clauses without tests -/
abbrev twoFor (f a0 b0 a1 b1 : Expr) (sc : Scope) (ps : Pos) : Expr := .SetComp f [⟨a0, b0, [], 0⟩, ⟨a1, b1, [], 0⟩] sc ps
def turnBy (p : Pos) (tgt : Expr) (en : Env) (src : Value) (rest : Sem Fin) : Sem Fin := do
  standAt p
  match ← pyNext src with
  | none => pure (.done .next)
  | some v => do
    letOwnedTupleGo tgt src v
    assign tgt en v
    rest
section
variable {P : Program} {w : World} {A : Around} {R : Result → Shared → Prop} {f a0 b0 a1 b1 : Expr} {sc : Scope} {ps : Pos} {src D : Value} {en : Env}
def inner (f a0 b0 a1 b1 : Expr) (sc : Scope) (ps : Pos) (src D : Value) (en : Env) : Sem Fin := do
  let x ← eval b1 en
  standAt b1.pos
  let x ← foldedSetIterable b1 en x
  let _ ← runOwn (.compStart (twoFor f a0 b0 a1 b1 sc ps) 1 (← holding [x] (pyIter x)) D en) en
  again (.compLoop (twoFor f a0 b0 a1 b1 sc ps) 0 src D en)
def added (f a0 b0 a1 b1 : Expr) (sc : Scope) (ps : Pos) (src D : Value) (en : Env) : Sem Fin := do
  (do let v ← eval f en; standAt f.pos; let _ ← call (.builtin "set.add") [D, v])
  again (.compLoop (twoFor f a0 b0 a1 b1 sc ps) 1 src D en)
theorem turn0_eq : compTurn (twoFor f a0 b0 a1 b1 sc ps) 0 src D en = turnBy b0.pos a0 en src (inner f a0 b0 a1 b1 sc ps src D en) := by rfl
theorem turn1_eq : compTurn (twoFor f a0 b0 a1 b1 sc ps) 1 src D en = turnBy b1.pos a1 en src (added f a0 b0 a1 b1 sc ps src D en) := by rfl
abbrev Hurt (P : Program) (w : World) (A : Around) (R : Result → Shared → Prop) (en : Env) : Value → Shared → Prop := notedBy (model P w) A en fun x s' => R (.error x) s'
abbrev Goes2 (R : Result → Shared → Prop) (c : Code) (J : Nat → Shared → Prop) (n : Nat) : Fin → Shared → Prop := fun fin s' => match fin with
  | .done z => R (.ok z) s'
  | .again c' => c' = c ∧ ∃ m, m < n ∧ J m s'
theorem loopBy {k : Nat} {p : Pos} {tgt : Expr} {rest : Sem Fin} {s : Shared} (e : compTurn (twoFor f a0 b0 a1 b1 sc ps) k src D en = turnBy p tgt en src rest) (J : Nat → Shared → Prop)
    (turn : ∀ n s, J n s → wpAny (model P w) A (pyNext src) (fun r s1 => match r with
      | none => R (.ok .next) s1
      | some v => wpAny (model P w) A (letOwnedTupleGo tgt src v) (fun _ s2 => wpAny (model P w) A (assign tgt en v) (fun _ s3 =>
          wpAny (model P w) A rest (Goes2 R (.compLoop (twoFor f a0 b0 a1 b1 sc ps) k src D en) J n) (Hurt P w A R en) s3) (Hurt P w A R en) s2) (Hurt P w A R en) s1) (Hurt P w A R en) s)
    (n : Nat) (h : J n s) : codeAny (model P w) A (.compLoop (twoFor f a0 b0 a1 b1 sc ps) k src D en) R s := by
  refine codeAny_loop rfl J (fun n s hJ => ?_) n h
  show wpAny _ A ((compTurn _ k src D en).onRaise _) _ _ s
  refine wpAny_noted ?_
  rw [e]
  unfold turnBy
  refine wpAny_bind (wpAny_standAt (wpAny_bind (wpAny_mono (turn n s hJ) (fun r s1 h1 => ?_) fun _ _ z => z)))
  cases r with
  | none => exact wpAny_pure h1
  | some v => exact wpAny_bind (wpAny_mono h1 (fun _ s2 h2 => wpAny_bind (wpAny_mono h2 (fun _ s3 h3 => h3) fun _ _ z => z)) fun _ _ z => z)
theorem inner_ok {n : Nat} {J : Nat → Shared → Prop} {s : Shared} (hs : ∀ x, foldedSetIterable b1 en x = pure x)
    (h : wpAny (model P w) A (eval b1 en) (fun x s1 => wpAny (model P w) A (pyIter x) (fun i1 s2 =>
      codeAny (model P w) A (.compStart (twoFor f a0 b0 a1 b1 sc ps) 1 i1 D en) (fun r s' => match r with
        | .ok _ => ∃ m, m < n ∧ J m s'
        | .error _ => False) s2) (Hurt P w A R en) s1) (Hurt P w A R en) s) :
    wpAny (model P w) A (inner f a0 b0 a1 b1 sc ps src D en) (Goes2 R (.compLoop (twoFor f a0 b0 a1 b1 sc ps) 0 src D en) J n) (Hurt P w A R en) s := by
  unfold inner
  refine wpAny_bind (wpAny_mono h (fun x s1 h1 => ?_) fun _ _ z => z)
  refine wpAny_bind (wpAny_standAt (wpAny_bind (wpAny_of_eq (hs x) ?_)))
  refine wpAny_bind (wpAny_holding (wpAny_mono h1 (fun i1 s2 h2 => ?_) fun _ _ z => z))
  refine wpAny_bind (wpAny_runOwn ?_)
  rw [Around.mark_none]
  refine codeAny_mono h2 fun r s' hr => ?_
  cases r with
  | ok z =>
    first
      | exact wpAny_pure ⟨rfl, hr⟩
      | exact wpAny_bind (wpAny_pure (wpAny_pure ⟨rfl, hr⟩))
  | error z => exact hr.elim
theorem added_ok {n : Nat} {J : Nat → Shared → Prop} {s : Shared}
    (h : wpAny (model P w) A (eval f en) (fun x s1 => wpAny (model P w) A (call (.builtin "set.add") [D, x]) (fun _ s2 => ∃ m, m < n ∧ J m s2) (Hurt P w A R en) s1) (Hurt P w A R en) s) :
    wpAny (model P w) A (added f a0 b0 a1 b1 sc ps src D en) (Goes2 R (.compLoop (twoFor f a0 b0 a1 b1 sc ps) 1 src D en) J n) (Hurt P w A R en) s := by
  unfold added
  refine wpAny_bind (wpAny_bind (wpAny_mono h (fun x s1 h1 => ?_) fun _ _ z => z))
  refine wpAny_bind (wpAny_standAt (wpAny_bind (wpAny_mono h1 (fun _ s2 h2 => ?_) fun _ _ z => z)))
  exact wpAny_pure (wpAny_pure ⟨rfl, h2⟩)
/-- where clause k starts -/
theorem started {k : Nat} {b : Expr} {s : Shared} (hk : (clausesOf (twoFor f a0 b0 a1 b1 sc ps))[k]? = some ⟨a0, b, [], 0⟩ ∨ (clausesOf (twoFor f a0 b0 a1 b1 sc ps))[k]? = some ⟨a1, b, [], 0⟩)
    (h0 : codeAny (model P w) A (.compLoop (twoFor f a0 b0 a1 b1 sc ps) k src D en) R s)
    (h : wpAny (model P w) A (pyIter src) (fun i s' => codeAny (model P w) A (.compLoop (twoFor f a0 b0 a1 b1 sc ps) k i D en) R s') (Hurt P w A R en) s) :
    codeAny (model P w) A (.compStart (twoFor f a0 b0 a1 b1 sc ps) k src D en) R s := by
  refine codeAny_of_tree ?_
  show wpAny _ _ ((compStart _ k src D en).onRaise _) _ _ s
  refine wpAny_notedAt ?_
  unfold compStart
  have hq : (((clausesOf (twoFor f a0 b0 a1 b1 sc ps))[k]?).elim false (·.is_async != 0)) = false := by
    rcases hk with z | z <;> rw [z] <;> rfl
  rw [hq]
  show wpAny _ _ (ask >>= _) _ _ s
  refine wpAny_bind (wpAny_askSetting (wpAny_ite ?_))
  split
  · first
      | exact wpAny_bind (wpAny_pure (wpAny_pure (And.intro rfl h0)))
      | exact wpAny_pure (And.intro rfl h0)
  · refine wpAny_bind (wpAny_rule ?_)
    rcases hk with z | z <;> rw [z]
    · exact wpAny_bind (wpAny_standAt (wpAny_bind (wpAny_mono h (fun i s' h' => wpAny_pure (And.intro rfl h')) fun _ _ x => x)))
    · exact wpAny_bind (wpAny_standAt (wpAny_bind (wpAny_mono h (fun i s' h' => wpAny_pure (And.intro rfl h')) fun _ _ x => x)))
end
end L2

/-! {f for x in xs for y in ys}: the rule. -/
namespace L2
open PySem PySem.Spec PyProof.Rows
def putI (w : World) (H : Hp) (D : Addr) (S : Int → Bool) (n : Nat) (c : Int) : Hp := upd H D (SetO w D (fun j => S j || decide (j = c)) (if S c = true then n else n + 1))
abbrev noneI (w : World) (H : Hp) (D : Addr) : Hp := upd H D (SetO w D (fun _ => false) 0)
/-- a walk: Wk is what holds ahead of each turn; stop, and step, which leads to the next -/
def Wlk (J : It) (St : Hp → Prop) (Go : (Hp → Prop) → V → Hp → Prop) (H0 : Hp) : Prop := ∃ Wk : Nat → Nat → Hp → Prop, (∃ m, Wk 0 m H0) ∧ ∀ i m H, Wk i m H →
  (J.stop i H ∧ St H) ∨ (J.go i H ∧ ∃ Nx : Hp → Prop, (∀ H', Nx H' → ∃ m', m' < m ∧ Wk (i + 1) m' H') ∧ ∀ x H', J.yld i H x H' → Go Nx x H')
def tSc2 (w : World) (wa : TI) (ga : TG) (wb : TI) (gb : TG) (tf : TE) (vs us : List Nat) : TE := fun σ H Q => wa σ H fun J H1 => ∀ D, H1 D = none →
  Wlk J (fun H => Q (.ref D) H) (fun Nx x H => ga x (wipe σ vs) H fun σ2 H2 => wipe σ2 vs = wipe σ vs ∧ wb σ2 H2 fun J1 H4 =>
    Wlk J1 Nx (fun Nx1 x1 H => gb x1 (wipe σ2 us) H fun σ3 H5 => wipe σ3 us = wipe σ2 us ∧ tf σ3 H5 fun y H7 =>
      ∃ (c : Int) (S : Int → Bool) (n : Nat), y = .int c ∧ H7 D = some (SetO w D S n) ∧ n + 1 < scanBound ∧ Nx1 (putI w H7 D S n c)) H4) (noneI w H1 D)
section
variable {X : Cx}
theorem addI_ok {pins : List (Addr × Obj)} {σ : St} {H : Hp} {s : Shared} {E : Value → Shared → Prop} {D : Addr} {S : Int → Bool} {n : Nat} {c : Int} {v : Value} {Q : Value → Shared → Prop} (I : Inv X pins σ H s) (hD : H D = some (SetO X.w D S n)) (hr : n + 1 < scanBound) (rv : RelV (.int c) v)
    (h : ∀ s', Inv X pins σ (putI X.w H D S n c) s' → Q .none s') : wpAny (model X.prog X.w) X.A (call (.builtin "set.add") [.ref D, v]) Q E s := by
  obtain ⟨tk, rfl⟩ := rv
  refine setR_add (setO_get I hD) hr fun g sb new => ?_
  have he : ∃ u, g.get? D = some u := let ⟨o, _, _, _, ho, _⟩ := new; ⟨o, ho⟩
  exact h _ (I.write (e := D) (t' := s.toks + 1) (by rw [hD]; trivial) (.inl rfl) (fun b u hb z => (sb.2 b hb).trans z) he (setO_new new))
variable {pins : List (Addr × Obj)} {s : Shared} {σ : St} {H : Hp} {Q : VK} {f ta sa tb sb : Expr} {sc : Scope} {own : List (Str × Nat)} {us : List Nat} {ps : Pos} {wa wb : TI} {ga gb : TG} {tf : TE}
/-- what is asked of a part within the block -/
abbrev InBlk (X : Cx) (sc : Scope) (p : Cx → Prop) : Prop := ∀ (s : Shared) (H : Hp) (C : Addr) (cl : List (Str × Addr)) (fp : List Addr), p (X.blk s H sc (compEnvC sc cl C X.env) fp)
theorem pe_sc2 (hc : X.calm = true) (hN : X.N.Nodup) (hi : PI X ta sa wa) (ok : BlkOk X.N X.env.scope sc own) (hv : ∀ i ∈ us, i ∈ own.map (·.2))
    (hga : InBlk X sc fun Y => PG Y ta ga) (hib : InBlk X sc fun Y => PI Y tb sb wb) (hgb : InBlk X sc fun Y => PG Y tb gb) (hf : InBlk X sc fun Y => PE Y f tf)
    (fa : ∀ x, foldedSetIterable sa X.env x = pure x := by intro _; rfl) (fb : ∀ en x, foldedSetIterable sb en x = pure x := by intro _ _; rfl) :
    PE X (twoFor f ta sa tb sb sc ps) (tSc2 X.w wa ga wb gb tf (own.map (·.2)) us) := by
  refine ⟨fun pins s σ H Q I h => ?_⟩
  rw [PpSet.eval_SetComp]
  have free : ∀ y ∈ sc.names, y.2 = .free → ∃ c, X.env.cells.lookup y.1 = some c := fun y hy e => (ok.free y hy e).elim (fun z => I.ok.has _ (.inl z)) (fun z => I.ok.has _ (.inr z))
  refine wpAny_comprehension_free (use := none) rfl fa (closure_ok free) ok.kind (fun y hy e => by rw [ok.uniq y hy, e]) ?_
  refine thn (hi.run pins s σ H _ I h) fun xv s1 hx => thn hx fun itv s2 h2 => ?_
  obtain ⟨it, fp, tn, J, H2, rfl, I2, T, st2, f2, q⟩ := h2
  refine PpSet.newSet_ok (newEnv_comp ?_)
  generalize hD : s2.heap.objs.size = D
  obtain ⟨Wk, ⟨m0, w0⟩, turn⟩ := q D (I2.hok.fresh (Nat.le_of_eq hD))
  -- the set is laid, then the block begins
  generalize es3 : ({ s2 with heap := s2.heap.push { cls := .type "set", dict := none, data := .set #[] 0 (.fresh 0 0 (!X.w.params.followText "set-order")) } } : Shared) = s3
  have old3 : ∀ b o, s2.heap.get? b = some o → s3.heap.get? b = some o := fun b o e => by rw [← es3]; exact Heap.get?_push_of_some _ e
  have I3 : Inv X pins σ (noneI X.w H2 D) s3 := by
    rw [← es3, ← hD]
    exact I2.laid (t' := s2.toks) (fun b o e => Heap.get?_push_of_some _ e) (Nat.le_refl _) (setO_new (setR_fresh X.w))
  have size3 : s3.heap.objs.size = s2.heap.objs.size + 1 := by rw [← es3]; exact Heap.size_push ..
  have f3 : ∀ b ∈ fp, FpOk X pins (noneI X.w H2 D) b ∧ b < s3.heap.objs.size := fun b hb => by
    obtain ⟨o, e, _⟩ := T.obj _ _ st2 b hb
    have lt := Heap.lt_size e
    refine ⟨⟨?_, (f2 b hb).2⟩, by rw [size3]; exact Nat.lt_succ_of_lt lt⟩
    show upd _ _ _ b = none
    rw [upd_ne (fun z => Nat.lt_irrefl _ (by rw [z, ← hD] at lt; exact lt))]
    exact (f2 b hb).1
  have I4 := block_start I3 ok hN f3
  generalize ecl : cellsFrom (s3.heap.objs.size + 1) sc.names (cloFrom X.env.cells sc.names []) = cl at I4
  have pga := hga s3 (noneI X.w H2 D) s3.heap.objs.size cl fp
  have pib := hib s3 (noneI X.w H2 D) s3.heap.objs.size cl fp
  have pgb := hgb s3 (noneI X.w H2 D) s3.heap.objs.size cl fp
  have pf := hf s3 (noneI X.w H2 D) s3.heap.objs.size cl fp
  generalize es4 : ({ s3 with heap := pushCells (s3.heap.push { cls := .type "dict", data := .dict #[] }) sc.names } : Shared) = s4 at I4
  have old4 : ∀ b o, s3.heap.get? b = some o → s4.heap.get? b = some o := fun b o e => by rw [← es4]; exact pushCells_keeps _ _ _ _ (Heap.get?_push_of_some _ e)
  have st4 : tn 0 s4.heap := T.keep _ _ _ st2 fun b _ o e => old4 b o (old3 b o e)
  have nfp : ∀ b ∈ fp, (noneI X.w H2 D) b = none := fun b hb => (f3 b hb).1.1
  show codeAny _ _ (.compStart (twoFor f ta sa tb sb sc ps) 0 (.ref it) (.ref D) (compEnvC sc cl s3.heap.objs.size X.env)) (compPost (model X.prog X.w) X.A X.xe none (EP X pins σ Q) (.ref D) s3.heap.objs.size) s4
  have cL : (compEnvC sc cl s3.heap.objs.size X.env).locals = s3.heap.objs.size := rfl
  generalize compEnvC sc cl s3.heap.objs.size X.env = ce at I4 pga pib pgb pf cL ⊢
  generalize noneI X.w H2 D = H3 at I3 I4 pga pib pgb pf w0 nfp f3
  generalize eY : X.blk s3 H3 sc ce fp = Y at I4 pga pib pgb pf
  have still : ∀ {σ' : St} {H' : Hp} {s' : Shared}, Inv Y [] σ' H' s' → (∀ b ∈ fp, H' b = none) → ∀ b ∈ fp, FpOk Y [] H' b := by
    subst eY
    exact fun {σ' H' s'} I' hn b hb => ⟨hn b hb, (I'.ok.exf b hb).1, I'.ok.exfs b hb, .inl hb, fun x c e => (I'.ok.exf b hb).2 x c e, fun p hp => absurd (show p ∈ ([] : List (Addr × Obj)) ++ [] from hp) (by simp)⟩
  have eP : Y.prog = X.prog := by rw [← eY]
  have eW : Y.w = X.w := by rw [← eY]
  have eK : Y.K = X.K := by rw [← eY]
  have eA : Y.A = X.A := by rw [← eY]
  have eE : Y.env = ce := by rw [← eY]
  have hcY : Y.calm = true := by rw [← eY]; exact hc
  have outer : codeAny (model X.prog X.w) X.A (.compLoop (twoFor f ta sa tb sb sc ps) 0 (.ref it) (.ref D) ce) (compPost (model X.prog X.w) X.A X.xe none (EP X pins σ Q) (.ref D) s3.heap.objs.size) s4 := by
    refine loopBy turn0_eq (fun n s' => ∃ i H', Inv Y [] (wipe σ (own.map (·.2))) H' s' ∧ tn i s'.heap ∧ (∀ b ∈ fp, H' b = none) ∧ Wk i n H') ?_ m0 ⟨0, H3, I4, st4, nfp, w0⟩
    rintro n s5 ⟨i, H5, I5, st5, n5, w5⟩
    rcases turn i n H5 w5 with ⟨stop, qq⟩ | ⟨go, Nx, hNx, step⟩
    · subst eY
      refine thnF (T.done (X.blk s3 H3 sc ce fp) rfl rfl rfl hc i [] s5 _ H5 (fun _ _ => False) I5 (still I5 n5) st5 stop) fun r s6 ⟨hr, I6⟩ => ?_
      subst hr
      have I7 : Inv X pins σ H5 s6 := I3.call' (ch := fp) I6.os I6.base I6.hok I6.bare fun b hb => ⟨(f3 b hb).1.2.2.2.1, (f3 b hb).1.2.1, (f3 b hb).1.2.2.2.2.1, (f3 b hb).1.2.2.2.2.2⟩
      have nC : H5 s3.heap.objs.size = none := by
        have z : H5 ce.locals = none := I6.free
        rwa [cL] at z
      obtain ⟨m, hn, _⟩ := I6.loc
      have hn : s6.heap.Ns ce.locals m := hn
      rw [cL] at hn
      obtain ⟨g0, g1, g2, g3, g4, g5⟩ := I3.fpOk (Nat.le_refl _) nC
      exact ⟨m, hn, fun h'' sb => ⟨.ref D, H5, I7.turned (t' := s6.toks) (fun b o hb e => (sb.2 b hb).trans e) g0 g1 g3 g4 g5, rfl, qq⟩⟩
    · subst eY
      refine thnF (T.item (X.blk s3 H3 sc ce fp) rfl rfl rfl hc i [] s5 _ H5 (fun _ _ => False) I5 (still I5 n5) st5 go) fun r s6 ⟨u, hr, h6⟩ => ?_
      subst hr
      refine thnF h6 fun _ s7 ⟨x, H7, I7, r7, y7, st7, n7⟩ => ?_
      have J7 := I7.pinned (still I7 n7) (T.obj _ _ st7)
      refine thnF (pga.run _ s7 _ H7 x u _ J7 r7 (step x H7 y7)) fun _ s8 ⟨σ8, H8, I8, hw8, q8⟩ => ?_
      have len8 : (wipe σ (own.map (·.2))).length = σ8.length := by rw [← hw8, wipe_length]
      have sub8 : ∀ (j : Nat) v, (wipe σ (own.map (·.2)))[j]? = some (some v) → (wipe σ8 us)[j]? = some (some v) := fun j v e => by
        rw [← hw8] at e
        have z := wipe_some e
        rw [wipe_out fun m => z.2 (hv j m)]
        exact z.1
      -- the turn's end
      have back : ∀ {s' : Shared} {H' : Hp}, Inv (X.blk s3 H3 sc ce fp) ([] ++ pinsAt fp s7.heap) (wipe σ8 us) H' s' → Nx H' →
          ∃ m, m < n ∧ ∃ i H', Inv (X.blk s3 H3 sc ce fp) [] (wipe σ (own.map (·.2))) H' s' ∧ tn i s'.heap ∧ (∀ b ∈ fp, H' b = none) ∧ Wk i m H' := fun {s' H'} I' nx => by
        obtain ⟨m', hm, w'⟩ := hNx H' nx
        have kept : ∀ b ∈ fp, ∀ o, s7.heap.get? b = some o → s'.heap.get? b = some o ∧ H' b = none := fun b hb o e => by
          have z := I'.pin (b, o) (List.mem_append_right _ (List.mem_append_right _ (mem_pinsAt hb e)))
          exact ⟨z.1, z.2.1⟩
        refine ⟨m', hm, i + 1, H', (I'.unpinned (pins := [])).weak (len8.trans (wipe_length σ8 us).symm) sub8, T.keep _ _ _ st7 fun b hb o e => (kept b hb o e).1, fun b hb => ?_, w'⟩
        obtain ⟨o, e, _⟩ := T.obj _ _ st7 b hb
        exact (kept b hb o e).2
      refine inner_ok (fb ce) ?_
      refine thnF (pib.run _ s8 σ8 H8 _ I8 q8) fun xv s10 hx => thnF hx fun itv s11 h11 => ?_
      obtain ⟨ib, fq, tm, Jb, H11, rfl, I11, T1, st11, f11, W1, ⟨m1, w1⟩, turn1⟩ := h11
      have still1 : ∀ {H' : Hp}, (∀ b ∈ fq, H' b = none) → ∀ b ∈ fq, FpOk (X.blk s3 H3 sc ce fp) ([] ++ pinsAt fp s7.heap) H' b := fun z b hb => ⟨z b hb, (f11 b hb).2⟩
      have within : codeAny (model X.prog X.w) X.A (.compLoop (twoFor f ta sa tb sb sc ps) 1 (.ref ib) (.ref D) ce) (fun r s' => match r with
          | .ok _ => ∃ m, m < n ∧ ∃ i H', Inv (X.blk s3 H3 sc ce fp) [] (wipe σ (own.map (·.2))) H' s' ∧ tn i s'.heap ∧ (∀ b ∈ fp, H' b = none) ∧ Wk i m H'
          | .error _ => False) s11 := by
        refine loopBy turn1_eq (fun k s' => ∃ j H', Inv (X.blk s3 H3 sc ce fp) ([] ++ pinsAt fp s7.heap) (wipe σ8 us) H' s' ∧ tm j s'.heap ∧ (∀ b ∈ fq, H' b = none) ∧ W1 j k H') ?_ m1
          ⟨0, H11, I11.weak (wipe_length _ _) (fun j v e => (wipe_some e).1), st11, fun b hb => (f11 b hb).1, w1⟩
        rintro k s12 ⟨j, H12, I12, st12, n12, w12⟩
        rcases turn1 j k H12 w12 with ⟨stop1, nx1⟩ | ⟨go1, Nx1, hNx1, step1⟩
        · refine thnF (T1.done (X.blk s3 H3 sc ce fp) rfl rfl rfl hc j _ s12 _ H12 (fun _ _ => False) I12 (still1 n12) st12 stop1) fun r s13 ⟨hr, I13⟩ => ?_
          subst hr
          exact back I13 nx1
        · refine thnF (T1.item (X.blk s3 H3 sc ce fp) rfl rfl rfl hc j _ s12 _ H12 (fun _ _ => False) I12 (still1 n12) st12 go1) fun r s13 ⟨u1, hr, h13⟩ => ?_
          subst hr
          refine thnF h13 fun _ s14 ⟨x1, H14, I14, r14, y14, st14, n14⟩ => ?_
          have J14 := I14.pinned (still1 n14) (T1.obj _ _ st14)
          refine thnF (pgb.run _ s14 _ H14 x1 u1 _ J14 r14 (step1 x1 H14 y14)) fun _ s15 ⟨σ15, H15, I15, hw15, q15⟩ => ?_
          refine added_ok (thnF (pf.run _ s15 σ15 H15 _ I15 q15) fun z s17 ⟨yv, H17, I17, r17, c, S, nn, ey, hD17, hz17, nx⟩ => ?_)
          subst ey
          refine addI_ok (X := X.blk s3 H3 sc ce fp) I17 hD17 hz17 r17 fun s18 I18 => ?_
          obtain ⟨m', hm, w'⟩ := hNx1 _ nx
          have kept : ∀ b ∈ fq, ∀ o, s14.heap.get? b = some o → s18.heap.get? b = some o ∧ (putI X.w H17 D S nn c) b = none := fun b hb o e => by
            have z := I18.pin (b, o) (List.mem_append_right _ (List.mem_append_right _ (mem_pinsAt hb e)))
            exact ⟨z.1, z.2.1⟩
          refine ⟨m', hm, j + 1, _, I18.unpinned.weak (by rw [← hw15, wipe_length]) (fun j v e => by rw [← hw15] at e; exact (wipe_some e).1), T1.keep _ _ _ st14 fun b hb o e => (kept b hb o e).1, fun b hb => ?_, w'⟩
          obtain ⟨o, e, _⟩ := T1.obj _ _ st14 b hb
          exact (kept b hb o e).2
      exact started (b := sb) (.inr rfl) within (T1.self X.A 0 _ _ _ st11 within)
  exact started (b := sa) (.inl rfl) outer (T.self X.A 0 _ _ _ st4 outer)
end
end L2

/-! Walks within a set comprehension; sets by the list of their members; len. -/
namespace L2
open PySem PySem.Spec PyProof.Rows
section
variable {K : PySem.W.Frag} {a : Addr} {xs : List V} {St : Hp → Prop} {Go : (Hp → Prop) → V → Hp → Prop} {H0 : Hp}
theorem wlk_tup (Pv : Nat → Hp → Prop) (h0 : Pv 0 H0) (hl : ∀ i H, i ≤ xs.length → Pv i H → SqT K H a xs) (hs : ∀ i x H, xs[i]? = some x → Pv i H → Go (Pv (i + 1)) x H) (hd : ∀ H, Pv xs.length H → St H) : Wlk (Itt K a) St Go H0 := by
  refine ⟨fun i m H => m = xs.length - i ∧ i ≤ xs.length ∧ Pv i H, ⟨_, rfl, Nat.zero_le _, h0⟩, ?_⟩
  rintro i m H ⟨rfl, hi, p⟩
  have q := hl i H hi p
  rcases Nat.lt_or_ge i xs.length with lt | ge
  · refine .inr ⟨⟨xs, xs[i], q, by simp [lt]⟩, Pv (i + 1), fun H' p' => ⟨_, by omega, rfl, lt, p'⟩, fun x H' y => ?_⟩
    obtain ⟨rfl, y⟩ := y
    exact hs i x _ (y xs q) p
  · obtain rfl : i = xs.length := Nat.le_antisymm hi ge
    exact .inl ⟨⟨xs, q, Nat.le_refl _⟩, hd H p⟩
theorem wlk_rng {lo : Int} {n : Nat} (Pv : Nat → Hp → Prop) (h0 : Pv 0 H0) (hs : ∀ i H, i < n → Pv i H → Go (Pv (i + 1)) (.int (lo + i)) H) (hd : ∀ H, Pv n H → St H) : Wlk (Itr lo n) St Go H0 := by
  refine ⟨fun i m H => m = n - i ∧ i ≤ n ∧ Pv i H, ⟨_, rfl, Nat.zero_le _, h0⟩, ?_⟩
  rintro i m H ⟨rfl, hi, p⟩
  rcases Nat.lt_or_ge i n with lt | ge
  · refine .inr ⟨lt, Pv (i + 1), fun H' p' => ⟨_, by omega, rfl, lt, p'⟩, fun x H' y => ?_⟩
    obtain ⟨rfl, rfl⟩ := y
    exact hs i _ lt p
  · obtain rfl : i = n := Nat.le_antisymm hi ge
    exact .inl ⟨Nat.le_refl _, hd H p⟩
end
/-! ### sets by the list of their members -/
def ins {α : Type} [DecidableEq α] (L : List α) (c : α) : List α := if c ∈ L then L else c :: L
def fset {α : Type} [DecidableEq α] (L : List α) : List α := L.foldl ins []
def memb (L : List Int) : Int → Bool := fun j => decide (j ∈ L)
abbrev SetL (w : World) (a : Addr) (L : List Int) : HO := SetO w a (memb L) L.length
theorem noneI_eq {w : World} {H : Hp} {D : Addr} : noneI w H D = upd H D (SetL w D []) := by
  have e : memb [] = fun _ => false := funext fun j => decide_eq_false (by simp)
  show _ = upd H D (SetO w D (memb []) 0)
  rw [e]
theorem putI_eq {w : World} {H : Hp} {D : Addr} {L : List Int} {c : Int} : putI w H D (memb L) L.length c = upd H D (SetL w D (ins L c)) := by
  have e : (fun j => memb L j || decide (j = c)) = memb (ins L c) := funext fun j => by
    show (decide (j ∈ L) || decide (j = c)) = decide (j ∈ ins L c)
    rw [← Bool.decide_or]
    refine decide_eq_decide.mpr ?_
    unfold ins
    by_cases h : c ∈ L
    · rw [if_pos h]
      exact ⟨fun z => z.elim id fun e => e ▸ h, .inl⟩
    · rw [if_neg h, List.mem_cons]
      exact Or.comm
  have n : (if memb L c = true then L.length else L.length + 1) = (ins L c).length := by
    unfold ins
    by_cases h : c ∈ L
    · rw [if_pos h, if_pos (show memb L c = true from decide_eq_true h)]
    · rw [if_neg h, if_neg (fun z : memb L c = true => h (of_decide_eq_true z))]
      rfl
  unfold putI
  rw [e, n]
theorem ins_le {α : Type} [DecidableEq α] {L : List α} {c : α} : (ins L c).length ≤ L.length + 1 := by
  unfold ins
  split
  · omega
  · exact Nat.le_refl _
def rLenSet (w : World) : List V → Hp → VK → Prop := fun xs H Q => ∃ (a : Addr) (S : Int → Bool) (n : Nat), xs = [.ref a] ∧ H a = some (SetO w a S n) ∧ Q (.int (n : Nat)) H
theorem k_lenSet {X : Cx} {w : World} (e : X.w = w := by rfl) : CallR X (.builtin "len") (rLenSet w) := by
  subst e
  intro pins s σ H xs us Q I r h
  obtain ⟨a, S, n, rfl, ha, q⟩ := h
  obtain ⟨u, rfl, rx⟩ := vals1 r
  obtain rfl : u = .ref a := rx
  obtain ⟨o, es, ep, t, ho, hex, hd, _, _, _, hb, hf, hn, _⟩ := setO_get I ha
  refine call_len_set ho hex hd hf (by unfold scanBound at hb; omega) ?_
  rw [hn]
  exact ⟨.int (n : Nat), H, I.tok _, ⟨_, rfl⟩, q⟩
end L2

/-! t[::-1], t a tuple. -/
namespace L2
open PySem PySem.Spec PyProof.Rows HT
section
variable {prog : Program} {w : World} {A : Around} {E : Value → Shared → Prop} {s : Shared}
theorem adjust_back (n : Nat) : Builtin.Slice.sliceAdjust none none (-1) (n : Int) = ((n : Int) - 1, -1) := by
  unfold Builtin.Slice.sliceAdjust
  rfl
theorem places_back (n : Nat) : Builtin.Slice.slicePlaces ((n : Int) - 1) (-1) (-1) = n := by
  unfold Builtin.Slice.slicePlaces
  have h1 : ¬ (-1 : Int) > 0 := by omega
  simp only [h1, if_false, Int.neg_neg, Int.ediv_one]
  split <;> omega
theorem applied_back {sl : Addr} {tk : Tok} {n : Nat} {Q : Int × Int × Nat → Shared → Prop} (hs : s.heap.IsSliceOf sl .none .none (.int (-1) tk)) (h : Q ((n : Int) - 1, -1, n) s) :
    wpAny (model prog w) A (Builtin.Slice.sliceApplied (.ref sl) (pure (n : Int))) Q E s := by
  obtain ⟨os, hos, hcs, hds⟩ := id hs
  unfold Builtin.Slice.sliceApplied Builtin.Slice.sliceFields
  refine wpAny_bind (wpAny_bind (wpAny_field hos hds (x := .none) rfl ?_))
  refine wpAny_bind (wpAny_field hos hds (x := .none) rfl ?_)
  refine wpAny_bind (wpAny_field hos hds (x := .int (-1) tk) rfl (wpAny_pure ?_))
  refine wpAny_bind (slicePart_ (.int (-1) tk) ?_)
  show wpAny _ _ (if ((-1 : Int) == 0) = true then _ else _) _ _ s
  rw [if_neg (by decide)]
  refine wpAny_bind (slicePart_ .none (wpAny_bind (slicePart_ .none ?_)))
  refine wpAny_bind (wpAny_pure ?_)
  show wpAny _ _ (match Builtin.Slice.sliceAdjust none none (-1) (n : Int) with | (lo, hi) => pure (lo, (-1 : Int), Builtin.Slice.slicePlaces lo hi (-1))) _ _ s
  rw [adjust_back]
  show wpAny _ _ (pure ((n : Int) - 1, (-1 : Int), Builtin.Slice.slicePlaces ((n : Int) - 1) (-1) (-1))) _ _ s
  rw [places_back]
  exact wpAny_pure h
theorem back_go {α : Type} (xs : Array α) : ∀ k, k ≤ xs.size → (List.range k).filterMap (fun (m : Nat) => xs[((xs.size : Int) - 1 + (m : Int) * -1).toNat]?) = xs.toList.reverse.take k
  | 0, _ => rfl
  | k + 1, h => by
    rw [List.range_succ, List.filterMap_append, back_go xs k (by omega), List.take_add_one]
    have e : ((xs.size : Int) - 1 + (k : Int) * -1).toNat = xs.size - 1 - k := by omega
    congr 1
    have l : k < xs.toList.reverse.length := by rw [List.length_reverse, Array.length_toList]; omega
    have g : xs.toList.reverse[k]? = xs[xs.size - 1 - k]? := by
      rw [List.getElem?_reverse (by rw [Array.length_toList]; omega), Array.getElem?_toList, Array.length_toList]
    rw [g]
    show (match xs[((xs.size : Int) - 1 + (k : Int) * -1).toNat]? with | none => [] | some b => [b]) = _
    rw [e]
    cases xs[xs.size - 1 - k]? <;> rfl
theorem back_all (xs : Array Value) : ((List.range xs.size).filterMap (fun (m : Nat) => xs[((xs.size : Int) - 1 + (m : Int) * -1).toNat]?)).toArray = xs.toList.reverse.toArray := by
  rw [back_go xs xs.size (Nat.le_refl _), List.take_of_length_le (by rw [List.length_reverse, Array.length_toList]; exact Nat.le_refl _)]
theorem getItem_back {t sl : Addr} {items : Array Value} {tk : Tok} {Q : Value → Shared → Prop} (ht : IsTup s.heap t items) (hs : s.heap.IsSliceOf sl .none .none (.int (-1) tk))
    (h : Q (.ref s.heap.objs.size) { s with heap := s.heap.push { cls := .type "tuple", data := .seq items.toList.reverse.toArray } }) (hsz : items.size ≤ sizeLine) : wpAny (model prog w) A (getItem (.ref t) (.ref sl)) Q E s := by
  have fits : sizeOk (.seq items.toList.reverse.toArray) := by
    show items.toList.reverse.toArray.size ≤ sizeLine
    rw [List.size_toArray, List.length_reverse, Array.length_toList]
    exact hsz
  obtain ⟨os, hos, hcs, hds⟩ := id hs
  have hTs : s.TypeIs (.ref sl) "slice" := ⟨os, hos, hcs⟩
  unfold getItem
  try with_reducible refine wpAny_holding ?_
  first
    | refine wpAny_bind (wpAny_pure ?_)
    | skip
  refine wpAny_bind (wpAny_sequenceKey ht.typeIs (by decide) ?_)
  have sg := PyProof.Rows.slot_tuple_getitem
  refine wpAny_bind (wpAny_callSpecial?_slot (name := Str.ofString "__getitem__") ht.typeIs sg (wpAny_call_entry sg ht.typeIs entry_tuple_getitem ?_ (args_tuple_getitem _ _)))
  show wpAny _ _ (Builtin.Tuple.tupleItemsOf (.ref t) >>= _) _ _ s
  refine wpAny_bind (tupleItemsOf_ ht (wpAny_bind (wpAny_typeOf hTs ?_)))
  rw [if_pos (by decide)]
  refine wpAny_bind (applied_back hs ?_)
  show wpAny _ _ (if ((((items.size : Int) - 1) == 0 && (-1 : Int) == 1 && items.size == items.size) = true) then _ else _) _ _ s
  rw [if_neg (by simp), back_all]
  first
    | exact wpAny_bind (m := Builtin.Tuple.tupleExact _) (wpAny_newObj_type (wpAny_pure ⟨_, rfl, wpAny_pure h⟩) fits)
    | exact wpAny_bind (m := Builtin.Tuple.tupleExact _) (wpAny_newObj_type (wpAny_bind (wpAny_pure (wpAny_pure ⟨_, rfl, wpAny_pure h⟩))) fits)
    | exact wpAny_bind (wpAny_bind (m := Builtin.Tuple.tupleExact _) (wpAny_newObj_type (wpAny_pure (wpAny_pure ⟨_, rfl, wpAny_pure h⟩)) fits))
    | exact wpAny_bind (wpAny_bind (m := Builtin.Tuple.tupleExact _) (wpAny_newObj_type (wpAny_pure ⟨_, rfl, wpAny_pure h⟩) fits))
end
theorem vals_rev : ∀ {xs : List V} {us : List Value}, Vals xs us → Vals xs.reverse us.reverse
  | _, _, .nil => .nil
  | _, _, .cons r t => by
    rw [List.reverse_cons, List.reverse_cons]
    exact (vals_rev t).append (.cons r .nil)
def tBack (K : PySem.W.Frag) (te ts : TE) : TE := fun σ H Q => te σ H fun x H1 => ts σ H1 fun y H2 => y = .int (-1) ∧ ∃ (a : Addr) (xs : List V), x = .ref a ∧ SqT K H2 a xs ∧ ∀ p, H2 p = none → Q (.ref p) (upd H2 p (.tup xs.reverse))
theorem pe_back {X : Cx} {K : PySem.W.Frag} {e st : Expr} {te ts : TE} {p2 pos : Pos} (he : PE X e te) (hst : PE X st ts) (ek : X.K = K := by rfl) : PE X (.Subscript e (.Slice none none (some st) p2) pos) (tBack K te ts) := by
  subst ek
  refine ⟨fun pins s σ H Q I h => ?_⟩
  refine Subscript_ (thn (he.run pins s σ H _ I h) fun v s1 ⟨x, H1, I1, r1, q1⟩ => ?_)
  refine wpAny_Slice ?_
  rw [evalPart_none, evalPart_some]
  refine wpAny_pure (wpAny_pure (thn (hst.run pins s1 σ H1 _ I1 q1) fun vs s3 ⟨y, H3, I3, ry, ey, a, xs, ex, hx, q⟩ => ?_))
  subst ey ex
  obtain ⟨tk, rfl⟩ := ry
  cases r1
  have I4 : Inv X pins σ H3 { s3 with heap := s3.heap.push { cls := .type "slice", data := .fields #[.none, .none, .int (-1) tk] } } := I3.kept (t' := s3.toks) fun b ob q => Heap.get?_push_of_some _ q
  obtain ⟨its, r, ht, hz⟩ := I4.tuple hx
  have hlen : its.toArray.size = xs.length := by rw [List.size_toArray]; exact r.length.symm
  show wpAny (model X.prog X.w) X.A (subscriptTail e (.Slice none none (some st) p2) (.ref a) (.ref s3.heap.objs.size)) (EP X pins σ Q) X.xe { s3 with heap := s3.heap.push { cls := .type "slice", data := .fields #[.none, .none, .int (-1) tk] } }
  refine tail_any (T := "tuple") (ops := [.ref a, .ref s3.heap.objs.size]) ht.typeIs PyProof.Rows.slot_tuple_getitem.lookup (getItem_back ht (Heap.IsSliceOf.new ..) ?_ (by rw [hlen]; exact hz)) (by with_unfolding_all rfl)
  refine ⟨.ref _, _, I4.laid (t' := s3.toks) (o := .tup xs.reverse) (fun b ob z => Heap.get?_push_of_some _ z) (Nat.le_refl _) ?_, rfl, q _ (I4.hok.fresh (Nat.le_refl _))⟩
  exact ⟨by rw [List.length_reverse]; exact hz, its.reverse, vals_rev r, IsTup.new _ _⟩
end L2

/-! zip of tuples, all and any named, three comparisons in a chain, tuples of data times ints, repr of truth values. -/
namespace L2
open PySem PySem.Spec PyProof.Rows
section
variable {X : Cx} {K : PySem.W.Frag}
theorem k_all (hc : X.calm = true) (ek : X.K = K := by rfl) : CallR X (.builtin "all") (rAll K) := by
  subst ek
  exact cr_all hc
theorem k_any (hc : X.calm = true) (ek : X.K = K := by rfl) : CallR X (.builtin "any") (rAny K) := by
  subst ek
  exact cr_any hc
theorem k_piZA {e e2 : Expr} {ta : TA} {p pos tpos : Pos} {elts : List Expr} {kk : Nat} (hg : Gl X "zip") (hm : X.mg "zip" = none) (ha : PA X [e, e2] ta)
    (hs : starEach [e, e2] X.env = (false, eval e X.env) :: starEach [e2] X.env := by rfl)
    (hpl : (backTo pos (starEach [e2] X.env)).any (·.1) = false := by rfl) (ek : X.K = K := by rfl) :
    PI X (.Tuple elts kk tpos) (.Call (.Name "zip" p) [e, e2] [] pos) (RZ.iZipA K ta) := by
  subst ek
  exact RZ.pi_zipA hg hm ha hs hpl
end
theorem walk_zipT {K : PySem.W.Frag} {a b : Addr} {xs ys : List V} (hn : xs.length = ys.length) :
    Walk (RZ.ItzT K a b) xs.length (fun H => SqT K H a xs ∧ SqT K H b ys) (YPair (fun i => xs[i]?) (fun i => ys[i]?)) where
  goes := fun i _ hi q => ⟨xs, ys, xs[i], ys[i]'(by omega), q.1, q.2, by simp [hi], by simp [show i < ys.length by omega]⟩
  stops := fun _ q => ⟨xs, ys, q.1, q.2, .inl (Nat.le_refl _)⟩
  yields := fun i H v H' _ q y => by
    obtain ⟨T, x, z, e1, e2, e3, e4, e5⟩ := y
    exact ⟨T, x, z, e1, e2, e3, e4 xs q.1, e5 ys q.2⟩
/-! ### a < b < c < d as a test -/
def tChain3 (r r' r2 : R2) (ta tb tc td : TE) : TE := fun σ H Q => ta σ H fun x H1 => tb σ H1 fun y H2 => r x y H2 fun z H3 => ∃ k, z = .bl k ∧
  (if k = true then tc σ H3 fun y2 H4 => r' y y2 H4 fun z2 H5 => ∃ k2, z2 = .bl k2 ∧ (if k2 = true then td σ H5 fun y3 H6 => r2 y2 y3 H6 Q else Q (.bl false) H5) else Q (.bl false) H3)
theorem pt_chain3 {X : Cx} {a b c d : Expr} {ta tb tc td : TE} {pos : Pos} {o1 o2 o3 : CmpOp} {r r' r2 : R2} (h1 : OpR X (compareOp o1) r) (h2 : OpR X (compareOp o2) r') (h3 : OpR X (compareOp o3) r2)
    (ha : PE X a ta) (hb : PE X b tb) (hc : PE X c tc) (hd : PE X d td) (hm : lastMarks [o1, o2, o3] [b, c, d] = false := by with_unfolding_all rfl) :
    PT X (.Compare a [o1, o2, o3] [b, c, d] pos) (tTest (tChain3 r r' r2 ta tb tc td)) := by
  refine ⟨fun pins s σ H Q I h => ?_⟩
  refine isTrue_chain (thn (ha.run pins s σ H _ I h) fun v1 s1 ⟨x, H1, I1, r1, q1⟩ => ?_) hm
  refine test_link (thn (hb.run pins s1 σ H1 _ I1 q1) fun v2 s2 ⟨y, H2, I2, r2', q2⟩ => ?_)
  refine thn (h1 pins s2 σ H2 x y v1 v2 _ I2 r1 r2' q2) fun b1 s3 ⟨z, H3, I3, r3, k, ez, q3⟩ => ?_
  subst ez
  cases r3
  refine wpAny_truthy_bool ?_
  cases k with
  | false =>
    obtain ⟨_, e0, q0⟩ := q3
    cases e0
    exact ite_ff ⟨H3, I3, q0⟩
  | true =>
    refine ite_tt (test_link (thn (hc.run pins s3 σ H3 _ I3 q3) fun v4 s4 ⟨y2, H4, I4, r4, q4⟩ => ?_))
    refine thn (h2 pins s4 σ H4 y y2 v2 v4 _ I4 r2' r4 q4) fun b2 s5 ⟨z2, H5, I5, r5, k2, ez2, q5⟩ => ?_
    subst ez2
    cases r5
    refine wpAny_truthy_bool ?_
    cases k2 with
    | false =>
      obtain ⟨_, e0, q0⟩ := q5
      cases e0
      exact ite_ff ⟨H5, I5, q0⟩
    | true =>
      refine ite_tt (test_last (thn (hd.run pins s5 σ H5 _ I5 q5) fun v6 s6 ⟨y3, H6, I6, r6, q6⟩ => ?_))
      refine thn (h3 pins s6 σ H6 y2 y3 v4 v6 _ I6 r4 r6 q6) fun b3 s7 ⟨z3, H7, I7, r7, k3, ez3, q7⟩ => ?_
      subst ez3
      cases r7
      exact wpAny_truthy_bool ⟨H7, I7, q7⟩
/-! ### repr of a truth value -/
def rReprB : List V → Hp → VK → Prop := fun xs H Q => ∃ b, xs = [.bl b] ∧ Q (.str (if b then "True" else "False" : String)) H
theorem k_reprB {X : Cx} : CallR X (.builtin "repr") rReprB := by
  intro pins s σ H xs us Q I r h
  obtain ⟨b, rfl, q⟩ := h
  obtain ⟨u, rfl, ru⟩ := vals1 r
  cases ru
  refine PySem.P.repr_of_bool ?_
  cases b
  · exact ⟨.str _, H, I.tok _, ⟨_, rfl⟩, q⟩
  · exact ⟨.str _, H, I.tok _, ⟨_, rfl⟩, q⟩
end L2
namespace My
open PySem PySem.Spec PyProof.Rows L2
/-- a tuple of data, times an int -/
theorem rd_repD {K : PySem.W.Frag} {H : Hp} {v : V} {ds : List PyData} {n : Int} {Q : VK} (h : Dp K H v (.tuple ds)) (hz : ds.length ≤ 1000) (h0 : -1000 ≤ n) (h1 : n ≤ 1000)
    (k : ∀ w H', Same H H' → Dp K H' w (.tuple (List.replicate n.toNat ds).flatten) → Q w H') : rRepA K v (.int n) H Q := by
  obtain ⟨a, xs, rfl, hT, hX⟩ := h.tuple
  have hl := hX.len
  have go : ∀ m : Nat, DpAll K H (List.replicate m xs).flatten (List.replicate m ds).flatten := fun m => by
    induction m with
    | zero => exact .nil
    | succ m ih =>
      rw [List.replicate_succ, List.replicate_succ, List.flatten_cons, List.flatten_cons]
      exact hX.app ih
  refine ⟨a, n, xs, rfl, rfl, hT, h0, h1, by omega, fun w => ?_, fun _ p hp => ?_⟩
  · refine k _ H (Same.refl H) (.tup hT ?_)
    rcases w with w | w
    · subst w
      cases hX
      have e : (List.replicate n.toNat ([] : List PyData)).flatten = [] := by simp
      rw [e]
      exact .nil
    · subst w
      have e : (List.replicate (1 : Int).toNat ds).flatten = ds := by
        show (List.replicate 1 ds).flatten = ds
        simp
      rw [e]
      exact hX
  · exact k _ _ (same_upd hp _) (.tup (SqT.of upd_same) (DpAll.same (same_upd hp _) _ _ (go _)))
end My

/-! Lengths, their least common multiple, places; when loops meet. -/
namespace My
open PySem PySem.Spec PyProof.Rows L2
def NN (ns : List Nat) : List Int := ns.map fun n : Nat => (n : Int)
def lcmN (ns : List Nat) : Nat := ns.foldl Nat.lcm 1
theorem lcm_go : ∀ (ns : List Nat) (a : Nat), a ∣ ns.foldl Nat.lcm a ∧ ∀ n ∈ ns, n ∣ ns.foldl Nat.lcm a
  | [], a => ⟨Nat.dvd_refl a, by intro n hn; cases hn⟩
  | b :: r, a => by
    obtain ⟨h1, h2⟩ := lcm_go r (Nat.lcm a b)
    refine ⟨Nat.dvd_trans (Nat.dvd_lcm_left a b) h1, fun n hn => ?_⟩
    rcases List.mem_cons.mp hn with q | q
    · rw [q]
      exact Nat.dvd_trans (Nat.dvd_lcm_right a b) h1
    · exact h2 n q
theorem lcm_least : ∀ (ns : List Nat) (a m : Nat), a ∣ m → (∀ n ∈ ns, n ∣ m) → ns.foldl Nat.lcm a ∣ m
  | [], a, m, h, _ => h
  | b :: r, a, m, h, g => lcm_least r (Nat.lcm a b) m (Nat.lcm_dvd h (g b List.mem_cons_self)) fun n hn => g n (List.mem_cons_of_mem _ hn)
theorem dvd_lcmN {ns : List Nat} {n : Nat} (h : n ∈ ns) : n ∣ lcmN ns := (lcm_go ns 1).2 n h
theorem lcmN_dvd {ns : List Nat} {m : Nat} (h : ∀ n ∈ ns, n ∣ m) : lcmN ns ∣ m := lcm_least ns 1 m (Nat.one_dvd m) h
theorem lcmN_take {ns : List Nat} {i n : Nat} (h : ns[i]? = some n) : lcmN (ns.take (i + 1)) = Nat.lcm (lcmN (ns.take i)) n := by
  rw [take_more h]
  unfold lcmN
  rw [List.foldl_append]
  rfl
theorem lcm_pos_go : ∀ (ns : List Nat) (a : Nat), 0 < a → (∀ n ∈ ns, 1 ≤ n) → 0 < ns.foldl Nat.lcm a
  | [], a, h, _ => h
  | b :: r, a, h, g => lcm_pos_go r (Nat.lcm a b) (Nat.lcm_pos h (g b List.mem_cons_self)) fun n hn => g n (List.mem_cons_of_mem _ hn)
theorem lcmN_pos {ns : List Nat} (h : ∀ n ∈ ns, 1 ≤ n) : 0 < lcmN ns := lcm_pos_go ns 1 (Nat.succ_pos 0) h
theorem lcm_le_go (b : Nat) (hb : 1 ≤ b) : ∀ (ns : List Nat) (a : Nat), (∀ n ∈ ns, n ≤ b) → ns.foldl Nat.lcm a ≤ a * b ^ ns.length
  | [], a, _ => by simp
  | c :: r, a, h => by
    have ih := lcm_le_go b hb r (Nat.lcm a c) fun n hn => h n (List.mem_cons_of_mem _ hn)
    have h1 : Nat.lcm a c ≤ a * b := by
      rcases Nat.eq_zero_or_pos a with e | e
      · rw [e, Nat.lcm_zero_left]
        exact Nat.zero_le _
      · rcases Nat.eq_zero_or_pos c with f | f
        · rw [f, Nat.lcm_zero_right]
          exact Nat.zero_le _
        · exact Nat.le_trans (Nat.le_of_dvd (Nat.mul_pos e f) (Nat.lcm_dvd (Nat.dvd_mul_right a c) (Nat.dvd_mul_left c a))) (Nat.mul_le_mul_left a (h c List.mem_cons_self))
    refine Nat.le_trans ih ?_
    rw [List.length_cons, Nat.pow_succ, Nat.mul_comm (b ^ r.length) b, ← Nat.mul_assoc]
    exact Nat.mul_le_mul_right _ h1
theorem lcmN_le {ns : List Nat} {b : Nat} (hb : 1 ≤ b) (h : ∀ n ∈ ns, n ≤ b) : lcmN ns ≤ b ^ ns.length := by
  have q := lcm_le_go b hb ns 1 h
  rw [Nat.one_mul] at q
  exact q
/-! ### two rests together -/
theorem bez (a b : Nat) : ∃ x y : Int, ((Nat.gcd a b : Nat) : Int) = a * x + b * y := by
  induction a, b using Nat.gcd.induction with
  | H0 b => exact ⟨0, 1, by simp⟩
  | H1 a b ha ih =>
    obtain ⟨x, y, e⟩ := ih
    refine ⟨y - ((b / a : Nat) : Int) * x, x, ?_⟩
    rw [Nat.gcd_rec, e]
    have q : ((b % a : Nat) : Int) = (b : Int) - (a : Int) * ((b / a : Nat) : Int) := by
      have := Nat.mod_add_div b a
      have q2 : ((b % a + a * (b / a) : Nat) : Int) = (b : Int) := by rw [this]
      rw [Int.natCast_add, Int.natCast_mul] at q2
      omega
    rw [q, Int.sub_mul, Int.mul_sub, Int.mul_assoc]
    omega
theorem crt2 {R L : Nat} {x q : Int} (h : ((Nat.gcd R L : Nat) : Int) ∣ q - x) : ∃ Y : Int, (R : Int) ∣ Y - x ∧ (L : Int) ∣ Y - q := by
  obtain ⟨c, hc⟩ := h
  obtain ⟨a, b, e⟩ := bez R L
  refine ⟨x + R * (a * c), ⟨a * c, by omega⟩, ⟨-(b * c), ?_⟩⟩
  have e2 : q - x = R * (a * c) + L * (b * c) := by
    rw [hc, e, Int.add_mul, Int.mul_assoc, Int.mul_assoc]
  rw [Int.mul_neg]
  omega
theorem gcd_lcm_dvd {a b L m : Nat} (h1 : Nat.gcd a L ∣ m) (h2 : Nat.gcd b L ∣ m) : Nat.gcd (Nat.lcm a b) L ∣ m := by
  have key : ∀ d : Nat, d ∣ Nat.lcm a b → d ∣ Nat.lcm (Nat.gcd a d) (Nat.gcd b d) := by
    intro d hd
    rcases Nat.eq_zero_or_pos d with e | dp
    · subst e
      rw [Nat.gcd_zero_right, Nat.gcd_zero_right]
      exact hd
    have gp : 0 < Nat.gcd (Nat.gcd a d) (Nat.gcd b d) := Nat.gcd_pos_of_pos_left _ (Nat.gcd_pos_of_pos_right _ dp)
    have N : d * Nat.gcd (Nat.gcd a d) (Nat.gcd b d) ∣ Nat.gcd a d * Nat.gcd b d := by
      have ga : Nat.gcd (Nat.gcd a d) (Nat.gcd b d) ∣ a := Nat.dvd_trans (Nat.gcd_dvd_left _ _) (Nat.gcd_dvd_left _ _)
      have gb : Nat.gcd (Nat.gcd a d) (Nat.gcd b d) ∣ b := Nat.dvd_trans (Nat.gcd_dvd_right _ _) (Nat.gcd_dvd_left _ _)
      have gd : Nat.gcd (Nat.gcd a d) (Nat.gcd b d) ∣ d := Nat.dvd_trans (Nat.gcd_dvd_left _ _) (Nat.gcd_dvd_right _ _)
      have nab : d * Nat.gcd (Nat.gcd a d) (Nat.gcd b d) ∣ a * b := by
        have q : d * Nat.gcd (Nat.gcd a d) (Nat.gcd b d) ∣ Nat.lcm a b * Nat.gcd a b := Nat.mul_dvd_mul hd (Nat.dvd_gcd ga gb)
        rw [Nat.mul_comm (Nat.lcm a b), Nat.gcd_mul_lcm] at q
        exact q
      have nad : d * Nat.gcd (Nat.gcd a d) (Nat.gcd b d) ∣ a * d := by
        rw [Nat.mul_comm a d]
        exact Nat.mul_dvd_mul_left d ga
      have ndb : d * Nat.gcd (Nat.gcd a d) (Nat.gcd b d) ∣ d * b := Nat.mul_dvd_mul_left d gb
      have ndd : d * Nat.gcd (Nat.gcd a d) (Nat.gcd b d) ∣ d * d := Nat.mul_dvd_mul_left d gd
      have q1 : d * Nat.gcd (Nat.gcd a d) (Nat.gcd b d) ∣ a * Nat.gcd b d := by
        rw [← Nat.gcd_mul_left a b d]
        exact Nat.dvd_gcd nab nad
      have q2 : d * Nat.gcd (Nat.gcd a d) (Nat.gcd b d) ∣ d * Nat.gcd b d := by
        rw [← Nat.gcd_mul_left d b d]
        exact Nat.dvd_gcd ndb ndd
      have q3 := Nat.dvd_gcd q1 q2
      rw [Nat.gcd_mul_right] at q3
      exact q3
    rw [← Nat.gcd_mul_lcm (Nat.gcd a d) (Nat.gcd b d), Nat.mul_comm d] at N
    exact Nat.dvd_of_mul_dvd_mul_left gp N
  have k := key _ (Nat.gcd_dvd_left (Nat.lcm a b) L)
  have dL : Nat.gcd (Nat.lcm a b) L ∣ L := Nat.gcd_dvd_right _ _
  refine Nat.dvd_trans k (Nat.lcm_dvd (Nat.dvd_trans ?_ h1) (Nat.dvd_trans ?_ h2))
  · exact Nat.dvd_gcd (Nat.gcd_dvd_left _ _) (Nat.dvd_trans (Nat.gcd_dvd_right _ _) dL)
  · exact Nat.dvd_gcd (Nat.gcd_dvd_left _ _) (Nat.dvd_trans (Nat.gcd_dvd_right _ _) dL)
theorem gcd_lcms {L m : Nat} : ∀ (ns : List Nat) (a : Nat), Nat.gcd a L ∣ m → (∀ n ∈ ns, Nat.gcd n L ∣ m) → Nat.gcd (ns.foldl Nat.lcm a) L ∣ m
  | [], a, h, _ => h
  | b :: r, a, h, g => gcd_lcms r (Nat.lcm a b) (gcd_lcm_dvd h (g b List.mem_cons_self)) fun n hn => g n (List.mem_cons_of_mem _ hn)
theorem emod_eq_dvd {n x y : Int} : x % n = y % n ↔ n ∣ x - y := by
  rw [Int.emod_eq_emod_iff_emod_sub_eq_zero]
  exact ⟨Int.dvd_of_emod_eq_zero, Int.emod_eq_zero_of_dvd⟩
/-- places that by pairs can meet are those of some tick -/
theorem crt_all {ns : List Nat} {ps : List Int} (hl : ps.length = ns.length) (hp : ∀ (i n : Nat) (p : Int), ns[i]? = some n → ps[i]? = some p → 0 ≤ p ∧ p < (n : Int))
    (h : ∀ (i j a b : Nat) (p q : Int), i < j → ns[i]? = some a → ns[j]? = some b → ps[i]? = some p → ps[j]? = some q → ((Nat.gcd a b : Nat) : Int) ∣ p - q) :
    ∃ X : Int, ∀ (i n : Nat) (p : Int), ns[i]? = some n → ps[i]? = some p → X % (n : Int) = p := by
  have go : ∀ m : Nat, ∃ X : Int, ∀ (i n : Nat) (p : Int), i < m → ns[i]? = some n → ps[i]? = some p → X % (n : Int) = p := fun m => by
    induction m with
    | zero => exact ⟨0, fun i n p hi => absurd hi (Nat.not_lt_zero i)⟩
    | succ m ih =>
      obtain ⟨X, hX⟩ := ih
      cases en : ns[m]? with
      | none =>
        refine ⟨X, fun i n p hi e1 e2 => ?_⟩
        by_cases im : i < m
        · exact hX i n p im e1 e2
        · have : i = m := by omega
          subst this
          rw [en] at e1
          cases e1
      | some L =>
        have hm : m < ns.length := (List.getElem?_eq_some_iff.mp en).1
        have eq : ps[m]? = some (ps[m]'(by omega)) := List.getElem?_eq_getElem (by omega)
        have hd : ((Nat.gcd (lcmN (ns.take m)) L : Nat) : Int) ∣ ps[m]'(by omega) - X := by
          rw [Int.ofNat_dvd_left]
          refine gcd_lcms (ns.take m) 1 (by rw [Nat.gcd_one_left]; exact Nat.one_dvd _) fun n hn => ?_
          rw [← Int.ofNat_dvd_left]
          obtain ⟨i, hi⟩ := List.mem_iff_getElem?.mp hn
          have im : i < m := by
            have := (List.getElem?_eq_some_iff.mp hi).1
            rw [List.length_take] at this
            omega
          rw [List.getElem?_take_of_lt im] at hi
          have ep : ps[i]? = some (ps[i]'(by omega)) := List.getElem?_eq_getElem (by omega)
          have a1 := h i m n L _ _ im hi en ep eq
          have a2 : (n : Int) ∣ X - ps[i]'(by omega) := by
            have b1 := hX i n _ im hi ep
            obtain ⟨c1, c2⟩ := hp i n _ hi ep
            rw [← emod_eq_dvd, b1, Int.emod_eq_of_lt c1 c2]
          have a3 : ((Nat.gcd n L : Nat) : Int) ∣ X - ps[i]'(by omega) := Int.dvd_trans (Int.natCast_dvd_natCast.mpr (Nat.gcd_dvd_left n L)) a2
          have a4 := Int.dvd_add a1 a3
          have e : ps[i]'(by omega) - ps[m]'(by omega) + (X - ps[i]'(by omega)) = -(ps[m]'(by omega) - X) := by omega
          rw [e] at a4
          exact Int.dvd_neg.mp a4
        obtain ⟨Y, y1, y2⟩ := crt2 hd
        refine ⟨Y, fun i n p hi e1 e2 => ?_⟩
        by_cases im : i < m
        · rw [← hX i n p im e1 e2, emod_eq_dvd]
          refine Int.dvd_trans (Int.natCast_dvd_natCast.mpr (dvd_lcmN ?_)) y1
          exact List.mem_of_getElem? (i := i) (by rw [List.getElem?_take_of_lt im]; exact e1)
        · have : i = m := by omega
          subst this
          rw [en] at e1
          rw [eq] at e2
          cases e1
          cases e2
          obtain ⟨c1, c2⟩ := hp i L _ en eq
          have := emod_eq_dvd.mpr y2
          rw [this, Int.emod_eq_of_lt c1 c2]
  obtain ⟨X, hX⟩ := go ns.length
  exact ⟨X, fun i n p e1 e2 => hX i n p (List.getElem?_eq_some_iff.mp e1).1 e1 e2⟩
/-- the places of a tick -/
def plc (ns : List Nat) (t : Int) : List Int := ns.map fun n : Nat => t % (n : Int)
theorem plc_of {ns : List Nat} {ps : List Int} {X : Int} (hl : ps.length = ns.length) (h : ∀ (i n : Nat) (p : Int), ns[i]? = some n → ps[i]? = some p → X % (n : Int) = p) : ps = plc ns X := by
  refine List.ext_getElem? fun i => ?_
  unfold plc
  rw [List.getElem?_map]
  by_cases hi : i < ns.length
  · have e1 : ns[i]? = some ns[i] := List.getElem?_eq_getElem hi
    have e2 : ps[i]? = some (ps[i]'(by omega)) := List.getElem?_eq_getElem (by omega)
    rw [e1, e2, ← h i _ _ e1 e2]
    rfl
  · rw [List.getElem?_eq_none (by omega), List.getElem?_eq_none (show ns.length ≤ i by omega)]
    rfl
theorem plc_mod {ns : List Nat} {t u : Int} : plc ns t = plc ns u ↔ ((lcmN ns : Nat) : Int) ∣ t - u := by
  constructor
  · intro h
    rw [Int.ofNat_dvd_left]
    refine lcmN_dvd fun n hn => ?_
    rw [← Int.ofNat_dvd_left, ← emod_eq_dvd]
    exact List.map_inj_left.mp h n hn
  · intro h
    refine List.map_congr_left fun n hn => ?_
    rw [emod_eq_dvd]
    exact Int.dvd_trans (Int.natCast_dvd_natCast.mpr (dvd_lcmN hn)) h
theorem plc_lcm (ns : List Nat) (t : Int) : plc ns (t % (lcmN ns : Nat)) = plc ns t := by
  rw [plc_mod, ← emod_eq_dvd, Int.emod_emod]
theorem plc_one {ns : List Nat} {t u : Int} (h : plc ns t = plc ns u) (t0 : 0 ≤ t) (t1 : t < (lcmN ns : Nat)) (u0 : 0 ≤ u) (u1 : u < (lcmN ns : Nat)) : t = u := by
  have q := emod_eq_dvd.mpr (plc_mod.mp h)
  rw [Int.emod_eq_of_lt t0 t1, Int.emod_eq_of_lt u0 u1] at q
  exact q
end My

/-! Great tuples times ints; what settles what is heard of loops; periods. -/
namespace L2
open PySem PySem.Spec PyProof.Rows
/-- t * k, k from 1 on, not more than a million things -/
def rRepW (K : PySem.W.Frag) : R2 := fun x y H Q => ∃ l k xs, x = .ref l ∧ y = .int k ∧ SqT K H l xs ∧ 1 ≤ xs.length ∧ 1 ≤ k ∧ k.toNat * xs.length ≤ 1000000 ∧
  (k = 1 → Q (.ref l) H) ∧ (k ≠ 1 → ∀ p, H p = none → Q (.ref p) (upd H p (.tup (List.replicate k.toNat xs).flatten)))
theorem op_repW {X : Cx} {K : PySem.W.Frag} (ek : X.K = K := by rfl) : OpR X (binaryOp .Mult) (rRepW K) := by
  subst ek
  intro pins s σ H x y v u Q I rx ry h
  obtain ⟨l, k, xs, rfl, rfl, hT, x1, k1, km, q0, q1⟩ := h
  cases rx
  obtain ⟨t, rfl⟩ := ry
  obtain ⟨its, r, ⟨⟨cls, dd, data, sl⟩, ho, hc, n, hd⟩, hs⟩ := I.tuple hT
  simp only at hc hd
  subst hc hd
  have lx : its.length = xs.length := r.length.symm
  have kk : k ≤ 1000000 := by
    have := Nat.mul_le_mul_left k.toNat x1
    omega
  have c0 : (decide (k < -(2 ^ 63)) || decide (k ≥ 2 ^ 63)) = false := by
    rw [decide_eq_false (by omega), decide_eq_false (by omega)]
    rfl
  have e1 : its.toArray.isEmpty = false := by
    cases its with
    | nil =>
      rw [← lx] at x1
      exact absurd x1 (by decide)
    | cons _ _ => rfl
  by_cases e : k = 1
  · refine wpAny_binaryOp_repeat_ref (U := "int") (T := "tuple") (by decide) ⟨_, ho, rfl⟩ (fun s2 => typeIs_int s2 k t) noFill_tuple_mul F.fills_int_mul F.slot_int_rmul repeat_tuple F.slot_int_index.lookup
      (call_meets F.slot_int_rmul (typeIs_int s k t) F.entry_int_rmul (F.args_int_rmul_2 _ _) (int_rmul_tuple k t l its.toArray n dd sl) ⟨ho, rfl, ⟨_, ho, rfl⟩, ?_⟩)
    refine call_meets F.slot_tuple_mul ⟨_, ho, rfl⟩ F.entry_tuple_mul (F.args_tuple_mul_2 _ _) (my_mul_same l its.toArray n dd sl k t c0 ?_) ⟨ho, .ref l, H, I, rfl, q0 e⟩
    rw [e1, e]
    rfl
  · have sz : its.toArray.size = xs.length := by rw [List.size_toArray, lx]
    have nn : ((its.toArray.size : Nat) : Int) * k ≤ 1000000 := by
      rw [sz]
      have f : ((k.toNat * xs.length : Nat) : Int) ≤ 1000000 := by omega
      rw [Int.natCast_mul, Int.toNat_of_nonneg (by omega), Int.mul_comm] at f
      exact f
    have long : (List.replicate k.toNat its).flatten.length ≤ sizeLine := by
      rw [PyProof.Rows.lm_len_rep_flat, lx, sizeLine_eq]
      omega
    have c1 : (its.toArray.isEmpty || k == 1) = false := by rw [e1, Bool.false_or, beq_eq_false_iff_ne.mpr e]
    have c2 : (decide (k ≤ 0) || its.toArray.isEmpty) = false := by rw [e1, Bool.or_false, decide_eq_false (by omega)]
    have c4 : Builtin.Tuple.tupleTooMany (((its.toArray.size : Nat) : Int) * k) = false := by
      unfold Builtin.Tuple.tupleTooMany
      rw [sizeLine_eq, decide_eq_false (by omega)]
    refine wpAny_binaryOp_repeat_ref (U := "int") (T := "tuple") (by decide) ⟨_, ho, rfl⟩ (fun s2 => typeIs_int s2 k t) noFill_tuple_mul F.fills_int_mul F.slot_int_rmul repeat_tuple F.slot_int_index.lookup
      (call_meets F.slot_int_rmul (typeIs_int s k t) F.entry_int_rmul (F.args_int_rmul_2 _ _) (int_rmul_tuple k t l its.toArray n dd sl) ⟨ho, rfl, ⟨_, ho, rfl⟩, ?_⟩)
    refine call_meets F.slot_tuple_mul ⟨_, ho, rfl⟩ F.entry_tuple_mul (F.args_tuple_mul_2 _ _) (tuple_mulW l its.toArray n dd sl k t c0 c1 c2 (by omega) c4 (by rw [size_rep, List.size_toArray]; exact long)) ⟨ho, ?_⟩
    rw [size_rep]
    refine ⟨.ref s.heap.objs.size, _, I.laid (t' := s.toks) (o := .tup (List.replicate k.toNat xs).flatten) (fun b ob q => Heap.get?_push_of_some _ q) (Nat.le_refl _) ?_, rfl, q1 e _ (I.hok.fresh (Nat.le_refl _))⟩
    refine ⟨?_, _, r.rep k.toNat, IsTup.new _ _⟩
    rw [PyProof.Rows.lm_len_rep_flat, sizeLine_eq]
    omega
end L2
namespace My
open PySem PySem.Spec PyProof.Rows L2
/-! ### sums of functions that come again -/
def Sm : List Nat → (Nat → Int) → Prop
  | [], f => ∀ t, f t = 0
  | L :: r, f => ∃ p : Nat → Int, (∀ t, p (t + L) = p t) ∧ Sm r (fun t => f t - p t)
theorem Sm.congr {Ls : List Nat} {f g : Nat → Int} (h : Sm Ls f) (e : ∀ t, f t = g t) : Sm Ls g := by
  have : f = g := funext e
  rw [← this]
  exact h
theorem Sm.delta : ∀ (Ls : List Nat) (f : Nat → Int) (L : Nat), Sm Ls f → Sm Ls (fun t => f (t + L) - f t)
  | [], f, L, h => fun t => by
    show f (t + L) - f t = 0
    rw [h (t + L), h t]
    rfl
  | M :: r, f, L, ⟨p, hp, hs⟩ => by
    refine ⟨fun t => p (t + L) - p t, fun t => ?_, (Sm.delta r _ L hs).congr fun t => ?_⟩
    · show p (t + M + L) - p (t + M) = p (t + L) - p t
      rw [show t + M + L = t + L + M by omega, hp, hp]
    · show f (t + L) - p (t + L) - (f t - p t) = f (t + L) - f t - (p (t + L) - p t)
      omega
theorem Sm.drop {L : Nat} {r : List Nat} {f : Nat → Int} : Sm (L :: r) f → Sm r (fun t => f (t + L) - f t)
  | ⟨p, hp, hs⟩ => (Sm.delta r _ L hs).congr fun t => by
    show f (t + L) - p (t + L) - (f t - p t) = f (t + L) - f t
    rw [hp]
    omega
theorem Sm.zero : ∀ (Ls : List Nat) (f : Nat → Int), (∀ L ∈ Ls, 1 ≤ L) → Sm Ls f → (∀ t, t < Ls.sum → f t = 0) → ∀ t, f t = 0
  | [], _, _, h, _ => h
  | L :: r, f, hL, h, hz => by
    have g := Sm.zero r (fun t => f (t + L) - f t) (fun M hM => hL M (List.mem_cons_of_mem _ hM)) h.drop fun t ht => by
      rw [List.sum_cons] at hz
      show f (t + L) - f t = 0
      rw [hz (t + L) (by omega), hz t (by omega)]
      rfl
    have L1 := hL L List.mem_cons_self
    intro t
    induction t using Nat.strongRecOn with
    | _ t ih =>
      by_cases q : t < L
      · exact hz t (by rw [List.sum_cons]; omega)
      · have e := g (t - L)
        have e' : f (t - L + L) - f (t - L) = 0 := e
        rw [Nat.sub_add_cancel (by omega), ih (t - L) (by omega)] at e'
        omega
def lenN (ls : List (List Int)) : List Nat := ls.map List.length
theorem hd_cons (l : List Int) (r : List (List Int)) (t : Int) : hd (l :: r) t = hAt l t + hd r t := by
  unfold hd
  rw [List.map_cons, List.sum_cons]
theorem hAt_add {l : List Int} {t : Int} {P : Nat} (h : l.length ∣ P) : hAt l (t + (P : Int)) = hAt l t := by
  unfold hAt
  have e : (t + (P : Int)).fmod (l.length : Int) = t.fmod (l.length : Int) := by
    rw [Int.fmod_eq_emod_of_nonneg _ (by omega), Int.fmod_eq_emod_of_nonneg _ (by omega)]
    obtain ⟨c, hc⟩ := h
    rw [hc, Int.natCast_mul, Int.add_mul_emod_self_left]
  rw [e]
theorem sm_neg : ∀ ms : List (List Int), Sm (lenN ms) (fun t => -hd ms (t : Int))
  | [] => fun t => rfl
  | m :: r => by
    refine ⟨fun t => -hAt m (t : Int), fun t => ?_, (sm_neg r).congr fun t => ?_⟩
    · show -hAt m ((t + m.length : Nat) : Int) = -hAt m (t : Int)
      rw [Int.natCast_add, hAt_add (Nat.dvd_refl _)]
    · show -hd r (t : Int) = -hd (m :: r) (t : Int) - -hAt m (t : Int)
      rw [hd_cons]
      omega
theorem sm_hd (Ls : List Nat) (g : Nat → Int) (hg : Sm Ls g) : ∀ ls : List (List Int), Sm (lenN ls ++ Ls) (fun t => hd ls (t : Int) + g t)
  | [] => hg.congr fun t => by
    show g t = 0 + g t
    omega
  | l :: r => by
    refine ⟨fun t => hAt l (t : Int), fun t => ?_, (sm_hd Ls g hg r).congr fun t => ?_⟩
    · show hAt l ((t + l.length : Nat) : Int) = hAt l (t : Int)
      rw [Int.natCast_add, hAt_add (Nat.dvd_refl _)]
    · show hd r (t : Int) + g t = hd (l :: r) (t : Int) + g t - hAt l (t : Int)
      rw [hd_cons]
      omega
/-- heard alike at so many ticks as both have things, heard alike for ever -/
theorem settled {ls ms : List (List Int)} (h1 : ∀ l ∈ ls, 1 ≤ l.length) (h2 : ∀ l ∈ ms, 1 ≤ l.length) (h : ∀ t : Nat, t < (lenN ls ++ lenN ms).sum → hd ls (t : Int) = hd ms (t : Int)) (t : Nat) : hd ls (t : Int) = hd ms (t : Int) := by
  have z := Sm.zero _ _ (fun L hL => by
    rcases List.mem_append.mp hL with q | q
    · obtain ⟨l, hl, rfl⟩ := List.mem_map.mp q
      exact h1 l hl
    · obtain ⟨l, hl, rfl⟩ := List.mem_map.mp q
      exact h2 l hl) (sm_hd _ _ (sm_neg ms) ls) (fun t ht => by
      show hd ls (t : Int) + -hd ms (t : Int) = 0
      rw [h t ht]
      omega) t
  have z' : hd ls (t : Int) + -hd ms (t : Int) = 0 := z
  omega
/-! ### the first tick at which two part -/
def isFirst (ls ms : List (List Int)) : Option Nat → Prop
  | none => ∀ t : Nat, hd ls (t : Int) = hd ms (t : Int)
  | some t => hd ls (t : Int) ≠ hd ms (t : Int) ∧ ∀ s : Nat, s < t → hd ls (s : Int) = hd ms (s : Int)
theorem isFirst.one {ls ms : List (List Int)} {r r' : Option Nat} (h : isFirst ls ms r) (g : isFirst ls ms r') : r = r' := by
  cases r with
  | none =>
    cases r' with
    | none => rfl
    | some t => exact absurd (h t) g.1
  | some t =>
    cases r' with
    | none => exact absurd (g t) h.1
    | some u =>
      rcases Nat.lt_trichotomy t u with q | q | q
      · exact absurd (g.2 t q) h.1
      · rw [q]
      · exact absurd (h.2 u q) g.1
theorem isFirst.swap {ls ms : List (List Int)} {r : Option Nat} (h : isFirst ls ms r) : isFirst ms ls r := by
  cases r with
  | none => exact fun t => (h t).symm
  | some t => exact ⟨fun z => h.1 z.symm, fun s hs => (h.2 s hs).symm⟩
def optV : Option Nat → V
  | none => .non
  | some t => .int (t : Int)
/-! ### periods -/
def isPer (ls : List (List Int)) (P : Nat) : Prop := ∀ t : Nat, hd ls ((t + P : Nat) : Int) = hd ls (t : Int)
def isMin (ls : List (List Int)) (P : Nat) : Prop := 0 < P ∧ isPer ls P ∧ ∀ P', 0 < P' → isPer ls P' → P ≤ P'
theorem isMin.one {ls : List (List Int)} {P P' : Nat} (h : isMin ls P) (g : isMin ls P') : P = P' := Nat.le_antisymm (h.2.2 P' g.1 g.2.1) (g.2.2 P h.1 h.2.1)
theorem per_dvd : ∀ {ls : List (List Int)} {P : Nat}, (∀ l ∈ ls, l.length ∣ P) → isPer ls P
  | [], _, _ => fun t => rfl
  | l :: r, P, h => fun t => by
    have ih := per_dvd (ls := r) (P := P) (fun x hx => h x (List.mem_cons_of_mem _ hx)) t
    rw [hd_cons, hd_cons, ih, Int.natCast_add, hAt_add (h l List.mem_cons_self)]
theorem per_mul {ls : List (List Int)} {P : Nat} (h : isPer ls P) : ∀ k : Nat, isPer ls (P * k)
  | 0 => fun t => rfl
  | k + 1 => fun t => by
    rw [Nat.mul_succ, ← Nat.add_assoc, h, per_mul h k]
theorem per_mod {ls : List (List Int)} {a b : Nat} (ha : isPer ls a) (hb : isPer ls b) : isPer ls (b % a) := fun t => by
  have e : t + b % a + a * (b / a) = t + b := by
    have := Nat.mod_add_div b a
    omega
  have h1 := per_mul ha (b / a) (t + b % a)
  rw [e, hb] at h1
  exact h1.symm
theorem per_gcd {ls : List (List Int)} {a b : Nat} : isPer ls a → isPer ls b → isPer ls (Nat.gcd a b) := by
  induction a, b using Nat.gcd.induction with
  | H0 b =>
    intro _ hb
    rw [Nat.gcd_zero_left]
    exact hb
  | H1 a b ha ih =>
    intro h1 h2
    rw [Nat.gcd_rec]
    exact ih (per_mod h1 h2) h1
theorem min_dvd {ls : List (List Int)} {P P' : Nat} (h : isMin ls P) (g : isPer ls P') : P ∣ P' := by
  rcases Nat.eq_zero_or_pos P' with e | e
  · rw [e]
    exact Nat.dvd_zero P
  · have q := h.2.2 _ (Nat.gcd_pos_of_pos_left P' h.1) (per_gcd h.2.1 g)
    have e2 : Nat.gcd P P' = P := Nat.le_antisymm (Nat.le_of_dvd h.1 (Nat.gcd_dvd_left P P')) q
    rw [← e2]
    exact Nat.gcd_dvd_right P P'
/-- no divisor to 64 leads to a lesser one: it is the period -/
theorem min_of {ls : List (List Int)} {T : Nat} (ok : ∀ l ∈ ls, 1 ≤ l.length ∧ l.length ≤ 64) (t0 : 0 < T) (hT : isPer ls T) (hd : T ∣ lcmN (lenN ls)) (h : ∀ e, 2 ≤ e → e ≤ 64 → ¬ (e ∣ T ∧ isPer ls (T / e))) : isMin ls T := by
  refine ⟨t0, hT, fun P' p0 hP => ?_⟩
  have gP := per_gcd hT hP
  have g0 : 0 < Nat.gcd T P' := Nat.gcd_pos_of_pos_left P' t0
  obtain ⟨m, hm⟩ := Nat.gcd_dvd_left T P'
  have m0 : 0 < m := by
    rcases Nat.eq_zero_or_pos m with e | e
    · rw [e, Nat.mul_zero] at hm
      omega
    · exact e
  rcases (by omega : m = 1 ∨ 2 ≤ m) with e | m2
  · rw [e, Nat.mul_one] at hm
    have := Nat.le_of_dvd p0 (Nat.gcd_dvd_right T P')
    omega
  exfalso
  have ex : ∃ n ∈ lenN ls, Nat.gcd n m ≠ 1 := by
    refine Classical.byContradiction fun z => ?_
    have q : Nat.gcd (lcmN (lenN ls)) m ∣ 1 := gcd_lcms (lenN ls) 1 (by rw [Nat.gcd_one_left]; exact Nat.dvd_refl 1) fun n hn => by
      have e : Nat.gcd n m = 1 := Classical.byContradiction fun w => z ⟨n, hn, w⟩
      rw [e]
      exact Nat.dvd_refl 1
    have mL : m ∣ lcmN (lenN ls) := Nat.dvd_trans ⟨Nat.gcd T P', by rw [Nat.mul_comm]; exact hm⟩ hd
    rw [Nat.gcd_eq_right mL] at q
    have := Nat.le_of_dvd (Nat.succ_pos 0) q
    omega
  obtain ⟨n, hn, gn⟩ := ex
  obtain ⟨l, hl, rfl⟩ := List.mem_map.mp hn
  have o := ok l hl
  have e0 : 0 < Nat.gcd l.length m := Nat.gcd_pos_of_pos_left m o.1
  have e64 : Nat.gcd l.length m ≤ 64 := Nat.le_trans (Nat.gcd_le_left m o.1) o.2
  obtain ⟨c, hc⟩ := Nat.gcd_dvd_right l.length m
  generalize Nat.gcd l.length m = E at *
  generalize Nat.gcd T P' = G at *
  have eT : T = E * (G * c) := by rw [hm, hc, Nat.mul_left_comm]
  refine h E (by omega) e64 ⟨⟨G * c, eT⟩, ?_⟩
  rw [eT, Nat.mul_div_cancel_left _ e0]
  exact per_mul gP c
/-- the same, heard behind so many ticks -/
theorem per_lat {ls : List (List Int)} {P : Nat} (h : ∀ l ∈ ls, 1 ≤ l.length) : isFirst ls (lat ls (P : Int)) none ↔ isPer ls P := by
  constructor
  · intro z t
    have q := z t
    rw [hd_lat _ _ h] at q
    rw [Nat.add_comm, Int.natCast_add]
    exact q.symm
  · intro z t
    rw [hd_lat _ _ h, ← Int.natCast_add, Nat.add_comm]
    exact (z t).symm
end My

/-! Loops that are heard alike, and their periods: what the defs promise. -/
namespace My
open PySem PySem.Spec PyProof.Rows L2
def sp_common_divisor (K : PySem.W.Frag) : Sp := fun vs H Q _ => ∃ (x y : Nat), vs = [.int x, .int y] ∧ Q (.int (Nat.gcd x y : Nat)) H
def sp__law_common (K : PySem.W.Frag) : Sp := sp_common_divisor K
def sp_common_multiple (K : PySem.W.Frag) : Sp := fun vs H Q _ => ∃ (a : Addr) (ns : List Nat), vs = [.ref a] ∧ SqL K H a ((NN ns).map V.int) ∧ (∀ n ∈ ns, 1 ≤ n) ∧ lcmN ns ≤ 2 ^ 40 ∧ Q (.int (lcmN ns : Nat)) H
def sp__law_round (K : PySem.W.Frag) : Sp := sp_common_multiple K
def sp_parted_at (K : PySem.W.Frag) : Sp := fun vs H Q _ => ∃ (v w : V) (ls ms : List (List Int)), vs = [v, w] ∧ Dp K H v (dLoops ls) ∧ Dp K H w (dLoops ms) ∧ OkL ls ∧ OkL ms ∧ ∀ (r : Option Nat) H', isFirst ls ms r → (∀ t, r = some t → t < 768) → Same H H' → Q (optV r) H'
def sp_first_apart (K : PySem.W.Frag) : Sp := sp_parted_at K
def sp__law_first (K : PySem.W.Frag) : Sp := sp_parted_at K
def sp_silent (K : PySem.W.Frag) : Sp := fun vs H Q _ => ∃ (v : V) (ls : List (List Int)), vs = [v] ∧ Dp K H v (dLoops ls) ∧ OkL ls ∧ ∀ (b : Bool) H', (b = true ↔ isFirst ls [] none) → Same H H' → Q (.bl b) H'
def sp_leads_round (K : PySem.W.Frag) : Sp := fun vs H Q _ => ∃ (v : V) (ls : List (List Int)) (t : Nat), vs = [v, .int t] ∧ Dp K H v (dLoops ls) ∧ OkL ls ∧ ∀ (b : Bool) H', (b = true ↔ isPer ls t) → Same H H' → Q (.bl b) H'
def sp_period (K : PySem.W.Frag) : Sp := fun vs H Q _ => ∃ (v : V) (ls : List (List Int)), vs = [v] ∧ Dp K H v (dLoops ls) ∧ OkL ls ∧ ∀ (P : Nat) H', isMin ls P → P ≤ 64 ^ 6 → Same H H' → Q (.int P) H'
theorem nn_get {ns : List Nat} {i : Nat} {c : Int} (h : (NN ns)[i]? = some c) : ∃ n : Nat, ns[i]? = some n ∧ c = (n : Int) := by
  unfold NN at h
  rw [List.getElem?_map] at h
  cases e : ns[i]? with
  | none =>
    rw [e] at h
    cases h
  | some n =>
    rw [e] at h
    exact ⟨n, rfl, (Option.some.inj h).symm⟩
theorem nn_len (ns : List Nat) : (NN ns).length = ns.length := by
  unfold NN
  rw [List.length_map]
theorem fm_nat (u j : Nat) : ((u : Int)).fmod (j : Int) = ((u % j : Nat) : Int) := by
  rw [Int.fmod_eq_emod_of_nonneg _ (by omega)]
  rfl
theorem lcm_a (m n : Nat) : m * (n / Nat.gcd m n) = Nat.lcm m n := by
  unfold Nat.lcm
  rw [Nat.mul_div_assoc m (Nat.gcd_dvd_right m n)]
theorem lcm_b (m n : Nat) : m / Nat.gcd m n * n = Nat.lcm m n := by
  unfold Nat.lcm
  rw [Nat.mul_comm m n, Nat.mul_div_assoc n (Nat.gcd_dvd_left m n), Nat.mul_comm]
theorem lcmN_take_le {ns : List Nat} (h : ∀ n ∈ ns, 1 ≤ n) (i : Nat) : lcmN (ns.take i) ≤ lcmN ns :=
  Nat.le_of_dvd (lcmN_pos h) (lcmN_dvd fun n hn => dvd_lcmN (List.mem_of_mem_take hn))
theorem log_nat {n : Nat} (h : n ≤ 2 ^ 40) : ((n : Nat) : Int).natAbs.log2 < 9000 := by
  rw [Int.natAbs_natCast]
  rcases Nat.eq_zero_or_pos n with e | e
  · rw [e]
    decide
  · have := (Nat.log2_lt (show n ≠ 0 by omega) (k := 41)).mpr (by omega)
    omega
theorem lens_nn (ls : List (List Int)) : lensI ls = NN (lenN ls) := by
  unfold lensI NN lenN
  rw [List.map_map]
  rfl
theorem lenN_app (ls ms : List (List Int)) : lenN (ls ++ ms) = lenN ls ++ lenN ms := by
  unfold lenN
  rw [List.map_append]
theorem sum_nn : ∀ ns : List Nat, (NN ns).sum = ((ns.sum : Nat) : Int)
  | [] => rfl
  | n :: r => by
    show (n : Int) + (NN r).sum = _
    rw [sum_nn r, List.sum_cons, Int.natCast_add]
theorem sum_le : ∀ (ns : List Nat) (b : Nat), (∀ n ∈ ns, n ≤ b) → ns.sum ≤ b * ns.length
  | [], _, _ => Nat.zero_le _
  | n :: r, b, h => by
    have q := sum_le r b fun x hx => h x (List.mem_cons_of_mem _ hx)
    have := h n List.mem_cons_self
    rw [List.sum_cons, List.length_cons, Nat.mul_succ]
    omega
theorem okl_len {ls : List (List Int)} (ok : OkL ls) : ∀ n ∈ lenN ls, 1 ≤ n ∧ n ≤ 64 := fun n hn => by
  obtain ⟨l, hl, rfl⟩ := List.mem_map.mp hn
  exact ok.2 l hl
theorem lenN_len (ls : List (List Int)) : (lenN ls).length = ls.length := by
  unfold lenN
  rw [List.length_map]
theorem okl_lcm {ls : List (List Int)} (ok : OkL ls) : lcmN (lenN ls) ≤ 64 ^ 6 :=
  Nat.le_trans (lcmN_le (b := 64) (by decide) fun n hn => (okl_len ok n hn).2) (Nat.pow_le_pow_right (by decide) (by rw [lenN_len]; exact ok.1))
theorem okl_sum {ls ms : List (List Int)} (ok : OkL ls) (okm : OkL ms) : (lenN ls ++ lenN ms).sum ≤ 768 := by
  have q := sum_le (lenN ls ++ lenN ms) 64 fun n hn => by
    rcases List.mem_append.mp hn with h | h
    · exact (okl_len ok n h).2
    · exact (okl_len okm n h).2
  rw [List.length_append, lenN_len, lenN_len] at q
  have := ok.1
  have := okm.1
  omega
theorem opt_non (r : Option Nat) : decide (optV r = V.non) = true ↔ r = none := by
  cases r with
  | none => simp [optV]
  | some t => simp [optV]
theorem opt_not (r : Option Nat) : (!decide (optV r = V.non)) = true ↔ r ≠ none := by
  cases r with
  | none => simp [optV]
  | some t => simp [optV]
theorem isFirst.non {ls ms : List (List Int)} {r : Option Nat} (h : isFirst ls ms r) : r = none ↔ isFirst ls ms none := by
  constructor
  · intro e
    rw [← e]
    exact h
  · intro g
    exact h.one g
theorem dec_ne {a b : Int} : (!decide (V.int a = V.int b)) = true ↔ a ≠ b := by
  simp
/-- a lesser one that leads round keeps what is known of the others -/
theorem per_keep {ls : List (List Int)} {T d e : Nat} (d0 : 0 < d) (hd : d ∣ T) (h : ¬ (e ∣ T ∧ isPer ls (T / e))) : ¬ (e ∣ T / d ∧ isPer ls (T / d / e)) := by
  rintro ⟨⟨c, hc⟩, g⟩
  obtain ⟨b, hb⟩ := hd
  subst hb
  rw [Nat.mul_div_cancel_left _ d0] at hc g
  subst hc
  apply h
  rcases Nat.eq_zero_or_pos e with e0 | e0
  · subst e0
    refine ⟨⟨0, by simp⟩, ?_⟩
    rw [Nat.div_zero]
    exact fun t => rfl
  rw [Nat.mul_div_cancel_left _ e0] at g
  refine ⟨⟨d * c, by rw [Nat.mul_left_comm]⟩, ?_⟩
  rw [Nat.mul_left_comm, Nat.mul_div_cancel_left _ e0, Nat.mul_comm]
  exact per_mul g d
theorem hd_app (ls ms : List (List Int)) (t : Int) : hd (ls ++ ms) t = hd ls t + hd ms t := by
  unfold hd
  rw [List.map_append, List.sum_append]
theorem isPer.congr {ls ms : List (List Int)} {P : Nat} (h : isPer ls P) (e : ∀ t : Nat, hd ms (t : Int) = hd ls (t : Int)) : isPer ms P := fun t => by
  rw [e, e]
  exact h t
theorem isMin.congr {ls ms : List (List Int)} {P : Nat} (h : isMin ls P) (e : ∀ t : Nat, hd ms (t : Int) = hd ls (t : Int)) : isMin ms P :=
  ⟨h.1, h.2.1.congr e, fun P' p0 hP => h.2.2 P' p0 (hP.congr fun t => (e t).symm)⟩
theorem isPer.off {ls ms : List (List Int)} {P : Nat} {c : Int} (h : isPer ls P) (e : ∀ t : Nat, hd ms (t : Int) = hd ls (t : Int) + c) : isPer ms P := fun t => by
  rw [e, e, h t]
theorem isMin.off {ls ms : List (List Int)} {P : Nat} {c : Int} (h : isMin ls P) (e : ∀ t : Nat, hd ms (t : Int) = hd ls (t : Int) + c) : isMin ms P :=
  ⟨h.1, h.2.1.off e, fun P' p0 hP => h.2.2 P' p0 (hP.off (c := -c) fun t => by rw [e]; omega)⟩
/-- two whose periods have no common divisor -/
theorem min_two {ls ms ns : List (List Int)} {D q : Nat} (h : isMin ls D) (g : isMin ms q) (c : Nat.Coprime D q) (e : ∀ t : Nat, hd ns (t : Int) = hd ls (t : Int) + hd ms (t : Int)) : isMin ns (D * q) := by
  refine ⟨Nat.mul_pos h.1 g.1, fun t => ?_, fun P p0 hP => ?_⟩
  · rw [e, e, per_mul h.2.1 q t]
    rw [Nat.mul_comm D q, per_mul g.2.1 D t]
  · have a1 : isPer ls (P * q) := fun t => by
      have x := per_mul hP q t
      have y := per_mul g.2.1 P t
      rw [Nat.mul_comm] at y
      rw [e, e, y] at x
      omega
    have a2 : isPer ms (P * D) := fun t => by
      have x := per_mul hP D t
      have y := per_mul h.2.1 P t
      rw [Nat.mul_comm] at y
      rw [e, e, y] at x
      omega
    have b1 : D ∣ P := c.dvd_of_dvd_mul_right (min_dvd h a1)
    have b2 : q ∣ P := c.symm.dvd_of_dvd_mul_right (min_dvd g a2)
    exact Nat.le_of_dvd p0 (Nat.Coprime.mul_dvd_of_dvd_of_dvd c b1 b2)
theorem min_nil : isMin [] 1 := ⟨by decide, fun t => rfl, fun P' p0 _ => p0⟩
theorem hd_one (l : List Int) (t : Int) : hd [l] t = hAt l t := by
  unfold hd
  simp
theorem hAt_lt {l : List Int} {i : Nat} (h : i < l.length) : hAt l (i : Int) = l.getD i 0 := by
  unfold hAt
  rw [fm (by omega), ← Int.natCast_emod, Int.toNat_natCast, Nat.mod_eq_of_lt h]
end My

/-! Lists backwards; what several laws of loops share. -/
namespace L2
open PySem PySem.Spec PyProof.Rows HT
def tBackL (K : PySem.W.Frag) (te ts : TE) : TE := fun σ H Q => te σ H fun x H1 => ts σ H1 fun y H2 => y = .int (-1) ∧ ∃ (a : Addr) (xs : List V), x = .ref a ∧ SqL K H2 a xs ∧ ∀ p, H2 p = none → Q (.ref p) (upd H2 p (.lst xs.reverse))
theorem pe_backL {X : Cx} {K : PySem.W.Frag} {e st : Expr} {te ts : TE} {p2 pos : Pos} (he : PE X e te) (hst : PE X st ts) (ek : X.K = K := by rfl) : PE X (.Subscript e (.Slice none none (some st) p2) pos) (tBackL K te ts) := by
  subst ek
  refine ⟨fun pins s σ H Q I h => ?_⟩
  refine Subscript_ (thn (he.run pins s σ H _ I h) fun v s1 ⟨x, H1, I1, r1, q1⟩ => ?_)
  refine wpAny_Slice ?_
  rw [evalPart_none, evalPart_some]
  refine wpAny_pure (wpAny_pure (thn (hst.run pins s1 σ H1 _ I1 q1) fun vs s3 ⟨y, H3, I3, ry, ey, a, xs, ex, hx, q⟩ => ?_))
  subst ey ex
  obtain ⟨tk, rfl⟩ := ry
  cases r1
  have I4 : Inv X pins σ H3 { s3 with heap := s3.heap.push { cls := .type "slice", data := .fields #[.none, .none, .int (-1) tk] } } := I3.kept (t' := s3.toks) fun b ob q => Heap.get?_push_of_some _ q
  obtain ⟨its, r, ht, hz⟩ := I4.list hx
  have hlen := r.length
  show wpAny (model X.prog X.w) X.A (subscriptTail e (.Slice none none (some st) p2) (.ref a) (.ref s3.heap.objs.size)) (EP X pins σ Q) X.xe { s3 with heap := s3.heap.push { cls := .type "slice", data := .fields #[.none, .none, .int (-1) tk] } }
  refine tail_any (T := "list") (ops := [.ref a, .ref s3.heap.objs.size]) ht.isList.typeIs slot_list_getitem.lookup (wpAny_getItem_list_slice ht.isList (Heap.IsSliceOf.new ..) .none .none (IsPart.int (-1) tk) (by decide) ?_ (by rw [List.size_toArray]; omega)) (by with_unfolding_all rfl)
  rw [PySem.W.krv_pick]
  refine ⟨.ref _, _, I4.laid (t' := s3.toks) (o := .lst xs.reverse) (fun b ob z => Heap.get?_push_of_some _ z) (Nat.le_refl _) ?_, rfl, q _ (I4.hok.fresh (Nat.le_refl _))⟩
  exact ⟨by rw [List.length_reverse]; exact hz, its.reverse, 0, vals_rev r, Heap.get?_push_size _ rfl⟩
end L2
namespace My
open PySem PySem.Spec PyProof.Rows L2
theorem small9000 {n : Nat} (h : n ≤ 9000) : n < sizeLine := by
  rw [sizeLine_eq]
  omega
theorem shaped_dLoops (ls : List (List Int)) : SeqAt.shaped (dLoops ls) = true := by
  have go : ∀ ls : List (List Int), PyData.canLayAll0 (ls.map dInts) = true ∧ PyData.depthAll (ls.map dInts) ≤ 1 := fun ls => by
    refine ⟨?_, depth_loops ls⟩
    induction ls with
    | nil => rfl
    | cons l r ih =>
      show ((dInts l).canLay0 && PyData.canLayAll0 (r.map dInts)) = true
      rw [ih, SeqAt.canLay_of_shaped (shaped_dInts l)]
      rfl
  obtain ⟨h1, h2⟩ := go ls
  refine Bool.and_eq_true_iff.mpr ⟨h1, decide_eq_true ?_⟩
  show PyData.depthAll (ls.map dInts) + 1 ≤ 64
  omega
theorem eqv_loops_nil (ls : List (List Int)) : PyData.eqv (dLoops ls) (.tuple []) = ls.isEmpty := by
  cases ls <;> rfl
/-- a tuple of data times an int, greater -/
theorem rd_repW {K : PySem.W.Frag} {H : Hp} {v : V} {ds : List PyData} {n : Int} {Q : VK} (h : Dp K H v (.tuple ds)) (h1 : 1 ≤ ds.length) (n1 : 1 ≤ n) (hz : n.toNat * ds.length ≤ 1000000)
    (k : ∀ w H', Same H H' → Dp K H' w (.tuple (List.replicate n.toNat ds).flatten) → Q w H') : rRepW K v (.int n) H Q := by
  obtain ⟨a, xs, rfl, hT, hX⟩ := h.tuple
  have hl := hX.len
  have go : ∀ m : Nat, DpAll K H (List.replicate m xs).flatten (List.replicate m ds).flatten := fun m => by
    induction m with
    | zero => exact .nil
    | succ m ih =>
      rw [List.replicate_succ, List.replicate_succ, List.flatten_cons, List.flatten_cons]
      exact hX.app ih
  refine ⟨a, n, xs, rfl, rfl, hT, by omega, n1, by rw [hl]; exact hz, fun w => ?_, fun _ p hp => ?_⟩
  · subst w
    refine k _ H (Same.refl H) (.tup hT ?_)
    have e : (List.replicate (1 : Int).toNat ds).flatten = ds := by
      show (List.replicate 1 ds).flatten = ds
      simp
    rw [e]
    exact hX
  · exact k _ _ (same_upd hp _) (.tup (SqT.of upd_same) (DpAll.same (same_upd hp _) _ _ (go _)))
theorem rep_one (p : Nat) (c : Int) : (List.replicate p [PyData.int c]).flatten = (List.replicate p c).map PyData.int := by
  induction p with
  | zero => rfl
  | succ p ih =>
    rw [List.replicate_succ, List.replicate_succ, List.flatten_cons, ih]
    rfl
theorem hAt_rep {p : Nat} (c t : Int) (h : 1 ≤ p) : hAt (List.replicate p c) t = c := by
  unfold hAt
  have q := fm_lt (t := t) h
  rw [List.length_replicate, List.getD_eq_getElem?_getD, List.getElem?_replicate, if_pos q]
  rfl
theorem min_rep {p : Nat} (c : Int) (h : 1 ≤ p) : isMin [List.replicate p c] 1 := by
  refine ⟨by decide, fun t => ?_, fun P' p0 _ => p0⟩
  rw [hd_one, hd_one, hAt_rep c _ h, hAt_rep c _ h]
theorem log_small {P : Nat} (h : P ≤ 64 ^ 6) : ((P : Nat) : Int).natAbs.log2 < 1920 := by
  rw [Int.natAbs_natCast]
  rcases Nat.eq_zero_or_pos P with e | e
  · rw [e]
    decide
  · have := (Nat.log2_lt (show P ≠ 0 by omega) (k := 41)).mpr (by omega)
    omega
theorem min4' (z : Int) (h : 0 ≤ z) : 0 ≤ (if (4 : Int) < z then 4 else z) ∧ (if (4 : Int) < z then 4 else z) ≤ 4 := by
  split <;> omega
theorem at_neg {xs : List V} {x : V} (h : xs[xs.length - 1]? = some x) : atI xs (-1) = some x := by
  have l := (List.getElem?_eq_some_iff.mp h).1
  unfold atI ixN
  rw [if_neg (by decide), if_pos (by omega)]
  have e : (-1 + (xs.length : Int)).toNat = xs.length - 1 := by omega
  show xs[((-1 : Int) + (xs.length : Int)).toNat]? = _
  rw [e]
  exact h
theorem cutD_last (ds : List PyData) : L2.cutD ds none (some (-1)) = ds.dropLast := by
  unfold L2.cutD
  rw [HT.sIx_none]
  have e : HT.sIx ds.length ds.length (some (-1)) = ds.length - 1 := by
    unfold HT.sIx
    show (if (-1 : Int) < 0 then _ else _) = _
    rw [if_pos (by decide)]
    omega
  rw [e, List.drop_zero, Nat.sub_zero, List.dropLast_eq_take]
theorem cutD_rest (ds : List PyData) : L2.cutD ds (some 1) none = ds.drop 1 := by
  cases ds with
  | nil => rfl
  | cons d r =>
    unfold L2.cutD
    have e : HT.sIx (d :: r).length 0 (some 1) = 1 := by
      unfold HT.sIx
      show (if (1 : Int) < 0 then _ else _) = _
      rw [if_neg (by decide), List.length_cons]
      show min 1 (r.length + 1) = 1
      omega
    rw [HT.sIx_none, e]
    rw [List.take_of_length_le (by rw [List.length_drop]; omega)]
theorem dp_two {K : PySem.W.Frag} {H : Hp} (l1 l2 : List Int) {p1 p2 p3 : Addr} (h1 : H p1 = none) (h2 : upd H p1 (.tup (l1.map V.int)) p2 = none) (h3 : upd (upd H p1 (.tup (l1.map V.int))) p2 (.tup (l2.map V.int)) p3 = none) :
    Dp K (upd (upd (upd H p1 (.tup (l1.map V.int))) p2 (.tup (l2.map V.int))) p3 (.tup [.ref p1, .ref p2])) (.ref p3) (dLoops [l1, l2]) ∧ Same H (upd (upd (upd H p1 (.tup (l1.map V.int))) p2 (.tup (l2.map V.int))) p3 (.tup [.ref p1, .ref p2])) := by
  have q2 := same_upd h2 (.tup (l2.map V.int))
  have q3 := same_upd h3 (.tup [.ref p1, .ref p2])
  refine ⟨.tup (SqT.of upd_same) (.cons (Dp.ofInts (SqT.of (q3 _ _ (q2 _ _ upd_same)))) (.cons (Dp.ofInts (SqT.of (q3 _ _ upd_same))) .nil)), (same_upd h1 _).trans (q2.trans q3)⟩
theorem eqv_ints' (xs ys : List Int) : PyData.eqv (dList xs) (dList ys) = decide (xs = ys) := eqv_ints xs ys
theorem dp_tup {K : PySem.W.Frag} {H : Hp} {p : Addr} (l : List Int) (h : H p = none) : Dp K (upd H p (.tup (l.map V.int))) (.ref p) (dInts l) := Dp.ofInts (SqT.of upd_same)
def sp_begun2 (K : PySem.W.Frag) : Sp := fun vs H Q _ => ∃ (a : Addr) (ns : List Int), vs = [.ref a] ∧ SqL K H a (ns.map V.int) ∧ ns.length ≤ 63 ∧
  ∀ m H', Same H H' → MS H' m 0 → (∀ b o, H b = some o → b ≠ m ∧ ¬ Lf H' m b) → Q (.ref m) H'
theorem seq_ef {K : PySem.W.Frag} {H H1 H2 : Hp} {m a : Addr} {xs : List V} (h : SqL K H a xs) (s1 : Same H H1) (hn : ∀ b o, H b = some o → b ≠ m ∧ ¬ Lf H1 m b) (e : Ef m H1 H2) : SqL K H2 a xs := by
  rcases h with (h | ⟨o, h⟩) | h
  · exact .inl (.inl (e.keep _ _ (s1 _ _ h) (hn _ _ h).1 (hn _ _ h).2))
  · exact .inl (.inr ⟨o, e.keep _ _ (s1 _ _ h) (hn _ _ h).1 (hn _ _ h).2⟩)
  · exact .inr h
theorem per_dec {ls : List (List Int)} {L P : Nat} (hL : ∀ l ∈ ls, l.length ∣ L) (L0 : 0 < L) (h : ∀ t, t < L → hd ls ((t + P : Nat) : Int) = hd ls (t : Int)) : isPer ls P := fun t => by
  have pL := per_dvd hL
  have e : t % L + L * (t / L) = t := Nat.mod_add_div t L
  have p := per_mul pL (t / L) (t % L)
  have p2 := per_mul pL (t / L) (t % L + P)
  have e2 : t % L + P + L * (t / L) = t + P := by omega
  rw [e] at p
  rw [e2] at p2
  rw [p, p2, h _ (Nat.mod_lt _ L0)]
theorem min_dec {ls : List (List Int)} {T : Nat} (ok : ∀ l ∈ ls, 1 ≤ l.length ∧ l.length ≤ 64) (T0 : 0 < T) (hL : T ∣ lcmN (lenN ls)) (hT : ∀ t, t < lcmN (lenN ls) → hd ls ((t + T : Nat) : Int) = hd ls (t : Int))
    (h : ∀ e, e ≤ 64 → 2 ≤ e → e ∣ T → ¬ ∀ t, t < lcmN (lenN ls) → hd ls ((t + T / e : Nat) : Int) = hd ls (t : Int)) : isMin ls T :=
  min_of ok T0 (per_dec (fun l hl => dvd_lcmN (List.mem_map_of_mem hl)) (lcmN_pos fun n hn => by
    obtain ⟨l, hl, rfl⟩ := List.mem_map.mp hn
    exact (ok l hl).1) hT) hL fun e h1 h2 z => h e h2 h1 z.1 fun t _ => z.2 t
theorem hd_rev (ls : List (List Int)) (t : Int) : hd ls.reverse t = hd ls t := by
  unfold hd
  rw [List.map_reverse, List.sum_reverse]
theorem OkL.rev {ls : List (List Int)} (h : OkL ls) : OkL ls.reverse := ⟨by rw [List.length_reverse]; exact h.1, fun l hl => h.2 l (List.mem_reverse.mp hl)⟩
def optD : Option Nat → PyData
  | none => .none
  | some t => .int (t : Int)
theorem opt_dp {K : PySem.W.Frag} {H : Hp} (r : Option Nat) : Dp K H (optV r) (optD r) := by
  cases r with
  | none => exact .non
  | some t => exact .int _
theorem tells_opts (r : Option Nat) (h : ∀ t, r = some t → t < 10 ^ 40) : Tells (.list [optD r, optD r]) := by
  refine tells 40 (by decide) (by decide) rfl ?_ ?_ ?_
  · cases r with
    | none => rfl
    | some t =>
      show (decide (((t : Nat) : Int).natAbs < 10 ^ 40) && (decide (((t : Nat) : Int).natAbs < 10 ^ 40) && true)) = true
      rw [decide_eq_true (by rw [Int.natAbs_natCast]; exact h t rfl)]
      rfl
  · cases r <;> exact Nat.le_of_ble_eq_true rfl
  · cases r <;> exact Nat.le_of_ble_eq_true rfl
/-- the items of a list of loops, cut -/
theorem dp_cutV {K : PySem.W.Frag} {H : Hp} {xs : List V} {ls : List (List Int)} {lo hi : Option Int} (h : DpAll K H xs (ls.map dInts)) : ∃ ms : List (List Int), DpAll K H (L2.cutV xs lo hi) (ms.map dInts) ∧ (∀ l ∈ ms, l ∈ ls) ∧ ms.length = (L2.cutV xs lo hi).length := by
  refine ⟨(ls.drop (HT.sIx xs.length 0 lo)).take (HT.sIx xs.length xs.length hi - HT.sIx xs.length 0 lo), ?_, fun l hl => List.mem_of_mem_drop (List.mem_of_mem_take hl), ?_⟩
  · rw [List.map_take, List.map_drop]
    exact (h.drop _).take _
  · have hl := h.len
    rw [List.length_map] at hl
    unfold L2.cutV
    rw [List.length_take, List.length_take, List.length_drop, List.length_drop, hl]
theorem cutV_mid (xs : List V) (h : 2 ≤ xs.length) : (L2.cutV xs (some 1) (some (-1))).length = xs.length - 2 := by
  unfold L2.cutV HT.sIx
  rw [List.length_take, List.length_drop]
  show min ((if (-1 : Int) < 0 then ((-1 : Int) + (xs.length : Int)).toNat else min (-1 : Int).toNat xs.length) - (if (1 : Int) < 0 then ((1 : Int) + (xs.length : Int)).toNat else min (1 : Int).toNat xs.length)) (xs.length - (if (1 : Int) < 0 then ((1 : Int) + (xs.length : Int)).toNat else min (1 : Int).toNat xs.length)) = _
  rw [if_pos (by decide), if_neg (by decide)]
  show min (((-1 : Int) + (xs.length : Int)).toNat - min 1 xs.length) (xs.length - min 1 xs.length) = _
  omega
end My

/-! Loops that sound one thing at one place; loops and their opposites. -/
namespace My
open PySem PySem.Spec PyProof.Rows L2
/-- a loop that sounds 0 but at one place -/
theorem min_mark {l : List Int} {i : Nat} {c : Int} (hi : l[i]? = some c) (h0 : c ≠ 0) (hz : ∀ (j : Nat) (z : Int), j ≠ i → l[j]? = some z → z = 0) : isMin [l] l.length := by
  have il := (List.getElem?_eq_some_iff.mp hi).1
  refine ⟨by omega, fun t => ?_, fun P' p0 hP => ?_⟩
  · rw [hd_one, hd_one, Int.natCast_add, hAt_add (Nat.dvd_refl _)]
  · have q := hP i
    rw [hd_one, hd_one, hAt_lt il] at q
    have e1 : l.getD i 0 = c := by rw [List.getD_eq_getElem?_getD, hi]; rfl
    rw [e1] at q
    unfold hAt at q
    rw [fm (by omega), ← Int.natCast_emod, Int.toNat_natCast, List.getD_eq_getElem?_getD] at q
    have ml : (i + P') % l.length < l.length := Nat.mod_lt _ (by omega)
    have e2 : (i + P') % l.length = i := Classical.byContradiction fun z => by
      have g := hz ((i + P') % l.length) _ z (List.getElem?_eq_getElem ml)
      rw [List.getElem?_eq_getElem ml] at q
      have q' : l[(i + P') % l.length] = c := q
      rw [g] at q'
      exact h0 q'.symm
    have d : l.length ∣ P' := by
      have m := Nat.mod_add_div (i + P') l.length
      rw [e2] at m
      exact ⟨(i + P') / l.length, by omega⟩
    exact Nat.le_of_dvd p0 d
def lateA (n : Nat) : List Int := List.replicate (n - 2) 0 ++ [-1, 0]
def lateB (n : Nat) : List Int := List.replicate (n - 2) 0 ++ [1]
theorem late_first : ∀ n, n ≤ 64 → 4 ≤ n → hd [lateA n, lateB n] ((2 * n - 3 : Nat) : Int) ≠ 0 ∧ ∀ s, s < 2 * n - 3 → hd [lateA n, lateB n] (s : Int) = 0 := by decide +kernel
theorem late_cop : ∀ n, n ≤ 64 → 4 ≤ n → Nat.Coprime n (n - 1) := by decide +kernel
theorem lateA_min {n : Nat} (h : 4 ≤ n) : isMin [lateA n] n := by
  have len : (lateA n).length = n := by
    unfold lateA
    rw [List.length_append, List.length_replicate]
    show n - 2 + 2 = n
    omega
  have q := min_mark (l := lateA n) (i := n - 2) (c := -1) ?_ (by decide) fun j z hj e => ?_
  · rw [len] at q
    exact q
  · unfold lateA
    rw [List.getElem?_append_right (by rw [List.length_replicate]; omega), List.length_replicate, Nat.sub_self]
    rfl
  · unfold lateA at e
    by_cases w : j < n - 2
    · rw [List.getElem?_append_left (by rw [List.length_replicate]; exact w), List.getElem?_replicate, if_pos w] at e
      exact (Option.some.inj e).symm
    · rw [List.getElem?_append_right (by rw [List.length_replicate]; omega), List.length_replicate] at e
      have e1 : j - (n - 2) = 1 ∨ 2 ≤ j - (n - 2) := by omega
      rcases e1 with e1 | e1
      · rw [e1] at e
        exact (Option.some.inj e).symm
      · rw [List.getElem?_eq_none (by exact e1)] at e
        cases e
theorem lateB_min {n : Nat} (h : 4 ≤ n) : isMin [lateB n] (n - 1) := by
  have len : (lateB n).length = n - 1 := by
    unfold lateB
    rw [List.length_append, List.length_replicate]
    show n - 2 + 1 = n - 1
    omega
  have q := min_mark (l := lateB n) (i := n - 2) (c := 1) ?_ (by decide) fun j z hj e => ?_
  · rw [len] at q
    exact q
  · unfold lateB
    rw [List.getElem?_append_right (by rw [List.length_replicate]; omega), List.length_replicate, Nat.sub_self]
    rfl
  · unfold lateB at e
    by_cases w : j < n - 2
    · rw [List.getElem?_append_left (by rw [List.length_replicate]; exact w), List.getElem?_replicate, if_pos w] at e
      exact (Option.some.inj e).symm
    · rw [List.getElem?_append_right (by rw [List.length_replicate]; omega), List.length_replicate, List.getElem?_eq_none (by show 1 ≤ j - (n - 2); omega)] at e
      cases e
theorem late_min {n : Nat} (h : 4 ≤ n) (h64 : n ≤ 64) : isMin [lateA n, lateB n] (n * (n - 1)) :=
  min_two (lateA_min h) (lateB_min h) (late_cop n h64 h) fun t => by rw [hd_cons, hd_one, hd_one]
/-- one number of one loop otherwise: it is first heard at its place -/
theorem bent_first {ls : List (List Int)} {k i : Nat} {l : List Int} {c d : Int} (hk : ls[k]? = some l) (hi : l[i]? = some c) (hc : d ≠ 0) (hz : ∀ t : Nat, hd ls (t : Int) = 0) :
    isFirst (ls.set k (l.set i (c + d))) [] (some i) := by
  have il := (List.getElem?_eq_some_iff.mp hi).1
  have key : ∀ t : Nat, hd (ls.set k (l.set i (c + d))) (t : Int) = hd ls (t : Int) + (if t % l.length = i then d else 0) := by
    have at1 : ∀ t : Nat, hAt (l.set i (c + d)) (t : Int) = hAt l (t : Int) + (if t % l.length = i then d else 0) := fun t => by
      unfold hAt
      rw [List.length_set, fm (by omega), ← Int.natCast_emod, Int.toNat_natCast, List.getD_eq_getElem?_getD, List.getD_eq_getElem?_getD]
      by_cases w : t % l.length = i
      · rw [if_pos w, w, List.getElem?_set_self il, hi]
        rfl
      · rw [if_neg w, List.getElem?_set_ne (fun z => w z.symm), Int.add_zero]
    intro t
    have go : ∀ (ls : List (List Int)) (k : Nat), ls[k]? = some l → hd (ls.set k (l.set i (c + d))) (t : Int) = hd ls (t : Int) + (if t % l.length = i then d else 0) := by
      intro ls
      induction ls with
      | nil =>
        intro k hk
        simp at hk
      | cons x r ih =>
        intro k hk
        cases k with
        | zero =>
          have ex : x = l := Option.some.inj hk
          subst ex
          show hd (x.set i (c + d) :: r) (t : Int) = _
          rw [hd_cons, hd_cons, at1]
          omega
        | succ k =>
          show hd (x :: r.set k (l.set i (c + d))) (t : Int) = _
          rw [hd_cons, hd_cons, ih k hk]
          omega
    exact go ls k hk
  refine ⟨?_, fun s hs => ?_⟩
  · rw [key, hz, Nat.mod_eq_of_lt il, if_pos rfl]
    show 0 + d ≠ 0
    omega
  · rw [key, hz, Nat.mod_eq_of_lt (by omega), if_neg (by omega)]
    rfl
theorem hAt_map {l : List Int} {f : Int → Int} (t : Int) (h : 1 ≤ l.length) : hAt (l.map f) t = f (hAt l t) := by
  unfold hAt
  have q := fm_lt (t := t) h
  rw [List.length_map, List.getD_eq_getElem?_getD, List.getD_eq_getElem?_getD, List.getElem?_map, List.getElem?_eq_getElem q]
  rfl
theorem hAt_two {l : List Int} (t : Int) (h : 1 ≤ l.length) : hAt (l ++ l) t = hAt l t := by
  unfold hAt
  rw [fm h, fm (by rw [List.length_append]; omega), List.length_append, List.getD_eq_getElem?_getD, List.getD_eq_getElem?_getD]
  have a0 := Int.emod_nonneg t (show (l.length : Int) ≠ 0 by omega)
  have a1 := Int.emod_lt_of_pos t (show (0 : Int) < (l.length : Int) by omega)
  have b0 := Int.emod_nonneg t (show ((l.length + l.length : Nat) : Int) ≠ 0 by omega)
  have b1 := Int.emod_lt_of_pos t (show (0 : Int) < ((l.length + l.length : Nat) : Int) by omega)
  have e : (t % ((l.length + l.length : Nat) : Int)) % (l.length : Int) = t % (l.length : Int) := Int.emod_emod_of_dvd t ⟨2, by omega⟩
  by_cases q : t % ((l.length + l.length : Nat) : Int) < (l.length : Int)
  · rw [Int.emod_eq_of_lt b0 q] at e
    rw [e, List.getElem?_append_left (by omega)]
  · have e2 : t % ((l.length + l.length : Nat) : Int) = t % (l.length : Int) + l.length := by
      have w : (t % ((l.length + l.length : Nat) : Int) - l.length) % (l.length : Int) = t % (l.length : Int) := by
        rw [Int.sub_emod_right]
        exact e
      rw [Int.emod_eq_of_lt (by omega) (by omega)] at w
      omega
    rw [e2, List.getElem?_append_right (by omega)]
    congr 2
    omega
end My

/-! The weights of lengths: products of rings. -/
namespace My
open PySem PySem.Spec PyProof.Rows L2
/-! ### lists as polynomials -/
def PV : List Int → Int → Int
  | [], _ => 0
  | a :: r, x => a + x * PV r x
theorem PV_app : ∀ (p q : List Int) (x : Int), PV (p ++ q) x = PV p x + x ^ p.length * PV q x
  | [], q, x => by
    show PV q x = 0 + x ^ 0 * PV q x
    rw [Int.pow_zero]
    omega
  | a :: r, q, x => by
    show a + x * PV (r ++ q) x = a + x * PV r x + x ^ (r.length + 1) * PV q x
    rw [PV_app r q x, Int.pow_succ, Int.mul_add, Int.mul_comm (x ^ r.length) x, Int.mul_assoc]
    omega
theorem PV_zero (n : Nat) (x : Int) : PV (List.replicate n 0) x = 0 := by
  induction n with
  | zero => rfl
  | succ n ih =>
    show 0 + x * PV (List.replicate n 0) x = 0
    rw [ih]
    omega
theorem PV_sub : ∀ (p q : List Int) (x : Int), p.length = q.length → PV (List.zipWith (· - ·) p q) x = PV p x - PV q x
  | [], [], _, _ => rfl
  | a :: p, b :: q, x, h => by
    have ih := PV_sub p q x (Nat.succ.inj h)
    show a - b + x * PV (List.zipWith (· - ·) p q) x = a + x * PV p x - (b + x * PV q x)
    rw [ih, Int.mul_sub]
    omega
/-- times x ^ d - 1 -/
def timesR (p : List Int) (d : Nat) : List Int := List.zipWith (· - ·) (List.replicate d 0 ++ p) (p ++ List.replicate d 0)
theorem timesR_len (p : List Int) (d : Nat) : (timesR p d).length = p.length + d := by
  unfold timesR
  rw [List.length_zipWith, List.length_append, List.length_append, List.length_replicate]
  omega
theorem PV_timesR (p : List Int) (d : Nat) (x : Int) : PV (timesR p d) x = PV p x * (x ^ d - 1) := by
  unfold timesR
  rw [PV_sub _ _ _ (by rw [List.length_append, List.length_append, List.length_replicate]; omega), PV_app, PV_app, PV_zero, List.length_replicate, Int.mul_sub, Int.mul_one, Int.mul_zero, Int.mul_comm (x ^ d)]
  omega
theorem timesR_get {p : List Int} {d i : Nat} (h : i < p.length + d) : (timesR p d)[i]? = some ((if d ≤ i then p.getD (i - d) 0 else 0) - p.getD i 0) := by
  unfold timesR
  rw [List.getElem?_zipWith]
  have e1 : (List.replicate d (0 : Int) ++ p)[i]? = some (if d ≤ i then p.getD (i - d) 0 else 0) := by
    by_cases q : d ≤ i
    · rw [if_pos q, List.getElem?_append_right (by rw [List.length_replicate]; exact q), List.length_replicate, List.getD_eq_getElem?_getD, List.getElem?_eq_getElem (by omega)]
      rfl
    · rw [if_neg q, List.getElem?_append_left (by rw [List.length_replicate]; omega), List.getElem?_replicate, if_pos (by omega)]
  have e2 : (p ++ List.replicate d (0 : Int))[i]? = some (p.getD i 0) := by
    by_cases q : i < p.length
    · rw [List.getElem?_append_left q, List.getD_eq_getElem?_getD, List.getElem?_eq_getElem q]
      rfl
    · rw [List.getElem?_append_right (by omega), List.getElem?_replicate, if_pos (by omega), List.getD_eq_getElem?_getD, List.getElem?_eq_none (by omega)]
      rfl
  rw [e1, e2]
/-- the same at all numbers, the same -/
theorem PV_nil : ∀ (p : List Int), (∀ x : Int, x ≠ 0 → PV p x = 0) → ∀ i, p.getD i 0 = 0
  | [], _, i => by simp
  | a :: r, h, i => by
    have a0 : a = 0 := by
      have q := h ((a.natAbs : Int) + 1) (by omega)
      have q' : a + ((a.natAbs : Int) + 1) * PV r ((a.natAbs : Int) + 1) = 0 := q
      have dv : ((a.natAbs : Int) + 1) ∣ a := ⟨-PV r ((a.natAbs : Int) + 1), by rw [Int.mul_neg]; omega⟩
      refine Classical.byContradiction fun z => ?_
      have l := Int.natAbs_dvd_natAbs.mpr dv
      have := Nat.le_of_dvd (by omega) l
      omega
    have ih := PV_nil r fun x hx => by
      have q : a + x * PV r x = 0 := h x hx
      rw [a0, Int.zero_add] at q
      rcases Int.mul_eq_zero.mp q with w | w
      · exact absurd w hx
      · exact w
    cases i with
    | zero => exact a0
    | succ i => exact ih i
theorem PV_inj {p q : List Int} (hl : p.length = q.length) (h : ∀ x : Int, x ≠ 0 → PV p x = PV q x) : p = q := by
  have z := PV_nil (List.zipWith (· - ·) p q) fun x hx => by rw [PV_sub p q x hl, h x hx]; omega
  refine List.ext_getElem? fun i => ?_
  by_cases hi : i < p.length
  · have w := z i
    rw [List.getD_eq_getElem?_getD, List.getElem?_zipWith, List.getElem?_eq_getElem hi, List.getElem?_eq_getElem (by omega : i < q.length)] at w
    have w' : p[i] - q[i] = 0 := w
    rw [List.getElem?_eq_getElem hi, List.getElem?_eq_getElem (by omega : i < q.length)]
    congr 1
    omega
  · rw [List.getElem?_eq_none (by omega), List.getElem?_eq_none (by omega)]
/-- the quotient by x ^ d - 1, so many steps far -/
def quo (p : List Int) (d : Nat) : Nat → List Int
  | 0 => List.replicate d 0
  | i + 1 => quo p d i ++ [(quo p d i).getD i 0 - p.getD i 0]
def overR (p : List Int) (d : Nat) : List Int := (quo p d (p.length - d)).drop d
theorem quo_len (p : List Int) (d : Nat) : ∀ i, (quo p d i).length = d + i
  | 0 => by
    show (List.replicate d (0 : Int)).length = _
    rw [List.length_replicate]
    rfl
  | i + 1 => by
    show (quo p d i ++ [_]).length = _
    rw [List.length_append, quo_len p d i]
    rfl
theorem overR_len (p : List Int) (d : Nat) : (overR p d).length = p.length - d := by
  unfold overR
  rw [List.length_drop, quo_len]
  omega
theorem over_times {q : List Int} {d : Nat} (d1 : 1 ≤ d) : overR (timesR q d) d = q := by
  have key : ∀ i, i ≤ q.length → quo (timesR q d) d i = List.replicate d 0 ++ q.take i := fun i => by
    induction i with
    | zero =>
      intro _
      rw [List.take_zero, List.append_nil]
      rfl
    | succ i ih =>
      intro hi
      show quo (timesR q d) d i ++ [(quo (timesR q d) d i).getD i 0 - (timesR q d).getD i 0] = _
      rw [ih (by omega)]
      have eq : q[i]? = some (q[i]'(by omega)) := List.getElem?_eq_getElem (by omega)
      have e1 : (List.replicate d (0 : Int) ++ q.take i).getD i 0 = if d ≤ i then q.getD (i - d) 0 else 0 := by
        by_cases w : d ≤ i
        · rw [if_pos w, List.getD_eq_getElem?_getD, List.getElem?_append_right (by rw [List.length_replicate]; exact w), List.length_replicate, List.getElem?_take_of_lt (by omega), List.getD_eq_getElem?_getD]
        · rw [if_neg w, List.getD_eq_getElem?_getD, List.getElem?_append_left (by rw [List.length_replicate]; omega), List.getElem?_replicate, if_pos (by omega)]
          rfl
      have e2 : (timesR q d).getD i 0 = (if d ≤ i then q.getD (i - d) 0 else 0) - q.getD i 0 := by
        rw [List.getD_eq_getElem?_getD, timesR_get (by omega)]
        rfl
      have e3 : q.getD i 0 = q[i]'(by omega) := by rw [List.getD_eq_getElem?_getD, eq]; rfl
      rw [e1, e2, take_more eq, List.append_assoc, e3]
      congr 3
      omega
  unfold overR
  rw [timesR_len, key _ (by omega), List.take_of_length_le (by omega), List.drop_append_of_le_length (by rw [List.length_replicate]; exact Nat.le_refl _), List.drop_of_length_le (by rw [List.length_replicate]; exact Nat.le_refl _)]
  rfl
/-! ### products -/
def addP : List Int → List Int → List Int
  | [], q => q
  | p, [] => p
  | a :: p, b :: q => (a + b) :: addP p q
theorem addP_len : ∀ p q : List Int, (addP p q).length = max p.length q.length
  | [], q => by
    show q.length = max 0 q.length
    omega
  | a :: p, [] => by
    show (a :: p).length = max (a :: p).length 0
    omega
  | a :: p, b :: q => by
    show (addP p q).length + 1 = max (p.length + 1) (q.length + 1)
    rw [addP_len p q]
    omega
theorem PV_addP : ∀ (p q : List Int) (x : Int), PV (addP p q) x = PV p x + PV q x
  | [], q, x => by
    show PV q x = 0 + PV q x
    omega
  | a :: p, [], x => by
    show PV (a :: p) x = PV (a :: p) x + 0
    omega
  | a :: p, b :: q, x => by
    show a + b + x * PV (addP p q) x = a + x * PV p x + (b + x * PV q x)
    rw [PV_addP p q x, Int.mul_add]
    omega
theorem PV_scale (a : Int) : ∀ (q : List Int) (x : Int), PV (q.map fun b => a * b) x = a * PV q x
  | [], _ => (Int.mul_zero a).symm
  | b :: q, x => by
    show a * b + x * PV (q.map fun b => a * b) x = a * (b + x * PV q x)
    rw [PV_scale a q x, Int.mul_add, Int.mul_left_comm]
def mulP : List Int → List Int → List Int
  | [], _ => []
  | [a], q => q.map fun b => a * b
  | a :: c :: p, q => addP (q.map fun b => a * b) (0 :: mulP (c :: p) q)
theorem mulP_len : ∀ p q : List Int, 1 ≤ p.length → 1 ≤ q.length → (mulP p q).length + 1 = p.length + q.length
  | [a], q, _, _ => by
    show (q.map fun b => a * b).length + 1 = 1 + q.length
    rw [List.length_map]
    omega
  | a :: c :: p, q, _, hq => by
    have ih := mulP_len (c :: p) q (by simp) hq
    show (addP (q.map fun b => a * b) (0 :: mulP (c :: p) q)).length + 1 = (c :: p).length + 1 + q.length
    rw [addP_len, List.length_map, List.length_cons]
    simp only [List.length_cons] at ih ⊢
    omega
theorem PV_mulP : ∀ (p q : List Int) (x : Int), PV (mulP p q) x = PV p x * PV q x
  | [], q, x => (Int.zero_mul _).symm
  | [a], q, x => by
    show PV (q.map fun b => a * b) x = (a + x * 0) * PV q x
    rw [PV_scale, Int.mul_zero, Int.add_zero]
  | a :: c :: p, q, x => by
    have ih := PV_mulP (c :: p) q x
    show PV (addP (q.map fun b => a * b) (0 :: mulP (c :: p) q)) x = (a + x * PV (c :: p) x) * PV q x
    rw [PV_addP, PV_scale]
    show a * PV q x + (0 + x * PV (mulP (c :: p) q) x) = _
    rw [ih, Int.add_mul, Int.mul_assoc, Int.zero_add]
def powP (p q : List Int) : Nat → List Int
  | 0 => p
  | k + 1 => mulP (powP p q k) q
theorem powP_len (p q : List Int) (hp : 1 ≤ p.length) (hq : 1 ≤ q.length) : ∀ k, (powP p q k).length = p.length + k * (q.length - 1)
  | 0 => by
    show p.length = p.length + 0 * _
    omega
  | k + 1 => by
    have ih := powP_len p q hp hq k
    have e := mulP_len (powP p q k) q (by omega) hq
    show (mulP (powP p q k) q).length = _
    rw [Nat.succ_mul]
    omega
theorem PV_powP (p q : List Int) (x : Int) : ∀ k, PV (powP p q k) x = PV p x * PV q x ^ k
  | 0 => by
    show PV p x = PV p x * PV q x ^ 0
    rw [Int.pow_zero, Int.mul_one]
  | k + 1 => by
    show PV (mulP (powP p q k) q) x = _
    rw [PV_mulP, PV_powP p q x k, Int.pow_succ, Int.mul_assoc]
/-- what the rings are products of -/
def cycT : List (List Int) := [[], [-1, 1], [1, 1], [1, 1, 1], [1, 0, 1], [1, 1, 1, 1, 1], [1, -1, 1], [1, 1, 1, 1, 1, 1, 1], [1, 0, 0, 0, 1], [1, 0, 0, 1, 0, 0, 1], [1, -1, 1, -1, 1], [1, 1, 1, 1, 1, 1, 1, 1, 1, 1, 1], [1, 0, -1, 0, 1], [1, 1, 1, 1, 1, 1, 1, 1, 1, 1, 1, 1, 1], [1, -1, 1, -1, 1, -1, 1], [1, -1, 0, 1, -1, 1, 0, -1, 1], [1, 0, 0, 0, 0, 0, 0, 0, 1], [1, 1, 1, 1, 1, 1, 1, 1, 1, 1, 1, 1, 1, 1, 1, 1, 1], [1, 0, 0, -1, 0, 0, 1], [1, 1, 1, 1, 1, 1, 1, 1, 1, 1, 1, 1, 1, 1, 1, 1, 1, 1, 1], [1, 0, -1, 0, 1, 0, -1, 0, 1], [1, -1, 0, 1, -1, 0, 1, 0, -1, 1, 0, -1, 1], [1, -1, 1, -1, 1, -1, 1, -1, 1, -1, 1], [1, 1, 1, 1, 1, 1, 1, 1, 1, 1, 1, 1, 1, 1, 1, 1, 1, 1, 1, 1, 1, 1, 1], [1, 0, 0, 0, -1, 0, 0, 0, 1], [1, 0, 0, 0, 0, 1, 0, 0, 0, 0, 1, 0, 0, 0, 0, 1, 0, 0, 0, 0, 1], [1, -1, 1, -1, 1, -1, 1, -1, 1, -1, 1, -1, 1], [1, 0, 0, 0, 0, 0, 0, 0, 0, 1, 0, 0, 0, 0, 0, 0, 0, 0, 1], [1, 0, -1, 0, 1, 0, -1, 0, 1, 0, -1, 0, 1], [1, 1, 1, 1, 1, 1, 1, 1, 1, 1, 1, 1, 1, 1, 1, 1, 1, 1, 1, 1, 1, 1, 1, 1, 1, 1, 1, 1, 1], [1, 1, 0, -1, -1, -1, 0, 1, 1], [1, 1, 1, 1, 1, 1, 1, 1, 1, 1, 1, 1, 1, 1, 1, 1, 1, 1, 1, 1, 1, 1, 1, 1, 1, 1, 1, 1, 1, 1, 1], [1, 0, 0, 0, 0, 0, 0, 0, 0, 0, 0, 0, 0, 0, 0, 0, 1], [1, -1, 0, 1, -1, 0, 1, -1, 0, 1, -1, 1, 0, -1, 1, 0, -1, 1, 0, -1, 1], [1, -1, 1, -1, 1, -1, 1, -1, 1, -1, 1, -1, 1, -1, 1, -1, 1], [1, -1, 0, 0, 0, 1, -1, 1, -1, 0, 1, -1, 1, -1, 1, 0, -1, 1, -1, 1, 0, 0, 0, -1, 1], [1, 0, 0, 0, 0, 0, -1, 0, 0, 0, 0, 0, 1], [1, 1, 1, 1, 1, 1, 1, 1, 1, 1, 1, 1, 1, 1, 1, 1, 1, 1, 1, 1, 1, 1, 1, 1, 1, 1, 1, 1, 1, 1, 1, 1, 1, 1, 1, 1, 1], [1, -1, 1, -1, 1, -1, 1, -1, 1, -1, 1, -1, 1, -1, 1, -1, 1, -1, 1], [1, -1, 0, 1, -1, 0, 1, -1, 0, 1, -1, 0, 1, 0, -1, 1, 0, -1, 1, 0, -1, 1, 0, -1, 1], [1, 0, 0, 0, -1, 0, 0, 0, 1, 0, 0, 0, -1, 0, 0, 0, 1], [1, 1, 1, 1, 1, 1, 1, 1, 1, 1, 1, 1, 1, 1, 1, 1, 1, 1, 1, 1, 1, 1, 1, 1, 1, 1, 1, 1, 1, 1, 1, 1, 1, 1, 1, 1, 1, 1, 1, 1, 1], [1, 1, 0, -1, -1, 0, 1, 0, -1, -1, 0, 1, 1], [1, 1, 1, 1, 1, 1, 1, 1, 1, 1, 1, 1, 1, 1, 1, 1, 1, 1, 1, 1, 1, 1, 1, 1, 1, 1, 1, 1, 1, 1, 1, 1, 1, 1, 1, 1, 1, 1, 1, 1, 1, 1, 1], [1, 0, -1, 0, 1, 0, -1, 0, 1, 0, -1, 0, 1, 0, -1, 0, 1, 0, -1, 0, 1], [1, 0, 0, -1, 0, 0, 0, 0, 0, 1, 0, 0, -1, 0, 0, 1, 0, 0, 0, 0, 0, -1, 0, 0, 1], [1, -1, 1, -1, 1, -1, 1, -1, 1, -1, 1, -1, 1, -1, 1, -1, 1, -1, 1, -1, 1, -1, 1], [1, 1, 1, 1, 1, 1, 1, 1, 1, 1, 1, 1, 1, 1, 1, 1, 1, 1, 1, 1, 1, 1, 1, 1, 1, 1, 1, 1, 1, 1, 1, 1, 1, 1, 1, 1, 1, 1, 1, 1, 1, 1, 1, 1, 1, 1, 1], [1, 0, 0, 0, 0, 0, 0, 0, -1, 0, 0, 0, 0, 0, 0, 0, 1], [1, 0, 0, 0, 0, 0, 0, 1, 0, 0, 0, 0, 0, 0, 1, 0, 0, 0, 0, 0, 0, 1, 0, 0, 0, 0, 0, 0, 1, 0, 0, 0, 0, 0, 0, 1, 0, 0, 0, 0, 0, 0, 1], [1, 0, 0, 0, 0, -1, 0, 0, 0, 0, 1, 0, 0, 0, 0, -1, 0, 0, 0, 0, 1], [1, -1, 0, 1, -1, 0, 1, -1, 0, 1, -1, 0, 1, -1, 0, 1, -1, 1, 0, -1, 1, 0, -1, 1, 0, -1, 1, 0, -1, 1, 0, -1, 1], [1, 0, -1, 0, 1, 0, -1, 0, 1, 0, -1, 0, 1, 0, -1, 0, 1, 0, -1, 0, 1, 0, -1, 0, 1], [1, 1, 1, 1, 1, 1, 1, 1, 1, 1, 1, 1, 1, 1, 1, 1, 1, 1, 1, 1, 1, 1, 1, 1, 1, 1, 1, 1, 1, 1, 1, 1, 1, 1, 1, 1, 1, 1, 1, 1, 1, 1, 1, 1, 1, 1, 1, 1, 1, 1, 1, 1, 1], [1, 0, 0, 0, 0, 0, 0, 0, 0, -1, 0, 0, 0, 0, 0, 0, 0, 0, 1], [1, -1, 0, 0, 0, 1, -1, 0, 0, 0, 1, 0, -1, 0, 0, 1, 0, -1, 0, 0, 1, 0, 0, -1, 0, 1, 0, 0, -1, 0, 1, 0, 0, 0, -1, 1, 0, 0, 0, -1, 1], [1, 0, 0, 0, -1, 0, 0, 0, 1, 0, 0, 0, -1, 0, 0, 0, 1, 0, 0, 0, -1, 0, 0, 0, 1], [1, -1, 0, 1, -1, 0, 1, -1, 0, 1, -1, 0, 1, -1, 0, 1, -1, 0, 1, 0, -1, 1, 0, -1, 1, 0, -1, 1, 0, -1, 1, 0, -1, 1, 0, -1, 1], [1, -1, 1, -1, 1, -1, 1, -1, 1, -1, 1, -1, 1, -1, 1, -1, 1, -1, 1, -1, 1, -1, 1, -1, 1, -1, 1, -1, 1], [1, 1, 1, 1, 1, 1, 1, 1, 1, 1, 1, 1, 1, 1, 1, 1, 1, 1, 1, 1, 1, 1, 1, 1, 1, 1, 1, 1, 1, 1, 1, 1, 1, 1, 1, 1, 1, 1, 1, 1, 1, 1, 1, 1, 1, 1, 1, 1, 1, 1, 1, 1, 1, 1, 1, 1, 1, 1, 1], [1, 0, 1, 0, 0, 0, -1, 0, -1, 0, -1, 0, 0, 0, 1, 0, 1], [1, 1, 1, 1, 1, 1, 1, 1, 1, 1, 1, 1, 1, 1, 1, 1, 1, 1, 1, 1, 1, 1, 1, 1, 1, 1, 1, 1, 1, 1, 1, 1, 1, 1, 1, 1, 1, 1, 1, 1, 1, 1, 1, 1, 1, 1, 1, 1, 1, 1, 1, 1, 1, 1, 1, 1, 1, 1, 1, 1, 1], [1, -1, 1, -1, 1, -1, 1, -1, 1, -1, 1, -1, 1, -1, 1, -1, 1, -1, 1, -1, 1, -1, 1, -1, 1, -1, 1, -1, 1, -1, 1], [1, 0, 0, -1, 0, 0, 0, 0, 0, 1, 0, 0, -1, 0, 0, 0, 0, 0, 1, 0, 0, 0, 0, 0, -1, 0, 0, 1, 0, 0, 0, 0, 0, -1, 0, 0, 1], [1, 0, 0, 0, 0, 0, 0, 0, 0, 0, 0, 0, 0, 0, 0, 0, 0, 0, 0, 0, 0, 0, 0, 0, 0, 0, 0, 0, 0, 0, 0, 0, 1]]
def cyc (n : Nat) : List Int := cycT.getD n []
def ph (n : Nat) : Nat := (cyc n).length - 1
theorem cyc_len : ∀ n, n < 65 → 1 ≤ n → 1 ≤ (cyc n).length := by decide +kernel
def GP (c : Nat → Nat) (x : Int) : Nat → Int
  | 0 => 1
  | n + 1 => GP c x n * PV (cyc (n + 1)) x ^ c (n + 1)
def RL (c : Nat → Nat) : Nat → List Int
  | 0 => [1]
  | n + 1 => powP (RL c n) (cyc (n + 1)) (c (n + 1))
def LN (c : Nat → Nat) : Nat → Nat
  | 0 => 1
  | n + 1 => LN c n + c (n + 1) * ph (n + 1)
theorem RL_ok (c : Nat → Nat) : ∀ n, n ≤ 64 → (RL c n).length = LN c n ∧ ∀ x, PV (RL c n) x = GP c x n
  | 0, _ => ⟨rfl, fun x => by show 1 + x * 0 = 1; omega⟩
  | n + 1, h => by
    obtain ⟨h1, h2⟩ := RL_ok c n (by omega)
    have L1 : ∀ m, 1 ≤ LN c m := fun m => by
      induction m with
      | zero => exact Nat.le_refl 1
      | succ m ih =>
        show 1 ≤ LN c m + _
        omega
    refine ⟨?_, fun x => ?_⟩
    · show (powP (RL c n) (cyc (n + 1)) (c (n + 1))).length = LN c n + c (n + 1) * ph (n + 1)
      rw [powP_len _ _ (by rw [h1]; exact L1 n) (cyc_len (n + 1) (by omega) (by omega)), h1]
      rfl
    · show PV (powP (RL c n) (cyc (n + 1)) (c (n + 1))) x = GP c x n * PV (cyc (n + 1)) x ^ c (n + 1)
      rw [PV_powP, h2]
theorem GP_add (c d : Nat → Nat) (x : Int) : ∀ n, GP (fun e => c e + d e) x n = GP c x n * GP d x n
  | 0 => rfl
  | n + 1 => by
    show GP (fun e => c e + d e) x n * PV (cyc (n + 1)) x ^ (c (n + 1) + d (n + 1)) = GP c x n * PV (cyc (n + 1)) x ^ c (n + 1) * (GP d x n * PV (cyc (n + 1)) x ^ d (n + 1))
    rw [GP_add c d x n, Int.pow_add]
    simp only [Int.mul_assoc, Int.mul_left_comm, Int.mul_comm]
theorem LN_add (c d : Nat → Nat) : ∀ n, LN (fun e => c e + d e) n + 1 = LN c n + LN d n
  | 0 => rfl
  | n + 1 => by
    have ih := LN_add c d n
    show LN (fun e => c e + d e) n + (c (n + 1) + d (n + 1)) * ph (n + 1) + 1 = LN c n + c (n + 1) * ph (n + 1) + (LN d n + d (n + 1) * ph (n + 1))
    rw [Nat.add_mul]
    omega
theorem GP_congr {c d : Nat → Nat} (x : Int) : ∀ n, (∀ e, 1 ≤ e → e ≤ n → c e = d e) → GP c x n = GP d x n
  | 0, _ => rfl
  | n + 1, h => by
    show GP c x n * PV (cyc (n + 1)) x ^ c (n + 1) = GP d x n * PV (cyc (n + 1)) x ^ d (n + 1)
    rw [GP_congr x n fun e h1 h2 => h e h1 (by omega), h (n + 1) (by omega) (Nat.le_refl _)]
theorem LN_congr {c d : Nat → Nat} : ∀ n, (∀ e, 1 ≤ e → e ≤ n → c e = d e) → LN c n = LN d n
  | 0, _ => rfl
  | n + 1, h => by
    show LN c n + c (n + 1) * ph (n + 1) = LN d n + d (n + 1) * ph (n + 1)
    rw [LN_congr n fun e h1 h2 => h e h1 (by omega), h (n + 1) (by omega) (Nat.le_refl _)]
/-- the divisors -/
def ind (d e : Nat) : Nat := if d % e = 0 then 1 else 0
theorem ring_is : ∀ d, d < 65 → 1 ≤ d → timesR [1] d = RL (ind d) 64 := by decide +kernel
theorem ring_GP {d : Nat} (h1 : 1 ≤ d) (h2 : d ≤ 64) (x : Int) : GP (ind d) x 64 = x ^ d - 1 := by
  rw [← (RL_ok (ind d) 64 (Nat.le_refl _)).2 x, ← ring_is d (by omega) h1, PV_timesR]
  show (1 + x * 0) * (x ^ d - 1) = _
  rw [Int.mul_zero, Int.add_zero, Int.one_mul]
theorem ring_LN {d : Nat} (h1 : 1 ≤ d) (h2 : d ≤ 64) : LN (ind d) 64 = d + 1 := by
  rw [← (RL_ok (ind d) 64 (Nat.le_refl _)).1, ← ring_is d (by omega) h1, timesR_len]
  show 1 + d = d + 1
  omega
/-- a product with so many of each -/
def PSta (p : List Int) (c : Nat → Nat) : Prop := p.length = LN c 64 ∧ ∀ x, PV p x = GP c x 64
theorem PSta.one : PSta [1] (fun _ => 0) := by
  have go : ∀ n x, GP (fun _ => 0) x n = 1 := fun n x => by
    induction n with
    | zero => rfl
    | succ n ih =>
      show GP (fun _ => 0) x n * PV (cyc (n + 1)) x ^ 0 = 1
      rw [ih, Int.pow_zero]
      rfl
  have go2 : ∀ n, LN (fun _ => 0) n = 1 := fun n => by
    induction n with
    | zero => rfl
    | succ n ih =>
      show LN (fun _ => 0) n + 0 * _ = 1
      rw [ih]
      omega
  refine ⟨(go2 64).symm, fun x => ?_⟩
  rw [go]
  show 1 + x * 0 = 1
  omega
theorem PSta.congr {p : List Int} {c d : Nat → Nat} (h : PSta p c) (e : ∀ n, 1 ≤ n → n ≤ 64 → c n = d n) : PSta p d := ⟨h.1.trans (LN_congr 64 e), fun x => (h.2 x).trans (GP_congr x 64 e)⟩
theorem PSta.times {p : List Int} {c : Nat → Nat} {d : Nat} (h : PSta p c) (h1 : 1 ≤ d) (h2 : d ≤ 64) : PSta (timesR p d) (fun e => c e + ind d e) := by
  refine ⟨?_, fun x => ?_⟩
  · have q := LN_add c (ind d) 64
    rw [ring_LN h1 h2, ← h.1] at q
    rw [timesR_len]
    omega
  · rw [PV_timesR, h.2, GP_add, ring_GP h1 h2]
theorem PSta.eq {p q : List Int} {c : Nat → Nat} (h : PSta p c) (g : PSta q c) : p = q := PV_inj (h.1.trans g.1.symm) fun x _ => (h.2 x).trans (g.2 x).symm
theorem PSta.over {p : List Int} {c : Nat → Nat} {d : Nat} (h : PSta p (fun e => c e + ind d e)) (h1 : 1 ≤ d) (h2 : d ≤ 64) : PSta (overR p d) c ∧ p = timesR (overR p d) d := by
  have q : PSta (RL c 64) c := RL_ok c 64 (Nat.le_refl _)
  have e := h.eq (q.times h1 h2)
  have o : overR p d = RL c 64 := by rw [e, over_times h1]
  rw [o]
  exact ⟨q, e⟩
/-! ### the powers of the rings -/
def bT (n : Nat) : Nat := ([0, 441, 136, 64, 43, 28, 19, 16, 14, 10, 9, 6, 6, 5, 5, 5, 5, 3, 3, 3, 3, 3, 2, 2, 2, 2, 2, 2, 2, 2, 2, 2, 2, 1, 1, 1, 1, 1, 1, 1, 1, 1, 1, 1, 1, 1, 1, 1, 1, 1, 1, 1, 1, 1, 1, 1, 1, 1, 1, 1, 1, 1, 1, 1, 1] : List Nat).getD n 0
def SS (ps : List (Nat × Int)) (e : Nat) : Int := (ps.map fun rq => if rq.1 % e = 0 then rq.2 else 0).sum
theorem SS_app (ps qs : List (Nat × Int)) (e : Nat) : SS (ps ++ qs) e = SS ps e + SS qs e := by
  unfold SS
  rw [List.map_append, List.sum_append]
theorem SS_one (r : Nat) (q : Int) (e : Nat) : SS [(r, q)] e = if r % e = 0 then q else 0 := by
  unfold SS
  simp
def pows (f : Nat → Bool) : Nat → List (Nat × Int)
  | 0 => []
  | i + 1 => if f (64 - i) then pows f i ++ [(64 - i, 1 - SS (pows f i) (64 - i))] else pows f i
theorem pows_mem (f : Nat → Bool) : ∀ i, i ≤ 64 → ∀ rq ∈ pows f i, f rq.1 = true ∧ 64 - i < rq.1 ∧ rq.1 ≤ 64
  | 0, _, rq, h => by cases h
  | i + 1, hi, rq, h => by
    have ih := pows_mem f i (by omega)
    unfold pows at h
    split at h
    · rename_i hf
      rcases List.mem_append.mp h with w | w
      · have := ih rq w
        exact ⟨this.1, by omega, this.2.2⟩
      · rw [List.mem_singleton.mp w]
        exact ⟨hf, by show 64 - (i + 1) < 64 - i; omega, by show 64 - i ≤ 64; omega⟩
    · have := ih rq h
      exact ⟨this.1, by omega, this.2.2⟩
theorem SS_none {ps : List (Nat × Int)} {e : Nat} (h : ∀ rq ∈ ps, rq.1 % e ≠ 0) : SS ps e = 0 := by
  induction ps with
  | nil => rfl
  | cons a r ih =>
    have e1 : SS (a :: r) e = SS [a] e + SS r e := SS_app [a] r e
    rw [e1, ih fun x hx => h x (List.mem_cons_of_mem _ hx)]
    obtain ⟨a1, a2⟩ := a
    rw [SS_one, if_neg (h _ List.mem_cons_self)]
    rfl
/-- closed for divisors -/
def Clo (f : Nat → Bool) : Prop := ∀ r d, 1 ≤ d → d ∣ r → f r = true → f d = true
theorem pows_sum {f : Nat → Bool} (hf : Clo f) : ∀ i, i ≤ 64 → ∀ e, 64 - i < e → e ≤ 64 → SS (pows f i) e = if f e then 1 else 0
  | 0, _, e, h1, h2 => by omega
  | i + 1, hi, e, h1, h2 => by
    have ih := pows_sum hf i (by omega) e
    have mem := pows_mem f i (by omega)
    unfold pows
    by_cases q : e = 64 - i
    · subst q
      split
      · rw [SS_app, SS_one, if_pos (Nat.mod_self _)]
        omega
      · rename_i hn
        refine SS_none fun rq hrq z => hn ?_
        exact hf rq.1 _ (by omega) (Nat.dvd_of_mod_eq_zero z) (mem rq hrq).1
    · split
      · rw [SS_app, SS_one, if_neg (by rw [Nat.mod_eq_of_lt (by omega)]; omega), ih (by omega) h2]
        omega
      · exact ih (by omega) h2
def BS (i r : Nat) : Nat := ((List.range i).map fun j => if (64 - j) % r = 0 then bT (64 - j) else 0).sum
theorem BS_more (i r : Nat) : BS (i + 1) r = BS i r + if (64 - i) % r = 0 then bT (64 - i) else 0 := by
  unfold BS
  rw [List.range_succ, List.map_append, List.sum_append]
  simp
theorem bT_ok : ∀ i, i < 64 → 1 + BS i (64 - i) ≤ bT (64 - i) := by decide +kernel
theorem SS_le (ps : List (Nat × Int)) (e : Nat) : (SS ps e).natAbs ≤ (ps.map fun rq => if rq.1 % e = 0 then rq.2.natAbs else 0).sum := by
  induction ps with
  | nil => exact Nat.le_refl _
  | cons a r ih =>
    have e1 : SS (a :: r) e = SS [a] e + SS r e := SS_app [a] r e
    rw [e1, List.map_cons, List.sum_cons]
    obtain ⟨a1, a2⟩ := a
    rw [SS_one]
    have t := Int.natAbs_add_le (if a1 % e = 0 then a2 else 0) (SS r e)
    have z : (if a1 % e = 0 then a2 else 0).natAbs = if a1 % e = 0 then a2.natAbs else 0 := by split <;> rfl
    show _ ≤ (if a1 % e = 0 then a2.natAbs else 0) + _
    omega
theorem pows_abs (f : Nat → Bool) : ∀ i, i ≤ 64 → ∀ r, ((pows f i).map fun rq => if rq.1 % r = 0 then rq.2.natAbs else 0).sum ≤ BS i r
  | 0, _, r => Nat.le_refl _
  | i + 1, hi, r => by
    have ih := pows_abs f i (by omega) r
    have ih2 := pows_abs f i (by omega) (64 - i)
    rw [BS_more]
    unfold pows
    split
    · rw [List.map_append, List.sum_append]
      have s := SS_le (pows f i) (64 - i)
      have b := bT_ok i (by omega)
      have t : (1 - SS (pows f i) (64 - i)).natAbs ≤ bT (64 - i) := by omega
      show _ + (([(64 - i, 1 - SS (pows f i) (64 - i))].map fun rq => if rq.1 % r = 0 then rq.2.natAbs else 0).sum) ≤ _
      have z : ([(64 - i, 1 - SS (pows f i) (64 - i))].map fun rq => if rq.1 % r = 0 then rq.2.natAbs else 0).sum = if (64 - i) % r = 0 then (1 - SS (pows f i) (64 - i)).natAbs else 0 := by simp
      rw [z]
      split <;> omega
    · omega
def WS (i : Nat) : Nat := ((List.range i).map fun j => bT (64 - j) * (64 - j)).sum
theorem WS_more (i : Nat) : WS (i + 1) = WS i + bT (64 - i) * (64 - i) := by
  unfold WS
  rw [List.range_succ, List.map_append, List.sum_append]
  simp
theorem WS_all : WS 64 ≤ 4594 := by decide +kernel
theorem pows_size (f : Nat → Bool) : ∀ i, i ≤ 64 → ((pows f i).map fun rq => rq.2.natAbs * rq.1).sum ≤ WS i
  | 0, _ => Nat.le_refl _
  | i + 1, hi => by
    have ih := pows_size f i (by omega)
    have ih2 := pows_abs f i (by omega) (64 - i)
    rw [WS_more]
    unfold pows
    split
    · rw [List.map_append, List.sum_append]
      have s := SS_le (pows f i) (64 - i)
      have b := bT_ok i (by omega)
      have t : (1 - SS (pows f i) (64 - i)).natAbs ≤ bT (64 - i) := by omega
      have z : ([(64 - i, 1 - SS (pows f i) (64 - i))].map fun rq => rq.2.natAbs * rq.1).sum = (1 - SS (pows f i) (64 - i)).natAbs * (64 - i) := by simp
      rw [z]
      have := Nat.mul_le_mul_right (64 - i) t
      omega
    · omega
/-! ### the weights, as the program makes them -/
def timesN (p : List Int) (r : Nat) : Nat → List Int
  | 0 => p
  | n + 1 => timesR (timesN p r n) r
def overN (p : List Int) (r : Nat) : Nat → List Int
  | 0 => p
  | n + 1 => overR (overN p r n) r
def posR (ps : List (Nat × Int)) (p : List Int) : List Int := ps.foldl (fun p rq => timesN p rq.1 rq.2.toNat) p
def negR (ps : List (Nat × Int)) (p : List Int) : List Int := ps.foldl (fun p rq => overN p rq.1 (-rq.2).toNat) p
def Wl (f : Nat → Bool) : List Int := negR (pows f 64) (posR (pows f 64) [1])
theorem timesN_len (p : List Int) (r : Nat) : ∀ n, (timesN p r n).length = p.length + n * r
  | 0 => by
    show p.length = p.length + 0 * r
    omega
  | n + 1 => by
    show (timesR (timesN p r n) r).length = _
    rw [timesR_len, timesN_len p r n, Nat.succ_mul]
    omega
theorem overN_len (p : List Int) (r : Nat) : ∀ n, (overN p r n).length ≤ p.length
  | 0 => Nat.le_refl _
  | n + 1 => by
    have ih := overN_len p r n
    show (overR (overN p r n) r).length ≤ _
    rw [overR_len]
    omega
theorem posR_len (ps : List (Nat × Int)) : ∀ p : List Int, (posR ps p).length ≤ p.length + (ps.map fun rq => rq.2.natAbs * rq.1).sum := by
  induction ps with
  | nil => exact fun p => Nat.le_refl _
  | cons a r ih =>
    intro p
    have q := ih (timesN p a.1 a.2.toNat)
    rw [timesN_len] at q
    show (posR r (timesN p a.1 a.2.toNat)).length ≤ _
    rw [List.map_cons, List.sum_cons]
    have := Nat.mul_le_mul_right a.1 (show a.2.toNat ≤ a.2.natAbs by omega)
    omega
theorem negR_len (ps : List (Nat × Int)) : ∀ p : List Int, (negR ps p).length ≤ p.length := by
  induction ps with
  | nil => exact fun p => Nat.le_refl _
  | cons a r ih =>
    intro p
    exact Nat.le_trans (ih _) (overN_len p a.1 _)
def cpos (ps : List (Nat × Int)) (e : Nat) : Nat := (ps.map fun rq => rq.2.toNat * ind rq.1 e).sum
def cneg (ps : List (Nat × Int)) (e : Nat) : Nat := (ps.map fun rq => (-rq.2).toNat * ind rq.1 e).sum
theorem PSta.timesN {p : List Int} {c : Nat → Nat} {r : Nat} (h : PSta p c) (h1 : 1 ≤ r) (h2 : r ≤ 64) : ∀ n, PSta (timesN p r n) (fun e => c e + n * ind r e)
  | 0 => h.congr fun e _ _ => by omega
  | n + 1 => ((PSta.timesN h h1 h2 n).times h1 h2).congr fun e _ _ => by rw [Nat.succ_mul]; omega
theorem PSta.posR : ∀ {ps : List (Nat × Int)} {p : List Int} {c : Nat → Nat}, PSta p c → (∀ rq ∈ ps, 1 ≤ rq.1 ∧ rq.1 ≤ 64) → PSta (posR ps p) (fun e => c e + cpos ps e)
  | [], p, c, h, _ => h.congr fun e _ _ => rfl
  | a :: r, p, c, h, hb => by
    have q := (PSta.timesN h (hb a List.mem_cons_self).1 (hb a List.mem_cons_self).2 a.2.toNat).posR (ps := r) fun x hx => hb x (List.mem_cons_of_mem _ hx)
    refine q.congr fun e _ _ => ?_
    unfold cpos
    rw [List.map_cons, List.sum_cons]
    omega
theorem PSta.overN {c : Nat → Nat} {r : Nat} (h1 : 1 ≤ r) (h2 : r ≤ 64) : ∀ (n : Nat) {p : List Int}, PSta p (fun e => c e + n * ind r e) → PSta (overN p r n) c
  | 0, p, h => h.congr fun e _ _ => by omega
  | n + 1, p, h => by
    have go : ∀ (k j : Nat) (p : List Int), k + j = n + 1 → PSta p (fun e => c e + (n + 1) * ind r e) → PSta (My.overN p r k) (fun e => c e + j * ind r e) := fun k => by
      induction k with
      | zero =>
        intro j p hj hp
        have : j = n + 1 := by omega
        subst this
        exact hp
      | succ k ih =>
        intro j p hj hp
        have q := ih (j + 1) p (by omega) hp
        have q' : PSta (My.overN p r k) (fun e => (c e + j * ind r e) + ind r e) := q.congr fun e _ _ => by rw [Nat.succ_mul]; omega
        exact (q'.over h1 h2).1
    exact (go (n + 1) 0 p (by omega) h).congr fun e _ _ => by omega
theorem PSta.negR : ∀ {ps : List (Nat × Int)} {p : List Int} {c : Nat → Nat}, PSta p (fun e => c e + cneg ps e) → (∀ rq ∈ ps, 1 ≤ rq.1 ∧ rq.1 ≤ 64) → PSta (negR ps p) c
  | [], p, c, h, _ => h.congr fun e _ _ => rfl
  | a :: r, p, c, h, hb => by
    have h' : PSta p (fun e => (c e + cneg r e) + (-a.2).toNat * ind a.1 e) := h.congr fun e _ _ => by
      unfold cneg
      rw [List.map_cons, List.sum_cons]
      omega
    have q := PSta.overN (hb a List.mem_cons_self).1 (hb a List.mem_cons_self).2 (-a.2).toNat h'
    exact PSta.negR (ps := r) q fun x hx => hb x (List.mem_cons_of_mem _ hx)
theorem cpn (ps : List (Nat × Int)) (e : Nat) : (cpos ps e : Int) - cneg ps e = SS ps e := by
  induction ps with
  | nil => rfl
  | cons a r ih =>
    have e1 : SS (a :: r) e = SS [a] e + SS r e := SS_app [a] r e
    have e2 : cpos (a :: r) e = a.2.toNat * ind a.1 e + cpos r e := by
      unfold cpos
      rw [List.map_cons, List.sum_cons]
    have e3 : cneg (a :: r) e = (-a.2).toNat * ind a.1 e + cneg r e := by
      unfold cneg
      rw [List.map_cons, List.sum_cons]
    obtain ⟨a1, a2⟩ := a
    rw [e1, e2, e3, ← ih, SS_one]
    unfold ind
    split <;> omega
def fin (f : Nat → Bool) (e : Nat) : Nat := if f e then 1 else 0
theorem Wl_sta {f : Nat → Bool} (hf : Clo f) : PSta (Wl f) (fin f) := by
  have mem : ∀ rq ∈ pows f 64, 1 ≤ rq.1 ∧ rq.1 ≤ 64 := fun rq h => by
    have := pows_mem f 64 (Nat.le_refl _) rq h
    omega
  have h1 := PSta.one.posR mem
  refine PSta.negR (h1.congr fun e e1 e2 => ?_) mem
  have s := pows_sum hf 64 (Nat.le_refl _) e (by omega) e2
  have c := cpn (pows f 64) e
  rw [s] at c
  show 0 + cpos (pows f 64) e = fin f e + cneg (pows f 64) e
  unfold fin
  cases hh : f e
  · rw [hh] at c
    simp at c ⊢
    omega
  · rw [hh] at c
    simp at c ⊢
    omega
theorem Wl_len {f : Nat → Bool} (hf : Clo f) : (Wl f).length = LN (fin f) 64 := (Wl_sta hf).1
/-- the weights are a multiple of each ring -/
theorem Wl_ring {f : Nat → Bool} (hf : Clo f) {L : Nat} (h1 : 1 ≤ L) (h2 : L ≤ 64) (hL : f L = true) : ∃ q, Wl f = timesR q L := by
  have e : PSta (Wl f) (fun e => (fin f e - ind L e) + ind L e) := (Wl_sta hf).congr fun e e1 e2 => by
    unfold fin ind
    split
    · split <;> omega
    · rename_i hn
      split
      · rename_i hd
        exact absurd (hf L e e1 (Nat.dvd_of_mod_eq_zero hd) hL) hn
      · rfl
  exact ⟨_, (e.over h1 h2).2⟩
end My

/-! What the defs of the weights promise. -/
namespace My
open PySem PySem.Spec PyProof.Rows L2
def OkM (ns : List Nat) : Prop := ns.length ≤ 6 ∧ ∀ n ∈ ns, 1 ≤ n ∧ n ≤ 64
def OkN (ds : List Int) : Prop := ds.length ≤ 6 ∧ ∀ d ∈ ds, 1 ≤ d ∧ d ≤ 64
def sp_need_lengths (K : PySem.W.Frag) : Sp := fun vs H Q _ => ∃ (v : V) (ds : List Int), vs = [v] ∧ Dp K H v (dInts ds) ∧ OkN ds ∧ ∀ H', Same H H' → Q v H'
theorem okm_n {ns : List Nat} (ok : OkM ns) : OkN (NN ns) := by
  refine ⟨by rw [nn_len]; exact ok.1, fun d hd => ?_⟩
  obtain ⟨n, hn, rfl⟩ := List.mem_map.mp hd
  have := ok.2 n hn
  omega
def dvf (ns : List Nat) (r : Nat) : Bool := ns.any fun n => decide (n % r = 0)
theorem dvf_clo (ns : List Nat) : Clo (dvf ns) := fun r d d1 hd h => by
  unfold dvf at h ⊢
  rw [List.any_eq_true] at h ⊢
  obtain ⟨n, hn, e⟩ := h
  exact ⟨n, hn, decide_eq_true (Nat.mod_eq_zero_of_dvd (Nat.dvd_trans hd (Nat.dvd_of_mod_eq_zero (of_decide_eq_true e))))⟩
def kvsP (ps : List (Nat × Int)) : List (Key × V) := ps.map fun rq => (.inl (rq.1 : Int), .int rq.2)
def sp_ring_powers (K : PySem.W.Frag) : Sp := fun vs H Q _ => ∃ (v : V) (ns : List Nat), vs = [v] ∧ Dp K H v (dInts (NN ns)) ∧ OkM ns ∧
  ∀ d H', Same H H' → H d = none → H' d = some (.dK (kvsP (pows (dvf ns) 64))) → Q (.ref d) H'
def sp_times_ring (K : PySem.W.Frag) : Sp := fun vs H Q _ => ∃ (a : Addr) (p : List Int) (d : Nat), vs = [.ref a, .int (d : Nat)] ∧ H a = some (.lst (p.map V.int)) ∧ 1 ≤ d ∧ d ≤ 64 ∧ p.length ≤ 100000 ∧
  ∀ b H', Same H H' → H' b = some (.lst ((timesR p d).map V.int)) → Q (.ref b) H'
def sp_over_ring (K : PySem.W.Frag) : Sp := fun vs H Q _ => ∃ (a : Addr) (p : List Int) (d : Nat), vs = [.ref a, .int (d : Nat)] ∧ H a = some (.lst (p.map V.int)) ∧ 1 ≤ d ∧ d ≤ 64 ∧ p.length ≤ 100000 ∧
  ∀ b H', Same H H' → H' b = some (.lst ((overR p d).map V.int)) → Q (.ref b) H'
def sp_weights (K : PySem.W.Frag) : Sp := fun vs H Q _ => ∃ (v : V) (ns : List Nat), vs = [v] ∧ Dp K H v (dInts (NN ns)) ∧ OkM ns ∧ ∀ w H', Same H H' → Dp K H' w (dInts (Wl (dvf ns))) → Q w H'
theorem pows_keys (f : Nat → Bool) : ∀ i, i ≤ 64 → ((pows f i).map Prod.fst).Nodup
  | 0, _ => List.nodup_nil
  | i + 1, hi => by
    have ih := pows_keys f i (by omega)
    unfold pows
    split
    · rw [List.map_append]
      refine List.nodup_append.mpr ⟨ih, by simp, fun a ha b hb z => ?_⟩
      obtain ⟨rq, hrq, rfl⟩ := List.mem_map.mp ha
      have := pows_mem f i (by omega) rq hrq
      have e : b = 64 - i := List.mem_singleton.mp hb
      omega
    · exact ih
theorem key_ne {a b : Nat} (h : a ≠ b) : ¬ ((Sum.inl (a : Int) : Key) = Sum.inl (b : Int)) := fun z => h (by
  have := Sum.inl.inj z
  omega)
theorem valV_kvs : ∀ {ps : List (Nat × Int)} {j r : Nat} {q : Int}, (ps.map Prod.fst).Nodup → ps[j]? = some (r, q) → valV (kvsP ps) (.inl (r : Int)) = some (.int q)
  | [], j, r, q, _, h => by simp at h
  | (r0, q0) :: ps, j, r, q, hn, h => by
    show valV ((.inl (r0 : Int), .int q0) :: kvsP ps) (.inl (r : Int)) = _
    cases j with
    | zero =>
      have e := Option.some.inj h
      cases e
      rw [valV_pos rfl]
    | succ j =>
      have hm : r ∈ ps.map Prod.fst := List.mem_map.mpr ⟨(r, q), List.mem_of_getElem? h, rfl⟩
      have ne : r0 ≠ r := fun z => (List.nodup_cons.mp hn).1 (by rw [z]; exact hm)
      rw [valV_neg (key_ne ne)]
      exact valV_kvs (List.nodup_cons.mp hn).2 h
theorem put_kvs {ps : List (Nat × Int)} {r : Nat} {q : Int} (h : ∀ rq ∈ ps, rq.1 ≠ r) : putK (kvsP ps) (.inl (r : Int)) (.int q) = kvsP (ps ++ [(r, q)]) := by
  unfold putK
  have e : ¬ ((kvsP ps).any fun kv => decide (kv.1 = (.inl (r : Int) : Key))) = true := by
    rw [List.any_eq_true]
    rintro ⟨x, hx, hk⟩
    obtain ⟨rq, hrq, rfl⟩ := List.mem_map.mp hx
    exact key_ne (h rq hrq) (of_decide_eq_true hk)
  rw [if_neg e]
  unfold kvsP
  rw [List.map_append]
  rfl
def pick (ps : List (Nat × Int)) (r : Nat) : List Int := (ps.filter fun rq => decide (rq.1 % r = 0)).map Prod.snd
theorem pick_sum (ps : List (Nat × Int)) (r : Nat) : (pick ps r).sum = SS ps r := by
  induction ps with
  | nil => rfl
  | cons a t ih =>
    unfold pick SS at *
    rw [List.filter_cons, List.map_cons, List.sum_cons, ← ih]
    by_cases h : a.1 % r = 0
    · rw [decide_eq_true h, if_pos rfl, if_pos h, List.map_cons, List.sum_cons]
    · rw [decide_eq_false h, if_neg (by simp), if_neg h, Int.zero_add]
theorem pick_more {ps : List (Nat × Int)} {j r0 r : Nat} {q : Int} (h : ps[j]? = some (r0, q)) : pick (ps.take (j + 1)) r = if r0 % r = 0 then pick (ps.take j) r ++ [q] else pick (ps.take j) r := by
  unfold pick
  rw [take_more h, List.filter_append, List.map_append]
  by_cases w : r0 % r = 0
  · rw [if_pos w]
    simp [w]
  · rw [if_neg w]
    simp [w]
theorem kvs_get {ps : List (Nat × Int)} {j : Nat} {k : Key} {v : V} (h : (kvsP ps)[j]? = some (k, v)) : ∃ r q, ps[j]? = some (r, q) ∧ k = .inl (r : Int) ∧ v = .int q := by
  unfold kvsP at h
  rw [List.getElem?_map] at h
  cases e : ps[j]? with
  | none =>
    rw [e] at h
    cases h
  | some rq =>
    rw [e] at h
    obtain ⟨r, q⟩ := rq
    have z := Option.some.inj h
    cases z
    exact ⟨r, q, rfl, rfl, rfl⟩
theorem kvs_len (ps : List (Nat × Int)) : (kvsP ps).length = ps.length := by
  unfold kvsP
  rw [List.length_map]
theorem pows_len (f : Nat → Bool) : ∀ i, (pows f i).length ≤ i
  | 0 => Nat.le_refl _
  | i + 1 => by
    have ih := pows_len f i
    unfold pows
    split
    · rw [List.length_append, List.length_singleton]
      omega
    · omega
theorem posR_more {ps : List (Nat × Int)} {j r : Nat} {q : Int} (h : ps[j]? = some (r, q)) (p : List Int) : posR (ps.take (j + 1)) p = timesN (posR (ps.take j) p) r q.toNat := by
  unfold posR
  rw [take_more h, List.foldl_append]
  rfl
theorem negR_more {ps : List (Nat × Int)} {j r : Nat} {q : Int} (h : ps[j]? = some (r, q)) (p : List Int) : negR (ps.take (j + 1)) p = overN (negR (ps.take j) p) r (-q).toNat := by
  unfold negR
  rw [take_more h, List.foldl_append]
  rfl
theorem sum_take_le : ∀ (xs : List Nat) (j : Nat), (xs.take j).sum ≤ xs.sum
  | [], j => by simp
  | x :: xs, 0 => by simp
  | x :: xs, j + 1 => by
    have ih := sum_take_le xs j
    rw [List.take_succ_cons, List.sum_cons, List.sum_cons]
    omega
theorem pows_total (f : Nat → Bool) : ((pows f 64).map fun rq => rq.2.natAbs * rq.1).sum ≤ 10000 := Nat.le_trans (pows_size f 64 (Nat.le_refl _)) (Nat.le_trans WS_all (by decide))
theorem pos_small (f : Nat → Bool) (j : Nat) : (posR ((pows f 64).take j) [1]).length ≤ 10001 := by
  have q := posR_len ((pows f 64).take j) [1]
  rw [List.map_take] at q
  have s := sum_take_le ((pows f 64).map fun rq => rq.2.natAbs * rq.1) j
  have t := pows_total f
  have e : ([1] : List Int).length = 1 := rfl
  omega
theorem step_small (f : Nat → Bool) {j r : Nat} {q : Int} (h : (pows f 64)[j]? = some (r, q)) (n : Nat) (hn : n ≤ q.toNat) : (timesN (posR ((pows f 64).take j) [1]) r n).length ≤ 10001 := by
  have a := pos_small f (j + 1)
  rw [posR_more h, timesN_len] at a
  rw [timesN_len]
  have := Nat.mul_le_mul_right r hn
  omega
theorem neg_small (f : Nat → Bool) (j : Nat) : (negR ((pows f 64).take j) (posR (pows f 64) [1])).length ≤ 10001 := by
  have a := negR_len ((pows f 64).take j) (posR (pows f 64) [1])
  have b := pos_small f (pows f 64).length
  rw [List.take_length] at b
  omega
theorem abs_small (f : Nat → Bool) {j r : Nat} {q : Int} (h : (pows f 64)[j]? = some (r, q)) (r1 : 1 ≤ r) : q.natAbs ≤ 10000 := by
  have m := List.mem_of_getElem? h
  have t := pows_total f
  have l : q.natAbs * r ≤ ((pows f 64).map fun rq => rq.2.natAbs * rq.1).sum := by
    have go : ∀ (xs : List (Nat × Int)), (r, q) ∈ xs → q.natAbs * r ≤ (xs.map fun rq => rq.2.natAbs * rq.1).sum := fun xs => by
      induction xs with
      | nil => intro h; cases h
      | cons x xs ih =>
        intro h
        rw [List.map_cons, List.sum_cons]
        rcases List.mem_cons.mp h with w | w
        · rw [← w]
          show q.natAbs * r ≤ q.natAbs * r + _
          omega
        · have := ih w
          omega
    exact go _ m
  have := Nat.le_mul_of_pos_right q.natAbs r1
  omega
end My

/-! t[i::k], t a tuple; the sums of the weights, how many they are, how great. -/
namespace L2
open PySem PySem.Spec PyProof.Rows HT
def stepN (n a k : Nat) : Nat := if a < n then (n - a - 1) / k + 1 else 0
def stepL {α : Type} (xs : List α) (a k : Nat) : List α := (List.range (stepN xs.length a k)).filterMap fun m => xs[a + m * k]?
theorem vals_pick : ∀ {xs : List V} {us : List Value} (r : Vals xs us) (js : List Nat), Vals (js.filterMap fun j => xs[j]?) (js.filterMap fun j => us[j]?)
  | _, _, _, [] => .nil
  | xs, us, r, j :: js => by
    have ih := vals_pick r js
    cases e : xs[j]? with
    | some x =>
      obtain ⟨u, hu, ru⟩ := r.get e
      rw [List.filterMap_cons_some e, List.filterMap_cons_some hu]
      exact .cons ru ih
    | none =>
      have hu : us[j]? = none := by
        rw [List.getElem?_eq_none_iff] at e ⊢
        rw [← r.length]
        exact e
      rw [List.filterMap_cons_none e, List.filterMap_cons_none hu]
      exact ih
theorem vals_step {xs : List V} {us : List Value} (r : Vals xs us) (a k : Nat) : Vals (stepL xs a k) (stepL us a k) := by
  unfold stepL
  rw [r.length]
  have q := vals_pick r ((List.range (stepN us.length a k)).map fun m => a + m * k)
  rw [List.filterMap_map, List.filterMap_map] at q
  exact q
theorem stepL_len {α : Type} (xs : List α) (a k : Nat) : (stepL xs a k).length ≤ xs.length := by
  unfold stepL
  refine Nat.le_trans (List.length_filterMap_le _ _) ?_
  rw [List.length_range]
  unfold stepN
  split
  · have := Nat.div_le_self (xs.length - a - 1) k
    omega
  · exact Nat.zero_le _
section
variable {prog : Program} {w : World} {A : Around} {E : Value → Shared → Prop} {s : Shared}
theorem adjust_step (i k n : Nat) (hi : i ≤ n) (hk : 1 ≤ k) : Builtin.Slice.sliceAdjust (some (i : Int)) none (k : Int) (n : Int) = ((i : Int), (n : Int)) := by
  unfold Builtin.Slice.sliceAdjust
  have h1 : ¬ ((k : Int) < 0) := by omega
  have h2 : ¬ ((i : Int) < 0) := by omega
  simp only [h1, h2, if_false]
  congr 1
  omega
theorem places_step (i k n : Nat) (hk : 1 ≤ k) : Builtin.Slice.slicePlaces (i : Int) (n : Int) (k : Int) = stepN n i k := by
  unfold Builtin.Slice.slicePlaces stepN
  have h1 : (k : Int) > 0 := by omega
  simp only [h1, if_true]
  by_cases q : i < n
  · have q' : (i : Int) < (n : Int) := by omega
    rw [if_pos q, if_pos q']
    have e : (n : Int) - (i : Int) - 1 = ((n - i - 1 : Nat) : Int) := by omega
    rw [e]
    have e2 : ((n - i - 1 : Nat) : Int) / (k : Int) = (((n - i - 1) / k : Nat) : Int) := rfl
    rw [e2]
    generalize (n - i - 1) / k = z
    omega
  · have q' : ¬ (i : Int) < (n : Int) := by omega
    rw [if_neg q, if_neg q']
    rfl
theorem applied_step {sl : Addr} {t1 t2 : Tok} {n i k : Nat} {Q : Int × Int × Nat → Shared → Prop} (hi : i ≤ n) (hk : 1 ≤ k) (hs : s.heap.IsSliceOf sl (.int (i : Int) t1) .none (.int (k : Int) t2)) (h : Q ((i : Int), (k : Int), stepN n i k) s) :
    wpAny (model prog w) A (Builtin.Slice.sliceApplied (.ref sl) (pure (n : Int))) Q E s := by
  obtain ⟨os, hos, hcs, hds⟩ := id hs
  unfold Builtin.Slice.sliceApplied Builtin.Slice.sliceFields
  refine wpAny_bind (wpAny_bind (wpAny_field hos hds (x := .int (i : Int) t1) rfl ?_))
  refine wpAny_bind (wpAny_field hos hds (x := .none) rfl ?_)
  refine wpAny_bind (wpAny_field hos hds (x := .int (k : Int) t2) rfl (wpAny_pure ?_))
  refine wpAny_bind (slicePart_ (.int (k : Int) t2) ?_)
  show wpAny _ _ (if ((k : Int) == 0) = true then _ else _) _ _ s
  rw [if_neg (by simp; omega)]
  refine wpAny_bind (slicePart_ (.int (i : Int) t1) (wpAny_bind (slicePart_ .none ?_)))
  refine wpAny_bind (wpAny_pure ?_)
  show wpAny _ _ (match Builtin.Slice.sliceAdjust (some (i : Int)) none (k : Int) (n : Int) with | (lo, hi) => pure (lo, (k : Int), Builtin.Slice.slicePlaces lo hi (k : Int))) _ _ s
  rw [adjust_step i k n hi hk]
  show wpAny _ _ (pure ((i : Int), (k : Int), Builtin.Slice.slicePlaces (i : Int) (n : Int) (k : Int))) _ _ s
  rw [places_step i k n hk]
  exact wpAny_pure h
theorem step_all (xs : Array Value) (i k : Nat) : ((List.range (stepN xs.size i k)).filterMap (fun (m : Nat) => xs[((i : Int) + (m : Int) * (k : Int)).toNat]?)).toArray = (stepL xs.toList i k).toArray := by
  unfold stepL
  rw [Array.length_toList]
  congr 1
  congr 1
  funext m
  have e : ((i : Int) + (m : Int) * (k : Int)).toNat = i + m * k := by
    have : (m : Int) * (k : Int) = ((m * k : Nat) : Int) := (Int.natCast_mul m k).symm
    rw [this]
    omega
  rw [e, Array.getElem?_toList]
theorem getItem_step {t sl : Addr} {items : Array Value} {t1 t2 : Tok} {i k : Nat} {Q : Value → Shared → Prop} (ht : IsTup s.heap t items) (hi : i ≤ items.size) (hk : 1 ≤ k) (hs : s.heap.IsSliceOf sl (.int (i : Int) t1) .none (.int (k : Int) t2))
    (h0 : i = 0 ∧ k = 1 → Q (.ref t) s) (h1 : ¬ (i = 0 ∧ k = 1) → Q (.ref s.heap.objs.size) { s with heap := s.heap.push { cls := .type "tuple", data := .seq (stepL items.toList i k).toArray } }) (hsz : items.size ≤ sizeLine) :
    wpAny (model prog w) A (getItem (.ref t) (.ref sl)) Q E s := by
  have fits : sizeOk (.seq (stepL items.toList i k).toArray) := by
    show (stepL items.toList i k).toArray.size ≤ sizeLine
    have l1 := stepL_len items.toList i k
    have l2 : (stepL items.toList i k).toArray.size = (stepL items.toList i k).length := List.size_toArray ..
    have l3 : items.toList.length = items.size := Array.length_toList
    rw [l2]
    exact Nat.le_trans l1 (by rw [l3]; exact hsz)
  obtain ⟨os, hos, hcs, hds⟩ := id hs
  have hTs : s.TypeIs (.ref sl) "slice" := ⟨os, hos, hcs⟩
  unfold getItem
  try with_reducible refine wpAny_holding ?_
  first
    | refine wpAny_bind (wpAny_pure ?_)
    | skip
  refine wpAny_bind (wpAny_sequenceKey ht.typeIs (by decide) ?_)
  have sg := PyProof.Rows.slot_tuple_getitem
  refine wpAny_bind (wpAny_callSpecial?_slot (name := Str.ofString "__getitem__") ht.typeIs sg (wpAny_call_entry sg ht.typeIs entry_tuple_getitem ?_ (args_tuple_getitem _ _)))
  show wpAny _ _ (Builtin.Tuple.tupleItemsOf (.ref t) >>= _) _ _ s
  refine wpAny_bind (tupleItemsOf_ ht (wpAny_bind (wpAny_typeOf hTs ?_)))
  rw [if_pos (by decide)]
  refine wpAny_bind (applied_step hi hk hs ?_)
  show wpAny _ _ (if (((i : Int) == 0 && (k : Int) == 1 && stepN items.size i k == items.size) = true) then _ else _) _ _ s
  by_cases whole : i = 0 ∧ k = 1
  · obtain ⟨rfl, rfl⟩ := whole
    have e : stepN items.size 0 1 = items.size := by
      unfold stepN
      split
      · rw [Nat.div_one]
        omega
      · omega
    rw [if_pos (by rw [e]; simp)]
    refine wpAny_bind ?_; (show wpAny _ _ (typeOf (.ref t) >>= fun T => pure (T == .type "tuple")) _ _ s); refine wpAny_bind (wpAny_typeOf ht.typeIs (wpAny_pure ?_))
    (first | rw [if_pos (by decide)] | simp only [beq_self_eq_true, if_true])
    (first | exact wpAny_bind (wpAny_rule (wpAny_pure ⟨_, rfl, wpAny_pure (h0 ⟨rfl, rfl⟩)⟩)) | exact wpAny_bind (wpAny_rule (wpAny_bind (wpAny_pure (wpAny_pure ⟨_, rfl, wpAny_pure (h0 ⟨rfl, rfl⟩)⟩)))))
  · have hne : ¬ (((i : Int) == 0 && (k : Int) == 1 && stepN items.size i k == items.size) = true) := by
      intro z
      simp at z
      exact whole ⟨z.1.1, by omega⟩
    rw [if_neg hne, step_all]
    first
      | exact wpAny_bind (m := Builtin.Tuple.tupleExact _) (wpAny_newObj_type (wpAny_pure ⟨_, rfl, wpAny_pure (h1 whole)⟩) fits)
      | exact wpAny_bind (m := Builtin.Tuple.tupleExact _) (wpAny_newObj_type (wpAny_bind (wpAny_pure (wpAny_pure ⟨_, rfl, wpAny_pure (h1 whole)⟩))) fits)
      | exact wpAny_bind (wpAny_bind (m := Builtin.Tuple.tupleExact _) (wpAny_newObj_type (wpAny_pure (wpAny_pure ⟨_, rfl, wpAny_pure (h1 whole)⟩)) fits))
      | exact wpAny_bind (wpAny_bind (m := Builtin.Tuple.tupleExact _) (wpAny_newObj_type (wpAny_pure ⟨_, rfl, wpAny_pure (h1 whole)⟩) fits))
end
def tStepT (K : PySem.W.Frag) (te tl ts : TE) : TE := fun σ H Q => te σ H fun x H1 => tl σ H1 fun l H2 => ts σ H2 fun y H3 => ∃ (a : Addr) (xs : List V) (i k : Nat), x = .ref a ∧ l = .int (i : Nat) ∧ y = .int (k : Nat) ∧ 1 ≤ k ∧ i ≤ xs.length ∧ SqT K H3 a xs ∧
  (i = 0 ∧ k = 1 → Q (.ref a) H3) ∧ (¬ (i = 0 ∧ k = 1) → ∀ p, H3 p = none → Q (.ref p) (upd H3 p (.tup (stepL xs i k))))
theorem pe_stepT {X : Cx} {K : PySem.W.Frag} {e lo st : Expr} {te tl ts : TE} {p2 pos : Pos} (he : PE X e te) (hlo : PE X lo tl) (hst : PE X st ts) (ek : X.K = K := by rfl) : PE X (.Subscript e (.Slice (some lo) none (some st) p2) pos) (tStepT K te tl ts) := by
  subst ek
  refine ⟨fun pins s σ H Q I h => ?_⟩
  refine Subscript_ (thn (he.run pins s σ H _ I h) fun v s1 ⟨x, H1, I1, r1, q1⟩ => ?_)
  refine wpAny_Slice ?_
  rw [evalPart_some lo, evalPart_none, evalPart_some st]
  refine thn (hlo.run pins s1 σ H1 _ I1 q1) fun vl s2 ⟨l, H2, I2, rl, q2⟩ => ?_
  refine wpAny_pure (thn (hst.run pins s2 σ H2 _ I2 q2) fun vs s3 ⟨y, H3, I3, ry, a, xs, i, k, ex, el, ey, hk, hi, hx, qs0, qs1⟩ => ?_)
  subst ex el ey
  obtain ⟨t1, rfl⟩ := rl
  obtain ⟨t2, rfl⟩ := ry
  cases r1
  have I4 : Inv X pins σ H3 { s3 with heap := s3.heap.push { cls := .type "slice", data := .fields #[.int (i : Int) t1, .none, .int (k : Int) t2] } } := I3.kept (t' := s3.toks) fun b ob q => Heap.get?_push_of_some _ q
  obtain ⟨its, r, ht, hz⟩ := I4.tuple hx
  have hlen : its.toArray.size = xs.length := by rw [List.size_toArray]; exact r.length.symm
  show wpAny (model X.prog X.w) X.A (subscriptTail e (.Slice (some lo) none (some st) p2) (.ref a) (.ref s3.heap.objs.size)) (EP X pins σ Q) X.xe { s3 with heap := s3.heap.push { cls := .type "slice", data := .fields #[.int (i : Int) t1, .none, .int (k : Int) t2] } }
  refine tail_any (T := "tuple") (ops := [.ref a, .ref s3.heap.objs.size]) ht.typeIs PyProof.Rows.slot_tuple_getitem.lookup (getItem_step ht (by rw [hlen]; exact hi) hk (Heap.IsSliceOf.new ..) (fun z => ?_) (fun z => ?_) (by rw [hlen]; exact hz)) (by with_unfolding_all rfl)
  · exact ⟨.ref a, H3, I4, rfl, qs0 z⟩
  · refine ⟨.ref _, _, I4.laid (t' := s3.toks) (o := .tup (stepL xs i k)) (fun b ob z => Heap.get?_push_of_some _ z) (Nat.le_refl _) ?_, rfl, qs1 z _ (I4.hok.fresh (Nat.le_refl _))⟩
    exact ⟨Nat.le_trans (stepL_len xs i k) hz, stepL its i k, vals_step r i k, IsTup.new _ _⟩
end L2
namespace My
open PySem PySem.Spec PyProof.Rows L2
/-! ### the sums by rests -/
theorem stepL_map {α β : Type} (f : α → β) (xs : List α) (a k : Nat) : stepL (xs.map f) a k = (stepL xs a k).map f := by
  unfold stepL
  rw [List.length_map, List.map_filterMap]
  congr 1
  funext m
  rw [List.getElem?_map]
theorem tele (q : List Int) (r L : Nat) (hr : r < L) : ∀ M, (∀ m, m < M → r + m * L < q.length + L) → ((List.range M).filterMap fun m => (timesR q L)[r + m * L]?).sum = if M = 0 then 0 else -q.getD (r + (M - 1) * L) 0
  | 0, _ => rfl
  | M + 1, h => by
    have ih := tele q r L hr M fun m hm => h m (by omega)
    rw [List.range_succ, List.filterMap_append, List.sum_append, ih, if_neg (Nat.succ_ne_zero M)]
    have g := timesR_get (p := q) (d := L) (h M (Nat.lt_succ_self M))
    have e : ([M].filterMap fun m => (timesR q L)[r + m * L]?) = [(if L ≤ r + M * L then q.getD (r + M * L - L) 0 else 0) - q.getD (r + M * L) 0] := by
      simp only [List.filterMap_cons, List.filterMap_nil, g]
    rw [e]
    show _ + ((if L ≤ r + M * L then q.getD (r + M * L - L) 0 else 0) - q.getD (r + M * L) 0 + 0) = -q.getD (r + (M + 1 - 1) * L) 0
    rw [Nat.add_sub_cancel]
    by_cases M0 : M = 0
    · subst M0
      rw [if_pos rfl, if_neg (by omega)]
      omega
    · have M1 : L ≤ M * L := Nat.le_mul_of_pos_left L (by omega)
      rw [if_neg M0, if_pos (by omega)]
      have e2 : r + M * L - L = r + (M - 1) * L := by
        rw [Nat.sub_mul, Nat.one_mul]
        omega
      rw [e2]
      omega
theorem resid {q : List Int} {r L : Nat} (hr : r < L) : (stepL (timesR q L) r L).sum = 0 := by
  unfold stepL
  rw [timesR_len]
  have hn : r < q.length + L := by omega
  have en : stepN (q.length + L) r L = (q.length + L - r - 1) / L + 1 := by
    unfold stepN
    rw [if_pos hn]
  rw [en]
  have hdiv := Nat.div_add_mod (q.length + L - r - 1) L
  have hmod := Nat.mod_lt (q.length + L - r - 1) (show 0 < L by omega)
  have hml : ∀ m, m ≤ (q.length + L - r - 1) / L → m * L ≤ q.length + L - r - 1 := fun m hm => by
    have := Nat.mul_le_mul_right L hm
    rw [Nat.mul_comm ((q.length + L - r - 1) / L) L] at this
    omega
  rw [tele q r L hr _ fun m hm => by have := hml m (by omega); omega, if_neg (Nat.succ_ne_zero _), Nat.add_sub_cancel]
  have e : q.getD (r + (q.length + L - r - 1) / L * L) 0 = 0 := by
    rw [List.getD_eq_getElem?_getD, List.getElem?_eq_none (by rw [Nat.mul_comm]; omega)]
    rfl
  rw [e]
  rfl
/-! ### the last one -/
theorem last_addP : ∀ (p q : List Int), p.length < q.length → (addP p q).getLast? = q.getLast?
  | [], q, _ => rfl
  | a :: p, b :: q, h => by
    have h' : p.length < q.length := by simpa using h
    have ih := last_addP p q h'
    have ne : q ≠ [] := by
      intro z
      rw [z] at h'
      exact absurd h' (Nat.not_lt_zero _)
    have ne2 : addP p q ≠ [] := by
      intro z
      have l := addP_len p q
      rw [z] at l
      have : (0 : Nat) = max p.length q.length := l
      omega
    show ((a + b) :: addP p q).getLast? = (b :: q).getLast?
    rw [List.getLast?_cons_of_ne_nil ne2, List.getLast?_cons_of_ne_nil ne, ih]
theorem last_mulP : ∀ (p q : List Int), 1 ≤ p.length → 1 ≤ q.length → p.getLast? = some 1 → q.getLast? = some 1 → (mulP p q).getLast? = some 1
  | [a], q, _, _, hp, hq => by
    have a1 : a = 1 := Option.some.inj hp
    show (q.map fun b => a * b).getLast? = some 1
    rw [List.getLast?_map, hq, a1]
    rfl
  | a :: c :: p, q, _, hq1, hp, hq => by
    have hp' : (c :: p).getLast? = some 1 := by
      rw [List.getLast?_cons_of_ne_nil (by simp)] at hp
      exact hp
    have ih := last_mulP (c :: p) q (by simp) hq1 hp' hq
    have l := mulP_len (c :: p) q (by simp) hq1
    have ne : mulP (c :: p) q ≠ [] := by
      intro z
      rw [z] at l
      simp at l
      omega
    show (addP (q.map fun b => a * b) (0 :: mulP (c :: p) q)).getLast? = some 1
    rw [last_addP _ _ (by rw [List.length_map, List.length_cons]; simp at l ⊢; omega), List.getLast?_cons_of_ne_nil ne, ih]
theorem cyc_last : ∀ n, n < 65 → 1 ≤ n → (cyc n).getLast? = some 1 := by decide +kernel
theorem last_powP {p q : List Int} (hp : 1 ≤ p.length) (hq : 1 ≤ q.length) (lp : p.getLast? = some 1) (lq : q.getLast? = some 1) : ∀ k, (powP p q k).getLast? = some 1
  | 0 => lp
  | k + 1 => last_mulP _ _ (by rw [powP_len p q hp hq]; omega) hq (last_powP hp hq lp lq k) lq
theorem RL_last (c : Nat → Nat) : ∀ n, n ≤ 64 → 1 ≤ (RL c n).length ∧ (RL c n).getLast? = some 1
  | 0, _ => ⟨Nat.le_refl _, rfl⟩
  | n + 1, h => by
    obtain ⟨h1, h2⟩ := RL_last c n (by omega)
    have cl := cyc_len (n + 1) (by omega) (by omega)
    refine ⟨?_, last_powP h1 cl h2 (cyc_last (n + 1) (by omega) (by omega)) _⟩
    show 1 ≤ (powP (RL c n) (cyc (n + 1)) (c (n + 1))).length
    rw [powP_len _ _ h1 cl]
    omega
theorem Wl_RL {f : Nat → Bool} (hf : Clo f) : Wl f = RL (fin f) 64 := (Wl_sta hf).eq (RL_ok (fin f) 64 (Nat.le_refl _))
theorem Wl_last {f : Nat → Bool} (hf : Clo f) : (Wl f).getLast? = some 1 := by
  rw [Wl_RL hf]
  exact (RL_last _ 64 (Nat.le_refl _)).2
/-! ### how great -/
def n1 (p : List Int) : Nat := (p.map Int.natAbs).sum
theorem n1_cons (a : Int) (p : List Int) : n1 (a :: p) = a.natAbs + n1 p := by
  unfold n1
  rw [List.map_cons, List.sum_cons]
theorem n1_addP : ∀ p q : List Int, n1 (addP p q) ≤ n1 p + n1 q
  | [], q => by
    show n1 q ≤ n1 [] + n1 q
    omega
  | a :: p, [] => by
    show n1 (a :: p) ≤ n1 (a :: p) + 0
    omega
  | a :: p, b :: q => by
    have ih := n1_addP p q
    show n1 ((a + b) :: addP p q) ≤ _
    rw [n1_cons, n1_cons, n1_cons]
    have := Int.natAbs_add_le a b
    omega
theorem n1_scale (a : Int) (q : List Int) : n1 (q.map fun b => a * b) = a.natAbs * n1 q := by
  induction q with
  | nil => exact (Nat.mul_zero _).symm
  | cons b q ih =>
    rw [List.map_cons, n1_cons, n1_cons, ih, Int.natAbs_mul, Nat.mul_add]
theorem n1_mulP : ∀ p q : List Int, n1 (mulP p q) ≤ n1 p * n1 q
  | [], q => by
    show 0 ≤ _
    omega
  | [a], q => by
    show n1 (q.map fun b => a * b) ≤ _
    rw [n1_scale, n1_cons]
    show _ ≤ (a.natAbs + 0) * _
    rw [Nat.add_zero]
    exact Nat.le_refl _
  | a :: c :: p, q => by
    have ih := n1_mulP (c :: p) q
    show n1 (addP (q.map fun b => a * b) (0 :: mulP (c :: p) q)) ≤ _
    have h := n1_addP (q.map fun b => a * b) (0 :: mulP (c :: p) q)
    rw [n1_scale, n1_cons] at h
    rw [n1_cons, Nat.add_mul]
    have : Int.natAbs 0 = 0 := rfl
    omega
theorem cyc_n1 : ∀ n, n < 65 → n1 (cyc n) ≤ 64 := by decide +kernel
theorem RL_n1 (f : Nat → Bool) : ∀ n, n ≤ 64 → n1 (RL (fin f) n) ≤ 64 ^ n
  | 0, _ => by
    show n1 [1] ≤ 1
    decide
  | n + 1, h => by
    have ih := RL_n1 f n (by omega)
    show n1 (powP (RL (fin f) n) (cyc (n + 1)) (fin f (n + 1))) ≤ _
    have up : n1 (RL (fin f) n) ≤ 64 ^ (n + 1) := by
      rw [Nat.pow_succ]
      omega
    unfold fin
    split
    · show n1 (mulP (RL _ n) (cyc (n + 1))) ≤ _
      refine Nat.le_trans (n1_mulP _ _) ?_
      rw [Nat.pow_succ]
      exact Nat.mul_le_mul ih (cyc_n1 (n + 1) (by omega))
    · exact up
theorem n1_mem : ∀ {p : List Int} {z : Int}, z ∈ p → z.natAbs ≤ n1 p
  | a :: p, z, h => by
    rw [n1_cons]
    rcases List.mem_cons.mp h with w | w
    · rw [w]
      omega
    · have := n1_mem w
      omega
theorem Wl_small {f : Nat → Bool} (hf : Clo f) : ∀ z ∈ Wl f, z.natAbs < 10 ^ 120 := fun z hz => by
  rw [Wl_RL hf] at hz
  exact Nat.lt_of_le_of_lt (Nat.le_trans (n1_mem hz) (RL_n1 f 64 (Nat.le_refl _))) (by decide +kernel)
/-! ### how many -/
theorem fset_more {α : Type} [DecidableEq α] (L : List α) (c : α) : fset (L ++ [c]) = ins (fset L) c := by
  unfold fset
  rw [List.foldl_append]
  rfl
theorem fset_go_le {α : Type} [DecidableEq α] : ∀ (L A : List α), (L.foldl ins A).length ≤ A.length + L.length
  | [], A => Nat.le_refl _
  | c :: L, A => by
    have h := fset_go_le L (ins A c)
    have h2 := ins_le (L := A) (c := c)
    rw [List.foldl_cons, List.length_cons]
    omega
theorem fset_le {α : Type} [DecidableEq α] (L : List α) : (fset L).length ≤ L.length := by
  have h := fset_go_le L []
  rw [List.length_nil, Nat.zero_add] at h
  exact h
section
variable {α β γ : Type} [DecidableEq α] [DecidableEq β]
theorem mem_ins {L : List α} {c x : α} : x ∈ ins L c ↔ x ∈ L ∨ x = c := by
  unfold ins
  split
  · rename_i h
    exact ⟨.inl, fun z => z.elim id fun e => e ▸ h⟩
  · rw [List.mem_cons]
    exact Or.comm
theorem nodup_ins {L : List α} {c : α} (h : L.Nodup) : (ins L c).Nodup := by
  unfold ins
  split
  · exact h
  · rename_i z
    exact List.nodup_cons.mpr ⟨z, h⟩
theorem mem_go : ∀ (L A : List α) {x : α}, x ∈ L.foldl ins A ↔ x ∈ A ∨ x ∈ L
  | [], A, x => by simp
  | c :: L, A, x => by
    rw [List.foldl_cons, mem_go L, mem_ins, List.mem_cons, or_assoc]
theorem nodup_go : ∀ (L A : List α), A.Nodup → (L.foldl ins A).Nodup
  | [], _, h => h
  | _ :: L, _, h => nodup_go L _ (nodup_ins h)
theorem mem_fset {L : List α} {x : α} : x ∈ fset L ↔ x ∈ L := by
  unfold fset
  rw [mem_go]
  simp
theorem nodup_le : ∀ (A B : List α), A.Nodup → (∀ x ∈ A, x ∈ B) → A.length ≤ B.length
  | [], _, _, _ => Nat.zero_le _
  | a :: A, B, n, h => by
    obtain ⟨n1, n2⟩ := List.nodup_cons.mp n
    have ha := h a List.mem_cons_self
    have ih := nodup_le A (B.erase a) n2 fun x hx => (List.mem_erase_of_ne (fun e : x = a => n1 (by rw [← e]; exact hx))).mpr (h x (List.mem_cons_of_mem _ hx))
    rw [List.length_erase_of_mem ha] at ih
    have p := List.length_pos_of_mem ha
    rw [List.length_cons]
    omega
theorem fset_sub {L M : List α} (h : ∀ x ∈ L, x ∈ M) : (fset L).length ≤ (fset M).length :=
  nodup_le _ _ (nodup_go L [] List.nodup_nil) fun x hx => mem_fset.mpr (h x (mem_fset.mp hx))
theorem same_go (f : γ → α) (g : γ → β) : ∀ (I J : List γ) (A : List α) (B : List β), (∀ x, x ∈ A ↔ ∃ p ∈ J, f p = x) → (∀ x, x ∈ B ↔ ∃ p ∈ J, g p = x) → A.length = B.length →
    (∀ p ∈ J ++ I, ∀ q ∈ J ++ I, f p = f q ↔ g p = g q) → ((I.map f).foldl ins A).length = ((I.map g).foldl ins B).length
  | [], _, _, _, _, _, e, _ => e
  | p :: I, J, A, B, hA, hB, e, h => by
    rw [List.map_cons, List.map_cons, List.foldl_cons, List.foldl_cons]
    have k : f p ∈ A ↔ g p ∈ B := by
      rw [hA, hB]
      constructor
      · rintro ⟨q, hq, z⟩
        exact ⟨q, hq, (h q (List.mem_append_left _ hq) p (List.mem_append_right _ List.mem_cons_self)).mp z⟩
      · rintro ⟨q, hq, z⟩
        exact ⟨q, hq, (h q (List.mem_append_left _ hq) p (List.mem_append_right _ List.mem_cons_self)).mpr z⟩
    refine same_go f g I (J ++ [p]) _ _ (fun x => ?_) (fun x => ?_) ?_ (by rw [List.append_assoc]; exact h)
    · rw [mem_ins, hA]
      constructor
      · rintro (⟨q, hq, z⟩ | z)
        · exact ⟨q, List.mem_append_left _ hq, z⟩
        · exact ⟨p, by simp, z.symm⟩
      · rintro ⟨q, hq, z⟩
        rcases List.mem_append.mp hq with y | y
        · exact .inl ⟨q, y, z⟩
        · rw [List.mem_singleton.mp y] at z
          exact .inr z.symm
    · rw [mem_ins, hB]
      constructor
      · rintro (⟨q, hq, z⟩ | z)
        · exact ⟨q, List.mem_append_left _ hq, z⟩
        · exact ⟨p, by simp, z.symm⟩
      · rintro ⟨q, hq, z⟩
        rcases List.mem_append.mp hq with y | y
        · exact .inl ⟨q, y, z⟩
        · rw [List.mem_singleton.mp y] at z
          exact .inr z.symm
    · unfold ins
      by_cases hp : f p ∈ A
      · rw [if_pos hp, if_pos (k.mp hp)]
        exact e
      · rw [if_neg hp, if_neg (fun z => hp (k.mpr z)), List.length_cons, List.length_cons, e]
theorem same_count (f : γ → α) (g : γ → β) (I : List γ) (h : ∀ p ∈ I, ∀ q ∈ I, f p = f q ↔ g p = g q) : (fset (I.map f)).length = (fset (I.map g)).length :=
  same_go f g I [] [] [] (fun x => by simp) (fun x => by simp) rfl h
end
def sp_lcom7 (K : PySem.W.Frag) : Sp := fun vs H Q _ => ∃ (x y : Nat), vs = [.int x, .int y] ∧ 0 ≤ y ∧ x ≤ 1000 ∧ y ≤ 1000 ∧ 0 < x ∧ Q (.int (Nat.gcd x y : Nat)) H
/-- a fraction in its lowest terms, as the law's own key -/
def red (d k : Nat) : List Key := [.inl ((k / Nat.gcd d k : Nat) : Int), .inl ((d / Nat.gcd d k : Nat) : Int)]
def reds1 (d n : Nat) : List (List Key) := (List.range n).map fun k => red d k
def reds (ds : List Int) : List (List Key) := ds.flatMap fun d => reds1 d.toNat d.toNat
def dueN (ds : List Int) : Nat := (fset (reds ds)).length
def sp__law_span (K : PySem.W.Frag) : Sp := fun vs H Q _ => ∃ (v : V) (ds : List Int), vs = [v] ∧ Dp K H v (dInts ds) ∧ OkN ds ∧ ∀ H', Same H H' → Q (.int (dueN ds : Nat)) H'
def ent (L : List (List Key)) : List (List Key × V) := L.map fun k => (k, V.bl true)
theorem put_ent (M : List (List Key)) (k : List Key) : putK (ent M.reverse) k (V.bl true) = ent (ins M k).reverse := by
  unfold putK ins
  have e : ((ent M.reverse).any fun kv => decide (kv.1 = k)) = true ↔ k ∈ M := by
    rw [List.any_eq_true]
    constructor
    · rintro ⟨x, hx, hk⟩
      obtain ⟨y, hy, rfl⟩ := List.mem_map.mp hx
      rw [← of_decide_eq_true hk]
      exact List.mem_reverse.mp hy
    · intro h
      exact ⟨(k, V.bl true), List.mem_map.mpr ⟨k, List.mem_reverse.mpr h, rfl⟩, decide_eq_true rfl⟩
  by_cases h : k ∈ M
  · rw [if_pos (e.2 h), if_pos h]
    unfold ent
    rw [List.map_map]
    refine List.map_congr_left fun x _ => ?_
    show (if x = k then (x, V.bl true) else (x, V.bl true)) = (x, V.bl true)
    split <;> rfl
  · rw [if_neg (fun z => h (e.1 z)), if_neg h, List.reverse_cons]
    unfold ent
    rw [List.map_append]
    rfl
theorem reds1_len (d n : Nat) : (reds1 d n).length = n := by
  unfold reds1
  rw [List.length_map, List.length_range]
theorem reds1_more (d n : Nat) : reds1 d (n + 1) = reds1 d n ++ [red d n] := by
  unfold reds1
  rw [List.range_succ, List.map_append]
  rfl
theorem reds_len : ∀ ds : List Int, (∀ d ∈ ds, 1 ≤ d ∧ d ≤ 64) → (reds ds).length ≤ 64 * ds.length
  | [], _ => Nat.zero_le _
  | d :: ds, h => by
    have ih := reds_len ds fun z hz => h z (List.mem_cons_of_mem _ hz)
    have hd := h d List.mem_cons_self
    show (reds1 d.toNat d.toNat ++ reds ds).length ≤ 64 * (ds.length + 1)
    rw [List.length_append, reds1_len]
    omega
theorem reds_take {ds : List Int} {i : Nat} {d : Int} (h : ds[i]? = some d) : reds (ds.take (i + 1)) = reds (ds.take i) ++ reds1 d.toNat d.toNat := by
  rw [take_more h]
  unfold reds
  rw [List.flatMap_append]
  simp
theorem ent_len (M : List (List Key)) : (ent M.reverse).length = M.length := by
  unfold ent
  rw [List.length_map, List.length_reverse]
theorem red_eq {d k e l : Nat} (hd : 0 < d) (he : 0 < e) : red d k = red e l ↔ k * e = l * d := by
  have key : red d k = red e l ↔ k / Nat.gcd d k = l / Nat.gcd e l ∧ d / Nat.gcd d k = e / Nat.gcd e l := by
    unfold red
    constructor
    · intro h
      have h1 := (List.cons.inj h).1
      have h2 := (List.cons.inj (List.cons.inj h).2).1
      have i1 := Int.ofNat.inj (Sum.inl.inj h1)
      have i2 := Int.ofNat.inj (Sum.inl.inj h2)
      exact ⟨i1, i2⟩
    · rintro ⟨h1, h2⟩
      rw [h1, h2]
  rw [key]
  have g1 : 0 < Nat.gcd d k := Nat.gcd_pos_of_pos_left _ hd
  have g2 : 0 < Nat.gcd e l := Nat.gcd_pos_of_pos_left _ he
  have c1 : Nat.Coprime (d / Nat.gcd d k) (k / Nat.gcd d k) := Nat.coprime_div_gcd_div_gcd g1
  have c2 : Nat.Coprime (e / Nat.gcd e l) (l / Nat.gcd e l) := Nat.coprime_div_gcd_div_gcd g2
  have e1 : d = Nat.gcd d k * (d / Nat.gcd d k) := (Nat.mul_div_cancel' (Nat.gcd_dvd_left d k)).symm
  have e2 : k = Nat.gcd d k * (k / Nat.gcd d k) := (Nat.mul_div_cancel' (Nat.gcd_dvd_right d k)).symm
  have e3 : e = Nat.gcd e l * (e / Nat.gcd e l) := (Nat.mul_div_cancel' (Nat.gcd_dvd_left e l)).symm
  have e4 : l = Nat.gcd e l * (l / Nat.gcd e l) := (Nat.mul_div_cancel' (Nat.gcd_dvd_right e l)).symm
  generalize Nat.gcd d k = g at *
  generalize Nat.gcd e l = u at *
  generalize d / g = b at *
  generalize k / g = a at *
  generalize e / u = b2 at *
  generalize l / u = a2 at *
  subst e1 e2 e3 e4
  have bp : 0 < b := Nat.pos_of_mul_pos_left hd
  have b2p : 0 < b2 := Nat.pos_of_mul_pos_left he
  constructor
  · rintro ⟨rfl, rfl⟩
    rw [Nat.mul_mul_mul_comm g a, Nat.mul_mul_mul_comm u a, Nat.mul_comm g u]
  · intro h
    have h2 : (g * u) * (a * b2) = (g * u) * (a2 * b) := by
      rw [Nat.mul_mul_mul_comm g u a b2, h, Nat.mul_mul_mul_comm, Nat.mul_comm g u]
    have h3 : a * b2 = a2 * b := Nat.eq_of_mul_eq_mul_left (Nat.mul_pos g1 g2) h2
    have d1 : b ∣ b2 := c1.dvd_of_dvd_mul_left (by rw [h3]; exact Nat.dvd_mul_left _ _)
    have d2 : b2 ∣ b := c2.dvd_of_dvd_mul_left (by rw [← h3]; exact Nat.dvd_mul_left _ _)
    obtain rfl := Nat.dvd_antisymm d1 d2
    exact ⟨Nat.eq_of_mul_eq_mul_right bp h3, rfl⟩

theorem mem_reds {ds : List Int} {x : List Key} : x ∈ reds ds ↔ ∃ d ∈ ds, ∃ k, k < d.toNat ∧ red d.toNat k = x := by
  unfold reds reds1
  rw [List.mem_flatMap]
  constructor
  · rintro ⟨d, hd, h⟩
    obtain ⟨k, hk, e⟩ := List.mem_map.mp h
    exact ⟨d, hd, k, List.mem_range.mp hk, e⟩
  · rintro ⟨d, hd, k, hk, e⟩
    exact ⟨d, hd, List.mem_map.mpr ⟨k, List.mem_range.mpr hk, e⟩⟩
theorem due_le {ds es : List Int} (h : ∀ d ∈ ds, d ∈ es) : dueN ds ≤ dueN es :=
  fset_sub fun x hx => by
    obtain ⟨d, hd, r⟩ := mem_reds.mp hx
    exact mem_reds.mpr ⟨d, h d hd, r⟩
theorem due_eq {ds es : List Int} (h : ∀ d ∈ ds, d ∈ es) (h2 : ∀ d ∈ es, d ∈ ds) : dueN ds = dueN es := Nat.le_antisymm (due_le h) (due_le h2)
def cop (e : Nat) : List Nat := (List.range e).filter fun a => decide (Nat.gcd e a = 1)
theorem ph_cop : ∀ e, e < 65 → 1 ≤ e → (cop e).length = ph e := by decide +kernel
def keyD (e a : Nat) : List Key := [.inl ((a : Nat) : Int), .inl ((e : Nat) : Int)]
def tgt (f : Nat → Bool) : Nat → List (List Key)
  | 0 => []
  | n + 1 => tgt f n ++ (if f (n + 1) then (cop (n + 1)).map fun a => keyD (n + 1) a else [])
theorem tgt_len (f : Nat → Bool) : ∀ n, n ≤ 64 → (tgt f n).length + 1 = LN (fin f) n
  | 0, _ => rfl
  | n + 1, h => by
    have ih := tgt_len f n (by omega)
    show (tgt f n ++ (if f (n + 1) then (cop (n + 1)).map fun a => keyD (n + 1) a else [])).length + 1 = LN (fin f) n + fin f (n + 1) * ph (n + 1)
    have e : fin f (n + 1) = if f (n + 1) then 1 else 0 := rfl
    rw [List.length_append, e]
    split
    · rw [List.length_map, ph_cop (n + 1) (by omega) (by omega), ← ih]
      show _ = (tgt f n).length + 1 + 1 * _
      omega
    · rw [← ih]
      show (tgt f n).length + 0 + 1 = (tgt f n).length + 1 + 0 * _
      omega
theorem key_inj {e a e' a' : Nat} (h : keyD e a = keyD e' a') : e = e' ∧ a = a' := by
  unfold keyD at h
  have h1 := (List.cons.inj h).1
  have h2 := (List.cons.inj (List.cons.inj h).2).1
  have i1 := Int.ofNat.inj (Sum.inl.inj h1)
  have i2 := Int.ofNat.inj (Sum.inl.inj h2)
  exact ⟨i2, i1⟩
theorem mem_tgt (f : Nat → Bool) {x : List Key} : ∀ n, x ∈ tgt f n ↔ ∃ e a, 1 ≤ e ∧ e ≤ n ∧ f e = true ∧ a < e ∧ Nat.gcd e a = 1 ∧ x = keyD e a
  | 0 => by
    constructor
    · intro h
      cases h
    · rintro ⟨e, a, h1, h2, _⟩
      omega
  | n + 1 => by
    have ih := mem_tgt f (x := x) n
    show x ∈ tgt f n ++ (if f (n + 1) then (cop (n + 1)).map fun a => keyD (n + 1) a else []) ↔ _
    rw [List.mem_append, ih]
    constructor
    · rintro (⟨e, a, h1, h2, h3⟩ | h)
      · exact ⟨e, a, h1, by omega, h3⟩
      · split at h
        · rename_i hf
          obtain ⟨a, ha, rfl⟩ := List.mem_map.mp h
          obtain ⟨r1, r2⟩ := List.mem_filter.mp ha
          exact ⟨n + 1, a, by omega, Nat.le_refl _, hf, List.mem_range.mp r1, of_decide_eq_true r2, rfl⟩
        · cases h
    · rintro ⟨e, a, h1, h2, h3, h4, h5, rfl⟩
      by_cases q : e = n + 1
      · subst q
        rw [if_pos h3]
        exact .inr (List.mem_map.mpr ⟨a, List.mem_filter.mpr ⟨List.mem_range.mpr h4, decide_eq_true h5⟩, rfl⟩)
      · exact .inl ⟨e, a, h1, by omega, h3, h4, h5, rfl⟩
theorem nodup_tgt (f : Nat → Bool) : ∀ n, (tgt f n).Nodup
  | 0 => List.nodup_nil
  | n + 1 => by
    have ih := nodup_tgt f n
    refine List.nodup_append.mpr ⟨ih, ?_, fun x hx y hy z => ?_⟩
    · split
      · refine List.pairwise_map.mpr ?_
        refine List.Pairwise.imp (fun h z => h (key_inj z).2) (List.Pairwise.filter _ List.nodup_range)
      · exact List.nodup_nil
    · obtain ⟨e, a, h1, h2, _, _, _, rfl⟩ := (mem_tgt f n).mp hx
      split at hy
      · obtain ⟨a', _, rfl⟩ := List.mem_map.mp hy
        have := (key_inj z).1
        omega
      · cases hy
theorem due_LN {ns : List Nat} (ok : ∀ n ∈ ns, 1 ≤ n ∧ n ≤ 64) : dueN (NN ns) + 1 = LN (fin (dvf ns)) 64 := by
  have tl := tgt_len (dvf ns) 64 (Nat.le_refl _)
  have key : ∀ x, x ∈ reds (NN ns) ↔ x ∈ tgt (dvf ns) 64 := fun x => by
    rw [mem_reds, mem_tgt]
    constructor
    · rintro ⟨d, hd, k, hk, rfl⟩
      obtain ⟨n, hn, rfl⟩ := List.mem_map.mp hd
      obtain ⟨o1, o2⟩ := ok n hn
      rw [Int.toNat_natCast] at hk ⊢
      have g0 : 0 < Nat.gcd n k := Nat.gcd_pos_of_pos_left _ o1
      have c := Nat.coprime_div_gcd_div_gcd (m := n) (n := k) g0
      have e1 : n / Nat.gcd n k ∣ n := Nat.div_dvd_of_dvd (Nat.gcd_dvd_left n k)
      have p1 : 1 ≤ n / Nat.gcd n k := Nat.div_pos (Nat.le_of_dvd o1 (Nat.gcd_dvd_left n k)) g0
      refine ⟨n / Nat.gcd n k, k / Nat.gcd n k, p1, Nat.le_trans (Nat.le_of_dvd o1 e1) o2, ?_, ?_, c, rfl⟩
      · unfold dvf
        rw [List.any_eq_true]
        exact ⟨n, hn, decide_eq_true (Nat.mod_eq_zero_of_dvd e1)⟩
      · exact Nat.div_lt_div_of_lt_of_dvd (Nat.gcd_dvd_left n k) hk
    · rintro ⟨e, a, h1, h2, h3, h4, h5, rfl⟩
      unfold dvf at h3
      rw [List.any_eq_true] at h3
      obtain ⟨n, hn, hd⟩ := h3
      obtain ⟨c, hc⟩ := Nat.dvd_of_mod_eq_zero (of_decide_eq_true hd)
      obtain ⟨o1, o2⟩ := ok n hn
      have c0 : 0 < c := by
        rcases Nat.eq_zero_or_pos c with z | z
        · subst z
          omega
        · exact z
      refine ⟨(n : Int), List.mem_map_of_mem hn, a * c, ?_, ?_⟩
      · rw [Int.toNat_natCast, hc]
        exact Nat.mul_lt_mul_of_pos_right h4 c0
      · rw [Int.toNat_natCast, hc]
        unfold red keyD
        rw [Nat.gcd_mul_right, h5, Nat.one_mul, Nat.mul_div_cancel _ c0, Nat.mul_div_cancel _ c0]
  have le1 : dueN (NN ns) ≤ (tgt (dvf ns) 64).length := nodup_le _ _ (nodup_go _ [] List.nodup_nil) fun x hx => (key x).mp (mem_fset.mp hx)
  have le2 : (tgt (dvf ns) 64).length ≤ dueN (NN ns) := nodup_le _ _ (nodup_tgt _ _) fun x hx => mem_fset.mpr ((key x).mpr hx)
  rw [← tl, Nat.le_antisymm le1 le2]
theorem Wl_due {ns : List Nat} (ok : ∀ n ∈ ns, 1 ≤ n ∧ n ≤ 64) : (Wl (dvf ns)).length = dueN (NN ns) + 1 := by
  rw [Wl_len (dvf_clo ns), due_LN ok]
theorem Wl_resid {ns : List Nat} (ok : ∀ n ∈ ns, 1 ≤ n ∧ n ≤ 64) {L r : Nat} (hL : L ∈ ns) (hr : r < L) : (stepL (Wl (dvf ns)) r L).sum = 0 := by
  obtain ⟨o1, o2⟩ := ok L hL
  obtain ⟨q, e⟩ := Wl_ring (dvf_clo ns) o1 o2 (by unfold dvf; rw [List.any_eq_true]; exact ⟨L, hL, decide_eq_true (Nat.mod_self L)⟩)
  rw [e]
  exact resid hr
theorem Wl_long {ns : List Nat} (ok : ∀ n ∈ ns, 1 ≤ n ∧ n ≤ 64) {L : Nat} (hL : L ∈ ns) : L ≤ (Wl (dvf ns)).length := by
  obtain ⟨o1, o2⟩ := ok L hL
  obtain ⟨q, e⟩ := Wl_ring (dvf_clo ns) o1 o2 (by unfold dvf; rw [List.any_eq_true]; exact ⟨L, hL, decide_eq_true (Nat.mod_self L)⟩)
  rw [e, timesR_len]
  omega
theorem Wl_nums : Wl (dvf []) = [1] ∧ Wl (dvf [1]) = [-1, 1] ∧ Wl (dvf [2, 3]) = [-1, -1, 0, 1, 1] := by decide +kernel
theorem dvf_rev (ns : List Nat) : dvf ns.reverse = dvf ns := by
  funext r
  unfold dvf
  rw [List.any_reverse]
theorem dvf_more {ns : List Nat} {n d : Nat} (hn : n ∈ ns) (hd : d ∣ n) : dvf (ns ++ [d]) = dvf ns := by
  funext r
  unfold dvf
  rw [List.any_append]
  have e : [d].any (fun n => decide (n % r = 0)) = decide (d % r = 0) := by simp
  rw [e]
  by_cases q : d % r = 0
  · have h : ns.any (fun n => decide (n % r = 0)) = true := by
      rw [List.any_eq_true]
      exact ⟨n, hn, decide_eq_true (Nat.mod_eq_zero_of_dvd (Nat.dvd_trans (Nat.dvd_of_mod_eq_zero q) hd))⟩
    rw [h]
    rfl
  · rw [decide_eq_false q, Bool.or_false]
end My

/-! sum of a tuple. -/
namespace L2
open PySem PySem.Spec PyProof.Rows HT
section
variable {prog : Program} {w : World} {A : Around} {E : Value → Shared → Prop} {s : Shared}
theorem sum_tup0 {l : Addr} {xs : Array (Int × Tok)} {Q : Value → Shared → Prop} (hh : A.handled = none) (ht : s.heap.IsTuple l (intItems xs))
    (h : ∀ h' tk t', (∀ b o, s.heap.get? b = some o → h'.get? b = some o) → Q (.int (preSum (numAt xs) xs.size) t') { s with heap := h', toks := tk }) : wpAny (model prog w) A (call (.builtin "sum") [.ref l]) Q E s := by
  have hlt : l < s.heap.objs.size := by
    obtain ⟨_, e, _⟩ := ht
    exact Heap.lt_size e
  refine PySem.call_sum_walkG (wpAny_pyIter_tuple ht ?_)
  have hT : (s.heap.push { cls := .type "tuple_iterator", data := .fields #[.ref l, .int 0 0] }).IsTuple l (intItems xs) := by
    obtain ⟨o, e, r⟩ := ht
    exact ⟨o, Heap.get?_push_of_some _ e, r⟩
  refine ⟨s.heap.objs.size, _, _, _, _, _, numAt xs, rfl, Walks.tuple (A := A.in1) hh s.heap.objs.size l (Nat.ne_of_lt hlt) (intItems xs), ⟨⟨_, Heap.get?_push_size _ rfl, rfl, rfl⟩, hT⟩, fun b hb => ?_, fun _ _ => intItems_at, fun h' tk t' hk => ?_⟩
  · show b < (s.heap.push _).objs.size
    rw [Heap.size_push]
    simp at hb
    rcases hb with q | q
    · rw [q]
      exact Nat.lt_succ_self _
    · rw [q]
      exact Nat.lt_succ_of_lt hlt
  · have q := h h' tk t' fun b o e => hk b o (fun z => by
      have := Heap.lt_size e
      rw [List.mem_singleton.mp z] at this
      exact absurd this (Nat.lt_irrefl _)) (Heap.get?_push_of_some _ e)
    simpa [intItems] using q
end
def rSumT (K : PySem.W.Frag) : List V → Hp → VK → Prop := fun vs H Q => ∃ (a : Addr) (ns : List Int), vs = [V.ref a] ∧ SqT K H a (ns.map V.int) ∧ Q (.int ns.sum) H
theorem k_sumT {X : Cx} {K : PySem.W.Frag} (hc : X.calm = true) (ek : X.K = K := by rfl) : CallR X (.builtin "sum") (rSumT K) := by
  subst ek
  intro pins s σ H vs us Q I r h
  obtain ⟨a, ns, rfl, hs, q⟩ := h
  obtain ⟨its, rv, ht, _⟩ := I.tuple hs
  rw [Vals.ref1 r]
  have hi := rv.ints
  obtain ⟨xs, e⟩ := hi.allInts.items
  have hn : numsOf (intItems xs).toList = ns := by rw [← e]; exact hi.numsOf
  rw [nums_intItems] at hn
  have ht' : s.heap.IsTuple a its.toArray := ht
  rw [e] at ht'
  refine sum_tup0 (I.ok.hd hc) ht' fun h' tk t' hk => ?_
  rw [preSum_eq, List.take_of_length_le (by simp), hn]
  exact ⟨.int _, H, I.kept hk, ⟨_, rfl⟩, q⟩
end L2

/-! zip of two rows, each of them a list or a tuple. -/
namespace L2
open PySem PySem.Spec PyProof.Rows
/-- what kind a row is of -/
inductive Kd where
  | lst
  | tup
def Cur (k : Kd) (h : Heap) (it l : Addr) (i : Nat) : Prop := match k with
  | .lst => h.IsListIter it l i
  | .tup => h.IsTupleIter it l i
def Own (k : Kd) (h : Heap) (l : Addr) (xs : Array Value) : Prop := match k with
  | .lst => h.IsList l xs
  | .tup => h.IsTuple l xs
def SqK (k : Kd) (K : PySem.W.Frag) (H : Hp) (a : Addr) (xs : List V) : Prop := match k with
  | .lst => SqL K H a xs
  | .tup => SqT K H a xs
theorem Cur.at {k : Kd} {h h' : Heap} {it l : Addr} {i : Nat} (c : Cur k h it l i) (e : ∀ o, h.get? it = some o → h'.get? it = some o) : Cur k h' it l i := by
  cases k
  · exact Heap.IsListIter.at c e
  · exact Heap.IsTupleIter.at c e
theorem Cur.but {k : Kd} {h h' : Heap} {b it l : Addr} {i : Nat} (c : Cur k h it l i) (e : Heap.ExtBut b h h') (n : it ≠ b) : Cur k h' it l i := c.at fun o z => e _ o n z
theorem Own.but {k : Kd} {h h' : Heap} {b l : Addr} {xs : Array Value} (c : Own k h l xs) (e : Heap.ExtBut b h h') (n : l ≠ b) : Own k h' l xs := by
  cases k
  · exact Heap.IsList.extBut c e n
  · exact Heap.IsTuple.extBut c e n
theorem Cur.obj {k : Kd} {h : Heap} {it l : Addr} {i : Nat} (c : Cur k h it l i) : ∃ o, h.get? it = some o ∧ ∀ v, o.data ≠ .cell v := by
  cases k <;> exact let ⟨o, e, _, d⟩ := c; ⟨o, e, fun v z => by rw [d] at z; cases z⟩
section
variable {prog : Program} {w : World} {A : Around} {E : Value → Shared → Prop} {s : Shared}
theorem cur_next {k : Kd} {it l : Addr} {i : Nat} {xs : Array Value} {x : Value} {Q : Value → Shared → Prop} (c : Cur k s.heap it l i) (o : Own k s.heap l xs) (hx : xs[i]? = some x)
    (q : ∀ h', Cur k h' it l (i + 1) → Heap.SameBut it s.heap h' → Q x { s with heap := h' }) : wpAny (model prog w) A (Builtin.SmallTypes.nextOf (.ref it)) Q E s := by
  cases k
  · exact wpAny_nextOf_list_item c o hx q
  · exact RZ.nextOf_tuple_item c o hx q
theorem cur_end {k : Kd} {it l : Addr} {i : Nat} {xs : Array Value} {Q : Value → Shared → Prop} (hh : A.handled = none) (c : Cur k s.heap it l i) (o : Own k s.heap l xs) (hx : xs[i]? = none)
    (q : ∀ h' e, Heap.ExtBut it s.heap h' → (∃ o, h'.get? e = some o ∧ o.cls = .type "StopIteration") → E (.ref e) { s with heap := h' }) : wpAny (model prog w) A (Builtin.SmallTypes.nextOf (.ref it)) Q E s := by
  cases k
  · exact wpAny_nextOf_list_end hh c o hx q
  · exact RZ.nextOf_tuple_end hh c o hx q

/-- both take their next things -/
theorem zipK_item {k1 k2 : Kd} {z TI TO i1 i2 l1 l2 : Addr} {n1 n2 : Nat} {xs ys : Array Value} {x y a b : Value} {Q : Value → Shared → Prop} (D : ZipApart z TI TO i1 i2 l1 l2) (hz : IsZip s.heap z TI TO .none)
    (hI : IsPair s.heap TI (.ref i1) (.ref i2)) (hO : IsPair s.heap TO a b) (c1 : Cur k1 s.heap i1 l1 n1) (c2 : Cur k2 s.heap i2 l2 n2) (o1 : Own k1 s.heap l1 xs) (o2 : Own k2 s.heap l2 ys) (hx : xs[n1]? = some x) (hy : ys[n2]? = some y)
    (q : ∀ h', IsZip h' z TI TO (rawInt s.heap.objs.size) → IsPair h' TO x y → Cur k1 h' i1 l1 (n1 + 1) → Cur k2 h' i2 l2 (n2 + 1) → IsPair h' s.heap.objs.size x y →
      (∀ c o, c ≠ z → c ≠ TO → c ≠ i1 → c ≠ i2 → s.heap.get? c = some o → h'.get? c = some o) → Q (.ref s.heap.objs.size) { s with heap := h' }) : wpAny (model prog w) A (Builtin.«zip.__next__» ⟨[.ref z], []⟩) (fun f s' => ∃ v, f = .done (.ret v) ∧ Q v s') E s := by
  change wpAny _ _ (field (.ref z) 2 >>= _) _ _ _
  refine wpAny_bind ?_; refine wpAny_field (x := .bool false) hz rfl rfl ?_
  change wpAny _ _ (field (.ref z) 3 >>= _) _ _ _
  refine wpAny_bind ?_; refine wpAny_field (x := .ref TI) hz rfl rfl ?_
  refine wpAny_bind ?_; refine wpAny_seqItems hI rfl ?_
  change wpAny _ _ (Builtin.SmallTypes.ownedTupleIsFree (.ref z) >>= _) _ _ _
  unfold Builtin.SmallTypes.ownedTupleIsFree
  refine wpAny_bind ?_; refine wpAny_bind (wpAny_field (x := .none) hz rfl rfl (wpAny_pure ?_))
  simp only [if_true]
  refine wpAny_bind ?_; refine wpAny_rule ?_
  refine wpAny_bind ?_; refine wpAny_field (x := .ref TO) hz rfl rfl ?_
  refine wpAny_bind ?_; refine wpAny_setField_rec hz (by simp) fun ha za ea => ?_
  have za' : IsZip ha z TI TO .ellipsis := za
  refine wpAny_bind ?_
  simp only [List.zipIdx_cons, List.zipIdx_nil, List.forIn_cons, List.forIn_nil]
  refine wpAny_bind ?_; refine wpAny_bind (wpAny_onRaise ?_)
  change wpAny _ _ (Builtin.SmallTypes.nextOf (.ref i1) >>= _) _ _ _
  refine wpAny_bind ?_; refine cur_next (c1.but ea.extBut D.i1z) (o1.but ea.extBut D.l1z) hx fun hb cb eb => wpAny_pure ?_
  have Ob : IsPair hb TO a b := eb.extBut _ _ D.TOi1 (ea.extBut _ _ D.TOz hO)
  refine wpAny_bind ?_; refine wpAny_seqItems Ob rfl ?_
  refine wpAny_bind ?_; refine wpAny_updateSeq_pair Ob fun hc Oc ec => ?_
  have Oc' : IsPair hc TO x b := Oc
  refine wpAny_bind ?_; refine wpAny_letGo (wpAny_pure ?_)
  refine wpAny_bind ?_; refine wpAny_bind (wpAny_onRaise ?_)
  change wpAny _ _ (Builtin.SmallTypes.nextOf (.ref i2) >>= _) _ _ _
  refine wpAny_bind ?_; refine cur_next (((c2.but ea.extBut D.i2z).but eb.extBut D.i12.symm).but ec.extBut D.TOi2.symm) (((o2.but ea.extBut D.l2z).but eb.extBut D.l2i1).but ec.extBut D.l2TO) hy fun hd cd ed => wpAny_pure ?_
  have Od : IsPair hd TO x b := ed.extBut _ _ D.TOi2 Oc'
  refine wpAny_bind ?_; refine wpAny_seqItems Od rfl ?_
  refine wpAny_bind ?_; refine wpAny_updateSeq_pair Od fun he Oe ee => ?_
  have Oe' : IsPair he TO x y := Oe
  refine wpAny_bind ?_; refine wpAny_letGo (wpAny_pure (wpAny_pure ?_))
  refine wpAny_bind ?_; refine wpAny_seqItems Oe' rfl ?_
  refine wpAny_bind ?_; refine wpAny_newTuple ?_
  have size : he.objs.size = s.heap.objs.size := by rw [ee.1, ed.1, ec.1, eb.1, ea.1]
  have ze : IsZip he z TI TO .ellipsis := ee.extBut _ _ D.TOz.symm (ed.extBut _ _ D.i2z.symm (ec.extBut _ _ D.TOz.symm (eb.extBut _ _ D.i1z.symm za')))
  have old : ∀ c o, c ≠ z → c ≠ TO → c ≠ i1 → c ≠ i2 → s.heap.get? c = some o → he.get? c = some o :=
    fun c o p1 p2 p3 p4 e => ee.extBut _ _ p2 (ed.extBut _ _ p4 (ec.extBut _ _ p2 (eb.extBut _ _ p3 (ea.extBut _ _ p1 e))))
  have ce1 : Cur k1 he i1 l1 (n1 + 1) := ((cb.but ec.extBut D.TOi1.symm).but ed.extBut D.i12).but ee.extBut D.TOi1.symm
  have ce2 : Cur k2 he i2 l2 (n2 + 1) := cd.but ee.extBut D.TOi2.symm
  have zl : z < he.objs.size := Heap.lt_size ze
  change wpAny _ _ (Builtin.SmallTypes.ownedTupleHandOut (.ref z) (.ref he.objs.size) >>= _) _ _ _
  refine wpAny_bind ?_
  unfold Builtin.SmallTypes.ownedTupleHandOut
  have zp : IsZip (he.push { cls := .type "tuple", data := .seq #[x, y] }) z TI TO .ellipsis := Heap.get?_push_of_some _ ze
  refine wpAny_bind ?_; refine wpAny_setField_rec zp (by simp) fun hf zf ef => ?_
  have zf' : IsZip hf z TI TO (rawInt he.objs.size) := zf
  refine wpAny_setField_rec zf' (by simp) fun hg zg eg => ?_
  have zg' : IsZip hg z TI TO (rawInt he.objs.size) := zg
  have up : ∀ c o, c ≠ z → he.get? c = some o → hg.get? c = some o := fun c o p1 e => eg.extBut _ _ p1 (ef.extBut _ _ p1 (Heap.get?_push_of_some _ e))
  have nw : IsPair hg he.objs.size x y := eg.extBut _ _ (Nat.ne_of_gt zl) (ef.extBut _ _ (Nat.ne_of_gt zl) (Heap.get?_push_size _ rfl))
  rw [size] at zg' nw
  refine wpAny_pure ⟨_, rfl, ?_⟩
  change Q (.ref he.objs.size) _
  rw [size]
  exact q hg zg' (up _ _ D.TOz Oe') (ce1.at fun o e => up _ o D.i1z e) (ce2.at fun o e => up _ o D.i2z e) nw fun c o p1 p2 p3 p4 e => up c o p1 (old c o p1 p2 p3 p4 e)
/-- one of them has no more -/
theorem zipK_end {k1 k2 : Kd} {z TI TO i1 i2 l1 l2 : Addr} {n1 n2 : Nat} {xs ys : Array Value} {a b : Value} {Q : Fin → Shared → Prop} (hh : A.handled = none) (D : ZipApart z TI TO i1 i2 l1 l2) (hz : IsZip s.heap z TI TO .none)
    (hI : IsPair s.heap TI (.ref i1) (.ref i2)) (hO : IsPair s.heap TO a b) (c1 : Cur k1 s.heap i1 l1 n1) (c2 : Cur k2 s.heap i2 l2 n2) (o1 : Own k1 s.heap l1 xs) (o2 : Own k2 s.heap l2 ys) (hend : xs[n1]? = none ∨ ys[n2]? = none)
    (q : ∀ h' e, (∀ c o, c ≠ z → c ≠ TO → c ≠ i1 → c ≠ i2 → s.heap.get? c = some o → h'.get? c = some o) → (∃ o, h'.get? e = some o ∧ o.cls = .type "StopIteration") → E (.ref e) { s with heap := h' }) : wpAny (model prog w) A (Builtin.«zip.__next__» ⟨[.ref z], []⟩) Q E s := by
  change wpAny _ _ (field (.ref z) 2 >>= _) _ _ _
  refine wpAny_bind ?_; refine wpAny_field (x := .bool false) hz rfl rfl ?_
  change wpAny _ _ (field (.ref z) 3 >>= _) _ _ _
  refine wpAny_bind ?_; refine wpAny_field (x := .ref TI) hz rfl rfl ?_
  refine wpAny_bind ?_; refine wpAny_seqItems hI rfl ?_
  change wpAny _ _ (Builtin.SmallTypes.ownedTupleIsFree (.ref z) >>= _) _ _ _
  unfold Builtin.SmallTypes.ownedTupleIsFree
  refine wpAny_bind ?_; refine wpAny_bind (wpAny_field (x := .none) hz rfl rfl (wpAny_pure ?_))
  simp only [if_true]
  refine wpAny_bind ?_; refine wpAny_rule ?_
  refine wpAny_bind ?_; refine wpAny_field (x := .ref TO) hz rfl rfl ?_
  refine wpAny_bind ?_; refine wpAny_setField_rec hz (by simp) fun ha za ea => ?_
  have za' : IsZip ha z TI TO .ellipsis := za
  refine wpAny_bind ?_
  simp only [List.zipIdx_cons, List.zipIdx_nil, List.forIn_cons, List.forIn_nil]
  refine wpAny_bind ?_; refine wpAny_bind (wpAny_onRaise ?_)
  change wpAny _ _ (Builtin.SmallTypes.nextOf (.ref i1) >>= _) _ _ _
  have not_z : ∀ {h : Heap} {f : Value} {e : Addr} {o : Obj}, IsZip h z TI TO f → h.get? e = some o → o.cls = .type "StopIteration" → e ≠ z := by
    intro h f e o g ge gc en
    subst en
    rw [g] at ge
    cases ge
    simp at gc
  cases hx : xs[n1]? with
  | none =>
    refine wpAny_bind ?_; refine cur_end hh (c1.but ea.extBut D.i1z) (o1.but ea.extBut D.l1z) hx fun hb e eb ⟨oe, ge, gc⟩ => ?_
    have zb : IsZip hb z TI TO .ellipsis := eb _ _ D.i1z.symm za'
    refine wpAny_setField_rec zb (by simp) fun hc _ ec => q hc e (fun c o p1 _ p3 _ g => ec.extBut _ _ p1 (eb _ _ p3 (ea.extBut _ _ p1 g))) ⟨oe, ec.extBut _ _ (not_z zb ge gc) ge, gc⟩
  | some x =>
    have hy : ys[n2]? = none := hend.resolve_left (by rw [hx]; exact fun g => nomatch g)
    refine wpAny_bind ?_; refine cur_next (c1.but ea.extBut D.i1z) (o1.but ea.extBut D.l1z) hx fun hb cb eb => wpAny_pure ?_
    have Ob : IsPair hb TO a b := eb.extBut _ _ D.TOi1 (ea.extBut _ _ D.TOz hO)
    refine wpAny_bind ?_; refine wpAny_seqItems Ob rfl ?_
    refine wpAny_bind ?_; refine wpAny_updateSeq_pair Ob fun hc Oc ec => ?_
    refine wpAny_bind ?_; refine wpAny_letGo (wpAny_pure ?_)
    refine wpAny_bind ?_; refine wpAny_bind (wpAny_onRaise ?_)
    change wpAny _ _ (Builtin.SmallTypes.nextOf (.ref i2) >>= _) _ _ _
    refine wpAny_bind ?_; refine cur_end hh (((c2.but ea.extBut D.i2z).but eb.extBut D.i12.symm).but ec.extBut D.TOi2.symm) (((o2.but ea.extBut D.l2z).but eb.extBut D.l2i1).but ec.extBut D.l2TO) hy fun hd e ed ⟨oe, ge, gc⟩ => ?_
    have zd : IsZip hd z TI TO .ellipsis := ed _ _ D.i2z.symm (ec.extBut _ _ D.TOz.symm (eb.extBut _ _ D.i1z.symm za'))
    refine wpAny_setField_rec zd (by simp) fun hf _ ef => q hf e (fun c o p1 p2 p3 p4 g => ef.extBut _ _ p1 (ed _ _ p4 (ec.extBut _ _ p2 (eb.extBut _ _ p3 (ea.extBut _ _ p1 g))))) ⟨oe, ef.extBut _ _ (not_z zd ge gc) ge, gc⟩

theorem pyNext_zipK {k1 k2 : Kd} {z TI TO i1 i2 l1 l2 : Addr} {n1 n2 : Nat} {xs ys : Array Value} {x y a b : Value} {Q : Option Value → Shared → Prop} (D : ZipApart z TI TO i1 i2 l1 l2) (hz : IsZip s.heap z TI TO .none)
    (hI : IsPair s.heap TI (.ref i1) (.ref i2)) (hO : IsPair s.heap TO a b) (c1 : Cur k1 s.heap i1 l1 n1) (c2 : Cur k2 s.heap i2 l2 n2) (o1 : Own k1 s.heap l1 xs) (o2 : Own k2 s.heap l2 ys) (hx : xs[n1]? = some x) (hy : ys[n2]? = some y)
    (q : ∀ h', IsZip h' z TI TO (rawInt s.heap.objs.size) → IsPair h' TO x y → Cur k1 h' i1 l1 (n1 + 1) → Cur k2 h' i2 l2 (n2 + 1) → IsPair h' s.heap.objs.size x y →
      (∀ c o, c ≠ z → c ≠ TO → c ≠ i1 → c ≠ i2 → s.heap.get? c = some o → h'.get? c = some o) → Q (some (.ref s.heap.objs.size)) { s with heap := h' }) : wpAny (model prog w) A (pyNext (.ref z)) Q E s := by
  have T : s.TypeIs (.ref z) "zip" := ⟨_, hz, rfl⟩
  refine wpAny_bind (wpAny_attempt (wpAny_callSpecial?_slot (name := Str.ofString "__next__") T F.slot_zip_next (wpAny_call_entry F.slot_zip_next T F.entry_zip_next ?_ (F.args_zip_next_1 _))))
  exact zipK_item D hz hI hO c1 c2 o1 o2 hx hy fun h' a1 a2 a3 a4 a5 a6 => wpAny_pure (q h' a1 a2 a3 a4 a5 a6)
theorem pyNext_zipK_end {k1 k2 : Kd} {z TI TO i1 i2 l1 l2 : Addr} {n1 n2 : Nat} {xs ys : Array Value} {a b : Value} {Q : Option Value → Shared → Prop} (hh : A.handled = none) (D : ZipApart z TI TO i1 i2 l1 l2) (hz : IsZip s.heap z TI TO .none)
    (hI : IsPair s.heap TI (.ref i1) (.ref i2)) (hO : IsPair s.heap TO a b) (c1 : Cur k1 s.heap i1 l1 n1) (c2 : Cur k2 s.heap i2 l2 n2) (o1 : Own k1 s.heap l1 xs) (o2 : Own k2 s.heap l2 ys) (hend : xs[n1]? = none ∨ ys[n2]? = none)
    (q : ∀ h', (∀ c o, c ≠ z → c ≠ TO → c ≠ i1 → c ≠ i2 → s.heap.get? c = some o → h'.get? c = some o) → Q none { s with heap := h' }) : wpAny (model prog w) A (pyNext (.ref z)) Q E s := by
  have T : s.TypeIs (.ref z) "zip" := ⟨_, hz, rfl⟩
  refine wpAny_bind (wpAny_attempt (wpAny_callSpecial?_slot (name := Str.ofString "__next__") T F.slot_zip_next (wpAny_call_entry F.slot_zip_next T F.entry_zip_next ?_ (F.args_zip_next_1 _))))
  refine zipK_end hh D hz hI hO c1 c2 o1 o2 hend fun h' e hk ⟨o, ge, gc⟩ => ?_
  refine wpAny_bind ?_; refine wpAny_isInstance (T := "StopIteration") (b := true) ⟨o, ge, gc⟩ isSubtype_stop (wpAny_pure (q _ hk))
end
/-! ### a new zip -/
def Kd.it : Kd → String
  | .lst => "list_iterator"
  | .tup => "tuple_iterator"
def zA (k : Kd) (h : Heap) (l : Addr) : Heap := h.push { cls := .type k.it, data := .fields #[.ref l, .int 0 0] }
def zB (h : Heap) (a b : Value) : Heap := h.push { cls := .type "tuple", data := .seq #[a, b] }
def zAll (k1 k2 : Kd) (h : Heap) (l1 l2 : Addr) : Heap :=
  (zB (zB (zA k2 (zA k1 h l1) l2) (.ref h.objs.size) (.ref (zA k1 h l1).objs.size)) .none .none).push
    { cls := .type "zip", data := .fields #[.none, .bool false, .bool false, .ref (zA k2 (zA k1 h l1) l2).objs.size, .ref (zB (zA k2 (zA k1 h l1) l2) (.ref h.objs.size) (.ref (zA k1 h l1).objs.size)).objs.size] }
theorem own_push {k : Kd} {h : Heap} {l : Addr} {xs : Array Value} {o : Obj} (c : Own k h l xs) : Own k (h.push o) l xs := by
  cases k
  · exact Heap.IsList.push c _
  · exact Heap.IsTuple.push c _
theorem meets_zipK (k1 k2 : Kd) (l1 l2 : Addr) (xs ys : Array Value) : Meets (Builtin.«zip.__new__» ⟨[.type "zip", .ref l1, .ref l2], []⟩) (fun _ R s => Own k1 s.heap l1 xs ∧ Own k2 s.heap l2 ys ∧
    R (.ok (.ret (.ref (zB (zB (zA k2 (zA k1 s.heap l1) l2) (.ref s.heap.objs.size) (.ref (zA k1 s.heap l1).objs.size)) .none .none).objs.size))) { s with heap := zAll k1 k2 s.heap l1 l2 }) :=
  .of_wp fun prog w A R s h => by
    obtain ⟨hp, g, d, tk, os⟩ := s
    obtain ⟨a1, a2, h⟩ := h
    have sb := sub_zip
    have b2 : Own k2 (zA k1 hp l1) l2 ys := own_push a2
    cases k1 <;> cases k2
    · have q1 : Heap.IsList (Shared.heap ⟨hp, g, d, tk, os⟩) l1 xs := a1
      have q2 : Heap.IsList (Shared.heap ⟨zA .lst hp l1, g, d, tk, os⟩) l2 ys := b2
      unfold zA Kd.it at q2
      wp_walk using wpAny_pyIter_list q1, wpAny_pyIter_list q2
      exact ⟨_, rfl, h⟩
    · have q1 : Heap.IsList (Shared.heap ⟨hp, g, d, tk, os⟩) l1 xs := a1
      have q2 : Heap.IsTuple (Shared.heap ⟨zA .lst hp l1, g, d, tk, os⟩) l2 ys := b2
      unfold zA Kd.it at q2
      wp_walk using wpAny_pyIter_list q1, wpAny_pyIter_tuple q2
      exact ⟨_, rfl, h⟩
    · have q1 : Heap.IsTuple (Shared.heap ⟨hp, g, d, tk, os⟩) l1 xs := a1
      have q2 : Heap.IsList (Shared.heap ⟨zA .tup hp l1, g, d, tk, os⟩) l2 ys := b2
      unfold zA Kd.it at q2
      wp_walk using wpAny_pyIter_tuple q1, wpAny_pyIter_list q2
      exact ⟨_, rfl, h⟩
    · have q1 : Heap.IsTuple (Shared.heap ⟨hp, g, d, tk, os⟩) l1 xs := a1
      have q2 : Heap.IsTuple (Shared.heap ⟨zA .tup hp l1, g, d, tk, os⟩) l2 ys := b2
      unfold zA Kd.it at q2
      wp_walk using wpAny_pyIter_tuple q1, wpAny_pyIter_tuple q2
      exact ⟨_, rfl, h⟩
theorem zA_get {k : Kd} {h : Heap} {l : Addr} {c : Addr} {o : Obj} (e : h.get? c = some o) : (zA k h l).get? c = some o := Heap.get?_push_of_some _ e
theorem zB_get {h : Heap} {a b : Value} {c : Addr} {o : Obj} (e : h.get? c = some o) : (zB h a b).get? c = some o := Heap.get?_push_of_some _ e
theorem zA_size {k : Kd} {h : Heap} {l : Addr} : (zA k h l).objs.size = h.objs.size + 1 := Heap.size_push ..
theorem zB_size {h : Heap} {a b : Value} : (zB h a b).objs.size = h.objs.size + 1 := Heap.size_push ..
theorem zA_new {k : Kd} {h : Heap} {l : Addr} : (zA k h l).get? h.objs.size = some { cls := .type k.it, data := .fields #[.ref l, .int 0 0] } := Heap.get?_push_size _ rfl
theorem zB_new {h : Heap} {a b : Value} : (zB h a b).get? h.objs.size = some { cls := .type "tuple", data := .seq #[a, b] } := Heap.get?_push_size _ rfl
theorem cur_of {k : Kd} {h : Heap} {it l : Addr} (e : h.get? it = some { cls := .type k.it, data := .fields #[.ref l, .int 0 0] }) : Cur k h it l 0 := by
  cases k <;> exact ⟨_, e, rfl, rfl⟩
section
variable {prog : Program} {w : World} {A : Around} {E : Value → Shared → Prop} {s : Shared}
theorem call_zipK {k1 k2 : Kd} {l1 l2 : Addr} {xs ys : Array Value} {Q : Value → Shared → Prop} (o1 : Own k1 s.heap l1 xs) (o2 : Own k2 s.heap l2 ys)
    (q : ∀ h', IsZip h' (s.heap.objs.size + 4) (s.heap.objs.size + 2) (s.heap.objs.size + 3) .none → IsPair h' (s.heap.objs.size + 2) (.ref s.heap.objs.size) (.ref (s.heap.objs.size + 1)) → IsPair h' (s.heap.objs.size + 3) .none .none →
      Cur k1 h' s.heap.objs.size l1 0 → Cur k2 h' (s.heap.objs.size + 1) l2 0 → (∀ c o, s.heap.get? c = some o → h'.get? c = some o) → Q (.ref (s.heap.objs.size + 4)) { s with heap := h' }) : wpAny (model prog w) A (call (.type "zip") [.ref l1, .ref l2]) Q E s := by
  refine callType_new F.called_zip (by decide) (F.typeCall_zip_2 _ _) (F.newCall_zip_2 _ _) (fun _ => F.args_object_init_3 _ _ _) F.entry_zip_new (meets_zipK k1 k2 l1 l2 xs ys) ⟨o1, o2, ?_⟩
  have up : ∀ c o, (zB (zB (zA k2 (zA k1 s.heap l1) l2) (.ref s.heap.objs.size) (.ref (zA k1 s.heap l1).objs.size)) .none .none).get? c = some o → (zAll k1 k2 s.heap l1 l2).get? c = some o := fun c o e => Heap.get?_push_of_some _ e
  have g0 : (zAll k1 k2 s.heap l1 l2).get? (zB (zB (zA k2 (zA k1 s.heap l1) l2) (.ref s.heap.objs.size) (.ref (zA k1 s.heap l1).objs.size)) .none .none).objs.size = some _ := Heap.get?_push_size _ rfl
  have g1 := up _ _ (zB_new (h := zB (zA k2 (zA k1 s.heap l1) l2) (.ref s.heap.objs.size) (.ref (zA k1 s.heap l1).objs.size)) (a := .none) (b := .none))
  have g2 := up _ _ (zB_get (a := .none) (b := .none) (zB_new (h := zA k2 (zA k1 s.heap l1) l2) (a := .ref s.heap.objs.size) (b := .ref (zA k1 s.heap l1).objs.size)))
  have g3 := up _ _ (zB_get (a := .none) (b := .none) (zB_get (a := .ref s.heap.objs.size) (b := .ref (zA k1 s.heap l1).objs.size) (zA_new (k := k2) (h := zA k1 s.heap l1) (l := l2))))
  have g4 := up _ _ (zB_get (a := .none) (b := .none) (zB_get (a := .ref s.heap.objs.size) (b := .ref (zA k1 s.heap l1).objs.size) (zA_get (k := k2) (l := l2) (zA_new (k := k1) (h := s.heap) (l := l1)))))
  show _ ∧ _
  have n1 : (zA k1 s.heap l1).objs.size = s.heap.objs.size + 1 := zA_size
  have n2 : (zA k2 (zA k1 s.heap l1) l2).objs.size = s.heap.objs.size + 2 := by rw [zA_size, n1]
  have n3 : (zB (zA k2 (zA k1 s.heap l1) l2) (.ref s.heap.objs.size) (.ref (zA k1 s.heap l1).objs.size)).objs.size = s.heap.objs.size + 3 := by rw [zB_size, n2]
  have n4 : (zB (zB (zA k2 (zA k1 s.heap l1) l2) (.ref s.heap.objs.size) (.ref (zA k1 s.heap l1).objs.size)) .none .none).objs.size = s.heap.objs.size + 4 := by rw [zB_size, n3]
  rw [n4, n2, n3] at g0
  rw [n3] at g1
  rw [n2, n1] at g2
  rw [n1] at g3
  rw [n4]
  exact ⟨⟨_, g0, rfl⟩, q _ g0 g2 g1 (cur_of g4) (cur_of g3) fun c o e => up c o (zB_get (zB_get (zA_get (zA_get e))))⟩
end

/-! ### the walk -/
def ItzK (k1 k2 : Kd) (K : PySem.W.Frag) (a b : Addr) : It where
  go := fun i H => ∃ xs ys x y, SqK k1 K H a xs ∧ SqK k2 K H b ys ∧ xs[i]? = some x ∧ ys[i]? = some y
  yld := fun i H v H' => ∃ T x y, v = .ref T ∧ H T = none ∧ H' = upd H T (.tup [x, y]) ∧ (∀ xs, SqK k1 K H a xs → xs[i]? = some x) ∧ (∀ ys, SqK k2 K H b ys → ys[i]? = some y)
  stop := fun i H => ∃ xs ys, SqK k1 K H a xs ∧ SqK k2 K H b ys ∧ (xs.length ≤ i ∨ ys.length ≤ i)
theorem inv_own {X : Cx} {pins : List (Addr × Obj)} {σ : L2.St} {H : Hp} {s : Shared} (I : Inv X pins σ H s) {k : Kd} {a : Addr} {xs : List V} (q : SqK k X.K H a xs) :
    ∃ its : List Value, Vals xs its ∧ Own k s.heap a its.toArray ∧ a < s.heap.objs.size := by
  cases k
  · obtain ⟨its, r, p, _⟩ := I.list q
    exact ⟨its, r, p.isList, p.lt⟩
  · obtain ⟨its, r, p, _⟩ := I.tuple q
    have p' : s.heap.IsTuple a its.toArray := p
    obtain ⟨o, e, _⟩ := id p'
    exact ⟨its, r, p', Heap.lt_size e⟩
theorem inv_inj {X : Cx} {pins : List (Addr × Obj)} {σ : L2.St} {H : Hp} {s : Shared} (I : Inv X pins σ H s) {k : Kd} {a : Addr} {xs ys : List V} (p : SqK k X.K H a xs) (q : SqK k X.K H a ys) : xs = ys := by
  cases k
  · exact I.list_inj p q
  · exact I.tuple_inj p q
/-- one of five -/
theorem five {P : Addr → Prop} {z TI TO i1 i2 : Addr} (a1 : P z) (a2 : P TI) (a3 : P TO) (a4 : P i1) (a5 : P i2) : ∀ c ∈ [z, TI, TO, i1, i2], P c := by
  intro c h
  simp only [List.mem_cons, List.mem_nil_iff, or_false] at h
  rcases h with e | e | e | e | e <;> rw [e] <;> assumption
theorem not_five {c z TI TO i1 i2 : Addr} (h : c ∉ [z, TI, TO, i1, i2]) : c ≠ z ∧ c ≠ TI ∧ c ≠ TO ∧ c ≠ i1 ∧ c ≠ i2 := by
  simpa using h
theorem turn_zipK {P : Program} {w : World} {K : PySem.W.Frag} {elts : List Expr} {kk : Nat} {tpos : Pos} {k1 k2 : Kd} {a b z TI TO i1 i2 : Addr} (D : ZipApart z TI TO i1 i2 a b) :
    Turn P w K (.Tuple elts kk tpos) (ItzK k1 k2 K a b) [z, TI, TO, i1, i2] z (fun i h => IsZip h z TI TO .none ∧ IsPair h TI (.ref i1) (.ref i2) ∧ (∃ x y, IsPair h TO x y) ∧ Cur k1 h i1 a i ∧ Cur k2 h i2 b i) where
  mem := List.mem_cons_self
  obj := fun i h st => by
    obtain ⟨hz, hI, ⟨x, y, hO⟩, c1, c2⟩ := st
    exact five ⟨_, hz, fun _ g => nomatch g⟩ ⟨_, hI, fun _ g => nomatch g⟩ ⟨_, hO, fun _ g => nomatch g⟩ c1.obj c2.obj
  keep := fun i h h' st k => by
    obtain ⟨hz, hI, ⟨x, y, hO⟩, c1, c2⟩ := st
    exact ⟨k _ (by simp) _ hz, k _ (by simp) _ hI, ⟨x, y, k _ (by simp) _ hO⟩, c1.at (k _ (by simp)), c2.at (k _ (by simp))⟩
  item := by
    intro X hP hw hK hc i pins s σ H E I hf st hg
    subst hP hw hK
    obtain ⟨hz, hI, ⟨x0, y0, hO⟩, c1, c2⟩ := st
    obtain ⟨xs, ys, x, y, qx, qy, hx, hy⟩ := hg
    obtain ⟨us, rx, ox, _⟩ := inv_own I qx
    obtain ⟨vs, ry, oy, _⟩ := inv_own I qy
    obtain ⟨u, hu, ru⟩ := rx.get hx
    obtain ⟨v, hv, rv⟩ := ry.get hy
    have zl : z < s.heap.objs.size := Heap.lt_size hz
    refine pyNext_zipK D hz hI hO c1 c2 ox oy (x := u) (y := v) (by simpa using hu) (by simpa using hv) fun h1 zz OO d1 d2 nw old => ⟨_, rfl, ?_⟩
    refine wpAny_letOwnedTupleGo_zip (s := { s with heap := h1 }) zz fun h2 z2 sb => ?_
    have keeps : ∀ c o, c ≠ z → c ≠ TO → c ≠ i1 → c ≠ i2 → s.heap.get? c = some o → h2.get? c = some o := fun c o p1 p2 p3 p4 e => (sb.2 c p1).trans (old c o p1 p2 p3 p4 e)
    have pair : h2.get? s.heap.objs.size = some { cls := .type "tuple", data := .seq #[u, v] } := (sb.2 _ (Nat.ne_of_gt zl)).trans nw
    have isnew : ObjOk X.prog X.w (upd H s.heap.objs.size (.tup [x, y])) h2 s.heap.objs.size (.tup [x, y]) := ⟨by show 2 ≤ sizeLine; decide, [u, v], .cons ru (.cons rv .nil), ⟨_, pair, rfl, _, rfl⟩⟩
    have I2 := I.turnedNew (t' := s.toks) (ch := [z, TI, TO, i1, i2]) (h' := h2) (fun c o hb e => let n := not_five hb; keeps c o n.1 n.2.2.1 n.2.2.2.1 n.2.2.2.2 e) hf (Nat.le_refl _) isnew
    have lts : ∀ c ∈ [z, TI, TO, i1, i2], c < s.heap.objs.size := five zl (Heap.lt_size hI) (Heap.lt_size hO) (let ⟨_, e, _⟩ := c1.obj; Heap.lt_size e) (let ⟨_, e, _⟩ := c2.obj; Heap.lt_size e)
    refine ⟨.ref s.heap.objs.size, _, I2, rfl, ⟨_, x, y, rfl, I.hok.fresh (Nat.le_refl _), rfl, fun l hl => ?_, fun l hl => ?_⟩, ⟨z2, ?_, ⟨u, v, (sb.2 _ D.TOz).trans OO⟩, d1.at fun o e => (sb.2 _ D.i1z).trans e, d2.at fun o e => (sb.2 _ D.i2z).trans e⟩, fun c hm => ?_⟩
    · rw [inv_inj I hl qx]
      exact hx
    · rw [inv_inj I hl qy]
      exact hy
    · exact keeps _ _ D.TIz D.TITO D.TIi1 D.TIi2 hI
    · rw [upd_ne (Nat.ne_of_lt (lts c hm))]
      exact (hf c hm).1
  done := by
    intro X hP hw hK hc i pins s σ H E I hf st hg
    subst hP hw hK
    obtain ⟨hz, hI, ⟨x0, y0, hO⟩, c1, c2⟩ := st
    obtain ⟨xs, ys, qx, qy, hend⟩ := hg
    obtain ⟨us, rx, ox, _⟩ := inv_own I qx
    obtain ⟨vs, ry, oy, _⟩ := inv_own I qy
    have l1 := rx.length
    have l2 := ry.length
    have none_at : us.toArray[i]? = none ∨ vs.toArray[i]? = none := hend.imp (fun g => by simp; omega) (fun g => by simp; omega)
    refine pyNext_zipK_end (I.ok.hd hc) D hz hI hO c1 c2 ox oy none_at fun h1 old => ⟨rfl, I.turnedL (t' := s.toks) (ch := [z, TI, TO, i1, i2]) (fun c o hb e => ?_) hf⟩
    have n := not_five hb
    exact old c o n.1 n.2.2.1 n.2.2.2.1 n.2.2.2.2 e
  self := fun A i s Q E st h => wpAny_pyIter_zip st.1 h
def iZipK (K : PySem.W.Frag) (ta : TA) : TI := fun σ H R => ta σ H fun vs H1 => ∃ (k1 k2 : Kd) (a b : Addr) (xs ys : List V), vs = [.ref a, .ref b] ∧ SqK k1 K H1 a xs ∧ SqK k2 K H1 b ys ∧ R (ItzK k1 k2 K a b) H1
theorem k_piZK {X : Cx} {K : PySem.W.Frag} {e e2 : Expr} {ta : TA} {p pos tpos : Pos} {elts : List Expr} {kk : Nat} (hg : Gl X "zip") (hm : X.mg "zip" = none) (ha : PA X [e, e2] ta)
    (hs : starEach [e, e2] X.env = (false, eval e X.env) :: starEach [e2] X.env := by rfl)
    (hpl : (backTo pos (starEach [e2] X.env)).any (·.1) = false := by rfl) (ek : X.K = K := by rfl) : PI X (.Tuple elts kk tpos) (.Call (.Name "zip" p) [e, e2] [] pos) (iZipK K ta) := by
  subst ek
  refine ⟨fun pins s σ H R I h => Call_ (ld_blt I hg hm boot_zip (callWith_type1 (thn (ha.run pos pins s σ H _ I h) fun us t ⟨vs, H1, I1, r1, k1, k2, a, b, xs, ys, ex, qx, qy, q⟩ => ?_) hs hpl))⟩
  subst ex
  obtain ⟨u, v, rfl, ru, rv⟩ := vals2 r1
  cases ru
  cases rv
  obtain ⟨_, _, ox, la⟩ := inv_own I1 qx
  obtain ⟨_, _, oy, lb⟩ := inv_own I1 qy
  refine call_zipK ox oy fun h1 hz hI hO d1 d2 hk => wpAny_pyIter_zip hz ?_
  refine ⟨_, _, _, _, H1, rfl, I1.kept (t' := t.toks) hk, turn_zipK (PySem.W.ktu_apart t.heap.objs.size a b la lb), ⟨hz, hI, ⟨_, _, hO⟩, d1, d2⟩, five ?_ ?_ ?_ ?_ ?_, q⟩
  all_goals exact I1.fpOk (by omega) (I1.hok.fresh (by omega))
theorem walk_zipK {K : PySem.W.Frag} {k1 k2 : Kd} {a b : Addr} {xs ys : List V} {n : Nat} (h1 : n ≤ xs.length) (h2 : n ≤ ys.length) (h3 : xs.length = n ∨ ys.length = n) :
    Walk (ItzK k1 k2 K a b) n (fun H => SqK k1 K H a xs ∧ SqK k2 K H b ys) (YPair (fun i => xs[i]?) (fun i => ys[i]?)) where
  goes := fun i _ hi q => ⟨xs, ys, xs[i]'(by omega), ys[i]'(by omega), q.1, q.2, by simp [show i < xs.length by omega], by simp [show i < ys.length by omega]⟩
  stops := fun _ q => ⟨xs, ys, q.1, q.2, by omega⟩
  yields := fun i H v H' _ q ⟨T, x, y, e1, e2, e3, e4, e5⟩ => ⟨T, x, y, e1, e2, e3, e4 xs q.1, e5 ys q.2⟩
end L2

/-! A walk over a row that is a list or a tuple. -/
namespace L2
open PySem PySem.Spec PyProof.Rows
def ItR (k : Kd) (K : PySem.W.Frag) (a : Addr) : It := match k with
  | .lst => Itl K a
  | .tup => Itt K a
def iRow (K : PySem.W.Frag) (te : TE) : TI := fun σ H R => te σ H fun x H1 => ∃ (k : Kd) (a : Addr) (xs : List V), x = .ref a ∧ SqK k K H1 a xs ∧ R (ItR k K a) H1
theorem k_piK {X : Cx} {K : PySem.W.Frag} {tg e : Expr} {te : TE} (he : PE X e te) (ek : X.K = K := by rfl) : PI X tg e (iRow K te) := by
  subst ek
  refine ⟨fun pins s σ H R I h => thn (he.run pins s σ H _ I h) fun v t ⟨x, H1, I1, r1, k, a, xs, ex, qx, q⟩ => ?_⟩
  subst ex
  cases r1
  have one : ∀ b ∈ [t.heap.objs.size], FpOk X pins H1 b := fun b hb => by
    rw [List.mem_singleton.mp hb]
    exact I1.fpOk (Nat.le_refl _) (I1.hok.fresh (Nat.le_refl _))
  cases k
  · obtain ⟨its, _, p, _⟩ := I1.list qx
    exact wpAny_pyIter_list p.isList ⟨_, _, _, _, H1, rfl, I1.kept (t' := t.toks) (fun b o g => Heap.get?_push_of_some _ g), turn_list a _, ⟨_, Heap.get?_push_size _ rfl, rfl, rfl⟩, one, q⟩
  · obtain ⟨its, _, p, _⟩ := I1.tuple qx
    exact wpAny_pyIter_tuple (show t.heap.IsTuple a its.toArray from p) ⟨_, _, _, _, H1, rfl, I1.kept (t' := t.toks) (fun b o g => Heap.get?_push_of_some _ g), turn_tuple a _, ⟨_, Heap.get?_push_size _ rfl, rfl, rfl⟩, one, q⟩
theorem walk_row {K : PySem.W.Frag} {k : Kd} {a : Addr} {xs : List V} : Walk (ItR k K a) xs.length (fun H => SqK k K H a xs) (YAt xs) := by
  cases k
  · exact walk_list
  · exact walk_tup
end L2

/-! Spans, weights and rows carried on: what k25 and k10 share, for the laws of fits. -/
namespace My
open PySem PySem.Spec PyProof.Rows L2
theorem okm_lcm {ns : List Nat} (ok : OkM ns) : lcmN ns ≤ 2 ^ 40 := by
  refine Nat.le_trans (lcmN_le (b := 64) (by decide) fun n hn => (ok.2 n hn).2) (Nat.le_trans (Nat.pow_le_pow_right (by decide) ok.1) (by decide))
theorem nn_of {ds : List Int} (h : ∀ d ∈ ds, 1 ≤ d) : ∃ ns : List Nat, ds = NN ns := by
  refine ⟨ds.map Int.toNat, ?_⟩
  unfold NN
  rw [List.map_map]
  refine (List.map_id _).symm.trans (List.map_congr_left fun d hd => ?_)
  have := h d hd
  show d = ((d.toNat : Nat) : Int)
  omega
theorem nn_at {ns : List Nat} {i n : Nat} (h : ns[i]? = some n) : atI ((NN ns).map V.int) ((i : Nat) : Int) = some (.int (n : Nat)) := by
  refine at_of (j := i) rfl ?_
  unfold NN
  rw [List.getElem?_map, List.getElem?_map, h]
  rfl
theorem lst_new {H : Hp} {p : Addr} (h : H p = none) (xs : List V) : upd H p (.lst xs) p = some (.lst xs) := upd_same
theorem cutV_fromN (xs : List V) (d : Nat) (h : True := trivial) : L2.cutV xs (some ((d : Nat) : Int)) none = xs.drop d := by
  unfold L2.cutV
  rw [HT.sIx_none, HT.sIx_nat]
  by_cases q : d ≤ xs.length
  · rw [Nat.min_eq_left q, List.take_of_length_le (by rw [List.length_drop]; omega)]
  · rw [Nat.min_eq_right (by omega), List.drop_length, List.drop_of_length_le (by omega), List.take_nil]
def bits (ns : List Nat) (r : Nat) : List Bool := ns.map fun n => decide (n % r = 0)
theorem bits_any (ns : List Nat) (r : Nat) : (bits ns r).any id = dvf ns r := by
  unfold bits dvf
  rw [List.any_map]
  rfl
theorem pick_len (ps : List (Nat × Int)) (r : Nat) : (pick ps r).length ≤ ps.length := by
  unfold pick
  rw [List.length_map]
  exact List.length_filter_le _ _
theorem range_len : ((64 : Int) - 0).toNat = 64 := by decide
def fracs1 (p d : Int) (n : Nat) : List Int := (List.range n).map fun (k : Nat) => (k : Int) * (p.fdiv d)
def fracs (p : Int) (ds : List Int) : List Int := ds.flatMap fun d => fracs1 p d d.toNat
theorem fracs1_len (p d : Int) (n : Nat) : (fracs1 p d n).length = n := by
  unfold fracs1
  rw [List.length_map, List.length_range]
theorem fracs1_more (p d : Int) (n : Nat) : fracs1 p d (n + 1) = fracs1 p d n ++ [(n : Int) * (p.fdiv d)] := by
  unfold fracs1
  rw [List.range_succ, List.map_append]
  rfl
theorem fracs_len (p : Int) : ∀ ds : List Int, (∀ d ∈ ds, 1 ≤ d ∧ d ≤ 64) → (fracs p ds).length ≤ 64 * ds.length
  | [], _ => Nat.zero_le _
  | d :: ds, h => by
    have ih := fracs_len p ds fun z hz => h z (List.mem_cons_of_mem _ hz)
    have hd := h d List.mem_cons_self
    show (fracs1 p d d.toNat ++ fracs p ds).length ≤ 64 * (ds.length + 1)
    rw [List.length_append, fracs1_len]
    omega
theorem fracs_take (p : Int) {ds : List Int} {i : Nat} {d : Int} (h : ds[i]? = some d) : fracs p (ds.take (i + 1)) = fracs p (ds.take i) ++ fracs1 p d d.toNat := by
  rw [take_more h]
  unfold fracs
  rw [List.flatMap_append]
  simp
def pairs (ds : List Int) : List (Nat × Nat) := ds.flatMap fun d => (List.range d.toNat).map fun k => (d.toNat, k)
theorem mem_pairs {ds : List Int} {p : Nat × Nat} (ok : ∀ d ∈ ds, 1 ≤ d) (h : p ∈ pairs ds) : (p.1 : Int) ∈ ds ∧ 0 < p.1 := by
  obtain ⟨d, hd, h⟩ := List.mem_flatMap.mp h
  obtain ⟨k, _, rfl⟩ := List.mem_map.mp h
  have := ok d hd
  refine ⟨?_, by show 0 < d.toNat; omega⟩
  show ((d.toNat : Nat) : Int) ∈ ds
  rw [Int.toNat_of_nonneg (by omega)]
  exact hd
theorem reds_pairs (ds : List Int) : reds ds = (pairs ds).map fun p => red p.1 p.2 := by
  unfold reds pairs reds1
  rw [List.map_flatMap]
  congr 1
  funext d
  rw [List.map_map]
  rfl
theorem fracs_pairs (P : Int) : ∀ ds : List Int, (∀ d ∈ ds, 1 ≤ d) → fracs P ds = (pairs ds).map fun p => (p.2 : Int) * P.fdiv (p.1 : Int)
  | [], _ => rfl
  | d :: ds, ok => by
    have ih := fracs_pairs P ds fun z hz => ok z (List.mem_cons_of_mem _ hz)
    have hd := ok d List.mem_cons_self
    show fracs1 P d d.toNat ++ fracs P ds = (((List.range d.toNat).map fun k => (d.toNat, k)) ++ pairs ds).map _
    rw [List.map_append, ← ih, List.map_map]
    congr 1
    refine List.map_congr_left fun k _ => ?_
    show (k : Int) * P.fdiv d = (k : Int) * P.fdiv ((d.toNat : Nat) : Int)
    rw [Int.toNat_of_nonneg (by omega)]
theorem cross {P d e k l : Int} (hd : 0 < d) (he : 0 < e) (hP : 0 < P) (dP : d ∣ P) (eP : e ∣ P) : k * P.fdiv d = l * P.fdiv e ↔ k * e = l * d := by
  obtain ⟨m, rfl⟩ := dP
  obtain ⟨n, hn⟩ := eP
  have q1 : (d * m).fdiv d = m := by rw [Int.fdiv_eq_ediv_of_nonneg _ (by omega), Int.mul_ediv_cancel_left _ (by omega)]
  have q2 : (d * m).fdiv e = n := by rw [hn, Int.fdiv_eq_ediv_of_nonneg _ (by omega), Int.mul_ediv_cancel_left _ (by omega)]
  rw [q1, q2]
  have mz : m ≠ 0 := fun z => by rw [z, Int.mul_zero] at hP; omega
  have nz : n ≠ 0 := fun z => by rw [hn, z, Int.mul_zero] at hP; omega
  have ez : e ≠ 0 := by omega
  have dz : d ≠ 0 := by omega
  constructor
  · intro h
    have h2 : (k * e) * m = (l * d) * m := by
      calc (k * e) * m = (k * m) * e := by rw [Int.mul_assoc, Int.mul_comm e m, ← Int.mul_assoc]
        _ = (l * n) * e := by rw [h]
        _ = l * (e * n) := by rw [Int.mul_assoc, Int.mul_comm n e]
        _ = l * (d * m) := by rw [hn]
        _ = (l * d) * m := by rw [Int.mul_assoc]
    exact Int.eq_of_mul_eq_mul_right mz h2
  · intro h
    have h2 : (k * m) * e = (l * n) * e := by
      calc (k * m) * e = (k * e) * m := by rw [Int.mul_assoc, Int.mul_comm m e, ← Int.mul_assoc]
        _ = (l * d) * m := by rw [h]
        _ = l * (d * m) := by rw [Int.mul_assoc]
        _ = l * (e * n) := by rw [hn]
        _ = (l * n) * e := by rw [Int.mul_assoc, Int.mul_comm n e]
    exact Int.eq_of_mul_eq_mul_right ez h2
theorem span_lcm {ns : List Nat} (ok : ∀ n ∈ ns, 1 ≤ n) : (fset (fracs ((lcmN ns : Nat) : Int) (NN ns))).length = dueN (NN ns) := by
  have okI : ∀ d ∈ NN ns, (1 : Int) ≤ d := by
    intro d hd
    obtain ⟨n, hn, rfl⟩ := List.mem_map.mp hd
    have := ok n hn
    omega
  unfold dueN
  rw [fracs_pairs _ _ okI, reds_pairs]
  have h1 : (0 : Int) < ((lcmN ns : Nat) : Int) := by
    have := lcmN_pos ok
    omega
  have h3 : ∀ d ∈ NN ns, d ∣ ((lcmN ns : Nat) : Int) := by
    intro d hd
    obtain ⟨n, hn, rfl⟩ := List.mem_map.mp hd
    exact Int.natCast_dvd_natCast.mpr (dvd_lcmN hn)
  refine same_count _ _ _ fun p hp q hq => ?_
  obtain ⟨a1, a2⟩ := mem_pairs okI hp
  obtain ⟨b1, b2⟩ := mem_pairs okI hq
  rw [red_eq a2 b2]
  show (p.2 : Int) * ((lcmN ns : Nat) : Int).fdiv (p.1 : Int) = (q.2 : Int) * ((lcmN ns : Nat) : Int).fdiv (q.1 : Int) ↔ _
  rw [cross (P := ((lcmN ns : Nat) : Int)) (by omega) (by omega) h1 (h3 _ a1) (h3 _ b1)]
  constructor
  · intro h
    exact Int.ofNat.inj (by push_cast; exact h)
  · intro h
    have := congrArg (fun n : Nat => (n : Int)) h
    push_cast at this
    exact this
theorem due_384 {ns : List Nat} (ok : OkM ns) : dueN (NN ns) ≤ 384 := by
  have a := fset_le (reds (NN ns))
  have b := reds_len (NN ns) fun d hd => by
    obtain ⟨n, hn, rfl⟩ := List.mem_map.mp hd
    have := ok.2 n hn
    omega
  rw [nn_len] at b
  have := ok.1
  unfold dueN
  omega
def sp_span (K : PySem.W.Frag) : Sp := fun vs H Q _ => ∃ (v : V) (ns : List Nat), vs = [v] ∧ Dp K H v (dInts (NN ns)) ∧ OkM ns ∧ ∀ H', Same H H' → Q (.int (dueN (NN ns) : Nat)) H'
def dotz (xs ys : List Int) : Int := (List.zipWith (· * ·) xs ys).sum
def sp_weighted (K : PySem.W.Frag) : Sp := fun vs H Q _ => ∃ (k1 k2 : Kd) (a b : Addr) (xs ys : List Int), vs = [.ref a, .ref b] ∧ SqK k1 K H a (xs.map V.int) ∧ SqK k2 K H b (ys.map V.int) ∧ (xs.length ≤ 5000 ∧ ys.length ≤ 5000 ∧ ∀ x ∈ xs, ∀ y ∈ ys, x.natAbs.log2 + y.natAbs.log2 < 1000000) ∧
  ∀ H', Same H H' → Q (.int (dotz xs ys)) H'
theorem SqK.same {k : Kd} {K : PySem.W.Frag} {H H' : Hp} {a : Addr} {xs : List V} (h : SqK k K H a xs) (e : Same H H') : SqK k K H' a xs := by
  cases k
  · rcases h with (h | ⟨o, h⟩) | h
    · exact .inl (.inl (e _ _ h))
    · exact .inl (.inr ⟨o, e _ _ h⟩)
    · exact .inr h
  · exact Same.tk e _ _ h
theorem last_cut (W : List Int) : L2.cutD (W.map PyData.int) none (some (-1)) = W.dropLast.map PyData.int := by
  rw [cutD_last, List.map_dropLast]
theorem wl_known {ns : List Nat} (ok : OkM ns) : (Wl (dvf ns)).dropLast.length = dueN (NN ns) ∧ ∀ z ∈ (Wl (dvf ns)).dropLast, z.natAbs < 10 ^ 120 :=
  ⟨by rw [List.length_dropLast, Wl_due ok.2]; rfl, fun z hz => Wl_small (dvf_clo ns) z (List.dropLast_subset _ hz)⟩
theorem log_of {z : Int} {b : Nat} (h : z.natAbs ≤ 2 ^ b) : z.natAbs.log2 ≤ b := by
  rcases Nat.eq_zero_or_pos z.natAbs with e | e
  · rw [e]
    exact Nat.zero_le _
  · have l : z.natAbs < 2 ^ (b + 1) := by
      have := Nat.pow_lt_pow_right (a := 2) (by decide) (show b < b + 1 by omega)
      omega
    have := (Nat.log2_lt (show z.natAbs ≠ 0 by omega) (k := b + 1)).mpr l
    omega
theorem log_w {z : Int} (h : z.natAbs < 10 ^ 120) : z.natAbs.log2 ≤ 400 := log_of (Nat.le_trans (Nat.le_of_lt h) (by decide +kernel))

def sp_common_multipleK (K : PySem.W.Frag) : Sp := fun vs H Q _ => ∃ (kd : Kd) (a : Addr) (ns : List Nat), vs = [.ref a] ∧ SqK kd K H a ((NN ns).map V.int) ∧ (∀ n ∈ ns, 1 ≤ n) ∧ lcmN ns ≤ 2 ^ 40 ∧ Q (.int (lcmN ns : Nat)) H
def dotf : List Int → (Nat → Int) → Nat → Int
  | [], _, _ => 0
  | x :: xs, g, k => x * g k + dotf xs g (k + 1)
theorem dotf_app : ∀ (xs ys : List Int) (g : Nat → Int) (k : Nat), dotf (xs ++ ys) g k = dotf xs g k + dotf ys g (k + xs.length)
  | [], ys, g, k => by
    show dotf ys g k = 0 + dotf ys g (k + 0)
    rw [Nat.add_zero, Int.zero_add]
  | x :: xs, ys, g, k => by
    show x * g k + dotf (xs ++ ys) g (k + 1) = x * g k + dotf xs g (k + 1) + dotf ys g (k + (xs.length + 1))
    have e : k + 1 + xs.length = k + (xs.length + 1) := by omega
    rw [dotf_app xs ys g (k + 1), e]
    omega
theorem dotf_zero (g : Nat → Int) : ∀ (n k : Nat), dotf (List.replicate n 0) g k = 0
  | 0, _ => rfl
  | n + 1, k => by
    rw [List.replicate_succ]
    show 0 * g k + dotf (List.replicate n 0) g (k + 1) = 0
    rw [dotf_zero g n, Int.zero_mul]
    rfl
theorem dotf_sub : ∀ (xs ys : List Int) (g : Nat → Int) (k : Nat), xs.length = ys.length → dotf (List.zipWith (· - ·) xs ys) g k = dotf xs g k - dotf ys g k
  | [], [], _, _, _ => rfl
  | x :: xs, y :: ys, g, k, h => by
    have ih := dotf_sub xs ys g (k + 1) (by simpa using h)
    show (x - y) * g k + dotf (List.zipWith (· - ·) xs ys) g (k + 1) = x * g k + dotf xs g (k + 1) - (y * g k + dotf ys g (k + 1))
    rw [ih, Int.sub_mul]
    omega
theorem dotf_congr : ∀ (xs : List Int) {g h : Nat → Int} {j k : Nat}, (∀ i, g (j + i) = h (k + i)) → dotf xs g j = dotf xs h k
  | [], _, _, _, _, _ => rfl
  | x :: xs, g, h, j, k, e => by
    have e0 : g j = h k := e 0
    have ih := dotf_congr xs (g := g) (h := h) (j := j + 1) (k := k + 1) fun i => by
      have q := e (i + 1)
      have a : j + 1 + i = j + (i + 1) := by omega
      have b : k + 1 + i = k + (i + 1) := by omega
      rw [a, b]
      exact q
    show x * g j + dotf xs g (j + 1) = x * h k + dotf xs h (k + 1)
    rw [e0, ih]
theorem dotf_add : ∀ (xs : List Int) (g h : Nat → Int) (k : Nat), dotf xs (fun j => g j + h j) k = dotf xs g k + dotf xs h k
  | [], _, _, _ => rfl
  | x :: xs, g, h, k => by
    show x * (g k + h k) + dotf xs (fun j => g j + h j) (k + 1) = x * g k + dotf xs g (k + 1) + (x * h k + dotf xs h (k + 1))
    rw [dotf_add xs g h (k + 1), Int.mul_add]
    omega
theorem dotf_none : ∀ (xs : List Int) (k : Nat), dotf xs (fun _ => 0) k = 0
  | [], _ => rfl
  | x :: xs, k => by
    show x * 0 + dotf xs (fun _ => 0) (k + 1) = 0
    rw [dotf_none xs, Int.mul_zero]
    rfl
theorem dotf_ring (p : List Int) (d : Nat) (g : Nat → Int) (h : ∀ j, g (j + d) = g j) : dotf (timesR p d) g 0 = 0 := by
  unfold timesR
  rw [dotf_sub _ _ g 0 (by rw [List.length_append, List.length_append, List.length_replicate, Nat.add_comm]), dotf_app, dotf_app, dotf_zero, dotf_zero, List.length_replicate]
  have e : dotf p g (0 + d) = dotf p g 0 := dotf_congr p fun i => by
    have a : 0 + d + i = (0 + i) + d := by omega
    rw [a, h]
  rw [e]
  omega
theorem W_kills {ns : List Nat} (ok : OkM ns) (s : Nat) : ∀ {ls : List (List Int)}, (∀ l ∈ ls, l.length ∈ ns) → dotf (Wl (dvf ns)) (fun j => hd ls ((s + j : Nat) : Int)) 0 = 0
  | [], _ => dotf_none _ _
  | l :: r, h => by
    have ih := W_kills ok s (ls := r) fun x hx => h x (List.mem_cons_of_mem _ hx)
    have lm := h l List.mem_cons_self
    obtain ⟨l1, l64⟩ := ok.2 _ lm
    obtain ⟨q, hq⟩ := Wl_ring (dvf_clo ns) l1 l64 (L := l.length) (List.any_eq_true.mpr ⟨_, lm, decide_eq_true (Nat.mod_self _)⟩)
    have e : (fun j : Nat => hd (l :: r) ((s + j : Nat) : Int)) = fun j : Nat => hAt l ((s + j : Nat) : Int) + hd r ((s + j : Nat) : Int) := by
      funext j
      exact hd_cons l r _
    rw [e, dotf_add, ih, hq, dotf_ring q l.length _ fun j => by
      have a : ((s + (j + l.length) : Nat) : Int) = ((s + j : Nat) : Int) + ((l.length : Nat) : Int) := by omega
      rw [a, hAt_add (Nat.dvd_refl _)]]
    rfl
theorem dotz_tab : ∀ (xs : List Int) (g : Nat → Int) (k : Nat), dotz xs ((List.range xs.length).map fun i => g (k + i)) = dotf xs g k
  | [], _, _ => rfl
  | x :: xs, g, k => by
    have ih := dotz_tab xs g (k + 1)
    rw [List.length_cons, List.range_succ_eq_map, List.map_cons, List.map_map]
    have e : (List.range xs.length).map ((fun i => g (k + i)) ∘ Nat.succ) = (List.range xs.length).map fun i => g (k + 1 + i) := List.map_congr_left fun i _ => by
      show g (k + (i + 1)) = g (k + 1 + i)
      have a : k + (i + 1) = k + 1 + i := by omega
      rw [a]
    rw [e]
    show x * g (k + 0) + dotz xs ((List.range xs.length).map fun i => g (k + 1 + i)) = x * g k + dotf xs g (k + 1)
    rw [ih]
    rfl
theorem hrow_tab (ls : List (List Int)) (s n : Nat) : hrow ls ((s : Nat) : Int) n = (List.range n).map fun i => (fun j : Nat => hd ls ((s + j : Nat) : Int)) (0 + i) := by
  unfold hrow
  refine List.map_congr_left fun i _ => ?_
  show hd ls ((s : Int) + (i : Nat)) = hd ls ((s + (0 + i) : Nat) : Int)
  congr 1
  omega
/-- the next thing heard -/
theorem next_heard {ns : List Nat} (ok : OkM ns) {ls : List (List Int)} (h : ∀ l ∈ ls, l.length ∈ ns) (s : Nat) :
    -dotz (Wl (dvf ns)).dropLast (hrow ls ((s : Nat) : Int) (dueN (NN ns))) = hd ls ((s + dueN (NN ns) : Nat) : Int) := by
  have k := W_kills ok s h
  have kn := (wl_known ok).1
  have last := Wl_last (dvf_clo ns)
  obtain ⟨ys, ey⟩ := List.getLast?_eq_some_iff.mp last
  have e : Wl (dvf ns) = (Wl (dvf ns)).dropLast ++ [1] := by
    rw [ey, List.dropLast_concat]
  rw [e, dotf_app, Nat.zero_add, kn] at k
  have e2 : dotz (Wl (dvf ns)).dropLast (hrow ls ((s : Nat) : Int) (dueN (NN ns))) = dotf (Wl (dvf ns)).dropLast (fun j : Nat => hd ls ((s + j : Nat) : Int)) 0 := by
    rw [hrow_tab, ← kn]
    exact dotz_tab (Wl (dvf ns)).dropLast (fun j : Nat => hd ls ((s + j : Nat) : Int)) 0
  have q : dotf [1] (fun j : Nat => hd ls ((s + j : Nat) : Int)) (dueN (NN ns)) = hd ls ((s + dueN (NN ns) : Nat) : Int) := by
    show 1 * hd ls ((s + dueN (NN ns) : Nat) : Int) + 0 = _
    omega
  rw [q] at k
  rw [e2]
  omega
theorem hrow_drop (ls : List (List Int)) (s n k : Nat) : (hrow ls ((s : Nat) : Int) (n + k)).drop k = hrow ls ((s + k : Nat) : Int) n := by
  unfold hrow
  rw [Nat.add_comm n k, List.range_add, List.map_append, List.drop_append_of_le_length (by simp), List.drop_of_length_le (by simp), List.nil_append, List.map_map]
  refine List.map_congr_left fun i _ => ?_
  show hd ls ((s : Int) + ((k + i : Nat) : Int)) = hd ls (((s + k : Nat) : Int) + (i : Nat))
  congr 1
  omega
def sp_are_samples (K : PySem.W.Frag) : Sp := fun vs H Q _ => ∃ (v : V) (xs : List Int), vs = [v, .int (xs.length : Nat)] ∧ Dp K H v (dInts xs) ∧ xs.length ≤ 400 ∧ ∀ H', Same H H' → Q (.bl true) H'
theorem hd_row {ls : List (List Int)} {M : Nat} (M1 : 1 ≤ M) (hp : isPer ls M) (t : Nat) : hd [hrow ls 0 M] (t : Int) = hd ls (t : Int) := by
  have m := Nat.mod_lt t M1
  have e : hAt (hrow ls 0 M) (t : Int) = hd ls ((t % M : Nat) : Int) := by
    unfold hAt
    rw [hrow_len, fm M1, ← Int.natCast_emod, Int.toNat_natCast, List.getD_eq_getElem?_getD]
    unfold hrow
    rw [List.getElem?_map, List.getElem?_range m]
    show hd ls (0 + ((t % M : Nat) : Int)) = _
    rw [Int.zero_add]
  have q := per_mul hp (t / M) (t % M)
  rw [Nat.mod_add_div] at q
  rw [hd_one, e, q]
theorem rep_bl {n : Nat} : ((List.replicate n true).all id) = true := by simp
theorem rep_more {n : Nat} : some (HO.lst ((List.replicate n true).map V.bl ++ [V.bl true])) = some (HO.lst ((List.replicate (n + 1) true).map V.bl)) := by
  rw [List.replicate_succ', List.map_append]
  rfl
theorem row_hrow {ls : List (List Int)} {M : Nat} (M1 : 1 ≤ M) (hp : isPer ls M) (s n : Nat) : hrow [hrow ls 0 M] ((s : Nat) : Int) n = hrow ls ((s : Nat) : Int) n := by
  rw [hrow_tab, hrow_tab]
  refine List.map_congr_left fun i _ => ?_
  exact hd_row M1 hp _
theorem put_set {α : Type} (ps : List α) (d : α) {j : Nat} (h : j < ps.length) : ps.take j ++ [d] ++ ps.drop (j + 1) = ps.set j d := by
  rw [List.set_eq_take_append_cons_drop, if_pos h, List.append_assoc]
  rfl
def AP : List Int → (Nat → Int) → Nat → Int
  | [], _, _ => 0
  | a :: p, s, t => a * s t + AP p s (t + 1)
theorem AP_addP (s : Nat → Int) : ∀ (p q : List Int) (t : Nat), AP (addP p q) s t = AP p s t + AP q s t
  | [], q, t => by
    show AP q s t = 0 + AP q s t
    omega
  | a :: p, [], t => by
    show AP (a :: p) s t = AP (a :: p) s t + 0
    omega
  | a :: p, b :: q, t => by
    show (a + b) * s t + AP (addP p q) s (t + 1) = a * s t + AP p s (t + 1) + (b * s t + AP q s (t + 1))
    rw [AP_addP s p q, Int.add_mul]
    omega
theorem AP_scale (a : Int) (s : Nat → Int) : ∀ (q : List Int) (t : Nat), AP (q.map fun b => a * b) s t = a * AP q s t
  | [], _ => (Int.mul_zero a).symm
  | b :: q, t => by
    show a * b * s t + AP (q.map fun b => a * b) s (t + 1) = a * (b * s t + AP q s (t + 1))
    rw [AP_scale a s q, Int.mul_add, Int.mul_assoc]
theorem AP_mulP (s : Nat → Int) : ∀ (p q : List Int) (t : Nat), AP (mulP p q) s t = AP p (AP q s) t
  | [], q, t => rfl
  | [a], q, t => by
    show AP (q.map fun b => a * b) s t = a * AP q s t + 0
    rw [AP_scale, Int.add_zero]
  | a :: c :: p, q, t => by
    show AP (addP (q.map fun b => a * b) (0 :: mulP (c :: p) q)) s t = a * AP q s t + AP (c :: p) (AP q s) (t + 1)
    rw [AP_addP, AP_scale]
    show _ + (0 * s t + AP (mulP (c :: p) q) s (t + 1)) = _
    rw [AP_mulP s (c :: p) q, Int.zero_mul, Int.zero_add]
theorem AP_abs {s : Nat → Int} {B : Nat} : ∀ (p : List Int) (t : Nat), (∀ u, t ≤ u → u < t + p.length → (s u).natAbs ≤ B) → (AP p s t).natAbs ≤ n1 p * B
  | [], t, _ => Nat.zero_le _
  | a :: p, t, h => by
    have ih := AP_abs (s := s) (B := B) p (t + 1) (fun u hu hv => h u (by omega) (by rw [List.length_cons]; omega))
    have h0 := h t (Nat.le_refl _) (by rw [List.length_cons]; omega)
    show (a * s t + AP p s (t + 1)).natAbs ≤ _
    rw [n1_cons, Nat.add_mul]
    have e := Int.natAbs_add_le (a * s t) (AP p s (t + 1))
    rw [Int.natAbs_mul] at e
    have g : a.natAbs * (s t).natAbs ≤ a.natAbs * B := Nat.mul_le_mul_left _ h0
    omega
theorem AP_zeros (s : Nat → Int) (q : List Int) : ∀ (k t : Nat), AP (List.replicate k 0 ++ q) s t = AP q s (t + k)
  | 0, t => rfl
  | k + 1, t => by
    rw [List.replicate_succ, List.cons_append]
    show 0 * s t + AP (List.replicate k 0 ++ q) s (t + 1) = _
    rw [AP_zeros s q k, Int.zero_mul, Int.zero_add, show t + 1 + k = t + (k + 1) from by omega]
def ringL (e : Nat) : List Int := -1 :: (List.replicate (e - 1) 0 ++ [1])
theorem AP_ring (s : Nat → Int) {e : Nat} (e1 : 1 ≤ e) (t : Nat) : AP (ringL e) s t = s (t + e) - s t := by
  show -1 * s t + AP (List.replicate (e - 1) 0 ++ [1]) s (t + 1) = _
  rw [AP_zeros]
  show -1 * s t + (1 * s (t + 1 + (e - 1)) + 0) = _
  rw [show t + 1 + (e - 1) = t + e from by omega]
  omega
theorem LN_le {c d : Nat → Nat} : ∀ n, (∀ e, 1 ≤ e → e ≤ n → c e ≤ d e) → LN c n ≤ LN d n
  | 0, _ => Nat.le_refl _
  | n + 1, h => by
    show LN c n + c (n + 1) * ph (n + 1) ≤ LN d n + d (n + 1) * ph (n + 1)
    have := LN_le n fun e h1 h2 => h e h1 (by omega)
    have := Nat.mul_le_mul_right (ph (n + 1)) (h (n + 1) (by omega) (Nat.le_refl _))
    omega
theorem LN_up (c : Nat → Nat) (n : Nat) : ∀ k, LN c n ≤ LN c (n + k)
  | 0 => Nat.le_refl _
  | k + 1 => Nat.le_trans (LN_up c n k) (Nat.le_add_right _ _)
theorem LN_one (c : Nat → Nat) (n : Nat) : 1 ≤ LN c n := by
  have := LN_up c 0 n
  rw [Nat.zero_add] at this
  exact this
def cofT : List (List Int) := [[], [1], [-1, 1], [-1, 1], [-1, 0, 1], [-1, 1], [-1, -1, 0, 1, 1], [-1, 1], [-1, 0, 0, 0, 1], [-1, 0, 0, 1], [-1, -1, 0, 0, 0, 1, 1], [-1, 1], [-1, 0, -1, 0, 0, 0, 1, 0, 1], [-1, 1], [-1, -1, 0, 0, 0, 0, 0, 1, 1], [-1, -1, -1, 0, 0, 1, 1, 1], [-1, 0, 0, 0, 0, 0, 0, 0, 1], [-1, 1], [-1, 0, 0, -1, 0, 0, 0, 0, 0, 1, 0, 0, 1], [-1, 1], [-1, 0, -1, 0, 0, 0, 0, 0, 0, 0, 1, 0, 1], [-1, -1, -1, 0, 0, 0, 0, 1, 1, 1], [-1, -1, 0, 0, 0, 0, 0, 0, 0, 0, 0, 1, 1], [-1, 1], [-1, 0, 0, 0, -1, 0, 0, 0, 0, 0, 0, 0, 1, 0, 0, 0, 1], [-1, 0, 0, 0, 0, 1], [-1, -1, 0, 0, 0, 0, 0, 0, 0, 0, 0, 0, 0, 1, 1], [-1, 0, 0, 0, 0, 0, 0, 0, 0, 1], [-1, 0, -1, 0, 0, 0, 0, 0, 0, 0, 0, 0, 0, 0, 1, 0, 1], [-1, 1], [-1, 1, -1, 0, 0, -1, 1, -1, 0, 0, 0, 0, 0, 0, 0, 1, -1, 1, 0, 0, 1, -1, 1], [-1, 1], [-1, 0, 0, 0, 0, 0, 0, 0, 0, 0, 0, 0, 0, 0, 0, 0, 1], [-1, -1, -1, 0, 0, 0, 0, 0, 0, 0, 0, 1, 1, 1], [-1, -1, 0, 0, 0, 0, 0, 0, 0, 0, 0, 0, 0, 0, 0, 0, 0, 1, 1], [-1, -1, -1, -1, -1, 0, 0, 1, 1, 1, 1, 1], [-1, 0, 0, 0, 0, 0, -1, 0, 0, 0, 0, 0, 0, 0, 0, 0, 0, 0, 1, 0, 0, 0, 0, 0, 1], [-1, 1], [-1, -1, 0, 0, 0, 0, 0, 0, 0, 0, 0, 0, 0, 0, 0, 0, 0, 0, 0, 1, 1], [-1, -1, -1, 0, 0, 0, 0, 0, 0, 0, 0, 0, 0, 1, 1, 1], [-1, 0, 0, 0, -1, 0, 0, 0, 0, 0, 0, 0, 0, 0, 0, 0, 0, 0, 0, 0, 1, 0, 0, 0, 1], [-1, 1], [-1, 1, -1, 0, 0, 0, 0, -1, 1, -1, 0, 0, 0, 0, 0, 0, 0, 0, 0, 0, 0, 1, -1, 1, 0, 0, 0, 0, 1, -1, 1], [-1, 1], [-1, 0, -1, 0, 0, 0, 0, 0, 0, 0, 0, 0, 0, 0, 0, 0, 0, 0, 0, 0, 0, 0, 1, 0, 1], [-1, 0, 0, -1, 0, 0, -1, 0, 0, 0, 0, 0, 0, 0, 0, 1, 0, 0, 1, 0, 0, 1], [-1, -1, 0, 0, 0, 0, 0, 0, 0, 0, 0, 0, 0, 0, 0, 0, 0, 0, 0, 0, 0, 0, 0, 1, 1], [-1, 1], [-1, 0, 0, 0, 0, 0, 0, 0, -1, 0, 0, 0, 0, 0, 0, 0, 0, 0, 0, 0, 0, 0, 0, 0, 1, 0, 0, 0, 0, 0, 0, 0, 1], [-1, 0, 0, 0, 0, 0, 0, 1], [-1, 0, 0, 0, 0, -1, 0, 0, 0, 0, 0, 0, 0, 0, 0, 0, 0, 0, 0, 0, 0, 0, 0, 0, 0, 1, 0, 0, 0, 0, 1], [-1, -1, -1, 0, 0, 0, 0, 0, 0, 0, 0, 0, 0, 0, 0, 0, 0, 1, 1, 1], [-1, 0, -1, 0, 0, 0, 0, 0, 0, 0, 0, 0, 0, 0, 0, 0, 0, 0, 0, 0, 0, 0, 0, 0, 0, 0, 1, 0, 1], [-1, 1], [-1, 0, 0, 0, 0, 0, 0, 0, 0, -1, 0, 0, 0, 0, 0, 0, 0, 0, 0, 0, 0, 0, 0, 0, 0, 0, 0, 1, 0, 0, 0, 0, 0, 0, 0, 0, 1], [-1, -1, -1, -1, -1, 0, 0, 0, 0, 0, 0, 1, 1, 1, 1, 1], [-1, 0, 0, 0, -1, 0, 0, 0, 0, 0, 0, 0, 0, 0, 0, 0, 0, 0, 0, 0, 0, 0, 0, 0, 0, 0, 0, 0, 1, 0, 0, 0, 1], [-1, -1, -1, 0, 0, 0, 0, 0, 0, 0, 0, 0, 0, 0, 0, 0, 0, 0, 0, 1, 1, 1], [-1, -1, 0, 0, 0, 0, 0, 0, 0, 0, 0, 0, 0, 0, 0, 0, 0, 0, 0, 0, 0, 0, 0, 0, 0, 0, 0, 0, 0, 1, 1], [-1, 1], [-1, 0, 1, 0, -1, 0, 0, 0, 0, 0, -1, 0, 1, 0, -1, 0, 0, 0, 0, 0, 0, 0, 0, 0, 0, 0, 0, 0, 0, 0, 1, 0, -1, 0, 1, 0, 0, 0, 0, 0, 1, 0, -1, 0, 1], [-1, 1], [-1, -1, 0, 0, 0, 0, 0, 0, 0, 0, 0, 0, 0, 0, 0, 0, 0, 0, 0, 0, 0, 0, 0, 0, 0, 0, 0, 0, 0, 0, 0, 1, 1], [-1, 0, 0, -1, 0, 0, -1, 0, 0, 0, 0, 0, 0, 0, 0, 0, 0, 0, 0, 0, 0, 1, 0, 0, 1, 0, 0, 1], [-1, 0, 0, 0, 0, 0, 0, 0, 0, 0, 0, 0, 0, 0, 0, 0, 0, 0, 0, 0, 0, 0, 0, 0, 0, 0, 0, 0, 0, 0, 0, 0, 1]]
theorem cof_ok : ∀ e, e < 65 → 1 ≤ e → mulP (cofT.getD e []) (cyc e) = ringL e ∧ (cofT.getD e []).length + ph e = e + 1 ∧ n1 (cyc e) * n1 (cofT.getD e []) ≤ 170 ∧ (cyc e).length = ph e + 1 := by decide +kernel
theorem ind_len : ∀ d, d < 65 → 1 ≤ d → LN (ind d) d = d + 1 := by decide +kernel
theorem clo_len {f : Nat → Bool} (hf : Clo f) {n : Nat} (h1 : 1 ≤ n) (h2 : n ≤ 64) (h : f n = true) : n + 1 ≤ LN (fin f) n := by
  rw [← ind_len n (by omega) h1]
  refine LN_le n fun e e1 _ => ?_
  unfold ind
  split
  · next g =>
    unfold fin
    rw [if_pos (hf n e e1 (Nat.dvd_of_mod_eq_zero g) h)]
    exact Nat.le_refl _
  · exact Nat.zero_le _
theorem grow {f : Nat → Bool} (hf : Clo f) (h9 : LN (fin f) 64 ≤ 400) : ∀ n, n ≤ 64 → ∀ (s : Nat → Int) (B m : Nat), m ≤ 60 → (∀ t, t < LN (fin f) n - 1 → (s t).natAbs ≤ B) → (∀ t, t < m → AP (RL (fin f) n) s t = 0) →
    ∀ t, t < LN (fin f) n - 1 + m → (s t).natAbs ≤ B * 2 ^ (17 * n)
  | 0, _, s, B, m, hm, _, h, t, ht => by
    have ht' : t < 1 - 1 + m := ht
    have e : 1 * s t + 0 = 0 := h t (by omega)
    have : s t = 0 := by omega
    rw [this]
    exact Nat.zero_le _
  | n + 1, hn, s, B, m, hm, hB, h, t, ht => by
    have ih := grow hf h9 n (by omega)
    by_cases g : f (n + 1) = true
    · have gf : fin f (n + 1) = 1 := by unfold fin; rw [if_pos g]
      have eL : LN (fin f) (n + 1) = LN (fin f) n + ph (n + 1) := by
        show LN (fin f) n + fin f (n + 1) * ph (n + 1) = _
        rw [gf, Nat.one_mul]
      have eR : RL (fin f) (n + 1) = mulP (RL (fin f) n) (cyc (n + 1)) := by
        show powP (RL (fin f) n) (cyc (n + 1)) (fin f (n + 1)) = _
        rw [gf]
        rfl
      obtain ⟨c1, c2, c3, c4⟩ := cof_ok (n + 1) (by omega) (by omega)
      have n64 := LN_up (fin f) (n + 1) (64 - (n + 1))
      rw [show n + 1 + (64 - (n + 1)) = 64 from by omega] at n64
      have cl := clo_len hf (by omega) hn g
      have l1 := LN_one (fin f) n
      have w0 : ∀ u, u < LN (fin f) n - 1 → (AP (cyc (n + 1)) s u).natAbs ≤ n1 (cyc (n + 1)) * B := fun u hu => AP_abs _ u fun v _ hv => hB v (by rw [c4] at hv; omega)
      have wA := ih (AP (cyc (n + 1)) s) (n1 (cyc (n + 1)) * B) m hm w0 (fun u hu => by
        have := h u hu
        rw [eR, AP_mulP] at this
        exact this)
      have st : ∀ u, u < LN (fin f) (n + 1) - 1 + m → (s u).natAbs ≤ B + u * (170 * (B * 2 ^ (17 * n))) := by
        intro u
        induction u using Nat.strongRecOn with
        | _ u iu =>
          intro hu
          by_cases q : u < LN (fin f) (n + 1) - 1
          · exact Nat.le_trans (hB u q) (Nat.le_add_right _ _)
          · have i2 := iu (u - (n + 1)) (by omega) (by omega)
            have r := AP_ring s (e := n + 1) (by omega) (u - (n + 1))
            rw [← c1, AP_mulP, show u - (n + 1) + (n + 1) = u from by omega] at r
            have ab := AP_abs (s := AP (cyc (n + 1)) s) (B := n1 (cyc (n + 1)) * B * 2 ^ (17 * n)) (cofT.getD (n + 1) []) (u - (n + 1)) (fun v _ hv => wA v (by omega))
            have le2 : n1 (cofT.getD (n + 1) []) * (n1 (cyc (n + 1)) * B * 2 ^ (17 * n)) ≤ 170 * (B * 2 ^ (17 * n)) := by
              rw [← Nat.mul_assoc, ← Nat.mul_assoc, Nat.mul_comm (n1 (cofT.getD (n + 1) [])), Nat.mul_assoc (n1 (cyc (n + 1)) * _)]
              exact Nat.mul_le_mul_right _ c3
            generalize hX : 170 * (B * 2 ^ (17 * n)) = X at *
            have e3 : s u = s (u - (n + 1)) + AP (cofT.getD (n + 1) []) (AP (cyc (n + 1)) s) (u - (n + 1)) := by omega
            rw [e3]
            have t3 := Int.natAbs_add_le (s (u - (n + 1))) (AP (cofT.getD (n + 1) []) (AP (cyc (n + 1)) s) (u - (n + 1)))
            have u3 : (u - (n + 1)) * X + X ≤ u * X := by
              have : (u - (n + 1) + 1) * X ≤ u * X := Nat.mul_le_mul_right X (by omega)
              rw [Nat.succ_mul] at this
              exact this
            omega
      have a := st t ht
      have b : t * (170 * (B * 2 ^ (17 * n))) ≤ 460 * (170 * (B * 2 ^ (17 * n))) := Nat.mul_le_mul_right _ (by omega)
      have c : B ≤ B * 2 ^ (17 * n) := Nat.le_mul_of_pos_right B (Nat.two_pow_pos _)
      rw [show 17 * (n + 1) = 17 * n + 17 from by omega, Nat.pow_add]
      generalize 2 ^ (17 * n) = Y at *
      rw [← Nat.mul_assoc]
      generalize B * Y = Z at *
      show _ ≤ Z * 131072
      omega
    · have gf : fin f (n + 1) = 0 := by unfold fin; rw [if_neg g]
      have eL : LN (fin f) (n + 1) = LN (fin f) n := by
        show LN (fin f) n + fin f (n + 1) * ph (n + 1) = _
        rw [gf, Nat.zero_mul, Nat.add_zero]
      have eR : RL (fin f) (n + 1) = RL (fin f) n := by
        show powP (RL (fin f) n) (cyc (n + 1)) (fin f (n + 1)) = _
        rw [gf]
        rfl
      rw [eL] at hB ht
      rw [eR] at h
      refine Nat.le_trans (ih s B m hm hB h t ht) ?_
      exact Nat.mul_le_mul_left _ (Nat.pow_le_pow_right (by decide) (by omega))
theorem two_big : 10 ^ 30 * 2 ^ (17 * 64) < 10 ^ 400 := by decide +kernel
def kn (ns : List Nat) : List Int := (Wl (dvf ns)).dropLast
def grw (ns : List Nat) (xs : List Int) : Nat → List Int
  | 0 => xs
  | j + 1 => grw ns xs j ++ [-dotz (kn ns) ((grw ns xs j).drop j)]
theorem grw_len (ns : List Nat) (xs : List Int) : ∀ j, (grw ns xs j).length = xs.length + j
  | 0 => rfl
  | j + 1 => by
    show (grw ns xs j ++ [_]).length = _
    rw [List.length_append, grw_len ns xs j, List.length_singleton]
    omega
theorem grw_pre (ns : List Nat) (xs : List Int) (j : Nat) : ∀ k, ∃ t, grw ns xs (j + k) = grw ns xs j ++ t
  | 0 => ⟨[], (List.append_nil _).symm⟩
  | k + 1 => by
    obtain ⟨t, h⟩ := grw_pre ns xs j k
    refine ⟨t ++ [-dotz (kn ns) ((grw ns xs (j + k)).drop (j + k))], ?_⟩
    have e : grw ns xs (j + (k + 1)) = grw ns xs (j + k) ++ [-dotz (kn ns) ((grw ns xs (j + k)).drop (j + k))] := rfl
    rw [e, ← List.append_assoc, ← h]
theorem dotz_dotf : ∀ (ws ys : List Int) (k : Nat) (g : Nat → Int), ys.length = ws.length → (∀ j, j < ys.length → g (k + j) = ys.getD j 0) → dotz ws ys = dotf ws g k
  | [], [], _, _, _, _ => rfl
  | w :: ws, y :: ys, k, g, hl, h => by
    have ih := dotz_dotf ws ys (k + 1) g (by simpa using hl) fun j hj => by
      have := h (j + 1) (by rw [List.length_cons]; omega)
      rw [show k + 1 + j = k + (j + 1) from by omega, this]
      rfl
    have h0 : g k = y := h 0 (by rw [List.length_cons]; omega)
    have e : dotz (w :: ws) (y :: ys) = w * y + dotz ws ys := rfl
    rw [e, ih]
    show _ = w * g k + dotf ws g (k + 1)
    rw [h0]
theorem getD_drop (xs : List Int) (p j : Nat) : (xs.drop p).getD j 0 = xs.getD (p + j) 0 := by
  simp [List.getD, List.getElem?_drop]
theorem grw_zero {ns : List Nat} (ok : OkM ns) {xs : List Int} (hl : xs.length = dueN (NN ns)) {many i : Nat} (h : i < many) : dotf (Wl (dvf ns)) (fun j => (grw ns xs many).getD (i + j) 0) 0 = 0 := by
  have knl := (wl_known ok).1
  have last := Wl_last (dvf_clo ns)
  obtain ⟨ys, ey⟩ := List.getLast?_eq_some_iff.mp last
  have e : Wl (dvf ns) = kn ns ++ [1] := by
    show _ = (Wl (dvf ns)).dropLast ++ [1]
    rw [ey, List.dropLast_concat]
  obtain ⟨t, ht⟩ := grw_pre ns xs (i + 1) (many - (i + 1))
  rw [show i + 1 + (many - (i + 1)) = many from by omega] at ht
  have l1 := grw_len ns xs i
  have l2 := grw_len ns xs (i + 1)
  have a : ∀ j, j < xs.length + (i + 1) → (grw ns xs many).getD j 0 = (grw ns xs (i + 1)).getD j 0 := fun j hj => by
    rw [ht]
    simp [List.getD, List.getElem?_append_left (show j < (grw ns xs (i + 1)).length by omega)]
  have b : ∀ j, j < xs.length + i → (grw ns xs (i + 1)).getD j 0 = (grw ns xs i).getD j 0 := fun j hj => by
    show (grw ns xs i ++ [_]).getD j 0 = _
    simp [List.getD, List.getElem?_append_left (show j < (grw ns xs i).length by omega)]
  have c : (grw ns xs (i + 1)).getD (i + xs.length) 0 = -dotz (kn ns) ((grw ns xs i).drop i) := by
    show (grw ns xs i ++ [_]).getD (i + xs.length) 0 = _
    rw [show i + xs.length = (grw ns xs i).length from by omega]
    simp [List.getD]
  have d : dotz (kn ns) ((grw ns xs i).drop i) = dotf (kn ns) (fun j => (grw ns xs many).getD (i + j) 0) 0 := by
    refine dotz_dotf _ _ 0 _ (by rw [List.length_drop]; show _ = (Wl (dvf ns)).dropLast.length; omega) fun j hj => ?_
    rw [List.length_drop] at hj
    rw [getD_drop, Nat.zero_add]
    show (grw ns xs many).getD (i + j) 0 = _
    rw [a _ (by omega), b _ (by omega)]
  rw [e, dotf_app, ← d, Nat.zero_add]
  show _ + (1 * (grw ns xs many).getD (i + (kn ns).length) 0 + 0) = 0
  rw [show (kn ns).length = xs.length from by show (Wl (dvf ns)).dropLast.length = _; omega, a _ (by omega), c]
  omega
theorem AP_dotf (s : Nat → Int) (t : Nat) : ∀ (p : List Int) (k : Nat), dotf p (fun j => s (t + j)) k = AP p s (t + k)
  | [], _ => rfl
  | a :: p, k => by
    show a * s (t + k) + dotf p (fun j => s (t + j)) (k + 1) = a * s (t + k) + AP p s (t + k + 1)
    rw [AP_dotf s t p (k + 1), show t + (k + 1) = t + k + 1 from rfl]
theorem grw_mem {ns : List Nat} {xs : List Int} {j k : Nat} (h : j ≤ k) {z : Int} (hz : z ∈ grw ns xs j) : z ∈ grw ns xs k := by
  obtain ⟨t, e⟩ := grw_pre ns xs j (k - j)
  rw [show j + (k - j) = k from by omega] at e
  rw [e]
  exact List.mem_append_left _ hz
theorem grw_heard {ns : List Nat} (ok : OkM ns) {ls : List (List Int)} (h : ∀ l ∈ ls, l.length ∈ ns) (s : Nat) : ∀ j, grw ns (hrow ls ((s : Nat) : Int) (dueN (NN ns))) j = hrow ls ((s : Nat) : Int) (dueN (NN ns) + j)
  | 0 => rfl
  | j + 1 => by
    show grw ns _ j ++ [-dotz (kn ns) ((grw ns _ j).drop j)] = _
    rw [grw_heard ok h s j, hrow_drop]
    show _ ++ [-dotz (Wl (dvf ns)).dropLast _] = _
    rw [next_heard ok h, ← Nat.add_assoc, hrow_more]
    congr 2
    congr 1
    omega
theorem cutD_fromN (xs : List PyData) (d : Nat) : L2.cutD xs (some ((d : Nat) : Int)) none = xs.drop d := by
  unfold L2.cutD
  rw [HT.sIx_none, HT.sIx_nat]
  by_cases q : d ≤ xs.length
  · rw [Nat.min_eq_left q, List.take_of_length_le (by rw [List.length_drop]; omega)]
  · rw [Nat.min_eq_right (by omega), List.drop_length, List.drop_of_length_le (by omega), List.take_nil]
theorem lens_in {ls : List (List Int)} {ms : List Nat} (h : ls.map (fun l => (l.length : Int)) = NN ms) : ∀ l ∈ ls, l.length ∈ ms := fun l hl => by
  have q : (l.length : Int) ∈ NN ms := h ▸ List.mem_map_of_mem hl
  obtain ⟨n, hn, e⟩ := List.mem_map.mp q
  have e : n = l.length := by omega
  exact e ▸ hn
theorem log40 {z : Int} (h : z.natAbs < 10 ^ 40) : z.natAbs.log2 ≤ 5000 := log_of (Nat.le_trans (Nat.le_of_lt h) (by decide +kernel))
def sp_carriedG (K : PySem.W.Frag) : Sp := fun vs H Q _ => ∃ (v r : V) (ns : List Nat) (xs : List Int) (n : Int), vs = [v, r, .int n] ∧ Dp K H v (dInts (NN ns)) ∧ OkM ns ∧ Dp K H r (dInts xs) ∧ xs.length = dueN (NN ns) ∧ 0 ≤ n ∧ n ≤ 1000 ∧ (∀ z ∈ grw ns xs n.toNat, z.natAbs.log2 ≤ 5000) ∧
  ∀ w H', Same H H' → Dp K H' w (dInts ((grw ns xs n.toNat).drop xs.length)) → Q w H'
theorem grw_all (ns : List Nat) (xs : List Int) (n : Nat) : xs ++ (grw ns xs n).drop xs.length = grw ns xs n := by
  obtain ⟨t, h⟩ := grw_pre ns xs 0 n
  rw [Nat.zero_add] at h
  rw [h]
  show xs ++ (xs ++ t).drop xs.length = xs ++ t
  rw [List.drop_left]
theorem grw_drop (ns : List Nat) (xs : List Int) (p : Nat) : ∀ q, grw ns ((grw ns xs p).drop p) q = (grw ns xs (p + q)).drop p
  | 0 => rfl
  | q + 1 => by
    have e : grw ns xs (p + (q + 1)) = grw ns xs (p + q) ++ [-dotz (kn ns) ((grw ns xs (p + q)).drop (p + q))] := rfl
    have e2 : grw ns ((grw ns xs p).drop p) (q + 1) = grw ns ((grw ns xs p).drop p) q ++ [-dotz (kn ns) ((grw ns ((grw ns xs p).drop p) q).drop q)] := rfl
    rw [e, e2, grw_drop ns xs p q, List.drop_append_of_le_length (by rw [grw_len]; omega), List.drop_drop]
theorem grw_two (ns : List Nat) (xs : List Int) (p q : Nat) : (grw ns xs p).drop xs.length ++ (grw ns ((grw ns xs p).drop p) q).drop xs.length = (grw ns xs (p + q)).drop xs.length := by
  rw [grw_drop, List.drop_drop]
  obtain ⟨t, h⟩ := grw_pre ns xs p q
  have e : (grw ns xs (p + q)).drop (p + xs.length) = t := by
    rw [h, Nat.add_comm, ← grw_len ns xs p]
    exact List.drop_left
  rw [e, h, List.drop_append_of_le_length (by rw [grw_len]; omega)]
end My

/-! Deceivers: loops that are heard as 0 for as long as they can, then as 1. -/
namespace My
open PySem PySem.Spec PyProof.Rows L2
/-! ### lists as what they make of samples -/
theorem AP_ext : ∀ (p : List Int) {s s' : Nat → Int} {t t' : Nat}, (∀ i, i < p.length → s (t + i) = s' (t' + i)) → AP p s t = AP p s' t'
  | [], _, _, _, _, _ => rfl
  | a :: p, s, s', t, t', h => by
    show a * s t + AP p s (t + 1) = a * s' t' + AP p s' (t' + 1)
    rw [show s t = s' t' from h 0 (by rw [List.length_cons]; omega), AP_ext p (t := t + 1) (t' := t' + 1) (fun i hi => by
      have := h (i + 1) (by rw [List.length_cons]; omega)
      rw [show t + 1 + i = t + (i + 1) by omega, show t' + 1 + i = t' + (i + 1) by omega]
      exact this)]
theorem AP_none : ∀ (p : List Int) {s : Nat → Int} {t : Nat}, (∀ i, i < p.length → s (t + i) = 0) → AP p s t = 0
  | [], _, _, _ => rfl
  | a :: p, s, t, h => by
    show a * s t + AP p s (t + 1) = 0
    rw [show s t = 0 from h 0 (by rw [List.length_cons]; omega), AP_none p (t := t + 1) (fun i hi => by
      have := h (i + 1) (by rw [List.length_cons]; omega)
      rw [show t + 1 + i = t + (i + 1) by omega]
      exact this)]
    omega
theorem AP_plus : ∀ (p : List Int) (s s' : Nat → Int) (t : Nat), AP p (fun u => s u + s' u) t = AP p s t + AP p s' t
  | [], _, _, _ => rfl
  | a :: p, s, s', t => by
    show a * (s t + s' t) + AP p (fun u => s u + s' u) (t + 1) = a * s t + AP p s (t + 1) + (a * s' t + AP p s' (t + 1))
    rw [AP_plus p s s', Int.mul_add]
    omega
theorem AP_minus : ∀ (p : List Int) (s s' : Nat → Int) (t : Nat), AP p (fun u => s u - s' u) t = AP p s t - AP p s' t
  | [], _, _, _ => rfl
  | a :: p, s, s', t => by
    show a * (s t - s' t) + AP p (fun u => s u - s' u) (t + 1) = a * s t + AP p s (t + 1) - (a * s' t + AP p s' (t + 1))
    rw [AP_minus p s s', Int.mul_sub]
    omega
theorem AP_app : ∀ (p q : List Int) (s : Nat → Int) (t : Nat), AP (p ++ q) s t = AP p s t + AP q s (t + p.length)
  | [], q, s, t => by
    show AP q s t = 0 + AP q s (t + 0)
    rw [Nat.add_zero]
    omega
  | a :: p, q, s, t => by
    show a * s t + AP (p ++ q) s (t + 1) = a * s t + AP p s (t + 1) + AP q s (t + (p.length + 1))
    rw [AP_app p q, show t + 1 + p.length = t + (p.length + 1) by omega]
    omega
theorem AP_rep0 (n : Nat) (s : Nat → Int) (t : Nat) : AP (List.replicate n 0) s t = 0 := by
  have := AP_zeros s [] n t
  rw [List.append_nil] at this
  exact this
theorem AP_mulF (p q : List Int) (s : Nat → Int) : AP (mulP p q) s = AP p (AP q s) := funext fun t => AP_mulP s p q t
theorem pow_big {x : Int} (h0 : x ≠ 0) (h1 : x ≠ 1) (h2 : x ≠ -1) {c : Nat} (hc : 1 ≤ c) : x ^ c - 1 ≠ 0 := by
  intro z
  have a : x.natAbs ^ c = 1 := by
    rw [← Int.natAbs_pow, show x ^ c = 1 by omega]
    rfl
  have b : 2 ≤ x.natAbs := by omega
  have d : 2 ^ c ≤ x.natAbs ^ c := Nat.pow_le_pow_left b c
  have e : 2 ^ 1 ≤ 2 ^ c := Nat.pow_le_pow_right (by decide) hc
  omega
/-- what two lists make of samples is the same if their values are -/
theorem AP_of_PV {p q : List Int} (h : ∀ x : Int, x ≠ 0 → x ≠ 1 → x ≠ -1 → PV p x = PV q x) (s : Nat → Int) (t : Nat) : AP p s t = AP q s t := by
  have pv : ∀ (l : List Int) (n : Nat) (x : Int), PV (l ++ List.replicate n 0) x = PV l x := fun l n x => by
    rw [PV_app, PV_zero, Int.mul_zero, Int.add_zero]
  have e : timesR (p ++ List.replicate q.length 0) 2 = timesR (q ++ List.replicate p.length 0) 2 := by
    refine PV_inj (by rw [timesR_len, timesR_len, List.length_append, List.length_append, List.length_replicate, List.length_replicate]; omega) fun x hx => ?_
    rw [PV_timesR, PV_timesR, pv, pv]
    by_cases h1 : x = 1
    · rw [h1]
      show _ * 0 = _ * 0
      rw [Int.mul_zero, Int.mul_zero]
    by_cases h2 : x = -1
    · rw [h2]
      show _ * 0 = _ * 0
      rw [Int.mul_zero, Int.mul_zero]
    rw [h x hx h1 h2]
  have e2 : p ++ List.replicate q.length 0 = q ++ List.replicate p.length 0 := by
    rw [← over_times (q := p ++ List.replicate q.length 0) (d := 2) (by decide), e, over_times (by decide)]
  have a : ∀ (l : List Int) (n : Nat), AP (l ++ List.replicate n 0) s t = AP l s t := fun l n => by
    rw [AP_app, AP_rep0, Int.add_zero]
  rw [← a p q.length, e2, a]
theorem AP_of_PVF {p q : List Int} (h : ∀ x : Int, x ≠ 0 → x ≠ 1 → x ≠ -1 → PV p x = PV q x) (s : Nat → Int) : AP p s = AP q s := funext fun t => AP_of_PV h s t
theorem AP_swap (p q : List Int) (s : Nat → Int) : AP p (AP q s) = AP q (AP p s) := by
  rw [← AP_mulF, ← AP_mulF]
  exact AP_of_PVF (fun x _ _ _ => by rw [PV_mulP, PV_mulP, Int.mul_comm]) s
/-! ### strides -/
def stL (c : Nat) : Nat → List Int
  | 0 => []
  | m + 1 => addP (stL c m) (List.replicate (c * m) 0 ++ [1])
theorem AP_stL (c m : Nat) (s : Nat → Int) (t : Nat) : AP (stL c (m + 1)) s t = AP (stL c m) s t + s (t + c * m) := by
  show AP (addP (stL c m) (List.replicate (c * m) 0 ++ [1])) s t = _
  rw [AP_addP, AP_zeros]
  show _ + (1 * s (t + c * m) + 0) = _
  omega
theorem PV_stL (c m : Nat) (x : Int) : PV (stL c (m + 1)) x = PV (stL c m) x + x ^ (c * m) := by
  show PV (addP (stL c m) (List.replicate (c * m) 0 ++ [1])) x = _
  rw [PV_addP, PV_app, PV_zero, List.length_replicate]
  show _ + (0 + x ^ (c * m) * (1 + x * 0)) = _
  rw [Int.mul_zero, Int.add_zero, Int.mul_one, Int.zero_add]
theorem PV_geo (c m : Nat) (x : Int) : PV (stL c m) x * (x ^ c - 1) = x ^ (c * m) - 1 := by
  induction m with
  | zero =>
    show 0 * _ = x ^ 0 - 1
    rw [Int.zero_mul, Int.pow_zero]
    rfl
  | succ m ih =>
    rw [PV_stL, Int.add_mul, ih, Nat.mul_succ, Int.pow_add, Int.mul_sub, Int.mul_one]
    omega
theorem stL_one (c : Nat) (s : Nat → Int) : AP (stL c 1) s = s := funext fun t => by
  rw [AP_stL]
  show 0 + s (t + c * 0) = s t
  rw [Nat.mul_zero, Nat.add_zero, Int.zero_add]
theorem PV_ringL {e : Nat} (e1 : 1 ≤ e) (x : Int) : PV (ringL e) x = x ^ e - 1 := by
  show -1 + x * PV (List.replicate (e - 1) 0 ++ [1]) x = _
  rw [PV_app, PV_zero, List.length_replicate]
  show -1 + x * (0 + x ^ (e - 1) * (1 + x * 0)) = _
  rw [Int.mul_zero, Int.add_zero, Int.mul_one, Int.zero_add, Int.mul_comm, ← Int.pow_succ, show (e - 1).succ = e by omega]
  omega
theorem stL_abs {s : Nat → Int} {B : Nat} (h : ∀ u, (s u).natAbs ≤ B) (c t : Nat) : ∀ m, (AP (stL c m) s t).natAbs ≤ m * B
  | 0 => Nat.zero_le _
  | m + 1 => by
    rw [AP_stL, Nat.succ_mul]
    exact Nat.le_trans (Int.natAbs_add_le _ _) (Nat.add_le_add (stL_abs h c t m) (h _))
/-- a sample comes again -/
theorem yadd {y : Nat → Int} {L : Nat} (h : ∀ t, y (t + L) = y t) (t : Nat) : ∀ k, y (t + k * L) = y t
  | 0 => by rw [Nat.zero_mul, Nat.add_zero]
  | k + 1 => by rw [Nat.succ_mul, ← Nat.add_assoc, h, yadd h t k]
theorem yper {y : Nat → Int} {L a b : Nat} (h : ∀ t, y (t + L) = y t) (e : a % L = b % L) (t : Nat) : y (t + a) = y (t + b) := by
  have d : ∀ a : Nat, y (t + a) = y (t + a % L) := fun a => by
    have r := yadd h (t + a % L) (a / L)
    rw [← r]
    congr 1
    have := Nat.mod_add_div a L
    rw [Nat.mul_comm] at this
    omega
  rw [d a, d b, e]
/-! ### what of the rings remains -/
/-- how often a root that is none of the length stands in the rings -/
def rc (L : Nat) (nf : Int → Nat) : List (Nat × Int) → Nat → Nat
  | [], _ => 0
  | (D, q) :: r, e => nf q * (if L % e = 0 then 0 else ind D e) + rc L nf r e
def rp (L : Nat) (nf : Int → Nat) (x : Int) : List (Nat × Int) → Int
  | [] => 1
  | (D, q) :: r => PV (stL (Nat.gcd D L) (D / Nat.gcd D L)) x ^ nf q * rp L nf x r
theorem GP_zero (x : Int) : ∀ n, GP (fun _ => 0) x n = 1
  | 0 => rfl
  | n + 1 => by
    show GP (fun _ => 0) x n * PV (cyc (n + 1)) x ^ 0 = 1
    rw [GP_zero x n, Int.pow_zero]
    rfl
theorem GP_pow (c : Nat → Nat) (x : Int) (n : Nat) : ∀ k, GP (fun e => k * c e) x n = GP c x n ^ k
  | 0 => by
    rw [Int.pow_zero]
    exact (GP_congr x n fun e _ _ => Nat.zero_mul _).trans (GP_zero x n)
  | k + 1 => by
    rw [Int.pow_succ, ← GP_pow c x n k, ← GP_add]
    exact GP_congr x n fun e _ _ => Nat.succ_mul _ _
theorem ind_gcd (D L e : Nat) : ind D e = (if L % e = 0 then 0 else ind D e) + ind (Nat.gcd D L) e := by
  unfold ind
  by_cases hL : L % e = 0
  · rw [if_pos hL, Nat.zero_add]
    by_cases hD : D % e = 0
    · rw [if_pos hD, if_pos (Nat.mod_eq_zero_of_dvd (Nat.dvd_gcd (Nat.dvd_of_mod_eq_zero hD) (Nat.dvd_of_mod_eq_zero hL)))]
    · rw [if_neg hD, if_neg fun z => hD (Nat.mod_eq_zero_of_dvd (Nat.dvd_trans (Nat.dvd_of_mod_eq_zero z) (Nat.gcd_dvd_left D L)))]
  · rw [if_neg hL, if_neg (c := Nat.gcd D L % e = 0) fun z => hL (Nat.mod_eq_zero_of_dvd (Nat.dvd_trans (Nat.dvd_of_mod_eq_zero z) (Nat.gcd_dvd_right D L)))]
    rfl
theorem rho_GP {D L : Nat} (D1 : 1 ≤ D) (D64 : D ≤ 64) (L1 : 1 ≤ L) {x : Int} (h0 : x ≠ 0) (h1 : x ≠ 1) (h2 : x ≠ -1) :
    GP (fun e => if L % e = 0 then 0 else ind D e) x 64 = PV (stL (Nat.gcd D L) (D / Nat.gcd D L)) x := by
  have c1 : 1 ≤ Nat.gcd D L := Nat.gcd_pos_of_pos_left _ D1
  have cD := Nat.gcd_dvd_left D L
  have c64 : Nat.gcd D L ≤ 64 := Nat.le_trans (Nat.le_of_dvd D1 cD) D64
  have a := PV_geo (Nat.gcd D L) (D / Nat.gcd D L) x
  rw [Nat.mul_div_cancel' cD, ← ring_GP D1 D64 x, GP_congr x 64 (fun e _ _ => ind_gcd D L e), GP_add, ring_GP c1 c64 x] at a
  exact (Int.eq_of_mul_eq_mul_right (pow_big h0 h1 h2 c1) a).symm
theorem rc_GP {L : Nat} (L1 : 1 ≤ L) (nf : Int → Nat) {x : Int} (h0 : x ≠ 0) (h1 : x ≠ 1) (h2 : x ≠ -1) : ∀ ps : List (Nat × Int), (∀ rq ∈ ps, 1 ≤ rq.1 ∧ rq.1 ≤ 64) → GP (rc L nf ps) x 64 = rp L nf x ps
  | [], _ => GP_zero x 64
  | (D, q) :: r, h => by
    have hD := h (D, q) List.mem_cons_self
    have e : GP (rc L nf ((D, q) :: r)) x 64 = GP (fun e => nf q * (if L % e = 0 then 0 else ind D e)) x 64 * GP (rc L nf r) x 64 := GP_add _ _ x 64
    rw [e, GP_pow (fun e => if L % e = 0 then 0 else ind D e), rho_GP hD.1 hD.2 L1 h0 h1 h2, rc_GP L1 nf h0 h1 h2 r fun rq hr => h rq (List.mem_cons_of_mem _ hr)]
    rfl
theorem rc_SS (L : Nat) (e : Nat) : ∀ ps : List (Nat × Int), (rc L Int.toNat ps e : Int) - rc L (fun q => (-q).toNat) ps e = if L % e = 0 then 0 else SS ps e
  | [] => by
    show (0 : Int) - 0 = _
    split <;> rfl
  | (D, q) :: r => by
    have ih := rc_SS L e r
    have e1 : SS ((D, q) :: r) e = SS [(D, q)] e + SS r e := SS_app [(D, q)] r e
    have a : rc L Int.toNat ((D, q) :: r) e = q.toNat * (if L % e = 0 then 0 else ind D e) + rc L Int.toNat r e := rfl
    have b : rc L (fun q => (-q).toNat) ((D, q) :: r) e = (-q).toNat * (if L % e = 0 then 0 else ind D e) + rc L (fun q => (-q).toNat) r e := rfl
    rw [a, b, e1, SS_one]
    unfold ind
    split
    · rename_i hL
      rw [if_pos hL] at ih
      omega
    · rename_i hL
      rw [if_neg hL] at ih
      split <;> omega
/-! ### what the rings make of a sound -/
def itA (p : List Int) : Nat → (Nat → Int) → (Nat → Int)
  | 0, s => s
  | n + 1, s => AP p (itA p n s)
def stp (L : Nat) (m : Nat → Nat) (rq : Nat × Int) (s : Nat → Int) : Nat → Int :=
  itA (stL (Nat.gcd rq.1 L) (rq.1 / Nat.gcd rq.1 L)) (-rq.2).toNat (itA (stL rq.1 (m rq.1)) rq.2.toNat s)
def fs (L : Nat) (m : Nat → Nat) : List (Nat × Int) → (Nat → Int) → Nat → Int
  | [], s => s
  | rq :: r, s => fs L m r (stp L m rq s)
def sg (m : Nat → Nat) (x : Int) : List (Nat × Int) → Int
  | [] => 1
  | (D, q) :: r => PV (stL D (m D)) x ^ q.toNat * sg m x r
theorem AP_unit (s : Nat → Int) : AP [1] s = s := funext fun t => by
  show 1 * s t + 0 = s t
  omega
theorem PV_unit (x : Int) : PV [1] x = 1 := by
  show 1 + x * 0 = 1
  omega
theorem itA_list (p : List Int) : ∀ n, ∃ F : List Int, (∀ s, itA p n s = AP F s) ∧ ∀ x, PV F x = PV p x ^ n
  | 0 => ⟨[1], fun s => (AP_unit s).symm, fun x => by rw [PV_unit, Int.pow_zero]⟩
  | n + 1 => by
    obtain ⟨F, h1, h2⟩ := itA_list p n
    refine ⟨mulP p F, fun s => ?_, fun x => ?_⟩
    · show AP p (itA p n s) = _
      rw [h1, AP_mulF]
    · rw [PV_mulP, h2, Int.pow_succ, Int.mul_comm]
theorem fs_list (L : Nat) (m : Nat → Nat) : ∀ ps, ∃ F : List Int, (∀ s, fs L m ps s = AP F s) ∧ ∀ x, PV F x = sg m x ps * rp L (fun q => (-q).toNat) x ps
  | [] => ⟨[1], fun s => (AP_unit s).symm, fun x => PV_unit x⟩
  | (D, q) :: r => by
    obtain ⟨F, h1, h2⟩ := fs_list L m r
    obtain ⟨A, a1, a2⟩ := itA_list (stL D (m D)) q.toNat
    obtain ⟨B, b1, b2⟩ := itA_list (stL (Nat.gcd D L) (D / Nat.gcd D L)) (-q).toNat
    refine ⟨mulP F (mulP B A), fun s => ?_, fun x => ?_⟩
    · show fs L m r (itA (stL (Nat.gcd D L) (D / Nat.gcd D L)) (-q).toNat (itA (stL D (m D)) q.toNat s)) = _
      rw [h1, b1, a1, AP_mulF, AP_mulF]
    · rw [PV_mulP, PV_mulP, h2, a2, b2]
      show _ = PV (stL D (m D)) x ^ q.toNat * sg m x r * (PV (stL (Nat.gcd D L) (D / Nat.gcd D L)) x ^ (-q).toNat * rp L (fun q => (-q).toNat) x r)
      simp only [Int.mul_assoc, Int.mul_left_comm, Int.mul_comm]
theorem itA_fix {p : List Int} {y : Nat → Int} (h : AP p y = y) : ∀ n, itA p n y = y
  | 0 => rfl
  | n + 1 => by
    show AP p (itA p n y) = y
    rw [itA_fix h n, h]
theorem R_list (L : Nat) (m : Nat → Nat) : ∀ ps : List (Nat × Int), ∃ R : List Int, (∀ y : Nat → Int, (∀ rq ∈ ps, AP (stL (Nat.gcd rq.1 L) (rq.1 / Nat.gcd rq.1 L)) (AP (stL rq.1 (m rq.1)) y) = y) → AP R y = y) ∧
    ∀ x, PV R x = sg m x ps * rp L Int.toNat x ps
  | [] => ⟨[1], fun y _ => AP_unit y, fun x => PV_unit x⟩
  | (D, q) :: r => by
    obtain ⟨R, h1, h2⟩ := R_list L m r
    obtain ⟨A, a1, a2⟩ := itA_list (mulP (stL (Nat.gcd D L) (D / Nat.gcd D L)) (stL D (m D))) q.toNat
    refine ⟨mulP R A, fun y hy => ?_, fun x => ?_⟩
    · rw [AP_mulF, ← a1, itA_fix (by rw [AP_mulF]; exact hy (D, q) List.mem_cons_self), h1 y fun rq hr => hy rq (List.mem_cons_of_mem _ hr)]
    · rw [PV_mulP, h2, a2, PV_mulP, Int.mul_pow]
      show _ = PV (stL D (m D)) x ^ q.toNat * sg m x r * (PV (stL (Nat.gcd D L) (D / Nat.gcd D L)) x ^ q.toNat * rp L Int.toNat x r)
      simp only [Int.mul_assoc, Int.mul_left_comm, Int.mul_comm]
/-! ### the last loop of a deceiver -/
def imp (L t : Nat) : Int := if t % L = L - 1 then 1 else 0
theorem imp_per (L t : Nat) : imp L (t + L) = imp L t := by
  unfold imp
  rw [Nat.add_mod_right]
def cG (fo : Nat → Bool) (L e : Nat) : Nat := if L % e = 0 then (if fo e then 0 else 1) else 0
def cH (fo : Nat → Bool) (L e : Nat) : Nat := if L % e = 0 then (if fo e then 1 else 0) else 0
def cK (fo : Nat → Bool) (L e : Nat) : Nat := if L % e = 0 then 0 else (if fo e then 1 else 0)
def withL (fo : Nat → Bool) (L e : Nat) : Bool := fo e || decide (L % e = 0)
theorem withL_clo {fo : Nat → Bool} (hf : Clo fo) (L : Nat) : Clo (withL fo L) := fun r d d1 hd h => by
  unfold withL at *
  rcases Bool.or_eq_true_iff.mp h with q | q
  · rw [hf r d d1 hd q]
    rfl
  · rw [decide_eq_true (Nat.mod_eq_zero_of_dvd (Nat.dvd_trans hd (Nat.dvd_of_mod_eq_zero (of_decide_eq_true q)))), Bool.or_true]
section
variable {fo : Nat → Bool} {L : Nat} (hf : Clo fo) (L1 : 1 ≤ L) (L64 : L ≤ 64)
include hf L1 L64
theorem HG_len : LN (cG fo L) 64 + LN (cH fo L) 64 = L + 2 := by
  have a := LN_add (cG fo L) (cH fo L) 64
  have b : LN (fun e => cG fo L e + cH fo L e) 64 = LN (ind L) 64 := LN_congr 64 fun e _ _ => by
    unfold cG cH ind
    split
    · split <;> rfl
    · rfl
  rw [b, ring_LN L1 L64] at a
  omega
theorem GW_len : LN (fin fo) 64 + LN (cG fo L) 64 = LN (fin (withL fo L)) 64 + 1 := by
  have a := LN_add (fin fo) (cG fo L) 64
  have b : LN (fun e => fin fo e + cG fo L e) 64 = LN (fin (withL fo L)) 64 := LN_congr 64 fun e _ _ => by
    unfold cG fin withL
    by_cases h : fo e = true
    · simp [h]
    · by_cases g : L % e = 0 <;> simp [h, g]
  rw [b] at a
  omega
theorem GH_PV (x : Int) : PV (RL (cG fo L) 64) x * PV (RL (cH fo L) 64) x = x ^ L - 1 := by
  rw [(RL_ok _ 64 (Nat.le_refl _)).2, (RL_ok _ 64 (Nat.le_refl _)).2, ← GP_add, ← ring_GP L1 L64 x]
  refine GP_congr x 64 fun e _ _ => ?_
  unfold cG cH ind
  split
  · split <;> rfl
  · rfl
theorem HK_PV (x : Int) : PV (Wl fo) x = PV (RL (cK fo L) 64) x * PV (RL (cH fo L) 64) x := by
  rw [(RL_ok _ 64 (Nat.le_refl _)).2, (RL_ok _ 64 (Nat.le_refl _)).2, ← GP_add, (Wl_sta hf).2]
  refine GP_congr x 64 fun e _ _ => ?_
  unfold cK cH fin
  split
  · split <;> simp
  · split <;> simp
theorem K_PV {x : Int} (h0 : x ≠ 0) (h1 : x ≠ 1) (h2 : x ≠ -1) :
    PV (RL (cK fo L) 64) x * rp L (fun q => (-q).toNat) x (pows (withL fo L) 64) = rp L Int.toNat x (pows (withL fo L) 64) := by
  have mem : ∀ rq ∈ pows (withL fo L) 64, 1 ≤ rq.1 ∧ rq.1 ≤ 64 := fun rq h => by
    have := pows_mem (withL fo L) 64 (Nat.le_refl _) rq h
    omega
  rw [(RL_ok _ 64 (Nat.le_refl _)).2, ← rc_GP L1 _ h0 h1 h2 _ mem, ← rc_GP L1 _ h0 h1 h2 _ mem, ← GP_add]
  refine GP_congr x 64 fun e e1 e2 => ?_
  have a := rc_SS L e (pows (withL fo L) 64)
  rw [pows_sum (withL_clo hf L) 64 (Nat.le_refl _) e (by omega) e2] at a
  unfold cK
  by_cases g : L % e = 0
  · rw [if_pos g] at a ⊢
    omega
  · rw [if_neg g] at a ⊢
    have w : withL fo L e = fo e := by
      unfold withL
      rw [decide_eq_false g, Bool.or_false]
    rw [w] at a
    by_cases h : fo e = true
    · rw [if_pos h] at a ⊢
      omega
    · rw [if_neg h] at a ⊢
      omega
theorem y_kill : AP (RL (cG fo L) 64) (AP (RL (cH fo L) 64) (imp L)) = fun _ => 0 := by
  rw [← AP_mulF, AP_of_PVF (q := ringL L) (fun x _ _ _ => by rw [PV_mulP, GH_PV hf L1 L64, PV_ringL L1])]
  funext t
  rw [AP_ring _ L1, imp_per]
  omega
theorem y_per (t : Nat) : AP (RL (cH fo L) 64) (imp L) (t + L) = AP (RL (cH fo L) 64) (imp L) t := by
  refine AP_ext _ fun i _ => ?_
  rw [show t + L + i = t + i + L by omega, imp_per]
theorem y_first {t : Nat} (h : t + 1 < LN (cG fo L) 64) : AP (RL (cH fo L) 64) (imp L) t = if t + 2 = LN (cG fo L) 64 then 1 else 0 := by
  obtain ⟨r1, r2⟩ := RL_last (cH fo L) 64 (Nat.le_refl _)
  have rl := (RL_ok (cH fo L) 64 (Nat.le_refl _)).1
  have hg := HG_len hf L1 L64
  have e : RL (cH fo L) 64 = (RL (cH fo L) 64).dropLast ++ [1] := by
    have ne : RL (cH fo L) 64 ≠ [] := fun z => by rw [z] at r1; exact absurd r1 (by decide)
    rw [List.getLast?_eq_some_getLast ne] at r2
    have := List.dropLast_concat_getLast ne
    rw [Option.some.inj r2] at this
    exact this.symm
  rw [e, AP_app, AP_none _ (s := imp L) (t := t) fun i hi => ?_]
  · show 0 + (1 * imp L (t + (RL (cH fo L) 64).dropLast.length) + 0) = _
    rw [List.length_dropLast, rl, Int.zero_add, Int.add_zero, Int.one_mul]
    unfold imp
    rw [Nat.mod_eq_of_lt (by omega)]
    by_cases q : t + 2 = LN (cG fo L) 64
    · rw [if_pos q, if_pos (by omega)]
    · rw [if_neg q, if_neg (by omega)]
  · rw [List.length_dropLast, rl] at hi
    unfold imp
    rw [Nat.mod_eq_of_lt (by omega), if_neg (by omega)]
theorem keep_one {D m : Nat} (hD : withL fo L D = true) (D1 : 1 ≤ D) (D64 : D ≤ 64) (m1 : 1 ≤ m) (hm : m * D % L = Nat.gcd D L % L) (hm1 : D ∣ L → m = 1) {y : Nat → Int} (yp : ∀ t, y (t + L) = y t) (yk : AP (RL (cG fo L) 64) y = fun _ => 0) :
    AP (stL (Nat.gcd D L) (D / Nat.gcd D L)) (AP (stL D m) y) = y := by
  by_cases dl : D ∣ L
  · rw [hm1 dl, stL_one, Nat.gcd_eq_left dl, Nat.div_self (by omega), stL_one]
  have c1 : 1 ≤ Nat.gcd D L := Nat.gcd_pos_of_pos_left _ D1
  have cD := Nat.gcd_dvd_left D L
  have cL := Nat.gcd_dvd_right D L
  have c64 : Nat.gcd D L ≤ 64 := Nat.le_trans (Nat.le_of_dvd D1 cD) D64
  have foc : fo (Nat.gcd D L) = true := by
    unfold withL at hD
    rcases Bool.or_eq_true_iff.mp hD with q | q
    · exact hf D _ c1 cD q
    · exact absurd (Nat.dvd_of_mod_eq_zero (of_decide_eq_true q)) dl
  generalize hc : Nat.gcd D L = c at *
  have cDe : c * (D / c) = D := Nat.mul_div_cancel' cD
  have cLe : c * (L / c) = L := Nat.mul_div_cancel' cL
  have Dm1 : 1 ≤ D * m := Nat.mul_le_mul D1 m1
  have r : AP (ringL c) (AP (stL c (D / c)) (AP (stL D m) y)) = AP (ringL (D * m)) y := by
    rw [← AP_mulF, ← AP_mulF]
    refine AP_of_PVF (fun x _ _ _ => ?_) y
    have g1 := PV_geo c (D / c) x
    have g2 := PV_geo D m x
    rw [cDe] at g1
    rw [PV_mulP, PV_mulP, PV_ringL c1, PV_ringL Dm1, ← g2, ← g1]
    simp only [Int.mul_assoc, Int.mul_left_comm, Int.mul_comm]
  have zp : ∀ t, (AP (stL c (D / c)) (AP (stL D m) y) (t + c) - y (t + c)) = AP (stL c (D / c)) (AP (stL D m) y) t - y t := fun t => by
    have a := congrFun r t
    rw [AP_ring _ c1, AP_ring _ Dm1, yper yp (show D * m % L = c % L by rw [Nat.mul_comm]; exact hm)] at a
    omega
  have zk : AP (RL (cG fo L) 64) (fun t => AP (stL c (D / c)) (AP (stL D m) y) t - y t) = fun _ => 0 := by
    funext t
    rw [AP_minus]
    have a : AP (RL (cG fo L) 64) (AP (stL c (D / c)) (AP (stL D m) y)) = fun _ => 0 := by
      rw [AP_swap, AP_swap (RL (cG fo L) 64), yk]
      funext u
      exact AP_none _ fun i _ => AP_none _ fun j _ => rfl
    have e1 : AP (RL (cG fo L) 64) (fun t => AP (stL c (D / c)) (AP (stL D m) y) t) t = 0 := congrFun a t
    have e2 : AP (RL (cG fo L) 64) (fun t => y t) t = 0 := congrFun yk t
    rw [e1, e2]
    rfl
  generalize hz : (fun t => AP (stL c (D / c)) (AP (stL D m) y) t - y t) = z at zk
  have zp2 : ∀ t, z (t + c) = z t := fun t => by
    rw [← hz]
    exact zp t
  have zM : AP (stL c (L / c)) z = fun _ => 0 := by
    rw [AP_of_PVF (p := stL c (L / c)) (q := mulP (RL (fun e => if L % e = 0 then (if c % e = 0 then 0 else if fo e then 1 else 0) else 0) 64) (RL (cG fo L) 64)) (fun x h0 h1 h2 => ?_) z, AP_mulF, zk]
    · funext u
      exact AP_none _ fun j _ => rfl
    · have a := PV_geo c (L / c) x
      rw [cLe, ← ring_GP L1 L64 x, GP_congr (d := fun e => ((if L % e = 0 then (if c % e = 0 then 0 else if fo e then 1 else 0) else 0) + cG fo L e) + ind c e) x 64 (fun e e1 e2 => ?_), GP_add (fun e => (if L % e = 0 then (if c % e = 0 then 0 else if fo e then 1 else 0) else 0) + cG fo L e), GP_add, ring_GP c1 c64 x] at a
      · rw [PV_mulP, (RL_ok _ 64 (Nat.le_refl _)).2, (RL_ok _ 64 (Nat.le_refl _)).2]
        exact Int.eq_of_mul_eq_mul_right (pow_big h0 h1 h2 c1) a
      · unfold ind cG
        by_cases q : L % e = 0
        · rw [if_pos q, if_pos q, if_pos q]
          by_cases q2 : c % e = 0
          · rw [if_pos q2, if_pos q2, if_pos (hf c e e1 (Nat.dvd_of_mod_eq_zero q2) foc)]
          · rw [if_neg q2, if_neg q2]
            split <;> rfl
        · rw [if_neg q, if_neg q, if_neg q, if_neg fun w => q (Nat.mod_eq_zero_of_dvd (Nat.dvd_trans (Nat.dvd_of_mod_eq_zero w) cL))]
  have zmul : ∀ k t, AP (stL c k) z t = k * z t := fun k t => by
    induction k with
    | zero =>
      show (0 : Int) = 0 * z t
      rw [Int.zero_mul]
    | succ k ih =>
      rw [AP_stL, ih, Nat.mul_comm c k, yadd zp2, Int.natCast_succ, Int.add_mul, Int.one_mul]
  have z0 : ∀ t, z t = 0 := fun t => by
    have a := zmul (L / c) t
    rw [congrFun zM t] at a
    have b : (L / c : Nat) ≠ 0 := by
      have := Nat.div_pos (Nat.le_of_dvd L1 cL) c1
      omega
    rcases Int.mul_eq_zero.mp a.symm with w | w
    · omega
    · exact w
  funext t
  have a := z0 t
  rw [← hz] at a
  have a : AP (stL c (D / c)) (AP (stL D m) y) t - y t = 0 := a
  omega
/-- what the other weights make of the last loop -/
theorem last_first {m : Nat → Nat} (hm : ∀ D, 1 ≤ D → withL fo L D = true → 1 ≤ m D ∧ m D * D % L = Nat.gcd D L % L ∧ (D ∣ L → m D = 1)) {t : Nat} (h : t + LN (fin fo) 64 < LN (fin (withL fo L)) 64) :
    AP (Wl fo) (fs L m (pows (withL fo L) 64) (imp L)) t = if t + 1 + LN (fin fo) 64 = LN (fin (withL fo L)) 64 then 1 else 0 := by
  obtain ⟨F, f1, f2⟩ := fs_list L m (pows (withL fo L) 64)
  obtain ⟨R, r1, r2⟩ := R_list L m (pows (withL fo L) 64)
  have gl := GW_len hf L1 L64
  rw [f1, ← AP_mulF, AP_of_PVF (p := mulP (Wl fo) F) (q := mulP R (RL (cH fo L) 64)) (fun x h0 h1 h2 => by
    rw [PV_mulP, PV_mulP, f2, r2, HK_PV hf L1 L64, ← K_PV hf L1 L64 h0 h1 h2]
    simp only [Int.mul_assoc, Int.mul_left_comm, Int.mul_comm]), AP_mulF, r1 _ (fun rq hr => by
      obtain ⟨p1, p2, p3⟩ := pows_mem _ 64 (Nat.le_refl _) rq hr
      obtain ⟨q1, q2, q3⟩ := hm rq.1 (by omega) p1
      exact keep_one hf L1 L64 p1 (by omega) p3 q1 q2 q3 (y_per hf L1 L64) (y_kill hf L1 L64)), y_first hf L1 L64 (by omega)]
  by_cases q : t + 2 = LN (cG fo L) 64
  · rw [if_pos q, if_pos (by omega)]
  · rw [if_neg q, if_neg (by omega)]
end
end My

/-! Loops that are heard as a row, and deceivers of several lengths. -/
namespace My
open PySem PySem.Spec PyProof.Rows L2
/-! ### sums -/
def sm : Nat → (Nat → Int) → Int
  | 0, _ => 0
  | n + 1, F => sm n F + F n
theorem sm_congr {F G : Nat → Int} : ∀ n, (∀ i, i < n → F i = G i) → sm n F = sm n G
  | 0, _ => rfl
  | n + 1, h => by
    show sm n F + F n = sm n G + G n
    rw [sm_congr n fun i hi => h i (by omega), h n (by omega)]
theorem sm_none : ∀ {n : Nat} {F : Nat → Int}, (∀ i, i < n → F i = 0) → sm n F = 0
  | 0, _, _ => rfl
  | n + 1, F, h => by
    show sm n F + F n = 0
    rw [sm_none fun i hi => h i (by omega), h n (by omega)]
    rfl
theorem sm_add (F G : Nat → Int) : ∀ n, sm n (fun i => F i + G i) = sm n F + sm n G
  | 0 => rfl
  | n + 1 => by
    show sm n (fun i => F i + G i) + (F n + G n) = sm n F + F n + (sm n G + G n)
    rw [sm_add F G n]
    omega
theorem sm_mul (a : Int) (F : Nat → Int) : ∀ n, sm n (fun i => a * F i) = a * sm n F
  | 0 => (Int.mul_zero a).symm
  | n + 1 => by
    show sm n (fun i => a * F i) + a * F n = a * (sm n F + F n)
    rw [sm_mul a F n, Int.mul_add]
theorem sm_swap (F : Nat → Nat → Int) (m : Nat) : ∀ n, sm n (fun i => sm m fun j => F i j) = sm m fun j => sm n fun i => F i j
  | 0 => (sm_none fun _ _ => rfl).symm
  | n + 1 => by
    show sm n (fun i => sm m fun j => F i j) + sm m (fun j => F n j) = sm m fun j => (sm n fun i => F i j) + F n j
    rw [sm_swap F m n, sm_add]
theorem sm_more (F : Nat → Int) (n : Nat) : ∀ k, sm (n + k) F = sm n F + sm k fun i => F (n + i)
  | 0 => by
    show sm n F = sm n F + 0
    omega
  | k + 1 => by
    show sm (n + k) F + F (n + k) = sm n F + (sm k (fun i => F (n + i)) + F (n + k))
    rw [sm_more F n k]
    omega
theorem sm_one {F : Nat → Int} {n k : Nat} (hk : k < n) (h : ∀ i, i < n → i ≠ k → F i = 0) : sm n F = F k := by
  obtain ⟨d, rfl⟩ : ∃ d, n = k + (1 + d) := ⟨n - k - 1, by omega⟩
  rw [sm_more, sm_more, sm_none (fun i hi => h i (by omega) (by omega)), sm_none (n := d) (fun i hi => h _ (by omega) (by omega))]
  show 0 + (0 + F (k + 0) + 0) = F k
  rw [Nat.add_zero]
  omega
theorem sm_back (F : Nat → Int) : ∀ n, sm n F = sm n fun j => F (n - 1 - j)
  | 0 => rfl
  | n + 1 => by
    have a := sm_more (fun j => F (n + 1 - 1 - j)) 1 n
    have b : (sm n fun i => F (n + 1 - 1 - (1 + i))) = sm n fun j => F (n - 1 - j) := sm_congr n fun i hi => by
      rw [show n + 1 - 1 - (1 + i) = n - 1 - i by omega]
    have c : sm 1 (fun j => F (n + 1 - 1 - j)) = F n := by
      show 0 + F (n + 1 - 1 - 0) = F n
      rw [show n + 1 - 1 - 0 = n by omega]
      omega
    rw [show n + 1 = 1 + n by omega] at *
    rw [a, show 1 + n = n + 1 by omega] at *
    rw [b, c, ← sm_back F n]
    show sm n F + F n = _
    omega
theorem sm_abs {F : Nat → Int} {B : Nat} : ∀ n, (∀ i, i < n → (F i).natAbs ≤ B) → (sm n F).natAbs ≤ n * B
  | 0, _ => Nat.zero_le _
  | n + 1, h => by
    rw [Nat.succ_mul]
    exact Nat.le_trans (Int.natAbs_add_le _ _) (Nat.add_le_add (sm_abs n fun i hi => h i (by omega)) (h n (by omega)))
theorem AP_sm : ∀ (p : List Int) (s : Nat → Int) (t : Nat), AP p s t = sm p.length fun k => p.getD k 0 * s (t + k)
  | [], _, _ => rfl
  | a :: p, s, t => by
    show a * s t + AP p s (t + 1) = sm (p.length + 1) _
    rw [AP_sm p s (t + 1), show p.length + 1 = 1 + p.length by omega, sm_more _ 1 p.length]
    show _ = 0 + a * s (t + 0) + sm p.length fun i => (a :: p).getD (1 + i) 0 * s (t + (1 + i))
    rw [Nat.add_zero, Int.zero_add]
    congr 1
    refine sm_congr _ fun i _ => ?_
    rw [show 1 + i = i + 1 by omega, List.getD_cons_succ, show t + 1 + i = t + (i + 1) by omega]
theorem dotz_sm : ∀ (xs ys : List Int), dotz xs ys = sm ys.length fun k => xs.getD k 0 * ys.getD k 0
  | [], ys => by
    have : dotz [] ys = 0 := by
      unfold dotz
      rw [List.zipWith_nil_left]
      rfl
    rw [this]
    refine (sm_none fun i _ => ?_).symm
    rw [List.getD_nil, Int.zero_mul]
  | x :: xs, [] => by
    unfold dotz
    rw [List.zipWith_nil_right]
    rfl
  | x :: xs, y :: ys => by
    have e : dotz (x :: xs) (y :: ys) = x * y + dotz xs ys := by
      unfold dotz
      rw [List.zipWith_cons_cons, List.sum_cons]
    rw [e, dotz_sm xs ys, List.length_cons, show ys.length + 1 = 1 + ys.length by omega, sm_more _ 1 ys.length]
    show _ = 0 + x * y + _
    rw [Int.zero_add]
    congr 1
    refine sm_congr _ fun i _ => ?_
    rw [show 1 + i = i + 1 by omega, List.getD_cons_succ, List.getD_cons_succ]
/-! ### loops heard as a row -/
def facs (W row : List Int) : List Int := (List.range row.length).map fun t => dotz (W.drop (row.length - t)) row
def mixL (l fs : List Int) : List Int := (List.range l.length).map fun t => sm fs.length fun k => fs.getD k 0 * hAt l ((t + (fs.length - 1 - k) : Nat) : Int)
theorem facs_len (W row : List Int) : (facs W row).length = row.length := by
  unfold facs
  rw [List.length_map, List.length_range]
theorem mixL_len (l fs : List Int) : (mixL l fs).length = l.length := by
  unfold mixL
  rw [List.length_map, List.length_range]
theorem hAt_nat {l : List Int} (h : 1 ≤ l.length) (t : Nat) : hAt l (t : Int) = l.getD (t % l.length) 0 := by
  have a := Nat.mod_lt t (show 0 < l.length by omega)
  have e : hAt l (t : Int) = hAt l ((t % l.length : Nat) : Int) := by
    have b := hAt_add (l := l) (t := ((t % l.length : Nat) : Int)) (P := l.length * (t / l.length)) (Nat.dvd_mul_right _ _)
    rw [← b]
    congr 1
    have := Nat.mod_add_div t l.length
    omega
  rw [e, hAt_lt a]
theorem hAt_more {l : List Int} (h : 1 ≤ l.length) (t k : Nat) : hAt l ((t % l.length + k : Nat) : Int) = hAt l ((t + k : Nat) : Int) := by
  rw [hAt_nat h, hAt_nat h]
  congr 1
  rw [Nat.mod_add_mod]
theorem getD_tab {F : Nat → Int} {n t : Nat} (h : t < n) : ((List.range n).map F).getD t 0 = F t := by
  rw [List.getD_eq_getElem?_getD, List.getElem?_map, List.getElem?_range h]
  rfl
theorem hAt_mix {l : List Int} (fs : List Int) (h : 1 ≤ l.length) (t : Nat) : hAt (mixL l fs) (t : Int) = sm fs.length fun k => fs.getD k 0 * hAt l ((t + (fs.length - 1 - k) : Nat) : Int) := by
  rw [hAt_nat (by rw [mixL_len]; exact h), mixL_len]
  unfold mixL
  rw [getD_tab (Nat.mod_lt _ (by omega))]
  refine sm_congr _ fun k _ => ?_
  rw [hAt_more h]
theorem hd_mix (fs : List Int) : ∀ (ls : List (List Int)), (∀ l ∈ ls, 1 ≤ l.length) → ∀ t : Nat, hd (ls.map fun l => mixL l fs) (t : Int) = sm fs.length fun k => fs.getD k 0 * hd ls ((t + (fs.length - 1 - k) : Nat) : Int)
  | [], _, t => (sm_none fun k _ => Int.mul_zero _).symm
  | l :: r, h, t => by
    rw [List.map_cons, hd_cons, hAt_mix fs (h l List.mem_cons_self), hd_mix fs r (fun x hx => h x (List.mem_cons_of_mem _ hx)), ← sm_add]
    refine sm_congr _ fun k _ => ?_
    rw [hd_cons, Int.mul_add]
theorem getD_drp (xs : List Int) (p j : Nat) : (xs.drop p).getD j 0 = xs.getD (p + j) 0 := by
  rw [List.getD_eq_getElem?_getD, List.getD_eq_getElem?_getD, List.getElem?_drop]
theorem getD_out {xs : List Int} {j : Nat} (h : xs.length ≤ j) : xs.getD j 0 = 0 := by
  rw [List.getD_eq_getElem?_getD, List.getElem?_eq_none h]
  rfl
/-- what the begun deceivers are heard as, taken as often as the weights tell -/
theorem row_again {W row : List Int} {h : Nat → Int} {n : Nat} (hW : W.length = n + 1) (W1 : W.getD n 0 = 1) (hr : row.length = n) (h0 : ∀ u, u < n → h u = if u + 1 = n then 1 else 0) (hk : ∀ u, AP W h u = 0) {t : Nat} (ht : t < n) :
    (sm n fun k => (facs W row).getD k 0 * h (t + (n - 1 - k))) = row.getD t 0 := by
  rw [sm_back, sm_congr (G := fun j => sm n fun i => row.getD i 0 * (W.getD (i + 1 + j) 0 * h (t + j))) n fun j hj => ?_, sm_swap]
  · rw [sm_one (k := t) ht fun i hi ne => ?_]
    · rw [sm_mul, sm_one (k := n - 1 - t) (by omega) fun j hj ne => ?_]
      · rw [show t + 1 + (n - 1 - t) = n by omega, W1, h0 _ (by omega), if_pos (by omega)]
        omega
      · by_cases q : t + j < n
        · rw [h0 _ q, if_neg (by omega), Int.mul_zero]
        · rw [getD_out (by omega), Int.zero_mul]
    · rw [sm_mul]
      by_cases lt : t < i
      · rw [sm_none fun j hj => ?_, Int.mul_zero]
        by_cases q : t + j + 1 < n
        · rw [h0 _ (by omega), if_neg (by omega), Int.mul_zero]
        · rw [getD_out (by omega), Int.zero_mul]
      · have e := hk (t - i - 1)
        rw [AP_sm, hW] at e
        have a := sm_more (fun k => W.getD k 0 * h (t - i - 1 + k)) (n + 1) i
        rw [e, sm_none (n := i) (fun k _ => by rw [getD_out (by omega), Int.zero_mul]), show n + 1 + i = (i + 1) + n by omega, sm_more _ (i + 1) n, sm_none (n := i + 1) (fun k hk => by rw [h0 _ (by omega), if_neg (by omega), Int.mul_zero])] at a
        rw [sm_congr (G := fun j => W.getD (i + 1 + j) 0 * h (t - i - 1 + (i + 1 + j))) n fun j _ => by rw [show t - i - 1 + (i + 1 + j) = t + j by omega]]
        have a' : sm n (fun j => W.getD (i + 1 + j) 0 * h (t - i - 1 + (i + 1 + j))) = 0 := by omega
        rw [a', Int.mul_zero]
  · have e : (facs W row).getD (n - 1 - j) 0 = sm n fun i => W.getD (i + 1 + j) 0 * row.getD i 0 := by
      unfold facs
      rw [getD_tab (by omega), dotz_sm, hr]
      refine sm_congr _ fun i _ => ?_
      rw [getD_drp, show n - (n - 1 - j) + i = i + 1 + j by omega]
    rw [e, show t + (n - 1 - (n - 1 - j)) = t + j by omega, Int.mul_comm, ← sm_mul]
    refine sm_congr _ fun i _ => ?_
    rw [Int.mul_comm (W.getD _ _), Int.mul_left_comm, Int.mul_comm (h _)]
/-! ### deceivers -/
def sto (L D : Nat) : Nat := 1 + ((List.range L).findIdx fun k => decide ((k + 1) * D % L = Nat.gcd D L % L))
def lastL (os : List Nat) (L : Nat) : List Int := (List.range L).map fun t => fs L (sto L) (pows (dvf (os ++ [L])) 64) (imp L) t
def leftL (n : Nat) (l : List Int) (no : Nat) : List Int := (List.range no).map fun t => (if t + 1 = n then 1 else 0) - hAt l (t : Int)
def wl (ns : List Nat) : List Int := Wl (dvf ns)
def du (ns : List Nat) : Nat := dueN (NN ns)
/-- of the lengths in backward order -/
def decR : List Nat → List (List Int)
  | [] => []
  | L :: r => ((decR r).map fun l => mixL l (facs (wl r.reverse) (leftL (du (r.reverse ++ [L])) (lastL r.reverse L) (du r.reverse)))) ++ [lastL r.reverse L]
def dec (ns : List Nat) : List (List Int) := decR ns.reverse
def lha (ns : List Nat) (row : List Int) : List (List Int) := (dec ns).map fun l => mixL l (facs (wl ns) row)
theorem dec_snoc (os : List Nat) (L : Nat) : dec (os ++ [L]) = lha os (leftL (du (os ++ [L])) (lastL os L) (du os)) ++ [lastL os L] := by
  unfold dec lha
  rw [List.reverse_append]
  show decR (L :: os.reverse) = _
  unfold decR
  rw [List.reverse_reverse]
  rfl
theorem sto_is : ∀ L, L < 65 → 1 ≤ L → ∀ D, D < 65 → 1 ≤ D → ((List.range L).any fun k => decide ((k + 1) * D % L = Nat.gcd D L % L)) = true := by decide +kernel
theorem sto_ok {L D : Nat} (L1 : 1 ≤ L) (L64 : L ≤ 64) (D1 : 1 ≤ D) (D64 : D ≤ 64) : sto L D ≤ L ∧ sto L D * D % L = Nat.gcd D L % L := by
  have a := sto_is L (by omega) L1 D (by omega) D1
  have b : (List.range L).findIdx (fun k => decide ((k + 1) * D % L = Nat.gcd D L % L)) < (List.range L).length := List.findIdx_lt_length_of_exists (List.any_eq_true.mp a)
  have c := List.findIdx_getElem (w := b)
  rw [List.getElem_range] at c
  rw [List.length_range] at b
  have c := of_decide_eq_true c
  unfold sto
  rw [Nat.add_comm 1]
  exact ⟨by omega, c⟩
theorem sto_least {L D k : Nat} (h : k + 1 < sto L D) : ¬ ((k + 1) * D % L = Nat.gcd D L % L) := by
  unfold sto at h
  have b : k < (List.range L).findIdx (fun k => decide ((k + 1) * D % L = Nat.gcd D L % L)) := by omega
  have bl : k < (List.range L).length := Nat.lt_of_lt_of_le b List.findIdx_le_length
  have c := List.not_of_lt_findIdx b
  rw [List.getElem_range] at c
  exact of_decide_eq_false (by simpa using c)
theorem sto_one {L D : Nat} (L1 : 1 ≤ L) (h : D ∣ L) : sto L D = 1 := by
  refine Classical.byContradiction fun no => ?_
  have a : 1 ≤ sto L D := by
    unfold sto
    omega
  refine sto_least (L := L) (D := D) (k := 0) (by omega) ?_
  rw [Nat.zero_add, Nat.one_mul, Nat.gcd_eq_left h]
theorem dvf_withL (os : List Nat) (L : Nat) : dvf (os ++ [L]) = withL (dvf os) L := by
  funext e
  unfold dvf withL
  rw [List.any_append]
  simp
theorem lastL_len (os : List Nat) (L : Nat) : (lastL os L).length = L := by
  unfold lastL
  rw [List.length_map, List.length_range]
theorem lastL_at (os : List Nat) {L : Nat} (L1 : 1 ≤ L) (t : Nat) : hAt (lastL os L) (t : Int) = fs L (sto L) (pows (dvf (os ++ [L])) 64) (imp L) t := by
  rw [hAt_nat (by rw [lastL_len]; exact L1), lastL_len]
  unfold lastL
  rw [getD_tab (Nat.mod_lt _ (by omega))]
  obtain ⟨F, f1, _⟩ := fs_list L (sto L) (pows (dvf (os ++ [L])) 64)
  rw [f1]
  refine AP_ext F fun i _ => ?_
  unfold imp
  rw [Nat.mod_add_mod]
theorem okm_pos {ns : List Nat} (ok : OkM ns) : ∀ n ∈ ns, 1 ≤ n ∧ n ≤ 64 := ok.2
theorem wl_len {ns : List Nat} (ok : OkM ns) : (wl ns).length = du ns + 1 := Wl_due ok.2
theorem wl_one {ns : List Nat} (ok : OkM ns) : (wl ns).getD (du ns) 0 = 1 := by
  have a := Wl_last (dvf_clo ns)
  rw [List.getLast?_eq_getElem?, show (Wl (dvf ns)).length - 1 = du ns by have := wl_len ok; unfold wl at this; omega] at a
  unfold wl
  rw [List.getD_eq_getElem?_getD, a]
  rfl
theorem wl_kills {ns : List Nat} (ok : OkM ns) {ls : List (List Int)} (h : ∀ l ∈ ls, l.length ∈ ns) (t : Nat) : AP (wl ns) (fun u => hd ls (u : Int)) t = 0 := by
  have a := W_kills ok t h
  have b := AP_dotf (fun u => hd ls (u : Int)) t (Wl (dvf ns)) 0
  rw [Nat.add_zero] at b
  exact b.symm.trans a
theorem okm_take {os : List Nat} {L : Nat} (ok : OkM (os ++ [L])) : OkM os := ⟨by have := ok.1; rw [List.length_append] at this; omega, fun n hn => ok.2 n (List.mem_append_left _ hn)⟩
theorem du_nil : du [] = 0 := rfl
/-- loops that are heard as a row -/
theorem lha_heard {ns : List Nat} (ok : OkM ns) (hl : lenN (dec ns) = ns) (hd0 : ∀ u, u < du ns → hd (dec ns) (u : Int) = if u + 1 = du ns then 1 else 0) {row : List Int} (hr : row.length = du ns) {t : Nat} (ht : t < du ns) : hd (lha ns row) (t : Int) = row.getD t 0 := by
  have inn : ∀ l ∈ dec ns, l.length ∈ ns := fun l hx => by
    have := List.mem_map_of_mem (f := List.length) hx
    have e : (dec ns).map List.length = ns := hl
    rw [e] at this
    exact this
  unfold lha
  rw [hd_mix _ _ (fun l hx => (ok.2 _ (inn l hx)).1), facs_len, hr]
  exact row_again (h := fun u => hd (dec ns) (u : Int)) (wl_len ok) (wl_one ok) hr hd0 (wl_kills ok inn) ht
theorem lha_lens (ns : List Nat) (row : List Int) : lenN (lha ns row) = lenN (dec ns) := by
  unfold lha lenN
  rw [List.map_map]
  exact List.map_congr_left fun l _ => mixL_len l _
theorem dec_ok : ∀ (r : List Nat), OkM r.reverse → lenN (dec r.reverse) = r.reverse ∧ ∀ u, u < du r.reverse → hd (dec r.reverse) (u : Int) = if u + 1 = du r.reverse then 1 else 0
  | [], _ => ⟨rfl, fun u hu => by
    have : u < 0 := hu
    omega⟩
  | L :: r, ok => by
    rw [List.reverse_cons] at ok ⊢
    generalize hos : r.reverse = os at *
    have ok1 := okm_take ok
    obtain ⟨i1, i2⟩ := (hos ▸ dec_ok r) ok1
    have L1 := (ok.2 L (by simp)).1
    have L64 := (ok.2 L (by simp)).2
    rw [dec_snoc]
    generalize hleft : leftL (du (os ++ [L])) (lastL os L) (du os) = left
    have ll : left.length = du os := by
      rw [← hleft]
      unfold leftL
      rw [List.length_map, List.length_range]
    have lens : lenN (lha os left ++ [lastL os L]) = os ++ [L] := by
      rw [lenN_app, lha_lens, i1]
      show os ++ [(lastL os L).length] = _
      rw [lastL_len]
    refine ⟨lens, ?_⟩
    have inn : ∀ l ∈ lha os left, l.length ∈ os := fun l hx => by
      have := List.mem_map_of_mem (f := List.length) hx
      have e : (lha os left).map List.length = os := (lha_lens os left).trans i1
      rw [e] at this
      exact this
    have sp : ∀ u : Nat, hd (lha os left ++ [lastL os L]) (u : Int) = hd (lha os left) (u : Int) + fs L (sto L) (pows (dvf (os ++ [L])) 64) (imp L) u := fun u => by
      rw [hd_app, hd_one, lastL_at os L1]
    have nO := wl_len ok1
    have nA := wl_len ok
    have LO : LN (fin (dvf os)) 64 = du os + 1 := by rw [← nO]; exact (Wl_len (dvf_clo os)).symm
    have LA : LN (fin (withL (dvf os) L)) 64 = du (os ++ [L]) + 1 := by rw [← nA, ← dvf_withL]; exact (Wl_len (dvf_clo _)).symm
    have first : ∀ u, u < du os → hd (lha os left ++ [lastL os L]) (u : Int) = if u + 1 = du (os ++ [L]) then 1 else 0 := fun u hu => by
      rw [sp, lha_heard ok1 i1 i2 ll hu, ← hleft]
      unfold leftL
      rw [getD_tab hu, lastL_at os L1]
      omega
    have step : ∀ u, u + du os < du (os ++ [L]) → AP (wl os) (fun v => hd (lha os left ++ [lastL os L]) (v : Int)) u = if u + 1 + du os = du (os ++ [L]) then 1 else 0 := fun u hu => by
      have e : (fun v : Nat => hd (lha os left ++ [lastL os L]) (v : Int)) = fun v : Nat => hd (lha os left) (v : Int) + fs L (sto L) (pows (dvf (os ++ [L])) 64) (imp L) v := funext sp
      rw [e, AP_plus, wl_kills ok1 inn, dvf_withL]
      have a := last_first (dvf_clo os) L1 L64 (m := sto L) (fun D D1 hD => by
        have D64 : D ≤ 64 := by
          unfold withL at hD
          rcases Bool.or_eq_true_iff.mp hD with q | q
          · obtain ⟨n, hn, hx⟩ := List.any_eq_true.mp q
            have := ok1.2 n hn
            exact Nat.le_trans (Nat.le_of_dvd (by omega) (Nat.dvd_of_mod_eq_zero (of_decide_eq_true hx))) this.2
          · exact Nat.le_trans (Nat.le_of_dvd (by omega) (Nat.dvd_of_mod_eq_zero (of_decide_eq_true q))) L64
        obtain ⟨s1, s2⟩ := sto_ok L1 L64 D1 D64
        exact ⟨by unfold sto; omega, s2, sto_one L1⟩) (t := u) (by rw [LO, LA]; omega)
      rw [LO, LA] at a
      show 0 + AP (Wl (dvf os)) _ u = _
      rw [a]
      by_cases q : u + 1 + du os = du (os ++ [L])
      · rw [if_pos q, if_pos (by omega)]
        rfl
      · rw [if_neg q, if_neg (by omega)]
        rfl
    intro u
    induction u using Nat.strongRecOn with
    | _ u iu =>
      intro hu
      by_cases q : u < du os
      · exact first u q
      have st := step (u - du os) (by omega)
      rw [AP_sm, nO] at st
      have st : sm (du os) (fun k => (wl os).getD k 0 * hd (lha os left ++ [lastL os L]) ((u - du os + k : Nat) : Int)) + (wl os).getD (du os) 0 * hd (lha os left ++ [lastL os L]) ((u - du os + du os : Nat) : Int) = _ := st
      rw [wl_one ok1, sm_none (fun i hi => by rw [iu (u - du os + i) (by omega) (by omega), if_neg (by omega), Int.mul_zero]), show u - du os + du os = u by omega, show u - du os + 1 + du os = u + 1 by omega] at st
      omega
theorem dec_main {ns : List Nat} (ok : OkM ns) : lenN (dec ns) = ns ∧ ∀ u, u < du ns → hd (dec ns) (u : Int) = if u + 1 = du ns then 1 else 0 := by
  have a := dec_ok ns.reverse
  rw [List.reverse_reverse] at a
  exact a ok
theorem lha_main {ns : List Nat} (ok : OkM ns) {row : List Int} (hr : row.length = du ns) : lenN (lha ns row) = ns ∧ ∀ t, t < du ns → hd (lha ns row) (t : Int) = row.getD t 0 :=
  ⟨(lha_lens ns row).trans (dec_main ok).1, fun _ ht => lha_heard ok (dec_main ok).1 (dec_main ok).2 hr ht⟩
end My

/-! How great the numbers of deceivers are; which rows lengths fit. -/
namespace My
open PySem PySem.Spec PyProof.Rows L2
/-! ### bounds -/
theorem itA_abs {c m : Nat} (hm : m ≤ 64) {B : Nat} : ∀ (n : Nat) {s : Nat → Int}, (∀ u, (s u).natAbs ≤ B) → ∀ u, (itA (stL c m) n s u).natAbs ≤ 64 ^ n * B
  | 0, s, h, u => by
    rw [Nat.pow_zero, Nat.one_mul]
    exact h u
  | n + 1, s, h, u => by
    show (AP (stL c m) (itA (stL c m) n s) u).natAbs ≤ _
    refine Nat.le_trans (stL_abs (itA_abs hm n h) c u m) ?_
    rw [Nat.pow_succ, Nat.mul_comm (64 ^ n) 64, Nat.mul_assoc]
    exact Nat.mul_le_mul_right _ hm
theorem fs_abs {L : Nat} {m : Nat → Nat} (L1 : 1 ≤ L) {B : Nat} : ∀ (ps : List (Nat × Int)) {s : Nat → Int}, (∀ rq ∈ ps, 1 ≤ rq.1 ∧ rq.1 ≤ 64 ∧ m rq.1 ≤ 64) → (∀ u, (s u).natAbs ≤ B) →
    ∀ u, (fs L m ps s u).natAbs ≤ 64 ^ ((ps.map fun rq => rq.2.natAbs).sum) * B
  | [], s, _, h, u => by
    show (s u).natAbs ≤ 64 ^ 0 * B
    rw [Nat.pow_zero, Nat.one_mul]
    exact h u
  | (D, q) :: r, s, hp, h, u => by
    obtain ⟨D1, D64, m64⟩ := hp (D, q) List.mem_cons_self
    have a : ∀ u, (itA (stL D (m D)) q.toNat s u).natAbs ≤ 64 ^ q.toNat * B := itA_abs m64 _ h
    have c64 : D / Nat.gcd D L ≤ 64 := Nat.le_trans (Nat.div_le_self _ _) D64
    have b : ∀ u, (stp L m (D, q) s u).natAbs ≤ 64 ^ (-q).toNat * (64 ^ q.toNat * B) := itA_abs c64 _ a
    have e : 64 ^ (-q).toNat * (64 ^ q.toNat * B) = 64 ^ q.natAbs * B := by
      rw [← Nat.mul_assoc, ← Nat.pow_add, show (-q).toNat + q.toNat = q.natAbs by omega]
    rw [e] at b
    have i := fs_abs L1 r (fun rq hr => hp rq (List.mem_cons_of_mem _ hr)) b u
    rw [List.map_cons, List.sum_cons, Nat.pow_add, Nat.mul_comm (64 ^ _) (64 ^ _), Nat.mul_assoc]
    exact i
theorem sum_abs (f : Nat → Bool) : ((pows f 64).map fun rq => rq.2.natAbs).sum ≤ 4594 := by
  refine Nat.le_trans ?_ (Nat.le_trans (pows_size f 64 (Nat.le_refl _)) WS_all)
  have g : ∀ ps : List (Nat × Int), (∀ rq ∈ ps, 1 ≤ rq.1) → (ps.map fun rq => rq.2.natAbs).sum ≤ (ps.map fun rq => rq.2.natAbs * rq.1).sum := fun ps => by
    induction ps with
    | nil => exact fun _ => Nat.le_refl _
    | cons a r ih =>
      intro h
      rw [List.map_cons, List.map_cons, List.sum_cons, List.sum_cons]
      exact Nat.add_le_add (Nat.le_mul_of_pos_right _ (h a List.mem_cons_self)) (ih fun rq hr => h rq (List.mem_cons_of_mem _ hr))
  exact g _ fun rq hr => by
    have := pows_mem f 64 (Nat.le_refl _) rq hr
    omega
theorem ring_le {ns : List Nat} (ok : ∀ n ∈ ns, 1 ≤ n ∧ n ≤ 64) {e : Nat} (h : dvf ns e = true) : e ≤ 64 := by
  obtain ⟨n, hn, hx⟩ := List.any_eq_true.mp h
  have := ok n hn
  exact Nat.le_trans (Nat.le_of_dvd (by omega) (Nat.dvd_of_mod_eq_zero (of_decide_eq_true hx))) this.2
theorem tab_mem {F : Nat → Int} {n : Nat} {z : Int} (h : z ∈ (List.range n).map F) : ∃ i, i < n ∧ z = F i := by
  obtain ⟨i, hi, rfl⟩ := List.mem_map.mp h
  exact ⟨i, List.mem_range.mp hi, rfl⟩
theorem six4 {k : Nat} (h : k ≤ 4594) : 64 ^ k ≤ 2 ^ 27564 := by
  rw [show (64 : Nat) = 2 ^ 6 from rfl, ← Nat.pow_mul]
  exact Nat.pow_le_pow_right (by decide) (by omega)
theorem lastL_small {os : List Nat} {L : Nat} (ok : OkM (os ++ [L])) : ∀ z ∈ lastL os L, z.natAbs ≤ 2 ^ 27564 := fun z hz => by
  obtain ⟨i, _, rfl⟩ := tab_mem hz
  have L1 := (ok.2 L (by simp)).1
  have L64 := (ok.2 L (by simp)).2
  refine Nat.le_trans (fs_abs (B := 1) L1 (pows (dvf (os ++ [L])) 64) (fun rq hr => ?_) (fun u => by
    unfold imp
    split <;> decide) i) ?_
  · have p := pows_mem (dvf (os ++ [L])) 64 (Nat.le_refl _) rq hr
    have s := sto_ok L1 L64 (D := rq.1) (by omega) (by omega)
    exact ⟨by omega, by omega, by omega⟩
  · rw [Nat.mul_one]
    exact six4 (sum_abs (dvf (os ++ [L])))
theorem getD_small {l : List Int} {B : Nat} (h : ∀ z ∈ l, z.natAbs ≤ B) (i : Nat) : (l.getD i 0).natAbs ≤ B := by
  rw [List.getD_eq_getElem?_getD]
  cases e : l[i]? with
  | none => exact Nat.zero_le _
  | some z => exact h z (List.mem_of_getElem? e)
theorem hAt_small {l : List Int} {B : Nat} (h : ∀ z ∈ l, z.natAbs ≤ B) (t : Int) : (hAt l t).natAbs ≤ B := getD_small h _
theorem dotz_small {xs ys : List Int} {A B : Nat} (hx : ∀ z ∈ xs, z.natAbs ≤ A) (hy : ∀ z ∈ ys, z.natAbs ≤ B) : (dotz xs ys).natAbs ≤ ys.length * (A * B) := by
  rw [dotz_sm]
  refine sm_abs _ fun i _ => ?_
  rw [Int.natAbs_mul]
  exact Nat.mul_le_mul (getD_small hx i) (getD_small hy i)
theorem wl_small (ns : List Nat) : ∀ z ∈ wl ns, z.natAbs ≤ 2 ^ 399 := fun z hz => Nat.le_trans (Nat.le_of_lt (Wl_small (dvf_clo ns) z hz)) (by decide +kernel)
theorem pow_sum3 {a b c : Nat} {x y : Nat} (hx : x ≤ 2 ^ a) (hy : y ≤ 2 ^ b) (h : a + b ≤ c) : x * y ≤ 2 ^ c := by
  refine Nat.le_trans (Nat.mul_le_mul hx hy) ?_
  rw [← Nat.pow_add]
  exact Nat.pow_le_pow_right (by decide) h
theorem facs_small {ns : List Nat} {row : List Int} {b : Nat} (hl : row.length ≤ 512) (h : ∀ z ∈ row, z.natAbs ≤ 2 ^ b) : ∀ z ∈ facs (wl ns) row, z.natAbs ≤ 2 ^ (b + 408) := fun z hz => by
  obtain ⟨i, _, rfl⟩ := tab_mem hz
  refine Nat.le_trans (dotz_small (fun z hz => wl_small ns z (List.mem_of_mem_drop hz)) h) ?_
  exact pow_sum3 (a := 9) (b := b + 399) hl (pow_sum3 (a := 399) (b := b) (Nat.le_refl _) (Nat.le_refl _) (by omega)) (by omega)
theorem mixL_small {l fs : List Int} {a b : Nat} (hl : fs.length ≤ 512) (h : ∀ z ∈ fs, z.natAbs ≤ 2 ^ a) (g : ∀ z ∈ l, z.natAbs ≤ 2 ^ b) : ∀ z ∈ mixL l fs, z.natAbs ≤ 2 ^ (a + b + 9) := fun z hz => by
  obtain ⟨i, _, rfl⟩ := tab_mem hz
  refine Nat.le_trans (sm_abs (B := 2 ^ (a + b)) _ fun k _ => ?_) (pow_sum3 (a := 9) (b := a + b) hl (Nat.le_refl _) (by omega))
  rw [Int.natAbs_mul]
  exact pow_sum3 (getD_small h k) (hAt_small g _) (Nat.le_refl _)
theorem dec_small : ∀ (r : List Nat), OkM r.reverse → ∀ l ∈ decR r, ∀ z ∈ l, z.natAbs ≤ 2 ^ (28000 * r.length)
  | [], _, l, hl, _, _ => by cases hl
  | L :: r, ok, l, hl, z, hz => by
    rw [List.reverse_cons] at ok
    have ok1 := okm_take ok
    have ls := lastL_small ok
    have e : 28000 * (L :: r).length = 28000 * r.length + 28000 := by rw [List.length_cons]; omega
    rcases List.mem_append.mp hl with q | q
    · obtain ⟨l', hl', rfl⟩ := List.mem_map.mp q
      have left : ∀ z ∈ leftL (du (r.reverse ++ [L])) (lastL r.reverse L) (du r.reverse), z.natAbs ≤ 2 ^ 27565 := fun z hz => by
        obtain ⟨i, _, rfl⟩ := tab_mem hz
        have a := hAt_small ls (i : Int)
        have b : (2 : Nat) ^ 27565 = 2 ^ 27564 + 2 ^ 27564 := by rw [Nat.pow_succ]; omega
        have c : 1 ≤ (2 : Nat) ^ 27564 := Nat.two_pow_pos _
        rw [b]
        split <;> omega
      have ll : (leftL (du (r.reverse ++ [L])) (lastL r.reverse L) (du r.reverse)).length ≤ 512 := by
        unfold leftL
        rw [List.length_map, List.length_range]
        have := due_384 ok1
        unfold du
        omega
      refine Nat.le_trans (mixL_small (by rw [facs_len]; exact ll) (facs_small ll left) (dec_small r ok1 l' hl') z hz) ?_
      exact Nat.pow_le_pow_right (by decide) (by omega)
    · rw [List.mem_singleton.mp q] at hz
      exact Nat.le_trans (ls z hz) (Nat.pow_le_pow_right (by decide) (by omega))
theorem dec_small' {ns : List Nat} (ok : OkM ns) : ∀ l ∈ dec ns, ∀ z ∈ l, z.natAbs ≤ 2 ^ 168000 := fun l hl z hz => by
  have a := dec_small ns.reverse (by rw [List.reverse_reverse]; exact ok) l hl z hz
  refine Nat.le_trans a (Nat.pow_le_pow_right (by decide) ?_)
  have := ok.1
  rw [List.length_reverse]
  omega
theorem log_two {z : Int} {b : Nat} (h : z.natAbs ≤ 2 ^ b) : z.natAbs.log2 ≤ b := log_of h
/-! ### which rows lengths fit -/
def gfind (W row : List Int) : Option Nat := (List.range (row.length + 1 - W.length)).find? fun a => decide (dotz W (row.drop a) ≠ 0)
def fst (ns : List Nat) (row : List Int) : List Int := row.take (du ns) ++ List.replicate (du ns - row.length) 0
def gnd (W : List Int) (a : Nat) : List Int := List.replicate a 0 ++ W
def fitD (ns : List Nat) (row : List Int) : PyData :=
  match gfind (wl ns) row with
  | some a => .tuple [.str "none", dInts (gnd (wl ns) a)]
  | none => .tuple [.str "loops", dLoops (lha ns (fst ns row))]
theorem fst_len (ns : List Nat) (row : List Int) : (fst ns row).length = du ns := by
  unfold fst
  rw [List.length_append, List.length_take, List.length_replicate]
  omega
theorem fst_get {ns : List Nat} {row : List Int} {t : Nat} (h : t < row.length) (g : t < du ns) : (fst ns row).getD t 0 = row.getD t 0 := by
  unfold fst
  rw [List.getD_eq_getElem?_getD, List.getElem?_append_left (by rw [List.length_take]; omega), List.getElem?_take_of_lt g, List.getD_eq_getElem?_getD]
theorem dotz_cut (W row : List Int) (a : Nat) (h : a + W.length ≤ row.length) : dotz W (row.drop a) = AP W (fun u => row.getD u 0) a := by
  rw [dotz_sm, AP_sm, List.length_drop]
  obtain ⟨d, hd⟩ : ∃ d, row.length - a = W.length + d := ⟨row.length - a - W.length, by omega⟩
  rw [hd, sm_more, sm_none (n := d) (fun i _ => by rw [getD_out (by omega), Int.zero_mul]), Int.add_zero]
  refine sm_congr _ fun i _ => ?_
  rw [getD_drp]
theorem gfind_none {W row : List Int} (h : gfind W row = none) {a : Nat} (ha : a + W.length ≤ row.length) : AP W (fun u => row.getD u 0) a = 0 := by
  have b := List.find?_eq_none.mp h a (List.mem_range.mpr (by omega))
  rw [← dotz_cut W row a ha]
  exact Classical.byContradiction fun z => b (decide_eq_true z)
theorem gfind_some {W row : List Int} {a : Nat} (h : gfind W row = some a) : a + W.length ≤ row.length ∧ dotz W (row.drop a) ≠ 0 := by
  have b := List.find?_some h
  have c := List.mem_range.mp (List.mem_of_find?_eq_some h)
  exact ⟨by omega, of_decide_eq_true b⟩
/-- two sounds that the weights make 0 of are the same if their first samples are -/
theorem same_on {ns : List Nat} (ok : OkM ns) {f g : Nat → Int} {N : Nat} (h : ∀ t, t < du ns → t < N → f t = g t) (hf : ∀ a, a + (du ns + 1) ≤ N → AP (wl ns) f a = 0) (hg : ∀ a, a + (du ns + 1) ≤ N → AP (wl ns) g a = 0) : ∀ t, t < N → f t = g t := by
  intro t
  induction t using Nat.strongRecOn with
  | _ t it =>
    intro ht
    by_cases q : t < du ns
    · exact h t q ht
    have a := hf (t - du ns) (by omega)
    have b := hg (t - du ns) (by omega)
    rw [AP_sm, wl_len ok] at a b
    have a : sm (du ns) (fun k => (wl ns).getD k 0 * f (t - du ns + k)) + (wl ns).getD (du ns) 0 * f (t - du ns + du ns) = 0 := a
    have b : sm (du ns) (fun k => (wl ns).getD k 0 * g (t - du ns + k)) + (wl ns).getD (du ns) 0 * g (t - du ns + du ns) = 0 := b
    rw [wl_one ok, show t - du ns + du ns = t by omega] at a b
    rw [sm_congr (G := fun k => (wl ns).getD k 0 * g (t - du ns + k)) _ fun k hk => by rw [it (t - du ns + k) (by omega) (by omega)]] at a
    omega
theorem lha_in {ns : List Nat} (ok : OkM ns) (row : List Int) : ∀ l ∈ lha ns row, l.length ∈ ns := fun l hx => by
  have := List.mem_map_of_mem (f := List.length) hx
  have e : (lha ns row).map List.length = ns := (lha_lens ns row).trans (dec_main ok).1
  rw [e] at this
  exact this
theorem fit_true {ns : List Nat} (ok : OkM ns) {row : List Int} (h : gfind (wl ns) row = none) : hrow (lha ns (fst ns row)) 0 row.length = row := by
  have m := (lha_main ok (fst_len ns row)).2
  have s := same_on ok (f := fun u => hd (lha ns (fst ns row)) (u : Int)) (g := fun u => row.getD u 0) (N := row.length) (fun t h1 h2 => by
    rw [m t h1, fst_get h2 h1]) (fun a _ => wl_kills ok (lha_in ok _) a) (fun a ha => gfind_none h (by rw [wl_len ok]; exact ha))
  refine List.ext_getElem? fun i => ?_
  unfold hrow
  by_cases q : i < row.length
  · rw [List.getElem?_map, List.getElem?_range q, List.getElem?_eq_getElem q]
    have := s i q
    rw [List.getD_eq_getElem?_getD, List.getElem?_eq_getElem q] at this
    show some (hd (lha ns (fst ns row)) (0 + (i : Nat))) = _
    rw [Int.zero_add, this]
    rfl
  · rw [List.getElem?_eq_none (by rw [List.length_map, List.length_range]; omega), List.getElem?_eq_none (by omega)]
theorem gnd_ring (q : List Int) (a L : Nat) : gnd (timesR q L) a = timesR (gnd q a) L := by
  unfold gnd
  refine PV_inj (by rw [timesR_len, List.length_append, List.length_append, timesR_len]; omega) fun x _ => ?_
  rw [PV_timesR, PV_app, PV_app, PV_zero, PV_timesR, Int.zero_add, Int.zero_add, Int.mul_assoc]
theorem gnd_len (W : List Int) (a : Nat) : (gnd W a).length = a + W.length := by
  unfold gnd
  rw [List.length_append, List.length_replicate]
theorem gnd_resid {ns : List Nat} (ok : OkM ns) (a : Nat) {L r : Nat} (hL : L ∈ ns) (hr : r < L) : (stepL (gnd (wl ns) a) r L).sum = 0 := by
  obtain ⟨L1, L64⟩ := ok.2 L hL
  obtain ⟨q, hq⟩ := Wl_ring (dvf_clo ns) L1 L64 (List.any_eq_true.mpr ⟨L, hL, decide_eq_true (Nat.mod_self L)⟩)
  unfold wl
  rw [hq, gnd_ring]
  exact resid hr
theorem gnd_dotz (W row : List Int) (a : Nat) : dotz (gnd W a) row = dotz W (row.drop a) := by
  unfold gnd
  induction a generalizing row with
  | zero => rfl
  | succ a ih =>
    cases row with
    | nil =>
      unfold dotz
      rw [List.zipWith_nil_right, List.drop_nil, List.zipWith_nil_right]
    | cons x r =>
      have e : dotz (List.replicate (a + 1) 0 ++ W) (x :: r) = 0 * x + dotz (List.replicate a 0 ++ W) r := by
        unfold dotz
        rw [List.replicate_succ, List.cons_append, List.zipWith_cons_cons, List.sum_cons]
      rw [e, ih, List.drop_succ_cons]
      omega
end My

/-! How great the numbers of deceivers of few and small lengths are: they can be told by repr. -/
namespace My
open PySem PySem.Spec PyProof.Rows L2
def OkF (ns : List Nat) : Prop := ns.length ≤ 4 ∧ ∀ n ∈ ns, 1 ≤ n ∧ n ≤ 24
theorem OkF.m {ns : List Nat} (h : OkF ns) : OkM ns := ⟨by have := h.1; omega, fun n hn => by have := h.2 n hn; omega⟩
/-! ### how often rings are taken -/
/-- by leaving in and out -/
def cc : Nat → List Nat → Nat → Int
  | 0, _, _ => 0
  | _ + 1, [], _ => 0
  | k + 1, L :: ns, D => (if D = L then 1 else 0) + cc k ns D - cc k (ns.map (Nat.gcd L)) D
theorem cc_zero : ∀ (k : Nat) (ns : List Nat), (∀ n ∈ ns, 1 ≤ n) → cc k ns 0 = 0
  | 0, _, _ => rfl
  | _ + 1, [], _ => rfl
  | k + 1, L :: ns, h => by
    have L1 := h L List.mem_cons_self
    unfold cc
    rw [if_neg (by omega), cc_zero k ns (fun n hn => h n (List.mem_cons_of_mem _ hn)), cc_zero k _ fun n hn => ?_]
    · rfl
    · obtain ⟨u, _, rfl⟩ := List.mem_map.mp hn
      exact Nat.gcd_pos_of_pos_left _ L1
def mul0 (e : Nat) (F : Nat → Int) (m : Nat) : Int := if m % e = 0 then F m else 0
theorem gcd_mod {L n e : Nat} : Nat.gcd L n % e = 0 ↔ L % e = 0 ∧ n % e = 0 := by
  rw [← Nat.dvd_iff_mod_eq_zero, ← Nat.dvd_iff_mod_eq_zero, ← Nat.dvd_iff_mod_eq_zero]
  exact Nat.dvd_gcd_iff
theorem dvf_gcd (L : Nat) (e : Nat) : ∀ ns : List Nat, dvf (ns.map (Nat.gcd L)) e = (decide (L % e = 0) && dvf ns e)
  | [] => by
    show false = (_ && false)
    rw [Bool.and_false]
  | n :: ns => by
    show (decide (Nat.gcd L n % e = 0) || dvf (ns.map (Nat.gcd L)) e) = (_ && (decide (n % e = 0) || dvf ns e))
    rw [dvf_gcd L e ns]
    by_cases a : L % e = 0
    · by_cases b : n % e = 0
      · rw [decide_eq_true (gcd_mod.mpr ⟨a, b⟩), decide_eq_true a, decide_eq_true b]
        rfl
      · rw [decide_eq_false (fun z => b (gcd_mod.mp z).2), decide_eq_false b, decide_eq_true a]
        rfl
    · rw [decide_eq_false (fun z => a (gcd_mod.mp z).1), decide_eq_false a]
      rfl
theorem cc_sum {e : Nat} (e1 : 1 ≤ e) : ∀ (k : Nat) (ns : List Nat), ns.length ≤ k → (∀ n ∈ ns, 1 ≤ n ∧ n ≤ 64) → sm 65 (mul0 e (cc k ns)) = if dvf ns e then 1 else 0
  | 0, [], _, _ => by
    rw [sm_none fun i _ => by unfold mul0 cc; split <;> rfl]
    rfl
  | 0, _ :: _, h, _ => by
    rw [List.length_cons] at h
    omega
  | _ + 1, [], _, _ => by
    rw [sm_none fun i _ => by unfold mul0 cc; split <;> rfl]
    rfl
  | k + 1, L :: ns, h, ok => by
    rw [List.length_cons] at h
    obtain ⟨L1, L64⟩ := ok L List.mem_cons_self
    have a := cc_sum e1 k ns (by omega) fun n hn => ok n (List.mem_cons_of_mem _ hn)
    have b := cc_sum e1 k (ns.map (Nat.gcd L)) (by rw [List.length_map]; omega) fun n hn => by
      obtain ⟨u, _, rfl⟩ := List.mem_map.mp hn
      exact ⟨Nat.gcd_pos_of_pos_left _ L1, Nat.le_trans (Nat.le_of_dvd L1 (Nat.gcd_dvd_left L u)) L64⟩
    have s : sm 65 (mul0 e (cc (k + 1) (L :: ns))) = sm 65 (mul0 e fun D => if D = L then 1 else 0) + (sm 65 (mul0 e (cc k ns)) + sm 65 (fun m => (-1) * mul0 e (cc k (ns.map (Nat.gcd L))) m)) := by
      rw [← sm_add, ← sm_add]
      refine sm_congr _ fun m _ => ?_
      unfold mul0
      have q : cc (k + 1) (L :: ns) m = (if m = L then 1 else 0) + cc k ns m - cc k (ns.map (Nat.gcd L)) m := rfl
      rw [q]
      show _ = (if m % e = 0 then (if m = L then (1 : Int) else 0) else 0) + _
      generalize (if m = L then (1 : Int) else 0) = x
      split <;> omega
    have one : sm 65 (mul0 e fun D => if D = L then 1 else 0) = if L % e = 0 then 1 else 0 := by
      rw [sm_one (k := L) (by omega) fun i _ ne => by
        show (if i % e = 0 then (if i = L then (1 : Int) else 0) else 0) = 0
        rw [if_neg ne]
        split <;> rfl]
      show (if L % e = 0 then (if L = L then (1 : Int) else 0) else 0) = _
      rw [show (if L = L then (1 : Int) else 0) = 1 from if_pos rfl]
    rw [s, sm_mul, a, b, one, dvf_gcd]
    show _ = if (decide (L % e = 0) || dvf ns e) = true then 1 else 0
    by_cases q : L % e = 0
    · rw [if_pos q, decide_eq_true q]
      cases dvf ns e <;> rfl
    · rw [if_neg q, decide_eq_false q]
      cases dvf ns e <;> rfl
theorem sm_le {F G : Nat → Int} : ∀ n, (∀ i, i < n → F i ≤ G i) → sm n F ≤ sm n G
  | 0, _ => Int.le_refl _
  | n + 1, h => by
    have a := sm_le n fun i hi => h i (by omega)
    have b := h n (by omega)
    show sm n F + F n ≤ sm n G + G n
    omega
theorem cc_abs : ∀ (k : Nat) (ns : List Nat), ns.length ≤ k → (∀ n ∈ ns, 1 ≤ n ∧ n ≤ 64) → sm 65 (fun m => ((cc k ns m).natAbs : Int)) + 1 ≤ 2 ^ k
  | 0, ns, h, _ => by
    have z : sm 65 (fun m => ((cc 0 ns m).natAbs : Int)) = 0 := sm_none fun i _ => rfl
    rw [z]
    decide
  | k + 1, [], _, _ => by
    have z : sm 65 (fun m => ((cc (k + 1) [] m).natAbs : Int)) = 0 := sm_none fun i _ => rfl
    rw [z]
    have : 1 ≤ 2 ^ (k + 1) := Nat.one_le_two_pow
    have e : ((2 ^ (k + 1) : Nat) : Int) = (2 : Int) ^ (k + 1) := by rw [Int.natCast_pow]; rfl
    omega
  | k + 1, L :: ns, h, ok => by
    rw [List.length_cons] at h
    obtain ⟨L1, L64⟩ := ok L List.mem_cons_self
    have a := cc_abs k ns (by omega) fun n hn => ok n (List.mem_cons_of_mem _ hn)
    have b := cc_abs k (ns.map (Nat.gcd L)) (by rw [List.length_map]; omega) fun n hn => by
      obtain ⟨u, _, rfl⟩ := List.mem_map.mp hn
      exact ⟨Nat.gcd_pos_of_pos_left _ L1, Nat.le_trans (Nat.le_of_dvd L1 (Nat.gcd_dvd_left L u)) L64⟩
    have s : sm 65 (fun m => ((cc (k + 1) (L :: ns) m).natAbs : Int)) ≤ sm 65 (fun m => (if m = L then (1 : Int) else 0) + ((((cc k ns m).natAbs : Nat) : Int) + (((cc k (ns.map (Nat.gcd L)) m).natAbs : Nat) : Int))) := sm_le _ fun m _ => by
      show (((if m = L then 1 else 0) + cc k ns m - cc k (ns.map (Nat.gcd L)) m).natAbs : Int) ≤ _
      split <;> omega
    rw [sm_add, sm_add, sm_one (k := L) (by omega) fun i _ ne => if_neg ne, if_pos rfl] at s
    have e : (2 : Int) ^ (k + 1) = 2 ^ k * 2 := Int.pow_succ ..
    omega
theorem pows_cc {k : Nat} {ns : List Nat} (hk : ns.length ≤ k) (ok : ∀ n ∈ ns, 1 ≤ n ∧ n ≤ 64) : ∀ i, i ≤ 64 → (∀ e, 1 ≤ e → SS (pows (dvf ns) i) e = sm i fun j => mul0 e (cc k ns) (64 - j)) ∧
    ((((pows (dvf ns) i).map fun rq => rq.2.natAbs).sum : Nat) : Int) ≤ sm i fun j => ((cc k ns (64 - j)).natAbs : Int)
  | 0, _ => ⟨fun _ _ => rfl, Int.le_refl _⟩
  | i + 1, hi => by
    obtain ⟨ih1, ih2⟩ := pows_cc hk ok i (by omega)
    have r1 : 1 ≤ 64 - i := by omega
    have full := cc_sum r1 k ns hk ok
    have cut : sm 65 (mul0 (64 - i) (cc k ns)) = cc k ns (64 - i) + sm i fun j => mul0 (64 - i) (cc k ns) (64 - j) := by
      have a := sm_more (mul0 (64 - i) (cc k ns)) (64 - i) (1 + i)
      rw [show 64 - i + (1 + i) = 65 by omega, sm_more _ 1 i, sm_none (n := 64 - i) fun m hm => ?_] at a
      · rw [a, sm_back (fun t => mul0 (64 - i) (cc k ns) (64 - i + (1 + t))) i]
        have b : sm 1 (fun t => mul0 (64 - i) (cc k ns) (64 - i + t)) = cc k ns (64 - i) := by
          show 0 + mul0 (64 - i) (cc k ns) (64 - i + 0) = _
          unfold mul0
          rw [Nat.add_zero, Nat.mod_self, if_pos rfl, Int.zero_add]
        rw [b, Int.zero_add]
        congr 1
        refine sm_congr _ fun j hj => ?_
        rw [show 64 - i + (1 + (i - 1 - j)) = 64 - j by omega]
      · unfold mul0
        split
        · rename_i z
          rw [Nat.mod_eq_of_lt hm] at z
          rw [z]
          exact cc_zero k ns fun n hn => (ok n hn).1
        · rfl
    rw [cut, ← ih1 _ r1] at full
    unfold pows
    by_cases f : dvf ns (64 - i) = true
    · rw [if_pos f] at full ⊢
      have q : 1 - SS (pows (dvf ns) i) (64 - i) = cc k ns (64 - i) := by omega
      rw [q]
      refine ⟨fun e e1 => ?_, ?_⟩
      · rw [SS_app, SS_one, ih1 e e1]
        rfl
      · rw [List.map_append, List.sum_append]
        show ((_ + ((cc k ns (64 - i)).natAbs + 0) : Nat) : Int) ≤ sm i _ + ((cc k ns (64 - i)).natAbs : Int)
        omega
    · rw [if_neg f] at full ⊢
      have z : SS (pows (dvf ns) i) (64 - i) = 0 := SS_none fun rq hrq z => f (by
        have m := pows_mem (dvf ns) i (by omega) rq hrq
        exact dvf_clo ns rq.1 _ r1 (Nat.dvd_of_mod_eq_zero z) m.1)
      have q : cc k ns (64 - i) = 0 := by omega
      refine ⟨fun e e1 => ?_, ?_⟩
      · rw [ih1 e e1]
        show _ = sm i _ + mul0 e (cc k ns) (64 - i)
        unfold mul0
        rw [q]
        split <;> omega
      · show _ ≤ sm i _ + ((cc k ns (64 - i)).natAbs : Int)
        omega
theorem sum_few {ns : List Nat} {k : Nat} (hk : ns.length ≤ k) (ok : ∀ n ∈ ns, 1 ≤ n ∧ n ≤ 64) : (((pows (dvf ns) 64).map fun rq => rq.2.natAbs).sum) < 2 ^ k := by
  have a := (pows_cc hk ok 64 (Nat.le_refl _)).2
  have b := cc_abs k ns hk ok
  have c := sm_more (fun m => ((cc k ns m).natAbs : Int)) 1 64
  have d : sm 64 (fun j => ((cc k ns (64 - j)).natAbs : Int)) = sm 64 fun i => ((cc k ns (1 + i)).natAbs : Int) := by
    rw [sm_back]
    exact sm_congr _ fun j hj => by
      show ((cc k ns (64 - (64 - 1 - j))).natAbs : Int) = _
      rw [show 64 - (64 - 1 - j) = 1 + j by omega]
  have e : sm 1 (fun m => ((cc k ns m).natAbs : Int)) = 0 + ((cc k ns 0).natAbs : Int) := rfl
  have g : ((2 ^ k : Nat) : Int) = (2 : Int) ^ k := by rw [Int.natCast_pow]; rfl
  have h : sm 65 (fun m => ((cc k ns m).natAbs : Int)) = sm (1 + 64) (fun m => ((cc k ns m).natAbs : Int)) := rfl
  rw [d] at a
  omega
/-! ### bounds -/
theorem two6 {k : Nat} (h : k ≤ 15) : 64 ^ k ≤ 2 ^ 90 := by
  rw [show (64 : Nat) = 2 ^ 6 from rfl, ← Nat.pow_mul]
  exact Nat.pow_le_pow_right (by decide) (by omega)
theorem lastL_few {os : List Nat} {L : Nat} (ok : OkF (os ++ [L])) : ∀ z ∈ lastL os L, z.natAbs ≤ 2 ^ 90 := fun z hz => by
  obtain ⟨i, _, rfl⟩ := tab_mem hz
  have L1 := (ok.m.2 L (by simp)).1
  have L64 := (ok.m.2 L (by simp)).2
  refine Nat.le_trans (fs_abs (B := 1) L1 (pows (dvf (os ++ [L])) 64) (fun rq hr => ?_) (fun u => by
    unfold imp
    split <;> decide) i) ?_
  · have p := pows_mem (dvf (os ++ [L])) 64 (Nat.le_refl _) rq hr
    have s := sto_ok L1 L64 (D := rq.1) (by omega) (by omega)
    exact ⟨by omega, by omega, by omega⟩
  · rw [Nat.mul_one]
    have := sum_few (k := 4) ok.1 ok.m.2
    exact two6 (by omega)
theorem RL_n24 {f : Nat → Bool} (h : ∀ e, f e = true → e ≤ 24) : ∀ n, n ≤ 64 → n1 (RL (fin f) n) ≤ 64 ^ (min n 24)
  | 0, _ => by
    show n1 [1] ≤ 64 ^ 0
    decide
  | n + 1, hn => by
    have ih := RL_n24 h n (by omega)
    show n1 (powP (RL (fin f) n) (cyc (n + 1)) (fin f (n + 1))) ≤ _
    have up : n1 (RL (fin f) n) ≤ 64 ^ (min (n + 1) 24) := Nat.le_trans ih (Nat.pow_le_pow_right (by decide) (by omega))
    unfold fin
    split
    · rename_i hf
      have := h _ hf
      show n1 (mulP (RL _ n) (cyc (n + 1))) ≤ _
      refine Nat.le_trans (n1_mulP _ _) ?_
      rw [show min (n + 1) 24 = min n 24 + 1 by omega, Nat.pow_succ]
      exact Nat.mul_le_mul ih (cyc_n1 (n + 1) (by omega))
    · exact up
theorem wl_few {ns : List Nat} (h : ∀ n ∈ ns, 1 ≤ n ∧ n ≤ 24) : ∀ z ∈ wl ns, z.natAbs ≤ 2 ^ 144 := fun z hz => by
  unfold wl at hz
  rw [Wl_RL (dvf_clo ns)] at hz
  refine Nat.le_trans (n1_mem hz) (Nat.le_trans (RL_n24 (fun e he => ?_) 64 (Nat.le_refl _)) (by decide +kernel))
  obtain ⟨n, hn, hx⟩ := List.any_eq_true.mp he
  have := h n hn
  exact Nat.le_trans (Nat.le_of_dvd (by omega) (Nat.dvd_of_mod_eq_zero (of_decide_eq_true hx))) this.2
theorem facs_few {ns : List Nat} (h : ∀ n ∈ ns, 1 ≤ n ∧ n ≤ 24) {row : List Int} {b : Nat} (hl : row.length ≤ 512) (hr : ∀ z ∈ row, z.natAbs ≤ 2 ^ b) : ∀ z ∈ facs (wl ns) row, z.natAbs ≤ 2 ^ (b + 153) := fun z hz => by
  obtain ⟨i, _, rfl⟩ := tab_mem hz
  refine Nat.le_trans (dotz_small (fun z hz => wl_few h z (List.mem_of_mem_drop hz)) hr) ?_
  exact pow_sum3 (a := 9) (b := b + 144) hl (pow_sum3 (a := 144) (b := b) (Nat.le_refl _) (Nat.le_refl _) (by omega)) (by omega)
theorem okf_take {os : List Nat} {L : Nat} (ok : OkF (os ++ [L])) : OkF os := ⟨by have := ok.1; rw [List.length_append] at this; omega, fun n hn => ok.2 n (List.mem_append_left _ hn)⟩
theorem decR_few : ∀ (r : List Nat), OkF r.reverse → ∀ l ∈ decR r, ∀ z ∈ l, z.natAbs ≤ 2 ^ (260 * r.length)
  | [], _, l, hl, _, _ => by cases hl
  | L :: r, ok, l, hl, z, hz => by
    rw [List.reverse_cons] at ok
    have ok1 := okf_take ok
    have ls := lastL_few ok
    have e : 260 * (L :: r).length = 260 * r.length + 260 := by rw [List.length_cons]; omega
    rcases List.mem_append.mp hl with q | q
    · obtain ⟨l', hl', rfl⟩ := List.mem_map.mp q
      have left : ∀ z ∈ leftL (du (r.reverse ++ [L])) (lastL r.reverse L) (du r.reverse), z.natAbs ≤ 2 ^ 91 := fun z hz => by
        obtain ⟨i, _, rfl⟩ := tab_mem hz
        have a := hAt_small ls (i : Int)
        have b : (2 : Nat) ^ 91 = 2 ^ 90 + 2 ^ 90 := by decide +kernel
        have c : 1 ≤ (2 : Nat) ^ 90 := Nat.two_pow_pos _
        rw [b]
        split <;> omega
      have ll : (leftL (du (r.reverse ++ [L])) (lastL r.reverse L) (du r.reverse)).length ≤ 512 := by
        unfold leftL
        rw [List.length_map, List.length_range]
        have := due_384 ok1.m
        unfold du
        omega
      refine Nat.le_trans (mixL_small (by rw [facs_len]; exact ll) (facs_few ok1.2 ll left) (decR_few r ok1 l' hl') z hz) ?_
      exact Nat.pow_le_pow_right (by decide) (by omega)
    · rw [List.mem_singleton.mp q] at hz
      exact Nat.le_trans (ls z hz) (Nat.pow_le_pow_right (by decide) (by omega))
theorem dec_few {ns : List Nat} (ok : OkF ns) : ∀ l ∈ dec ns, ∀ z ∈ l, z.natAbs ≤ 2 ^ 1040 := fun l hl z hz => by
  have a := decR_few ns.reverse (by rw [List.reverse_reverse]; exact ok) l hl z hz
  refine Nat.le_trans a (Nat.pow_le_pow_right (by decide) ?_)
  have := ok.1
  rw [List.length_reverse]
  omega
theorem lha_few {ns : List Nat} (ok : OkF ns) {row : List Int} {b : Nat} (hl : row.length ≤ 512) (h : ∀ z ∈ row, z.natAbs ≤ 2 ^ b) : ∀ l ∈ lha ns row, ∀ z ∈ l, z.natAbs ≤ 2 ^ (b + 1202) := fun l hl' z hz => by
  obtain ⟨l', hl2, rfl⟩ := List.mem_map.mp hl'
  refine Nat.le_trans (mixL_small (by rw [facs_len]; exact hl) (facs_few ok.2 hl h) (dec_few ok l' hl2) z hz) ?_
  exact Nat.pow_le_pow_right (by decide) (by omega)
theorem pow_digits {z : Int} {b : Nat} (h : z.natAbs ≤ 2 ^ b) (hb : b ≤ 1360) : z.natAbs < 10 ^ 420 :=
  Nat.lt_of_le_of_lt h (Nat.lt_of_le_of_lt (Nat.pow_le_pow_right (by decide) hb) (by decide +kernel))
/-- the span is at most the sum of the lengths -/
theorem reds_sum : ∀ ns : List Nat, (reds (NN ns)).length = ns.sum
  | [] => rfl
  | n :: ns => by
    have ih := reds_sum ns
    show (reds1 ((n : Nat) : Int).toNat ((n : Nat) : Int).toNat ++ reds (NN ns)).length = (n :: ns).sum
    rw [List.length_append, reds1_len, ih, List.sum_cons]
    rfl
theorem du_sum (ns : List Nat) : du ns ≤ ns.sum := by
  have a := fset_le (reds (NN ns))
  rw [reds_sum] at a
  exact a
theorem sumL_le {b : Nat} : ∀ {ns : List Nat}, (∀ n ∈ ns, n ≤ b) → ns.sum ≤ b * ns.length
  | [], _ => Nat.zero_le _
  | n :: ns, h => by
    have ih := sumL_le fun n hn => h n (List.mem_cons_of_mem _ hn)
    have := h n List.mem_cons_self
    rw [List.sum_cons, List.length_cons, Nat.mul_succ]
    omega
theorem du_96 {ns : List Nat} (ok : OkF ns) : du ns ≤ 96 := by
  have a := du_sum ns
  have b := sumL_le (b := 24) fun n hn => (ok.2 n hn).2
  have := ok.1
  omega
/-! ### which rows fit -/
theorem gfind_at {W row : List Int} {i : Nat} (h0 : ∀ a, a < i → dotz W (row.drop a) = 0) (hi : i < row.length + 1 - W.length) (h : dotz W (row.drop i) ≠ 0) : gfind W row = some i := by
  unfold gfind
  rw [List.find?_range_eq_some]
  refine ⟨decide_eq_true h, List.mem_range.mpr hi, fun j hj => ?_⟩
  rw [decide_eq_false fun z => z (h0 j hj)]
  rfl
theorem gfind_no {W row : List Int} (h0 : ∀ a, a < row.length + 1 - W.length → dotz W (row.drop a) = 0) : gfind W row = none := by
  unfold gfind
  rw [List.find?_eq_none]
  intro a ha z
  exact of_decide_eq_true z (h0 a (List.mem_range.mp ha))
theorem gfind_before {W row : List Int} {i : Nat} (h : gfind W row = some i) : ∀ a, a < i → dotz W (row.drop a) = 0 := by
  unfold gfind at h
  rw [List.find?_range_eq_some] at h
  intro a ha
  have b := h.2.2 a ha
  exact Classical.byContradiction fun z => by
    rw [decide_eq_true z] at b
    cases b
/-- a row that is too short to be none -/
theorem gfind_short {ns : List Nat} (ok : OkM ns) {row : List Int} (h : row.length ≤ du ns) : gfind (wl ns) row = none := gfind_no fun a ha => by
  rw [wl_len ok] at ha
  omega
theorem gfind_zero {ns : List Nat} (ok : OkM ns) {row : List Int} (h : ∀ a, a + (du ns + 1) ≤ row.length → AP (wl ns) (fun u => row.getD u 0) a = 0) : gfind (wl ns) row = none := gfind_no fun a ha => by
  rw [wl_len ok] at ha
  rw [dotz_cut _ _ _ (by rw [wl_len ok]; omega)]
  exact h a (by omega)
theorem gfind_grw {ns : List Nat} (ok : OkM ns) {xs : List Int} (hl : xs.length = dueN (NN ns)) (k : Nat) : gfind (wl ns) (grw ns xs k) = none := gfind_zero ok fun a ha => by
  have hl' : xs.length = du ns := hl
  rw [grw_len] at ha
  have b := grw_zero ok hl (many := k) (i := a) (by omega)
  have c := AP_dotf (fun u => (grw ns xs k).getD u 0) a (wl ns) 0
  rw [Nat.add_zero] at c
  rw [← c]
  exact b
theorem AP_change {ns : List Nat} (ok : OkM ns) {f g : Nat → Int} {a : Nat} (h : ∀ u, u < du ns → f (a + u) = g (a + u)) : AP (wl ns) g a = AP (wl ns) f a + (g (a + du ns) - f (a + du ns)) := by
  rw [AP_sm, AP_sm, wl_len ok]
  show sm (du ns) (fun k => (wl ns).getD k 0 * g (a + k)) + (wl ns).getD (du ns) 0 * g (a + du ns) = sm (du ns) (fun k => (wl ns).getD k 0 * f (a + k)) + (wl ns).getD (du ns) 0 * f (a + du ns) + _
  rw [wl_one ok, sm_congr (G := fun k => (wl ns).getD k 0 * f (a + k)) _ fun k hk => by rw [h k hk]]
  omega
/-- the last sample otherwise -/
theorem gfind_bent {ns : List Nat} (ok : OkM ns) {ys : List Int} {y d : Int} (hl : du ns ≤ ys.length) (h : gfind (wl ns) (ys ++ [y]) = none) (hd : d ≠ 0) : gfind (wl ns) (ys ++ [y + d]) = some (ys.length - du ns) := by
  have ll : (ys ++ [y]).length = ys.length + 1 := by rw [List.length_append]; rfl
  have ll2 : (ys ++ [y + d]).length = ys.length + 1 := by rw [List.length_append]; rfl
  have same : ∀ u, u < ys.length → (ys ++ [y]).getD u 0 = (ys ++ [y + d]).getD u 0 := fun u hu => by
    rw [List.getD_eq_getElem?_getD, List.getD_eq_getElem?_getD, List.getElem?_append_left hu, List.getElem?_append_left hu]
  have last : ∀ z, (ys ++ [z]).getD ys.length 0 = z := fun z => by
    rw [List.getD_eq_getElem?_getD, List.getElem?_append_right (Nat.le_refl _), Nat.sub_self]
    rfl
  have zero : ∀ a, a + (du ns + 1) ≤ ys.length + 1 → AP (wl ns) (fun u => (ys ++ [y]).getD u 0) a = 0 := fun a ha => gfind_none h (by rw [wl_len ok, ll]; omega)
  refine gfind_at (fun a ha => ?_) (by rw [ll2, wl_len ok]; omega) ?_
  · rw [dotz_cut _ _ _ (by rw [wl_len ok, ll2]; omega), AP_change ok (f := fun u => (ys ++ [y]).getD u 0) (fun u hu => same _ (by omega)), zero a (by omega), same (a + du ns) (by omega)]
    omega
  · rw [dotz_cut _ _ _ (by rw [wl_len ok, ll2]; omega), AP_change ok (f := fun u => (ys ++ [y]).getD u 0) (fun u hu => same _ (by omega)), zero _ (by omega), show ys.length - du ns + du ns = ys.length by omega]
    show 0 + ((ys ++ [y + d]).getD ys.length 0 - (ys ++ [y]).getD ys.length 0) ≠ 0
    rw [last, last]
    omega
/-- what is heard of loops fits -/
theorem gfind_heard {ns : List Nat} (ok : OkM ns) {ls : List (List Int)} (h : ∀ l ∈ ls, l.length ∈ ns) (s n : Nat) : gfind (wl ns) (hrow ls ((s : Nat) : Int) n) = none := gfind_zero ok fun a ha => by
  rw [hrow_len] at ha
  have b := wl_kills ok h (s + a)
  rw [AP_sm] at b ⊢
  rw [wl_len ok] at b ⊢
  refine Eq.trans (sm_congr (G := fun k => (wl ns).getD k 0 * hd ls ((s + a + k : Nat) : Int)) _ fun k hk => ?_) b
  have e : (hrow ls ((s : Nat) : Int) n).getD (a + k) 0 = hd ls ((s + a + k : Nat) : Int) := by
    unfold hrow
    rw [getD_tab (by omega), ← Int.natCast_add, Nat.add_assoc]
  show _ * (hrow ls ((s : Nat) : Int) n).getD (a + k) 0 = _
  rw [e]
/-- what is ahead of the last one of a ground fits -/
theorem gfind_ahead {ns : List Nat} (ok : OkM ns) {row : List Int} {a : Nat} (h : gfind (wl ns) row = some a) : gfind (wl ns) (row.take (a + du ns)) = none := gfind_zero ok fun b hb => by
  rw [List.length_take] at hb
  have z := gfind_before h b (by omega)
  rw [dotz_cut _ _ _ (by rw [wl_len ok]; omega), AP_sm, wl_len ok] at z
  rw [AP_sm, wl_len ok]
  refine Eq.trans (sm_congr (G := fun k => (wl ns).getD k 0 * row.getD (b + k) 0) _ fun k hk => ?_) z
  show _ * (row.take (a + du ns)).getD (b + k) 0 = _ * row.getD (b + k) 0
  congr 1
  rw [List.getD_eq_getElem?_getD, List.getD_eq_getElem?_getD, List.getElem?_take_of_lt (by omega)]
end My

/-! A list comprehension of two clauses, by what holds behind each turn of them. -/
namespace L2
open PySem PySem.Spec PyProof.Rows
section
variable {J J1 : It} {n n1 : Nat} {G G1 : Hp → Prop} {Y Y1 : Nat → Hp → V → Hp → Prop} {g g1 : TG} {tt tt1 : TT} {wi1 : TI} {te : TE} {vs vs1 : List Nat} {D : Addr}
/-- the inner clause -/
theorem lc2_in (w : Walk J1 n1 G1 Y1) {σ2 : St} {H4 : Hp} {Nx : Hp → Prop} (Pv : Nat → Hp → Prop) (h0 : Pv 0 H4) (hG : ∀ j H, j ≤ n1 → Pv j H → G1 H)
    (hs : ∀ j x H H', j < n1 → Pv j H → Y1 j H x H' → g1 x (wipe σ2 vs1) H' fun σ3 H5 => wipe σ3 vs1 = wipe σ2 vs1 ∧ tt1 σ3 H5 fun b H6 =>
      if b = true then te σ3 H6 fun y H7 => ∃ acc, H7 D = some (.lst acc) ∧ acc.length < sizeLine ∧ Pv (j + 1) (upd H7 D (.lst (acc ++ [y]))) else Pv (j + 1) H6) (hd : ∀ H, Pv n1 H → Nx H) :
    ∃ W1 : Nat → Nat → Hp → Prop, (∃ m, W1 0 m H4) ∧ ∀ j k H, W1 j k H →
      (J1.stop j H ∧ Nx H) ∨ (J1.go j H ∧ ∃ Nx1 : Hp → Prop, (∀ H', Nx1 H' → ∃ k', k' < k ∧ W1 (j + 1) k' H') ∧ ∀ x H', J1.yld j H x H' → g1 x (wipe σ2 vs1) H' fun σ3 H5 => wipe σ3 vs1 = wipe σ2 vs1 ∧ tt1 σ3 H5 fun b H6 =>
        if b = true then te σ3 H6 fun y H7 => ∃ acc, H7 D = some (.lst acc) ∧ acc.length < sizeLine ∧ Nx1 (upd H7 D (.lst (acc ++ [y]))) else Nx1 H6) := by
  refine ⟨fun i m H => m = n1 - i ∧ i ≤ n1 ∧ Pv i H, ⟨n1, by simp, Nat.zero_le _, h0⟩, ?_⟩
  rintro i m H ⟨rfl, hi, p⟩
  have q := hG i H hi p
  by_cases hlt : i < n1
  · refine .inr ⟨w.goes i H hlt q, Pv (i + 1), fun H' p' => ⟨n1 - (i + 1), by omega, rfl, hlt, p'⟩, fun x H' y => hs i x H H' hlt p (w.yields i H x H' hlt q y)⟩
  · have e : i = n1 := by omega
    subst e
    exact .inl ⟨w.stops H q, hd H p⟩
/-- the outer clause -/
theorem lc2_out (w : Walk J n G Y) {σ : St} {H1 : Hp} {Qd : Hp → Prop} (Pv : Nat → Hp → Prop) (h0 : Pv 0 (upd H1 D (.lst []))) (hG : ∀ i H, i ≤ n → Pv i H → G H)
    (hs : ∀ i x H H', i < n → Pv i H → Y i H x H' → g x (wipe σ vs) H' fun σ2 H2 => wipe σ2 vs = wipe σ vs ∧ tt σ2 H2 fun b H3 =>
      if b = true then wi1 σ2 H3 fun J1 H4 => ∃ W1 : Nat → Nat → Hp → Prop, (∃ m, W1 0 m H4) ∧ ∀ j k H, W1 j k H →
        (J1.stop j H ∧ Pv (i + 1) H) ∨ (J1.go j H ∧ ∃ Nx1 : Hp → Prop, (∀ H', Nx1 H' → ∃ k', k' < k ∧ W1 (j + 1) k' H') ∧ ∀ x H', J1.yld j H x H' → g1 x (wipe σ2 vs1) H' fun σ3 H5 => wipe σ3 vs1 = wipe σ2 vs1 ∧ tt1 σ3 H5 fun b H6 =>
          if b = true then te σ3 H6 fun y H7 => ∃ acc, H7 D = some (.lst acc) ∧ acc.length < sizeLine ∧ Nx1 (upd H7 D (.lst (acc ++ [y]))) else Nx1 H6)
      else Pv (i + 1) H3) (hd : ∀ H, Pv n H → Qd H) :
    ∃ W : Nat → Nat → Hp → Prop, (∃ m, W 0 m (upd H1 D (.lst []))) ∧ ∀ i m H, W i m H →
      (J.stop i H ∧ Qd H) ∨ (J.go i H ∧ ∃ Nx : Hp → Prop, (∀ H', Nx H' → ∃ m', m' < m ∧ W (i + 1) m' H') ∧ ∀ x H', J.yld i H x H' → g x (wipe σ vs) H' fun σ2 H2 => wipe σ2 vs = wipe σ vs ∧ tt σ2 H2 fun b H3 =>
        if b = true then wi1 σ2 H3 fun J1 H4 => ∃ W1 : Nat → Nat → Hp → Prop, (∃ m, W1 0 m H4) ∧ ∀ j k H, W1 j k H →
          (J1.stop j H ∧ Nx H) ∨ (J1.go j H ∧ ∃ Nx1 : Hp → Prop, (∀ H', Nx1 H' → ∃ k', k' < k ∧ W1 (j + 1) k' H') ∧ ∀ x H', J1.yld j H x H' → g1 x (wipe σ2 vs1) H' fun σ3 H5 => wipe σ3 vs1 = wipe σ2 vs1 ∧ tt1 σ3 H5 fun b H6 =>
            if b = true then te σ3 H6 fun y H7 => ∃ acc, H7 D = some (.lst acc) ∧ acc.length < sizeLine ∧ Nx1 (upd H7 D (.lst (acc ++ [y]))) else Nx1 H6)
        else Nx H3) := by
  refine ⟨fun i m H => m = n - i ∧ i ≤ n ∧ Pv i H, ⟨n, by simp, Nat.zero_le _, h0⟩, ?_⟩
  rintro i m H ⟨rfl, hi, p⟩
  have q := hG i H hi p
  by_cases hlt : i < n
  · refine .inr ⟨w.goes i H hlt q, Pv (i + 1), fun H' p' => ⟨n - (i + 1), by omega, rfl, hlt, p'⟩, fun x H' y => hs i x H H' hlt p (w.yields i H x H' hlt q y)⟩
  · have e : i = n := by omega
    subst e
    exact .inl ⟨w.stops H q, hd H p⟩
end
end L2

/-! A call whose arguments are all passed by names. -/
namespace L2
open PySem PySem.Spec PyProof.Rows
section
variable {X : Cx} {CX : CXT} {k : Nat} {f : Addr} {fd : FuncData} {ps ks : List Str} {sp : Sp} {E : XK} {x : Str} {p pos : Pos} {kws : List Keyword} {tk : TA} {g : List Value → List Value → List Value} {gV : List V → List V → List V}
theorem pe_callK0 (F : FnOk X.prog X.w X.K X.mg X.base CX k f fd ps sp) (hr : Room k X.A) (hg : Gl X x) (hm : X.mg x = some (.ref f)) (hk : PySem.W.keepIn X.K (.ref f) = true) (hb : KBn X.K fd ps 0 ks g gV) (hx : Passes CX X E) (hkw : PK X kws tk)
    (hall : (backToKw pos (keywordEach kws X.env)).all (·.1.isSome) = true := by rfl) (hks : (backToKw pos (keywordEach kws X.env)).filterMap (·.1) = ks := by rfl) (hdb : (x == ("__debug__" : Str)) = false := by decide)
    (hpl : ((backTo pos (starEach [] X.env)).any (·.1) || (backToKw pos (keywordEach kws X.env)).any (·.1.isNone)) = false := by rfl) :
    PE X (.Call (.Name x p) [] kws pos) (tCallN 0 ks.length sp gV E tNil tk) := by
  refine ⟨fun pins s σ H Q I h => ?_⟩
  refine wpAny_Call_Name_kw (ld_glob I hg hm ?_ hdb)
  refine PySem.W.callWith_KW0 (h₀ := X.base) I.ok.mod.kin hk hall ?_ hpl
  refine thn (hkw.run pos pins s σ H _ I h) fun ws s2 ⟨zs, H2, I2, rz, l1, l2, q2⟩ => ⟨I2.kIn, ?_⟩
  rw [hks]
  exact run_fnN (us := []) (vs := []) F hr hb hx I2 .nil rz rfl l2 q2
end
theorem vals_pickD {zs : List V} {ws : List Value} (h : Vals zs ws) : ∀ is : List Nat, Vals (is.map fun i => zs.getD i .non) (is.map fun i => ws.getD i .none)
  | [] => .nil
  | i :: r => by
    refine .cons ?_ (vals_pickD h r)
    have gen : ∀ {zs : List V} {ws : List Value}, Vals zs ws → ∀ i, RelV (zs.getD i .non) (ws.getD i .none) := fun h => by
      induction h with
      | nil => exact fun i => rfl
      | cons h1 _ ih =>
        intro i
        cases i with
        | zero => exact h1
        | succ i => exact ih i
    exact gen h i
theorem kb0 {K : PySem.W.Frag} {x qual : Str} {st : Stmt} {f : Addr} {fd : FuncData} (F : Fun K x qual st f fd) {ps ks : List Str} (is : List Nat)
    (h : ∀ (kV doc pm : Value) (an : Option Addr) (cdv ct : Value) (ws : List Value), ws.length = ks.length → bindArgs (PySem.W.fnOf x qual (defArgs st) (defBody st) (defScope st) .none kV doc pm an cdv ct) ⟨[], ks.zip ws⟩ = pure (ps.zip (is.map fun i => ws.getD i .none))) :
    KBn K fd ps 0 ks (fun _ ws => is.map fun i => ws.getD i .none) (fun _ zs => is.map fun i => zs.getD i .non) := by
  obtain ⟨oc, od, kV, doc, pm, an, cdv, ct, osl, rfl, lk, hcd⟩ := F.ex
  refine ⟨fun s us ws X l1 l2 => ?_, fun _ r2 => vals_pickD r2 is⟩
  have e : us = [] := List.length_eq_zero_iff.mp l1
  subst e
  exact .of_eq (h kV doc pm an cdv ct ws l2)
end L2

namespace My
open PySem PySem.Spec PyProof.Rows L2
/-- a new dict that is walked at once -/
def tFrz (te : TE) : TE := fun σ H Q => te σ H fun x H1 => ∃ d u, x = .ref d ∧ H1 d = some u ∧ Mut (some u) ∧ ∀ od, Q x (upd H1 d (.frz od u))
theorem pe_frz {X : Cx} {e : Expr} {te : TE} (h : PE X e te) : PE X e (tFrz te) := by
  refine ⟨fun pins s σ H Q I hw => thn (h.run pins s σ H _ I hw) fun v s1 hx => ?_⟩
  obtain ⟨x, H1, I1, r, d, u, ex, hd, mu, q⟩ := hx
  obtain ⟨od, I2⟩ := Inv.lock I1 hd mu
  exact ⟨x, upd H1 d (.frz od u), I2, r, q od⟩
def strL (l : List Int) (c m : Nat) : List Int := (List.range l.length).map fun t => AP (stL c m) (fun u => hAt l (u : Int)) t
theorem strL_len (l : List Int) (c m : Nat) : (strL l c m).length = l.length := by
  unfold strL
  rw [List.length_map, List.length_range]
def sp_strides (K : PySem.W.Frag) : Sp := fun vs H Q _ => ∃ (v : V) (l : List Int) (c m : Nat), vs = [v, .int (c : Nat), .int (m : Nat)] ∧ Dp K H v (dInts l) ∧ 1 ≤ l.length ∧ l.length ≤ 64 ∧ c ≤ 64 ∧ m ≤ 64 ∧ ∀ w H', Same H H' → Dp K H' w (dInts (strL l c m)) → Q w H'
def sp_strides_to (K : PySem.W.Frag) : Sp := fun vs H Q _ => ∃ (L D : Nat), vs = [.int (D : Nat), .int (Nat.gcd D L : Nat), .int (L : Nat)] ∧ 1 ≤ L ∧ L ≤ 64 ∧ 1 ≤ D ∧ D ≤ 64 ∧ Q (.int (sto L D : Nat)) H
def sp_last_loop (K : PySem.W.Frag) : Sp := fun vs H Q _ => ∃ (v : V) (os : List Nat) (L : Nat), vs = [v] ∧ Dp K H v (dInts (NN (os ++ [L]))) ∧ OkM (os ++ [L]) ∧ ∀ w H', Same H H' → Dp K H' w (dInts (lastL os L)) → Q w H'
def sp_mixed (K : PySem.W.Frag) : Sp := fun vs H Q _ => ∃ (v : V) (a : Addr) (l fs : List Int), vs = [v, .ref a] ∧ Dp K H v (dInts l) ∧ H a = some (.lst (fs.map V.int)) ∧ 1 ≤ l.length ∧ l.length ≤ 64 ∧ fs.length ≤ 400 ∧ (∀ x ∈ fs, x.natAbs ≤ 2 ^ 400000) ∧ (∀ x ∈ l, x.natAbs ≤ 2 ^ 400000) ∧ ∀ w H', Same H H' → Dp K H' w (dInts (mixL l fs)) → Q w H'
def sp_lha (k : Nat) (K : PySem.W.Frag) : Sp := fun vs H Q _ => ∃ (v r : V) (ns : List Nat) (row : List Int), vs = [v, r] ∧ Dp K H v (dInts (NN ns)) ∧ OkM ns ∧ ns.length ≤ k ∧ Dp K H r (dInts row) ∧ row.length = du ns ∧ (∀ z ∈ row, z.natAbs ≤ 2 ^ 100000) ∧ ∀ w H', Same H H' → Dp K H' w (dLoops (lha ns row)) → Q w H'
def sp_dec (k : Nat) (K : PySem.W.Frag) : Sp := fun vs H Q _ => ∃ (v : V) (ns : List Nat), vs = [v] ∧ Dp K H v (dInts (NN ns)) ∧ OkM ns ∧ ns.length ≤ k ∧ ns ≠ [] ∧ ∀ w H', Same H H' → Dp K H' w (dLoops (dec ns)) → Q w H'
theorem dec_none {K : PySem.W.Frag} {vs : List V} {H : Hp} {Q : VK} {E : XK} (h : sp_dec 0 K vs H Q E) : False := by
  obtain ⟨v, ns, _, _, _, h0, hn, _⟩ := h
  exact hn (List.length_eq_zero_iff.mp (by omega))
abbrev sp_loops_heard_as (K : PySem.W.Frag) : Sp := sp_lha 4 K
abbrev sp_deceiver_of (K : PySem.W.Frag) : Sp := sp_dec 4 K
def sp_are_at_most (K : PySem.W.Frag) : Sp := fun vs H Q _ => ∃ (v : V) (xs : List Int) (m : Nat), vs = [v, .int (m : Nat)] ∧ Dp K H v (dInts xs) ∧ xs.length ≤ 400 ∧ ∀ H', Same H H' → Q (.bl (decide (xs.length ≤ m))) H'
def sp_need_samples (K : PySem.W.Frag) : Sp := fun vs H Q _ => ∃ (v : V) (xs : List Int), vs = [v] ∧ Dp K H v (dInts xs) ∧ xs.length ≤ 200 ∧ ∀ H', Same H H' → Q .non H'
def sp_need_few (K : PySem.W.Frag) : Sp := fun vs H Q _ => ∃ (v : V) (ns : List Nat), vs = [v] ∧ Dp K H v (dInts (NN ns)) ∧ OkF ns ∧ ∀ H', Same H H' → Q .non H'
def sp_first_ground (K : PySem.W.Frag) : Sp := fun vs H Q _ => ∃ (v r : V) (W row : List Int), vs = [v, r] ∧ Dp K H v (dInts W) ∧ Dp K H r (dInts row) ∧ 1 ≤ W.length ∧ W.length ≤ 400 ∧ row.length ≤ 400 ∧ (∀ z ∈ W, z.natAbs ≤ 2 ^ 399) ∧ (∀ z ∈ row, z.natAbs ≤ 2 ^ 100000) ∧
  ∀ x H', Same H H' → (gfind W row = none → x = .non) → (∀ a, gfind W row = some a → ∃ b : Addr, x = .ref b ∧ Dp K H' x (dInts (gnd W a))) → Q x H'
def sp_fit (K : PySem.W.Frag) : Sp := fun vs H Q _ => ∃ (v r : V) (ns : List Nat) (row : List Int), vs = [v, r] ∧ Dp K H v (dInts (NN ns)) ∧ OkF ns ∧ Dp K H r (dInts row) ∧ row.length ≤ 200 ∧ (∀ z ∈ row, z.natAbs ≤ 2 ^ 100000) ∧ ∀ w H', Same H H' → Dp K H' w (fitD ns row) → Q w H'
def isG (ns : List Nat) (row g : List Int) : Bool := decide (g.length ≤ row.length) && (decide (∀ L ∈ ns, ∀ r, r < L → (stepL g r L).sum = 0) && decide (dotz g row ≠ 0))
def sp_is_ground (K : PySem.W.Frag) : Sp := fun vs H Q _ => ∃ (v r g : V) (ns : List Nat) (row gs : List Int), vs = [v, r, g] ∧ Dp K H v (dInts (NN ns)) ∧ OkF ns ∧ Dp K H r (dInts row) ∧ Dp K H g (dInts gs) ∧ row.length ≤ 200 ∧ gs.length ≤ 400 ∧ (∀ L ∈ ns, L ≤ gs.length) ∧ (∀ z ∈ row, z.natAbs ≤ 2 ^ 100000) ∧ (∀ z ∈ gs, z.natAbs ≤ 2 ^ 100000) ∧ isG ns row gs = true ∧
  ∀ H', Same H H' → Q (.bl true) H'
def sp_are_heard_as (K : PySem.W.Frag) : Sp := fun vs H Q _ => ∃ (v r g : V) (ns : List Nat) (row : List Int) (ls : List (List Int)), vs = [v, r, g] ∧ Dp K H v (dInts (NN ns)) ∧ Dp K H r (dInts row) ∧ Dp K H g (dLoops ls) ∧ OkL ls ∧ row.length ≤ 200 ∧ lenN ls = ns ∧ row = hrow ls 0 row.length ∧
  ∀ H', Same H H' → Q (.bl true) H'
def sp_begins (K : PySem.W.Frag) : Sp := fun vs H Q _ => ∃ (v : V) (s u : Str) (ds : List PyData) (n : Int), vs = [v, .str u, .int n] ∧ Dp K H v (.tuple (.str s :: ds)) ∧ ∀ b : Bool, b = (decide (((ds.length + 1 : Nat) : Int) = n) && decide (V.str s = V.str u)) → Q (.bl b) H
theorem tab_get {α : Type} {F : Nat → α} {n i : Nat} (h : i < n) : ((List.range n).map F)[i]? = some (F i) := by
  rw [List.getElem?_map, List.getElem?_range h]
  rfl
theorem tab_more {α : Type} (F : Nat → α) (n : Nat) : (List.range (n + 1)).map F = (List.range n).map F ++ [F n] := by
  rw [List.range_succ, List.map_append]
  rfl
theorem st_sum (s : Nat → Int) (t c : Nat) : ∀ m, ((List.range m).map fun k => s (t + c * k)).sum = AP (stL c m) s t
  | 0 => rfl
  | m + 1 => by
    rw [tab_more, List.sum_append, st_sum s t c m, AP_stL]
    simp
theorem fmodz {a b : Nat} {L : Nat} (h : 1 ≤ L) : ((a : Int) - (b : Int)).fmod (L : Int) = 0 ↔ a % L = b % L := by
  rw [Int.fmod_eq_emod_of_nonneg _ (by omega), ← Int.emod_eq_emod_iff_emod_sub_eq_zero, ← Int.natCast_emod, ← Int.natCast_emod]
  omega
theorem sto_pos (L D : Nat) : 1 ≤ sto L D := by
  unfold sto
  omega
theorem rep_any {n : Nat} : ((List.replicate n false).any id) = false := by simp
theorem rep_moreF {n : Nat} : some (HO.lst ((List.replicate n false).map V.bl ++ [V.bl false])) = some (HO.lst ((List.replicate (n + 1) false).map V.bl)) := by
  rw [List.replicate_succ', List.map_append]
  rfl
theorem rep_flat {α : Type} (x : α) : ∀ j : Nat, (List.replicate j [x]).flatten = List.replicate j x
  | 0 => rfl
  | j + 1 => by
    rw [List.replicate_succ, List.flatten_cons, rep_flat x j]
    rfl
def tb (L : Nat) (s : Nat → Int) : List Int := (List.range L).map s
theorem tb_len (L : Nat) (s : Nat → Int) : (tb L s).length = L := by
  unfold tb
  rw [List.length_map, List.length_range]
theorem tb_at {L : Nat} {s : Nat → Int} (L1 : 1 ≤ L) (p : ∀ t, s (t + L) = s t) (t : Nat) : hAt (tb L s) (t : Int) = s t := by
  rw [hAt_nat (by rw [tb_len]; exact L1), tb_len]
  unfold tb
  rw [getD_tab (Nat.mod_lt _ (by omega))]
  have a := yadd p (t % L) (t / L)
  rw [← a]
  congr 1
  have := Nat.mod_add_div t L
  rw [Nat.mul_comm] at this
  omega
theorem tb_str {L : Nat} {s : Nat → Int} (L1 : 1 ≤ L) (p : ∀ t, s (t + L) = s t) (c m : Nat) : strL (tb L s) c m = tb L (AP (stL c m) s) := by
  unfold strL
  rw [tb_len]
  refine List.map_congr_left fun t _ => ?_
  refine AP_ext _ fun i _ => ?_
  exact tb_at L1 p _
theorem AP_per {L : Nat} {s : Nat → Int} (p : ∀ t, s (t + L) = s t) (q : List Int) (t : Nat) : AP q s (t + L) = AP q s t := AP_ext q fun i _ => by
  rw [show t + L + i = t + i + L by omega, p]
theorem itA_per {L : Nat} {s : Nat → Int} (p : ∀ t, s (t + L) = s t) (q : List Int) : ∀ n t, itA q n s (t + L) = itA q n s t
  | 0, t => p t
  | n + 1, t => AP_per (itA_per p q n) q t
theorem fs_per {L : Nat} {m : Nat → Nat} : ∀ (ps : List (Nat × Int)) {s : Nat → Int}, (∀ t, s (t + L) = s t) → ∀ t, fs L m ps s (t + L) = fs L m ps s t
  | [], s, p, t => p t
  | rq :: r, s, p, t => fs_per r (itA_per (itA_per p _ _) _ _) t
theorem fs_snoc (L : Nat) (m : Nat → Nat) (rq : Nat × Int) : ∀ (ps : List (Nat × Int)) (s : Nat → Int), fs L m (ps ++ [rq]) s = stp L m rq (fs L m ps s)
  | [], s => rfl
  | a :: r, s => fs_snoc L m rq r (stp L m a s)
theorem tb_imp {L : Nat} (L1 : 1 ≤ L) : List.replicate (L - 1) 0 ++ [(1 : Int)] = tb L (imp L) := by
  refine List.ext_getElem? fun i => ?_
  by_cases h : i < L
  · rw [show (tb L (imp L))[i]? = some (imp L i) from tab_get h]
    unfold imp
    rw [Nat.mod_eq_of_lt h]
    by_cases q : i = L - 1
    · rw [if_pos q, q, List.getElem?_append_right (by rw [List.length_replicate]; exact Nat.le_refl _), List.length_replicate, Nat.sub_self]
      rfl
    · rw [if_neg q, List.getElem?_append_left (by rw [List.length_replicate]; omega), List.getElem?_replicate, if_pos (by omega)]
  · rw [List.getElem?_eq_none (by rw [List.length_append, List.length_replicate]; show L - 1 + 1 ≤ i; omega), List.getElem?_eq_none (by rw [tb_len]; omega)]
theorem rep_moreZ {n : Nat} : some (HO.lst ((List.replicate n (0 : Int)).map V.int ++ [V.int 0])) = some (HO.lst ((List.replicate (n + 1) (0 : Int)).map V.int)) := by
  rw [List.replicate_succ', List.map_append]
  rfl
theorem step_one (xs : List Int) : stepL xs 0 1 = xs := by
  have q := stepL_len xs 0 1
  unfold stepL
  have e : stepN xs.length 0 1 = xs.length := by
    unfold stepN
    split
    · rw [Nat.div_one]
      omega
    · omega
  rw [e]
  have e2 : (fun m => xs[0 + m * 1]?) = fun m => xs[m]? := by
    funext m
    rw [Nat.zero_add, Nat.mul_one]
  rw [e2]
  have go : ∀ n, n ≤ xs.length → (List.range n).filterMap (fun m => xs[m]?) = xs.take n := fun n => by
    induction n with
    | zero => intro _; rfl
    | succ n ih =>
      intro hn
      have en : xs[n]? = some (xs[n]'(by omega)) := List.getElem?_eq_getElem (by omega)
      rw [List.range_succ, List.filterMap_append, ih (by omega), take_more en]
      simp only [List.filterMap_cons, List.filterMap_nil, en]
  rw [go _ (Nat.le_refl _), List.take_length]
theorem beg_loops : (decide ((([(0 : Nat)].length + 1 : Nat) : Int) = 2) && decide (V.str "loops" = V.str "loops")) = true := by decide +kernel
theorem beg_none : (decide ((([(0 : Nat)].length + 1 : Nat) : Int) = 2) && decide (V.str "none" = V.str "none")) = true := by decide +kernel
theorem beg_other : (decide ((([(0 : Nat)].length + 1 : Nat) : Int) = 2) && decide (V.str "none" = V.str "loops")) = false := by decide +kernel
theorem at_one {x y : V} {r : List V} : atI (x :: y :: r) 1 = some y := at_of (j := 1) rfl rfl
theorem okl_of {ns : List Nat} {ls : List (List Int)} (ok : OkF ns) (h : lenN ls = ns) : OkL ls := by
  subst h
  have a := ok.1
  unfold lenN at a
  rw [List.length_map] at a
  exact ⟨by omega, fun l hl => by
    have := ok.2 l.length (List.mem_map_of_mem hl)
    omega⟩
inductive Holds (ns : List Nat) (row : List Int) : Str → PyData → Prop
  | none {gs : List Int} : isG ns row gs = true → (∀ L ∈ ns, L ≤ gs.length) → gs.length ≤ 400 → (∀ z ∈ gs, z.natAbs ≤ 2 ^ 100000) → Holds ns row "none" (.tuple [.str "none", dInts gs])
  | loops {ls : List (List Int)} : lenN ls = ns → row = hrow ls 0 row.length → Holds ns row "loops" (.tuple [.str "loops", dLoops ls])
def sp_check_fit (K : PySem.W.Frag) : Sp := fun vs H Q _ => ∃ (v r p : V) (ns : List Nat) (row : List Int) (wd : Str) (d : PyData), vs = [v, r, p] ∧ Dp K H v (dInts (NN ns)) ∧ OkF ns ∧ Dp K H r (dInts row) ∧ Dp K H p d ∧ row.length ≤ 200 ∧ (∀ z ∈ row, z.natAbs ≤ 2 ^ 100000) ∧ Holds ns row wd d ∧ ∀ H', Same H H' → Q (.str wd) H'
def sp__law_due (K : PySem.W.Frag) : Sp := sp_check_fit K
def sp__law_is_ground (K : PySem.W.Frag) : Sp := sp_is_ground K
def sp__law_are_loops (K : PySem.W.Frag) : Sp := sp_are_heard_as K
def sp__law_is_number (K : PySem.W.Frag) : Sp := fun vs H Q _ => ∃ (x : Int), vs = [.int x] ∧ Q (.bl true) H
theorem eqv_dList (xs ys : List Int) : PyData.eqv (dList xs) (dList ys) = decide (xs = ys) := eqv_ints xs ys
def OkP (ns : List Nat) (ps : List Int) : Prop := ps.length = ns.length ∧ ∀ (i n : Nat) (p : Int), ns[i]? = some n → ps[i]? = some p → 0 ≤ p ∧ p < (n : Int)
def sp_need_places (K : PySem.W.Frag) : Sp := fun vs H Q _ => ∃ (v w : V) (ns : List Nat) (ps : List Int), vs = [v, w] ∧ Dp K H v (dInts (NN ns)) ∧ Dp K H w (dInts ps) ∧ OkM ns ∧ OkP ns ps ∧ ∀ H', Same H H' → Q .non H'
def nvp (ns : List Nat) (ps : List Int) (i j : Nat) : Prop := ∃ a b p q, ns[i]? = some a ∧ ns[j]? = some b ∧ ps[i]? = some p ∧ ps[j]? = some q ∧ ¬ ((Nat.gcd a b : Nat) : Int) ∣ p - q
def sp_never_meet (K : PySem.W.Frag) : Sp := fun vs H Q _ => ∃ (v w : V) (ns : List Nat) (ps : List Int) (i j : Nat), vs = [v, w, .int i, .int j] ∧ Dp K H v (dInts (NN ns)) ∧ Dp K H w (dInts ps) ∧ OkM ns ∧ OkP ns ps ∧ i < ns.length ∧ j < ns.length ∧
  ∀ b : Bool, (b = true ↔ nvp ns ps i j) → Q (.bl b) H
def sp_first_meeting (K : PySem.W.Frag) : Sp := fun vs H Q _ => ∃ (v w : V) (ns : List Nat) (X : Int), vs = [v, w] ∧ Dp K H v (dInts (NN ns)) ∧ Dp K H w (dInts (plc ns X)) ∧ OkM ns ∧ ∀ H', Same H H' → Q (.int (X % (lcmN ns : Nat))) H'
abbrev dTick (t : Int) : PyData := .tuple [.str "tick", .int t]
abbrev dNever (i j : Nat) : PyData := .tuple [.str "never", .int (i : Nat), .int (j : Nat)]
inductive IsPap (ns : List Nat) (ps : List Int) : PyData → Prop
  | nev {i j : Nat} (hij : i < j) (hj : j < ns.length) (h : nvp ns ps i j) (first : ∀ i' j', i' < j' → j' < ns.length → (i' < i ∨ i' = i ∧ j' < j) → ¬ nvp ns ps i' j') : IsPap ns ps (dNever i j)
  | tck {t : Int} (h : ∀ i' j', i' < j' → j' < ns.length → ¬ nvp ns ps i' j') (h0 : 0 ≤ t) (h1 : t < (lcmN ns : Nat)) (h2 : ps = plc ns t) : IsPap ns ps (dTick t)
theorem IsPap.one {ns : List Nat} {ps : List Int} {d e : PyData} (h : IsPap ns ps d) (g : IsPap ns ps e) : d = e := by
  cases h with
  | nev h1 h2 h3 h4 =>
    cases g with
    | nev g1 g2 g3 g4 =>
      rename_i i j i' j'
      have a := h4 i' j' g1 g2
      have b := g4 i j h1 h2
      have a' : ¬ (i' < i ∨ i' = i ∧ j' < j) := fun z => a z g3
      have b' : ¬ (i < i' ∨ i = i' ∧ j < j') := fun z => b z h3
      have e1 : i = i' := by omega
      subst e1
      have e2 : j = j' := by omega
      subst e2
      rfl
    | tck g1 g2 g3 g4 => exact absurd h3 (g1 _ _ h1 h2)
  | tck h1 h2 h3 h4 =>
    cases g with
    | nev g1 g2 g3 g4 => exact absurd g3 (h1 _ _ g1 g2)
    | tck g1 g2 g3 g4 =>
      rw [plc_one (h4.symm.trans g4) h2 h3 g2 g3]
def sp_meeting (K : PySem.W.Frag) : Sp := fun vs H Q _ => ∃ (v w : V) (ns : List Nat) (ps : List Int), vs = [v, w] ∧ Dp K H v (dInts (NN ns)) ∧ Dp K H w (dInts ps) ∧ OkM ns ∧ OkP ns ps ∧ ∀ u d H', IsPap ns ps d → Same H H' → Dp K H' u d → Q u H'
theorem int_at {ps : List Int} {i : Nat} {p : Int} (h : ps[i]? = some p) : atI (ps.map V.int) ((i : Nat) : Int) = some (.int p) := by
  refine at_of (j := i) rfl ?_
  rw [List.getElem?_map, h]
  rfl
theorem mem_take_get {ns : List Nat} {i n : Nat} (h : ns[i]? = some n) : n ∈ ns := List.mem_of_getElem? h
theorem plc_len (ns : List Nat) (t : Int) : (plc ns t).length = ns.length := by
  unfold plc
  rw [List.length_map]
theorem plc_get {ns : List Nat} {t p : Int} {i n : Nat} (hn : ns[i]? = some n) (hp : (plc ns t)[i]? = some p) : p = t % (n : Int) := by
  unfold plc at hp
  rw [List.getElem?_map, hn] at hp
  exact (Option.some.inj hp).symm
theorem okm_tk {ns : List Nat} (ok : OkM ns) (i : Nat) : lcmN (ns.take i) ≤ 2 ^ 40 := Nat.le_trans (lcmN_take_le (fun n hn => (ok.2 n hn).1) i) (okm_lcm ok)
theorem lcm_two (a b : Nat) : lcmN [a, b] = Nat.lcm a b := by
  show Nat.lcm (Nat.lcm 1 a) b = _
  rw [Nat.lcm_one_left]
/-- the rests by R and by n settle those by both -/
theorem two_rests {R n : Nat} {X u : Int} (h0 : 0 ≤ u) (h1 : u ≤ X % ((Nat.lcm R n : Nat) : Int)) (hR : u % (R : Int) = X % (R : Int)) (hn : u % (n : Int) = X % (n : Int)) (hp : 0 < Nat.lcm R n) : u = X % ((Nat.lcm R n : Nat) : Int) := by
  have d : ((Nat.lcm R n : Nat) : Int) ∣ u - X := by
    rw [Int.ofNat_dvd_left]
    exact Nat.lcm_dvd (Int.ofNat_dvd_left.mp (emod_eq_dvd.mp hR)) (Int.ofNat_dvd_left.mp (emod_eq_dvd.mp hn))
  have q := emod_eq_dvd.mpr d
  have l := Int.emod_lt_of_pos X (show (0 : Int) < ((Nat.lcm R n : Nat) : Int) by omega)
  rw [Int.emod_eq_of_lt h0 (by omega)] at q
  exact q
theorem step_rest {R n : Nat} {X u : Int} (hR : u % (R : Int) = X % (R : Int)) (hl : u < X % ((Nat.lcm R n : Nat) : Int)) (hRp : 0 < R) : u + R ≤ X % ((Nat.lcm R n : Nat) : Int) := by
  have e : (X % ((Nat.lcm R n : Nat) : Int)) % (R : Int) = X % (R : Int) := Int.emod_emod_of_dvd X (Int.natCast_dvd_natCast.mpr (Nat.dvd_lcm_left R n))
  have d : (R : Int) ∣ X % ((Nat.lcm R n : Nat) : Int) - u := emod_eq_dvd.mp (e.trans hR.symm)
  obtain ⟨c, hc⟩ := d
  have c1 : 1 ≤ c := by
    rcases Int.lt_or_le 0 c with q | q
    · exact q
    · have := Int.mul_nonneg (show (0 : Int) ≤ (R : Int) by omega) (show 0 ≤ -c by omega)
      rw [Int.mul_neg] at this
      omega
  have := Int.mul_le_mul_of_nonneg_left c1 (show (0 : Int) ≤ (R : Int) by omega)
  omega
def bothL (n : Nat) (p : Int) (m : Nat) : List Int := ((List.range m).filter fun t : Nat => decide ((t : Int) % (n : Int) = p)).map fun t : Nat => (t : Int)
theorem both_more (n : Nat) (p : Int) (m : Nat) : bothL n p (m + 1) = if (m : Int) % (n : Int) = p then bothL n p m ++ [(m : Int)] else bothL n p m := by
  unfold bothL
  rw [List.range_succ, List.filter_append, List.map_append]
  by_cases h : (m : Int) % (n : Int) = p
  · simp [h]
  · simp [h]
theorem both_len (n : Nat) (p : Int) (m : Nat) : (bothL n p m).length ≤ m := by
  unfold bothL
  rw [List.length_map]
  have q := List.length_filter_le (fun t : Nat => decide ((t : Int) % (n : Int) = p)) (List.range m)
  rw [List.length_range] at q
  exact q
theorem mem_both {n : Nat} {p : Int} {m : Nat} {c : Int} : c ∈ bothL n p m ↔ 0 ≤ c ∧ c < (m : Int) ∧ c % (n : Int) = p := by
  unfold bothL
  rw [List.mem_map]
  constructor
  · rintro ⟨t, ht, rfl⟩
    obtain ⟨h1, h2⟩ := List.mem_filter.mp ht
    have := List.mem_range.mp h1
    exact ⟨by omega, by omega, of_decide_eq_true h2⟩
  · rintro ⟨h0, h1, h2⟩
    refine ⟨c.toNat, List.mem_filter.mpr ⟨List.mem_range.mpr (by omega), ?_⟩, Int.toNat_of_nonneg h0⟩
    rw [show ((c.toNat : Nat) : Int) = c by omega]
    exact decide_eq_true h2
theorem nv_both {ns : List Nat} {ps : List Int} {i j a b : Nat} {p q : Int} (ha : ns[i]? = some a) (hb : ns[j]? = some b) (hp : ps[i]? = some p) (hq : ps[j]? = some q) (a1 : 1 ≤ a) (b1 : 1 ≤ b) (p0 : 0 ≤ p) (p1 : p < a) (q0 : 0 ≤ q) (q1 : q < b) :
    nvp ns ps i j ↔ (bothL a p (a * b)).filter (fun c => decide (c % (b : Int) = q)) = [] := by
  rw [List.filter_eq_nil_iff]
  constructor
  · rintro ⟨a', b', p', q', h1, h2, h3, h4, h5⟩ c hc z
    rw [ha] at h1
    rw [hb] at h2
    rw [hp] at h3
    rw [hq] at h4
    cases h1
    cases h2
    cases h3
    cases h4
    obtain ⟨_, _, c3⟩ := mem_both.mp hc
    have c4 : c % (b : Int) = q := of_decide_eq_true z
    apply h5
    have d1 : ((Nat.gcd a b : Nat) : Int) ∣ c - p := Int.dvd_trans (Int.natCast_dvd_natCast.mpr (Nat.gcd_dvd_left a b)) (emod_eq_dvd.mp (by rw [c3, Int.emod_eq_of_lt p0 p1]))
    have d2 : ((Nat.gcd a b : Nat) : Int) ∣ c - q := Int.dvd_trans (Int.natCast_dvd_natCast.mpr (Nat.gcd_dvd_right a b)) (emod_eq_dvd.mp (by rw [c4, Int.emod_eq_of_lt q0 q1]))
    have d3 := Int.dvd_sub d2 d1
    have e : c - q - (c - p) = p - q := by omega
    rw [e] at d3
    exact d3
  · intro h
    refine ⟨a, b, p, q, ha, hb, hp, hq, fun z => ?_⟩
    have z' : ((Nat.gcd a b : Nat) : Int) ∣ q - p := by
      have e : q - p = -(p - q) := by omega
      rw [e]
      exact Int.dvd_neg.mpr z
    obtain ⟨Y, y1, y2⟩ := crt2 z'
    have ab : 0 < a * b := Nat.mul_pos a1 b1
    have e1 : (Y % ((a * b : Nat) : Int)) % (a : Int) = p := by
      rw [Int.emod_emod_of_dvd Y (Int.natCast_dvd_natCast.mpr (Nat.dvd_mul_right a b)), emod_eq_dvd.mpr y1, Int.emod_eq_of_lt p0 p1]
    have e2 : (Y % ((a * b : Nat) : Int)) % (b : Int) = q := by
      rw [Int.emod_emod_of_dvd Y (Int.natCast_dvd_natCast.mpr (Nat.dvd_mul_left b a)), emod_eq_dvd.mpr y2, Int.emod_eq_of_lt q0 q1]
    refine h (Y % ((a * b : Nat) : Int)) (mem_both.mpr ⟨Int.emod_nonneg _ (by omega), Int.emod_lt_of_pos _ (by omega), e1⟩) ?_
    exact decide_eq_true e2
theorem take_filter {xs : List Int} {i : Nat} {x : Int} (f : Int → Bool) (h : xs[i]? = some x) : (xs.take (i + 1)).filter f = (xs.take i).filter f ++ (if f x = true then [x] else []) := by
  rw [take_more h, List.filter_append]
  congr 1
  cases e : f x <;> simp [e]
theorem meet_all {ns : List Nat} {ps : List Int} (ok : OkM ns) (okp : OkP ns ps) (h : ∀ i j, i < j → j < ns.length → ¬ nvp ns ps i j) : ∃ X : Int, ps = plc ns X := by
  obtain ⟨X, hX⟩ := crt_all okp.1 okp.2 fun i j a b p q hij ha hb hp hq => Classical.byContradiction fun z =>
    h i j hij (List.getElem?_eq_some_iff.mp hb).1 ⟨a, b, p, q, ha, hb, hp, hq, z⟩
  exact ⟨X, plc_of okp.1 hX⟩
theorem plc_ok {ns : List Nat} (ok : OkM ns) (X : Int) : OkP ns (plc ns X) := by
  refine ⟨plc_len ns X, fun i n p hn hp => ?_⟩
  have n1 := (ok.2 n (List.mem_of_getElem? hn)).1
  rw [plc_get hn hp]
  exact ⟨Int.emod_nonneg _ (by omega), Int.emod_lt_of_pos _ (by omega)⟩
theorem plc_nv {ns : List Nat} {X : Int} (i j : Nat) : ¬ nvp ns (plc ns X) i j := by
  rintro ⟨a, b, p, q, ha, hb, hp, hq, h⟩
  rw [plc_get ha hp, plc_get hb hq] at h
  apply h
  have d1 : ((Nat.gcd a b : Nat) : Int) ∣ X % (a : Int) - X := Int.dvd_trans (Int.natCast_dvd_natCast.mpr (Nat.gcd_dvd_left a b)) (emod_eq_dvd.mp (Int.emod_emod X a))
  have d2 : ((Nat.gcd a b : Nat) : Int) ∣ X % (b : Int) - X := Int.dvd_trans (Int.natCast_dvd_natCast.mpr (Nat.gcd_dvd_right a b)) (emod_eq_dvd.mp (Int.emod_emod X b))
  have d3 := Int.dvd_sub d1 d2
  have e : X % (a : Int) - X - (X % (b : Int) - X) = X % (a : Int) - X % (b : Int) := by omega
  rw [e] at d3
  exact d3
theorem not_dec_eq {a b : Int} : (!decide (V.int a = V.int b)) = true ↔ a ≠ b := by
  simp
theorem emod_self_le {a b : Int} (h : 0 ≤ a) (hb : 0 < b) : a % b ≤ a := by
  have q := Int.mul_ediv_add_emod a b
  have r := Int.mul_nonneg (Int.le_of_lt hb) (Int.ediv_nonneg h (Int.le_of_lt hb))
  omega
theorem dec_eq {x y : Int} : decide (V.int x = V.int y) = true ↔ x = y := by simp
theorem plc_some {ns : List Nat} {X : Int} {i n : Nat} (h : ns[i]? = some n) : (plc ns X)[i]? = some (X % (n : Int)) := by
  unfold plc
  rw [List.getElem?_map, h]
  rfl
theorem fm_int {t : Int} {n : Nat} : t.fmod (n : Int) = t % (n : Int) := Int.fmod_eq_emod_of_nonneg _ (by omega)
theorem pap_tells {ns : List Nat} {ps : List Int} {d : PyData} (ok : OkM ns) (h : IsPap ns ps d) : Tells d := by
  have g : (10 : Nat) ^ 40 = 10000000000000000000000000000000000000000 := by decide
  cases h with
  | nev h1 h2 h3 h4 =>
    rename_i i j
    have := ok.1
    refine tells 40 (by decide) (by decide) rfl ?_ (Nat.le_of_ble_eq_true rfl) ?_
    · show (decide ((reprText "never").length ≤ 1000) && (decide (((i : Nat) : Int).natAbs < 10 ^ 40) && (decide (((j : Nat) : Int).natAbs < 10 ^ 40) && true))) = true
      rw [decide_eq_true (by omega : ((i : Nat) : Int).natAbs < 10 ^ 40), decide_eq_true (by omega : ((j : Nat) : Int).natAbs < 10 ^ 40)]
      decide +kernel
    · show 1000 + 2 + (41 + 2 + (41 + 2 + 0)) + 4 ≤ 16000000
      decide
  | tck h1 h2 h3 h4 =>
    rename_i t
    have q := okm_lcm ok
    refine tells 40 (by decide) (by decide) rfl ?_ (Nat.le_of_ble_eq_true rfl) ?_
    · show (decide ((reprText "tick").length ≤ 1000) && (decide (t.natAbs < 10 ^ 40) && true)) = true
      rw [decide_eq_true (by omega : t.natAbs < 10 ^ 40)]
      decide +kernel
    · show 1000 + 2 + (41 + 2 + 0) + 4 ≤ 16000000
      decide
theorem pap_nil : IsPap [] [] (dTick 0) := .tck (fun i j h1 h2 => absurd h2 (Nat.not_lt_zero _)) (by decide) (by decide) rfl
theorem nil_shown : (dTick 0).shown = "('tick', 0)" := by decide +kernel

def firstP (ns : List Nat) (ps : List Int) (i j : Nat) : Prop := i < j ∧ j < ns.length ∧ nvp ns ps i j ∧ ∀ i' j', i' < j' → j' < ns.length → (i' < i ∨ i' = i ∧ j' < j) → ¬ nvp ns ps i' j'
def pairD (p : Nat × Nat) : PyData := dInts [((p.1 : Nat) : Int), ((p.2 : Nat) : Int)]
theorem canLay_pairs : ∀ prs : List (Nat × Nat), PyData.canLayAll0 (prs.map pairD) = true
  | [] => by simp [PyData.canLayAll0]
  | p :: r => by
    rw [List.map_cons]
    simp only [PyData.canLayAll0, Bool.and_eq_true]
    refine ⟨?_, canLay_pairs r⟩
    simp [pairD, PyData.canLay0, PyData.canLayAll0]
theorem depth_pairs : ∀ prs : List (Nat × Nat), PyData.depthAll (prs.map pairD) ≤ 1
  | [] => by simp [PyData.depthAll]
  | p :: r => by
    have := depth_pairs r
    rw [List.map_cons]
    simp only [PyData.depthAll]
    have e : (pairD p).depth = 1 := by simp [pairD, PyData.depth, PyData.depthAll]
    omega
theorem shaped_pairs (prs : List (Nat × Nat)) : SeqAt.shaped (.list (prs.map pairD)) = true := by
  have h := depth_pairs prs
  show (PyData.canLay0 (.list (prs.map pairD)) && decide (PyData.depth (.list (prs.map pairD)) ≤ 64)) = true
  rw [Bool.and_eq_true]
  refine ⟨?_, decide_eq_true (by simp only [PyData.depth]; omega)⟩
  simp only [PyData.canLay0]
  exact canLay_pairs prs
theorem eqv_pairs (prs : List (Nat × Nat)) : PyData.eqv (.list (prs.map pairD)) (.list []) = prs.isEmpty := by
  cases prs <;> rfl
/-- a list of pairs of ints, != [] -/
theorem rd_ne_nilP {K : PySem.W.Frag} {H : Hp} {l : Addr} {xs : List V} {prs : List (Nat × Nat)} {σ : L2.St} {Q : VK} (hl : H l = some (.lst xs)) (hx : DpAll K H xs (prs.map pairD))
    (k : ∀ p, H p = none → Q (.bl (!prs.isEmpty)) (upd H p (.lst []))) : tLst tNil σ H fun y H2 => rNeD K (.ref l) y H2 Q := by
  refine ⟨(by show 0 ≤ sizeLine; decide), fun p hp => ?_⟩
  have s := same_upd hp (.lst [])
  refine ⟨.list (prs.map pairD), .list [], .lst (SqL.of (s _ _ hl)) (DpAll.same s _ _ hx), .lst (SqL.of upd_same) .nil, shaped_pairs prs, by decide +kernel, ?_⟩
  rw [eqv_pairs]
  exact k p hp
theorem IsPap.first {ns : List Nat} {ps : List Int} {d : PyData} {i j : Nat} (h : IsPap ns ps d) (f : firstP ns ps i j) : d = dNever i j := h.one (.nev f.1 f.2.1 f.2.2.1 f.2.2.2)
theorem IsPap.none {ns : List Nat} {ps : List Int} {d : PyData} (h : IsPap ns ps d) (f : ∀ i' j', i' < j' → j' < ns.length → ¬ nvp ns ps i' j') : ∃ t, d = dTick t ∧ 0 ≤ t ∧ t < (lcmN ns : Nat) ∧ ps = plc ns t := by
  cases h with
  | nev h1 h2 h3 h4 => exact absurd h3 (f _ _ h1 h2)
  | tck h1 h2 h3 h4 => exact ⟨_, rfl, h2, h3, h4⟩
theorem never_str : (V.str "never") = V.str "never" := rfl
theorem to_pairs : ∀ prs : List (Nat × Nat), tupOnly.go (prs.map pairD) = true
  | [] => rfl
  | p :: r => by
    show (tupOnly (pairD p) && tupOnly.go (r.map pairD)) = true
    rw [to_pairs r]
    rfl
theorem rep_d {d e : PyData} (h : d = e) : decide (V.str d.shown = V.str e.shown) = true := decide_eq_true (by rw [h])
theorem okp_put {ls : List Nat} {ps : List Int} {j l : Nat} {r : Int} (h : OkP ls ps) (hj : ls[j]? = some l) (r0 : 0 ≤ r) (r1 : r < (l : Int)) : OkP ls (ps.take j ++ [r] ++ ps.drop (j + 1)) := by
  have jl : j < ps.length := by
    have := (List.getElem?_eq_some_iff.mp hj).1
    rw [h.1]
    exact this
  have e : ps.take j ++ [r] ++ ps.drop (j + 1) = ps.set j r := by
    rw [List.set_eq_take_append_cons_drop, if_pos jl, List.append_assoc]
    rfl
  rw [e]
  refine ⟨by rw [List.length_set]; exact h.1, fun i n p hn hp => ?_⟩
  by_cases q : j = i
  · subst q
    rw [List.getElem?_set_self jl] at hp
    cases hp
    rw [hj] at hn
    cases hn
    exact ⟨r0, r1⟩
  · rw [List.getElem?_set_ne q] at hp
    exact h.2 i n p hn hp
theorem nn_nil {ls : List Nat} : decide (NN ls = []) = ls.isEmpty := by
  cases ls <;> rfl
def sp_check_meeting (K : PySem.W.Frag) : Sp := fun vs H Q _ => ∃ (v w u : V) (ns : List Nat) (ps : List Int) (d : PyData), vs = [v, w, u] ∧ Dp K H v (dInts (NN ns)) ∧ Dp K H w (dInts ps) ∧ Dp K H u d ∧ OkM ns ∧ OkP ns ps ∧ IsPap ns ps d ∧
  ∀ s ds H', d = .tuple (.str s :: ds) → Same H H' → Q (.str s) H'
def sp_is_first_meeting (K : PySem.W.Frag) : Sp := fun vs H Q _ => ∃ (v w : V) (ns : List Nat) (t : Int), vs = [v, w, .int t] ∧ Dp K H v (dInts (NN ns)) ∧ Dp K H w (dInts (plc ns t)) ∧ OkM ns ∧ 0 ≤ t ∧ t < (lcmN ns : Nat) ∧ ∀ H', Same H H' → Q (.bl true) H'
def sp_deceiver (K : PySem.W.Frag) : Sp := fun vs H Q _ => ∃ (v : V) (ns : List Nat), vs = [v] ∧ Dp K H v (dInts (NN ns)) ∧ OkF ns ∧ ns ≠ [] ∧ ∀ w H', Same H H' → Dp K H' w (dLoops (dec ns)) → Q w H'
theorem tells_dec {ns : List Nat} (ok : OkF ns) : Tells (dLoops (dec ns)) := by
  have gz : ∀ l ∈ dec ns, ∀ z ∈ l, z.natAbs < 10 ^ 420 := fun l hl z hz => pow_digits (dec_few ok l hl z hz) (by decide)
  have ln := (dec_main ok.m).1
  have l4 : (dec ns).length ≤ 4 := by
    have q := congrArg List.length ln
    unfold lenN at q
    rw [List.length_map] at q
    rw [q]
    exact ok.1
  have l24 : ∀ l ∈ dec ns, l.length ≤ 24 := fun l hl => by
    have m : l.length ∈ lenN (dec ns) := List.mem_map_of_mem hl
    rw [ln] at m
    exact (ok.2 _ m).2
  refine tells_loops (ls := dec ns) 420 24 (by decide) (by decide) gz l24 ?_
  have : ((420 + 3) * 24 + 6) * (dec ns).length ≤ ((420 + 3) * 24 + 6) * 4 := Nat.mul_le_mul_left _ l4
  omega
theorem min3' (z : Int) (h : 0 ≤ z) : 0 ≤ (if (3 : Int) < z then 3 else z) ∧ (if (3 : Int) < z then 3 else z) ≤ 3 := by
  split <;> omega
theorem holds_loops {ns : List Nat} {row : List Int} (ok : OkF ns) (h : gfind (wl ns) row = none) : Holds ns row "loops" (fitD ns row) := by
  unfold fitD
  rw [h]
  exact .loops (lha_main ok.m (fst_len ns row)).1 (fit_true ok.m h).symm
theorem isG_of {ns : List Nat} {row : List Int} {a : Nat} (ok : OkF ns) (h : gfind (wl ns) row = some a) : isG ns row (gnd (wl ns) a) = true := by
  obtain ⟨h1, h2⟩ := gfind_some h
  unfold isG
  rw [decide_eq_true (by rw [gnd_len]; exact h1), decide_eq_true (fun L hL r hr => gnd_resid ok.m a hL hr), decide_eq_true (by rw [gnd_dotz]; exact h2)]
  rfl
theorem holds_none {ns : List Nat} {row : List Int} {a : Nat} (ok : OkF ns) (hl : row.length ≤ 200) (h : gfind (wl ns) row = some a) : Holds ns row "none" (fitD ns row) := by
  obtain ⟨h1, h2⟩ := gfind_some h
  have e : fitD ns row = .tuple [.str "none", dInts (gnd (wl ns) a)] := by
    unfold fitD
    rw [h]
  rw [e]
  refine .none (isG_of ok h) (fun L hL => ?_) (by rw [gnd_len]; omega) (fun z hz => ?_)
  · have q : L ≤ (wl ns).length := Wl_long ok.m.2 hL
    rw [gnd_len]
    omega
  · rcases List.mem_append.mp hz with q | q
    · rw [List.eq_of_mem_replicate q]
      exact Nat.zero_le _
    · exact Nat.le_trans (wl_small ns z q) (Nat.pow_le_pow_right (by decide) (by decide))
theorem fits_loops2 {k : Nat} {ls : List (List Int)} (hz : ∀ l ∈ ls, ∀ z ∈ l, z.natAbs < 10 ^ k) : fits k (dLoops ls) = true := fits_loops hz
theorem tells_fit {ns : List Nat} {row : List Int} (ok : OkF ns) (hl : row.length ≤ 200) (hb : ∀ z ∈ row, z.natAbs ≤ 2 ^ 137) : Tells (fitD ns row) := by
  unfold fitD
  cases h : gfind (wl ns) row with
  | some a =>
    obtain ⟨h1, _⟩ := gfind_some h
    have gz : ∀ z ∈ gnd (wl ns) a, z.natAbs < 10 ^ 420 := fun z hz => by
      rcases List.mem_append.mp hz with q | q
      · rw [List.eq_of_mem_replicate q]
        exact Nat.pow_pos (by decide)
      · exact pow_digits (wl_few ok.2 z q) (by decide)
    have g : fits 420 (dInts (gnd (wl ns) a)) = true := fits_ints gz
    refine tells 420 (by decide) (by decide) rfl ?_ ?_ ?_
    · show (decide ((reprText "none").length ≤ 1000) && (fits 420 (dInts (gnd (wl ns) a)) && true)) = true
      rw [g]
      decide +kernel
    · have e := depth_ints (gnd (wl ns) a)
      show max 0 (max (PyData.depthAll ((gnd (wl ns) a).map PyData.int) + 1) 0) + 1 ≤ 8
      rw [e]
      decide
    · have e := room_ints 420 (gnd (wl ns) a)
      have l := gnd_len (wl ns) a
      show 1000 + 2 + ((room.go 420 ((gnd (wl ns) a).map PyData.int) + 4) + 2 + 0) + 4 ≤ 16000000
      rw [e]
      omega
  | none =>
    have f1 : (fst ns row).length ≤ 512 := by
      rw [fst_len]
      have := du_96 ok
      omega
    have f2 : ∀ z ∈ fst ns row, z.natAbs ≤ 2 ^ 137 := fun z hz => by
      unfold fst at hz
      rcases List.mem_append.mp hz with q | q
      · exact hb z (List.mem_of_mem_take q)
      · rw [List.eq_of_mem_replicate q]
        exact Nat.zero_le _
    have gz : ∀ l ∈ lha ns (fst ns row), ∀ z ∈ l, z.natAbs < 10 ^ 420 := fun l hl z hz => pow_digits (lha_few ok f1 f2 l hl z hz) (by decide)
    have g : fits 420 (dLoops (lha ns (fst ns row))) = true := fits_loops2 gz
    have ln := (lha_main ok.m (fst_len ns row)).1
    have l4 : (lha ns (fst ns row)).length ≤ 4 := by
      have q := congrArg List.length ln
      unfold lenN at q
      rw [List.length_map] at q
      rw [q]
      exact ok.1
    have l24 : ∀ l ∈ lha ns (fst ns row), l.length ≤ 24 := fun l hl => (ok.2 _ (lha_in ok.m _ l hl)).2
    refine tells 420 (by decide) (by decide) rfl ?_ ?_ ?_
    · show (decide ((reprText "loops").length ≤ 1000) && (fits 420 (dLoops (lha ns (fst ns row))) && true)) = true
      rw [g]
      decide +kernel
    · have e := depth_loops (lha ns (fst ns row))
      show max 0 (max (PyData.depthAll ((lha ns (fst ns row)).map dInts) + 1) 0) + 1 ≤ 8
      omega
    · have e := room_loops 420 24 (lha ns (fst ns row)) l24
      show 1000 + 2 + ((room.go 420 ((lha ns (fst ns row)).map dInts) + 4) + 2 + 0) + 4 ≤ 16000000
      have : ((420 + 3) * 24 + 6) * (lha ns (fst ns row)).length ≤ ((420 + 3) * 24 + 6) * 4 := Nat.mul_le_mul_left _ l4
      omega
theorem grw_small {ns : List Nat} (ok : OkM ns) {xs : List Int} (hl : xs.length = dueN (NN ns)) (hx : ∀ z ∈ xs, NB z) {many : Nat} (h : many ≤ 60) : ∀ z ∈ grw ns xs many, z.natAbs < 10 ^ 400 := fun z hz => by
  obtain ⟨t, ht⟩ := List.getElem?_of_mem hz
  have tl := (List.getElem?_eq_some_iff.mp ht).1
  rw [grw_len] at tl
  have w1 := Wl_due ok.2
  have w2 := due_384 ok
  have w3 := Wl_len (dvf_clo ns)
  have g := grow (dvf_clo ns) (by omega) 64 (Nat.le_refl _) (fun j => (grw ns xs many).getD j 0) (10 ^ 30) many h (fun j hj => by
    obtain ⟨u, hu⟩ := grw_pre ns xs 0 many
    rw [Nat.zero_add] at hu
    have jl : j < xs.length := by omega
    have e : (grw ns xs many).getD j 0 = xs[j] := by
      rw [hu]
      show (xs ++ u).getD j 0 = _
      simp [List.getD, List.getElem?_append_left jl, List.getElem?_eq_getElem jl]
    show ((grw ns xs many).getD j 0).natAbs ≤ _
    rw [e]
    have := hx _ (List.getElem_mem jl)
    unfold NB at this
    omega) (fun j hj => by
    have q := grw_zero ok hl hj
    have q2 := AP_dotf (fun j => (grw ns xs many).getD j 0) j (Wl (dvf ns)) 0
    rw [Nat.add_zero] at q2
    rw [← Wl_RL (dvf_clo ns)]
    exact q2.symm.trans q) t (by omega)
  have e : (grw ns xs many).getD t 0 = z := by
    simp [List.getD, ht]
  have g : ((grw ns xs many).getD t 0).natAbs ≤ _ := g
  rw [e] at g
  exact Nat.lt_of_le_of_lt g two_big
theorem log400 {z : Int} (h : z.natAbs < 10 ^ 400) : z.natAbs.log2 ≤ 5000 := log_of (Nat.le_trans (Nat.le_of_lt h) (by decide +kernel))
def sp__law_drawn (K : PySem.W.Frag) : Sp := fun vs H Q _ => ∃ (m : Addr) (v : V) (ns : List Nat) (n : Nat), vs = [.ref m, v] ∧ Dp K H v (dInts (NN ns)) ∧ ns.length ≤ 4 ∧ (∀ L ∈ ns, 1 ≤ L ∧ L ≤ 64) ∧ MS H m n ∧ n + 10000 ≤ 2 ^ 40 ∧
  ∀ (w : V) (ls : List (List Int)) (n' : Nat) H', Dp K H' w (dLoops ls) → lenN ls = ns → NBL ls → n' ≤ n + 64 * ns.length → MS H' m n' → Ef m H H' → Q w H'
def sp__law_loops_right (K : PySem.W.Frag) : Sp := fun vs H Q _ => ∃ (v w : V) (ls ms : List (List Int)) (t : Int), vs = [v, w, .int t] ∧ Dp K H v (dLoops ls) ∧ Dp K H w (dLoops ms) ∧ OkL ls ∧ OkL ms ∧ NBL ls ∧ 0 ≤ t ∧ t ≤ 10 ^ 30 ∧ ∀ H', Same H H' → Q (.bl true) H'
def sp__law_lengths_right (K : PySem.W.Frag) : Sp := fun vs H Q _ => ∃ (v w u : V) (ns : List Nat) (row ps : List Int), vs = [v, w, u] ∧ Dp K H v (dInts (NN ns)) ∧ Dp K H w (dInts row) ∧ Dp K H u (dInts ps) ∧ OkF ns ∧ ns ≠ [] ∧ row.length ≤ 12 ∧ (∀ z ∈ row, z.natAbs ≤ 10) ∧ OkP ns ps ∧ ∀ H', Same H H' → Q (.bl true) H'
def data8 (ls : List (List Int)) (t : Int) (r : Option Nat) (P : Nat) (c : Bool) : List PyData := [dLoops ls, dInts (lensI ls), .int (hd ls t), dInts (hrow ls t 5)] ++ [dLoops (lat ls t), optD r, .int (P : Nat), .bool c]
theorem tells8 {ls : List (List Int)} {t : Int} {r : Option Nat} {P : Nat} {c : Bool} (nb : NBL ls) (ok : OkL ls) (hr : ∀ t, r = some t → t < 768) (hP : P ≤ 64 ^ 6) : Tells (.list (data8 ls t r P c)) := by
  have fl : ∀ {xs : List (List Int)}, NBL xs → fits 40 (dLoops xs) = true := fun h => fits_loops (ls := _) fun l hl z hz => nb_small (h l hl z hz)
  have f1 := fl nb
  have f5 := fl (lat_nb t nb)
  have f2 : fits 40 (dInts (lensI ls)) = true := fits_ints fun z hz => by
    obtain ⟨l, hl, rfl⟩ := List.mem_map.mp hz
    have := (ok.2 l hl).2
    have e : ((l.length : Nat) : Int).natAbs ≤ 64 := by omega
    exact Nat.lt_of_le_of_lt e (by decide)
  have f3 : fits 40 (.int (hd ls t)) = true := decide_eq_true (hd_small t nb ok.1)
  have f4 : fits 40 (dInts (hrow ls t 5)) = true := fits_ints (hrow_small t 5 nb ok.1)
  have f6 : fits 40 (optD r) = true := by
    cases r with
    | none => rfl
    | some u => exact decide_eq_true (by rw [Int.natAbs_natCast]; exact Nat.lt_trans (hr u rfl) (by decide))
  have f7 : fits 40 (.int (P : Nat)) = true := decide_eq_true (by rw [Int.natAbs_natCast]; exact Nat.lt_of_le_of_lt hP (by decide))
  refine tells 40 (by decide) (by decide) rfl ?_ ?_ ?_
  · show (fits 40 (dLoops ls) && (fits 40 (dInts (lensI ls)) && (fits 40 (.int (hd ls t)) && (fits 40 (dInts (hrow ls t 5)) && (fits 40 (dLoops (lat ls t)) && (fits 40 (optD r) && (fits 40 (.int (P : Nat)) && (true && true)))))))) = true
    rw [f1, f2, f3, f4, f5, f6, f7]
    rfl
  · have e1 := depth_loops ls
    have e2 := depth_ints (lensI ls)
    have e4 := depth_ints (hrow ls t 5)
    have e5 := depth_loops (lat ls t)
    have e6 : (optD r).depth = 0 := by cases r <;> rfl
    show max (PyData.depthAll (ls.map dInts) + 1) (max (PyData.depthAll ((lensI ls).map PyData.int) + 1) (max 0 (max (PyData.depthAll ((hrow ls t 5).map PyData.int) + 1) (max (PyData.depthAll ((lat ls t).map dInts) + 1) (max (optD r).depth (max 0 (max 0 0))))))) + 1 ≤ 8
    omega
  · have e1 := room_loops 40 64 ls fun l hl => (ok.2 l hl).2
    have e2 := room_ints 40 (lensI ls)
    have e4 := room_ints 40 (hrow ls t 5)
    have e5 := room_loops 40 64 (lat ls t) fun l hl => ((lat_ok t ok).2 l hl).2
    have l1 := ok.1
    have l2 : (lensI ls).length = ls.length := List.length_map ..
    have l4 := hrow_len ls t 5
    have l5 : (lat ls t).length = ls.length := List.length_map ..
    have e6 : room 40 (optD r) ≤ 41 := by cases r <;> exact Nat.le_of_ble_eq_true rfl
    show (room.go 40 (ls.map dInts) + 4) + 2 + ((room.go 40 ((lensI ls).map PyData.int) + 4) + 2 + (41 + 2 + ((room.go 40 ((hrow ls t 5).map PyData.int) + 4) + 2 + ((room.go 40 ((lat ls t).map dInts) + 4) + 2 + (room 40 (optD r) + 2 + (41 + 2 + (10 + 2 + 0))))))) + 4 ≤ 16000000
    rw [e2, e4, l2, l4]
    rw [l5] at e5
    have b1 : ((40 + 3) * 64 + 6) * ls.length ≤ ((40 + 3) * 64 + 6) * 6 := Nat.mul_le_mul_left _ l1
    omega
theorem pap_tup {ns : List Nat} {ps : List Int} {d : PyData} (h : IsPap ns ps d) : tupOnly d = true := by
  cases h <;> rfl
theorem fit_tup (ns : List Nat) (row : List Int) : tupOnly (fitD ns row) = true := by
  unfold fitD
  cases gfind (wl ns) row with
  | some a =>
    show (true && (tupOnly.go ((gnd (wl ns) a).map PyData.int) && true)) = true
    rw [to_ints]
    rfl
  | none =>
    show (true && (tupOnly.go ((lha ns (fst ns row)).map dInts) && true)) = true
    rw [to_loops]
    rfl
def data9 (ns : List Nat) (row : List Int) (pd : PyData) (wd sd : Str) : List PyData := (([dInts (NN ns), .int ((dueN (NN ns) : Nat) : Int), dInts (wl ns), fitD ns row, pd] ++ [dInts ((grw ns (List.replicate (du ns) 0) 7).drop (du ns)), .str wd]) ++ [dLoops (dec ns), .str sd])
theorem fit_parts {ns : List Nat} {row : List Int} (ok : OkF ns) (hl : row.length ≤ 200) (hb : ∀ z ∈ row, z.natAbs ≤ 2 ^ 137) : fits 420 (fitD ns row) = true ∧ (fitD ns row).depth ≤ 3 ∧ room 420 (fitD ns row) ≤ 200000 := by
  unfold fitD
  cases h : gfind (wl ns) row with
  | some a =>
    obtain ⟨h1, _⟩ := gfind_some h
    have gz : ∀ z ∈ gnd (wl ns) a, z.natAbs < 10 ^ 420 := fun z hz => by
      rcases List.mem_append.mp hz with q | q
      · rw [List.eq_of_mem_replicate q]
        exact Nat.pow_pos (by decide)
      · exact pow_digits (wl_few ok.2 z q) (by decide)
    have g : fits 420 (dInts (gnd (wl ns) a)) = true := fits_ints gz
    refine ⟨?_, ?_, ?_⟩
    · show (decide ((reprText "none").length ≤ 1000) && (fits 420 (dInts (gnd (wl ns) a)) && true)) = true
      rw [g]
      decide +kernel
    · have e := depth_ints (gnd (wl ns) a)
      show max 0 (max (PyData.depthAll ((gnd (wl ns) a).map PyData.int) + 1) 0) + 1 ≤ 3
      rw [e]
      decide
    · have e := room_ints 420 (gnd (wl ns) a)
      have l := gnd_len (wl ns) a
      show 1000 + 2 + ((room.go 420 ((gnd (wl ns) a).map PyData.int) + 4) + 2 + 0) + 4 ≤ 200000
      rw [e]
      omega
  | none =>
    have f1 : (fst ns row).length ≤ 512 := by
      rw [fst_len]
      have := du_96 ok
      omega
    have f2 : ∀ z ∈ fst ns row, z.natAbs ≤ 2 ^ 137 := fun z hz => by
      unfold fst at hz
      rcases List.mem_append.mp hz with q | q
      · exact hb z (List.mem_of_mem_take q)
      · rw [List.eq_of_mem_replicate q]
        exact Nat.zero_le _
    have gz : ∀ l ∈ lha ns (fst ns row), ∀ z ∈ l, z.natAbs < 10 ^ 420 := fun l hl z hz => pow_digits (lha_few ok f1 f2 l hl z hz) (by decide)
    have g : fits 420 (dLoops (lha ns (fst ns row))) = true := fits_loops2 gz
    have ln := (lha_main ok.m (fst_len ns row)).1
    have l4 : (lha ns (fst ns row)).length ≤ 4 := by
      have q := congrArg List.length ln
      unfold lenN at q
      rw [List.length_map] at q
      rw [q]
      exact ok.1
    have l24 : ∀ l ∈ lha ns (fst ns row), l.length ≤ 24 := fun l hl => (ok.2 _ (lha_in ok.m _ l hl)).2
    refine ⟨?_, ?_, ?_⟩
    · show (decide ((reprText "loops").length ≤ 1000) && (fits 420 (dLoops (lha ns (fst ns row))) && true)) = true
      rw [g]
      decide +kernel
    · have e := depth_loops (lha ns (fst ns row))
      show max 0 (max (PyData.depthAll ((lha ns (fst ns row)).map dInts) + 1) 0) + 1 ≤ 3
      omega
    · have e := room_loops 420 24 (lha ns (fst ns row)) l24
      show 1000 + 2 + ((room.go 420 ((lha ns (fst ns row)).map dInts) + 4) + 2 + 0) + 4 ≤ 200000
      have : ((420 + 3) * 24 + 6) * (lha ns (fst ns row)).length ≤ ((420 + 3) * 24 + 6) * 4 := Nat.mul_le_mul_left _ l4
      omega
theorem pap_parts {ns : List Nat} {ps : List Int} {pd : PyData} (okm : OkM ns) (h : IsPap ns ps pd) : fits 420 pd = true ∧ pd.depth ≤ 1 ∧ room 420 pd ≤ 3000 := by
  have big : (2 : Nat) ^ 41 < 10 ^ 420 := by decide +kernel
  cases h with
  | @nev i j hij hj h3 h4 =>
    have l6 := okm.1
    have b : ∀ u : Nat, u ≤ 6 → fits 420 (.int (u : Nat)) = true := fun u hu => decide_eq_true (by rw [Int.natAbs_natCast]; exact Nat.lt_of_le_of_lt (Nat.le_trans hu (by decide)) big)
    refine ⟨?_, Nat.le_of_ble_eq_true rfl, Nat.le_of_ble_eq_true rfl⟩
    show (decide ((reprText "never").length ≤ 1000) && (fits 420 (.int (i : Nat)) && (fits 420 (.int (j : Nat)) && true))) = true
    rw [b i (by omega), b j (by omega)]
    decide +kernel
  | @tck t h2 h0 h1 h3 =>
    have l := okm_lcm okm
    have b : fits 420 (.int t) = true := decide_eq_true (Nat.lt_trans (by omega) big)
    refine ⟨?_, Nat.le_of_ble_eq_true rfl, Nat.le_of_ble_eq_true rfl⟩
    show (decide ((reprText "tick").length ≤ 1000) && (fits 420 (.int t) && true)) = true
    rw [b]
    decide +kernel
theorem tells9 {ns : List Nat} {row ps : List Int} {pd X : PyData} {wd sd : Str} {dds : List PyData} (ok : OkF ns) (rl : row.length ≤ 200) (rb : ∀ z ∈ row, z.natAbs ≤ 2 ^ 137) (hpd : IsPap ns ps pd) (hh : Holds ns row wd (fitD ns row)) (eF : fitD ns row = .tuple [.str wd, X])
    (hsd : pd = .tuple (.str sd :: dds)) (zsm : ∀ z ∈ grw ns (List.replicate (du ns) 0) 7, z.natAbs < 10 ^ 400) : Tells (.list (data9 ns row pd wd sd)) := by
  obtain ⟨a1, a2, a3⟩ := fit_parts ok rl rb
  obtain ⟨b1, b2, b3⟩ := pap_parts ok.m hpd
  have d96 := du_96 ok
  have n4 := ok.1
  have up : ∀ {z : Int} {b : Nat}, z.natAbs < 10 ^ b → b ≤ 420 → z.natAbs < 10 ^ 420 := fun h hb => Nat.lt_of_lt_of_le h (Nat.pow_le_pow_right (by decide) hb)
  have f1 : fits 420 (dInts (NN ns)) = true := fits_ints fun z hz => by
    obtain ⟨n, hn, rfl⟩ := List.mem_map.mp hz
    have := ok.2 n hn
    exact up (b := 2) (show ((n : Nat) : Int).natAbs < 10 ^ 2 by rw [Int.natAbs_natCast]; omega) (by decide)
  have f2 : fits 420 (.int ((dueN (NN ns) : Nat) : Int)) = true := decide_eq_true (up (b := 2) (show ((du ns : Nat) : Int).natAbs < 10 ^ 2 by rw [Int.natAbs_natCast]; omega) (by decide))
  have f3 : fits 420 (dInts (wl ns)) = true := fits_ints fun z hz => pow_digits (wl_few ok.2 z hz) (by decide)
  have f6 : fits 420 (dInts ((grw ns (List.replicate (du ns) 0) 7).drop (du ns))) = true := fits_ints fun z hz => up (zsm z (List.mem_of_mem_drop hz)) (by decide)
  have f7 : fits 420 (.str wd) = true := by
    clear a1 a2 a3 rb rl
    generalize fitD ns row = d at hh eF
    cases hh <;> decide +kernel
  have f9 : fits 420 (.str sd) = true := by
    cases hpd with
    | nev _ _ _ _ =>
      injection hsd with q
      injection q with q _
      rw [← q]
      decide +kernel
    | tck _ _ _ _ =>
      injection hsd with q
      injection q with q _
      rw [← q]
      decide +kernel
  have gz : ∀ l ∈ dec ns, ∀ z ∈ l, z.natAbs < 10 ^ 420 := fun l hl z hz => pow_digits (dec_few ok l hl z hz) (by decide)
  have f8 : fits 420 (dLoops (dec ns)) = true := fits_loops2 gz
  have ln := (dec_main ok.m).1
  have l4 : (dec ns).length ≤ 4 := by
    have q := congrArg List.length ln
    unfold lenN at q
    rw [List.length_map] at q
    rw [q]
    exact ok.1
  have l24 : ∀ l ∈ dec ns, l.length ≤ 24 := fun l hl => by
    have m : l.length ∈ lenN (dec ns) := List.mem_map_of_mem hl
    rw [ln] at m
    exact (ok.2 _ m).2
  refine tells 420 (by decide) (by decide) rfl ?_ ?_ ?_
  · show (fits 420 (dInts (NN ns)) && (fits 420 (.int ((dueN (NN ns) : Nat) : Int)) && (fits 420 (dInts (wl ns)) && (fits 420 (fitD ns row) && (fits 420 pd && (fits 420 (dInts ((grw ns (List.replicate (du ns) 0) 7).drop (du ns))) && (fits 420 (.str wd) && (fits 420 (dLoops (dec ns)) && (fits 420 (.str sd) && true))))))))) = true
    rw [f1, f2, f3, a1, b1, f6, f7, f8, f9]
    rfl
  · have e1 := depth_ints (NN ns)
    have e3 := depth_ints (wl ns)
    have e6 := depth_ints ((grw ns (List.replicate (du ns) 0) 7).drop (du ns))
    have e8 := depth_loops (dec ns)
    show max (PyData.depthAll ((NN ns).map PyData.int) + 1) (max 0 (max (PyData.depthAll ((wl ns).map PyData.int) + 1) (max (fitD ns row).depth (max pd.depth (max (PyData.depthAll (((grw ns (List.replicate (du ns) 0) 7).drop (du ns)).map PyData.int) + 1) (max 0 (max (PyData.depthAll ((dec ns).map dInts) + 1) (max 0 0)))))))) + 1 ≤ 8
    omega
  · have e1 := room_ints 420 (NN ns)
    have e3 := room_ints 420 (wl ns)
    have e6 := room_ints 420 ((grw ns (List.replicate (du ns) 0) 7).drop (du ns))
    have e8 := room_loops 420 24 (dec ns) l24
    have l1 : (NN ns).length = ns.length := nn_len ns
    have l3 := wl_len ok.m
    have l6 : ((grw ns (List.replicate (du ns) 0) 7).drop (du ns)).length = 7 := by rw [List.length_drop, grw_len, List.length_replicate]; omega
    show (room.go 420 ((NN ns).map PyData.int) + 4) + 2 + (421 + 2 + ((room.go 420 ((wl ns).map PyData.int) + 4) + 2 + (room 420 (fitD ns row) + 2 + (room 420 pd + 2 + ((room.go 420 (((grw ns (List.replicate (du ns) 0) 7).drop (du ns)).map PyData.int) + 4) + 2 + (1000 + 2 + ((room.go 420 ((dec ns).map dInts) + 4) + 2 + (1000 + 2 + 0)))))))) + 4 ≤ 16000000
    rw [e1, e3, e6, l1, l3, l6]
    have : ((420 + 3) * 24 + 6) * (dec ns).length ≤ ((420 + 3) * 24 + 6) * 4 := Nat.mul_le_mul_left _ l4
    omega

end My

namespace My
open PySem PySem.Spec PyProof.Rows L2
def topS (i : Nat) : Stmt := PySem.Challenge.pw_pedalrounds_k27_loops_by_names.main.body.getD i (.Pass ⟨0, 0, 0, 0⟩)
abbrev s_is_whole : Stmt := topS 7
abbrev s_are_samples : Stmt := topS 8
abbrev s_are_at_most : Stmt := topS 9
abbrev s_begins : Stmt := topS 10
abbrev s_is_tick : Stmt := topS 11
abbrev s_need_tick : Stmt := topS 12
abbrev s_need_many : Stmt := topS 13
abbrev s_need_loops : Stmt := topS 17
abbrev s_lengths_of : Stmt := topS 18
abbrev s_heard : Stmt := topS 19
abbrev s_heard_row : Stmt := topS 20
abbrev s_later : Stmt := topS 21
abbrev s_sum_at : Stmt := topS 22
abbrev s_begun_at : Stmt := topS 23
abbrev s_need_lengths : Stmt := topS 27
abbrev s_span : Stmt := topS 28
abbrev s_weights : Stmt := topS 29
abbrev s_carried : Stmt := topS 30
abbrev s_weighted : Stmt := topS 31
abbrev s_common_divisor : Stmt := topS 32
abbrev s_common_multiple : Stmt := topS 33
abbrev s_ring_powers : Stmt := topS 34
abbrev s_times_ring : Stmt := topS 35
abbrev s_over_ring : Stmt := topS 36
abbrev s_first_apart : Stmt := topS 38
abbrev s_period : Stmt := topS 39
abbrev s_silent : Stmt := topS 40
abbrev s_parted_at : Stmt := topS 41
abbrev s_leads_round : Stmt := topS 42
abbrev s_fit : Stmt := topS 47
abbrev s_check_fit : Stmt := topS 48
abbrev s_deceiver : Stmt := topS 49
abbrev s_need_few : Stmt := topS 50
abbrev s_need_samples : Stmt := topS 51
abbrev s_first_ground : Stmt := topS 52
abbrev s_is_ground : Stmt := topS 53
abbrev s_are_heard_as : Stmt := topS 54
abbrev s_loops_heard_as : Stmt := topS 55
abbrev s_mixed : Stmt := topS 56
abbrev s_deceiver_of : Stmt := topS 57
abbrev s_last_loop : Stmt := topS 58
abbrev s_strides : Stmt := topS 59
abbrev s_strides_to : Stmt := topS 60
abbrev s_meeting : Stmt := topS 62
abbrev s_check_meeting : Stmt := topS 63
abbrev s_need_places : Stmt := topS 64
abbrev s_never_meet : Stmt := topS 65
abbrev s_first_meeting : Stmt := topS 66
abbrev s_is_first_meeting : Stmt := topS 67
abbrev s__law_begun : Stmt := topS 69
abbrev s__law_next : Stmt := topS 70
abbrev s__law_drawn : Stmt := topS 71
abbrev s__law_loops_right : Stmt := topS 72
abbrev s__law_lengths_right : Stmt := topS 73
abbrev s_law : Stmt := topS 74
theorem sc_is_whole : FnScope ["thing"] ["thing"] (defScope s_is_whole) := ⟨rfl, rfl, rfl, by decide +kernel, rfl, by decide +kernel, by decide +kernel⟩
theorem sc_are_samples : FnScope ["thing", "many", "sample"] ["thing", "many"] (defScope s_are_samples) := ⟨rfl, rfl, rfl, by decide +kernel, rfl, by decide +kernel, by decide +kernel⟩
theorem sc_are_at_most : FnScope ["thing", "most"] ["thing", "most"] (defScope s_are_at_most) := ⟨rfl, rfl, rfl, by decide +kernel, rfl, by decide +kernel, by decide +kernel⟩
theorem sc_begins : FnScope ["paper", "word", "many"] ["paper", "word", "many"] (defScope s_begins) := ⟨rfl, rfl, rfl, by decide +kernel, rfl, by decide +kernel, by decide +kernel⟩
theorem sc_is_tick : FnScope ["thing"] ["thing"] (defScope s_is_tick) := ⟨rfl, rfl, rfl, by decide +kernel, rfl, by decide +kernel, by decide +kernel⟩
theorem sc_need_tick : FnScope ["thing"] ["thing"] (defScope s_need_tick) := ⟨rfl, rfl, rfl, by decide +kernel, rfl, by decide +kernel, by decide +kernel⟩
theorem sc_need_many : FnScope ["thing"] ["thing"] (defScope s_need_many) := ⟨rfl, rfl, rfl, by decide +kernel, rfl, by decide +kernel, by decide +kernel⟩
theorem sc_need_loops : FnScope ["thing", "at", "loop", "index", "sounded"] ["thing"] (defScope s_need_loops) := ⟨rfl, rfl, rfl, by decide +kernel, rfl, by decide +kernel, by decide +kernel⟩
theorem sc_lengths_of : FnScope ["loops", "loop"] ["loops"] (defScope s_lengths_of) := ⟨rfl, rfl, rfl, by decide +kernel, rfl, by decide +kernel, by decide +kernel⟩
theorem sc_heard : FnScope ["loops", "tick"] ["loops", "tick"] (defScope s_heard) := ⟨rfl, rfl, rfl, by decide +kernel, rfl, by decide +kernel, by decide +kernel⟩
theorem sc_heard_row : FnScope ["loops", "tick", "many", "step"] ["loops", "tick", "many"] (defScope s_heard_row) := ⟨rfl, rfl, rfl, by decide +kernel, rfl, by decide +kernel, by decide +kernel⟩
theorem sc_later : FnScope ["loops", "ticks", "loop"] ["loops", "ticks"] (defScope s_later) := ⟨rfl, rfl, rfl, by decide +kernel, rfl, by decide +kernel, by decide +kernel⟩
theorem sc_sum_at : FnScope ["loops", "tick", "loop"] ["loops", "tick"] (defScope s_sum_at) := ⟨rfl, rfl, rfl, by decide +kernel, rfl, by decide +kernel, by decide +kernel⟩
theorem sc_begun_at : FnScope ["loop", "index"] ["loop", "index"] (defScope s_begun_at) := ⟨rfl, rfl, rfl, by decide +kernel, rfl, by decide +kernel, by decide +kernel⟩
theorem sc_need_lengths : FnScope ["thing", "at", "length"] ["thing"] (defScope s_need_lengths) := ⟨rfl, rfl, rfl, by decide +kernel, rfl, by decide +kernel, by decide +kernel⟩
theorem sc_span : FnScope ["lengths", "common", "under", "number"] ["lengths"] (defScope s_span) := ⟨rfl, rfl, rfl, by decide +kernel, rfl, by decide +kernel, by decide +kernel⟩
theorem sc_weights : FnScope ["lengths", "powers", "product", "length", "power", "turn"] ["lengths"] (defScope s_weights) := ⟨rfl, rfl, rfl, by decide +kernel, rfl, by decide +kernel, by decide +kernel⟩
theorem sc_carried : FnScope ["lengths", "row", "many", "known", "samples", "tick"] ["lengths", "row", "many"] (defScope s_carried) := ⟨rfl, rfl, rfl, by decide +kernel, rfl, by decide +kernel, by decide +kernel⟩
theorem sc_weighted : FnScope ["factors", "samples", "factor", "sample"] ["factors", "samples"] (defScope s_weighted) := ⟨rfl, rfl, rfl, by decide +kernel, rfl, by decide +kernel, by decide +kernel⟩
theorem sc_common_divisor : FnScope ["one", "other"] ["one", "other"] (defScope s_common_divisor) := ⟨rfl, rfl, rfl, by decide +kernel, rfl, by decide +kernel, by decide +kernel⟩
theorem sc_common_multiple : FnScope ["lengths", "common", "length"] ["lengths"] (defScope s_common_multiple) := ⟨rfl, rfl, rfl, by decide +kernel, rfl, by decide +kernel, by decide +kernel⟩
theorem sc_ring_powers : FnScope ["lengths", "powers", "ring", "taken", "length", "above"] ["lengths"] (defScope s_ring_powers) := ⟨rfl, rfl, rfl, by decide +kernel, rfl, by decide +kernel, by decide +kernel⟩
theorem sc_times_ring : FnScope ["product", "length", "gap", "raised", "held"] ["product", "length"] (defScope s_times_ring) := ⟨rfl, rfl, rfl, by decide +kernel, rfl, by decide +kernel, by decide +kernel⟩
theorem sc_over_ring : FnScope ["product", "length", "quotient", "at"] ["product", "length"] (defScope s_over_ring) := ⟨rfl, rfl, rfl, by decide +kernel, rfl, by decide +kernel, by decide +kernel⟩
theorem sc_first_apart : FnScope ["one", "other"] ["one", "other"] (defScope s_first_apart) := ⟨rfl, rfl, rfl, by decide +kernel, rfl, by decide +kernel, by decide +kernel⟩
theorem sc_period : FnScope ["loops", "ticks", "divisor", "loop"] ["loops"] (defScope s_period) := ⟨rfl, rfl, rfl, by decide +kernel, rfl, by decide +kernel, by decide +kernel⟩
theorem sc_silent : FnScope ["loops"] ["loops"] (defScope s_silent) := ⟨rfl, rfl, rfl, by decide +kernel, rfl, by decide +kernel, by decide +kernel⟩
theorem sc_parted_at : FnScope ["one", "other", "tick", "loop"] ["one", "other"] (defScope s_parted_at) := ⟨rfl, rfl, rfl, by decide +kernel, rfl, by decide +kernel, by decide +kernel⟩
theorem sc_leads_round : FnScope ["loops", "ticks", "moved", "loop"] ["loops", "ticks"] (defScope s_leads_round) := ⟨rfl, rfl, rfl, by decide +kernel, rfl, by decide +kernel, by decide +kernel⟩
theorem sc_fit : FnScope ["lengths", "row", "known", "ground", "many", "first"] ["lengths", "row"] (defScope s_fit) := ⟨rfl, rfl, rfl, by decide +kernel, rfl, by decide +kernel, by decide +kernel⟩
theorem sc_check_fit : FnScope ["lengths", "row", "paper"] ["lengths", "row", "paper"] (defScope s_check_fit) := ⟨rfl, rfl, rfl, by decide +kernel, rfl, by decide +kernel, by decide +kernel⟩
theorem sc_deceiver : FnScope ["lengths"] ["lengths"] (defScope s_deceiver) := ⟨rfl, rfl, rfl, by decide +kernel, rfl, by decide +kernel, by decide +kernel⟩
theorem sc_need_few : FnScope ["lengths", "length"] ["lengths"] (defScope s_need_few) := ⟨rfl, rfl, rfl, by decide +kernel, rfl, by decide +kernel, by decide +kernel⟩
theorem sc_need_samples : FnScope ["row"] ["row"] (defScope s_need_samples) := ⟨rfl, rfl, rfl, by decide +kernel, rfl, by decide +kernel, by decide +kernel⟩
theorem sc_first_ground : FnScope ["known", "row", "tick", "ahead"] ["known", "row"] (defScope s_first_ground) := ⟨rfl, rfl, rfl, by decide +kernel, rfl, by decide +kernel, by decide +kernel⟩
theorem sc_is_ground : FnScope ["lengths", "row", "ground", "sums", "length", "rest", "total"] ["lengths", "row", "ground"] (defScope s_is_ground) := ⟨rfl, rfl, rfl, by decide +kernel, rfl, by decide +kernel, by decide +kernel⟩
theorem sc_are_heard_as : FnScope ["lengths", "row", "loops", "loop", "tick"] ["lengths", "row", "loops"] (defScope s_are_heard_as) := ⟨rfl, rfl, rfl, by decide +kernel, rfl, by decide +kernel, by decide +kernel⟩
theorem sc_loops_heard_as : FnScope ["lengths", "row", "known", "many", "factors", "tick", "loop"] ["lengths", "row"] (defScope s_loops_heard_as) := ⟨rfl, rfl, rfl, by decide +kernel, rfl, by decide +kernel, by decide +kernel⟩
theorem sc_mixed : FnScope ["loop", "factors", "last", "begun", "at", "tick", "ring"] ["loop", "factors"] (defScope s_mixed) := ⟨rfl, rfl, rfl, by decide +kernel, rfl, by decide +kernel, by decide +kernel⟩
theorem sc_deceiver_of : FnScope ["lengths", "loop", "others", "last", "left", "tick"] ["lengths"] (defScope s_deceiver_of) := ⟨rfl, rfl, rfl, by decide +kernel, rfl, by decide +kernel, by decide +kernel⟩
theorem sc_last_loop : FnScope ["lengths", "length", "loop", "ring", "power", "common", "turn"] ["lengths"] (defScope s_last_loop) := ⟨rfl, rfl, rfl, by decide +kernel, rfl, by decide +kernel, by decide +kernel⟩
theorem sc_strides : FnScope ["loop", "step", "many", "length", "tick", "turn"] ["loop", "step", "many"] (defScope s_strides) := ⟨rfl, rfl, rfl, by decide +kernel, rfl, by decide +kernel, by decide +kernel⟩
theorem sc_strides_to : FnScope ["step", "place", "length", "many"] ["step", "place", "length"] (defScope s_strides_to) := ⟨rfl, rfl, rfl, by decide +kernel, rfl, by decide +kernel, by decide +kernel⟩
theorem sc_meeting : FnScope ["lengths", "places", "one", "other"] ["lengths", "places"] (defScope s_meeting) := ⟨rfl, rfl, rfl, by decide +kernel, rfl, by decide +kernel, by decide +kernel⟩
theorem sc_check_meeting : FnScope ["lengths", "places", "paper", "one", "other"] ["lengths", "places", "paper"] (defScope s_check_meeting) := ⟨rfl, rfl, rfl, by decide +kernel, rfl, by decide +kernel, by decide +kernel⟩
theorem sc_need_places : FnScope ["lengths", "places", "place", "length"] ["lengths", "places"] (defScope s_need_places) := ⟨rfl, rfl, rfl, by decide +kernel, rfl, by decide +kernel, by decide +kernel⟩
theorem sc_never_meet : FnScope ["lengths", "places", "one", "other"] ["lengths", "places", "one", "other"] (defScope s_never_meet) := ⟨rfl, rfl, rfl, by decide +kernel, rfl, by decide +kernel, by decide +kernel⟩
theorem sc_first_meeting : FnScope ["lengths", "places", "tick", "round_of_all", "length", "place"] ["lengths", "places"] (defScope s_first_meeting) := ⟨rfl, rfl, rfl, by decide +kernel, rfl, by decide +kernel, by decide +kernel⟩
theorem sc_is_first_meeting : FnScope ["lengths", "places", "tick", "length", "place"] ["lengths", "places", "tick"] (defScope s_is_first_meeting) := ⟨rfl, rfl, rfl, by decide +kernel, rfl, by decide +kernel, by decide +kernel⟩
theorem sc__law_begun : FnScope ["script", "cell"] ["script"] (defScope s__law_begun) := ⟨rfl, rfl, rfl, by decide +kernel, rfl, by decide +kernel, by decide +kernel⟩
theorem sc__law_next : FnScope ["m", "limit", "rest", "k", "cell", "mixed_v"] ["m", "limit"] (defScope s__law_next) := ⟨rfl, rfl, rfl, by decide +kernel, rfl, by decide +kernel, by decide +kernel⟩
theorem sc__law_drawn : FnScope ["m", "sizes", "found", "size", "k"] ["m", "sizes"] (defScope s__law_drawn) := ⟨rfl, rfl, rfl, by decide +kernel, rfl, by decide +kernel, by decide +kernel⟩
theorem sc__law_loops_right : FnScope ["g", "h", "t", "named", "due"] ["g", "h", "t"] (defScope s__law_loops_right) := ⟨rfl, rfl, rfl, by decide +kernel, rfl, by decide +kernel, by decide +kernel⟩
theorem sc__law_lengths_right : FnScope ["s", "r", "p", "f", "w", "named", "due"] ["s", "r", "p"] (defScope s__law_lengths_right) := ⟨rfl, rfl, rfl, by decide +kernel, rfl, by decide +kernel, by decide +kernel⟩
theorem sc_law : FnScope ["script", "m", "turn", "s", "g", "h", "p", "r", "k"] ["script"] (defScope s_law) := ⟨rfl, rfl, rfl, by decide +kernel, rfl, by decide +kernel, by decide +kernel⟩
abbrev s_BadLoops_init : Stmt := inClass (topS 1) 0
theorem sc_BadLoops_init : FnScope ["self", "place"] ["self", "place"] (defScope s_BadLoops_init) := ⟨rfl, rfl, rfl, by decide +kernel, rfl, by decide +kernel, by decide +kernel⟩
structure Top (K : PySem.W.Frag) (mg : Str → Option Value) where
  a_is_whole : Addr
  d_is_whole : FuncData
  F_is_whole : Fun K "is_whole" "is_whole" s_is_whole a_is_whole d_is_whole
  m_is_whole : mg "is_whole" = some (.ref a_is_whole)
  b_is_whole : Binds K d_is_whole ["thing"] []
  a_are_samples : Addr
  d_are_samples : FuncData
  F_are_samples : Fun K "are_samples" "are_samples" s_are_samples a_are_samples d_are_samples
  m_are_samples : mg "are_samples" = some (.ref a_are_samples)
  b_are_samples : Binds K d_are_samples ["thing", "many"] []
  a_are_at_most : Addr
  d_are_at_most : FuncData
  F_are_at_most : Fun K "are_at_most" "are_at_most" s_are_at_most a_are_at_most d_are_at_most
  m_are_at_most : mg "are_at_most" = some (.ref a_are_at_most)
  b_are_at_most : Binds K d_are_at_most ["thing", "most"] []
  a_begins : Addr
  d_begins : FuncData
  F_begins : Fun K "begins" "begins" s_begins a_begins d_begins
  m_begins : mg "begins" = some (.ref a_begins)
  b_begins : Binds K d_begins ["paper", "word", "many"] []
  a_is_tick : Addr
  d_is_tick : FuncData
  F_is_tick : Fun K "is_tick" "is_tick" s_is_tick a_is_tick d_is_tick
  m_is_tick : mg "is_tick" = some (.ref a_is_tick)
  b_is_tick : Binds K d_is_tick ["thing"] []
  a_need_tick : Addr
  d_need_tick : FuncData
  F_need_tick : Fun K "need_tick" "need_tick" s_need_tick a_need_tick d_need_tick
  m_need_tick : mg "need_tick" = some (.ref a_need_tick)
  b_need_tick : Binds K d_need_tick ["thing"] []
  a_need_many : Addr
  d_need_many : FuncData
  F_need_many : Fun K "need_many" "need_many" s_need_many a_need_many d_need_many
  m_need_many : mg "need_many" = some (.ref a_need_many)
  b_need_many : Binds K d_need_many ["thing"] []
  a_need_loops : Addr
  d_need_loops : FuncData
  F_need_loops : Fun K "need_loops" "need_loops" s_need_loops a_need_loops d_need_loops
  m_need_loops : mg "need_loops" = some (.ref a_need_loops)
  b_need_loops : Binds K d_need_loops ["thing"] []
  a_lengths_of : Addr
  d_lengths_of : FuncData
  F_lengths_of : Fun K "lengths_of" "lengths_of" s_lengths_of a_lengths_of d_lengths_of
  m_lengths_of : mg "lengths_of" = some (.ref a_lengths_of)
  b_lengths_of : Binds K d_lengths_of ["loops"] []
  a_heard : Addr
  d_heard : FuncData
  F_heard : Fun K "heard" "heard" s_heard a_heard d_heard
  m_heard : mg "heard" = some (.ref a_heard)
  b_heard : Binds K d_heard ["loops", "tick"] []
  a_heard_row : Addr
  d_heard_row : FuncData
  F_heard_row : Fun K "heard_row" "heard_row" s_heard_row a_heard_row d_heard_row
  m_heard_row : mg "heard_row" = some (.ref a_heard_row)
  b_heard_row : Binds K d_heard_row ["loops", "tick", "many"] []
  a_later : Addr
  d_later : FuncData
  F_later : Fun K "later" "later" s_later a_later d_later
  m_later : mg "later" = some (.ref a_later)
  b_later : Binds K d_later ["loops", "ticks"] []
  a_sum_at : Addr
  d_sum_at : FuncData
  F_sum_at : Fun K "sum_at" "sum_at" s_sum_at a_sum_at d_sum_at
  m_sum_at : mg "sum_at" = some (.ref a_sum_at)
  b_sum_at : Binds K d_sum_at ["loops", "tick"] []
  a_begun_at : Addr
  d_begun_at : FuncData
  F_begun_at : Fun K "begun_at" "begun_at" s_begun_at a_begun_at d_begun_at
  m_begun_at : mg "begun_at" = some (.ref a_begun_at)
  b_begun_at : Binds K d_begun_at ["loop", "index"] []
  a_need_lengths : Addr
  d_need_lengths : FuncData
  F_need_lengths : Fun K "need_lengths" "need_lengths" s_need_lengths a_need_lengths d_need_lengths
  m_need_lengths : mg "need_lengths" = some (.ref a_need_lengths)
  b_need_lengths : Binds K d_need_lengths ["thing"] []
  a_span : Addr
  d_span : FuncData
  F_span : Fun K "span" "span" s_span a_span d_span
  m_span : mg "span" = some (.ref a_span)
  b_span : Binds K d_span ["lengths"] []
  a_weights : Addr
  d_weights : FuncData
  F_weights : Fun K "weights" "weights" s_weights a_weights d_weights
  m_weights : mg "weights" = some (.ref a_weights)
  b_weights : Binds K d_weights ["lengths"] []
  a_carried : Addr
  d_carried : FuncData
  F_carried : Fun K "carried" "carried" s_carried a_carried d_carried
  m_carried : mg "carried" = some (.ref a_carried)
  b_carried : Binds K d_carried ["lengths", "row", "many"] []
  a_weighted : Addr
  d_weighted : FuncData
  F_weighted : Fun K "weighted" "weighted" s_weighted a_weighted d_weighted
  m_weighted : mg "weighted" = some (.ref a_weighted)
  b_weighted : Binds K d_weighted ["factors", "samples"] []
  a_common_divisor : Addr
  d_common_divisor : FuncData
  F_common_divisor : Fun K "common_divisor" "common_divisor" s_common_divisor a_common_divisor d_common_divisor
  m_common_divisor : mg "common_divisor" = some (.ref a_common_divisor)
  b_common_divisor : Binds K d_common_divisor ["one", "other"] []
  a_common_multiple : Addr
  d_common_multiple : FuncData
  F_common_multiple : Fun K "common_multiple" "common_multiple" s_common_multiple a_common_multiple d_common_multiple
  m_common_multiple : mg "common_multiple" = some (.ref a_common_multiple)
  b_common_multiple : Binds K d_common_multiple ["lengths"] []
  a_ring_powers : Addr
  d_ring_powers : FuncData
  F_ring_powers : Fun K "ring_powers" "ring_powers" s_ring_powers a_ring_powers d_ring_powers
  m_ring_powers : mg "ring_powers" = some (.ref a_ring_powers)
  b_ring_powers : Binds K d_ring_powers ["lengths"] []
  a_times_ring : Addr
  d_times_ring : FuncData
  F_times_ring : Fun K "times_ring" "times_ring" s_times_ring a_times_ring d_times_ring
  m_times_ring : mg "times_ring" = some (.ref a_times_ring)
  b_times_ring : Binds K d_times_ring ["product", "length"] []
  a_over_ring : Addr
  d_over_ring : FuncData
  F_over_ring : Fun K "over_ring" "over_ring" s_over_ring a_over_ring d_over_ring
  m_over_ring : mg "over_ring" = some (.ref a_over_ring)
  b_over_ring : Binds K d_over_ring ["product", "length"] []
  a_first_apart : Addr
  d_first_apart : FuncData
  F_first_apart : Fun K "first_apart" "first_apart" s_first_apart a_first_apart d_first_apart
  m_first_apart : mg "first_apart" = some (.ref a_first_apart)
  b_first_apart : Binds K d_first_apart ["one", "other"] []
  a_period : Addr
  d_period : FuncData
  F_period : Fun K "period" "period" s_period a_period d_period
  m_period : mg "period" = some (.ref a_period)
  b_period : Binds K d_period ["loops"] []
  a_silent : Addr
  d_silent : FuncData
  F_silent : Fun K "silent" "silent" s_silent a_silent d_silent
  m_silent : mg "silent" = some (.ref a_silent)
  b_silent : Binds K d_silent ["loops"] []
  a_parted_at : Addr
  d_parted_at : FuncData
  F_parted_at : Fun K "parted_at" "parted_at" s_parted_at a_parted_at d_parted_at
  m_parted_at : mg "parted_at" = some (.ref a_parted_at)
  b_parted_at : Binds K d_parted_at ["one", "other"] []
  a_leads_round : Addr
  d_leads_round : FuncData
  F_leads_round : Fun K "leads_round" "leads_round" s_leads_round a_leads_round d_leads_round
  m_leads_round : mg "leads_round" = some (.ref a_leads_round)
  b_leads_round : Binds K d_leads_round ["loops", "ticks"] []
  a_fit : Addr
  d_fit : FuncData
  F_fit : Fun K "fit" "fit" s_fit a_fit d_fit
  m_fit : mg "fit" = some (.ref a_fit)
  b_fit : Binds K d_fit ["lengths", "row"] []
  a_check_fit : Addr
  d_check_fit : FuncData
  F_check_fit : Fun K "check_fit" "check_fit" s_check_fit a_check_fit d_check_fit
  m_check_fit : mg "check_fit" = some (.ref a_check_fit)
  b_check_fit : Binds K d_check_fit ["lengths", "row", "paper"] []
  a_deceiver : Addr
  d_deceiver : FuncData
  F_deceiver : Fun K "deceiver" "deceiver" s_deceiver a_deceiver d_deceiver
  m_deceiver : mg "deceiver" = some (.ref a_deceiver)
  b_deceiver : Binds K d_deceiver ["lengths"] []
  a_need_few : Addr
  d_need_few : FuncData
  F_need_few : Fun K "need_few" "need_few" s_need_few a_need_few d_need_few
  m_need_few : mg "need_few" = some (.ref a_need_few)
  b_need_few : Binds K d_need_few ["lengths"] []
  a_need_samples : Addr
  d_need_samples : FuncData
  F_need_samples : Fun K "need_samples" "need_samples" s_need_samples a_need_samples d_need_samples
  m_need_samples : mg "need_samples" = some (.ref a_need_samples)
  b_need_samples : Binds K d_need_samples ["row"] []
  a_first_ground : Addr
  d_first_ground : FuncData
  F_first_ground : Fun K "first_ground" "first_ground" s_first_ground a_first_ground d_first_ground
  m_first_ground : mg "first_ground" = some (.ref a_first_ground)
  b_first_ground : Binds K d_first_ground ["known", "row"] []
  a_is_ground : Addr
  d_is_ground : FuncData
  F_is_ground : Fun K "is_ground" "is_ground" s_is_ground a_is_ground d_is_ground
  m_is_ground : mg "is_ground" = some (.ref a_is_ground)
  b_is_ground : Binds K d_is_ground ["lengths", "row", "ground"] []
  a_are_heard_as : Addr
  d_are_heard_as : FuncData
  F_are_heard_as : Fun K "are_heard_as" "are_heard_as" s_are_heard_as a_are_heard_as d_are_heard_as
  m_are_heard_as : mg "are_heard_as" = some (.ref a_are_heard_as)
  b_are_heard_as : Binds K d_are_heard_as ["lengths", "row", "loops"] []
  a_loops_heard_as : Addr
  d_loops_heard_as : FuncData
  F_loops_heard_as : Fun K "loops_heard_as" "loops_heard_as" s_loops_heard_as a_loops_heard_as d_loops_heard_as
  m_loops_heard_as : mg "loops_heard_as" = some (.ref a_loops_heard_as)
  b_loops_heard_as : Binds K d_loops_heard_as ["lengths", "row"] []
  a_mixed : Addr
  d_mixed : FuncData
  F_mixed : Fun K "mixed" "mixed" s_mixed a_mixed d_mixed
  m_mixed : mg "mixed" = some (.ref a_mixed)
  b_mixed : Binds K d_mixed ["loop", "factors"] []
  a_deceiver_of : Addr
  d_deceiver_of : FuncData
  F_deceiver_of : Fun K "deceiver_of" "deceiver_of" s_deceiver_of a_deceiver_of d_deceiver_of
  m_deceiver_of : mg "deceiver_of" = some (.ref a_deceiver_of)
  b_deceiver_of : Binds K d_deceiver_of ["lengths"] []
  a_last_loop : Addr
  d_last_loop : FuncData
  F_last_loop : Fun K "last_loop" "last_loop" s_last_loop a_last_loop d_last_loop
  m_last_loop : mg "last_loop" = some (.ref a_last_loop)
  b_last_loop : Binds K d_last_loop ["lengths"] []
  a_strides : Addr
  d_strides : FuncData
  F_strides : Fun K "strides" "strides" s_strides a_strides d_strides
  m_strides : mg "strides" = some (.ref a_strides)
  b_strides : Binds K d_strides ["loop", "step", "many"] []
  a_strides_to : Addr
  d_strides_to : FuncData
  F_strides_to : Fun K "strides_to" "strides_to" s_strides_to a_strides_to d_strides_to
  m_strides_to : mg "strides_to" = some (.ref a_strides_to)
  b_strides_to : Binds K d_strides_to ["step", "place", "length"] []
  a_meeting : Addr
  d_meeting : FuncData
  F_meeting : Fun K "meeting" "meeting" s_meeting a_meeting d_meeting
  m_meeting : mg "meeting" = some (.ref a_meeting)
  b_meeting : Binds K d_meeting ["lengths", "places"] []
  a_check_meeting : Addr
  d_check_meeting : FuncData
  F_check_meeting : Fun K "check_meeting" "check_meeting" s_check_meeting a_check_meeting d_check_meeting
  m_check_meeting : mg "check_meeting" = some (.ref a_check_meeting)
  b_check_meeting : Binds K d_check_meeting ["lengths", "places", "paper"] []
  a_need_places : Addr
  d_need_places : FuncData
  F_need_places : Fun K "need_places" "need_places" s_need_places a_need_places d_need_places
  m_need_places : mg "need_places" = some (.ref a_need_places)
  b_need_places : Binds K d_need_places ["lengths", "places"] []
  a_never_meet : Addr
  d_never_meet : FuncData
  F_never_meet : Fun K "never_meet" "never_meet" s_never_meet a_never_meet d_never_meet
  m_never_meet : mg "never_meet" = some (.ref a_never_meet)
  b_never_meet : Binds K d_never_meet ["lengths", "places", "one", "other"] []
  a_first_meeting : Addr
  d_first_meeting : FuncData
  F_first_meeting : Fun K "first_meeting" "first_meeting" s_first_meeting a_first_meeting d_first_meeting
  m_first_meeting : mg "first_meeting" = some (.ref a_first_meeting)
  b_first_meeting : Binds K d_first_meeting ["lengths", "places"] []
  a_is_first_meeting : Addr
  d_is_first_meeting : FuncData
  F_is_first_meeting : Fun K "is_first_meeting" "is_first_meeting" s_is_first_meeting a_is_first_meeting d_is_first_meeting
  m_is_first_meeting : mg "is_first_meeting" = some (.ref a_is_first_meeting)
  b_is_first_meeting : Binds K d_is_first_meeting ["lengths", "places", "tick"] []
  a__law_begun : Addr
  d__law_begun : FuncData
  F__law_begun : Fun K "_law_begun" "_law_begun" s__law_begun a__law_begun d__law_begun
  m__law_begun : mg "_law_begun" = some (.ref a__law_begun)
  b__law_begun : Binds K d__law_begun ["script"] []
  a__law_next : Addr
  d__law_next : FuncData
  F__law_next : Fun K "_law_next" "_law_next" s__law_next a__law_next d__law_next
  m__law_next : mg "_law_next" = some (.ref a__law_next)
  b__law_next : Binds K d__law_next ["m", "limit"] []
  a__law_drawn : Addr
  d__law_drawn : FuncData
  F__law_drawn : Fun K "_law_drawn" "_law_drawn" s__law_drawn a__law_drawn d__law_drawn
  m__law_drawn : mg "_law_drawn" = some (.ref a__law_drawn)
  b__law_drawn : Binds K d__law_drawn ["m", "sizes"] []
  a__law_loops_right : Addr
  d__law_loops_right : FuncData
  F__law_loops_right : Fun K "_law_loops_right" "_law_loops_right" s__law_loops_right a__law_loops_right d__law_loops_right
  m__law_loops_right : mg "_law_loops_right" = some (.ref a__law_loops_right)
  b__law_loops_right : Binds K d__law_loops_right ["g", "h", "t"] []
  a__law_lengths_right : Addr
  d__law_lengths_right : FuncData
  F__law_lengths_right : Fun K "_law_lengths_right" "_law_lengths_right" s__law_lengths_right a__law_lengths_right d__law_lengths_right
  m__law_lengths_right : mg "_law_lengths_right" = some (.ref a__law_lengths_right)
  b__law_lengths_right : Binds K d__law_lengths_right ["s", "r", "p"] []
  a_law : Addr
  d_law : FuncData
  F_law : Fun K "law" "law" s_law a_law d_law
  m_law : mg "law" = some (.ref a_law)
  b_law : Binds K d_law ["script"] []
  x_BadLoops : ExcT K mg "BadLoops" "BadLoops.__init__" "place" s_BadLoops_init
  z_ValueError : mg "ValueError" = none
  v_ValueError : PySem.W.findCls K (.type "ValueError") (.type "type") "__init__" = some (.val (.builtin "ValueError.__init__"))
  z_isinstance : mg "isinstance" = none
  z_int : mg "int" = none
  z_bool : mg "bool" = none
  z_all : mg "all" = none
  z_tuple : mg "tuple" = none
  z_len : mg "len" = none
  z_str : mg "str" = none
  z_enumerate : mg "enumerate" = none
  z_range : mg "range" = none
  z_sum : mg "sum" = none
  z_list : mg "list" = none
  z_zip : mg "zip" = none
  z_any : mg "any" = none
  z_repr : mg "repr" = none
  z_min : mg "min" = none
  t_MOST_LOOPS : Tok
  c_MOST_LOOPS : mg "MOST_LOOPS" = some (.int 6 t_MOST_LOOPS)
  t_MOST_THINGS : Tok
  c_MOST_THINGS : mg "MOST_THINGS" = some (.int 64 t_MOST_THINGS)
  t_MOST_LENGTHS_spans : Tok
  c_MOST_LENGTHS_spans : mg "MOST_LENGTHS_spans" = some (.int 6 t_MOST_LENGTHS_spans)
  t_MOST_LENGTH_spans : Tok
  c_MOST_LENGTH_spans : mg "MOST_LENGTH_spans" = some (.int 64 t_MOST_LENGTH_spans)
  t_MOST_LENGTHS_fits : Tok
  c_MOST_LENGTHS_fits : mg "MOST_LENGTHS_fits" = some (.int 4 t_MOST_LENGTHS_fits)
  t_MOST_LENGTH_fits : Tok
  c_MOST_LENGTH_fits : mg "MOST_LENGTH_fits" = some (.int 24 t_MOST_LENGTH_fits)
  t_MOST_SAMPLES : Tok
  c_MOST_SAMPLES : mg "MOST_SAMPLES" = some (.int 200 t_MOST_SAMPLES)
end My

namespace My
open PySem PySem.Spec PyProof.Rows L2
theorem kb_silent_loops {K : PySem.W.Frag} {mg : Str → Option Value} (T : Top K mg) : KBn K T.d_silent ["loops"] 0 ["loops"] (fun _ ws => [0].map fun i => ws.getD i .none) (fun _ zs => [0].map fun i => zs.getD i .non) := kb0 T.F_silent [0] fun _ _ _ _ _ _ ws hl => match ws, hl with | [_], _ => rfl
theorem kb_period_loops {K : PySem.W.Frag} {mg : Str → Option Value} (T : Top K mg) : KBn K T.d_period ["loops"] 0 ["loops"] (fun _ ws => [0].map fun i => ws.getD i .none) (fun _ zs => [0].map fun i => zs.getD i .non) := kb0 T.F_period [0] fun _ _ _ _ _ _ ws hl => match ws, hl with | [_], _ => rfl
theorem kb_first_apart_other_one {K : PySem.W.Frag} {mg : Str → Option Value} (T : Top K mg) : KBn K T.d_first_apart ["one", "other"] 0 ["other", "one"] (fun _ ws => [1, 0].map fun i => ws.getD i .none) (fun _ zs => [1, 0].map fun i => zs.getD i .non) := kb0 T.F_first_apart [1, 0] fun _ _ _ _ _ _ ws hl => match ws, hl with | [_, _], _ => rfl
theorem kb_later_ticks_loops {K : PySem.W.Frag} {mg : Str → Option Value} (T : Top K mg) : KBn K T.d_later ["loops", "ticks"] 0 ["ticks", "loops"] (fun _ ws => [1, 0].map fun i => ws.getD i .none) (fun _ zs => [1, 0].map fun i => zs.getD i .non) := kb0 T.F_later [1, 0] fun _ _ _ _ _ _ ws hl => match ws, hl with | [_, _], _ => rfl
theorem kb_heard_row_many_tick_loops {K : PySem.W.Frag} {mg : Str → Option Value} (T : Top K mg) : KBn K T.d_heard_row ["loops", "tick", "many"] 0 ["many", "tick", "loops"] (fun _ ws => [2, 1, 0].map fun i => ws.getD i .none) (fun _ zs => [2, 1, 0].map fun i => zs.getD i .non) := kb0 T.F_heard_row [2, 1, 0] fun _ _ _ _ _ _ ws hl => match ws, hl with | [_, _, _], _ => rfl
theorem kb_heard_tick_loops {K : PySem.W.Frag} {mg : Str → Option Value} (T : Top K mg) : KBn K T.d_heard ["loops", "tick"] 0 ["tick", "loops"] (fun _ ws => [1, 0].map fun i => ws.getD i .none) (fun _ zs => [1, 0].map fun i => zs.getD i .non) := kb0 T.F_heard [1, 0] fun _ _ _ _ _ _ ws hl => match ws, hl with | [_, _], _ => rfl
theorem kb_lengths_of_loops {K : PySem.W.Frag} {mg : Str → Option Value} (T : Top K mg) : KBn K T.d_lengths_of ["loops"] 0 ["loops"] (fun _ ws => [0].map fun i => ws.getD i .none) (fun _ zs => [0].map fun i => zs.getD i .non) := kb0 T.F_lengths_of [0] fun _ _ _ _ _ _ ws hl => match ws, hl with | [_], _ => rfl
theorem kb_need_loops_thing {K : PySem.W.Frag} {mg : Str → Option Value} (T : Top K mg) : KBn K T.d_need_loops ["thing"] 0 ["thing"] (fun _ ws => [0].map fun i => ws.getD i .none) (fun _ zs => [0].map fun i => zs.getD i .non) := kb0 T.F_need_loops [0] fun _ _ _ _ _ _ ws hl => match ws, hl with | [_], _ => rfl
theorem kb_check_meeting_paper_places_lengths {K : PySem.W.Frag} {mg : Str → Option Value} (T : Top K mg) : KBn K T.d_check_meeting ["lengths", "places", "paper"] 0 ["paper", "places", "lengths"] (fun _ ws => [2, 1, 0].map fun i => ws.getD i .none) (fun _ zs => [2, 1, 0].map fun i => zs.getD i .non) := kb0 T.F_check_meeting [2, 1, 0] fun _ _ _ _ _ _ ws hl => match ws, hl with | [_, _, _], _ => rfl
theorem kb_deceiver_lengths {K : PySem.W.Frag} {mg : Str → Option Value} (T : Top K mg) : KBn K T.d_deceiver ["lengths"] 0 ["lengths"] (fun _ ws => [0].map fun i => ws.getD i .none) (fun _ zs => [0].map fun i => zs.getD i .non) := kb0 T.F_deceiver [0] fun _ _ _ _ _ _ ws hl => match ws, hl with | [_], _ => rfl
theorem kb_check_fit_paper_row_lengths {K : PySem.W.Frag} {mg : Str → Option Value} (T : Top K mg) : KBn K T.d_check_fit ["lengths", "row", "paper"] 0 ["paper", "row", "lengths"] (fun _ ws => [2, 1, 0].map fun i => ws.getD i .none) (fun _ zs => [2, 1, 0].map fun i => zs.getD i .non) := kb0 T.F_check_fit [2, 1, 0] fun _ _ _ _ _ _ ws hl => match ws, hl with | [_, _, _], _ => rfl
theorem kb_carried_many_row_lengths {K : PySem.W.Frag} {mg : Str → Option Value} (T : Top K mg) : KBn K T.d_carried ["lengths", "row", "many"] 0 ["many", "row", "lengths"] (fun _ ws => [2, 1, 0].map fun i => ws.getD i .none) (fun _ zs => [2, 1, 0].map fun i => zs.getD i .non) := kb0 T.F_carried [2, 1, 0] fun _ _ _ _ _ _ ws hl => match ws, hl with | [_, _, _], _ => rfl
theorem kb_meeting_places_lengths {K : PySem.W.Frag} {mg : Str → Option Value} (T : Top K mg) : KBn K T.d_meeting ["lengths", "places"] 0 ["places", "lengths"] (fun _ ws => [1, 0].map fun i => ws.getD i .none) (fun _ zs => [1, 0].map fun i => zs.getD i .non) := kb0 T.F_meeting [1, 0] fun _ _ _ _ _ _ ws hl => match ws, hl with | [_, _], _ => rfl
theorem kb_fit_row_lengths {K : PySem.W.Frag} {mg : Str → Option Value} (T : Top K mg) : KBn K T.d_fit ["lengths", "row"] 0 ["row", "lengths"] (fun _ ws => [1, 0].map fun i => ws.getD i .none) (fun _ zs => [1, 0].map fun i => zs.getD i .non) := kb0 T.F_fit [1, 0] fun _ _ _ _ _ _ ws hl => match ws, hl with | [_, _], _ => rfl
theorem kb_weights_lengths {K : PySem.W.Frag} {mg : Str → Option Value} (T : Top K mg) : KBn K T.d_weights ["lengths"] 0 ["lengths"] (fun _ ws => [0].map fun i => ws.getD i .none) (fun _ zs => [0].map fun i => zs.getD i .non) := kb0 T.F_weights [0] fun _ _ _ _ _ _ ws hl => match ws, hl with | [_], _ => rfl
theorem kb_span_lengths {K : PySem.W.Frag} {mg : Str → Option Value} (T : Top K mg) : KBn K T.d_span ["lengths"] 0 ["lengths"] (fun _ ws => [0].map fun i => ws.getD i .none) (fun _ zs => [0].map fun i => zs.getD i .non) := kb0 T.F_span [0] fun _ _ _ _ _ _ ws hl => match ws, hl with | [_], _ => rfl
theorem kb_need_lengths_thing {K : PySem.W.Frag} {mg : Str → Option Value} (T : Top K mg) : KBn K T.d_need_lengths ["thing"] 0 ["thing"] (fun _ ws => [0].map fun i => ws.getD i .none) (fun _ zs => [0].map fun i => zs.getD i .non) := kb0 T.F_need_lengths [0] fun _ _ _ _ _ _ ws hl => match ws, hl with | [_], _ => rfl
section
variable {P : Program} {w : World} {K : PySem.W.Frag} {mg : Str → Option Value} {base : Heap}
theorem ok_BadLoops_init (T : Top K mg) : FnOk P w K mg base CX0 1 T.x_BadLoops.f T.x_BadLoops.d ["self", "place"] (sp_exc T.x_BadLoops.C "place") := by
  refine T.x_BadLoops.F.ok sc_BadLoops_init (fun vs H Q E h => ?_) (fun cdv A outer s H vs Q E hr h => ?_)
  · obtain ⟨a, w, rfl, _⟩ := h
    rfl
  obtain ⟨a, w, rfl, ha, k⟩ := h
  refine ⟨_, pss_cons (ps_expr (pe_veinit (by rfl) T.z_ValueError T.v_ValueError (pa_cons (pv 0) (pa_cons (pv 1) pa_nil)))) (pss_one (ps_ost (pv 0) (pv 1))), ?_⟩
  refine ⟨_, rfl, _, rfl, a, T.x_BadLoops.C, [w], rfl, (by show 1 ≤ 1000; decide), T.x_BadLoops.ox, ha, ?_⟩
  exact ⟨_, rfl, _, rfl, a, T.x_BadLoops.C, rfl, T.x_BadLoops.ox, T.x_BadLoops.nf, .inl ⟨ha, fun dx h1 h2 => k dx h1 h2⟩⟩
end
section
variable {P : Program} {w : World} {K : PySem.W.Frag} {mg : Str → Option Value} {base : Heap}
theorem ok_is_whole (T : Top K mg) : FnOk P w K mg base CX0 1 T.a_is_whole T.d_is_whole ["thing"] (sp_is_whole K) := by
  refine T.F_is_whole.ok sc_is_whole (fun vs H Q E h => ?_) (fun cdv A outer s H vs Q E hr h => ?_)
  · obtain ⟨x, t, b1, b2, rfl, hx, h1, h2, k⟩ := h
    rfl
  obtain ⟨x, t, b1, b2, rfl, hx, h1, h2, k⟩ := h
  refine ⟨_, (pss_one (ps_ret (pe_and (pe_callB (k_isi (K := K)) (by rfl) T.z_isinstance bt_isinstance (pa_cons (pv 0) (pa_cons (pe_bltn (v := .ty "int") (by rfl) T.z_int bt_int rfl) pa_nil))) (pe_one (pe_not (pe_callB (k_isi (K := K)) (by rfl) T.z_isinstance bt_isinstance (pa_cons (pv 0) (pa_cons (pe_bltn (v := .ty "bool") (by rfl) T.z_bool bt_bool rfl) pa_nil)))))))), ?_⟩
  refine ⟨_, rfl, x, _, t, _, b1, rfl, ClsV.ty _, hx, h1, b1, rfl, ?_⟩
  cases b1 with
  | false => exact iteF k
  | true =>
    refine iteT ?_
    exact ⟨_, rfl, x, _, t, _, b2, rfl, ClsV.ty _, hx, h2, b2, rfl, k⟩
end
section
variable {P : Program} {w : World} {K : PySem.W.Frag} {mg : Str → Option Value} {base : Heap}
theorem ok_begins (T : Top K mg) : FnOk P w K mg base CX0 1 T.a_begins T.d_begins ["paper", "word", "many"] (sp_begins K) := by
  refine T.F_begins.ok sc_begins (fun vs H Q E h => ?_) (fun cdv A outer s H vs Q E hr h => ?_)
  · obtain ⟨v, s, u, ds, n, rfl, hv, k⟩ := h
    rfl
  obtain ⟨v, s, u, ds, n, rfl, hv, k⟩ := h
  refine ⟨_, (pss_cons (ps_if (PW.pt (pw_or (pt_not (pt_val (pe_callB (k_isi (K := K)) (by rfl) T.z_isinstance bt_isinstance (pa_cons (pv 0) (pa_cons (pe_bltn (v := .ty "tuple") (by rfl) T.z_tuple bt_tuple rfl) pa_nil))))) (pw_or1 (pt_cmpR op_ne (pe_callB (k_len (K := K)) (by rfl) T.z_len bt_len (pa_cons (pv 0) pa_nil)) (pv 2) (nomark _))))) (pss_one (ps_ret pe_bl)) pss_nil)
      (pss_one (ps_ret (pe_and (pe_callB (k_isi (K := K)) (by rfl) T.z_isinstance bt_isinstance (pa_cons (pe_ix (k_ixT (K := K)) (pv 0) pe_int (fun _ _ => rfl)) (pa_cons (pe_bltn (v := .ty "str") (by rfl) T.z_str bt_str rfl) pa_nil))) (pe_one (pe_cmpR op_eq (pe_ix (k_ixT (K := K)) (pv 0) pe_int (fun _ _ => rfl)) (pv 1) (nomark _))))))), ?_⟩
  obtain ⟨a, xs, rfl, hT, hX⟩ := hv.tuple
  have hlen := hX.len
  cases hX with
  | cons h1 h2 =>
  cases h1
  rename_i ys
  refine ⟨_, rfl, _, _, _, _, true, rfl, ClsV.ty _, hT.ty, kit_tt, true, rfl, iteF ?_⟩
  refine ⟨_, rfl, a, _, rfl, .inr hT, _, rfl, rfl, _, rfl, ?_⟩
  by_cases e : (((ds.length + 1 : Nat) : Int) = n)
  · have e2 : (((V.str s :: ys).length : Nat) : Int) = n := by rw [← e]; simp at hlen ⊢; omega
    refine iteNS (by rw [e2]) ?_
    refine ⟨_, rfl, a, _, _, _, rfl, rfl, hT, at_zero, _, _, _, _, true, rfl, ClsV.ty _, .base (.str _), kit_ty (by decide +kernel), true, rfl, iteT ?_⟩
    refine ⟨_, rfl, a, _, _, _, rfl, rfl, hT, at_zero, _, rfl, rfl, ?_⟩
    exact k _ (by rw [decide_eq_true e, Bool.true_and])
  · have e2 : decide (V.int (((V.str s :: ys).length : Nat) : Int) = V.int n) = false := by
      refine decide_eq_false fun z => e ?_
      injection z with z
      rw [← z]
      simp at hlen ⊢
      omega
    rw [e2]
    refine iteT ?_
    exact k _ (by rw [decide_eq_false e, Bool.false_and])
end
section
variable {P : Program} {w : World} {K : PySem.W.Frag} {mg : Str → Option Value} {base : Heap}
theorem ok_sum_at (T : Top K mg) : FnOk P w K mg base CX0 1 T.a_sum_at T.d_sum_at ["loops", "tick"] (sp_sum_at K) := by
  refine T.F_sum_at.ok sc_sum_at (fun vs H Q E h => ?_) (fun cdv A outer s H vs Q E hr h => ?_)
  · obtain ⟨v, ls, t, rfl, hv, ok, k⟩ := h
    rfl
  obtain ⟨v, ls, t, rfl, hv, ok, k⟩ := h
  refine ⟨_, (pss_one (ps_ret (pe_callB (k_sum (K := K) rfl) (by rfl) T.z_sum bt_sum (pa_cons (pe_lc (own := [("loop", 2)]) rfl sc_sum_at.nd (k_piT (K := K) (pv 0)) (blkOk_by (own := [("loop", 2)]) (N := ["loops", "tick", "loop"]) (sc := defScope s_sum_at) (by decide +kernel)) (fun _ _ _ _ _ => (pg_name (i := 2) sc_sum_at.nd rfl (Or.inl rfl))) (fun _ _ _ _ _ => pts_nil) (fun _ _ _ _ _ => (pe_ix (k_ixT (K := K)) (pv 2) (pe_op op_modN (pv 1) (pe_callB (k_len (K := K)) (by rfl) T.z_len bt_len (pa_cons (pv 2) pa_nil))) (fun _ _ => rfl)))) pa_nil)))), ?_⟩
  obtain ⟨ok1, ok2⟩ := ok
  obtain ⟨a, xs, rfl, hT, hX⟩ := hv.tuple
  have hlen := hX.len
  rw [List.length_map] at hlen
  refine ⟨_, rfl, a, rfl, ⟨_, hT⟩, fun D hD => ?_⟩
  refine lc_it walk_tup (fun i H' => H' D = some (.lst (((ls.take i).map fun l => hAt l t).map V.int)) ∧ Same H H') ⟨upd_same, same_upd hD _⟩ (fun i H' _ p => Same.tk p.2 _ _ hT) ?_ ?_
  · rintro i x H1 H2 hi ⟨hA, s1⟩ ⟨rfl, hx⟩
    obtain ⟨l, b, hl, rfl, hB⟩ := loops_get hX hx
    obtain ⟨k1, k2⟩ := ok2 l (List.mem_of_getElem? hl)
    have hB1 := Same.tk s1 _ _ hB
    refine ⟨rfl, ?_⟩
    refine ⟨_, rfl, _, rfl, _, rfl, b, _, rfl, .inr hB1, _, _, rfl, rfl, by rw [List.length_map]; omega, b, _, _, _, rfl, rfl, hB1, hAt_ix t k1, ?_⟩
    refine ⟨_, hA, by rw [List.length_map, List.length_map, List.length_take]; exact small1000 (by omega), ?_, ?_⟩
    · rw [upd_same, take_more hl]
      simp
    · exact fun b' o q => by
        rw [upd_ne (ne_of_none q hD)]
        exact s1 _ _ q
  · rintro H1 ⟨hA, s1⟩
    rw [hlen, List.take_length] at hA
    exact ⟨D, _, rfl, SqL.of hA, k H1 s1⟩
end
section
variable {P : Program} {w : World} {K : PySem.W.Frag} {mg : Str → Option Value} {base : Heap}
theorem ok_begun_at (T : Top K mg) : FnOk P w K mg base CX0 1 T.a_begun_at T.d_begun_at ["loop", "index"] (sp_begun_at K) := by
  refine T.F_begun_at.ok sc_begun_at (fun vs H Q E h => ?_) (fun cdv A outer s H vs Q E hr h => ?_)
  · obtain ⟨v, l, i, rfl, hv, h0, h1, h2, k⟩ := h
    rfl
  obtain ⟨v, l, i, rfl, hv, h0, h1, h2, k⟩ := h
  refine ⟨_, (pss_one (ps_ret (pe_op (k_catT (K := K)) (pe_slice (k_slT (K := K)) (pv 0) (po_some (pv 1)) po_none) (pe_slice (k_slT (K := K)) (pv 0) po_none (po_some (pv 1)))))), ?_⟩
  refine ⟨_, rfl, _, rfl, i, rfl, ?_⟩
  dsimp only [tNoPart]
  refine rd_cut hv fun w1 H1 s1 hw1 => ?_
  refine ⟨_, rfl, _, rfl, i, rfl, rd_cut (hv.same_at s1) fun w2 H2 s2 hw2 => ?_⟩
  rw [cutD_from PyData.int l h0 (by omega)] at hw1
  rw [cutD_to PyData.int l h0] at hw2
  refine rd_cat (hw1.same_at s2) hw2 ?_ fun w3 H3 s3 hw3 => ?_
  · rw [List.length_map, List.length_map, List.length_drop, List.length_take]
    exact Nat.le_of_lt (small1000 (by omega))
  · rw [← List.map_append] at hw3
    exact k w3 H3 (s1.trans (s2.trans s3)) hw3
end
section
variable {P : Program} {w : World} {K : PySem.W.Frag} {mg : Str → Option Value} {base : Heap}
theorem ok_weighted (T : Top K mg) : FnOk P w K mg base CX0 1 T.a_weighted T.d_weighted ["factors", "samples"] (sp_weighted K) := by
  refine T.F_weighted.ok sc_weighted (fun vs H Q E h => ?_) (fun cdv A outer s H vs Q E hr h => ?_)
  · obtain ⟨k1, k2, a, b, xs, ys, rfl, hx, hy, hw, k⟩ := h
    rfl
  obtain ⟨k1, k2, a, b, xs, ys, rfl, hx, hy, hw, k⟩ := h
  refine ⟨_, (pss_one (ps_ret (pe_callB (k_sum (K := K) rfl) (by rfl) T.z_sum bt_sum (pa_cons (pe_lc (own := [("factor", 2), ("sample", 3)]) rfl sc_weighted.nd (k_piZK (K := K) (by rfl) T.z_zip (pa_cons (pv 0) (pa_cons (pv 1) pa_nil))) (blkOk_by (own := [("factor", 2), ("sample", 3)]) (N := ["factors", "samples", "factor", "sample"]) (sc := defScope s_weighted) (by decide +kernel)) (fun _ _ _ _ _ => (k_pgt (K := K) (n := 2) rfl (pgs_cons (pg_name (i := 2) sc_weighted.nd rfl (Or.inl rfl)) (pgs_cons (pg_name (i := 3) sc_weighted.nd rfl (Or.inl rfl)) pgs_nil)))) (fun _ _ _ _ _ => pts_nil) (fun _ _ _ _ _ => (pe_op op_mulW (pv 2) (pv 3)))) pa_nil)))), ?_⟩
  obtain ⟨hl1, hl2, hlog⟩ := hw
  have hx : SqK k1 K H a (xs.map V.int) := hx
  have hy : SqK k2 K H b (ys.map V.int) := hy
  have e1 : (xs.map V.int).length = xs.length := List.length_map ..
  have e2 : (ys.map V.int).length = ys.length := List.length_map ..
  refine ⟨_, rfl, _, rfl, k1, k2, a, b, _, _, rfl, hx, hy, fun D hD => ?_⟩
  refine lc_it (walk_zipK (n := min xs.length ys.length) (xs := xs.map V.int) (ys := ys.map V.int) (by rw [e1]; omega) (by rw [e2]; omega) (by rw [e1, e2]; omega)) (fun i H' => H' D = some (.lst (((List.zipWith (· * ·) xs ys).take i).map V.int)) ∧ Same H H') ⟨upd_same, same_upd hD _⟩ (fun i H' _ p => ⟨SqK.same hx p.2, SqK.same hy p.2⟩) ?_ ?_
  · rintro i x H2 H3 hi ⟨hA, s2⟩ ⟨t, y, z, rfl, ht, rfl, hy', hz'⟩
    obtain ⟨c1, hc1, rfl⟩ := map_int_get hy'
    obtain ⟨c2, hc2, rfl⟩ := map_int_get hz'
    have st := same_upd ht (.tup [.int c1, .int c2])
    refine ⟨t, _, rfl, SqT.of upd_same, rfl, _, _, rfl, _, _, rfl, rfl, rfl, ?_⟩
    have hz3 : (List.zipWith (· * ·) xs ys)[i]? = some (c1 * c2) := by
      rw [List.getElem?_zipWith, hc1, hc2]
    refine ⟨_, rfl, _, rfl, _, _, rfl, rfl, hlog _ (List.mem_of_getElem? hc1) _ (List.mem_of_getElem? hc2), _, st _ _ hA, ?_, ?_, fun b o w => ?_⟩
    · rw [List.length_map, List.length_take, List.length_zipWith, sizeLine_eq]
      omega
    · rw [upd_same, take_more hz3, List.map_append]
      rfl
    · rw [upd_ne (ne_of_none w hD)]
      exact st _ _ (s2 _ _ w)
  rintro H2 ⟨hA, s2⟩
  rw [List.take_of_length_le (by rw [List.length_zipWith]; exact Nat.le_refl _)] at hA
  exact ⟨D, _, rfl, SqL.of hA, k H2 s2⟩
end
section
variable {P : Program} {w : World} {K : PySem.W.Frag} {mg : Str → Option Value} {base : Heap}
theorem ok_common_divisor (T : Top K mg) : FnOk P w K mg base CX0 1 T.a_common_divisor T.d_common_divisor ["one", "other"] (sp_common_divisor K) := by
  refine T.F_common_divisor.ok sc_common_divisor (fun vs H Q E h => ?_) (fun cdv A outer s H vs Q E hr h => ?_)
  · obtain ⟨x, y, rfl, k⟩ := h
    rfl
  obtain ⟨x, y, rfl, k⟩ := h
  refine ⟨_, (Evl.pss_cut (ps_while PassesOwn.never (pt_cmpR op_ne (pv 1) pe_int (nomark _)) (pss_one (ps_par (i := 0) (j := 1) (by rfl) sc_common_divisor.nd rfl rfl (by decide) rfl rfl (pa_cons (pv 1) (pa_cons (pe_op op_modN (pv 0) (pv 1)) pa_nil)) (by rfl))))
      (pss_one (ps_ret (pv 0)))), ?_⟩
  refine ⟨fun σ H' => σ = [some (.int (Nat.gcd x y : Nat)), some (.int 0)] ∧ H' = H, ?_, ?_⟩
  · refine ⟨fun j σ H' => ∃ u : Nat, σ = [some (.int u), some (.int j)] ∧ Nat.gcd u j = Nat.gcd x y ∧ H' = H, ⟨y, x, rfl, rfl, rfl⟩, ?_⟩
    rintro j σ H1 ⟨u, rfl, e, rfl⟩
    refine ⟨_, rfl, rfl, _, rfl, ?_⟩
    rcases Nat.eq_zero_or_pos j with rfl | jp
    · refine ite2 (fun cc => absurd cc (by simp)) (fun _ => ?_)
      rw [Nat.gcd_zero_right] at e
      exact ⟨by rw [← e]; rfl, rfl⟩
    refine ite2 (fun _ => ?_) (fun cc => absurd (by simp; omega) cc)
    refine ⟨fun σ' H' => ∃ j' u' : Nat, j' < j ∧ σ' = [some (.int u'), some (.int j')] ∧ Nat.gcd u' j' = Nat.gcd x y ∧ H' = H1, ?_, ?_⟩
    · rintro σ' H' ⟨j', u', a1, a2, a3⟩
      exact ⟨j', a1, u', a2, a3⟩
    refine ⟨_, rfl, _, rfl, _, rfl, _, _, rfl, rfl, by omega, _, _, rfl, ?_⟩
    refine ⟨u % j, j, Nat.mod_lt _ jp, ?_, ?_, rfl⟩
    · show [some (V.int (j : Int)), some (V.int ((u : Int).fmod (j : Int)))] = _
      rw [fm_nat]
    · rw [← e, Nat.gcd_comm u j, Nat.gcd_rec j u, Nat.gcd_comm]
  rintro σ H1 ⟨rfl, rfl⟩
  exact ⟨_, rfl, k⟩
end
section
variable {P : Program} {w : World} {K : PySem.W.Frag} {mg : Str → Option Value} {base : Heap}
theorem ok_ring_powers (T : Top K mg) : FnOk P w K mg base CX0 1 T.a_ring_powers T.d_ring_powers ["lengths"] (sp_ring_powers K) := by
  refine T.F_ring_powers.ok sc_ring_powers (fun vs H Q E h => ?_) (fun cdv A outer s H vs Q E hr h => ?_)
  · obtain ⟨v, ns, rfl, hv, ok, k⟩ := h
    rfl
  obtain ⟨v, ns, rfl, hv, ok, k⟩ := h
  refine ⟨_, (pss_cons (ps_set (i := 1) sc_ring_powers.nd rfl (Or.inr rfl) pe_dnewK)
      (pss_cons (ps_for PassesOwn.never rfl (pi_range3 (by rfl) T.z_range (pa_cons (pe_glob (v := .int 64) rfl T.c_MOST_LENGTH_spans ⟨_, rfl⟩) (pa_cons pe_int (pa_cons (pe_un un_neg pe_int) pa_nil)))) (pg_name (i := 2) sc_ring_powers.nd rfl (Or.inr rfl)) (pss_one (ps_if (pt_val (pe_callB (k_any (K := K) rfl) (by rfl) T.z_any bt_any (pa_cons (pe_lc (own := [("length", 4)]) rfl sc_ring_powers.nd (k_piT (K := K) (pv 0)) (blkOk_by (own := [("length", 4)]) (N := ["lengths", "powers", "ring", "taken", "length", "above"]) (sc := defScope s_ring_powers) (by decide +kernel)) (fun _ _ _ _ _ => (pg_name (i := 4) sc_ring_powers.nd rfl (Or.inl rfl))) (fun _ _ _ _ _ => pts_nil) (fun _ _ _ _ _ => (pe_cmpR op_eq (pe_op op_modN (pv 4) (pv 2)) pe_int (nomark _)))) pa_nil))) (pss_cons (ps_set (i := 3) sc_ring_powers.nd rfl (Or.inl rfl) (pe_callB (k_sum (K := K) rfl) (by rfl) T.z_sum bt_sum (pa_cons (pe_lock (pe_lc (own := [("above", 5)]) rfl sc_ring_powers.nd (pi_keys (pv 1)) (blkOk_by (own := [("above", 5)]) (N := ["lengths", "powers", "ring", "taken", "length", "above"]) (sc := defScope s_ring_powers) (by decide +kernel)) (fun _ _ _ _ _ => (pg_name (i := 5) sc_ring_powers.nd rfl (Or.inl rfl))) (fun _ _ _ _ _ => (pts_one (pt_cmpR op_eq (pe_op op_modN (pv 5) (pv 2)) pe_int (nomark _)))) (fun _ _ _ _ _ => (pe_dget (hu_of hr) (pv 1) (pv 5) (fun _ _ => rfl))))) pa_nil)))
      (pss_one (ps_dput (hu_of hr) (pv 1) (pv 2) (pe_op op_sub pe_int (pv 3)) rfl))) pss_nil)))
      (pss_one (ps_ret (pv 1))))), ?_⟩
  obtain ⟨ok1, ok2⟩ := id ok
  obtain ⟨a, rfl, hT⟩ := hv.ints
  refine fun d hd => ?_
  have s1 := same_upd hd (.dK [])
  refine ⟨_, rfl, 64, 0, -1, 64, rfl, RgC.neg (by decide) (by decide) (by decide) (by decide), ?_⟩
  have DN : ∀ b o, H b = some o → b ≠ d := fun b o w z => by
    rw [z, hd] at w
    cases w
  refine for_it walk_rangeC (fun i σ H' => ∃ w2 w3, σ = [some (.ref a), some (.ref d), w2, w3, none, none] ∧ Same H H' ∧ H' d = some (.dK (kvsP (pows (dvf ns) i)))) ⟨none, none, rfl, s1, upd_same⟩ (fun _ _ _ _ _ => trivial) ?_ ?_
  · rintro i x σ H2 H3 hi ⟨w2, w3, rfl, s2, h2⟩ ⟨rfl, rfl⟩
    have hi64 : i < 64 := hi
    have er : (64 : Int) + ((i : Nat) : Int) * -1 = ((64 - i : Nat) : Int) := by omega
    have hT2 := Same.tk s2 _ _ hT
    refine ⟨_, rfl, a, rfl, ⟨_, hT2⟩, fun D hD => ?_⟩
    refine lc_it walk_tup (fun j H' => H' D = some (.lst ((bits (ns.take j) (64 - i)).map V.bl)) ∧ Same H3 H') ⟨upd_same, same_upd hD _⟩ (fun j H' _ p => Same.tk p.2 _ _ hT2) ?_ ?_
    · rintro j x H4 H5 hj ⟨hA, s4⟩ ⟨rfl, hx⟩
      obtain ⟨c, hc, rfl⟩ := map_int_get hx
      obtain ⟨n, hn, rfl⟩ := nn_get hc
      rw [List.length_map, nn_len] at hj
      refine ⟨rfl, ?_⟩
      refine ⟨_, rfl, _, rfl, _, _, rfl, rfl, by omega, rfl, _, hA, ?_, ?_, ?_⟩
      · unfold bits
        rw [List.length_map, List.length_map, List.length_take]
        exact small1000 (by omega)
      · have e : ((n : Nat) : Int).fmod ((64 : Int) + ((i : Nat) : Int) * -1) = ((n % (64 - i) : Nat) : Int) := by rw [er, fm_nat]
        have eb : decide (V.int (((n : Nat) : Int).fmod ((64 : Int) + ((i : Nat) : Int) * -1)) = V.int 0) = decide (n % (64 - i) = 0) := by
          rw [e]
          by_cases q : n % (64 - i) = 0
          · rw [q]
            rfl
          · rw [decide_eq_false q]
            refine decide_eq_false fun z => q ?_
            injection z with z
            omega
        rw [upd_same, take_more hn]
        show some (HO.lst ((bits (ns.take j) (64 - i)).map V.bl ++ [V.bl (decide (V.int (((n : Nat) : Int).fmod ((64 : Int) + ((i : Nat) : Int) * -1)) = V.int 0))])) = _
        rw [eb]
        unfold bits
        rw [List.map_append, List.map_append]
        rfl
      · exact fun b' o z => by
          rw [upd_ne (ne_of_none z hD)]
          exact s4 _ _ z
    rintro H4 ⟨hA, s4⟩
    rw [List.length_map, nn_len, List.take_length] at hA
    refine ⟨D, _, rfl, SqL.of hA, ?_⟩
    rw [bits_any]
    have s24 := s2.trans s4
    have h4 := s4 _ _ h2
    have pm := pows_mem (dvf ns) i (by omega)
    refine ⟨_, rfl, ?_⟩
    cases hf : dvf ns (64 - i) with
    | false =>
      have e : pows (dvf ns) (i + 1) = pows (dvf ns) i := by
        conv => lhs; unfold pows
        rw [if_neg (by rw [hf]; simp)]
      refine iteF ⟨_, _, rfl, s24, ?_⟩
      rw [e]
      exact h4
    | true =>
      refine iteT ?_
      refine ⟨d, .dK (kvsP (pows (dvf ns) i)), h4, trivial, fun od => ?_⟩
      refine ⟨_, rfl, d, od, rfl, .inl ⟨kvsP (pows (dvf ns) i), upd_same, fun D5 hD5 => ?_⟩⟩
      have D5d : D5 ≠ d := fun z => by rw [z, upd_same] at hD5; cases hD5
      have s5 : ∀ b o, H b = some o → upd H4 d (.frz od (.dK (kvsP (pows (dvf ns) i)))) b = some o := fun b o w => by
        rw [upd_ne (DN b o w)]
        exact s24 _ _ w
      have D5N : ∀ b o, H b = some o → b ≠ D5 := fun b o w z => by
        have q := s5 b o w
        rw [z, hD5] at q
        cases q
      refine lc_it walk_keys (fun j H' => H' D5 = some (.lst ((pick ((pows (dvf ns) i).take j) (64 - i)).map V.int)) ∧ H' d = some (.frz od (.dK (kvsP (pows (dvf ns) i)))) ∧ Same H H')
        ⟨upd_same, by rw [upd_ne (Ne.symm D5d), upd_same], fun b o w => by rw [upd_ne (D5N b o w)]; exact s5 b o w⟩ (fun j H' _ q => q.2.1) ?_ ?_
      · rintro j x H5 H6 hj ⟨hC, hd5, s6⟩ ⟨rfl, key, v, hkv, rfl⟩
        obtain ⟨r, q, hrq, rfl, rfl⟩ := kvs_get hkv
        rw [kvs_len] at hj
        have pl := pows_len (dvf ns) i
        refine ⟨rfl, ?_⟩
        refine ⟨_, rfl, _, rfl, _, _, rfl, rfl, by omega, rfl, _, rfl, ?_⟩
        have e : ((r : Nat) : Int).fmod ((64 : Int) + ((i : Nat) : Int) * -1) = ((r % (64 - i) : Nat) : Int) := by rw [er, fm_nat]
        have eb : decide (V.int (((r : Nat) : Int).fmod ((64 : Int) + ((i : Nat) : Int) * -1)) = V.int 0) = decide (r % (64 - i) = 0) := by
          rw [e]
          by_cases q : r % (64 - i) = 0
          · rw [q]
            rfl
          · rw [decide_eq_false q]
            refine decide_eq_false fun z => q ?_
            injection z with z
            omega
        show (if decide (V.int (((r : Nat) : Int).fmod ((64 : Int) + ((i : Nat) : Int) * -1)) = V.int 0) = true then _ else _)
        rw [eb]
        refine ite2 (fun cc => ?_) (fun cc => ?_)
        · refine ⟨_, rfl, _, rfl, d, _, rfl, .inl ⟨_, .inl ((r : Nat) : Int), .inr ⟨od, hd5⟩, rfl, (valV_kvs (pows_keys (dvf ns) i (by omega)) hrq).symm⟩, ?_⟩
          refine ⟨_, hC, ?_, ?_, ?_, fun b o w => ?_⟩
          · have := pick_len ((pows (dvf ns) i).take j) (64 - i)
            rw [List.length_take] at this
            rw [List.length_map]
            exact small1000 (by omega)
          · rw [upd_same, pick_more hrq, if_pos (of_decide_eq_true cc), List.map_append]
            rfl
          · rw [upd_ne (Ne.symm D5d)]
            exact hd5
          · rw [upd_ne (D5N b o w)]
            exact s6 _ _ w
        · rw [pick_more hrq, if_neg (fun z => cc (decide_eq_true z))]
          exact ⟨hC, hd5, s6⟩
      rintro H5 ⟨hC, hd5, s6⟩
      rw [kvs_len, List.take_length] at hC
      refine ⟨hd5, D5, _, rfl, SqL.of (by rw [upd_ne D5d]; exact hC), ?_⟩
      rw [pick_sum]
      refine ⟨_, rfl, _, _, rfl, rfl, _, rfl, _, rfl, d, _, rfl, DPut.k (k := .inl ((64 : Int) + ((i : Nat) : Int) * -1)) upd_same (by rw [kvs_len, sizeLine_eq]; have := pows_len (dvf ns) i; omega), ?_⟩
      have ek : (Sum.inl ((64 : Int) + ((i : Nat) : Int) * -1) : Key) = .inl ((64 - i : Nat) : Int) := by rw [er]
      refine ⟨_, _, rfl, fun b o w => ?_, ?_⟩
      · rw [upd_ne (DN b o w), upd_ne (DN b o w)]
        exact s6 _ _ w
      · rw [upd_same]
        show some (HO.dK (putK (kvsP (pows (dvf ns) i)) (.inl ((64 : Int) + ((i : Nat) : Int) * -1)) (V.int (1 - SS (pows (dvf ns) i) (64 - i))))) = _
        rw [ek, put_kvs (fun rq hrq => by have := pm rq hrq; omega)]
        congr 3
        show _ = pows (dvf ns) (i + 1)
        conv => rhs; unfold pows
        rw [if_pos hf]
  · rintro σ H2 ⟨w2, w3, rfl, s2, h2⟩
    exact ⟨_, rfl, k d H2 s2 hd h2⟩
end
section
variable {P : Program} {w : World} {K : PySem.W.Frag} {mg : Str → Option Value} {base : Heap}
theorem ok_times_ring (T : Top K mg) : FnOk P w K mg base CX0 1 T.a_times_ring T.d_times_ring ["product", "length"] (sp_times_ring K) := by
  refine T.F_times_ring.ok sc_times_ring (fun vs H Q E h => ?_) (fun cdv A outer s H vs Q E hr h => ?_)
  · obtain ⟨a, p, d, rfl, hp, d1, d64, hz, k⟩ := h
    rfl
  obtain ⟨a, p, d, rfl, hp, d1, d64, hz, k⟩ := h
  refine ⟨_, (pss_cons (ps_set (i := 2) sc_times_ring.nd rfl (Or.inl rfl) (pe_op op_rep (pe_lst (pa_cons pe_int pa_nil)) (pv 1)))
      (pss_one (ps_ret (pe_lc (own := [("raised", 3), ("held", 4)]) rfl sc_times_ring.nd (k_piZA (K := K) (by rfl) T.z_zip (pa_cons (pe_op op_cat (pv 2) (pv 0)) (pa_cons (pe_op op_cat (pv 0) (pv 2)) pa_nil))) (blkOk_by (own := [("raised", 3), ("held", 4)]) (N := ["product", "length", "gap", "raised", "held"]) (sc := defScope s_times_ring) (by decide +kernel)) (fun _ _ _ _ _ => (k_pgt (K := K) (n := 2) rfl (pgs_cons (pg_name (i := 3) sc_times_ring.nd rfl (Or.inl rfl)) (pgs_cons (pg_name (i := 4) sc_times_ring.nd rfl (Or.inl rfl)) pgs_nil)))) (fun _ _ _ _ _ => pts_nil) (fun _ _ _ _ _ => (pe_op op_sub (pv 3) (pv 4))))))), ?_⟩
  refine ⟨(by show 1 ≤ sizeLine; decide), fun p1 h1 => ⟨_, rfl, p1, _, _, rfl, rfl, upd_same, by omega, by omega, ?_, fun g h2 => ?_⟩⟩
  · rw [sizeLine_eq]
    simp
    omega
  have eg : (List.replicate (((d : Nat) : Int)).toNat [V.int 0]).flatten = (List.replicate d (0 : Int)).map V.int := by
    rw [Int.toNat_natCast]
    simp
  rw [eg]
  have s2 := (same_upd h1 (.lst [V.int 0])).trans (same_upd h2 (.lst ((List.replicate d (0 : Int)).map V.int)))
  have hg2 : upd (upd H p1 (.lst [V.int 0])) g (.lst ((List.replicate d (0 : Int)).map V.int)) g = some (.lst ((List.replicate d (0 : Int)).map V.int)) := upd_same
  have hp2 := s2 _ _ hp
  have ln : ((List.replicate d (0 : Int)).map V.int).length + (p.map V.int).length ≤ sizeLine := by
    rw [List.length_map, List.length_map, List.length_replicate, sizeLine_eq]
    omega
  refine ⟨_, rfl, _, rfl, g, a, _, _, rfl, rfl, hg2, hp2, ln, fun p3 h3 => ?_⟩
  have s3 := same_upd h3 (.lst ((List.replicate d (0 : Int)).map V.int ++ p.map V.int))
  refine ⟨_, rfl, _, rfl, a, g, _, _, rfl, rfl, s3 _ _ hp2, s3 _ _ hg2, by rw [Nat.add_comm]; exact ln, fun p4 h4 => ?_⟩
  have s4 := same_upd h4 (.lst (p.map V.int ++ (List.replicate d (0 : Int)).map V.int))
  have l3 := s4 _ _ (upd_same (a := p3) (o := .lst ((List.replicate d (0 : Int)).map V.int ++ p.map V.int)))
  have S4 := s2.trans (s3.trans s4)
  have l4 := lst_new h4 (p.map V.int ++ (List.replicate d (0 : Int)).map V.int)
  have l3 := l3.trans (show some (HO.lst ((List.replicate d (0 : Int)).map V.int ++ p.map V.int)) = some (HO.lst ((List.replicate d (0 : Int) ++ p).map V.int)) by rw [List.map_append])
  have l4 := l4.trans (show some (HO.lst (p.map V.int ++ (List.replicate d (0 : Int)).map V.int)) = some (HO.lst ((p ++ List.replicate d (0 : Int)).map V.int)) by rw [List.map_append])
  refine ⟨p3, p4, _, _, rfl, .inl ⟨SqL.of l3, SqL.of l4, fun D hD => ?_⟩⟩
  have e3 : (List.replicate d (0 : Int) ++ p).length = p.length + d := by
    rw [List.length_append, List.length_replicate, Nat.add_comm]
  have e4 : (p ++ List.replicate d (0 : Int)).length = p.length + d := by
    rw [List.length_append, List.length_replicate]
  refine lc_it (walk_zip (n := p.length + d) (by rw [List.length_map, List.length_map, e3, e4, Nat.min_self])) (fun i H' => H' D = some (.lst (((timesR p d).take i).map V.int)) ∧ Same H H' ∧ H' p3 = some (.lst ((List.replicate d (0 : Int) ++ p).map V.int)) ∧ H' p4 = some (.lst ((p ++ List.replicate d (0 : Int)).map V.int)))
    ⟨upd_same, S4.trans (same_upd hD _), (same_upd hD _) _ _ l3, (same_upd hD _) _ _ l4⟩ (fun i H' _ q => ⟨SqL.of q.2.2.1, SqL.of q.2.2.2⟩) ?_ ?_
  · rintro i x H2 H3 hi ⟨hA, g2, g3, g4⟩ ⟨t, y, z, rfl, ht, rfl, hy, hz'⟩
    obtain ⟨c1, hc1, rfl⟩ := map_int_get hy
    obtain ⟨c2, hc2, rfl⟩ := map_int_get hz'
    have st := same_upd ht (.tup [.int c1, .int c2])
    refine ⟨t, _, rfl, SqT.of upd_same, rfl, _, _, rfl, _, _, rfl, rfl, rfl, ?_⟩
    have hz3 : (timesR p d)[i]? = some (c1 - c2) := by
      unfold timesR
      rw [List.getElem?_zipWith, hc1, hc2]
    have DN : ∀ b o, H b = some o → b ≠ D := fun b o w z => by
      rw [z] at w
      rw [S4 _ _ w] at hD
      cases hD
    have D3 : p3 ≠ D := ne_of_none l3 hD
    have D4 : p4 ≠ D := ne_of_none l4 hD
    refine ⟨_, rfl, _, rfl, _, _, rfl, rfl, _, st _ _ hA, ?_, ?_, fun b o w => ?_, ?_, ?_⟩
    · rw [List.length_map, List.length_take, timesR_len, sizeLine_eq]
      omega
    · rw [upd_same, take_more hz3, List.map_append]
      rfl
    · rw [upd_ne (DN b o w)]
      exact st _ _ (g2 _ _ w)
    · rw [upd_ne D3]
      exact st _ _ g3
    · rw [upd_ne D4]
      exact st _ _ g4
  rintro H2 ⟨hA, g2, _, _⟩
  rw [List.take_of_length_le (by rw [timesR_len]; omega)] at hA
  exact k D H2 g2 hA
end
section
variable {P : Program} {w : World} {K : PySem.W.Frag} {mg : Str → Option Value} {base : Heap}
theorem ok_over_ring (T : Top K mg) : FnOk P w K mg base CX0 1 T.a_over_ring T.d_over_ring ["product", "length"] (sp_over_ring K) := by
  refine T.F_over_ring.ok sc_over_ring (fun vs H Q E h => ?_) (fun cdv A outer s H vs Q E hr h => ?_)
  · obtain ⟨a, p, d, rfl, hp, d1, d64, hz, k⟩ := h
    rfl
  obtain ⟨a, p, d, rfl, hp, d1, d64, hz, k⟩ := h
  refine ⟨_, (pss_cons (ps_set (i := 2) sc_over_ring.nd rfl (Or.inl rfl) (pe_op op_rep (pe_lst (pa_cons pe_int pa_nil)) (pv 1)))
      (pss_cons (ps_for PassesOwn.never rfl (pi_range1 (by rfl) T.z_range (pa_cons (pe_op op_sub (pe_callB (k_len (K := K)) (by rfl) T.z_len bt_len (pa_cons (pv 0) pa_nil)) (pv 1)) pa_nil)) (pg_name (i := 3) sc_over_ring.nd rfl (Or.inl rfl)) (pss_one (ps_expr (pe_bm PySem.F.plainAttrs_list PySem.F.slot_list_append PySem.F.type_list_append mt_append (pv 2) (pa_cons (pe_op op_sub (pe_ix (k_ixL (K := K)) (pv 2) (pv 3) (fun _ _ => rfl)) (pe_ix (k_ixL (K := K)) (pv 0) (pv 3) (fun _ _ => rfl))) pa_nil)))))
      (pss_one (ps_ret (pe_slice (k_slL (K := K)) (pv 2) (po_some (pv 1)) po_none))))), ?_⟩
  refine ⟨(by show 1 ≤ sizeLine; decide), fun p1 h1 => ⟨_, rfl, p1, _, _, rfl, rfl, upd_same, by omega, by omega, ?_, fun g h2 => ?_⟩⟩
  · rw [sizeLine_eq]
    simp
    omega
  have eg : (List.replicate (((d : Nat) : Int)).toNat [V.int 0]).flatten = (List.replicate d (0 : Int)).map V.int := by
    rw [Int.toNat_natCast]
    simp
  rw [eg]
  have s2 := (same_upd h1 (.lst [V.int 0])).trans (same_upd h2 (.lst ((List.replicate d (0 : Int)).map V.int)))
  have hp2 := s2 _ _ hp
  have hg2 := lst_new h2 ((List.replicate d (0 : Int)).map V.int)
  have DN : ∀ b o, H b = some o → b ≠ g := fun b o w z => by
    rw [z] at w
    rw [(same_upd h1 (.lst [V.int 0])) _ _ w] at h2
    cases h2
  refine ⟨_, rfl, a, _, rfl, .inl (SqL.of hp2), _, rfl, _, _, rfl, rfl, _, rfl, by rw [List.length_map]; omega, by rw [List.length_map]; omega, ?_⟩
  refine for_it walk_range (fun i σ H' => ∃ w3, σ = [some (.ref a), some (.int (d : Nat)), some (.ref g), w3] ∧ H' g = some (.lst ((quo p d i).map V.int)) ∧ Same H H') ⟨none, rfl, hg2, s2⟩ (fun _ _ _ _ _ => trivial) ?_ ?_
  · rintro i x σ H2 H3 hi ⟨w3, rfl, hA, g2⟩ ⟨rfl, rfl⟩
    rw [List.length_map] at hi
    have hp3 := g2 _ _ hp
    have ql := quo_len p d i
    have e1 : (quo p d i)[i]? = some ((quo p d i).getD i 0) := by
      rw [List.getD_eq_getElem?_getD, List.getElem?_eq_getElem (by omega)]
      rfl
    have e2 : p[i]? = some (p.getD i 0) := by
      rw [List.getD_eq_getElem?_getD, List.getElem?_eq_getElem (by omega)]
      rfl
    have a1 : atI ((quo p d i).map V.int) (0 + ((i : Nat) : Int)) = some (.int ((quo p d i).getD i 0)) := at_of (j := i) (Int.zero_add _) (by rw [List.getElem?_map, e1]; rfl)
    have a2 : atI (p.map V.int) (0 + ((i : Nat) : Int)) = some (.int (p.getD i 0)) := at_of (j := i) (Int.zero_add _) (by rw [List.getElem?_map, e2]; rfl)
    refine ⟨_, rfl, .inl ⟨rfl, _, SqL.of hA⟩, ?_⟩
    refine ⟨_, rfl, _, rfl, g, _, _, _, rfl, rfl, SqL.of hA, a1, _, rfl, _, rfl, a, _, _, _, rfl, rfl, SqL.of hp3, a2, _, _, rfl, rfl, g, _, _, rfl, rfl, hA, ?_, ?_⟩
    · rw [List.length_map, ql, sizeLine_eq]
      omega
    · refine ⟨_, rfl, ?_, fun b o w => ?_⟩
      · rw [upd_same]
        show some (HO.lst ((quo p d i).map V.int ++ [V.int ((quo p d i).getD i 0 - p.getD i 0)])) = some (HO.lst ((quo p d i ++ [(quo p d i).getD i 0 - p.getD i 0]).map V.int))
        rw [List.map_append]
        rfl
      · rw [upd_ne (DN b o w)]
        exact g2 _ _ w
  rintro σ H2 ⟨w3, rfl, hA, g2⟩
  rw [List.length_map, show (((p.length : Nat) : Int) - ((d : Nat) : Int)).toNat = p.length - d by omega] at hA
  refine ⟨_, rfl, _, rfl, _, rfl, ?_⟩
  refine ⟨g, _, rfl, SqL.of hA, fun p5 hp5 => ?_⟩
  rw [cutV_fromN]
  refine k p5 _ (g2.trans (same_upd hp5 _)) ?_
  rw [upd_same, ← List.map_drop]
  rfl
end
section
variable {P : Program} {w : World} {K : PySem.W.Frag} {mg : Str → Option Value} {base : Heap}
theorem ok_strides (T : Top K mg) : FnOk P w K mg base CX0 1 T.a_strides T.d_strides ["loop", "step", "many"] (sp_strides K) := by
  refine T.F_strides.ok sc_strides (fun vs H Q E h => ?_) (fun cdv A outer s H vs Q E hr h => ?_)
  · obtain ⟨v, l, c, m, rfl, hv, l1, l64, c64, m64, k⟩ := h
    rfl
  obtain ⟨v, l, c, m, rfl, hv, l1, l64, c64, m64, k⟩ := h
  refine ⟨_, (pss_cons (ps_set (i := 3) sc_strides.nd rfl (Or.inr rfl) (pe_callB (k_len (K := K)) (by rfl) T.z_len bt_len (pa_cons (pv 0) pa_nil)))
      (pss_one (ps_ret (pe_callTy (k_tuple (K := K)) (by rfl) T.z_tuple bt_tuple (pa_cons (pe_lc (own := [("tick", 4)]) rfl sc_strides.nd (pi_range1 (by rfl) T.z_range (pa_cons (pv 3) pa_nil)) (blkOk_by (own := [("tick", 4)]) (N := ["loop", "step", "many", "length", "tick", "turn"]) (sc := defScope s_strides) (by decide +kernel)) (fun _ _ _ _ _ => (pg_name (i := 4) sc_strides.nd rfl (Or.inr rfl))) (fun _ _ _ _ _ => pts_nil) (fun _ _ _ _ _ => (pe_callB (k_sum (K := K) rfl) (by rfl) T.z_sum bt_sum (pa_cons (pe_lc (own := [("turn", 5)]) rfl sc_strides.nd (pi_range1 (by rfl) T.z_range (pa_cons (pv 2) pa_nil)) (by exact blkOk_by (by rfl)) (fun _ _ _ _ _ => (pg_name (i := 5) sc_strides.nd rfl (Or.inl rfl))) (fun _ _ _ _ _ => pts_nil) (fun _ _ _ _ _ => (pe_ix (k_ixT (K := K)) (pv 0) (pe_op op_modN (pe_op op_add (pv 4) (pe_op op_mul (pv 1) (pv 5))) (pv 3)) (fun _ _ => rfl)))) pa_nil)))) pa_nil))))), ?_⟩
  obtain ⟨lv, rfl, hT⟩ := hv.ints
  have hlen : (l.map V.int).length = l.length := List.length_map ..
  refine ⟨_, rfl, lv, _, rfl, .inr hT, ?_⟩
  refine ⟨_, rfl, _, rfl, by omega, by omega, fun D hD => ?_⟩
  rw [hlen]
  refine lc_it walk_range (fun i H' => H' D = some (.lst (((strL l c m).take i).map V.int)) ∧ Same H H') ⟨upd_same, same_upd hD _⟩ (fun _ _ _ _ => trivial) ?_ ?_
  · rintro i x H1 H2 hi ⟨hA, s1⟩ ⟨rfl, rfl⟩
    have hi : i < l.length := by omega
    have gi : (strL l c m)[i]? = some (AP (stL c m) (fun u => hAt l (u : Int)) i) := tab_get hi
    refine ⟨rfl, ?_⟩
    refine ⟨_, rfl, _, rfl, by omega, by omega, fun D2 hD2 => ?_⟩
    refine lc_it walk_range (fun j H' => H' D2 = some (.lst (((List.range j).map fun k => hAt l ((i + c * k : Nat) : Int)).map V.int)) ∧ Same H2 H') ⟨upd_same, same_upd hD2 _⟩ (fun _ _ _ _ => trivial) ?_ ?_
    · rintro j x H3 H4 hj ⟨hB, s3⟩ ⟨rfl, rfl⟩
      have hj : j < m := by omega
      have e : (0 : Int) + (i : Nat) + (c : Nat) * (0 + (j : Nat)) = ((i + c * j : Nat) : Int) := by
        rw [Int.zero_add, Int.zero_add, Int.natCast_add, Int.natCast_mul]
      have hix := hAt_ix (l := l) ((0 : Int) + (i : Nat) + (c : Nat) * (0 + (j : Nat))) l1
      rw [hlen] at hix
      refine ⟨rfl, ?_⟩
      refine ⟨_, rfl, _, rfl, _, rfl, _, rfl, _, _, rfl, rfl, .inl ⟨by omega, by omega⟩, _, _, rfl, rfl, _, rfl, _, _, rfl, rfl, by omega, lv, _, _, _, rfl, rfl, Same.tk (s1.trans s3) _ _ hT, hix, ?_⟩
      rw [e]
      refine ⟨_, hB, ?_, ?_, ?_⟩
      · rw [List.length_map, List.length_map, List.length_range]
        exact small1000 (by omega)
      · rw [upd_same, tab_more, List.map_append]
        rfl
      · exact fun b o q => by
          rw [upd_ne (ne_of_none q hD2)]
          exact s3 _ _ q
    rintro H3 ⟨hB, s3⟩
    rw [show ((m : Nat) : Int).toNat = m from rfl] at hB
    refine ⟨D2, _, rfl, SqL.of hB, ?_⟩
    refine ⟨_, s3 _ _ hA, ?_, ?_, ?_⟩
    · rw [List.length_map, List.length_take]
      exact small1000 (by omega)
    · rw [upd_same, take_more gi, List.map_append, st_sum (fun u => hAt l (u : Int))]
      rfl
    · exact fun b o q => by
        rw [upd_ne (ne_of_none q hD)]
        exact s3 _ _ (s1 _ _ q)
  rintro H1 ⟨hA, s1⟩
  rw [show ((l.length : Nat) : Int).toNat = (strL l c m).length from (strL_len l c m).symm, List.take_length] at hA
  exact ⟨D, _, rfl, .inl ⟨SqL.of hA, fun t ht => k _ _ (s1.trans (same_upd ht _)) (Dp.ofInts (SqT.of upd_same))⟩⟩
end
section
variable {P : Program} {w : World} {K : PySem.W.Frag} {mg : Str → Option Value} {base : Heap}
theorem ok_strides_to (T : Top K mg) : FnOk P w K mg base CX0 1 T.a_strides_to T.d_strides_to ["step", "place", "length"] (sp_strides_to K) := by
  refine T.F_strides_to.ok sc_strides_to (fun vs H Q E h => ?_) (fun cdv A outer s H vs Q E hr h => ?_)
  · obtain ⟨L, D, rfl, L1, L64, D1, D64, k⟩ := h
    rfl
  obtain ⟨L, D, rfl, L1, L64, D1, D64, k⟩ := h
  refine ⟨_, (pss_cons (ps_set (i := 3) sc_strides_to.nd rfl (Or.inl rfl) pe_int)
      (Evl.pss_cut (ps_while PassesOwn.never (pt_cmpR op_ne (pe_op op_modN (pe_op op_sub (pe_op op_mul (pv 3) (pv 0)) (pv 1)) (pv 2)) pe_int (nomark _)) (pss_one (ps_aug (i := 3) sc_strides_to.nd rfl (Or.inl rfl) pe_int ip_add)))
      (pss_one (ps_ret (pv 3))))), ?_⟩
  have gL : Nat.gcd D L ≤ 64 := Nat.le_trans (Nat.le_of_dvd L1 (Nat.gcd_dvd_right D L)) L64
  obtain ⟨sL, sE⟩ := sto_ok L1 L64 D1 D64
  refine ⟨fun σ H' => σ = [some (.int (D : Nat)), some (.int (Nat.gcd D L : Nat)), some (.int (L : Nat)), some (.int (sto L D : Nat))] ∧ H' = H, ?_, ?_⟩
  · refine ⟨fun j σ H' => ∃ k : Nat, σ = [some (.int (D : Nat)), some (.int (Nat.gcd D L : Nat)), some (.int (L : Nat)), some (.int ((k + 1 : Nat) : Int))] ∧ k + 1 + j = sto L D ∧ H' = H, ⟨sto L D - 1, 0, rfl, by have := sto_pos L D; omega, rfl⟩, ?_⟩
    rintro j σ H1 ⟨q, rfl, e, rfl⟩
    refine ⟨_, rfl, _, rfl, _, _, rfl, rfl, .inl ⟨by omega, by omega⟩, _, rfl, _, _, rfl, rfl, _, rfl, _, _, rfl, rfl, by omega, rfl, _, rfl, ?_⟩
    have z : (V.int ((((q + 1 : Nat) : Int) * (D : Nat) - (Nat.gcd D L : Nat)).fmod (L : Nat)) = V.int 0) ↔ (q + 1) * D % L = Nat.gcd D L % L := by
      rw [← fmodz L1, Int.natCast_mul]
      constructor
      · intro w
        injection w
      · intro w
        rw [w]
    refine ite2 (fun cc => ?_) (fun cc => ?_)
    · have ne : ¬ ((q + 1) * D % L = Nat.gcd D L % L) := fun w => by
        rw [decide_eq_true (z.mpr w)] at cc
        cases cc
      have lt : q + 1 < sto L D := Classical.byContradiction fun w => ne (by
        rw [show q + 1 = sto L D by omega]
        exact sE)
      refine ⟨fun σ' H' => ∃ j', j' < j ∧ ∃ k : Nat, σ' = [some (.int (D : Nat)), some (.int (Nat.gcd D L : Nat)), some (.int (L : Nat)), some (.int ((k + 1 : Nat) : Int))] ∧ k + 1 + j' = sto L D ∧ H' = H1, ?_, ?_⟩
      · rintro σ' H' ⟨j', a1, a2⟩
        exact ⟨j', a1, a2⟩
      refine ⟨_, rfl, _, _, rfl, rfl, ?_⟩
      exact ⟨j - 1, by omega, q + 1, rfl, by omega, rfl⟩
    · have eq : (q + 1) * D % L = Nat.gcd D L % L := Classical.byContradiction fun w => cc (by
        rw [decide_eq_false fun y => w (z.mp y)]
        rfl)
      have ge : ¬ (q + 1 < sto L D) := fun w => sto_least w eq
      rw [show q + 1 = sto L D by omega]
      exact ⟨rfl, rfl⟩
  rintro σ H1 ⟨rfl, rfl⟩
  exact ⟨_, rfl, k⟩
end
section
variable {P : Program} {w : World} {K : PySem.W.Frag} {mg : Str → Option Value} {base : Heap}
theorem ok__law_begun (T : Top K mg) : FnOk P w K mg base CX0 1 T.a__law_begun T.d__law_begun ["script"] (sp__law_begun K) := by
  refine T.F__law_begun.ok sc__law_begun (fun vs H Q E h => ?_) (fun cdv A outer s H vs Q E hr h => ?_)
  · obtain ⟨a, ns, rfl, hS, hl, k⟩ := h
    rfl
  obtain ⟨a, ns, rfl, hS, hl, k⟩ := h
  refine ⟨_, (pss_one (ps_ret (pe_disp (pps_cons pe_str (pe_callTy (k_list (K := K)) (by rfl) T.z_list bt_list (pa_cons (pv 0) pa_nil)) (pps_cons pe_str (pe_lc (own := [("cell", 1)]) rfl sc__law_begun.nd (k_piL (K := K) (pv 0)) (blkOk_by (own := [("cell", 1)]) (N := ["script", "cell"]) (sc := defScope s__law_begun) (by decide +kernel)) (fun _ _ _ _ _ => (pg_name (i := 1) sc__law_begun.nd rfl (Or.inl rfl))) (fun _ _ _ _ _ => (pts_one (pt_cmpR op_ge (pv 1) (pe_op op_pow pe_int pe_int) (nomark _)))) (fun _ _ _ _ _ => (pv 1))) (pps_cons pe_str pe_int pps_nil))) (by rfl) (by rfl) (fun z => by cases z) (by decide)))), ?_⟩
  refine fun p hp => ?_
  refine ⟨_, rfl, a, _, rfl, .inl ((same_upd hp _).seq hS), fun l hl' => ?_⟩
  have s1 : Same H (upd (upd H p (.dK [])) l (.lst (ns.map V.int))) := (same_upd hp _).trans (same_upd hl' _)
  have lp : l ≠ p := fun z => by rw [z, upd_same] at hl'; cases hl'
  refine ⟨_, rfl, a, rfl, ⟨_, s1.seq hS⟩, fun D hD => ?_⟩
  have Dp' : D ≠ p := fun z => by rw [z, upd_ne (Ne.symm lp), upd_same] at hD; cases hD
  have Dl : D ≠ l := fun z => by rw [z, upd_same] at hD; cases hD
  refine lc_list (K := K) (a := a) (xs := ns.map V.int) (fun i H' => ∃ acc : List Int, H' D = some (.lst (acc.map V.int)) ∧ acc.length ≤ i ∧ (∀ z ∈ acc, 0 ≤ z) ∧ Same (upd (upd H p (.dK [])) l (.lst (ns.map V.int))) H')
    ⟨[], upd_same, Nat.le_refl _, (by intro z hz; cases hz), same_upd hD _⟩ (fun i H' _ ⟨_, _, _, _, s⟩ => s.seq (s1.seq hS)) ?_ ?_
  · rintro i x H' hi ⟨acc, hA, hn, h0, s⟩
    obtain ⟨z, hz, rfl⟩ := map_int_get hi
    refine ⟨rfl, _, rfl, _, _, rfl, rfl, ⟨by decide, by decide, by decide⟩, _, _, rfl, rfl, _, rfl, ?_⟩
    refine ite2 (fun cc => ?_) (fun _ => ⟨acc, hA, by omega, h0, s⟩)
    have cz : (10 : Int) ^ (18 : Int).toNat ≤ z := of_decide_eq_true cc
    have cz' : 0 ≤ z := Int.le_trans (by decide) cz
    refine ⟨_, rfl, _, hA, by rw [List.length_map]; exact small1000 (by have := (List.getElem?_eq_some_iff.mp hz).1; omega), acc ++ [z], ?_, ?_, ?_, ?_⟩
    · rw [upd_same, List.map_append]
      all_goals rfl
    · rw [List.length_append, List.length_singleton]
      omega
    · intro y hy
      rcases List.mem_append.mp hy with q | q
      · exact h0 y q
      · rw [List.mem_singleton.mp q]
        exact cz'
    · intro b o q
      have bD : b ≠ D := ne_of_none q hD
      rw [upd_ne bD]
      exact s b o q
  · rintro H' ⟨acc, hA, hn, h0, s⟩
    rw [List.length_map] at hn
    have hp' : H' p = some (.dK []) := s _ _ (by rw [upd_ne (Ne.symm lp), upd_same])
    refine ⟨hp', [(kCells, .ref l), (kLeft, .ref D), (kAt, .int 0)], rfl, (by show 3 ≤ 15; decide), ?_⟩
    rw [merge3]
    have e : ∀ b, b ≠ p → upd H' p (.dK [(kCells, V.ref l), (kLeft, V.ref D), (kAt, V.int 0)]) b = H' b := fun b hb => upd_ne hb
    refine k p _ (fun b o q => ?_) ⟨l, D, upd_same, ⟨ns, ?_, hl⟩, ⟨acc, ?_, by omega, h0⟩, Ne.symm Dl⟩
    · rw [e b (ne_of_none q hp)]
      exact s _ _ (s1 _ _ q)
    · rw [e _ lp]
      exact s _ _ upd_same
    · rw [e _ Dp']
      exact hA
end
section
variable {P : Program} {w : World} {K : PySem.W.Frag} {mg : Str → Option Value} {base : Heap}
theorem ok__law_next (T : Top K mg) : FnOk P w K mg base CX0 1 T.a__law_next T.d__law_next ["m", "limit"] (sp__law_next K) := by
  refine T.F__law_next.ok sc__law_next (fun vs H Q E h => ?_) (fun cdv A outer s H vs Q E hr h => ?_)
  · obtain ⟨m, many, n, rfl, M, h0, h9, hn, k⟩ := h
    rfl
  obtain ⟨m, many, n, rfl, M, h0, h9, hn, k⟩ := h
  refine ⟨_, (Evl.pss_cut (ps_while PassesOwn.never (PW.pt (pw_and (pt_cmpR (k_neD (K := K) hr.units) (pe_dget (hu_of hr) (pv 0) pe_str (fun _ _ => rfl)) (pe_lst pa_nil) (nomark _)) (pw_and1 (pt_cmpR op_eq (pe_ix (k_ixL (K := K)) (pe_dget (hu_of hr) (pv 0) pe_str (fun _ _ => rfl)) pe_int (fun _ _ => rfl)) pe_int (nomark _))))) (pss_one (ps_dput (hu_of hr) (pv 0) pe_str (pe_slice (k_slL (K := K)) (pe_dget (hu_of hr) (pv 0) pe_str (fun _ _ => rfl)) (po_some pe_int) po_none) rfl)))
      (pss_cons (ps_if (pt_cmpR (k_neD (K := K) hr.units) (pe_dget (hu_of hr) (pv 0) pe_str (fun _ _ => rfl)) (pe_lst pa_nil) (nomark _)) (pss_cons (ps_set (i := 2) sc__law_next.nd rfl (Or.inl rfl) (pe_callTy call_int1 (by rfl) T.z_int bt_int (pa_cons (pe_ix (k_ixL (K := K)) (pe_dget (hu_of hr) (pv 0) pe_str (fun _ _ => rfl)) pe_int (fun _ _ => rfl)) pa_nil)))
      (pss_cons (ps_asg (pe_op op_fdivW (pv 2) (pv 1)) (pg_sub (pe_dget (hu_of hr) (pv 0) pe_str (fun _ _ => rfl)) pe_int set_list))
      (pss_one (ps_ret (pe_op op_modN (pv 2) (pv 1)))))) pss_nil)
      (pss_cons (ps_set (i := 3) sc__law_next.nd rfl (Or.inl rfl) (pe_op op_add (pe_dget (hu_of hr) (pv 0) pe_str (fun _ _ => rfl)) pe_int))
      (pss_cons (ps_dput (hu_of hr) (pv 0) pe_str (pv 3) rfl)
      (pss_cons (ps_set (i := 4) sc__law_next.nd rfl (Or.inl rfl) (pe_ifExp (pt_cmpR (k_neD (K := K) hr.units) (pe_dget (hu_of hr) (pv 0) pe_str (fun _ _ => rfl)) (pe_lst pa_nil) (nomark _)) (pe_ix (k_ixL (K := K)) (pe_dget (hu_of hr) (pv 0) pe_str (fun _ _ => rfl)) (pe_op op_modN (pe_callTy call_int1 (by rfl) T.z_int bt_int (pa_cons (pv 3) pa_nil)) (pe_callB (k_len (K := K)) (by rfl) T.z_len bt_len (pa_cons (pe_dget (hu_of hr) (pv 0) pe_str (fun _ _ => rfl)) pa_nil))) (fun _ _ => rfl)) pe_int))
      (pss_cons (ps_set (i := 5) sc__law_next.nd rfl (Or.inl rfl) (pe_op op_mul (pe_callTy call_int1 (by rfl) T.z_int bt_int (pa_cons (pe_op op_add (pe_op op_add (pe_op op_modN (pe_callTy call_int1 (by rfl) T.z_int bt_int (pa_cons (pv 4) pa_nil)) pe_int) (pe_op op_mul pe_int (pv 3))) (pe_op op_mul (pe_op op_mul pe_int (pv 3)) (pv 3))) pa_nil)) pe_int))
      (pss_cons (ps_set (i := 5) sc__law_next.nd rfl (Or.inl rfl) (pe_op op_mul (pe_callTy call_int1 (by rfl) T.z_int bt_int (pa_cons (pe_op op_add (pe_op op_modN (pe_callTy call_int1 (by rfl) T.z_int bt_int (pa_cons (pv 5) pa_nil)) pe_int) (pe_op op_mul pe_int (pv 3))) pa_nil)) pe_int))
      (pss_one (ps_ret (pe_op op_modN (pe_callTy call_int1 (by rfl) T.z_int bt_int (pa_cons (pe_op op_fdivN (pe_op op_modN (pe_callTy call_int1 (by rfl) T.z_int bt_int (pa_cons (pv 5) pa_nil)) pe_int) pe_int) pa_nil)) (pv 1))))))))))), ?_⟩
  refine ⟨fun σ H' => σ = [some (.ref m), some (.int many), none, none, none, none] ∧ MS H' m n ∧ Ef m H H', ?_, ?_⟩
  · refine ⟨fun j σ H' => σ = [some (.ref m), some (.int many), none, none, none, none] ∧ Ef m H H' ∧ ∃ (c l : Addr) (ls : List Int), MAt H' m c l n ∧ H' l = some (.lst (ls.map V.int)) ∧ ls.length = j, ?_, ?_⟩
    · obtain ⟨c, l, M⟩ := M
      obtain ⟨ls, hl, _⟩ := M.ls
      exact ⟨ls.length, rfl, Ef.refl, c, l, ls, M, hl, rfl⟩
    · rintro j σ H1 ⟨rfl, e1, c, l, ls, M1, hl, rfl⟩
      refine ⟨_, rfl, m, _, rfl, M1.left, rd_ne_nil hl fun p hp => ?_⟩
      have s2 := same_upd hp (.lst [])
      have lp : l ≠ p := ne_of_none hl hp
      have M2 : MS (upd H1 p (.lst [])) m n := MS.same ⟨c, l, M1⟩ s2
      have e2 : Ef m H (upd H1 p (.lst [])) := e1.trans (Ef.ofSame ⟨c, l, M1⟩ s2)
      cases ls with
      | nil => exact ⟨_, rfl, iteF (iteF ⟨rfl, M2, e2⟩)⟩
      | cons z r =>
        obtain ⟨c', l', M2'⟩ := M2
        have dk2 := s2 _ _ M1.dk
        rw [M2'.dk] at dk2
        have ecl : c' = c ∧ l' = l := by
          have q := HO.dK.inj (Option.some.inj dk2)
          simp [mKvs] at q
          exact q
        obtain ⟨rfl, rfl⟩ := ecl
        have hl2 := s2 _ _ hl
        refine ⟨_, rfl, iteT ?_⟩
        refine ⟨_, rfl, m, _, rfl, M2'.left, l', _, _, V.int z, rfl, rfl, SqL.of hl2, at_zero, rfl, _, rfl, ?_⟩
        refine ite2 (fun _ => ?_) (fun _ => ⟨rfl, ⟨c', l', M2'⟩, e2⟩)
        refine ⟨fun σ' H' => σ' = [some (.ref m), some (.int many), none, none, none, none] ∧ Ef m H H' ∧ ∃ (c l : Addr) (ls : List Int), MAt H' m c l n ∧ H' l = some (.lst (ls.map V.int)) ∧ ls.length = r.length, ?_, ?_⟩
        · rintro σ' H' ⟨a1, a2, a3⟩
          exact ⟨r.length, Nat.lt_succ_self _, a1, a2, a3⟩
        · refine ⟨_, rfl, m, _, rfl, M2'.left, 1, rfl, l', _, rfl, SqL.of hl2, fun q hq => ?_⟩
          rw [cut_tail]
          have mq : m ≠ q := ne_of_none M2'.dk hq
          have s3 := same_upd hq (.lst (r.map V.int))
          refine ⟨_, rfl, m, _, rfl, DPut.k (k := kLeft) (s3 _ _ M2'.dk) (by show 3 < sizeLine; decide), ?_⟩
          have ep : putK (mKvs c' l' n) kLeft (.ref q) = mKvs c' q n := put3_2
          rw [ep]
          obtain ⟨cs, hc, hc2⟩ := M2'.cs
          obtain ⟨ls', hl3, hl4, hl5⟩ := M2'.ls
          have els : ls' = z :: r := map_int_inj (HO.lst.inj (Option.some.inj (hl3.symm.trans hl2)))
          subst els
          have cq : c' ≠ q := ne_of_none hc hq
          have cm : c' ≠ m := ne_of hc M2'.dk (by intro w; cases w)
          refine ⟨rfl, ?_, c', q, r, ⟨upd_same, ⟨cs, ?_, hc2⟩, ⟨r, ?_, ?_, ?_⟩, cq⟩, ?_, rfl⟩
          · refine e2.trans ⟨fun b o hb h1 _ => ?_, fun b hb => ?_, fun o ho => ⟨_, upd_same⟩⟩
            · rw [upd_ne h1, upd_ne (ne_of_none hb hq)]
              exact hb
            · obtain ⟨kvs, kk, w1, w2⟩ := hb
              rw [upd_same] at w1
              cases w1
              rcases mKvs_ref w2 with q1 | q1
              · rw [q1]
                exact .inl M2'.ownC
              · rw [q1]
                exact .inr hq
          · rw [upd_ne cm, upd_ne cq]
            exact hc
          · rw [upd_ne (Ne.symm mq), upd_same]
          · simp at hl4
            omega
          · exact fun y hy => hl5 y (List.mem_cons_of_mem _ hy)
          · rw [upd_ne (Ne.symm mq), upd_same]
  · rintro σ H1 ⟨rfl, M1, e1⟩
    obtain ⟨c, l, M1⟩ := M1
    obtain ⟨ls, hl, hl4, hl5⟩ := M1.ls
    refine ⟨_, rfl, m, _, rfl, M1.left, rd_ne_nil hl fun p hp => ⟨_, rfl, ?_⟩⟩
    have s2 := same_upd hp (.lst [])
    have M2 : MAt (upd H1 p (.lst [])) m c l n := M1.same s2
    have e2 : Ef m H (upd H1 p (.lst [])) := e1.trans (Ef.ofSame ⟨c, l, M1⟩ s2)
    have hl2 := s2 _ _ hl
    have lm : l ≠ m := ne_of hl2 M2.dk (by intro w; cases w)
    cases ls with
    | cons z r =>
      refine iteT ?_
      refine ⟨_, rfl, m, _, rfl, M2.left, l, _, _, V.int z, rfl, rfl, SqL.of hl2, at_zero, .inl ⟨_, rfl, ?_⟩⟩
      refine ⟨_, rfl, _, rfl, _, _, rfl, rfl, ⟨h0, log_ok h0 h9⟩, _, rfl, m, _, rfl, M2.left, l, _, 0, 0, rfl, rfl, hl2, by simp [ixN], ?_⟩
      refine ⟨_, rfl, _, rfl, _, _, rfl, rfl, by omega, ?_⟩
      refine k _ n _ (Int.fmod_nonneg_of_pos _ h0) (Int.fmod_lt_of_pos _ h0) (Nat.le_succ n) ⟨c, l, ?_, ?_, ⟨(z / many) :: r, ?_, hl4, ?_⟩, M2.cl⟩ (e2.trans ⟨fun b o hb h1 h2 => ?_, fun b hb => ?_, fun o ho => ⟨o, ?_⟩⟩)
      · rw [upd_ne (Ne.symm lm)]
        exact M2.dk
      · obtain ⟨cs, hc, hc2⟩ := M2.cs
        exact ⟨cs, by rw [upd_ne M2.cl]; exact hc, hc2⟩
      · rw [upd_same]
        all_goals rfl
      · intro y hy
        rcases List.mem_cons.mp hy with q | q
        · rw [q]
          exact Int.ediv_nonneg (hl5 z List.mem_cons_self) (by omega)
        · exact hl5 y (List.mem_cons_of_mem _ q)
      · rw [upd_ne (fun q => h2 (by rw [q]; exact M2.ownL))]
        exact hb
      · exact .inl (hb.upd (Ne.symm lm))
      · rw [upd_ne (Ne.symm lm)]
        exact ho
    | nil =>
      refine iteF ?_
      refine ⟨_, rfl, m, _, rfl, M2.at, _, _, rfl, rfl, ?_⟩
      refine ⟨_, rfl, _, rfl, m, _, rfl, DPut.k (k := kAt) M2.dk (by show 3 < sizeLine; decide), ?_⟩
      have ep : putK (mKvs c l n) kAt (.int ((n : Int) + 1)) = mKvs c l (n + 1) := put3_3
      rw [ep]
      have M3 : MAt (upd (upd H1 p (.lst [])) m (.dK (mKvs c l (n + 1)))) m c l (n + 1) := by
        obtain ⟨cs, hc, hc2⟩ := M2.cs
        obtain ⟨ls', q1, q2, q3⟩ := M2.ls
        exact ⟨upd_same, ⟨cs, by rw [upd_ne (ne_of hc M2.dk (by intro w; cases w))]; exact hc, hc2⟩, ⟨ls', by rw [upd_ne lm]; exact q1, q2, q3⟩, M2.cl⟩
      have e3 : Ef m H (upd (upd H1 p (.lst [])) m (.dK (mKvs c l (n + 1)))) := by
        refine e2.trans ⟨fun b o hb h1 _ => by rw [upd_ne h1]; exact hb, fun b hb => ?_, fun o _ => ⟨_, upd_same⟩⟩
        obtain ⟨kvs, kk, w1, w2⟩ := hb
        rw [upd_same] at w1
        cases w1
        rcases mKvs_ref w2 with q1 | q1
        · rw [q1]
          exact .inl M2.ownC
        · rw [q1]
          exact .inl M2.ownL
      dsimp only
      refine seq_cut (fun v H' => ∃ i : Int, v = .int i ∧ MS H' m (n + 1) ∧ Ef m H H') (fun Q' k' => ?_) ?_
      · obtain ⟨cs, hc, hc2⟩ := M3.cs
        refine ⟨_, rfl, m, _, rfl, M3.cells, rd_ne_nil hc fun q hq => ⟨_, rfl, ?_⟩⟩
        have s4 := same_upd hq (.lst [])
        have M4 := M3.same s4
        have e4 := e3.trans (Ef.ofSame ⟨c, l, M3⟩ s4)
        have hc4 := s4 _ _ hc
        cases cs with
        | nil => exact iteF (k' _ _ ⟨3, rfl, ⟨c, l, M4⟩, e4⟩)
        | cons z r =>
          refine iteT ?_
          have hp0 : (0 : Int) < (((z :: r).map V.int).length : Int) := by
            rw [List.length_map, List.length_cons]
            omega
          obtain ⟨v, hv⟩ := at_mod (n + 1 : Int) (xs := z :: r) hp0
          refine ⟨_, rfl, m, _, rfl, M4.cells, _, rfl, .inl ⟨_, rfl, _, rfl, m, _, rfl, M4.cells, c, _, rfl, .inl (SqL.of hc4), _, _, rfl, rfl, by omega, c, _, _, V.int v, rfl, rfl, SqL.of hc4, hv, ?_⟩⟩
          exact k' _ _ ⟨v, rfl, ⟨c, l, M4⟩, e4⟩
      · rintro v H4 ⟨i, rfl, M4, e4⟩
        have z0 : (0 : Int) ≤ (n : Int) + 1 := by omega
        have z1 : ((n : Int) + 1) < 2 ^ 41 := by
          have hn' : ((n : Nat) : Int) < ((2 ^ 40 : Nat) : Int) := Int.ofNat_lt.mpr hn
          have : ((2 ^ 40 : Nat) : Int) = 1099511627776 := by decide
          omega
        refine ⟨_, rfl, .inl ⟨_, rfl, _, _, rfl, rfl, by omega, _, rfl, _, _, rfl, rfl, .inl (by decide), _, _, rfl, rfl, ?_⟩⟩
        refine ⟨_, rfl, _, _, rfl, rfl, .inl (by decide), _, rfl, _, _, rfl, rfl, .inl (by constructor <;> omega), _, _, rfl, rfl, .inl ⟨_, rfl, _, _, rfl, rfl, .inr (by decide), ?_⟩⟩
        refine ⟨_, rfl, .inl ⟨_, rfl, _, _, rfl, rfl, by omega, _, rfl, _, _, rfl, rfl, .inl (by decide), _, _, rfl, rfl, .inl ⟨_, rfl, _, _, rfl, rfl, .inr (by decide), ?_⟩⟩⟩
        refine ⟨_, rfl, .inl ⟨_, rfl, _, _, rfl, rfl, by omega, _, _, rfl, rfl, ⟨by decide, by decide⟩, .inl ⟨_, rfl, _, rfl, _, _, rfl, rfl, by omega, ?_⟩⟩⟩
        exact k _ (n + 1) _ (Int.fmod_nonneg_of_pos _ h0) (Int.fmod_lt_of_pos _ h0) (Nat.le_refl _) M4 e4
end
section
variable {P : Program} {w : World} {K : PySem.W.Frag} {mg : Str → Option Value} {base : Heap}
theorem ok_are_samples (T : Top K mg) : FnOk P w K mg base CX0 2 T.a_are_samples T.d_are_samples ["thing", "many"] (sp_are_samples K) := by
  refine T.F_are_samples.ok sc_are_samples (fun vs H Q E h => ?_) (fun cdv A outer s H vs Q E hr h => ?_)
  · obtain ⟨v, xs, rfl, hv, hl, k⟩ := h
    rfl
  obtain ⟨v, xs, rfl, hv, hl, k⟩ := h
  refine ⟨_, (pss_cons (ps_if (PW.pt (pw_or (pt_not (pt_val (pe_callB (k_isi (K := K)) (by rfl) T.z_isinstance bt_isinstance (pa_cons (pv 0) (pa_cons (pe_bltn (v := .ty "tuple") (by rfl) T.z_tuple bt_tuple rfl) pa_nil))))) (pw_or1 (pt_cmpR op_ne (pe_callB (k_len (K := K)) (by rfl) T.z_len bt_len (pa_cons (pv 0) pa_nil)) (pv 1) (nomark _))))) (pss_one (ps_ret pe_bl)) pss_nil)
      (pss_one (ps_ret (pe_callB (k_all (K := K) rfl) (by rfl) T.z_all bt_all (pa_cons (pe_lc (own := [("sample", 2)]) rfl sc_are_samples.nd (k_piT (K := K) (pv 0)) (blkOk_by (own := [("sample", 2)]) (N := ["thing", "many", "sample"]) (sc := defScope s_are_samples) (by decide +kernel)) (fun _ _ _ _ _ => (pg_name (i := 2) sc_are_samples.nd rfl (Or.inl rfl))) (fun _ _ _ _ _ => pts_nil) (fun _ _ _ _ _ => (pe_call (ok_is_whole T) (hr.mono (by decide)) (by rfl) T.m_is_whole T.F_is_whole.kp T.b_is_whole .nil pass0 (pa_cons (pv 2) pa_nil)))) pa_nil))))), ?_⟩
  obtain ⟨a, rfl, hT⟩ := hv.ints
  refine ⟨_, rfl, _, _, _, _, true, rfl, ClsV.ty _, hT.ty, kit_tt, true, rfl, iteF ?_⟩
  refine ⟨_, rfl, a, _, rfl, .inr hT, _, rfl, rfl, _, rfl, iteNS (by rw [List.length_map]) ?_⟩
  refine ⟨_, rfl, a, rfl, ⟨_, hT⟩, fun D hD => ?_⟩
  refine lc_it walk_tup (fun i H' => H' D = some (.lst ((List.replicate i true).map V.bl)) ∧ Same H H') ⟨upd_same, same_upd hD _⟩ (fun i H' _ p => Same.tk p.2 _ _ hT) ?_ ?_
  · rintro i x H1 H2 hi ⟨hA, s1⟩ ⟨rfl, hx⟩
    obtain ⟨c, hc, rfl⟩ := map_int_get hx
    rw [List.length_map] at hi
    refine ⟨rfl, ?_⟩
    refine ⟨_, rfl, .int c, _, true, false, rfl, .base (.int c), kit_ii, kit_ib, ?_⟩
    refine ⟨_, hA, by rw [List.length_map, List.length_replicate]; exact small1000 (by omega), ?_, ?_⟩
    · rw [upd_same]
      exact rep_more
    · exact fun b' o q => by
        rw [upd_ne (ne_of_none q hD)]
        exact s1 _ _ q
  · rintro H1 ⟨hA, s1⟩
    refine ⟨D, _, rfl, SqL.of hA, ?_⟩
    rw [rep_bl]
    exact k H1 s1
end
section
variable {P : Program} {w : World} {K : PySem.W.Frag} {mg : Str → Option Value} {base : Heap}
theorem ok_is_tick (T : Top K mg) : FnOk P w K mg base CX0 2 T.a_is_tick T.d_is_tick ["thing"] (sp_is_tick K) := by
  refine T.F_is_tick.ok sc_is_tick (fun vs H Q E h => ?_) (fun cdv A outer s H vs Q E hr h => ?_)
  · obtain ⟨i, rfl, k⟩ := h
    rfl
  obtain ⟨i, rfl, k⟩ := h
  refine ⟨_, (pss_one (ps_ret (pe_and (pe_call (ok_is_whole T) (hr.mono (by decide)) (by rfl) T.m_is_whole T.F_is_whole.kp T.b_is_whole .nil pass0 (pa_cons (pv 0) pa_nil)) (pe_one (pe_chain op_le op_le pe_int (pv 0) (pe_op op_pow pe_int pe_int)))))), ?_⟩
  refine ⟨_, rfl, .int i, _, true, false, rfl, .base (.int i), kit_ii, kit_ib, _, rfl, ?_⟩
  refine iteT ?_
  by_cases h0 : 0 ≤ i
  · rw [decide_eq_true h0, Bool.true_and] at k
    refine ⟨_, rfl, _, _, rfl, rfl, _, rfl, iteP h0 ?_⟩
    refine ⟨_, _, rfl, rfl, ⟨by decide, by decide, by decide⟩, _, _, rfl, rfl, ?_⟩
    exact k
  · rw [decide_eq_false h0, Bool.false_and] at k
    refine ⟨_, rfl, _, _, rfl, rfl, _, rfl, ?_⟩
    refine ite2 (fun cc => absurd (of_decide_eq_true cc) h0) (fun _ => ?_)
    exact k
end
section
variable {P : Program} {w : World} {K : PySem.W.Frag} {mg : Str → Option Value} {base : Heap}
theorem ok_need_many (T : Top K mg) : FnOk P w K mg base CX0 2 T.a_need_many T.d_need_many ["thing"] (sp_need_many K) := by
  refine T.F_need_many.ok sc_need_many (fun vs H Q E h => ?_) (fun cdv A outer s H vs Q E hr h => ?_)
  · obtain ⟨i, rfl, h0, h1, k⟩ := h
    rfl
  obtain ⟨i, rfl, h0, h1, k⟩ := h
  refine ⟨_, (pss_one (ps_if (PW.pt (pw_or (pt_not (pt_val (pe_call (ok_is_whole T) (hr.mono (by decide)) (by rfl) T.m_is_whole T.F_is_whole.kp T.b_is_whole .nil pass0 (pa_cons (pv 0) pa_nil)))) (pw_or1 (pt_not (pt_chain op_le op_le pe_int (pv 0) pe_int))))) (pss_one ps_never) pss_nil)), ?_⟩
  refine ⟨_, rfl, .int i, _, true, false, rfl, .base (.int i), kit_ii, kit_ib, _, rfl, ?_⟩
  refine iteF ?_
  refine ⟨_, rfl, _, _, rfl, rfl, _, rfl, iteP h0 ?_⟩
  refine ⟨_, _, rfl, rfl, _, rfl, ?_⟩
  show (if (!decide (i ≤ (1000 : Int))) = true then _ else _)
  rw [decide_eq_true h1]
  exact iteF k
end
section
variable {P : Program} {w : World} {K : PySem.W.Frag} {mg : Str → Option Value} {base : Heap}
theorem ok_need_lengths (T : Top K mg) : FnOk P w K mg base CX0 2 T.a_need_lengths T.d_need_lengths ["thing"] (sp_need_lengths K) := by
  refine T.F_need_lengths.ok sc_need_lengths (fun vs H Q E h => ?_) (fun cdv A outer s H vs Q E hr h => ?_)
  · obtain ⟨v, ds, rfl, hv, ok, k⟩ := h
    rfl
  obtain ⟨v, ds, rfl, hv, ok, k⟩ := h
  refine ⟨_, (pss_cons (ps_if (PW.pt (pw_or (pt_not (pt_val (pe_callB (k_isi (K := K)) (by rfl) T.z_isinstance bt_isinstance (pa_cons (pv 0) (pa_cons (pe_bltn (v := .ty "tuple") (by rfl) T.z_tuple bt_tuple rfl) pa_nil))))) (pw_or1 (pt_cmpR op_gt (pe_callB (k_len (K := K)) (by rfl) T.z_len bt_len (pa_cons (pv 0) pa_nil)) (pe_glob (v := .int 6) rfl T.c_MOST_LENGTHS_spans ⟨_, rfl⟩) (nomark _))))) (pss_one ps_never) pss_nil)
      (pss_cons (ps_for PassesOwn.never rfl (k_piET (K := K) (by rfl) T.z_enumerate (pa_cons (pv 0) pa_nil)) (pg_tup rfl (pgs_cons (pg_name (i := 1) sc_need_lengths.nd rfl (Or.inl rfl)) (pgs_cons (pg_name (i := 2) sc_need_lengths.nd rfl (Or.inl rfl)) pgs_nil))) (pss_one (ps_if (PW.pt (pw_or (pt_not (pt_val (pe_call (ok_is_whole T) (hr.mono (by decide)) (by rfl) T.m_is_whole T.F_is_whole.kp T.b_is_whole .nil pass0 (pa_cons (pv 2) pa_nil)))) (pw_or1 (pt_not (pt_chain op_le op_le pe_int (pv 2) (pe_glob (v := .int 64) rfl T.c_MOST_LENGTH_spans ⟨_, rfl⟩)))))) (pss_one ps_never) pss_nil)))
      (pss_one (ps_ret (pv 0))))), ?_⟩
  obtain ⟨ok1, ok2⟩ := ok
  obtain ⟨a, rfl, hT⟩ := hv.ints
  refine ⟨_, rfl, _, _, _, _, true, rfl, ClsV.ty _, hT.ty, kit_tt, true, rfl, iteF ?_⟩
  refine ⟨_, rfl, a, _, rfl, .inr hT, _, _, rfl, rfl, _, rfl, iteN (by rw [List.length_map]; omega) ?_⟩
  refine ⟨_, rfl, a, _, rfl, hT, ?_⟩
  refine for_it walk_enumT (fun i σ H' => ∃ w1 w2, σ = [some (.ref a), w1, w2] ∧ Same H H') ⟨none, none, rfl, Same.refl H⟩ (fun i σ H' _ ⟨_, _, _, s⟩ => Same.tk s _ _ hT) ?_ ?_
  · rintro i x σ H1 H2 hi ⟨w1, w2, rfl, s1⟩ ⟨t, y, z, rfl, ht, rfl, hy, hz⟩
    cases hy
    obtain ⟨c, hc, rfl⟩ := map_int_get hz
    obtain ⟨c1, c2⟩ := ok2 c (List.mem_of_getElem? hc)
    have s2 := same_step s1 ht (.tup [.int (i : Nat), .int c])
    refine ⟨t, _, rfl, SqT.of upd_same, rfl, _, _, rfl, _, _, rfl, rfl, ?_⟩
    refine ⟨_, rfl, .int c, _, true, false, rfl, .base (.int c), kit_ii, kit_ib, _, rfl, ?_⟩
    refine iteF ?_
    refine ⟨_, rfl, _, _, rfl, rfl, _, rfl, iteP c1 ?_⟩
    refine ⟨_, _, rfl, rfl, _, rfl, ?_⟩
    show (if (!decide (c ≤ (64 : Int))) = true then _ else _)
    rw [decide_eq_true c2]
    exact iteF ⟨_, _, rfl, s2⟩
  rintro σ H2 ⟨w1, w2, rfl, s2⟩
  exact ⟨_, rfl, k H2 s2⟩
end
section
variable {P : Program} {w : World} {K : PySem.W.Frag} {mg : Str → Option Value} {base : Heap}
theorem ok_common_multiple (T : Top K mg) : FnOk P w K mg base CX0 2 T.a_common_multiple T.d_common_multiple ["lengths"] (sp_common_multipleK K) := by
  refine T.F_common_multiple.ok sc_common_multiple (fun vs H Q E h => ?_) (fun cdv A outer s H vs Q E hr h => ?_)
  · obtain ⟨kd, a, ns, rfl, hT, h1, h2, k⟩ := h
    rfl
  obtain ⟨kd, a, ns, rfl, hT, h1, h2, k⟩ := h
  refine ⟨_, (pss_cons (ps_set (i := 1) sc_common_multiple.nd rfl (Or.inl rfl) pe_int)
      (pss_cons (ps_for PassesOwn.never rfl (k_piK (K := K) (pv 0)) (pg_name (i := 2) sc_common_multiple.nd rfl (Or.inl rfl)) (pss_one (ps_set (i := 1) sc_common_multiple.nd rfl (Or.inl rfl) (pe_op op_mul (pv 1) (pe_op op_fdivW (pv 2) (pe_call (ok_common_divisor T) (hr.mono (by decide)) (by rfl) T.m_common_divisor T.F_common_divisor.kp T.b_common_divisor .nil pass0 (pa_cons (pv 1) (pa_cons (pv 2) pa_nil))))))))
      (pss_one (ps_ret (pv 1))))), ?_⟩
  have hT : SqK kd K H a ((NN ns).map V.int) := hT
  refine ⟨_, rfl, kd, a, _, rfl, hT, ?_⟩
  refine for_it (walk_row (xs := (NN ns).map V.int)) (fun i σ H' => ∃ w1, σ = [some (.ref a), some (.int (lcmN (ns.take i) : Nat)), w1] ∧ H' = H) ⟨none, rfl, rfl⟩ (fun i σ H' _ ⟨_, _, s⟩ => s ▸ hT) ?_ ?_
  · rintro i x σ H2 H3 hi ⟨w1, rfl, rfl⟩ ⟨rfl, hx⟩
    obtain ⟨c, hc, rfl⟩ := map_int_get hx
    obtain ⟨n, hn, rfl⟩ := nn_get hc
    have n1 := h1 n (List.mem_of_getElem? hn)
    have gp : 0 < Nat.gcd (lcmN (ns.take i)) n := Nat.gcd_pos_of_pos_right _ n1
    have nL : n ≤ lcmN ns := Nat.le_of_dvd (lcmN_pos h1) (dvd_lcmN (List.mem_of_getElem? hn))
    have gL : Nat.gcd (lcmN (ns.take i)) n ≤ 2 ^ 40 := Nat.le_trans (Nat.gcd_le_right _ n1) (Nat.le_trans nL h2)
    have qL : n / Nat.gcd (lcmN (ns.take i)) n ≤ 2 ^ 40 := Nat.le_trans (Nat.div_le_self _ _) (Nat.le_trans nL h2)
    have q0 : 0 ≤ (n : Int) / ((Nat.gcd (lcmN (ns.take i)) n : Nat) : Int) := Int.ediv_nonneg (by omega) (by omega)
    refine ⟨_, rfl, _, rfl, _, rfl, _, rfl, lcmN (ns.take i), n, rfl, _, _, rfl, rfl, ⟨by omega, log_nat gL⟩, _, _, rfl, rfl, .inr ⟨by omega, by omega⟩, ?_⟩
    refine ⟨some (V.int (n : Nat)), ?_, rfl⟩
    rw [lcmN_take hn, ← lcm_a, Int.natCast_mul, Int.natCast_ediv]
    rfl
  rintro σ H2 ⟨w1, rfl, rfl⟩
  rw [List.length_map, nn_len, List.take_length]
  exact ⟨_, rfl, k⟩
end
section
variable {P : Program} {w : World} {K : PySem.W.Frag} {mg : Str → Option Value} {base : Heap}
theorem ok_parted_at (T : Top K mg) : FnOk P w K mg base CX0 2 T.a_parted_at T.d_parted_at ["one", "other"] (sp_parted_at K) := by
  refine T.F_parted_at.ok sc_parted_at (fun vs H Q E h => ?_) (fun cdv A outer s H vs Q E hr h => ?_)
  · obtain ⟨v, w, ls, ms, rfl, hv, hw, ok, okm, k⟩ := h
    rfl
  obtain ⟨v, w, ls, ms, rfl, hv, hw, ok, okm, k⟩ := h
  refine ⟨_, (pss_cons (ps_for PassesOwn.never rfl (pi_range1 (by rfl) T.z_range (pa_cons (pe_callB (k_sum (K := K) rfl) (by rfl) T.z_sum bt_sum (pa_cons (pe_lc (own := [("loop", 3)]) rfl sc_parted_at.nd (k_piT (K := K) (pe_op (k_catT (K := K)) (pv 0) (pv 1))) (blkOk_by (own := [("loop", 3)]) (N := ["one", "other", "tick", "loop"]) (sc := defScope s_parted_at) (by decide +kernel)) (fun _ _ _ _ _ => (pg_name (i := 3) sc_parted_at.nd rfl (Or.inl rfl))) (fun _ _ _ _ _ => pts_nil) (fun _ _ _ _ _ => (pe_callB (k_len (K := K)) (by rfl) T.z_len bt_len (pa_cons (pv 3) pa_nil)))) pa_nil)) pa_nil)) (pg_name (i := 2) sc_parted_at.nd rfl (Or.inl rfl)) (pss_one (ps_if (pt_cmpR op_ne (pe_call (ok_sum_at T) (hr.mono (by decide)) (by rfl) T.m_sum_at T.F_sum_at.kp T.b_sum_at .nil pass0 (pa_cons (pv 0) (pa_cons (pv 2) pa_nil))) (pe_call (ok_sum_at T) (hr.mono (by decide)) (by rfl) T.m_sum_at T.F_sum_at.kp T.b_sum_at .nil pass0 (pa_cons (pv 1) (pa_cons (pv 2) pa_nil))) (nomark _)) (pss_one (ps_ret (pv 2))) pss_nil)))
      (pss_one (ps_ret pe_non))), ?_⟩
  obtain ⟨ok1, ok2⟩ := id ok
  obtain ⟨om1, om2⟩ := id okm
  refine ⟨_, rfl, _, rfl, rd_cat hv hw ?_ fun u H1 s1 hu => ?_⟩
  · rw [List.length_map, List.length_map]
    exact Nat.le_of_lt (small1000 (by omega))
  rw [← List.map_append] at hu
  obtain ⟨a, xs, rfl, hT, hX⟩ := Dp.tuple hu
  have hlen := hX.len
  rw [List.length_map, List.length_append] at hlen
  refine ⟨a, rfl, ⟨_, hT⟩, fun D hD => ?_⟩
  refine lc_it walk_tup (fun i H' => H' D = some (.lst ((lensI ((ls ++ ms).take i)).map V.int)) ∧ Same H1 H') ⟨upd_same, same_upd hD _⟩ (fun i H' _ p => Same.tk p.2 _ _ hT) ?_ ?_
  · rintro i x H2 H3 hi ⟨hA, s2⟩ ⟨rfl, hx⟩
    obtain ⟨l, b, hl, rfl, hB⟩ := loops_get hX hx
    have hB1 := Same.tk s2 _ _ hB
    refine ⟨rfl, ?_⟩
    refine ⟨_, rfl, b, _, rfl, .inr hB1, ?_⟩
    refine ⟨_, hA, by unfold lensI; rw [List.length_map, List.length_map, List.length_take, List.length_append]; exact small1000 (by omega), ?_, ?_⟩
    · rw [upd_same, take_more hl]
      simp [lensI]
    · exact fun b' o q => by
        rw [upd_ne (ne_of_none q hD)]
        exact s2 _ _ q
  rintro H2 ⟨hA, s2⟩
  rw [List.take_of_length_le (by rw [List.length_append]; omega), lens_nn] at hA
  refine ⟨D, _, rfl, SqL.of hA, ?_⟩
  have eS : (NN (lenN (ls ++ ms))).sum = (((lenN ls ++ lenN ms).sum : Nat) : Int) := by rw [sum_nn, lenN_app]
  have bS := okl_sum ok okm
  rw [eS]
  refine ⟨_, rfl, by omega, by omega, ?_⟩
  have t2 := s1.trans s2
  refine for_it walk_range (fun i σ H' => ∃ w2, σ = [some v, some w, w2, none] ∧ Same H H' ∧ ∀ t : Nat, t < i → hd ls (t : Int) = hd ms (t : Int)) ⟨_, rfl, t2, fun t h => absurd h (Nat.not_lt_zero _)⟩ (fun _ _ _ _ _ => trivial) ?_ ?_
  · rintro i x σ H3 H4 hi ⟨w2, rfl, s3, hq⟩ ⟨rfl, rfl⟩
    refine ⟨_, rfl, _, rfl, v, ls, _, rfl, hv.same_at s3, ok, fun H5 s5 => ⟨_, rfl, _, rfl, w, ms, _, rfl, hw.same_at (s3.trans s5), okm, fun H6 s6 => ⟨rfl, _, rfl, ?_⟩⟩⟩
    have t6 := s3.trans (s5.trans s6)
    rw [Int.zero_add]
    refine ite2 (fun cc => ?_) (fun cc => ?_)
    · refine ⟨_, rfl, ?_⟩
      show Q (V.int (0 + ((i : Nat) : Int))) H6
      rw [Int.zero_add]
      refine k (some i) H6 ⟨dec_ne.mp cc, hq⟩ (fun t e => ?_) t6
      cases e
      omega
    · refine ⟨_, rfl, t6, fun t ht => ?_⟩
      by_cases e : t < i
      · exact hq t e
      · have e2 : t = i := by omega
        subst e2
        exact Classical.byContradiction fun z => cc (dec_ne.mpr z)
  · rintro σ H3 ⟨w2, rfl, s3, hq⟩
    refine k none H3 (fun t => settled (fun l hl => (ok2 l hl).1) (fun l hl => (om2 l hl).1) (fun t ht => hq t (by omega)) t) (fun t e => by cases e) s3
end
section
variable {P : Program} {w : World} {K : PySem.W.Frag} {mg : Str → Option Value} {base : Heap}
theorem ok_first_ground (T : Top K mg) : FnOk P w K mg base CX0 2 T.a_first_ground T.d_first_ground ["known", "row"] (sp_first_ground K) := by
  refine T.F_first_ground.ok sc_first_ground (fun vs H Q E h => ?_) (fun cdv A outer s H vs Q E hr h => ?_)
  · obtain ⟨v, r, W, row, rfl, hv, hw, w1, w400, r400, hwb, hrb, k⟩ := h
    rfl
  obtain ⟨v, r, W, row, rfl, hv, hw, w1, w400, r400, hwb, hrb, k⟩ := h
  refine ⟨_, (pss_cons (ps_for PassesOwn.never rfl (pi_range2 (by rfl) T.z_range (pa_cons (pe_op op_sub (pe_callB (k_len (K := K)) (by rfl) T.z_len bt_len (pa_cons (pv 0) pa_nil)) pe_int) (pa_cons (pe_callB (k_len (K := K)) (by rfl) T.z_len bt_len (pa_cons (pv 1) pa_nil)) pa_nil))) (pg_name (i := 2) sc_first_ground.nd rfl (Or.inl rfl)) (pss_cons (ps_set (i := 3) sc_first_ground.nd rfl (Or.inl rfl) (pe_op op_sub (pe_op op_add (pv 2) pe_int) (pe_callB (k_len (K := K)) (by rfl) T.z_len bt_len (pa_cons (pv 0) pa_nil))))
      (pss_one (ps_if (pt_cmpR op_ne (pe_call (ok_weighted T) (hr.mono (by decide)) (by rfl) T.m_weighted T.F_weighted.kp T.b_weighted .nil pass0 (pa_cons (pv 0) (pa_cons (pe_slice (k_slT (K := K)) (pv 1) (po_some (pv 3)) po_none) pa_nil))) pe_int (nomark _)) (pss_one (ps_ret (pe_op (k_catT (K := K)) (pe_op (op_repA (K := K)) (pe_tup (pa_cons pe_int pa_nil)) (pv 3)) (pv 0)))) pss_nil))))
      (pss_one (ps_ret pe_non))), ?_⟩
  obtain ⟨wa, rfl, hW⟩ := hv.ints
  obtain ⟨ra, rfl, hR⟩ := hw.ints
  have lW : (W.map V.int).length = W.length := List.length_map ..
  have lR : (row.map V.int).length = row.length := List.length_map ..
  refine ⟨_, rfl, wa, _, rfl, .inr hW, _, _, rfl, rfl, _, rfl, ra, _, rfl, .inr hR, _, _, rfl, ⟨by omega, by omega, by omega, by omega⟩, ?_⟩
  refine for_it walk_range (fun i σ H' => ∃ (w2 w3 : Option V), σ = [some (.ref wa), some (.ref ra), w2, w3] ∧ Same H H' ∧ ∀ a, a < i → dotz W (row.drop a) = 0)
    ⟨_, _, rfl, Same.refl H, fun a h => absurd h (Nat.not_lt_zero a)⟩ (fun _ _ _ _ _ => trivial) ?_ ?_
  · rintro i x σ H1 H2 hi ⟨w2, w3, rfl, s1, h0⟩ ⟨rfl, rfl⟩
    rw [lW, lR] at hi
    have hi : i < row.length + 1 - W.length := by omega
    refine ⟨_, rfl, _, _, rfl, rfl, _, rfl, wa, _, rfl, .inr (Same.tk s1 _ _ hW), _, _, rfl, rfl, ?_⟩
    have e : ((W.map V.int).length : Int) - 1 + (i : Nat) + 1 - ((W.map V.int).length : Int) = ((i : Nat) : Int) := by omega
    refine ⟨_, rfl, _, rfl, _, rfl, _, rfl, ?_⟩
    dsimp only [tNoPart]
    refine rd_cut (Dp.ofInts (Same.tk s1 _ _ hR)) fun w4 H4 s4 hw4 => ?_
    have hw4 : Dp K H4 w4 (dInts (row.drop i)) := by
      have q := hw4
      rw [e, cutD_fromN, ← List.map_drop] at q
      exact q
    obtain ⟨a4, rfl, hT4⟩ := hw4.ints
    have t4 := s1.trans s4
    refine ⟨.tup, .tup, wa, a4, W, row.drop i, rfl, Same.tk t4 _ _ hW, hT4, ⟨by omega, by rw [List.length_drop]; omega, fun x hx y hy => ?_⟩, fun H5 s5 => ⟨rfl, _, rfl, ?_⟩⟩
    · have a := log_of (hwb x hx)
      have b := log_of (hrb y (List.mem_of_mem_drop hy))
      omega
    have t5 := t4.trans s5
    refine ite2 (fun cc => ?_) (fun cc => ?_)
    · have ne : dotz W (row.drop i) ≠ 0 := fun z => by
        rw [z] at cc
        cases cc
      refine ⟨(by show 1 ≤ sizeLine; decide), fun p6 hp6 => ⟨_, rfl, ?_⟩⟩
      have s6 := same_upd hp6 (.tup ([(0 : Int)].map V.int))
      rw [e]
      refine rd_repD (dp_tup [0] hp6) (by decide) (by omega) (by omega) fun w7 H7 s7 hw7 => ?_
      have t7 := t5.trans (s6.trans s7)
      refine ⟨_, rfl, rd_cat hw7 (Dp.ofInts (Same.tk t7 _ _ hW)) ?_ fun w8 H8 s8 hw8 => ?_⟩
      · rw [show [(0 : Int)].map PyData.int = [PyData.int 0] from rfl, rep_flat, List.length_replicate, List.length_map]
        exact Nat.le_of_lt (small1000 (by omega))
      have hw8 : Dp K H8 w8 (dInts (gnd W i)) := by
        have q := hw8
        rw [show [(0 : Int)].map PyData.int = [PyData.int 0] from rfl, rep_flat] at q
        unfold dInts gnd
        rw [List.map_append, List.map_replicate]
        exact q
      have g := gfind_at h0 hi ne
      refine k _ _ (t7.trans s8) (fun z => by rw [g] at z; cases z) (fun a ha => ?_)
      rw [g] at ha
      cases ha
      obtain ⟨b, rfl, hb⟩ := hw8.ints
      exact ⟨b, rfl, hw8⟩
    · have eq : dotz W (row.drop i) = 0 := Classical.byContradiction fun z => cc (by
        rw [decide_eq_false fun y => z (by injection y)]
        rfl)
      refine ⟨_, _, rfl, t5, fun a ha => ?_⟩
      rcases Nat.lt_succ_iff_lt_or_eq.mp ha with q | q
      · exact h0 a q
      · rw [q]
        exact eq
  rintro σ H1 ⟨w2, w3, rfl, s1, h0⟩
  rw [lW, lR] at h0
  have g := gfind_no (W := W) (row := row) fun a ha => h0 a (by omega)
  exact k _ _ s1 (fun _ => rfl) (fun a ha => by rw [g] at ha; cases ha)
end
section
variable {P : Program} {w : World} {K : PySem.W.Frag} {mg : Str → Option Value} {base : Heap}
theorem ok_mixed (T : Top K mg) : FnOk P w K mg base CX0 2 T.a_mixed T.d_mixed ["loop", "factors"] (sp_mixed K) := by
  refine T.F_mixed.ok sc_mixed (fun vs H Q E h => ?_) (fun cdv A outer s H vs Q E hr h => ?_)
  · obtain ⟨v, a, l, fs, rfl, hv, hf, l1, l64, f400, hfb, hlb, k⟩ := h
    rfl
  obtain ⟨v, a, l, fs, rfl, hv, hf, l1, l64, f400, hfb, hlb, k⟩ := h
  refine ⟨_, (pss_cons (ps_set (i := 2) sc_mixed.nd rfl (Or.inr rfl) (pe_op op_sub (pe_callB (k_len (K := K)) (by rfl) T.z_len bt_len (pa_cons (pv 1) pa_nil)) pe_int))
      (pss_cons (ps_set (i := 3) sc_mixed.nd rfl (Or.inr rfl) (pe_lc (own := [("at", 4)]) rfl sc_mixed.nd (pi_range1 (by rfl) T.z_range (pa_cons (pe_callB (k_len (K := K)) (by rfl) T.z_len bt_len (pa_cons (pv 1) pa_nil)) pa_nil)) (blkOk_by (own := [("at", 4)]) (N := ["loop", "factors", "last", "begun", "at", "tick", "ring"]) (sc := defScope s_mixed) (by decide +kernel)) (fun _ _ _ _ _ => (pg_name (i := 4) sc_mixed.nd rfl (Or.inl rfl))) (fun _ _ _ _ _ => pts_nil) (fun _ _ _ _ _ => (pe_call (ok_begun_at T) (hr.mono (by decide)) (by rfl) T.m_begun_at T.F_begun_at.kp T.b_begun_at .nil pass0 (pa_cons (pv 0) (pa_cons (pe_op op_modN (pe_op op_sub (pv 2) (pv 4)) (pe_callB (k_len (K := K)) (by rfl) T.z_len bt_len (pa_cons (pv 0) pa_nil))) pa_nil))))))
      (pss_one (ps_ret (pe_callTy (k_tuple (K := K)) (by rfl) T.z_tuple bt_tuple (pa_cons (pe_lc (own := [("tick", 5)]) rfl sc_mixed.nd (pi_range1 (by rfl) T.z_range (pa_cons (pe_callB (k_len (K := K)) (by rfl) T.z_len bt_len (pa_cons (pv 0) pa_nil)) pa_nil)) (blkOk_by (own := [("tick", 5)]) (N := ["loop", "factors", "last", "begun", "at", "tick", "ring"]) (sc := defScope s_mixed) (by decide +kernel)) (fun _ _ _ _ _ => (pg_name (i := 5) sc_mixed.nd rfl (Or.inr rfl))) (fun _ _ _ _ _ => pts_nil) (fun _ _ _ _ _ => (pe_call (ok_weighted T) (hr.mono (by decide)) (by rfl) T.m_weighted T.F_weighted.kp T.b_weighted .nil pass0 (pa_cons (pv 1) (pa_cons (pe_lc (own := [("ring", 6)]) rfl sc_mixed.nd (k_piL (K := K) (pv 3)) (by exact blkOk_by (by rfl)) (fun _ _ _ _ _ => (pg_name (i := 6) sc_mixed.nd rfl (Or.inl rfl))) (fun _ _ _ _ _ => pts_nil) (fun _ _ _ _ _ => (pe_ix (k_ixT (K := K)) (pv 6) (pv 5) (fun _ _ => rfl)))) pa_nil))))) pa_nil)))))), ?_⟩
  obtain ⟨lv, rfl, hT⟩ := hv.ints
  have lF : (fs.map V.int).length = fs.length := List.length_map ..
  have lL : (l.map V.int).length = l.length := List.length_map ..
  refine ⟨_, rfl, a, _, rfl, .inl (SqL.of hf), _, _, rfl, rfl, ?_⟩
  rw [lF]
  refine ⟨_, rfl, a, _, rfl, .inl (SqL.of hf), _, rfl, by rw [lF]; omega, by rw [lF]; omega, fun D hD => ?_⟩
  rw [lF]
  refine lc_it walk_range (fun i H' => (∃ ys, H' D = some (.lst ys) ∧ DpAll K H' ys (((List.range i).map fun j => turnL l ((fs.length - 1 - j) % l.length)).map dInts)) ∧ Same H H') ⟨⟨_, upd_same, .nil⟩, same_upd hD _⟩ (fun _ _ _ _ => trivial) ?_ ?_
  · rintro i x H2 H3 hi ⟨⟨ys, hA, hY⟩, s2⟩ ⟨rfl, rfl⟩
    have hi : i < fs.length := by omega
    have hT2 := Same.tk s2 _ _ hT
    refine ⟨rfl, ?_⟩
    refine ⟨_, rfl, _, rfl, _, rfl, _, _, rfl, rfl, _, rfl, lv, _, rfl, .inr hT2, _, _, rfl, rfl, by omega, ?_⟩
    have e : (((fs.length : Nat) : Int) - 1 - (0 + (i : Nat))).fmod (((l.map V.int).length : Nat) : Int) = (((fs.length - 1 - i) % l.length : Nat) : Int) := by
      rw [lL, Int.fmod_eq_emod_of_nonneg _ (by omega), Int.natCast_emod]
      congr 1
      omega
    have lt := Nat.mod_lt (fs.length - 1 - i) (show 0 < l.length by omega)
    refine ⟨.ref lv, l, (((fs.length - 1 - i) % l.length : Nat) : Int), congrArg (fun z => [V.ref lv, V.int z]) e, Dp.ofInts hT2, by omega, by omega, l64, fun w H4 s4 hw => ?_⟩
    rw [show (((fs.length - 1 - i) % l.length : Nat) : Int).toNat = (fs.length - 1 - i) % l.length from rfl] at hw
    have hyl := hY.len
    rw [List.length_map, List.length_map, List.length_range] at hyl
    refine ⟨ys, s4 _ _ hA, small1000 (by omega), ⟨ys ++ [w], upd_same, ?_⟩, ?_⟩
    · rw [tab_more, List.map_append]
      have tk := (Same.tk (K := K) s4).trans (tk_upd (o := .lst (ys ++ [w])) (s4 _ _ hA))
      exact (DpAll.keepT tk _ _ (to_loops _) hY).app (.cons (Dp.keepT (tk_upd (s4 _ _ hA)) _ _ (to_ints _) hw) .nil)
    · exact fun b' o q => by
        rw [upd_ne (ne_of_none q hD)]
        exact s4 _ _ (s2 _ _ q)
  rintro H2 ⟨⟨ys, hA, hY⟩, s2⟩
  have hn : (((fs.length : Nat) : Int)).toNat = fs.length := rfl
  rw [hn] at hY
  have hyl := hY.len
  rw [List.length_map, List.length_map, List.length_range] at hyl
  have hT2 := Same.tk s2 _ _ hT
  refine ⟨_, rfl, lv, _, rfl, .inr hT2, _, rfl, by rw [lL]; omega, by rw [lL]; omega, fun D2 hD2 => ?_⟩
  rw [lL]
  refine lc_it walk_range (fun i H' => H' D2 = some (.lst (((mixL l fs).take i).map V.int)) ∧ Same H2 H') ⟨upd_same, same_upd hD2 _⟩ (fun _ _ _ _ => trivial) ?_ ?_
  · rintro i x H3 H4 hi ⟨hB, s3⟩ ⟨rfl, rfl⟩
    have hi : i < l.length := by omega
    refine ⟨rfl, ?_⟩
    refine ⟨_, rfl, _, rfl, D, rfl, ⟨_, SqL.of (s3 _ _ hA)⟩, fun D3 hD3 => ?_⟩
    refine lc_it (walk_list (xs := ys)) (fun j H' => H' D3 = some (.lst (((List.range j).map fun k => hAt l ((i + (fs.length - 1 - k) : Nat) : Int)).map V.int)) ∧ Same H4 H') ⟨upd_same, same_upd hD3 _⟩ (fun j H' _ p => (SqL.of (s3.trans p.2 _ _ hA))) ?_ ?_
    · rintro j x H5 H6 hj ⟨hC, s5⟩ ⟨rfl, hx⟩
      have hj : j < fs.length := by omega
      obtain ⟨d, hd, hDx⟩ := (DpAll.same (s3.trans s5) _ _ hY).get hx
      rw [List.getElem?_map, tab_get hj] at hd
      cases hd
      obtain ⟨b, rfl, hBt⟩ := Dp.ints hDx
      refine ⟨rfl, ?_⟩
      have lt := Nat.mod_lt (fs.length - 1 - j) (show 0 < l.length by omega)
      have tl := turn_len l ((fs.length - 1 - j) % l.length)
      have hget : (turnL l ((fs.length - 1 - j) % l.length))[i]? = some (hAt l ((i + (fs.length - 1 - j) : Nat) : Int)) := by
        rw [turn_get lt hi, Nat.mod_add_mod, hAt_nat l1, Nat.add_comm i, List.getD_eq_getElem?_getD]
        have lt2 := Nat.mod_lt (fs.length - 1 - j + i) (show 0 < l.length by omega)
        rw [List.getElem?_eq_getElem lt2]
        rfl
      refine ⟨_, rfl, _, rfl, b, _, _, _, rfl, rfl, hBt, at_of (j := i) (by omega) (by rw [List.getElem?_map, hget]; rfl), ?_⟩
      refine ⟨_, hC, ?_, ?_, ?_⟩
      · rw [List.length_map, List.length_map, List.length_range]
        exact small1000 (by omega)
      · rw [upd_same, tab_more, List.map_append]
        rfl
      · exact fun b o q => by
          rw [upd_ne (ne_of_none q hD3)]
          exact s5 _ _ q
    rintro H5 ⟨hC, s5⟩
    rw [hyl] at hC
    refine ⟨.lst, .lst, a, D3, fs, _, rfl, SqL.of (s5 _ _ (s3 _ _ (s2 _ _ hf))), SqL.of hC, ⟨by omega, by rw [List.length_map, List.length_range]; omega, fun x hx y hy => ?_⟩, fun H6 s6 => ?_⟩
    · have p := log_of (hfb x hx)
      obtain ⟨q, _, rfl⟩ := tab_mem hy
      have p2 := log_of (hAt_small hlb ((i + (fs.length - 1 - q) : Nat) : Int))
      omega
    have ed : dotz fs ((List.range fs.length).map fun k => hAt l ((i + (fs.length - 1 - k) : Nat) : Int)) = (mixL l fs).getD i 0 := by
      unfold mixL
      rw [getD_tab hi, dotz_sm, List.length_map, List.length_range]
      refine sm_congr _ fun k hk => ?_
      rw [getD_tab hk]
    rw [ed]
    have gi : (mixL l fs)[i]? = some ((mixL l fs).getD i 0) := by
      rw [List.getD_eq_getElem?_getD, List.getElem?_eq_getElem (by rw [mixL_len]; exact hi)]
      rfl
    refine ⟨_, (s5.trans s6) _ _ hB, ?_, ?_, ?_⟩
    · rw [List.length_map, List.length_take]
      exact small1000 (by omega)
    · rw [upd_same, take_more gi, List.map_append]
      rfl
    · exact fun b o q => by
        rw [upd_ne (ne_of_none q hD2)]
        exact s6 _ _ (s5 _ _ (s3 _ _ q))
  rintro H3 ⟨hB, s3⟩
  rw [show (((l.length : Nat) : Int)).toNat = (mixL l fs).length by rw [mixL_len]; rfl, List.take_length] at hB
  exact ⟨D2, _, rfl, .inl ⟨SqL.of hB, fun t ht => k _ _ (s2.trans (s3.trans (same_upd ht _))) (Dp.ofInts (SqT.of upd_same))⟩⟩
end
section
variable {P : Program} {w : World} {K : PySem.W.Frag} {mg : Str → Option Value} {base : Heap}
theorem ok_last_loop (T : Top K mg) : FnOk P w K mg base CX0 2 T.a_last_loop T.d_last_loop ["lengths"] (sp_last_loop K) := by
  refine T.F_last_loop.ok sc_last_loop (fun vs H Q E h => ?_) (fun cdv A outer s H vs Q E hr h => ?_)
  · obtain ⟨v, os, L, rfl, hv, ok, k⟩ := h
    rfl
  obtain ⟨v, os, L, rfl, hv, ok, k⟩ := h
  refine ⟨_, (pss_cons (ps_set (i := 1) sc_last_loop.nd rfl (Or.inl rfl) (pe_ix (k_ixT (K := K)) (pv 0) (pe_un un_neg pe_int) (fun _ _ => rfl)))
      (pss_cons (ps_set (i := 2) sc_last_loop.nd rfl (Or.inl rfl) (pe_op (k_catT (K := K)) (pe_op (op_repA (K := K)) (pe_tup (pa_cons pe_int pa_nil)) (pe_op op_sub (pv 1) pe_int)) (pe_tup (pa_cons pe_int pa_nil))))
      (pss_cons (ps_for PassesOwn.never rfl (pi_items (pe_frz (pe_call (ok_ring_powers T) (hr.mono (by decide)) (by rfl) T.m_ring_powers T.F_ring_powers.kp T.b_ring_powers .nil pass0 (pa_cons (pv 0) pa_nil)))) (pg_tup rfl (pgs_cons (pg_name (i := 3) sc_last_loop.nd rfl (Or.inl rfl)) (pgs_cons (pg_name (i := 4) sc_last_loop.nd rfl (Or.inl rfl)) pgs_nil))) (pss_cons (ps_set (i := 5) sc_last_loop.nd rfl (Or.inl rfl) (pe_call (ok_common_divisor T) (hr.mono (by decide)) (by rfl) T.m_common_divisor T.F_common_divisor.kp T.b_common_divisor .nil pass0 (pa_cons (pv 3) (pa_cons (pv 1) pa_nil))))
      (pss_cons (ps_for PassesOwn.never rfl (pi_range1 (by rfl) T.z_range (pa_cons (pv 4) pa_nil)) (pg_name (i := 6) sc_last_loop.nd rfl (Or.inl rfl)) (pss_one (ps_set (i := 2) sc_last_loop.nd rfl (Or.inl rfl) (pe_call (ok_strides T) (hr.mono (by decide)) (by rfl) T.m_strides T.F_strides.kp T.b_strides .nil pass0 (pa_cons (pv 2) (pa_cons (pv 3) (pa_cons (pe_call (ok_strides_to T) (hr.mono (by decide)) (by rfl) T.m_strides_to T.F_strides_to.kp T.b_strides_to .nil pass0 (pa_cons (pv 3) (pa_cons (pv 5) (pa_cons (pv 1) pa_nil)))) pa_nil)))))))
      (pss_one (ps_for PassesOwn.never rfl (pi_range1 (by rfl) T.z_range (pa_cons (pe_un un_neg (pv 4)) pa_nil)) (pg_name (i := 6) sc_last_loop.nd rfl (Or.inl rfl)) (pss_one (ps_set (i := 2) sc_last_loop.nd rfl (Or.inl rfl) (pe_call (ok_strides T) (hr.mono (by decide)) (by rfl) T.m_strides T.F_strides.kp T.b_strides .nil pass0 (pa_cons (pv 2) (pa_cons (pv 5) (pa_cons (pe_op op_fdivW (pv 3) (pv 5)) pa_nil)))))))))))
      (pss_one (ps_ret (pv 2)))))), ?_⟩
  have L1 := (ok.2 L (by simp)).1
  have L64 := (ok.2 L (by simp)).2
  obtain ⟨a, rfl, hT⟩ := hv.ints
  have ex : ((NN (os ++ [L])).map V.int)[((NN (os ++ [L])).map V.int).length - 1]? = some (.int (L : Nat)) := by
    unfold NN
    rw [List.length_map, List.length_map, List.length_append, List.length_singleton, Nat.add_sub_cancel, List.getElem?_map, List.getElem?_map, List.getElem?_append_right (Nat.le_refl _), Nat.sub_self]
    rfl
  refine ⟨_, rfl, _, rfl, a, _, _, _, rfl, rfl, hT, at_neg ex, ?_⟩
  refine ⟨(by show 1 ≤ sizeLine; decide), fun p hp => ⟨_, rfl, _, _, rfl, rfl, ?_⟩⟩
  have sp := same_upd hp (.tup ([(0 : Int)].map V.int))
  refine rd_repD (dp_tup [0] hp) (by decide) (show (-1000 : Int) ≤ ((L : Nat) : Int) - 1 by omega) (show ((L : Nat) : Int) - 1 ≤ 1000 by omega) fun w1 H1 s1 hw1 => ?_
  refine ⟨(by show 1 ≤ sizeLine; decide), fun q hq => ?_⟩
  have sq := same_upd hq (.tup ([(1 : Int)].map V.int))
  refine rd_cat (hw1.same_at sq) (dp_tup [1] hq) ?_ fun w2 H2 s2 hw2 => ?_
  · rw [show [(0 : Int)].map PyData.int = [PyData.int 0] from rfl, rep_flat, List.length_replicate]
    exact Nat.le_of_lt (small1000 (by simp; omega))
  have hw2 : Dp K H2 w2 (dInts (tb L (imp L))) := by
    have e := hw2
    rw [show [(0 : Int)].map PyData.int = [PyData.int 0] from rfl, rep_flat, show (((L : Nat) : Int) - 1).toNat = L - 1 by omega] at e
    unfold dInts
    rw [← tb_imp L1, List.map_append, List.map_replicate]
    exact e
  have t2 := sp.trans (s1.trans (sq.trans s2))
  refine ⟨_, rfl, .ref a, os ++ [L], rfl, hv.same_at t2, ok, fun d H3 s3 hd1 hd2 => ⟨d, .dK (kvsP (pows (dvf (os ++ [L])) 64)), rfl, hd2, trivial, fun od => ⟨d, od, kvsP (pows (dvf (os ++ [L])) 64), rfl, upd_same, ?_⟩⟩⟩
  have stay : ∀ u, Same H2 (upd H3 d u) := fun u b o w => by
    rw [upd_ne (fun z => by rw [z, hd1] at w; cases w)]
    exact s3 _ _ w
  have keysP : ∀ {j r : Nat} {q : Int}, (pows (dvf (os ++ [L])) 64)[j]? = some (r, q) → 1 ≤ r ∧ r ≤ 64 := fun h => by
    have := pows_mem (dvf (os ++ [L])) 64 (Nat.le_refl _) _ (List.mem_of_getElem? h)
    omega
  generalize hps : pows (dvf (os ++ [L])) 64 = ps at *
  refine for_it walk_items (fun i σ H' => ∃ (v2 : V) (w3 w4 w5 w6 : Option V), σ = [some (.ref a), some (.int (L : Nat)), some v2, w3, w4, w5, w6] ∧ Dp K H' v2 (dInts (tb L (fs L (sto L) (ps.take i) (imp L)))) ∧ H' d = some (.frz od (.dK (kvsP ps))) ∧ Same H2 H')
    ⟨w2, none, none, none, none, rfl, hw2.same_at (stay _), upd_same, stay _⟩ (fun _ _ _ _ ⟨_, _, _, _, _, _, _, q, _⟩ => q) ?_ ?_
  · rintro i x σ H4 H5 hi ⟨v2, w3, w4, w5, w6, rfl, hD4, hd4, g4⟩ ⟨t, y, z, rfl, ht, rfl, hy, hz⟩
    rw [kvs_len] at hi
    have ek : (kvsP ps)[i]? = some (.inl ((ps[i].1 : Nat) : Int), .int ps[i].2) := by
      unfold kvsP
      rw [List.getElem?_map, List.getElem?_eq_getElem hi]
      rfl
    have hrq : ps[i]? = some (ps[i].1, ps[i].2) := List.getElem?_eq_getElem hi
    have hy : ((kvsP ps)[i]?.map fun kv => kV kv.1) = some y := hy
    have hz : ((kvsP ps)[i]?.map Prod.snd) = some z := hz
    rw [ek] at hy hz
    generalize ps[i].1 = r at *
    generalize ps[i].2 = q at *
    cases hy
    cases hz
    obtain ⟨r1, r64⟩ := keysP hrq
    have st := same_upd ht (.tup [kV (.inl ((r : Nat) : Int)), .int q])
    refine ⟨t, _, rfl, SqT.of upd_same, rfl, _, _, rfl, _, _, rfl, rfl, ?_⟩
    have qs : q.natAbs ≤ 10000 := by
      rw [← hps] at hrq
      exact abs_small (dvf (os ++ [L])) hrq r1
    have g1 : 1 ≤ Nat.gcd r L := Nat.gcd_pos_of_pos_left _ r1
    have g64 : Nat.gcd r L ≤ 64 := Nat.le_trans (Nat.le_of_dvd r1 (Nat.gcd_dvd_left r L)) r64
    have sL := (sto_ok L1 L64 r1 r64).1
    refine ⟨_, rfl, _, rfl, r, L, rfl, ?_⟩
    have per : ∀ t, fs L (sto L) (ps.take i) (imp L) (t + L) = fs L (sto L) (ps.take i) (imp L) t := fs_per _ (imp_per L)
    generalize hS : fs L (sto L) (ps.take i) (imp L) = S at *
    refine ⟨_, rfl, _, rfl, by omega, by omega, ?_⟩
    refine for_it walk_range (fun j σ H' => ∃ (v2 : V) (w6 : Option V), σ = [some (.ref a), some (.int (L : Nat)), some v2, some (.int (r : Nat)), some (.int q), some (.int (Nat.gcd r L : Nat)), w6] ∧ Dp K H' v2 (dInts (tb L (itA (stL r (sto L r)) j S))) ∧ H' d = some (.frz od (.dK (kvsP ps))) ∧ Same H2 H')
      ⟨v2, _, rfl, hD4.same_at st, st _ _ hd4, g4.trans st⟩ (fun _ _ _ _ _ => trivial) ?_ ?_
    · rintro j x σ H6 H7 hj ⟨v2, w6, rfl, hD6, hd6, g6⟩ ⟨rfl, rfl⟩
      refine ⟨_, rfl, _, rfl, _, rfl, _, rfl, _, rfl, L, r, rfl, L1, L64, r1, r64, ?_⟩
      refine ⟨v2, _, r, sto L r, rfl, hD6, by rw [tb_len]; exact L1, by rw [tb_len]; exact L64, r64, by omega, fun w H8 s8 hw => ?_⟩
      rw [tb_str L1 (itA_per per _ j)] at hw
      exact ⟨w, _, rfl, hw, s8 _ _ hd6, g6.trans s8⟩
    rintro σ H6 ⟨v2, w6, rfl, hD6, hd6, g6⟩
    have per2 := itA_per per (stL r (sto L r)) q.toNat
    generalize hS2 : itA (stL r (sto L r)) q.toNat S = S2 at *
    refine ⟨_, rfl, _, rfl, _, rfl, by omega, by omega, ?_⟩
    refine for_it walk_range (fun j σ H' => ∃ (v2 : V) (w6 : Option V), σ = [some (.ref a), some (.int (L : Nat)), some v2, some (.int (r : Nat)), some (.int q), some (.int (Nat.gcd r L : Nat)), w6] ∧ Dp K H' v2 (dInts (tb L (itA (stL (Nat.gcd r L) (r / Nat.gcd r L)) j S2))) ∧ H' d = some (.frz od (.dK (kvsP ps))) ∧ Same H2 H')
      ⟨v2, _, rfl, hD6, hd6, g6⟩ (fun _ _ _ _ _ => trivial) ?_ ?_
    · rintro j x σ H7 H8 hj ⟨v2, w6, rfl, hD7, hd7, g7⟩ ⟨rfl, rfl⟩
      refine ⟨_, rfl, _, rfl, _, rfl, _, rfl, _, _, rfl, rfl, ⟨by omega, log_nat (Nat.le_trans g64 (by decide))⟩, ?_⟩
      refine ⟨v2, _, Nat.gcd r L, r / Nat.gcd r L, rfl, hD7, by rw [tb_len]; exact L1, by rw [tb_len]; exact L64, g64, Nat.le_trans (Nat.div_le_self _ _) r64, fun w H9 s9 hw => ?_⟩
      rw [tb_str L1 (itA_per per2 _ j)] at hw
      exact ⟨w, _, rfl, hw, s9 _ _ hd7, g7.trans s9⟩
    rintro σ H7 ⟨v2, w6, rfl, hD7, hd7, g7⟩
    refine ⟨v2, _, _, _, _, rfl, ?_, hd7, g7⟩
    rw [take_more hrq, fs_snoc, hS]
    show Dp K H7 v2 (dInts (tb L (itA (stL (Nat.gcd r L) (r / Nat.gcd r L)) (-q).toNat (itA (stL r (sto L r)) q.toNat S))))
    rw [hS2]
    exact hD7
  rintro σ H4 ⟨v2, w3, w4, w5, w6, rfl, hD4, hd4, g4⟩
  rw [kvs_len, List.take_length, ← hps] at hD4
  exact ⟨_, rfl, k v2 H4 (t2.trans g4) hD4⟩
end
section
variable {P : Program} {w : World} {K : PySem.W.Frag} {mg : Str → Option Value} {base : Heap}
theorem ok_never_meet (T : Top K mg) : FnOk P w K mg base CX0 2 T.a_never_meet T.d_never_meet ["lengths", "places", "one", "other"] (sp_never_meet K) := by
  refine T.F_never_meet.ok sc_never_meet (fun vs H Q E h => ?_) (fun cdv A outer s H vs Q E hr h => ?_)
  · obtain ⟨v, w, ns, ps, i, j, rfl, hv, hw, ok, okp, hi, hj, k⟩ := h
    rfl
  obtain ⟨v, w, ns, ps, i, j, rfl, hv, hw, ok, okp, hi, hj, k⟩ := h
  refine ⟨_, (pss_one (ps_ret (pe_cmpR op_ne (pe_op op_modN (pe_op op_sub (pe_ix (k_ixT (K := K)) (pv 1) (pv 2) (fun _ _ => rfl)) (pe_ix (k_ixT (K := K)) (pv 1) (pv 3) (fun _ _ => rfl))) (pe_call (ok_common_divisor T) (hr.mono (by decide)) (by rfl) T.m_common_divisor T.F_common_divisor.kp T.b_common_divisor .nil pass0 (pa_cons (pe_ix (k_ixT (K := K)) (pv 0) (pv 2) (fun _ _ => rfl)) (pa_cons (pe_ix (k_ixT (K := K)) (pv 0) (pv 3) (fun _ _ => rfl)) pa_nil)))) pe_int (nomark _)))), ?_⟩
  obtain ⟨pl, pb⟩ := id okp
  obtain ⟨ok1, ok2⟩ := id ok
  obtain ⟨b, rfl, hU⟩ := hw.ints
  obtain ⟨a, rfl, hT⟩ := hv.ints
  have ei : ns[i]? = some ns[i] := List.getElem?_eq_getElem hi
  have ej : ns[j]? = some ns[j] := List.getElem?_eq_getElem hj
  have fi : ps[i]? = some (ps[i]'(by omega)) := List.getElem?_eq_getElem (by omega)
  have fj : ps[j]? = some (ps[j]'(by omega)) := List.getElem?_eq_getElem (by omega)
  have gp : 0 < Nat.gcd ns[i] ns[j] := Nat.gcd_pos_of_pos_left _ (ok2 _ (List.getElem_mem hi)).1
  refine ⟨_, rfl, _, rfl, b, _, _, _, rfl, rfl, hU, int_at fi, _, rfl, _, rfl, b, _, _, _, rfl, rfl, hU, int_at fj, _, _, rfl, rfl, ?_⟩
  refine ⟨_, rfl, _, rfl, a, _, _, _, rfl, rfl, hT, nn_at ei, _, rfl, _, rfl, a, _, _, _, rfl, rfl, hT, nn_at ej, _, _, rfl, _, _, rfl, rfl, by omega, rfl, ?_⟩
  refine k _ ?_
  show (!decide (V.int ((ps[i] - ps[j]).fmod ((ns[i].gcd ns[j] : Nat) : Int)) = V.int 0)) = true ↔ _
  rw [Int.fmod_eq_emod_of_nonneg _ (by omega)]
  constructor
  · intro h
    refine ⟨_, _, _, _, ei, ej, fi, fj, fun z => ?_⟩
    rw [Int.emod_eq_zero_of_dvd z] at h
    cases h
  · rintro ⟨a', b', p', q', h1, h2, h3, h4, h5⟩
    rw [ei] at h1
    rw [ej] at h2
    rw [fi] at h3
    rw [fj] at h4
    cases h1
    cases h2
    cases h3
    cases h4
    simp
    intro z
    exact h5 (Int.dvd_of_emod_eq_zero z)
end
section
variable {P : Program} {w : World} {K : PySem.W.Frag} {mg : Str → Option Value} {base : Heap}
theorem ok__law_drawn (T : Top K mg) : FnOk P w K mg base CX0 2 T.a__law_drawn T.d__law_drawn ["m", "sizes"] (sp__law_drawn K) := by
  refine T.F__law_drawn.ok sc__law_drawn (fun vs H Q E h => ?_) (fun cdv A outer s H vs Q E hr h => ?_)
  · obtain ⟨m, v, ns, n, rfl, hv, n4, n64, M, hn, k⟩ := h
    rfl
  obtain ⟨m, v, ns, n, rfl, hv, n4, n64, M, hn, k⟩ := h
  refine ⟨_, (pss_cons (ps_set (i := 2) sc__law_drawn.nd rfl (Or.inl rfl) (pe_lst pa_nil))
      (pss_cons (ps_for PassesOwn.never rfl (k_piT (K := K) (pv 1)) (pg_name (i := 3) sc__law_drawn.nd rfl (Or.inl rfl)) (pss_one (ps_expr (pe_bm PySem.F.plainAttrs_list PySem.F.slot_list_append PySem.F.type_list_append mt_append (pv 2) (pa_cons (pe_callTy (k_tuple (K := K)) (by rfl) T.z_tuple bt_tuple (pa_cons (pe_lc (own := [("k", 4)]) rfl sc__law_drawn.nd (pi_range1 (by rfl) T.z_range (pa_cons (pv 3) pa_nil)) (blkOk_by (own := [("k", 4)]) (N := ["m", "sizes", "found", "size", "k"]) (sc := defScope s__law_drawn) (by decide +kernel)) (fun _ _ _ _ _ => (pg_name (i := 4) sc__law_drawn.nd rfl (Or.inl rfl))) (fun _ _ _ _ _ => pts_nil) (fun _ _ _ _ _ => (pe_op op_sub (pe_call (ok__law_next T) (hr.mono (by decide)) (by rfl) T.m__law_next T.F__law_next.kp T.b__law_next .nil pass0 (pa_cons (pv 0) (pa_cons pe_int pa_nil))) pe_int))) pa_nil)) pa_nil)))))
      (pss_one (ps_ret (pe_callTy (k_tuple (K := K)) (by rfl) T.z_tuple bt_tuple (pa_cons (pv 2) pa_nil)))))), ?_⟩
  obtain ⟨a, rfl, hT⟩ := hv.ints
  refine ⟨(by show 0 ≤ sizeLine; decide), fun D hD => ?_⟩
  refine ⟨_, rfl, a, rfl, ⟨_, (Same.tk (same_upd hD _)) _ _ hT⟩, ?_⟩
  refine for_it walk_tup (fun i σ H' => ∃ (acc : List (List Int)) (xs : List V) (n' : Nat) (vl w4 : Option V), σ = [some (.ref m), some (.ref a), some (.ref D), vl, w4] ∧ H' D = some (.lst xs) ∧ DpAll K H' xs (acc.map dInts) ∧
      lenN acc = ns.take i ∧ NBL acc ∧ n' ≤ n + 64 * i ∧ MS H' m n' ∧ ¬ Lf H' m D ∧ Ef m H H')
    ⟨[], [], n, none, none, rfl, upd_same, .nil, rfl, (by intro z hz; cases hz), Nat.le_refl _, M.same (same_upd hD _), fun z => M.notLf hD (z.upd (M.mne hD)), Ef.ofSame M (same_upd hD _)⟩
    (fun i σ H' _ ⟨_, _, _, _, _, _, _, _, _, _, _, _, _, e⟩ => (e.tk M) _ _ hT) ?_ ?_
  · rintro i x σ H2 H3 hi ⟨acc, xs, n1, vl, w4, rfl, hA, hX, hm, hb, hn1, M2, nl, e2⟩ ⟨rfl, hx⟩
    obtain ⟨z, hz1, rfl⟩ := map_int_get hx
    obtain ⟨L, hL, rfl⟩ := nn_get hz1
    have hi' : i < ns.length := (List.getElem?_eq_some_iff.mp hL).1
    obtain ⟨z0, z1⟩ := n64 L (List.mem_of_getElem? hL)
    refine ⟨_, rfl, .inl ⟨rfl, _, SqL.of hA⟩, ?_⟩
    refine ⟨_, rfl, _, rfl, by omega, by omega, fun D2 hD2 => ?_⟩
    refine lc_it walk_range (fun j H' => ∃ (bs : List Int) (n' : Nat), H' D2 = some (.lst (bs.map V.int)) ∧ bs.length = j ∧ (∀ y ∈ bs, NB y) ∧ n' ≤ n1 + j ∧ MS H' m n' ∧ ¬ Lf H' m D2 ∧ Ef m H3 H')
      ⟨[], n1, upd_same, rfl, (by intro y hy; cases hy), Nat.le_refl _, M2.same (same_upd hD2 _), fun w => M2.notLf hD2 (w.upd (M2.mne hD2)), Ef.ofSame M2 (same_upd hD2 _)⟩ (fun _ _ _ _ => trivial) ?_ ?_
    · rintro j x H4 H5 hj ⟨bs, n', hB, hj2, hbb, hn', M4, nl4, e4⟩ ⟨rfl, rfl⟩
      have hj : j < L := hj
      refine ⟨rfl, ?_⟩
      refine ⟨_, rfl, m, 99, n', rfl, M4, by decide, by decide, by omega, fun r n2 H6 r0 r1 hn2 M6 e6 => ⟨_, _, rfl, rfl, ?_⟩⟩
      obtain ⟨hB6, nl6⟩ := e6.lst M4 hB nl4
      refine ⟨_, hB6, by rw [List.length_map]; exact small1000 (by omega), bs ++ [r - 49], n2, ?_, ?_, ?_, by omega, M6.upd hB6 nl6, fun w => nl6 (w.upd (M6.mneL hB6)), (e4.trans e6).upd hD2 (M6.mneL hB6)⟩
      · rw [upd_same, List.map_append]
        all_goals rfl
      · rw [List.length_append, List.length_singleton, hj2]
      · intro y hy
        rcases List.mem_append.mp hy with q | q
        · exact hbb y q
        · rw [List.mem_singleton.mp q]
          unfold NB
          omega
    · rintro H4 ⟨bs, n', hB, hj2, hbb, hn', M4, nl4, e4⟩
      have hj2 : bs.length = L := hj2
      have hn' : n' ≤ n1 + L := hn'
      obtain ⟨hA4, nlA⟩ := e4.lst M2 hA nl
      refine ⟨D2, _, rfl, .inl ⟨SqL.of hB, fun t ht => ?_⟩⟩
      have s5 := same_upd ht (.tup (bs.map V.int))
      have hA5 := s5 _ _ hA4
      have M5 := M4.same s5
      have e5 := e4.trans (Ef.ofSame M4 s5)
      have nl5 : ¬ Lf (upd H4 t (.tup (bs.map V.int))) m D := fun w => nlA (w.upd (M4.mne ht))
      have hlx := hX.len
      rw [List.length_map] at hlx
      have hla : acc.length = i := by
        have q := congrArg List.length hm
        unfold lenN at q
        rw [List.length_map, List.length_take] at q
        omega
      refine ⟨D, xs, _, rfl, rfl, hA5, small1000 (by omega), ?_⟩
      refine ⟨acc ++ [bs], xs ++ [.ref t], n', _, _, rfl, upd_same, ?_, ?_, ?_, by omega, M5.upd hA5 nl5, fun w => nl5 (w.upd (M5.mneL hA5)), (e2.trans e5).upd ?_ (M5.mneL hA5)⟩
      · rw [List.map_append]
        have tk : TK K H3 (upd (upd H4 t (.tup (bs.map V.int))) D (.lst (xs ++ [.ref t]))) := (e5.tk M2).trans (tk_upd hA5)
        refine (DpAll.keepT tk _ _ (to_loops acc) hX).app (.cons (Dp.ofInts ?_) .nil)
        exact (tk_upd hA5) _ _ (SqT.of upd_same)
      · rw [lenN_app, hm, take_more hL]
        show _ ++ [bs.length] = _
        rw [hj2]
      · intro l hl' y hy
        rcases List.mem_append.mp hl' with q | q
        · exact hb l q y hy
        · rw [List.mem_singleton.mp q] at hy
          exact hbb y hy
      · exact hD
  rintro σ H2 ⟨acc, xs, n1, vl, w4, rfl, hA, hX, hm, hb, hn1, M2, nl, e2⟩
  rw [List.length_map, nn_len] at hm hn1
  rw [List.take_length] at hm
  refine ⟨_, rfl, D, _, rfl, .inl ⟨SqL.of hA, fun t ht => ?_⟩⟩
  have s3 := same_upd ht (.tup xs)
  refine k _ acc n1 _ (.tup (SqT.of upd_same) (DpAll.same s3 _ _ hX)) hm hb hn1 (M2.same s3) (e2.trans (Ef.ofSame M2 s3))
end
section
variable {P : Program} {w : World} {K : PySem.W.Frag} {mg : Str → Option Value} {base : Heap}
theorem ok_are_at_most (T : Top K mg) : FnOk P w K mg base CX0 3 T.a_are_at_most T.d_are_at_most ["thing", "most"] (sp_are_at_most K) := by
  refine T.F_are_at_most.ok sc_are_at_most (fun vs H Q E h => ?_) (fun cdv A outer s H vs Q E hr h => ?_)
  · obtain ⟨v, xs, m, rfl, hv, hl, k⟩ := h
    rfl
  obtain ⟨v, xs, m, rfl, hv, hl, k⟩ := h
  refine ⟨_, (pss_one (ps_ret (pe_and (pe_callB (k_isi (K := K)) (by rfl) T.z_isinstance bt_isinstance (pa_cons (pv 0) (pa_cons (pe_bltn (v := .ty "tuple") (by rfl) T.z_tuple bt_tuple rfl) pa_nil))) (pe_and (pe_cmpR op_le (pe_callB (k_len (K := K)) (by rfl) T.z_len bt_len (pa_cons (pv 0) pa_nil)) (pv 1) (nomark _)) (pe_one (pe_call (ok_are_samples T) (hr.mono (by decide)) (by rfl) T.m_are_samples T.F_are_samples.kp T.b_are_samples .nil pass0 (pa_cons (pv 0) (pa_cons (pe_callB (k_len (K := K)) (by rfl) T.z_len bt_len (pa_cons (pv 0) pa_nil)) pa_nil)))))))), ?_⟩
  obtain ⟨a, rfl, hT⟩ := hv.ints
  refine ⟨_, rfl, _, _, _, _, true, rfl, ClsV.ty _, hT.ty, kit_tt, _, rfl, iteT ?_⟩
  refine ⟨_, rfl, a, _, rfl, .inr hT, _, rfl, _, _, rfl, rfl, _, rfl, ?_⟩
  rw [List.length_map]
  by_cases e : xs.length ≤ m
  · rw [decide_eq_true (show ((xs.length : Nat) : Int) ≤ (m : Nat) by omega)]
    refine iteT ?_
    refine ⟨_, rfl, _, rfl, a, _, rfl, .inr hT, .ref a, xs, (by rw [List.length_map]; rfl), Dp.ofInts hT, hl, fun H1 s1 => ?_⟩
    have q := k H1 s1
    rw [decide_eq_true e] at q
    exact q
  · rw [decide_eq_false (show ¬ ((xs.length : Nat) : Int) ≤ (m : Nat) by omega)]
    refine iteF ?_
    have q := k H (Same.refl H)
    rw [decide_eq_false e] at q
    exact q
end
section
variable {P : Program} {w : World} {K : PySem.W.Frag} {mg : Str → Option Value} {base : Heap}
theorem ok_need_tick (T : Top K mg) : FnOk P w K mg base CX0 3 T.a_need_tick T.d_need_tick ["thing"] (sp_need_tick K) := by
  refine T.F_need_tick.ok sc_need_tick (fun vs H Q E h => ?_) (fun cdv A outer s H vs Q E hr h => ?_)
  · obtain ⟨i, rfl, h0, h1, k⟩ := h
    rfl
  obtain ⟨i, rfl, h0, h1, k⟩ := h
  refine ⟨_, (pss_one (ps_if (pt_not (pt_val (pe_call (ok_is_tick T) (hr.mono (by decide)) (by rfl) T.m_is_tick T.F_is_tick.kp T.b_is_tick .nil pass0 (pa_cons (pv 0) pa_nil)))) (pss_one ps_never) pss_nil)), ?_⟩
  refine ⟨_, rfl, i, rfl, _, rfl, ?_⟩
  rw [decide_eq_true h0, decide_eq_true h1]
  exact iteF k
end
section
variable {P : Program} {w : World} {K : PySem.W.Frag} {mg : Str → Option Value} {base : Heap}
theorem okX_need_loops (T : Top K mg) : FnOk P w K mg base (L2.CX P w) 3 T.a_need_loops T.d_need_loops ["thing"] (sp_need_loops K) := by
  refine T.F_need_loops.okX sc_need_loops (fun vs H Q E h => ?_) (fun cdv A outer s H vs Q E hr h => ?_)
  · obtain ⟨v, ls, rfl, hv, ok, k⟩ := h
    rfl
  obtain ⟨v, ls, rfl, hv, ok, k⟩ := h
  refine ⟨_, (pss_cons (ps_if (PW.pt (pw_or (pt_not (pt_val (pe_callB (k_isi (K := K)) (by rfl) T.z_isinstance bt_isinstance (pa_cons (pv 0) (pa_cons (pe_bltn (v := .ty "tuple") (by rfl) T.z_tuple bt_tuple rfl) pa_nil))))) (pw_or1 (pt_cmpR op_gt (pe_callB (k_len (K := K)) (by rfl) T.z_len bt_len (pa_cons (pv 0) pa_nil)) (pe_glob (v := .int 6) rfl T.c_MOST_LOOPS ⟨_, rfl⟩) (nomark _))))) (pss_one (ps_raise rfl (takes_of rfl rfl rfl rfl) (pmk_oex T.x_BadLoops.ox T.x_BadLoops.iC T.x_BadLoops.tI (ok_BadLoops_init T) (hr.mono (by decide)) T.x_BadLoops.b .nil pass0 (by rfl) T.x_BadLoops.m (pa_cons (pe_tup pa_nil) pa_nil)))) pss_nil)
      (pss_cons (ps_for (passes_of rfl) rfl (k_piET (K := K) (by rfl) T.z_enumerate (pa_cons (pv 0) pa_nil)) (pg_tup rfl (pgs_cons (pg_name (i := 1) sc_need_loops.nd rfl (Or.inl rfl)) (pgs_cons (pg_name (i := 2) sc_need_loops.nd rfl (Or.inl rfl)) pgs_nil))) (pss_one (ps_if (PW.pt (pw_or (pt_not (pt_val (pe_callB (k_isi (K := K)) (by rfl) T.z_isinstance bt_isinstance (pa_cons (pv 2) (pa_cons (pe_bltn (v := .ty "tuple") (by rfl) T.z_tuple bt_tuple rfl) pa_nil))))) (pw_or1 (pt_not (pt_chain op_le op_le pe_int (pe_callB (k_len (K := K)) (by rfl) T.z_len bt_len (pa_cons (pv 2) pa_nil)) (pe_glob (v := .int 64) rfl T.c_MOST_THINGS ⟨_, rfl⟩)))))) (pss_one (ps_raise rfl (takes_of rfl rfl rfl rfl) (pmk_oex T.x_BadLoops.ox T.x_BadLoops.iC T.x_BadLoops.tI (ok_BadLoops_init T) (hr.mono (by decide)) T.x_BadLoops.b .nil pass0 (by rfl) T.x_BadLoops.m (pa_cons (pe_tup (pa_cons (pv 1) pa_nil)) pa_nil)))) pss_nil)))
      (pss_cons (ps_for (passes_of rfl) rfl (k_piET (K := K) (by rfl) T.z_enumerate (pa_cons (pv 0) pa_nil)) (pg_tup rfl (pgs_cons (pg_name (i := 1) sc_need_loops.nd rfl (Or.inl rfl)) (pgs_cons (pg_name (i := 2) sc_need_loops.nd rfl (Or.inl rfl)) pgs_nil))) (pss_one (ps_for (passes_of rfl) rfl (k_piET (K := K) (by rfl) T.z_enumerate (pa_cons (pv 2) pa_nil)) (pg_tup rfl (pgs_cons (pg_name (i := 3) sc_need_loops.nd rfl (Or.inl rfl)) (pgs_cons (pg_name (i := 4) sc_need_loops.nd rfl (Or.inl rfl)) pgs_nil))) (pss_one (ps_if (pt_not (pt_val (pe_call (ok_is_whole T) (hr.mono (by decide)) (by rfl) T.m_is_whole T.F_is_whole.kp T.b_is_whole .nil pass0 (pa_cons (pv 4) pa_nil)))) (pss_one (ps_raise rfl (takes_of rfl rfl rfl rfl) (pmk_oex T.x_BadLoops.ox T.x_BadLoops.iC T.x_BadLoops.tI (ok_BadLoops_init T) (hr.mono (by decide)) T.x_BadLoops.b .nil pass0 (by rfl) T.x_BadLoops.m (pa_cons (pe_tup (pa_cons (pv 1) (pa_cons (pv 3) pa_nil))) pa_nil)))) pss_nil)))))
      (pss_one (ps_ret (pv 0)))))), ?_⟩
  obtain ⟨ok1, ok2⟩ := ok
  obtain ⟨a, xs, rfl, hT, hX⟩ := hv.tuple
  have hlen := hX.len
  rw [List.length_map] at hlen
  refine ⟨_, rfl, _, _, _, _, true, rfl, ClsV.ty _, hT.ty, kit_tt, true, rfl, iteF ?_⟩
  refine ⟨_, rfl, a, xs, rfl, .inr hT, _, _, rfl, rfl, _, rfl, iteN (by omega) ?_⟩
  refine ⟨_, rfl, a, xs, rfl, hT, ?_⟩
  refine for_it walk_enumT (fun i σ H' => ∃ w1 w2, σ = [some (.ref a), w1, w2, none, none] ∧ Same H H') ⟨none, none, rfl, Same.refl H⟩ (fun i σ H' _ ⟨_, _, _, s⟩ => Same.tk s _ _ hT) ?_ ?_
  · rintro i x σ H1 H2 hi ⟨w1, w2, rfl, s1⟩ ⟨t, y, z, rfl, ht, rfl, hy, hz⟩
    cases hy
    obtain ⟨l, b, hl, rfl, hB⟩ := loops_get hX hz
    obtain ⟨k1, k2⟩ := ok2 l (List.mem_of_getElem? hl)
    have s2 := same_step s1 ht (.tup [.int (i : Nat), .ref b])
    have hB2 := Same.tk s2 _ _ hB
    refine ⟨t, _, rfl, SqT.of upd_same, rfl, _, _, rfl, _, _, rfl, rfl, ?_⟩
    refine ⟨_, rfl, _, _, _, _, true, rfl, ClsV.ty _, hB2.ty, kit_tt, true, rfl, iteF ?_⟩
    refine ⟨_, rfl, b, _, rfl, .inr hB2, _, _, rfl, rfl, _, rfl, iteP (by rw [List.length_map]; omega) ?_⟩
    refine ⟨_, _, rfl, rfl, _, rfl, ?_⟩
    have e : ((l.map V.int).length : Int) ≤ 64 := by
      rw [List.length_map]
      omega
    show (if (!decide (((l.map V.int).length : Int) ≤ (64 : Int))) = true then _ else _)
    rw [decide_eq_true e]
    exact iteF ⟨_, _, rfl, s2⟩
  rintro σ H1 ⟨w1, w2, rfl, s1⟩
  have hT1 := Same.tk s1 _ _ hT
  refine ⟨_, rfl, a, xs, rfl, hT1, ?_⟩
  refine for_it walk_enumT (fun i σ H' => ∃ w1 w2 w3 w4, σ = [some (.ref a), w1, w2, w3, w4] ∧ Same H H') ⟨_, _, none, none, rfl, s1⟩ (fun i σ H' _ ⟨_, _, _, _, _, s⟩ => Same.tk s _ _ hT) ?_ ?_
  · rintro i x σ H1 H2 hi ⟨w1, w2, w3, w4, rfl, s1⟩ ⟨t, y, z, rfl, ht, rfl, hy, hz⟩
    cases hy
    obtain ⟨l, b, hl, rfl, hB⟩ := loops_get hX hz
    have s2 := same_step s1 ht (.tup [.int (i : Nat), .ref b])
    have hB2 := Same.tk s2 _ _ hB
    refine ⟨t, _, rfl, SqT.of upd_same, rfl, _, _, rfl, _, _, rfl, rfl, ?_⟩
    refine ⟨_, rfl, b, _, rfl, hB2, ?_⟩
    refine for_it walk_enumT (fun j σ H' => ∃ w1 w2 w3 w4, σ = [some (.ref a), w1, w2, w3, w4] ∧ Same H H') ⟨_, _, _, _, rfl, s2⟩ (fun j σ H' _ ⟨_, _, _, _, _, s⟩ => Same.tk s _ _ hB) ?_ ?_
    · rintro j x σ H3 H4 hj ⟨v1, v2, v3, v4, rfl, s3⟩ ⟨t', y', z', rfl, ht', rfl, hy', hz'⟩
      cases hy'
      obtain ⟨c, hc, rfl⟩ := map_int_get hz'
      have s4 := same_step s3 ht' (.tup [.int (j : Nat), .int c])
      refine ⟨t', _, rfl, SqT.of upd_same, rfl, _, _, rfl, _, _, rfl, rfl, ?_⟩
      refine ⟨_, rfl, .int c, _, true, false, rfl, .base (.int c), kit_ii, kit_ib, _, rfl, ?_⟩
      exact iteF ⟨_, _, _, _, rfl, s4⟩
    · rintro σ H3 ⟨v1, v2, v3, v4, rfl, s3⟩
      exact ⟨_, _, _, _, rfl, s3⟩
  rintro σ H2 ⟨w1, w2, w3, w4, rfl, s2⟩
  exact ⟨_, rfl, k H2 s2⟩
end
section
variable {P : Program} {w : World} {K : PySem.W.Frag} {mg : Str → Option Value} {base : Heap}
theorem ok_need_loops (T : Top K mg) : FnOk P w K mg base CX0 2 T.a_need_loops T.d_need_loops ["thing"] (sp_need_loops K) := by
  refine T.F_need_loops.ok sc_need_loops (fun vs H Q E h => ?_) (fun cdv A outer s H vs Q E hr h => ?_)
  · obtain ⟨v, ls, rfl, hv, ok, k⟩ := h
    rfl
  obtain ⟨v, ls, rfl, hv, ok, k⟩ := h
  refine ⟨_, (pss_cons (ps_if (PW.pt (pw_or (pt_not (pt_val (pe_callB (k_isi (K := K)) (by rfl) T.z_isinstance bt_isinstance (pa_cons (pv 0) (pa_cons (pe_bltn (v := .ty "tuple") (by rfl) T.z_tuple bt_tuple rfl) pa_nil))))) (pw_or1 (pt_cmpR op_gt (pe_callB (k_len (K := K)) (by rfl) T.z_len bt_len (pa_cons (pv 0) pa_nil)) (pe_glob (v := .int 6) rfl T.c_MOST_LOOPS ⟨_, rfl⟩) (nomark _))))) (pss_one ps_never) pss_nil)
      (pss_cons (ps_for PassesOwn.never rfl (k_piET (K := K) (by rfl) T.z_enumerate (pa_cons (pv 0) pa_nil)) (pg_tup rfl (pgs_cons (pg_name (i := 1) sc_need_loops.nd rfl (Or.inl rfl)) (pgs_cons (pg_name (i := 2) sc_need_loops.nd rfl (Or.inl rfl)) pgs_nil))) (pss_one (ps_if (PW.pt (pw_or (pt_not (pt_val (pe_callB (k_isi (K := K)) (by rfl) T.z_isinstance bt_isinstance (pa_cons (pv 2) (pa_cons (pe_bltn (v := .ty "tuple") (by rfl) T.z_tuple bt_tuple rfl) pa_nil))))) (pw_or1 (pt_not (pt_chain op_le op_le pe_int (pe_callB (k_len (K := K)) (by rfl) T.z_len bt_len (pa_cons (pv 2) pa_nil)) (pe_glob (v := .int 64) rfl T.c_MOST_THINGS ⟨_, rfl⟩)))))) (pss_one ps_never) pss_nil)))
      (pss_cons (ps_for PassesOwn.never rfl (k_piET (K := K) (by rfl) T.z_enumerate (pa_cons (pv 0) pa_nil)) (pg_tup rfl (pgs_cons (pg_name (i := 1) sc_need_loops.nd rfl (Or.inl rfl)) (pgs_cons (pg_name (i := 2) sc_need_loops.nd rfl (Or.inl rfl)) pgs_nil))) (pss_one (ps_for PassesOwn.never rfl (k_piET (K := K) (by rfl) T.z_enumerate (pa_cons (pv 2) pa_nil)) (pg_tup rfl (pgs_cons (pg_name (i := 3) sc_need_loops.nd rfl (Or.inl rfl)) (pgs_cons (pg_name (i := 4) sc_need_loops.nd rfl (Or.inl rfl)) pgs_nil))) (pss_one (ps_if (pt_not (pt_val (pe_call (ok_is_whole T) (hr.mono (by decide)) (by rfl) T.m_is_whole T.F_is_whole.kp T.b_is_whole .nil pass0 (pa_cons (pv 4) pa_nil)))) (pss_one ps_never) pss_nil)))))
      (pss_one (ps_ret (pv 0)))))), ?_⟩
  obtain ⟨ok1, ok2⟩ := ok
  obtain ⟨a, xs, rfl, hT, hX⟩ := hv.tuple
  have hlen := hX.len
  rw [List.length_map] at hlen
  refine ⟨_, rfl, _, _, _, _, true, rfl, ClsV.ty _, hT.ty, kit_tt, true, rfl, iteF ?_⟩
  refine ⟨_, rfl, a, xs, rfl, .inr hT, _, _, rfl, rfl, _, rfl, iteN (by omega) ?_⟩
  refine ⟨_, rfl, a, xs, rfl, hT, ?_⟩
  refine for_it walk_enumT (fun i σ H' => ∃ w1 w2, σ = [some (.ref a), w1, w2, none, none] ∧ Same H H') ⟨none, none, rfl, Same.refl H⟩ (fun i σ H' _ ⟨_, _, _, s⟩ => Same.tk s _ _ hT) ?_ ?_
  · rintro i x σ H1 H2 hi ⟨w1, w2, rfl, s1⟩ ⟨t, y, z, rfl, ht, rfl, hy, hz⟩
    cases hy
    obtain ⟨l, b, hl, rfl, hB⟩ := loops_get hX hz
    obtain ⟨k1, k2⟩ := ok2 l (List.mem_of_getElem? hl)
    have s2 := same_step s1 ht (.tup [.int (i : Nat), .ref b])
    have hB2 := Same.tk s2 _ _ hB
    refine ⟨t, _, rfl, SqT.of upd_same, rfl, _, _, rfl, _, _, rfl, rfl, ?_⟩
    refine ⟨_, rfl, _, _, _, _, true, rfl, ClsV.ty _, hB2.ty, kit_tt, true, rfl, iteF ?_⟩
    refine ⟨_, rfl, b, _, rfl, .inr hB2, _, _, rfl, rfl, _, rfl, iteP (by rw [List.length_map]; omega) ?_⟩
    refine ⟨_, _, rfl, rfl, _, rfl, ?_⟩
    have e : ((l.map V.int).length : Int) ≤ 64 := by
      rw [List.length_map]
      omega
    show (if (!decide (((l.map V.int).length : Int) ≤ (64 : Int))) = true then _ else _)
    rw [decide_eq_true e]
    exact iteF ⟨_, _, rfl, s2⟩
  rintro σ H1 ⟨w1, w2, rfl, s1⟩
  have hT1 := Same.tk s1 _ _ hT
  refine ⟨_, rfl, a, xs, rfl, hT1, ?_⟩
  refine for_it walk_enumT (fun i σ H' => ∃ w1 w2 w3 w4, σ = [some (.ref a), w1, w2, w3, w4] ∧ Same H H') ⟨_, _, none, none, rfl, s1⟩ (fun i σ H' _ ⟨_, _, _, _, _, s⟩ => Same.tk s _ _ hT) ?_ ?_
  · rintro i x σ H1 H2 hi ⟨w1, w2, w3, w4, rfl, s1⟩ ⟨t, y, z, rfl, ht, rfl, hy, hz⟩
    cases hy
    obtain ⟨l, b, hl, rfl, hB⟩ := loops_get hX hz
    have s2 := same_step s1 ht (.tup [.int (i : Nat), .ref b])
    have hB2 := Same.tk s2 _ _ hB
    refine ⟨t, _, rfl, SqT.of upd_same, rfl, _, _, rfl, _, _, rfl, rfl, ?_⟩
    refine ⟨_, rfl, b, _, rfl, hB2, ?_⟩
    refine for_it walk_enumT (fun j σ H' => ∃ w1 w2 w3 w4, σ = [some (.ref a), w1, w2, w3, w4] ∧ Same H H') ⟨_, _, _, _, rfl, s2⟩ (fun j σ H' _ ⟨_, _, _, _, _, s⟩ => Same.tk s _ _ hB) ?_ ?_
    · rintro j x σ H3 H4 hj ⟨v1, v2, v3, v4, rfl, s3⟩ ⟨t', y', z', rfl, ht', rfl, hy', hz'⟩
      cases hy'
      obtain ⟨c, hc, rfl⟩ := map_int_get hz'
      have s4 := same_step s3 ht' (.tup [.int (j : Nat), .int c])
      refine ⟨t', _, rfl, SqT.of upd_same, rfl, _, _, rfl, _, _, rfl, rfl, ?_⟩
      refine ⟨_, rfl, .int c, _, true, false, rfl, .base (.int c), kit_ii, kit_ib, _, rfl, ?_⟩
      exact iteF ⟨_, _, _, _, rfl, s4⟩
    · rintro σ H3 ⟨v1, v2, v3, v4, rfl, s3⟩
      exact ⟨_, _, _, _, rfl, s3⟩
  rintro σ H2 ⟨w1, w2, w3, w4, rfl, s2⟩
  exact ⟨_, rfl, k H2 s2⟩
end
section
variable {P : Program} {w : World} {K : PySem.W.Frag} {mg : Str → Option Value} {base : Heap}
theorem ok_span (T : Top K mg) : FnOk P w K mg base CX0 3 T.a_span T.d_span ["lengths"] (sp_span K) := by
  refine T.F_span.ok sc_span (fun vs H Q E h => ?_) (fun cdv A outer s H vs Q E hr h => ?_)
  · obtain ⟨v, ns, rfl, hv, ok, k⟩ := h
    rfl
  obtain ⟨v, ns, rfl, hv, ok, k⟩ := h
  refine ⟨_, (pss_cons (ps_set (i := 1) sc_span.nd rfl (Or.inr rfl) (pe_call (ok_common_multiple T) (hr.mono (by decide)) (by rfl) T.m_common_multiple T.F_common_multiple.kp T.b_common_multiple .nil pass0 (pa_cons (pe_call (ok_need_lengths T) (hr.mono (by decide)) (by rfl) T.m_need_lengths T.F_need_lengths.kp T.b_need_lengths .nil pass0 (pa_cons (pv 0) pa_nil)) pa_nil)))
      (pss_one (ps_ret (pe_callB (k_lenSet (w := w)) (by rfl) T.z_len bt_len (pa_cons (pe_sc2 (own := [("under", 2), ("number", 3)]) (us := [3]) rfl sc_span.nd (k_piT (K := K) (pv 0)) (blkOk_by (own := [("under", 2), ("number", 3)]) (N := ["lengths", "common", "under", "number"]) (sc := defScope s_span) (by decide +kernel)) (by decide) (fun _ _ _ _ _ => (pg_name (i := 2) sc_span.nd rfl (Or.inl rfl))) (fun _ _ _ _ _ => (pi_range1 (by rfl) T.z_range (pa_cons (pv 2) pa_nil))) (fun _ _ _ _ _ => (pg_name (i := 3) sc_span.nd rfl (Or.inl rfl))) (fun _ _ _ _ _ => (pe_op op_mul (pv 3) (pe_op op_fdivN (pv 1) (pv 2))))) pa_nil))))), ?_⟩
  obtain ⟨ok1, ok2⟩ := id ok
  refine ⟨_, rfl, v, NN ns, rfl, hv, okm_n ok, fun H1 s1 => ?_⟩
  obtain ⟨a, rfl, hT⟩ := (hv.same_at s1).ints
  refine ⟨.tup, a, ns, rfl, hT, (fun n hn => (ok2 n hn).1), okm_lcm ok, ?_⟩
  refine ⟨_, rfl, a, rfl, ⟨_, hT⟩, fun D hD => ?_⟩
  rw [noneI_eq]
  have okI : ∀ d ∈ NN ns, (1 : Int) ≤ d ∧ d ≤ 64 := by
    intro d hd
    obtain ⟨n, hn, rfl⟩ := List.mem_map.mp hd
    have := ok2 n hn
    omega
  generalize hP : ((lcmN ns : Nat) : Int) = P
  refine wlk_tup (K := K) (a := a) (xs := (NN ns).map V.int) (fun i H' => H' D = some (SetL w D (fset (fracs P ((NN ns).take i)))) ∧ Same H1 H') ⟨upd_same, same_upd hD _⟩ (fun i H' _ p => Same.tk p.2 _ _ hT) ?_ ?_
  · rintro i x H3 hx ⟨hA, s3⟩
    obtain ⟨c, hc, rfl⟩ := map_int_get hx
    obtain ⟨c1, c2⟩ := okI c (List.mem_of_getElem? hc)
    refine ⟨rfl, _, rfl, c, rfl, by omega, by omega, ?_⟩
    refine wlk_rng (fun j H' => H' D = some (SetL w D (fset (fracs P ((NN ns).take i) ++ fracs1 P c j))) ∧ Same H1 H') ⟨by rw [hA]; simp [fracs1], s3⟩ ?_ ?_
    · rintro j H4 hj ⟨hA, s4⟩
      refine ⟨rfl, _, rfl, _, rfl, _, rfl, _, _, rfl, rfl, ⟨by omega, by omega⟩, _, _, rfl, rfl, .inl ⟨by omega, by omega⟩, _, memb _, _, rfl, hA, ?_, ?_⟩
      · have b1 := fset_le (fracs P ((NN ns).take i) ++ fracs1 P c j)
        have b2 := fracs_len P ((NN ns).take i) fun z hz => okI z (List.mem_of_mem_take hz)
        rw [List.length_append, fracs1_len] at b1
        rw [List.length_take, nn_len] at b2
        unfold scanBound
        omega
      rw [putI_eq, ← fset_more]
      refine ⟨?_, fun b o q => ?_⟩
      · rw [upd_same, fracs1_more, ← List.append_assoc, Int.zero_add]
        rfl
      · rw [upd_ne (ne_of_none q hD)]
        exact s4 _ _ q
    · rintro H4 ⟨hA, s4⟩
      exact ⟨by rw [hA, fracs_take _ hc], s4⟩
  · rintro H3 ⟨hA, s3⟩
    rw [List.length_map, List.take_length] at hA
    refine ⟨D, _, _, rfl, hA, ?_⟩
    rw [← hP, span_lcm fun n hn => (ok2 n hn).1]
    exact k H3 (s1.trans s3)
end
section
variable {P : Program} {w : World} {K : PySem.W.Frag} {mg : Str → Option Value} {base : Heap}
theorem ok_weights (T : Top K mg) : FnOk P w K mg base CX0 3 T.a_weights T.d_weights ["lengths"] (sp_weights K) := by
  refine T.F_weights.ok sc_weights (fun vs H Q E h => ?_) (fun cdv A outer s H vs Q E hr h => ?_)
  · obtain ⟨v, ns, rfl, hv, ok, k⟩ := h
    rfl
  obtain ⟨v, ns, rfl, hv, ok, k⟩ := h
  refine ⟨_, (pss_cons (ps_set (i := 1) sc_weights.nd rfl (Or.inl rfl) (pe_call (ok_ring_powers T) (hr.mono (by decide)) (by rfl) T.m_ring_powers T.F_ring_powers.kp T.b_ring_powers .nil pass0 (pa_cons (pe_call (ok_need_lengths T) (hr.mono (by decide)) (by rfl) T.m_need_lengths T.F_need_lengths.kp T.b_need_lengths .nil pass0 (pa_cons (pv 0) pa_nil)) pa_nil)))
      (pss_cons (ps_set (i := 2) sc_weights.nd rfl (Or.inl rfl) (pe_lst (pa_cons pe_int pa_nil)))
      (pss_cons (ps_lock (ps_for PassesOwn.never rfl (pi_items (pv 1)) (pg_tup rfl (pgs_cons (pg_name (i := 3) sc_weights.nd rfl (Or.inl rfl)) (pgs_cons (pg_name (i := 4) sc_weights.nd rfl (Or.inl rfl)) pgs_nil))) (pss_one (ps_for PassesOwn.never rfl (pi_range1 (by rfl) T.z_range (pa_cons (pv 4) pa_nil)) (pg_name (i := 5) sc_weights.nd rfl (Or.inl rfl)) (pss_one (ps_set (i := 2) sc_weights.nd rfl (Or.inl rfl) (pe_call (ok_times_ring T) (hr.mono (by decide)) (by rfl) T.m_times_ring T.F_times_ring.kp T.b_times_ring .nil pass0 (pa_cons (pv 2) (pa_cons (pv 3) pa_nil)))))))))
      (pss_cons (ps_lock (ps_for PassesOwn.never rfl (pi_items (pv 1)) (pg_tup rfl (pgs_cons (pg_name (i := 3) sc_weights.nd rfl (Or.inl rfl)) (pgs_cons (pg_name (i := 4) sc_weights.nd rfl (Or.inl rfl)) pgs_nil))) (pss_one (ps_for PassesOwn.never rfl (pi_range1 (by rfl) T.z_range (pa_cons (pe_un un_neg (pv 4)) pa_nil)) (pg_name (i := 5) sc_weights.nd rfl (Or.inl rfl)) (pss_one (ps_set (i := 2) sc_weights.nd rfl (Or.inl rfl) (pe_call (ok_over_ring T) (hr.mono (by decide)) (by rfl) T.m_over_ring T.F_over_ring.kp T.b_over_ring .nil pass0 (pa_cons (pv 2) (pa_cons (pv 3) pa_nil)))))))))
      (pss_one (ps_ret (pe_callTy (k_tuple (K := K)) (by rfl) T.z_tuple bt_tuple (pa_cons (pv 2) pa_nil)))))))), ?_⟩
  obtain ⟨ok1, ok2⟩ := id ok
  refine ⟨_, rfl, v, NN ns, rfl, hv, okm_n ok, fun H1 s1 => ?_⟩
  refine ⟨v, ns, rfl, hv.same_at s1, ok, fun d H2 s2 hd1 hd2 => ?_⟩
  have DN : ∀ b o, H1 b = some o → b ≠ d := fun b o w z => by
    rw [z, hd1] at w
    cases w
  refine ⟨(by show 1 ≤ sizeLine; decide), fun p3 h3 => ?_⟩
  have s3 := same_upd h3 (.lst [.int 1])
  have hd3 := s3 _ _ hd2
  have lp3 := lst_new h3 [V.int 1]
  have s13 := s2.trans s3
  clear hd2 s2 s3
  generalize upd H2 p3 (.lst [.int 1]) = H3 at *
  have keysP : ∀ {j r : Nat} {q : Int}, (pows (dvf ns) 64)[j]? = some (r, q) → 1 ≤ r ∧ r ≤ 64 := fun h => by
    have := pows_mem (dvf ns) 64 (Nat.le_refl _) _ (List.mem_of_getElem? h)
    omega
  generalize hps : pows (dvf ns) 64 = ps at *
  refine ⟨d, .dK (kvsP ps), hd3, trivial, fun od => ?_⟩
  refine ⟨_, rfl, d, od, kvsP ps, rfl, upd_same, ?_⟩
  have stay : ∀ u, ∀ b o, H1 b = some o → upd H3 d u b = some o := fun u b o w => by
    rw [upd_ne (DN b o w)]
    exact s13 _ _ w
  have p3d : p3 ≠ d := fun z => by
    rw [z, hd3] at lp3
    cases lp3
  refine for_it walk_items (fun i σ H' => ∃ (pa : Addr) (w3 w4 w5 : Option V), σ = [some v, some (.ref d), some (.ref pa), w3, w4, w5] ∧ H' pa = some (.lst ((posR (ps.take i) [1]).map V.int)) ∧ H' d = some (.frz od (.dK (kvsP ps))) ∧ (∀ b o, H1 b = some o → H' b = some o))
    ⟨p3, none, none, none, rfl, by rw [upd_ne p3d]; exact lp3, upd_same, stay _⟩ (fun _ _ _ _ ⟨_, _, _, _, _, _, q, _⟩ => q) ?_ ?_
  · rintro i x σ H4 H5 hi ⟨pa, w3, w4, w5, rfl, hA, hd4, g4⟩ ⟨t, y, z, rfl, ht, rfl, hy, hz⟩
    rw [kvs_len] at hi
    have ek : (kvsP ps)[i]? = some (.inl ((ps[i].1 : Nat) : Int), .int ps[i].2) := by
      unfold kvsP
      rw [List.getElem?_map, List.getElem?_eq_getElem hi]
      rfl
    have hrq : ps[i]? = some (ps[i].1, ps[i].2) := List.getElem?_eq_getElem hi
    have hy : ((kvsP ps)[i]?.map fun kv => kV kv.1) = some y := hy
    have hz : ((kvsP ps)[i]?.map Prod.snd) = some z := hz
    rw [ek] at hy hz
    generalize ps[i].1 = r at *
    generalize ps[i].2 = q at *
    cases hy
    cases hz
    obtain ⟨r1, r64⟩ := keysP hrq
    have st := same_upd ht (.tup [kV (.inl ((r : Nat) : Int)), .int q])
    refine ⟨t, _, rfl, SqT.of upd_same, rfl, _, _, rfl, _, _, rfl, rfl, ?_⟩
    have qs : q.natAbs ≤ 10000 := by
      rw [← hps] at hrq
      exact abs_small (dvf ns) hrq r1
    refine ⟨_, rfl, _, rfl, by omega, by omega, ?_⟩
    refine for_it walk_range (fun j σ H' => ∃ (pa : Addr) (w5 : Option V), σ = [some v, some (.ref d), some (.ref pa), some (.int (r : Nat)), some (.int q), w5] ∧ H' pa = some (.lst ((timesN (posR (ps.take i) [1]) r j).map V.int)) ∧ H' d = some (.frz od (.dK (kvsP ps))) ∧ (∀ b o, H1 b = some o → H' b = some o))
      ⟨pa, _, rfl, st _ _ hA, st _ _ hd4, fun b o w => st _ _ (g4 _ _ w)⟩ (fun _ _ _ _ _ => trivial) ?_ ?_
    · rintro j x σ H6 H7 hj ⟨pa, w5, rfl, hA, hd6, g6⟩ ⟨rfl, rfl⟩
      have sm := step_small (dvf ns) (by rw [hps]; exact hrq) j (by omega)
      rw [hps] at sm
      refine ⟨_, rfl, _, rfl, pa, _, r, rfl, hA, r1, r64, by omega, fun b H8 s8 hb => ?_⟩
      exact ⟨b, _, rfl, hb, s8 _ _ hd6, fun b o w => s8 _ _ (g6 _ _ w)⟩
    · rintro σ H6 ⟨pa, w5, rfl, hA, hd6, g6⟩
      refine ⟨pa, _, _, _, rfl, ?_, hd6, g6⟩
      rw [posR_more hrq]
      exact hA
  rintro σ H4 ⟨pa, w3, w4, w5, rfl, hA, hd4, g4⟩
  rw [kvs_len, List.take_length] at hA
  refine ⟨hd4, ?_⟩
  have pad : pa ≠ d := fun z => by
    rw [z, hd4] at hA
    cases hA
  refine ⟨d, .dK (kvsP ps), upd_same, trivial, fun od2 => ?_⟩
  refine ⟨_, rfl, d, od2, kvsP ps, rfl, upd_same, ?_⟩
  refine for_it walk_items (fun i σ H' => ∃ (pa : Addr) (w3 w4 w5 : Option V), σ = [some v, some (.ref d), some (.ref pa), w3, w4, w5] ∧ H' pa = some (.lst ((negR (ps.take i) (posR ps [1])).map V.int)) ∧ H' d = some (.frz od2 (.dK (kvsP ps))) ∧ (∀ b o, H1 b = some o → H' b = some o))
    ⟨pa, _, _, _, rfl, by rw [upd_ne pad, upd_ne pad]; exact hA, upd_same, fun b o w => by rw [upd_ne (DN b o w), upd_ne (DN b o w)]; exact g4 _ _ w⟩ (fun _ _ _ _ ⟨_, _, _, _, _, _, q, _⟩ => q) ?_ ?_
  · rintro i x σ H4 H5 hi ⟨pa, w3, w4, w5, rfl, hA, hd4, g4⟩ ⟨t, y, z, rfl, ht, rfl, hy, hz⟩
    rw [kvs_len] at hi
    have ek : (kvsP ps)[i]? = some (.inl ((ps[i].1 : Nat) : Int), .int ps[i].2) := by
      unfold kvsP
      rw [List.getElem?_map, List.getElem?_eq_getElem hi]
      rfl
    have hrq : ps[i]? = some (ps[i].1, ps[i].2) := List.getElem?_eq_getElem hi
    have hy : ((kvsP ps)[i]?.map fun kv => kV kv.1) = some y := hy
    have hz : ((kvsP ps)[i]?.map Prod.snd) = some z := hz
    rw [ek] at hy hz
    generalize ps[i].1 = r at *
    generalize ps[i].2 = q at *
    cases hy
    cases hz
    obtain ⟨r1, r64⟩ := keysP hrq
    have st := same_upd ht (.tup [kV (.inl ((r : Nat) : Int)), .int q])
    refine ⟨t, _, rfl, SqT.of upd_same, rfl, _, _, rfl, _, _, rfl, rfl, ?_⟩
    have qs : q.natAbs ≤ 10000 := by
      rw [← hps] at hrq
      exact abs_small (dvf ns) hrq r1
    have ns1 := neg_small (dvf ns) i
    rw [hps] at ns1
    refine ⟨_, rfl, _, rfl, _, rfl, by omega, by omega, ?_⟩
    refine for_it walk_range (fun j σ H' => ∃ (pa : Addr) (w5 : Option V), σ = [some v, some (.ref d), some (.ref pa), some (.int (r : Nat)), some (.int q), w5] ∧ H' pa = some (.lst ((overN (negR (ps.take i) (posR ps [1])) r j).map V.int)) ∧ H' d = some (.frz od2 (.dK (kvsP ps))) ∧ (∀ b o, H1 b = some o → H' b = some o))
      ⟨pa, _, rfl, st _ _ hA, st _ _ hd4, fun b o w => st _ _ (g4 _ _ w)⟩ (fun _ _ _ _ _ => trivial) ?_ ?_
    · rintro j x σ H6 H7 hj ⟨pa, w5, rfl, hA, hd6, g6⟩ ⟨rfl, rfl⟩
      have sm := overN_len (negR (ps.take i) (posR ps [1])) r j
      refine ⟨_, rfl, _, rfl, pa, _, r, rfl, hA, r1, r64, by omega, fun b H8 s8 hb => ?_⟩
      exact ⟨b, _, rfl, hb, s8 _ _ hd6, fun b o w => s8 _ _ (g6 _ _ w)⟩
    · rintro σ H6 ⟨pa, w5, rfl, hA, hd6, g6⟩
      refine ⟨pa, _, _, _, rfl, ?_, hd6, g6⟩
      rw [negR_more hrq]
      exact hA
  rintro σ H4 ⟨pa, w3, w4, w5, rfl, hA, hd4, g4⟩
  rw [kvs_len, List.take_length] at hA
  refine ⟨hd4, ?_⟩
  have pad : pa ≠ d := fun z => by
    rw [z, hd4] at hA
    cases hA
  refine ⟨_, rfl, pa, _, rfl, .inl ⟨SqL.of (by rw [upd_ne pad]; exact hA), fun t ht => ?_⟩⟩
  have eW : negR ps (posR ps [1]) = Wl (dvf ns) := by
    unfold Wl
    rw [hps]
  rw [eW] at *
  refine k (.ref t) _ (s1.trans fun b o w => ?_) (Dp.ofInts (SqT.of upd_same))
  have tb : b ≠ t := fun z => by
    rw [z] at w
    rw [upd_ne (DN t o w), g4 _ _ w] at ht
    cases ht
  rw [upd_ne tb, upd_ne (DN b o w)]
  exact g4 _ _ w
end
section
variable {P : Program} {w : World} {K : PySem.W.Frag} {mg : Str → Option Value} {base : Heap}
theorem ok_leads_round (T : Top K mg) : FnOk P w K mg base CX0 3 T.a_leads_round T.d_leads_round ["loops", "ticks"] (sp_leads_round K) := by
  refine T.F_leads_round.ok sc_leads_round (fun vs H Q E h => ?_) (fun cdv A outer s H vs Q E hr h => ?_)
  · obtain ⟨v, ls, t, rfl, hv, ok, k⟩ := h
    rfl
  obtain ⟨v, ls, t, rfl, hv, ok, k⟩ := h
  refine ⟨_, (pss_cons (ps_set (i := 2) sc_leads_round.nd rfl (Or.inl rfl) (pe_callTy (k_tuple (K := K)) (by rfl) T.z_tuple bt_tuple (pa_cons (pe_lc (own := [("loop", 3)]) rfl sc_leads_round.nd (k_piT (K := K) (pv 0)) (blkOk_by (own := [("loop", 3)]) (N := ["loops", "ticks", "moved", "loop"]) (sc := defScope s_leads_round) (by decide +kernel)) (fun _ _ _ _ _ => (pg_name (i := 3) sc_leads_round.nd rfl (Or.inl rfl))) (fun _ _ _ _ _ => pts_nil) (fun _ _ _ _ _ => (pe_call (ok_begun_at T) (hr.mono (by decide)) (by rfl) T.m_begun_at T.F_begun_at.kp T.b_begun_at .nil pass0 (pa_cons (pv 3) (pa_cons (pe_op op_modN (pv 1) (pe_callB (k_len (K := K)) (by rfl) T.z_len bt_len (pa_cons (pv 3) pa_nil))) pa_nil))))) pa_nil)))
      (pss_one (ps_ret (pe_cmpR op_isN (pe_call (ok_parted_at T) (hr.mono (by decide)) (by rfl) T.m_parted_at T.F_parted_at.kp T.b_parted_at .nil pass0 (pa_cons (pv 0) (pa_cons (pv 2) pa_nil))) pe_non (nomark _))))), ?_⟩
  obtain ⟨ok1, ok2⟩ := id ok
  obtain ⟨a, xs, rfl, hT, hX⟩ := hv.tuple
  have hlen := hX.len
  rw [List.length_map] at hlen
  refine ⟨_, rfl, a, rfl, ⟨_, hT⟩, fun D hD => ?_⟩
  refine lc_it walk_tup (fun i H' => (∃ ys, H' D = some (.lst ys) ∧ DpAll K H' ys ((lat (ls.take i) (t : Nat)).map dInts)) ∧ Same H H') ⟨⟨_, upd_same, .nil⟩, same_upd hD _⟩ (fun i H' _ p => Same.tk p.2 _ _ hT) ?_ ?_
  · rintro i x H2 H3 hi ⟨⟨ys, hA, hY⟩, s2⟩ ⟨rfl, hx⟩
    obtain ⟨l, b, hl, rfl, hB⟩ := loops_get hX hx
    obtain ⟨k1, k2⟩ := ok2 l (List.mem_of_getElem? hl)
    have hB1 := Same.tk s2 _ _ hB
    have hp : (0 : Int) < (l.length : Int) := by omega
    have q0 := Int.fmod_nonneg_of_pos (t : Int) hp
    have q1 := Int.fmod_lt_of_pos (t : Int) hp
    refine ⟨rfl, ?_⟩
    refine ⟨_, rfl, _, rfl, _, rfl, b, _, rfl, .inr hB1, _, _, rfl, rfl, by rw [List.length_map]; omega, ?_⟩
    rw [List.length_map]
    refine ⟨.ref b, l, _, rfl, Dp.ofInts hB1, q0, q1, k2, fun w H4 s4 hw => ?_⟩
    have hyl := hY.len
    rw [List.length_map] at hyl
    have hyl2 : (lat (ls.take i) (t : Nat)).length ≤ 6 := by
      unfold lat
      rw [List.length_map, List.length_take]
      omega
    refine ⟨ys, s4 _ _ hA, small1000 (by omega), ⟨ys ++ [w], upd_same, ?_⟩, ?_⟩
    · have e : (lat (ls.take (i + 1)) (t : Nat)).map dInts = (lat (ls.take i) (t : Nat)).map dInts ++ [dInts (turnL l ((t : Int).fmod (l.length : Int)).toNat)] := by
        rw [take_more hl]
        simp [lat]
      rw [e]
      have tk := (Same.tk (K := K) s4).trans (tk_upd (o := .lst (ys ++ [w])) (s4 _ _ hA))
      exact (DpAll.keepT tk _ _ (to_loops _) hY).app (.cons (Dp.keepT (tk_upd (s4 _ _ hA)) _ _ (to_ints _) hw) .nil)
    · exact fun b' o q => by
        rw [upd_ne (ne_of_none q hD)]
        exact s4 _ _ (s2 _ _ q)
  rintro H2 ⟨⟨ys, hA, hY⟩, s2⟩
  rw [hlen, List.take_length] at hY
  refine ⟨D, _, rfl, .inl ⟨SqL.of hA, fun t' ht => ?_⟩⟩
  have s3 := same_upd ht (.tup ys)
  have t3 := s2.trans s3
  refine ⟨_, rfl, _, rfl, .ref a, .ref t', ls, lat ls (t : Nat), rfl, hv.same_at t3, .tup (SqT.of upd_same) (DpAll.same s3 _ _ hY), ok, lat_ok _ ok, fun r H4 hf hb s4 => ⟨rfl, ?_⟩⟩
  refine k _ H4 ?_ (t3.trans s4)
  rw [opt_non, hf.non]
  exact per_lat fun l hl => (ok2 l hl).1
end
section
variable {P : Program} {w : World} {K : PySem.W.Frag} {mg : Str → Option Value} {base : Heap}
theorem ok_need_few (T : Top K mg) : FnOk P w K mg base CX0 3 T.a_need_few T.d_need_few ["lengths"] (sp_need_few K) := by
  refine T.F_need_few.ok sc_need_few (fun vs H Q E h => ?_) (fun cdv A outer s H vs Q E hr h => ?_)
  · obtain ⟨v, ns, rfl, hv, ok, k⟩ := h
    rfl
  obtain ⟨v, ns, rfl, hv, ok, k⟩ := h
  refine ⟨_, (pss_cons (ps_expr (pe_call (ok_need_lengths T) (hr.mono (by decide)) (by rfl) T.m_need_lengths T.F_need_lengths.kp T.b_need_lengths .nil pass0 (pa_cons (pv 0) pa_nil)))
      (pss_one (ps_if (PW.pt (pw_or (pt_cmpR op_gt (pe_callB (k_len (K := K)) (by rfl) T.z_len bt_len (pa_cons (pv 0) pa_nil)) (pe_glob (v := .int 4) rfl T.c_MOST_LENGTHS_fits ⟨_, rfl⟩) (nomark _)) (pw_or1 (pt_val (pe_callB (k_any (K := K) rfl) (by rfl) T.z_any bt_any (pa_cons (pe_lc (own := [("length", 1)]) rfl sc_need_few.nd (k_piT (K := K) (pv 0)) (blkOk_by (own := [("length", 1)]) (N := ["lengths", "length"]) (sc := defScope s_need_few) (by decide +kernel)) (fun _ _ _ _ _ => (pg_name (i := 1) sc_need_few.nd rfl (Or.inl rfl))) (fun _ _ _ _ _ => pts_nil) (fun _ _ _ _ _ => (pe_cmpR op_gt (pv 1) (pe_glob (v := .int 24) rfl T.c_MOST_LENGTH_fits ⟨_, rfl⟩) (nomark _)))) pa_nil)))))) (pss_one ps_never) pss_nil))), ?_⟩
  obtain ⟨n4, n24⟩ := id ok
  refine ⟨_, rfl, v, NN ns, rfl, hv, okm_n ok.m, fun H1 s1 => ?_⟩
  obtain ⟨a, rfl, hT⟩ := (hv.same_at s1).ints
  refine ⟨_, rfl, a, _, rfl, .inr hT, _, _, rfl, rfl, _, rfl, iteN (by rw [List.length_map, nn_len]; omega) ?_⟩
  refine ⟨_, rfl, a, rfl, ⟨_, hT⟩, fun D hD => ?_⟩
  refine lc_it walk_tup (fun i H' => H' D = some (.lst ((List.replicate i false).map V.bl)) ∧ Same H1 H') ⟨upd_same, same_upd hD _⟩ (fun i H' _ p => Same.tk p.2 _ _ hT) ?_ ?_
  · rintro i x H2 H3 hi ⟨hA, s2⟩ ⟨rfl, hx⟩
    obtain ⟨c, hc, rfl⟩ := map_int_get hx
    obtain ⟨y, hy, rfl⟩ := nn_get hc
    have y24 := n24 y (List.mem_of_getElem? hy)
    have yi := (List.getElem?_eq_some_iff.mp hy).1
    refine ⟨rfl, ?_⟩
    refine ⟨_, rfl, _, _, rfl, rfl, ?_⟩
    refine ⟨_, hA, by rw [List.length_map, List.length_replicate]; exact small1000 (by omega), ?_, ?_⟩
    · rw [upd_same]
      have e : decide ((24 : Int) < ((y : Nat) : Int)) = false := decide_eq_false (by omega)
      show some (HO.lst (_ ++ [V.bl (decide ((24 : Int) < ((y : Nat) : Int)))])) = _
      rw [e]
      exact rep_moreF
    · exact fun b' o q => by
        rw [upd_ne (ne_of_none q hD)]
        exact s2 _ _ q
  rintro H2 ⟨hA, s2⟩
  refine ⟨D, _, rfl, SqL.of hA, ?_⟩
  rw [rep_any]
  exact ⟨_, rfl, iteF (k H2 (s1.trans s2))⟩
end
section
variable {P : Program} {w : World} {K : PySem.W.Frag} {mg : Str → Option Value} {base : Heap}
theorem ok_need_places (T : Top K mg) : FnOk P w K mg base CX0 3 T.a_need_places T.d_need_places ["lengths", "places"] (sp_need_places K) := by
  refine T.F_need_places.ok sc_need_places (fun vs H Q E h => ?_) (fun cdv A outer s H vs Q E hr h => ?_)
  · obtain ⟨v, w, ns, ps, rfl, hv, hw, ok, okp, k⟩ := h
    rfl
  obtain ⟨v, w, ns, ps, rfl, hv, hw, ok, okp, k⟩ := h
  refine ⟨_, (pss_cons (ps_if (pt_not (pt_val (pe_call (ok_are_samples T) (hr.mono (by decide)) (by rfl) T.m_are_samples T.F_are_samples.kp T.b_are_samples .nil pass0 (pa_cons (pv 1) (pa_cons (pe_callB (k_len (K := K)) (by rfl) T.z_len bt_len (pa_cons (pv 0) pa_nil)) pa_nil))))) (pss_one ps_never) pss_nil)
      (pss_one (ps_if (pt_not (pt_val (pe_callB (k_all (K := K) rfl) (by rfl) T.z_all bt_all (pa_cons (pe_lc (own := [("place", 2), ("length", 3)]) rfl sc_need_places.nd (k_piZA (K := K) (by rfl) T.z_zip (pa_cons (pv 1) (pa_cons (pv 0) pa_nil))) (blkOk_by (own := [("place", 2), ("length", 3)]) (N := ["lengths", "places", "place", "length"]) (sc := defScope s_need_places) (by decide +kernel)) (fun _ _ _ _ _ => (k_pgt (K := K) (n := 2) rfl (pgs_cons (pg_name (i := 2) sc_need_places.nd rfl (Or.inl rfl)) (pgs_cons (pg_name (i := 3) sc_need_places.nd rfl (Or.inl rfl)) pgs_nil)))) (fun _ _ _ _ _ => pts_nil) (fun _ _ _ _ _ => (pe_chain op_le op_lt pe_int (pv 2) (pv 3)))) pa_nil)))) (pss_one ps_never) pss_nil))), ?_⟩
  obtain ⟨pl, pb⟩ := id okp
  obtain ⟨ok1, ok2⟩ := id ok
  obtain ⟨b, rfl, hU⟩ := hw.ints
  obtain ⟨a, rfl, hT⟩ := hv.ints
  refine ⟨_, rfl, _, rfl, a, _, rfl, .inr hT, .ref b, ps, by show [V.ref b, V.int ((((NN ns).map V.int).length : Nat) : Int)] = [V.ref b, V.int ((ps.length : Nat) : Int)]; rw [List.length_map, nn_len, pl], hw, by omega, fun H1 s1 => ?_⟩
  refine ⟨_, rfl, iteF ?_⟩
  have hT1 := Same.tk s1 _ _ hT
  have hU1 := Same.tk s1 _ _ hU
  refine ⟨_, rfl, _, rfl, b, a, _, _, rfl, .inr ⟨hU1, hT1, fun D hD => ?_⟩⟩
  refine lc_it (walk_zipT (by rw [List.length_map, List.length_map, nn_len, pl])) (fun i H' => H' D = some (.lst ((List.replicate i true).map V.bl)) ∧ Same H1 H') ⟨upd_same, same_upd hD _⟩ (fun i H' _ p => ⟨Same.tk p.2 _ _ hU1, Same.tk p.2 _ _ hT1⟩) ?_ ?_
  · rintro i x H2 H3 hi ⟨hA, s2⟩ ⟨t, y, z, rfl, ht, rfl, hy, hz⟩
    obtain ⟨p, hp, rfl⟩ := map_int_get hy
    obtain ⟨c, hc, rfl⟩ := map_int_get hz
    obtain ⟨n, hn, rfl⟩ := nn_get hc
    obtain ⟨p0, p1⟩ := pb i n p hn hp
    have hA3 := (same_upd ht (.tup [.int p, .int (n : Nat)])) _ _ hA
    have s3 := same_step s2 ht (.tup [.int p, .int (n : Nat)])
    rw [List.length_map] at hi
    refine ⟨t, _, rfl, SqT.of upd_same, rfl, _, _, rfl, _, _, rfl, rfl, rfl, ?_⟩
    refine ⟨_, rfl, _, _, rfl, rfl, _, rfl, iteP p0 ⟨_, rfl, _, _, rfl, rfl, _, hA3, by rw [List.length_map, List.length_replicate]; exact small1000 (by have := ok1; omega), ?_, ?_⟩⟩
    · rw [upd_same]
      show some (HO.lst (List.map V.bl (List.replicate i true) ++ [V.bl (decide (p < (n : Int)))])) = _
      rw [decide_eq_true p1]
      exact rep_more
    · exact fun b' o q => by
        rw [upd_ne (ne_of_none q hD)]
        exact s3 _ _ q
  · rintro H2 ⟨hA, s2⟩
    refine ⟨D, _, rfl, SqL.of hA, ?_⟩
    rw [rep_bl]
    exact ⟨_, rfl, iteF (k H2 (s1.trans s2))⟩
end
section
variable {P : Program} {w : World} {K : PySem.W.Frag} {mg : Str → Option Value} {base : Heap}
theorem ok_first_meeting (T : Top K mg) : FnOk P w K mg base CX0 3 T.a_first_meeting T.d_first_meeting ["lengths", "places"] (sp_first_meeting K) := by
  refine T.F_first_meeting.ok sc_first_meeting (fun vs H Q E h => ?_) (fun cdv A outer s H vs Q E hr h => ?_)
  · obtain ⟨v, w, ns, X, rfl, hv, hw, ok, k⟩ := h
    rfl
  obtain ⟨v, w, ns, X, rfl, hv, hw, ok, k⟩ := h
  refine ⟨_, (pss_cons (ps_set (i := 2) sc_first_meeting.nd rfl (Or.inl rfl) pe_int)
      (pss_cons (ps_set (i := 3) sc_first_meeting.nd rfl (Or.inl rfl) pe_int)
      (pss_cons (ps_for PassesOwn.never rfl (k_piZA (K := K) (by rfl) T.z_zip (pa_cons (pv 0) (pa_cons (pv 1) pa_nil))) (pg_tup rfl (pgs_cons (pg_name (i := 4) sc_first_meeting.nd rfl (Or.inl rfl)) (pgs_cons (pg_name (i := 5) sc_first_meeting.nd rfl (Or.inl rfl)) pgs_nil))) (Evl.pss_cut (ps_while PassesOwn.never (pt_cmpR op_ne (pe_op op_modN (pv 2) (pv 4)) (pv 5) (nomark _)) (pss_one (ps_aug (i := 2) sc_first_meeting.nd rfl (Or.inl rfl) (pv 3) ip_add)))
      (pss_one (ps_set (i := 3) sc_first_meeting.nd rfl (Or.inl rfl) (pe_call (ok_common_multiple T) (hr.mono (by decide)) (by rfl) T.m_common_multiple T.F_common_multiple.kp T.b_common_multiple .nil pass0 (pa_cons (pe_tup (pa_cons (pv 3) (pa_cons (pv 4) pa_nil))) pa_nil))))))
      (pss_one (ps_ret (pv 2)))))), ?_⟩
  obtain ⟨ok1, ok2⟩ := id ok
  obtain ⟨b, rfl, hU⟩ := hw.ints
  obtain ⟨a, rfl, hT⟩ := hv.ints
  refine ⟨_, rfl, _, rfl, a, b, _, _, rfl, .inr ⟨hT, hU, ?_⟩⟩
  refine for_it (walk_zipT (by rw [List.length_map, List.length_map, nn_len, plc_len])) (fun i σ H' => ∃ w4 w5, σ = [some (.ref a), some (.ref b), some (.int (X % (lcmN (ns.take i) : Nat))), some (.int (lcmN (ns.take i) : Nat)), w4, w5] ∧ Same H H')
    ⟨none, none, by show _ = [some (V.ref a), some (V.ref b), some (V.int (X % ((1 : Nat) : Int))), some (V.int ((1 : Nat) : Int)), none, none]; rw [show ((1 : Nat) : Int) = 1 from rfl, Int.emod_one]; rfl, Same.refl H⟩ (fun i σ H' _ ⟨_, _, _, s⟩ => ⟨Same.tk s _ _ hT, Same.tk s _ _ hU⟩) ?_ ?_
  · rintro i x σ H2 H3 hi ⟨w4, w5, rfl, s2⟩ ⟨t, y, z, rfl, ht, rfl, hy, hz⟩
    obtain ⟨c, hc, rfl⟩ := map_int_get hy
    obtain ⟨n, hn, rfl⟩ := nn_get hc
    obtain ⟨p, hp, rfl⟩ := map_int_get hz
    have ep := plc_get hn hp
    subst ep
    have n1 := (ok2 n (List.mem_of_getElem? hn)).1
    have s3 := same_step s2 ht (.tup [.int (n : Nat), .int (X % (n : Int))])
    have Rp : 0 < lcmN (ns.take i) := lcmN_pos fun n hn => (ok2 n (List.mem_of_mem_take hn)).1
    have Lp : 0 < Nat.lcm (lcmN (ns.take i)) n := Nat.lcm_pos Rp n1
    refine ⟨t, _, rfl, SqT.of upd_same, rfl, _, _, rfl, _, _, rfl, rfl, ?_⟩
    refine ⟨fun σ H' => σ = [some (.ref a), some (.ref b), some (.int (X % (Nat.lcm (lcmN (ns.take i)) n : Nat))), some (.int (lcmN (ns.take i) : Nat)), some (.int (n : Nat)), some (.int (X % (n : Int)))] ∧ Same H H', ?_, ?_⟩
    · refine ⟨fun j σ H' => ∃ u : Int, σ = [some (.ref a), some (.ref b), some (.int u), some (.int (lcmN (ns.take i) : Nat)), some (.int (n : Nat)), some (.int (X % (n : Int)))] ∧ 0 ≤ u ∧ u ≤ X % (Nat.lcm (lcmN (ns.take i)) n : Nat) ∧ u % ((lcmN (ns.take i) : Nat) : Int) = X % ((lcmN (ns.take i) : Nat) : Int) ∧ (X % (Nat.lcm (lcmN (ns.take i)) n : Nat) - u).toNat = j ∧ Same H H',
        ⟨_, X % ((lcmN (ns.take i) : Nat) : Int), rfl, Int.emod_nonneg _ (by omega), ?_, Int.emod_emod _ _, rfl, s3⟩, ?_⟩
      · have e : (X % ((Nat.lcm (lcmN (ns.take i)) n : Nat) : Int)) % ((lcmN (ns.take i) : Nat) : Int) = X % ((lcmN (ns.take i) : Nat) : Int) := Int.emod_emod_of_dvd X (Int.natCast_dvd_natCast.mpr (Nat.dvd_lcm_left _ n))
        rw [← e]
        exact emod_self_le (Int.emod_nonneg _ (by omega)) (by omega)
      rintro j σ H4 ⟨u, rfl, u0, u1, u2, rfl, s4⟩
      refine ⟨_, rfl, _, rfl, _, _, rfl, rfl, by omega, _, rfl, rfl, _, rfl, ?_⟩
      have e1 : u.fmod (n : Int) = u % (n : Int) := Int.fmod_eq_emod_of_nonneg _ (by omega)
      refine ite2 (fun cc => ?_) (fun cc => ?_)
      · have cc' := not_dec_eq.mp cc
        rw [e1] at cc'
        have ul : u < X % ((Nat.lcm (lcmN (ns.take i)) n : Nat) : Int) := by
          rcases Int.lt_or_eq_of_le u1 with q | q
          · exact q
          · refine absurd ?_ cc'
            rw [q]
            exact Int.emod_emod_of_dvd X (Int.natCast_dvd_natCast.mpr (Nat.dvd_lcm_right _ n))
        have u3 := step_rest u2 ul Rp
        refine ⟨fun σ' H' => ∃ (j' : Nat) (u' : Int), j' < (X % (Nat.lcm (lcmN (ns.take i)) n : Nat) - u).toNat ∧ σ' = [some (.ref a), some (.ref b), some (.int u'), some (.int (lcmN (ns.take i) : Nat)), some (.int (n : Nat)), some (.int (X % (n : Int)))] ∧ 0 ≤ u' ∧ u' ≤ X % (Nat.lcm (lcmN (ns.take i)) n : Nat) ∧ u' % ((lcmN (ns.take i) : Nat) : Int) = X % ((lcmN (ns.take i) : Nat) : Int) ∧ (X % (Nat.lcm (lcmN (ns.take i)) n : Nat) - u').toNat = j' ∧ Same H H', ?_, ?_⟩
        · rintro σ' H' ⟨j', u', a1, a2⟩
          exact ⟨j', a1, u', a2⟩
        refine ⟨_, rfl, _, rfl, _, _, rfl, rfl, ?_⟩
        refine ⟨_, u + ((lcmN (ns.take i) : Nat) : Int), ?_, rfl, by omega, u3, ?_, rfl, s4⟩
        · omega
        · rw [Int.add_emod_right]
          exact u2
      · have cc' : u.fmod (n : Int) = X % (n : Int) := Classical.byContradiction fun z => cc (not_dec_eq.mpr z)
        rw [e1] at cc'
        have e3 := two_rests u0 u1 u2 cc' Lp
        exact ⟨by rw [← e3], s4⟩
    · rintro σ H4 ⟨rfl, s4⟩
      refine ⟨_, rfl, _, rfl, (by show 2 ≤ sizeLine; decide), fun q hq => ⟨.tup, q, [lcmN (ns.take i), n], rfl, SqT.of upd_same, ?_, ?_, ?_⟩⟩
      · intro m hm
        simp at hm
        rcases hm with e | e <;> omega
      · rw [lcm_two, ← lcmN_take hn]
        exact okm_tk ok (i + 1)
      rw [lcm_two, ← lcmN_take hn]
      exact ⟨_, _, rfl, s4.trans (same_upd hq _)⟩
  rintro σ H2 ⟨w4, w5, rfl, s2⟩
  rw [List.length_map, nn_len, List.take_length]
  exact ⟨_, rfl, k H2 s2⟩
end
section
variable {P : Program} {w : World} {K : PySem.W.Frag} {mg : Str → Option Value} {base : Heap}
theorem ok_is_first_meeting (T : Top K mg) : FnOk P w K mg base CX0 3 T.a_is_first_meeting T.d_is_first_meeting ["lengths", "places", "tick"] (sp_is_first_meeting K) := by
  refine T.F_is_first_meeting.ok sc_is_first_meeting (fun vs H Q E h => ?_) (fun cdv A outer s H vs Q E hr h => ?_)
  · obtain ⟨v, w, ns, t, rfl, hv, hw, ok, t0, t1, k⟩ := h
    rfl
  obtain ⟨v, w, ns, t, rfl, hv, hw, ok, t0, t1, k⟩ := h
  refine ⟨_, (pss_cons (ps_if (pt_not (pt_chain op_le op_lt pe_int (pv 2) (pe_call (ok_common_multiple T) (hr.mono (by decide)) (by rfl) T.m_common_multiple T.F_common_multiple.kp T.b_common_multiple .nil pass0 (pa_cons (pv 0) pa_nil)))) (pss_one (ps_ret pe_bl)) pss_nil)
      (pss_one (ps_ret (pe_callB (k_all (K := K) rfl) (by rfl) T.z_all bt_all (pa_cons (pe_lc (own := [("length", 3), ("place", 4)]) rfl sc_is_first_meeting.nd (k_piZA (K := K) (by rfl) T.z_zip (pa_cons (pv 0) (pa_cons (pv 1) pa_nil))) (blkOk_by (own := [("length", 3), ("place", 4)]) (N := ["lengths", "places", "tick", "length", "place"]) (sc := defScope s_is_first_meeting) (by decide +kernel)) (fun _ _ _ _ _ => (k_pgt (K := K) (n := 2) rfl (pgs_cons (pg_name (i := 3) sc_is_first_meeting.nd rfl (Or.inl rfl)) (pgs_cons (pg_name (i := 4) sc_is_first_meeting.nd rfl (Or.inl rfl)) pgs_nil)))) (fun _ _ _ _ _ => pts_nil) (fun _ _ _ _ _ => (pe_cmpR op_eq (pe_op op_modN (pv 2) (pv 3)) (pv 4) (nomark _)))) pa_nil))))), ?_⟩
  obtain ⟨ok1, ok2⟩ := id ok
  obtain ⟨b, rfl, hU⟩ := hw.ints
  obtain ⟨a, rfl, hT⟩ := hv.ints
  refine ⟨_, rfl, _, _, rfl, rfl, _, rfl, iteP t0 ⟨_, rfl, .tup, a, ns, rfl, hT, fun n hn => (ok2 n hn).1, okm_lcm ok, _, _, rfl, rfl, _, rfl, ?_⟩⟩
  show (if (!decide (t < ((lcmN ns : Nat) : Int))) = true then _ else _)
  rw [decide_eq_true t1]
  refine iteF ?_
  refine ⟨_, rfl, _, rfl, a, b, _, _, rfl, .inr ⟨hT, hU, fun D hD => ?_⟩⟩
  refine lc_it (walk_zipT (by rw [List.length_map, List.length_map, nn_len, plc_len])) (fun i H' => H' D = some (.lst ((List.replicate i true).map V.bl)) ∧ Same H H') ⟨upd_same, same_upd hD _⟩ (fun i H' _ p => ⟨Same.tk p.2 _ _ hT, Same.tk p.2 _ _ hU⟩) ?_ ?_
  · rintro i x H2 H3 hi ⟨hA, s2⟩ ⟨t', y, z, rfl, ht, rfl, hy, hz⟩
    obtain ⟨c, hc, rfl⟩ := map_int_get hy
    obtain ⟨n, hn, rfl⟩ := nn_get hc
    obtain ⟨p, hp, rfl⟩ := map_int_get hz
    have ep := plc_get hn hp
    subst ep
    have n1 := (ok2 n (List.mem_of_getElem? hn)).1
    have hA3 := (same_upd ht (.tup [.int (n : Nat), .int (t % (n : Int))])) _ _ hA
    have s3 := same_step s2 ht (.tup [.int (n : Nat), .int (t % (n : Int))])
    rw [List.length_map, nn_len] at hi
    refine ⟨t', _, rfl, SqT.of upd_same, rfl, _, _, rfl, _, _, rfl, rfl, rfl, ?_⟩
    refine ⟨_, rfl, _, rfl, _, _, rfl, rfl, by omega, _, rfl, rfl, _, hA3, by rw [List.length_map, List.length_replicate]; exact small1000 (by omega), ?_, ?_⟩
    · have e1 : t.fmod (n : Int) = t % (n : Int) := Int.fmod_eq_emod_of_nonneg _ (by omega)
      have e2 : decide (V.int (t.fmod (n : Int)) = V.int (t % (n : Int))) = true := decide_eq_true (by rw [e1])
      rw [upd_same]
      show some (HO.lst (List.map V.bl (List.replicate i true) ++ [V.bl (decide (V.int (t.fmod (n : Int)) = V.int (t % (n : Int))))])) = _
      rw [e2]
      exact rep_more
    · exact fun b' o q => by
        rw [upd_ne (ne_of_none q hD)]
        exact s3 _ _ q
  · rintro H2 ⟨hA, s2⟩
    refine ⟨D, _, rfl, SqL.of hA, ?_⟩
    rw [rep_bl]
    exact k H2 s2
end
section
variable {P : Program} {w : World} {K : PySem.W.Frag} {mg : Str → Option Value} {base : Heap}
theorem ok_lengths_of (T : Top K mg) : FnOk P w K mg base CX0 4 T.a_lengths_of T.d_lengths_of ["loops"] (sp_lengths_of K) := by
  refine T.F_lengths_of.ok sc_lengths_of (fun vs H Q E h => ?_) (fun cdv A outer s H vs Q E hr h => ?_)
  · obtain ⟨v, ls, rfl, hv, ok, k⟩ := h
    rfl
  obtain ⟨v, ls, rfl, hv, ok, k⟩ := h
  refine ⟨_, (pss_one (ps_ret (pe_callTy (k_tuple (K := K)) (by rfl) T.z_tuple bt_tuple (pa_cons (pe_lc (own := [("loop", 1)]) rfl sc_lengths_of.nd (k_piT (K := K) (pe_call (ok_need_loops T) (hr.mono (by decide)) (by rfl) T.m_need_loops T.F_need_loops.kp T.b_need_loops .nil pass0 (pa_cons (pv 0) pa_nil))) (blkOk_by (own := [("loop", 1)]) (N := ["loops", "loop"]) (sc := defScope s_lengths_of) (by decide +kernel)) (fun _ _ _ _ _ => (pg_name (i := 1) sc_lengths_of.nd rfl (Or.inl rfl))) (fun _ _ _ _ _ => pts_nil) (fun _ _ _ _ _ => (pe_callB (k_len (K := K)) (by rfl) T.z_len bt_len (pa_cons (pv 1) pa_nil)))) pa_nil)))), ?_⟩
  obtain ⟨ok1, ok2⟩ := id ok
  refine ⟨_, rfl, v, ls, rfl, hv, ok, fun H1 s1 => ?_⟩
  have hv1 := hv.same_at s1
  obtain ⟨a, xs, rfl, hT, hX⟩ := hv1.tuple
  have hlen := hX.len
  rw [List.length_map] at hlen
  refine ⟨a, rfl, ⟨_, hT⟩, fun D hD => ?_⟩
  refine lc_it walk_tup (fun i H' => H' D = some (.lst ((lensI (ls.take i)).map V.int)) ∧ Same H1 H') ⟨upd_same, same_upd hD _⟩ (fun i H' _ p => Same.tk p.2 _ _ hT) ?_ ?_
  · rintro i x H2 H3 hi ⟨hA, s2⟩ ⟨rfl, hx⟩
    obtain ⟨l, b, hl, rfl, hB⟩ := loops_get hX hx
    have hB1 := Same.tk s2 _ _ hB
    refine ⟨rfl, ?_⟩
    refine ⟨_, rfl, b, _, rfl, .inr hB1, ?_⟩
    refine ⟨_, hA, by unfold lensI; rw [List.length_map, List.length_map, List.length_take]; exact small1000 (by omega), ?_, ?_⟩
    · rw [upd_same, take_more hl]
      simp [lensI]
    · exact fun b' o q => by
        rw [upd_ne (ne_of_none q hD)]
        exact s2 _ _ q
  · rintro H2 ⟨hA, s2⟩
    rw [hlen, List.take_length] at hA
    refine ⟨D, _, rfl, .inl ⟨SqL.of hA, fun t ht => ?_⟩⟩
    exact k _ _ (s1.trans (s2.trans (same_upd ht _))) (Dp.ofInts (SqT.of upd_same))
end
section
variable {P : Program} {w : World} {K : PySem.W.Frag} {mg : Str → Option Value} {base : Heap}
theorem ok_heard (T : Top K mg) : FnOk P w K mg base CX0 4 T.a_heard T.d_heard ["loops", "tick"] (sp_heard K) := by
  refine T.F_heard.ok sc_heard (fun vs H Q E h => ?_) (fun cdv A outer s H vs Q E hr h => ?_)
  · obtain ⟨v, ls, t, rfl, hv, ok, h0, h1, k⟩ := h
    rfl
  obtain ⟨v, ls, t, rfl, hv, ok, h0, h1, k⟩ := h
  refine ⟨_, (pss_cons (ps_expr (pe_call (ok_need_loops T) (hr.mono (by decide)) (by rfl) T.m_need_loops T.F_need_loops.kp T.b_need_loops .nil pass0 (pa_cons (pv 0) pa_nil)))
      (pss_cons (ps_expr (pe_call (ok_need_tick T) (hr.mono (by decide)) (by rfl) T.m_need_tick T.F_need_tick.kp T.b_need_tick .nil pass0 (pa_cons (pv 1) pa_nil)))
      (pss_one (ps_ret (pe_call (ok_sum_at T) (hr.mono (by decide)) (by rfl) T.m_sum_at T.F_sum_at.kp T.b_sum_at .nil pass0 (pa_cons (pv 0) (pa_cons (pv 1) pa_nil))))))), ?_⟩
  refine ⟨_, rfl, v, ls, rfl, hv, ok, fun H1 s1 => ?_⟩
  refine ⟨_, rfl, t, rfl, h0, h1, ?_⟩
  refine ⟨_, rfl, _, rfl, v, ls, t, rfl, Dp.same_at hv s1, ok, fun H2 s2 => ?_⟩
  exact k H2 (s1.trans s2)
end
section
variable {P : Program} {w : World} {K : PySem.W.Frag} {mg : Str → Option Value} {base : Heap}
theorem ok_heard_row (T : Top K mg) : FnOk P w K mg base CX0 4 T.a_heard_row T.d_heard_row ["loops", "tick", "many"] (sp_heard_row K) := by
  refine T.F_heard_row.ok sc_heard_row (fun vs H Q E h => ?_) (fun cdv A outer s H vs Q E hr h => ?_)
  · obtain ⟨v, ls, t, n, rfl, hv, ok, h0, h1, n0, n1, k⟩ := h
    rfl
  obtain ⟨v, ls, t, n, rfl, hv, ok, h0, h1, n0, n1, k⟩ := h
  refine ⟨_, (pss_cons (ps_expr (pe_call (ok_need_loops T) (hr.mono (by decide)) (by rfl) T.m_need_loops T.F_need_loops.kp T.b_need_loops .nil pass0 (pa_cons (pv 0) pa_nil)))
      (pss_cons (ps_expr (pe_call (ok_need_tick T) (hr.mono (by decide)) (by rfl) T.m_need_tick T.F_need_tick.kp T.b_need_tick .nil pass0 (pa_cons (pv 1) pa_nil)))
      (pss_cons (ps_expr (pe_call (ok_need_many T) (hr.mono (by decide)) (by rfl) T.m_need_many T.F_need_many.kp T.b_need_many .nil pass0 (pa_cons (pv 2) pa_nil)))
      (pss_one (ps_ret (pe_callTy (k_tuple (K := K)) (by rfl) T.z_tuple bt_tuple (pa_cons (pe_lc (own := [("step", 3)]) rfl sc_heard_row.nd (pi_range1 (by rfl) T.z_range (pa_cons (pv 2) pa_nil)) (blkOk_by (own := [("step", 3)]) (N := ["loops", "tick", "many", "step"]) (sc := defScope s_heard_row) (by decide +kernel)) (fun _ _ _ _ _ => (pg_name (i := 3) sc_heard_row.nd rfl (Or.inl rfl))) (fun _ _ _ _ _ => pts_nil) (fun _ _ _ _ _ => (pe_call (ok_sum_at T) (hr.mono (by decide)) (by rfl) T.m_sum_at T.F_sum_at.kp T.b_sum_at .nil pass0 (pa_cons (pv 0) (pa_cons (pe_op op_add (pv 1) (pv 3)) pa_nil))))) pa_nil))))))), ?_⟩
  refine ⟨_, rfl, v, ls, rfl, hv, ok, fun H1 s1 => ?_⟩
  refine ⟨_, rfl, t, rfl, h0, h1, ?_⟩
  refine ⟨_, rfl, n, rfl, n0, n1, ?_⟩
  refine ⟨_, rfl, n, rfl, by omega, by omega, fun D hD => ?_⟩
  have hD0 : H D = none := s1.free hD
  refine lc_it walk_range (fun i H' => H' D = some (.lst ((hrow ls t i).map V.int)) ∧ Same H H') ⟨upd_same, s1.trans (same_upd hD _)⟩ (fun _ _ _ _ => trivial) ?_ ?_
  · rintro i x H2 H3 hi ⟨hA, s2⟩ ⟨rfl, rfl⟩
    refine ⟨rfl, ?_⟩
    refine ⟨_, rfl, _, rfl, _, rfl, _, _, rfl, rfl, v, ls, _, rfl, Dp.same_at hv s2, ok, fun H4 s4 => ?_⟩
    refine ⟨_, s4 _ _ hA, by rw [List.length_map, hrow_len]; exact small1000 (by omega), ?_, ?_⟩
    · rw [upd_same, hrow_more]
      simp
    · exact fun b' o q => by
        rw [upd_ne (ne_of_none q hD0)]
        exact s4 _ _ (s2 _ _ q)
  · rintro H2 ⟨hA, s2⟩
    refine ⟨D, _, rfl, .inl ⟨SqL.of hA, fun t' ht => ?_⟩⟩
    exact k _ _ (s2.trans (same_upd ht _)) (Dp.ofInts (SqT.of upd_same))
end
section
variable {P : Program} {w : World} {K : PySem.W.Frag} {mg : Str → Option Value} {base : Heap}
theorem ok_later (T : Top K mg) : FnOk P w K mg base CX0 4 T.a_later T.d_later ["loops", "ticks"] (sp_later K) := by
  refine T.F_later.ok sc_later (fun vs H Q E h => ?_) (fun cdv A outer s H vs Q E hr h => ?_)
  · obtain ⟨v, ls, t, rfl, hv, ok, h0, h1, k⟩ := h
    rfl
  obtain ⟨v, ls, t, rfl, hv, ok, h0, h1, k⟩ := h
  refine ⟨_, (pss_cons (ps_expr (pe_call (ok_need_loops T) (hr.mono (by decide)) (by rfl) T.m_need_loops T.F_need_loops.kp T.b_need_loops .nil pass0 (pa_cons (pv 0) pa_nil)))
      (pss_cons (ps_expr (pe_call (ok_need_tick T) (hr.mono (by decide)) (by rfl) T.m_need_tick T.F_need_tick.kp T.b_need_tick .nil pass0 (pa_cons (pv 1) pa_nil)))
      (pss_one (ps_ret (pe_callTy (k_tuple (K := K)) (by rfl) T.z_tuple bt_tuple (pa_cons (pe_lc (own := [("loop", 2)]) rfl sc_later.nd (k_piT (K := K) (pv 0)) (blkOk_by (own := [("loop", 2)]) (N := ["loops", "ticks", "loop"]) (sc := defScope s_later) (by decide +kernel)) (fun _ _ _ _ _ => (pg_name (i := 2) sc_later.nd rfl (Or.inl rfl))) (fun _ _ _ _ _ => pts_nil) (fun _ _ _ _ _ => (pe_call (ok_begun_at T) (hr.mono (by decide)) (by rfl) T.m_begun_at T.F_begun_at.kp T.b_begun_at .nil pass0 (pa_cons (pv 2) (pa_cons (pe_op op_modN (pv 1) (pe_callB (k_len (K := K)) (by rfl) T.z_len bt_len (pa_cons (pv 2) pa_nil))) pa_nil))))) pa_nil)))))), ?_⟩
  obtain ⟨ok1, ok2⟩ := id ok
  refine ⟨_, rfl, v, ls, rfl, hv, ok, fun H1 s1 => ?_⟩
  refine ⟨_, rfl, t, rfl, h0, h1, ?_⟩
  have hv1 := hv.same_at s1
  obtain ⟨a, xs, rfl, hT, hX⟩ := hv1.tuple
  have hlen := hX.len
  rw [List.length_map] at hlen
  refine ⟨_, rfl, a, rfl, ⟨_, hT⟩, fun D hD => ?_⟩
  refine lc_it walk_tup (fun i H' => (∃ ys, H' D = some (.lst ys) ∧ DpAll K H' ys ((lat (ls.take i) t).map dInts)) ∧ Same H1 H') ⟨⟨_, upd_same, .nil⟩, same_upd hD _⟩ (fun i H' _ p => Same.tk p.2 _ _ hT) ?_ ?_
  · rintro i x H2 H3 hi ⟨⟨ys, hA, hY⟩, s2⟩ ⟨rfl, hx⟩
    obtain ⟨l, b, hl, rfl, hB⟩ := loops_get hX hx
    obtain ⟨k1, k2⟩ := ok2 l (List.mem_of_getElem? hl)
    have hB1 := Same.tk s2 _ _ hB
    have hp : (0 : Int) < (l.length : Int) := by omega
    have q0 := Int.fmod_nonneg_of_pos t hp
    have q1 := Int.fmod_lt_of_pos t hp
    refine ⟨rfl, ?_⟩
    refine ⟨_, rfl, _, rfl, _, rfl, b, _, rfl, .inr hB1, _, _, rfl, rfl, by rw [List.length_map]; omega, ?_⟩
    rw [List.length_map]
    refine ⟨.ref b, l, _, rfl, Dp.ofInts hB1, q0, q1, k2, fun w H4 s4 hw => ?_⟩
    have hyl := hY.len
    rw [List.length_map] at hyl
    have hyl2 : (lat (ls.take i) t).length ≤ 6 := by
      unfold lat
      rw [List.length_map, List.length_take]
      omega
    refine ⟨ys, s4 _ _ hA, small1000 (by omega), ⟨ys ++ [w], upd_same, ?_⟩, ?_⟩
    · have e : (lat (ls.take (i + 1)) t).map dInts = (lat (ls.take i) t).map dInts ++ [dInts (turnL l (t.fmod (l.length : Int)).toNat)] := by
        rw [take_more hl]
        simp [lat]
      rw [e]
      have tk := (Same.tk (K := K) s4).trans (tk_upd (o := .lst (ys ++ [w])) (s4 _ _ hA))
      exact (DpAll.keepT tk _ _ (to_loops _) hY).app (.cons (Dp.keepT (tk_upd (s4 _ _ hA)) _ _ (to_ints _) hw) .nil)
    · exact fun b' o q => by
        rw [upd_ne (ne_of_none q hD)]
        exact s4 _ _ (s2 _ _ q)
  · rintro H2 ⟨⟨ys, hA, hY⟩, s2⟩
    rw [hlen, List.take_length] at hY
    refine ⟨D, _, rfl, .inl ⟨SqL.of hA, fun t' ht => ?_⟩⟩
    have s3 := same_upd ht (.tup ys)
    exact k _ _ (s1.trans (s2.trans s3)) (.tup (SqT.of upd_same) (DpAll.same s3 _ _ hY))
end
section
variable {P : Program} {w : World} {K : PySem.W.Frag} {mg : Str → Option Value} {base : Heap}
theorem ok_carried (T : Top K mg) : FnOk P w K mg base CX0 4 T.a_carried T.d_carried ["lengths", "row", "many"] (sp_carriedG K) := by
  refine T.F_carried.ok sc_carried (fun vs H Q E h => ?_) (fun cdv A outer s H vs Q E hr h => ?_)
  · obtain ⟨v, r, ns, xs, n, rfl, hv, ok, hr', hxl, n0, n1, hz, k⟩ := h
    rfl
  obtain ⟨v, r, ns, xs, n, rfl, hv, ok, hr', hxl, n0, n1, hz, k⟩ := h
  refine ⟨_, (pss_cons (ps_set (i := 3) sc_carried.nd rfl (Or.inl rfl) (pe_slice (k_slT (K := K)) (pe_call (ok_weights T) (hr.mono (by decide)) (by rfl) T.m_weights T.F_weights.kp T.b_weights .nil pass0 (pa_cons (pv 0) pa_nil)) po_none (po_some (pe_un un_neg pe_int))))
      (pss_cons (ps_if (pt_not (pt_val (pe_call (ok_are_samples T) (hr.mono (by decide)) (by rfl) T.m_are_samples T.F_are_samples.kp T.b_are_samples .nil pass0 (pa_cons (pv 1) (pa_cons (pe_callB (k_len (K := K)) (by rfl) T.z_len bt_len (pa_cons (pv 3) pa_nil)) pa_nil))))) (pss_one ps_never) pss_nil)
      (pss_cons (ps_expr (pe_call (ok_need_many T) (hr.mono (by decide)) (by rfl) T.m_need_many T.F_need_many.kp T.b_need_many .nil pass0 (pa_cons (pv 2) pa_nil)))
      (pss_cons (ps_set (i := 4) sc_carried.nd rfl (Or.inl rfl) (pe_callTy (k_list (K := K)) (by rfl) T.z_list bt_list (pa_cons (pv 1) pa_nil)))
      (pss_cons (ps_for PassesOwn.never rfl (pi_range1 (by rfl) T.z_range (pa_cons (pv 2) pa_nil)) (pg_name (i := 5) sc_carried.nd rfl (Or.inl rfl)) (pss_one (ps_expr (pe_bm PySem.F.plainAttrs_list PySem.F.slot_list_append PySem.F.type_list_append mt_append (pv 4) (pa_cons (pe_un un_neg (pe_call (ok_weighted T) (hr.mono (by decide)) (by rfl) T.m_weighted T.F_weighted.kp T.b_weighted .nil pass0 (pa_cons (pv 3) (pa_cons (pe_slice (k_slL (K := K)) (pv 4) (po_some (pv 5)) po_none) pa_nil)))) pa_nil)))))
      (pss_one (ps_ret (pe_callTy (k_tuple (K := K)) (by rfl) T.z_tuple bt_tuple (pa_cons (pe_slice (k_slL (K := K)) (pv 4) (po_some (pe_callB (k_len (K := K)) (by rfl) T.z_len bt_len (pa_cons (pv 1) pa_nil))) po_none) pa_nil))))))))), ?_⟩
  obtain ⟨ok1, ok2⟩ := id ok
  refine ⟨_, rfl, v, ns, rfl, hv, ok, fun wv H1 s1 hwv => ?_⟩
  obtain ⟨wl1, wl2⟩ := wl_known ok
  have d384 := due_384 ok
  dsimp only [tC, tNoPart]
  refine ⟨_, rfl, _, rfl, rd_cut hwv fun w2 H2 s2 hw2 => ?_⟩
  have hw2 : Dp K H2 w2 (dInts (kn ns)) := by
    unfold dInts kn
    rw [← last_cut]
    exact hw2
  obtain ⟨kp, rfl, hKn⟩ := hw2.ints
  have t2 := s1.trans s2
  have hr2 := hr'.same_at t2
  have knl : (kn ns).length = dueN (NN ns) := wl1
  refine ⟨_, rfl, _, rfl, kp, _, rfl, .inr hKn, r, xs, (by rw [List.length_map, knl, hxl]; rfl), hr2, (by omega), fun H3 s3 => ⟨_, rfl, iteF ?_⟩⟩
  have t3 := t2.trans s3
  refine ⟨_, rfl, n, rfl, n0, n1, ?_⟩
  obtain ⟨ra, rfl, hU⟩ := (hr'.same_at t3).ints
  have hK3 := Same.tk s3 _ _ hKn
  refine ⟨_, rfl, ra, _, rfl, .inr hU, fun S hS => ?_⟩
  refine ⟨_, rfl, n, rfl, by omega, by omega, ?_⟩
  refine for_it walk_range (fun j σ H' => ∃ (w5 : Option V), σ = [some v, some (.ref ra), some (.int n), some (.ref kp), some (.ref S), w5] ∧ H' S = some (.lst ((grw ns xs j).map V.int)) ∧ Same H3 H')
    ⟨_, rfl, upd_same, same_upd hS _⟩ (fun _ _ _ _ _ => trivial) ?_ ?_
  · rintro j x σ H5 H6 hj ⟨w5, rfl, hA, s5⟩ ⟨rfl, rfl⟩
    have j1000 : j < 1000 := by omega
    have jn : j ≤ n.toNat := by omega
    refine ⟨_, rfl, .inl ⟨rfl, _, SqL.of hA⟩, ?_⟩
    refine ⟨_, rfl, _, rfl, _, rfl, ?_⟩
    dsimp only [tC, tNoPart]
    refine ⟨_, rfl, S, _, rfl, SqL.of hA, fun p hp => ?_⟩
    have e0 : (0 : Int) + (j : Nat) = ((j : Nat) : Int) := Int.zero_add _
    have s6 := same_upd hp (.lst (cutV ((grw ns xs j).map V.int) (some (0 + ((j : Nat) : Int))) none))
    have hcut : upd H6 p (.lst (cutV ((grw ns xs j).map V.int) (some (0 + ((j : Nat) : Int))) none)) p = some (.lst (((grw ns xs j).drop j).map V.int)) := by
      rw [upd_same, e0, cutV_fromN, ← List.map_drop]
    have t6 := s5.trans s6
    have hW6 : SqT K _ kp ((kn ns).map V.int) := Same.tk t6 _ _ hK3
    have dl : ((grw ns xs j).drop j).length = xs.length := by rw [List.length_drop, grw_len]; omega
    refine ⟨.tup, .lst, kp, p, _, (grw ns xs j).drop j, rfl, hW6, SqL.of hcut, ⟨by omega, by omega, fun x hx y hy => ?_⟩, fun H7 s7 => ?_⟩
    · have a := log_w (wl2 x hx)
      have b := hz y (grw_mem jn (List.mem_of_mem_drop hy))
      omega
    have hA7 := s7 _ _ (s6 _ _ hA)
    refine ⟨_, rfl, S, _, _, rfl, rfl, hA7, ?_, ?_⟩
    · rw [List.length_map, grw_len, sizeLine_eq]
      omega
    refine ⟨_, rfl, ?_, fun b o w => ?_⟩
    · rw [upd_same]
      show some (HO.lst (_ ++ [V.int (-dotz (kn ns) ((grw ns xs j).drop j))])) = some (HO.lst ((grw ns xs j ++ [-dotz (kn ns) ((grw ns xs j).drop j)]).map V.int))
      rw [List.map_append]
      rfl
    · rw [upd_ne (ne_of_none w hS)]
      exact s7 _ _ (t6 _ _ w)
  · rintro σ H5 ⟨w5, rfl, hA, s5⟩
    refine ⟨_, rfl, _, rfl, ?_⟩
    dsimp only [tC, tNoPart]
    refine ⟨ra, _, rfl, .inr (Same.tk s5 _ _ hU), _, rfl, S, _, rfl, SqL.of hA, fun p hp => ⟨p, _, rfl, .inl ⟨SqL.of upd_same, fun t ht => ?_⟩⟩⟩
    refine k _ _ (t3.trans (s5.trans ((same_upd hp _).trans (same_upd ht _)))) (Dp.ofInts ?_)
    have e : cutV ((grw ns xs n.toNat).map V.int) (some (((xs.map V.int).length : Nat) : Int)) none = ((grw ns xs n.toNat).drop xs.length).map V.int := by
      rw [cutV_fromN, List.length_map, ← List.map_drop]
    rw [← e]
    exact SqT.of upd_same
end
section
variable {P : Program} {w : World} {K : PySem.W.Frag} {mg : Str → Option Value} {base : Heap}
theorem ok_first_apart (T : Top K mg) : FnOk P w K mg base CX0 4 T.a_first_apart T.d_first_apart ["one", "other"] (sp_first_apart K) := by
  refine T.F_first_apart.ok sc_first_apart (fun vs H Q E h => ?_) (fun cdv A outer s H vs Q E hr h => ?_)
  · obtain ⟨v, w, ls, ms, rfl, hv, hw, ok, okm, k⟩ := h
    rfl
  obtain ⟨v, w, ls, ms, rfl, hv, hw, ok, okm, k⟩ := h
  refine ⟨_, (pss_cons (ps_expr (pe_call (ok_need_loops T) (hr.mono (by decide)) (by rfl) T.m_need_loops T.F_need_loops.kp T.b_need_loops .nil pass0 (pa_cons (pv 0) pa_nil)))
      (pss_cons (ps_expr (pe_call (ok_need_loops T) (hr.mono (by decide)) (by rfl) T.m_need_loops T.F_need_loops.kp T.b_need_loops .nil pass0 (pa_cons (pv 1) pa_nil)))
      (pss_one (ps_ret (pe_call (ok_parted_at T) (hr.mono (by decide)) (by rfl) T.m_parted_at T.F_parted_at.kp T.b_parted_at .nil pass0 (pa_cons (pv 0) (pa_cons (pv 1) pa_nil))))))), ?_⟩
  refine ⟨_, rfl, v, ls, rfl, hv, ok, fun H1 s1 => ?_⟩
  refine ⟨_, rfl, w, ms, rfl, hw.same_at s1, okm, fun H2 s2 => ?_⟩
  refine ⟨_, rfl, _, rfl, v, w, ls, ms, rfl, hv.same_at (s1.trans s2), hw.same_at (s1.trans s2), ok, okm, fun r H3 hf hb s3 => ?_⟩
  exact k r H3 hf hb (s1.trans (s2.trans s3))
end
section
variable {P : Program} {w : World} {K : PySem.W.Frag} {mg : Str → Option Value} {base : Heap}
theorem ok_period (T : Top K mg) : FnOk P w K mg base CX0 4 T.a_period T.d_period ["loops"] (sp_period K) := by
  refine T.F_period.ok sc_period (fun vs H Q E h => ?_) (fun cdv A outer s H vs Q E hr h => ?_)
  · obtain ⟨v, ls, rfl, hv, ok, k⟩ := h
    rfl
  obtain ⟨v, ls, rfl, hv, ok, k⟩ := h
  refine ⟨_, (pss_cons (ps_expr (pe_call (ok_need_loops T) (hr.mono (by decide)) (by rfl) T.m_need_loops T.F_need_loops.kp T.b_need_loops .nil pass0 (pa_cons (pv 0) pa_nil)))
      (pss_cons (ps_set (i := 1) sc_period.nd rfl (Or.inl rfl) (pe_call (ok_common_multiple T) (hr.mono (by decide)) (by rfl) T.m_common_multiple T.F_common_multiple.kp T.b_common_multiple .nil pass0 (pa_cons (pe_lc (own := [("loop", 3)]) rfl sc_period.nd (k_piT (K := K) (pv 0)) (blkOk_by (own := [("loop", 3)]) (N := ["loops", "ticks", "divisor", "loop"]) (sc := defScope s_period) (by decide +kernel)) (fun _ _ _ _ _ => (pg_name (i := 3) sc_period.nd rfl (Or.inl rfl))) (fun _ _ _ _ _ => pts_nil) (fun _ _ _ _ _ => (pe_callB (k_len (K := K)) (by rfl) T.z_len bt_len (pa_cons (pv 3) pa_nil)))) pa_nil)))
      (pss_cons (ps_for PassesOwn.never rfl (pi_range2 (by rfl) T.z_range (pa_cons pe_int (pa_cons (pe_op op_add (pe_glob (v := .int 64) rfl T.c_MOST_THINGS ⟨_, rfl⟩) pe_int) pa_nil))) (pg_name (i := 2) sc_period.nd rfl (Or.inl rfl)) (pss_one (ps_while PassesOwn.never (PW.pt (pw_and (pt_cmpR op_eq (pe_op op_modN (pv 1) (pv 2)) pe_int (nomark _)) (pw_and1 (pt_val (pe_call (ok_leads_round T) (hr.mono (by decide)) (by rfl) T.m_leads_round T.F_leads_round.kp T.b_leads_round .nil pass0 (pa_cons (pv 0) (pa_cons (pe_op op_fdivW (pv 1) (pv 2)) pa_nil))))))) (pss_one (ps_set (i := 1) sc_period.nd rfl (Or.inl rfl) (pe_op op_fdivW (pv 1) (pv 2)))))))
      (pss_one (ps_ret (pv 1)))))), ?_⟩
  obtain ⟨ok1, ok2⟩ := id ok
  refine ⟨_, rfl, v, ls, rfl, hv, ok, fun H1 s1 => ?_⟩
  have hv1 := hv.same_at s1
  obtain ⟨a, xs, rfl, hT, hX⟩ := hv1.tuple
  have hlen := hX.len
  rw [List.length_map] at hlen
  refine ⟨_, rfl, a, rfl, ⟨_, hT⟩, fun D hD => ?_⟩
  refine lc_it walk_tup (fun i H' => H' D = some (.lst ((lensI (ls.take i)).map V.int)) ∧ Same H1 H') ⟨upd_same, same_upd hD _⟩ (fun i H' _ p => Same.tk p.2 _ _ hT) ?_ ?_
  · rintro i x H2 H3 hi ⟨hA, s2⟩ ⟨rfl, hx⟩
    obtain ⟨l, b, hl, rfl, hB⟩ := loops_get hX hx
    have hB1 := Same.tk s2 _ _ hB
    refine ⟨rfl, ?_⟩
    refine ⟨_, rfl, b, _, rfl, .inr hB1, ?_⟩
    refine ⟨_, hA, by unfold lensI; rw [List.length_map, List.length_map, List.length_take]; exact small1000 (by omega), ?_, ?_⟩
    · rw [upd_same, take_more hl]
      simp [lensI]
    · exact fun b' o q => by
        rw [upd_ne (ne_of_none q hD)]
        exact s2 _ _ q
  rintro H2 ⟨hA, s2⟩
  rw [hlen, List.take_length, lens_nn] at hA
  have L1 : ∀ n ∈ lenN ls, 1 ≤ n := fun n hn => (okl_len ok n hn).1
  have LL := okl_lcm ok
  have c6 : (64 : Nat) ^ 6 ≤ 2 ^ 40 := by decide
  refine ⟨.lst, D, lenN ls, rfl, SqL.of hA, L1, by omega, ?_⟩
  have t2 := s1.trans s2
  refine ⟨_, _, rfl, rfl, _, _, rfl, ⟨by decide, by decide, by decide, by decide⟩, ?_⟩
  refine for_it walk_range (fun i σ H' => ∃ (w2 : Option V) (T : Nat), σ = [some (.ref a), some (.int (T : Nat)), w2, none] ∧ Same H H' ∧ 0 < T ∧ T ∣ lcmN (lenN ls) ∧ isPer ls T ∧ ∀ e, 2 ≤ e → e < 2 + i → ¬ (e ∣ T ∧ isPer ls (T / e)))
    ⟨_, _, rfl, t2, lcmN_pos L1, Nat.dvd_refl _, per_dvd (fun l hl => dvd_lcmN (List.mem_map_of_mem hl)), fun e h1 h2 => by omega⟩ (fun _ _ _ _ _ => trivial) ?_ ?_
  · rintro i x σ H3 H4 hi ⟨w2, T, rfl, s3, T0, Td, hT3, hq⟩ ⟨rfl, rfl⟩
    have hi' : i < 63 := hi
    have ed : (2 : Int) + ((i : Nat) : Int) = ((2 + i : Nat) : Int) := by omega
    refine ⟨fun j σ H' => ∃ T : Nat, σ = [some (.ref a), some (.int (T : Nat)), some (.int (2 + (i : Nat))), none] ∧ T = j ∧ Same H H' ∧ 0 < T ∧ T ∣ lcmN (lenN ls) ∧ isPer ls T ∧ ∀ e, 2 ≤ e → e < 2 + i → ¬ (e ∣ T ∧ isPer ls (T / e)), ⟨T, T, rfl, rfl, s3, T0, Td, hT3, hq⟩, ?_⟩
    rintro j σ H5 ⟨T, rfl, rfl, s5, T0, Td, hT5, hq⟩
    have T40 : T ≤ 2 ^ 40 := Nat.le_trans (Nat.le_of_dvd (lcmN_pos L1) Td) (by omega)
    refine ⟨_, rfl, _, rfl, _, _, rfl, rfl, by omega, rfl, _, rfl, ?_⟩
    have e5 : (T : Int).fmod ((2 : Int) + ((i : Nat) : Int)) = ((T % (2 + i) : Nat) : Int) := by rw [ed, fm_nat]
    have e6 : (T : Int) / ((2 : Int) + ((i : Nat) : Int)) = ((T / (2 + i) : Nat) : Int) := by
      rw [ed]
      rfl
    have lg : ((2 : Int) + ((i : Nat) : Int)).natAbs.log2 < 9000 := by
      rw [ed]
      exact log_nat (by omega)
    refine ite2 (fun cc => ?_) (fun cc => ?_)
    · have c0 : T % (2 + i) = 0 := by
        have q : V.int ((T : Int).fmod ((2 : Int) + ((i : Nat) : Int))) = V.int 0 := of_decide_eq_true cc
        rw [e5] at q
        injection q with q
        omega
      obtain ⟨c, hc⟩ := Nat.dvd_of_mod_eq_zero c0
      have cT : T / (2 + i) = c := by rw [hc, Nat.mul_div_cancel_left _ (by omega)]
      refine ⟨_, rfl, _, rfl, _, rfl, _, _, rfl, rfl, ⟨by omega, lg⟩, .ref a, ls, T / (2 + i), (by show [V.ref a, V.int ((T : Int) / ((2 : Int) + ((i : Nat) : Int)))] = _; rw [e6]), hv.same_at s5, ok, fun b H6 hb s6 => ⟨_, rfl, ?_⟩⟩
      have s56 := s5.trans s6
      cases b with
      | true =>
        refine iteT ?_
        refine ⟨fun σ' H' => ∃ j' T' : Nat, j' < T ∧ σ' = [some (.ref a), some (.int (T' : Nat)), some (.int (2 + (i : Nat))), none] ∧ T' = j' ∧ Same H H' ∧ 0 < T' ∧ T' ∣ lcmN (lenN ls) ∧ isPer ls T' ∧ ∀ e, 2 ≤ e → e < 2 + i → ¬ (e ∣ T' ∧ isPer ls (T' / e)), ?_, ?_⟩
        · rintro σ' H' ⟨j', T', a1, a2⟩
          exact ⟨j', a1, T', a2⟩
        refine ⟨_, rfl, _, rfl, _, _, rfl, rfl, ⟨by omega, lg⟩, ?_⟩
        have pc := hb.mp rfl
        rw [cT] at pc
        have c1 : 0 < c := by
          rcases Nat.eq_zero_or_pos c with z | z
          · subst z
            omega
          · exact z
        refine ⟨c, c, ?_, ?_, rfl, s56, c1, Nat.dvd_trans ⟨2 + i, by rw [Nat.mul_comm]; exact hc⟩ Td, pc, fun e h1 h2 => ?_⟩
        · rw [hc]
          have := Nat.mul_le_mul_right c (show 2 ≤ 2 + i by omega)
          omega
        · show [some (V.ref a), some (V.int ((T : Int) / ((2 : Int) + ((i : Nat) : Int)))), some (V.int (2 + (i : Nat))), none] = [some (V.ref a), some (V.int (c : Nat)), some (V.int (2 + (i : Nat))), none]
          rw [e6, cT]
        · have q := per_keep (d := 2 + i) (by omega) ⟨c, hc⟩ (hq e h1 h2)
          rw [cT] at q
          exact q
      | false =>
        refine iteF ⟨_, T, rfl, s56, T0, Td, hT5, fun e h1 h2 => ?_⟩
        by_cases q : e < 2 + i
        · exact hq e h1 q
        · have q2 : e = 2 + i := by omega
          subst q2
          rintro ⟨z1, z2⟩
          have := hb.mpr z2
          cases this
    · refine ⟨_, T, rfl, s5, T0, Td, hT5, fun e h1 h2 => ?_⟩
      by_cases q : e < 2 + i
      · exact hq e h1 q
      · have q2 : e = 2 + i := by omega
        subst q2
        rintro ⟨z1, z2⟩
        apply cc
        refine decide_eq_true ?_
        show V.int ((T : Int).fmod ((2 : Int) + ((i : Nat) : Int))) = V.int 0
        rw [e5, Nat.mod_eq_zero_of_dvd z1]
        rfl
  · rintro σ H3 ⟨w2, T, rfl, s3, T0, Td, hT3, hq⟩
    refine ⟨_, rfl, k T H3 (min_of ok2 T0 hT3 Td fun e h1 h2 => hq e h1 (show e < 2 + 63 by omega)) (Nat.le_trans (Nat.le_of_dvd (lcmN_pos L1) Td) LL) s3⟩
end
section
variable {P : Program} {w : World} {K : PySem.W.Frag} {mg : Str → Option Value} {base : Heap}
theorem ok_silent (T : Top K mg) : FnOk P w K mg base CX0 4 T.a_silent T.d_silent ["loops"] (sp_silent K) := by
  refine T.F_silent.ok sc_silent (fun vs H Q E h => ?_) (fun cdv A outer s H vs Q E hr h => ?_)
  · obtain ⟨v, ls, rfl, hv, ok, k⟩ := h
    rfl
  obtain ⟨v, ls, rfl, hv, ok, k⟩ := h
  refine ⟨_, (pss_cons (ps_expr (pe_call (ok_need_loops T) (hr.mono (by decide)) (by rfl) T.m_need_loops T.F_need_loops.kp T.b_need_loops .nil pass0 (pa_cons (pv 0) pa_nil)))
      (pss_one (ps_ret (pe_cmpR op_isN (pe_call (ok_parted_at T) (hr.mono (by decide)) (by rfl) T.m_parted_at T.F_parted_at.kp T.b_parted_at .nil pass0 (pa_cons (pv 0) (pa_cons (pe_tup pa_nil) pa_nil))) pe_non (nomark _))))), ?_⟩
  refine ⟨_, rfl, v, ls, rfl, hv, ok, fun H1 s1 => ?_⟩
  refine ⟨_, rfl, (by show 0 ≤ sizeLine; decide), fun p hp => ?_⟩
  have s2 := s1.trans (same_upd hp (.tup []))
  refine ⟨v, .ref p, ls, [], rfl, hv.same_at s2, .tup (SqT.of upd_same) .nil, ok, ⟨by decide, by intro l hl; cases hl⟩, fun r H3 hf hb s3 => ⟨rfl, ?_⟩⟩
  refine k _ H3 ?_ (s2.trans s3)
  rw [opt_non]
  exact hf.non
end
section
variable {P : Program} {w : World} {K : PySem.W.Frag} {mg : Str → Option Value} {base : Heap}
theorem ok_need_samples (T : Top K mg) : FnOk P w K mg base CX0 4 T.a_need_samples T.d_need_samples ["row"] (sp_need_samples K) := by
  refine T.F_need_samples.ok sc_need_samples (fun vs H Q E h => ?_) (fun cdv A outer s H vs Q E hr h => ?_)
  · obtain ⟨v, xs, rfl, hv, hl, k⟩ := h
    rfl
  obtain ⟨v, xs, rfl, hv, hl, k⟩ := h
  refine ⟨_, (pss_one (ps_if (pt_not (pt_val (pe_call (ok_are_at_most T) (hr.mono (by decide)) (by rfl) T.m_are_at_most T.F_are_at_most.kp T.b_are_at_most .nil pass0 (pa_cons (pv 0) (pa_cons (pe_glob (v := .int 200) rfl T.c_MOST_SAMPLES ⟨_, rfl⟩) pa_nil))))) (pss_one ps_never) pss_nil)), ?_⟩
  refine ⟨_, rfl, v, xs, 200, rfl, hv, by omega, fun H1 s1 => ?_⟩
  rw [decide_eq_true hl]
  exact ⟨_, rfl, iteF (k H1 s1)⟩
end
section
variable {P : Program} {w : World} {K : PySem.W.Frag} {mg : Str → Option Value} {base : Heap}
theorem ok_is_ground (T : Top K mg) : FnOk P w K mg base CX0 4 T.a_is_ground T.d_is_ground ["lengths", "row", "ground"] (sp_is_ground K) := by
  refine T.F_is_ground.ok sc_is_ground (fun vs H Q E h => ?_) (fun cdv A outer s H vs Q E hr h => ?_)
  · obtain ⟨v, r, g, ns, row, gs, rfl, hv, ok, hw, hg, hl, gl, hlong, hrb, hgb, hgd, k⟩ := h
    rfl
  obtain ⟨v, r, g, ns, row, gs, rfl, hv, ok, hw, hg, hl, gl, hlong, hrb, hgb, hgd, k⟩ := h
  refine ⟨_, (pss_cons (ps_if (pt_not (pt_val (pe_call (ok_are_at_most T) (hr.mono (by decide)) (by rfl) T.m_are_at_most T.F_are_at_most.kp T.b_are_at_most .nil pass0 (pa_cons (pv 2) (pa_cons (pe_callB (k_len (K := K)) (by rfl) T.z_len bt_len (pa_cons (pv 1) pa_nil)) pa_nil))))) (pss_one (ps_ret pe_bl)) pss_nil)
      (pss_cons (ps_setLc2 (i := 3) (own := [("length", 4), ("rest", 5)]) (vs1 := [5]) rfl sc_is_ground.nd rfl rfl (sw_true rfl rfl rfl (by decide +kernel)) (k_piT (K := K) (pv 0)) (blkOk_by (own := [("length", 4), ("rest", 5)]) (N := ["lengths", "row", "ground", "sums", "length", "rest", "total"]) (sc := defScope s_is_ground) (by decide +kernel)) (by decide) (fun _ _ _ _ _ => (pg_name (i := 4) sc_is_ground.nd rfl (Or.inl rfl))) (fun _ _ _ _ _ => pts_nil) (fun _ _ _ _ _ => (pi_range1 (by rfl) T.z_range (pa_cons (pv 4) pa_nil))) (fun _ _ _ _ _ => (pg_name (i := 5) sc_is_ground.nd rfl (Or.inl rfl))) (fun _ _ _ _ _ => pts_nil) (fun _ _ _ _ _ => (pe_callB (k_sumT (K := K) rfl) (by rfl) T.z_sum bt_sum (pa_cons (pe_stepT (K := K) (pv 2) (pv 5) (pv 4)) pa_nil))))
      (pss_one (ps_ret (pe_and (pe_callB (k_all (K := K) rfl) (by rfl) T.z_all bt_all (pa_cons (pe_lc (own := [("total", 6)]) rfl sc_is_ground.nd (k_piL (K := K) (pv 3)) (blkOk_by (own := [("total", 6)]) (N := ["lengths", "row", "ground", "sums", "length", "rest", "total"]) (sc := defScope s_is_ground) (by decide +kernel)) (fun _ _ _ _ _ => (pg_name (i := 6) sc_is_ground.nd rfl (Or.inl rfl))) (fun _ _ _ _ _ => pts_nil) (fun _ _ _ _ _ => (pe_cmpR op_eq (pv 6) pe_int (nomark _)))) pa_nil)) (pe_one (pe_cmpR op_ne (pe_call (ok_weighted T) (hr.mono (by decide)) (by rfl) T.m_weighted T.F_weighted.kp T.b_weighted .nil pass0 (pa_cons (pv 2) (pa_cons (pv 1) pa_nil))) pe_int (nomark _)))))))), ?_⟩
  obtain ⟨va, rfl, hT⟩ := hv.ints
  obtain ⟨ra, rfl, hR⟩ := hw.ints
  obtain ⟨ga, rfl, hG⟩ := hg.ints
  have lR : (row.map V.int).length = row.length := List.length_map ..
  have lG : (gs.map V.int).length = gs.length := List.length_map ..
  have lN : ((NN ns).map V.int).length = ns.length := by rw [List.length_map, nn_len]
  obtain ⟨g1, g23⟩ := Bool.and_eq_true_iff.mp hgd
  obtain ⟨g2, g3⟩ := Bool.and_eq_true_iff.mp g23
  have g1 := of_decide_eq_true g1
  have g2 := of_decide_eq_true g2
  have g3 := of_decide_eq_true g3
  refine ⟨_, rfl, _, rfl, ra, _, rfl, .inr hR, .ref ga, gs, row.length, (by rw [List.length_map]; rfl), Dp.ofInts hG, gl, fun H1 s1 => ?_⟩
  rw [decide_eq_true g1]
  refine ⟨_, rfl, iteF ?_⟩
  have hT1 := Same.tk s1 _ _ hT
  refine ⟨_, rfl, va, rfl, ⟨_, hT1⟩, fun D hD => ?_⟩
  refine lc2_out walk_tup (fun i H' => H' D = some (.lst ((List.replicate (ns.take i).sum (0 : Int)).map V.int)) ∧ Same H1 H') ⟨upd_same, same_upd hD _⟩ (fun i H' _ p => Same.tk p.2 _ _ hT1) ?_ ?_
  · rintro i x H2 H3 hi ⟨hA, s2⟩ ⟨rfl, hx⟩
    obtain ⟨c, hc, rfl⟩ := map_int_get hx
    obtain ⟨L, hL, rfl⟩ := nn_get hc
    have mL := List.mem_of_getElem? hL
    obtain ⟨L1, L24⟩ := ok.2 L mL
    have lg := hlong L mL
    have sb : (ns.take i).sum ≤ 24 * 4 := by
      have a := sumL_le (b := 24) (ns := ns.take i) fun n hn => (ok.2 n (List.mem_of_mem_take hn)).2
      have b := ok.1
      rw [List.length_take] at a
      omega
    refine ⟨rfl, ?_⟩
    refine ⟨_, rfl, _, rfl, by omega, by omega, ?_⟩
    refine lc2_in walk_range (fun j H' => H' D = some (.lst ((List.replicate ((ns.take i).sum + j) (0 : Int)).map V.int)) ∧ Same H1 H') ⟨hA, s2⟩ (fun _ _ _ _ => trivial) ?_ ?_
    · rintro j x H5 H6 hj ⟨hA4, g5⟩ ⟨rfl, rfl⟩
      have hU5 : SqT K H6 ga (gs.map V.int) := Same.tk (s1.trans g5) _ _ hG
      have jL : j < L := by omega
      have rs := g2 L mL j jL
      refine ⟨rfl, ?_⟩
      refine ⟨_, rfl, _, rfl, _, rfl, ga, _, j, L, rfl, (by show V.int (0 + ((j : Nat) : Int)) = V.int (j : Nat); rw [Int.zero_add]), rfl, L1, by rw [List.length_map]; omega, hU5, fun z => ?_, fun z p hp => ?_⟩
      · obtain ⟨rfl, rfl⟩ := z
        have e : stepL gs 0 1 = gs := step_one _
        rw [e] at rs
        refine ⟨ga, gs, rfl, hU5, _, hA4, ?_, ?_, ?_⟩
        · rw [List.length_map, List.length_replicate]
          exact small1000 (by omega)
        · rw [upd_same, rs]
          exact rep_moreZ
        · exact fun b o q => by
            rw [upd_ne (ne_of_none q hD)]
            exact g5 _ _ q
      · refine ⟨p, stepL gs j L, rfl, ?_, _, (same_upd hp _) _ _ hA4, ?_, ?_, ?_⟩
        · rw [← stepL_map]
          exact SqT.of upd_same
        · rw [List.length_map, List.length_replicate]
          exact small1000 (by omega)
        · rw [upd_same, rs]
          exact rep_moreZ
        · exact fun b o q => by
            rw [upd_ne (ne_of_none q hD)]
            exact (same_upd hp _) _ _ (g5 _ _ q)
    · rintro H5 ⟨hA4, g5⟩
      refine ⟨?_, g5⟩
      rw [show (ns.take (i + 1)).sum = (ns.take i).sum + ((L : Nat) : Int).toNat by rw [take_more hL, List.sum_append]; simp]
      exact hA4
  rintro H2 ⟨hA, s2⟩
  rw [lN, List.take_length] at hA
  have sb : ns.sum ≤ 24 * 4 := by
    have a := sumL_le (b := 24) (ns := ns) fun n hn => (ok.2 n hn).2
    have b := ok.1
    omega
  refine ⟨_, rfl, D, rfl, ⟨_, SqL.of hA⟩, fun D2 hD2 => ?_⟩
  refine lc_it (walk_list (xs := (List.replicate ns.sum (0 : Int)).map V.int)) (fun i H' => H' D2 = some (.lst ((List.replicate i true).map V.bl)) ∧ Same H2 H') ⟨upd_same, same_upd hD2 _⟩ (fun i H' _ p => SqL.of (p.2 _ _ hA)) ?_ ?_
  · rintro i x H3 H4 hi ⟨hB, s3⟩ ⟨rfl, hx⟩
    rw [List.length_map, List.length_replicate] at hi
    obtain ⟨c, hc, rfl⟩ := map_int_get hx
    have ec : c = 0 := List.eq_of_mem_replicate (List.mem_of_getElem? hc)
    subst ec
    refine ⟨rfl, ?_⟩
    refine ⟨_, rfl, rfl, ?_⟩
    refine ⟨_, hB, by rw [List.length_map, List.length_replicate]; exact small1000 (by omega), ?_, ?_⟩
    · rw [upd_same]
      exact rep_more
    · exact fun b' o q => by
        rw [upd_ne (ne_of_none q hD2)]
        exact s3 _ _ q
  rintro H3 ⟨hB, s3⟩
  refine ⟨D2, _, rfl, SqL.of hB, ?_⟩
  rw [rep_bl]
  have t3 := s1.trans (s2.trans s3)
  refine ⟨_, rfl, iteT ?_⟩
  refine ⟨_, rfl, _, rfl, .tup, .tup, ga, ra, gs, row, rfl, Same.tk t3 _ _ hG, Same.tk t3 _ _ hR, ⟨by omega, by omega, fun x hx y hy => ?_⟩, fun H5 s5 => ⟨rfl, ?_⟩⟩
  · have a := log_of (hgb x hx)
    have b := log_of (hrb y hy)
    omega
  have q := k H5 (t3.trans s5)
  have e : (!decide (V.int (dotz gs row) = V.int 0)) = true := by
    rw [decide_eq_false fun z => g3 (by injection z)]
    rfl
  rw [← e] at q
  exact q
end
section
variable {P : Program} {w : World} {K : PySem.W.Frag} {mg : Str → Option Value} {base : Heap}
theorem ok_are_heard_as (T : Top K mg) : FnOk P w K mg base CX0 4 T.a_are_heard_as T.d_are_heard_as ["lengths", "row", "loops"] (sp_are_heard_as K) := by
  refine T.F_are_heard_as.ok sc_are_heard_as (fun vs H Q E h => ?_) (fun cdv A outer s H vs Q E hr h => ?_)
  · obtain ⟨v, r, g, ns, row, ls, rfl, hv, hw, hg, ok, hl, hlens, hheard, k⟩ := h
    rfl
  obtain ⟨v, r, g, ns, row, ls, rfl, hv, hw, hg, ok, hl, hlens, hheard, k⟩ := h
  refine ⟨_, (pss_cons (ps_try_only (tb := (fun W => (tDrop (tCallS (sp_need_loops K) (WE W) (tCons (tVar 2) tNil))))) (ts := (fun _ _ _ => tRet (tC (.bl false)))) (Wout := fun _ _ _ _ => False) rfl rfl ⟨rfl, by decide, Or.inl T.x_BadLoops.m⟩ takes0 (fun W pn xe tk _ => (pss_one (ps_expr (by exact (pe_callS (okX_need_loops T) (hr.mono (by decide)) (by rfl) T.m_need_loops T.F_need_loops.kp T.b_need_loops (fun σ => passAt tk σ) (by exact (pa_cons (pv 2) pa_nil))))))) (fun a oe cls d pn hz hf => pss_one (ps_ret pe_bl)))
      (pss_cons (ps_if (pt_cmpR (k_neD (K := K) hr.units) (pv 0) (pe_callTy (k_tuple (K := K)) (by rfl) T.z_tuple bt_tuple (pa_cons (pe_lc (own := [("loop", 3)]) rfl sc_are_heard_as.nd (k_piT (K := K) (pv 2)) (blkOk_by (own := [("loop", 3)]) (N := ["lengths", "row", "loops", "loop", "tick"]) (sc := defScope s_are_heard_as) (by decide +kernel)) (fun _ _ _ _ _ => (pg_name (i := 3) sc_are_heard_as.nd rfl (Or.inl rfl))) (fun _ _ _ _ _ => pts_nil) (fun _ _ _ _ _ => (pe_callB (k_len (K := K)) (by rfl) T.z_len bt_len (pa_cons (pv 3) pa_nil)))) pa_nil)) (nomark _)) (pss_one (ps_ret pe_bl)) pss_nil)
      (pss_one (ps_ret (pe_cmpR (k_eqD (K := K) hr.units) (pv 1) (pe_callTy (k_tuple (K := K)) (by rfl) T.z_tuple bt_tuple (pa_cons (pe_lc (own := [("tick", 4)]) rfl sc_are_heard_as.nd (pi_range1 (by rfl) T.z_range (pa_cons (pe_callB (k_len (K := K)) (by rfl) T.z_len bt_len (pa_cons (pv 1) pa_nil)) pa_nil)) (blkOk_by (own := [("tick", 4)]) (N := ["lengths", "row", "loops", "loop", "tick"]) (sc := defScope s_are_heard_as) (by decide +kernel)) (fun _ _ _ _ _ => (pg_name (i := 4) sc_are_heard_as.nd rfl (Or.inl rfl))) (fun _ _ _ _ _ => pts_nil) (fun _ _ _ _ _ => (pe_call (ok_sum_at T) (hr.mono (by decide)) (by rfl) T.m_sum_at T.F_sum_at.kp T.b_sum_at .nil pass0 (pa_cons (pv 2) (pa_cons (pv 4) pa_nil))))) pa_nil)) (nomark _)))))), ?_⟩
  obtain ⟨ok1, ok2⟩ := id ok
  subst hlens
  have hX0 := hg.tuple
  obtain ⟨ga, xs, rfl, hT, hX⟩ := hX0
  have hlen := hX.len
  rw [List.length_map] at hlen
  refine ⟨_, rfl, .ref ga, ls, rfl, hg, ok, fun H1 s1 => ?_⟩
  refine ⟨_, rfl, _, rfl, ga, rfl, ⟨_, Same.tk s1 _ _ hT⟩, fun D hD => ?_⟩
  refine lc_it walk_tup (fun i H' => H' D = some (.lst ((lensI (ls.take i)).map V.int)) ∧ Same H1 H') ⟨upd_same, same_upd hD _⟩ (fun i H' _ p => Same.tk (s1.trans p.2) _ _ hT) ?_ ?_
  · rintro i x H2 H3 hi ⟨hA, s2⟩ ⟨rfl, hx⟩
    obtain ⟨l, b, hl, rfl, hB⟩ := loops_get hX hx
    have hB1 := Same.tk (s1.trans s2) _ _ hB
    refine ⟨rfl, ?_⟩
    refine ⟨_, rfl, b, _, rfl, .inr hB1, ?_⟩
    refine ⟨_, hA, by unfold lensI; rw [List.length_map, List.length_map, List.length_take]; exact small1000 (by omega), ?_, ?_⟩
    · rw [upd_same, take_more hl]
      simp [lensI]
    · exact fun b' o q => by
        rw [upd_ne (ne_of_none q hD)]
        exact s2 _ _ q
  rintro H2 ⟨hA, s2⟩
  rw [hlen, List.take_length, lens_nn] at hA
  refine ⟨D, _, rfl, .inl ⟨SqL.of hA, fun t ht => ?_⟩⟩
  have st := same_upd ht (.tup ((NN (lenN ls)).map V.int))
  have t3 := s1.trans (s2.trans st)
  refine ⟨dInts (NN (lenN ls)), dInts (NN (lenN ls)), hv.same_at t3, Dp.ofInts (SqT.of upd_same), shaped_dInts _, shaped_dInts _, _, rfl, ?_⟩
  rw [eqv_dInts, decide_eq_true rfl]
  refine iteF ?_
  obtain ⟨ra, rfl, hR⟩ := hw.ints
  have lR : (row.map V.int).length = row.length := List.length_map ..
  refine ⟨_, rfl, _, rfl, ra, _, rfl, .inr (Same.tk t3 _ _ hR), _, rfl, by omega, by omega, fun D2 hD2 => ?_⟩
  refine lc_it walk_range (fun i H' => H' D2 = some (.lst ((hrow ls 0 i).map V.int)) ∧ Same (upd H2 t (.tup ((NN (lenN ls)).map V.int))) H') ⟨upd_same, same_upd hD2 _⟩ (fun _ _ _ _ => trivial) ?_ ?_
  · rintro i x H4 H5 hi ⟨hB, s4⟩ ⟨rfl, rfl⟩
    rw [lR] at hi
    have hi : i < row.length := hi
    refine ⟨rfl, ?_⟩
    refine ⟨_, rfl, _, rfl, .ref ga, ls, _, rfl, hg.same_at (t3.trans s4), ok, fun H6 s6 => ?_⟩
    refine ⟨_, s6 _ _ hB, by rw [List.length_map, hrow_len]; exact small1000 (by omega), ?_, ?_⟩
    · rw [upd_same, hrow_more, Int.zero_add]
      simp
    · exact fun b' o q => by
        rw [upd_ne (ne_of_none q hD2)]
        exact s6 _ _ (s4 _ _ q)
  rintro H4 ⟨hB, s4⟩
  rw [lR, show ((row.length : Nat) : Int).toNat = row.length from rfl, ← hheard] at hB
  refine ⟨D2, _, rfl, .inl ⟨SqL.of hB, fun t5 ht5 => ?_⟩⟩
  have s5 := same_upd ht5 (.tup (row.map V.int))
  have t5 := t3.trans (s4.trans s5)
  refine ⟨dInts row, dInts row, hw.same_at t5, Dp.ofInts (SqT.of upd_same), shaped_dInts _, shaped_dInts _, ?_⟩
  rw [eqv_dInts, decide_eq_true rfl]
  exact k _ t5
end
section
variable {P : Program} {w : World} {K : PySem.W.Frag} {mg : Str → Option Value} {base : Heap}
theorem ok_meeting (T : Top K mg) : FnOk P w K mg base CX0 4 T.a_meeting T.d_meeting ["lengths", "places"] (sp_meeting K) := by
  refine T.F_meeting.ok sc_meeting (fun vs H Q E h => ?_) (fun cdv A outer s H vs Q E hr h => ?_)
  · obtain ⟨v, w, ns, ps, rfl, hv, hw, ok, okp, k⟩ := h
    rfl
  obtain ⟨v, w, ns, ps, rfl, hv, hw, ok, okp, k⟩ := h
  refine ⟨_, (pss_cons (ps_expr (pe_call (ok_need_lengths T) (hr.mono (by decide)) (by rfl) T.m_need_lengths T.F_need_lengths.kp T.b_need_lengths .nil pass0 (pa_cons (pv 0) pa_nil)))
      (pss_cons (ps_expr (pe_call (ok_need_places T) (hr.mono (by decide)) (by rfl) T.m_need_places T.F_need_places.kp T.b_need_places .nil pass0 (pa_cons (pv 0) (pa_cons (pv 1) pa_nil))))
      (pss_cons (ps_for PassesOwn.never rfl (pi_range1 (by rfl) T.z_range (pa_cons (pe_callB (k_len (K := K)) (by rfl) T.z_len bt_len (pa_cons (pv 0) pa_nil)) pa_nil)) (pg_name (i := 2) sc_meeting.nd rfl (Or.inl rfl)) (pss_one (ps_for PassesOwn.never rfl (pi_range2 (by rfl) T.z_range (pa_cons (pe_op op_add (pv 2) pe_int) (pa_cons (pe_callB (k_len (K := K)) (by rfl) T.z_len bt_len (pa_cons (pv 0) pa_nil)) pa_nil))) (pg_name (i := 3) sc_meeting.nd rfl (Or.inl rfl)) (pss_one (ps_if (pt_val (pe_call (ok_never_meet T) (hr.mono (by decide)) (by rfl) T.m_never_meet T.F_never_meet.kp T.b_never_meet .nil pass0 (pa_cons (pv 0) (pa_cons (pv 1) (pa_cons (pv 2) (pa_cons (pv 3) pa_nil)))))) (pss_one (ps_ret (pe_tup (pa_cons pe_str (pa_cons (pv 2) (pa_cons (pv 3) pa_nil)))))) pss_nil)))))
      (pss_one (ps_ret (pe_tup (pa_cons pe_str (pa_cons (pe_call (ok_first_meeting T) (hr.mono (by decide)) (by rfl) T.m_first_meeting T.F_first_meeting.kp T.b_first_meeting .nil pass0 (pa_cons (pv 0) (pa_cons (pv 1) pa_nil))) pa_nil)))))))), ?_⟩
  obtain ⟨ok1, ok2⟩ := id ok
  obtain ⟨pl, pb⟩ := id okp
  refine ⟨_, rfl, v, NN ns, rfl, hv, okm_n ok, fun H1 s1 => ?_⟩
  refine ⟨_, rfl, _, rfl, v, w, ns, ps, rfl, hv.same_at s1, hw.same_at s1, ok, okp, fun H2 s2 => ?_⟩
  have t2 := s1.trans s2
  have hv2 := hv.same_at t2
  have hw2 := hw.same_at t2
  obtain ⟨a, rfl, hT⟩ := hv2.ints
  refine ⟨_, rfl, a, _, rfl, .inr hT, _, rfl, by rw [List.length_map, nn_len]; omega, by rw [List.length_map, nn_len]; omega, ?_⟩
  refine for_it walk_range (fun i σ H' => ∃ w2 w3, σ = [some (.ref a), some w, w2, w3] ∧ Same H2 H' ∧ ∀ i' j', i' < i → i' < j' → j' < ns.length → ¬ nvp ns ps i' j') ⟨none, none, rfl, Same.refl _, fun i' j' h => absurd h (Nat.not_lt_zero _)⟩ (fun _ _ _ _ _ => trivial) ?_ ?_
  · rintro i x σ H3 H4 hi ⟨w2, w3, rfl, s3, hn⟩ ⟨rfl, rfl⟩
    have hi' : i < ns.length := by
      rw [List.length_map, nn_len] at hi
      omega
    have hT3 := Same.tk s3 _ _ hT
    refine ⟨_, rfl, _, _, rfl, rfl, _, rfl, a, _, rfl, .inr hT3, _, _, rfl, ⟨by omega, by omega, by rw [List.length_map, nn_len]; omega, by rw [List.length_map, nn_len]; omega⟩, ?_⟩
    refine for_it walk_range (fun j σ H' => ∃ w3, σ = [some (.ref a), some w, some (.int (0 + (i : Nat))), w3] ∧ Same H2 H' ∧ ∀ i' j', (i' < i ∨ i' = i ∧ j' < i + 1 + j) → i' < j' → j' < ns.length → ¬ nvp ns ps i' j') ⟨_, rfl, s3, fun i' j' h h2 h3 => ?_⟩ (fun _ _ _ _ _ => trivial) ?_ ?_
    · rcases h with h | ⟨h, h'⟩
      · exact hn i' j' h h2 h3
      · omega
    · rintro j x σ H5 H6 hj ⟨w3, rfl, s5, hn5⟩ ⟨rfl, rfl⟩
      have hj' : i + 1 + j < ns.length := by
        rw [List.length_map, nn_len] at hj
        omega
      have e1 : (0 : Int) + (i : Nat) = ((i : Nat) : Int) := Int.zero_add _
      have e2 : (0 : Int) + (i : Nat) + 1 + (j : Nat) = ((i + 1 + j : Nat) : Int) := by omega
      refine ⟨_, rfl, _, rfl, _, rfl, _, rfl, .ref a, w, ns, ps, i, i + 1 + j, by show [V.ref a, w, V.int (0 + (i : Nat)), V.int (0 + (i : Nat) + 1 + (j : Nat))] = _; rw [e2, e1], hv2.same_at s5, hw2.same_at s5, ok, okp, hi', hj', fun b hb => ⟨_, rfl, ?_⟩⟩
      cases b with
      | true =>
        refine iteT ⟨_, rfl, _, rfl, (by show 3 ≤ sizeLine; decide), fun p hp => ?_⟩
        refine k (.ref p) (dNever i (i + 1 + j)) _ (.nev (by omega) hj' (hb.mp rfl) fun i' j' q1 q2 q3 => hn5 i' j' q3 q1 q2) (t2.trans (s5.trans (same_upd hp _))) ?_
        refine .tup (SqT.of upd_same) (.cons (.str _) (.cons ?_ (.cons ?_ .nil)))
        · rw [e1]
          exact .int _
        · show Dp K _ (V.int (0 + ((i : Nat) : Int) + 1 + (j : Nat))) _
          rw [e2]
          exact .int _
      | false =>
        refine iteF ⟨_, rfl, s5, fun i' j' h h2 h3 => ?_⟩
        by_cases q : i' < i ∨ i' = i ∧ j' < i + 1 + j
        · exact hn5 i' j' q h2 h3
        · have q1 : i' = i := by omega
          have q2 : j' = i + 1 + j := by omega
          subst q1 q2
          intro z
          have := hb.mpr z
          cases this
    · rintro σ H5 ⟨w3, rfl, s5, hn5⟩
      refine ⟨_, _, rfl, s5, fun i' j' h h2 h3 => ?_⟩
      refine hn5 i' j' ?_ h2 h3
      rw [List.length_map, nn_len]
      omega
  · rintro σ H3 ⟨w2, w3, rfl, s3, hn⟩
    have hn' : ∀ i' j', i' < j' → j' < ns.length → ¬ nvp ns ps i' j' := fun i' j' h2 h3 => hn i' j' (by rw [List.length_map, nn_len]; omega) h2 h3
    obtain ⟨X, rfl⟩ := meet_all ok okp hn'
    have Lp : 0 < lcmN ns := lcmN_pos fun n hn => (ok2 n hn).1
    refine ⟨_, rfl, _, rfl, .ref a, w, ns, X, rfl, hv2.same_at s3, hw2.same_at s3, ok, fun H4 s4 => ⟨(by show 2 ≤ sizeLine; decide), fun p hp => ?_⟩⟩
    refine k (.ref p) (dTick (X % (lcmN ns : Nat))) _ (.tck hn' (Int.emod_nonneg _ (by omega)) (Int.emod_lt_of_pos _ (by omega)) (plc_lcm ns X).symm) (t2.trans (s3.trans (s4.trans (same_upd hp _)))) ?_
    exact .tup (SqT.of upd_same) (.cons (.str _) (.cons (.int _) .nil))
end
section
variable {P : Program} {w : World} {K : PySem.W.Frag} {mg : Str → Option Value} {base : Heap}
theorem ok_check_meeting (T : Top K mg) : FnOk P w K mg base CX0 4 T.a_check_meeting T.d_check_meeting ["lengths", "places", "paper"] (sp_check_meeting K) := by
  refine T.F_check_meeting.ok sc_check_meeting (fun vs H Q E h => ?_) (fun cdv A outer s H vs Q E hr h => ?_)
  · obtain ⟨v, w, u, ns, ps, d, rfl, hv, hw, hu, ok, okp, hd, k⟩ := h
    rfl
  obtain ⟨v, w, u, ns, ps, d, rfl, hv, hw, hu, ok, okp, hd, k⟩ := h
  refine ⟨_, (pss_cons (ps_expr (pe_call (ok_need_lengths T) (hr.mono (by decide)) (by rfl) T.m_need_lengths T.F_need_lengths.kp T.b_need_lengths .nil pass0 (pa_cons (pv 0) pa_nil)))
      (pss_cons (ps_expr (pe_call (ok_need_places T) (hr.mono (by decide)) (by rfl) T.m_need_places T.F_need_places.kp T.b_need_places .nil pass0 (pa_cons (pv 0) (pa_cons (pv 1) pa_nil))))
      (pss_cons (ps_if (PW.pt (pw_and (pt_val (pe_call (ok_begins T) (hr.mono (by decide)) (by rfl) T.m_begins T.F_begins.kp T.b_begins .nil pass0 (pa_cons (pv 2) (pa_cons pe_str (pa_cons pe_int pa_nil))))) (pw_and1 (pt_val (pe_call (ok_are_samples T) (hr.mono (by decide)) (by rfl) T.m_are_samples T.F_are_samples.kp T.b_are_samples .nil pass0 (pa_cons (pe_slice (k_slT (K := K)) (pv 2) (po_some pe_int) po_none) (pa_cons pe_int pa_nil))))))) (pss_cons (ps_if (pt_not (pt_val (pe_call (ok_is_first_meeting T) (hr.mono (by decide)) (by rfl) T.m_is_first_meeting T.F_is_first_meeting.kp T.b_is_first_meeting .nil pass0 (pa_cons (pv 0) (pa_cons (pv 1) (pa_cons (pe_ix (k_ixT (K := K)) (pv 2) pe_int (fun _ _ => rfl)) pa_nil)))))) (pss_one ps_never) pss_nil)
      (pss_one (ps_ret pe_str))) pss_nil)
      (pss_cons (ps_if (PW.pt (pw_and (pt_val (pe_call (ok_begins T) (hr.mono (by decide)) (by rfl) T.m_begins T.F_begins.kp T.b_begins .nil pass0 (pa_cons (pv 2) (pa_cons pe_str (pa_cons pe_int pa_nil))))) (pw_and1 (pt_val (pe_call (ok_are_samples T) (hr.mono (by decide)) (by rfl) T.m_are_samples T.F_are_samples.kp T.b_are_samples .nil pass0 (pa_cons (pe_slice (k_slT (K := K)) (pv 2) (po_some pe_int) po_none) (pa_cons pe_int pa_nil))))))) (pss_cons (ps_asg (pe_slice (k_slT (K := K)) (pv 2) (po_some pe_int) po_none) (pg_tup rfl (pgs_cons (pg_name (i := 3) sc_check_meeting.nd rfl (Or.inl rfl)) (pgs_cons (pg_name (i := 4) sc_check_meeting.nd rfl (Or.inl rfl)) pgs_nil))))
      (pss_cons (ps_if (PW.pt (pw_or (pt_not (pt_chain3 op_le op_lt op_lt pe_int (pv 3) (pv 4) (pe_callB (k_len (K := K)) (by rfl) T.z_len bt_len (pa_cons (pv 0) pa_nil)))) (pw_or1 (pt_not (pt_val (pe_call (ok_never_meet T) (hr.mono (by decide)) (by rfl) T.m_never_meet T.F_never_meet.kp T.b_never_meet .nil pass0 (pa_cons (pv 0) (pa_cons (pv 1) (pa_cons (pv 3) (pa_cons (pv 4) pa_nil)))))))))) (pss_one ps_never) pss_nil)
      (pss_one (ps_ret pe_str)))) pss_nil)
      (pss_one ps_never))))), ?_⟩
  obtain ⟨ok1, ok2⟩ := id ok
  obtain ⟨pl, pb⟩ := id okp
  refine ⟨_, rfl, v, NN ns, rfl, hv, okm_n ok, fun H1 s1 => ?_⟩
  refine ⟨_, rfl, _, rfl, v, w, ns, ps, rfl, hv.same_at s1, hw.same_at s1, ok, okp, fun H2 s2 => ?_⟩
  have t2 := s1.trans s2
  have hv2 := hv.same_at t2
  have hw2 := hw.same_at t2
  have hu2 := hu.same_at t2
  obtain ⟨a, rfl, hT⟩ := hv2.ints
  cases hd with
  | nev hij hj h first =>
    rename_i i j
    refine ⟨_, rfl, u, "never", "tick", [.int i, .int j], 2, rfl, hu2, fun b hb => ⟨_, rfl, ?_⟩⟩
    have hb' : b = false := hb.trans rfl
    subst hb'
    refine iteF (iteF ?_)
    refine ⟨_, rfl, u, "never", "never", [.int i, .int j], 3, rfl, hu2, fun b hb => ⟨_, rfl, ?_⟩⟩
    have hb' : b = true := hb.trans (by rw [decide_eq_true (rfl : V.str "never" = V.str "never")]; rfl)
    subst hb'
    refine iteT ?_
    refine ⟨_, rfl, 1, rfl, ?_⟩
    dsimp only [tC, tNoPart, gName]
    refine rd_cut hu2 fun w3 H3 s3 hw3 => ?_
    have hw3' : Dp K H3 w3 (dInts [((i : Nat) : Int), ((j : Nat) : Int)]) := hw3
    refine ⟨w3, [((i : Nat) : Int), ((j : Nat) : Int)], rfl, hw3', by simp, fun H4 s4 => ⟨_, rfl, iteT ?_⟩⟩
    have t4 := s3.trans s4
    refine ⟨_, rfl, 1, rfl, ?_⟩
    dsimp only [tC, tNoPart, gName]
    refine rd_cut (hu2.same_at t4) fun w5 H5 s5 hw5 => ?_
    have hw5' : Dp K H5 w5 (dInts [((i : Nat) : Int), ((j : Nat) : Int)]) := hw5
    obtain ⟨c5, rfl, hC5⟩ := hw5'.ints
    have t5 := t4.trans s5
    have hT5 := Same.tk t5 _ _ hT
    refine ⟨c5, _, rfl, hC5, rfl, _, _, rfl, _, _, rfl, rfl, ?_⟩
    refine ⟨_, rfl, _, _, rfl, rfl, _, rfl, iteP (by omega) ⟨_, rfl, _, _, rfl, rfl, _, rfl, iteP (by omega) ⟨_, rfl, a, _, rfl, .inr hT5, _, _, rfl, rfl, _, rfl, ?_⟩⟩⟩
    have e5 : ((j : Nat) : Int) < (((NN ns).map V.int).length : Int) := by
      rw [List.length_map, nn_len]
      omega
    show (if (!decide (((j : Nat) : Int) < (((NN ns).map V.int).length : Int))) = true then _ else _)
    rw [decide_eq_true e5]
    refine iteF ?_
    refine ⟨_, rfl, _, rfl, _, rfl, _, rfl, .ref a, w, ns, ps, i, j, rfl, hv2.same_at t5, hw2.same_at t5, ok, okp, by omega, hj, fun b hb => ⟨_, rfl, ?_⟩⟩
    have hb' : b = true := hb.mpr h
    subst hb'
    refine iteF ?_
    exact k _ _ _ rfl (t2.trans t5)
  | tck h h0 h1 h2 =>
    rename_i t
    subst h2
    refine ⟨_, rfl, u, "tick", "tick", [.int t], 2, rfl, hu2, fun b hb => ⟨_, rfl, ?_⟩⟩
    have hb' : b = true := hb.trans (by rw [decide_eq_true (rfl : V.str "tick" = V.str "tick")]; rfl)
    subst hb'
    refine iteT ?_
    refine ⟨_, rfl, 1, rfl, ?_⟩
    dsimp only [tC, tNoPart, gName]
    refine rd_cut hu2 fun w3 H3 s3 hw3 => ?_
    have hw3' : Dp K H3 w3 (dInts [t]) := hw3
    refine ⟨w3, [t], rfl, hw3', by simp, fun H4 s4 => ⟨_, rfl, iteT ?_⟩⟩
    have t4 := s3.trans s4
    obtain ⟨c, xs, rfl, hC, hX⟩ := (hu2.same_at t4).tuple
    cases hX with
    | cons x1 hX2 =>
    cases x1
    cases hX2 with
    | cons x2 hX3 =>
    cases x2
    cases hX3
    refine ⟨_, rfl, _, rfl, _, rfl, c, _, 1, _, rfl, rfl, hC, at_of (j := 1) rfl rfl, .ref a, w, ns, t, rfl, hv2.same_at t4, hw2.same_at t4, ok, h0, h1, fun H5 s5 => ⟨_, rfl, ?_⟩⟩
    refine iteF ?_
    exact k _ _ _ rfl (t2.trans (t4.trans s5))
end
section
variable {P : Program} {w : World} {K : PySem.W.Frag} {mg : Str → Option Value} {base : Heap}
theorem ok_check_fit (T : Top K mg) : FnOk P w K mg base CX0 5 T.a_check_fit T.d_check_fit ["lengths", "row", "paper"] (sp_check_fit K) := by
  refine T.F_check_fit.ok sc_check_fit (fun vs H Q E h => ?_) (fun cdv A outer s H vs Q E hr h => ?_)
  · obtain ⟨v, r, p, ns, row, wd, d, rfl, hv, ok, hw, hp, hl, hb, hd, k⟩ := h
    rfl
  obtain ⟨v, r, p, ns, row, wd, d, rfl, hv, ok, hw, hp, hl, hb, hd, k⟩ := h
  refine ⟨_, (pss_cons (ps_expr (pe_call (ok_need_few T) (hr.mono (by decide)) (by rfl) T.m_need_few T.F_need_few.kp T.b_need_few .nil pass0 (pa_cons (pv 0) pa_nil)))
      (pss_cons (ps_expr (pe_call (ok_need_samples T) (hr.mono (by decide)) (by rfl) T.m_need_samples T.F_need_samples.kp T.b_need_samples .nil pass0 (pa_cons (pv 1) pa_nil)))
      (pss_cons (ps_if (pt_val (pe_call (ok_begins T) (hr.mono (by decide)) (by rfl) T.m_begins T.F_begins.kp T.b_begins .nil pass0 (pa_cons (pv 2) (pa_cons pe_str (pa_cons pe_int pa_nil))))) (pss_cons (ps_if (pt_not (pt_val (pe_call (ok_are_heard_as T) (hr.mono (by decide)) (by rfl) T.m_are_heard_as T.F_are_heard_as.kp T.b_are_heard_as .nil pass0 (pa_cons (pv 0) (pa_cons (pv 1) (pa_cons (pe_ix (k_ixT (K := K)) (pv 2) pe_int (fun _ _ => rfl)) pa_nil)))))) (pss_one ps_never) pss_nil)
      (pss_one (ps_ret pe_str))) pss_nil)
      (pss_cons (ps_if (pt_val (pe_call (ok_begins T) (hr.mono (by decide)) (by rfl) T.m_begins T.F_begins.kp T.b_begins .nil pass0 (pa_cons (pv 2) (pa_cons pe_str (pa_cons pe_int pa_nil))))) (pss_cons (ps_if (pt_not (pt_val (pe_call (ok_is_ground T) (hr.mono (by decide)) (by rfl) T.m_is_ground T.F_is_ground.kp T.b_is_ground .nil pass0 (pa_cons (pv 0) (pa_cons (pv 1) (pa_cons (pe_ix (k_ixT (K := K)) (pv 2) pe_int (fun _ _ => rfl)) pa_nil)))))) (pss_one ps_never) pss_nil)
      (pss_one (ps_ret pe_str))) pss_nil)
      (pss_one ps_never))))), ?_⟩
  refine ⟨_, rfl, v, ns, rfl, hv, ok, fun H1 s1 => ?_⟩
  refine ⟨_, rfl, r, row, rfl, hw.same_at s1, hl, fun H2 s2 => ?_⟩
  have t2 := s1.trans s2
  cases hd with
  | @loops ls hlens hheard =>
    refine ⟨_, rfl, p, "loops", "loops", [dLoops ls], 2, rfl, hp.same_at t2, fun b hb => ?_⟩
    have hb : b = true := hb.trans beg_loops
    subst hb
    refine ⟨_, rfl, iteT ?_⟩
    have okl := okl_of ok hlens
    obtain ⟨pa, xs, rfl, hPT, hPX⟩ := hp.tuple
    cases hPX with
    | cons h1 h2 =>
    cases h2 with
    | cons h3 h4 =>
    cases h4
    cases h1
    refine ⟨_, rfl, _, rfl, _, rfl, pa, _, _, _, rfl, rfl, Same.tk t2 _ _ hPT, at_one, v, r, _, ns, row, ls, rfl, hv.same_at t2, hw.same_at t2, h3.same_at t2, okl, hl, hlens, hheard, fun H3 s3 => ⟨_, rfl, iteF ?_⟩⟩
    exact k _ (t2.trans s3)
  | @none gs hgd hlong gl hgb =>
    refine ⟨_, rfl, p, "none", "loops", [dInts gs], 2, rfl, hp.same_at t2, fun b hbb => ?_⟩
    have hbb : b = false := hbb.trans beg_other
    subst hbb
    refine ⟨_, rfl, iteF ?_⟩
    refine ⟨_, rfl, p, "none", "none", [dInts gs], 2, rfl, hp.same_at t2, fun b hbb => ?_⟩
    have hbb : b = true := hbb.trans beg_none
    subst hbb
    refine ⟨_, rfl, iteT ?_⟩
    obtain ⟨pa, xs, rfl, hPT, hPX⟩ := hp.tuple
    cases hPX with
    | cons h1 h2 =>
    cases h2 with
    | cons h3 h4 =>
    cases h4
    cases h1
    refine ⟨_, rfl, _, rfl, _, rfl, pa, _, _, _, rfl, rfl, Same.tk t2 _ _ hPT, at_one, v, r, _, ns, row, gs, rfl, hv.same_at t2, ok, hw.same_at t2, h3.same_at t2, hl, gl, hlong, hb, hgb, hgd, fun H3 s3 => ⟨_, rfl, iteF ?_⟩⟩
    exact k _ (t2.trans s3)
end
section
variable {P : Program} {w : World} {K : PySem.W.Frag} {mg : Str → Option Value} {base : Heap}
theorem ok__law_loops_right (T : Top K mg) : FnG P w K mg base 5 T.a__law_loops_right T.d__law_loops_right ["g", "h", "t"] (sp__law_loops_right K) := by
  refine T.F__law_loops_right.okG sc__law_loops_right (fun vs H Q E h => ?_) (fun cdv A outer s H vs Q E hr hG h => ?_)
  · obtain ⟨v, w, ls, ms, t, rfl, hv, hw, ok, okm, hb, t0, t1, k⟩ := h
    rfl
  obtain ⟨v, w, ls, ms, t, rfl, hv, hw, ok, okm, hb, t0, t1, k⟩ := h
  refine ⟨_, (pss_cons (ps_set (i := 3) sc__law_loops_right.nd rfl (Or.inl rfl) (pe_lst (pa_cons (pe_callK0 (ok_need_loops T) (hr.mono (by decide)) (by rfl) T.m_need_loops T.F_need_loops.kp (kb_need_loops_thing T) pass0 (pk_cons (pv 0) pk_nil)) (pa_cons (pe_callK0 (ok_lengths_of T) (hr.mono (by decide)) (by rfl) T.m_lengths_of T.F_lengths_of.kp (kb_lengths_of_loops T) pass0 (pk_cons (pv 0) pk_nil)) (pa_cons (pe_callK0 (ok_heard T) (hr.mono (by decide)) (by rfl) T.m_heard T.F_heard.kp (kb_heard_tick_loops T) pass0 (pk_cons (pv 2) (pk_cons (pv 0) pk_nil))) (pa_cons (pe_callK0 (ok_heard_row T) (hr.mono (by decide)) (by rfl) T.m_heard_row T.F_heard_row.kp (kb_heard_row_many_tick_loops T) pass0 (pk_cons pe_int (pk_cons (pv 2) (pk_cons (pv 0) pk_nil)))) pa_nil))))))
      (pss_cons (ps_set (i := 4) sc__law_loops_right.nd rfl (Or.inl rfl) (pe_lst (pa_cons (pe_call (ok_need_loops T) (hr.mono (by decide)) (by rfl) T.m_need_loops T.F_need_loops.kp T.b_need_loops .nil pass0 (pa_cons (pv 0) pa_nil)) (pa_cons (pe_call (ok_lengths_of T) (hr.mono (by decide)) (by rfl) T.m_lengths_of T.F_lengths_of.kp T.b_lengths_of .nil pass0 (pa_cons (pv 0) pa_nil)) (pa_cons (pe_call (ok_heard T) (hr.mono (by decide)) (by rfl) T.m_heard T.F_heard.kp T.b_heard .nil pass0 (pa_cons (pv 0) (pa_cons (pv 2) pa_nil))) (pa_cons (pe_call (ok_heard_row T) (hr.mono (by decide)) (by rfl) T.m_heard_row T.F_heard_row.kp T.b_heard_row .nil pass0 (pa_cons (pv 0) (pa_cons (pv 2) (pa_cons pe_int pa_nil)))) pa_nil))))))
      (pss_cons (ps_set (i := 3) sc__law_loops_right.nd rfl (Or.inl rfl) (pe_op op_cat (pv 3) (pe_lst (pa_cons (pe_callK0 (ok_later T) (hr.mono (by decide)) (by rfl) T.m_later T.F_later.kp (kb_later_ticks_loops T) pass0 (pk_cons (pv 2) (pk_cons (pv 0) pk_nil))) (pa_cons (pe_callK0 (ok_first_apart T) (hr.mono (by decide)) (by rfl) T.m_first_apart T.F_first_apart.kp (kb_first_apart_other_one T) pass0 (pk_cons (pv 1) (pk_cons (pv 0) pk_nil))) (pa_cons (pe_callK0 (ok_period T) (hr.mono (by decide)) (by rfl) T.m_period T.F_period.kp (kb_period_loops T) pass0 (pk_cons (pv 0) pk_nil)) (pa_cons (pe_callK0 (ok_silent T) (hr.mono (by decide)) (by rfl) T.m_silent T.F_silent.kp (kb_silent_loops T) pass0 (pk_cons (pv 0) pk_nil)) pa_nil)))))))
      (pss_one (ps_ret (pe_cmpR op_eq (pe_callB (k_repr (K := K) hr.units hG) (by rfl) T.z_repr bt_repr (pa_cons (pv 3) pa_nil)) (pe_callB (k_repr (K := K) hr.units hG) (by rfl) T.z_repr bt_repr (pa_cons (pe_op op_cat (pv 4) (pe_lst (pa_cons (pe_call (ok_later T) (hr.mono (by decide)) (by rfl) T.m_later T.F_later.kp T.b_later .nil pass0 (pa_cons (pv 0) (pa_cons (pv 2) pa_nil))) (pa_cons (pe_call (ok_first_apart T) (hr.mono (by decide)) (by rfl) T.m_first_apart T.F_first_apart.kp T.b_first_apart .nil pass0 (pa_cons (pv 0) (pa_cons (pv 1) pa_nil))) (pa_cons (pe_call (ok_period T) (hr.mono (by decide)) (by rfl) T.m_period T.F_period.kp T.b_period .nil pass0 (pa_cons (pv 0) pa_nil)) (pa_cons (pe_call (ok_silent T) (hr.mono (by decide)) (by rfl) T.m_silent T.F_silent.kp T.b_silent .nil pass0 (pa_cons (pv 0) pa_nil)) pa_nil)))))) pa_nil)) (nomark _))))))), ?_⟩
  refine ⟨_, rfl, rfl, rfl, v, ls, rfl, hv, ok, fun H1 s1 => ?_⟩
  refine ⟨_, rfl, rfl, rfl, v, ls, rfl, hv.same_at s1, ok, fun w2 H2 s2 hw2 => ?_⟩
  have t2 := s1.trans s2
  refine ⟨_, rfl, _, rfl, rfl, rfl, v, ls, t, rfl, hv.same_at t2, ok, t0, t1, fun H3 s3 => ?_⟩
  have t3 := t2.trans s3
  refine ⟨_, rfl, _, rfl, rfl, rfl, v, ls, t, 5, rfl, hv.same_at t3, ok, t0, t1, by decide, by decide, fun w4 H4 s4 hw4 => ⟨(by show 4 ≤ sizeLine; decide), fun p5 hp5 => ?_⟩⟩
  have s5 := same_upd hp5 (.lst [v, w2, .int (hd ls t), w4])
  have t5 := t3.trans (s4.trans s5)
  have D5 : DpAll K (upd H4 p5 (.lst [v, w2, .int (hd ls t), w4])) [v, w2, .int (hd ls t), w4] [dLoops ls, dInts (lensI ls), .int (hd ls t), dInts (hrow ls t 5)] :=
    .cons (hv.same_at t5) (.cons (hw2.same_at (s3.trans (s4.trans s5))) (.cons (.int _) (.cons (hw4.same_at s5) .nil)))
  have L5 : upd H4 p5 (.lst [v, w2, .int (hd ls t), w4]) p5 = some (.lst [v, w2, .int (hd ls t), w4]) := upd_same
  generalize upd H4 p5 (.lst [v, w2, .int (hd ls t), w4]) = H5 at *
  refine ⟨_, rfl, v, ls, rfl, hv.same_at t5, ok, fun H6 s6 => ?_⟩
  refine ⟨_, rfl, v, ls, rfl, hv.same_at (t5.trans s6), ok, fun w7 H7 s7 hw7 => ?_⟩
  have t7 := s6.trans s7
  refine ⟨_, rfl, _, rfl, v, ls, t, rfl, hv.same_at (t5.trans t7), ok, t0, t1, fun H8 s8 => ?_⟩
  have t8 := t7.trans s8
  refine ⟨_, rfl, _, rfl, v, ls, t, 5, rfl, hv.same_at (t5.trans t8), ok, t0, t1, by decide, by decide, fun w9 H9 s9 hw9 => ⟨(by show 4 ≤ sizeLine; decide), fun p10 hp10 => ?_⟩⟩
  have s10 := same_upd hp10 (.lst [v, w7, .int (hd ls t), w9])
  have t10 := t8.trans (s9.trans s10)
  have D10 : DpAll K (upd H9 p10 (.lst [v, w7, .int (hd ls t), w9])) [v, w7, .int (hd ls t), w9] [dLoops ls, dInts (lensI ls), .int (hd ls t), dInts (hrow ls t 5)] :=
    .cons (hv.same_at (t5.trans t10)) (.cons (hw7.same_at (s8.trans (s9.trans s10))) (.cons (.int _) (.cons (hw9.same_at s10) .nil)))
  have L10 : upd H9 p10 (.lst [v, w7, .int (hd ls t), w9]) p10 = some (.lst [v, w7, .int (hd ls t), w9]) := upd_same
  generalize upd H9 p10 (.lst [v, w7, .int (hd ls t), w9]) = H10 at *
  have D5 := DpAll.same t10 _ _ D5
  have L5 := t10 _ _ L5
  have u10 := t5.trans t10
  have hv10 := hv.same_at u10
  have hw10 := hw.same_at u10
  refine ⟨_, rfl, ?_⟩
  refine ⟨_, rfl, _, rfl, rfl, rfl, v, ls, t, rfl, hv10, ok, t0, t1, fun w11 H11 s11 hw11 => ?_⟩
  refine ⟨_, rfl, _, rfl, rfl, rfl, v, w, ls, ms, rfl, hv10.same_at s11, hw10.same_at s11, ok, okm, fun r12 H12 hr12 b12 s12 => ?_⟩
  have t12 := s11.trans s12
  refine ⟨_, rfl, rfl, rfl, v, ls, rfl, hv10.same_at t12, ok, fun P13 H13 hP13 b13 s13 => ?_⟩
  have t13 := t12.trans s13
  refine ⟨_, rfl, rfl, rfl, v, ls, rfl, hv10.same_at t13, ok, fun c14 H14 hc14 s14 => ⟨(by show 4 ≤ sizeLine; decide), fun p15 hp15 => ?_⟩⟩
  have s15 := same_upd hp15 (.lst [w11, optV r12, .int (P13 : Nat), .bl c14])
  have t15 := t13.trans (s14.trans s15)
  refine ⟨p5, p15, _, _, rfl, rfl, t15 _ _ L5, upd_same, (by show 4 + 4 ≤ sizeLine; decide), fun p16 hp16 => ?_⟩
  have s16 := same_upd hp16 (.lst ([v, w2, .int (hd ls t), w4] ++ [w11, optV r12, .int (P13 : Nat), .bl c14]))
  have t16 := t15.trans s16
  have tw := tells8 (t := t) (c := c14) hb ok b12 b13
  refine ⟨_, rfl, _, .list (data8 ls t r12 P13 c14), rfl, .lst (SqL.of upd_same) ((DpAll.same t16 _ _ D5).app (.cons (hw11.same_at (s12.trans (s13.trans (s14.trans (s15.trans s16))))) (.cons (opt_dp _) (.cons (.int _) (.cons (.bl _) .nil))))), tw, ?_⟩
  have hv16 := hv10.same_at t16
  have hw16 := hw10.same_at t16
  have L16 := t16 _ _ L10
  have D16 := DpAll.same t16 _ _ D10
  generalize upd (upd H14 p15 (.lst [w11, optV r12, .int (P13 : Nat), .bl c14])) p16 (.lst ([v, w2, .int (hd ls t), w4] ++ [w11, optV r12, .int (P13 : Nat), .bl c14])) = H16 at *
  have u16 := u10.trans t16
  refine ⟨_, rfl, ?_⟩
  refine ⟨_, rfl, _, rfl, v, ls, t, rfl, hv16, ok, t0, t1, fun w17 H17 s17 hw17 => ?_⟩
  refine ⟨_, rfl, _, rfl, v, w, ls, ms, rfl, hv16.same_at s17, hw16.same_at s17, ok, okm, fun r18 H18 hr18 b18 s18 => ?_⟩
  have t18 := s17.trans s18
  refine ⟨_, rfl, v, ls, rfl, hv16.same_at t18, ok, fun P19 H19 hP19 b19 s19 => ?_⟩
  have t19 := t18.trans s19
  refine ⟨_, rfl, v, ls, rfl, hv16.same_at t19, ok, fun c20 H20 hc20 s20 => ⟨(by show 4 ≤ sizeLine; decide), fun p21 hp21 => ?_⟩⟩
  have er : r18 = r12 := hr18.one hr12
  have eP : P19 = P13 := hP19.one hP13
  have ec : c20 = c14 := by rw [Bool.eq_iff_iff, hc20, hc14]
  subst er eP ec
  have s21 := same_upd hp21 (.lst [w17, optV r18, .int (P19 : Nat), .bl c20])
  have t21 := t19.trans (s20.trans s21)
  refine ⟨p10, p21, _, _, rfl, rfl, t21 _ _ L16, upd_same, (by show 4 + 4 ≤ sizeLine; decide), fun p22 hp22 => ?_⟩
  have s22 := same_upd hp22 (.lst ([v, w7, .int (hd ls t), w9] ++ [w17, optV r18, .int (P19 : Nat), .bl c20]))
  have t22 := t21.trans s22
  refine ⟨_, .list (data8 ls t r18 P19 c20), rfl, .lst (SqL.of upd_same) ((DpAll.same t22 _ _ D16).app (.cons (hw17.same_at (s18.trans (s19.trans (s20.trans (s21.trans s22))))) (.cons (opt_dp _) (.cons (.int _) (.cons (.bl _) .nil))))), tw, rfl, ?_⟩
  rw [decide_eq_true rfl]
  exact k _ (u16.trans t22)
end
section
variable {P : Program} {w : World} {K : PySem.W.Frag} {mg : Str → Option Value} {base : Heap}
theorem ok_deceiver_of_0 (T : Top K mg) : FnOk P w K mg base CX0 4 T.a_deceiver_of T.d_deceiver_of ["lengths"] (sp_dec 0 K) := T.F_deceiver_of.ok sc_deceiver_of (fun _ _ _ _ h => (dec_none h).elim) (fun _ _ _ _ _ _ _ _ _ h => (dec_none h).elim)
end
section
variable {P : Program} {w : World} {K : PySem.W.Frag} {mg : Str → Option Value} {base : Heap}
theorem ok_loops_heard_as_0 (T : Top K mg) : FnOk P w K mg base CX0 5 T.a_loops_heard_as T.d_loops_heard_as ["lengths", "row"] (sp_lha 0 K) := by
  refine T.F_loops_heard_as.ok sc_loops_heard_as (fun vs H Q E h => ?_) (fun cdv A outer s H vs Q E hr h => ?_)
  · obtain ⟨v, r, ns, row, rfl, hv, ok, hk, hw, hrl, hb, k⟩ := h
    rfl
  obtain ⟨v, r, ns, row, rfl, hv, ok, hk, hw, hrl, hb, k⟩ := h
  refine ⟨_, (pss_cons (ps_if (pt_cmpR op_eq (pe_callB (k_len (K := K)) (by rfl) T.z_len bt_len (pa_cons (pv 0) pa_nil)) pe_int (nomark _)) (pss_one (ps_ret (pe_tup pa_nil))) pss_nil)
      (pss_cons (ps_set (i := 2) sc_loops_heard_as.nd rfl (Or.inr rfl) (pe_call (ok_weights T) (hr.mono (by decide)) (by rfl) T.m_weights T.F_weights.kp T.b_weights .nil pass0 (pa_cons (pv 0) pa_nil)))
      (pss_cons (ps_set (i := 3) sc_loops_heard_as.nd rfl (Or.inr rfl) (pe_callB (k_len (K := K)) (by rfl) T.z_len bt_len (pa_cons (pv 1) pa_nil)))
      (pss_cons (ps_set (i := 4) sc_loops_heard_as.nd rfl (Or.inr rfl) (pe_lc (own := [("tick", 5)]) rfl sc_loops_heard_as.nd (pi_range1 (by rfl) T.z_range (pa_cons (pv 3) pa_nil)) (blkOk_by (own := [("tick", 5)]) (N := ["lengths", "row", "known", "many", "factors", "tick", "loop"]) (sc := defScope s_loops_heard_as) (by decide +kernel)) (fun _ _ _ _ _ => (pg_name (i := 5) sc_loops_heard_as.nd rfl (Or.inl rfl))) (fun _ _ _ _ _ => pts_nil) (fun _ _ _ _ _ => (pe_call (ok_weighted T) (hr.mono (by decide)) (by rfl) T.m_weighted T.F_weighted.kp T.b_weighted .nil pass0 (pa_cons (pe_slice (k_slT (K := K)) (pv 2) (po_some (pe_op op_sub (pv 3) (pv 5))) po_none) (pa_cons (pv 1) pa_nil))))))
      (pss_one (ps_ret (pe_callTy (k_tuple (K := K)) (by rfl) T.z_tuple bt_tuple (pa_cons (pe_lc (own := [("loop", 6)]) rfl sc_loops_heard_as.nd (k_piT (K := K) (pe_call (ok_deceiver_of_0 T) (hr.mono (by decide)) (by rfl) T.m_deceiver_of T.F_deceiver_of.kp T.b_deceiver_of .nil pass0 (pa_cons (pv 0) pa_nil))) (blkOk_by (own := [("loop", 6)]) (N := ["lengths", "row", "known", "many", "factors", "tick", "loop"]) (sc := defScope s_loops_heard_as) (by decide +kernel)) (fun _ _ _ _ _ => (pg_name (i := 6) sc_loops_heard_as.nd rfl (Or.inl rfl))) (fun _ _ _ _ _ => pts_nil) (fun _ _ _ _ _ => (pe_call (ok_mixed T) (hr.mono (by decide)) (by rfl) T.m_mixed T.F_mixed.kp T.b_mixed .nil pass0 (pa_cons (pv 6) (pa_cons (pv 4) pa_nil))))) pa_nil)))))))), ?_⟩
  obtain ⟨va, rfl, hT⟩ := hv.ints
  obtain ⟨ra, rfl, hR⟩ := hw.ints
  have lN : ((NN ns).map V.int).length = ns.length := by rw [List.length_map, nn_len]
  have lR : (row.map V.int).length = row.length := List.length_map ..
  refine ⟨_, rfl, va, _, rfl, .inr hT, rfl, _, rfl, ?_⟩
  rw [lN]
  refine ite2 (fun cc => ?_) (fun cc => ?_)
  · have e0 : ns = [] := by
      have cc := of_decide_eq_true cc
      injection cc with cc
      exact List.length_eq_zero_iff.mp (by omega)
    subst e0
    refine ⟨(by show 0 ≤ sizeLine; decide), fun p hp => ?_⟩
    exact k _ _ (same_upd hp _) (.tup (SqT.of upd_same) .nil)
  have ne : ns ≠ [] := fun z => by
    rw [z] at cc
    exact absurd cc (by decide)
  refine ⟨_, rfl, .ref va, ns, rfl, Dp.ofInts hT, ok, fun wv H1 s1 hwv => ?_⟩
  refine ⟨_, rfl, ra, _, rfl, .inr (Same.tk s1 _ _ hR), ?_⟩
  rw [lR]
  have d384 := due_384 ok
  have rl : row.length ≤ 384 := by rw [hrl]; exact d384
  have wll := wl_len ok
  refine ⟨_, rfl, _, rfl, by omega, by omega, fun D hD => ?_⟩
  refine lc_it walk_range (fun i H' => H' D = some (.lst (((facs (wl ns) row).take i).map V.int)) ∧ Same H1 H') ⟨upd_same, same_upd hD _⟩ (fun _ _ _ _ => trivial) ?_ ?_
  · rintro i x H2 H3 hi ⟨hA, s2⟩ ⟨rfl, rfl⟩
    have hi : i < row.length := by omega
    refine ⟨rfl, ?_⟩
    refine ⟨_, rfl, _, rfl, _, rfl, _, _, rfl, rfl, ?_⟩
    dsimp only [tNoPart]
    refine ⟨_, rfl, rd_cut (hwv.same_at s2) fun w4 H4 s4 hw4 => ?_⟩
    have e : ((row.length : Nat) : Int) - (0 + (i : Nat)) = ((row.length - i : Nat) : Int) := by omega
    have hw4 : Dp K H4 w4 (dInts ((wl ns).drop (row.length - i))) := by
      have q := hw4
      rw [e, cutD_fromN, ← List.map_drop] at q
      exact q
    obtain ⟨a4, rfl, hT4⟩ := hw4.ints
    have t4 := s1.trans (s2.trans s4)
    refine ⟨_, rfl, .tup, .tup, a4, ra, (wl ns).drop (row.length - i), row, rfl, hT4, Same.tk t4 _ _ hR, ⟨by rw [List.length_drop]; omega, by omega, fun x hx y hy => ?_⟩, fun H5 s5 => ?_⟩
    · have p := log_of (wl_small ns x (List.mem_of_mem_drop hx))
      have q := log_of (hb y hy)
      omega
    have gi : (facs (wl ns) row)[i]? = some (dotz ((wl ns).drop (row.length - i)) row) := tab_get hi
    refine ⟨_, (s4.trans s5) _ _ hA, ?_, ?_, ?_⟩
    · rw [List.length_map, List.length_take]
      exact small1000 (by omega)
    · rw [upd_same, take_more gi, List.map_append]
      rfl
    · exact fun b o q => by
        rw [upd_ne (ne_of_none q hD)]
        exact s5 _ _ (s4 _ _ (s2 _ _ q))
  rintro H2 ⟨hA, s2⟩
  rw [show (((row.length : Nat) : Int)).toNat = (facs (wl ns) row).length by rw [facs_len]; rfl, List.take_length] at hA
  have t2 := s1.trans s2
  refine ⟨_, rfl, .ref va, ns, rfl, Dp.ofInts (Same.tk t2 _ _ hT), ok, hk, ne, fun wd H7 s7 hwd => ?_⟩
  obtain ⟨da, xs, rfl, hTd, hXd⟩ := hwd.tuple
  have dl := (dec_main ok).1
  have xl := hXd.len
  rw [List.length_map] at xl
  have dlen : (dec ns).length = ns.length := by
    have q := congrArg List.length dl
    unfold lenN at q
    rw [List.length_map] at q
    exact q
  have n6 := ok.1
  refine ⟨da, rfl, ⟨_, hTd⟩, fun D3 hD3 => ?_⟩
  refine lc_it walk_tup (fun i H' => (∃ ys, H' D3 = some (.lst ys) ∧ DpAll K H' ys ((((dec ns).take i).map fun l => mixL l (facs (wl ns) row)).map dInts)) ∧ Same H7 H') ⟨⟨_, upd_same, .nil⟩, same_upd hD3 _⟩ (fun i H' _ p => Same.tk p.2 _ _ hTd) ?_ ?_
  · rintro i x H8 H9 hi ⟨⟨ys, hB, hY⟩, s8⟩ ⟨rfl, hx⟩
    obtain ⟨l, b, hl, rfl, hBl⟩ := loops_get hXd hx
    have lm := List.mem_of_getElem? hl
    have lin : l.length ∈ ns := by
      have q := List.mem_map_of_mem (f := List.length) lm
      have e : (dec ns).map List.length = ns := dl
      rw [e] at q
      exact q
    have lb := ok.2 _ lin
    refine ⟨rfl, ?_⟩
    refine ⟨_, rfl, _, rfl, .ref b, D, l, _, rfl, Dp.ofInts (Same.tk s8 _ _ hBl), s8 _ _ (s7 _ _ hA), lb.1, lb.2, by rw [facs_len]; omega, fun z hz => ?_, fun z hz => ?_, fun w H10 s10 hw10 => ?_⟩
    · exact Nat.le_trans (facs_small (by omega) hb z hz) (Nat.pow_le_pow_right (by decide) (by decide))
    · exact Nat.le_trans (dec_small' ok l lm z hz) (Nat.pow_le_pow_right (by decide) (by decide))
    have hyl := hY.len
    rw [List.length_map, List.length_map, List.length_take] at hyl
    refine ⟨ys, s10 _ _ hB, small1000 (by omega), ⟨ys ++ [w], upd_same, ?_⟩, ?_⟩
    · rw [take_more hl, List.map_append, List.map_append]
      have tk := (Same.tk (K := K) s10).trans (tk_upd (o := .lst (ys ++ [w])) (s10 _ _ hB))
      exact (DpAll.keepT tk _ _ (to_loops _) hY).app (.cons (Dp.keepT (tk_upd (s10 _ _ hB)) _ _ (to_ints _) hw10) .nil)
    · exact fun b' o q => by
        rw [upd_ne (ne_of_none q hD3)]
        exact s10 _ _ (s8 _ _ q)
  rintro H8 ⟨⟨ys, hB, hY⟩, s8⟩
  rw [xl, List.take_length] at hY
  refine ⟨D3, _, rfl, .inl ⟨SqL.of hB, fun t ht => ?_⟩⟩
  have s9 := same_upd ht (.tup ys)
  exact k _ _ (t2.trans (s7.trans (s8.trans s9))) (.tup (SqT.of upd_same) (DpAll.same s9 _ _ hY))
end
section
variable {P : Program} {w : World} {K : PySem.W.Frag} {mg : Str → Option Value} {base : Heap}
theorem ok_deceiver_of_1 (T : Top K mg) : FnOk P w K mg base CX0 6 T.a_deceiver_of T.d_deceiver_of ["lengths"] (sp_dec 1 K) := by
  refine T.F_deceiver_of.ok sc_deceiver_of (fun vs H Q E h => ?_) (fun cdv A outer s H vs Q E hr h => ?_)
  · obtain ⟨v, ns, rfl, hv, ok, hk, hne, k⟩ := h
    rfl
  obtain ⟨v, ns, rfl, hv, ok, hk, hne, k⟩ := h
  refine ⟨_, (pss_cons (ps_set (i := 1) sc_deceiver_of.nd rfl (Or.inr rfl) (pe_call (ok_last_loop T) (hr.mono (by decide)) (by rfl) T.m_last_loop T.F_last_loop.kp T.b_last_loop .nil pass0 (pa_cons (pv 0) pa_nil)))
      (pss_cons (ps_set (i := 2) sc_deceiver_of.nd rfl (Or.inl rfl) (pe_slice (k_slT (K := K)) (pv 0) po_none (po_some (pe_un un_neg pe_int))))
      (pss_cons (ps_set (i := 3) sc_deceiver_of.nd rfl (Or.inr rfl) (pe_op op_sub (pe_call (ok_span T) (hr.mono (by decide)) (by rfl) T.m_span T.F_span.kp T.b_span .nil pass0 (pa_cons (pv 0) pa_nil)) pe_int))
      (pss_cons (ps_setLc (i := 4) (own := [("tick", 5)]) rfl sc_deceiver_of.nd rfl rfl (sw_true rfl rfl rfl (by decide +kernel)) (pi_range1 (by rfl) T.z_range (pa_cons (pe_call (ok_span T) (hr.mono (by decide)) (by rfl) T.m_span T.F_span.kp T.b_span .nil pass0 (pa_cons (pv 2) pa_nil)) pa_nil)) (blkOk_by (own := [("tick", 5)]) (N := ["lengths", "loop", "others", "last", "left", "tick"]) (sc := defScope s_deceiver_of) (by decide +kernel)) (fun _ _ _ _ _ => (pg_name (i := 5) sc_deceiver_of.nd rfl (Or.inl rfl))) (fun _ _ _ _ _ => pts_nil) (fun _ _ _ _ _ => (pe_op op_sub (pe_callTy call_int1 (by rfl) T.z_int bt_int (pa_cons (pe_cmpR op_eq (pv 5) (pv 3) (nomark _)) pa_nil)) (pe_ix (k_ixT (K := K)) (pv 1) (pe_op op_modN (pv 5) (pe_callB (k_len (K := K)) (by rfl) T.z_len bt_len (pa_cons (pv 1) pa_nil))) (fun _ _ => rfl)))))
      (pss_one (ps_ret (pe_op (k_catT (K := K)) (pe_call (ok_loops_heard_as_0 T) (hr.mono (by decide)) (by rfl) T.m_loops_heard_as T.F_loops_heard_as.kp T.b_loops_heard_as .nil pass0 (pa_cons (pv 2) (pa_cons (pe_callTy (k_tuple (K := K)) (by rfl) T.z_tuple bt_tuple (pa_cons (pv 4) pa_nil)) pa_nil))) (pe_tup (pa_cons (pv 1) pa_nil))))))))), ?_⟩
  obtain ⟨os, L, rfl⟩ : ∃ os L, ns = os ++ [L] := ⟨ns.dropLast, ns.getLast hne, (List.dropLast_concat_getLast hne).symm⟩
  have L1 := (ok.2 L (by simp)).1
  have L64 := (ok.2 L (by simp)).2
  have ok1 := okm_take ok
  refine ⟨_, rfl, v, os, L, rfl, hv, ok, fun w H1 s1 hw => ?_⟩
  repeat (first | refine ⟨_, rfl, ?_⟩ | refine ⟨_, _, rfl, rfl, ?_⟩)
  dsimp only [tC, tNoPart]
  repeat (first | refine ⟨_, rfl, ?_⟩ | refine ⟨_, _, rfl, rfl, ?_⟩)
  refine rd_cut (hv.same_at s1) fun w2 H2 s2 hw2 => ?_
  have hw2 : Dp K H2 w2 (dInts (NN os)) := by
    have e := last_cut (NN (os ++ [L]))
    rw [e] at hw2
    have e2 : (NN (os ++ [L])).dropLast = NN os := by
      unfold NN
      rw [List.map_append]
      exact List.dropLast_concat
    rw [e2] at hw2
    exact hw2
  have t2 := s1.trans s2
  refine ⟨_, rfl, v, os ++ [L], rfl, hv.same_at t2, ok, fun H3 s3 => ?_⟩
  repeat (first | refine ⟨_, rfl, ?_⟩ | refine ⟨_, _, rfl, rfl, ?_⟩)
  have d1 := due_384 ok1
  refine ⟨w2, os, rfl, hw2.same_at s3, ok1, fun H4 s4 => ?_⟩
  have t4 := s2.trans (s3.trans s4)
  have t4s1 := s1.trans t4
  obtain ⟨la, rfl, hL⟩ := (hw.same_at t4).ints
  have lL : ((lastL os L).map V.int).length = L := by rw [List.length_map, lastL_len]
  refine ⟨_, rfl, by omega, by omega, fun D hD => ?_⟩
  refine lc_it walk_range (fun i H' => H' D = some (.lst (((leftL (du (os ++ [L])) (lastL os L) (du os)).take i).map V.int)) ∧ Same H4 H') ⟨upd_same, same_upd hD _⟩ (fun _ _ _ _ => trivial) ?_ ?_
  · rintro i x H5 H6 hi ⟨hA, s5⟩ ⟨rfl, rfl⟩
    have hi : i < du os := by
      have q : i < (((dueN (NN os) : Nat) : Int)).toNat := hi
      unfold du
      omega
    refine ⟨rfl, ?_⟩
    have hL6 := Same.tk s5 _ _ hL
    refine ⟨_, rfl, _, rfl, rfl, .inr ⟨_, rfl, ?_⟩⟩
    have hix := hAt_ix (l := lastL os L) ((0 : Int) + (i : Nat)) (by rw [lastL_len]; exact L1)
    refine ⟨_, rfl, _, rfl, _, rfl, la, _, rfl, .inr hL6, _, _, rfl, rfl, by rw [lL]; omega, la, _, _, _, rfl, rfl, hL6, hix, _, _, rfl, rfl, ?_⟩
    have gi : (leftL (du (os ++ [L])) (lastL os L) (du os))[i]? = some ((if i + 1 = du (os ++ [L]) then 1 else 0) - hAt (lastL os L) (i : Int)) := tab_get hi
    have ev : (if decide (V.int ((0 : Int) + (i : Nat)) = V.int (((dueN (NN (os ++ [L])) : Nat) : Int) - 1)) = true then (1 : Int) else 0) - hAt (lastL os L) ((0 : Int) + (i : Nat)) = (if i + 1 = du (os ++ [L]) then 1 else 0) - hAt (lastL os L) (i : Int) := by
      rw [Int.zero_add]
      congr 1
      by_cases q : i + 1 = du (os ++ [L])
      · rw [if_pos q, if_pos (decide_eq_true (by unfold du at q; congr 1; omega))]
      · rw [if_neg q, if_neg (fun z => q (by
          have z := of_decide_eq_true z
          injection z with z
          unfold du
          omega))]
    refine ⟨_, hA, ?_, ?_, ?_⟩
    · rw [List.length_map, List.length_take]
      exact small1000 (by unfold du at hi; omega)
    · rw [upd_same, take_more gi, List.map_append]
      show some (HO.lst (_ ++ [V.int (_ - _)])) = _
      rw [ev]
      rfl
    · exact fun b o q => by
        rw [upd_ne (ne_of_none q hD)]
        exact s5 _ _ q
  rintro H5 ⟨hA, s5⟩
  have ll : (leftL (du (os ++ [L])) (lastL os L) (du os)).length = du os := by
    unfold leftL
    rw [List.length_map, List.length_range]
  rw [show (((dueN (NN os) : Nat) : Int)).toNat = (leftL (du (os ++ [L])) (lastL os L) (du os)).length by rw [ll]; rfl, List.take_length] at hA
  have lsm := lastL_small ok
  have left : ∀ z ∈ leftL (du (os ++ [L])) (lastL os L) (du os), z.natAbs ≤ 2 ^ 100000 := fun z hz => by
    obtain ⟨i, _, rfl⟩ := tab_mem hz
    have a := hAt_small lsm (i : Int)
    have b : (2 : Nat) ^ 27564 + 1 ≤ 2 ^ 100000 := by
      have c : (2 : Nat) ^ 27565 ≤ 2 ^ 100000 := Nat.pow_le_pow_right (by decide) (by decide)
      have d : (2 : Nat) ^ 27565 = 2 ^ 27564 * 2 := Nat.pow_succ ..
      have e : 1 ≤ (2 : Nat) ^ 27564 := Nat.two_pow_pos _
      omega
    split <;> omega
  refine ⟨_, rfl, _, rfl, D, _, rfl, .inl ⟨SqL.of hA, fun t ht => ?_⟩⟩
  have st := same_upd ht (.tup ((leftL (du (os ++ [L])) (lastL os L) (du os)).map V.int))
  have t6 := s5.trans st
  have hk2 := hk
  rw [List.length_append, List.length_singleton] at hk2
  refine ⟨w2, .ref t, os, leftL (du (os ++ [L])) (lastL os L) (du os), rfl, hw2.same_at (s3.trans (s4.trans t6)), ok1, (by omega), Dp.ofInts (SqT.of upd_same), ll, left, fun w7 H7 s7 hw7 => ?_⟩
  refine ⟨_, rfl, ?_⟩
  refine ⟨(by show 1 ≤ sizeLine; decide), fun p hp => ?_⟩
  have sp := same_upd hp (.tup [.ref la])
  have hl9 : Dp K (upd H7 p (.tup [.ref la])) (.ref p) (.tuple [dInts (lastL os L)]) := .tup (SqT.of upd_same) (.cons (Dp.ofInts (Same.tk (t6.trans (s7.trans sp)) _ _ hL)) .nil)
  have m1 := (dec_main ok1).1
  have dlen : (dec os).length = os.length := by
    have q := congrArg List.length m1
    unfold lenN at q
    rw [List.length_map] at q
    exact q
  refine rd_cat (hw7.same_at sp) hl9 ?_ fun w9 H9 s9 hw9 => ?_
  · rw [List.length_map]
    unfold lha
    rw [List.length_map, dlen]
    have := ok1.1
    exact Nat.le_of_lt (small1000 (by simp; omega))
  refine k _ _ (t4s1.trans (t6.trans (s7.trans (sp.trans s9)))) ?_
  rw [dec_snoc]
  show Dp K H9 w9 (.tuple ((lha os (leftL (du (os ++ [L])) (lastL os L) (du os)) ++ [lastL os L]).map dInts))
  rw [List.map_append]
  exact hw9
end
section
variable {P : Program} {w : World} {K : PySem.W.Frag} {mg : Str → Option Value} {base : Heap}
theorem ok_loops_heard_as_1 (T : Top K mg) : FnOk P w K mg base CX0 7 T.a_loops_heard_as T.d_loops_heard_as ["lengths", "row"] (sp_lha 1 K) := by
  refine T.F_loops_heard_as.ok sc_loops_heard_as (fun vs H Q E h => ?_) (fun cdv A outer s H vs Q E hr h => ?_)
  · obtain ⟨v, r, ns, row, rfl, hv, ok, hk, hw, hrl, hb, k⟩ := h
    rfl
  obtain ⟨v, r, ns, row, rfl, hv, ok, hk, hw, hrl, hb, k⟩ := h
  refine ⟨_, (pss_cons (ps_if (pt_cmpR op_eq (pe_callB (k_len (K := K)) (by rfl) T.z_len bt_len (pa_cons (pv 0) pa_nil)) pe_int (nomark _)) (pss_one (ps_ret (pe_tup pa_nil))) pss_nil)
      (pss_cons (ps_set (i := 2) sc_loops_heard_as.nd rfl (Or.inr rfl) (pe_call (ok_weights T) (hr.mono (by decide)) (by rfl) T.m_weights T.F_weights.kp T.b_weights .nil pass0 (pa_cons (pv 0) pa_nil)))
      (pss_cons (ps_set (i := 3) sc_loops_heard_as.nd rfl (Or.inr rfl) (pe_callB (k_len (K := K)) (by rfl) T.z_len bt_len (pa_cons (pv 1) pa_nil)))
      (pss_cons (ps_set (i := 4) sc_loops_heard_as.nd rfl (Or.inr rfl) (pe_lc (own := [("tick", 5)]) rfl sc_loops_heard_as.nd (pi_range1 (by rfl) T.z_range (pa_cons (pv 3) pa_nil)) (blkOk_by (own := [("tick", 5)]) (N := ["lengths", "row", "known", "many", "factors", "tick", "loop"]) (sc := defScope s_loops_heard_as) (by decide +kernel)) (fun _ _ _ _ _ => (pg_name (i := 5) sc_loops_heard_as.nd rfl (Or.inl rfl))) (fun _ _ _ _ _ => pts_nil) (fun _ _ _ _ _ => (pe_call (ok_weighted T) (hr.mono (by decide)) (by rfl) T.m_weighted T.F_weighted.kp T.b_weighted .nil pass0 (pa_cons (pe_slice (k_slT (K := K)) (pv 2) (po_some (pe_op op_sub (pv 3) (pv 5))) po_none) (pa_cons (pv 1) pa_nil))))))
      (pss_one (ps_ret (pe_callTy (k_tuple (K := K)) (by rfl) T.z_tuple bt_tuple (pa_cons (pe_lc (own := [("loop", 6)]) rfl sc_loops_heard_as.nd (k_piT (K := K) (pe_call (ok_deceiver_of_1 T) (hr.mono (by decide)) (by rfl) T.m_deceiver_of T.F_deceiver_of.kp T.b_deceiver_of .nil pass0 (pa_cons (pv 0) pa_nil))) (blkOk_by (own := [("loop", 6)]) (N := ["lengths", "row", "known", "many", "factors", "tick", "loop"]) (sc := defScope s_loops_heard_as) (by decide +kernel)) (fun _ _ _ _ _ => (pg_name (i := 6) sc_loops_heard_as.nd rfl (Or.inl rfl))) (fun _ _ _ _ _ => pts_nil) (fun _ _ _ _ _ => (pe_call (ok_mixed T) (hr.mono (by decide)) (by rfl) T.m_mixed T.F_mixed.kp T.b_mixed .nil pass0 (pa_cons (pv 6) (pa_cons (pv 4) pa_nil))))) pa_nil)))))))), ?_⟩
  obtain ⟨va, rfl, hT⟩ := hv.ints
  obtain ⟨ra, rfl, hR⟩ := hw.ints
  have lN : ((NN ns).map V.int).length = ns.length := by rw [List.length_map, nn_len]
  have lR : (row.map V.int).length = row.length := List.length_map ..
  refine ⟨_, rfl, va, _, rfl, .inr hT, rfl, _, rfl, ?_⟩
  rw [lN]
  refine ite2 (fun cc => ?_) (fun cc => ?_)
  · have e0 : ns = [] := by
      have cc := of_decide_eq_true cc
      injection cc with cc
      exact List.length_eq_zero_iff.mp (by omega)
    subst e0
    refine ⟨(by show 0 ≤ sizeLine; decide), fun p hp => ?_⟩
    exact k _ _ (same_upd hp _) (.tup (SqT.of upd_same) .nil)
  have ne : ns ≠ [] := fun z => by
    rw [z] at cc
    exact absurd cc (by decide)
  refine ⟨_, rfl, .ref va, ns, rfl, Dp.ofInts hT, ok, fun wv H1 s1 hwv => ?_⟩
  refine ⟨_, rfl, ra, _, rfl, .inr (Same.tk s1 _ _ hR), ?_⟩
  rw [lR]
  have d384 := due_384 ok
  have rl : row.length ≤ 384 := by rw [hrl]; exact d384
  have wll := wl_len ok
  refine ⟨_, rfl, _, rfl, by omega, by omega, fun D hD => ?_⟩
  refine lc_it walk_range (fun i H' => H' D = some (.lst (((facs (wl ns) row).take i).map V.int)) ∧ Same H1 H') ⟨upd_same, same_upd hD _⟩ (fun _ _ _ _ => trivial) ?_ ?_
  · rintro i x H2 H3 hi ⟨hA, s2⟩ ⟨rfl, rfl⟩
    have hi : i < row.length := by omega
    refine ⟨rfl, ?_⟩
    refine ⟨_, rfl, _, rfl, _, rfl, _, _, rfl, rfl, ?_⟩
    dsimp only [tNoPart]
    refine ⟨_, rfl, rd_cut (hwv.same_at s2) fun w4 H4 s4 hw4 => ?_⟩
    have e : ((row.length : Nat) : Int) - (0 + (i : Nat)) = ((row.length - i : Nat) : Int) := by omega
    have hw4 : Dp K H4 w4 (dInts ((wl ns).drop (row.length - i))) := by
      have q := hw4
      rw [e, cutD_fromN, ← List.map_drop] at q
      exact q
    obtain ⟨a4, rfl, hT4⟩ := hw4.ints
    have t4 := s1.trans (s2.trans s4)
    refine ⟨_, rfl, .tup, .tup, a4, ra, (wl ns).drop (row.length - i), row, rfl, hT4, Same.tk t4 _ _ hR, ⟨by rw [List.length_drop]; omega, by omega, fun x hx y hy => ?_⟩, fun H5 s5 => ?_⟩
    · have p := log_of (wl_small ns x (List.mem_of_mem_drop hx))
      have q := log_of (hb y hy)
      omega
    have gi : (facs (wl ns) row)[i]? = some (dotz ((wl ns).drop (row.length - i)) row) := tab_get hi
    refine ⟨_, (s4.trans s5) _ _ hA, ?_, ?_, ?_⟩
    · rw [List.length_map, List.length_take]
      exact small1000 (by omega)
    · rw [upd_same, take_more gi, List.map_append]
      rfl
    · exact fun b o q => by
        rw [upd_ne (ne_of_none q hD)]
        exact s5 _ _ (s4 _ _ (s2 _ _ q))
  rintro H2 ⟨hA, s2⟩
  rw [show (((row.length : Nat) : Int)).toNat = (facs (wl ns) row).length by rw [facs_len]; rfl, List.take_length] at hA
  have t2 := s1.trans s2
  refine ⟨_, rfl, .ref va, ns, rfl, Dp.ofInts (Same.tk t2 _ _ hT), ok, hk, ne, fun wd H7 s7 hwd => ?_⟩
  obtain ⟨da, xs, rfl, hTd, hXd⟩ := hwd.tuple
  have dl := (dec_main ok).1
  have xl := hXd.len
  rw [List.length_map] at xl
  have dlen : (dec ns).length = ns.length := by
    have q := congrArg List.length dl
    unfold lenN at q
    rw [List.length_map] at q
    exact q
  have n6 := ok.1
  refine ⟨da, rfl, ⟨_, hTd⟩, fun D3 hD3 => ?_⟩
  refine lc_it walk_tup (fun i H' => (∃ ys, H' D3 = some (.lst ys) ∧ DpAll K H' ys ((((dec ns).take i).map fun l => mixL l (facs (wl ns) row)).map dInts)) ∧ Same H7 H') ⟨⟨_, upd_same, .nil⟩, same_upd hD3 _⟩ (fun i H' _ p => Same.tk p.2 _ _ hTd) ?_ ?_
  · rintro i x H8 H9 hi ⟨⟨ys, hB, hY⟩, s8⟩ ⟨rfl, hx⟩
    obtain ⟨l, b, hl, rfl, hBl⟩ := loops_get hXd hx
    have lm := List.mem_of_getElem? hl
    have lin : l.length ∈ ns := by
      have q := List.mem_map_of_mem (f := List.length) lm
      have e : (dec ns).map List.length = ns := dl
      rw [e] at q
      exact q
    have lb := ok.2 _ lin
    refine ⟨rfl, ?_⟩
    refine ⟨_, rfl, _, rfl, .ref b, D, l, _, rfl, Dp.ofInts (Same.tk s8 _ _ hBl), s8 _ _ (s7 _ _ hA), lb.1, lb.2, by rw [facs_len]; omega, fun z hz => ?_, fun z hz => ?_, fun w H10 s10 hw10 => ?_⟩
    · exact Nat.le_trans (facs_small (by omega) hb z hz) (Nat.pow_le_pow_right (by decide) (by decide))
    · exact Nat.le_trans (dec_small' ok l lm z hz) (Nat.pow_le_pow_right (by decide) (by decide))
    have hyl := hY.len
    rw [List.length_map, List.length_map, List.length_take] at hyl
    refine ⟨ys, s10 _ _ hB, small1000 (by omega), ⟨ys ++ [w], upd_same, ?_⟩, ?_⟩
    · rw [take_more hl, List.map_append, List.map_append]
      have tk := (Same.tk (K := K) s10).trans (tk_upd (o := .lst (ys ++ [w])) (s10 _ _ hB))
      exact (DpAll.keepT tk _ _ (to_loops _) hY).app (.cons (Dp.keepT (tk_upd (s10 _ _ hB)) _ _ (to_ints _) hw10) .nil)
    · exact fun b' o q => by
        rw [upd_ne (ne_of_none q hD3)]
        exact s10 _ _ (s8 _ _ q)
  rintro H8 ⟨⟨ys, hB, hY⟩, s8⟩
  rw [xl, List.take_length] at hY
  refine ⟨D3, _, rfl, .inl ⟨SqL.of hB, fun t ht => ?_⟩⟩
  have s9 := same_upd ht (.tup ys)
  exact k _ _ (t2.trans (s7.trans (s8.trans s9))) (.tup (SqT.of upd_same) (DpAll.same s9 _ _ hY))
end
section
variable {P : Program} {w : World} {K : PySem.W.Frag} {mg : Str → Option Value} {base : Heap}
theorem ok_deceiver_of_2 (T : Top K mg) : FnOk P w K mg base CX0 8 T.a_deceiver_of T.d_deceiver_of ["lengths"] (sp_dec 2 K) := by
  refine T.F_deceiver_of.ok sc_deceiver_of (fun vs H Q E h => ?_) (fun cdv A outer s H vs Q E hr h => ?_)
  · obtain ⟨v, ns, rfl, hv, ok, hk, hne, k⟩ := h
    rfl
  obtain ⟨v, ns, rfl, hv, ok, hk, hne, k⟩ := h
  refine ⟨_, (pss_cons (ps_set (i := 1) sc_deceiver_of.nd rfl (Or.inr rfl) (pe_call (ok_last_loop T) (hr.mono (by decide)) (by rfl) T.m_last_loop T.F_last_loop.kp T.b_last_loop .nil pass0 (pa_cons (pv 0) pa_nil)))
      (pss_cons (ps_set (i := 2) sc_deceiver_of.nd rfl (Or.inl rfl) (pe_slice (k_slT (K := K)) (pv 0) po_none (po_some (pe_un un_neg pe_int))))
      (pss_cons (ps_set (i := 3) sc_deceiver_of.nd rfl (Or.inr rfl) (pe_op op_sub (pe_call (ok_span T) (hr.mono (by decide)) (by rfl) T.m_span T.F_span.kp T.b_span .nil pass0 (pa_cons (pv 0) pa_nil)) pe_int))
      (pss_cons (ps_setLc (i := 4) (own := [("tick", 5)]) rfl sc_deceiver_of.nd rfl rfl (sw_true rfl rfl rfl (by decide +kernel)) (pi_range1 (by rfl) T.z_range (pa_cons (pe_call (ok_span T) (hr.mono (by decide)) (by rfl) T.m_span T.F_span.kp T.b_span .nil pass0 (pa_cons (pv 2) pa_nil)) pa_nil)) (blkOk_by (own := [("tick", 5)]) (N := ["lengths", "loop", "others", "last", "left", "tick"]) (sc := defScope s_deceiver_of) (by decide +kernel)) (fun _ _ _ _ _ => (pg_name (i := 5) sc_deceiver_of.nd rfl (Or.inl rfl))) (fun _ _ _ _ _ => pts_nil) (fun _ _ _ _ _ => (pe_op op_sub (pe_callTy call_int1 (by rfl) T.z_int bt_int (pa_cons (pe_cmpR op_eq (pv 5) (pv 3) (nomark _)) pa_nil)) (pe_ix (k_ixT (K := K)) (pv 1) (pe_op op_modN (pv 5) (pe_callB (k_len (K := K)) (by rfl) T.z_len bt_len (pa_cons (pv 1) pa_nil))) (fun _ _ => rfl)))))
      (pss_one (ps_ret (pe_op (k_catT (K := K)) (pe_call (ok_loops_heard_as_1 T) (hr.mono (by decide)) (by rfl) T.m_loops_heard_as T.F_loops_heard_as.kp T.b_loops_heard_as .nil pass0 (pa_cons (pv 2) (pa_cons (pe_callTy (k_tuple (K := K)) (by rfl) T.z_tuple bt_tuple (pa_cons (pv 4) pa_nil)) pa_nil))) (pe_tup (pa_cons (pv 1) pa_nil))))))))), ?_⟩
  obtain ⟨os, L, rfl⟩ : ∃ os L, ns = os ++ [L] := ⟨ns.dropLast, ns.getLast hne, (List.dropLast_concat_getLast hne).symm⟩
  have L1 := (ok.2 L (by simp)).1
  have L64 := (ok.2 L (by simp)).2
  have ok1 := okm_take ok
  refine ⟨_, rfl, v, os, L, rfl, hv, ok, fun w H1 s1 hw => ?_⟩
  repeat (first | refine ⟨_, rfl, ?_⟩ | refine ⟨_, _, rfl, rfl, ?_⟩)
  dsimp only [tC, tNoPart]
  repeat (first | refine ⟨_, rfl, ?_⟩ | refine ⟨_, _, rfl, rfl, ?_⟩)
  refine rd_cut (hv.same_at s1) fun w2 H2 s2 hw2 => ?_
  have hw2 : Dp K H2 w2 (dInts (NN os)) := by
    have e := last_cut (NN (os ++ [L]))
    rw [e] at hw2
    have e2 : (NN (os ++ [L])).dropLast = NN os := by
      unfold NN
      rw [List.map_append]
      exact List.dropLast_concat
    rw [e2] at hw2
    exact hw2
  have t2 := s1.trans s2
  refine ⟨_, rfl, v, os ++ [L], rfl, hv.same_at t2, ok, fun H3 s3 => ?_⟩
  repeat (first | refine ⟨_, rfl, ?_⟩ | refine ⟨_, _, rfl, rfl, ?_⟩)
  have d1 := due_384 ok1
  refine ⟨w2, os, rfl, hw2.same_at s3, ok1, fun H4 s4 => ?_⟩
  have t4 := s2.trans (s3.trans s4)
  have t4s1 := s1.trans t4
  obtain ⟨la, rfl, hL⟩ := (hw.same_at t4).ints
  have lL : ((lastL os L).map V.int).length = L := by rw [List.length_map, lastL_len]
  refine ⟨_, rfl, by omega, by omega, fun D hD => ?_⟩
  refine lc_it walk_range (fun i H' => H' D = some (.lst (((leftL (du (os ++ [L])) (lastL os L) (du os)).take i).map V.int)) ∧ Same H4 H') ⟨upd_same, same_upd hD _⟩ (fun _ _ _ _ => trivial) ?_ ?_
  · rintro i x H5 H6 hi ⟨hA, s5⟩ ⟨rfl, rfl⟩
    have hi : i < du os := by
      have q : i < (((dueN (NN os) : Nat) : Int)).toNat := hi
      unfold du
      omega
    refine ⟨rfl, ?_⟩
    have hL6 := Same.tk s5 _ _ hL
    refine ⟨_, rfl, _, rfl, rfl, .inr ⟨_, rfl, ?_⟩⟩
    have hix := hAt_ix (l := lastL os L) ((0 : Int) + (i : Nat)) (by rw [lastL_len]; exact L1)
    refine ⟨_, rfl, _, rfl, _, rfl, la, _, rfl, .inr hL6, _, _, rfl, rfl, by rw [lL]; omega, la, _, _, _, rfl, rfl, hL6, hix, _, _, rfl, rfl, ?_⟩
    have gi : (leftL (du (os ++ [L])) (lastL os L) (du os))[i]? = some ((if i + 1 = du (os ++ [L]) then 1 else 0) - hAt (lastL os L) (i : Int)) := tab_get hi
    have ev : (if decide (V.int ((0 : Int) + (i : Nat)) = V.int (((dueN (NN (os ++ [L])) : Nat) : Int) - 1)) = true then (1 : Int) else 0) - hAt (lastL os L) ((0 : Int) + (i : Nat)) = (if i + 1 = du (os ++ [L]) then 1 else 0) - hAt (lastL os L) (i : Int) := by
      rw [Int.zero_add]
      congr 1
      by_cases q : i + 1 = du (os ++ [L])
      · rw [if_pos q, if_pos (decide_eq_true (by unfold du at q; congr 1; omega))]
      · rw [if_neg q, if_neg (fun z => q (by
          have z := of_decide_eq_true z
          injection z with z
          unfold du
          omega))]
    refine ⟨_, hA, ?_, ?_, ?_⟩
    · rw [List.length_map, List.length_take]
      exact small1000 (by unfold du at hi; omega)
    · rw [upd_same, take_more gi, List.map_append]
      show some (HO.lst (_ ++ [V.int (_ - _)])) = _
      rw [ev]
      rfl
    · exact fun b o q => by
        rw [upd_ne (ne_of_none q hD)]
        exact s5 _ _ q
  rintro H5 ⟨hA, s5⟩
  have ll : (leftL (du (os ++ [L])) (lastL os L) (du os)).length = du os := by
    unfold leftL
    rw [List.length_map, List.length_range]
  rw [show (((dueN (NN os) : Nat) : Int)).toNat = (leftL (du (os ++ [L])) (lastL os L) (du os)).length by rw [ll]; rfl, List.take_length] at hA
  have lsm := lastL_small ok
  have left : ∀ z ∈ leftL (du (os ++ [L])) (lastL os L) (du os), z.natAbs ≤ 2 ^ 100000 := fun z hz => by
    obtain ⟨i, _, rfl⟩ := tab_mem hz
    have a := hAt_small lsm (i : Int)
    have b : (2 : Nat) ^ 27564 + 1 ≤ 2 ^ 100000 := by
      have c : (2 : Nat) ^ 27565 ≤ 2 ^ 100000 := Nat.pow_le_pow_right (by decide) (by decide)
      have d : (2 : Nat) ^ 27565 = 2 ^ 27564 * 2 := Nat.pow_succ ..
      have e : 1 ≤ (2 : Nat) ^ 27564 := Nat.two_pow_pos _
      omega
    split <;> omega
  refine ⟨_, rfl, _, rfl, D, _, rfl, .inl ⟨SqL.of hA, fun t ht => ?_⟩⟩
  have st := same_upd ht (.tup ((leftL (du (os ++ [L])) (lastL os L) (du os)).map V.int))
  have t6 := s5.trans st
  have hk2 := hk
  rw [List.length_append, List.length_singleton] at hk2
  refine ⟨w2, .ref t, os, leftL (du (os ++ [L])) (lastL os L) (du os), rfl, hw2.same_at (s3.trans (s4.trans t6)), ok1, (by omega), Dp.ofInts (SqT.of upd_same), ll, left, fun w7 H7 s7 hw7 => ?_⟩
  refine ⟨_, rfl, ?_⟩
  refine ⟨(by show 1 ≤ sizeLine; decide), fun p hp => ?_⟩
  have sp := same_upd hp (.tup [.ref la])
  have hl9 : Dp K (upd H7 p (.tup [.ref la])) (.ref p) (.tuple [dInts (lastL os L)]) := .tup (SqT.of upd_same) (.cons (Dp.ofInts (Same.tk (t6.trans (s7.trans sp)) _ _ hL)) .nil)
  have m1 := (dec_main ok1).1
  have dlen : (dec os).length = os.length := by
    have q := congrArg List.length m1
    unfold lenN at q
    rw [List.length_map] at q
    exact q
  refine rd_cat (hw7.same_at sp) hl9 ?_ fun w9 H9 s9 hw9 => ?_
  · rw [List.length_map]
    unfold lha
    rw [List.length_map, dlen]
    have := ok1.1
    exact Nat.le_of_lt (small1000 (by simp; omega))
  refine k _ _ (t4s1.trans (t6.trans (s7.trans (sp.trans s9)))) ?_
  rw [dec_snoc]
  show Dp K H9 w9 (.tuple ((lha os (leftL (du (os ++ [L])) (lastL os L) (du os)) ++ [lastL os L]).map dInts))
  rw [List.map_append]
  exact hw9
end
section
variable {P : Program} {w : World} {K : PySem.W.Frag} {mg : Str → Option Value} {base : Heap}
theorem ok_loops_heard_as_2 (T : Top K mg) : FnOk P w K mg base CX0 9 T.a_loops_heard_as T.d_loops_heard_as ["lengths", "row"] (sp_lha 2 K) := by
  refine T.F_loops_heard_as.ok sc_loops_heard_as (fun vs H Q E h => ?_) (fun cdv A outer s H vs Q E hr h => ?_)
  · obtain ⟨v, r, ns, row, rfl, hv, ok, hk, hw, hrl, hb, k⟩ := h
    rfl
  obtain ⟨v, r, ns, row, rfl, hv, ok, hk, hw, hrl, hb, k⟩ := h
  refine ⟨_, (pss_cons (ps_if (pt_cmpR op_eq (pe_callB (k_len (K := K)) (by rfl) T.z_len bt_len (pa_cons (pv 0) pa_nil)) pe_int (nomark _)) (pss_one (ps_ret (pe_tup pa_nil))) pss_nil)
      (pss_cons (ps_set (i := 2) sc_loops_heard_as.nd rfl (Or.inr rfl) (pe_call (ok_weights T) (hr.mono (by decide)) (by rfl) T.m_weights T.F_weights.kp T.b_weights .nil pass0 (pa_cons (pv 0) pa_nil)))
      (pss_cons (ps_set (i := 3) sc_loops_heard_as.nd rfl (Or.inr rfl) (pe_callB (k_len (K := K)) (by rfl) T.z_len bt_len (pa_cons (pv 1) pa_nil)))
      (pss_cons (ps_set (i := 4) sc_loops_heard_as.nd rfl (Or.inr rfl) (pe_lc (own := [("tick", 5)]) rfl sc_loops_heard_as.nd (pi_range1 (by rfl) T.z_range (pa_cons (pv 3) pa_nil)) (blkOk_by (own := [("tick", 5)]) (N := ["lengths", "row", "known", "many", "factors", "tick", "loop"]) (sc := defScope s_loops_heard_as) (by decide +kernel)) (fun _ _ _ _ _ => (pg_name (i := 5) sc_loops_heard_as.nd rfl (Or.inl rfl))) (fun _ _ _ _ _ => pts_nil) (fun _ _ _ _ _ => (pe_call (ok_weighted T) (hr.mono (by decide)) (by rfl) T.m_weighted T.F_weighted.kp T.b_weighted .nil pass0 (pa_cons (pe_slice (k_slT (K := K)) (pv 2) (po_some (pe_op op_sub (pv 3) (pv 5))) po_none) (pa_cons (pv 1) pa_nil))))))
      (pss_one (ps_ret (pe_callTy (k_tuple (K := K)) (by rfl) T.z_tuple bt_tuple (pa_cons (pe_lc (own := [("loop", 6)]) rfl sc_loops_heard_as.nd (k_piT (K := K) (pe_call (ok_deceiver_of_2 T) (hr.mono (by decide)) (by rfl) T.m_deceiver_of T.F_deceiver_of.kp T.b_deceiver_of .nil pass0 (pa_cons (pv 0) pa_nil))) (blkOk_by (own := [("loop", 6)]) (N := ["lengths", "row", "known", "many", "factors", "tick", "loop"]) (sc := defScope s_loops_heard_as) (by decide +kernel)) (fun _ _ _ _ _ => (pg_name (i := 6) sc_loops_heard_as.nd rfl (Or.inl rfl))) (fun _ _ _ _ _ => pts_nil) (fun _ _ _ _ _ => (pe_call (ok_mixed T) (hr.mono (by decide)) (by rfl) T.m_mixed T.F_mixed.kp T.b_mixed .nil pass0 (pa_cons (pv 6) (pa_cons (pv 4) pa_nil))))) pa_nil)))))))), ?_⟩
  obtain ⟨va, rfl, hT⟩ := hv.ints
  obtain ⟨ra, rfl, hR⟩ := hw.ints
  have lN : ((NN ns).map V.int).length = ns.length := by rw [List.length_map, nn_len]
  have lR : (row.map V.int).length = row.length := List.length_map ..
  refine ⟨_, rfl, va, _, rfl, .inr hT, rfl, _, rfl, ?_⟩
  rw [lN]
  refine ite2 (fun cc => ?_) (fun cc => ?_)
  · have e0 : ns = [] := by
      have cc := of_decide_eq_true cc
      injection cc with cc
      exact List.length_eq_zero_iff.mp (by omega)
    subst e0
    refine ⟨(by show 0 ≤ sizeLine; decide), fun p hp => ?_⟩
    exact k _ _ (same_upd hp _) (.tup (SqT.of upd_same) .nil)
  have ne : ns ≠ [] := fun z => by
    rw [z] at cc
    exact absurd cc (by decide)
  refine ⟨_, rfl, .ref va, ns, rfl, Dp.ofInts hT, ok, fun wv H1 s1 hwv => ?_⟩
  refine ⟨_, rfl, ra, _, rfl, .inr (Same.tk s1 _ _ hR), ?_⟩
  rw [lR]
  have d384 := due_384 ok
  have rl : row.length ≤ 384 := by rw [hrl]; exact d384
  have wll := wl_len ok
  refine ⟨_, rfl, _, rfl, by omega, by omega, fun D hD => ?_⟩
  refine lc_it walk_range (fun i H' => H' D = some (.lst (((facs (wl ns) row).take i).map V.int)) ∧ Same H1 H') ⟨upd_same, same_upd hD _⟩ (fun _ _ _ _ => trivial) ?_ ?_
  · rintro i x H2 H3 hi ⟨hA, s2⟩ ⟨rfl, rfl⟩
    have hi : i < row.length := by omega
    refine ⟨rfl, ?_⟩
    refine ⟨_, rfl, _, rfl, _, rfl, _, _, rfl, rfl, ?_⟩
    dsimp only [tNoPart]
    refine ⟨_, rfl, rd_cut (hwv.same_at s2) fun w4 H4 s4 hw4 => ?_⟩
    have e : ((row.length : Nat) : Int) - (0 + (i : Nat)) = ((row.length - i : Nat) : Int) := by omega
    have hw4 : Dp K H4 w4 (dInts ((wl ns).drop (row.length - i))) := by
      have q := hw4
      rw [e, cutD_fromN, ← List.map_drop] at q
      exact q
    obtain ⟨a4, rfl, hT4⟩ := hw4.ints
    have t4 := s1.trans (s2.trans s4)
    refine ⟨_, rfl, .tup, .tup, a4, ra, (wl ns).drop (row.length - i), row, rfl, hT4, Same.tk t4 _ _ hR, ⟨by rw [List.length_drop]; omega, by omega, fun x hx y hy => ?_⟩, fun H5 s5 => ?_⟩
    · have p := log_of (wl_small ns x (List.mem_of_mem_drop hx))
      have q := log_of (hb y hy)
      omega
    have gi : (facs (wl ns) row)[i]? = some (dotz ((wl ns).drop (row.length - i)) row) := tab_get hi
    refine ⟨_, (s4.trans s5) _ _ hA, ?_, ?_, ?_⟩
    · rw [List.length_map, List.length_take]
      exact small1000 (by omega)
    · rw [upd_same, take_more gi, List.map_append]
      rfl
    · exact fun b o q => by
        rw [upd_ne (ne_of_none q hD)]
        exact s5 _ _ (s4 _ _ (s2 _ _ q))
  rintro H2 ⟨hA, s2⟩
  rw [show (((row.length : Nat) : Int)).toNat = (facs (wl ns) row).length by rw [facs_len]; rfl, List.take_length] at hA
  have t2 := s1.trans s2
  refine ⟨_, rfl, .ref va, ns, rfl, Dp.ofInts (Same.tk t2 _ _ hT), ok, hk, ne, fun wd H7 s7 hwd => ?_⟩
  obtain ⟨da, xs, rfl, hTd, hXd⟩ := hwd.tuple
  have dl := (dec_main ok).1
  have xl := hXd.len
  rw [List.length_map] at xl
  have dlen : (dec ns).length = ns.length := by
    have q := congrArg List.length dl
    unfold lenN at q
    rw [List.length_map] at q
    exact q
  have n6 := ok.1
  refine ⟨da, rfl, ⟨_, hTd⟩, fun D3 hD3 => ?_⟩
  refine lc_it walk_tup (fun i H' => (∃ ys, H' D3 = some (.lst ys) ∧ DpAll K H' ys ((((dec ns).take i).map fun l => mixL l (facs (wl ns) row)).map dInts)) ∧ Same H7 H') ⟨⟨_, upd_same, .nil⟩, same_upd hD3 _⟩ (fun i H' _ p => Same.tk p.2 _ _ hTd) ?_ ?_
  · rintro i x H8 H9 hi ⟨⟨ys, hB, hY⟩, s8⟩ ⟨rfl, hx⟩
    obtain ⟨l, b, hl, rfl, hBl⟩ := loops_get hXd hx
    have lm := List.mem_of_getElem? hl
    have lin : l.length ∈ ns := by
      have q := List.mem_map_of_mem (f := List.length) lm
      have e : (dec ns).map List.length = ns := dl
      rw [e] at q
      exact q
    have lb := ok.2 _ lin
    refine ⟨rfl, ?_⟩
    refine ⟨_, rfl, _, rfl, .ref b, D, l, _, rfl, Dp.ofInts (Same.tk s8 _ _ hBl), s8 _ _ (s7 _ _ hA), lb.1, lb.2, by rw [facs_len]; omega, fun z hz => ?_, fun z hz => ?_, fun w H10 s10 hw10 => ?_⟩
    · exact Nat.le_trans (facs_small (by omega) hb z hz) (Nat.pow_le_pow_right (by decide) (by decide))
    · exact Nat.le_trans (dec_small' ok l lm z hz) (Nat.pow_le_pow_right (by decide) (by decide))
    have hyl := hY.len
    rw [List.length_map, List.length_map, List.length_take] at hyl
    refine ⟨ys, s10 _ _ hB, small1000 (by omega), ⟨ys ++ [w], upd_same, ?_⟩, ?_⟩
    · rw [take_more hl, List.map_append, List.map_append]
      have tk := (Same.tk (K := K) s10).trans (tk_upd (o := .lst (ys ++ [w])) (s10 _ _ hB))
      exact (DpAll.keepT tk _ _ (to_loops _) hY).app (.cons (Dp.keepT (tk_upd (s10 _ _ hB)) _ _ (to_ints _) hw10) .nil)
    · exact fun b' o q => by
        rw [upd_ne (ne_of_none q hD3)]
        exact s10 _ _ (s8 _ _ q)
  rintro H8 ⟨⟨ys, hB, hY⟩, s8⟩
  rw [xl, List.take_length] at hY
  refine ⟨D3, _, rfl, .inl ⟨SqL.of hB, fun t ht => ?_⟩⟩
  have s9 := same_upd ht (.tup ys)
  exact k _ _ (t2.trans (s7.trans (s8.trans s9))) (.tup (SqT.of upd_same) (DpAll.same s9 _ _ hY))
end
section
variable {P : Program} {w : World} {K : PySem.W.Frag} {mg : Str → Option Value} {base : Heap}
theorem ok_deceiver_of_3 (T : Top K mg) : FnOk P w K mg base CX0 10 T.a_deceiver_of T.d_deceiver_of ["lengths"] (sp_dec 3 K) := by
  refine T.F_deceiver_of.ok sc_deceiver_of (fun vs H Q E h => ?_) (fun cdv A outer s H vs Q E hr h => ?_)
  · obtain ⟨v, ns, rfl, hv, ok, hk, hne, k⟩ := h
    rfl
  obtain ⟨v, ns, rfl, hv, ok, hk, hne, k⟩ := h
  refine ⟨_, (pss_cons (ps_set (i := 1) sc_deceiver_of.nd rfl (Or.inr rfl) (pe_call (ok_last_loop T) (hr.mono (by decide)) (by rfl) T.m_last_loop T.F_last_loop.kp T.b_last_loop .nil pass0 (pa_cons (pv 0) pa_nil)))
      (pss_cons (ps_set (i := 2) sc_deceiver_of.nd rfl (Or.inl rfl) (pe_slice (k_slT (K := K)) (pv 0) po_none (po_some (pe_un un_neg pe_int))))
      (pss_cons (ps_set (i := 3) sc_deceiver_of.nd rfl (Or.inr rfl) (pe_op op_sub (pe_call (ok_span T) (hr.mono (by decide)) (by rfl) T.m_span T.F_span.kp T.b_span .nil pass0 (pa_cons (pv 0) pa_nil)) pe_int))
      (pss_cons (ps_setLc (i := 4) (own := [("tick", 5)]) rfl sc_deceiver_of.nd rfl rfl (sw_true rfl rfl rfl (by decide +kernel)) (pi_range1 (by rfl) T.z_range (pa_cons (pe_call (ok_span T) (hr.mono (by decide)) (by rfl) T.m_span T.F_span.kp T.b_span .nil pass0 (pa_cons (pv 2) pa_nil)) pa_nil)) (blkOk_by (own := [("tick", 5)]) (N := ["lengths", "loop", "others", "last", "left", "tick"]) (sc := defScope s_deceiver_of) (by decide +kernel)) (fun _ _ _ _ _ => (pg_name (i := 5) sc_deceiver_of.nd rfl (Or.inl rfl))) (fun _ _ _ _ _ => pts_nil) (fun _ _ _ _ _ => (pe_op op_sub (pe_callTy call_int1 (by rfl) T.z_int bt_int (pa_cons (pe_cmpR op_eq (pv 5) (pv 3) (nomark _)) pa_nil)) (pe_ix (k_ixT (K := K)) (pv 1) (pe_op op_modN (pv 5) (pe_callB (k_len (K := K)) (by rfl) T.z_len bt_len (pa_cons (pv 1) pa_nil))) (fun _ _ => rfl)))))
      (pss_one (ps_ret (pe_op (k_catT (K := K)) (pe_call (ok_loops_heard_as_2 T) (hr.mono (by decide)) (by rfl) T.m_loops_heard_as T.F_loops_heard_as.kp T.b_loops_heard_as .nil pass0 (pa_cons (pv 2) (pa_cons (pe_callTy (k_tuple (K := K)) (by rfl) T.z_tuple bt_tuple (pa_cons (pv 4) pa_nil)) pa_nil))) (pe_tup (pa_cons (pv 1) pa_nil))))))))), ?_⟩
  obtain ⟨os, L, rfl⟩ : ∃ os L, ns = os ++ [L] := ⟨ns.dropLast, ns.getLast hne, (List.dropLast_concat_getLast hne).symm⟩
  have L1 := (ok.2 L (by simp)).1
  have L64 := (ok.2 L (by simp)).2
  have ok1 := okm_take ok
  refine ⟨_, rfl, v, os, L, rfl, hv, ok, fun w H1 s1 hw => ?_⟩
  repeat (first | refine ⟨_, rfl, ?_⟩ | refine ⟨_, _, rfl, rfl, ?_⟩)
  dsimp only [tC, tNoPart]
  repeat (first | refine ⟨_, rfl, ?_⟩ | refine ⟨_, _, rfl, rfl, ?_⟩)
  refine rd_cut (hv.same_at s1) fun w2 H2 s2 hw2 => ?_
  have hw2 : Dp K H2 w2 (dInts (NN os)) := by
    have e := last_cut (NN (os ++ [L]))
    rw [e] at hw2
    have e2 : (NN (os ++ [L])).dropLast = NN os := by
      unfold NN
      rw [List.map_append]
      exact List.dropLast_concat
    rw [e2] at hw2
    exact hw2
  have t2 := s1.trans s2
  refine ⟨_, rfl, v, os ++ [L], rfl, hv.same_at t2, ok, fun H3 s3 => ?_⟩
  repeat (first | refine ⟨_, rfl, ?_⟩ | refine ⟨_, _, rfl, rfl, ?_⟩)
  have d1 := due_384 ok1
  refine ⟨w2, os, rfl, hw2.same_at s3, ok1, fun H4 s4 => ?_⟩
  have t4 := s2.trans (s3.trans s4)
  have t4s1 := s1.trans t4
  obtain ⟨la, rfl, hL⟩ := (hw.same_at t4).ints
  have lL : ((lastL os L).map V.int).length = L := by rw [List.length_map, lastL_len]
  refine ⟨_, rfl, by omega, by omega, fun D hD => ?_⟩
  refine lc_it walk_range (fun i H' => H' D = some (.lst (((leftL (du (os ++ [L])) (lastL os L) (du os)).take i).map V.int)) ∧ Same H4 H') ⟨upd_same, same_upd hD _⟩ (fun _ _ _ _ => trivial) ?_ ?_
  · rintro i x H5 H6 hi ⟨hA, s5⟩ ⟨rfl, rfl⟩
    have hi : i < du os := by
      have q : i < (((dueN (NN os) : Nat) : Int)).toNat := hi
      unfold du
      omega
    refine ⟨rfl, ?_⟩
    have hL6 := Same.tk s5 _ _ hL
    refine ⟨_, rfl, _, rfl, rfl, .inr ⟨_, rfl, ?_⟩⟩
    have hix := hAt_ix (l := lastL os L) ((0 : Int) + (i : Nat)) (by rw [lastL_len]; exact L1)
    refine ⟨_, rfl, _, rfl, _, rfl, la, _, rfl, .inr hL6, _, _, rfl, rfl, by rw [lL]; omega, la, _, _, _, rfl, rfl, hL6, hix, _, _, rfl, rfl, ?_⟩
    have gi : (leftL (du (os ++ [L])) (lastL os L) (du os))[i]? = some ((if i + 1 = du (os ++ [L]) then 1 else 0) - hAt (lastL os L) (i : Int)) := tab_get hi
    have ev : (if decide (V.int ((0 : Int) + (i : Nat)) = V.int (((dueN (NN (os ++ [L])) : Nat) : Int) - 1)) = true then (1 : Int) else 0) - hAt (lastL os L) ((0 : Int) + (i : Nat)) = (if i + 1 = du (os ++ [L]) then 1 else 0) - hAt (lastL os L) (i : Int) := by
      rw [Int.zero_add]
      congr 1
      by_cases q : i + 1 = du (os ++ [L])
      · rw [if_pos q, if_pos (decide_eq_true (by unfold du at q; congr 1; omega))]
      · rw [if_neg q, if_neg (fun z => q (by
          have z := of_decide_eq_true z
          injection z with z
          unfold du
          omega))]
    refine ⟨_, hA, ?_, ?_, ?_⟩
    · rw [List.length_map, List.length_take]
      exact small1000 (by unfold du at hi; omega)
    · rw [upd_same, take_more gi, List.map_append]
      show some (HO.lst (_ ++ [V.int (_ - _)])) = _
      rw [ev]
      rfl
    · exact fun b o q => by
        rw [upd_ne (ne_of_none q hD)]
        exact s5 _ _ q
  rintro H5 ⟨hA, s5⟩
  have ll : (leftL (du (os ++ [L])) (lastL os L) (du os)).length = du os := by
    unfold leftL
    rw [List.length_map, List.length_range]
  rw [show (((dueN (NN os) : Nat) : Int)).toNat = (leftL (du (os ++ [L])) (lastL os L) (du os)).length by rw [ll]; rfl, List.take_length] at hA
  have lsm := lastL_small ok
  have left : ∀ z ∈ leftL (du (os ++ [L])) (lastL os L) (du os), z.natAbs ≤ 2 ^ 100000 := fun z hz => by
    obtain ⟨i, _, rfl⟩ := tab_mem hz
    have a := hAt_small lsm (i : Int)
    have b : (2 : Nat) ^ 27564 + 1 ≤ 2 ^ 100000 := by
      have c : (2 : Nat) ^ 27565 ≤ 2 ^ 100000 := Nat.pow_le_pow_right (by decide) (by decide)
      have d : (2 : Nat) ^ 27565 = 2 ^ 27564 * 2 := Nat.pow_succ ..
      have e : 1 ≤ (2 : Nat) ^ 27564 := Nat.two_pow_pos _
      omega
    split <;> omega
  refine ⟨_, rfl, _, rfl, D, _, rfl, .inl ⟨SqL.of hA, fun t ht => ?_⟩⟩
  have st := same_upd ht (.tup ((leftL (du (os ++ [L])) (lastL os L) (du os)).map V.int))
  have t6 := s5.trans st
  have hk2 := hk
  rw [List.length_append, List.length_singleton] at hk2
  refine ⟨w2, .ref t, os, leftL (du (os ++ [L])) (lastL os L) (du os), rfl, hw2.same_at (s3.trans (s4.trans t6)), ok1, (by omega), Dp.ofInts (SqT.of upd_same), ll, left, fun w7 H7 s7 hw7 => ?_⟩
  refine ⟨_, rfl, ?_⟩
  refine ⟨(by show 1 ≤ sizeLine; decide), fun p hp => ?_⟩
  have sp := same_upd hp (.tup [.ref la])
  have hl9 : Dp K (upd H7 p (.tup [.ref la])) (.ref p) (.tuple [dInts (lastL os L)]) := .tup (SqT.of upd_same) (.cons (Dp.ofInts (Same.tk (t6.trans (s7.trans sp)) _ _ hL)) .nil)
  have m1 := (dec_main ok1).1
  have dlen : (dec os).length = os.length := by
    have q := congrArg List.length m1
    unfold lenN at q
    rw [List.length_map] at q
    exact q
  refine rd_cat (hw7.same_at sp) hl9 ?_ fun w9 H9 s9 hw9 => ?_
  · rw [List.length_map]
    unfold lha
    rw [List.length_map, dlen]
    have := ok1.1
    exact Nat.le_of_lt (small1000 (by simp; omega))
  refine k _ _ (t4s1.trans (t6.trans (s7.trans (sp.trans s9)))) ?_
  rw [dec_snoc]
  show Dp K H9 w9 (.tuple ((lha os (leftL (du (os ++ [L])) (lastL os L) (du os)) ++ [lastL os L]).map dInts))
  rw [List.map_append]
  exact hw9
end
section
variable {P : Program} {w : World} {K : PySem.W.Frag} {mg : Str → Option Value} {base : Heap}
theorem ok_loops_heard_as_3 (T : Top K mg) : FnOk P w K mg base CX0 11 T.a_loops_heard_as T.d_loops_heard_as ["lengths", "row"] (sp_lha 3 K) := by
  refine T.F_loops_heard_as.ok sc_loops_heard_as (fun vs H Q E h => ?_) (fun cdv A outer s H vs Q E hr h => ?_)
  · obtain ⟨v, r, ns, row, rfl, hv, ok, hk, hw, hrl, hb, k⟩ := h
    rfl
  obtain ⟨v, r, ns, row, rfl, hv, ok, hk, hw, hrl, hb, k⟩ := h
  refine ⟨_, (pss_cons (ps_if (pt_cmpR op_eq (pe_callB (k_len (K := K)) (by rfl) T.z_len bt_len (pa_cons (pv 0) pa_nil)) pe_int (nomark _)) (pss_one (ps_ret (pe_tup pa_nil))) pss_nil)
      (pss_cons (ps_set (i := 2) sc_loops_heard_as.nd rfl (Or.inr rfl) (pe_call (ok_weights T) (hr.mono (by decide)) (by rfl) T.m_weights T.F_weights.kp T.b_weights .nil pass0 (pa_cons (pv 0) pa_nil)))
      (pss_cons (ps_set (i := 3) sc_loops_heard_as.nd rfl (Or.inr rfl) (pe_callB (k_len (K := K)) (by rfl) T.z_len bt_len (pa_cons (pv 1) pa_nil)))
      (pss_cons (ps_set (i := 4) sc_loops_heard_as.nd rfl (Or.inr rfl) (pe_lc (own := [("tick", 5)]) rfl sc_loops_heard_as.nd (pi_range1 (by rfl) T.z_range (pa_cons (pv 3) pa_nil)) (blkOk_by (own := [("tick", 5)]) (N := ["lengths", "row", "known", "many", "factors", "tick", "loop"]) (sc := defScope s_loops_heard_as) (by decide +kernel)) (fun _ _ _ _ _ => (pg_name (i := 5) sc_loops_heard_as.nd rfl (Or.inl rfl))) (fun _ _ _ _ _ => pts_nil) (fun _ _ _ _ _ => (pe_call (ok_weighted T) (hr.mono (by decide)) (by rfl) T.m_weighted T.F_weighted.kp T.b_weighted .nil pass0 (pa_cons (pe_slice (k_slT (K := K)) (pv 2) (po_some (pe_op op_sub (pv 3) (pv 5))) po_none) (pa_cons (pv 1) pa_nil))))))
      (pss_one (ps_ret (pe_callTy (k_tuple (K := K)) (by rfl) T.z_tuple bt_tuple (pa_cons (pe_lc (own := [("loop", 6)]) rfl sc_loops_heard_as.nd (k_piT (K := K) (pe_call (ok_deceiver_of_3 T) (hr.mono (by decide)) (by rfl) T.m_deceiver_of T.F_deceiver_of.kp T.b_deceiver_of .nil pass0 (pa_cons (pv 0) pa_nil))) (blkOk_by (own := [("loop", 6)]) (N := ["lengths", "row", "known", "many", "factors", "tick", "loop"]) (sc := defScope s_loops_heard_as) (by decide +kernel)) (fun _ _ _ _ _ => (pg_name (i := 6) sc_loops_heard_as.nd rfl (Or.inl rfl))) (fun _ _ _ _ _ => pts_nil) (fun _ _ _ _ _ => (pe_call (ok_mixed T) (hr.mono (by decide)) (by rfl) T.m_mixed T.F_mixed.kp T.b_mixed .nil pass0 (pa_cons (pv 6) (pa_cons (pv 4) pa_nil))))) pa_nil)))))))), ?_⟩
  obtain ⟨va, rfl, hT⟩ := hv.ints
  obtain ⟨ra, rfl, hR⟩ := hw.ints
  have lN : ((NN ns).map V.int).length = ns.length := by rw [List.length_map, nn_len]
  have lR : (row.map V.int).length = row.length := List.length_map ..
  refine ⟨_, rfl, va, _, rfl, .inr hT, rfl, _, rfl, ?_⟩
  rw [lN]
  refine ite2 (fun cc => ?_) (fun cc => ?_)
  · have e0 : ns = [] := by
      have cc := of_decide_eq_true cc
      injection cc with cc
      exact List.length_eq_zero_iff.mp (by omega)
    subst e0
    refine ⟨(by show 0 ≤ sizeLine; decide), fun p hp => ?_⟩
    exact k _ _ (same_upd hp _) (.tup (SqT.of upd_same) .nil)
  have ne : ns ≠ [] := fun z => by
    rw [z] at cc
    exact absurd cc (by decide)
  refine ⟨_, rfl, .ref va, ns, rfl, Dp.ofInts hT, ok, fun wv H1 s1 hwv => ?_⟩
  refine ⟨_, rfl, ra, _, rfl, .inr (Same.tk s1 _ _ hR), ?_⟩
  rw [lR]
  have d384 := due_384 ok
  have rl : row.length ≤ 384 := by rw [hrl]; exact d384
  have wll := wl_len ok
  refine ⟨_, rfl, _, rfl, by omega, by omega, fun D hD => ?_⟩
  refine lc_it walk_range (fun i H' => H' D = some (.lst (((facs (wl ns) row).take i).map V.int)) ∧ Same H1 H') ⟨upd_same, same_upd hD _⟩ (fun _ _ _ _ => trivial) ?_ ?_
  · rintro i x H2 H3 hi ⟨hA, s2⟩ ⟨rfl, rfl⟩
    have hi : i < row.length := by omega
    refine ⟨rfl, ?_⟩
    refine ⟨_, rfl, _, rfl, _, rfl, _, _, rfl, rfl, ?_⟩
    dsimp only [tNoPart]
    refine ⟨_, rfl, rd_cut (hwv.same_at s2) fun w4 H4 s4 hw4 => ?_⟩
    have e : ((row.length : Nat) : Int) - (0 + (i : Nat)) = ((row.length - i : Nat) : Int) := by omega
    have hw4 : Dp K H4 w4 (dInts ((wl ns).drop (row.length - i))) := by
      have q := hw4
      rw [e, cutD_fromN, ← List.map_drop] at q
      exact q
    obtain ⟨a4, rfl, hT4⟩ := hw4.ints
    have t4 := s1.trans (s2.trans s4)
    refine ⟨_, rfl, .tup, .tup, a4, ra, (wl ns).drop (row.length - i), row, rfl, hT4, Same.tk t4 _ _ hR, ⟨by rw [List.length_drop]; omega, by omega, fun x hx y hy => ?_⟩, fun H5 s5 => ?_⟩
    · have p := log_of (wl_small ns x (List.mem_of_mem_drop hx))
      have q := log_of (hb y hy)
      omega
    have gi : (facs (wl ns) row)[i]? = some (dotz ((wl ns).drop (row.length - i)) row) := tab_get hi
    refine ⟨_, (s4.trans s5) _ _ hA, ?_, ?_, ?_⟩
    · rw [List.length_map, List.length_take]
      exact small1000 (by omega)
    · rw [upd_same, take_more gi, List.map_append]
      rfl
    · exact fun b o q => by
        rw [upd_ne (ne_of_none q hD)]
        exact s5 _ _ (s4 _ _ (s2 _ _ q))
  rintro H2 ⟨hA, s2⟩
  rw [show (((row.length : Nat) : Int)).toNat = (facs (wl ns) row).length by rw [facs_len]; rfl, List.take_length] at hA
  have t2 := s1.trans s2
  refine ⟨_, rfl, .ref va, ns, rfl, Dp.ofInts (Same.tk t2 _ _ hT), ok, hk, ne, fun wd H7 s7 hwd => ?_⟩
  obtain ⟨da, xs, rfl, hTd, hXd⟩ := hwd.tuple
  have dl := (dec_main ok).1
  have xl := hXd.len
  rw [List.length_map] at xl
  have dlen : (dec ns).length = ns.length := by
    have q := congrArg List.length dl
    unfold lenN at q
    rw [List.length_map] at q
    exact q
  have n6 := ok.1
  refine ⟨da, rfl, ⟨_, hTd⟩, fun D3 hD3 => ?_⟩
  refine lc_it walk_tup (fun i H' => (∃ ys, H' D3 = some (.lst ys) ∧ DpAll K H' ys ((((dec ns).take i).map fun l => mixL l (facs (wl ns) row)).map dInts)) ∧ Same H7 H') ⟨⟨_, upd_same, .nil⟩, same_upd hD3 _⟩ (fun i H' _ p => Same.tk p.2 _ _ hTd) ?_ ?_
  · rintro i x H8 H9 hi ⟨⟨ys, hB, hY⟩, s8⟩ ⟨rfl, hx⟩
    obtain ⟨l, b, hl, rfl, hBl⟩ := loops_get hXd hx
    have lm := List.mem_of_getElem? hl
    have lin : l.length ∈ ns := by
      have q := List.mem_map_of_mem (f := List.length) lm
      have e : (dec ns).map List.length = ns := dl
      rw [e] at q
      exact q
    have lb := ok.2 _ lin
    refine ⟨rfl, ?_⟩
    refine ⟨_, rfl, _, rfl, .ref b, D, l, _, rfl, Dp.ofInts (Same.tk s8 _ _ hBl), s8 _ _ (s7 _ _ hA), lb.1, lb.2, by rw [facs_len]; omega, fun z hz => ?_, fun z hz => ?_, fun w H10 s10 hw10 => ?_⟩
    · exact Nat.le_trans (facs_small (by omega) hb z hz) (Nat.pow_le_pow_right (by decide) (by decide))
    · exact Nat.le_trans (dec_small' ok l lm z hz) (Nat.pow_le_pow_right (by decide) (by decide))
    have hyl := hY.len
    rw [List.length_map, List.length_map, List.length_take] at hyl
    refine ⟨ys, s10 _ _ hB, small1000 (by omega), ⟨ys ++ [w], upd_same, ?_⟩, ?_⟩
    · rw [take_more hl, List.map_append, List.map_append]
      have tk := (Same.tk (K := K) s10).trans (tk_upd (o := .lst (ys ++ [w])) (s10 _ _ hB))
      exact (DpAll.keepT tk _ _ (to_loops _) hY).app (.cons (Dp.keepT (tk_upd (s10 _ _ hB)) _ _ (to_ints _) hw10) .nil)
    · exact fun b' o q => by
        rw [upd_ne (ne_of_none q hD3)]
        exact s10 _ _ (s8 _ _ q)
  rintro H8 ⟨⟨ys, hB, hY⟩, s8⟩
  rw [xl, List.take_length] at hY
  refine ⟨D3, _, rfl, .inl ⟨SqL.of hB, fun t ht => ?_⟩⟩
  have s9 := same_upd ht (.tup ys)
  exact k _ _ (t2.trans (s7.trans (s8.trans s9))) (.tup (SqT.of upd_same) (DpAll.same s9 _ _ hY))
end
section
variable {P : Program} {w : World} {K : PySem.W.Frag} {mg : Str → Option Value} {base : Heap}
theorem ok_deceiver_of_4 (T : Top K mg) : FnOk P w K mg base CX0 12 T.a_deceiver_of T.d_deceiver_of ["lengths"] (sp_dec 4 K) := by
  refine T.F_deceiver_of.ok sc_deceiver_of (fun vs H Q E h => ?_) (fun cdv A outer s H vs Q E hr h => ?_)
  · obtain ⟨v, ns, rfl, hv, ok, hk, hne, k⟩ := h
    rfl
  obtain ⟨v, ns, rfl, hv, ok, hk, hne, k⟩ := h
  refine ⟨_, (pss_cons (ps_set (i := 1) sc_deceiver_of.nd rfl (Or.inr rfl) (pe_call (ok_last_loop T) (hr.mono (by decide)) (by rfl) T.m_last_loop T.F_last_loop.kp T.b_last_loop .nil pass0 (pa_cons (pv 0) pa_nil)))
      (pss_cons (ps_set (i := 2) sc_deceiver_of.nd rfl (Or.inl rfl) (pe_slice (k_slT (K := K)) (pv 0) po_none (po_some (pe_un un_neg pe_int))))
      (pss_cons (ps_set (i := 3) sc_deceiver_of.nd rfl (Or.inr rfl) (pe_op op_sub (pe_call (ok_span T) (hr.mono (by decide)) (by rfl) T.m_span T.F_span.kp T.b_span .nil pass0 (pa_cons (pv 0) pa_nil)) pe_int))
      (pss_cons (ps_setLc (i := 4) (own := [("tick", 5)]) rfl sc_deceiver_of.nd rfl rfl (sw_true rfl rfl rfl (by decide +kernel)) (pi_range1 (by rfl) T.z_range (pa_cons (pe_call (ok_span T) (hr.mono (by decide)) (by rfl) T.m_span T.F_span.kp T.b_span .nil pass0 (pa_cons (pv 2) pa_nil)) pa_nil)) (blkOk_by (own := [("tick", 5)]) (N := ["lengths", "loop", "others", "last", "left", "tick"]) (sc := defScope s_deceiver_of) (by decide +kernel)) (fun _ _ _ _ _ => (pg_name (i := 5) sc_deceiver_of.nd rfl (Or.inl rfl))) (fun _ _ _ _ _ => pts_nil) (fun _ _ _ _ _ => (pe_op op_sub (pe_callTy call_int1 (by rfl) T.z_int bt_int (pa_cons (pe_cmpR op_eq (pv 5) (pv 3) (nomark _)) pa_nil)) (pe_ix (k_ixT (K := K)) (pv 1) (pe_op op_modN (pv 5) (pe_callB (k_len (K := K)) (by rfl) T.z_len bt_len (pa_cons (pv 1) pa_nil))) (fun _ _ => rfl)))))
      (pss_one (ps_ret (pe_op (k_catT (K := K)) (pe_call (ok_loops_heard_as_3 T) (hr.mono (by decide)) (by rfl) T.m_loops_heard_as T.F_loops_heard_as.kp T.b_loops_heard_as .nil pass0 (pa_cons (pv 2) (pa_cons (pe_callTy (k_tuple (K := K)) (by rfl) T.z_tuple bt_tuple (pa_cons (pv 4) pa_nil)) pa_nil))) (pe_tup (pa_cons (pv 1) pa_nil))))))))), ?_⟩
  obtain ⟨os, L, rfl⟩ : ∃ os L, ns = os ++ [L] := ⟨ns.dropLast, ns.getLast hne, (List.dropLast_concat_getLast hne).symm⟩
  have L1 := (ok.2 L (by simp)).1
  have L64 := (ok.2 L (by simp)).2
  have ok1 := okm_take ok
  refine ⟨_, rfl, v, os, L, rfl, hv, ok, fun w H1 s1 hw => ?_⟩
  repeat (first | refine ⟨_, rfl, ?_⟩ | refine ⟨_, _, rfl, rfl, ?_⟩)
  dsimp only [tC, tNoPart]
  repeat (first | refine ⟨_, rfl, ?_⟩ | refine ⟨_, _, rfl, rfl, ?_⟩)
  refine rd_cut (hv.same_at s1) fun w2 H2 s2 hw2 => ?_
  have hw2 : Dp K H2 w2 (dInts (NN os)) := by
    have e := last_cut (NN (os ++ [L]))
    rw [e] at hw2
    have e2 : (NN (os ++ [L])).dropLast = NN os := by
      unfold NN
      rw [List.map_append]
      exact List.dropLast_concat
    rw [e2] at hw2
    exact hw2
  have t2 := s1.trans s2
  refine ⟨_, rfl, v, os ++ [L], rfl, hv.same_at t2, ok, fun H3 s3 => ?_⟩
  repeat (first | refine ⟨_, rfl, ?_⟩ | refine ⟨_, _, rfl, rfl, ?_⟩)
  have d1 := due_384 ok1
  refine ⟨w2, os, rfl, hw2.same_at s3, ok1, fun H4 s4 => ?_⟩
  have t4 := s2.trans (s3.trans s4)
  have t4s1 := s1.trans t4
  obtain ⟨la, rfl, hL⟩ := (hw.same_at t4).ints
  have lL : ((lastL os L).map V.int).length = L := by rw [List.length_map, lastL_len]
  refine ⟨_, rfl, by omega, by omega, fun D hD => ?_⟩
  refine lc_it walk_range (fun i H' => H' D = some (.lst (((leftL (du (os ++ [L])) (lastL os L) (du os)).take i).map V.int)) ∧ Same H4 H') ⟨upd_same, same_upd hD _⟩ (fun _ _ _ _ => trivial) ?_ ?_
  · rintro i x H5 H6 hi ⟨hA, s5⟩ ⟨rfl, rfl⟩
    have hi : i < du os := by
      have q : i < (((dueN (NN os) : Nat) : Int)).toNat := hi
      unfold du
      omega
    refine ⟨rfl, ?_⟩
    have hL6 := Same.tk s5 _ _ hL
    refine ⟨_, rfl, _, rfl, rfl, .inr ⟨_, rfl, ?_⟩⟩
    have hix := hAt_ix (l := lastL os L) ((0 : Int) + (i : Nat)) (by rw [lastL_len]; exact L1)
    refine ⟨_, rfl, _, rfl, _, rfl, la, _, rfl, .inr hL6, _, _, rfl, rfl, by rw [lL]; omega, la, _, _, _, rfl, rfl, hL6, hix, _, _, rfl, rfl, ?_⟩
    have gi : (leftL (du (os ++ [L])) (lastL os L) (du os))[i]? = some ((if i + 1 = du (os ++ [L]) then 1 else 0) - hAt (lastL os L) (i : Int)) := tab_get hi
    have ev : (if decide (V.int ((0 : Int) + (i : Nat)) = V.int (((dueN (NN (os ++ [L])) : Nat) : Int) - 1)) = true then (1 : Int) else 0) - hAt (lastL os L) ((0 : Int) + (i : Nat)) = (if i + 1 = du (os ++ [L]) then 1 else 0) - hAt (lastL os L) (i : Int) := by
      rw [Int.zero_add]
      congr 1
      by_cases q : i + 1 = du (os ++ [L])
      · rw [if_pos q, if_pos (decide_eq_true (by unfold du at q; congr 1; omega))]
      · rw [if_neg q, if_neg (fun z => q (by
          have z := of_decide_eq_true z
          injection z with z
          unfold du
          omega))]
    refine ⟨_, hA, ?_, ?_, ?_⟩
    · rw [List.length_map, List.length_take]
      exact small1000 (by unfold du at hi; omega)
    · rw [upd_same, take_more gi, List.map_append]
      show some (HO.lst (_ ++ [V.int (_ - _)])) = _
      rw [ev]
      rfl
    · exact fun b o q => by
        rw [upd_ne (ne_of_none q hD)]
        exact s5 _ _ q
  rintro H5 ⟨hA, s5⟩
  have ll : (leftL (du (os ++ [L])) (lastL os L) (du os)).length = du os := by
    unfold leftL
    rw [List.length_map, List.length_range]
  rw [show (((dueN (NN os) : Nat) : Int)).toNat = (leftL (du (os ++ [L])) (lastL os L) (du os)).length by rw [ll]; rfl, List.take_length] at hA
  have lsm := lastL_small ok
  have left : ∀ z ∈ leftL (du (os ++ [L])) (lastL os L) (du os), z.natAbs ≤ 2 ^ 100000 := fun z hz => by
    obtain ⟨i, _, rfl⟩ := tab_mem hz
    have a := hAt_small lsm (i : Int)
    have b : (2 : Nat) ^ 27564 + 1 ≤ 2 ^ 100000 := by
      have c : (2 : Nat) ^ 27565 ≤ 2 ^ 100000 := Nat.pow_le_pow_right (by decide) (by decide)
      have d : (2 : Nat) ^ 27565 = 2 ^ 27564 * 2 := Nat.pow_succ ..
      have e : 1 ≤ (2 : Nat) ^ 27564 := Nat.two_pow_pos _
      omega
    split <;> omega
  refine ⟨_, rfl, _, rfl, D, _, rfl, .inl ⟨SqL.of hA, fun t ht => ?_⟩⟩
  have st := same_upd ht (.tup ((leftL (du (os ++ [L])) (lastL os L) (du os)).map V.int))
  have t6 := s5.trans st
  have hk2 := hk
  rw [List.length_append, List.length_singleton] at hk2
  refine ⟨w2, .ref t, os, leftL (du (os ++ [L])) (lastL os L) (du os), rfl, hw2.same_at (s3.trans (s4.trans t6)), ok1, (by omega), Dp.ofInts (SqT.of upd_same), ll, left, fun w7 H7 s7 hw7 => ?_⟩
  refine ⟨_, rfl, ?_⟩
  refine ⟨(by show 1 ≤ sizeLine; decide), fun p hp => ?_⟩
  have sp := same_upd hp (.tup [.ref la])
  have hl9 : Dp K (upd H7 p (.tup [.ref la])) (.ref p) (.tuple [dInts (lastL os L)]) := .tup (SqT.of upd_same) (.cons (Dp.ofInts (Same.tk (t6.trans (s7.trans sp)) _ _ hL)) .nil)
  have m1 := (dec_main ok1).1
  have dlen : (dec os).length = os.length := by
    have q := congrArg List.length m1
    unfold lenN at q
    rw [List.length_map] at q
    exact q
  refine rd_cat (hw7.same_at sp) hl9 ?_ fun w9 H9 s9 hw9 => ?_
  · rw [List.length_map]
    unfold lha
    rw [List.length_map, dlen]
    have := ok1.1
    exact Nat.le_of_lt (small1000 (by simp; omega))
  refine k _ _ (t4s1.trans (t6.trans (s7.trans (sp.trans s9)))) ?_
  rw [dec_snoc]
  show Dp K H9 w9 (.tuple ((lha os (leftL (du (os ++ [L])) (lastL os L) (du os)) ++ [lastL os L]).map dInts))
  rw [List.map_append]
  exact hw9
end
section
variable {P : Program} {w : World} {K : PySem.W.Frag} {mg : Str → Option Value} {base : Heap}
theorem ok_loops_heard_as_4 (T : Top K mg) : FnOk P w K mg base CX0 13 T.a_loops_heard_as T.d_loops_heard_as ["lengths", "row"] (sp_lha 4 K) := by
  refine T.F_loops_heard_as.ok sc_loops_heard_as (fun vs H Q E h => ?_) (fun cdv A outer s H vs Q E hr h => ?_)
  · obtain ⟨v, r, ns, row, rfl, hv, ok, hk, hw, hrl, hb, k⟩ := h
    rfl
  obtain ⟨v, r, ns, row, rfl, hv, ok, hk, hw, hrl, hb, k⟩ := h
  refine ⟨_, (pss_cons (ps_if (pt_cmpR op_eq (pe_callB (k_len (K := K)) (by rfl) T.z_len bt_len (pa_cons (pv 0) pa_nil)) pe_int (nomark _)) (pss_one (ps_ret (pe_tup pa_nil))) pss_nil)
      (pss_cons (ps_set (i := 2) sc_loops_heard_as.nd rfl (Or.inr rfl) (pe_call (ok_weights T) (hr.mono (by decide)) (by rfl) T.m_weights T.F_weights.kp T.b_weights .nil pass0 (pa_cons (pv 0) pa_nil)))
      (pss_cons (ps_set (i := 3) sc_loops_heard_as.nd rfl (Or.inr rfl) (pe_callB (k_len (K := K)) (by rfl) T.z_len bt_len (pa_cons (pv 1) pa_nil)))
      (pss_cons (ps_set (i := 4) sc_loops_heard_as.nd rfl (Or.inr rfl) (pe_lc (own := [("tick", 5)]) rfl sc_loops_heard_as.nd (pi_range1 (by rfl) T.z_range (pa_cons (pv 3) pa_nil)) (blkOk_by (own := [("tick", 5)]) (N := ["lengths", "row", "known", "many", "factors", "tick", "loop"]) (sc := defScope s_loops_heard_as) (by decide +kernel)) (fun _ _ _ _ _ => (pg_name (i := 5) sc_loops_heard_as.nd rfl (Or.inl rfl))) (fun _ _ _ _ _ => pts_nil) (fun _ _ _ _ _ => (pe_call (ok_weighted T) (hr.mono (by decide)) (by rfl) T.m_weighted T.F_weighted.kp T.b_weighted .nil pass0 (pa_cons (pe_slice (k_slT (K := K)) (pv 2) (po_some (pe_op op_sub (pv 3) (pv 5))) po_none) (pa_cons (pv 1) pa_nil))))))
      (pss_one (ps_ret (pe_callTy (k_tuple (K := K)) (by rfl) T.z_tuple bt_tuple (pa_cons (pe_lc (own := [("loop", 6)]) rfl sc_loops_heard_as.nd (k_piT (K := K) (pe_call (ok_deceiver_of_4 T) (hr.mono (by decide)) (by rfl) T.m_deceiver_of T.F_deceiver_of.kp T.b_deceiver_of .nil pass0 (pa_cons (pv 0) pa_nil))) (blkOk_by (own := [("loop", 6)]) (N := ["lengths", "row", "known", "many", "factors", "tick", "loop"]) (sc := defScope s_loops_heard_as) (by decide +kernel)) (fun _ _ _ _ _ => (pg_name (i := 6) sc_loops_heard_as.nd rfl (Or.inl rfl))) (fun _ _ _ _ _ => pts_nil) (fun _ _ _ _ _ => (pe_call (ok_mixed T) (hr.mono (by decide)) (by rfl) T.m_mixed T.F_mixed.kp T.b_mixed .nil pass0 (pa_cons (pv 6) (pa_cons (pv 4) pa_nil))))) pa_nil)))))))), ?_⟩
  obtain ⟨va, rfl, hT⟩ := hv.ints
  obtain ⟨ra, rfl, hR⟩ := hw.ints
  have lN : ((NN ns).map V.int).length = ns.length := by rw [List.length_map, nn_len]
  have lR : (row.map V.int).length = row.length := List.length_map ..
  refine ⟨_, rfl, va, _, rfl, .inr hT, rfl, _, rfl, ?_⟩
  rw [lN]
  refine ite2 (fun cc => ?_) (fun cc => ?_)
  · have e0 : ns = [] := by
      have cc := of_decide_eq_true cc
      injection cc with cc
      exact List.length_eq_zero_iff.mp (by omega)
    subst e0
    refine ⟨(by show 0 ≤ sizeLine; decide), fun p hp => ?_⟩
    exact k _ _ (same_upd hp _) (.tup (SqT.of upd_same) .nil)
  have ne : ns ≠ [] := fun z => by
    rw [z] at cc
    exact absurd cc (by decide)
  refine ⟨_, rfl, .ref va, ns, rfl, Dp.ofInts hT, ok, fun wv H1 s1 hwv => ?_⟩
  refine ⟨_, rfl, ra, _, rfl, .inr (Same.tk s1 _ _ hR), ?_⟩
  rw [lR]
  have d384 := due_384 ok
  have rl : row.length ≤ 384 := by rw [hrl]; exact d384
  have wll := wl_len ok
  refine ⟨_, rfl, _, rfl, by omega, by omega, fun D hD => ?_⟩
  refine lc_it walk_range (fun i H' => H' D = some (.lst (((facs (wl ns) row).take i).map V.int)) ∧ Same H1 H') ⟨upd_same, same_upd hD _⟩ (fun _ _ _ _ => trivial) ?_ ?_
  · rintro i x H2 H3 hi ⟨hA, s2⟩ ⟨rfl, rfl⟩
    have hi : i < row.length := by omega
    refine ⟨rfl, ?_⟩
    refine ⟨_, rfl, _, rfl, _, rfl, _, _, rfl, rfl, ?_⟩
    dsimp only [tNoPart]
    refine ⟨_, rfl, rd_cut (hwv.same_at s2) fun w4 H4 s4 hw4 => ?_⟩
    have e : ((row.length : Nat) : Int) - (0 + (i : Nat)) = ((row.length - i : Nat) : Int) := by omega
    have hw4 : Dp K H4 w4 (dInts ((wl ns).drop (row.length - i))) := by
      have q := hw4
      rw [e, cutD_fromN, ← List.map_drop] at q
      exact q
    obtain ⟨a4, rfl, hT4⟩ := hw4.ints
    have t4 := s1.trans (s2.trans s4)
    refine ⟨_, rfl, .tup, .tup, a4, ra, (wl ns).drop (row.length - i), row, rfl, hT4, Same.tk t4 _ _ hR, ⟨by rw [List.length_drop]; omega, by omega, fun x hx y hy => ?_⟩, fun H5 s5 => ?_⟩
    · have p := log_of (wl_small ns x (List.mem_of_mem_drop hx))
      have q := log_of (hb y hy)
      omega
    have gi : (facs (wl ns) row)[i]? = some (dotz ((wl ns).drop (row.length - i)) row) := tab_get hi
    refine ⟨_, (s4.trans s5) _ _ hA, ?_, ?_, ?_⟩
    · rw [List.length_map, List.length_take]
      exact small1000 (by omega)
    · rw [upd_same, take_more gi, List.map_append]
      rfl
    · exact fun b o q => by
        rw [upd_ne (ne_of_none q hD)]
        exact s5 _ _ (s4 _ _ (s2 _ _ q))
  rintro H2 ⟨hA, s2⟩
  rw [show (((row.length : Nat) : Int)).toNat = (facs (wl ns) row).length by rw [facs_len]; rfl, List.take_length] at hA
  have t2 := s1.trans s2
  refine ⟨_, rfl, .ref va, ns, rfl, Dp.ofInts (Same.tk t2 _ _ hT), ok, hk, ne, fun wd H7 s7 hwd => ?_⟩
  obtain ⟨da, xs, rfl, hTd, hXd⟩ := hwd.tuple
  have dl := (dec_main ok).1
  have xl := hXd.len
  rw [List.length_map] at xl
  have dlen : (dec ns).length = ns.length := by
    have q := congrArg List.length dl
    unfold lenN at q
    rw [List.length_map] at q
    exact q
  have n6 := ok.1
  refine ⟨da, rfl, ⟨_, hTd⟩, fun D3 hD3 => ?_⟩
  refine lc_it walk_tup (fun i H' => (∃ ys, H' D3 = some (.lst ys) ∧ DpAll K H' ys ((((dec ns).take i).map fun l => mixL l (facs (wl ns) row)).map dInts)) ∧ Same H7 H') ⟨⟨_, upd_same, .nil⟩, same_upd hD3 _⟩ (fun i H' _ p => Same.tk p.2 _ _ hTd) ?_ ?_
  · rintro i x H8 H9 hi ⟨⟨ys, hB, hY⟩, s8⟩ ⟨rfl, hx⟩
    obtain ⟨l, b, hl, rfl, hBl⟩ := loops_get hXd hx
    have lm := List.mem_of_getElem? hl
    have lin : l.length ∈ ns := by
      have q := List.mem_map_of_mem (f := List.length) lm
      have e : (dec ns).map List.length = ns := dl
      rw [e] at q
      exact q
    have lb := ok.2 _ lin
    refine ⟨rfl, ?_⟩
    refine ⟨_, rfl, _, rfl, .ref b, D, l, _, rfl, Dp.ofInts (Same.tk s8 _ _ hBl), s8 _ _ (s7 _ _ hA), lb.1, lb.2, by rw [facs_len]; omega, fun z hz => ?_, fun z hz => ?_, fun w H10 s10 hw10 => ?_⟩
    · exact Nat.le_trans (facs_small (by omega) hb z hz) (Nat.pow_le_pow_right (by decide) (by decide))
    · exact Nat.le_trans (dec_small' ok l lm z hz) (Nat.pow_le_pow_right (by decide) (by decide))
    have hyl := hY.len
    rw [List.length_map, List.length_map, List.length_take] at hyl
    refine ⟨ys, s10 _ _ hB, small1000 (by omega), ⟨ys ++ [w], upd_same, ?_⟩, ?_⟩
    · rw [take_more hl, List.map_append, List.map_append]
      have tk := (Same.tk (K := K) s10).trans (tk_upd (o := .lst (ys ++ [w])) (s10 _ _ hB))
      exact (DpAll.keepT tk _ _ (to_loops _) hY).app (.cons (Dp.keepT (tk_upd (s10 _ _ hB)) _ _ (to_ints _) hw10) .nil)
    · exact fun b' o q => by
        rw [upd_ne (ne_of_none q hD3)]
        exact s10 _ _ (s8 _ _ q)
  rintro H8 ⟨⟨ys, hB, hY⟩, s8⟩
  rw [xl, List.take_length] at hY
  refine ⟨D3, _, rfl, .inl ⟨SqL.of hB, fun t ht => ?_⟩⟩
  have s9 := same_upd ht (.tup ys)
  exact k _ _ (t2.trans (s7.trans (s8.trans s9))) (.tup (SqT.of upd_same) (DpAll.same s9 _ _ hY))
end
theorem ok_loops_heard_as {P : Program} {w : World} {K : PySem.W.Frag} {mg : Str → Option Value} {base : Heap} (T : Top K mg) : FnOk P w K mg base CX0 13 T.a_loops_heard_as T.d_loops_heard_as ["lengths", "row"] (sp_lha 4 K) := ok_loops_heard_as_4 T
theorem ok_deceiver_of {P : Program} {w : World} {K : PySem.W.Frag} {mg : Str → Option Value} {base : Heap} (T : Top K mg) : FnOk P w K mg base CX0 12 T.a_deceiver_of T.d_deceiver_of ["lengths"] (sp_dec 4 K) := ok_deceiver_of_4 T
section
variable {P : Program} {w : World} {K : PySem.W.Frag} {mg : Str → Option Value} {base : Heap}
theorem ok_fit (T : Top K mg) : FnOk P w K mg base CX0 14 T.a_fit T.d_fit ["lengths", "row"] (sp_fit K) := by
  refine T.F_fit.ok sc_fit (fun vs H Q E h => ?_) (fun cdv A outer s H vs Q E hr h => ?_)
  · obtain ⟨v, r, ns, row, rfl, hv, ok, hw, hl, hb, k⟩ := h
    rfl
  obtain ⟨v, r, ns, row, rfl, hv, ok, hw, hl, hb, k⟩ := h
  refine ⟨_, (pss_cons (ps_expr (pe_call (ok_need_few T) (hr.mono (by decide)) (by rfl) T.m_need_few T.F_need_few.kp T.b_need_few .nil pass0 (pa_cons (pv 0) pa_nil)))
      (pss_cons (ps_expr (pe_call (ok_need_samples T) (hr.mono (by decide)) (by rfl) T.m_need_samples T.F_need_samples.kp T.b_need_samples .nil pass0 (pa_cons (pv 1) pa_nil)))
      (pss_cons (ps_set (i := 2) sc_fit.nd rfl (Or.inl rfl) (pe_call (ok_weights T) (hr.mono (by decide)) (by rfl) T.m_weights T.F_weights.kp T.b_weights .nil pass0 (pa_cons (pv 0) pa_nil)))
      (pss_cons (ps_set (i := 3) sc_fit.nd rfl (Or.inl rfl) (pe_call (ok_first_ground T) (hr.mono (by decide)) (by rfl) T.m_first_ground T.F_first_ground.kp T.b_first_ground .nil pass0 (pa_cons (pv 2) (pa_cons (pv 1) pa_nil))))
      (pss_cons (ps_if (pt_cmpR op_notN (pv 3) pe_non (nomark _)) (pss_one (ps_ret (pe_tup (pa_cons pe_str (pa_cons (pv 3) pa_nil))))) pss_nil)
      (pss_cons (ps_set (i := 4) sc_fit.nd rfl (Or.inl rfl) (pe_op op_sub (pe_callB (k_len (K := K)) (by rfl) T.z_len bt_len (pa_cons (pv 2) pa_nil)) pe_int))
      (pss_cons (ps_set (i := 5) sc_fit.nd rfl (Or.inl rfl) (pe_op (k_catT (K := K)) (pe_slice (k_slT (K := K)) (pv 1) po_none (po_some (pv 4))) (pe_op (op_repA (K := K)) (pe_tup (pa_cons pe_int pa_nil)) (pe_op op_sub (pv 4) (pe_callB (k_len (K := K)) (by rfl) T.z_len bt_len (pa_cons (pv 1) pa_nil))))))
      (pss_one (ps_ret (pe_tup (pa_cons pe_str (pa_cons (pe_call (ok_loops_heard_as T) (hr.mono (by decide)) (by rfl) T.m_loops_heard_as T.F_loops_heard_as.kp T.b_loops_heard_as .nil pass0 (pa_cons (pv 0) (pa_cons (pv 5) pa_nil))) pa_nil)))))))))))), ?_⟩
  obtain ⟨n4, n24⟩ := id ok
  refine ⟨_, rfl, v, ns, rfl, hv, ok, fun H1 s1 => ?_⟩
  refine ⟨_, rfl, r, row, rfl, hw.same_at s1, hl, fun H2 s2 => ?_⟩
  have t2 := s1.trans s2
  refine ⟨_, rfl, v, ns, rfl, hv.same_at t2, ok.m, fun wv H3 s3 hwv => ?_⟩
  have hwv : Dp K H3 wv (dInts (wl ns)) := hwv
  have wll := wl_len ok.m
  have d96 := du_96 ok
  refine ⟨_, rfl, _, rfl, wv, r, wl ns, row, rfl, hwv, hw.same_at (t2.trans s3), by omega, by omega, by omega, wl_small ns, hb, fun x H4 s4 h1 h2 => ?_⟩
  have t4 := t2.trans (s3.trans s4)
  cases hg : gfind (wl ns) row with
  | some a =>
    obtain ⟨b, rfl, hbD⟩ := h2 a hg
    refine ⟨_, rfl, rfl, _, rfl, ?_⟩
    rw [decide_eq_false (fun z => by cases z)]
    refine iteT ?_
    refine ⟨_, rfl, (by show 2 ≤ sizeLine; decide), fun p hp => ?_⟩
    have sp := same_upd hp (.tup [.str "none", .ref b])
    refine k _ _ (t4.trans sp) ?_
    unfold fitD
    rw [hg]
    exact .tup (SqT.of upd_same) (.cons (.str _) (.cons (hbD.same_at sp) .nil))
  | none =>
    have e := h1 hg
    subst e
    refine ⟨_, rfl, rfl, _, rfl, ?_⟩
    rw [decide_eq_true rfl]
    refine iteF ?_
    obtain ⟨wa, rfl, hW⟩ := (hwv.same_at s4).ints
    have lW : ((wl ns).map V.int).length = (wl ns).length := List.length_map ..
    have hw4 := hw.same_at t4
    refine ⟨_, rfl, wa, _, rfl, .inr hW, _, _, rfl, rfl, ?_⟩
    repeat (first | refine ⟨_, rfl, ?_⟩ | refine ⟨_, _, rfl, rfl, ?_⟩)
    dsimp only [tC, tNoPart]
    repeat (first | refine ⟨_, rfl, ?_⟩ | refine ⟨_, _, rfl, rfl, ?_⟩)
    refine rd_cut hw4 fun w5 H5 s5 hw5 => ?_
    have em : (((wl ns).map V.int).length : Int) - 1 = ((du ns : Nat) : Int) := by rw [lW, wll]; omega
    have hw5 : Dp K H5 w5 (dInts (row.take (du ns))) := by
      rw [em, cutD_to PyData.int row (by omega)] at hw5
      exact hw5
    refine ⟨(by show 1 ≤ sizeLine; decide), fun p6 hp6 => ?_⟩
    have s6 := same_upd hp6 (.tup ([(0 : Int)].map V.int))
    obtain ⟨ra, rfl, hR⟩ := (hw4.same_at (s5.trans s6)).ints
    have lR : (row.map V.int).length = row.length := List.length_map ..
    refine ⟨_, rfl, _, rfl, ra, _, rfl, .inr hR, _, _, rfl, rfl, ?_⟩
    rw [em, lR]
    refine rd_repD (dp_tup [0] hp6) (by decide) (by omega) (by omega) fun w7 H7 s7 hw7 => ?_
    have hl5 : (row.take (du ns)).length ≤ du ns := by rw [List.length_take]; omega
    refine rd_cat (hw5.same_at (s6.trans s7)) hw7 ?_ fun w8 H8 s8 hw8 => ?_
    · rw [show [(0 : Int)].map PyData.int = [PyData.int 0] from rfl, rep_flat, List.length_replicate, List.length_map]
      exact Nat.le_of_lt (small1000 (by omega))
    have hw8 : Dp K H8 w8 (dInts (fst ns row)) := by
      have q := hw8
      rw [show [(0 : Int)].map PyData.int = [PyData.int 0] from rfl, rep_flat, show (((du ns : Nat) : Int) - ((row.length : Nat) : Int)).toNat = du ns - row.length by omega] at q
      unfold dInts fst
      rw [List.map_append, List.map_replicate]
      exact q
    have t8 := t4.trans (s5.trans (s6.trans (s7.trans s8)))
    refine ⟨_, rfl, _, rfl, v, w8, ns, fst ns row, rfl, hv.same_at t8, ok.m, n4, hw8, fst_len ns row, fun z hz => ?_, fun w9 H9 s9 hw9 => ?_⟩
    · unfold fst at hz
      rcases List.mem_append.mp hz with q | q
      · exact hb z (List.mem_of_mem_take q)
      · rw [List.eq_of_mem_replicate q]
        exact Nat.zero_le _
    refine ⟨(by show 2 ≤ sizeLine; decide), fun p hp => ?_⟩
    have sp := same_upd hp (.tup [.str "loops", w9])
    refine k _ _ (t8.trans (s9.trans sp)) ?_
    unfold fitD
    rw [hg]
    exact .tup (SqT.of upd_same) (.cons (.str _) (.cons (hw9.same_at sp) .nil))
end
section
variable {P : Program} {w : World} {K : PySem.W.Frag} {mg : Str → Option Value} {base : Heap}
theorem ok_deceiver (T : Top K mg) : FnOk P w K mg base CX0 21 T.a_deceiver T.d_deceiver ["lengths"] (sp_deceiver K) := by
  refine T.F_deceiver.ok sc_deceiver (fun vs H Q E h => ?_) (fun cdv A outer s H vs Q E hr h => ?_)
  · obtain ⟨v, ns, rfl, hv, ok, hne, k⟩ := h
    rfl
  obtain ⟨v, ns, rfl, hv, ok, hne, k⟩ := h
  refine ⟨_, (pss_cons (ps_expr (pe_call (ok_need_few T) (hr.mono (by decide)) (by rfl) T.m_need_few T.F_need_few.kp T.b_need_few .nil pass0 (pa_cons (pv 0) pa_nil)))
      (pss_cons (ps_if (pt_cmpR op_eq (pe_callB (k_len (K := K)) (by rfl) T.z_len bt_len (pa_cons (pv 0) pa_nil)) pe_int (nomark _)) (pss_one ps_never) pss_nil)
      (pss_one (ps_ret (pe_call (ok_deceiver_of T) (hr.mono (by decide)) (by rfl) T.m_deceiver_of T.F_deceiver_of.kp T.b_deceiver_of .nil pass0 (pa_cons (pv 0) pa_nil)))))), ?_⟩
  refine ⟨_, rfl, v, ns, rfl, hv, ok, fun H1 s1 => ?_⟩
  obtain ⟨a, rfl, hT⟩ := hv.ints
  have n4 := ok.1
  refine ⟨_, rfl, a, _, rfl, .inr (Same.tk s1 _ _ hT), rfl, _, rfl, ?_⟩
  have ne : decide (V.int ((((NN ns).map V.int).length : Nat) : Int) = V.int 0) = false := decide_eq_false fun z => by
    injection z with z
    rw [List.length_map, nn_len] at z
    exact hne (List.length_eq_zero_iff.mp (by omega))
  rw [ne]
  refine iteF ?_
  exact ⟨_, rfl, .ref a, ns, rfl, hv.same_at s1, ok.m, n4, hne, fun w H2 s2 hw => k w _ (s1.trans s2) hw⟩
end
section
variable {P : Program} {w : World} {K : PySem.W.Frag} {mg : Str → Option Value} {base : Heap}
theorem ok__law_lengths_right (T : Top K mg) : FnG P w K mg base 22 T.a__law_lengths_right T.d__law_lengths_right ["s", "r", "p"] (sp__law_lengths_right K) := by
  refine T.F__law_lengths_right.okG sc__law_lengths_right (fun vs H Q E h => ?_) (fun cdv A outer s H vs Q E hr hG h => ?_)
  · obtain ⟨v, w, u, ns, row, ps, rfl, hv, hw, hu, ok, ne, rl, rb, okp, k⟩ := h
    rfl
  obtain ⟨v, w, u, ns, row, ps, rfl, hv, hw, hu, ok, ne, rl, rb, okp, k⟩ := h
  refine ⟨_, (pss_cons (ps_par (i := 3) (j := 4) (by rfl) sc__law_lengths_right.nd rfl rfl (by decide) rfl rfl (pa_cons (pe_call (ok_fit T) (hr.mono (by decide)) (by rfl) T.m_fit T.F_fit.kp T.b_fit .nil pass0 (pa_cons (pv 0) (pa_cons (pv 1) pa_nil))) (pa_cons (pe_call (ok_meeting T) (hr.mono (by decide)) (by rfl) T.m_meeting T.F_meeting.kp T.b_meeting .nil pass0 (pa_cons (pv 0) (pa_cons (pv 2) pa_nil))) pa_nil)) (by rfl))
      (pss_cons (ps_set (i := 5) sc__law_lengths_right.nd rfl (Or.inl rfl) (pe_lst (pa_cons (pe_callK0 (ok_need_lengths T) (hr.mono (by decide)) (by rfl) T.m_need_lengths T.F_need_lengths.kp (kb_need_lengths_thing T) pass0 (pk_cons (pv 0) pk_nil)) (pa_cons (pe_callK0 (ok_span T) (hr.mono (by decide)) (by rfl) T.m_span T.F_span.kp (kb_span_lengths T) pass0 (pk_cons (pv 0) pk_nil)) (pa_cons (pe_callK0 (ok_weights T) (hr.mono (by decide)) (by rfl) T.m_weights T.F_weights.kp (kb_weights_lengths T) pass0 (pk_cons (pv 0) pk_nil)) (pa_cons (pe_callK0 (ok_fit T) (hr.mono (by decide)) (by rfl) T.m_fit T.F_fit.kp (kb_fit_row_lengths T) pass0 (pk_cons (pv 1) (pk_cons (pv 0) pk_nil))) pa_nil))))))
      (pss_cons (ps_set (i := 6) sc__law_lengths_right.nd rfl (Or.inl rfl) (pe_lst (pa_cons (pe_call (ok_need_lengths T) (hr.mono (by decide)) (by rfl) T.m_need_lengths T.F_need_lengths.kp T.b_need_lengths .nil pass0 (pa_cons (pv 0) pa_nil)) (pa_cons (pe_call (ok_span T) (hr.mono (by decide)) (by rfl) T.m_span T.F_span.kp T.b_span .nil pass0 (pa_cons (pv 0) pa_nil)) (pa_cons (pe_call (ok_weights T) (hr.mono (by decide)) (by rfl) T.m_weights T.F_weights.kp T.b_weights .nil pass0 (pa_cons (pv 0) pa_nil)) (pa_cons (pv 3) (pa_cons (pv 4) pa_nil)))))))
      (pss_cons (ps_expr (pe_bm PySem.F.plainAttrs_list PySem.F.slot_list_append PySem.F.type_list_append mt_append (pv 5) (pa_cons (pe_callK0 (ok_meeting T) (hr.mono (by decide)) (by rfl) T.m_meeting T.F_meeting.kp (kb_meeting_places_lengths T) pass0 (pk_cons (pv 2) (pk_cons (pv 0) pk_nil))) pa_nil)))
      (pss_cons (ps_set (i := 5) sc__law_lengths_right.nd rfl (Or.inl rfl) (pe_op op_cat (pv 5) (pe_lst (pa_cons (pe_callK0 (ok_carried T) (hr.mono (by decide)) (by rfl) T.m_carried T.F_carried.kp (kb_carried_many_row_lengths T) pass0 (pk_cons pe_int (pk_cons (pe_op (op_repA (K := K)) (pe_tup (pa_cons pe_int pa_nil)) (pe_call (ok_span T) (hr.mono (by decide)) (by rfl) T.m_span T.F_span.kp T.b_span .nil pass0 (pa_cons (pv 0) pa_nil))) (pk_cons (pv 0) pk_nil)))) (pa_cons (pe_callK0 (ok_check_fit T) (hr.mono (by decide)) (by rfl) T.m_check_fit T.F_check_fit.kp (kb_check_fit_paper_row_lengths T) pass0 (pk_cons (pv 3) (pk_cons (pv 1) (pk_cons (pv 0) pk_nil)))) pa_nil)))))
      (pss_cons (ps_set (i := 6) sc__law_lengths_right.nd rfl (Or.inl rfl) (pe_op op_cat (pv 6) (pe_lst (pa_cons (pe_call (ok_carried T) (hr.mono (by decide)) (by rfl) T.m_carried T.F_carried.kp T.b_carried .nil pass0 (pa_cons (pv 0) (pa_cons (pe_op (op_repA (K := K)) (pe_tup (pa_cons pe_int pa_nil)) (pe_call (ok_span T) (hr.mono (by decide)) (by rfl) T.m_span T.F_span.kp T.b_span .nil pass0 (pa_cons (pv 0) pa_nil))) (pa_cons pe_int pa_nil)))) (pa_cons (pe_call (ok_check_fit T) (hr.mono (by decide)) (by rfl) T.m_check_fit T.F_check_fit.kp T.b_check_fit .nil pass0 (pa_cons (pv 0) (pa_cons (pv 1) (pa_cons (pv 3) pa_nil)))) pa_nil)))))
      (pss_cons (ps_set (i := 5) sc__law_lengths_right.nd rfl (Or.inl rfl) (pe_op op_cat (pv 5) (pe_lst (pa_cons (pe_callK0 (ok_deceiver T) (hr.mono (by decide)) (by rfl) T.m_deceiver T.F_deceiver.kp (kb_deceiver_lengths T) pass0 (pk_cons (pv 0) pk_nil)) (pa_cons (pe_callK0 (ok_check_meeting T) (hr.mono (by decide)) (by rfl) T.m_check_meeting T.F_check_meeting.kp (kb_check_meeting_paper_places_lengths T) pass0 (pk_cons (pv 4) (pk_cons (pv 2) (pk_cons (pv 0) pk_nil)))) pa_nil)))))
      (pss_one (ps_ret (pe_cmpR op_eq (pe_callB (k_repr (K := K) hr.units hG) (by rfl) T.z_repr bt_repr (pa_cons (pv 5) pa_nil)) (pe_callB (k_repr (K := K) hr.units hG) (by rfl) T.z_repr bt_repr (pa_cons (pe_op op_cat (pv 6) (pe_lst (pa_cons (pe_call (ok_deceiver T) (hr.mono (by decide)) (by rfl) T.m_deceiver T.F_deceiver.kp T.b_deceiver .nil pass0 (pa_cons (pv 0) pa_nil)) (pa_cons (pe_call (ok_check_meeting T) (hr.mono (by decide)) (by rfl) T.m_check_meeting T.F_check_meeting.kp T.b_check_meeting .nil pass0 (pa_cons (pv 0) (pa_cons (pv 2) (pa_cons (pv 4) pa_nil)))) pa_nil)))) pa_nil)) (nomark _))))))))))), ?_⟩
  have okm := ok.m
  have n4 := ok.1
  have d96 := du_96 ok
  have rl2 : row.length ≤ 200 := by omega
  have rb1 : ∀ z ∈ row, z.natAbs ≤ 2 ^ 137 := fun z hz => Nat.le_trans (rb z hz) (by decide +kernel)
  have rbf : ∀ z ∈ row, z.natAbs ≤ 2 ^ 100000 := fun z hz => Nat.le_trans (rb1 z hz) (Nat.pow_le_pow_right (by decide) (by decide))
  obtain ⟨wd, X, eF, hh⟩ : ∃ (wd : Str) (X : PyData), fitD ns row = .tuple [.str wd, X] ∧ Holds ns row wd (fitD ns row) := by
    cases hg : gfind (wl ns) row with
    | none =>
      refine ⟨"loops", dLoops (lha ns (fst ns row)), ?_, holds_loops ok hg⟩
      unfold fitD
      rw [hg]
    | some a =>
      refine ⟨"none", dInts (gnd (wl ns) a), ?_, holds_none ok rl2 hg⟩
      unfold fitD
      rw [hg]
  refine ⟨_, rfl, _, rfl, v, w, ns, row, rfl, hv, ok, hw, rl2, rbf, fun f1 H1 s1 hf1 => ?_⟩
  refine ⟨_, rfl, _, rfl, v, u, ns, ps, rfl, hv.same_at s1, hu.same_at s1, okm, okp, fun m1 pd H2 hpd s2 hm1 => ⟨_, _, rfl, ?_⟩⟩
  have t2 := s1.trans s2
  have hf2 := hf1.same_at s2
  have hv2 := hv.same_at t2
  have hw2 := hw.same_at t2
  have hu2 := hu.same_at t2
  refine ⟨_, rfl, rfl, rfl, v, NN ns, rfl, hv2, okm_n okm, fun H3 s3 => ?_⟩
  refine ⟨_, rfl, rfl, rfl, v, ns, rfl, hv2.same_at s3, okm, fun H4 s4 => ?_⟩
  have t4 := s3.trans s4
  refine ⟨_, rfl, rfl, rfl, v, ns, rfl, hv2.same_at t4, okm, fun w5 H5 s5 hw5 => ?_⟩
  have t5 := t4.trans s5
  refine ⟨_, rfl, _, rfl, rfl, rfl, v, w, ns, row, rfl, hv2.same_at t5, ok, hw2.same_at t5, rl2, rbf, fun f6 H6 s6 hf6 => ⟨(by show 4 ≤ sizeLine; decide), fun p7 hp7 => ?_⟩⟩
  have s7 := same_upd hp7 (.lst [v, .int ((dueN (NN ns) : Nat) : Int), w5, f6])
  have t7 := t5.trans (s6.trans s7)
  have D7 : DpAll K (upd H6 p7 (.lst [v, .int ((dueN (NN ns) : Nat) : Int), w5, f6])) [v, .int ((dueN (NN ns) : Nat) : Int), w5, f6] [dInts (NN ns), .int ((dueN (NN ns) : Nat) : Int), dInts (wl ns), fitD ns row] :=
    .cons (hv2.same_at t7) (.cons (.int _) (.cons (Dp.same_at (d := dInts (wl ns)) hw5 (s6.trans s7)) (.cons (hf6.same_at s7) .nil)))
  have L7 : upd H6 p7 (.lst [v, .int ((dueN (NN ns) : Nat) : Int), w5, f6]) p7 = some (.lst [v, .int ((dueN (NN ns) : Nat) : Int), w5, f6]) := upd_same
  generalize upd H6 p7 (.lst [v, .int ((dueN (NN ns) : Nat) : Int), w5, f6]) = H7 at *
  refine ⟨_, rfl, v, NN ns, rfl, hv2.same_at t7, okm_n okm, fun H8 s8 => ?_⟩
  refine ⟨_, rfl, v, ns, rfl, hv2.same_at (t7.trans s8), okm, fun H9 s9 => ?_⟩
  have t9 := s8.trans s9
  refine ⟨_, rfl, v, ns, rfl, hv2.same_at (t7.trans t9), okm, fun w10 H10 s10 hw10 => ⟨_, rfl, _, rfl, (by show 5 ≤ sizeLine; decide), fun p11 hp11 => ?_⟩⟩
  have s11 := same_upd hp11 (.lst [v, .int ((dueN (NN ns) : Nat) : Int), w10, f1, m1])
  have t11 := t9.trans (s10.trans s11)
  have D11 : DpAll K (upd H10 p11 (.lst [v, .int ((dueN (NN ns) : Nat) : Int), w10, f1, m1])) [v, .int ((dueN (NN ns) : Nat) : Int), w10, f1, m1] [dInts (NN ns), .int ((dueN (NN ns) : Nat) : Int), dInts (wl ns), fitD ns row, pd] :=
    .cons (hv2.same_at (t7.trans t11)) (.cons (.int _) (.cons (Dp.same_at (d := dInts (wl ns)) hw10 s11) (.cons (hf2.same_at (t7.trans t11)) (.cons (hm1.same_at (t7.trans t11)) .nil))))
  have L11 : upd H10 p11 (.lst [v, .int ((dueN (NN ns) : Nat) : Int), w10, f1, m1]) p11 = some (.lst [v, .int ((dueN (NN ns) : Nat) : Int), w10, f1, m1]) := upd_same
  have D11' := DpAll.same t11 _ _ D7
  have L11' := t11 _ _ L7
  have u11 := t7.trans t11
  have n711 : p7 ≠ p11 := ne_of_none ((t9.trans s10) _ _ L7) hp11
  generalize upd H10 p11 (.lst [v, .int ((dueN (NN ns) : Nat) : Int), w10, f1, m1]) = H11 at *
  refine ⟨_, rfl, .inl ⟨rfl, _, SqL.of L11'⟩, ?_⟩
  refine ⟨_, rfl, _, rfl, rfl, rfl, v, u, ns, ps, rfl, hv2.same_at u11, hu2.same_at u11, okm, okp, fun m12 pd' H12 hpd' s12 hm12 => ?_⟩
  have ep : pd' = pd := hpd'.one hpd
  subst ep
  refine ⟨p7, _, _, rfl, rfl, s12 _ _ L11', small1000 (by show 4 ≤ 1000; decide), ?_⟩
  have Ap : ∀ b o, b ≠ p7 → H11 b = some o → upd H12 p7 (.lst ([v, .int ((dueN (NN ns) : Nat) : Int), w5, f6] ++ [m12])) b = some o := fun b o nb q => by
    rw [upd_ne nb]
    exact s12 _ _ q
  have tk13 : TK K H11 (upd H12 p7 (.lst ([v, .int ((dueN (NN ns) : Nat) : Int), w5, f6] ++ [m12]))) := (Same.tk s12).trans (tk_upd (s12 _ _ L11'))
  have tpd : tupOnly pd' = true := pap_tup hpd
  have tfit : tupOnly (fitD ns row) = true := fit_tup ns row
  have go4 : tupOnly.go [dInts (NN ns), .int ((dueN (NN ns) : Nat) : Int), dInts (wl ns), fitD ns row] = true := by
    show (tupOnly (dInts (NN ns)) && (true && (tupOnly (dInts (wl ns)) && (tupOnly (fitD ns row) && true)))) = true
    rw [show tupOnly (dInts (NN ns)) = true from to_ints _, show tupOnly (dInts (wl ns)) = true from to_ints _, tfit]
    rfl
  have go5 : tupOnly.go [dInts (NN ns), .int ((dueN (NN ns) : Nat) : Int), dInts (wl ns), fitD ns row, pd'] = true := by
    show (tupOnly (dInts (NN ns)) && (true && (tupOnly (dInts (wl ns)) && (tupOnly (fitD ns row) && (tupOnly pd' && true))))) = true
    rw [show tupOnly (dInts (NN ns)) = true from to_ints _, show tupOnly (dInts (wl ns)) = true from to_ints _, tfit, tpd]
    rfl
  have D13 : DpAll K (upd H12 p7 (.lst ([v, .int ((dueN (NN ns) : Nat) : Int), w5, f6] ++ [m12]))) ([v, .int ((dueN (NN ns) : Nat) : Int), w5, f6] ++ [m12]) [dInts (NN ns), .int ((dueN (NN ns) : Nat) : Int), dInts (wl ns), fitD ns row, pd'] :=
    (DpAll.keepT tk13 _ _ go4 D11').app (.cons (Dp.keepT (tk_upd (s12 _ _ L11')) _ _ tpd hm12) .nil)
  have E13 := DpAll.keepT tk13 _ _ go5 D11
  have L13 : upd H12 p7 (.lst ([v, .int ((dueN (NN ns) : Nat) : Int), w5, f6] ++ [m12])) p7 = some (.lst ([v, .int ((dueN (NN ns) : Nat) : Int), w5, f6] ++ [m12])) := upd_same
  have M13 := Ap _ _ (Ne.symm n711) L11
  have hv13 : Dp K (upd H12 p7 (.lst ([v, .int ((dueN (NN ns) : Nat) : Int), w5, f6] ++ [m12]))) v (dInts (NN ns)) := Dp.keepT tk13 _ _ (to_ints _) (hv2.same_at u11)
  have hw13 : Dp K (upd H12 p7 (.lst ([v, .int ((dueN (NN ns) : Nat) : Int), w5, f6] ++ [m12]))) w (dInts row) := Dp.keepT tk13 (dInts row) _ (to_ints _) (hw2.same_at u11)
  have hu13 : Dp K (upd H12 p7 (.lst ([v, .int ((dueN (NN ns) : Nat) : Int), w5, f6] ++ [m12]))) u (dInts ps) := Dp.keepT tk13 (dInts ps) _ (to_ints _) (hu2.same_at u11)
  have hf13 : Dp K (upd H12 p7 (.lst ([v, .int ((dueN (NN ns) : Nat) : Int), w5, f6] ++ [m12]))) f1 (fitD ns row) := Dp.keepT tk13 _ _ tfit (hf2.same_at u11)
  have hm13 : Dp K (upd H12 p7 (.lst ([v, .int ((dueN (NN ns) : Nat) : Int), w5, f6] ++ [m12]))) m1 pd' := Dp.keepT tk13 _ _ tpd (hm1.same_at u11)
  have k13 : ∀ b o, H b = some o → upd H12 p7 (.lst ([v, .int ((dueN (NN ns) : Nat) : Int), w5, f6] ++ [m12])) b = some o := fun b o q => by
    have q2 := t2 _ _ q
    have nb : b ≠ p7 := ne_of_none (t5.trans s6 _ _ q2) hp7
    exact Ap _ _ nb (u11 _ _ q2)
  generalize upd H12 p7 (.lst ([v, .int ((dueN (NN ns) : Nat) : Int), w5, f6] ++ [m12])) = H13 at *
  have dl : (List.replicate (du ns) (0 : Int)).length = dueN (NN ns) := List.length_replicate ..
  have nb0 : ∀ z ∈ List.replicate (du ns) (0 : Int), NB z := fun z hz => by
    rw [List.eq_of_mem_replicate hz]
    unfold NB
    decide
  have zsm : ∀ z ∈ grw ns (List.replicate (du ns) 0) 7, z.natAbs < 10 ^ 400 := fun z hz => grw_small okm dl nb0 (many := 7) (by decide) z hz
  have repz : ∀ {H0 : Hp} {x : V}, Dp K H0 x (.tuple (List.replicate (((dueN (NN ns) : Nat) : Int)).toNat ([(0 : Int)].map PyData.int)).flatten) → Dp K H0 x (dInts (List.replicate (du ns) 0)) := fun h => by
    have q := h
    rw [show [(0 : Int)].map PyData.int = [PyData.int 0] from rfl, rep_flat] at q
    unfold dInts
    rw [List.map_replicate]
    exact q
  have due1 : ((dueN (NN ns) : Nat) : Int) ≤ 1000 := by
    show ((du ns : Nat) : Int) ≤ 1000
    omega
  refine ⟨_, rfl, ?_⟩
  refine ⟨(by show 1 ≤ sizeLine; decide), fun p14 hp14 => ⟨_, rfl, v, ns, rfl, hv13.same_at (same_upd hp14 _), okm, fun H15 s15 => ?_⟩⟩
  have s14 := same_upd hp14 (.tup ([(0 : Int)].map V.int))
  show rRepA K _ (V.int ((dueN (NN ns) : Nat) : Int)) _ _
  refine rd_repD ((dp_tup [0] hp14).same_at s15) (by decide) (by omega) due1 fun w16 H16 s16 hw16 => ?_
  have hw16 := repz hw16
  have t16 := s14.trans (s15.trans s16)
  refine ⟨_, rfl, rfl, rfl, v, w16, ns, List.replicate (du ns) 0, 7, rfl, hv13.same_at t16, okm, hw16, dl, by decide, by decide, (fun z hz => log400 (zsm z hz)), fun w17 H17 s17 hw17 => ?_⟩
  rw [dl] at hw17
  have hw17 : Dp K H17 w17 (dInts ((grw ns (List.replicate (du ns) 0) 7).drop (du ns))) := hw17
  have t17 := t16.trans s17
  refine ⟨_, rfl, _, rfl, _, rfl, rfl, rfl, v, w, f1, ns, row, wd, fitD ns row, rfl, hv13.same_at t17, ok, hw13.same_at t17, hf13.same_at t17, rl2, rbf, hh, fun H18 s18 => ⟨(by show 2 ≤ sizeLine; decide), fun p19 hp19 => ?_⟩⟩
  have s19 := same_upd hp19 (.lst [w17, .str wd])
  have t19 := t17.trans (s18.trans s19)
  refine ⟨p7, p19, _, _, rfl, rfl, t19 _ _ L13, upd_same, (by show 5 + 2 ≤ sizeLine; decide), fun p20 hp20 => ?_⟩
  have s20 := same_upd hp20 (.lst (([v, .int ((dueN (NN ns) : Nat) : Int), w5, f6] ++ [m12]) ++ [w17, .str wd]))
  have t20 := t19.trans s20
  have D20 := (DpAll.same t20 _ _ D13).app (.cons (hw17.same_at (s18.trans (s19.trans s20))) (.cons (.str wd) .nil))
  have E20 := DpAll.same t20 _ _ E13
  have M20 := t20 _ _ M13
  have L20 : upd (upd H18 p19 (.lst [w17, .str wd])) p20 (.lst (([v, .int ((dueN (NN ns) : Nat) : Int), w5, f6] ++ [m12]) ++ [w17, .str wd])) p20 = some (.lst (([v, .int ((dueN (NN ns) : Nat) : Int), w5, f6] ++ [m12]) ++ [w17, .str wd])) := upd_same
  have hv20 := hv13.same_at t20
  have hw20 := hw13.same_at t20
  have hu20 := hu13.same_at t20
  have hf20 := hf13.same_at t20
  have hm20 := hm13.same_at t20
  have k20 : Same H _ := Same.trans k13 t20
  generalize upd (upd H18 p19 (.lst [w17, .str wd])) p20 (.lst (([v, .int ((dueN (NN ns) : Nat) : Int), w5, f6] ++ [m12]) ++ [w17, .str wd])) = H20 at *
  refine ⟨_, rfl, ?_⟩
  refine ⟨_, rfl, (by show 1 ≤ sizeLine; decide), fun p21 hp21 => ⟨_, rfl, v, ns, rfl, hv20.same_at (same_upd hp21 _), okm, fun H22 s22 => ?_⟩⟩
  have s21 := same_upd hp21 (.tup ([(0 : Int)].map V.int))
  show rRepA K _ (V.int ((dueN (NN ns) : Nat) : Int)) _ _
  refine rd_repD ((dp_tup [0] hp21).same_at s22) (by decide) (by omega) due1 fun w23 H23 s23 hw23 => ?_
  have hw23 := repz hw23
  have t23 := s21.trans (s22.trans s23)
  refine ⟨v, w23, ns, List.replicate (du ns) 0, 7, rfl, hv20.same_at t23, okm, hw23, dl, by decide, by decide, (fun z hz => log400 (zsm z hz)), fun w24 H24 s24 hw24 => ?_⟩
  rw [dl] at hw24
  have hw24 : Dp K H24 w24 (dInts ((grw ns (List.replicate (du ns) 0) 7).drop (du ns))) := hw24
  have t24 := t23.trans s24
  refine ⟨_, rfl, _, rfl, _, rfl, v, w, f1, ns, row, wd, fitD ns row, rfl, hv20.same_at t24, ok, hw20.same_at t24, hf20.same_at t24, rl2, rbf, hh, fun H25 s25 => ⟨(by show 2 ≤ sizeLine; decide), fun p26 hp26 => ?_⟩⟩
  have s26 := same_upd hp26 (.lst [w24, .str wd])
  have t26 := t24.trans (s25.trans s26)
  refine ⟨p11, p26, _, _, rfl, rfl, t26 _ _ M20, upd_same, (by show 5 + 2 ≤ sizeLine; decide), fun p27 hp27 => ?_⟩
  have s27 := same_upd hp27 (.lst ([v, .int ((dueN (NN ns) : Nat) : Int), w10, f1, m1] ++ [w24, .str wd]))
  have t27 := t26.trans s27
  have E27 := (DpAll.same t27 _ _ E20).app (.cons (hw24.same_at (s25.trans (s26.trans s27))) (.cons (.str wd) .nil))
  have D27 := DpAll.same t27 _ _ D20
  have L27 := t27 _ _ L20
  have M27 : upd (upd H25 p26 (.lst [w24, .str wd])) p27 (.lst ([v, .int ((dueN (NN ns) : Nat) : Int), w10, f1, m1] ++ [w24, .str wd])) p27 = some (.lst ([v, .int ((dueN (NN ns) : Nat) : Int), w10, f1, m1] ++ [w24, .str wd])) := upd_same
  have hv27 := hv20.same_at t27
  have hu27 := hu20.same_at t27
  have hm27 := hm20.same_at t27
  have k27 : Same H _ := Same.trans k20 t27
  generalize upd (upd H25 p26 (.lst [w24, .str wd])) p27 (.lst ([v, .int ((dueN (NN ns) : Nat) : Int), w10, f1, m1] ++ [w24, .str wd])) = H27 at *
  refine ⟨_, rfl, ?_⟩
  refine ⟨_, rfl, rfl, rfl, v, ns, rfl, hv27, ok, ne, fun w28 H28 s28 hw28 => ?_⟩
  refine ⟨_, rfl, _, rfl, _, rfl, rfl, rfl, v, u, m1, ns, ps, pd', rfl, hv27.same_at s28, hu27.same_at s28, hm27.same_at s28, okm, okp, hpd, fun sd dds H29 hsd s29 => ⟨(by show 2 ≤ sizeLine; decide), fun p30 hp30 => ?_⟩⟩
  have s30 := same_upd hp30 (.lst [w28, .str sd])
  have t30 := s28.trans (s29.trans s30)
  refine ⟨p20, p30, _, _, rfl, rfl, t30 _ _ L27, upd_same, (by show 7 + 2 ≤ sizeLine; decide), fun p31 hp31 => ?_⟩
  have s31 := same_upd hp31 (.lst ((([v, .int ((dueN (NN ns) : Nat) : Int), w5, f6] ++ [m12]) ++ [w17, .str wd]) ++ [w28, .str sd]))
  have t31 := t30.trans s31
  have tw := tells9 (row := row) (ps := ps) ok rl2 rb1 hpd hh eF hsd zsm
  refine ⟨_, rfl, _, .list (data9 ns row pd' wd sd), rfl, .lst (SqL.of upd_same) ((DpAll.same t31 _ _ D27).app (.cons (hw28.same_at (s29.trans (s30.trans s31))) (.cons (.str sd) .nil))), tw, ?_⟩
  have hv31 := hv27.same_at t31
  have hu31 := hu27.same_at t31
  have hm31 := hm27.same_at t31
  have E31 := DpAll.same t31 _ _ E27
  have M31 := t31 _ _ M27
  have k31 : Same H _ := Same.trans k27 t31
  generalize upd (upd H29 p30 (.lst [w28, .str sd])) p31 (.lst ((([v, .int ((dueN (NN ns) : Nat) : Int), w5, f6] ++ [m12]) ++ [w17, .str wd]) ++ [w28, .str sd])) = H31 at *
  refine ⟨_, rfl, ?_⟩
  refine ⟨_, rfl, v, ns, rfl, hv31, ok, ne, fun w32 H32 s32 hw32 => ?_⟩
  refine ⟨_, rfl, _, rfl, _, rfl, v, u, m1, ns, ps, pd', rfl, hv31.same_at s32, hu31.same_at s32, hm31.same_at s32, okm, okp, hpd, fun sd' dds' H33 hsd' s33 => ⟨(by show 2 ≤ sizeLine; decide), fun p34 hp34 => ?_⟩⟩
  have es : sd' = sd := by
    rw [hsd] at hsd'
    injection hsd' with q
    injection q with q _
    injection q with q
    exact q.symm
  subst es
  have s34 := same_upd hp34 (.lst [w32, .str sd'])
  have t34 := s32.trans (s33.trans s34)
  refine ⟨p27, p34, _, _, rfl, rfl, t34 _ _ M31, upd_same, (by show 7 + 2 ≤ sizeLine; decide), fun p35 hp35 => ?_⟩
  have s35 := same_upd hp35 (.lst (([v, .int ((dueN (NN ns) : Nat) : Int), w10, f1, m1] ++ [w24, .str wd]) ++ [w32, .str sd']))
  have t35 := t34.trans s35
  refine ⟨_, .list (data9 ns row pd' wd sd'), rfl, .lst (SqL.of upd_same) ((DpAll.same t35 _ _ E31).app (.cons (hw32.same_at (s33.trans (s34.trans s35))) (.cons (.str sd') .nil))), tw, rfl, ?_⟩
  rw [decide_eq_true rfl]
  exact k _ (Same.trans k31 t35)
end
end My

namespace My
open PySem PySem.Spec PyProof.Rows L2
section
variable {P : Program} {w : World} {K : PySem.W.Frag} {mg : Str → Option Value} {base : Heap}
theorem ok_law (T : Top K mg) : FnG P w K mg base 23 T.a_law T.d_law ["script"] (sp_law K) := by
  refine T.F_law.okG sc_law (fun vs H Q E h => ?_) (fun cdv A outer s H vs Q E hr hG h => ?_)
  · obtain ⟨a, ns, rfl, hS, hl, q⟩ := h
    rfl
  obtain ⟨a, ns, rfl, hS, hl, q⟩ := h
  refine ⟨_, (pss_cons (ps_set (i := 1) sc_law.nd rfl (Or.inr rfl) (pe_call (ok__law_begun T) (hr.mono (by decide)) (by rfl) T.m__law_begun T.F__law_begun.kp T.b__law_begun .nil pass0 (pa_cons (pv 0) pa_nil)))
      (pss_cons (ps_for PassesOwn.never rfl (pi_range1 (by rfl) T.z_range (pa_cons (pe_op op_add pe_int (pe_callB (call_min2 rfl) (by rfl) T.z_min bt_min (pa_cons (pe_callB (k_len (K := K)) (by rfl) T.z_len bt_len (pa_cons (pv 0) pa_nil)) (pa_cons pe_int pa_nil)))) pa_nil)) (pg_name (i := 2) sc_law.nd rfl (Or.inl rfl)) (pss_cons (ps_set (i := 3) sc_law.nd rfl (Or.inl rfl) (pe_callTy (k_tuple (K := K)) (by rfl) T.z_tuple bt_tuple (pa_cons (pe_lc (own := [("k", 8)]) rfl sc_law.nd (pi_range1 (by rfl) T.z_range (pa_cons (pe_op op_add pe_int (pe_call (ok__law_next T) (hr.mono (by decide)) (by rfl) T.m__law_next T.F__law_next.kp T.b__law_next .nil pass0 (pa_cons (pv 1) (pa_cons pe_int pa_nil)))) pa_nil)) (blkOk_by (own := [("k", 8)]) (N := ["script", "m", "turn", "s", "g", "h", "p", "r", "k"]) (sc := defScope s_law) (by decide +kernel)) (fun _ _ _ _ _ => (pg_name (i := 8) sc_law.nd rfl (Or.inl rfl))) (fun _ _ _ _ _ => pts_nil) (fun _ _ _ _ _ => (pe_op op_add pe_int (pe_call (ok__law_next T) (hr.mono (by decide)) (by rfl) T.m__law_next T.F__law_next.kp T.b__law_next .nil pass0 (pa_cons (pv 1) (pa_cons pe_int pa_nil)))))) pa_nil)))
      (pss_cons (ps_par (i := 4) (j := 5) (by rfl) sc_law.nd rfl rfl (by decide) rfl rfl (pa_cons (pe_call (ok__law_drawn T) (hr.mono (by decide)) (by rfl) T.m__law_drawn T.F__law_drawn.kp T.b__law_drawn .nil pass0 (pa_cons (pv 1) (pa_cons (pv 3) pa_nil))) (pa_cons (pe_call (ok__law_drawn T) (hr.mono (by decide)) (by rfl) T.m__law_drawn T.F__law_drawn.kp T.b__law_drawn .nil pass0 (pa_cons (pv 1) (pa_cons (pe_back (K := K) (pv 3) (pe_un un_neg pe_int)) pa_nil))) pa_nil)) (by rfl))
      (pss_cons (ps_set (i := 6) sc_law.nd rfl (Or.inl rfl) (pe_callTy (k_tuple (K := K)) (by rfl) T.z_tuple bt_tuple (pa_cons (pe_lc (own := [("k", 8)]) rfl sc_law.nd (k_piT (K := K) (pv 3)) (blkOk_by (own := [("k", 8)]) (N := ["script", "m", "turn", "s", "g", "h", "p", "r", "k"]) (sc := defScope s_law) (by decide +kernel)) (fun _ _ _ _ _ => (pg_name (i := 8) sc_law.nd rfl (Or.inl rfl))) (fun _ _ _ _ _ => pts_nil) (fun _ _ _ _ _ => (pe_call (ok__law_next T) (hr.mono (by decide)) (by rfl) T.m__law_next T.F__law_next.kp T.b__law_next .nil pass0 (pa_cons (pv 1) (pa_cons (pv 8) pa_nil))))) pa_nil)))
      (pss_cons (ps_set (i := 7) sc_law.nd rfl (Or.inl rfl) (pe_callTy (k_tuple (K := K)) (by rfl) T.z_tuple bt_tuple (pa_cons (pe_lc (own := [("k", 8)]) rfl sc_law.nd (pi_range1 (by rfl) T.z_range (pa_cons (pe_call (ok__law_next T) (hr.mono (by decide)) (by rfl) T.m__law_next T.F__law_next.kp T.b__law_next .nil pass0 (pa_cons (pv 1) (pa_cons pe_int pa_nil))) pa_nil)) (blkOk_by (own := [("k", 8)]) (N := ["script", "m", "turn", "s", "g", "h", "p", "r", "k"]) (sc := defScope s_law) (by decide +kernel)) (fun _ _ _ _ _ => (pg_name (i := 8) sc_law.nd rfl (Or.inl rfl))) (fun _ _ _ _ _ => pts_nil) (fun _ _ _ _ _ => (pe_call (ok__law_next T) (hr.mono (by decide)) (by rfl) T.m__law_next T.F__law_next.kp T.b__law_next .nil pass0 (pa_cons (pv 1) (pa_cons pe_int pa_nil))))) pa_nil)))
      (pss_one (ps_if (PW.pt (pw_or (pt_not (pt_val (pe_callG (ok__law_loops_right T) (hr.mono (by decide)) hG (by rfl) T.m__law_loops_right T.F__law_loops_right.kp T.b__law_loops_right .nil pass0 (pa_cons (pv 4) (pa_cons (pv 5) (pa_cons (pe_call (ok__law_next T) (hr.mono (by decide)) (by rfl) T.m__law_next T.F__law_next.kp T.b__law_next .nil pass0 (pa_cons (pv 1) (pa_cons (pe_op op_pow pe_int pe_int) pa_nil))) pa_nil)))))) (pw_or1 (pt_not (pt_val (pe_callG (ok__law_lengths_right T) (hr.mono (by decide)) hG (by rfl) T.m__law_lengths_right T.F__law_lengths_right.kp T.b__law_lengths_right .nil pass0 (pa_cons (pv 3) (pa_cons (pv 7) (pa_cons (pv 6) pa_nil))))))))) (pss_one (ps_ret pe_bl)) pss_nil)))))))
      (pss_one (ps_ret pe_bl)))), ?_⟩
  refine ⟨_, rfl, a, ns, rfl, hS, hl, fun m H1 s1 M1 => ?_⟩
  have hmin := min3' (((ns.map V.int).length : Nat) : Int) (by omega)
  refine ⟨_, rfl, a, _, rfl, .inl (s1.seq hS), _, _, rfl, _, _, rfl, rfl, _, rfl, by omega, by omega, ?_⟩
  refine for_it walk_range (fun i σ H' => ∃ (n : Nat) (w2 w3 w4 w5 w6 w7 w8 : Option V), σ = [some (.ref a), some (.ref m), w2, w3, w4, w5, w6, w7, w8] ∧ MS H' m n ∧ n ≤ 400000 * i)
    ⟨0, none, none, none, none, none, none, none, rfl, M1, by omega⟩ (fun _ _ _ _ _ => trivial) ?_ ?_
  · rintro i x σ H2 H3 hi ⟨n, w2, w3, w4, w5, w6, w7, w8, rfl, M2, hn⟩ ⟨rfl, rfl⟩
    have hi4 : i < 4 := by omega
    refine ⟨_, rfl, m, 3, n, rfl, M2, by decide, by decide, by omega, fun r4 n4 H4 a4 b4 hn4 M4 e4 => ⟨_, _, rfl, rfl, _, rfl, by omega, by omega, fun D hD => ?_⟩⟩
    refine lc_it walk_range (fun j H' => ∃ (bs : List Int) (n' : Nat), H' D = some (.lst (bs.map V.int)) ∧ bs.length = j ∧ (∀ y ∈ bs, 1 ≤ y ∧ y ≤ 8) ∧ n' ≤ n4 + j ∧ MS H' m n' ∧ ¬ Lf H' m D ∧ Ef m H4 H')
      ⟨[], n4, upd_same, rfl, (by intro y hy; cases hy), Nat.le_refl _, M4.same (same_upd hD _), fun w => M4.notLf hD (w.upd (M4.mne hD)), Ef.ofSame M4 (same_upd hD _)⟩ (fun _ _ _ _ => trivial) ?_ ?_
    · rintro j x G4 G5 hj ⟨bs, n', hB, hj2, hbb, hn', N4, nl4, e4'⟩ ⟨rfl, rfl⟩
      have j96 : j < 4 := by
        have q : j < (1 + r4).toNat := hj
        omega
      refine ⟨rfl, ?_⟩
      refine ⟨_, rfl, m, 8, n', rfl, N4, by decide, by decide, by omega, fun r' n2 G6 r0 r1 hn2 N6 e6' => ⟨_, _, rfl, rfl, ?_⟩⟩
      obtain ⟨hB6, nl6⟩ := e6'.lst N4 hB nl4
      refine ⟨_, hB6, by rw [List.length_map]; exact small1000 (by omega), bs ++ [1 + r'], n2, ?_, ?_, ?_, by omega, N6.upd hB6 nl6, fun w => nl6 (w.upd (N6.mneL hB6)), (e4'.trans e6').upd hD (N6.mneL hB6)⟩
      · rw [upd_same, List.map_append]
        all_goals rfl
      · rw [List.length_append, List.length_singleton, hj2]
      · intro y hy
        rcases List.mem_append.mp hy with q | q
        · exact hbb y q
        · rw [List.mem_singleton.mp q]
          omega
    rintro G4 ⟨ss, n5, hB, hsl, hsb, hn5, M5, nl5, e5⟩
    have hsl : ss.length = (1 + r4).toNat := hsl
    have hn5 : n5 ≤ n4 + (1 + r4).toNat := hn5
    refine ⟨D, _, rfl, .inl ⟨SqL.of hB, fun t5 ht5 => ?_⟩⟩
    have s6 := same_upd ht5 (.tup (ss.map V.int))
    obtain ⟨ms, rfl⟩ := nn_of fun d hd => (hsb d hd).1
    rw [nn_len] at hsl
    have hT6 : SqT K (upd G4 t5 (.tup ((NN ms).map V.int))) t5 ((NN ms).map V.int) := SqT.of upd_same
    have M6 := M5.same s6
    generalize upd G4 t5 (.tup ((NN ms).map V.int)) = H6 at *
    have m8 : ∀ L ∈ ms, 1 ≤ L ∧ L ≤ 8 := fun L hL => by have := hsb L (List.mem_map_of_mem hL); omega
    have ok : OkF ms := ⟨by omega, fun L hL => by have := m8 L hL; omega⟩
    have m64 : ∀ L ∈ ms, 1 ≤ L ∧ L ≤ 64 := fun L hL => by have := m8 L hL; omega
    have ne : ms ≠ [] := fun z => by
      rw [z] at hsl
      have q : 0 = (1 + r4).toNat := hsl
      omega
    have m3 : ms.length ≤ 3 := by omega
    refine ⟨_, rfl, _, rfl, m, .ref t5, ms, n5, rfl, Dp.ofInts hT6, by omega, m64, M6, by omega, fun w7' ls n7 H7 hd7 hl7 hb7 hn7 M7 e7 => ?_⟩
    have hT7 := (e7.tk (K := K) M6) _ _ hT6
    refine ⟨_, rfl, _, rfl, _, rfl, rfl, t5, _, rfl, hT7, fun p8 hp8 => ?_⟩
    have s8 := same_upd hp8 (.tup ((NN ms).map V.int).reverse)
    have hr8 : Dp K (upd H7 p8 (.tup ((NN ms).map V.int).reverse)) (.ref p8) (dInts (NN ms.reverse)) := by
      refine Dp.ofInts ?_
      unfold NN
      rw [List.map_reverse, List.map_reverse]
      exact SqT.of upd_same
    have M8 := M7.same s8
    refine ⟨m, .ref p8, ms.reverse, n7, rfl, hr8, by rw [List.length_reverse]; omega, (fun L hL => m64 L (List.mem_reverse.mp hL)), M8, by omega, fun w9 hs n9 H9 hd9 hl9 hb9 hn9 M9 e9 => ⟨_, _, rfl, ?_⟩⟩
    rw [List.length_reverse] at hn9
    have tk9 : TK K H7 H9 := (Same.tk s8).trans (e9.tk M8)
    have hT9 := tk9 _ _ hT7
    have hd7' : Dp K H9 w7' (dLoops ls) := Dp.keepT tk9 (dLoops ls) _ (to_loops _) hd7
    have okl : OkL ls := okl_of ok hl7
    have okh : OkL hs := okl_of (ns := ms.reverse) ⟨by rw [List.length_reverse]; omega, fun L hL => ok.2 L (List.mem_reverse.mp hL)⟩ hl9
    refine ⟨_, rfl, t5, rfl, ⟨_, hT9⟩, fun D2 hD2 => ?_⟩
    refine lc_it walk_tup (fun j H' => ∃ (bs : List Int) (n' : Nat), H' D2 = some (.lst (bs.map V.int)) ∧ bs.length = j ∧ (∀ (u n : Nat) (p : Int), ms[u]? = some n → bs[u]? = some p → 0 ≤ p ∧ p < (n : Int)) ∧ n' ≤ n9 + j ∧ MS H' m n' ∧ ¬ Lf H' m D2 ∧ Ef m H9 H')
      ⟨[], n9, upd_same, rfl, (by intro u n p _ hp; cases hp), Nat.le_refl _, M9.same (same_upd hD2 _), fun w => M9.notLf hD2 (w.upd (M9.mne hD2)), Ef.ofSame M9 (same_upd hD2 _)⟩ (fun i H' _ ⟨_, _, _, _, _, _, _, _, e⟩ => (e.tk M9) _ _ hT9) ?_ ?_
    · rintro j x G6 G7 hj ⟨bs, n', hB2, hj2, hbb, hn', N4, nl4, e4'⟩ ⟨rfl, hx⟩
      rw [List.length_map, nn_len] at hj
      obtain ⟨c, hc, rfl⟩ := map_int_get hx
      obtain ⟨L, hL, rfl⟩ := nn_get hc
      have L8 := m8 L (List.mem_of_getElem? hL)
      refine ⟨rfl, ?_⟩
      refine ⟨_, rfl, _, rfl, m, _, n', rfl, N4, by omega, by omega, by omega, fun r' n2 G8 r0 r1 hn2 N6 e6' => ?_⟩
      obtain ⟨hB6, nl6⟩ := e6'.lst N4 hB2 nl4
      refine ⟨_, hB6, by rw [List.length_map]; exact small1000 (by omega), bs ++ [r'], n2, ?_, ?_, ?_, by omega, N6.upd hB6 nl6, fun w => nl6 (w.upd (N6.mneL hB6)), (e4'.trans e6').upd hD2 (N6.mneL hB6)⟩
      · rw [upd_same, List.map_append]
        all_goals rfl
      · rw [List.length_append, List.length_singleton, hj2]
      · intro u n p hu hp
        by_cases q : u < bs.length
        · rw [List.getElem?_append_left q] at hp
          exact hbb u n p hu hp
        · rw [List.getElem?_append_right (by omega)] at hp
          have z : u - bs.length = 0 := by
            have := (List.getElem?_eq_some_iff.mp hp).1
            simp at this
            omega
          rw [z] at hp
          cases hp
          have eu : u = j := by omega
          rw [eu, hL] at hu
          cases hu
          exact ⟨r0, r1⟩
    rintro G6 ⟨ps, n10, hB2, hpl, hpb, hn10, M10, nl10, e10⟩
    rw [List.length_map, nn_len] at hpl hn10
    refine ⟨D2, _, rfl, .inl ⟨SqL.of hB2, fun t11 ht11 => ?_⟩⟩
    have s11 := same_upd ht11 (.tup (ps.map V.int))
    have hP11 : Dp K (upd G6 t11 (.tup (ps.map V.int))) (.ref t11) (dInts ps) := Dp.ofInts (SqT.of upd_same)
    have M11 := M10.same s11
    have tk11 : TK K H9 (upd G6 t11 (.tup (ps.map V.int))) := (e10.tk M9).trans (Same.tk s11)
    generalize upd G6 t11 (.tup (ps.map V.int)) = H11 at *
    refine ⟨_, rfl, m, 12, n10, rfl, M11, by decide, by decide, by omega, fun r12 n12 H12 a12 b12 hn12 M12 e12 => ⟨_, rfl, by omega, by omega, fun D3 hD3 => ?_⟩⟩
    refine lc_it walk_range (fun j H' => ∃ (bs : List Int) (n' : Nat), H' D3 = some (.lst (bs.map V.int)) ∧ bs.length = j ∧ (∀ y ∈ bs, y.natAbs ≤ 10) ∧ n' ≤ n12 + j ∧ MS H' m n' ∧ ¬ Lf H' m D3 ∧ Ef m H12 H')
      ⟨[], n12, upd_same, rfl, (by intro y hy; cases hy), Nat.le_refl _, M12.same (same_upd hD3 _), fun w => M12.notLf hD3 (w.upd (M12.mne hD3)), Ef.ofSame M12 (same_upd hD3 _)⟩ (fun _ _ _ _ => trivial) ?_ ?_
    · rintro j x G8 G9 hj ⟨bs, n', hB3, hj2, hbb, hn', N4, nl4, e4'⟩ ⟨rfl, rfl⟩
      have j96 : j < 12 := by
        have q : j < r12.toNat := hj
        omega
      refine ⟨rfl, ?_⟩
      refine ⟨_, rfl, m, 9, n', rfl, N4, by decide, by decide, by omega, fun r' n2 Ga r0 r1 hn2 N6 e6' => ?_⟩
      obtain ⟨hB6, nl6⟩ := e6'.lst N4 hB3 nl4
      refine ⟨_, hB6, by rw [List.length_map]; exact small1000 (by omega), bs ++ [r'], n2, ?_, ?_, ?_, by omega, N6.upd hB6 nl6, fun w => nl6 (w.upd (N6.mneL hB6)), (e4'.trans e6').upd hD3 (N6.mneL hB6)⟩
      · rw [upd_same, List.map_append]
        all_goals rfl
      · rw [List.length_append, List.length_singleton, hj2]
      · intro y hy
        rcases List.mem_append.mp hy with q | q
        · exact hbb y q
        · rw [List.mem_singleton.mp q]
          omega
    rintro G8 ⟨row, n13, hB3, hrl, hrb, hn13, M13, nl13, e13⟩
    have hrl : row.length = r12.toNat := hrl
    have hn13 : n13 ≤ n12 + r12.toNat := hn13
    refine ⟨D3, _, rfl, .inl ⟨SqL.of hB3, fun t14 ht14 => ?_⟩⟩
    have s14 := same_upd ht14 (.tup (row.map V.int))
    have hR14 : Dp K (upd G8 t14 (.tup (row.map V.int))) (.ref t14) (dInts row) := Dp.ofInts (SqT.of upd_same)
    have M14 := M13.same s14
    have tk14 : TK K H11 (upd G8 t14 (.tup (row.map V.int))) := (e12.tk M11).trans ((e13.tk M12).trans (Same.tk s14))
    generalize upd G8 t14 (.tup (row.map V.int)) = H14 at *
    refine ⟨_, rfl, _, rfl, _, rfl, _, _, rfl, rfl, ⟨by decide, by decide, by decide⟩, m, _, n13, rfl, M14, by decide, by decide, by omega, fun t15 n15 H15 a15 b15 hn15 M15 e15 => ?_⟩
    have b15 : t15 < 10 ^ 9 := b15
    have tk15 : TK K H9 H15 := tk11.trans (tk14.trans (e15.tk M14))
    refine ⟨w7', w9, ls, hs, t15, rfl, Dp.keepT tk15 (dLoops ls) _ (to_loops _) hd7', Dp.keepT tk15 (dLoops hs) _ (to_loops _) hd9, okl, okh, hb7, a15, by omega, fun H16 s16 => ⟨_, rfl, iteF ?_⟩⟩
    have tk16 : TK K H11 H16 := tk14.trans ((e15.tk M14).trans (Same.tk s16))
    refine ⟨_, rfl, _, rfl, _, rfl, .ref t5, .ref t14, .ref t11, ms, row, ps, rfl, Dp.ofInts ((tk11.trans tk16) _ _ hT9), Dp.keepT ((e15.tk M14).trans (Same.tk s16)) (dInts row) _ (to_ints _) hR14, Dp.keepT tk16 (dInts ps) _ (to_ints _) hP11, ok, ne, by omega, hrb, ⟨hpl, hpb⟩, fun H17 s17 => ⟨_, rfl, iteF ?_⟩⟩
    exact ⟨n15, _, _, _, _, _, _, _, rfl, M15.same (s16.trans s17), by omega⟩
  exact fun σ H2 _ => q _
end
end My

namespace My
open PySem PySem.Spec PyProof.Rows L2
theorem all_mk {P : Program} {w : World} {K : PySem.W.Frag} {h : Heap} {mg : Str → Option Value} {fa : Addr} (X : K.In h) (G : h.Ns mainGlobals mg) (hfa : mg "law" = some (.ref fa))
    {f0 f1 f2 f3 f4 f5 f6 f7 f8 f9 f10 f11 f12 f13 f14 f15 f16 f17 f18 f19 f20 f21 f22 f23 f24 f25 f26 f27 f28 f29 f30 f31 f32 f33 f34 f35 f36 f37 f38 f39 f40 f41 f42 f43 f44 f45 f46 f47 f48 f49 f50 f51 f52 f53 f54 : Addr} {od0 an0 od1 an1 od2 an2 od3 an3 od4 an4 od5 an5 od6 an6 od7 an7 od8 an8 od9 an9 od10 an10 od11 an11 od12 an12 od13 an13 od14 an14 od15 an15 od16 an16 od17 an17 od18 an18 od19 an19 od20 an20 od21 an21 od22 an22 od23 an23 od24 an24 od25 an25 od26 an26 od27 an27 od28 an28 od29 an29 od30 an30 od31 an31 od32 an32 od33 an33 od34 an34 od35 an35 od36 an36 od37 an37 od38 an38 od39 an39 od40 an40 od41 an41 od42 an42 od43 an43 od44 an44 od45 an45 od46 an46 od47 an47 od48 an48 od49 an49 od50 an50 od51 an51 od52 an52 od53 an53 od54 an54 : Option Addr} {sl0 sl1 sl2 sl3 sl4 sl5 sl6 sl7 sl8 sl9 sl10 sl11 sl12 sl13 sl14 sl15 sl16 sl17 sl18 sl19 sl20 sl21 sl22 sl23 sl24 sl25 sl26 sl27 sl28 sl29 sl30 sl31 sl32 sl33 sl34 sl35 sl36 sl37 sl38 sl39 sl40 sl41 sl42 sl43 sl44 sl45 sl46 sl47 sl48 sl49 sl50 sl51 sl52 sl53 sl54 : Array (Option Value)}
    {oc0 kV0 dc0 pm0 cd0 ct0 oc1 kV1 dc1 pm1 cd1 ct1 oc2 kV2 dc2 pm2 cd2 ct2 oc3 kV3 dc3 pm3 cd3 ct3 oc4 kV4 dc4 pm4 cd4 ct4 oc5 kV5 dc5 pm5 cd5 ct5 oc6 kV6 dc6 pm6 cd6 ct6 oc7 kV7 dc7 pm7 cd7 ct7 oc8 kV8 dc8 pm8 cd8 ct8 oc9 kV9 dc9 pm9 cd9 ct9 oc10 kV10 dc10 pm10 cd10 ct10 oc11 kV11 dc11 pm11 cd11 ct11 oc12 kV12 dc12 pm12 cd12 ct12 oc13 kV13 dc13 pm13 cd13 ct13 oc14 kV14 dc14 pm14 cd14 ct14 oc15 kV15 dc15 pm15 cd15 ct15 oc16 kV16 dc16 pm16 cd16 ct16 oc17 kV17 dc17 pm17 cd17 ct17 oc18 kV18 dc18 pm18 cd18 ct18 oc19 kV19 dc19 pm19 cd19 ct19 oc20 kV20 dc20 pm20 cd20 ct20 oc21 kV21 dc21 pm21 cd21 ct21 oc22 kV22 dc22 pm22 cd22 ct22 oc23 kV23 dc23 pm23 cd23 ct23 oc24 kV24 dc24 pm24 cd24 ct24 oc25 kV25 dc25 pm25 cd25 ct25 oc26 kV26 dc26 pm26 cd26 ct26 oc27 kV27 dc27 pm27 cd27 ct27 oc28 kV28 dc28 pm28 cd28 ct28 oc29 kV29 dc29 pm29 cd29 ct29 oc30 kV30 dc30 pm30 cd30 ct30 oc31 kV31 dc31 pm31 cd31 ct31 oc32 kV32 dc32 pm32 cd32 ct32 oc33 kV33 dc33 pm33 cd33 ct33 oc34 kV34 dc34 pm34 cd34 ct34 oc35 kV35 dc35 pm35 cd35 ct35 oc36 kV36 dc36 pm36 cd36 ct36 oc37 kV37 dc37 pm37 cd37 ct37 oc38 kV38 dc38 pm38 cd38 ct38 oc39 kV39 dc39 pm39 cd39 ct39 oc40 kV40 dc40 pm40 cd40 ct40 oc41 kV41 dc41 pm41 cd41 ct41 oc42 kV42 dc42 pm42 cd42 ct42 oc43 kV43 dc43 pm43 cd43 ct43 oc44 kV44 dc44 pm44 cd44 ct44 oc45 kV45 dc45 pm45 cd45 ct45 oc46 kV46 dc46 pm46 cd46 ct46 oc47 kV47 dc47 pm47 cd47 ct47 oc48 kV48 dc48 pm48 cd48 ct48 oc49 kV49 dc49 pm49 cd49 ct49 oc50 kV50 dc50 pm50 cd50 ct50 oc51 kV51 dc51 pm51 cd51 ct51 oc52 kV52 dc52 pm52 cd52 ct52 oc53 kV53 dc53 pm53 cd53 ct53 oc54 kV54 dc54 pm54 cd54 ct54 : Value}
    {tk_MOST_LOOPS tk_MOST_THINGS tk_MOST_LENGTHS_spans tk_MOST_LENGTH_spans tk_MOST_LENGTHS_fits tk_MOST_LENGTH_fits tk_MOST_SAMPLES : Tok}
    (a0 : PySem.W.nsIn K mainGlobals "is_whole" = some (some (.ref f0)))
    (l0 : K.lookup f0 = some ⟨oc0, od0, .func (PySem.W.fnOf "is_whole" "is_whole" (defArgs s_is_whole) (defBody s_is_whole) (defScope s_is_whole) .none kV0 dc0 pm0 an0 cd0 ct0), sl0⟩)
    (c0 : PySem.W.codeIn K cd0 "is_whole" = true) (k0 : PySem.W.keepIn K (.ref f0) = true)
    (a1 : PySem.W.nsIn K mainGlobals "are_samples" = some (some (.ref f1)))
    (l1 : K.lookup f1 = some ⟨oc1, od1, .func (PySem.W.fnOf "are_samples" "are_samples" (defArgs s_are_samples) (defBody s_are_samples) (defScope s_are_samples) .none kV1 dc1 pm1 an1 cd1 ct1), sl1⟩)
    (c1 : PySem.W.codeIn K cd1 "are_samples" = true) (k1 : PySem.W.keepIn K (.ref f1) = true)
    (a2 : PySem.W.nsIn K mainGlobals "are_at_most" = some (some (.ref f2)))
    (l2 : K.lookup f2 = some ⟨oc2, od2, .func (PySem.W.fnOf "are_at_most" "are_at_most" (defArgs s_are_at_most) (defBody s_are_at_most) (defScope s_are_at_most) .none kV2 dc2 pm2 an2 cd2 ct2), sl2⟩)
    (c2 : PySem.W.codeIn K cd2 "are_at_most" = true) (k2 : PySem.W.keepIn K (.ref f2) = true)
    (a3 : PySem.W.nsIn K mainGlobals "begins" = some (some (.ref f3)))
    (l3 : K.lookup f3 = some ⟨oc3, od3, .func (PySem.W.fnOf "begins" "begins" (defArgs s_begins) (defBody s_begins) (defScope s_begins) .none kV3 dc3 pm3 an3 cd3 ct3), sl3⟩)
    (c3 : PySem.W.codeIn K cd3 "begins" = true) (k3 : PySem.W.keepIn K (.ref f3) = true)
    (a4 : PySem.W.nsIn K mainGlobals "is_tick" = some (some (.ref f4)))
    (l4 : K.lookup f4 = some ⟨oc4, od4, .func (PySem.W.fnOf "is_tick" "is_tick" (defArgs s_is_tick) (defBody s_is_tick) (defScope s_is_tick) .none kV4 dc4 pm4 an4 cd4 ct4), sl4⟩)
    (c4 : PySem.W.codeIn K cd4 "is_tick" = true) (k4 : PySem.W.keepIn K (.ref f4) = true)
    (a5 : PySem.W.nsIn K mainGlobals "need_tick" = some (some (.ref f5)))
    (l5 : K.lookup f5 = some ⟨oc5, od5, .func (PySem.W.fnOf "need_tick" "need_tick" (defArgs s_need_tick) (defBody s_need_tick) (defScope s_need_tick) .none kV5 dc5 pm5 an5 cd5 ct5), sl5⟩)
    (c5 : PySem.W.codeIn K cd5 "need_tick" = true) (k5 : PySem.W.keepIn K (.ref f5) = true)
    (a6 : PySem.W.nsIn K mainGlobals "need_many" = some (some (.ref f6)))
    (l6 : K.lookup f6 = some ⟨oc6, od6, .func (PySem.W.fnOf "need_many" "need_many" (defArgs s_need_many) (defBody s_need_many) (defScope s_need_many) .none kV6 dc6 pm6 an6 cd6 ct6), sl6⟩)
    (c6 : PySem.W.codeIn K cd6 "need_many" = true) (k6 : PySem.W.keepIn K (.ref f6) = true)
    (a7 : PySem.W.nsIn K mainGlobals "need_loops" = some (some (.ref f7)))
    (l7 : K.lookup f7 = some ⟨oc7, od7, .func (PySem.W.fnOf "need_loops" "need_loops" (defArgs s_need_loops) (defBody s_need_loops) (defScope s_need_loops) .none kV7 dc7 pm7 an7 cd7 ct7), sl7⟩)
    (c7 : PySem.W.codeIn K cd7 "need_loops" = true) (k7 : PySem.W.keepIn K (.ref f7) = true)
    (a8 : PySem.W.nsIn K mainGlobals "lengths_of" = some (some (.ref f8)))
    (l8 : K.lookup f8 = some ⟨oc8, od8, .func (PySem.W.fnOf "lengths_of" "lengths_of" (defArgs s_lengths_of) (defBody s_lengths_of) (defScope s_lengths_of) .none kV8 dc8 pm8 an8 cd8 ct8), sl8⟩)
    (c8 : PySem.W.codeIn K cd8 "lengths_of" = true) (k8 : PySem.W.keepIn K (.ref f8) = true)
    (a9 : PySem.W.nsIn K mainGlobals "heard" = some (some (.ref f9)))
    (l9 : K.lookup f9 = some ⟨oc9, od9, .func (PySem.W.fnOf "heard" "heard" (defArgs s_heard) (defBody s_heard) (defScope s_heard) .none kV9 dc9 pm9 an9 cd9 ct9), sl9⟩)
    (c9 : PySem.W.codeIn K cd9 "heard" = true) (k9 : PySem.W.keepIn K (.ref f9) = true)
    (a10 : PySem.W.nsIn K mainGlobals "heard_row" = some (some (.ref f10)))
    (l10 : K.lookup f10 = some ⟨oc10, od10, .func (PySem.W.fnOf "heard_row" "heard_row" (defArgs s_heard_row) (defBody s_heard_row) (defScope s_heard_row) .none kV10 dc10 pm10 an10 cd10 ct10), sl10⟩)
    (c10 : PySem.W.codeIn K cd10 "heard_row" = true) (k10 : PySem.W.keepIn K (.ref f10) = true)
    (a11 : PySem.W.nsIn K mainGlobals "later" = some (some (.ref f11)))
    (l11 : K.lookup f11 = some ⟨oc11, od11, .func (PySem.W.fnOf "later" "later" (defArgs s_later) (defBody s_later) (defScope s_later) .none kV11 dc11 pm11 an11 cd11 ct11), sl11⟩)
    (c11 : PySem.W.codeIn K cd11 "later" = true) (k11 : PySem.W.keepIn K (.ref f11) = true)
    (a12 : PySem.W.nsIn K mainGlobals "sum_at" = some (some (.ref f12)))
    (l12 : K.lookup f12 = some ⟨oc12, od12, .func (PySem.W.fnOf "sum_at" "sum_at" (defArgs s_sum_at) (defBody s_sum_at) (defScope s_sum_at) .none kV12 dc12 pm12 an12 cd12 ct12), sl12⟩)
    (c12 : PySem.W.codeIn K cd12 "sum_at" = true) (k12 : PySem.W.keepIn K (.ref f12) = true)
    (a13 : PySem.W.nsIn K mainGlobals "begun_at" = some (some (.ref f13)))
    (l13 : K.lookup f13 = some ⟨oc13, od13, .func (PySem.W.fnOf "begun_at" "begun_at" (defArgs s_begun_at) (defBody s_begun_at) (defScope s_begun_at) .none kV13 dc13 pm13 an13 cd13 ct13), sl13⟩)
    (c13 : PySem.W.codeIn K cd13 "begun_at" = true) (k13 : PySem.W.keepIn K (.ref f13) = true)
    (a14 : PySem.W.nsIn K mainGlobals "need_lengths" = some (some (.ref f14)))
    (l14 : K.lookup f14 = some ⟨oc14, od14, .func (PySem.W.fnOf "need_lengths" "need_lengths" (defArgs s_need_lengths) (defBody s_need_lengths) (defScope s_need_lengths) .none kV14 dc14 pm14 an14 cd14 ct14), sl14⟩)
    (c14 : PySem.W.codeIn K cd14 "need_lengths" = true) (k14 : PySem.W.keepIn K (.ref f14) = true)
    (a15 : PySem.W.nsIn K mainGlobals "span" = some (some (.ref f15)))
    (l15 : K.lookup f15 = some ⟨oc15, od15, .func (PySem.W.fnOf "span" "span" (defArgs s_span) (defBody s_span) (defScope s_span) .none kV15 dc15 pm15 an15 cd15 ct15), sl15⟩)
    (c15 : PySem.W.codeIn K cd15 "span" = true) (k15 : PySem.W.keepIn K (.ref f15) = true)
    (a16 : PySem.W.nsIn K mainGlobals "weights" = some (some (.ref f16)))
    (l16 : K.lookup f16 = some ⟨oc16, od16, .func (PySem.W.fnOf "weights" "weights" (defArgs s_weights) (defBody s_weights) (defScope s_weights) .none kV16 dc16 pm16 an16 cd16 ct16), sl16⟩)
    (c16 : PySem.W.codeIn K cd16 "weights" = true) (k16 : PySem.W.keepIn K (.ref f16) = true)
    (a17 : PySem.W.nsIn K mainGlobals "carried" = some (some (.ref f17)))
    (l17 : K.lookup f17 = some ⟨oc17, od17, .func (PySem.W.fnOf "carried" "carried" (defArgs s_carried) (defBody s_carried) (defScope s_carried) .none kV17 dc17 pm17 an17 cd17 ct17), sl17⟩)
    (c17 : PySem.W.codeIn K cd17 "carried" = true) (k17 : PySem.W.keepIn K (.ref f17) = true)
    (a18 : PySem.W.nsIn K mainGlobals "weighted" = some (some (.ref f18)))
    (l18 : K.lookup f18 = some ⟨oc18, od18, .func (PySem.W.fnOf "weighted" "weighted" (defArgs s_weighted) (defBody s_weighted) (defScope s_weighted) .none kV18 dc18 pm18 an18 cd18 ct18), sl18⟩)
    (c18 : PySem.W.codeIn K cd18 "weighted" = true) (k18 : PySem.W.keepIn K (.ref f18) = true)
    (a19 : PySem.W.nsIn K mainGlobals "common_divisor" = some (some (.ref f19)))
    (l19 : K.lookup f19 = some ⟨oc19, od19, .func (PySem.W.fnOf "common_divisor" "common_divisor" (defArgs s_common_divisor) (defBody s_common_divisor) (defScope s_common_divisor) .none kV19 dc19 pm19 an19 cd19 ct19), sl19⟩)
    (c19 : PySem.W.codeIn K cd19 "common_divisor" = true) (k19 : PySem.W.keepIn K (.ref f19) = true)
    (a20 : PySem.W.nsIn K mainGlobals "common_multiple" = some (some (.ref f20)))
    (l20 : K.lookup f20 = some ⟨oc20, od20, .func (PySem.W.fnOf "common_multiple" "common_multiple" (defArgs s_common_multiple) (defBody s_common_multiple) (defScope s_common_multiple) .none kV20 dc20 pm20 an20 cd20 ct20), sl20⟩)
    (c20 : PySem.W.codeIn K cd20 "common_multiple" = true) (k20 : PySem.W.keepIn K (.ref f20) = true)
    (a21 : PySem.W.nsIn K mainGlobals "ring_powers" = some (some (.ref f21)))
    (l21 : K.lookup f21 = some ⟨oc21, od21, .func (PySem.W.fnOf "ring_powers" "ring_powers" (defArgs s_ring_powers) (defBody s_ring_powers) (defScope s_ring_powers) .none kV21 dc21 pm21 an21 cd21 ct21), sl21⟩)
    (c21 : PySem.W.codeIn K cd21 "ring_powers" = true) (k21 : PySem.W.keepIn K (.ref f21) = true)
    (a22 : PySem.W.nsIn K mainGlobals "times_ring" = some (some (.ref f22)))
    (l22 : K.lookup f22 = some ⟨oc22, od22, .func (PySem.W.fnOf "times_ring" "times_ring" (defArgs s_times_ring) (defBody s_times_ring) (defScope s_times_ring) .none kV22 dc22 pm22 an22 cd22 ct22), sl22⟩)
    (c22 : PySem.W.codeIn K cd22 "times_ring" = true) (k22 : PySem.W.keepIn K (.ref f22) = true)
    (a23 : PySem.W.nsIn K mainGlobals "over_ring" = some (some (.ref f23)))
    (l23 : K.lookup f23 = some ⟨oc23, od23, .func (PySem.W.fnOf "over_ring" "over_ring" (defArgs s_over_ring) (defBody s_over_ring) (defScope s_over_ring) .none kV23 dc23 pm23 an23 cd23 ct23), sl23⟩)
    (c23 : PySem.W.codeIn K cd23 "over_ring" = true) (k23 : PySem.W.keepIn K (.ref f23) = true)
    (a24 : PySem.W.nsIn K mainGlobals "first_apart" = some (some (.ref f24)))
    (l24 : K.lookup f24 = some ⟨oc24, od24, .func (PySem.W.fnOf "first_apart" "first_apart" (defArgs s_first_apart) (defBody s_first_apart) (defScope s_first_apart) .none kV24 dc24 pm24 an24 cd24 ct24), sl24⟩)
    (c24 : PySem.W.codeIn K cd24 "first_apart" = true) (k24 : PySem.W.keepIn K (.ref f24) = true)
    (a25 : PySem.W.nsIn K mainGlobals "period" = some (some (.ref f25)))
    (l25 : K.lookup f25 = some ⟨oc25, od25, .func (PySem.W.fnOf "period" "period" (defArgs s_period) (defBody s_period) (defScope s_period) .none kV25 dc25 pm25 an25 cd25 ct25), sl25⟩)
    (c25 : PySem.W.codeIn K cd25 "period" = true) (k25 : PySem.W.keepIn K (.ref f25) = true)
    (a26 : PySem.W.nsIn K mainGlobals "silent" = some (some (.ref f26)))
    (l26 : K.lookup f26 = some ⟨oc26, od26, .func (PySem.W.fnOf "silent" "silent" (defArgs s_silent) (defBody s_silent) (defScope s_silent) .none kV26 dc26 pm26 an26 cd26 ct26), sl26⟩)
    (c26 : PySem.W.codeIn K cd26 "silent" = true) (k26 : PySem.W.keepIn K (.ref f26) = true)
    (a27 : PySem.W.nsIn K mainGlobals "parted_at" = some (some (.ref f27)))
    (l27 : K.lookup f27 = some ⟨oc27, od27, .func (PySem.W.fnOf "parted_at" "parted_at" (defArgs s_parted_at) (defBody s_parted_at) (defScope s_parted_at) .none kV27 dc27 pm27 an27 cd27 ct27), sl27⟩)
    (c27 : PySem.W.codeIn K cd27 "parted_at" = true) (k27 : PySem.W.keepIn K (.ref f27) = true)
    (a28 : PySem.W.nsIn K mainGlobals "leads_round" = some (some (.ref f28)))
    (l28 : K.lookup f28 = some ⟨oc28, od28, .func (PySem.W.fnOf "leads_round" "leads_round" (defArgs s_leads_round) (defBody s_leads_round) (defScope s_leads_round) .none kV28 dc28 pm28 an28 cd28 ct28), sl28⟩)
    (c28 : PySem.W.codeIn K cd28 "leads_round" = true) (k28 : PySem.W.keepIn K (.ref f28) = true)
    (a29 : PySem.W.nsIn K mainGlobals "fit" = some (some (.ref f29)))
    (l29 : K.lookup f29 = some ⟨oc29, od29, .func (PySem.W.fnOf "fit" "fit" (defArgs s_fit) (defBody s_fit) (defScope s_fit) .none kV29 dc29 pm29 an29 cd29 ct29), sl29⟩)
    (c29 : PySem.W.codeIn K cd29 "fit" = true) (k29 : PySem.W.keepIn K (.ref f29) = true)
    (a30 : PySem.W.nsIn K mainGlobals "check_fit" = some (some (.ref f30)))
    (l30 : K.lookup f30 = some ⟨oc30, od30, .func (PySem.W.fnOf "check_fit" "check_fit" (defArgs s_check_fit) (defBody s_check_fit) (defScope s_check_fit) .none kV30 dc30 pm30 an30 cd30 ct30), sl30⟩)
    (c30 : PySem.W.codeIn K cd30 "check_fit" = true) (k30 : PySem.W.keepIn K (.ref f30) = true)
    (a31 : PySem.W.nsIn K mainGlobals "deceiver" = some (some (.ref f31)))
    (l31 : K.lookup f31 = some ⟨oc31, od31, .func (PySem.W.fnOf "deceiver" "deceiver" (defArgs s_deceiver) (defBody s_deceiver) (defScope s_deceiver) .none kV31 dc31 pm31 an31 cd31 ct31), sl31⟩)
    (c31 : PySem.W.codeIn K cd31 "deceiver" = true) (k31 : PySem.W.keepIn K (.ref f31) = true)
    (a32 : PySem.W.nsIn K mainGlobals "need_few" = some (some (.ref f32)))
    (l32 : K.lookup f32 = some ⟨oc32, od32, .func (PySem.W.fnOf "need_few" "need_few" (defArgs s_need_few) (defBody s_need_few) (defScope s_need_few) .none kV32 dc32 pm32 an32 cd32 ct32), sl32⟩)
    (c32 : PySem.W.codeIn K cd32 "need_few" = true) (k32 : PySem.W.keepIn K (.ref f32) = true)
    (a33 : PySem.W.nsIn K mainGlobals "need_samples" = some (some (.ref f33)))
    (l33 : K.lookup f33 = some ⟨oc33, od33, .func (PySem.W.fnOf "need_samples" "need_samples" (defArgs s_need_samples) (defBody s_need_samples) (defScope s_need_samples) .none kV33 dc33 pm33 an33 cd33 ct33), sl33⟩)
    (c33 : PySem.W.codeIn K cd33 "need_samples" = true) (k33 : PySem.W.keepIn K (.ref f33) = true)
    (a34 : PySem.W.nsIn K mainGlobals "first_ground" = some (some (.ref f34)))
    (l34 : K.lookup f34 = some ⟨oc34, od34, .func (PySem.W.fnOf "first_ground" "first_ground" (defArgs s_first_ground) (defBody s_first_ground) (defScope s_first_ground) .none kV34 dc34 pm34 an34 cd34 ct34), sl34⟩)
    (c34 : PySem.W.codeIn K cd34 "first_ground" = true) (k34 : PySem.W.keepIn K (.ref f34) = true)
    (a35 : PySem.W.nsIn K mainGlobals "is_ground" = some (some (.ref f35)))
    (l35 : K.lookup f35 = some ⟨oc35, od35, .func (PySem.W.fnOf "is_ground" "is_ground" (defArgs s_is_ground) (defBody s_is_ground) (defScope s_is_ground) .none kV35 dc35 pm35 an35 cd35 ct35), sl35⟩)
    (c35 : PySem.W.codeIn K cd35 "is_ground" = true) (k35 : PySem.W.keepIn K (.ref f35) = true)
    (a36 : PySem.W.nsIn K mainGlobals "are_heard_as" = some (some (.ref f36)))
    (l36 : K.lookup f36 = some ⟨oc36, od36, .func (PySem.W.fnOf "are_heard_as" "are_heard_as" (defArgs s_are_heard_as) (defBody s_are_heard_as) (defScope s_are_heard_as) .none kV36 dc36 pm36 an36 cd36 ct36), sl36⟩)
    (c36 : PySem.W.codeIn K cd36 "are_heard_as" = true) (k36 : PySem.W.keepIn K (.ref f36) = true)
    (a37 : PySem.W.nsIn K mainGlobals "loops_heard_as" = some (some (.ref f37)))
    (l37 : K.lookup f37 = some ⟨oc37, od37, .func (PySem.W.fnOf "loops_heard_as" "loops_heard_as" (defArgs s_loops_heard_as) (defBody s_loops_heard_as) (defScope s_loops_heard_as) .none kV37 dc37 pm37 an37 cd37 ct37), sl37⟩)
    (c37 : PySem.W.codeIn K cd37 "loops_heard_as" = true) (k37 : PySem.W.keepIn K (.ref f37) = true)
    (a38 : PySem.W.nsIn K mainGlobals "mixed" = some (some (.ref f38)))
    (l38 : K.lookup f38 = some ⟨oc38, od38, .func (PySem.W.fnOf "mixed" "mixed" (defArgs s_mixed) (defBody s_mixed) (defScope s_mixed) .none kV38 dc38 pm38 an38 cd38 ct38), sl38⟩)
    (c38 : PySem.W.codeIn K cd38 "mixed" = true) (k38 : PySem.W.keepIn K (.ref f38) = true)
    (a39 : PySem.W.nsIn K mainGlobals "deceiver_of" = some (some (.ref f39)))
    (l39 : K.lookup f39 = some ⟨oc39, od39, .func (PySem.W.fnOf "deceiver_of" "deceiver_of" (defArgs s_deceiver_of) (defBody s_deceiver_of) (defScope s_deceiver_of) .none kV39 dc39 pm39 an39 cd39 ct39), sl39⟩)
    (c39 : PySem.W.codeIn K cd39 "deceiver_of" = true) (k39 : PySem.W.keepIn K (.ref f39) = true)
    (a40 : PySem.W.nsIn K mainGlobals "last_loop" = some (some (.ref f40)))
    (l40 : K.lookup f40 = some ⟨oc40, od40, .func (PySem.W.fnOf "last_loop" "last_loop" (defArgs s_last_loop) (defBody s_last_loop) (defScope s_last_loop) .none kV40 dc40 pm40 an40 cd40 ct40), sl40⟩)
    (c40 : PySem.W.codeIn K cd40 "last_loop" = true) (k40 : PySem.W.keepIn K (.ref f40) = true)
    (a41 : PySem.W.nsIn K mainGlobals "strides" = some (some (.ref f41)))
    (l41 : K.lookup f41 = some ⟨oc41, od41, .func (PySem.W.fnOf "strides" "strides" (defArgs s_strides) (defBody s_strides) (defScope s_strides) .none kV41 dc41 pm41 an41 cd41 ct41), sl41⟩)
    (c41 : PySem.W.codeIn K cd41 "strides" = true) (k41 : PySem.W.keepIn K (.ref f41) = true)
    (a42 : PySem.W.nsIn K mainGlobals "strides_to" = some (some (.ref f42)))
    (l42 : K.lookup f42 = some ⟨oc42, od42, .func (PySem.W.fnOf "strides_to" "strides_to" (defArgs s_strides_to) (defBody s_strides_to) (defScope s_strides_to) .none kV42 dc42 pm42 an42 cd42 ct42), sl42⟩)
    (c42 : PySem.W.codeIn K cd42 "strides_to" = true) (k42 : PySem.W.keepIn K (.ref f42) = true)
    (a43 : PySem.W.nsIn K mainGlobals "meeting" = some (some (.ref f43)))
    (l43 : K.lookup f43 = some ⟨oc43, od43, .func (PySem.W.fnOf "meeting" "meeting" (defArgs s_meeting) (defBody s_meeting) (defScope s_meeting) .none kV43 dc43 pm43 an43 cd43 ct43), sl43⟩)
    (c43 : PySem.W.codeIn K cd43 "meeting" = true) (k43 : PySem.W.keepIn K (.ref f43) = true)
    (a44 : PySem.W.nsIn K mainGlobals "check_meeting" = some (some (.ref f44)))
    (l44 : K.lookup f44 = some ⟨oc44, od44, .func (PySem.W.fnOf "check_meeting" "check_meeting" (defArgs s_check_meeting) (defBody s_check_meeting) (defScope s_check_meeting) .none kV44 dc44 pm44 an44 cd44 ct44), sl44⟩)
    (c44 : PySem.W.codeIn K cd44 "check_meeting" = true) (k44 : PySem.W.keepIn K (.ref f44) = true)
    (a45 : PySem.W.nsIn K mainGlobals "need_places" = some (some (.ref f45)))
    (l45 : K.lookup f45 = some ⟨oc45, od45, .func (PySem.W.fnOf "need_places" "need_places" (defArgs s_need_places) (defBody s_need_places) (defScope s_need_places) .none kV45 dc45 pm45 an45 cd45 ct45), sl45⟩)
    (c45 : PySem.W.codeIn K cd45 "need_places" = true) (k45 : PySem.W.keepIn K (.ref f45) = true)
    (a46 : PySem.W.nsIn K mainGlobals "never_meet" = some (some (.ref f46)))
    (l46 : K.lookup f46 = some ⟨oc46, od46, .func (PySem.W.fnOf "never_meet" "never_meet" (defArgs s_never_meet) (defBody s_never_meet) (defScope s_never_meet) .none kV46 dc46 pm46 an46 cd46 ct46), sl46⟩)
    (c46 : PySem.W.codeIn K cd46 "never_meet" = true) (k46 : PySem.W.keepIn K (.ref f46) = true)
    (a47 : PySem.W.nsIn K mainGlobals "first_meeting" = some (some (.ref f47)))
    (l47 : K.lookup f47 = some ⟨oc47, od47, .func (PySem.W.fnOf "first_meeting" "first_meeting" (defArgs s_first_meeting) (defBody s_first_meeting) (defScope s_first_meeting) .none kV47 dc47 pm47 an47 cd47 ct47), sl47⟩)
    (c47 : PySem.W.codeIn K cd47 "first_meeting" = true) (k47 : PySem.W.keepIn K (.ref f47) = true)
    (a48 : PySem.W.nsIn K mainGlobals "is_first_meeting" = some (some (.ref f48)))
    (l48 : K.lookup f48 = some ⟨oc48, od48, .func (PySem.W.fnOf "is_first_meeting" "is_first_meeting" (defArgs s_is_first_meeting) (defBody s_is_first_meeting) (defScope s_is_first_meeting) .none kV48 dc48 pm48 an48 cd48 ct48), sl48⟩)
    (c48 : PySem.W.codeIn K cd48 "is_first_meeting" = true) (k48 : PySem.W.keepIn K (.ref f48) = true)
    (a49 : PySem.W.nsIn K mainGlobals "_law_begun" = some (some (.ref f49)))
    (l49 : K.lookup f49 = some ⟨oc49, od49, .func (PySem.W.fnOf "_law_begun" "_law_begun" (defArgs s__law_begun) (defBody s__law_begun) (defScope s__law_begun) .none kV49 dc49 pm49 an49 cd49 ct49), sl49⟩)
    (c49 : PySem.W.codeIn K cd49 "_law_begun" = true) (k49 : PySem.W.keepIn K (.ref f49) = true)
    (a50 : PySem.W.nsIn K mainGlobals "_law_next" = some (some (.ref f50)))
    (l50 : K.lookup f50 = some ⟨oc50, od50, .func (PySem.W.fnOf "_law_next" "_law_next" (defArgs s__law_next) (defBody s__law_next) (defScope s__law_next) .none kV50 dc50 pm50 an50 cd50 ct50), sl50⟩)
    (c50 : PySem.W.codeIn K cd50 "_law_next" = true) (k50 : PySem.W.keepIn K (.ref f50) = true)
    (a51 : PySem.W.nsIn K mainGlobals "_law_drawn" = some (some (.ref f51)))
    (l51 : K.lookup f51 = some ⟨oc51, od51, .func (PySem.W.fnOf "_law_drawn" "_law_drawn" (defArgs s__law_drawn) (defBody s__law_drawn) (defScope s__law_drawn) .none kV51 dc51 pm51 an51 cd51 ct51), sl51⟩)
    (c51 : PySem.W.codeIn K cd51 "_law_drawn" = true) (k51 : PySem.W.keepIn K (.ref f51) = true)
    (a52 : PySem.W.nsIn K mainGlobals "_law_loops_right" = some (some (.ref f52)))
    (l52 : K.lookup f52 = some ⟨oc52, od52, .func (PySem.W.fnOf "_law_loops_right" "_law_loops_right" (defArgs s__law_loops_right) (defBody s__law_loops_right) (defScope s__law_loops_right) .none kV52 dc52 pm52 an52 cd52 ct52), sl52⟩)
    (c52 : PySem.W.codeIn K cd52 "_law_loops_right" = true) (k52 : PySem.W.keepIn K (.ref f52) = true)
    (a53 : PySem.W.nsIn K mainGlobals "_law_lengths_right" = some (some (.ref f53)))
    (l53 : K.lookup f53 = some ⟨oc53, od53, .func (PySem.W.fnOf "_law_lengths_right" "_law_lengths_right" (defArgs s__law_lengths_right) (defBody s__law_lengths_right) (defScope s__law_lengths_right) .none kV53 dc53 pm53 an53 cd53 ct53), sl53⟩)
    (c53 : PySem.W.codeIn K cd53 "_law_lengths_right" = true) (k53 : PySem.W.keepIn K (.ref f53) = true)
    (a54 : PySem.W.nsIn K mainGlobals "law" = some (some (.ref f54)))
    (l54 : K.lookup f54 = some ⟨oc54, od54, .func (PySem.W.fnOf "law" "law" (defArgs s_law) (defBody s_law) (defScope s_law) .none kV54 dc54 pm54 an54 cd54 ct54), sl54⟩)
    (c54 : PySem.W.codeIn K cd54 "law" = true) (k54 : PySem.W.keepIn K (.ref f54) = true)
    {C_BadLoops f_BadLoops N_BadLoops : Addr} {nm_BadLoops q_BadLoops : Str} {bs_BadLoops sub_BadLoops : List Value} {sn_BadLoops : List Str} {ab_BadLoops : Bool} {col_BadLoops : Option Bool} {dd_BadLoops od_BadLoops an_BadLoops : Option Addr} {m0_BadLoops m1_BadLoops m2_BadLoops m3_BadLoops m5_BadLoops : Option Value}
    {sl_BadLoops : Array (Option Value)} {oc_BadLoops kV_BadLoops dc_BadLoops pm_BadLoops cd_BadLoops ct_BadLoops : Value}
    (aC_BadLoops : PySem.W.nsIn K mainGlobals "BadLoops" = some (some (.ref C_BadLoops)))
    (xL_BadLoops : K.lookup C_BadLoops = some (excClassObj nm_BadLoops q_BadLoops C_BadLoops N_BadLoops bs_BadLoops [.type "ValueError", .type "Exception", .type "BaseException", .type "object"] true sn_BadLoops sub_BadLoops ab_BadLoops col_BadLoops dd_BadLoops m0_BadLoops m1_BadLoops m2_BadLoops m3_BadLoops m5_BadLoops "ValueError.__new__"))
    (sa_BadLoops : PySem.W.findIn K (.ref C_BadLoops) "__setattr__" = some (some (.builtin "object.__setattr__")))
    (ga_BadLoops : PySem.W.findIn K (.ref C_BadLoops) "__getattribute__" = some (some (.builtin "BaseException.__getattribute__")))
    (gg_BadLoops : PySem.W.findIn K (.ref C_BadLoops) "__getattr__" = some none)
    (nb_BadLoops : PySem.W.findIn K (.ref C_BadLoops) "place" = some none)
    (ai_BadLoops : PySem.W.findIn K (.ref C_BadLoops) "__init__" = some (some (.ref f_BadLoops)))
    (ti_BadLoops : PySem.W.typeIn K (.ref f_BadLoops) = some (.type "function"))
    (kC_BadLoops : PySem.W.keepIn K (.ref C_BadLoops) = true)
    (eC_BadLoops : PySem.W.subIn K (.ref C_BadLoops) (.type "BaseException") = some true)
    (tC_BadLoops : PySem.W.typeIn K (.ref C_BadLoops) = some (.type "type"))
    (hC_BadLoops : PySem.W.hasDictIn K C_BadLoops = true)
    (iC_BadLoops : PySem.W.isClsIn K C_BadLoops = true)
    (sC_BadLoops : PySem.W.subIn K (.ref C_BadLoops) (.ref C_BadLoops) = some true)
    (ki_BadLoops : PySem.W.keepIn K (.ref f_BadLoops) = true)
    (li_BadLoops : K.lookup f_BadLoops = some ⟨oc_BadLoops, od_BadLoops, .func (PySem.W.fnOf "__init__" "BadLoops.__init__" (defArgs s_BadLoops_init) (defBody s_BadLoops_init) (defScope s_BadLoops_init) .none kV_BadLoops dc_BadLoops pm_BadLoops an_BadLoops cd_BadLoops ct_BadLoops), sl_BadLoops⟩)
    (ci_BadLoops : PySem.W.codeIn K cd_BadLoops "BadLoops.__init__" = true)
    (z_ValueError : PySem.W.nsIn K mainGlobals "ValueError" = some none)
    (v_ValueError : PySem.W.findCls K (.type "ValueError") (.type "type") "__init__" = some (.val (.builtin "ValueError.__init__")))
    (z_isinstance : PySem.W.nsIn K mainGlobals "isinstance" = some none)
    (z_int : PySem.W.nsIn K mainGlobals "int" = some none)
    (z_bool : PySem.W.nsIn K mainGlobals "bool" = some none)
    (z_all : PySem.W.nsIn K mainGlobals "all" = some none)
    (z_tuple : PySem.W.nsIn K mainGlobals "tuple" = some none)
    (z_len : PySem.W.nsIn K mainGlobals "len" = some none)
    (z_str : PySem.W.nsIn K mainGlobals "str" = some none)
    (z_enumerate : PySem.W.nsIn K mainGlobals "enumerate" = some none)
    (z_range : PySem.W.nsIn K mainGlobals "range" = some none)
    (z_sum : PySem.W.nsIn K mainGlobals "sum" = some none)
    (z_list : PySem.W.nsIn K mainGlobals "list" = some none)
    (z_zip : PySem.W.nsIn K mainGlobals "zip" = some none)
    (z_any : PySem.W.nsIn K mainGlobals "any" = some none)
    (z_repr : PySem.W.nsIn K mainGlobals "repr" = some none)
    (z_min : PySem.W.nsIn K mainGlobals "min" = some none)
    (g_MOST_LOOPS : PySem.W.nsIn K mainGlobals "MOST_LOOPS" = some (some (.int 6 tk_MOST_LOOPS)))
    (g_MOST_THINGS : PySem.W.nsIn K mainGlobals "MOST_THINGS" = some (some (.int 64 tk_MOST_THINGS)))
    (g_MOST_LENGTHS_spans : PySem.W.nsIn K mainGlobals "MOST_LENGTHS_spans" = some (some (.int 6 tk_MOST_LENGTHS_spans)))
    (g_MOST_LENGTH_spans : PySem.W.nsIn K mainGlobals "MOST_LENGTH_spans" = some (some (.int 64 tk_MOST_LENGTH_spans)))
    (g_MOST_LENGTHS_fits : PySem.W.nsIn K mainGlobals "MOST_LENGTHS_fits" = some (some (.int 4 tk_MOST_LENGTHS_fits)))
    (g_MOST_LENGTH_fits : PySem.W.nsIn K mainGlobals "MOST_LENGTH_fits" = some (some (.int 24 tk_MOST_LENGTH_fits)))
    (g_MOST_SAMPLES : PySem.W.nsIn K mainGlobals "MOST_SAMPLES" = some (some (.int 200 tk_MOST_SAMPLES)))
    : ∃ fd : FuncData, (∀ (s : Shared) (v : Value), BindsTo s fd ⟨[v], []⟩ [("script", v)]) ∧
      ∀ base : Heap, K.In base → base.Ns mainGlobals mg → FnG P w K mg base 23 fa fd ["script"] (sp_law K) := by
  have e := hfa.symm.trans (PySem.W.mg_of X G a54)
  cases e
  have F0 := fun_mk (st := s_is_whole) l0 c0 k0
  have b0 := F0.binds (ps := ["thing"]) fun _ _ _ _ _ _ us hl => match us, hl with | [_], _ => rfl
  have F1 := fun_mk (st := s_are_samples) l1 c1 k1
  have b1 := F1.binds (ps := ["thing", "many"]) fun _ _ _ _ _ _ us hl => match us, hl with | [_, _], _ => rfl
  have F2 := fun_mk (st := s_are_at_most) l2 c2 k2
  have b2 := F2.binds (ps := ["thing", "most"]) fun _ _ _ _ _ _ us hl => match us, hl with | [_, _], _ => rfl
  have F3 := fun_mk (st := s_begins) l3 c3 k3
  have b3 := F3.binds (ps := ["paper", "word", "many"]) fun _ _ _ _ _ _ us hl => match us, hl with | [_, _, _], _ => rfl
  have F4 := fun_mk (st := s_is_tick) l4 c4 k4
  have b4 := F4.binds (ps := ["thing"]) fun _ _ _ _ _ _ us hl => match us, hl with | [_], _ => rfl
  have F5 := fun_mk (st := s_need_tick) l5 c5 k5
  have b5 := F5.binds (ps := ["thing"]) fun _ _ _ _ _ _ us hl => match us, hl with | [_], _ => rfl
  have F6 := fun_mk (st := s_need_many) l6 c6 k6
  have b6 := F6.binds (ps := ["thing"]) fun _ _ _ _ _ _ us hl => match us, hl with | [_], _ => rfl
  have F7 := fun_mk (st := s_need_loops) l7 c7 k7
  have b7 := F7.binds (ps := ["thing"]) fun _ _ _ _ _ _ us hl => match us, hl with | [_], _ => rfl
  have F8 := fun_mk (st := s_lengths_of) l8 c8 k8
  have b8 := F8.binds (ps := ["loops"]) fun _ _ _ _ _ _ us hl => match us, hl with | [_], _ => rfl
  have F9 := fun_mk (st := s_heard) l9 c9 k9
  have b9 := F9.binds (ps := ["loops", "tick"]) fun _ _ _ _ _ _ us hl => match us, hl with | [_, _], _ => rfl
  have F10 := fun_mk (st := s_heard_row) l10 c10 k10
  have b10 := F10.binds (ps := ["loops", "tick", "many"]) fun _ _ _ _ _ _ us hl => match us, hl with | [_, _, _], _ => rfl
  have F11 := fun_mk (st := s_later) l11 c11 k11
  have b11 := F11.binds (ps := ["loops", "ticks"]) fun _ _ _ _ _ _ us hl => match us, hl with | [_, _], _ => rfl
  have F12 := fun_mk (st := s_sum_at) l12 c12 k12
  have b12 := F12.binds (ps := ["loops", "tick"]) fun _ _ _ _ _ _ us hl => match us, hl with | [_, _], _ => rfl
  have F13 := fun_mk (st := s_begun_at) l13 c13 k13
  have b13 := F13.binds (ps := ["loop", "index"]) fun _ _ _ _ _ _ us hl => match us, hl with | [_, _], _ => rfl
  have F14 := fun_mk (st := s_need_lengths) l14 c14 k14
  have b14 := F14.binds (ps := ["thing"]) fun _ _ _ _ _ _ us hl => match us, hl with | [_], _ => rfl
  have F15 := fun_mk (st := s_span) l15 c15 k15
  have b15 := F15.binds (ps := ["lengths"]) fun _ _ _ _ _ _ us hl => match us, hl with | [_], _ => rfl
  have F16 := fun_mk (st := s_weights) l16 c16 k16
  have b16 := F16.binds (ps := ["lengths"]) fun _ _ _ _ _ _ us hl => match us, hl with | [_], _ => rfl
  have F17 := fun_mk (st := s_carried) l17 c17 k17
  have b17 := F17.binds (ps := ["lengths", "row", "many"]) fun _ _ _ _ _ _ us hl => match us, hl with | [_, _, _], _ => rfl
  have F18 := fun_mk (st := s_weighted) l18 c18 k18
  have b18 := F18.binds (ps := ["factors", "samples"]) fun _ _ _ _ _ _ us hl => match us, hl with | [_, _], _ => rfl
  have F19 := fun_mk (st := s_common_divisor) l19 c19 k19
  have b19 := F19.binds (ps := ["one", "other"]) fun _ _ _ _ _ _ us hl => match us, hl with | [_, _], _ => rfl
  have F20 := fun_mk (st := s_common_multiple) l20 c20 k20
  have b20 := F20.binds (ps := ["lengths"]) fun _ _ _ _ _ _ us hl => match us, hl with | [_], _ => rfl
  have F21 := fun_mk (st := s_ring_powers) l21 c21 k21
  have b21 := F21.binds (ps := ["lengths"]) fun _ _ _ _ _ _ us hl => match us, hl with | [_], _ => rfl
  have F22 := fun_mk (st := s_times_ring) l22 c22 k22
  have b22 := F22.binds (ps := ["product", "length"]) fun _ _ _ _ _ _ us hl => match us, hl with | [_, _], _ => rfl
  have F23 := fun_mk (st := s_over_ring) l23 c23 k23
  have b23 := F23.binds (ps := ["product", "length"]) fun _ _ _ _ _ _ us hl => match us, hl with | [_, _], _ => rfl
  have F24 := fun_mk (st := s_first_apart) l24 c24 k24
  have b24 := F24.binds (ps := ["one", "other"]) fun _ _ _ _ _ _ us hl => match us, hl with | [_, _], _ => rfl
  have F25 := fun_mk (st := s_period) l25 c25 k25
  have b25 := F25.binds (ps := ["loops"]) fun _ _ _ _ _ _ us hl => match us, hl with | [_], _ => rfl
  have F26 := fun_mk (st := s_silent) l26 c26 k26
  have b26 := F26.binds (ps := ["loops"]) fun _ _ _ _ _ _ us hl => match us, hl with | [_], _ => rfl
  have F27 := fun_mk (st := s_parted_at) l27 c27 k27
  have b27 := F27.binds (ps := ["one", "other"]) fun _ _ _ _ _ _ us hl => match us, hl with | [_, _], _ => rfl
  have F28 := fun_mk (st := s_leads_round) l28 c28 k28
  have b28 := F28.binds (ps := ["loops", "ticks"]) fun _ _ _ _ _ _ us hl => match us, hl with | [_, _], _ => rfl
  have F29 := fun_mk (st := s_fit) l29 c29 k29
  have b29 := F29.binds (ps := ["lengths", "row"]) fun _ _ _ _ _ _ us hl => match us, hl with | [_, _], _ => rfl
  have F30 := fun_mk (st := s_check_fit) l30 c30 k30
  have b30 := F30.binds (ps := ["lengths", "row", "paper"]) fun _ _ _ _ _ _ us hl => match us, hl with | [_, _, _], _ => rfl
  have F31 := fun_mk (st := s_deceiver) l31 c31 k31
  have b31 := F31.binds (ps := ["lengths"]) fun _ _ _ _ _ _ us hl => match us, hl with | [_], _ => rfl
  have F32 := fun_mk (st := s_need_few) l32 c32 k32
  have b32 := F32.binds (ps := ["lengths"]) fun _ _ _ _ _ _ us hl => match us, hl with | [_], _ => rfl
  have F33 := fun_mk (st := s_need_samples) l33 c33 k33
  have b33 := F33.binds (ps := ["row"]) fun _ _ _ _ _ _ us hl => match us, hl with | [_], _ => rfl
  have F34 := fun_mk (st := s_first_ground) l34 c34 k34
  have b34 := F34.binds (ps := ["known", "row"]) fun _ _ _ _ _ _ us hl => match us, hl with | [_, _], _ => rfl
  have F35 := fun_mk (st := s_is_ground) l35 c35 k35
  have b35 := F35.binds (ps := ["lengths", "row", "ground"]) fun _ _ _ _ _ _ us hl => match us, hl with | [_, _, _], _ => rfl
  have F36 := fun_mk (st := s_are_heard_as) l36 c36 k36
  have b36 := F36.binds (ps := ["lengths", "row", "loops"]) fun _ _ _ _ _ _ us hl => match us, hl with | [_, _, _], _ => rfl
  have F37 := fun_mk (st := s_loops_heard_as) l37 c37 k37
  have b37 := F37.binds (ps := ["lengths", "row"]) fun _ _ _ _ _ _ us hl => match us, hl with | [_, _], _ => rfl
  have F38 := fun_mk (st := s_mixed) l38 c38 k38
  have b38 := F38.binds (ps := ["loop", "factors"]) fun _ _ _ _ _ _ us hl => match us, hl with | [_, _], _ => rfl
  have F39 := fun_mk (st := s_deceiver_of) l39 c39 k39
  have b39 := F39.binds (ps := ["lengths"]) fun _ _ _ _ _ _ us hl => match us, hl with | [_], _ => rfl
  have F40 := fun_mk (st := s_last_loop) l40 c40 k40
  have b40 := F40.binds (ps := ["lengths"]) fun _ _ _ _ _ _ us hl => match us, hl with | [_], _ => rfl
  have F41 := fun_mk (st := s_strides) l41 c41 k41
  have b41 := F41.binds (ps := ["loop", "step", "many"]) fun _ _ _ _ _ _ us hl => match us, hl with | [_, _, _], _ => rfl
  have F42 := fun_mk (st := s_strides_to) l42 c42 k42
  have b42 := F42.binds (ps := ["step", "place", "length"]) fun _ _ _ _ _ _ us hl => match us, hl with | [_, _, _], _ => rfl
  have F43 := fun_mk (st := s_meeting) l43 c43 k43
  have b43 := F43.binds (ps := ["lengths", "places"]) fun _ _ _ _ _ _ us hl => match us, hl with | [_, _], _ => rfl
  have F44 := fun_mk (st := s_check_meeting) l44 c44 k44
  have b44 := F44.binds (ps := ["lengths", "places", "paper"]) fun _ _ _ _ _ _ us hl => match us, hl with | [_, _, _], _ => rfl
  have F45 := fun_mk (st := s_need_places) l45 c45 k45
  have b45 := F45.binds (ps := ["lengths", "places"]) fun _ _ _ _ _ _ us hl => match us, hl with | [_, _], _ => rfl
  have F46 := fun_mk (st := s_never_meet) l46 c46 k46
  have b46 := F46.binds (ps := ["lengths", "places", "one", "other"]) fun _ _ _ _ _ _ us hl => match us, hl with | [_, _, _, _], _ => rfl
  have F47 := fun_mk (st := s_first_meeting) l47 c47 k47
  have b47 := F47.binds (ps := ["lengths", "places"]) fun _ _ _ _ _ _ us hl => match us, hl with | [_, _], _ => rfl
  have F48 := fun_mk (st := s_is_first_meeting) l48 c48 k48
  have b48 := F48.binds (ps := ["lengths", "places", "tick"]) fun _ _ _ _ _ _ us hl => match us, hl with | [_, _, _], _ => rfl
  have F49 := fun_mk (st := s__law_begun) l49 c49 k49
  have b49 := F49.binds (ps := ["script"]) fun _ _ _ _ _ _ us hl => match us, hl with | [_], _ => rfl
  have F50 := fun_mk (st := s__law_next) l50 c50 k50
  have b50 := F50.binds (ps := ["m", "limit"]) fun _ _ _ _ _ _ us hl => match us, hl with | [_, _], _ => rfl
  have F51 := fun_mk (st := s__law_drawn) l51 c51 k51
  have b51 := F51.binds (ps := ["m", "sizes"]) fun _ _ _ _ _ _ us hl => match us, hl with | [_, _], _ => rfl
  have F52 := fun_mk (st := s__law_loops_right) l52 c52 k52
  have b52 := F52.binds (ps := ["g", "h", "t"]) fun _ _ _ _ _ _ us hl => match us, hl with | [_, _, _], _ => rfl
  have F53 := fun_mk (st := s__law_lengths_right) l53 c53 k53
  have b53 := F53.binds (ps := ["s", "r", "p"]) fun _ _ _ _ _ _ us hl => match us, hl with | [_, _, _], _ => rfl
  have F54 := fun_mk (st := s_law) l54 c54 k54
  have b54 := F54.binds (ps := ["script"]) fun _ _ _ _ _ _ us hl => match us, hl with | [_], _ => rfl
  have Fi_BadLoops := fun_mk (st := s_BadLoops_init) li_BadLoops ci_BadLoops ki_BadLoops
  have bi_BadLoops := Fi_BadLoops.binds (ps := ["self", "place"]) fun _ _ _ _ _ _ us hl => match us, hl with | [_, _], _ => rfl
  refine ⟨PySem.W.fnOf "law" "law" (defArgs s_law) (defBody s_law) (defScope s_law) .none kV54 dc54 pm54 an54 cd54 ct54, fun s v => .of_eq rfl, fun base _ _ => ?_⟩
  let T : Top K mg := {
      a_is_whole := f0
      d_is_whole := _
      F_is_whole := F0
      m_is_whole := PySem.W.mg_of X G a0
      b_is_whole := b0
      a_are_samples := f1
      d_are_samples := _
      F_are_samples := F1
      m_are_samples := PySem.W.mg_of X G a1
      b_are_samples := b1
      a_are_at_most := f2
      d_are_at_most := _
      F_are_at_most := F2
      m_are_at_most := PySem.W.mg_of X G a2
      b_are_at_most := b2
      a_begins := f3
      d_begins := _
      F_begins := F3
      m_begins := PySem.W.mg_of X G a3
      b_begins := b3
      a_is_tick := f4
      d_is_tick := _
      F_is_tick := F4
      m_is_tick := PySem.W.mg_of X G a4
      b_is_tick := b4
      a_need_tick := f5
      d_need_tick := _
      F_need_tick := F5
      m_need_tick := PySem.W.mg_of X G a5
      b_need_tick := b5
      a_need_many := f6
      d_need_many := _
      F_need_many := F6
      m_need_many := PySem.W.mg_of X G a6
      b_need_many := b6
      a_need_loops := f7
      d_need_loops := _
      F_need_loops := F7
      m_need_loops := PySem.W.mg_of X G a7
      b_need_loops := b7
      a_lengths_of := f8
      d_lengths_of := _
      F_lengths_of := F8
      m_lengths_of := PySem.W.mg_of X G a8
      b_lengths_of := b8
      a_heard := f9
      d_heard := _
      F_heard := F9
      m_heard := PySem.W.mg_of X G a9
      b_heard := b9
      a_heard_row := f10
      d_heard_row := _
      F_heard_row := F10
      m_heard_row := PySem.W.mg_of X G a10
      b_heard_row := b10
      a_later := f11
      d_later := _
      F_later := F11
      m_later := PySem.W.mg_of X G a11
      b_later := b11
      a_sum_at := f12
      d_sum_at := _
      F_sum_at := F12
      m_sum_at := PySem.W.mg_of X G a12
      b_sum_at := b12
      a_begun_at := f13
      d_begun_at := _
      F_begun_at := F13
      m_begun_at := PySem.W.mg_of X G a13
      b_begun_at := b13
      a_need_lengths := f14
      d_need_lengths := _
      F_need_lengths := F14
      m_need_lengths := PySem.W.mg_of X G a14
      b_need_lengths := b14
      a_span := f15
      d_span := _
      F_span := F15
      m_span := PySem.W.mg_of X G a15
      b_span := b15
      a_weights := f16
      d_weights := _
      F_weights := F16
      m_weights := PySem.W.mg_of X G a16
      b_weights := b16
      a_carried := f17
      d_carried := _
      F_carried := F17
      m_carried := PySem.W.mg_of X G a17
      b_carried := b17
      a_weighted := f18
      d_weighted := _
      F_weighted := F18
      m_weighted := PySem.W.mg_of X G a18
      b_weighted := b18
      a_common_divisor := f19
      d_common_divisor := _
      F_common_divisor := F19
      m_common_divisor := PySem.W.mg_of X G a19
      b_common_divisor := b19
      a_common_multiple := f20
      d_common_multiple := _
      F_common_multiple := F20
      m_common_multiple := PySem.W.mg_of X G a20
      b_common_multiple := b20
      a_ring_powers := f21
      d_ring_powers := _
      F_ring_powers := F21
      m_ring_powers := PySem.W.mg_of X G a21
      b_ring_powers := b21
      a_times_ring := f22
      d_times_ring := _
      F_times_ring := F22
      m_times_ring := PySem.W.mg_of X G a22
      b_times_ring := b22
      a_over_ring := f23
      d_over_ring := _
      F_over_ring := F23
      m_over_ring := PySem.W.mg_of X G a23
      b_over_ring := b23
      a_first_apart := f24
      d_first_apart := _
      F_first_apart := F24
      m_first_apart := PySem.W.mg_of X G a24
      b_first_apart := b24
      a_period := f25
      d_period := _
      F_period := F25
      m_period := PySem.W.mg_of X G a25
      b_period := b25
      a_silent := f26
      d_silent := _
      F_silent := F26
      m_silent := PySem.W.mg_of X G a26
      b_silent := b26
      a_parted_at := f27
      d_parted_at := _
      F_parted_at := F27
      m_parted_at := PySem.W.mg_of X G a27
      b_parted_at := b27
      a_leads_round := f28
      d_leads_round := _
      F_leads_round := F28
      m_leads_round := PySem.W.mg_of X G a28
      b_leads_round := b28
      a_fit := f29
      d_fit := _
      F_fit := F29
      m_fit := PySem.W.mg_of X G a29
      b_fit := b29
      a_check_fit := f30
      d_check_fit := _
      F_check_fit := F30
      m_check_fit := PySem.W.mg_of X G a30
      b_check_fit := b30
      a_deceiver := f31
      d_deceiver := _
      F_deceiver := F31
      m_deceiver := PySem.W.mg_of X G a31
      b_deceiver := b31
      a_need_few := f32
      d_need_few := _
      F_need_few := F32
      m_need_few := PySem.W.mg_of X G a32
      b_need_few := b32
      a_need_samples := f33
      d_need_samples := _
      F_need_samples := F33
      m_need_samples := PySem.W.mg_of X G a33
      b_need_samples := b33
      a_first_ground := f34
      d_first_ground := _
      F_first_ground := F34
      m_first_ground := PySem.W.mg_of X G a34
      b_first_ground := b34
      a_is_ground := f35
      d_is_ground := _
      F_is_ground := F35
      m_is_ground := PySem.W.mg_of X G a35
      b_is_ground := b35
      a_are_heard_as := f36
      d_are_heard_as := _
      F_are_heard_as := F36
      m_are_heard_as := PySem.W.mg_of X G a36
      b_are_heard_as := b36
      a_loops_heard_as := f37
      d_loops_heard_as := _
      F_loops_heard_as := F37
      m_loops_heard_as := PySem.W.mg_of X G a37
      b_loops_heard_as := b37
      a_mixed := f38
      d_mixed := _
      F_mixed := F38
      m_mixed := PySem.W.mg_of X G a38
      b_mixed := b38
      a_deceiver_of := f39
      d_deceiver_of := _
      F_deceiver_of := F39
      m_deceiver_of := PySem.W.mg_of X G a39
      b_deceiver_of := b39
      a_last_loop := f40
      d_last_loop := _
      F_last_loop := F40
      m_last_loop := PySem.W.mg_of X G a40
      b_last_loop := b40
      a_strides := f41
      d_strides := _
      F_strides := F41
      m_strides := PySem.W.mg_of X G a41
      b_strides := b41
      a_strides_to := f42
      d_strides_to := _
      F_strides_to := F42
      m_strides_to := PySem.W.mg_of X G a42
      b_strides_to := b42
      a_meeting := f43
      d_meeting := _
      F_meeting := F43
      m_meeting := PySem.W.mg_of X G a43
      b_meeting := b43
      a_check_meeting := f44
      d_check_meeting := _
      F_check_meeting := F44
      m_check_meeting := PySem.W.mg_of X G a44
      b_check_meeting := b44
      a_need_places := f45
      d_need_places := _
      F_need_places := F45
      m_need_places := PySem.W.mg_of X G a45
      b_need_places := b45
      a_never_meet := f46
      d_never_meet := _
      F_never_meet := F46
      m_never_meet := PySem.W.mg_of X G a46
      b_never_meet := b46
      a_first_meeting := f47
      d_first_meeting := _
      F_first_meeting := F47
      m_first_meeting := PySem.W.mg_of X G a47
      b_first_meeting := b47
      a_is_first_meeting := f48
      d_is_first_meeting := _
      F_is_first_meeting := F48
      m_is_first_meeting := PySem.W.mg_of X G a48
      b_is_first_meeting := b48
      a__law_begun := f49
      d__law_begun := _
      F__law_begun := F49
      m__law_begun := PySem.W.mg_of X G a49
      b__law_begun := b49
      a__law_next := f50
      d__law_next := _
      F__law_next := F50
      m__law_next := PySem.W.mg_of X G a50
      b__law_next := b50
      a__law_drawn := f51
      d__law_drawn := _
      F__law_drawn := F51
      m__law_drawn := PySem.W.mg_of X G a51
      b__law_drawn := b51
      a__law_loops_right := f52
      d__law_loops_right := _
      F__law_loops_right := F52
      m__law_loops_right := PySem.W.mg_of X G a52
      b__law_loops_right := b52
      a__law_lengths_right := f53
      d__law_lengths_right := _
      F__law_lengths_right := F53
      m__law_lengths_right := PySem.W.mg_of X G a53
      b__law_lengths_right := b53
      a_law := fa
      d_law := _
      F_law := F54
      m_law := PySem.W.mg_of X G a54
      b_law := b54
      x_BadLoops := exc_mk X G Fi_BadLoops bi_BadLoops aC_BadLoops xL_BadLoops sa_BadLoops ga_BadLoops gg_BadLoops nb_BadLoops ai_BadLoops ti_BadLoops kC_BadLoops eC_BadLoops tC_BadLoops hC_BadLoops iC_BadLoops sC_BadLoops
      z_ValueError := PySem.W.mg_none_of X G z_ValueError
      v_ValueError := v_ValueError
      z_isinstance := PySem.W.mg_none_of X G z_isinstance
      z_int := PySem.W.mg_none_of X G z_int
      z_bool := PySem.W.mg_none_of X G z_bool
      z_all := PySem.W.mg_none_of X G z_all
      z_tuple := PySem.W.mg_none_of X G z_tuple
      z_len := PySem.W.mg_none_of X G z_len
      z_str := PySem.W.mg_none_of X G z_str
      z_enumerate := PySem.W.mg_none_of X G z_enumerate
      z_range := PySem.W.mg_none_of X G z_range
      z_sum := PySem.W.mg_none_of X G z_sum
      z_list := PySem.W.mg_none_of X G z_list
      z_zip := PySem.W.mg_none_of X G z_zip
      z_any := PySem.W.mg_none_of X G z_any
      z_repr := PySem.W.mg_none_of X G z_repr
      z_min := PySem.W.mg_none_of X G z_min
      t_MOST_LOOPS := tk_MOST_LOOPS
      c_MOST_LOOPS := PySem.W.mg_of X G g_MOST_LOOPS
      t_MOST_THINGS := tk_MOST_THINGS
      c_MOST_THINGS := PySem.W.mg_of X G g_MOST_THINGS
      t_MOST_LENGTHS_spans := tk_MOST_LENGTHS_spans
      c_MOST_LENGTHS_spans := PySem.W.mg_of X G g_MOST_LENGTHS_spans
      t_MOST_LENGTH_spans := tk_MOST_LENGTH_spans
      c_MOST_LENGTH_spans := PySem.W.mg_of X G g_MOST_LENGTH_spans
      t_MOST_LENGTHS_fits := tk_MOST_LENGTHS_fits
      c_MOST_LENGTHS_fits := PySem.W.mg_of X G g_MOST_LENGTHS_fits
      t_MOST_LENGTH_fits := tk_MOST_LENGTH_fits
      c_MOST_LENGTH_fits := PySem.W.mg_of X G g_MOST_LENGTH_fits
      t_MOST_SAMPLES := tk_MOST_SAMPLES
      c_MOST_SAMPLES := PySem.W.mg_of X G g_MOST_SAMPLES }
  exact ok_law T
end My
open PySem PySem.W PyProof.Rows
set_option maxRecDepth 100000 in
set_option maxHeartbeats 0 in
theorem PySem.Challenge.cw_pedalrounds_k27_loops_by_names_holds : PySem.Challenge.rw_pedalrounds_k27_loops_by_names.Holds := by
  w_on; o_law; k_head; (case hw => w_witness2)
  k_fill
  refine L2.my_walk (l := PySem.Challenge.rw_pedalrounds_k27_loops_by_names) (k := 23) (sp := My.sp_law) rfl rfl ⟨rfl, by decide, by decide⟩ (fun w h Y => PySem.W.kIn_of Y) ?F (fun K H a ns hl hS => ⟨a, ns, rfl, hS, hl, fun _ => rfl⟩)
  case F =>
    intro w mg fa h KX G hmg
    refine' My.all_mk KX G hmg ?a0 ?l0 ?c0 ?k0 ?a1 ?l1 ?c1 ?k1 ?a2 ?l2 ?c2 ?k2 ?a3 ?l3 ?c3 ?k3 ?a4 ?l4 ?c4 ?k4 ?a5 ?l5 ?c5 ?k5 ?a6 ?l6 ?c6 ?k6 ?a7 ?l7 ?c7 ?k7 ?a8 ?l8 ?c8 ?k8 ?a9 ?l9 ?c9 ?k9 ?a10 ?l10 ?c10 ?k10 ?a11 ?l11 ?c11 ?k11 ?a12 ?l12 ?c12 ?k12 ?a13 ?l13 ?c13 ?k13 ?a14 ?l14 ?c14 ?k14 ?a15 ?l15 ?c15 ?k15 ?a16 ?l16 ?c16 ?k16 ?a17 ?l17 ?c17 ?k17 ?a18 ?l18 ?c18 ?k18 ?a19 ?l19 ?c19 ?k19 ?a20 ?l20 ?c20 ?k20 ?a21 ?l21 ?c21 ?k21 ?a22 ?l22 ?c22 ?k22 ?a23 ?l23 ?c23 ?k23 ?a24 ?l24 ?c24 ?k24 ?a25 ?l25 ?c25 ?k25 ?a26 ?l26 ?c26 ?k26 ?a27 ?l27 ?c27 ?k27 ?a28 ?l28 ?c28 ?k28 ?a29 ?l29 ?c29 ?k29 ?a30 ?l30 ?c30 ?k30 ?a31 ?l31 ?c31 ?k31 ?a32 ?l32 ?c32 ?k32 ?a33 ?l33 ?c33 ?k33 ?a34 ?l34 ?c34 ?k34 ?a35 ?l35 ?c35 ?k35 ?a36 ?l36 ?c36 ?k36 ?a37 ?l37 ?c37 ?k37 ?a38 ?l38 ?c38 ?k38 ?a39 ?l39 ?c39 ?k39 ?a40 ?l40 ?c40 ?k40 ?a41 ?l41 ?c41 ?k41 ?a42 ?l42 ?c42 ?k42 ?a43 ?l43 ?c43 ?k43 ?a44 ?l44 ?c44 ?k44 ?a45 ?l45 ?c45 ?k45 ?a46 ?l46 ?c46 ?k46 ?a47 ?l47 ?c47 ?k47 ?a48 ?l48 ?c48 ?k48 ?a49 ?l49 ?c49 ?k49 ?a50 ?l50 ?c50 ?k50 ?a51 ?l51 ?c51 ?k51 ?a52 ?l52 ?c52 ?k52 ?a53 ?l53 ?c53 ?k53 ?a54 ?l54 ?c54 ?k54 ?aC_BadLoops ?xL_BadLoops ?sa_BadLoops ?ga_BadLoops ?gg_BadLoops ?nb_BadLoops ?ai_BadLoops ?ti_BadLoops ?kC_BadLoops ?eC_BadLoops ?tC_BadLoops ?hC_BadLoops ?iC_BadLoops ?sC_BadLoops ?ki_BadLoops ?li_BadLoops ?ci_BadLoops ?z_ValueError ?v_ValueError ?z_isinstance ?z_int ?z_bool ?z_all ?z_tuple ?z_len ?z_str ?z_enumerate ?z_range ?z_sum ?z_list ?z_zip ?z_any ?z_repr ?z_min ?g_MOST_LOOPS ?g_MOST_THINGS ?g_MOST_LENGTHS_spans ?g_MOST_LENGTH_spans ?g_MOST_LENGTHS_fits ?g_MOST_LENGTH_fits ?g_MOST_SAMPLES
    (case a0 => k_is)
    (case l0 => k_is)
    (case c0 => k_is)
    (case k0 => k_is)
    (case a1 => k_is)
    (case l1 => k_is)
    (case c1 => k_is)
    (case k1 => k_is)
    (case a2 => k_is)
    (case l2 => k_is)
    (case c2 => k_is)
    (case k2 => k_is)
    (case a3 => k_is)
    (case l3 => k_is)
    (case c3 => k_is)
    (case k3 => k_is)
    (case a4 => k_is)
    (case l4 => k_is)
    (case c4 => k_is)
    (case k4 => k_is)
    (case a5 => k_is)
    (case l5 => k_is)
    (case c5 => k_is)
    (case k5 => k_is)
    (case a6 => k_is)
    (case l6 => k_is)
    (case c6 => k_is)
    (case k6 => k_is)
    (case a7 => k_is)
    (case l7 => k_is)
    (case c7 => k_is)
    (case k7 => k_is)
    (case a8 => k_is)
    (case l8 => k_is)
    (case c8 => k_is)
    (case k8 => k_is)
    (case a9 => k_is)
    (case l9 => k_is)
    (case c9 => k_is)
    (case k9 => k_is)
    (case a10 => k_is)
    (case l10 => k_is)
    (case c10 => k_is)
    (case k10 => k_is)
    (case a11 => k_is)
    (case l11 => k_is)
    (case c11 => k_is)
    (case k11 => k_is)
    (case a12 => k_is)
    (case l12 => k_is)
    (case c12 => k_is)
    (case k12 => k_is)
    (case a13 => k_is)
    (case l13 => k_is)
    (case c13 => k_is)
    (case k13 => k_is)
    (case a14 => k_is)
    (case l14 => k_is)
    (case c14 => k_is)
    (case k14 => k_is)
    (case a15 => k_is)
    (case l15 => k_is)
    (case c15 => k_is)
    (case k15 => k_is)
    (case a16 => k_is)
    (case l16 => k_is)
    (case c16 => k_is)
    (case k16 => k_is)
    (case a17 => k_is)
    (case l17 => k_is)
    (case c17 => k_is)
    (case k17 => k_is)
    (case a18 => k_is)
    (case l18 => k_is)
    (case c18 => k_is)
    (case k18 => k_is)
    (case a19 => k_is)
    (case l19 => k_is)
    (case c19 => k_is)
    (case k19 => k_is)
    (case a20 => k_is)
    (case l20 => k_is)
    (case c20 => k_is)
    (case k20 => k_is)
    (case a21 => k_is)
    (case l21 => k_is)
    (case c21 => k_is)
    (case k21 => k_is)
    (case a22 => k_is)
    (case l22 => k_is)
    (case c22 => k_is)
    (case k22 => k_is)
    (case a23 => k_is)
    (case l23 => k_is)
    (case c23 => k_is)
    (case k23 => k_is)
    (case a24 => k_is)
    (case l24 => k_is)
    (case c24 => k_is)
    (case k24 => k_is)
    (case a25 => k_is)
    (case l25 => k_is)
    (case c25 => k_is)
    (case k25 => k_is)
    (case a26 => k_is)
    (case l26 => k_is)
    (case c26 => k_is)
    (case k26 => k_is)
    (case a27 => k_is)
    (case l27 => k_is)
    (case c27 => k_is)
    (case k27 => k_is)
    (case a28 => k_is)
    (case l28 => k_is)
    (case c28 => k_is)
    (case k28 => k_is)
    (case a29 => k_is)
    (case l29 => k_is)
    (case c29 => k_is)
    (case k29 => k_is)
    (case a30 => k_is)
    (case l30 => k_is)
    (case c30 => k_is)
    (case k30 => k_is)
    (case a31 => k_is)
    (case l31 => k_is)
    (case c31 => k_is)
    (case k31 => k_is)
    (case a32 => k_is)
    (case l32 => k_is)
    (case c32 => k_is)
    (case k32 => k_is)
    (case a33 => k_is)
    (case l33 => k_is)
    (case c33 => k_is)
    (case k33 => k_is)
    (case a34 => k_is)
    (case l34 => k_is)
    (case c34 => k_is)
    (case k34 => k_is)
    (case a35 => k_is)
    (case l35 => k_is)
    (case c35 => k_is)
    (case k35 => k_is)
    (case a36 => k_is)
    (case l36 => k_is)
    (case c36 => k_is)
    (case k36 => k_is)
    (case a37 => k_is)
    (case l37 => k_is)
    (case c37 => k_is)
    (case k37 => k_is)
    (case a38 => k_is)
    (case l38 => k_is)
    (case c38 => k_is)
    (case k38 => k_is)
    (case a39 => k_is)
    (case l39 => k_is)
    (case c39 => k_is)
    (case k39 => k_is)
    (case a40 => k_is)
    (case l40 => k_is)
    (case c40 => k_is)
    (case k40 => k_is)
    (case a41 => k_is)
    (case l41 => k_is)
    (case c41 => k_is)
    (case k41 => k_is)
    (case a42 => k_is)
    (case l42 => k_is)
    (case c42 => k_is)
    (case k42 => k_is)
    (case a43 => k_is)
    (case l43 => k_is)
    (case c43 => k_is)
    (case k43 => k_is)
    (case a44 => k_is)
    (case l44 => k_is)
    (case c44 => k_is)
    (case k44 => k_is)
    (case a45 => k_is)
    (case l45 => k_is)
    (case c45 => k_is)
    (case k45 => k_is)
    (case a46 => k_is)
    (case l46 => k_is)
    (case c46 => k_is)
    (case k46 => k_is)
    (case a47 => k_is)
    (case l47 => k_is)
    (case c47 => k_is)
    (case k47 => k_is)
    (case a48 => k_is)
    (case l48 => k_is)
    (case c48 => k_is)
    (case k48 => k_is)
    (case a49 => k_is)
    (case l49 => k_is)
    (case c49 => k_is)
    (case k49 => k_is)
    (case a50 => k_is)
    (case l50 => k_is)
    (case c50 => k_is)
    (case k50 => k_is)
    (case a51 => k_is)
    (case l51 => k_is)
    (case c51 => k_is)
    (case k51 => k_is)
    (case a52 => k_is)
    (case l52 => k_is)
    (case c52 => k_is)
    (case k52 => k_is)
    (case a53 => k_is)
    (case l53 => k_is)
    (case c53 => k_is)
    (case k53 => k_is)
    (case a54 => k_is)
    (case l54 => k_is)
    (case c54 => k_is)
    (case k54 => k_is)
    (case aC_BadLoops => k_is)
    (case xL_BadLoops => k_is)
    (case sa_BadLoops => k_is)
    (case ga_BadLoops => k_is)
    (case gg_BadLoops => k_is)
    (case nb_BadLoops => k_is)
    (case ai_BadLoops => k_is)
    (case ti_BadLoops => k_is)
    (case kC_BadLoops => k_is)
    (case eC_BadLoops => k_is)
    (case tC_BadLoops => k_is)
    (case hC_BadLoops => k_is)
    (case iC_BadLoops => k_is)
    (case sC_BadLoops => first | rfl | k_is)
    (case ki_BadLoops => k_is)
    (case li_BadLoops => k_is)
    (case ci_BadLoops => k_is)
    (case z_ValueError => k_is)
    (case v_ValueError => k_is)
    (case z_isinstance => k_is)
    (case z_int => k_is)
    (case z_bool => k_is)
    (case z_all => k_is)
    (case z_tuple => k_is)
    (case z_len => k_is)
    (case z_str => k_is)
    (case z_enumerate => k_is)
    (case z_range => k_is)
    (case z_sum => k_is)
    (case z_list => k_is)
    (case z_zip => k_is)
    (case z_any => k_is)
    (case z_repr => k_is)
    (case z_min => k_is)
    (case g_MOST_LOOPS => k_is)
    (case g_MOST_THINGS => k_is)
    (case g_MOST_LENGTHS_spans => k_is)
    (case g_MOST_LENGTH_spans => k_is)
    (case g_MOST_LENGTHS_fits => k_is)
    (case g_MOST_LENGTH_fits => k_is)
    (case g_MOST_SAMPLES => k_is)

